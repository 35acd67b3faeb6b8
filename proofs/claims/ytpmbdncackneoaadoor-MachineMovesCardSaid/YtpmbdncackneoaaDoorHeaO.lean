/- What stands where a word says: isObject, object, Text, Kind, Len. -/
import Derived.Test.YtpmbdncackneoaaDoorHeaP
namespace Go.Proofs.YtpmbdncackneoaaDoor
open Go.RowKit HeaM

theorem need_any (k n N : Nat) (w : World) (hn : n ≤ 140737488355328) (hN : Hid (need k n = N)) :
    Calls Tryd.prog 12 #[.int .u8 (k : Int), .int .i64 (n : Int)] w fun e w' => e = .returned (.int .i64 (N : Int)) ∧ w' = w := by
  have h := hN.out
  subst h
  by_cases h3 : k = 3
  · subst h3
    exact (need_text n w hn).mono fun _ _ ⟨a, b⟩ => ⟨a, b.symm⟩
  · exact (need_parts k n w hn h3).mono fun _ _ ⟨a, b⟩ => ⟨a, b.symm⟩
theorem kind_k (x k : Nat) (w : World) (hx : x < 18446744073709551616) (hk : Hid (x % 256 = k)) :
    Calls Tryd.prog 74 #[.int .u64 (x : Int)] w fun e w' => e = .returned (.int .u8 (k : Int)) ∧ w' = w := by
  have h := hk.out
  subst h
  exact (kind_t x w hx).mono fun _ _ ⟨a, b⟩ => ⟨a, b.symm⟩
theorem size_k (x n : Nat) (w : World) (hx : x < 18446744073709551616) (hn : Hid (x / 256 = n)) :
    Calls Tryd.prog 75 #[.int .u64 (x : Int)] w fun e w' => e = .returned (.int .i64 (n : Int)) ∧ w' = w := by
  have h := hn.out
  subst h
  exact (size_t x w hx).mono fun _ _ ⟨a, b⟩ => ⟨a, b.symm⟩

/-- Does an object begin where x says? -/
def isObj (W : List Nat) (F : List Bool) (x : Nat) : Bool := decide (x % 2 = 0) && decide (x / 2 < W.length) && F.getD (x / 2) false

theorem isObj_no {W : List Nat} {F : List Bool} {x : Nat} (h : x % 2 = 1 ∨ W.length ≤ x / 2) : isObj W F x = false := by
  unfold isObj
  rcases h with h | h
  · have : ¬ x % 2 = 0 := by omega
    simp [this]
  · have : ¬ x / 2 < W.length := by omega
    simp [this]

set_option maxHeartbeats 1000000 in
theorem isobject_t (b base q c : Nat) (v1 v2 : Value) (W : List Nat) (F : List Bool) (x : Nat) (w : World) (h : HAt w b base q c v1 v2 W F) (hx : x < 18446744073709551616) (hF : F.length = W.length) (hW : W.length ≤ 1000000000) :
    Calls Tryd.prog 82 #[.pointer (some ⟨b, 0, none⟩), .int .u64 (x : Int)] w fun e w' => e = .returned (.bool (isObj W F x)) ∧ w = w' := by
  obtain ⟨c0, c1, c2, c3⟩ := h.cells
  obtain ⟨o1, k1, hv1, _⟩ := own_slice h.own1
  have H := Lib.hid h
  have hx' : (x : Int) ≤ 18446744073709551615 := by omega
  have hW' : (W.length : Int) ≤ 1000000000 := by omega
  have hN := isnum_t x
  have HN := Lib.hid hN
  clear hN
  by_cases ho : x % 2 = 1
  · have E := Lib.hid (isObj_no (F := F) (W := W) (.inl ho))
    have hb : (x % 2 == 1) = true := by simp [ho]
    clear h ho
    subst hv1
    go_enter Tryd.func82, Tryd.ntmps82
    go_wp2_with fail
    refine (HN.out _ hx).mono ?_
    rw [hb]
    rintro e w' ⟨rfl, rfl⟩
    go_wp2
    go_ret
    exact ⟨by rw [E.out]; rfl, rfl⟩
  · have hb : (x % 2 == 1) = false := by simp; omega
    by_cases hl : x / 2 < W.length
    · -- the mark
      obtain ⟨g, cap, hv2⟩ : ∃ g cap, v2 = .slice (some ⟨g, 0, none⟩) F.length cap := by
        rcases h.own2.2 with ⟨_, hn⟩ | ⟨g, cap, cur, e, _⟩
        · omega
        · exact ⟨g, cap, e⟩
      have hlF : x / 2 < F.length := by omega
      have own2 := h.own2
      rw [hv2] at own2
      have hm : w.cell? ⟨g, x / 2, none⟩ = some (.bool F[x / 2]) := by
        rw [own2.cellAt (x / 2) (by omega)]
        simp [Fs, hlF]
      have E : Hid (isObj W F x = F[x / 2]) := by
        show isObj W F x = F[x / 2]
        have h0 : x % 2 = 0 := by omega
        simp [isObj, h0, hl, hlF]
      have hl0 : (x : Int) / 2 < (W.length : Int) := by omega
      have hl1 : (x : Int) / 2 < (F.length : Int) := by omega
      have hl2 : 0 ≤ (x : Int) / 2 := by omega
      have hl3 : ((x : Int) / 2).toNat = x / 2 := by omega
      generalize F[x / 2] = B at *
      clear h ho own2
      subst hv1 hv2
      go_enter Tryd.func82, Tryd.ntmps82
      go_wp2_with fail
      refine (HN.out _ hx).mono ?_
      rw [hb]
      rintro e w' ⟨rfl, rfl⟩
      go_wp2
      go_ret
      exact ⟨by rw [E.out]; rfl, rfl⟩
    · have E := Lib.hid (isObj_no (F := F) (W := W) (x := x) (.inr (by omega)))
      have hl0 : ¬ (x : Int) / 2 < (W.length : Int) := by omega
      clear h ho
      subst hv1
      go_enter Tryd.func82, Tryd.ntmps82
      go_wp2_with fail
      refine (HN.out _ hx).mono ?_
      rw [hb]
      rintro e w' ⟨rfl, rfl⟩
      go_wp2
      go_ret
      exact ⟨by rw [E.out]; rfl, rfl⟩

/-- An object stands at i: its first word is X, of kind k, with n parts, or bytes; it takes N words. -/
structure ObjAt (W : List Nat) (F : List Bool) (i X k n N : Nat) : Prop where
  mark : F[i]? = some true
  get : W[i]? = some X
  lt : X < 18446744073709551616
  kind : X % 256 = k
  size : X / 256 = n
  need : need k n = N
  fits : i + N ≤ W.length
theorem ObjAt.isObj {W : List Nat} {F : List Bool} {i X k n N : Nat} (h : ObjAt W F i X k n N) : isObj W F (2 * i) = true := by
  have hi : i < W.length := (List.getElem?_eq_some_iff.1 h.get).1
  have e1 : 2 * i % 2 = 0 := by omega
  have e2 : 2 * i / 2 = i := by omega
  unfold Go.Proofs.YtpmbdncackneoaaDoor.isObj
  rw [e1, e2, List.getD_eq_getElem?_getD, h.mark]
  simp [hi]
theorem ObjAt.pos {W : List Nat} {F : List Bool} {i X k n N : Nat} (h : ObjAt W F i X k n N) : 1 ≤ N := by
  rw [← h.need]; unfold Go.Proofs.YtpmbdncackneoaaDoor.need; split <;> omega
theorem ObjAt.small {W : List Nat} {F : List Bool} {i X k n N : Nat} (h : ObjAt W F i X k n N) : n ≤ 8 * W.length := by
  have h1 := h.need
  have h2 := h.fits
  unfold Go.Proofs.YtpmbdncackneoaaDoor.need at h1
  split at h1 <;> omega

def ObjPost (w w' : World) (v1 : Value) (W : List Nat) (i N : Nat) (e : Ending) : Prop :=
  ∃ g cap nq, v1 = .slice (some ⟨g, 0, none⟩) W.length cap ∧ W.length ≤ cap ∧ cap ≤ maxLen ∧ e = .returned (.slice (some ⟨g, i, none⟩) N (cap - i)) ∧ w' = w.drewN nq

set_option maxHeartbeats 2000000 in
set_option maxRecDepth 100000 in
theorem object_t (b base q c : Nat) (v1 v2 : Value) (W : List Nat) (F : List Bool) (i X k n N : Nat) (w : World) (h : HAt w b base q c v1 v2 W F) (hO : ObjAt W F i X k n N) (hF : F.length = W.length) (hW : W.length ≤ 1000000000) :
    Calls Tryd.prog 73 #[.pointer (some ⟨b, 0, none⟩), .int .u64 ((2 * i : Nat) : Int)] w fun e w' => ObjPost w w' v1 W i N e := by
  have hi : i < W.length := (List.getElem?_eq_some_iff.1 hO.get).1
  have hsm := hO.small
  have hpos := hO.pos
  have hfit := hO.fits
  have hXlt := hO.lt
  have HO := Lib.hid (isobject_t b base q c v1 v2 W F (2 * i) w h (by omega) hF hW)
  have HB := Lib.hid hO.isObj
  have HK := Lib.hid hO.kind
  have HS := Lib.hid hO.size
  have HN := Lib.hid hO.need
  obtain ⟨g, cap, hv1, hcap, hmax⟩ : ∃ g cap, v1 = .slice (some ⟨g, 0, none⟩) W.length cap ∧ W.length ≤ cap ∧ cap ≤ maxLen := by
    rcases h.own1.2 with ⟨_, hn⟩ | ⟨g, cap, cur, e, _, _, hc, hm, _⟩
    · omega
    · exact ⟨g, cap, e, hc, hm⟩
  have own1 := h.own1
  rw [hv1] at own1
  have hm : w.cell? ⟨g, i, none⟩ = some (.int .u64 (X : Int)) := by
    rw [own1.cellAt i (by omega)]
    simp [Ws, hO.get, Wv]
  obtain ⟨c0, c1, c2, c3⟩ := h.cells
  clear h hO own1
  have hmax' := hmax
  unfold maxLen at hmax'
  have hX' : (X : Int) ≤ 18446744073709551615 := by omega
  have hi0 : (i : Int) < (W.length : Int) := by omega
  have hdiv : (2 * (i : Int)) / 2 = (i : Int) := by omega
  have hdivn : 2 * i / 2 = i := by omega
  have hic : i ≤ cap := by omega
  have hcap0 : (W.length : Int) ≤ (cap : Int) := by omega
  have hNc : N ≤ cap - i := by omega
  have hNc0 : (N : Int) ≤ (cap : Int) - (i : Int) := by omega
  have hNl : N ≤ W.length - i := by omega
  have hne : ¬ cap = i := by omega
  have fin := fun (nq : Nat) => (show ObjPost w (w.drewN nq) v1 W i N (.returned (.slice (some ⟨g, i, none⟩) N (cap - i))) from ⟨g, cap, nq, hv1, hcap, hmax, rfl, rfl⟩)
  have FIN := Lib.hid fin
  clear fin
  subst hv1
  go_enter Tryd.func73, Tryd.ntmps73
  go_wp2_with fail
  refine HO.out.mono ?_
  rw [HB.out]
  rintro e w' ⟨rfl, rfl⟩
  go_wp2_with fail
  go_quiet (first
    | (go_at_call 74; exact Calls.quiet_of_same (kind_k X k _ hXlt HK))
    | (go_at_call 75; exact Calls.quiet_of_same (size_k X n _ hXlt HS))
    | (go_at_call 12; exact Calls.quiet_of_same (need_any k n N _ (by omega) HN)))
  go_wp2
  go_ret
  exact FIN.out _
end Go.Proofs.YtpmbdncackneoaaDoor
