/- Put, PutText: with room, behind a collection, or none. -/
import Derived.Test.YtkdhajiplonloaaHeaPc
namespace Go.Proofs.Ytkdhajiplonloaa
open Go.RowKit HeaM

/-- What Put leaves: an object of o(parts), or that there is no room. -/
def PuPost (w wr w' : World) (d q n c : Nat) (W : List Nat) (F : List Bool) (rv pv : Value) (xs ps : List Nat) (v1 v2 : Value) (o : List Nat → List Nat) (e : Ending) : Prop :=
  ∃ W' F' xs' ps' c', Rmd q n W F xs ps c W' F' xs' ps' c' ∧ (∀ x ∈ ps', (x % 2 = 1 ∨ isObj W' F' x = true) ∧ x < 18446744073709551616) ∧
    ((W'.length + n ≤ q ∧ e = .returned (.tuple #[.int .u64 ((2 * W'.length : Nat) : Int), .int .i64 0]) ∧ ∃ u1 u2, PlS w w' d q c' (W' ++ o ps') (F' ++ mks (o ps')) rv xs' u1 u2) ∨
     (q < W'.length + n ∧ e = .returned (.tuple #[.int .u64 0, .int .i64 11]) ∧ ∃ u1 u2, PlS w w' d q c' W' F' rv xs' u1 u2)) ∧
    Kept (Wrt d v1 v2 rv pv) wr w' ∧ Fine W' F' ∧ W'.length ≤ q

theorem Rmd.len {q n c c' : Nat} {W W' : List Nat} {F F' : List Bool} {xs ps xs' ps' : List Nat} (h : Rmd q n W F xs ps c W' F' xs' ps' c') : ps'.length = ps.length ∧ xs'.length = xs.length := by
  rcases h with ⟨_, _, _, rfl, rfl, _⟩ | ⟨_, _, _, rfl, rfl, _⟩
  · exact ⟨rfl, rfl⟩
  · have := colR_length W F (xs ++ ps)
    rw [List.length_append] at this
    rw [List.length_drop, List.length_take]
    omega

/-- The heap behind lay. -/
theorem PlS.laid {w w1 w' : World} {d q c hd : Nat} {W : List Nat} {F : List Bool} {rv v1 v2 u1 u2 : Value} {xs R : List Nat} (h : PlS w w1 d q c W F rv xs v1 v2) (hL : LPost w1 w' d w.heap.size q c v1 v2 u1 u2 (W ++ hd :: R) (F ++ true :: List.replicate R.length false)) (hs : Seg (hd :: R)) (hl : W.length + (R.length + 1) ≤ q) (hq : q ≤ 1048576)
    (hp : hd % 256 ≠ 3 → ∀ x ∈ R, x % 2 = 1 ∨ isObj W F x = true) (hc : hd % 256 = 3 → ∃ t : List UInt8, t.length ≤ 1000000 ∧ hd :: R = enc1 t) : PlS w w' d q c (W ++ hd :: R) (F ++ mks (hd :: R)) rv xs u1 u2 := by
  have e : mks (hd :: R) = true :: List.replicate R.length false := by simp [mks]
  rw [e]
  have hf := h.fine.put hs (by simp; omega) hp hc
  rw [e] at hf
  refine ⟨hL.at_, own_kept h.row hL.kept h.rd, fun j hj hs => ?_, fun j hj => ?_, h.below.trans (hL.kept.below h.below.size h.new), hf, by simp; omega, fun x hx => ⟨(h.fit x hx).1.imp id fun h => isObj_left h _ _, (h.fit x hx).2⟩⟩
  · rcases hL.new j hs with h1 | h1
    · exact h.rd j hj h1
    · have := (h.row.lt j hj).2; omega
  · rcases hL.new j hj with h1 | h1
    · exact h.new j h1
    · have := h.below.size; omega

set_option maxHeartbeats 4000000 in
set_option maxRecDepth 100000 in
theorem hput_t (w wr w1 : World) (d q k c N : Nat) (W : List Nat) (F : List Bool) (rv pv prv : Value) (xs ps : List Nat) (hN : 1 + ps.length = N) (v1 v2 : Value) (h : PlS w wr d q c W F rv xs v1 v2) (hp : PtS w wr d rv pv v1 v2 ps) (hps : ∀ x ∈ ps, (x % 2 = 1 ∨ isObj W F x = true) ∧ x < 18446744073709551616)
    (hk : k = 1 ∨ k = 2 ∨ k = 4 ∨ k = 5 ∨ k = 6) (hc : c ≤ 100000000) (hq : q ≤ 1048576) (hn2 : xs.length + ps.length ≤ 1000000) (hb : Below wr.heap.size wr w1) (hpr : w1.ownsRow wr.heap.size 74 1 prv xs.length ((rsOf rv xs.length).map ptrV)) :
    Calls Try.prog 27 #[.pointer (some ⟨d, 0, none⟩), .int .u8 (k : Int), pv, prv] w1 fun e w' => PuPost w wr w' d q N c W F rv pv xs ps v1 v2 (fun l => (l.length * 256 + k) :: l) e := by
  have HRM := Lib.hid (rm_t w wr w1 d q (1 + ps.length) c W F rv pv prv xs ps v1 v2 h hp hps hc hq hn2 (by omega) hb hpr)
  have hk6 : k ≤ 6 ∧ 1 ≤ k ∧ k ≠ 3 := by omega
  have HKI : Hid (isK k = true) := decide_eq_true (by omega)
  have hk3 : ((k : Int) == 3) = false := by rw [beq_eq_false_iff_ne]; omega
  have hki : (k : Int) ≤ 6 := by omega
  obtain ⟨op, kp, hpv, hkp, hmp⟩ := own_slice hp.row
  have hpl : ps.length ≤ 1000000 := by omega
  have hpi : (ps.length : Int) ≤ 1000000 := by omega
  have HNE : Hid (need k ps.length = N) := by
    show need k ps.length = N
    unfold need
    rw [if_neg hk6.2.2, hN]
  obtain ⟨X, hX⟩ : ∃ X, ps.length * 256 + k = X := ⟨_, rfl⟩
  have HXX := Lib.hid hX
  have HP := Lib.hid hp
  have HPV := Lib.hid hpv
  have HK6 := Lib.hid hk6
  rw [hN] at HRM
  have HN := Lib.hid hN
  clear h hp hps hpr hk hX hN
  subst hpv
  go_enter Try.func27, Try.ntmps27
  go_wp2_with fail
  refine (iskind_yes k _ (by omega) HKI).mono ?_
  rintro e w' ⟨rfl, rfl⟩
  go_wp2_with fail
  refine (need_any k ps.length N _ (by omega) HNE).mono ?_
  rintro e w' ⟨rfl, rfl⟩
  go_wp2_with fail
  refine HRM.out.mono ?_
  rintro e w2 ⟨W', F', xs', ps', c', u1, u2, hRm, rfl, hPl, hPt, hfit, hkept, hnew⟩
  obtain ⟨hl1, hl2⟩ := hRm.len
  by_cases hroom : W'.length + N ≤ q
  · have HD : decide (W'.length + N ≤ q) = true := decide_eq_true hroom
    rw [HD]
    have HRm := Lib.hid hRm
    have HPl := Lib.hid hPl
    have HPt := Lib.hid hPt
    have HFIT := Lib.hid hfit
    have HKEPT := Lib.hid hkept
    have HNEW := Lib.hid hnew
    have hsk : ∀ w', Kept (three d u1 u2) w2 w' → RdW w' (.slice op ps.length kp) ps' := fun w' hk => RdV.of_own (own_kept hPt.row hk fun j hj hs => hPt.rd j hj hs)
    have HLAY := Lib.hid (lay_t d w.heap.size q c' u1 u2 W' F' X (.slice op ps.length kp) ps' w2 hPl.h hPl.below.size hsk (by omega) (by rw [hPl.fine.good.len]; exact Nat.le_refl _))
    have HL1 := Lib.hid hl1
    have HN0 : Hid (N = 1 + ps.length) := HN.out.symm
    clear hRm hPl hPt hfit hkept hnew HD hsk hl1 hl2
    go_wp2_with fail
    refine (head_t' k ps.length _ X (by omega) (by omega) HXX).mono ?_
    rintro e w' ⟨rfl, rfl⟩
    go_wp2_with fail
    refine HLAY.out.mono ?_
    rintro e w3 ⟨rfl, y1, y2, hL, _⟩
    have hfin : PuPost w wr w3 d q N c W F rv (.slice op ps.length kp) xs ps v1 v2 (fun l => (l.length * 256 + k) :: l) (.returned (.tuple #[.int .u64 ((2 * W'.length : Nat) : Int), .int .i64 0])) := by
      have hX' : X = ps'.length * 256 + k := by rw [HL1.out]; exact HXX.out.symm
      have hseg : Seg (X :: ps') := by
        refine ⟨by simp, ?_, ?_, ?_⟩
        · show szX X = _
          unfold szX need
          rw [if_neg (by have := HK6.out; omega)]
          simp
          omega
        · show isK (X % 256) = true
          rw [show X % 256 = k by have := HK6.out; omega]
          exact HKI.out
        · intro x hx
          rcases List.mem_cons.1 hx with rfl | hx
          · have := HL1.out; have := HK6.out; omega
          · exact (HFIT.out x hx).2
      have hPl3 := HPl.out.laid hL hseg (by have := HL1.out; have := HN0.out; omega) hq (fun _ x hx => (HFIT.out x hx).1) (fun h3 => absurd h3 (by have := HK6.out; omega))
      refine ⟨W', F', xs', ps', c', HRm.out, HFIT.out, .inl ⟨hroom, rfl, y1, y2, ?_⟩, ?_, HPl.out.fine, HPl.out.fits⟩
      · simp only
        rw [← hX']
        exact hPl3
      · exact HKEPT.out.step hL.kept fun j hj => (HNEW.out j hj).imp (fun h => .inl h) id
    have FIN := Lib.hid hfin
    clear hL hfin
    go_wp2_with fail
    go_ret2
    exact FIN.out
  · have HD : decide (W'.length + N ≤ q) = false := decide_eq_false hroom
    rw [HD]
    have hfin : PuPost w wr w2 d q N c W F rv (.slice op ps.length kp) xs ps v1 v2 (fun l => (l.length * 256 + k) :: l) (.returned (.tuple #[.int .u64 0, .int .i64 11])) :=
      ⟨W', F', xs', ps', c', hRm, hfit, .inr ⟨by omega, rfl, u1, u2, hPl⟩, hkept, hPl.fine, hPl.fits⟩
    have FIN := Lib.hid hfin
    clear hfin hRm hPl hPt hfit hkept hnew HD hl1 hl2
    go_wp2_with fail
    go_ret2
    exact FIN.out

set_option maxHeartbeats 4000000 in
set_option maxRecDepth 100000 in
theorem hputtext_t (w wr w1 : World) (d q c : Nat) (W : List Nat) (F : List Bool) (rv prv : Value) (s : ByteArray) (xs : List Nat) (v1 v2 : Value) (h : PlS w wr d q c W F rv xs v1 v2) (hs : s.size ≤ 1000000)
    (hc : c ≤ 100000000) (hq : q ≤ 1048576) (hn2 : xs.length ≤ 1000000) (hb : Below wr.heap.size wr w1) (hpr : w1.ownsRow wr.heap.size 74 1 prv xs.length ((rsOf rv xs.length).map ptrV)) :
    Calls Try.prog 21 #[.pointer (some ⟨d, 0, none⟩), .string s, prv] w1 fun e w' => PuPost w wr w' d q (need 3 s.size) c W F rv (.slice none 0 0) xs [] v1 v2 (fun _ => enc1 s.data.toList) e := by
  have hp0 : PtS w wr d rv (.slice none 0 0) v1 v2 [] := ⟨World.ownsRow_nil _ _ _ _, by simp [Value.ownBlock], by simp [Value.ownBlock]⟩
  have hn3 : need 3 s.size ≤ 200000 := by show 1 + (s.size + 7) / 8 ≤ _; omega
  have HRM := Lib.hid (rm_t w wr w1 d q (need 3 s.size) c W F rv (.slice none 0 0) prv xs [] v1 v2 h hp0 (by simp) hc hq (by simpa using hn2) (by omega) hb hpr)
  have hs' : (s.size : Int) ≤ 1000000 := by omega
  obtain ⟨X, hX⟩ : ∃ X, s.size * 256 + 3 = X := ⟨_, rfl⟩
  have HXX := Lib.hid hX
  have hpk : (pk s.data.toList).length = nw s.size := pk_length _
  obtain ⟨N, hN⟩ : ∃ N, need 3 s.size = N := ⟨_, rfl⟩
  have HNT := Lib.hid ((need_text s.size w1 (by omega)))
  have hNW : N = 1 + nw s.size := by rw [← hN]; rfl
  rw [hN] at HRM HNT hn3 ⊢
  have HNW := Lib.hid hNW
  have HPK := Lib.hid hpk
  clear h hp0 hpr hX hpk hN hNW
  go_enter Try.func21, Try.ntmps21
  go_wp2_with fail
  refine HNT.out.mono ?_
  rintro e w' ⟨rfl, rfl⟩
  go_wp2_with fail
  refine HRM.out.mono ?_
  rintro e w2 ⟨W', F', xs', ps', c', u1, u2, hRm, rfl, hPl, hPt, hfit, hkept, hnew⟩
  by_cases hroom : W'.length + N ≤ q
  · have HD : decide (W'.length + N ≤ q) = true := decide_eq_true hroom
    rw [HD]
    have HRm := Lib.hid hRm
    have HPl := Lib.hid hPl
    have HFIT := Lib.hid hfit
    have HKEPT := Lib.hid hkept
    have HNEW := Lib.hid hnew
    clear hRm hPl hPt hfit hkept hnew HD
    go_wp2_with fail
    refine (head_t' 3 s.size _ X (by omega) (by omega) HXX).mono ?_
    rintro e w' ⟨rfl, rfl⟩
    go_wp2_with fail
    refine (packed_t s _ hs).mono ?_
    rintro e w3 ⟨v, rfl, hv, hb3⟩
    have hPl3 := HPl.out.more hb3
    have hsk : ∀ w', Kept (three d u1 u2) w3 w' → RdW w' v (pk s.data.toList) := fun w' hk => RdV.of_own (own_kept hv hk fun j hj hs => by
      have h1 := (hv.lt j hj).1
      have h2 := HPl.out.h.own_lt j hs
      omega)
    have HLAY := Lib.hid (lay_t d w.heap.size q c' u1 u2 W' F' X v (pk s.data.toList) w3 hPl3.h hPl3.below.size hsk (by have := HPK.out; have := hPl3.fits; have := HNW.out; omega) (by rw [hPl3.fine.good.len]; exact Nat.le_refl _))
    have HPl3 := Lib.hid hPl3
    have HB3 := Lib.hid hb3
    clear hv hb3 hPl3 hsk
    go_wp2_with fail
    refine HLAY.out.mono ?_
    rintro e w4 ⟨rfl, y1, y2, hL, _⟩
    have hfin : PuPost w wr w4 d q N c W F rv (.slice none 0 0) xs [] v1 v2 (fun _ => enc1 s.data.toList) (.returned (.tuple #[.int .u64 ((2 * W'.length : Nat) : Int), .int .i64 0])) := by
      have he : X :: pk s.data.toList = enc1 s.data.toList := by rw [← HXX.out]; rfl
      have hseg : Seg (X :: pk s.data.toList) := by rw [he]; exact enc1_seg _ (by show s.size ≤ _; omega)
      have hPl4 := HPl3.out.laid hL hseg (by have := HPK.out; have := HNW.out; omega) hq (fun h3 => absurd (show X % 256 = 3 by have := HXX.out; omega) h3) (fun _ => ⟨_, by show s.size ≤ _; omega, he⟩)
      refine ⟨W', F', xs', ps', c', HRm.out, HFIT.out, .inl ⟨hroom, rfl, y1, y2, ?_⟩, ?_, HPl.out.fine, HPl.out.fits⟩
      · simp only
        rw [← he]
        exact hPl4
      · refine (HKEPT.out.trans (Below.kept (n := w2.heap.size) HB3.out (fun i h1 h2 => by omega))).step hL.kept fun j hj => (HNEW.out j hj).imp (fun h => .inl h) id
    have FIN := Lib.hid hfin
    clear hL hfin
    go_wp2_with fail
    go_ret2
    exact FIN.out
  · have HD : decide (W'.length + N ≤ q) = false := decide_eq_false hroom
    rw [HD]
    have hfin : PuPost w wr w2 d q N c W F rv (.slice none 0 0) xs [] v1 v2 (fun _ => enc1 s.data.toList) (.returned (.tuple #[.int .u64 0, .int .i64 11])) :=
      ⟨W', F', xs', ps', c', hRm, hfit, .inr ⟨by omega, rfl, u1, u2, hPl⟩, hkept, hPl.fine, hPl.fits⟩
    have FIN := Lib.hid hfin
    clear hfin hRm hPl hPt hfit hkept hnew HD
    go_wp2_with fail
    go_ret2
    exact FIN.out
end Go.Proofs.Ytkdhajiplonloaa
