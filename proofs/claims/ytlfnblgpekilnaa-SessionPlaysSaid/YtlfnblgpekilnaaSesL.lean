/- Sessions: the reference's Load. -/
import Derived.Test.YtlfnblgpekilnaaSesK
namespace Go.Proofs.Ytlfnblgpekilnaa
open Go.RowKit OctM

/-- What the reference's Bytes leaves. -/
structure BPost2 (b : Nat) (w w' : World) (v : Value) (l k : List UInt8) (s : Option (List UInt8)) (e : Ending) : Prop where
  ret : ∃ u, e = .returned u ∧ ∀ W, Rd W v l → Rd W u k
  st : RR w' b v l s
  kept : Kept (own1 (some ⟨b, 0, none⟩)) w w'

set_option maxHeartbeats 2000000 in
set_option maxRecDepth 100000 in
theorem rrbytes2 (b : Nat) (v : Value) (l : List UInt8) (s : Option (List UInt8)) (most : Int) (w : World) (h : RR w b v l s) (hl : l.length ≤ 140737488351232) (m0 : -9223372036854775808 ≤ most) (m1 : most ≤ 9223372036854775807) :
    Calls Try.prog 36 #[.pointer (some ⟨b, 0, none⟩), .int .i64 most] w fun e w' => BPost2 b w w' v l (bytesS s most).1 (bytesS s most).2 e := by
  have H := Lib.hid (rrupto b v l s most w h hl m0 m1)
  have hle := uptoS_le s most m1
  have hl0 : (l.length : Int) ≤ 140737488351232 := by omega
  have HB : Hid (bytesS s most = takeS (uptoS s most).2 (uptoS s most).1) := rfl
  clear h
  generalize (uptoS s most).1 = n at *
  generalize (uptoS s most).2 = r at *
  have hn0 : (0 : Int) ≤ (n : Int) := by omega
  have hn1 : (n : Int) ≤ 9223372036854775807 := by omega
  rcases r with _ | r
  · have HU : Hid (bytesS s most = ([], none)) := HB.out
    go_enter Try.func36, Try.ntmps36
    go_wp2_with fail
    refine H.out.mono ?_
    rintro e w1 ⟨rfl, hst, hk⟩
    obtain ⟨⟨a, hc, ha⟩, hr⟩ := hst
    obtain rfl : a = -1 := by
      rcases ha with ⟨_, ha⟩ | ⟨_, _, _, ha⟩
      · exact ha
      · cases ha
    have R := Lib.hid (rr_reset (s := none) ⟨⟨_, hc, .inl ⟨rfl, rfl⟩⟩, hr⟩)
    have R0 := Lib.hid (RR.mk (s := none) ⟨_, hc, .inl ⟨rfl, rfl⟩⟩ hr)
    have c1 := cell1_of_two hc
    have f1 := free_of_two hc 1
    clear hc hr ha
    go_wp2_with fail
    go_region
    go_wp2_with fail
    go_ret
    rw [HU.out]
    have R2 := rr_reset (R0.out.drew)
    exact ⟨⟨_, rfl, fun _ _ => .inl ⟨rfl, rfl⟩⟩, by first | exact R2.1 | exact R.out.1.drew, by first | exact hk.trans (R.out.2.drew) | exact hk.trans ((Kept.refl _ _).drew.trans R2.2)⟩
  · go_enter Try.func36, Try.ntmps36
    go_wp2_with fail
    refine H.out.mono ?_
    rintro e w1 ⟨rfl, hst, hk⟩
    have HST := Lib.hid hst
    obtain ⟨⟨a, hc, ha⟩, hr⟩ := hst
    obtain ⟨k, rfl, hkl, hrk⟩ : ∃ k : Nat, a = (k : Int) ∧ k ≤ l.length ∧ r = l.drop k := by
      rcases ha with ⟨ha, _⟩ | ⟨k, ha, hkl, hr⟩
      · cases ha
      · injection hr with hr
        exact ⟨k, ha, hkl, hr⟩
    have c0 := cell0_of_two hc
    have c1 := cell1_of_two hc
    have f1 := free_of_two hc 1
    have hlen := lenB' hr.rd
    have HRD := Lib.hid hr.rd
    have hk0 : decide ((k : Int) < 0) = false := by simp
    have hk0' : (0 : Int) ≤ (k : Int) := by omega
    have e1 : Hid (IntKind.i64.wrap ((l.length : Int) - (k : Int)) = (l.length : Int) - (k : Int)) := IntWalk.i64_in _ (by omega)
    have HK := Lib.hid hk
    by_cases hfar : l.length - k < n
    · have HU : Hid (bytesS s most = ([], none)) := by
        show bytesS s most = _
        rw [HB.out, hrk]
        simp [takeS]
        omega
      have hgt : decide ((l.length : Int) - (k : Int) < (n : Int)) = true := by simp; omega
      clear hc hr ha hrk hk
      go_wp2_with fail
      have p1 := e1.out
      go_quiet (fail)
      clear p1
      go_wp2_with fail
      go_ret
      rw [HU.out]
      exact ⟨⟨_, rfl, fun _ _ => .inl ⟨rfl, rfl⟩⟩, (rr_reset (rr_drewN HST.out _)).1, HK.out.trans ((kept_drewN _ _ _).trans (rr_reset (rr_drewN HST.out _)).2)⟩
    · obtain ⟨SV, hsv, hrd⟩ := cutB hr.rd k n (by omega)
      have HU : Hid (bytesS s most = ((l.drop k).take n, some (l.drop (k + n)))) := by
        show bytesS s most = _
        rw [HB.out, hrk, takeS_le (by rw [List.length_drop]; omega), List.drop_drop]
      have hgt : decide ((l.length : Int) - (k : Int) < (n : Int)) = false := by simp; omega
      have HSV := Lib.hid hrd
      have e2 : Hid (IntKind.i64.wrap ((k : Int) + (n : Int)) = (k : Int) + (n : Int)) := IntWalk.i64_in _ (by omega)
      have hkn : (k : Int) + (n : Int) ≤ 140737488351232 := by omega
      have hkn0 : k + n ≤ l.length := by omega
      clear hc hr ha hrk hk hrd
      go_wp2_with fail
      have p1 := e1.out
      go_quiet (fail)
      clear p1
      go_wp2_with fail
      have p2 := e2.out
      go_quiet (fail)
      clear p2
      go_wp2_with fail
      go_ret
      rw [HU.out]
      have R2 := fun m : Nat => rr_move (rr_drewN HST.out m) (k + n) hkn0
      simp only [Int.natCast_add] at R2
      exact ⟨⟨SV, rfl, HSV.out⟩, (R2 _).1, HK.out.trans ((kept_drewN _ _ _).trans (R2 _).2)⟩

theorem rr_init {w W : World} {x : Value} {l : List UInt8} {b : Nat} (h : Rd w x l) (hb : w.heap.size ≤ b) (hc : W.heap[b]? = some (.cells #[x, .int .i64 0] 77 (0, 0))) (hbel : Below w.heap.size w W) : RR W b x l (some l) := by
  refine ⟨⟨0, hc, .inr ⟨0, rfl, Nat.zero_le _, by simp⟩⟩, ?_⟩
  rcases h with ⟨rfl, rfl⟩ | ⟨a, c, rfl, hl, hm, hcs⟩
  · exact .inl (.inl ⟨rfl, rfl⟩)
  · rcases l with _ | ⟨y, t⟩
    · exact .inr ⟨rfl, a, c, rfl, hm⟩
    · obtain ⟨g, off, spot⟩ := a
      have h0 := hcs 0 y rfl
      obtain rfl : spot = none := by simpa [Addr.add] using World.cell?_spot h0
      have hg := World.block_lt_of_cell? w _ h0
      simp only [add_none] at hg
      refine .inl (.inr ⟨g, off, c, rfl, ?_, hl, hm, fun j u hu => ?_⟩)
      · intro a ha
        cases ha
        show b ≠ g
        omega
      · have := (hbel.cell (World.block_lt_of_cell? w _ (hcs j u hu))).trans (hcs j u hu)
        rw [add_none] at this
        exact this

/-- The reference's table, its row alone. -/
structure RTr (w : World) (b base : Nat) (v : Value) (ps : List (Se × Value)) : Prop where
  cell : w.heap[b]? = some (.cells #[v] 29 (0, 0))
  row : w.ownsRow base 63 3 v ps.length (CsS ps)
theorem RTr.kept {S : Nat → Prop} {w w' : World} {b base : Nat} {v : Value} {ps : List (Se × Value)} (h : RTr w b base v ps) (hk : Kept S w w') (hb : base ≤ b) (hS : ∀ k, base ≤ k → k < w.heap.size → ¬ S k) : RTr w' b base v ps :=
  ⟨(hk.block b (lt_of_block h.cell) (hS b hb (lt_of_block h.cell))).trans h.cell, own_kept h.row hk (fun k hk2 => hS k (h.row.lt k hk2).1 (h.row.lt k hk2).2)⟩

/-- What the reference's Load leaves. -/
def RLdP (w : World) (p : List UInt8) (e : Ending) (w' : World) : Prop :=
  Below w.heap.size w w' ∧ match loadS p with
    | none => ∃ q, e = .returned (.tuple #[.pointer q, .bool false])
    | some t => ∃ b base v ps, e = .returned (.tuple #[.pointer (some ⟨b, 0, none⟩), .bool true]) ∧ ps.map Prod.fst = t ∧ RT w' b base v ps
theorem rldp_none {w w' : World} {p : List UInt8} {q : Option Addr} (h : loadS p = none) (hb : Below w.heap.size w w') : RLdP w p (.returned (.tuple #[.pointer q, .bool false])) w' := by
  refine ⟨hb, ?_⟩
  rw [h]
  exact ⟨q, rfl⟩
theorem rldp_some {w w' : World} {p : List UInt8} {t : List Se} {b base : Nat} {v : Value} {ps : List (Se × Value)} (h : loadS p = some t) (hb : Below w.heap.size w w') (hp : ps.map Prod.fst = t) (ht : RT w' b base v ps) : RLdP w p (.returned (.tuple #[.pointer (some ⟨b, 0, none⟩), .bool true])) w' := by
  refine ⟨hb, ?_⟩
  rw [h]
  exact ⟨b, base, v, ps, rfl, hp, ht⟩

/-- Bytes read, whichever of two bounds there is, where there are no more. -/
theorem bytesS_two {s : Option (List UInt8)} (a b : Nat) (h : ∀ r, s = some r → r.length ≤ a ∧ r.length ≤ b) : bytesS s a = bytesS s b := by
  unfold bytesS
  have hu : ∀ m : Nat, (∀ r, s = some r → r.length ≤ m) → takeS (uptoS s m).2 (uptoS s m).1 = takeS (uintS s).2 (uintS s).1 := by
    intro m hm
    unfold uptoS
    split
    · rename_i hc
      rcases hc with hc | hc
      · omega
      · rcases hs : uintS s with ⟨n, q⟩
        rcases q with _ | r
        · have : n = 0 := by have := uintS_bad (s := s) (by rw [hs]); rw [hs] at this; exact this
          rw [hs] at hc
          simp only at hc
          omega
        · have hi := uintS_inv hs
          have h1 := hm _ hi
          rw [hs] at hc
          simp only at hc ⊢
          have h2 : ¬ n ≤ r.length := by
            rw [List.length_append] at h1
            omega
          simp [takeS, h2]
    · rfl
  rw [hu a (fun r hr => (h r hr).1), hu b (fun r hr => (h r hr).2)]
theorem uintS_rest {s : Option (List UInt8)} {m : Nat} (h : ∀ r, s = some r → r.length ≤ m) : ∀ r, (uintS s).2 = some r → r.length ≤ m := by
  intro r hr
  have h1 := h _ (uintS_inv (pairS hr))
  rw [List.length_append] at h1
  omega
theorem bytesS_rest {s : Option (List UInt8)} {m k : Nat} (h : ∀ r, s = some r → r.length ≤ m) : ∀ r, (bytesS s k).2 = some r → r.length ≤ m := by
  intro r hr
  have h1 := h _ (bytesS_inv (pairS hr)).1
  rw [List.length_append] at h1
  omega
end Go.Proofs.Ytlfnblgpekilnaa
