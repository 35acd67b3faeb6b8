/- Tracks, Most; a snapshot in memory of its own; the snapshot of bytes. -/
import Derived.Test.YtonahfpnlaolpaaStoA
import Derived.Test.YtonahfpnlaolpaaDruK
import Derived.Deep.Cut
namespace Go.Proofs.Ytonahfpnlaolpaa
open Go.RowKit OctM

theorem cellk {w : World} {b i : Nat} {cs : Array Value} {t : TypeId} {fr : Nat × Nat} {v : Value} (h : w.heap[b]? = some (.cells cs t fr)) (hv : cs[i]? = some v) : w.cell? ⟨b, i, none⟩ = some v := by simp [World.cell?, h, hv]
theorem kept_of_below {S : Nat → Prop} {w w' : World} (h : Below w.heap.size w w') : Kept S w w' := (Below.kept (S := fun k => w.heap.size ≤ k) h (fun _ h _ => h)).weak (fun k h1 h2 => by omega)
theorem free_of {w : World} {b : Nat} {cs : Array Value} {t : TypeId} (h : w.heap[b]? = some (.cells cs t (0, 0))) (i : Nat) : w.frozen? ⟨b, i, none⟩ = false := by simp [World.frozen?, h]

theorem tracks_any (w : World) {S : Nat → Prop} {D T : Nat} {vn vd : Nat → Value} {d : Dr} (h : DAt w S D T vn vd d) :
    Calls Try.prog 41 #[.pointer (some ⟨D, 0, none⟩)] w fun e w' => e = .returned (.int .i64 (d.n : Int)) ∧ w = w' := by
  obtain ⟨-, c1, -⟩ := h.cells
  clear h
  go_enter Try.func41, Try.ntmps41
  go_wp2
  go_ret
  exact ⟨rfl, rfl⟩

theorem most_any (w : World) {S : Nat → Prop} {D T : Nat} {vn vd : Nat → Value} {d : Dr} (h : DAt w S D T vn vd d) :
    Calls Try.prog 45 #[.pointer (some ⟨D, 0, none⟩)] w fun e w' => e = .returned (.int .i64 (d.most : Int)) ∧ w = w' := by
  obtain ⟨c0, -⟩ := h.cells
  clear h
  go_enter Try.func45, Try.ntmps45
  go_wp2
  go_ret
  exact ⟨rfl, rfl⟩

/-- A snapshot as a value. -/
def snV (s : Sn) (v : Value) : Value := .agg #[.int .u64 (s.ix : Int), .int .u64 (s.tm : Int), v]

/-- A snapshot told, its bytes in memory of its own. -/
def SnP (w : World) (s : Sn) (e : Ending) (w' : World) : Prop := ∃ v, e = .returned (snV s v) ∧ Own w' w.heap.size v s.dat ∧ Below w.heap.size w w'

set_option maxHeartbeats 4000000 in
set_option maxRecDepth 100000 in
theorem fromBytes_any (x : Value) (p : List UInt8) (w : World) (h : Rd w x p) (hl : p.length ≤ 100000000) :
    Calls Try.prog 49 #[x] w (SnP w (rdS p)) := by
  have hb0 : Below w.heap.size w (w.alloc (.cells #[.int .u64 0, .int .u64 0, .slice none 0 0] 55)) := (Below.refl _ _).alloc (Nat.le_refl _) _
  have hz0 := heap_alloc_new w (.cells #[.int .u64 0, .int .u64 0, .slice none 0 0] 55)
  have H1 := Lib.hid (openC x p _ (h.below hb0) (by omega))
  have hlen := openS_len p
  have hfull : ∀ (e : Ending) (W : World) (v : Value), (openS p).2 = 0 → (rd3 (openS p).1).2 = some [] → e = .returned (snV (rd3 (openS p).1).1 v) → Own W w.heap.size v (rd3 (openS p).1).1.dat → Below w.heap.size w W → SnP w (rdS p) e W := by
    intro e W v a b c d f
    have : rdS p = (rd3 (openS p).1).1 := by unfold rdS; rw [if_neg (by rw [a]; simp), if_pos b]
    exact ⟨v, by rw [c, this], by rw [this]; exact d, f⟩
  have hnone : ∀ (e : Ending) (W : World), ((openS p).2 ≠ 0 ∨ (rd3 (openS p).1).2 ≠ some []) → e = .returned (snV zs (.slice none 0 0)) → Below w.heap.size w W → SnP w (rdS p) e W := by
    intro e W a c f
    have : rdS p = zs := by
      unfold rdS
      by_cases h1 : (openS p).2 = 0
      · rcases a with a | a
        · exact absurd h1 a
        · rw [if_neg (by rw [h1]; simp), if_neg a]
      · rw [if_pos h1]
    exact ⟨.slice none 0 0, by rw [c, this], by rw [this]; exact World.ownsRow_nil W w.heap.size 5 1, f⟩
  have HF := Lib.hid hfull
  have HN := Lib.hid hnone
  have HB0 := Lib.hid hb0
  have HZ0 := Lib.hid hz0
  clear h hfull hnone hb0 hz0
  go_enter Try.func49, Try.ntmps49
  go_wp2_with fail
  refine H1.out.mono ?_
  rintro e w1 ⟨⟨v1, rfl, hr1⟩, hb1⟩
  generalize hO : (openS p).2 = code at *
  generalize hI : (openS p).1 = inner at *
  have H2 := Lib.hid (newReader v1 inner w1 hr1 (by omega))
  have HB1 := Lib.hid (HB0.out.trans (hb1.mono (by simp)))
  have HZ1 := Lib.hid ((hb1.block w.heap.size (by simp)).trans HZ0.out)
  clear hr1 hb1
  go_wp2_with fail
  refine H2.out.mono ?_
  rintro e w2 ⟨b, rfl, hs2, hb2, hlt2⟩
  have hsz1 := HB1.out.size
  have hwb : w.heap.size < b := by have := lt_of_block HZ1.out; omega
  have HB2 := Lib.hid (HB1.out.trans (hb2.mono hsz1))
  have HZ2 := Lib.hid ((hb2.block w.heap.size (lt_of_block HZ1.out)).trans HZ1.out)
  have H3 := Lib.hid (ruint (some ⟨b, 0, none⟩) (some inner) w2 hs2)
  have hon : ¬ own1 (some ⟨b, 0, none⟩) w.heap.size := by
    rintro ⟨a, ha, hb⟩
    cases ha
    simp at hb
    omega
  have HON := Lib.hid hon
  have hbel : ∀ A B : World, Below w.heap.size w A → Kept (own1 (some ⟨b, 0, none⟩)) A B → Below w.heap.size w B := fun A B h1 h2 =>
    h1.trans (h2.below h1.size (by rintro k ⟨a, ha, rfl⟩; cases ha; show w.heap.size ≤ b; omega))
  have HBEL := Lib.hid hbel
  clear hs2 hb2 hon hbel
  go_wp2_with fail
  refine H3.out.mono ?_
  rintro e w3 ⟨rfl, hs3, hk3⟩
  have HB3 := Lib.hid (HBEL.out _ _ HB2.out hk3)
  have HZ3 := Lib.hid ((hk3.block w.heap.size (lt_of_block HZ2.out) HON.out).trans HZ2.out)
  have H4 := Lib.hid (ruint _ _ w3 hs3)
  have HR3 : Hid (rd3 inner = (⟨(uintS (some inner)).1, (uintS (uintS (some inner)).2).1, (bytesS (uintS (uintS (some inner)).2).2 1048576).1⟩, (bytesS (uintS (uintS (some inner)).2).2 1048576).2)) := rfl
  have hblen := rd3_len inner
  rw [HR3.out] at hblen
  dsimp only at hblen
  clear hs3 hk3
  generalize (uintS (some inner)).1 = N1 at *
  generalize (uintS (some inner)).2 = s1 at *
  go_wp2_with fail
  refine H4.out.mono ?_
  rintro e w4 ⟨rfl, hs4, hk4⟩
  have HB4 := Lib.hid (HBEL.out _ _ HB3.out hk4)
  have HZ4 := Lib.hid ((hk4.block w.heap.size (lt_of_block HZ3.out) HON.out).trans HZ3.out)
  have H5 := Lib.hid (rbytes _ _ 1048576 w4 hs4 (by omega) (by omega) (by omega))
  clear hs4 hk4 hblen
  generalize (uintS s1).1 = N2 at *
  generalize (uintS s1).2 = s2 at *
  go_wp2_with fail
  refine H5.out.mono ?_
  rintro e w5 ⟨v5, rfl, ho5, hs5, hk5⟩
  have HB5 := Lib.hid (HBEL.out _ _ HB4.out hk5)
  have HZ5 := Lib.hid ((hk5.block w.heap.size (lt_of_block HZ4.out) HON.out).trans HZ4.out)
  generalize (bytesS s2 1048576).1 = D5 at *
  generalize (bytesS s2 1048576).2 = s5 at *
  obtain ⟨o5, c5, rfl, -, -⟩ := own_slice ho5
  have HNE : Hid ((Value.slice o5 D5.length c5).ownBlock ≠ some w.heap.size) := fun e => by have h1 := (ho5.lt _ e).1; have h2 := lt_of_block HZ4.out; omega
  have hsz5 := HB5.out.size
  have hz5 := lt_of_block HZ5.out
  have hb6 : Below w5.heap.size w5 (w5.alloc (.cells #[.int .u64 (N1 : Int), .int .u64 (N2 : Int), .slice o5 D5.length c5] 55)) := (Below.refl _ _).alloc (Nat.le_refl _) _
  have H6 := Lib.hid (rend _ _ _ (hs5.below hb6))
  have HO6 := Lib.hid (own_below (own_base ho5 (by have := HB4.out.size; omega : w.heap.size ≤ w4.heap.size)) hb6 (Nat.le_refl _))
  have HB6 := Lib.hid (HB5.out.trans (hb6.mono hsz5))
  have HZ6 := Lib.hid ((hb6.block w.heap.size hz5).trans HZ5.out)
  have hn6 := heap_alloc_new w5 (.cells #[.int .u64 (N1 : Int), .int .u64 (N2 : Int), .slice o5 D5.length c5] 55)
  have c0 := cellk (i := 0) hn6 rfl
  have c1 := cellk (i := 1) hn6 rfl
  have c2 := cellk (i := 2) hn6 rfl
  have z0 := cellk (i := 0) HZ6.out rfl
  have z1 := cellk (i := 1) HZ6.out rfl
  have z2 := cellk (i := 2) HZ6.out rfl
  have f0 := free_of HZ6.out 0
  have f1 := free_of HZ6.out 1
  have f2 := free_of HZ6.out 2
  have hlt6 : w.heap.size < (w5.alloc (.cells #[.int .u64 (N1 : Int), .int .u64 (N2 : Int), .slice o5 D5.length c5] 55)).heap.size := lt_of_block HZ6.out
  have fin : Below w.heap.size w (((((w5.alloc (.cells #[.int .u64 (N1 : Int), .int .u64 (N2 : Int), .slice o5 D5.length c5] 55)).setCell ⟨w.heap.size, 0, none⟩ (.int .u64 (N1 : Int))).setCell ⟨w.heap.size, 1, none⟩ (.int .u64 (N2 : Int))).setCell ⟨w.heap.size, 2, none⟩ (.slice o5 D5.length c5))) := ((HB6.out.setCell (p := ⟨w.heap.size, 0, none⟩) (Nat.le_refl _) _).setCell (p := ⟨w.heap.size, 1, none⟩) (Nat.le_refl _) _).setCell (p := ⟨w.heap.size, 2, none⟩) (Nat.le_refl _) _
  have fin0 : Below w.heap.size w (((((w5.alloc (.cells #[.int .u64 (N1 : Int), .int .u64 (N2 : Int), .slice o5 D5.length c5] 55)).setCell ⟨w.heap.size, 0, none⟩ (.int .u64 0)).setCell ⟨w.heap.size, 1, none⟩ (.int .u64 0)).setCell ⟨w.heap.size, 2, none⟩ (.slice none 0 0))) := ((HB6.out.setCell (p := ⟨w.heap.size, 0, none⟩) (Nat.le_refl _) _).setCell (p := ⟨w.heap.size, 1, none⟩) (Nat.le_refl _) _).setCell (p := ⟨w.heap.size, 2, none⟩) (Nat.le_refl _) _
  have FIN := Lib.hid fin
  have FIN0 := Lib.hid fin0
  have hown : Own (((((w5.alloc (.cells #[.int .u64 (N1 : Int), .int .u64 (N2 : Int), .slice o5 D5.length c5] 55)).setCell ⟨w.heap.size, 0, none⟩ (.int .u64 (N1 : Int))).setCell ⟨w.heap.size, 1, none⟩ (.int .u64 (N2 : Int))).setCell ⟨w.heap.size, 2, none⟩ (.slice o5 D5.length c5))) w.heap.size (.slice o5 D5.length c5) D5 := by
    have hne : (Value.slice o5 D5.length c5).ownBlock ≠ some w.heap.size := fun e => HNE.out e
    exact ownsRow_setCell_other (ownsRow_setCell_other (ownsRow_setCell_other HO6.out hne _) hne _) hne _
  have OWN := Lib.hid hown
  clear fin fin0 hown hb6 hn6 ho5 hs5 hk5
  go_upto_region 4 with fail
  generalize w5.alloc (.cells #[.int .u64 (N1 : Int), .int .u64 (N2 : Int), .slice o5 D5.length c5] 55) = w6 at *
  by_cases hc : code = 0
  · have hc2 : (code != 0) = false := by simp [hc]
    have hc3 : (code == 0) = true := by simp [hc]
    by_cases he : s5 = some []
    · have he2 : (s5 == some []) = true := by simp [he]
      rw [he2] at H6
      clear he2
      go_wp2_with fail
      refine H6.out.mono ?_
      rintro e w' ⟨rfl, rfl⟩
      go_wp2_with fail
      refine bodyPost_ret (v := snV ⟨N1, N2, D5⟩ (.slice o5 D5.length c5)) (by simp [results, Try.results49, go_sem, z0, z1, z2, snV]) rfl ?_
      exact HF.out _ _ _ hc (by rw [HR3.out]; exact he) (by rw [HR3.out]) (by rw [HR3.out]; exact OWN.out) FIN.out
    · have he2 : (s5 == some []) = false := by simp [he]
      rw [he2] at H6
      clear he2
      go_wp2_with fail
      refine H6.out.mono ?_
      rintro e w' ⟨rfl, rfl⟩
      go_wp2_with fail
      refine bodyPost_ret (v := snV zs (.slice none 0 0)) (by simp [results, Try.results49, go_sem, z0, z1, z2, snV, zs]) rfl ?_
      exact HN.out _ _ (.inr (by rw [HR3.out]; exact he)) rfl FIN0.out
  · have hc2 : (code != 0) = true := by simp [hc]
    have hc3 : (code == 0) = false := by simp [hc]
    go_wp2_with fail
    refine bodyPost_ret (v := snV zs (.slice none 0 0)) (by simp [results, Try.results49, go_sem, z0, z1, z2, snV, zs]) rfl ?_
    exact HN.out _ _ (.inl hc) rfl FIN0.out
end Go.Proofs.Ytonahfpnlaolpaa
