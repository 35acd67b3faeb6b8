/- Open. -/
import Derived.Test.YtonahfpnlaolpaaStoI
namespace Go.Proofs.Ytonahfpnlaolpaa
open Go.RowKit OctM

/-- The store of the tracks 1 and 2. -/
def opened (d : Dr) : Ss := if (rdS (d.tr 1).now).ix < (rdS (d.tr 2).now).ix then ⟨d, 2, 1, rdS (d.tr 2).now⟩ else ⟨d, 1, 2, rdS (d.tr 1).now⟩

/-- What Open leaves. -/
def OpP (w : World) (X : Nat → Prop) (D T : Nat) (s : Ss) (e : Ending) (w' : World) : Prop :=
  ∃ St, e = .returned (.tuple #[.pointer (some ⟨St, 0, none⟩), .int .i64 0]) ∧ SAt w' (Fr X w w') St D T s ∧ Below w.heap.size w w'

theorem Dt.fit {w : World} {X : Nat → Prop} {D T : Nat} {d : Dr} (h : Dt w X D T d) {i : Nat} (hi : i < d.n) : (d.tr i).now.length ≤ 1048576 ∧ d.most ≤ 1048576 := by
  obtain ⟨vn, vd, h1, -⟩ := h
  have := h1.fit i hi
  have := h1.lim
  omega

/-- The store that is built. -/
theorem opened_at {w w' : World} {X : Nat → Prop} {D T now sp : Nat} {d : Dr} {p : List UInt8} {v : Value} {base : Nat} (h : Dt w X D T d) (hX : ∀ k, X k → k < w.heap.size) (hb : Below w.heap.size w w') (ho : Own w' base v (rdS p).dat) (hbase : w.heap.size ≤ base) (hn : now ≤ 1000) (hs : sp ≤ 1000) :
    SAt (w'.alloc (.cells #[.pointer (some ⟨D, 0, none⟩), .int .i64 (now : Int), .int .i64 (sp : Int), .int .u64 ((rdS p).ix : Int), .int .u64 ((rdS p).tm : Int), v] 96)) (Fr X w (w'.alloc (.cells #[.pointer (some ⟨D, 0, none⟩), .int .i64 (now : Int), .int .i64 (sp : Int), .int .u64 ((rdS p).ix : Int), .int .u64 ((rdS p).tm : Int), v] 96))) w'.heap.size D T ⟨d, now, sp, rdS p⟩ := by
  have hsz := hb.size
  have hal : ∀ o : Obj, (w'.alloc o).heap.size = w'.heap.size + 1 := fun o => by simp
  refine ⟨X, v, h.block (fun g hg hl => (Below.heap_alloc _ _ _ (by omega)).trans (hb.block g hl)) (fun _ h => h), heap_alloc_new _ _, own_base (World.ownsRow.alloc ho _) (Nat.zero_le _), fun k hk => .inl hk, .inr ⟨hsz, by rw [hal]; omega⟩, fun hk => by have := hX _ hk; omega, fun k hk => ?_, fun k hk => ?_, rdS_fits p, ⟨hn, hs⟩⟩
  · have := ho.lt k hk
    exact ⟨.inr ⟨by omega, by rw [hal]; omega⟩, fun hx => by have := hX k hx; omega, by omega⟩
  · rcases hk with hk | hk
    · have := hX k hk; rw [hal]; omega
    · exact hk.2

set_option maxHeartbeats 8000000 in
set_option maxRecDepth 100000 in
theorem open_off (w : World) {X : Nat → Prop} {D T : Nat} {d : Dr} (h : Dt w X D T d) (hn : d.n = 3) (hoff : d.off = true) :
    Calls Try.prog 24 #[.pointer (some ⟨D, 0, none⟩), .int .i64 1] w fun e w' => e = .returned (.tuple #[.pointer none, .int .i64 12]) ∧ w = w' := by
  have HT := Lib.hid (dt_tracks w h)
  have HR := Lib.hid (dt_read 1 w h)
  have hc : chk d 1 = 12 := by unfold chk; rw [if_neg (by omega), if_pos hoff]
  rw [hn] at HT
  clear h
  go_enter Try.func24, Try.ntmps24
  go_wp2_with fail
  refine HT.out.mono ?_
  rintro e w' ⟨rfl, rfl⟩
  go_wp2_with fail
  refine HR.out.mono ?_
  rintro e w' (⟨-, rfl, rfl⟩ | ⟨h0, -⟩)
  · rw [hc]
    go_wp2_with fail
    go_ret2
    exact ⟨rfl, rfl⟩
  · rw [hc] at h0; cases h0

set_option maxHeartbeats 8000000 in
set_option maxRecDepth 100000 in
theorem open_on (w : World) {X : Nat → Prop} {D T : Nat} {d : Dr} (h : Dt w X D T d) (hX : ∀ k, X k → k < w.heap.size) (hn : d.n = 3) (hoff : d.off = false) :
    Calls Try.prog 24 #[.pointer (some ⟨D, 0, none⟩), .int .i64 1] w (OpP w X D T (opened d)) := by
  have HT := Lib.hid (dt_tracks w h)
  have HR := Lib.hid (dt_read 1 w h)
  have hc1 : chk d 1 = 0 := by unfold chk; rw [if_neg (by omega), if_neg (by rw [hoff]; simp)]
  have hc2 : chk d 2 = 0 := by unfold chk; rw [if_neg (by omega), if_neg (by rw [hoff]; simp)]
  have hf1 := h.fit (i := 1) (by omega)
  have hf2 := h.fit (i := 2) (by omega)
  rw [hn] at HT
  have HH := Lib.hid h
  have HX := Lib.hid hX
  have HC2 := Lib.hid hc2
  clear h hX hc2
  go_enter Try.func24, Try.ntmps24
  go_wp2_with fail
  refine HT.out.mono ?_
  rintro e w' ⟨rfl, rfl⟩
  go_wp2_with fail
  refine HR.out.mono ?_
  rintro e w1 (⟨h0, -⟩ | ⟨-, v1, rfl, ho1, hb1⟩)
  · exact absurd hc1 h0
  have e1 : (1 : Int).toNat = 1 := rfl
  rw [e1] at ho1
  have HR2 := Lib.hid (dt_read 2 w1 (HH.out.block (X' := X) (fun g _ hl => hb1.block g hl) (fun _ h => h)))
  have HO1 := Lib.hid ho1
  have HB1 := Lib.hid hb1
  have hs1 := hb1.size
  clear ho1 hb1 hc1 e1 HR HT
  go_wp2_with fail
  refine HR2.out.mono ?_
  rintro e w2 (⟨h0, -⟩ | ⟨-, v2, rfl, ho2, hb2⟩)
  · exact absurd HC2.out h0
  have e2 : (2 : Int).toNat = 2 := rfl
  rw [e2] at ho2
  have HB2 := Lib.hid (HB1.out.trans (hb2.mono hs1))
  have H3 := Lib.hid (fromBytes_any v1 (d.tr 1).now w2 ((Rd.of_own HO1.out).below hb2) (by omega))
  have HO2 := Lib.hid ho2
  have hs2 := hb2.size
  clear ho2 hb2 HR2 e2 HC2
  go_wp2_with fail
  refine H3.out.mono ?_
  rintro e w3 ⟨v3, rfl, ho3, hb3⟩
  have H4 := Lib.hid (fromBytes_any v2 (d.tr 2).now w3 ((Rd.of_own HO2.out).below hb3) (by omega))
  obtain ⟨o3, k3, rfl, -, -⟩ := own_slice ho3
  have HB3 := Lib.hid (HB2.out.trans (hb3.mono (by omega)))
  have HO3 := Lib.hid ho3
  have hs3 := hb3.size
  clear ho3 hb3 H3
  go_wp2_with fail
  refine H4.out.mono ?_
  rintro e w4 ⟨v4, rfl, ho4, hb4⟩
  obtain ⟨o4, k4, rfl, -, -⟩ := own_slice ho4
  have HB4 := Lib.hid (HB3.out.trans (hb4.mono (by omega)))
  have HO4 := Lib.hid ho4
  have HO3' := Lib.hid (own_below HO3.out hb4 (Nat.le_refl _))
  have hs4 := hb4.size
  have HE : Hid (opened d = if (rdS (d.tr 1).now).ix < (rdS (d.tr 2).now).ix then ⟨d, 2, 1, rdS (d.tr 2).now⟩ else ⟨d, 1, 2, rdS (d.tr 1).now⟩) := rfl
  have FIN1 := fun (w' : World) (hb : Below w.heap.size w w') (v : Value) (ho : Own w' w2.heap.size v (rdS (d.tr 1).now).dat) => opened_at (now := 1) (sp := 2) HH.out HX.out hb ho (by omega) (by omega) (by omega)
  have FIN2 := fun (w' : World) (hb : Below w.heap.size w w') (v : Value) (ho : Own w' w3.heap.size v (rdS (d.tr 2).now).dat) => opened_at (now := 2) (sp := 1) HH.out HX.out hb ho (by omega) (by omega) (by omega)
  have G1 := Lib.hid FIN1
  have G2 := Lib.hid FIN2
  clear ho4 hb4 H4 HO3 FIN1 FIN2
  generalize rdS (d.tr 1).now = x at *
  generalize rdS (d.tr 2).now = y at *
  unfold snV
  have hb6 : Below w4.heap.size w4 ((w4.alloc (.cells #[.int .u64 (x.ix : Int), .int .u64 (x.tm : Int), .slice o3 x.dat.length k3] 55)).alloc (.cells #[.int .u64 (y.ix : Int), .int .u64 (y.tm : Int), .slice o4 y.dat.length k4] 55)) := ((Below.refl _ _).alloc (Nat.le_refl _) _).alloc (by simp) _
  have hsz6 : ((w4.alloc (.cells #[.int .u64 (x.ix : Int), .int .u64 (x.tm : Int), .slice o3 x.dat.length k3] 55)).alloc (.cells #[.int .u64 (y.ix : Int), .int .u64 (y.tm : Int), .slice o4 y.dat.length k4] 55)).heap.size = w4.heap.size + 1 + 1 := by simp
  have HB6 := Lib.hid (HB4.out.trans (hb6.mono (by omega)))
  have P1 := Lib.hid (own_below HO3'.out hb6 (Nat.le_refl _))
  have P2 := Lib.hid (own_below HO4.out hb6 (Nat.le_refl _))
  clear hb6
  by_cases hlt : x.ix < y.ix
  · have hd : (x.ix : Int) < (y.ix : Int) := by omega
    have HE2 : Hid (opened d = ⟨d, 2, 1, y⟩) := by
      have := HE.out
      rw [if_pos hlt] at this
      exact this
    clear HE hlt
    have FIN := Lib.hid (G2.out _ HB6.out _ P2.out)
    rw [hsz6] at FIN
    go_wp2_with fail
    go_ret2
    rw [HE2.out]
    exact ⟨_, rfl, FIN.out, HB6.out.alloc (by omega) _⟩
  · have hd : ¬ (x.ix : Int) < (y.ix : Int) := by omega
    have HE2 : Hid (opened d = ⟨d, 1, 2, x⟩) := by
      have := HE.out
      rw [if_neg hlt] at this
      exact this
    clear HE hlt
    have FIN := Lib.hid (G1.out _ HB6.out _ P1.out)
    rw [hsz6] at FIN
    go_wp2_with fail
    go_ret2
    rw [HE2.out]
    exact ⟨_, rfl, FIN.out, HB6.out.alloc (by omega) _⟩
end Go.Proofs.Ytonahfpnlaolpaa
