/- Expressions in memory; two of them between three texts. -/
import Derived.Test.YtiimofdbconlhaaDoorPriY
namespace Go.Proofs.YtiimofdbconlhaaDoor
open Go.RowKit Go.Shelf PriM

/-- A box with an expression. -/
def BoxE (w : World) (b : Nat) (c0 c1 c2 c3 c4 c5 : Value) : Prop := w.heap[b]? = some (.cells #[c0, c1, c2, c3, c4, c5] 36 (0, 0))
theorem BoxE.cells {w : World} {b : Nat} {c0 c1 c2 c3 c4 c5 : Value} (h : BoxE w b c0 c1 c2 c3 c4 c5) : w.cell? ⟨b, 0, none⟩ = some c0 ∧ w.cell? ⟨b, 1, none⟩ = some c1 ∧ w.cell? ⟨b, 2, none⟩ = some c2 ∧ w.cell? ⟨b, 3, none⟩ = some c3 ∧ w.cell? ⟨b, 4, none⟩ = some c4 ∧ w.cell? ⟨b, 5, none⟩ = some c5 := by
  refine ⟨?_, ?_, ?_, ?_, ?_, ?_⟩ <;> (rw [cell_of_row _ _ _ _ _ _ h]; rfl)
theorem BoxE.kept {n : Nat} {w w' : World} {b : Nat} {c0 c1 c2 c3 c4 c5 : Value} (h : BoxE w b c0 c1 c2 c3 c4 c5) (hk : KeepT n w w') : BoxE w' b c0 c1 c2 c3 c4 c5 := hk.box _ _ _ h (by decide) (by decide)

set_option maxRecDepth 100000 in
theorem expr_any (kd : Int) (s : ByteArray) (N : Int) (r : Bool) (po : Option Addr) (pn pc : Nat) (ko : Option Addr) (kn kc : Nat) (w : World) :
    Calls Tryd.prog 30 #[.agg #[.int .u8 kd, .string s, .int .i64 N, .bool r, .slice po pn pc, .slice ko kn kc]] w fun e w' =>
      ∃ b, e = .returned (.agg #[.string ⟨#[]⟩, .func (.func 41) #[] #[.pointer (some ⟨b, 0, none⟩)]]) ∧ BoxE w' b (.int .u8 kd) (.string s) (.int .i64 N) (.bool r) (.slice po pn pc) (.slice ko kn kc) ∧ Below w.heap.size w w' := by
  have HF := fun (x : Obj) => Lib.hid (show BoxE ((w.alloc (.cells #[.int .u8 kd, .string s, .int .i64 N, .bool r, .slice po pn pc, .slice ko kn kc] 36)).alloc x) w.heap.size (.int .u8 kd) (.string s) (.int .i64 N) (.bool r) (.slice po pn pc) (.slice ko kn kc) from (Below.heap_alloc _ _ _ (by simp)).trans (heap_alloc_new w _))
  go_enter Tryd.func30, Tryd.ntmps30
  go_wp2
  exact bodyPost_ret (v := .agg #[.string ⟨#[]⟩, .func (.func 41) #[] #[.pointer (some ⟨w.heap.size, 0, none⟩)]]) (by simp [results, Tryd.results30, go_sem]) rfl ⟨_, rfl, (HF _).out, ((Below.refl _ _).alloc (Nat.le_refl _) _).alloc (by simp) _⟩

theorem app_step {n : Nat} {w wr w1 : World} {v : Value} {k : Nat} {xs : List Value} {tmp : Obj} (h : wr.ownsRow n 51 2 v k xs) (hb : Below n w wr) (hn : n ≤ wr.heap.size) (hg : (wr.alloc tmp).grownBy w1 v.ownBlock) :
    Below n w w1 ∧ KeepT n wr w1 ∧ wr.heap.size ≤ w1.heap.size := by
  have hk : KeepT n wr w1 := ((KeepT.refl n wr).alloc hn tmp).grown (by simp; omega) hg (World.ownsRow.alloc h tmp) (Nat.le_refl _) (.inl rfl)
  exact ⟨hb.trans hk.below, hk, by have := hg.size; simp at this; omega⟩

set_option maxRecDepth 100000 in
set_option maxHeartbeats 16000000 in
theorem laid_two (t0 t1 t2 : ByteArray) (bt bk off cap : Nat) (kd0 : Int) (s0 : ByteArray) (N0 : Int) (r0 : Bool) (po0 : Option Addr) (pn0 pc0 : Nat) (ko0 : Option Addr) (kn0 kc0 : Nat) (kd1 : Int) (s1 : ByteArray) (N1 : Int) (r1 : Bool) (po1 : Option Addr) (pn1 pc1 : Nat) (ko1 : Option Addr) (kn1 kc1 : Nat) (w : World)
    (ht : w.cell? ⟨bt, 0, none⟩ = some (.string t0) ∧ w.cell? ⟨bt, 1, none⟩ = some (.string t1) ∧ w.cell? ⟨bt, 2, none⟩ = some (.string t2))
    (h0 : w.cell? ⟨bk, off, none⟩ = some (.int .u8 kd0) ∧ w.cell? ⟨bk, off + 1, none⟩ = some (.string s0) ∧ w.cell? ⟨bk, off + 2, none⟩ = some (.int .i64 N0) ∧ w.cell? ⟨bk, off + 3, none⟩ = some (.bool r0) ∧ w.cell? ⟨bk, off + 4, none⟩ = some (.slice po0 pn0 pc0) ∧ w.cell? ⟨bk, off + 5, none⟩ = some (.slice ko0 kn0 kc0))
    (h1 : w.cell? ⟨bk, off + 6, none⟩ = some (.int .u8 kd1) ∧ w.cell? ⟨bk, off + 6 + 1, none⟩ = some (.string s1) ∧ w.cell? ⟨bk, off + 6 + 2, none⟩ = some (.int .i64 N1) ∧ w.cell? ⟨bk, off + 6 + 3, none⟩ = some (.bool r1) ∧ w.cell? ⟨bk, off + 6 + 4, none⟩ = some (.slice po1 pn1 pc1) ∧ w.cell? ⟨bk, off + 6 + 5, none⟩ = some (.slice ko1 kn1 kc1)) :
    Calls Tryd.prog 69 #[.slice (some ⟨bk, off, none⟩) 2 cap, .func (.func 30) #[] #[], .slice (some ⟨bt, 0, none⟩) 3 3] w fun e w' => ∃ v b0 b1, e = .returned v ∧
      OwnP w' w.heap.size v [⟨t0, none⟩, ⟨⟨#[]⟩, some (41, b0)⟩, ⟨t1, none⟩, ⟨⟨#[]⟩, some (41, b1)⟩, ⟨t2, none⟩] ∧
      BoxE w' b0 (.int .u8 kd0) (.string s0) (.int .i64 N0) (.bool r0) (.slice po0 pn0 pc0) (.slice ko0 kn0 kc0) ∧ BoxE w' b1 (.int .u8 kd1) (.string s1) (.int .i64 N1) (.bool r1) (.slice po1 pn1 pc1) (.slice ko1 kn1 kc1) ∧ Below w.heap.size w w' := by
  obtain ⟨i0, hi0, hz0, hz1, hz2⟩ := info_parts partInfo
  have lt := World.block_lt_of_cell? w _ ht.1
  have lk := World.block_lt_of_cell? w _ h0.1
  have HT := Lib.hid ht
  have HK0 := Lib.hid h0
  have HK1 := Lib.hid h1
  have HLT := Lib.hid lt
  have HLK := Lib.hid lk
  have HE0 := Lib.hid (fun W => expr_any kd0 s0 N0 r0 po0 pn0 pc0 ko0 kn0 kc0 W)
  have HE1 := Lib.hid (fun W => expr_any kd1 s1 N1 r1 po1 pn1 pc1 ko1 kn1 kc1 W)
  have HV0 := Lib.hid (World.ownsRow_nil w w.heap.size 51 2)
  have HB0 := Lib.hid (Below.refl w.heap.size w)
  have HW0 := Lib.hid (Nat.le_refl w.heap.size)
  have q0 := ht.1
  clear ht h0 h1 lt lk
  go_enter Tryd.func69, Tryd.ntmps69
  go_wp2
  refine wp_loop_rounds 4 ?_
  rw [rounds_succ]
  go_wp2_with (first
    | (at_builtin; refine wpList_append_own_at _ rfl (.tmp 17) (.tmp 20) 53 rfl w.heap.size 51 i0 _ 2 24 Tryd.underlying53 hi0 hz0 hz1 hz2 rfl (by decide) (.slice none 0 0) _ _ rfl (World.ownsRow.alloc HV0.out _) ⟨w.heap.size, 0, none⟩ 1 1 [.string t0, .nilFunc] rfl rfl (cells_two_new _ _ _ _) (by simp [Value.oneCell']) (by unfold maxLen; omega) (by omega) (Nat.le_trans HW0.out (by simp)) ?_; intro v1 w1 hown hg _ _; have hs := app_step HV0.out HB0.out HW0.out hg; obtain ⟨hb, hk, hz⟩ := hs; have HB1 := Lib.hid hb; have HV1 := Lib.hid hown; have HKP1 := Lib.hid hk; have HW1 := Lib.hid (Nat.le_trans HW0.out hz); have e0 := (HB1.out.cell (p := ⟨bk, off, none⟩) HLK.out).trans HK0.out.1; have e1 := (HB1.out.cell (p := ⟨bk, off + 1, none⟩) HLK.out).trans HK0.out.2.1; have e2 := (HB1.out.cell (p := ⟨bk, off + 2, none⟩) HLK.out).trans HK0.out.2.2.1; have e3 := (HB1.out.cell (p := ⟨bk, off + 3, none⟩) HLK.out).trans HK0.out.2.2.2.1; have e4 := (HB1.out.cell (p := ⟨bk, off + 4, none⟩) HLK.out).trans HK0.out.2.2.2.2.1; have e5 := (HB1.out.cell (p := ⟨bk, off + 5, none⟩) HLK.out).trans HK0.out.2.2.2.2.2; clear hown hg hb hk hz)
    | (go_at_call 30; refine (HE0.out _).mono ?_; rintro e w1c ⟨b0, rfl, hx, hb⟩; have hv := World.ownsRow.kept HV1.out (grownBy_of_below hb (Nat.le_refl _) none) (by cases v1.ownBlock <;> simp); have HX0 := Lib.hid hx; have HV1c := Lib.hid hv; have HB1c := Lib.hid (HB1.out.trans (hb.mono HW1.out)); have HW1c := Lib.hid (Nat.le_trans HW1.out hb.size); clear hx hv hb)
    | (at_builtin; refine wpList_append_own_at _ rfl (.tmp 33) (.tmp 40) 53 rfl w.heap.size 51 i0 _ 2 24 Tryd.underlying53 hi0 hz0 hz1 hz2 rfl (by decide) v1 _ _ rfl (World.ownsRow.alloc HV1c.out _) ⟨w1c.heap.size, 0, none⟩ 1 1 [.string ⟨#[]⟩, .func (.func 41) #[] #[.pointer (some ⟨b0, 0, none⟩)]] rfl rfl (cells_two_new _ _ _ _) (by simp [Value.oneCell']) (by unfold maxLen; omega) (by omega) (Nat.le_trans HW1c.out (by simp)) ?_; intro v2 w2 hown hg _ _; have hs := app_step HV1c.out HB1c.out HW1c.out hg; obtain ⟨hb, hk, hz⟩ := hs; have HB2 := Lib.hid hb; have HV2 := Lib.hid hown; have HKP2 := Lib.hid hk; have HW2 := Lib.hid (Nat.le_trans HW1c.out hz); have q0 := (HB2.out.cell (p := ⟨bt, 1, none⟩) HLT.out).trans HT.out.2.1; have HX0a := Lib.hid (HX0.out.kept hk); clear hown hg hb hk hz))
  rw [rounds_succ]
  go_wp2_with (first
    | (at_builtin; refine wpList_append_own_at _ rfl (.tmp 17) (.tmp 20) 53 rfl w.heap.size 51 i0 _ 2 24 Tryd.underlying53 hi0 hz0 hz1 hz2 rfl (by decide) v2 _ _ rfl (World.ownsRow.alloc HV2.out _) ⟨w2.heap.size, 0, none⟩ 1 1 [.string t1, .nilFunc] rfl rfl (cells_two_new _ _ _ _) (by simp [Value.oneCell']) (by unfold maxLen; omega) (by omega) (Nat.le_trans HW2.out (by simp)) ?_; intro v3 w3 hown hg _ _; have hs := app_step HV2.out HB2.out HW2.out hg; obtain ⟨hb, hk, hz⟩ := hs; have HB3 := Lib.hid hb; have HV3 := Lib.hid hown; have HKP3 := Lib.hid hk; have HW3 := Lib.hid (Nat.le_trans HW2.out hz); have e0 := (HB3.out.cell (p := ⟨bk, off + 6, none⟩) HLK.out).trans HK1.out.1; have e1 := (HB3.out.cell (p := ⟨bk, off + 6 + 1, none⟩) HLK.out).trans HK1.out.2.1; have e2 := (HB3.out.cell (p := ⟨bk, off + 6 + 2, none⟩) HLK.out).trans HK1.out.2.2.1; have e3 := (HB3.out.cell (p := ⟨bk, off + 6 + 3, none⟩) HLK.out).trans HK1.out.2.2.2.1; have e4 := (HB3.out.cell (p := ⟨bk, off + 6 + 4, none⟩) HLK.out).trans HK1.out.2.2.2.2.1; have e5 := (HB3.out.cell (p := ⟨bk, off + 6 + 5, none⟩) HLK.out).trans HK1.out.2.2.2.2.2; have HX0b := Lib.hid (HX0a.out.kept hk); clear hown hg hb hk hz)
    | (go_at_call 30; refine (HE1.out _).mono ?_; rintro e w3c ⟨b1, rfl, hx, hb⟩; have hv := World.ownsRow.kept HV3.out (grownBy_of_below hb (Nat.le_refl _) none) (by cases v3.ownBlock <;> simp); have HX1 := Lib.hid hx; have HV3c := Lib.hid hv; have HB3c := Lib.hid (HB3.out.trans (hb.mono HW3.out)); have HW3c := Lib.hid (Nat.le_trans HW3.out hb.size); have HX0c := Lib.hid (HX0b.out.kept (KeepT.of_below hb HW3.out)); clear hx hv hb)
    | (at_builtin; refine wpList_append_own_at _ rfl (.tmp 33) (.tmp 40) 53 rfl w.heap.size 51 i0 _ 2 24 Tryd.underlying53 hi0 hz0 hz1 hz2 rfl (by decide) v3 _ _ rfl (World.ownsRow.alloc HV3c.out _) ⟨w3c.heap.size, 0, none⟩ 1 1 [.string ⟨#[]⟩, .func (.func 41) #[] #[.pointer (some ⟨b1, 0, none⟩)]] rfl rfl (cells_two_new _ _ _ _) (by simp [Value.oneCell']) (by unfold maxLen; omega) (by omega) (Nat.le_trans HW3c.out (by simp)) ?_; intro v4 w4 hown hg _ _; have hs := app_step HV3c.out HB3c.out HW3c.out hg; obtain ⟨hb, hk, hz⟩ := hs; have HB4 := Lib.hid hb; have HV4 := Lib.hid hown; have HKP4 := Lib.hid hk; have HW4 := Lib.hid (Nat.le_trans HW3c.out hz); have q0 := (HB4.out.cell (p := ⟨bt, 2, none⟩) HLT.out).trans HT.out.2.2; have HX0d := Lib.hid (HX0c.out.kept hk); have HX1a := Lib.hid (HX1.out.kept hk); clear hown hg hb hk hz))
  rw [rounds_succ]
  go_wp2_with (first
    | (at_builtin; refine wpList_append_own_at _ rfl (.tmp 17) (.tmp 20) 53 rfl w.heap.size 51 i0 _ 2 24 Tryd.underlying53 hi0 hz0 hz1 hz2 rfl (by decide) v4 _ _ rfl (World.ownsRow.alloc HV4.out _) ⟨w4.heap.size, 0, none⟩ 1 1 [.string t2, .nilFunc] rfl rfl (cells_two_new _ _ _ _) (by simp [Value.oneCell']) (by unfold maxLen; omega) (by omega) (Nat.le_trans HW4.out (by simp)) ?_; intro v5 w5 hown hg _ _; have hs := app_step HV4.out HB4.out HW4.out hg; obtain ⟨hb, hk, hz⟩ := hs; have HB5 := Lib.hid hb; have HV5 := Lib.hid hown; have HKP5 := Lib.hid hk; have HW5 := Lib.hid (Nat.le_trans HW4.out hz); have HX0e := Lib.hid (HX0d.out.kept hk); have HX1b := Lib.hid (HX1a.out.kept hk); clear hown hg hb hk hz))
  rw [rounds_succ]
  go_wp2
  go_ret
  exact ⟨v5, b0, b1, rfl, HV5.out, HX0e.out, HX1b.out, HB5.out⟩
end Go.Proofs.YtiimofdbconlhaaDoor
