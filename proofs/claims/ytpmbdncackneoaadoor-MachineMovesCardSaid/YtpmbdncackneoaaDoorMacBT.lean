/- A try begins. -/
import Derived.Test.YtpmbdncackneoaaDoorMacAA
import Derived.BigRegion
namespace Go.Proofs.YtpmbdncackneoaaDoor
open Go.RowKit HeaM Ma

set_option maxHeartbeats 4000000 in
set_option maxRecDepth 100000 in
theorem dc_try (C : Cx) (n a : Int) (str : ByteArray) : DoC C ⟨24, n, a, str⟩ := by
  intro w s s' m f fs h hf hw hd
  have hd' : ok { s with trs := ⟨s.frs.length, n, s.stk.length⟩ :: s.trs } = some (m, s') := hd
  simp only [ok, Option.some.injEq, Prod.mk.injEq] at hd'
  obtain ⟨rfl, rfl⟩ := hd'
  obtain ⟨hw1, hw2, hw3, -⟩ := hw
  refine do_lead 24 n a str h (by omega) fun wa0 h1 => ?_
  clear h hd hf
  have h2 : RunE C (wa0.alloc (.cells #[.int .u8 24, .int .i64 n, .int .i64 a, .string str] 28)) s := h1.ins 24 n a str
  have hx : ((wa0.alloc (.cells #[.int .u8 24, .int .i64 n, .int .i64 a, .string str] 28)).cell? ⟨wa0.heap.size, 1, none⟩) = some (.int .i64 n) := (cell_of_row _ wa0.heap.size 1 _ _ (0, 0) (heap_alloc_new wa0 _)).trans rfl
  obtain ⟨vfr, vst, vtr, vout, vdn, v1, v2, h2⟩ := h2
  have hmem : ∀ W, Below (wa0.alloc (.cells #[.int .u8 24, .int .i64 n, .int .i64 a, .string str] 28)).heap.size (wa0.alloc (.cells #[.int .u8 24, .int .i64 n, .int .i64 a, .string str] 28)) W → W.cell? ⟨C.lo, 1, none⟩ = some vfr ∧ W.cell? ⟨C.lo, 2, none⟩ = some vst ∧ W.cell? ⟨C.lo, 3, none⟩ = some vtr ∧ W.cell? ⟨wa0.heap.size, 1, none⟩ = some (.int .i64 n) ∧
      ∃ o c w2, (Builtin.append_ #[63, 63] 63 #[vtr, .slice (some ⟨W.heap.size, 0, none⟩) 1 1]).run Tryd.prog (W.alloc (.cells #[Value.int .i64 (s.frs.length : Int), .int .i64 n, .int .i64 (s.stk.length : Int)] 117)) = .ok (.slice o (s.trs.length + 1) c) w2 ∧
      w2.cell? ⟨C.lo, 3, none⟩ = some vtr ∧ w2.frozen? ⟨C.lo, 3, none⟩ = false ∧ RunE C (w2.setCell ⟨C.lo, 3, none⟩ (.slice o (s.trs.length + 1) c)) { s with trs := ⟨s.frs.length, n, s.stk.length⟩ :: s.trs } := by
    intro W hb
    have h3 := h2.below hb
    exact ⟨h3.cells.2.1, h3.cells.2.2.1, h3.cells.2.2.2.1, (hb.cell (World.block_lt_of_cell? _ _ hx)).trans hx, try_mem (n := n) h3 (by omega)⟩
  have HM := Lib.hid hmem
  obtain ⟨o', c', rfl, _⟩ := own_slice h2.g.fr
  obtain ⟨o3, c3', rfl, _⟩ := own_slice h2.g.st
  obtain ⟨o4, c4', rfl, _⟩ := own_slice h2.g.tr
  clear h2 h1 hmem hx
  generalize s.stk.length = A at *
  generalize s.trs.length = B at *
  generalize s.frs.length = D at *
  go_enter Tryd.func44, Tryd.ntmps44
  go_wp2_with fail
  generalize (wa0.alloc (.cells #[.int .u8 24, .int .i64 n, .int .i64 a, .string str] 28)) = wa at *
  obtain ⟨q1, q2, q3, q4, o, c, w2, r2, d1, f1, hE⟩ := HM.out wa (Below.refl _ _)
  obtain ⟨q1d, q2d, q3d, q4d, od, cd, w2d, r2d, d1d, f1d, hEd⟩ := HM.out wa.drew (Below.refl _ _).drew
  obtain ⟨z1, z2, z3, z4, -⟩ := HM.out _ ((Below.refl wa.heap.size wa).alloc (Nat.le_refl _) (.cells #[.int .i64 (D : Int), .int .i64 n, .int .i64 (A : Int)] 117))
  have R2 := Lib.hid r2d
  have HE := Lib.hid hEd
  clear r2 hE HM d1 f1 r2d hEd q1d q2d q3d q4d
  go_region_law ((refine step_append_known rfl (.tmp 64) (.tmp 78) 63 63 rfl _ _ _ rfl rfl R2.out ?_))
  all_goals
    go_wp2_with fail
    refine bodyPost_ret (results_none rfl _ _ _) rfl ?_
    exact ⟨rfl, HE.out⟩
end Go.Proofs.YtpmbdncackneoaaDoor
