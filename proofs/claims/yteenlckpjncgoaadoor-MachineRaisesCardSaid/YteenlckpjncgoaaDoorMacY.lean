/- The law's run. -/
import Derived.Test.YteenlckpjncgoaaDoorMacX
namespace Go.Proofs.YteenlckpjncgoaaDoor
open Go.RowKit HeaM Ma

def mcR (ins : List CodM.Ins) : Mc := ⟨[⟨0, ins⟩], primG 8, 4000, 10⟩
/-- The state in which a function begins. -/
def st0 (fuel room : Nat) : Ms := { start (primW 8) (primF 8) fuel room with frs := [⟨0, .num 0, 0, 0⟩], stk := [.num 0] }
/-- What run leaves. -/
def LrPost (w w' : World) (_ins : List CodM.Ins) (s' : Ms) (e : Nat) (e' : Ending) : Prop :=
  ∃ vm M H base vg vf, e' = .returned (.tuple #[.agg #[.int .i64 (e : Int), .int .u64 (s'.result : Int), .string ⟨s'.raised.toArray⟩, .string ⟨s'.out.toArray⟩, vm, .int .i64 (s'.fuel : Int)], .pointer (some ⟨M, 0, none⟩)]) ∧ Below w.heap.size w w' ∧
    (∃ b0, w'.ownsRow b0 45 2 vm s'.done.length (CsMv s'.done)) ∧
    (e = 0 → ∃ u1 u2, HAt w' H base 4000 0 u1 u2 s'.W s'.F ∧ w'.heap[M]? = some (.cells #[.pointer (some ⟨H, 0, none⟩), vf, vg] 56 (0, 0)) ∧ s'.F.length = s'.W.length ∧ s'.W.length ≤ 4000 ∧ ∀ x ∈ s'.W, x < 18446744073709551616)

set_option maxHeartbeats 4000000 in
set_option maxRecDepth 100000 in
theorem lrun_t {w : World} {b off c k e fuel : Nat} {s' : Ms} (ins : List CodM.Ins) (h : Oc.InsC w b off ins) (h0 : 0 < ins.length) (hn : ins.length ≤ 100000) (hc : ins.length ≤ c) (hcm : c ≤ maxLen) (hk : CodM.chk [⟨0, ins⟩] 8 = true) (hfu : fuel ≤ 20000)
    (hd : ∀ x ∈ ins, ∀ C : Cx, C.m = mcR ins → DoC C x) (hr : Ma.runN (mcR ins) k (st0 fuel 50) = some (e, s')) :
    Calls Tryd.prog 8 #[.slice (some ⟨b, off, none⟩) ins.length c, .int .i64 (fuel : Int)] w fun e' w' => LrPost w w' ins s' e e' := by
  have HN := Lib.hid fun W => new_mach 8 4000 10 W (by omega) (by omega) (by omega) (by omega)
  have hbl : b < w.heap.size := World.block_lt_of_cell? w _ (h 0 ins[0] (by simp [h0])).1
  have hni : (ins.length : Int) ≤ 100000 := by omega
  have hfi : (fuel : Int) ≤ 20000 := by omega
  have H := Lib.hid h
  clear h
  unfold maxLen at hcm
  go_enter Tryd.func8, Tryd.ntmps8
  go_wp2_with fail
  refine (HN.out _).mono ?_
  rintro e1 w1 ⟨M, H1, vg, v1, v2, rfl, hE, hb, hM, hH⟩
  have hres := heap_alloc_new w (.cells #[.int .i64 0, .int .u64 0, .string ⟨#[]⟩, .string ⟨#[]⟩, .slice none 0 0, .int .i64 0] 28)
  have hsz1 : (w.alloc (.cells #[.int .i64 0, .int .u64 0, .string ⟨#[]⟩, .string ⟨#[]⟩, .slice none 0 0, .int .i64 0] 28)).heap.size = w.heap.size + 1 := by simp
  have hwb : Below w.heap.size w (w.alloc (.cells #[.int .i64 0, .int .u64 0, .string ⟨#[]⟩, .string ⟨#[]⟩, .slice none 0 0, .int .i64 0] 28)) := (Below.refl _ _).alloc (Nat.le_refl _) _
  rw [hsz1] at hE hb hM hH
  have hres1 := (hb.block w.heap.size (by omega)).trans hres
  have hbw1 : Below w.heap.size w w1 := hwb.trans (hb.mono (by omega))
  have hsz : w.heap.size + 1 ≤ w1.heap.size := by have := hb.size; omega
  have hba : Below w1.heap.size w1 (w1.alloc (.cells #[.int .i64 0, .slice (some ⟨b, off, none⟩) ins.length c] 51)) := (Below.refl _ _).alloc (Nat.le_refl _) _
  have hfb := heap_alloc_new w1 (.cells #[.int .i64 0, .slice (some ⟨b, off, none⟩) ins.length c] 51)
  have hfi : FIn (w1.alloc (.cells #[.int .i64 0, .slice (some ⟨b, off, none⟩) ins.length c] 51)) w1.heap.size 0 [⟨0, ins⟩] [(0, .slice (some ⟨b, off, none⟩) ins.length c)] := by
    refine ⟨rfl, fun j p hp => ?_, fun j f hf => ?_⟩
    · have hj : j = 0 := by have := (List.getElem?_eq_some_iff.1 hp).1; simpa using this
      subst hj
      simp at hp
      subst hp
      exact ⟨(cell_of_row _ w1.heap.size 0 _ _ (0, 0) hfb).trans rfl, (cell_of_row _ w1.heap.size 1 _ _ (0, 0) hfb).trans rfl⟩
    · have hj : j = 0 := by have := (List.getElem?_eq_some_iff.1 hf).1; simpa using this
      subst hj
      simp at hf
      subst hf
      exact ⟨b, off, c, rfl, h0, hc, by unfold maxLen; exact hcm, Oc.InsC.below H.out (hbw1.trans (hba.mono (by omega))) (Nat.le_refl _)⟩
  have hadd := add_t [⟨0, ins⟩] _ (hE.below hba) hfi (by simp) (by simp) (cp := 1) (by simp) (by unfold maxLen; omega) (by intro f hf; rw [List.mem_singleton] at hf; subst hf; exact hn) (by simpa [mcOf, primG] using hk)
  have hrun : ∀ (vf : Value) (W2 : World), MachE W2 M H1 (w.heap.size + 1) 0 vf vg v1 v2 (mcR ins) (primW 8) (primF 8) → Calls Tryd.prog 16 #[.pointer (some ⟨M, 0, none⟩), .int .i64 ((0 : Nat) : Int), .int .i64 (fuel : Int), .int .i64 ((10 : Nat) : Int), .int .i64 ((50 : Nat) : Int)] W2 (RunPost W2 v1 v2 M H1 (w.heap.size + 1) 0 vf vg (mcR ins) s' e) := fun vf W2 hE2 =>
    run_t (fn := 0) (fuel := fuel) (room := 50) (k := k) hE2 hfu (by omega) (by show 10 ≤ _; omega) ⟨0, ins⟩ rfl rfl (by intro g hg x hx; simp only [mcR, List.mem_singleton] at hg; subst hg; exact hd x hx) hr
  have HADD := Lib.hid hadd
  have HRUN := Lib.hid hrun
  have HRES := Lib.hid hres1
  have HBW := Lib.hid hbw1
  have HBA := Lib.hid hba
  have HE := Lib.hid hE
  clear hE hb hres hsz1 hwb hres1 hbw1 hba hfb hfi hadd hrun
  go_wp2_with fail
  refine HADD.out.mono ?_
  rintro e1 w2 ⟨rfl, vf, hE2, hk2⟩
  have HR2 := Lib.hid (HRUN.out vf w2 hE2)
  have HK2 := Lib.hid hk2
  clear hE2 hk2 HRUN
  go_wp2_with fail
  refine HR2.out.mono ?_
  rintro e1 w3 ⟨vm, rfl, hmv, hk3, hok⟩
  obtain ⟨b0, hmv⟩ := hmv
  obtain ⟨om, km, rfl, _⟩ := own_slice hmv
  have hnt : ¬ (three H1 v1 v2 w.heap.size ∨ w.heap.size = M) := by
    rintro ((e | e | e) | e)
    · omega
    · have := (HE.out.heap.own1.lt _ e).1; omega
    · have := (HE.out.heap.own2.lt _ e).1; omega
    · omega
  have hb2 : Below w.heap.size w w2 := (HBW.out.trans (HBA.out.mono (by omega))).trans (HK2.out.below (by have := HBA.out.size; omega) (fun k e => by omega))
  have hb3 : Below w.heap.size w w3 := hb2.trans (hk3.below hb2.size (by
    rintro k ((e | e | e) | e)
    · omega
    · have := (HE.out.heap.own1.lt _ e).1; omega
    · have := (HE.out.heap.own2.lt _ e).1; omega
    · omega))
  have h12 : w2.heap[w.heap.size]? = w1.heap[w.heap.size]? := (HK2.out.block _ (by have := HBA.out.size; omega) (by omega)).trans (HBA.out.block _ (by omega))
  have hblk3 : w3.heap[w.heap.size]? = some (.cells #[.int .i64 0, .int .u64 0, .string ⟨#[]⟩, .string ⟨#[]⟩, .slice none 0 0, .int .i64 0] 28 (0, 0)) := ((hk3.block _ (by have := lt_of_block (h12.trans HRES.out); exact this) hnt).trans h12).trans HRES.out
  have htr : TgB w3 w.heap.size 28 := ⟨_, hblk3⟩
  have hfinal : ∀ W4, Kept (fun q => q = w.heap.size) w3 W4 → LrPost w W4 ins s' e (.returned (.tuple #[.agg #[.int .i64 (e : Int), .int .u64 (s'.result : Int), .string ⟨s'.raised.toArray⟩, .string ⟨s'.out.toArray⟩, .slice om s'.done.length km, .int .i64 (s'.fuel : Int)], .pointer (some ⟨M, 0, none⟩)])) := by
    intro W4 hk4
    refine ⟨_, M, H1, w.heap.size + 1, vg, vf, rfl, hb3.trans (hk4.below hb3.size fun k e => by omega), ⟨b0, own_kept hmv hk4 fun q a e => (own_tag hmv q a).ne (e ▸ htr) (by decide)⟩, fun he => ?_⟩
    obtain ⟨u1, u2, hH4, hM4, hl4, hw4, hx4⟩ := hok he
    refine ⟨u1, u2, hH4.kept hk4 ?_, (hk4.block M (lt_of_block hM4) (by omega)).trans hM4, hl4, hw4, hx4⟩
    rintro q (a | a | a) e
    · omega
    · exact (own_tag hH4.own1 q a).ne (e ▸ htr) (by decide)
    · exact (own_tag hH4.own2 q a).ne (e ▸ htr) (by decide)
  have HFIN := Lib.hid hfinal
  have cc := fun j => cell_of_row w3 w.heap.size j _ _ (0, 0) hblk3
  have ff := fun j => frozen_of_row w3 w.heap.size j _ _ hblk3
  have t0 := (cc 0).trans rfl
  have t1 := (cc 1).trans rfl
  have t2 := (cc 2).trans rfl
  have t3 := (cc 3).trans rfl
  have t4 := (cc 4).trans rfl
  have t5 := (cc 5).trans rfl
  have s0 := ff 0
  have s1 := ff 1
  have s2 := ff 2
  have s3 := ff 3
  have s4 := ff 4
  have s5 := ff 5
  clear cc ff hfinal hblk3 htr hb2 hb3 h12 hk3 hok hmv hnt HR2 HADD HN
  go_wp2_with fail
  refine bodyPost_ret (v := .tuple #[.agg #[.int .i64 (e : Int), .int .u64 (s'.result : Int), .string ⟨s'.raised.toArray⟩, .string ⟨s'.out.toArray⟩, .slice om s'.done.length km, .int .i64 (s'.fuel : Int)], .pointer (some ⟨M, 0, none⟩)]) (by simp [results, Tryd.results8, go_sem, t0, t1, t2, t3, t4, t5]) rfl ?_
  refine HFIN.out _ ?_
  exact ((((((Kept.refl (fun k => k = w.heap.size) w3).setCell (p := ⟨w.heap.size, 0, none⟩) (.inl rfl) _).setCell (p := ⟨w.heap.size, 1, none⟩) (.inl rfl) _).setCell (p := ⟨w.heap.size, 2, none⟩) (.inl rfl) _).setCell (p := ⟨w.heap.size, 3, none⟩) (.inl rfl) _).setCell (p := ⟨w.heap.size, 4, none⟩) (.inl rfl) _).setCell (p := ⟨w.heap.size, 5, none⟩) (.inl rfl) _
end Go.Proofs.YteenlckpjncgoaaDoor
