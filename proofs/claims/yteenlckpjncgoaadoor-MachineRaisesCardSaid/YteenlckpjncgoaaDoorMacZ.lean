/- Two numbers and a sign: what comes of it (plain); the law's example. -/
import Derived.Test.YteenlckpjncgoaaDoorMacY
import Derived.Test.YteenlckpjncgoaaDoorGMd
namespace Go.Proofs.YteenlckpjncgoaaDoor
open Go.RowKit HeaM Ma

/-- Two numbers, an operator, the end. -/
def insR (a b s : Int) : List CodM.Ins := [⟨0, a, 0, ⟨#[]⟩⟩, ⟨0, b, 0, ⟨#[]⟩⟩, ⟨20, s, 0, ⟨#[]⟩⟩, ⟨8, 0, 0, ⟨#[]⟩⟩]
theorem chkR (a b s : Int) (h0 : 0 ≤ s) (h1 : s ≤ 10) : CodM.chk [⟨0, insR a b s⟩] 8 = true := by
  refine CodM.chk_true fun f hf => ?_
  obtain rfl := List.mem_singleton.1 hf
  refine ⟨by show (0 : Int) ≤ 0; omega, fun i => if i = 0 then some (1, 0) else if i = 1 then some (2, 0) else if i = 2 then some (3, 0) else if i = 3 then some (2, 0) else none, rfl, fun i d t hi => ?_⟩
  by_cases i0 : i = 0
  · subst i0
    simp at hi
    obtain ⟨rfl, rfl⟩ := hi
    refine ⟨_, rfl, by simp [CodM.alw, CodM.nm, CodM.tk], fun s hs => ?_⟩
    simp [CodM.succ, CodM.lv, CodM.tk] at hs
    subst hs
    exact ⟨by decide, rfl⟩
  by_cases i1 : i = 1
  · subst i1
    simp at hi
    obtain ⟨rfl, rfl⟩ := hi
    refine ⟨_, rfl, by simp [CodM.alw, CodM.nm, CodM.tk], fun s hs => ?_⟩
    simp [CodM.succ, CodM.lv, CodM.tk] at hs
    subst hs
    exact ⟨by decide, rfl⟩
  by_cases i2 : i = 2
  · subst i2
    simp at hi
    obtain ⟨rfl, rfl⟩ := hi
    refine ⟨_, rfl, by simp [CodM.alw, CodM.nm, CodM.tk, h0, h1], fun s hs => ?_⟩
    simp [CodM.succ, CodM.lv, CodM.tk] at hs
    subst hs
    exact ⟨by decide, rfl⟩
  by_cases i3 : i = 3
  · subst i3
    simp at hi
    obtain ⟨rfl, rfl⟩ := hi
    refine ⟨_, rfl, by simp [CodM.alw, CodM.nm], fun s hs => ?_⟩
    simp [CodM.succ] at hs
  simp [i0, i1, i2, i3] at hi
theorem doR (a b s : Int) : ∀ x ∈ insR a b s, ∀ C : Cx, C.m = mcR (insR a b s) → DoC C x := by
  intro x hx C _
  simp only [insR, List.mem_cons, List.not_mem_nil, or_false] at hx
  rcases hx with rfl | rfl | rfl | rfl
  · exact dc_int C _ _ _
  · exact dc_int C _ _ _
  · exact dc_op C _ _ _
  · exact dc_ret C _ _ _

/-- Where the operator is met. -/
def stR (fuel : Nat) : Ms := { st0 fuel 50 with frs := [⟨0, .num 0, 0, 3⟩] }
theorem evR0 (a b s : Int) (fuel k : Nat) : Ma.runN (mcR (insR a b s)) (k + 3) (st0 fuel 50) = (match operate (mcR (insR a b s)) (stR fuel) s (.num (cut a)) (.num (cut b)) with
    | none => none
    | some (n, s') => if n = 0 then Ma.runN (mcR (insR a b s)) k s' else some (n, s')) := by
  simp [Ma.runN, st0, stR, start, Ma.step, few, mcR, insR, doI, answer, ok, push]
  generalize operate _ _ _ _ _ = R
  rcases R with _ | ⟨n, s'⟩ <;> rfl
theorem evR1 (a b s : Int) (fuel : Nat) (v : Int) : Ma.runN (mcR (insR a b s)) 2 { stR fuel with stk := [.num v, .num 0] } = some (0, { stR fuel with stk := [], frs := [], result := (V.num v).word }) := by
  simp [Ma.runN, st0, stR, start, Ma.step, few, mcR, insR, doI, ok, leave]
theorem insC_lit {w : World} {b : Nat} {t : TypeId} {l : List CodM.Ins} (h : w.heap[b]? = some (.cells (CsIn l).toArray t (0, 0))) : Oc.InsC w b 0 l := by
  intro j x hx
  have e := fun i (hi : i < 4) => CsIn_get l j i x hx hi
  have c := fun i => cell_of_row w b (j * 4 + i) _ _ (0, 0) h
  simp only [Nat.zero_add]
  refine ⟨(c 0).trans ?_, (c 1).trans ?_, (c 2).trans ?_, (c 3).trans ?_⟩
  all_goals simp only [List.getElem?_toArray]
  · exact (e 0 (by omega)).trans rfl
  · exact (e 1 (by omega)).trans rfl
  · exact (e 2 (by omega)).trans rfl
  · exact (e 3 (by omega)).trans rfl

/-- What run comes to, of two numbers and a sign. -/
theorem lrunR (a b s : Int) (fuel : Nat) (w : World) (h0 : 0 ≤ s) (h1 : s ≤ 10) (hf : fuel ≤ 20000) {k e : Nat} {s' : Ms} (hr : Ma.runN (mcR (insR a b s)) k (st0 fuel 50) = some (e, s')) :
    Calls Tryd.prog 8 #[.slice (some ⟨w.heap.size, 0, none⟩) 4 4, .int .i64 (fuel : Int)] (w.alloc (.cells #[.int .u8 0, .int .i64 a, .int .i64 0, .string ⟨#[]⟩, .int .u8 0, .int .i64 b, .int .i64 0, .string ⟨#[]⟩, .int .u8 20, .int .i64 s, .int .i64 0, .string ⟨#[]⟩, .int .u8 8, .int .i64 0, .int .i64 0, .string ⟨#[]⟩] 33)) fun e' w' => LrPost (w.alloc (.cells #[.int .u8 0, .int .i64 a, .int .i64 0, .string ⟨#[]⟩, .int .u8 0, .int .i64 b, .int .i64 0, .string ⟨#[]⟩, .int .u8 20, .int .i64 s, .int .i64 0, .string ⟨#[]⟩, .int .u8 8, .int .i64 0, .int .i64 0, .string ⟨#[]⟩] 33)) w' (insR a b s) s' e e' :=
  lrun_t (c := 4) (insR a b s) (insC_lit (l := insR a b s) (heap_alloc_new w _)) (by show 0 < 4; omega) (by show 4 ≤ _; omega) (by show 4 ≤ 4; omega) (by unfold maxLen; omega) (chkR a b s h0 h1) hf (doR a b s) hr

/-- The same, as numbers alone. -/
def RPost (w : World) (E R Fu : Int) (ra ou : ByteArray) (e' : Ending) (w' : World) : Prop :=
  ∃ o n c M, e' = .returned (.tuple #[.agg #[.int .i64 E, .int .u64 R, .string ra, .string ou, .slice o n c, .int .i64 Fu], .pointer (some ⟨M, 0, none⟩)]) ∧ Below w.heap.size w w'
theorem lrunR' (a b s : Int) (fuel : Nat) (w : World) (h0 : 0 ≤ s) (h1 : s ≤ 10) (hf : fuel ≤ 20000) {k e : Nat} {s' : Ms} {E R Fu : Int} {ra ou : ByteArray} (hr : Ma.runN (mcR (insR a b s)) k (st0 fuel 50) = some (e, s')) (hE : (e : Int) = E) (hR : (s'.result : Int) = R) (hF : (s'.fuel : Int) = Fu) (hra : (⟨s'.raised.toArray⟩ : ByteArray) = ra) (hou : (⟨s'.out.toArray⟩ : ByteArray) = ou) :
    Calls Tryd.prog 8 #[.slice (some ⟨w.heap.size, 0, none⟩) 4 4, .int .i64 (fuel : Int)] (w.alloc (.cells #[.int .u8 0, .int .i64 a, .int .i64 0, .string ⟨#[]⟩, .int .u8 0, .int .i64 b, .int .i64 0, .string ⟨#[]⟩, .int .u8 20, .int .i64 s, .int .i64 0, .string ⟨#[]⟩, .int .u8 8, .int .i64 0, .int .i64 0, .string ⟨#[]⟩] 33)) (RPost w E R Fu ra ou) := by
  refine (lrunR a b s fuel w h0 h1 hf hr).mono ?_
  rintro e' w' ⟨vm, M, H, base, vg, vf, rfl, hb, ⟨b0, ho⟩, _⟩
  obtain ⟨o, c, rfl, _⟩ := own_slice ho
  subst hE hR hF hra hou
  exact ⟨o, _, c, M, rfl, ((Below.refl _ w).alloc (Nat.le_refl _) _).trans (hb.mono (by simp))⟩

set_option maxHeartbeats 1000000 in
set_option maxRecDepth 100000 in
theorem lawake (w : World) : Calls Tryd.prog 7 #[] w fun e w' => e = .returned (.bool true) ∧ Below w.heap.size w w' := by
  have hr : Ma.runN (mcR (insR 2 3 2)) 5 (st0 9 50) = some (0, { stR 9 with stk := [], frs := [], result := (V.num 6).word }) := by
    rw [show 5 = 2 + 3 from rfl, evR0]
    have e : operate (mcR (insR 2 3 2)) (stR 9) 2 (.num (cut 2)) (.num (cut 3)) = some (0, { stR 9 with stk := [.num 6, .num 0] }) := by
      simp [operate, reckon, answer, ok, push, cut, stR, st0, start]
    rw [e]
    exact evR1 2 3 2 9 6
  have HR := Lib.hid (lrunR' (E := 0) (R := 13) (Fu := 9) (ra := ⟨#[]⟩) (ou := ⟨#[]⟩) 2 3 2 9 w (by omega) (by omega) (by omega) hr rfl rfl rfl rfl rfl)
  have HN6 : Hid (∀ w : World, Calls Tryd.prog 11 #[.int .i64 6] w fun e w' => e = .returned (.int .u64 13) ∧ w = w') := fun w => num_t 6 w
  clear hr
  go_enter Tryd.func7, Tryd.ntmps7
  go_wp2_with fail
  refine HR.out.mono ?_
  rintro e w1 ⟨o, n, c, M, rfl, hb⟩
  have HB := Lib.hid hb
  clear hb HR
  go_wp2_with fail
  have hba := (Below.refl w1.heap.size w1).alloc (Nat.le_refl _) (.cells #[.int .i64 0, .int .u64 13, .string ⟨#[]⟩, .string ⟨#[]⟩, .slice o n c, .int .i64 9] 28)
  have hblk := heap_alloc_new w1 (.cells #[.int .i64 0, .int .u64 13, .string ⟨#[]⟩, .string ⟨#[]⟩, .slice o n c, .int .i64 9] 28)
  have HB2 := Lib.hid (HB.out.trans (hba.mono HB.out.size))
  have cc := fun j => cell_of_row _ w1.heap.size j _ _ (0, 0) hblk
  have t0 := (cc 0).trans rfl
  have t1 := (cc 1).trans rfl
  have t5 := (cc 5).trans rfl
  clear cc hba hblk
  generalize (w1.alloc (.cells #[.int .i64 0, .int .u64 13, .string ⟨#[]⟩, .string ⟨#[]⟩, .slice o n c, .int .i64 9] 28)) = w2 at *
  go_quiet (first
    | (go_at_call 11; exact Calls.quiet_of_same ((HN6.out _).mono fun _ _ h => ⟨h.1, h.2.symm⟩)))
  have HB3 : Hid (Below w.heap.size w (w2.drewN nq)) := HB2.out.trans (below_drewN _ _ _)
  generalize w2.drewN nq = w3 at *
  go_wp2
  go_ret
  exact ⟨rfl, HB3.out⟩
end Go.Proofs.YteenlckpjncgoaaDoor
