/- Functions of one line; the law's run of them. -/
import Derived.Test.YteenlckpjncgoaaDoorMacZ
import Derived.Test.YteenlckpjncgoaaDoorMacBC
import Derived.Test.YteenlckpjncgoaaDoorMacBT
import Derived.Test.YteenlckpjncgoaaDoorGMe
namespace Go.Proofs.YteenlckpjncgoaaDoor
open Go.RowKit HeaM Ma

/-- A state for each place: all of them allowed. -/
theorem chk_line (ins : List CodM.Ins) (st : Nat → Int × Int) (hn : 0 < ins.length) (h0 : st 0 = (1, 0))
    (h : ∀ i x, ins[i]? = some x → CodM.alw [⟨0, ins⟩] 0 8 x (st i).1 (st i).2 = true ∧ ∀ s ∈ CodM.succ x i (st i).1 (st i).2, (i : Int) < s.1 ∧ s.1 < (ins.length : Int) ∧ st s.1.toNat = s.2) : CodM.chk [⟨0, ins⟩] 8 = true := by
  refine CodM.chk_true fun f hf => ?_
  obtain rfl := List.mem_singleton.1 hf
  refine ⟨by show (0 : Int) ≤ 0; omega, fun i => if i < ins.length then some (st i) else none, ?_, fun i d t hi => ?_⟩
  · rw [if_pos hn, h0]
  · by_cases hl : i < ins.length
    · rw [if_pos hl] at hi
      injection hi with hi
      have hx : ins[i]? = some ins[i] := List.getElem?_eq_getElem hl
      obtain ⟨h1, h2⟩ := h i _ hx
      rw [hi] at h1 h2
      refine ⟨_, hx, h1, fun s hs => ?_⟩
      obtain ⟨h3, h4, h5⟩ := h2 s hs
      exact ⟨h3, by rw [if_pos (by omega), h5]⟩
    · rw [if_neg hl] at hi; cases hi

def okop (n : Nat) : Prop := n = 0 ∨ n = 1 ∨ n = 5 ∨ n = 7 ∨ n = 8 ∨ n = 15 ∨ n = 18 ∨ n = 19 ∨ n = 20 ∨ n = 24 ∨ n = 26
theorem dc_ok (C : Cx) (x : CodM.Ins) (h : okop x.op) : DoC C x := by
  obtain ⟨op, n, a, s⟩ := x
  simp only [okop] at h
  rcases h with rfl | rfl | rfl | rfl | rfl | rfl | rfl | rfl | rfl | rfl | rfl
  · exact dc_int C _ _ _
  · exact dc_text C _ _ _
  · exact dc_glob C _ _ _
  · exact dc_call C _ _ _
  · exact dc_ret C _ _ _
  · exact dc_istext C _ _ _
  · exact dc_slide C _ _ _
  · exact dc_pop C _ _ _
  · exact dc_op C _ _ _
  · exact dc_try C _ _ _
  · exact dc_fail C _ _ _

/-- What run leaves, of an execution that ends in s'. -/
def MPost (w : World) (E R Fu : Int) (ra ou : ByteArray) (s' : Ms) (e' : Ending) (w' : World) : Prop :=
  ∃ o c M, e' = .returned (.tuple #[.agg #[.int .i64 E, .int .u64 R, .string ra, .string ou, .slice o s'.done.length c, .int .i64 Fu], .pointer (some ⟨M, 0, none⟩)]) ∧ Below w.heap.size w w' ∧
    (∃ b0, w'.ownsRow b0 45 2 (.slice o s'.done.length c) s'.done.length (CsMv s'.done)) ∧
    (E = 0 → ∃ H base u1 u2 vf vg, HAt w' H base 4000 0 u1 u2 s'.W s'.F ∧ w'.heap[M]? = some (.cells #[.pointer (some ⟨H, 0, none⟩), vf, vg] 56 (0, 0)) ∧ s'.F.length = s'.W.length ∧ s'.W.length ≤ 4000 ∧ ∀ x ∈ s'.W, x < 18446744073709551616)

theorem lrun_l {w : World} {b off c k e fuel : Nat} {s' : Ms} {E R Fu : Int} {ra ou : ByteArray} (ins : List CodM.Ins) (h : Oc.InsC w b off ins) (h0 : 0 < ins.length) (hn : ins.length ≤ 100000) (hc : ins.length ≤ c) (hcm : c ≤ maxLen) (hk : CodM.chk [⟨0, ins⟩] 8 = true) (hfu : fuel ≤ 20000)
    (hd : ∀ x ∈ ins, okop x.op) (hr : Ma.runN (mcR ins) k (st0 fuel 50) = some (e, s')) (hE : (e : Int) = E) (hR : (s'.result : Int) = R) (hF : (s'.fuel : Int) = Fu) (hra : (⟨s'.raised.toArray⟩ : ByteArray) = ra) (hou : (⟨s'.out.toArray⟩ : ByteArray) = ou) :
    Calls Tryd.prog 8 #[.slice (some ⟨b, off, none⟩) ins.length c, .int .i64 (fuel : Int)] w (MPost w E R Fu ra ou s') := by
  refine (lrun_t ins h h0 hn hc hcm hk hfu (fun x hx C _ => dc_ok C x (hd x hx)) hr).mono ?_
  rintro e' w' ⟨vm, M, H, base, vg, vf, rfl, hb, ⟨b0, ho⟩, hz⟩
  obtain ⟨o, c, rfl, _⟩ := own_slice ho
  subst hE hR hF hra hou
  refine ⟨o, c, M, rfl, hb, ⟨b0, ho⟩, fun he => ?_⟩
  obtain ⟨u1, u2, z1, z2, z3⟩ := hz (by omega)
  exact ⟨H, base, u1, u2, vf, vg, z1, z2, z3⟩

/-- One step of a function alone. -/
theorem go1 {ins : List CodM.Ins} {k i : Nat} {s s' : Ms} {x : CodM.Ins} (hs : s.frs = [⟨0, .num 0, 0, (i : Int)⟩]) (hx : ins[i]? = some x) (hi : i ≤ 100000000) (hw : few s)
    (hd : doI (mcR ins) { s with frs := [⟨0, .num 0, 0, (i : Int) + 1⟩] } ⟨0, .num 0, 0, (i : Int) + 1⟩ [] x = some (0, s')) : Ma.runN (mcR ins) (k + 1) s = Ma.runN (mcR ins) k s' := by
  have hst : Ma.step (mcR ins) s = some (0, s') := by
    unfold Ma.step
    rw [if_pos hw, hs]
    show (if 0 ≤ (i : Int) ∧ (i : Int) ≤ 100000000 then _ else _) = _
    rw [if_pos (by omega)]
    show (match ins[(i : Int).toNat]? with | none => none | some x => _) = _
    rw [Int.toNat_natCast, hx]
    exact hd
  have e : Ma.runN (mcR ins) (k + 1) s = (if s.frs.length = 0 then some (0, s) else match Ma.step (mcR ins) s with
    | none => none
    | some (e, s') => if e = 0 then Ma.runN (mcR ins) k s' else some (e, s')) := rfl
  rw [e, if_neg (by rw [hs]; simp), hst]
  exact if_pos rfl
theorem go1e {ins : List CodM.Ins} {k i e : Nat} {s s' : Ms} {x : CodM.Ins} (hs : s.frs = [⟨0, .num 0, 0, (i : Int)⟩]) (hx : ins[i]? = some x) (hi : i ≤ 100000000) (hw : few s) (he : e ≠ 0)
    (hd : doI (mcR ins) { s with frs := [⟨0, .num 0, 0, (i : Int) + 1⟩] } ⟨0, .num 0, 0, (i : Int) + 1⟩ [] x = some (e, s')) : Ma.runN (mcR ins) (k + 1) s = some (e, s') := by
  have hst : Ma.step (mcR ins) s = some (e, s') := by
    unfold Ma.step
    rw [if_pos hw, hs]
    show (if 0 ≤ (i : Int) ∧ (i : Int) ≤ 100000000 then _ else _) = _
    rw [if_pos (by omega)]
    show (match ins[(i : Int).toNat]? with | none => none | some x => _) = _
    rw [Int.toNat_natCast, hx]
    exact hd
  have e1 : Ma.runN (mcR ins) (k + 1) s = (if s.frs.length = 0 then some (0, s) else match Ma.step (mcR ins) s with
    | none => none
    | some (e, s') => if e = 0 then Ma.runN (mcR ins) k s' else some (e, s')) := rfl
  rw [e1, if_neg (by rw [hs]; simp), hst]
  exact if_neg he
end Go.Proofs.YteenlckpjncgoaaDoor
