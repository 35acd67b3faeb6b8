/- The parts of a type: a name. -/
import Derived.Test.YtiimofdbconlhaaDoorPriP
namespace Go.Proofs.YtiimofdbconlhaaDoor
open Go.RowKit PriM

/-- Neither a function nor a product. -/
theorem neither {nm : List UInt8} {ks : List Ty} (h1 : ¬ (nm = [45, 62] ∧ ks.length = 2)) (h2 : ¬ (nm = [42] ∧ 2 ≤ ks.length)) : isFn nm ks.length = false ∧ isPr nm ks.length = false := by
  unfold isFn isPr
  constructor
  · rw [Bool.eq_false_iff]; intro h; simp at h; exact h1 h
  · rw [Bool.eq_false_iff]; intro h; simp at h; exact h2 h

set_option maxRecDepth 100000 in
set_option maxHeartbeats 1000000 in
theorem tparts_name (n : Nat) (nm : List UInt8) (v : Int) (ks : List Ty) (S : ByteArray) (o : Option Addr) (c : Nat) (w : World) (h : TyC n w nm v ks S o c) (h0 : nm ≠ []) (h1 : ¬ (nm = [45, 62] ∧ ks.length = 2)) (h2 : ¬ (nm = [42] ∧ 2 ≤ ks.length)) (hk : ks.length = 0) :
    Calls Tryd.prog 33 #[.agg #[.string S, .int .i64 v, .slice o ks.length c]] w (JPost n w (tp vn (.mk nm v ks))) := by
  have e : tp vn (.mk nm v ks) = [.txt nm] := by
    show (if nm = [] then _ else _) = _
    rw [if_neg h0, if_neg h1, if_neg h2, if_pos hk]
  rw [e]
  have hl := h.lens
  obtain ⟨f1, f2⟩ := neither h1 h2
  have t1 : (S.toList == []) = false := by rw [hl.2.1]; simpa using h0
  have t2 : S.toList.isEmpty = false := by rw [hl.2.1]; simpa using h0
  have HI := Lib.hid (fun W => f1 ▸ isFunction_any S nm hl.2.1 v o ks.length c W (by omega))
  have HP := Lib.hid (fun W => f2 ▸ isProduct_any S nm hl.2.1 v o ks.length c W (by omega))
  have H1 := Lib.hid (One.new w (.string S) (.int .i64 v) (.slice o ks.length c))
  have HN := Lib.hid h.low
  have HS := Lib.hid h.str
  clear h e h0 h1 h2 f1 f2 hl
  rw [hk] at *
  clear hk
  go_enter Tryd.func33, Tryd.ntmps33
  go_wp2_with fail
  go_at_call 45
  refine (HI.out _).mono ?_
  rintro e w1 ⟨rfl, hb⟩
  have h1 := H1.out.on hb
  obtain ⟨a0, a1, a2⟩ := h1.box.cells
  have H2 := Lib.hid h1
  clear hb h1 H1
  go_wp2_with fail
  go_at_call 47
  refine (HP.out _).mono ?_
  rintro e w2 ⟨rfl, hb⟩
  have h1 := H2.out.on hb
  obtain ⟨a0, a1, a2⟩ := h1.box.cells
  have HF := Lib.hid (plain_row nm h1 HN.out)
  clear hb h1 H2
  go_wp2_with (go_at_call 44; refine (plain_any _ _).mono ?_; rintro e w' ⟨rfl, rfl⟩)
  rw [← HS.out] at HF
  go_ret
  exact HF.out
end Go.Proofs.YtiimofdbconlhaaDoor
