/- A call, where nothing predefined is at hand. -/
import Derived.Test.YteenlckpjncgoaaDoorMacAC
import Derived.Test.YteenlckpjncgoaaDoorMacAE
namespace Go.Proofs.YteenlckpjncgoaaDoor
open Go.RowKit HeaM Ma

def np : V → Prop
  | .prim _ _ => False
  | _ => True
/-- Nothing predefined is at hand. -/
def NoPrim (s : Ms) : Prop := (∀ v ∈ s.stk, np v) ∧ ∀ f ∈ s.frs, np f.self

theorem do_call {C : Cx} {s s' : Ms} {m : Nat} {w : World} (n a : Int) (str : ByteArray) (h : RunE C w s)
    (hl : ∀ w, RunE C w s → Calls Tryd.prog 48 #[.pointer (some ⟨C.lo, 0, none⟩)] w (OkRun C s' m)) :
    Calls Tryd.prog 30 #[.pointer (some ⟨C.lo, 0, none⟩), .agg #[.int .u8 7, .int .i64 n, .int .i64 a, .string str]] w (OkRun C s' m) := by
  have H1 := Lib.hid (hl _ (h.ins 7 n a str))
  clear h hl
  go_enter Tryd.func30, Tryd.ntmps30
  go_wp2_with fail
  refine H1.out.mono ?_
  rintro e w' ⟨rfl, hw⟩
  have HW := Lib.hid hw
  clear hw
  go_wp2
  go_ret
  exact ⟨rfl, HW.out⟩

theorem dp_call (C : Cx) (n a : Int) (str : ByteArray) : DoP NoPrim C ⟨7, n, a, str⟩ := by
  intro w s s' m f fs h hf hw hp hd
  have hd' : Ma.call C.m s = some (m, s') := hd
  unfold Ma.call at hd'
  refine do_call n a str h fun w h => ?_
  rcases hs : s.stk with _ | ⟨v, _ | ⟨g, t⟩⟩
  · rw [hs] at hd'; cases hd'
  · rw [hs] at hd'; cases hd'
  · rw [hs] at hd'
    have hl := hw.1
    rw [hs] at hl
    simp only [List.length_cons] at hl
    by_cases h0 : s.fuel = 0
    · simp only [h0, if_true, Option.some.injEq, Prod.mk.injEq] at hd'
      obtain ⟨rfl, rfl⟩ := hd'
      have := call_spent h hs (by rw [hs]; simp only [List.length_cons]; omega) h0
      rw [h0] at this
      exact this
    · simp only [if_neg h0] at hd'
      rcases g with x | ⟨i, l⟩ | ⟨i, k⟩ | ⟨i, p⟩
      · cases hd'
      · cases hd'
      · simp only at hd'
        rcases hg : C.m.funs[k]? with _ | gf
        · rw [hg] at hd'; cases hd'
        · rw [hg] at hd'
          simp only at hd'
          by_cases hc : gf.caps = 0
          · rw [if_pos hc] at hd'
            unfold Ma.enter at hd'
            by_cases hb : 67108864 < t.length + 3 * s.trs.length
            · simp only [if_pos hb] at hd'; cases hd'
            · simp only [if_neg hb, ok, Option.some.injEq, Prod.mk.injEq] at hd'
              obtain ⟨rfl, rfl⟩ := hd'
              exact call_fn h hs (by omega) (by have := hw.2.1; omega) h0 hg hc
          · rw [if_neg hc] at hd'; cases hd'
      · exact absurd (hp.1 (.prim i p) (by rw [hs]; simp)) (by simp [np])
end Go.Proofs.YteenlckpjncgoaaDoor
