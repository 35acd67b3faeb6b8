/- The examples. -/
import Derived.Test.YtiimofdbconlhaaDoorPriEd
namespace Go.Proofs.YtiimofdbconlhaaDoor
open Go.RowKit PriM

def allocs (w : World) : List Obj → World
  | [] => w
  | o :: os => allocs (w.alloc o) os
theorem allocs_below (w : World) (os : List Obj) : Below w.heap.size w (allocs w os) := by
  induction os generalizing w with
  | nil => exact Below.refl _ _
  | cons o os ih => exact ((Below.refl _ _).alloc (Nat.le_refl _) o).trans ((ih (w.alloc o)).mono (by simp))
theorem allocs_size (w : World) (os : List Obj) : (allocs w os).heap.size = w.heap.size + os.length := by
  induction os generalizing w with
  | nil => rfl
  | cons o os ih => rw [allocs, ih]; simp; omega
theorem allocs_at (w : World) (os : List Obj) : ∀ i o, os[i]? = some o → (allocs w os).heap[w.heap.size + i]? = some o := by
  induction os generalizing w with
  | nil => intro i o h; simp at h
  | cons x os ih =>
    intro i o h
    cases i with
    | zero =>
      simp at h
      subst h
      exact ((allocs_below (w.alloc x) os).block _ (by simp)).trans (heap_alloc_new w x)
    | succ i =>
      have := ih (w.alloc x) i o (by simpa using h)
      simp only [World.size_alloc] at this
      rw [show w.heap.size + (i + 1) = w.heap.size + 1 + i by omega]
      exact this

theorem tabN_of {w : World} (h : Tab w) : TabN w.heap.size w := by
  intro W hW
  unfold Tab Lib.TabIs World.var? at *
  cases hg : Tryd.prog.globalNamed "internal/strconv.uint64pow10" with
  | none => rw [hg] at h; cases h
  | some g =>
    rw [hg] at h
    rw [Option.bind_some] at h ⊢
    have hlt : g < w.heap.size := by
      rcases Nat.lt_or_ge g w.heap.size with hh | hh
      · exact hh
      · rw [Array.getElem?_eq_none hh] at h; cases h
    rw [hW.block g hlt]
    exact h

/-- The examples. -/
def xA : Ex := .op [43] (.app (.var [102]) (.var [120])) (.int 1)
def tA : Ty := .mk [45, 62] 0 [.mk [45, 62] 0 [.mk [] 1 [], .mk [] 2 []], .mk [108, 105, 115, 116] 0 [.mk [] 1 []]]
theorem rA : rE xA = [40, 40, 102, 32, 120, 41, 32, 43, 32, 49, 41] := by decide +kernel
theorem rTA : rT vn tA = [40, 39, 97, 32, 45, 62, 32, 39, 98, 41, 32, 45, 62, 32, 39, 97, 32, 108, 105, 115, 116] := by decide +kernel

abbrev exObjs (a : Nat) : List Obj := [
  .cells #[.int .u8 5, .string ⟨#[102]⟩, .int .i64 0, .bool false, .slice none 0 0, .slice none 0 0, .int .u8 5, .string ⟨#[120]⟩, .int .i64 0, .bool false, .slice none 0 0, .slice none 0 0] 36,
  .cells #[.int .u8 11, .string ⟨#[]⟩, .int .i64 0, .bool false, .slice none 0 0, .slice (some ⟨a, 0, none⟩) 2 2, .int .u8 1, .string ⟨#[]⟩, .int .i64 1, .bool false, .slice none 0 0, .slice none 0 0] 36,
  .cells #[.int .u8 17, .string ⟨#[43]⟩, .int .i64 0, .bool false, .slice none 0 0, .slice (some ⟨a + 1, 0, none⟩) 2 2] 36,
  .cells #[.string ⟨#[]⟩, .int .i64 1, .slice none 0 0, .string ⟨#[]⟩, .int .i64 2, .slice none 0 0] 24,
  .cells #[.string ⟨#[]⟩, .int .i64 1, .slice none 0 0] 24,
  .cells #[.string ⟨#[45, 62]⟩, .int .i64 0, .slice (some ⟨a + 3, 0, none⟩) 2 2, .string ⟨#[108, 105, 115, 116]⟩, .int .i64 0, .slice (some ⟨a + 4, 0, none⟩) 1 1] 24,
  .cells #[.string ⟨#[45, 62]⟩, .int .i64 0, .slice (some ⟨a + 5, 0, none⟩) 2 2] 24]

theorem exA (w : World) : ExV (w.heap.size + 7) (allocs w (exObjs w.heap.size)) xA 17 ⟨#[43]⟩ 0 (some ⟨w.heap.size + 1, 0, none⟩) 2 2 := by
  have h0 := allocs_at w (exObjs w.heap.size) 0 _ rfl
  have h1 := allocs_at w (exObjs w.heap.size) 1 _ rfl
  have c0 := fun j => cell_of_row _ _ j _ _ _ h0
  have c1 := fun j => cell_of_row _ _ j _ _ _ h1
  rw [Nat.add_zero] at c0
  refine ⟨rfl, rfl, rfl, by simp, _, _, rfl, rfl, by omega, ⟨_, _, _, _, _, _, ⟨c1 0, c1 1, c1 2, c1 3, c1 4, c1 5⟩, rfl, rfl, rfl, _, _, rfl, rfl, by omega, ?_, ?_⟩, ⟨_, _, _, _, _, _, ⟨c1 6, c1 7, c1 8, c1 9, c1 10, c1 11⟩, rfl, rfl, rfl, rfl, rfl, rfl, by omega⟩⟩
  · exact ⟨_, _, _, _, _, _, ⟨c0 0, c0 1, c0 2, c0 3, c0 4, c0 5⟩, rfl, rfl, rfl, rfl, rfl, rfl⟩
  · exact ⟨_, _, _, _, _, _, ⟨c0 6, c0 7, c0 8, c0 9, c0 10, c0 11⟩, rfl, rfl, rfl, rfl, rfl, rfl⟩

theorem tyA (w : World) : TyV (w.heap.size + 7) (allocs w (exObjs w.heap.size)) tA (.string ⟨#[45, 62]⟩) (.int .i64 0) (.slice (some ⟨w.heap.size + 5, 0, none⟩) 2 2) := by
  have c3 := fun j => cell_of_row _ _ j _ _ _ (allocs_at w (exObjs w.heap.size) 3 _ rfl)
  have c4 := fun j => cell_of_row _ _ j _ _ _ (allocs_at w (exObjs w.heap.size) 4 _ rfl)
  have c5 := fun j => cell_of_row _ _ j _ _ _ (allocs_at w (exObjs w.heap.size) 5 _ rfl)
  refine ⟨rfl, rfl, by omega, by omega, _, _, rfl, .inr ⟨_, _, rfl, by omega, Nat.le_refl _, by unfold maxLen; simp, ⟨_, _, _, c5 0, c5 1, c5 2, ?_⟩, ⟨_, _, _, c5 3, c5 4, c5 5, ?_⟩, trivial⟩⟩
  · exact ⟨rfl, rfl, by omega, by omega, _, _, rfl, .inr ⟨_, _, rfl, by omega, Nat.le_refl _, by unfold maxLen; simp, ⟨_, _, _, c3 0, c3 1, c3 2, rfl, rfl, by omega, by omega, _, _, rfl, .inl rfl⟩, ⟨_, _, _, c3 3, c3 4, c3 5, rfl, rfl, by omega, by omega, _, _, rfl, .inl rfl⟩, trivial⟩⟩
  · exact ⟨rfl, rfl, by omega, by omega, _, _, rfl, .inr ⟨_, _, rfl, by omega, Nat.le_refl _, by unfold maxLen; simp, ⟨_, _, _, c4 0, c4 1, c4 2, rfl, rfl, by omega, by omega, _, _, rfl, .inl rfl⟩, trivial⟩⟩

set_option maxRecDepth 100000 in
set_option maxHeartbeats 4000000 in
theorem awake (w : World) (ht : Tab w) : Calls Tryd.prog 9 #[] w fun e w' => e = .returned (.bool true) ∧ Below w.heap.size w w' := by
  obtain ⟨wA, hA⟩ : ∃ wA, wA = allocs w (exObjs w.heap.size) := ⟨_, rfl⟩
  have hbA : Below w.heap.size w wA := by rw [hA]; exact allocs_below _ _
  have hsz : wA.heap.size = w.heap.size + 7 := by rw [hA]; exact allocs_size _ _
  have hE := exprs_any (w.heap.size + 7) xA 17 ⟨#[43]⟩ 0 (some ⟨w.heap.size + 1, 0, none⟩) 2 2 wA (by rw [hA]; exact exA w) (by omega) (by decide) (by rw [rA]; simp)
  rw [rA] at hE
  have hT : ∀ W, Below wA.heap.size wA W → Calls Tryd.prog 10 #[.agg #[.string ⟨#[45, 62]⟩, .int .i64 0, .slice (some ⟨w.heap.size + 5, 0, none⟩) 2 2]] W (TextPost W (rT vn tA)) := fun W hW =>
    type_any (w.heap.size + 7) tA _ _ _ _ _ W ⟨TyV.below (hW.mono (by omega)) _ (by rw [hA]; exact tyA w), by have := hW.size; omega, (fun W' hW' => tabN_of ht W' (hbA.trans ((hW.mono hbA.size).trans (hW'.mono (by omega))))), by decide, by decide⟩ (by rw [rTA]; simp)
  rw [rTA] at hT
  have hx := (allocs_at w (exObjs w.heap.size) 2 _ rfl)
  have hy := (allocs_at w (exObjs w.heap.size) 6 _ rfl)
  rw [← hA] at hx hy
  have HE := Lib.hid hE
  have HT := Lib.hid hT
  have HB := Lib.hid hbA
  have HA := Lib.hid hA
  have HS := Lib.hid hsz
  have HY := Lib.hid hy
  clear hbA hsz hE hT hA ht hx hy
  go_enter Tryd.func9, Tryd.ntmps9
  go_wp2_with fail
  obtain rfl := HA.out
  go_at_call 19
  refine (HE.out).mono ?_
  rintro e w1 ⟨rfl, hb⟩
  have HT1 := Lib.hid (HT.out w1 hb)
  have HB1 := Lib.hid (HB.out.trans (hb.mono HB.out.size))
  have hy1 := (hb.block _ (by rw [HS.out]; omega)).trans HY.out
  have a0 := cell_of_row _ _ 0 _ _ _ hy1
  have a1 := cell_of_row _ _ 1 _ _ _ hy1
  have a2 := cell_of_row _ _ 2 _ _ _ hy1
  clear hb hy1 HT HE
  go_wp2_with fail
  go_at_call 10
  refine (HT1.out).mono ?_
  rintro e w2 ⟨rfl, hb⟩
  have HB2 := Lib.hid (HB1.out.trans (hb.mono HB1.out.size))
  clear hb
  go_wp2_with fail
  go_ret
  exact ⟨rfl, HB2.out⟩
end Go.Proofs.YtiimofdbconlhaaDoor
