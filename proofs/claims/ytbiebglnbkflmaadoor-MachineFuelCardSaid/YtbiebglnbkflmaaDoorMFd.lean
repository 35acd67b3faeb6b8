/- MachineFuel: MacAO, LFuel. -/
import Derived.Test.YtbiebglnbkflmaaDoorMacZ
import Derived.Test.YtbiebglnbkflmaaDoorMFc
import Derived.Test.YtbiebglnbkflmaaDoorMFa
import Derived.Test.YtbiebglnbkflmaaDoorMFb
namespace Go.Proofs.YtbiebglnbkflmaaDoor
open Go.RowKit HeaM Ma

def FS (k : Nat) : List CodM.Fun := [⟨0, bodyI⟩, ⟨0, mainI k⟩]

theorem chkF (k : Nat) : CodM.chk (FS k) 0 = true := by
  refine CodM.chk_true fun f hf => ?_
  rcases List.mem_cons.1 hf with rfl | hf
  · refine ⟨by show (0 : Int) ≤ 0; omega, fun i => if i = 0 then some (1, 0) else if i = 1 then some (2, 0) else if i = 2 then some (1, 0) else if i = 3 then some (2, 0) else if i = 4 then some (3, 0) else if i = 5 then some (4, 0) else if i = 6 then some (3, 0) else if i = 7 then some (2, 0) else if i = 8 then some (1, 0) else if i = 9 then some (2, 0) else none, rfl, fun i d t hi => ?_⟩
    by_cases i0 : i = 0
    · subst i0
      simp at hi
      obtain ⟨rfl, rfl⟩ := hi
      refine ⟨_, rfl, by simp [CodM.alw, CodM.nm, CodM.tk], fun s hs => ?_⟩
      simp [CodM.succ, CodM.lv, CodM.tk] at hs
      all_goals first | (subst hs; exact ⟨by decide, rfl⟩) | (rcases hs with rfl | rfl <;> exact ⟨by decide, rfl⟩)
    by_cases i1 : i = 1
    · subst i1
      simp at hi
      obtain ⟨rfl, rfl⟩ := hi
      refine ⟨_, rfl, by simp [CodM.alw, CodM.nm, CodM.tk], fun s hs => ?_⟩
      simp [CodM.succ] at hs
      all_goals first | (subst hs; exact ⟨by decide, rfl⟩) | (rcases hs with rfl | rfl <;> exact ⟨by decide, rfl⟩)
    by_cases i2 : i = 2
    · subst i2
      simp at hi
      obtain ⟨rfl, rfl⟩ := hi
      refine ⟨_, rfl, by simp [CodM.alw, CodM.nm, CodM.tk], fun s hs => ?_⟩
      simp [CodM.succ, CodM.lv, CodM.tk] at hs
      all_goals first | (subst hs; exact ⟨by decide, rfl⟩) | (rcases hs with rfl | rfl <;> exact ⟨by decide, rfl⟩)
    by_cases i3 : i = 3
    · subst i3
      simp at hi
      obtain ⟨rfl, rfl⟩ := hi
      refine ⟨_, rfl, by simp [CodM.alw, CodM.nm, CodM.tk], fun s hs => ?_⟩
      simp [CodM.succ, CodM.lv, CodM.tk] at hs
      all_goals first | (subst hs; exact ⟨by decide, rfl⟩) | (rcases hs with rfl | rfl <;> exact ⟨by decide, rfl⟩)
    by_cases i4 : i = 4
    · subst i4
      simp at hi
      obtain ⟨rfl, rfl⟩ := hi
      refine ⟨_, rfl, by simp [CodM.alw, CodM.nm, CodM.tk], fun s hs => ?_⟩
      simp [CodM.succ, CodM.lv, CodM.tk] at hs
      all_goals first | (subst hs; exact ⟨by decide, rfl⟩) | (rcases hs with rfl | rfl <;> exact ⟨by decide, rfl⟩)
    by_cases i5 : i = 5
    · subst i5
      simp at hi
      obtain ⟨rfl, rfl⟩ := hi
      refine ⟨_, rfl, by simp [CodM.alw, CodM.nm, CodM.tk], fun s hs => ?_⟩
      simp [CodM.succ, CodM.lv, CodM.tk] at hs
      all_goals first | (subst hs; exact ⟨by decide, rfl⟩) | (rcases hs with rfl | rfl <;> exact ⟨by decide, rfl⟩)
    by_cases i6 : i = 6
    · subst i6
      simp at hi
      obtain ⟨rfl, rfl⟩ := hi
      refine ⟨_, rfl, by simp [CodM.alw, CodM.nm, CodM.tk], fun s hs => ?_⟩
      simp [CodM.succ, CodM.lv, CodM.tk] at hs
      all_goals first | (subst hs; exact ⟨by decide, rfl⟩) | (rcases hs with rfl | rfl <;> exact ⟨by decide, rfl⟩)
    by_cases i7 : i = 7
    · subst i7
      simp at hi
      obtain ⟨rfl, rfl⟩ := hi
      refine ⟨_, rfl, by simp [CodM.alw, CodM.nm], fun s hs => ?_⟩
      simp [CodM.succ] at hs
      all_goals first | (subst hs; exact ⟨by decide, rfl⟩) | (rcases hs with rfl | rfl <;> exact ⟨by decide, rfl⟩)
    by_cases i8 : i = 8
    · subst i8
      simp at hi
      obtain ⟨rfl, rfl⟩ := hi
      refine ⟨_, rfl, by simp [CodM.alw, CodM.nm, CodM.tk], fun s hs => ?_⟩
      simp [CodM.succ, CodM.lv, CodM.tk] at hs
      all_goals first | (subst hs; exact ⟨by decide, rfl⟩) | (rcases hs with rfl | rfl <;> exact ⟨by decide, rfl⟩)
    by_cases i9 : i = 9
    · subst i9
      simp at hi
      obtain ⟨rfl, rfl⟩ := hi
      refine ⟨_, rfl, by simp [CodM.alw, CodM.nm], fun s hs => ?_⟩
      simp [CodM.succ] at hs
      all_goals first | (subst hs; exact ⟨by decide, rfl⟩) | (rcases hs with rfl | rfl <;> exact ⟨by decide, rfl⟩)
    simp [i0, i1, i2, i3, i4, i5, i6, i7, i8, i9] at hi
  · obtain rfl := List.mem_singleton.1 hf
    refine ⟨by show (0 : Int) ≤ 0; omega, fun i => if i = 0 then some (1, 0) else if i = 1 then some (2, 0) else if i = 2 then some (3, 0) else if i = 3 then some (2, 0) else none, rfl, fun i d t hi => ?_⟩
    by_cases i0 : i = 0
    · subst i0
      simp at hi
      obtain ⟨rfl, rfl⟩ := hi
      refine ⟨_, rfl, by simp [CodM.alw, CodM.nm, CodM.tk, FS, bodyI, mainI], fun s hs => ?_⟩
      simp [CodM.succ, CodM.lv, CodM.tk] at hs
      all_goals first | (subst hs; exact ⟨by decide, rfl⟩) | (rcases hs with rfl | rfl <;> exact ⟨by decide, rfl⟩)
    by_cases i1 : i = 1
    · subst i1
      simp at hi
      obtain ⟨rfl, rfl⟩ := hi
      refine ⟨_, rfl, by simp [CodM.alw, CodM.nm, CodM.tk], fun s hs => ?_⟩
      simp [CodM.succ, CodM.lv, CodM.tk] at hs
      all_goals first | (subst hs; exact ⟨by decide, rfl⟩) | (rcases hs with rfl | rfl <;> exact ⟨by decide, rfl⟩)
    by_cases i2 : i = 2
    · subst i2
      simp at hi
      obtain ⟨rfl, rfl⟩ := hi
      refine ⟨_, rfl, by simp [CodM.alw, CodM.nm, CodM.tk], fun s hs => ?_⟩
      simp [CodM.succ, CodM.lv, CodM.tk] at hs
      all_goals first | (subst hs; exact ⟨by decide, rfl⟩) | (rcases hs with rfl | rfl <;> exact ⟨by decide, rfl⟩)
    by_cases i3 : i = 3
    · subst i3
      simp at hi
      obtain ⟨rfl, rfl⟩ := hi
      refine ⟨_, rfl, by simp [CodM.alw, CodM.nm], fun s hs => ?_⟩
      simp [CodM.succ] at hs
      all_goals first | (subst hs; exact ⟨by decide, rfl⟩) | (rcases hs with rfl | rfl <;> exact ⟨by decide, rfl⟩)
    simp [i0, i1, i2, i3] at hi

theorem fuel_do (k : Nat) : ∀ g ∈ (mcF k).funs, ∀ x ∈ g.code, ∀ C : Cx, C.m = mcF k → DoP NoPrim C x := by
  intro g hg x hx C _
  rcases fuel_ops k g hg x hx with ⟨n, a, s, rfl⟩ | ⟨n, a, s, rfl⟩ | ⟨n, a, s, rfl⟩ | ⟨n, a, s, rfl⟩ | ⟨n, a, s, rfl⟩ | ⟨n, a, s, rfl⟩ | ⟨n, a, s, rfl⟩ | ⟨a, s, rfl⟩
  · exact (dc_int C n a s).p
  · exact (dc_local C n a s).p
  · exact (dc_self C n a s).p
  · exact (dc_clos C n a s).p
  · exact dp_call C n a s
  · exact (dc_ret C n a s).p
  · exact (dc_false C n a s).p
  · exact (dc_op C 1 a s).p

theorem fuel_fin (k : Nat) (w : World) : FIn (((w.alloc (.cells #[.int .u8 2, .int .i64 0, .int .i64 0, .string ⟨#[]⟩, .int .u8 13, .int .i64 8, .int .i64 0, .string ⟨#[]⟩, .int .u8 4, .int .i64 0, .int .i64 0, .string ⟨#[]⟩, .int .u8 2, .int .i64 0, .int .i64 0, .string ⟨#[]⟩, .int .u8 0, .int .i64 1, .int .i64 0, .string ⟨#[]⟩, .int .u8 20, .int .i64 1, .int .i64 0, .string ⟨#[]⟩, .int .u8 7, .int .i64 0, .int .i64 0, .string ⟨#[]⟩, .int .u8 8, .int .i64 0, .int .i64 0, .string ⟨#[]⟩, .int .u8 0, .int .i64 7, .int .i64 0, .string ⟨#[]⟩, .int .u8 8, .int .i64 0, .int .i64 0, .string ⟨#[]⟩] 34)).alloc (.cells #[.int .u8 6, .int .i64 0, .int .i64 0, .string ⟨#[]⟩, .int .u8 0, .int .i64 (k : Int), .int .i64 0, .string ⟨#[]⟩, .int .u8 7, .int .i64 0, .int .i64 0, .string ⟨#[]⟩, .int .u8 8, .int .i64 0, .int .i64 0, .string ⟨#[]⟩] 34)).alloc (.cells #[.int .i64 0, .slice (some ⟨w.heap.size, 0, none⟩) 10 10, .int .i64 0, .slice (some ⟨w.heap.size + 1, 0, none⟩) 4 4] 50)) (w.heap.size + 1 + 1) 0 (FS k) [(0, .slice (some ⟨w.heap.size, 0, none⟩) 10 10), (0, .slice (some ⟨w.heap.size + 1, 0, none⟩) 4 4)] ∧ Below w.heap.size w (((w.alloc (.cells #[.int .u8 2, .int .i64 0, .int .i64 0, .string ⟨#[]⟩, .int .u8 13, .int .i64 8, .int .i64 0, .string ⟨#[]⟩, .int .u8 4, .int .i64 0, .int .i64 0, .string ⟨#[]⟩, .int .u8 2, .int .i64 0, .int .i64 0, .string ⟨#[]⟩, .int .u8 0, .int .i64 1, .int .i64 0, .string ⟨#[]⟩, .int .u8 20, .int .i64 1, .int .i64 0, .string ⟨#[]⟩, .int .u8 7, .int .i64 0, .int .i64 0, .string ⟨#[]⟩, .int .u8 8, .int .i64 0, .int .i64 0, .string ⟨#[]⟩, .int .u8 0, .int .i64 7, .int .i64 0, .string ⟨#[]⟩, .int .u8 8, .int .i64 0, .int .i64 0, .string ⟨#[]⟩] 34)).alloc (.cells #[.int .u8 6, .int .i64 0, .int .i64 0, .string ⟨#[]⟩, .int .u8 0, .int .i64 (k : Int), .int .i64 0, .string ⟨#[]⟩, .int .u8 7, .int .i64 0, .int .i64 0, .string ⟨#[]⟩, .int .u8 8, .int .i64 0, .int .i64 0, .string ⟨#[]⟩] 34)).alloc (.cells #[.int .i64 0, .slice (some ⟨w.heap.size, 0, none⟩) 10 10, .int .i64 0, .slice (some ⟨w.heap.size + 1, 0, none⟩) 4 4] 50)) := by
  have hA : Below w.heap.size w (w.alloc (.cells #[.int .u8 2, .int .i64 0, .int .i64 0, .string ⟨#[]⟩, .int .u8 13, .int .i64 8, .int .i64 0, .string ⟨#[]⟩, .int .u8 4, .int .i64 0, .int .i64 0, .string ⟨#[]⟩, .int .u8 2, .int .i64 0, .int .i64 0, .string ⟨#[]⟩, .int .u8 0, .int .i64 1, .int .i64 0, .string ⟨#[]⟩, .int .u8 20, .int .i64 1, .int .i64 0, .string ⟨#[]⟩, .int .u8 7, .int .i64 0, .int .i64 0, .string ⟨#[]⟩, .int .u8 8, .int .i64 0, .int .i64 0, .string ⟨#[]⟩, .int .u8 0, .int .i64 7, .int .i64 0, .string ⟨#[]⟩, .int .u8 8, .int .i64 0, .int .i64 0, .string ⟨#[]⟩] 34)) := (Below.refl _ _).alloc (Nat.le_refl _) _
  have zA := heap_alloc_new w (.cells #[.int .u8 2, .int .i64 0, .int .i64 0, .string ⟨#[]⟩, .int .u8 13, .int .i64 8, .int .i64 0, .string ⟨#[]⟩, .int .u8 4, .int .i64 0, .int .i64 0, .string ⟨#[]⟩, .int .u8 2, .int .i64 0, .int .i64 0, .string ⟨#[]⟩, .int .u8 0, .int .i64 1, .int .i64 0, .string ⟨#[]⟩, .int .u8 20, .int .i64 1, .int .i64 0, .string ⟨#[]⟩, .int .u8 7, .int .i64 0, .int .i64 0, .string ⟨#[]⟩, .int .u8 8, .int .i64 0, .int .i64 0, .string ⟨#[]⟩, .int .u8 0, .int .i64 7, .int .i64 0, .string ⟨#[]⟩, .int .u8 8, .int .i64 0, .int .i64 0, .string ⟨#[]⟩] 34)
  have sA : (w.alloc (.cells #[.int .u8 2, .int .i64 0, .int .i64 0, .string ⟨#[]⟩, .int .u8 13, .int .i64 8, .int .i64 0, .string ⟨#[]⟩, .int .u8 4, .int .i64 0, .int .i64 0, .string ⟨#[]⟩, .int .u8 2, .int .i64 0, .int .i64 0, .string ⟨#[]⟩, .int .u8 0, .int .i64 1, .int .i64 0, .string ⟨#[]⟩, .int .u8 20, .int .i64 1, .int .i64 0, .string ⟨#[]⟩, .int .u8 7, .int .i64 0, .int .i64 0, .string ⟨#[]⟩, .int .u8 8, .int .i64 0, .int .i64 0, .string ⟨#[]⟩, .int .u8 0, .int .i64 7, .int .i64 0, .string ⟨#[]⟩, .int .u8 8, .int .i64 0, .int .i64 0, .string ⟨#[]⟩] 34)).heap.size = w.heap.size + 1 := by simp
  generalize (w.alloc (.cells #[.int .u8 2, .int .i64 0, .int .i64 0, .string ⟨#[]⟩, .int .u8 13, .int .i64 8, .int .i64 0, .string ⟨#[]⟩, .int .u8 4, .int .i64 0, .int .i64 0, .string ⟨#[]⟩, .int .u8 2, .int .i64 0, .int .i64 0, .string ⟨#[]⟩, .int .u8 0, .int .i64 1, .int .i64 0, .string ⟨#[]⟩, .int .u8 20, .int .i64 1, .int .i64 0, .string ⟨#[]⟩, .int .u8 7, .int .i64 0, .int .i64 0, .string ⟨#[]⟩, .int .u8 8, .int .i64 0, .int .i64 0, .string ⟨#[]⟩, .int .u8 0, .int .i64 7, .int .i64 0, .string ⟨#[]⟩, .int .u8 8, .int .i64 0, .int .i64 0, .string ⟨#[]⟩] 34)) = wA at *
  have hB : Below wA.heap.size wA (wA.alloc (.cells #[.int .u8 6, .int .i64 0, .int .i64 0, .string ⟨#[]⟩, .int .u8 0, .int .i64 (k : Int), .int .i64 0, .string ⟨#[]⟩, .int .u8 7, .int .i64 0, .int .i64 0, .string ⟨#[]⟩, .int .u8 8, .int .i64 0, .int .i64 0, .string ⟨#[]⟩] 34)) := (Below.refl _ _).alloc (Nat.le_refl _) _
  have zB := heap_alloc_new wA (.cells #[.int .u8 6, .int .i64 0, .int .i64 0, .string ⟨#[]⟩, .int .u8 0, .int .i64 (k : Int), .int .i64 0, .string ⟨#[]⟩, .int .u8 7, .int .i64 0, .int .i64 0, .string ⟨#[]⟩, .int .u8 8, .int .i64 0, .int .i64 0, .string ⟨#[]⟩] 34)
  have sB : (wA.alloc (.cells #[.int .u8 6, .int .i64 0, .int .i64 0, .string ⟨#[]⟩, .int .u8 0, .int .i64 (k : Int), .int .i64 0, .string ⟨#[]⟩, .int .u8 7, .int .i64 0, .int .i64 0, .string ⟨#[]⟩, .int .u8 8, .int .i64 0, .int .i64 0, .string ⟨#[]⟩] 34)).heap.size = wA.heap.size + 1 := by simp
  generalize (wA.alloc (.cells #[.int .u8 6, .int .i64 0, .int .i64 0, .string ⟨#[]⟩, .int .u8 0, .int .i64 (k : Int), .int .i64 0, .string ⟨#[]⟩, .int .u8 7, .int .i64 0, .int .i64 0, .string ⟨#[]⟩, .int .u8 8, .int .i64 0, .int .i64 0, .string ⟨#[]⟩] 34)) = wB at *
  have hC : Below wB.heap.size wB (wB.alloc (.cells #[.int .i64 0, .slice (some ⟨w.heap.size, 0, none⟩) 10 10, .int .i64 0, .slice (some ⟨w.heap.size + 1, 0, none⟩) 4 4] 50)) := (Below.refl _ _).alloc (Nat.le_refl _) _
  have zC := heap_alloc_new wB (.cells #[.int .i64 0, .slice (some ⟨w.heap.size, 0, none⟩) 10 10, .int .i64 0, .slice (some ⟨w.heap.size + 1, 0, none⟩) 4 4] 50)
  generalize (wB.alloc (.cells #[.int .i64 0, .slice (some ⟨w.heap.size, 0, none⟩) 10 10, .int .i64 0, .slice (some ⟨w.heap.size + 1, 0, none⟩) 4 4] 50)) = wC at *
  rw [sB, sA] at zC
  rw [sA] at zB
  have c := fun j => cell_of_row wC (w.heap.size + 1 + 1) j _ _ (0, 0) zC
  have iA : Oc.InsC wC w.heap.size 0 bodyI := Oc.InsC.below (Oc.InsC.below (insC_lit (l := bodyI) zA) hB (Nat.le_refl _)) hC (Nat.le_refl _)
  have iB : Oc.InsC wC (w.heap.size + 1) 0 (mainI k) := Oc.InsC.below (insC_lit (l := mainI k) zB) hC (Nat.le_refl _)
  refine ⟨⟨rfl, fun j p hp => ?_, fun j f hf => ?_⟩, hA.trans ((hB.mono (by omega)).trans (hC.mono (by omega)))⟩
  · have hj : j < 2 := (List.getElem?_eq_some_iff.1 hp).1
    rcases j with _ | _ | j
    · simp at hp
      subst hp
      exact ⟨(c 0).trans rfl, (c 1).trans rfl⟩
    · simp at hp
      subst hp
      exact ⟨(c 2).trans rfl, (c 3).trans rfl⟩
    · omega
  · have hj : j < 2 := (List.getElem?_eq_some_iff.1 hf).1
    rcases j with _ | _ | j
    · simp [FS] at hf
      subst hf
      exact ⟨_, _, 10, rfl, by decide, by decide, by unfold maxLen; omega, iA⟩
    · simp [FS] at hf
      subst hf
      exact ⟨_, _, 4, rfl, by show 0 < 4; omega, by show 4 ≤ 4; omega, by unfold maxLen; omega, iB⟩
    · omega

set_option maxHeartbeats 4000000 in
set_option maxRecDepth 100000 in
theorem fuel_walk (a b : Int) (w : World) (ha : 0 ≤ a) (ha' : a ≤ 65535) (hb : 0 ≤ b) (hb' : b ≤ 65535) :
    Calls Tryd.prog 7 #[.int .u16 a, .int .u16 b] w fun e w' => e = .returned (.bool true) ∧ Below w.heap.size w w' := by
  obtain ⟨k, hk⟩ : ∃ k : Nat, a % 1500 = (k : Int) := ⟨(a % 1500).toNat, by omega⟩
  obtain ⟨f, hf⟩ : ∃ f : Nat, b % 2000 = (f : Int) := ⟨(b % 2000).toNat, by omega⟩
  have hk5 : (k : Int) < 1500 := by omega
  have hf5 : (f : Int) < 2000 := by omega
  have HAW := Lib.hid fun w => lawake w
  have HN := Lib.hid fun W => new_mach 0 2000 0 W (by omega) (by omega) (by omega) (by omega)
  go_enter Tryd.func7, Tryd.ntmps7
  go_wp2_with fail
  refine (HAW.out _).mono ?_
  rintro e w1 ⟨rfl, hb1'⟩
  have HB1 := Lib.hid hb1'
  clear hb1'
  go_wp2_with fail
  rw [hk, hf]
  refine (HN.out _).mono ?_
  rintro e w2 ⟨M, H, vg, v1, v2, rfl, hE, hb2, hM, hH⟩
  have HE := Lib.hid hE
  have HB2 := Lib.hid (HB1.out.trans (hb2.mono HB1.out.size))
  clear hE hb2 HN
  go_wp2_with fail
  obtain ⟨hfi, hb3⟩ := fuel_fin k w2
  have hadd := add_t (cp := 2) (FS k) _ (HE.out.below hb3) hfi (by show 2 ≤ 1000; omega) (by show 0 < 2; omega) (by show 2 ≤ 2; omega) (by unfold maxLen; omega) (by
    intro g hg
    rcases List.mem_cons.1 hg with rfl | hg
    · show 10 ≤ 100000; omega
    · obtain rfl := List.mem_singleton.1 hg
      show 4 ≤ 100000; omega) (chkF k)
  have HADD := Lib.hid hadd
  have HB3 := Lib.hid (HB2.out.trans (hb3.mono HB2.out.size))
  have hs3 := hb3.size
  clear hadd hfi hb3
  generalize (((w2.alloc (.cells #[.int .u8 2, .int .i64 0, .int .i64 0, .string ⟨#[]⟩, .int .u8 13, .int .i64 8, .int .i64 0, .string ⟨#[]⟩, .int .u8 4, .int .i64 0, .int .i64 0, .string ⟨#[]⟩, .int .u8 2, .int .i64 0, .int .i64 0, .string ⟨#[]⟩, .int .u8 0, .int .i64 1, .int .i64 0, .string ⟨#[]⟩, .int .u8 20, .int .i64 1, .int .i64 0, .string ⟨#[]⟩, .int .u8 7, .int .i64 0, .int .i64 0, .string ⟨#[]⟩, .int .u8 8, .int .i64 0, .int .i64 0, .string ⟨#[]⟩, .int .u8 0, .int .i64 7, .int .i64 0, .string ⟨#[]⟩, .int .u8 8, .int .i64 0, .int .i64 0, .string ⟨#[]⟩] 34)).alloc (.cells #[.int .u8 6, .int .i64 0, .int .i64 0, .string ⟨#[]⟩, .int .u8 0, .int .i64 (k : Int), .int .i64 0, .string ⟨#[]⟩, .int .u8 7, .int .i64 0, .int .i64 0, .string ⟨#[]⟩, .int .u8 8, .int .i64 0, .int .i64 0, .string ⟨#[]⟩] 34)).alloc (.cells #[.int .i64 0, .slice (some ⟨w2.heap.size, 0, none⟩) 10 10, .int .i64 0, .slice (some ⟨w2.heap.size + 1, 0, none⟩) 4 4] 50)) = w3 at *
  refine HADD.out.mono ?_
  rintro e w4 ⟨rfl, vf, hE4, hk4⟩
  have hb4 : Below w.heap.size w w4 := HB3.out.trans (hk4.below HB3.out.size fun q e => by have := HB1.out.size; omega)
  have hM4 : w.heap.size ≤ M := by have := HB1.out.size; omega
  have hH4 : w.heap.size ≤ H := by have := HB1.out.size; omega
  have HB4 := Lib.hid hb4
  have hown : ∀ q, three H v1 v2 q → w.heap.size ≤ q := by
    rintro q (e | e | e)
    · omega
    · have := (hE4.heap.own1.lt _ e).1; have := HB1.out.size; omega
    · have := (hE4.heap.own2.lt _ e).1; have := HB1.out.size; omega
  have HOWN := Lib.hid hown
  have HE4 := Lib.hid hE4
  clear hb4 hE4 hk4 hown
  have hend : ∃ (K e : Nat) (s' : Ms), Ma.runN (mcF k) K (sF f) = some (e, s') ∧ s'.raised = [] ∧ s'.out = [] ∧ ((f < k + 1 ∧ e = 10 ∧ s'.fuel = 0 ∧ s'.result = 0) ∨ (k + 1 ≤ f ∧ e = 0 ∧ s'.fuel = f - (k + 1) ∧ s'.result = 15)) := by
    by_cases hfk : f < k + 1
    · obtain ⟨K, stk, frs, h⟩ := fuel_out k f (by omega) hfk
      exact ⟨K, 10, _, h, rfl, rfl, .inl ⟨hfk, rfl, rfl, rfl⟩⟩
    · obtain ⟨K, h⟩ := fuel_ok k f (by omega) (by omega)
      exact ⟨K, 0, _, h, rfl, rfl, .inr ⟨by omega, rfl, rfl, rfl⟩⟩
  obtain ⟨K, e, s', hr, hra, hou, hcase⟩ := hend
  have hrun : Calls Tryd.prog 18 #[.pointer (some ⟨M, 0, none⟩), .int .i64 ((1 : Nat) : Int), .int .i64 (f : Int), .int .i64 ((0 : Nat) : Int), .int .i64 ((0 : Nat) : Int)] w4 (RunPost w4 v1 v2 M H w1.heap.size 0 vf vg (mcF k) s' e) :=
    run_tp (fn := 1) (fuel := f) (room := 0) (k := K) NoPrim (m := mcF k) (W := []) (F := []) HE4.out (by omega) (by omega) (by show 0 ≤ _; omega) ⟨0, mainI k⟩ rfl rfl (fuel_do k) (np_step k) (fun st g gs h hp => np_at g gs h hp) ⟨fun v hv => by
      obtain rfl := List.mem_singleton.1 hv
      trivial, fun g hg => by
      obtain rfl := List.mem_singleton.1 hg
      trivial⟩ hr
  have HRUN := Lib.hid hrun
  have HN7 : Hid (∀ w : World, Calls Tryd.prog 12 #[.int .i64 7] w fun e w' => e = .returned (.int .u64 15) ∧ w = w') := fun w => num_t 7 w
  clear hrun hr HE4 HADD HE HAW HB1 HB2 HB3
  go_wp2_with fail
  refine HRUN.out.mono ?_
  rintro e5 w5 ⟨vm, rfl, ⟨b0, hmv⟩, hk5', _⟩
  obtain ⟨om, km, rfl, _⟩ := own_slice hmv
  have hb5 : Below w.heap.size w w5 := HB4.out.trans (hk5'.below HB4.out.size (by
    rintro q (a | a)
    · exact HOWN.out q a
    · omega))
  have HB5 := Lib.hid hb5
  clear hb5 hk5' hmv HRUN HOWN HB4
  rw [hra, hou]
  generalize s'.done.length = dl at *
  rcases hcase with ⟨hfk, rfl, hfu, hre⟩ | ⟨hfk, rfl, hfu, hre⟩
  all_goals
    rw [hfu, hre]
  · have hlt : (f : Int) < (k : Int) + 1 := by omega
    clear hfu hre hra hou
    go_wp2_with fail
    go_ret
    exact ⟨rfl, HB5.out.alloc HB5.out.size _⟩
  · have hlt : ¬ (f : Int) < (k : Int) + 1 := by omega
    have ew1 : IntKind.i64.wrap ((f : Int) - (k : Int)) = (f : Int) - (k : Int) := IntWalk.i64_in _ (by omega)
    have ew2 : IntKind.i64.wrap ((f : Int) - (k : Int) - 1) = (f : Int) - (k : Int) - 1 := IntWalk.i64_in _ (by omega)
    rw [show ((f - (k + 1) : Nat) : Int) = (f : Int) - (k : Int) - 1 by omega]
    clear hfu hre hra hou
    go_wp2_with fail
    have hba := HB5.out.alloc HB5.out.size (.cells #[.int .i64 0, .int .u64 15, .string ⟨#[]⟩, .string ⟨#[]⟩, .slice om dl km, .int .i64 ((f : Int) - (k : Int) - 1)] 29)
    have hblk := heap_alloc_new w5 (.cells #[.int .i64 0, .int .u64 15, .string ⟨#[]⟩, .string ⟨#[]⟩, .slice om dl km, .int .i64 ((f : Int) - (k : Int) - 1)] 29)
    have t0 : (w5.alloc (.cells #[.int .i64 0, .int .u64 15, .string ⟨#[]⟩, .string ⟨#[]⟩, .slice om dl km, .int .i64 ((f : Int) - (k : Int) - 1)] 29)).cell? ⟨w5.heap.size, 0, none⟩ = some (.int .i64 0) := (cell_of_row _ w5.heap.size 0 _ _ (0, 0) hblk).trans rfl
    have t1 : (w5.alloc (.cells #[.int .i64 0, .int .u64 15, .string ⟨#[]⟩, .string ⟨#[]⟩, .slice om dl km, .int .i64 ((f : Int) - (k : Int) - 1)] 29)).cell? ⟨w5.heap.size, 1, none⟩ = some (.int .u64 15) := (cell_of_row _ w5.heap.size 1 _ _ (0, 0) hblk).trans rfl
    have t5 : (w5.alloc (.cells #[.int .i64 0, .int .u64 15, .string ⟨#[]⟩, .string ⟨#[]⟩, .slice om dl km, .int .i64 ((f : Int) - (k : Int) - 1)] 29)).cell? ⟨w5.heap.size, 5, none⟩ = some (.int .i64 ((f : Int) - (k : Int) - 1)) := (cell_of_row _ w5.heap.size 5 _ _ (0, 0) hblk).trans rfl
    have HBA := Lib.hid hba
    clear hba hblk
    generalize (w5.alloc (.cells #[.int .i64 0, .int .u64 15, .string ⟨#[]⟩, .string ⟨#[]⟩, .slice om dl km, .int .i64 ((f : Int) - (k : Int) - 1)] 29)) = w6 at *
    go_quiet (first
      | (go_at_call 12; exact Calls.quiet_of_same ((HN7.out _).mono fun _ _ h => ⟨h.1, h.2.symm⟩)))
    have HBZ : Hid (Below w.heap.size w (w6.drewN nq)) := HBA.out.trans (below_drewN _ _ _)
    generalize w6.drewN nq = w7 at *
    go_wp2
    go_ret
    exact ⟨rfl, HBZ.out⟩
end Go.Proofs.YtbiebglnbkflmaaDoor
