/- The law's examples; functions as the reference has them. -/
import Derived.Test.YthmnhacgcdcbiaaCodF
import Derived.Test.YthmnhacgcdcbiaaCodX
namespace CodM
def insLocal : Ins := ⟨2, 0, 0, ⟨#[]⟩⟩
def insRet : Ins := ⟨8, 0, 0, ⟨#[]⟩⟩
def funA : Fun := ⟨0, [insLocal, insRet]⟩
def funB : Fun := ⟨0, [insRet]⟩
theorem chkA : chk [funA] 0 = true := by
  refine chk_true fun f hf => ?_
  obtain rfl := List.mem_singleton.1 hf
  refine ⟨by decide, fun i => if i = 0 then some (1, 0) else if i = 1 then some (2, 0) else none, rfl, fun i d t hi => ?_⟩
  by_cases h0 : i = 0
  · subst h0
    simp at hi
    obtain ⟨rfl, rfl⟩ := hi
    refine ⟨insLocal, rfl, by decide, fun s hs => ?_⟩
    have : succ insLocal 0 1 0 = [(1, 2, 0)] := by decide
    rw [this] at hs
    obtain rfl := List.mem_singleton.1 hs
    exact ⟨by decide, rfl⟩
  · by_cases h1 : i = 1
    · subst h1
      simp at hi
      obtain ⟨rfl, rfl⟩ := hi
      refine ⟨insRet, rfl, by decide, fun s hs => ?_⟩
      have : succ insRet 1 2 0 = [] := by decide
      rw [this] at hs
      cases hs
    · simp [h0, h1] at hi
theorem chkB : chk [funB] 0 = false := by
  refine chk_false (f := funB) (by simp) ?_
  rintro ⟨_, F, hF⟩
  obtain ⟨x, hx, ha, _⟩ := hF.at_ 0 1 0 hF.zero
  have : x = insRet := by
    have h : funB.code[0]? = some insRet := rfl
    rw [h] at hx
    injection hx with hx
    exact hx.symm
  subst this
  have : alw [funB] 0 0 insRet 1 0 = false := by decide
  have e : funB.caps = 0 := rfl
  rw [e, this] at ha
  cases ha
end CodM
namespace Go.Proofs.Ythmnhacgcdcbiaa
open Go.RowKit OctM CodM

theorem rdF_one {w : World} {b c : Nat} {f : Fun} {v : Value} {t : TypeId} (h : w.heap[b]? = some (.cells #[.int .i64 f.caps, v] t (0, 0))) (hv : RdI w v f.code) (hc : 1 ≤ c) (hm : c ≤ maxLen) : RdF w (.slice (some ⟨b, 0, none⟩) 1 c) [f] := by
  refine .inr ⟨b, 0, c, rfl, by simp, hc, hm, fun j g hg => ?_⟩
  cases j with
  | zero =>
    simp at hg
    subst hg
    exact ⟨cellk h rfl, v, cellk h rfl, hv⟩
  | succ j => simp at hg
theorem rdI_two {w : World} {b : Nat} {x y : Ins} {t : TypeId} (h : w.heap[b]? = some (.cells #[.int .u8 (x.op : Int), .int .i64 x.n, .int .i64 x.a, .string x.s, .int .u8 (y.op : Int), .int .i64 y.n, .int .i64 y.a, .string y.s] t (0, 0))) : RdI w (.slice (some ⟨b, 0, none⟩) 2 2) [x, y] := by
  refine .inr ⟨b, 0, 2, rfl, by simp, by simp, by decide, fun j g hg => ?_⟩
  match j, hg with
  | 0, hg => simp at hg; subst hg; exact ⟨cellk h rfl, cellk h rfl, cellk h rfl, cellk h rfl⟩
  | 1, hg => simp at hg; subst hg; exact ⟨cellk h rfl, cellk h rfl, cellk h rfl, cellk h rfl⟩
  | n + 2, hg => simp at hg
theorem rdI_one {w : World} {b : Nat} {x : Ins} {t : TypeId} (h : w.heap[b]? = some (.cells #[.int .u8 (x.op : Int), .int .i64 x.n, .int .i64 x.a, .string x.s] t (0, 0))) : RdI w (.slice (some ⟨b, 0, none⟩) 1 1) [x] := by
  refine .inr ⟨b, 0, 1, rfl, by simp, by simp, by decide, fun j g hg => ?_⟩
  match j, hg with
  | 0, hg => simp at hg; subst hg; exact ⟨cellk h rfl, cellk h rfl, cellk h rfl, cellk h rfl⟩
  | n + 1, hg => simp at hg

theorem box4 (w : World) (o1 o2 o3 o4 : Obj) : (((((w.alloc o1).alloc o2).alloc o3).alloc o4)).heap[w.heap.size]? = some o1 ∧ (((((w.alloc o1).alloc o2).alloc o3).alloc o4)).heap[w.heap.size + 1]? = some o2 ∧ (((((w.alloc o1).alloc o2).alloc o3).alloc o4)).heap[w.heap.size + 2]? = some o3 ∧ (((((w.alloc o1).alloc o2).alloc o3).alloc o4)).heap[w.heap.size + 3]? = some o4 := by
  have s1 := heap_alloc_new w o1
  have s2 := heap_alloc_new (w.alloc o1) o2
  have s3 := heap_alloc_new ((w.alloc o1).alloc o2) o3
  have s4 := heap_alloc_new (((w.alloc o1).alloc o2).alloc o3) o4
  have e1 : (w.alloc o1).heap.size = w.heap.size + 1 := by simp
  have e2 : ((w.alloc o1).alloc o2).heap.size = w.heap.size + 2 := by simp
  have e3 : (((w.alloc o1).alloc o2).alloc o3).heap.size = w.heap.size + 3 := by simp
  rw [e1] at s2
  rw [e2] at s3
  rw [e3] at s4
  exact ⟨(Below.heap_alloc _ _ _ (by omega)).trans ((Below.heap_alloc _ _ _ (by omega)).trans ((Below.heap_alloc _ _ _ (by omega)).trans s1)), (Below.heap_alloc _ _ _ (by omega)).trans ((Below.heap_alloc _ _ _ (by omega)).trans s2), (Below.heap_alloc _ _ _ (by omega)).trans s3, s4⟩

set_option maxHeartbeats 4000000 in
set_option maxRecDepth 100000 in
theorem cawake (w : World) : Calls Try.prog 6 #[] w fun e w' => e = .returned (.bool true) ∧ Below w.heap.size w w' := by
  have hb := box4 w (.cells #[.int .u8 2, .int .i64 0, .int .i64 0, .string ⟨#[]⟩, .int .u8 8, .int .i64 0, .int .i64 0, .string ⟨#[]⟩] 34) (.cells #[.int .i64 0, .slice (some ⟨w.heap.size, 0, none⟩) 2 2] 32) (.cells #[.int .u8 8, .int .i64 0, .int .i64 0, .string ⟨#[]⟩] 34) (.cells #[.int .i64 0, .slice (some ⟨w.heap.size + 2, 0, none⟩) 1 1] 32)
  obtain ⟨h1, h2, h3, h4⟩ := hb
  have ra := rdF_one (c := 1) (f := funA) h2 (rdI_two (x := insLocal) (y := insRet) h1) (by decide) (by decide)
  have rb := rdF_one (c := 1) (f := funB) h4 (rdI_one (x := insRet) h3) (by decide) (by decide)
  have hB : Below w.heap.size w ((((w.alloc (.cells #[.int .u8 2, .int .i64 0, .int .i64 0, .string ⟨#[]⟩, .int .u8 8, .int .i64 0, .int .i64 0, .string ⟨#[]⟩] 34)).alloc (.cells #[.int .i64 0, .slice (some ⟨w.heap.size, 0, none⟩) 2 2] 32)).alloc (.cells #[.int .u8 8, .int .i64 0, .int .i64 0, .string ⟨#[]⟩] 34)).alloc (.cells #[.int .i64 0, .slice (some ⟨w.heap.size + 2, 0, none⟩) 1 1] 32)) := balloc' (balloc' (balloc' (balloc' (Below.refl _ _))))
  have ca := check_any [funA] 0 _ _ ra (by intro f hf; obtain rfl := List.mem_singleton.1 hf; decide)
  unfold CkPost at ca
  rw [chkA] at ca
  have CA := Lib.hid ca
  have RB := Lib.hid rb
  have HB := Lib.hid hB
  clear ca ra rb h1 h2 h3 h4 hB
  go_enter Try.func6, Try.ntmps6
  go_wp2_with fail
  refine CA.out.mono ?_
  rintro e w1 ⟨rfl, hb1⟩
  have cb := check_any [funB] 0 w1 _ (RB.out.below hb1 (Nat.le_refl _)) (by intro f hf; obtain rfl := List.mem_singleton.1 hf; decide)
  unfold CkPost at cb
  rw [chkB] at cb
  have CB := Lib.hid cb
  have HB1 := Lib.hid (HB.out.trans (hb1.mono HB.out.size))
  clear cb hb1
  go_wp2_with fail
  refine CB.out.mono ?_
  rintro e w2 ⟨rfl, hb2⟩
  have HB2 := Lib.hid (HB1.out.trans (hb2.mono HB1.out.size))
  clear hb2
  go_wp2_with fail
  go_ret
  exact ⟨rfl, HB2.out⟩

theorem funs_big (fs : List Fun) (w : World) (v : Value) (h : RdF w v fs) (h1 : fs.length ≤ 5000) (h2 : ∀ f ∈ fs, f.code.length ≤ 1048576) : Calls Try.prog 10 #[v] w (FnPost fs w) := by
  rcases h with ⟨o, c, rfl, rfl⟩ | ⟨b, off, c, rfl, k1, k2, k3, k4⟩
  · exact funs_none o c w
  · exact funs_row fs w b off c k1 k2 k3 k4 h1 h2
end Go.Proofs.Ythmnhacgcdcbiaa
