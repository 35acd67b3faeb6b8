/- LTxA, LTxB, LTexts, LTextsAll, in one text. -/
import Derived.Test.YteenlckpjncgoaaDoorMacBI
import Derived.BigRegion

namespace Go.Proofs.YteenlckpjncgoaaDoor
open Go.RowKit HeaM Ma

def eS : ByteArray := ⟨#[]⟩
def lit (l : List UInt8) : ByteArray := ⟨l.toArray⟩
theorem lit_list (l : List UInt8) : (lit l).data.toList = l := by simp [lit]
def iT (l : List UInt8) : CodM.Ins := ⟨1, 0, 0, lit l⟩
def iO (n : Int) : CodM.Ins := ⟨20, n, 0, eS⟩
def iR : CodM.Ins := ⟨8, 0, 0, eS⟩

/-- A state of a function alone. -/
def S1 (i : Int) (W : List Nat) (F : List Bool) (stk : List V) (trs : List Tr) (fuel : Nat) : Ms := ⟨W, F, stk, [⟨0, .num 0, 0, i⟩], trs, fuel, 50, [], [], [], 0⟩
theorem st0_S1 (fuel : Nat) : st0 fuel 50 = S1 0 (primW 8) (primF 8) [.num 0] [] fuel := rfl
theorem few_S1 {i : Int} {W : List Nat} {F : List Bool} {stk : List V} {trs : List Tr} {fuel : Nat} (h : stk.length ≤ 1000) (h2 : trs.length ≤ 1000) : few (S1 i W F stk trs fuel) :=
  ⟨by show stk.length ≤ _; omega, by show 1 ≤ _; omega, by show trs.length ≤ _; omega, by show 0 ≤ _; omega, by show 0 ≤ _; omega⟩

/-- More words: a text. -/
def tW (W : List Nat) (l : List UInt8) : List Nat := W ++ (l.length * 256 + 3) :: pk l
def tF (F : List Bool) (l : List UInt8) : List Bool := F ++ true :: List.replicate (nw l.length) false
theorem tW_len (W : List Nat) (l : List UInt8) : (tW W l).length = W.length + need 3 l.length := by
  unfold tW
  rw [List.length_append, List.length_cons, pk_length]
  have : need 3 l.length = 1 + (l.length + 7) / 8 := rfl
  unfold nw
  omega

theorem text_S1 {ins : List CodM.Ins} {i : Int} {W : List Nat} {F : List Bool} {stk : List V} {trs : List Tr} {fuel : Nat} {l : List UInt8} (hl : l.length ≤ 4096) (hq : W.length + need 3 l.length ≤ 4000) :
    Ma.text (mcR ins) (S1 i W F stk trs fuel) l = some (0, S1 i (tW W l) (tF F l) (.txt W.length l :: stk) trs fuel) := by
  unfold Ma.text
  rw [if_neg (by omega)]
  unfold putText
  rw [if_pos (show (S1 i W F stk trs fuel).W.length + need 3 l.length ≤ (mcR ins).q from hq)]
  rfl

/-- A text is laid. -/
theorem do_T {ins : List CodM.Ins} {i : Int} {W : List Nat} {F : List Bool} {stk : List V} {trs : List Tr} {fuel : Nat} {l : List UInt8} (hl : l.length ≤ 4096) (hq : W.length + need 3 l.length ≤ 4000) :
    doI (mcR ins) (S1 i W F stk trs fuel) ⟨0, .num 0, 0, i⟩ [] (iT l) = some (0, S1 i (tW W l) (tF F l) (.txt W.length l :: stk) trs fuel) := by
  show Ma.text (mcR ins) (S1 i W F stk trs fuel) (lit l).data.toList = _
  rw [lit_list]
  exact text_S1 hl hq

/-- The end. -/
theorem run_R {ins : List CodM.Ins} {i k : Nat} {W : List Nat} {F : List Bool} {v : V} {t : List V} {fuel : Nat} (hx : ins[i]? = some iR) (hi : i ≤ 100000) (ht : t.length ≤ 900) :
    Ma.runN (mcR ins) (k + 2) (S1 i W F (v :: t) [] fuel) = some (0, ⟨W, F, [], [], [], fuel, 50, [], [], [], v.word⟩) := by
  refine (go1 (k := k + 1) (i := i) (x := iR) (s' := ⟨W, F, t.drop t.length, [], [], fuel, 50, [], [], [], v.word⟩) rfl hx (by omega) (few_S1 (by simp only [List.length_cons]; omega) (by simp)) ?_).trans ?_
  · show leave (⟨W, F, v :: t, [⟨0, .num 0, 0, (i : Int) + 1⟩], [], fuel, 50, [], [], [], 0⟩ : Ms) = _
    unfold leave
    simp [ok]
  · unfold Ma.runN
    simp

def lA (a b : List UInt8) : List CodM.Ins := [iT a, iT b, iO 9, iR]
def lB (a b : List UInt8) : List CodM.Ins := [iT a, iT b, iO 5, iR]
def lC (a b : List UInt8) : List CodM.Ins := [iT a, ⟨15, 0, 0, lit b⟩, iR]
def lD (a : List UInt8) : List CodM.Ins := [⟨5, 6, 0, eS⟩, iT a, ⟨7, 0, 0, eS⟩, iR]

theorem need_le (n : Nat) (h : n ≤ 2500) : need 3 n ≤ 314 := by
  have : need 3 n = 1 + (n + 7) / 8 := rfl
  omega
theorem need_le2 (n : Nat) (h : n ≤ 4096) : need 3 n ≤ 513 := by
  have : need 3 n = 1 + (n + 7) / 8 := rfl
  omega
theorem pW : (primW 8).length = 16 := primW_length 8

/-- Both texts are laid. -/
theorem two_T {ins : List CodM.Ins} {k : Nat} {a b : List UInt8} (h0 : ins[0]? = some (iT a)) (h1 : ins[1]? = some (iT b)) (ha : a.length ≤ 2500) (hb : b.length ≤ 2500) :
    Ma.runN (mcR ins) (k + 2) (st0 5 50) = Ma.runN (mcR ins) k (S1 2 (tW (tW (primW 8) a) b) (tF (tF (primF 8) a) b) [.txt (tW (primW 8) a).length b, .txt 16 a, .num 0] [] 5) := by
  have na := need_le a.length ha
  have nb := need_le b.length hb
  rw [st0_S1]
  refine (go1 (k := k + 1) (i := 0) rfl h0 (by omega) (few_S1 (by simp) (by simp)) (do_T (i := 1) (W := primW 8) (F := primF 8) (trs := []) (fuel := 5) (stk := [.num 0]) (l := a) (by omega) (by rw [pW]; omega))).trans ?_
  rw [pW]
  exact go1 (k := k) (i := 1) rfl h1 (by omega) (few_S1 (by simp) (by simp)) (do_T (i := 2) (W := tW (primW 8) a) (F := tF (primF 8) a) (trs := []) (fuel := 5) (stk := [.txt 16 a, .num 0]) (l := b) (by omega) (by rw [tW_len, pW]; omega))

theorem evA {a b : List UInt8} (ha : a.length ≤ 2500) (hb : b.length ≤ 2500) (hs : a.length + b.length ≤ 4096) :
    Ma.runN (mcR (lA a b)) 5 (st0 5 50) = some (0, ⟨tW (tW (tW (primW 8) a) b) (a ++ b), tF (tF (tF (primF 8) a) b) (a ++ b), [], [], [], 5, 50, [], [], [], 2 * (tW (tW (primW 8) a) b).length⟩) := by
  have na := need_le a.length ha
  have nb := need_le b.length hb
  have nab := need_le2 (a.length + b.length) hs
  refine (two_T (k := 3) rfl rfl ha hb).trans ?_
  refine (go1 (k := 2) (i := 2) (x := iO 9) (s' := S1 3 (tW (tW (tW (primW 8) a) b) (a ++ b)) (tF (tF (tF (primF 8) a) b) (a ++ b)) [.txt (tW (tW (primW 8) a) b).length (a ++ b), .num 0] [] 5) rfl rfl (by omega) (few_S1 (by simp) (by simp)) ?_).trans ?_
  · exact text_S1 (i := 3) (W := tW (tW (primW 8) a) b) (F := tF (tF (primF 8) a) b) (stk := [.num 0]) (trs := []) (fuel := 5) (l := a ++ b) (by rw [List.length_append]; omega) (by rw [tW_len, tW_len, pW, List.length_append]; omega)
  · exact run_R (k := 0) (i := 3) rfl (by omega) (by simp)

theorem evA9 {a b : List UInt8} (ha : a.length ≤ 2500) (hb : b.length ≤ 2500) (hs : 4096 < a.length + b.length) :
    Ma.runN (mcR (lA a b)) 3 (st0 5 50) = some (9, { S1 3 (tW (tW (primW 8) a) b) (tF (tF (primF 8) a) b) [.num 0] [] 5 with raised := tLong }) := by
  refine (two_T (k := 1) rfl rfl ha hb).trans ?_
  refine go1e (k := 0) (i := 2) (x := iO 9) rfl rfl (by omega) (few_S1 (by simp) (by simp)) (by decide) ?_
  show Ma.text (mcR (lA a b)) (S1 3 (tW (tW (primW 8) a) b) (tF (tF (primF 8) a) b) [.num 0] [] 5) (a ++ b) = _
  unfold Ma.text
  rw [if_pos (by rw [List.length_append]; exact hs)]
  rfl

theorem evB {a b : List UInt8} (ha : a.length ≤ 2500) (hb : b.length ≤ 2500) :
    Ma.runN (mcR (lB a b)) 5 (st0 5 50) = some (0, ⟨tW (tW (primW 8) a) b, tF (tF (primF 8) a) b, [], [], [], 4, 50, [], [], [], (V.num (if a = b then 1 else 0)).word⟩) := by
  refine (two_T (k := 3) rfl rfl ha hb).trans ?_
  refine (go1 (k := 2) (i := 2) (x := iO 5) (s' := S1 3 (tW (tW (primW 8) a) b) (tF (tF (primF 8) a) b) [.num (if a = b then 1 else 0), .num 0] [] 4) rfl rfl (by omega) (few_S1 (by simp) (by simp)) ?_).trans ?_
  · show truth (S1 3 _ _ [.num 0] [] 4) (decide (a = b) == decide ((5 : Int) = 5)) = _
    unfold truth
    by_cases e : a = b
    · simp [e, ok, push, S1]
    · simp [e, ok, push, S1]
  · exact run_R (k := 0) (i := 3) rfl (by omega) (by simp)

theorem evC {a b : List UInt8} (ha : a.length ≤ 2500) :
    Ma.runN (mcR (lC a b)) 4 (st0 5 50) = some (0, ⟨tW (primW 8) a, tF (primF 8) a, [], [], [], 5, 50, [], [], [], (V.num (if a = b then 1 else 0)).word⟩) := by
  have na := need_le a.length ha
  rw [st0_S1]
  refine (go1 (k := 3) (i := 0) rfl rfl (by omega) (few_S1 (by simp) (by simp)) (do_T (i := 1) (W := primW 8) (F := primF 8) (trs := []) (fuel := 5) (stk := [.num 0]) (l := a) (by omega) (by rw [pW]; omega))).trans ?_
  refine (go1 (k := 2) (i := 1) (x := ⟨15, 0, 0, lit b⟩) (s' := S1 2 (tW (primW 8) a) (tF (primF 8) a) [.num (if a = b then 1 else 0), .num 0] [] 5) rfl rfl (by omega) (few_S1 (by simp) (by simp)) ?_).trans ?_
  · show truth (S1 2 _ _ [.num 0] [] 5) (decide (a = (lit b).data.toList)) = _
    rw [lit_list]
    unfold truth
    by_cases e : a = b
    · simp [e, ok, push, S1]
    · simp [e, ok, push, S1]
  · exact run_R (k := 0) (i := 2) rfl (by omega) (by simp)

theorem evD {a : List UInt8} (ha : a.length ≤ 2500) :
    Ma.runN (mcR (lD a)) 5 (st0 5 50) = some (0, ⟨tW (primW 8) a, tF (primF 8) a, [], [], [], 4, 50, [], [], [], (V.num (a.length : Int)).word⟩) := by
  have na := need_le a.length ha
  have hc : cut (a.length : Int) = (a.length : Int) := by unfold cut; omega
  rw [st0_S1]
  refine (go1 (k := 4) (i := 0) (x := ⟨5, 6, 0, eS⟩) (s' := S1 1 (primW 8) (primF 8) [.prim 12 6, .num 0] [] 5) rfl rfl (by omega) (few_S1 (by simp) (by simp)) ?_).trans ?_
  · rfl
  refine (go1 (k := 3) (i := 1) rfl rfl (by omega) (few_S1 (by simp) (by simp)) (do_T (i := 2) (W := primW 8) (F := primF 8) (trs := []) (fuel := 5) (stk := [.prim 12 6, .num 0]) (l := a) (by omega) (by rw [pW]; omega))).trans ?_
  refine (go1 (k := 2) (i := 2) (x := ⟨7, 0, 0, eS⟩) (s' := S1 3 (tW (primW 8) a) (tF (primF 8) a) [.num (a.length : Int), .num 0] [] 4) rfl rfl (by omega) (few_S1 (by simp) (by simp)) ?_).trans ?_
  · show some (0, Ma.push (S1 3 (tW (primW 8) a) (tF (primF 8) a) [.num 0] [] 4) (.num (cut (a.length : Int)))) = _
    rw [hc]
    rfl
  · exact run_R (k := 0) (i := 3) rfl (by omega) (by simp)

/-- They may run. -/
theorem chkA (a b : List UInt8) : CodM.chk [⟨0, lA a b⟩] 8 = true := by
  refine chk_line _ (fun i => ([(1, 0), (2, 0), (3, 0), (2, 0)] : List (Int × Int)).getD i (0, 0)) (by show 0 < 4; omega) rfl fun i x hx => ?_
  rcases i with _ | _ | _ | _ | i
  all_goals
    simp [lA, iT, iO, iR] at hx
  all_goals
    subst hx
    refine ⟨by simp [CodM.alw, CodM.nm, CodM.tk], fun s hs => ?_⟩
    simp [CodM.succ, CodM.lv, CodM.tk] at hs
  all_goals
    subst hs
    exact ⟨by decide, by show _ < (4 : Int); decide, rfl⟩
theorem chkB (a b : List UInt8) : CodM.chk [⟨0, lB a b⟩] 8 = true := by
  refine chk_line _ (fun i => ([(1, 0), (2, 0), (3, 0), (2, 0)] : List (Int × Int)).getD i (0, 0)) (by show 0 < 4; omega) rfl fun i x hx => ?_
  rcases i with _ | _ | _ | _ | i
  all_goals
    simp [lB, iT, iO, iR] at hx
  all_goals
    subst hx
    refine ⟨by simp [CodM.alw, CodM.nm, CodM.tk], fun s hs => ?_⟩
    simp [CodM.succ, CodM.lv, CodM.tk] at hs
  all_goals
    subst hs
    exact ⟨by decide, by show _ < (4 : Int); decide, rfl⟩
theorem chkC (a b : List UInt8) : CodM.chk [⟨0, lC a b⟩] 8 = true := by
  refine chk_line _ (fun i => ([(1, 0), (2, 0), (2, 0)] : List (Int × Int)).getD i (0, 0)) (by show 0 < 3; omega) rfl fun i x hx => ?_
  rcases i with _ | _ | _ | i
  all_goals
    simp [lC, iT, iR] at hx
  all_goals
    subst hx
    refine ⟨by simp [CodM.alw, CodM.nm, CodM.tk], fun s hs => ?_⟩
    simp [CodM.succ, CodM.lv, CodM.tk] at hs
  all_goals
    subst hs
    exact ⟨by decide, by show _ < (3 : Int); decide, rfl⟩
theorem chkD (a : List UInt8) : CodM.chk [⟨0, lD a⟩] 8 = true := by
  refine chk_line _ (fun i => ([(1, 0), (2, 0), (3, 0), (2, 0)] : List (Int × Int)).getD i (0, 0)) (by show 0 < 4; omega) rfl fun i x hx => ?_
  rcases i with _ | _ | _ | _ | i
  all_goals
    simp [lD, iT, iR] at hx
  all_goals
    subst hx
    refine ⟨by simp [CodM.alw, CodM.nm, CodM.tk], fun s hs => ?_⟩
    simp [CodM.succ, CodM.lv, CodM.tk] at hs
  all_goals
    subst hs
    exact ⟨by decide, by show _ < (4 : Int); decide, rfl⟩
end Go.Proofs.YteenlckpjncgoaaDoor

namespace Go.Proofs.YteenlckpjncgoaaDoor
open Go.RowKit HeaM Ma

theorem tF_len {W : List Nat} {F : List Bool} (l : List UInt8) (h : F.length = W.length) : (tF F l).length = (tW W l).length := by
  unfold tF tW
  rw [List.length_append, List.length_append, List.length_cons, List.length_cons, List.length_replicate, pk_length, h]
theorem ok_T {a b : List UInt8} : ∀ x ∈ lA a b, okop x.op := by
  intro x hx
  simp only [lA, List.mem_cons, List.not_mem_nil, or_false] at hx
  rcases hx with rfl | rfl | rfl | rfl <;> simp [okop, iT, iO, iR]
theorem ok_B {a b : List UInt8} : ∀ x ∈ lB a b, okop x.op := by
  intro x hx
  simp only [lB, List.mem_cons, List.not_mem_nil, or_false] at hx
  rcases hx with rfl | rfl | rfl | rfl <;> simp [okop, iT, iO, iR]
theorem ok_C {a b : List UInt8} : ∀ x ∈ lC a b, okop x.op := by
  intro x hx
  simp only [lC, List.mem_cons, List.not_mem_nil, or_false] at hx
  rcases hx with rfl | rfl | rfl <;> simp [okop, iT, iR]
theorem ok_D {a : List UInt8} : ∀ x ∈ lD a, okop x.op := by
  intro x hx
  simp only [lD, List.mem_cons, List.not_mem_nil, or_false] at hx
  rcases hx with rfl | rfl | rfl | rfl <;> simp [okop, iT, iR]

/-- The functions' cells. -/
def cA (a b : List UInt8) : Array Value := #[.int .u8 1, .int .i64 0, .int .i64 0, .string ⟨a.toArray⟩, .int .u8 1, .int .i64 0, .int .i64 0, .string ⟨b.toArray⟩, .int .u8 20, .int .i64 9, .int .i64 0, .string ⟨#[]⟩, .int .u8 8, .int .i64 0, .int .i64 0, .string ⟨#[]⟩]
def cB (a b : List UInt8) : Array Value := #[.int .u8 1, .int .i64 0, .int .i64 0, .string ⟨a.toArray⟩, .int .u8 1, .int .i64 0, .int .i64 0, .string ⟨b.toArray⟩, .int .u8 20, .int .i64 5, .int .i64 0, .string ⟨#[]⟩, .int .u8 8, .int .i64 0, .int .i64 0, .string ⟨#[]⟩]
def cC (a b : List UInt8) : Array Value := #[.int .u8 1, .int .i64 0, .int .i64 0, .string ⟨a.toArray⟩, .int .u8 15, .int .i64 0, .int .i64 0, .string ⟨b.toArray⟩, .int .u8 8, .int .i64 0, .int .i64 0, .string ⟨#[]⟩]
def cD (a : List UInt8) : Array Value := #[.int .u8 5, .int .i64 6, .int .i64 0, .string ⟨#[]⟩, .int .u8 1, .int .i64 0, .int .i64 0, .string ⟨a.toArray⟩, .int .u8 7, .int .i64 0, .int .i64 0, .string ⟨#[]⟩, .int .u8 8, .int .i64 0, .int .i64 0, .string ⟨#[]⟩]
theorem cA_eq (a b : List UInt8) : cA a b = (CsIn (lA a b)).toArray := rfl
theorem cB_eq (a b : List UInt8) : cB a b = (CsIn (lB a b)).toArray := rfl
theorem cC_eq (a b : List UInt8) : cC a b = (CsIn (lC a b)).toArray := rfl
theorem cD_eq (a : List UInt8) : cD a = (CsIn (lD a)).toArray := rfl

/-- An outcome, and the machine, without what they were made of. -/
def QPost (w : World) (E R Fu : Int) (ra : ByteArray) (e' : Ending) (w' : World) : Prop :=
  ∃ o n c M ou, e' = .returned (.tuple #[.agg #[.int .i64 E, .int .u64 R, .string ra, .string ou, .slice o n c, .int .i64 Fu], .pointer (some ⟨M, 0, none⟩)]) ∧ Below w.heap.size w w'
theorem MPost.q {w : World} {E R Fu : Int} {ra ou : ByteArray} {s' : Ms} {o : Obj} (e' : Ending) (w' : World) (h : MPost (w.alloc o) E R Fu ra ou s' e' w') : QPost w E R Fu ra e' w' := by
  obtain ⟨o, c, M, he, hb, _⟩ := h
  exact ⟨o, _, c, M, ou, he, ((Below.refl _ w).alloc (Nat.le_refl _) _).trans (hb.mono (by simp))⟩

theorem runA9 {a b : List UInt8} (w : World) (ha : a.length ≤ 2500) (hb : b.length ≤ 2500) (hs : 4096 < a.length + b.length) :
    Calls Tryd.prog 8 #[.slice (some ⟨w.heap.size, 0, none⟩) 4 4, .int .i64 5] (w.alloc (.cells (cA a b) 33)) (QPost w 9 0 5 ⟨#[108, 111, 110, 103]⟩) :=
  (lrun_l (c := 4) (lA a b) (insC_lit (by rw [cA_eq]; exact heap_alloc_new w _)) (by show 0 < 4; omega) (by show 4 ≤ _; omega) (by show 4 ≤ 4; omega) (by unfold maxLen; omega) (chkA a b) (fuel := 5) (by omega) ok_T (evA9 ha hb hs) rfl rfl rfl rfl rfl).mono MPost.q

theorem runB {a b : List UInt8} (w : World) (ha : a.length ≤ 2500) (hb : b.length ≤ 2500) {q : Int} (hq : (((V.num (if a = b then 1 else 0)).word : Nat) : Int) = q) :
    Calls Tryd.prog 8 #[.slice (some ⟨w.heap.size, 0, none⟩) 4 4, .int .i64 5] (w.alloc (.cells (cB a b) 33)) (QPost w 0 q 4 ⟨#[]⟩) :=
  (lrun_l (c := 4) (lB a b) (insC_lit (by rw [cB_eq]; exact heap_alloc_new w _)) (by show 0 < 4; omega) (by show 4 ≤ _; omega) (by show 4 ≤ 4; omega) (by unfold maxLen; omega) (chkB a b) (fuel := 5) (by omega) ok_B (evB ha hb) rfl hq rfl rfl rfl).mono MPost.q
theorem runC' {a b : List UInt8} (w : World) (ha : a.length ≤ 2500) {q : Int} (hq : (((V.num (if a = b then 1 else 0)).word : Nat) : Int) = q) :
    Calls Tryd.prog 8 #[.slice (some ⟨w.heap.size, 0, none⟩) 3 3, .int .i64 5] (w.alloc (.cells (cC a b) 33)) (QPost w 0 q 5 ⟨#[]⟩) :=
  (lrun_l (c := 3) (lC a b) (insC_lit (by rw [cC_eq]; exact heap_alloc_new w _)) (by show 0 < 3; omega) (by show 3 ≤ _; omega) (by show 3 ≤ 3; omega) (by unfold maxLen; omega) (chkC a b) (fuel := 5) (by omega) ok_C (evC ha) rfl hq rfl rfl rfl).mono MPost.q
theorem runD {a : List UInt8} (w : World) (ha : a.length ≤ 2500) :
    Calls Tryd.prog 8 #[.slice (some ⟨w.heap.size, 0, none⟩) 4 4, .int .i64 5] (w.alloc (.cells (cD a) 33)) (QPost w 0 ((V.num (a.length : Int)).word : Int) 4 ⟨#[]⟩) :=
  (lrun_l (c := 4) (lD a) (insC_lit (by rw [cD_eq]; exact heap_alloc_new w _)) (by show 0 < 4; omega) (by show 4 ≤ _; omega) (by show 4 ≤ 4; omega) (by unfold maxLen; omega) (chkD a) (fuel := 5) (by omega) ok_D (evD ha) rfl rfl rfl rfl rfl).mono MPost.q

/-- The texts joined: what m.Heap().Text tells. -/
def APost (w : World) (t : List UInt8) (R : Int) (e' : Ending) (w' : World) : Prop :=
  ∃ o n c M H vf vg ou, e' = .returned (.tuple #[.agg #[.int .i64 0, .int .u64 R, .string ⟨#[]⟩, .string ou, .slice o n c, .int .i64 5], .pointer (some ⟨M, 0, none⟩)]) ∧ Below w.heap.size w w' ∧ w'.heap[M]? = some (.cells #[.pointer (some ⟨H, 0, none⟩), vf, vg] 56 (0, 0)) ∧
    ∀ W, Below w'.heap.size w' W → Calls Tryd.prog 10 #[.pointer (some ⟨H, 0, none⟩), .int .u64 R] W fun e w2 => e = .returned (.string ⟨t.toArray⟩) ∧ Below W.heap.size W w2
theorem runA {a b : List UInt8} (w : World) (ha : a.length ≤ 2500) (hb : b.length ≤ 2500) (hs : a.length + b.length ≤ 4096) :
    Calls Tryd.prog 8 #[.slice (some ⟨w.heap.size, 0, none⟩) 4 4, .int .i64 5] (w.alloc (.cells (cA a b) 33)) (APost w (a ++ b) ((2 * (tW (tW (primW 8) a) b).length : Nat) : Int)) := by
  refine (lrun_l (c := 4) (lA a b) (insC_lit (by rw [cA_eq]; exact heap_alloc_new w _)) (by show 0 < 4; omega) (by show 4 ≤ _; omega) (by show 4 ≤ 4; omega) (by unfold maxLen; omega) (chkA a b) (fuel := 5) (by omega) ok_T (evA ha hb hs) (E := 0) (R := ((2 * (tW (tW (primW 8) a) b).length : Nat) : Int)) (Fu := 5) (ra := ⟨#[]⟩) (ou := ⟨#[]⟩) rfl rfl rfl rfl rfl).mono ?_
  rintro e' w' ⟨o, c, M, rfl, hb', _, hz⟩
  obtain ⟨H, base, u1, u2, vf, vg, hH, hM, hl, hw, hx⟩ := hz rfl
  refine ⟨o, _, c, M, H, vf, vg, _, rfl, ((Below.refl _ w).alloc (Nat.le_refl _) _).trans (hb'.mono (by simp)), hM, fun W hW => ?_⟩
  have hrep : Rep (tW (tW (tW (primW 8) a) b) (a ++ b)) (tF (tF (tF (primF 8) a) b) (a ++ b)) (.txt (tW (tW (primW 8) a) b).length (a ++ b)) :=
    rep_txt (tF_len b (tF_len a (primF_length 8))) (by rw [List.length_append]; omega)
  exact text_v W (hH.below hW (Nat.le_refl _)) hl (by show (tW _ _).length ≤ _; have h4 : (tW (tW (tW (primW 8) a) b) (a ++ b)).length ≤ 4000 := hw; omega) hx hrep (Lib.hid rfl)

theorem mheap_t (M H : Nat) (w : World) (h : w.cell? ⟨M, 0, none⟩ = some (.pointer (some ⟨H, 0, none⟩))) : Calls Tryd.prog 9 #[.pointer (some ⟨M, 0, none⟩)] w fun e w' => e = .returned (.pointer (some ⟨H, 0, none⟩)) ∧ w = w' := by
  go_enter Tryd.func9, Tryd.ntmps9
  go_wp2
  go_ret
  exact ⟨rfl, rfl⟩
end Go.Proofs.YteenlckpjncgoaaDoor

namespace Go.Proofs.YteenlckpjncgoaaDoor
open Go.RowKit HeaM Ma

/-- A result's box. -/
def rbx (E R Fu : Int) (ra ou : ByteArray) (o : Option Addr) (n c : Nat) : Obj := .cells #[.int .i64 E, .int .u64 R, .string ra, .string ou, .slice o n c, .int .i64 Fu] 28
theorem rbx_at {w w' : World} {E R Fu : Int} {ra ou : ByteArray} {o : Option Addr} {n c : Nat} (hb : Below (w.alloc (rbx E R Fu ra ou o n c)).heap.size (w.alloc (rbx E R Fu ra ou o n c)) w') :
    w'.cell? ⟨w.heap.size, 0, none⟩ = some (.int .i64 E) ∧ w'.cell? ⟨w.heap.size, 1, none⟩ = some (.int .u64 R) ∧ w'.cell? ⟨w.heap.size, 2, none⟩ = some (.string ra) ∧ w'.cell? ⟨w.heap.size, 5, none⟩ = some (.int .i64 Fu) := by
  have hblk := heap_alloc_new w (rbx E R Fu ra ou o n c)
  have hsz : w.heap.size < (w.alloc (rbx E R Fu ra ou o n c)).heap.size := by simp
  have cc := fun j => cell_of_row _ w.heap.size j _ _ (0, 0) hblk
  exact ⟨(hb.cell (p := ⟨w.heap.size, 0, none⟩) hsz).trans ((cc 0).trans rfl), (hb.cell (p := ⟨w.heap.size, 1, none⟩) hsz).trans ((cc 1).trans rfl), (hb.cell (p := ⟨w.heap.size, 2, none⟩) hsz).trans ((cc 2).trans rfl), (hb.cell (p := ⟨w.heap.size, 5, none⟩) hsz).trans ((cc 5).trans rfl)⟩

set_option maxHeartbeats 4000000 in
set_option maxRecDepth 100000 in
theorem texts_out (a b : List UInt8) (w : World) (ha : a.length ≤ 140737488351232) (hb : b.length ≤ 140737488351232) (h : 2500 < a.length ∨ 2500 < b.length) :
    Calls Tryd.prog 3 #[.string ⟨a.toArray⟩, .string ⟨b.toArray⟩] w fun e w' => e = .returned (.bool true) ∧ Below w.heap.size w w' := by
  have h1 : (a.length : Int) ≤ 140737488351232 := by omega
  have h3 : (b.length : Int) ≤ 140737488351232 := by omega
  by_cases h25 : 2500 < a.length
  · have hd : (2500 : Int) < (a.length : Int) := by omega
    have hd2 : decide (2500 < a.length) = true := by simpa using h25
    clear h h25
    go_enter Tryd.func3, Tryd.ntmps3
    go_wp2_with fail
    refine (lawake w).mono ?_
    rintro e w1 ⟨rfl, hb1⟩
    have HB1 := Lib.hid hb1
    clear hb1
    go_wp2_with fail
    refine (lawake w1).mono ?_
    rintro e w2 ⟨rfl, hb2⟩
    have HB2 := Lib.hid (HB1.out.trans (hb2.mono HB1.out.size))
    clear hb2
    go_wp2_with fail
    go_ret
    exact ⟨rfl, HB2.out⟩
  · have hd : ¬ (2500 : Int) < (a.length : Int) := by omega
    have hd2 : decide (2500 < a.length) = false := by simpa using h25
    have he : (2500 : Int) < (b.length : Int) := by omega
    have he2 : decide (2500 < b.length) = true := by simp; omega
    clear h h25
    go_enter Tryd.func3, Tryd.ntmps3
    go_wp2_with fail
    refine (lawake w).mono ?_
    rintro e w1 ⟨rfl, hb1⟩
    have HB1 := Lib.hid hb1
    clear hb1
    go_wp2_with fail
    refine (lawake w1).mono ?_
    rintro e w2 ⟨rfl, hb2⟩
    have HB2 := Lib.hid (HB1.out.trans (hb2.mono HB1.out.size))
    clear hb2
    go_wp2_with fail
    go_ret
    exact ⟨rfl, HB2.out⟩

set_option maxHeartbeats 8000000 in
set_option maxRecDepth 100000 in
theorem texts_in (a b : List UInt8) (w : World) (ha : a.length ≤ 2500) (hb : b.length ≤ 2500) :
    Calls Tryd.prog 3 #[.string ⟨a.toArray⟩, .string ⟨b.toArray⟩] w fun e w' => e = .returned (.bool true) ∧ Below w.heap.size w w' := by
  have hd : ¬ (2500 : Int) < (a.length : Int) := by omega
  have hd2 : decide (2500 < a.length) = false := by simp; omega
  have he : ¬ (2500 : Int) < (b.length : Int) := by omega
  have he2 : decide (2500 < b.length) = false := by simp; omega
  obtain ⟨q, hq, hqq⟩ : ∃ q : Int, (((V.num (if a = b then 1 else 0)).word : Nat) : Int) = q ∧ ((a == b) = true ∧ q = 3 ∨ (a == b) = false ∧ q = 1) := by
    refine ⟨_, rfl, ?_⟩
    by_cases e : a = b
    · exact .inl ⟨by simp [e], by rw [if_pos e]; rfl⟩
    · exact .inr ⟨by simp [e], by rw [if_neg e]; rfl⟩
  have HRB := Lib.hid fun (W : World) => runB (a := a) (b := b) W ha hb hq
  have HRC := Lib.hid fun (W : World) => runC' (a := a) (b := b) W ha hq
  have HRD := Lib.hid fun (W : World) => runD (a := a) W ha
  have HQ := Lib.hid hqq
  have HN0 : Hid (∀ w : World, Calls Tryd.prog 11 #[.int .i64 0] w fun e w' => e = .returned (.int .u64 1) ∧ w = w') := fun w => num_t 0 w
  have HN1 : Hid (∀ w : World, Calls Tryd.prog 11 #[.int .i64 1] w fun e w' => e = .returned (.int .u64 3) ∧ w = w') := fun w => num_t 1 w
  have HNL : Hid (∀ w : World, Calls Tryd.prog 11 #[.int .i64 (a.length : Int)] w fun e w' => e = .returned (.int .u64 ((V.num (a.length : Int)).word : Int)) ∧ w = w') := fun w => by
    have h := num_v (a.length : Int) w
    rw [show cut (a.length : Int) = (a.length : Int) by unfold cut; omega] at h
    exact h
  unfold cB at HRB
  unfold cC at HRC
  unfold cD at HRD
  by_cases hs : 4096 < a.length + b.length
  · have HRA := Lib.hid fun (W : World) => runA9 (a := a) (b := b) W ha hb hs
    unfold cA at HRA
    have hsi : (4096 : Int) < (a.length : Int) + (b.length : Int) := by omega
    clear hq hqq hs
    go_enter Tryd.func3, Tryd.ntmps3
    go_wp2_with fail
    refine (lawake w).mono ?_
    rintro e w1 ⟨rfl, hb1⟩
    have HB1 := Lib.hid hb1
    clear hb1
    go_wp2_with fail
    refine (HRA.out w1).mono ?_
    rintro e w2 ⟨o1, n1, c1, M1, ou1, rfl, hb2⟩
    have HB2 := Lib.hid (HB1.out.trans (hb2.mono HB1.out.size))
    clear hb2 HRA
    obtain ⟨t0, t1, t2, t5⟩ := rbx_at (E := 9) (R := 0) (Fu := 5) (ra := ⟨#[108, 111, 110, 103]⟩) (ou := ou1) (o := o1) (n := n1) (c := c1) (Below.refl (w2.alloc (rbx 9 0 5 ⟨#[108, 111, 110, 103]⟩ ou1 o1 n1 c1)).heap.size _)
    have HB3 := Lib.hid (HB2.out.alloc HB2.out.size (rbx 9 0 5 ⟨#[108, 111, 110, 103]⟩ ou1 o1 n1 c1))
    unfold rbx at t0 t1 t2 t5 HB3
    go_wp2_with fail
    have hz2 := HRB.out (w2.alloc (rbx 9 0 5 ⟨#[108, 111, 110, 103]⟩ ou1 o1 n1 c1))
    rw [show (w2.alloc (rbx 9 0 5 ⟨#[108, 111, 110, 103]⟩ ou1 o1 n1 c1)).heap.size = w2.heap.size + 1 by simp] at hz2
    have HZ2 := Lib.hid hz2
    clear hz2
    unfold rbx at HZ2
    refine HZ2.out.mono ?_
    rintro e x2 ⟨o2, n2, c2, M2, ou2, rfl, hb2⟩
    have HX2 := Lib.hid hb2
    clear hb2
    go_wp2_with fail
    have hz3 := HRC.out (x2.alloc (rbx 0 q 4 ⟨#[]⟩ ou2 o2 n2 c2))
    rw [show (x2.alloc (rbx 0 q 4 ⟨#[]⟩ ou2 o2 n2 c2)).heap.size = x2.heap.size + 1 by simp] at hz3
    have HZ3 := Lib.hid hz3
    clear hz3
    unfold rbx at HZ3
    refine HZ3.out.mono ?_
    rintro e x3 ⟨o3, n3, c3, M3, ou3, rfl, hb3⟩
    have HX3 := Lib.hid hb3
    clear hb3
    go_wp2_with fail
    have hz4 := HRD.out (x3.alloc (rbx 0 q 5 ⟨#[]⟩ ou3 o3 n3 c3))
    rw [show (x3.alloc (rbx 0 q 5 ⟨#[]⟩ ou3 o3 n3 c3)).heap.size = x3.heap.size + 1 by simp] at hz4
    have HZ4 := Lib.hid hz4
    clear hz4
    unfold rbx at HZ4
    refine HZ4.out.mono ?_
    rintro e x4 ⟨o4, n4, c4, M4, ou4, rfl, hb4⟩
    have HX4 := Lib.hid hb4
    clear hb4
    have hs2 : x2.heap.size + 1 ≤ x3.heap.size := by have := HX3.out.size; simpa using this
    have hs3 : x3.heap.size + 1 ≤ x4.heap.size := by have := HX4.out.size; simpa using this
    have HFIN : ∀ X, Below (x2.alloc (.cells #[.int .i64 0, .int .u64 q, .string ⟨#[]⟩, .string ou2, .slice o2 n2 c2, .int .i64 4] 28)).heap.size (x2.alloc (.cells #[.int .i64 0, .int .u64 q, .string ⟨#[]⟩, .string ou2, .slice o2 n2 c2, .int .i64 4] 28)) X → Below w.heap.size w X := fun X hX =>
      ((HB3.out.trans (HX2.out.mono HB3.out.size)).alloc (Nat.le_trans HB3.out.size HX2.out.size) _).trans (hX.mono (by have h1 := HB3.out.size; have h2 := HX2.out.size; simp at h1 h2 ⊢; omega))
    have k4 : Below (x4.alloc (rbx 0 ((V.num (a.length : Int)).word : Int) 4 ⟨#[]⟩ ou4 o4 n4 c4)).heap.size (x4.alloc (rbx 0 ((V.num (a.length : Int)).word : Int) 4 ⟨#[]⟩ ou4 o4 n4 c4)) (x4.alloc (rbx 0 ((V.num (a.length : Int)).word : Int) 4 ⟨#[]⟩ ou4 o4 n4 c4)) := Below.refl _ _
    have k3 : Below (x3.alloc (rbx 0 q 5 ⟨#[]⟩ ou3 o3 n3 c3)).heap.size (x3.alloc (rbx 0 q 5 ⟨#[]⟩ ou3 o3 n3 c3)) (x4.alloc (rbx 0 ((V.num (a.length : Int)).word : Int) 4 ⟨#[]⟩ ou4 o4 n4 c4)) := HX4.out.alloc HX4.out.size _
    have k2 : Below (x2.alloc (rbx 0 q 4 ⟨#[]⟩ ou2 o2 n2 c2)).heap.size (x2.alloc (rbx 0 q 4 ⟨#[]⟩ ou2 o2 n2 c2)) (x4.alloc (rbx 0 ((V.num (a.length : Int)).word : Int) 4 ⟨#[]⟩ ou4 o4 n4 c4)) := (HX3.out.trans (((Below.refl _ x3).alloc (Nat.le_refl _) (rbx 0 q 5 ⟨#[]⟩ ou3 o3 n3 c3)).mono HX3.out.size)).trans (k3.mono (by have := HX3.out.size; simp at this ⊢; omega))
    obtain ⟨p20, p21, p22, p25⟩ := rbx_at k2
    obtain ⟨p30, p31, p32, p35⟩ := rbx_at k3
    obtain ⟨p40, p41, p42, p45⟩ := rbx_at k4
    have HBF := Lib.hid k2
    clear k2 k3 k4 hs2 hs3
    unfold rbx at p20 p21 p22 p25 p30 p31 p32 p35 p40 p41 p42 p45 HBF
    generalize (V.num (a.length : Int)).word = LW at *
    go_wp2_with fail
    refine (HN0.out _).mono ?_
    rintro e w' ⟨rfl, rfl⟩
    rcases HQ.out with ⟨hab, rfl⟩ | ⟨hab, rfl⟩
    · go_wp2_with fail
      refine (HN1.out _).mono ?_
      rintro e w' ⟨rfl, rfl⟩
      go_wp2_with fail
      generalize (x4.alloc (.cells #[.int .i64 0, .int .u64 (LW : Int), .string ⟨#[]⟩, .string ou4, .slice o4 n4 c4, .int .i64 4] 28)) = xf at *
      go_quiet (first
        | (go_at_call 11; exact Calls.quiet_of_same ((HNL.out _).mono fun _ _ h => ⟨h.1, h.2.symm⟩)))
      have HBL : Hid (Below w.heap.size w (xf.drewN nq)) := (HFIN _ HBF.out).trans (below_drewN _ _ _)
      generalize xf.drewN nq = xg at *
      go_wp2
      go_ret
      exact ⟨rfl, HBL.out⟩
    · go_wp2_with fail
      generalize (x4.alloc (.cells #[.int .i64 0, .int .u64 (LW : Int), .string ⟨#[]⟩, .string ou4, .slice o4 n4 c4, .int .i64 4] 28)) = xf at *
      go_quiet (first
        | (go_at_call 11; exact Calls.quiet_of_same ((HNL.out _).mono fun _ _ h => ⟨h.1, h.2.symm⟩)))
      have HBL : Hid (Below w.heap.size w (xf.drewN nq)) := (HFIN _ HBF.out).trans (below_drewN _ _ _)
      generalize xf.drewN nq = xg at *
      go_wp2
      go_ret
      exact ⟨rfl, HBL.out⟩
  · have HRA := Lib.hid fun (W : World) => runA (a := a) (b := b) W ha hb (by omega)
    unfold cA at HRA
    generalize hRR : ((2 * (tW (tW (primW 8) a) b).length : Nat) : Int) = RR at HRA
    have hsi : ¬ (4096 : Int) < (a.length : Int) + (b.length : Int) := by omega
    have hcat : ((⟨a.toArray⟩ : ByteArray) ++ ⟨b.toArray⟩).toList = a ++ b := by
      rw [ByteArray.toList_eq, ByteArray.data_append]
      simp
    have hsz : ¬ 9223372036854775807 < a.length + b.length := by omega
    clear hq hqq hs hRR
    go_enter Tryd.func3, Tryd.ntmps3
    go_wp2_with fail
    refine (lawake w).mono ?_
    rintro e w1 ⟨rfl, hb1⟩
    have HB1 := Lib.hid hb1
    clear hb1
    go_wp2_with fail
    refine (HRA.out w1).mono ?_
    rintro e w2 ⟨o1, n1, c1, M1, H1, vf1, vg1, ou1, rfl, hb2, hM, hT⟩
    have HB2 := Lib.hid (HB1.out.trans (hb2.mono HB1.out.size))
    have hMl := lt_of_block hM
    have hmc := (cell_of_row w2 M1 0 _ _ (0, 0) hM).trans rfl
    have hbx : Below w2.heap.size w2 (w2.alloc (rbx 0 RR 5 ⟨#[]⟩ ou1 o1 n1 c1)) := (Below.refl _ _).alloc (Nat.le_refl _) _
    have hmc3 := (hbx.cell (p := ⟨M1, 0, none⟩) hMl).trans hmc
    have HT := Lib.hid fun (W : World) (hW : Below (w2.alloc (rbx 0 RR 5 ⟨#[]⟩ ou1 o1 n1 c1)).heap.size (w2.alloc (rbx 0 RR 5 ⟨#[]⟩ ou1 o1 n1 c1)) W) => hT W (hbx.trans (hW.mono hbx.size))
    clear hb2 HRA hT hM
    obtain ⟨t0, t1, t2, t5⟩ := rbx_at (E := 0) (R := RR) (Fu := 5) (ra := ⟨#[]⟩) (ou := ou1) (o := o1) (n := n1) (c := c1) (Below.refl (w2.alloc (rbx 0 RR 5 ⟨#[]⟩ ou1 o1 n1 c1)).heap.size _)
    have HB3' := Lib.hid (HB2.out.alloc HB2.out.size (rbx 0 RR 5 ⟨#[]⟩ ou1 o1 n1 c1))
    unfold rbx at t0 t1 t2 t5 HB3' HT hmc3
    clear hbx hMl hmc
    go_wp2_with fail
    generalize (w2.alloc (.cells #[.int .i64 0, .int .u64 RR, .string ⟨#[]⟩, .string ou1, .slice o1 n1 c1, .int .i64 5] 28)) = w3 at *
    have HMH := Lib.hid fun (W : World) (hc : W.cell? ⟨M1, 0, none⟩ = some (.pointer (some ⟨H1, 0, none⟩))) => mheap_t M1 H1 W hc
    go_region_law (first
      | (go_simp; go_at_call 9; refine (HMH.out w3.drew hmc3).mono ?_; rintro e w' ⟨rfl, rfl⟩)
      | (go_simp; go_at_call 10; refine (HT.out _ (Below.refl _ _).drew).mono ?_; rintro e w5 ⟨rfl, hw5⟩; have HW5 := Lib.hid hw5; clear hw5))
    all_goals
      have HB3 := Lib.hid (HB3'.out.drew.trans (HW5.out.mono (by have := HB3'.out.size; simpa using this)))
      clear t0 t1 t2 t5 hmc3
      go_wp2_with fail
      refine (HRB.out _).mono ?_
      rintro e x2 ⟨o2, n2, c2, M2, ou2, rfl, hb2⟩
      have HX2 := Lib.hid hb2
      clear hb2
      go_wp2_with fail
      have hz3 := HRC.out (x2.alloc (rbx 0 q 4 ⟨#[]⟩ ou2 o2 n2 c2))
      rw [show (x2.alloc (rbx 0 q 4 ⟨#[]⟩ ou2 o2 n2 c2)).heap.size = x2.heap.size + 1 by simp] at hz3
      have HZ3 := Lib.hid hz3
      clear hz3
      unfold rbx at HZ3
      refine HZ3.out.mono ?_
      rintro e x3 ⟨o3, n3, c3, M3, ou3, rfl, hb3⟩
      have HX3 := Lib.hid hb3
      clear hb3
      go_wp2_with fail
      have hz4 := HRD.out (x3.alloc (rbx 0 q 5 ⟨#[]⟩ ou3 o3 n3 c3))
      rw [show (x3.alloc (rbx 0 q 5 ⟨#[]⟩ ou3 o3 n3 c3)).heap.size = x3.heap.size + 1 by simp] at hz4
      have HZ4 := Lib.hid hz4
      clear hz4
      unfold rbx at HZ4
      refine HZ4.out.mono ?_
      rintro e x4 ⟨o4, n4, c4, M4, ou4, rfl, hb4⟩
      have HX4 := Lib.hid hb4
      clear hb4
      have hs2 : x2.heap.size + 1 ≤ x3.heap.size := by have := HX3.out.size; simpa using this
      have hs3 : x3.heap.size + 1 ≤ x4.heap.size := by have := HX4.out.size; simpa using this
      have HFIN : ∀ X, Below (x2.alloc (.cells #[.int .i64 0, .int .u64 q, .string ⟨#[]⟩, .string ou2, .slice o2 n2 c2, .int .i64 4] 28)).heap.size (x2.alloc (.cells #[.int .i64 0, .int .u64 q, .string ⟨#[]⟩, .string ou2, .slice o2 n2 c2, .int .i64 4] 28)) X → Below w.heap.size w X := fun X hX =>
        ((HB3.out.trans (HX2.out.mono HB3.out.size)).alloc (Nat.le_trans HB3.out.size HX2.out.size) _).trans (hX.mono (by have h1 := HB3.out.size; have h2 := HX2.out.size; simp at h1 h2 ⊢; omega))
      have k4 : Below (x4.alloc (rbx 0 ((V.num (a.length : Int)).word : Int) 4 ⟨#[]⟩ ou4 o4 n4 c4)).heap.size (x4.alloc (rbx 0 ((V.num (a.length : Int)).word : Int) 4 ⟨#[]⟩ ou4 o4 n4 c4)) (x4.alloc (rbx 0 ((V.num (a.length : Int)).word : Int) 4 ⟨#[]⟩ ou4 o4 n4 c4)) := Below.refl _ _
      have k3 : Below (x3.alloc (rbx 0 q 5 ⟨#[]⟩ ou3 o3 n3 c3)).heap.size (x3.alloc (rbx 0 q 5 ⟨#[]⟩ ou3 o3 n3 c3)) (x4.alloc (rbx 0 ((V.num (a.length : Int)).word : Int) 4 ⟨#[]⟩ ou4 o4 n4 c4)) := HX4.out.alloc HX4.out.size _
      have k2 : Below (x2.alloc (rbx 0 q 4 ⟨#[]⟩ ou2 o2 n2 c2)).heap.size (x2.alloc (rbx 0 q 4 ⟨#[]⟩ ou2 o2 n2 c2)) (x4.alloc (rbx 0 ((V.num (a.length : Int)).word : Int) 4 ⟨#[]⟩ ou4 o4 n4 c4)) := (HX3.out.trans (((Below.refl _ x3).alloc (Nat.le_refl _) (rbx 0 q 5 ⟨#[]⟩ ou3 o3 n3 c3)).mono HX3.out.size)).trans (k3.mono (by have := HX3.out.size; simp at this ⊢; omega))
      obtain ⟨p20, p21, p22, p25⟩ := rbx_at k2
      obtain ⟨p30, p31, p32, p35⟩ := rbx_at k3
      obtain ⟨p40, p41, p42, p45⟩ := rbx_at k4
      have HBF := Lib.hid k2
      clear k2 k3 k4 hs2 hs3
      unfold rbx at p20 p21 p22 p25 p30 p31 p32 p35 p40 p41 p42 p45 HBF
      generalize (V.num (a.length : Int)).word = LW at *
      go_wp2_with fail
      refine (HN0.out _).mono ?_
      rintro e w' ⟨rfl, rfl⟩
      rcases HQ.out with ⟨hab, rfl⟩ | ⟨hab, rfl⟩
      · go_wp2_with fail
        refine (HN1.out _).mono ?_
        rintro e w' ⟨rfl, rfl⟩
        go_wp2_with fail
        generalize (x4.alloc (.cells #[.int .i64 0, .int .u64 (LW : Int), .string ⟨#[]⟩, .string ou4, .slice o4 n4 c4, .int .i64 4] 28)) = xf at *
        go_quiet (first
          | (go_at_call 11; exact Calls.quiet_of_same ((HNL.out _).mono fun _ _ h => ⟨h.1, h.2.symm⟩)))
        have HBL : Hid (Below w.heap.size w (xf.drewN nq)) := (HFIN _ HBF.out).trans (below_drewN _ _ _)
        generalize xf.drewN nq = xg at *
        go_wp2
        go_ret
        exact ⟨rfl, HBL.out⟩
      · go_wp2_with fail
        generalize (x4.alloc (.cells #[.int .i64 0, .int .u64 (LW : Int), .string ⟨#[]⟩, .string ou4, .slice o4 n4 c4, .int .i64 4] 28)) = xf at *
        go_quiet (first
          | (go_at_call 11; exact Calls.quiet_of_same ((HNL.out _).mono fun _ _ h => ⟨h.1, h.2.symm⟩)))
        have HBL : Hid (Below w.heap.size w (xf.drewN nq)) := (HFIN _ HBF.out).trans (below_drewN _ _ _)
        generalize xf.drewN nq = xg at *
        go_wp2
        go_ret
        exact ⟨rfl, HBL.out⟩
end Go.Proofs.YteenlckpjncgoaaDoor

namespace Go.Proofs.YteenlckpjncgoaaDoor
open Go.RowKit HeaM Ma

/-- The law, whatever comes in. -/
theorem texts_walk (s t : ByteArray) (w : World) (hs : s.size ≤ 140737488351232) (ht : t.size ≤ 140737488351232) :
    Calls Tryd.prog 3 #[.string s, .string t] w fun e w' => e = .returned (.bool true) ∧ Below w.heap.size w w' := by
  obtain ⟨a, rfl⟩ : ∃ a : List UInt8, s = ⟨a.toArray⟩ := ⟨s.data.toList, by simp⟩
  obtain ⟨b, rfl⟩ : ∃ b : List UInt8, t = ⟨b.toArray⟩ := ⟨t.data.toList, by simp⟩
  have ha : a.length ≤ 140737488351232 := by simpa [ByteArray.size] using hs
  have hb : b.length ≤ 140737488351232 := by simpa [ByteArray.size] using ht
  by_cases h : 2500 < a.length ∨ 2500 < b.length
  · exact texts_out a b w ha hb h
  · exact texts_in a b w (by omega) (by omega)
end Go.Proofs.YteenlckpjncgoaaDoor
