/- LTxA, LTxB, LTexts, LRsA, LRsB, LMvA, LMvB, in one text. -/
import Derived.Test.YtpmbdncackneoaaDoorGMe
import Derived.BigRegion

namespace Go.Proofs.YtpmbdncackneoaaDoor
open Go.RowKit HeaM Ma

def eS : ByteArray := ⟨#[]⟩
def lit (l : List UInt8) : ByteArray := ⟨l.toArray⟩
theorem lit_list (l : List UInt8) : (lit l).data.toList = l := by simp [lit]
def iT (l : List UInt8) : CodM.Ins := ⟨1, 0, 0, lit l⟩
def iO (n : Int) : CodM.Ins := ⟨20, n, 0, eS⟩
def iR : CodM.Ins := ⟨8, 0, 0, eS⟩

/-- A state of a function alone. -/
def S1 (i : Int) (W : List Nat) (F : List Bool) (stk : List V) (trs : List Tr) (fuel : Nat) : Ms := ⟨W, F, stk, [⟨0, .num 0, 0, i⟩], trs, fuel, 50, [], [], [], 0⟩
theorem st0_S1 (fuel : Nat) : st0 fuel 50 = S1 0 (primW 8) (primF 8) [.num 0] [] fuel := rfl
theorem few_S1 {i : Int} {W : List Nat} {F : List Bool} {stk : List V} {trs : List Tr} {fuel : Nat} (h : stk.length ≤ 1000) (h2 : trs.length ≤ 1000) : few (S1 i W F stk trs fuel) :=
  ⟨by show stk.length ≤ _; omega, by show 1 ≤ _; omega, by show trs.length ≤ _; omega, by show 0 ≤ _; omega, by show 0 ≤ _; omega⟩

/-- More words: a text. -/
def tW (W : List Nat) (l : List UInt8) : List Nat := W ++ (l.length * 256 + 3) :: pk l
def tF (F : List Bool) (l : List UInt8) : List Bool := F ++ true :: List.replicate (nw l.length) false
theorem tW_len (W : List Nat) (l : List UInt8) : (tW W l).length = W.length + need 3 l.length := by
  unfold tW
  rw [List.length_append, List.length_cons, pk_length]
  have : need 3 l.length = 1 + (l.length + 7) / 8 := rfl
  unfold nw
  omega

theorem text_S1 {ins : List CodM.Ins} {i : Int} {W : List Nat} {F : List Bool} {stk : List V} {trs : List Tr} {fuel : Nat} {l : List UInt8} (hl : l.length ≤ 4096) (hq : W.length + need 3 l.length ≤ 4000) :
    Ma.text (mcR ins) (S1 i W F stk trs fuel) l = some (0, S1 i (tW W l) (tF F l) (.txt W.length l :: stk) trs fuel) := by
  unfold Ma.text
  rw [if_neg (by omega)]
  unfold putText
  rw [if_pos (show (S1 i W F stk trs fuel).W.length + need 3 l.length ≤ (mcR ins).q from hq)]
  rfl

/-- A text is laid. -/
theorem do_T {ins : List CodM.Ins} {i : Int} {W : List Nat} {F : List Bool} {stk : List V} {trs : List Tr} {fuel : Nat} {l : List UInt8} (hl : l.length ≤ 4096) (hq : W.length + need 3 l.length ≤ 4000) :
    doI (mcR ins) (S1 i W F stk trs fuel) ⟨0, .num 0, 0, i⟩ [] (iT l) = some (0, S1 i (tW W l) (tF F l) (.txt W.length l :: stk) trs fuel) := by
  show Ma.text (mcR ins) (S1 i W F stk trs fuel) (lit l).data.toList = _
  rw [lit_list]
  exact text_S1 hl hq

/-- The end. -/
theorem run_R {ins : List CodM.Ins} {i k : Nat} {W : List Nat} {F : List Bool} {v : V} {t : List V} {fuel : Nat} (hx : ins[i]? = some iR) (hi : i ≤ 100000) (ht : t.length ≤ 900) :
    Ma.runN (mcR ins) (k + 2) (S1 i W F (v :: t) [] fuel) = some (0, ⟨W, F, [], [], [], fuel, 50, [], [], [], v.word⟩) := by
  refine (go1 (k := k + 1) (i := i) (x := iR) (s' := ⟨W, F, t.drop t.length, [], [], fuel, 50, [], [], [], v.word⟩) rfl hx (by omega) (few_S1 (by simp only [List.length_cons]; omega) (by simp)) ?_).trans ?_
  · show leave (⟨W, F, v :: t, [⟨0, .num 0, 0, (i : Int) + 1⟩], [], fuel, 50, [], [], [], 0⟩ : Ms) = _
    unfold leave
    simp [ok]
  · unfold Ma.runN
    simp

def lA (a b : List UInt8) : List CodM.Ins := [iT a, iT b, iO 9, iR]
def lB (a b : List UInt8) : List CodM.Ins := [iT a, iT b, iO 5, iR]
def lC (a b : List UInt8) : List CodM.Ins := [iT a, ⟨15, 0, 0, lit b⟩, iR]
def lD (a : List UInt8) : List CodM.Ins := [⟨5, 6, 0, eS⟩, iT a, ⟨7, 0, 0, eS⟩, iR]

theorem need_le (n : Nat) (h : n ≤ 2500) : need 3 n ≤ 314 := by
  have : need 3 n = 1 + (n + 7) / 8 := rfl
  omega
theorem need_le2 (n : Nat) (h : n ≤ 4096) : need 3 n ≤ 513 := by
  have : need 3 n = 1 + (n + 7) / 8 := rfl
  omega
theorem pW : (primW 8).length = 16 := primW_length 8

/-- Both texts are laid. -/
theorem two_T {ins : List CodM.Ins} {k : Nat} {a b : List UInt8} (h0 : ins[0]? = some (iT a)) (h1 : ins[1]? = some (iT b)) (ha : a.length ≤ 2500) (hb : b.length ≤ 2500) :
    Ma.runN (mcR ins) (k + 2) (st0 5 50) = Ma.runN (mcR ins) k (S1 2 (tW (tW (primW 8) a) b) (tF (tF (primF 8) a) b) [.txt (tW (primW 8) a).length b, .txt 16 a, .num 0] [] 5) := by
  have na := need_le a.length ha
  have nb := need_le b.length hb
  rw [st0_S1]
  refine (go1 (k := k + 1) (i := 0) rfl h0 (by omega) (few_S1 (by simp) (by simp)) (do_T (i := 1) (W := primW 8) (F := primF 8) (trs := []) (fuel := 5) (stk := [.num 0]) (l := a) (by omega) (by rw [pW]; omega))).trans ?_
  rw [pW]
  exact go1 (k := k) (i := 1) rfl h1 (by omega) (few_S1 (by simp) (by simp)) (do_T (i := 2) (W := tW (primW 8) a) (F := tF (primF 8) a) (trs := []) (fuel := 5) (stk := [.txt 16 a, .num 0]) (l := b) (by omega) (by rw [tW_len, pW]; omega))

theorem evA {a b : List UInt8} (ha : a.length ≤ 2500) (hb : b.length ≤ 2500) (hs : a.length + b.length ≤ 4096) :
    Ma.runN (mcR (lA a b)) 5 (st0 5 50) = some (0, ⟨tW (tW (tW (primW 8) a) b) (a ++ b), tF (tF (tF (primF 8) a) b) (a ++ b), [], [], [], 5, 50, [], [], [], 2 * (tW (tW (primW 8) a) b).length⟩) := by
  have na := need_le a.length ha
  have nb := need_le b.length hb
  have nab := need_le2 (a.length + b.length) hs
  refine (two_T (k := 3) rfl rfl ha hb).trans ?_
  refine (go1 (k := 2) (i := 2) (x := iO 9) (s' := S1 3 (tW (tW (tW (primW 8) a) b) (a ++ b)) (tF (tF (tF (primF 8) a) b) (a ++ b)) [.txt (tW (tW (primW 8) a) b).length (a ++ b), .num 0] [] 5) rfl rfl (by omega) (few_S1 (by simp) (by simp)) ?_).trans ?_
  · exact text_S1 (i := 3) (W := tW (tW (primW 8) a) b) (F := tF (tF (primF 8) a) b) (stk := [.num 0]) (trs := []) (fuel := 5) (l := a ++ b) (by rw [List.length_append]; omega) (by rw [tW_len, tW_len, pW, List.length_append]; omega)
  · exact run_R (k := 0) (i := 3) rfl (by omega) (by simp)

theorem evA9 {a b : List UInt8} (ha : a.length ≤ 2500) (hb : b.length ≤ 2500) (hs : 4096 < a.length + b.length) :
    Ma.runN (mcR (lA a b)) 3 (st0 5 50) = some (9, { S1 3 (tW (tW (primW 8) a) b) (tF (tF (primF 8) a) b) [.num 0] [] 5 with raised := tLong }) := by
  refine (two_T (k := 1) rfl rfl ha hb).trans ?_
  refine go1e (k := 0) (i := 2) (x := iO 9) rfl rfl (by omega) (few_S1 (by simp) (by simp)) (by decide) ?_
  show Ma.text (mcR (lA a b)) (S1 3 (tW (tW (primW 8) a) b) (tF (tF (primF 8) a) b) [.num 0] [] 5) (a ++ b) = _
  unfold Ma.text
  rw [if_pos (by rw [List.length_append]; exact hs)]
  rfl

theorem evB {a b : List UInt8} (ha : a.length ≤ 2500) (hb : b.length ≤ 2500) :
    Ma.runN (mcR (lB a b)) 5 (st0 5 50) = some (0, ⟨tW (tW (primW 8) a) b, tF (tF (primF 8) a) b, [], [], [], 4, 50, [], [], [], (V.num (if a = b then 1 else 0)).word⟩) := by
  refine (two_T (k := 3) rfl rfl ha hb).trans ?_
  refine (go1 (k := 2) (i := 2) (x := iO 5) (s' := S1 3 (tW (tW (primW 8) a) b) (tF (tF (primF 8) a) b) [.num (if a = b then 1 else 0), .num 0] [] 4) rfl rfl (by omega) (few_S1 (by simp) (by simp)) ?_).trans ?_
  · show truth (S1 3 _ _ [.num 0] [] 4) (decide (a = b) == decide ((5 : Int) = 5)) = _
    unfold truth
    by_cases e : a = b
    · simp [e, ok, push, S1]
    · simp [e, ok, push, S1]
  · exact run_R (k := 0) (i := 3) rfl (by omega) (by simp)

theorem evC {a b : List UInt8} (ha : a.length ≤ 2500) :
    Ma.runN (mcR (lC a b)) 4 (st0 5 50) = some (0, ⟨tW (primW 8) a, tF (primF 8) a, [], [], [], 5, 50, [], [], [], (V.num (if a = b then 1 else 0)).word⟩) := by
  have na := need_le a.length ha
  rw [st0_S1]
  refine (go1 (k := 3) (i := 0) rfl rfl (by omega) (few_S1 (by simp) (by simp)) (do_T (i := 1) (W := primW 8) (F := primF 8) (trs := []) (fuel := 5) (stk := [.num 0]) (l := a) (by omega) (by rw [pW]; omega))).trans ?_
  refine (go1 (k := 2) (i := 1) (x := ⟨15, 0, 0, lit b⟩) (s' := S1 2 (tW (primW 8) a) (tF (primF 8) a) [.num (if a = b then 1 else 0), .num 0] [] 5) rfl rfl (by omega) (few_S1 (by simp) (by simp)) ?_).trans ?_
  · show truth (S1 2 _ _ [.num 0] [] 5) (decide (a = (lit b).data.toList)) = _
    rw [lit_list]
    unfold truth
    by_cases e : a = b
    · simp [e, ok, push, S1]
    · simp [e, ok, push, S1]
  · exact run_R (k := 0) (i := 2) rfl (by omega) (by simp)

theorem evD {a : List UInt8} (ha : a.length ≤ 2500) :
    Ma.runN (mcR (lD a)) 5 (st0 5 50) = some (0, ⟨tW (primW 8) a, tF (primF 8) a, [], [], [], 4, 50, [], [], [], (V.num (a.length : Int)).word⟩) := by
  have na := need_le a.length ha
  have hc : cut (a.length : Int) = (a.length : Int) := by unfold cut; omega
  rw [st0_S1]
  refine (go1 (k := 4) (i := 0) (x := ⟨5, 6, 0, eS⟩) (s' := S1 1 (primW 8) (primF 8) [.prim 12 6, .num 0] [] 5) rfl rfl (by omega) (few_S1 (by simp) (by simp)) ?_).trans ?_
  · rfl
  refine (go1 (k := 3) (i := 1) rfl rfl (by omega) (few_S1 (by simp) (by simp)) (do_T (i := 2) (W := primW 8) (F := primF 8) (trs := []) (fuel := 5) (stk := [.prim 12 6, .num 0]) (l := a) (by omega) (by rw [pW]; omega))).trans ?_
  refine (go1 (k := 2) (i := 2) (x := ⟨7, 0, 0, eS⟩) (s' := S1 3 (tW (primW 8) a) (tF (primF 8) a) [.num (a.length : Int), .num 0] [] 4) rfl rfl (by omega) (few_S1 (by simp) (by simp)) ?_).trans ?_
  · show some (0, Ma.push (S1 3 (tW (primW 8) a) (tF (primF 8) a) [.num 0] [] 4) (.num (cut (a.length : Int)))) = _
    rw [hc]
    rfl
  · exact run_R (k := 0) (i := 3) rfl (by omega) (by simp)

/-- They may run. -/
theorem chkA (a b : List UInt8) : CodM.chk [⟨0, lA a b⟩] 8 = true := by
  refine chk_line _ (fun i => ([(1, 0), (2, 0), (3, 0), (2, 0)] : List (Int × Int)).getD i (0, 0)) (by show 0 < 4; omega) rfl fun i x hx => ?_
  rcases i with _ | _ | _ | _ | i
  all_goals
    simp [lA, iT, iO, iR] at hx
  all_goals
    subst hx
    refine ⟨by simp [CodM.alw, CodM.nm, CodM.tk], fun s hs => ?_⟩
    simp [CodM.succ, CodM.lv, CodM.tk] at hs
  all_goals
    subst hs
    exact ⟨by decide, by show _ < (4 : Int); decide, rfl⟩
theorem chkB (a b : List UInt8) : CodM.chk [⟨0, lB a b⟩] 8 = true := by
  refine chk_line _ (fun i => ([(1, 0), (2, 0), (3, 0), (2, 0)] : List (Int × Int)).getD i (0, 0)) (by show 0 < 4; omega) rfl fun i x hx => ?_
  rcases i with _ | _ | _ | _ | i
  all_goals
    simp [lB, iT, iO, iR] at hx
  all_goals
    subst hx
    refine ⟨by simp [CodM.alw, CodM.nm, CodM.tk], fun s hs => ?_⟩
    simp [CodM.succ, CodM.lv, CodM.tk] at hs
  all_goals
    subst hs
    exact ⟨by decide, by show _ < (4 : Int); decide, rfl⟩
theorem chkC (a b : List UInt8) : CodM.chk [⟨0, lC a b⟩] 8 = true := by
  refine chk_line _ (fun i => ([(1, 0), (2, 0), (2, 0)] : List (Int × Int)).getD i (0, 0)) (by show 0 < 3; omega) rfl fun i x hx => ?_
  rcases i with _ | _ | _ | i
  all_goals
    simp [lC, iT, iR] at hx
  all_goals
    subst hx
    refine ⟨by simp [CodM.alw, CodM.nm, CodM.tk], fun s hs => ?_⟩
    simp [CodM.succ, CodM.lv, CodM.tk] at hs
  all_goals
    subst hs
    exact ⟨by decide, by show _ < (3 : Int); decide, rfl⟩
theorem chkD (a : List UInt8) : CodM.chk [⟨0, lD a⟩] 8 = true := by
  refine chk_line _ (fun i => ([(1, 0), (2, 0), (3, 0), (2, 0)] : List (Int × Int)).getD i (0, 0)) (by show 0 < 4; omega) rfl fun i x hx => ?_
  rcases i with _ | _ | _ | _ | i
  all_goals
    simp [lD, iT, iR] at hx
  all_goals
    subst hx
    refine ⟨by simp [CodM.alw, CodM.nm, CodM.tk], fun s hs => ?_⟩
    simp [CodM.succ, CodM.lv, CodM.tk] at hs
  all_goals
    subst hs
    exact ⟨by decide, by show _ < (4 : Int); decide, rfl⟩
end Go.Proofs.YtpmbdncackneoaaDoor

namespace Go.Proofs.YtpmbdncackneoaaDoor
open Go.RowKit HeaM Ma

theorem tF_len {W : List Nat} {F : List Bool} (l : List UInt8) (h : F.length = W.length) : (tF F l).length = (tW W l).length := by
  unfold tF tW
  rw [List.length_append, List.length_append, List.length_cons, List.length_cons, List.length_replicate, pk_length, h]
theorem ok_T {a b : List UInt8} : ∀ x ∈ lA a b, okop x.op := by
  intro x hx
  simp only [lA, List.mem_cons, List.not_mem_nil, or_false] at hx
  rcases hx with rfl | rfl | rfl | rfl <;> simp [okop, iT, iO, iR]
theorem ok_B {a b : List UInt8} : ∀ x ∈ lB a b, okop x.op := by
  intro x hx
  simp only [lB, List.mem_cons, List.not_mem_nil, or_false] at hx
  rcases hx with rfl | rfl | rfl | rfl <;> simp [okop, iT, iO, iR]
theorem ok_C {a b : List UInt8} : ∀ x ∈ lC a b, okop x.op := by
  intro x hx
  simp only [lC, List.mem_cons, List.not_mem_nil, or_false] at hx
  rcases hx with rfl | rfl | rfl <;> simp [okop, iT, iR]
theorem ok_D {a : List UInt8} : ∀ x ∈ lD a, okop x.op := by
  intro x hx
  simp only [lD, List.mem_cons, List.not_mem_nil, or_false] at hx
  rcases hx with rfl | rfl | rfl | rfl <;> simp [okop, iT, iR]

/-- The functions' cells. -/
def cA (a b : List UInt8) : Array Value := #[.int .u8 1, .int .i64 0, .int .i64 0, .string ⟨a.toArray⟩, .int .u8 1, .int .i64 0, .int .i64 0, .string ⟨b.toArray⟩, .int .u8 20, .int .i64 9, .int .i64 0, .string ⟨#[]⟩, .int .u8 8, .int .i64 0, .int .i64 0, .string ⟨#[]⟩]
def cB (a b : List UInt8) : Array Value := #[.int .u8 1, .int .i64 0, .int .i64 0, .string ⟨a.toArray⟩, .int .u8 1, .int .i64 0, .int .i64 0, .string ⟨b.toArray⟩, .int .u8 20, .int .i64 5, .int .i64 0, .string ⟨#[]⟩, .int .u8 8, .int .i64 0, .int .i64 0, .string ⟨#[]⟩]
def cC (a b : List UInt8) : Array Value := #[.int .u8 1, .int .i64 0, .int .i64 0, .string ⟨a.toArray⟩, .int .u8 15, .int .i64 0, .int .i64 0, .string ⟨b.toArray⟩, .int .u8 8, .int .i64 0, .int .i64 0, .string ⟨#[]⟩]
def cD (a : List UInt8) : Array Value := #[.int .u8 5, .int .i64 6, .int .i64 0, .string ⟨#[]⟩, .int .u8 1, .int .i64 0, .int .i64 0, .string ⟨a.toArray⟩, .int .u8 7, .int .i64 0, .int .i64 0, .string ⟨#[]⟩, .int .u8 8, .int .i64 0, .int .i64 0, .string ⟨#[]⟩]
theorem cA_eq (a b : List UInt8) : cA a b = (CsIn (lA a b)).toArray := rfl
theorem cB_eq (a b : List UInt8) : cB a b = (CsIn (lB a b)).toArray := rfl
theorem cC_eq (a b : List UInt8) : cC a b = (CsIn (lC a b)).toArray := rfl
theorem cD_eq (a : List UInt8) : cD a = (CsIn (lD a)).toArray := rfl

/-- An outcome, and the machine, without what they were made of. -/
def QPost (w : World) (E R Fu : Int) (ra : ByteArray) (e' : Ending) (w' : World) : Prop :=
  ∃ o n c M ou, e' = .returned (.tuple #[.agg #[.int .i64 E, .int .u64 R, .string ra, .string ou, .slice o n c, .int .i64 Fu], .pointer (some ⟨M, 0, none⟩)]) ∧ Below w.heap.size w w'
theorem MPost.q {w : World} {E R Fu : Int} {ra ou : ByteArray} {s' : Ms} {o : Obj} (e' : Ending) (w' : World) (h : MPost (w.alloc o) E R Fu ra ou s' e' w') : QPost w E R Fu ra e' w' := by
  obtain ⟨o, c, M, he, hb, _⟩ := h
  exact ⟨o, _, c, M, ou, he, ((Below.refl _ w).alloc (Nat.le_refl _) _).trans (hb.mono (by simp))⟩

theorem runA9 {a b : List UInt8} (w : World) (ha : a.length ≤ 2500) (hb : b.length ≤ 2500) (hs : 4096 < a.length + b.length) :
    Calls Tryd.prog 5 #[.slice (some ⟨w.heap.size, 0, none⟩) 4 4, .int .i64 5] (w.alloc (.cells (cA a b) 28)) (QPost w 9 0 5 ⟨#[108, 111, 110, 103]⟩) :=
  (lrun_l (c := 4) (lA a b) (insC_lit (by rw [cA_eq]; exact heap_alloc_new w _)) (by show 0 < 4; omega) (by show 4 ≤ _; omega) (by show 4 ≤ 4; omega) (by unfold maxLen; omega) (chkA a b) (fuel := 5) (by omega) ok_T (evA9 ha hb hs) rfl rfl rfl rfl rfl).mono MPost.q

theorem runB {a b : List UInt8} (w : World) (ha : a.length ≤ 2500) (hb : b.length ≤ 2500) {q : Int} (hq : (((V.num (if a = b then 1 else 0)).word : Nat) : Int) = q) :
    Calls Tryd.prog 5 #[.slice (some ⟨w.heap.size, 0, none⟩) 4 4, .int .i64 5] (w.alloc (.cells (cB a b) 28)) (QPost w 0 q 4 ⟨#[]⟩) :=
  (lrun_l (c := 4) (lB a b) (insC_lit (by rw [cB_eq]; exact heap_alloc_new w _)) (by show 0 < 4; omega) (by show 4 ≤ _; omega) (by show 4 ≤ 4; omega) (by unfold maxLen; omega) (chkB a b) (fuel := 5) (by omega) ok_B (evB ha hb) rfl hq rfl rfl rfl).mono MPost.q
theorem runC' {a b : List UInt8} (w : World) (ha : a.length ≤ 2500) {q : Int} (hq : (((V.num (if a = b then 1 else 0)).word : Nat) : Int) = q) :
    Calls Tryd.prog 5 #[.slice (some ⟨w.heap.size, 0, none⟩) 3 3, .int .i64 5] (w.alloc (.cells (cC a b) 28)) (QPost w 0 q 5 ⟨#[]⟩) :=
  (lrun_l (c := 3) (lC a b) (insC_lit (by rw [cC_eq]; exact heap_alloc_new w _)) (by show 0 < 3; omega) (by show 3 ≤ _; omega) (by show 3 ≤ 3; omega) (by unfold maxLen; omega) (chkC a b) (fuel := 5) (by omega) ok_C (evC ha) rfl hq rfl rfl rfl).mono MPost.q
theorem runD {a : List UInt8} (w : World) (ha : a.length ≤ 2500) :
    Calls Tryd.prog 5 #[.slice (some ⟨w.heap.size, 0, none⟩) 4 4, .int .i64 5] (w.alloc (.cells (cD a) 28)) (QPost w 0 ((V.num (a.length : Int)).word : Int) 4 ⟨#[]⟩) :=
  (lrun_l (c := 4) (lD a) (insC_lit (by rw [cD_eq]; exact heap_alloc_new w _)) (by show 0 < 4; omega) (by show 4 ≤ _; omega) (by show 4 ≤ 4; omega) (by unfold maxLen; omega) (chkD a) (fuel := 5) (by omega) ok_D (evD ha) rfl rfl rfl rfl rfl).mono MPost.q

/-- The texts joined: what m.Heap().Text tells. -/
def APost (w : World) (t : List UInt8) (R : Int) (e' : Ending) (w' : World) : Prop :=
  ∃ o n c M H vf vg ou, e' = .returned (.tuple #[.agg #[.int .i64 0, .int .u64 R, .string ⟨#[]⟩, .string ou, .slice o n c, .int .i64 5], .pointer (some ⟨M, 0, none⟩)]) ∧ Below w.heap.size w w' ∧ w'.heap[M]? = some (.cells #[.pointer (some ⟨H, 0, none⟩), vf, vg] 54 (0, 0)) ∧
    ∀ W, Below w'.heap.size w' W → Calls Tryd.prog 59 #[.pointer (some ⟨H, 0, none⟩), .int .u64 R] W fun e w2 => e = .returned (.string ⟨t.toArray⟩) ∧ Below W.heap.size W w2
theorem runA {a b : List UInt8} (w : World) (ha : a.length ≤ 2500) (hb : b.length ≤ 2500) (hs : a.length + b.length ≤ 4096) :
    Calls Tryd.prog 5 #[.slice (some ⟨w.heap.size, 0, none⟩) 4 4, .int .i64 5] (w.alloc (.cells (cA a b) 28)) (APost w (a ++ b) ((2 * (tW (tW (primW 8) a) b).length : Nat) : Int)) := by
  refine (lrun_l (c := 4) (lA a b) (insC_lit (by rw [cA_eq]; exact heap_alloc_new w _)) (by show 0 < 4; omega) (by show 4 ≤ _; omega) (by show 4 ≤ 4; omega) (by unfold maxLen; omega) (chkA a b) (fuel := 5) (by omega) ok_T (evA ha hb hs) (E := 0) (R := ((2 * (tW (tW (primW 8) a) b).length : Nat) : Int)) (Fu := 5) (ra := ⟨#[]⟩) (ou := ⟨#[]⟩) rfl rfl rfl rfl rfl).mono ?_
  rintro e' w' ⟨o, c, M, rfl, hb', _, hz⟩
  obtain ⟨H, base, u1, u2, vf, vg, hH, hM, hl, hw, hx⟩ := hz rfl
  refine ⟨o, _, c, M, H, vf, vg, _, rfl, ((Below.refl _ w).alloc (Nat.le_refl _) _).trans (hb'.mono (by simp)), hM, fun W hW => ?_⟩
  have hrep : Rep (tW (tW (tW (primW 8) a) b) (a ++ b)) (tF (tF (tF (primF 8) a) b) (a ++ b)) (.txt (tW (tW (primW 8) a) b).length (a ++ b)) :=
    rep_txt (tF_len b (tF_len a (primF_length 8))) (by rw [List.length_append]; omega)
  exact text_v W (hH.below hW (Nat.le_refl _)) hl (by show (tW _ _).length ≤ _; have h4 : (tW (tW (tW (primW 8) a) b) (a ++ b)).length ≤ 4000 := hw; omega) hx hrep (Lib.hid rfl)

end Go.Proofs.YtpmbdncackneoaaDoor

namespace Go.Proofs.YtpmbdncackneoaaDoor
open Go.RowKit HeaM Ma

/-- A result's box. -/
def rbx (E R Fu : Int) (ra ou : ByteArray) (o : Option Addr) (n c : Nat) : Obj := .cells #[.int .i64 E, .int .u64 R, .string ra, .string ou, .slice o n c, .int .i64 Fu] 33
theorem rbx_at {w w' : World} {E R Fu : Int} {ra ou : ByteArray} {o : Option Addr} {n c : Nat} (hb : Below (w.alloc (rbx E R Fu ra ou o n c)).heap.size (w.alloc (rbx E R Fu ra ou o n c)) w') :
    w'.cell? ⟨w.heap.size, 0, none⟩ = some (.int .i64 E) ∧ w'.cell? ⟨w.heap.size, 1, none⟩ = some (.int .u64 R) ∧ w'.cell? ⟨w.heap.size, 2, none⟩ = some (.string ra) ∧ w'.cell? ⟨w.heap.size, 5, none⟩ = some (.int .i64 Fu) := by
  have hblk := heap_alloc_new w (rbx E R Fu ra ou o n c)
  have hsz : w.heap.size < (w.alloc (rbx E R Fu ra ou o n c)).heap.size := by simp
  have cc := fun j => cell_of_row _ w.heap.size j _ _ (0, 0) hblk
  exact ⟨(hb.cell (p := ⟨w.heap.size, 0, none⟩) hsz).trans ((cc 0).trans rfl), (hb.cell (p := ⟨w.heap.size, 1, none⟩) hsz).trans ((cc 1).trans rfl), (hb.cell (p := ⟨w.heap.size, 2, none⟩) hsz).trans ((cc 2).trans rfl), (hb.cell (p := ⟨w.heap.size, 5, none⟩) hsz).trans ((cc 5).trans rfl)⟩

end Go.Proofs.YtpmbdncackneoaaDoor

namespace Go.Proofs.YtpmbdncackneoaaDoor
open Go.RowKit HeaM Ma

def iN (n : Int) : CodM.Ins := ⟨0, n, 0, eS⟩
def numsI : Nat → List CodM.Ins
  | 0 => []
  | j + 1 => numsI j ++ [iN (j : Int)]
theorem numsI_len (j : Nat) : (numsI j).length = j := by
  induction j with
  | zero => rfl
  | succ j ih => rw [numsI, List.length_append, ih]; rfl
def midI (k : Nat) (n : Int) (s : List UInt8) : List CodM.Ins := [⟨24, (k : Int) + 4, 0, eS⟩, iN n, iN n, ⟨26, 0, 0, lit s⟩]
def lastI (k : Nat) : List CodM.Ins := if k = 0 then [] else [⟨18, (k : Int), 0, eS⟩]
def lRa (k : Nat) (n : Int) (s : List UInt8) : List CodM.Ins := ((numsI k ++ midI k n s) ++ lastI k) ++ [iR]
def lRq (s : List UInt8) : List CodM.Ins := [⟨26, 0, 0, lit s⟩]
def stkR : Nat → List V
  | 0 => [.num 0]
  | j + 1 => .num (cut (j : Int)) :: stkR j
theorem stkR_len (j : Nat) : (stkR j).length = j + 1 := by
  induction j with
  | zero => rfl
  | succ j ih => rw [stkR, List.length_cons, ih]

theorem run_nums {ins : List CodM.Ins} {K fuel : Nat} : ∀ j : Nat, j ≤ 10 → (∀ i : Nat, i < j → ins[i]? = some (iN (i : Int))) → Ma.runN (mcR ins) (K + j) (st0 fuel 50) = Ma.runN (mcR ins) K (S1 (j : Int) (primW 8) (primF 8) (stkR j) [] fuel) := by
  intro j
  induction j generalizing K with
  | zero => intro _ _; rfl
  | succ j ih =>
    intro hj h
    rw [show K + (j + 1) = (K + 1) + j by omega, ih (by omega) (fun i hi => h i (by omega))]
    refine go1 (i := j) (x := iN (j : Int)) rfl (h j (by omega)) (by omega) (few_S1 (by rw [stkR_len]; omega) (by simp)) ?_
    rfl

theorem do_F {c : Mc} {S : Ms} {f : Fr} {fs : List Fr} {s : List UInt8} : doI c S f fs ⟨26, 0, 0, lit s⟩ = Ma.raise c S s := by
  show Ma.raise c S (lit s).data.toList = _
  rw [lit_list]

/-- The exception lands where the try leads. -/
theorem run_mid {ins : List CodM.Ins} {k K fuel : Nat} {n : Int} {s : List UInt8} {W : List Nat} {F : List Bool} (hk : k ≤ 10) (hs : s.length ≤ 2000) (hW : W.length ≤ 100)
    (h0 : ins[k]? = some ⟨24, (k : Int) + 4, 0, eS⟩) (h1 : ins[k + 1]? = some (iN n)) (h2 : ins[k + 2]? = some (iN n)) (h3 : ins[k + 3]? = some ⟨26, 0, 0, lit s⟩) :
    Ma.runN (mcR ins) (K + 4) (S1 (k : Int) W F (stkR k) [] fuel) = Ma.runN (mcR ins) K (S1 ((k : Int) + 4) (tW W s) (tF F s) (.txt W.length s :: stkR k) [] fuel) := by
  have ns := need_le s.length (by omega)
  refine (go1 (k := K + 3) (i := k) (s' := S1 ((k : Int) + 1) W F (stkR k) [⟨1, (k : Int) + 4, (stkR k).length⟩] fuel) rfl h0 (by omega) (few_S1 (by rw [stkR_len]; omega) (by simp)) rfl).trans ?_
  refine (go1 (k := K + 2) (i := k + 1) (s' := S1 ((k : Int) + 2) W F (.num (cut n) :: stkR k) [⟨1, (k : Int) + 4, (stkR k).length⟩] fuel) (by simp [S1]) h1 (by omega) (few_S1 (by rw [stkR_len]; omega) (by simp)) ?_).trans ?_
  · show some (0, (_ : Ms)) = _
    simp only [S1, Ma.push]
    congr 5
  refine (go1 (k := K + 1) (i := k + 2) (s' := S1 ((k : Int) + 3) W F (.num (cut n) :: .num (cut n) :: stkR k) [⟨1, (k : Int) + 4, (stkR k).length⟩] fuel) (by simp [S1]) h2 (by omega) (few_S1 (by simp only [List.length_cons]; rw [stkR_len]; omega) (by simp)) ?_).trans ?_
  · show some (0, (_ : Ms)) = _
    simp only [S1, Ma.push]
    congr 5
  refine go1 (k := K) (i := k + 3) (by simp [S1]) h3 (by omega) (few_S1 (by simp only [List.length_cons]; rw [stkR_len]; omega) (by simp)) ?_
  rw [do_F]
  unfold Ma.raise
  simp only [S1]
  unfold Ma.land
  rw [if_pos ⟨by simp, by simp only [List.length_cons]; omega⟩]
  simp only [List.length_cons, List.length_nil]
  rw [if_neg (show ¬ 4096 < s.length by omega)]
  rw [show (stkR k).length + 1 + 1 - (stkR k).length = 2 by omega]
  unfold putText
  show (if W.length + need 3 s.length ≤ 4000 then _ else _) = _
  rw [if_pos (show W.length + need 3 s.length ≤ 4000 by omega)]
  rfl

theorem nums_at {k i : Nat} (hi : i < k) : (numsI k)[i]? = some (iN (i : Int)) := by
  induction k with
  | zero => omega
  | succ k ih =>
    rw [numsI]
    by_cases h : i < k
    · rw [List.getElem?_append_left (by rw [numsI_len]; exact h)]
      exact ih h
    · obtain rfl : i = k := by omega
      rw [List.getElem?_append_right (by rw [numsI_len]; omega), numsI_len, Nat.sub_self]
      rfl
theorem lRa_num {k i : Nat} {n : Int} {s : List UInt8} (hi : i < k) : (lRa k n s)[i]? = some (iN (i : Int)) := by
  unfold lRa
  rw [List.append_assoc, List.append_assoc, List.getElem?_append_left (by rw [numsI_len]; exact hi)]
  exact nums_at hi
theorem lRa_mid {k j : Nat} {n : Int} {s : List UInt8} : (lRa k n s)[k + j]? = ((midI k n s ++ lastI k) ++ [iR])[j]? := by
  unfold lRa
  rw [List.append_assoc, List.append_assoc, List.getElem?_append_right (by rw [numsI_len]; omega), numsI_len, Nat.add_sub_cancel_left, List.append_assoc]

/-- The whole. -/
theorem evR {k : Nat} {n : Int} {s : List UInt8} (hk : k ≤ 5) (hs : s.length ≤ 2000) :
    Ma.runN (mcR (lRa k n s)) (7 + k) (st0 3 50) = some (0, ⟨tW (primW 8) s, tF (primF 8) s, [], [], [], 3, 50, [], [], [], 32⟩) := by
  rw [run_nums k (by omega) (fun i hi => lRa_num hi)]
  refine (run_mid (k := k) (K := 3) (by omega) hs (by rw [pW]; omega) (lRa_mid (j := 0)) (lRa_mid (j := 1)) (lRa_mid (j := 2)) (lRa_mid (j := 3))).trans ?_
  rw [pW]
  by_cases h0 : k = 0
  · subst h0
    exact run_R (k := 1) (i := 4) rfl (by omega) (by simp [stkR])
  · have e4 : (lRa k n s)[k + 4]? = some ⟨18, (k : Int), 0, eS⟩ := by
      rw [lRa_mid]
      unfold lastI
      rw [if_neg h0]
      rfl
    have e5 : (lRa k n s)[k + 5]? = some iR := by
      rw [lRa_mid]
      unfold lastI
      rw [if_neg h0]
      rfl
    have hd : (stkR k).drop k = [.num 0] := by
      clear e4 e5 hk h0
      induction k with
      | zero => rfl
      | succ k ih => rw [stkR, List.drop_succ_cons, ih]
    refine (go1 (k := 2) (i := k + 4) (s' := S1 ((k : Int) + 5) (tW (primW 8) s) (tF (primF 8) s) [.txt 16 s, .num 0] [] 3) (by simp [S1]) e4 (by omega) (few_S1 (by simp only [List.length_cons]; rw [stkR_len]; omega) (by simp)) ?_).trans ?_
    · show (if 0 ≤ (k : Int) ∧ (k : Int) ≤ ((stkR k).length : Int) then _ else _) = _
      rw [if_pos (by rw [stkR_len]; omega)]
      simp only [Int.toNat_natCast, S1]
      show some (0, (_ : Ms)) = _
      rw [hd]
      congr 5
    · exact run_R (k := 0) (i := k + 5) e5 (by omega) (by simp)

theorem evQ {s : List UInt8} : Ma.runN (mcR (lRq s)) 1 (st0 3 50) = some (9, { S1 1 (primW 8) (primF 8) [.num 0] [] 3 with raised := s }) := by
  rw [st0_S1]
  refine go1e (k := 0) (i := 0) (x := ⟨26, 0, 0, lit s⟩) rfl rfl (by omega) (few_S1 (by simp) (by simp)) (by decide) ?_
  rw [do_F]
  rfl

theorem chkQ (s : List UInt8) : CodM.chk [⟨0, lRq s⟩] 8 = true := by
  refine chk_line _ (fun _ => (1, 0)) (by show 0 < 1; omega) rfl fun i x hx => ?_
  rcases i with _ | i
  · simp [lRq] at hx
    subst hx
    exact ⟨by simp [CodM.alw, CodM.nm, CodM.tk], fun s hs => by simp [CodM.succ] at hs⟩
  · simp [lRq] at hx
/-- What stands where, and how many tries are open. -/
def stRs (k i : Nat) : Int × Int := if i ≤ k then ((i : Int) + 1, 0) else if i ≤ k + 3 then ((i : Int), 1) else if i = k + 4 then ((k : Int) + 2, 0) else (2, 0)
theorem stRs_a {k i : Nat} (h : i ≤ k) : stRs k i = ((i : Int) + 1, 0) := if_pos h
theorem stRs_b {k i : Nat} (h : k < i) (h2 : i ≤ k + 3) : stRs k i = ((i : Int), 1) := by unfold stRs; rw [if_neg (by omega), if_pos h2]
theorem stRs_c {k i : Nat} (h : i = k + 4) : stRs k i = ((k : Int) + 2, 0) := by unfold stRs; rw [if_neg (by omega), if_neg (by omega), if_pos h]
theorem stRs_d {k i : Nat} (h : k + 4 < i) : stRs k i = (2, 0) := by unfold stRs; rw [if_neg (by omega), if_neg (by omega), if_neg (by omega)]
theorem lRa_len (k : Nat) (n : Int) (s : List UInt8) : (lRa k n s).length = k + 5 + (if k = 0 then 0 else 1) := by
  unfold lRa lastI
  rw [List.length_append, List.length_append, List.length_append, numsI_len]
  split <;> rfl
theorem al_N {fs : List CodM.Fun} {n d t : Int} (hd : 0 < d) : CodM.alw fs 0 8 (iN n) d t = true := by
  simp [CodM.alw, CodM.nm, CodM.tk, iN]
  omega
theorem su_N {n d t : Int} {i : Nat} : CodM.succ (iN n) i d t = [((i : Int) + 1, d + 1, t)] := by
  simp [CodM.succ, CodM.lv, CodM.tk, iN]
theorem tk_S {k : Nat} (hk : k ≤ 5) : CodM.tk ⟨18, (k : Int), 0, eS⟩ = (k : Int) + 1 := by
  simp [CodM.tk, Go.RowKit.wrap64]
  omega
theorem chkRs {k : Nat} (hk : k ≤ 5) (n : Int) (s : List UInt8) : CodM.chk [⟨0, lRa k n s⟩] 8 = true := by
  have hl := lRa_len k n s
  refine chk_line _ (stRs k) (by rw [hl]; omega) (stRs_a (Nat.zero_le k)) fun i x hx => ?_
  by_cases h1 : i < k
  · rw [lRa_num h1] at hx
    injection hx with hx
    subst hx
    rw [stRs_a (by omega)]
    refine ⟨al_N (by show (0 : Int) < (i : Int) + 1; omega), fun t ht => ?_⟩
    rw [su_N] at ht
    obtain rfl := List.mem_singleton.1 ht
    exact ⟨by show (i : Int) < (i : Int) + 1; omega, by show (i : Int) + 1 < _; rw [hl]; omega, (congrArg (stRs k) (show ((i : Int) + 1).toNat = i + 1 by omega)).trans ((stRs_a (by omega)).trans (by simp))⟩
  obtain ⟨j, rfl⟩ : ∃ j, i = k + j := ⟨i - k, by omega⟩
  clear h1
  rw [lRa_mid] at hx
  rcases j with _ | _ | _ | _ | j
  · obtain rfl : (⟨24, (k : Int) + 4, 0, eS⟩ : CodM.Ins) = x := by simpa [midI] using hx
    rw [stRs_a (by omega)]
    refine ⟨by simp [CodM.alw, CodM.nm, CodM.tk] <;> omega, fun t ht => ?_⟩
    have ht' : t = ((k : Int) + 4, ((k + 0 : Nat) : Int) + 1 + 1, (0 : Int)) ∨ t = (((k + 0 : Nat) : Int) + 1, ((k + 0 : Nat) : Int) + 1, (0 : Int) + 1) := by simpa [CodM.succ] using ht
    rcases ht' with rfl | rfl
    · exact ⟨by show ((k + 0 : Nat) : Int) < (k : Int) + 4; omega, by show (k : Int) + 4 < _; rw [hl]; omega, (stRs_c (show ((k : Int) + 4).toNat = k + 4 by omega)).trans (by simp; omega)⟩
    · exact ⟨by show ((k + 0 : Nat) : Int) < ((k + 0 : Nat) : Int) + 1; omega, by show ((k + 0 : Nat) : Int) + 1 < _; rw [hl]; omega, (congrArg (stRs k) (show (((k + 0 : Nat) : Int) + 1).toNat = k + 1 by omega)).trans ((stRs_b (by omega) (by omega)).trans (by simp))⟩
  · obtain rfl : iN n = x := by simpa [midI] using hx
    rw [stRs_b (by omega) (by omega)]
    refine ⟨al_N (by show (0 : Int) < ((k + (0 + 1) : Nat) : Int); omega), fun t ht => ?_⟩
    rw [su_N] at ht
    obtain rfl := List.mem_singleton.1 ht
    exact ⟨by show ((k + (0 + 1) : Nat) : Int) < ((k + (0 + 1) : Nat) : Int) + 1; omega, by show ((k + (0 + 1) : Nat) : Int) + 1 < _; rw [hl]; omega, (congrArg (stRs k) (show (((k + (0 + 1) : Nat) : Int) + 1).toNat = k + 2 by omega)).trans ((stRs_b (by omega) (by omega)).trans (by simp; omega))⟩
  · obtain rfl : iN n = x := by simpa [midI] using hx
    rw [stRs_b (by omega) (by omega)]
    refine ⟨al_N (by show (0 : Int) < ((k + (0 + 1 + 1) : Nat) : Int); omega), fun t ht => ?_⟩
    rw [su_N] at ht
    obtain rfl := List.mem_singleton.1 ht
    exact ⟨by show ((k + (0 + 1 + 1) : Nat) : Int) < ((k + (0 + 1 + 1) : Nat) : Int) + 1; omega, by show ((k + (0 + 1 + 1) : Nat) : Int) + 1 < _; rw [hl]; omega, (congrArg (stRs k) (show (((k + (0 + 1 + 1) : Nat) : Int) + 1).toNat = k + 3 by omega)).trans ((stRs_b (by omega) (by omega)).trans (by simp; omega))⟩
  · obtain rfl : (⟨26, 0, 0, lit s⟩ : CodM.Ins) = x := by simpa [midI] using hx
    rw [stRs_b (by omega) (by omega)]
    exact ⟨by simp [CodM.alw, CodM.nm, CodM.tk]; omega, fun t ht => by simp [CodM.succ] at ht⟩
  · by_cases h0 : k = 0
    · subst h0
      rcases j with _ | j
      · obtain rfl : iR = x := by simpa [midI, lastI] using hx
        rw [stRs_c rfl]
        exact ⟨by simp [CodM.alw, CodM.nm, iR], fun t ht => by simp [CodM.succ, iR] at ht⟩
      · simp [midI, lastI] at hx
    · unfold lastI at hx
      rw [if_neg h0] at hx hl
      rcases j with _ | _ | j
      · obtain rfl : (⟨18, (k : Int), 0, eS⟩ : CodM.Ins) = x := by simpa [midI] using hx
        rw [stRs_c (by omega)]
        have e1 := tk_S hk
        refine ⟨?_, fun t ht => ?_⟩
        · simp only [CodM.alw, e1]
          simp [CodM.nm]
          omega
        · have ht' : t = (((k + (0 + 1 + 1 + 1 + 1) : Nat) : Int) + 1, (k : Int) + 2 + (1 - CodM.tk ⟨18, (k : Int), 0, eS⟩), (0 : Int)) := by simpa [CodM.succ, CodM.lv] using ht
          subst ht'
          rw [e1]
          exact ⟨by show ((k + (0 + 1 + 1 + 1 + 1) : Nat) : Int) < ((k + (0 + 1 + 1 + 1 + 1) : Nat) : Int) + 1; omega, by show ((k + (0 + 1 + 1 + 1 + 1) : Nat) : Int) + 1 < _; rw [hl]; omega, (stRs_d (show k + 4 < (((k + (0 + 1 + 1 + 1 + 1) : Nat) : Int) + 1).toNat by omega)).trans (by show ((2 : Int), (0 : Int)) = ((k : Int) + 2 + (1 - ((k : Int) + 1)), 0); congr 1; omega)⟩
      · obtain rfl : iR = x := by simpa [midI] using hx
        rw [stRs_d (by omega)]
        exact ⟨by simp [CodM.alw, CodM.nm, iR], fun t ht => by simp [CodM.succ, iR] at ht⟩
      · simp [midI] at hx
end Go.Proofs.YtpmbdncackneoaaDoor

namespace Go.Proofs.YtpmbdncackneoaaDoor
open Go.RowKit HeaM Ma

theorem ok_nums : ∀ k, ∀ x ∈ numsI k, okop x.op := by
  intro k
  induction k with
  | zero => intro x hx; cases hx
  | succ k ih =>
    intro x hx
    rcases List.mem_append.1 hx with h | h
    · exact ih x h
    · obtain rfl := List.mem_singleton.1 h
      exact .inl rfl
theorem ok_R {k : Nat} {n : Int} {s : List UInt8} : ∀ x ∈ lRa k n s, okop x.op := by
  intro x hx
  rcases List.mem_append.1 hx with h | h
  · rcases List.mem_append.1 h with h | h
    · rcases List.mem_append.1 h with h | h
      · exact ok_nums k x h
      · simp only [midI, List.mem_cons, List.not_mem_nil, or_false] at h
        rcases h with rfl | rfl | rfl | rfl <;> simp [okop, iN]
    · unfold lastI at h
      split at h
      · cases h
      · obtain rfl := List.mem_singleton.1 h
        simp [okop]
  · obtain rfl := List.mem_singleton.1 h
    simp [okop, iR]
theorem ok_Q {s : List UInt8} : ∀ x ∈ lRq s, okop x.op := by
  intro x hx
  obtain rfl := List.mem_singleton.1 hx
  simp [okop]

/-- Instructions onto a row of the call's own. -/
theorem append_ins {w : World} {base n m c : Nat} {v : Value} {xs cs : List Value} {a : Addr} (hown : w.ownsRow base 28 4 v n xs) (hl : cs.length = m * 4) (hc : ∀ j u, cs[j]? = some u → w.cell? (a.add j) = some u) (h1 : ∀ u ∈ cs, u.oneCell' = true) (hn : n ≤ 100) (hm : m ≤ 100) (hbase : base ≤ w.heap.size) :
    ∃ v' w', (Builtin.append_ #[24, 24] 24 #[v, .slice (some a) m c]).run Tryd.prog w = .ok v' w' ∧ w'.ownsRow base 28 4 v' (n + m) (xs ++ cs) ∧ w.grownBy w' v.ownBlock ∧ (v'.ownBlock = v.ownBlock ∨ v'.ownBlock = some w.heap.size) := by
  obtain ⟨i0, hi0, hz0, hz1, hz2⟩ := info_parts (show (Tryd.prog.info? 28).map (fun i => (i.zero, i.size, i.bytes)) = some (some (.agg #[.int .u8 0, .int .i64 0, .int .i64 0, .string ⟨#[]⟩]), 4, 40) by kernel_rfl)
  obtain ⟨v', w', hr, h2, h3, _, h5⟩ := run_append_own_at (P := Tryd.prog) w base 24 24 28 i0 _ 4 40 (by kernel_rfl) hi0 hz0 hz1 hz2 rfl (by decide) v n xs hown a m c cs hl hc h1 (by unfold maxLen; omega) (by omega) hbase
  exact ⟨v', w', hr, h2, h3, h5⟩

/-- More instructions, laid and appended. -/
theorem more_ins {wr : World} {base n : Nat} {v : Value} {l : List CodM.Ins} (l' : List CodM.Ins) (hown : wr.ownsRow base 28 4 v n (CsIn l)) (hn : n ≤ 100) (hm : l'.length ≤ 100) (hbase : base ≤ wr.heap.size) :
    ∃ o c w2, (Builtin.append_ #[24, 24] 24 #[v, .slice (some ⟨wr.heap.size, 0, none⟩) l'.length l'.length]).run Tryd.prog (wr.alloc (.cells (CsIn l').toArray 28)) = .ok (.slice o (n + l'.length) c) w2 ∧ w2.ownsRow base 28 4 (.slice o (n + l'.length) c) (n + l'.length) (CsIn (l ++ l')) ∧ Below base wr w2 := by
  have hba : Below wr.heap.size wr (wr.alloc (.cells (CsIn l').toArray 28)) := (Below.refl _ _).alloc (Nat.le_refl _) _
  have hown2 := own_kept hown (Below.kept hba fun _ h _ => h) (fun q a => by have := (hown.lt q a).2; omega)
  obtain ⟨v', w2, hr, h2, h3, _⟩ := append_ins (m := l'.length) (c := l'.length) (cs := CsIn l') (a := ⟨wr.heap.size, 0, none⟩) hown2 (CsIn_length _) (cells_new wr (CsIn l') 28)
    (fun u hu => by
      obtain ⟨x, _, hx⟩ := List.mem_flatMap.1 hu
      simp only [inC, List.mem_cons, List.not_mem_nil, or_false] at hx
      rcases hx with rfl | rfl | rfl | rfl <;> rfl) hn hm (by simp; omega)
  obtain ⟨o, c, rfl, _⟩ := own_slice h2
  refine ⟨o, c, w2, hr, ?_, ((Below.refl base wr).alloc hbase _).grown h3 (by simp; omega) (fun k hk => (hown.lt k hk).1)⟩
  rw [show CsIn (l ++ l') = CsIn l ++ CsIn l' by simp [CsIn]]
  exact h2

/-- What m.Heap().Text tells of the run with a try. -/
def RzPost (w : World) (s : List UInt8) (e' : Ending) (w' : World) : Prop :=
  ∃ o n c M H vf vg ou, e' = .returned (.tuple #[.agg #[.int .i64 0, .int .u64 32, .string ⟨#[]⟩, .string ou, .slice o n c, .int .i64 3], .pointer (some ⟨M, 0, none⟩)]) ∧ Below w.heap.size w w' ∧ w'.heap[M]? = some (.cells #[.pointer (some ⟨H, 0, none⟩), vf, vg] 54 (0, 0)) ∧
    ∀ W, Below w'.heap.size w' W → Calls Tryd.prog 59 #[.pointer (some ⟨H, 0, none⟩), .int .u64 32] W fun e w2 => e = .returned (.string ⟨s.toArray⟩) ∧ Below W.heap.size W w2
theorem runRs {w : World} {base k len cap g : Nat} {n : Int} {s : List UInt8} (hk : k ≤ 5) (hs : s.length ≤ 2000) (hlen : (lRa k n s).length = len) (hcap : len ≤ cap) (hcm : cap ≤ maxLen) (ho : w.ownsRow base 28 4 (.slice (some ⟨g, 0, none⟩) len cap) len (CsIn (lRa k n s))) :
    Calls Tryd.prog 5 #[.slice (some ⟨g, 0, none⟩) len cap, .int .i64 3] w (RzPost w s) := by
  subst hlen
  have hl := lRa_len k n s
  refine (lrun_l (c := cap) (lRa k n s) (InsC_of ho rfl) (by rw [hl]; omega) (by rw [hl]; split <;> omega) hcap hcm (chkRs hk n s) (fuel := 3) (by omega) ok_R (evR hk hs) (E := 0) (R := 32) (Fu := 3) (ra := ⟨#[]⟩) (ou := ⟨#[]⟩) rfl rfl rfl rfl rfl).mono ?_
  rintro e' w' ⟨o, c, M, rfl, hb', _, hz⟩
  obtain ⟨H, base, u1, u2, vf, vg, hH, hM, hl, hw, hx⟩ := hz rfl
  refine ⟨o, _, c, M, H, vf, vg, _, rfl, hb', hM, fun W hW => ?_⟩
  have hrep : Rep (tW (primW 8) s) (tF (primF 8) s) (.txt 16 s) := by
    have := rep_txt (W := primW 8) (F := primF 8) (l := s) (primF_length 8) (by omega)
    rw [pW] at this
    exact this
  exact text_v W (hH.below hW (Nat.le_refl _)) hl (by show (tW _ _).length ≤ _; have h4 : (tW (primW 8) s).length ≤ 4000 := hw; omega) hx hrep (Lib.hid rfl)

def cQ (s : List UInt8) : Array Value := #[.int .u8 26, .int .i64 0, .int .i64 0, .string ⟨s.toArray⟩]
theorem cQ_eq (s : List UInt8) : cQ s = (CsIn (lRq s)).toArray := rfl
theorem runQ {s : List UInt8} (w : World) : Calls Tryd.prog 5 #[.slice (some ⟨w.heap.size, 0, none⟩) 1 1, .int .i64 3] (w.alloc (.cells (cQ s) 28)) (QPost w 9 0 3 ⟨s.toArray⟩) :=
  (lrun_l (c := 1) (lRq s) (insC_lit (by rw [cQ_eq]; exact heap_alloc_new w _)) (by show 0 < 1; omega) (by show 1 ≤ _; omega) (by show 1 ≤ 1; omega) (by unfold maxLen; omega) (chkQ s) (fuel := 3) (by omega) ok_Q evQ rfl rfl rfl rfl rfl).mono MPost.q
end Go.Proofs.YtpmbdncackneoaaDoor

namespace Go.Proofs.YtpmbdncackneoaaDoor
open Go.RowKit HeaM Ma

/-- A text is told, a move is made. -/
def grp (s : List UInt8) (t : Bool) (n : Int) : List CodM.Ins := [⟨5, 4, 0, eS⟩, iT s, ⟨7, 0, 0, eS⟩, ⟨19, 0, 0, eS⟩, ⟨5, if t then 7 else 2, 0, eS⟩, iN n, ⟨7, 0, 0, eS⟩, ⟨19, 0, 0, eS⟩]
def grps (s : List UInt8) : List (Bool × Int) → List CodM.Ins
  | [] => []
  | m :: l => grp s m.1 m.2 ++ grps s l
def lMv (s : List UInt8) (l : List (Bool × Int)) : List CodM.Ins := grps s l ++ [iN 0, iR]

/-- A state of it. -/
def SG (i : Nat) (W : List Nat) (F : List Bool) (stk : List V) (fuel room : Nat) (out : List UInt8) (done : List (Bool × Int)) : Ms := ⟨W, F, stk, [⟨0, .num 0, 0, (i : Int)⟩], [], fuel, room, out, done, [], 0⟩
theorem few_SG {i : Nat} {W : List Nat} {F : List Bool} {stk : List V} {fuel room : Nat} {out : List UInt8} {done : List (Bool × Int)} (h : stk.length ≤ 1000) (h2 : out.length ≤ 1000) (h3 : done.length ≤ 1000) : few (SG i W F stk fuel room out done) :=
  ⟨by show stk.length ≤ _; omega, by show 1 ≤ _; omega, by show 0 ≤ _; omega, by show out.length ≤ _; omega, by show done.length ≤ _; omega⟩

/-- Half a group: the text. -/
theorem grp_tell {ins : List CodM.Ins} {K i fuel room : Nat} {W : List Nat} {F : List Bool} {out s : List UInt8} {done : List (Bool × Int)} {t : Bool} {n : Int} (hi : i ≤ 1000) (hs : s.length ≤ 200) (hW : W.length ≤ 3600) (ho : out.length ≤ 100) (hr : room ≤ 50) (hd : done.length ≤ 10)
    (h : ∀ j x, (grp s t n)[j]? = some x → ins[i + j]? = some x) :
    Ma.runN (mcR ins) (K + 4) (SG i W F [.num 0] (fuel + 1) room out done) = Ma.runN (mcR ins) K (SG (i + 4) (tW W s) (tF F s) [.num 0] fuel (room - (s.take room).length) (out ++ s.take room) done) := by
  have ns := need_le s.length (by omega)
  have ht : (s.take room).length ≤ 50 := by rw [List.length_take]; omega
  refine (go1 (k := K + 3) (i := i) (s' := SG (i + 1) W F [.prim 8 4, .num 0] (fuel + 1) room out done) rfl (h 0 _ rfl) (by omega) (few_SG (by simp) (by omega) (by omega)) rfl).trans ?_
  refine (go1 (k := K + 2) (i := i + 1) (s' := SG (i + 2) (tW W s) (tF F s) [.txt W.length s, .prim 8 4, .num 0] (fuel + 1) room out done) rfl (h 1 _ rfl) (by omega) (few_SG (by simp) (by omega) (by omega)) ?_).trans ?_
  · show Ma.text (mcR ins) (SG (i + 2) W F [.prim 8 4, .num 0] (fuel + 1) room out done) (lit s).data.toList = _
    rw [lit_list]
    unfold Ma.text
    rw [if_neg (by omega)]
    unfold putText
    show (if W.length + need 3 s.length ≤ 4000 then _ else _) = _
    rw [if_pos (show W.length + need 3 s.length ≤ 4000 by omega)]
    rfl
  refine (go1 (k := K + 1) (i := i + 2) (s' := SG (i + 3) (tW W s) (tF F s) [.num (cut 0), .num 0] fuel (room - (s.take room).length) (out ++ s.take room) done) rfl (h 2 _ rfl) (by omega) (few_SG (by simp) (by omega) (by omega)) rfl).trans ?_
  exact go1 (k := K) (i := i + 3) rfl (h 3 _ rfl) (by omega) (few_SG (by simp) (by rw [List.length_append]; omega) (by omega)) rfl

/-- The other half: the move. -/
theorem grp_move {ins : List CodM.Ins} {K i fuel room : Nat} {W : List Nat} {F : List Bool} {out s : List UInt8} {done : List (Bool × Int)} {t : Bool} {n : Int} (hi : i ≤ 1000) (ho : out.length ≤ 200) (hd : done.length < 10)
    (h : ∀ j x, (grp s t n)[j]? = some x → ins[i + j]? = some x) :
    Ma.runN (mcR ins) (K + 4) (SG (i + 4) W F [.num 0] (fuel + 1) room out done) = Ma.runN (mcR ins) K (SG (i + 8) W F [.num 0] fuel room out (done ++ [(t, cut n)])) := by
  refine (go1 (k := K + 3) (i := i + 4) (s' := SG (i + 5) W F [.prim (if t then 14 else 4) (if t then 7 else 2), .num 0] (fuel + 1) room out done) rfl (h 4 _ rfl) (by omega) (few_SG (by simp) (by omega) (by omega)) (by cases t <;> rfl)).trans ?_
  refine (go1 (k := K + 2) (i := i + 5) (s' := SG (i + 6) W F [.num (cut n), .prim (if t then 14 else 4) (if t then 7 else 2), .num 0] (fuel + 1) room out done) rfl (h 5 _ rfl) (by omega) (few_SG (by simp) (by omega) (by omega)) rfl).trans ?_
  refine (go1 (k := K + 1) (i := i + 6) (s' := SG (i + 7) W F [.num (cut 0), .num 0] fuel room out (done ++ [(t, cut n)])) rfl (h 6 _ rfl) (by omega) (few_SG (by simp) (by omega) (by omega)) ?_).trans ?_
  · show Ma.predefined (mcR ins) (SG (i + 7) W F [.num 0] fuel room out done) (if t then 7 else 2) (.num (cut n)) = _
    unfold Ma.predefined
    have hm : ¬ (mcR ins).moves ≤ (SG (i + 7) W F [.num 0] fuel room out done).done.length := by show ¬ 10 ≤ done.length; omega
    simp only [if_neg hm]
    cases t <;> rfl
  exact go1 (k := K) (i := i + 7) rfl (h 7 _ rfl) (by omega) (few_SG (by simp) (by omega) (by rw [List.length_append]; simp; omega)) rfl

/-- One move too many. -/
theorem grp_over {ins : List CodM.Ins} {K i fuel room : Nat} {W : List Nat} {F : List Bool} {out s : List UInt8} {done : List (Bool × Int)} {t : Bool} {n : Int} (hi : i ≤ 1000) (ho : out.length ≤ 200) (hd : done.length = 10)
    (h : ∀ j x, (grp s t n)[j]? = some x → ins[i + j]? = some x) :
    Ma.runN (mcR ins) (K + 3) (SG (i + 4) W F [.num 0] (fuel + 1) room out done) = some (9, { SG (i + 7) W F [.num 0] fuel room out done with raised := [109, 111, 118, 101, 115] }) := by
  refine (go1 (k := K + 2) (i := i + 4) (s' := SG (i + 5) W F [.prim (if t then 14 else 4) (if t then 7 else 2), .num 0] (fuel + 1) room out done) rfl (h 4 _ rfl) (by omega) (few_SG (by simp) (by omega) (by omega)) (by cases t <;> rfl)).trans ?_
  refine (go1 (k := K + 1) (i := i + 5) (s' := SG (i + 6) W F [.num (cut n), .prim (if t then 14 else 4) (if t then 7 else 2), .num 0] (fuel + 1) room out done) rfl (h 5 _ rfl) (by omega) (few_SG (by simp) (by omega) (by omega)) rfl).trans ?_
  refine go1e (k := K) (i := i + 6) rfl (h 6 _ rfl) (by omega) (few_SG (by simp) (by omega) (by omega)) (by decide) ?_
  show Ma.predefined (mcR ins) (SG (i + 7) W F [.num 0] fuel room out done) (if t then 7 else 2) (.num (cut n)) = _
  unfold Ma.predefined
  have hm : (mcR ins).moves ≤ (SG (i + 7) W F [.num 0] fuel room out done).done.length := by show 10 ≤ done.length; omega
  simp only [if_pos hm]
  cases t <;> rfl

/-- What is laid, and told, by so many groups. -/
def mvW (W : List Nat) (s : List UInt8) : Nat → List Nat
  | 0 => W
  | j + 1 => mvW (tW W s) s j
def mvF (F : List Bool) (s : List UInt8) : Nat → List Bool
  | 0 => F
  | j + 1 => mvF (tF F s) s j
def repS (s : List UInt8) : Nat → List UInt8
  | 0 => []
  | j + 1 => s ++ repS s j
def mvCut (m : Bool × Int) : Bool × Int := (m.1, cut m.2)
theorem grp_len (s : List UInt8) (t : Bool) (n : Int) : (grp s t n).length = 8 := rfl
theorem grps_len (s : List UInt8) : ∀ l : List (Bool × Int), (grps s l).length = 8 * l.length := by
  intro l
  induction l with
  | nil => rfl
  | cons m l ih => rw [grps, List.length_append, grp_len, ih, List.length_cons]; omega

/-- Told so far, and what is told then: the first fifty. -/
theorem take_more (P s : List UInt8) : P.take 50 ++ s.take (50 - (P.take 50).length) = (P ++ s).take 50 := by
  rw [List.take_append, List.length_take]
  congr 2
  omega

theorem run_grps {ins : List CodM.Ins} {s : List UInt8} (hs : s.length ≤ 200) : ∀ (l : List (Bool × Int)) (K i fuel : Nat) (W : List Nat) (F : List Bool) (P : List UInt8) (done : List (Bool × Int)), i + 8 * l.length ≤ 1000 → W.length + 30 * l.length ≤ 3600 → done.length + l.length ≤ 10 →
    (∀ j x, (grps s l)[j]? = some x → ins[i + j]? = some x) →
    Ma.runN (mcR ins) (K + 8 * l.length) (SG i W F [.num 0] (fuel + 2 * l.length) (50 - (P.take 50).length) (P.take 50) done) = Ma.runN (mcR ins) K (SG (i + 8 * l.length) (mvW W s l.length) (mvF F s l.length) [.num 0] fuel (50 - ((P ++ repS s l.length).take 50).length) ((P ++ repS s l.length).take 50) (done ++ l.map mvCut)) := by
  intro l
  induction l with
  | nil =>
    intro K i fuel W F P done _ _ _ _
    simp [mvW, mvF, repS]
  | cons m l ih =>
    intro K i fuel W F P done hi hW hd h
    rw [List.length_cons] at hi hW hd
    have h1 : ∀ j x, (grp s m.1 m.2)[j]? = some x → ins[i + j]? = some x := fun j x hx => h j x (by
      rw [grps, List.getElem?_append_left (List.getElem?_eq_some_iff.1 hx).1]
      exact hx)
    have h2 : ∀ j x, (grps s l)[j]? = some x → ins[i + 8 + j]? = some x := fun j x hx => by
      rw [show i + 8 + j = i + (8 + j) by omega]
      refine h (8 + j) x ?_
      rw [grps, List.getElem?_append_right (by rw [grp_len]; omega), grp_len, Nat.add_sub_cancel_left]
      exact hx
    have hP : (P.take 50).length ≤ 50 := by rw [List.length_take]; omega
    have hroom : 50 - (P.take 50).length - (s.take (50 - (P.take 50).length)).length = 50 - ((P ++ s).take 50).length := by
      rw [← take_more, List.length_append]; omega
    have htl : ((P ++ s).take 50).length ≤ 50 := by rw [List.length_take]; omega
    rw [List.length_cons, show K + 8 * (l.length + 1) = (K + 8 * l.length + 4) + 4 by omega, show fuel + 2 * (l.length + 1) = (fuel + 2 * l.length + 1) + 1 by omega]
    refine (grp_tell (by omega) hs (by omega) (by omega) (by omega) (by omega) h1).trans ?_
    rw [hroom, take_more]
    refine (grp_move (by omega) (by omega) (by omega) h1).trans ?_
    have htw : (tW W s).length ≤ W.length + 30 := by
      rw [tW_len]
      have : need 3 s.length = 1 + (s.length + 7) / 8 := rfl
      omega
    refine (ih K (i + 8) fuel (tW W s) (tF F s) (P ++ s) (done ++ [(m.1, cut m.2)]) (by omega) (by omega) (by rw [List.length_append]; simp; omega) h2).trans ?_
    rw [show i + 8 + 8 * l.length = i + 8 * (l.length + 1) by omega, mvW, mvF, repS, List.append_assoc P, List.append_assoc done]
    rfl

theorem lMv_grp {s : List UInt8} {l : List (Bool × Int)} {j : Nat} {x : CodM.Ins} (h : (grps s l)[j]? = some x) : (lMv s l)[j]? = some x := by
  unfold lMv
  rw [List.getElem?_append_left (List.getElem?_eq_some_iff.1 h).1]
  exact h
theorem lMv_end {s : List UInt8} {l : List (Bool × Int)} (j : Nat) : (lMv s l)[8 * l.length + j]? = [iN 0, iR][j]? := by
  unfold lMv
  rw [List.getElem?_append_right (by rw [grps_len]; omega), grps_len, Nat.add_sub_cancel_left]
theorem mvW_len (s : List UInt8) : ∀ (j : Nat) (W : List Nat), (mvW W s j).length = W.length + j * need 3 s.length := by
  intro j
  induction j with
  | zero => intro W; simp [mvW]
  | succ j ih => intro W; rw [mvW, ih, tW_len, Nat.succ_mul]; omega

/-- Ten moves at most. -/
theorem evM {s : List UInt8} {l : List (Bool × Int)} (hs : s.length ≤ 200) (hl : l.length ≤ 10) :
    Ma.runN (mcR (lMv s l)) (3 + 8 * l.length) (st0 100 50) = some (0, ⟨mvW (primW 8) s l.length, mvF (primF 8) s l.length, [], [], [], 100 - 2 * l.length, 50 - ((repS s l.length).take 50).length, (repS s l.length).take 50, l.map mvCut, [], 1⟩) := by
  have h := run_grps (ins := lMv s l) hs l 3 0 (100 - 2 * l.length) (primW 8) (primF 8) [] [] (by omega) (by rw [pW]; omega) (by simp; omega) (fun j x hx => by rw [Nat.zero_add]; exact lMv_grp hx)
  rw [show 100 - 2 * l.length + 2 * l.length = 100 by omega] at h
  refine h.trans ?_
  simp only [Nat.zero_add, List.nil_append]
  refine (go1 (k := 2) (i := 8 * l.length) (x := iN 0) (s' := SG (8 * l.length + 1) (mvW (primW 8) s l.length) (mvF (primF 8) s l.length) [.num (cut 0), .num 0] (100 - 2 * l.length) (50 - ((repS s l.length).take 50).length) ((repS s l.length).take 50) (l.map mvCut)) rfl (lMv_end 0) (by omega) (few_SG (by simp) (by rw [List.length_take]; omega) (by rw [List.length_map]; omega)) rfl).trans ?_
  refine (go1 (k := 1) (i := 8 * l.length + 1) (x := iR) (s' := ⟨mvW (primW 8) s l.length, mvF (primF 8) s l.length, [], [], [], 100 - 2 * l.length, 50 - ((repS s l.length).take 50).length, (repS s l.length).take 50, l.map mvCut, [], 1⟩) rfl (lMv_end 1) (by omega) (few_SG (by simp) (by rw [List.length_take]; omega) (by rw [List.length_map]; omega)) rfl).trans ?_
  rfl

/-- More than ten. -/
theorem evM9 {s : List UInt8} {l r : List (Bool × Int)} {m : Bool × Int} (hs : s.length ≤ 200) (hl : l.length = 10) :
    ∃ F W i, Ma.runN (mcR (lMv s (l ++ m :: r))) (3 + 4 + 8 * l.length) (st0 100 50) = some (9, ⟨W, F, [.num 0], [⟨0, .num 0, 0, i⟩], [], 78, 50 - ((repS s 11).take 50).length, (repS s 11).take 50, l.map mvCut, [109, 111, 118, 101, 115], 0⟩) := by
  have hg : grps s (l ++ m :: r) = grps s l ++ grps s (m :: r) := by
    clear hl
    induction l with
    | nil => rfl
    | cons a l ih => rw [List.cons_append, grps, ih, ← List.append_assoc]; rfl
  have h1 : ∀ j x, (grps s l)[j]? = some x → (lMv s (l ++ m :: r))[0 + j]? = some x := fun j x hx => by
    rw [Nat.zero_add]
    refine lMv_grp ?_
    rw [hg, List.getElem?_append_left (List.getElem?_eq_some_iff.1 hx).1]
    exact hx
  have h2 : ∀ j x, (grp s m.1 m.2)[j]? = some x → (lMv s (l ++ m :: r))[8 * l.length + j]? = some x := fun j x hx => by
    refine lMv_grp ?_
    rw [hg, List.getElem?_append_right (by rw [grps_len]; omega), grps_len, Nat.add_sub_cancel_left, grps, List.getElem?_append_left (List.getElem?_eq_some_iff.1 hx).1]
    exact hx
  have h := run_grps (ins := lMv s (l ++ m :: r)) hs l (3 + 4) 0 80 (primW 8) (primF 8) [] [] (by omega) (by rw [pW]; omega) (by simp; omega) h1
  rw [show 80 + 2 * l.length = 100 by omega] at h
  have hrep : ∀ j, repS s j ++ s = repS s (j + 1) := by
    intro j
    induction j with
    | zero => simp [repS]
    | succ j ih => rw [repS, List.append_assoc, ih]; rfl
  have hP : ((repS s l.length).take 50).length ≤ 50 := by rw [List.length_take]; omega
  have hroom : 50 - ((repS s l.length).take 50).length - (s.take (50 - ((repS s l.length).take 50).length)).length = 50 - ((repS s 11).take 50).length := by
    rw [show (11 : Nat) = l.length + 1 by omega, ← hrep, ← take_more, List.length_append]; omega
  have hmw := mvW_len s l.length (primW 8)
  have hn : need 3 s.length = 1 + (s.length + 7) / 8 := rfl
  have hmw2 : l.length * need 3 s.length ≤ 10 * 27 := Nat.mul_le_mul (by omega) (by omega)
  refine ⟨tF (mvF (primF 8) s l.length) s, tW (mvW (primW 8) s l.length) s, ((8 * l.length + 7 : Nat) : Int), h.trans ?_⟩
  simp only [Nat.zero_add, List.nil_append]
  refine (grp_tell (K := 3) (i := 8 * l.length) (fuel := 79) (by omega) hs (by rw [hmw, pW]; omega) (by omega) (by omega) (by rw [List.length_map]; omega) h2).trans ?_
  rw [hroom, take_more, hrep, show l.length + 1 = 11 by omega]
  exact grp_over (K := 0) (fuel := 78) (by omega) (by rw [List.length_take]; omega) (by rw [List.length_map]; omega) h2
end Go.Proofs.YtpmbdncackneoaaDoor

namespace Go.Proofs.YtpmbdncackneoaaDoor
open Go.RowKit HeaM Ma

theorem grps_get (s : List UInt8) : ∀ (l : List (Bool × Int)) (i : Nat) (x : CodM.Ins), (grps s l)[i]? = some x → ∃ t n, (grp s t n)[i % 8]? = some x := by
  intro l
  induction l with
  | nil => intro i x h; simp [grps] at h
  | cons m l ih =>
    intro i x h
    rw [grps] at h
    by_cases hi : i < 8
    · rw [List.getElem?_append_left (by rw [grp_len]; exact hi)] at h
      exact ⟨m.1, m.2, by rw [Nat.mod_eq_of_lt hi]; exact h⟩
    · rw [List.getElem?_append_right (by rw [grp_len]; omega), grp_len] at h
      obtain ⟨t, n, h⟩ := ih _ _ h
      exact ⟨t, n, by rw [show i % 8 = (i - 8) % 8 by omega]; exact h⟩

def dep (r : Nat) : Int := if r = 0 then 1 else if r = 2 then 3 else 2
def stM (N i : Nat) : Int × Int := if i ≤ N then (dep (i % 4), 0) else (2, 0)
theorem stM_a {N i : Nat} (r : Nat) (h : i ≤ N) (hr : i % 4 = r) : stM N i = (dep r, 0) := by unfold stM; rw [if_pos h, hr]
theorem stM_b {N i : Nat} (h : N < i) : stM N i = (2, 0) := by unfold stM; rw [if_neg (by omega)]
theorem su_G {g d t : Int} {i : Nat} : CodM.succ ⟨5, g, 0, eS⟩ i d t = [((i : Int) + 1, d + 1, t)] := by simp [CodM.succ, CodM.lv, CodM.tk]
theorem su_T {s : List UInt8} {d t : Int} {i : Nat} : CodM.succ (iT s) i d t = [((i : Int) + 1, d + 1, t)] := by simp [CodM.succ, CodM.lv, CodM.tk, iT]
theorem su_C {d t : Int} {i : Nat} : CodM.succ ⟨7, 0, 0, eS⟩ i d t = [((i : Int) + 1, d - 1, t)] := by simp [CodM.succ, CodM.lv, CodM.tk]; omega
theorem su_P {d t : Int} {i : Nat} : CodM.succ ⟨19, 0, 0, eS⟩ i d t = [((i : Int) + 1, d - 1, t)] := by simp [CodM.succ, CodM.lv, CodM.tk]; omega
theorem al_G {fs : List CodM.Fun} {g d t : Int} (h : 0 ≤ g ∧ g < 8) (hd : 0 < d) : CodM.alw fs 0 8 ⟨5, g, 0, eS⟩ d t = true := by
  simp [CodM.alw, CodM.nm, CodM.tk]
  omega
theorem al_T {fs : List CodM.Fun} {s : List UInt8} {d t : Int} (hd : 0 < d) : CodM.alw fs 0 8 (iT s) d t = true := by
  simp [CodM.alw, CodM.nm, CodM.tk, iT]
  omega
theorem al_C {fs : List CodM.Fun} {d t : Int} (hd : 2 < d) : CodM.alw fs 0 8 ⟨7, 0, 0, eS⟩ d t = true := by
  simp [CodM.alw, CodM.nm, CodM.tk]
  omega
theorem al_P {fs : List CodM.Fun} {d t : Int} (hd : 1 < d) : CodM.alw fs 0 8 ⟨19, 0, 0, eS⟩ d t = true := by
  simp [CodM.alw, CodM.nm, CodM.tk]
  omega
/-- An instruction within the groups. -/
theorem in_ok {fs : List CodM.Fun} {N i L : Nat} {x : CodM.Ins} (r : Nat) (hi : i < N) (hr : i % 4 = r) (hL : N < L) {d' : Int} (ha : CodM.alw fs 0 8 x (dep r) 0 = true) (hs : CodM.succ x i (dep r) 0 = [((i : Int) + 1, d', 0)]) (hd : dep ((r + 1) % 4) = d') :
    CodM.alw fs 0 8 x (stM N i).1 (stM N i).2 = true ∧ ∀ t ∈ CodM.succ x i (stM N i).1 (stM N i).2, (i : Int) < t.1 ∧ t.1 < (L : Int) ∧ stM N t.1.toNat = t.2 := by
  rw [stM_a r (by omega) hr]
  refine ⟨ha, fun t ht => ?_⟩
  rw [hs] at ht
  obtain rfl := List.mem_singleton.1 ht
  exact ⟨by show (i : Int) < (i : Int) + 1; omega, by show (i : Int) + 1 < _; omega, (congrArg (stM N) (show ((i : Int) + 1).toNat = i + 1 by omega)).trans ((stM_a ((r + 1) % 4) (by omega) (by omega)).trans (by rw [hd]))⟩

theorem lMv_len (s : List UInt8) (l : List (Bool × Int)) : (lMv s l).length = 8 * l.length + 2 := by
  unfold lMv
  rw [List.length_append, grps_len]
  rfl
theorem chkM (s : List UInt8) (l : List (Bool × Int)) : CodM.chk [⟨0, lMv s l⟩] 8 = true := by
  have hl := lMv_len s l
  refine chk_line _ (stM (8 * l.length)) (by rw [hl]; omega) (stM_a 0 (by omega) rfl) fun i x hx => ?_
  by_cases h1 : i < 8 * l.length
  · have hg : (grps s l)[i]? = some x := by
      unfold lMv at hx
      rw [List.getElem?_append_left (by rw [grps_len]; exact h1)] at hx
      exact hx
    obtain ⟨t, n, hg⟩ := grps_get s l i x hg
    have h8 : i % 8 = 0 ∨ i % 8 = 1 ∨ i % 8 = 2 ∨ i % 8 = 3 ∨ i % 8 = 4 ∨ i % 8 = 5 ∨ i % 8 = 6 ∨ i % 8 = 7 := by omega
    have hg7 : (0 : Int) ≤ (if t then 7 else 2) ∧ (if t then 7 else 2) < (8 : Int) := by cases t <;> decide
    rcases h8 with h8 | h8 | h8 | h8 | h8 | h8 | h8 | h8
    all_goals
      rw [h8] at hg
      obtain rfl := (Option.some.inj hg).symm
    · exact in_ok 0 h1 (by omega) (by rw [hl]; omega) (al_G (by omega) (by decide)) su_G rfl
    · exact in_ok 1 h1 (by omega) (by rw [hl]; omega) (al_T (by decide)) su_T rfl
    · exact in_ok 2 h1 (by omega) (by rw [hl]; omega) (al_C (by decide)) su_C rfl
    · exact in_ok 3 h1 (by omega) (by rw [hl]; omega) (al_P (by decide)) su_P rfl
    · exact in_ok 0 h1 (by omega) (by rw [hl]; omega) (al_G hg7 (by decide)) su_G rfl
    · exact in_ok 1 h1 (by omega) (by rw [hl]; omega) (al_N (by decide)) su_N rfl
    · exact in_ok 2 h1 (by omega) (by rw [hl]; omega) (al_C (by decide)) su_C rfl
    · exact in_ok 3 h1 (by omega) (by rw [hl]; omega) (al_P (by decide)) su_P rfl
  · obtain ⟨j, rfl⟩ : ∃ j, i = 8 * l.length + j := ⟨i - 8 * l.length, by omega⟩
    rw [lMv_end] at hx
    rcases j with _ | _ | j
    · obtain rfl : iN 0 = x := by simpa using hx
      rw [stM_a 0 (by omega) (by omega)]
      refine ⟨al_N (by decide), fun t ht => ?_⟩
      rw [su_N] at ht
      obtain rfl := List.mem_singleton.1 ht
      exact ⟨by show ((8 * l.length + 0 : Nat) : Int) < ((8 * l.length + 0 : Nat) : Int) + 1; omega, by show ((8 * l.length + 0 : Nat) : Int) + 1 < _; rw [hl]; omega, (stM_b (by show 8 * l.length < (((8 * l.length + 0 : Nat) : Int) + 1).toNat; omega)).trans rfl⟩
    · obtain rfl : iR = x := by simpa using hx
      rw [stM_b (by omega)]
      exact ⟨by simp [CodM.alw, CodM.nm, iR], fun t ht => by simp [CodM.succ, iR] at ht⟩
    · simp at hx

theorem ok_grps (s : List UInt8) : ∀ l : List (Bool × Int), ∀ x ∈ grps s l, okop x.op := by
  intro l
  induction l with
  | nil => intro x hx; cases hx
  | cons m l ih =>
    intro x hx
    rcases List.mem_append.1 hx with h | h
    · simp only [grp, List.mem_cons, List.not_mem_nil, or_false] at h
      rcases h with rfl | rfl | rfl | rfl | rfl | rfl | rfl | rfl <;> simp [okop, iN, iT]
    · exact ih x h
theorem ok_M {s : List UInt8} {l : List (Bool × Int)} : ∀ x ∈ lMv s l, okop x.op := by
  intro x hx
  rcases List.mem_append.1 hx with h | h
  · exact ok_grps s l x h
  · simp only [List.mem_cons, List.not_mem_nil, or_false] at h
    rcases h with rfl | rfl <;> simp [okop, iN, iR]

/-- What the run leaves: what was told, the moves. -/
def VPost (w : World) (E R Fu : Int) (ra out : List UInt8) (done : List (Bool × Int)) (e' : Ending) (w' : World) : Prop :=
  ∃ o c M, e' = .returned (.tuple #[.agg #[.int .i64 E, .int .u64 R, .string ⟨ra.toArray⟩, .string ⟨out.toArray⟩, .slice o done.length c, .int .i64 Fu], .pointer (some ⟨M, 0, none⟩)]) ∧ Below w.heap.size w w' ∧
    ∃ b0, w'.ownsRow b0 26 2 (.slice o done.length c) done.length (CsMv done)
theorem runM {w : World} {base len cap g : Nat} {s : List UInt8} {l : List (Bool × Int)} (hs : s.length ≤ 200) (hl : l.length ≤ 10) (hlen : (lMv s l).length = len) (hcap : len ≤ cap) (hcm : cap ≤ maxLen) (ho : w.ownsRow base 28 4 (.slice (some ⟨g, 0, none⟩) len cap) len (CsIn (lMv s l))) :
    Calls Tryd.prog 5 #[.slice (some ⟨g, 0, none⟩) len cap, .int .i64 100] w (VPost w 0 1 (100 - 2 * (l.length : Int)) [] ((repS s l.length).take 50) (l.map mvCut)) := by
  subst hlen
  have hln := lMv_len s l
  refine (lrun_l (c := cap) (lMv s l) (InsC_of ho rfl) (by rw [hln]; omega) (by rw [hln]; omega) hcap hcm (chkM s l) (fuel := 100) (by omega) ok_M (evM hs hl) (E := 0) (R := 1) (Fu := 100 - 2 * (l.length : Int)) rfl rfl (by show ((100 - 2 * l.length : Nat) : Int) = _; omega) rfl rfl).mono ?_
  rintro e' w' ⟨o, c, M, rfl, hb', hmv, -⟩
  exact ⟨o, c, M, rfl, hb', hmv⟩
theorem runM9 {w : World} {base len cap g : Nat} {s : List UInt8} {l r : List (Bool × Int)} {m : Bool × Int} (hs : s.length ≤ 200) (hl : l.length = 10) (hr : r.length ≤ 10) (hlen : (lMv s (l ++ m :: r)).length = len) (hcap : len ≤ cap) (hcm : cap ≤ maxLen) (ho : w.ownsRow base 28 4 (.slice (some ⟨g, 0, none⟩) len cap) len (CsIn (lMv s (l ++ m :: r)))) :
    Calls Tryd.prog 5 #[.slice (some ⟨g, 0, none⟩) len cap, .int .i64 100] w (VPost w 9 0 78 [109, 111, 118, 101, 115] ((repS s 11).take 50) (l.map mvCut)) := by
  subst hlen
  have hln := lMv_len s (l ++ m :: r)
  have hl2 : (l ++ m :: r).length ≤ 25 := by rw [List.length_append, List.length_cons]; omega
  obtain ⟨F, W, i, hev⟩ := evM9 (s := s) (l := l) (r := r) (m := m) hs hl
  refine (lrun_l (c := cap) (lMv s (l ++ m :: r)) (InsC_of ho rfl) (by rw [hln]; omega) (by rw [hln]; omega) hcap hcm (chkM s _) (fuel := 100) (by omega) ok_M hev (E := 9) (R := 0) (Fu := 78) rfl rfl rfl rfl rfl).mono ?_
  rintro e' w' ⟨o, c, M, rfl, hb', hmv, -⟩
  exact ⟨o, c, M, rfl, hb', hmv⟩
end Go.Proofs.YtpmbdncackneoaaDoor
