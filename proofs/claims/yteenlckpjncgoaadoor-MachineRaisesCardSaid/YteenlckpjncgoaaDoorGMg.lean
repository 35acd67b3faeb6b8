/- LRsA, LRsB, LRaises, LRaisesAll, in one text. -/
import Derived.Test.YteenlckpjncgoaaDoorGMf
import Derived.BigRegion

namespace Go.Proofs.YteenlckpjncgoaaDoor
open Go.RowKit HeaM Ma

def iN (n : Int) : CodM.Ins := ⟨0, n, 0, eS⟩
def numsI : Nat → List CodM.Ins
  | 0 => []
  | j + 1 => numsI j ++ [iN (j : Int)]
theorem numsI_len (j : Nat) : (numsI j).length = j := by
  induction j with
  | zero => rfl
  | succ j ih => rw [numsI, List.length_append, ih]; rfl
def midI (k : Nat) (n : Int) (s : List UInt8) : List CodM.Ins := [⟨24, (k : Int) + 4, 0, eS⟩, iN n, iN n, ⟨26, 0, 0, lit s⟩]
def lastI (k : Nat) : List CodM.Ins := if k = 0 then [] else [⟨18, (k : Int), 0, eS⟩]
def lRa (k : Nat) (n : Int) (s : List UInt8) : List CodM.Ins := ((numsI k ++ midI k n s) ++ lastI k) ++ [iR]
def lRq (s : List UInt8) : List CodM.Ins := [⟨26, 0, 0, lit s⟩]
def stkR : Nat → List V
  | 0 => [.num 0]
  | j + 1 => .num (cut (j : Int)) :: stkR j
theorem stkR_len (j : Nat) : (stkR j).length = j + 1 := by
  induction j with
  | zero => rfl
  | succ j ih => rw [stkR, List.length_cons, ih]

theorem run_nums {ins : List CodM.Ins} {K fuel : Nat} : ∀ j : Nat, j ≤ 10 → (∀ i : Nat, i < j → ins[i]? = some (iN (i : Int))) → Ma.runN (mcR ins) (K + j) (st0 fuel 50) = Ma.runN (mcR ins) K (S1 (j : Int) (primW 8) (primF 8) (stkR j) [] fuel) := by
  intro j
  induction j generalizing K with
  | zero => intro _ _; rfl
  | succ j ih =>
    intro hj h
    rw [show K + (j + 1) = (K + 1) + j by omega, ih (by omega) (fun i hi => h i (by omega))]
    refine go1 (i := j) (x := iN (j : Int)) rfl (h j (by omega)) (by omega) (few_S1 (by rw [stkR_len]; omega) (by simp)) ?_
    rfl

theorem do_F {c : Mc} {S : Ms} {f : Fr} {fs : List Fr} {s : List UInt8} : doI c S f fs ⟨26, 0, 0, lit s⟩ = Ma.raise c S s := by
  show Ma.raise c S (lit s).data.toList = _
  rw [lit_list]

/-- The exception lands where the try leads. -/
theorem run_mid {ins : List CodM.Ins} {k K fuel : Nat} {n : Int} {s : List UInt8} {W : List Nat} {F : List Bool} (hk : k ≤ 10) (hs : s.length ≤ 2000) (hW : W.length ≤ 100)
    (h0 : ins[k]? = some ⟨24, (k : Int) + 4, 0, eS⟩) (h1 : ins[k + 1]? = some (iN n)) (h2 : ins[k + 2]? = some (iN n)) (h3 : ins[k + 3]? = some ⟨26, 0, 0, lit s⟩) :
    Ma.runN (mcR ins) (K + 4) (S1 (k : Int) W F (stkR k) [] fuel) = Ma.runN (mcR ins) K (S1 ((k : Int) + 4) (tW W s) (tF F s) (.txt W.length s :: stkR k) [] fuel) := by
  have ns := need_le s.length (by omega)
  refine (go1 (k := K + 3) (i := k) (s' := S1 ((k : Int) + 1) W F (stkR k) [⟨1, (k : Int) + 4, (stkR k).length⟩] fuel) rfl h0 (by omega) (few_S1 (by rw [stkR_len]; omega) (by simp)) rfl).trans ?_
  refine (go1 (k := K + 2) (i := k + 1) (s' := S1 ((k : Int) + 2) W F (.num (cut n) :: stkR k) [⟨1, (k : Int) + 4, (stkR k).length⟩] fuel) (by simp [S1]) h1 (by omega) (few_S1 (by rw [stkR_len]; omega) (by simp)) ?_).trans ?_
  · show some (0, (_ : Ms)) = _
    simp only [S1, Ma.push]
    congr 5
  refine (go1 (k := K + 1) (i := k + 2) (s' := S1 ((k : Int) + 3) W F (.num (cut n) :: .num (cut n) :: stkR k) [⟨1, (k : Int) + 4, (stkR k).length⟩] fuel) (by simp [S1]) h2 (by omega) (few_S1 (by simp only [List.length_cons]; rw [stkR_len]; omega) (by simp)) ?_).trans ?_
  · show some (0, (_ : Ms)) = _
    simp only [S1, Ma.push]
    congr 5
  refine go1 (k := K) (i := k + 3) (by simp [S1]) h3 (by omega) (few_S1 (by simp only [List.length_cons]; rw [stkR_len]; omega) (by simp)) ?_
  rw [do_F]
  unfold Ma.raise
  simp only [S1]
  unfold Ma.land
  rw [if_pos ⟨by simp, by simp only [List.length_cons]; omega⟩]
  simp only [List.length_cons, List.length_nil]
  rw [if_neg (show ¬ 4096 < s.length by omega)]
  rw [show (stkR k).length + 1 + 1 - (stkR k).length = 2 by omega]
  unfold putText
  show (if W.length + need 3 s.length ≤ 4000 then _ else _) = _
  rw [if_pos (show W.length + need 3 s.length ≤ 4000 by omega)]
  rfl

theorem nums_at {k i : Nat} (hi : i < k) : (numsI k)[i]? = some (iN (i : Int)) := by
  induction k with
  | zero => omega
  | succ k ih =>
    rw [numsI]
    by_cases h : i < k
    · rw [List.getElem?_append_left (by rw [numsI_len]; exact h)]
      exact ih h
    · obtain rfl : i = k := by omega
      rw [List.getElem?_append_right (by rw [numsI_len]; omega), numsI_len, Nat.sub_self]
      rfl
theorem lRa_num {k i : Nat} {n : Int} {s : List UInt8} (hi : i < k) : (lRa k n s)[i]? = some (iN (i : Int)) := by
  unfold lRa
  rw [List.append_assoc, List.append_assoc, List.getElem?_append_left (by rw [numsI_len]; exact hi)]
  exact nums_at hi
theorem lRa_mid {k j : Nat} {n : Int} {s : List UInt8} : (lRa k n s)[k + j]? = ((midI k n s ++ lastI k) ++ [iR])[j]? := by
  unfold lRa
  rw [List.append_assoc, List.append_assoc, List.getElem?_append_right (by rw [numsI_len]; omega), numsI_len, Nat.add_sub_cancel_left, List.append_assoc]

/-- The whole. -/
theorem evR {k : Nat} {n : Int} {s : List UInt8} (hk : k ≤ 5) (hs : s.length ≤ 2000) :
    Ma.runN (mcR (lRa k n s)) (7 + k) (st0 3 50) = some (0, ⟨tW (primW 8) s, tF (primF 8) s, [], [], [], 3, 50, [], [], [], 32⟩) := by
  rw [run_nums k (by omega) (fun i hi => lRa_num hi)]
  refine (run_mid (k := k) (K := 3) (by omega) hs (by rw [pW]; omega) (lRa_mid (j := 0)) (lRa_mid (j := 1)) (lRa_mid (j := 2)) (lRa_mid (j := 3))).trans ?_
  rw [pW]
  by_cases h0 : k = 0
  · subst h0
    exact run_R (k := 1) (i := 4) rfl (by omega) (by simp [stkR])
  · have e4 : (lRa k n s)[k + 4]? = some ⟨18, (k : Int), 0, eS⟩ := by
      rw [lRa_mid]
      unfold lastI
      rw [if_neg h0]
      rfl
    have e5 : (lRa k n s)[k + 5]? = some iR := by
      rw [lRa_mid]
      unfold lastI
      rw [if_neg h0]
      rfl
    have hd : (stkR k).drop k = [.num 0] := by
      clear e4 e5 hk h0
      induction k with
      | zero => rfl
      | succ k ih => rw [stkR, List.drop_succ_cons, ih]
    refine (go1 (k := 2) (i := k + 4) (s' := S1 ((k : Int) + 5) (tW (primW 8) s) (tF (primF 8) s) [.txt 16 s, .num 0] [] 3) (by simp [S1]) e4 (by omega) (few_S1 (by simp only [List.length_cons]; rw [stkR_len]; omega) (by simp)) ?_).trans ?_
    · show (if 0 ≤ (k : Int) ∧ (k : Int) ≤ ((stkR k).length : Int) then _ else _) = _
      rw [if_pos (by rw [stkR_len]; omega)]
      simp only [Int.toNat_natCast, S1]
      show some (0, (_ : Ms)) = _
      rw [hd]
      congr 5
    · exact run_R (k := 0) (i := k + 5) e5 (by omega) (by simp)

theorem evQ {s : List UInt8} : Ma.runN (mcR (lRq s)) 1 (st0 3 50) = some (9, { S1 1 (primW 8) (primF 8) [.num 0] [] 3 with raised := s }) := by
  rw [st0_S1]
  refine go1e (k := 0) (i := 0) (x := ⟨26, 0, 0, lit s⟩) rfl rfl (by omega) (few_S1 (by simp) (by simp)) (by decide) ?_
  rw [do_F]
  rfl

theorem chkQ (s : List UInt8) : CodM.chk [⟨0, lRq s⟩] 8 = true := by
  refine chk_line _ (fun _ => (1, 0)) (by show 0 < 1; omega) rfl fun i x hx => ?_
  rcases i with _ | i
  · simp [lRq] at hx
    subst hx
    exact ⟨by simp [CodM.alw, CodM.nm, CodM.tk], fun s hs => by simp [CodM.succ] at hs⟩
  · simp [lRq] at hx
/-- What stands where, and how many tries are open. -/
def stRs (k i : Nat) : Int × Int := if i ≤ k then ((i : Int) + 1, 0) else if i ≤ k + 3 then ((i : Int), 1) else if i = k + 4 then ((k : Int) + 2, 0) else (2, 0)
theorem stRs_a {k i : Nat} (h : i ≤ k) : stRs k i = ((i : Int) + 1, 0) := if_pos h
theorem stRs_b {k i : Nat} (h : k < i) (h2 : i ≤ k + 3) : stRs k i = ((i : Int), 1) := by unfold stRs; rw [if_neg (by omega), if_pos h2]
theorem stRs_c {k i : Nat} (h : i = k + 4) : stRs k i = ((k : Int) + 2, 0) := by unfold stRs; rw [if_neg (by omega), if_neg (by omega), if_pos h]
theorem stRs_d {k i : Nat} (h : k + 4 < i) : stRs k i = (2, 0) := by unfold stRs; rw [if_neg (by omega), if_neg (by omega), if_neg (by omega)]
theorem lRa_len (k : Nat) (n : Int) (s : List UInt8) : (lRa k n s).length = k + 5 + (if k = 0 then 0 else 1) := by
  unfold lRa lastI
  rw [List.length_append, List.length_append, List.length_append, numsI_len]
  split <;> rfl
theorem al_N {fs : List CodM.Fun} {n d t : Int} (hd : 0 < d) : CodM.alw fs 0 8 (iN n) d t = true := by
  simp [CodM.alw, CodM.nm, CodM.tk, iN]
  omega
theorem su_N {n d t : Int} {i : Nat} : CodM.succ (iN n) i d t = [((i : Int) + 1, d + 1, t)] := by
  simp [CodM.succ, CodM.lv, CodM.tk, iN]
theorem tk_S {k : Nat} (hk : k ≤ 5) : CodM.tk ⟨18, (k : Int), 0, eS⟩ = (k : Int) + 1 := by
  simp [CodM.tk, Go.RowKit.wrap64]
  omega
theorem chkRs {k : Nat} (hk : k ≤ 5) (n : Int) (s : List UInt8) : CodM.chk [⟨0, lRa k n s⟩] 8 = true := by
  have hl := lRa_len k n s
  refine chk_line _ (stRs k) (by rw [hl]; omega) (stRs_a (Nat.zero_le k)) fun i x hx => ?_
  by_cases h1 : i < k
  · rw [lRa_num h1] at hx
    injection hx with hx
    subst hx
    rw [stRs_a (by omega)]
    refine ⟨al_N (by show (0 : Int) < (i : Int) + 1; omega), fun t ht => ?_⟩
    rw [su_N] at ht
    obtain rfl := List.mem_singleton.1 ht
    exact ⟨by show (i : Int) < (i : Int) + 1; omega, by show (i : Int) + 1 < _; rw [hl]; omega, (congrArg (stRs k) (show ((i : Int) + 1).toNat = i + 1 by omega)).trans ((stRs_a (by omega)).trans (by simp))⟩
  obtain ⟨j, rfl⟩ : ∃ j, i = k + j := ⟨i - k, by omega⟩
  clear h1
  rw [lRa_mid] at hx
  rcases j with _ | _ | _ | _ | j
  · obtain rfl : (⟨24, (k : Int) + 4, 0, eS⟩ : CodM.Ins) = x := by simpa [midI] using hx
    rw [stRs_a (by omega)]
    refine ⟨by simp [CodM.alw, CodM.nm, CodM.tk] <;> omega, fun t ht => ?_⟩
    have ht' : t = ((k : Int) + 4, ((k + 0 : Nat) : Int) + 1 + 1, (0 : Int)) ∨ t = (((k + 0 : Nat) : Int) + 1, ((k + 0 : Nat) : Int) + 1, (0 : Int) + 1) := by simpa [CodM.succ] using ht
    rcases ht' with rfl | rfl
    · exact ⟨by show ((k + 0 : Nat) : Int) < (k : Int) + 4; omega, by show (k : Int) + 4 < _; rw [hl]; omega, (stRs_c (show ((k : Int) + 4).toNat = k + 4 by omega)).trans (by simp; omega)⟩
    · exact ⟨by show ((k + 0 : Nat) : Int) < ((k + 0 : Nat) : Int) + 1; omega, by show ((k + 0 : Nat) : Int) + 1 < _; rw [hl]; omega, (congrArg (stRs k) (show (((k + 0 : Nat) : Int) + 1).toNat = k + 1 by omega)).trans ((stRs_b (by omega) (by omega)).trans (by simp))⟩
  · obtain rfl : iN n = x := by simpa [midI] using hx
    rw [stRs_b (by omega) (by omega)]
    refine ⟨al_N (by show (0 : Int) < ((k + (0 + 1) : Nat) : Int); omega), fun t ht => ?_⟩
    rw [su_N] at ht
    obtain rfl := List.mem_singleton.1 ht
    exact ⟨by show ((k + (0 + 1) : Nat) : Int) < ((k + (0 + 1) : Nat) : Int) + 1; omega, by show ((k + (0 + 1) : Nat) : Int) + 1 < _; rw [hl]; omega, (congrArg (stRs k) (show (((k + (0 + 1) : Nat) : Int) + 1).toNat = k + 2 by omega)).trans ((stRs_b (by omega) (by omega)).trans (by simp; omega))⟩
  · obtain rfl : iN n = x := by simpa [midI] using hx
    rw [stRs_b (by omega) (by omega)]
    refine ⟨al_N (by show (0 : Int) < ((k + (0 + 1 + 1) : Nat) : Int); omega), fun t ht => ?_⟩
    rw [su_N] at ht
    obtain rfl := List.mem_singleton.1 ht
    exact ⟨by show ((k + (0 + 1 + 1) : Nat) : Int) < ((k + (0 + 1 + 1) : Nat) : Int) + 1; omega, by show ((k + (0 + 1 + 1) : Nat) : Int) + 1 < _; rw [hl]; omega, (congrArg (stRs k) (show (((k + (0 + 1 + 1) : Nat) : Int) + 1).toNat = k + 3 by omega)).trans ((stRs_b (by omega) (by omega)).trans (by simp; omega))⟩
  · obtain rfl : (⟨26, 0, 0, lit s⟩ : CodM.Ins) = x := by simpa [midI] using hx
    rw [stRs_b (by omega) (by omega)]
    exact ⟨by simp [CodM.alw, CodM.nm, CodM.tk]; omega, fun t ht => by simp [CodM.succ] at ht⟩
  · by_cases h0 : k = 0
    · subst h0
      rcases j with _ | j
      · obtain rfl : iR = x := by simpa [midI, lastI] using hx
        rw [stRs_c rfl]
        exact ⟨by simp [CodM.alw, CodM.nm, iR], fun t ht => by simp [CodM.succ, iR] at ht⟩
      · simp [midI, lastI] at hx
    · unfold lastI at hx
      rw [if_neg h0] at hx hl
      rcases j with _ | _ | j
      · obtain rfl : (⟨18, (k : Int), 0, eS⟩ : CodM.Ins) = x := by simpa [midI] using hx
        rw [stRs_c (by omega)]
        have e1 := tk_S hk
        refine ⟨?_, fun t ht => ?_⟩
        · simp only [CodM.alw, e1]
          simp [CodM.nm]
          omega
        · have ht' : t = (((k + (0 + 1 + 1 + 1 + 1) : Nat) : Int) + 1, (k : Int) + 2 + (1 - CodM.tk ⟨18, (k : Int), 0, eS⟩), (0 : Int)) := by simpa [CodM.succ, CodM.lv] using ht
          subst ht'
          rw [e1]
          exact ⟨by show ((k + (0 + 1 + 1 + 1 + 1) : Nat) : Int) < ((k + (0 + 1 + 1 + 1 + 1) : Nat) : Int) + 1; omega, by show ((k + (0 + 1 + 1 + 1 + 1) : Nat) : Int) + 1 < _; rw [hl]; omega, (stRs_d (show k + 4 < (((k + (0 + 1 + 1 + 1 + 1) : Nat) : Int) + 1).toNat by omega)).trans (by show ((2 : Int), (0 : Int)) = ((k : Int) + 2 + (1 - ((k : Int) + 1)), 0); congr 1; omega)⟩
      · obtain rfl : iR = x := by simpa [midI] using hx
        rw [stRs_d (by omega)]
        exact ⟨by simp [CodM.alw, CodM.nm, iR], fun t ht => by simp [CodM.succ, iR] at ht⟩
      · simp [midI] at hx
end Go.Proofs.YteenlckpjncgoaaDoor

namespace Go.Proofs.YteenlckpjncgoaaDoor
open Go.RowKit HeaM Ma

theorem ok_nums : ∀ k, ∀ x ∈ numsI k, okop x.op := by
  intro k
  induction k with
  | zero => intro x hx; cases hx
  | succ k ih =>
    intro x hx
    rcases List.mem_append.1 hx with h | h
    · exact ih x h
    · obtain rfl := List.mem_singleton.1 h
      exact .inl rfl
theorem ok_R {k : Nat} {n : Int} {s : List UInt8} : ∀ x ∈ lRa k n s, okop x.op := by
  intro x hx
  rcases List.mem_append.1 hx with h | h
  · rcases List.mem_append.1 h with h | h
    · rcases List.mem_append.1 h with h | h
      · exact ok_nums k x h
      · simp only [midI, List.mem_cons, List.not_mem_nil, or_false] at h
        rcases h with rfl | rfl | rfl | rfl <;> simp [okop, iN]
    · unfold lastI at h
      split at h
      · cases h
      · obtain rfl := List.mem_singleton.1 h
        simp [okop]
  · obtain rfl := List.mem_singleton.1 h
    simp [okop, iR]
theorem ok_Q {s : List UInt8} : ∀ x ∈ lRq s, okop x.op := by
  intro x hx
  obtain rfl := List.mem_singleton.1 hx
  simp [okop]

/-- Instructions onto a row of the call's own. -/
theorem append_ins {w : World} {base n m c : Nat} {v : Value} {xs cs : List Value} {a : Addr} (hown : w.ownsRow base 33 4 v n xs) (hl : cs.length = m * 4) (hc : ∀ j u, cs[j]? = some u → w.cell? (a.add j) = some u) (h1 : ∀ u ∈ cs, u.oneCell' = true) (hn : n ≤ 100) (hm : m ≤ 100) (hbase : base ≤ w.heap.size) :
    ∃ v' w', (Builtin.append_ #[34, 34] 34 #[v, .slice (some a) m c]).run Tryd.prog w = .ok v' w' ∧ w'.ownsRow base 33 4 v' (n + m) (xs ++ cs) ∧ w.grownBy w' v.ownBlock ∧ (v'.ownBlock = v.ownBlock ∨ v'.ownBlock = some w.heap.size) := by
  obtain ⟨i0, hi0, hz0, hz1, hz2⟩ := info_parts (show (Tryd.prog.info? 33).map (fun i => (i.zero, i.size, i.bytes)) = some (some (.agg #[.int .u8 0, .int .i64 0, .int .i64 0, .string ⟨#[]⟩]), 4, 40) by kernel_rfl)
  obtain ⟨v', w', hr, h2, h3, _, h5⟩ := run_append_own_at (P := Tryd.prog) w base 34 34 33 i0 _ 4 40 (by kernel_rfl) hi0 hz0 hz1 hz2 rfl (by decide) v n xs hown a m c cs hl hc h1 (by unfold maxLen; omega) (by omega) hbase
  exact ⟨v', w', hr, h2, h3, h5⟩

/-- More instructions, laid and appended. -/
theorem more_ins {wr : World} {base n : Nat} {v : Value} {l : List CodM.Ins} (l' : List CodM.Ins) (hown : wr.ownsRow base 33 4 v n (CsIn l)) (hn : n ≤ 100) (hm : l'.length ≤ 100) (hbase : base ≤ wr.heap.size) :
    ∃ o c w2, (Builtin.append_ #[34, 34] 34 #[v, .slice (some ⟨wr.heap.size, 0, none⟩) l'.length l'.length]).run Tryd.prog (wr.alloc (.cells (CsIn l').toArray 33)) = .ok (.slice o (n + l'.length) c) w2 ∧ w2.ownsRow base 33 4 (.slice o (n + l'.length) c) (n + l'.length) (CsIn (l ++ l')) ∧ Below base wr w2 := by
  have hba : Below wr.heap.size wr (wr.alloc (.cells (CsIn l').toArray 33)) := (Below.refl _ _).alloc (Nat.le_refl _) _
  have hown2 := own_kept hown (Below.kept hba fun _ h _ => h) (fun q a => by have := (hown.lt q a).2; omega)
  obtain ⟨v', w2, hr, h2, h3, _⟩ := append_ins (m := l'.length) (c := l'.length) (cs := CsIn l') (a := ⟨wr.heap.size, 0, none⟩) hown2 (CsIn_length _) (cells_new wr (CsIn l') 33)
    (fun u hu => by
      obtain ⟨x, _, hx⟩ := List.mem_flatMap.1 hu
      simp only [inC, List.mem_cons, List.not_mem_nil, or_false] at hx
      rcases hx with rfl | rfl | rfl | rfl <;> rfl) hn hm (by simp; omega)
  obtain ⟨o, c, rfl, _⟩ := own_slice h2
  refine ⟨o, c, w2, hr, ?_, ((Below.refl base wr).alloc hbase _).grown h3 (by simp; omega) (fun k hk => (hown.lt k hk).1)⟩
  rw [show CsIn (l ++ l') = CsIn l ++ CsIn l' by simp [CsIn]]
  exact h2

/-- What m.Heap().Text tells of the run with a try. -/
def RzPost (w : World) (s : List UInt8) (e' : Ending) (w' : World) : Prop :=
  ∃ o n c M H vf vg ou, e' = .returned (.tuple #[.agg #[.int .i64 0, .int .u64 32, .string ⟨#[]⟩, .string ou, .slice o n c, .int .i64 3], .pointer (some ⟨M, 0, none⟩)]) ∧ Below w.heap.size w w' ∧ w'.heap[M]? = some (.cells #[.pointer (some ⟨H, 0, none⟩), vf, vg] 56 (0, 0)) ∧
    ∀ W, Below w'.heap.size w' W → Calls Tryd.prog 10 #[.pointer (some ⟨H, 0, none⟩), .int .u64 32] W fun e w2 => e = .returned (.string ⟨s.toArray⟩) ∧ Below W.heap.size W w2
theorem runRs {w : World} {base k len cap g : Nat} {n : Int} {s : List UInt8} (hk : k ≤ 5) (hs : s.length ≤ 2000) (hlen : (lRa k n s).length = len) (hcap : len ≤ cap) (hcm : cap ≤ maxLen) (ho : w.ownsRow base 33 4 (.slice (some ⟨g, 0, none⟩) len cap) len (CsIn (lRa k n s))) :
    Calls Tryd.prog 8 #[.slice (some ⟨g, 0, none⟩) len cap, .int .i64 3] w (RzPost w s) := by
  subst hlen
  have hl := lRa_len k n s
  refine (lrun_l (c := cap) (lRa k n s) (InsC_of ho rfl) (by rw [hl]; omega) (by rw [hl]; split <;> omega) hcap hcm (chkRs hk n s) (fuel := 3) (by omega) ok_R (evR hk hs) (E := 0) (R := 32) (Fu := 3) (ra := ⟨#[]⟩) (ou := ⟨#[]⟩) rfl rfl rfl rfl rfl).mono ?_
  rintro e' w' ⟨o, c, M, rfl, hb', _, hz⟩
  obtain ⟨H, base, u1, u2, vf, vg, hH, hM, hl, hw, hx⟩ := hz rfl
  refine ⟨o, _, c, M, H, vf, vg, _, rfl, hb', hM, fun W hW => ?_⟩
  have hrep : Rep (tW (primW 8) s) (tF (primF 8) s) (.txt 16 s) := by
    have := rep_txt (W := primW 8) (F := primF 8) (l := s) (primF_length 8) (by omega)
    rw [pW] at this
    exact this
  exact text_v W (hH.below hW (Nat.le_refl _)) hl (by show (tW _ _).length ≤ _; have h4 : (tW (primW 8) s).length ≤ 4000 := hw; omega) hx hrep (Lib.hid rfl)

def cQ (s : List UInt8) : Array Value := #[.int .u8 26, .int .i64 0, .int .i64 0, .string ⟨s.toArray⟩]
theorem cQ_eq (s : List UInt8) : cQ s = (CsIn (lRq s)).toArray := rfl
theorem runQ {s : List UInt8} (w : World) : Calls Tryd.prog 8 #[.slice (some ⟨w.heap.size, 0, none⟩) 1 1, .int .i64 3] (w.alloc (.cells (cQ s) 33)) (QPost w 9 0 3 ⟨s.toArray⟩) :=
  (lrun_l (c := 1) (lRq s) (insC_lit (by rw [cQ_eq]; exact heap_alloc_new w _)) (by show 0 < 1; omega) (by show 1 ≤ _; omega) (by show 1 ≤ 1; omega) (by unfold maxLen; omega) (chkQ s) (fuel := 3) (by omega) ok_Q evQ rfl rfl rfl rfl rfl).mono MPost.q
end Go.Proofs.YteenlckpjncgoaaDoor

namespace Go.Proofs.YteenlckpjncgoaaDoor
open Go.RowKit HeaM Ma

set_option maxHeartbeats 8000000 in
set_option maxRecDepth 100000 in
theorem raises_in (s : List UInt8) (d n : Int) (w : World) (hs : s.length ≤ 2000) (hd0 : 0 ≤ d) (hd1 : d < 256) :
    Calls Tryd.prog 5 #[.string ⟨s.toArray⟩, .int .u8 d, .int .i64 n] w fun e w' => e = .returned (.bool true) ∧ Below w.heap.size w w' := by
  have hd : ¬ (2000 : Int) < (s.length : Int) := by omega
  have hd2 : decide (2000 < s.length) = false := by simp; omega
  obtain ⟨k, hk, hk5⟩ : ∃ k : Nat, d.tmod 6 = (k : Int) ∧ k ≤ 5 := by
    rw [Int.tmod_eq_emod_of_nonneg hd0]
    exact ⟨(d % 6).toNat, by omega, by omega⟩
  go_enter Tryd.func5, Tryd.ntmps5
  go_wp2_with fail
  refine (lawake w).mono ?_
  rintro e w1 ⟨rfl, hb1⟩
  have HB1 := Lib.hid hb1
  clear hb1
  go_wp2_with fail
  have HST := Lib.hid (And.intro (World.ownsRow_nil w1 w.heap.size 33 4) HB1.out)
  clear HB1
  go_loopw [8, 9] (fun l i wr => ∃ j : Nat, j ≤ k ∧ i = .int .i64 j ∧ wr.ownsRow w.heap.size 33 4 l j (CsIn (numsI j)) ∧ Below w.heap.size w wr) (fun _ i _ => k - (intOf i).toNat)
  case atStart => exact ⟨0, Nat.zero_le _, rfl, HST.out.1, HST.out.2⟩
  case round =>
    obtain ⟨j, hj, rfl, hown, hb⟩ := hrel
    clear HST
    by_cases hlt : j < k
    · have hki : (j : Int) < (k : Int) := by omega
      have hji : (j : Int) ≤ 5 := by omega
      obtain ⟨o, c, rfl, hc, hm⟩ := own_slice hown
      obtain ⟨o2, c2, w2, hr, ho2, hb2⟩ := more_ins [iN (j : Int)] hown (by omega) (by show 1 ≤ 100; omega) hb.size
      have HR := Lib.hid (show (Builtin.append_ #[34, 34] 34 #[.slice o j c, .slice (some ⟨wr.heap.size, 0, none⟩) 1 1]).run Tryd.prog (wr.alloc (.cells #[.int .u8 0, .int .i64 (j : Int), .int .i64 0, .string ⟨#[]⟩] 33)) = .ok (.slice o2 (j + 1) c2) w2 from hr)
      have HO := Lib.hid (And.intro ho2 (hb.trans hb2))
      clear hown hb hr ho2 hb2
      go_wp2_with (at_builtin; refine wpList_append_known rfl (.tmp 30) (.tmp 33) 34 34 (by rfl) _ _ _ (by rfl) (by rfl) HR.out ?_)
      exact ⟨⟨j + 1, by omega, by go_num, HO.out⟩, by simp [intOf]; omega⟩
    · obtain rfl : j = k := by omega
      have hki : ¬ (j : Int) < (j : Int) := by omega
      obtain ⟨o, c, rfl, hc, hm⟩ := own_slice hown
      obtain ⟨o2, c2, w2, hr, ho2, hb2⟩ := more_ins (midI j n s) hown (by omega) (by show 4 ≤ 100; omega) hb.size
      replace ho2 : w2.ownsRow w.heap.size 33 4 (.slice o2 (j + 4) c2) (j + 4) (CsIn (numsI j ++ midI j n s)) := ho2
      have HR := Lib.hid (show (Builtin.append_ #[34, 34] 34 #[.slice o j c, .slice (some ⟨wr.heap.size, 0, none⟩) 4 4]).run Tryd.prog (wr.alloc (.cells #[.int .u8 24, .int .i64 ((j : Int) + 4), .int .i64 0, .string ⟨#[]⟩, .int .u8 0, .int .i64 n, .int .i64 0, .string ⟨#[]⟩, .int .u8 0, .int .i64 n, .int .i64 0, .string ⟨#[]⟩, .int .u8 26, .int .i64 0, .int .i64 0, .string ⟨s.toArray⟩] 33)) = .ok (.slice o2 (j + 4) c2) w2 from hr)
      by_cases hj0 : j = 0
      · skip
        obtain ⟨o4, c4, w4, hr4, ho4, hb4⟩ := more_ins [iR] ho2 (by omega) (by show 1 ≤ 100; omega) (Nat.le_trans hb.size hb2.size)
        replace ho4 : w4.ownsRow w.heap.size 33 4 (.slice o4 (j + 5) c4) (j + 5) (CsIn (lRa j n s)) := by
          have e : lRa j n s = numsI j ++ midI j n s ++ [iR] := by unfold lRa lastI; rw [if_pos hj0, List.append_nil]
          rw [e]; exact ho4
        have hlen : (lRa j n s).length = j + 5 := by rw [lRa_len, if_pos hj0]
        have HR4 := Lib.hid (show (Builtin.append_ #[34, 34] 34 #[.slice o2 (j + 4) c2, .slice (some ⟨w2.heap.size, 0, none⟩) 1 1]).run Tryd.prog (w2.alloc (.cells #[.int .u8 8, .int .i64 0, .int .i64 0, .string ⟨#[]⟩] 33)) = .ok (.slice o4 (j + 5) c4) w4 from hr4)
        have HB4 := Lib.hid ((hb.trans hb2).trans hb4)
        have hjp : ¬ (0 : Int) < (j : Int) := by omega
        obtain ⟨g4, d4, he4, hg4, hm4, _, _⟩ := own_some ho4 (by omega)
        injection he4 with he4 _ hd4
        subst he4 hd4
        have HRS := Lib.hid (runRs (n := n) (s := s) (k := j) hk5 hs hlen hg4 hm4 ho4)
        have HRQ := Lib.hid fun (W : World) => runQ (s := s) W
        unfold cQ at HRQ
        clear hr hr4 ho2 hb2 hb4 ho4 hlen hown hb hm4 hj0
        go_wp2_with (at_builtin; first | refine wpList_append_known rfl (.tmp 35) (.tmp 45) 34 34 (by rfl) _ _ _ (by rfl) (by rfl) HR.out ?_ | refine wpList_append_known rfl (.tmp 54) (.tmp 56) 34 34 (by rfl) _ _ _ (by rfl) (by rfl) HR4.out ?_)
        refine HRS.out.mono ?_
        rintro e w5 ⟨o5, n5, c5, M1, H1, vf1, vg1, ou1, rfl, hb5, hM, hT⟩
        have HB5 := Lib.hid (HB4.out.trans (hb5.mono HB4.out.size))
        have HM := Lib.hid hM
        have HT := Lib.hid hT
        clear hb5 hM hT HRS HR HR4
        go_wp2_with fail
        have hz2 := HRQ.out (w5.alloc (rbx 0 32 3 ⟨#[]⟩ ou1 o5 n5 c5))
        rw [show (w5.alloc (rbx 0 32 3 ⟨#[]⟩ ou1 o5 n5 c5)).heap.size = w5.heap.size + 1 by simp] at hz2
        have HZ2 := Lib.hid hz2
        clear hz2
        unfold rbx at HZ2
        refine HZ2.out.mono ?_
        rintro e w6 ⟨o6, n6, c6, M6, ou6, rfl, hb6⟩
        have kX : Below (w5.alloc (rbx 0 32 3 ⟨#[]⟩ ou1 o5 n5 c5)).heap.size (w5.alloc (rbx 0 32 3 ⟨#[]⟩ ou1 o5 n5 c5)) (w6.alloc (rbx 9 0 3 ⟨s.toArray⟩ ou6 o6 n6 c6)) := Below.alloc hb6 hb6.size _
        have hX5 : Below w5.heap.size w5 (w6.alloc (rbx 9 0 3 ⟨s.toArray⟩ ou6 o6 n6 c6)) := ((Below.refl _ w5).alloc (Nat.le_refl _) _).trans (kX.mono (by simp))
        obtain ⟨r0, r1, r2, r5⟩ := rbx_at kX
        obtain ⟨q0, q1, q2, q5⟩ := rbx_at (E := 9) (R := 0) (Fu := 3) (ra := ⟨s.toArray⟩) (ou := ou6) (o := o6) (n := n6) (c := c6) (Below.refl (w6.alloc (rbx 9 0 3 ⟨s.toArray⟩ ou6 o6 n6 c6)).heap.size _)
        have hm0 := (hX5.cell (p := ⟨M1, 0, none⟩) (lt_of_block HM.out)).trans ((cell_of_row w5 M1 0 _ _ (0, 0) HM.out).trans rfl)
        have HTX := Lib.hid fun (W : World) (hW : Below (w6.alloc (rbx 9 0 3 ⟨s.toArray⟩ ou6 o6 n6 c6)).heap.size (w6.alloc (rbx 9 0 3 ⟨s.toArray⟩ ou6 o6 n6 c6)) W) => HT.out W (hX5.trans (hW.mono hX5.size))
        have HFIN := Lib.hid (HB5.out.trans (hX5.mono HB5.out.size))
        have hqs : w6.heap.size < (w6.alloc (rbx 9 0 3 ⟨s.toArray⟩ ou6 o6 n6 c6)).heap.size := by simp
        clear hb6 kX hX5 HT HM HB5 HZ2
        unfold rbx at r0 r1 r2 r5 q0 q1 q2 q5 hm0 HTX HFIN hqs
        go_wp2_with fail
        generalize (w6.alloc (.cells #[.int .i64 9, .int .u64 0, .string ⟨s.toArray⟩, .string ou6, .slice o6 n6 c6, .int .i64 3] 28)) = X at *
        have HMH := Lib.hid fun (W : World) (hc : W.cell? ⟨M1, 0, none⟩ = some (.pointer (some ⟨H1, 0, none⟩))) => mheap_t M1 H1 W hc
        have HCQ : Hid (∀ W, Below X.heap.size X.drew W → W.cell? ⟨w6.heap.size, 0, none⟩ = some (.int .i64 9) ∧ W.cell? ⟨w6.heap.size, 1, none⟩ = some (.int .u64 0) ∧ W.cell? ⟨w6.heap.size, 2, none⟩ = some (.string ⟨s.toArray⟩)) := fun W hW =>
          ⟨(hW.cell (p := ⟨w6.heap.size, 0, none⟩) hqs).trans q0, (hW.cell (p := ⟨w6.heap.size, 1, none⟩) hqs).trans q1, (hW.cell (p := ⟨w6.heap.size, 2, none⟩) hqs).trans q2⟩
        have hss : (s == s) = true := by simp
        go_region_law (first
          | (go_simp; go_at_call 9; refine (HMH.out X.drew hm0).mono ?_; rintro e w' ⟨rfl, rfl⟩)
          | (go_simp; go_at_call 10; refine (HTX.out _ (Below.refl _ _).drew).mono ?_; rintro e w7 ⟨rfl, hw7⟩; have HW7 := Lib.hid hw7; obtain ⟨q70, q71, q72⟩ := HCQ.out w7 hw7; clear hw7))
        all_goals
          have HFF := Lib.hid (HFIN.out.drew.trans (HW7.out.mono (by have := HFIN.out.size; simpa using this)))
          go_wp2_with fail
          go_ret
          exact ⟨rfl, HFF.out⟩
      · skip
        obtain ⟨o3, c3, w3, hr3, ho3, hb3⟩ := more_ins [⟨18, (j : Int), 0, eS⟩] ho2 (by omega) (by show 1 ≤ 100; omega) (Nat.le_trans hb.size hb2.size)
        replace ho3 : w3.ownsRow w.heap.size 33 4 (.slice o3 (j + 5) c3) (j + 5) (CsIn (numsI j ++ midI j n s ++ [⟨18, (j : Int), 0, eS⟩])) := ho3
        obtain ⟨o4, c4, w4, hr4, ho4, hb4⟩ := more_ins [iR] ho3 (by omega) (by show 1 ≤ 100; omega) (Nat.le_trans (Nat.le_trans hb.size hb2.size) hb3.size)
        replace ho4 : w4.ownsRow w.heap.size 33 4 (.slice o4 (j + 6) c4) (j + 6) (CsIn (lRa j n s)) := by
          have e : lRa j n s = numsI j ++ midI j n s ++ [⟨18, (j : Int), 0, eS⟩] ++ [iR] := by unfold lRa lastI; rw [if_neg (by omega)]
          rw [e]; exact ho4
        have hlen : (lRa j n s).length = j + 6 := by rw [lRa_len, if_neg (by omega)]
        have HR3 := Lib.hid (show (Builtin.append_ #[34, 34] 34 #[.slice o2 (j + 4) c2, .slice (some ⟨w2.heap.size, 0, none⟩) 1 1]).run Tryd.prog (w2.alloc (.cells #[.int .u8 18, .int .i64 (j : Int), .int .i64 0, .string ⟨#[]⟩] 33)) = .ok (.slice o3 (j + 5) c3) w3 from hr3)
        have HR4 := Lib.hid (show (Builtin.append_ #[34, 34] 34 #[.slice o3 (j + 5) c3, .slice (some ⟨w3.heap.size, 0, none⟩) 1 1]).run Tryd.prog (w3.alloc (.cells #[.int .u8 8, .int .i64 0, .int .i64 0, .string ⟨#[]⟩] 33)) = .ok (.slice o4 (j + 6) c4) w4 from hr4)
        have HB4 := Lib.hid (((hb.trans hb2).trans hb3).trans hb4)
        have hjp : (0 : Int) < (j : Int) := by omega
        obtain ⟨g4, d4, he4, hg4, hm4, _, _⟩ := own_some ho4 (by omega)
        injection he4 with he4 _ hd4
        subst he4 hd4
        have HRS := Lib.hid (runRs (n := n) (s := s) (k := j) hk5 hs hlen hg4 hm4 ho4)
        have HRQ := Lib.hid fun (W : World) => runQ (s := s) W
        unfold cQ at HRQ
        clear hr hr3 hr4 ho2 ho3 hb2 hb3 hb4 ho4 hlen hown hb hm4 hj0
        go_wp2_with (at_builtin; first | refine wpList_append_known rfl (.tmp 35) (.tmp 45) 34 34 (by rfl) _ _ _ (by rfl) (by rfl) HR.out ?_ | refine wpList_append_known rfl (.tmp 49) (.tmp 52) 34 34 (by rfl) _ _ _ (by rfl) (by rfl) HR3.out ?_ | refine wpList_append_known rfl (.tmp 54) (.tmp 56) 34 34 (by rfl) _ _ _ (by rfl) (by rfl) HR4.out ?_)
        refine HRS.out.mono ?_
        rintro e w5 ⟨o5, n5, c5, M1, H1, vf1, vg1, ou1, rfl, hb5, hM, hT⟩
        have HB5 := Lib.hid (HB4.out.trans (hb5.mono HB4.out.size))
        have HM := Lib.hid hM
        have HT := Lib.hid hT
        clear hb5 hM hT HRS HR HR4
        go_wp2_with fail
        have hz2 := HRQ.out (w5.alloc (rbx 0 32 3 ⟨#[]⟩ ou1 o5 n5 c5))
        rw [show (w5.alloc (rbx 0 32 3 ⟨#[]⟩ ou1 o5 n5 c5)).heap.size = w5.heap.size + 1 by simp] at hz2
        have HZ2 := Lib.hid hz2
        clear hz2
        unfold rbx at HZ2
        refine HZ2.out.mono ?_
        rintro e w6 ⟨o6, n6, c6, M6, ou6, rfl, hb6⟩
        have kX : Below (w5.alloc (rbx 0 32 3 ⟨#[]⟩ ou1 o5 n5 c5)).heap.size (w5.alloc (rbx 0 32 3 ⟨#[]⟩ ou1 o5 n5 c5)) (w6.alloc (rbx 9 0 3 ⟨s.toArray⟩ ou6 o6 n6 c6)) := Below.alloc hb6 hb6.size _
        have hX5 : Below w5.heap.size w5 (w6.alloc (rbx 9 0 3 ⟨s.toArray⟩ ou6 o6 n6 c6)) := ((Below.refl _ w5).alloc (Nat.le_refl _) _).trans (kX.mono (by simp))
        obtain ⟨r0, r1, r2, r5⟩ := rbx_at kX
        obtain ⟨q0, q1, q2, q5⟩ := rbx_at (E := 9) (R := 0) (Fu := 3) (ra := ⟨s.toArray⟩) (ou := ou6) (o := o6) (n := n6) (c := c6) (Below.refl (w6.alloc (rbx 9 0 3 ⟨s.toArray⟩ ou6 o6 n6 c6)).heap.size _)
        have hm0 := (hX5.cell (p := ⟨M1, 0, none⟩) (lt_of_block HM.out)).trans ((cell_of_row w5 M1 0 _ _ (0, 0) HM.out).trans rfl)
        have HTX := Lib.hid fun (W : World) (hW : Below (w6.alloc (rbx 9 0 3 ⟨s.toArray⟩ ou6 o6 n6 c6)).heap.size (w6.alloc (rbx 9 0 3 ⟨s.toArray⟩ ou6 o6 n6 c6)) W) => HT.out W (hX5.trans (hW.mono hX5.size))
        have HFIN := Lib.hid (HB5.out.trans (hX5.mono HB5.out.size))
        have hqs : w6.heap.size < (w6.alloc (rbx 9 0 3 ⟨s.toArray⟩ ou6 o6 n6 c6)).heap.size := by simp
        clear hb6 kX hX5 HT HM HB5 HZ2
        unfold rbx at r0 r1 r2 r5 q0 q1 q2 q5 hm0 HTX HFIN hqs
        go_wp2_with fail
        generalize (w6.alloc (.cells #[.int .i64 9, .int .u64 0, .string ⟨s.toArray⟩, .string ou6, .slice o6 n6 c6, .int .i64 3] 28)) = X at *
        have HMH := Lib.hid fun (W : World) (hc : W.cell? ⟨M1, 0, none⟩ = some (.pointer (some ⟨H1, 0, none⟩))) => mheap_t M1 H1 W hc
        have HCQ : Hid (∀ W, Below X.heap.size X.drew W → W.cell? ⟨w6.heap.size, 0, none⟩ = some (.int .i64 9) ∧ W.cell? ⟨w6.heap.size, 1, none⟩ = some (.int .u64 0) ∧ W.cell? ⟨w6.heap.size, 2, none⟩ = some (.string ⟨s.toArray⟩)) := fun W hW =>
          ⟨(hW.cell (p := ⟨w6.heap.size, 0, none⟩) hqs).trans q0, (hW.cell (p := ⟨w6.heap.size, 1, none⟩) hqs).trans q1, (hW.cell (p := ⟨w6.heap.size, 2, none⟩) hqs).trans q2⟩
        have hss : (s == s) = true := by simp
        go_region_law (first
          | (go_simp; go_at_call 9; refine (HMH.out X.drew hm0).mono ?_; rintro e w' ⟨rfl, rfl⟩)
          | (go_simp; go_at_call 10; refine (HTX.out _ (Below.refl _ _).drew).mono ?_; rintro e w7 ⟨rfl, hw7⟩; have HW7 := Lib.hid hw7; obtain ⟨q70, q71, q72⟩ := HCQ.out w7 hw7; clear hw7))
        all_goals
          have HFF := Lib.hid (HFIN.out.drew.trans (HW7.out.mono (by have := HFIN.out.size; simpa using this)))
          go_wp2_with fail
          go_ret
          exact ⟨rfl, HFF.out⟩
end Go.Proofs.YteenlckpjncgoaaDoor

namespace Go.Proofs.YteenlckpjncgoaaDoor
open Go.RowKit HeaM Ma

set_option maxHeartbeats 4000000 in
set_option maxRecDepth 100000 in
theorem raises_out (s : List UInt8) (d n : Int) (w : World) (hs : 2000 < s.length) (hs2 : s.length ≤ 140737488351232) :
    Calls Tryd.prog 5 #[.string ⟨s.toArray⟩, .int .u8 d, .int .i64 n] w fun e w' => e = .returned (.bool true) ∧ Below w.heap.size w w' := by
  have h1 : (s.length : Int) ≤ 140737488351232 := by omega
  have hd : (2000 : Int) < (s.length : Int) := by omega
  have hd2 : decide (2000 < s.length) = true := by simpa using hs
  clear hs hs2
  go_enter Tryd.func5, Tryd.ntmps5
  go_wp2_with fail
  refine (lawake w).mono ?_
  rintro e w1 ⟨rfl, hb1⟩
  have HB1 := Lib.hid hb1
  clear hb1
  go_wp2_with fail
  refine (lawake w1).mono ?_
  rintro e w2 ⟨rfl, hb2⟩
  have HB2 := Lib.hid (HB1.out.trans (hb2.mono HB1.out.size))
  clear hb2
  go_wp2_with fail
  go_ret
  exact ⟨rfl, HB2.out⟩

theorem raises_walk (s : ByteArray) (d n : Int) (w : World) (hs : s.size ≤ 140737488351232) (hd0 : 0 ≤ d) (hd1 : d ≤ 255) (_ : -9223372036854775808 ≤ n) (_ : n ≤ 9223372036854775807) :
    Calls Tryd.prog 5 #[.string s, .int .u8 d, .int .i64 n] w fun e w' => e = .returned (.bool true) ∧ Below w.heap.size w w' := by
  obtain ⟨a, rfl⟩ : ∃ a : List UInt8, s = ⟨a.toArray⟩ := ⟨s.data.toList, by simp⟩
  have ha : a.length ≤ 140737488351232 := by simpa [ByteArray.size] using hs
  by_cases h : 2000 < a.length
  · exact raises_out a d n w h ha
  · exact raises_in a d n w (by omega) hd0 (by omega)
end Go.Proofs.YteenlckpjncgoaaDoor
