/- What the program's tables hold; the kind of a word; signs. -/
import Derived.Test.YtdpbjcdbdikenaaDoorLexD
import Derived.ChangeKeysEq
namespace Go.Proofs.YtdpbjcdbdikenaaDoor
open Go.RowKit LexM

/-- A text as a value. -/
def strs (l : List (List UInt8)) : Array Value := (l.map fun x => Value.string ⟨x.toArray⟩).toArray
def kwCells : Array Value := strs kws
def sgCells : Array Value := strs sgs

/-- What the program's variables hold. -/
structure Laid (w : World) : Prop where
  sg : ∃ t fr, w.heap[0]? = some (.cells sgCells t fr)
  kw : ∃ t fr, w.heap[1]? = some (.cells kwCells t fr)
  er : ∃ t p, w.cell? ⟨3, 0, none⟩ = some (.iface t p)

theorem Laid.size {w : World} (h : Laid w) : 4 ≤ w.heap.size := by
  obtain ⟨_, _, hv⟩ := h.er
  have := World.block_lt_of_cell? w _ hv
  simp only at this
  omega
theorem Laid.below {w w' : World} {n : Nat} (h : Laid w) (hb : Below n w w') (hn : 4 ≤ n) : Laid w' := by
  obtain ⟨⟨t1, f1, h1⟩, ⟨t2, f2, h2⟩, ⟨v4, q4, h4⟩⟩ := h
  exact ⟨⟨t1, f1, (hb.block _ (by omega)).trans h1⟩, ⟨t2, f2, (hb.block _ (by omega)).trans h2⟩, ⟨v4, q4, (hb.cell (by simp only; omega)).trans h4⟩⟩

theorem strs_get (l : List (List UInt8)) (k : Nat) (hk : k < l.length) : (strs l)[k]? = some (.string ⟨l[k].toArray⟩) := by
  simp [strs, hk]

theorem info1 : ∃ i, Tryd.prog.info? 9 = some i := by
  have h : (Tryd.prog.info? 9).isSome = true := by kernel_rfl
  exact Option.isSome_iff_exists.1 h

theorem index_strs (T n : Nat) (l : List (List UInt8)) (hT : Tryd.prog.underlying T = some (.array n 9)) (hl : l.length = n) (k : Nat) (hk : k < n) (w : World) :
    (Instr.index T (.agg (strs l)) (.int .i64 (k : Int))).run Tryd.prog w = .ok (.string ⟨(l.getD k []).toArray⟩) w := by
  have h1 := strs_get l k (by omega)
  obtain ⟨i, hi⟩ := info1
  have hc : Tryd.prog.cellsOf 9 = 1 := by kernel_rfl
  have hs := Go.run_sizeOf (P := Tryd.prog) (w := w) hi
  rw [hc] at hs
  have hp := Go.run_part_plain (P := Tryd.prog) (e := 9) (by kernel_rfl) (w := w) h1
  have hr : (0 : Int) ≤ (k : Int) ∧ (k : Int) < (n : Int) := by omega
  have e : l.getD k [] = l[k] := by simp [List.getD, show k < l.length by omega]
  rw [e]
  clear hp
  simp [Instr.index, run_underlying hT, asIntOf, hs, hr, hk, h1, go_sem]

theorem getD_of (l : List (List UInt8)) (k : Nat) (h : k < l.length) : l.getD k [] = l[k] := by simp [List.getD, h]
theorem take_getD (l : List (List UInt8)) (k : Nat) (h : k < l.length) : l.take (k + 1) = l.take k ++ [l.getD k []] := by
  rw [getD_of l k h, List.take_succ_eq_append_getElem h]
theorem mem_getD (l : List (List UInt8)) (k : Nat) (h : k < l.length) : l.getD k [] ∈ l := by
  rw [getD_of l k h]; exact List.getElem_mem _

/-- Two texts are the same. -/
theorem str_eq (s : ByteArray) (l : List UInt8) : (s.toList == l) = (bs s == l) := by
  rw [Lib.toList_data]

set_option maxHeartbeats 1000000 in
theorem wordKind_any (s : ByteArray) (w : World) (hL : Laid w) (hs : 0 < s.size) :
    Calls Tryd.prog 29 #[.string s] w fun e w' => e = .returned (.int .u8 (wk (bs s) : Int)) ∧ w = w' := by
  obtain ⟨t2, f2, h2⟩ := hL.kw
  have hrow := fun (ops : Array Oper) (rest : List Oper) (o : Oper) (a : Act) (Q : Exit → Act → World → Prop) (hgd : o.guard = none) (x : Operand) (ho : o.op = .load 53 x) (hx : a.eval x = .pointer (some ⟨1, 0, none⟩)) => wpList_load_row (P := Tryd.prog) (ops := ops) (rest := rest) (o := o) (a := a) (w := w) (Q := Q) hgd 53 x ho 1 hx t2 kwCells f2 _ h2 Tryd.underlying53 rfl (by kernel_rfl)
  have hU := Lib.hid (isUpper_any s[0])
  have hk0 : (bs s).headD 0 = s[0] := by have := drop_cons s 0 hs; rw [List.drop_zero] at this; rw [this]; rfl
  have hc : Hid (wk (bs s) = if kws.contains (bs s) then 6 else if (s[0].toNat : Int) = 39 then 3 else if isUp s[0] then 2 else 1) := by
    show _ = _
    unfold wk
    rw [hk0]
    have := eqN s[0] 39 (by decide)
    simp only [beq_iff_eq]
    rw [show (39 : UInt8) = UInt8.ofNat 39 from rfl]
    simp only [this]
    rfl
  clear h2 hL hk0
  go_enter Tryd.func29, Tryd.ntmps29
  go_wp2_with (refine hrow _ _ _ _ _ rfl _ rfl rfl ?_)
  clear hrow
  go_loop [6] (fun i => ∃ k : Nat, k ≤ 15 ∧ i = .int .i64 (k : Int) ∧ Hid (∀ x ∈ kws.take k, x ≠ bs s)) (fun i => 15 - (intOf i).toNat)
  case atStart => exact ⟨0, by omega, rfl, by intro x hx; simp at hx⟩
  case round =>
    obtain ⟨k, h1, rfl, HR⟩ := hrel
    by_cases hk : k < 15
    · have hx := fun w => index_strs 53 15 kws Tryd.underlying53 rfl k hk w
      have hx : ∀ w, (Instr.index 53 (.agg kwCells) (.int .i64 (k : Int))).run Tryd.prog w = .ok (.string ⟨(kws.getD k []).toArray⟩) w := hx
      have ht := take_getD kws k hk
      have hmem := mem_getD kws k hk
      have he := str_eq s (kws.getD k [])
      generalize kws.getD k [] = x at *
      rcases hm : (bs s == x) with _ | _
      · rw [hm] at he
        have HN : Hid (∀ x ∈ kws.take (k + 1), x ≠ bs s) := by
          intro y hy
          rw [ht, List.mem_append] at hy
          rcases hy with hy | hy
          · exact HR y hy
          · obtain rfl : y = x := by simpa using hy
            rintro rfl
            simp at hm
        clear ht hmem hm HR
        go_wp2
        go_round
        case rel => exact ⟨k + 1, by omega, by go_num, HN⟩
        case measure => simp [intOf]; omega
      · rw [hm] at he
        have HN : Hid (wk (bs s) = 6) := by
          show _ = _
          rw [hc, if_pos]
          rw [eq_of_beq hm]
          simpa using hmem
        clear ht hmem hm HR hc
        go_wp2
        go_ret
        refine ⟨?_, rfl⟩
        rw [HN.out]
        rfl
    · obtain rfl : k = 15 := by omega
      have HN : Hid (kws.contains (bs s) = false) := by
        show _ = _
        rw [List.contains_eq_any_beq, List.any_eq_false]
        intro x hx hxx
        have hxx := eq_of_beq hxx
        exact HR x (by rw [List.take_of_length_le (by decide)]; exact hx) hxx.symm
      have HC := Lib.hid (hc.out)
      rw [HN.out] at HC
      clear HR hc
      by_cases h39 : (s[0].toNat : Int) = 39
      · go_wp2
        go_ret
        refine ⟨?_, rfl⟩
        rw [HC.out, if_neg (by simp), if_pos h39]
        rfl
      · rcases hu : isUp s[0] with _ | _
        all_goals
          rw [hu] at hU
          rw [hu] at HC
          clear hu
          go_wp2_with (go_at_call 21; ((with_reducible refine (hU.out _).mono ?_); rintro e w' ⟨rfl, rfl⟩))
          go_ret
          refine ⟨?_, rfl⟩
          rw [HC.out, if_neg (by simp), if_neg h39]
          rfl
end Go.Proofs.YtdpbjcdbdikenaaDoor
