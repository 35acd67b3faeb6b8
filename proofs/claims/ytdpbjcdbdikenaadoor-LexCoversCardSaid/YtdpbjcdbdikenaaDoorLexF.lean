/- Signs. -/
import Derived.Test.YtdpbjcdbdikenaaDoorLexE
namespace Go.Proofs.YtdpbjcdbdikenaaDoor
open Go.RowKit LexM

/-- What a token's function returns. -/
def t1Val (p : Nat) (r : T1) : Value :=
  .tuple #[.agg #[.int .u8 (r.2.2.1 : Int), .string ⟨r.2.2.2.toArray⟩, .int .i64 (if r.1 = 0 then (p : Int) else 0)], .int .i64 ((p + r.2.1 : Nat) : Int), .int .i64 (r.1 : Int)]

theorem t1Val_ok (p n k : Nat) (tx : List UInt8) (s : ByteArray) (x : Int) (h : ((p + n : Nat) : Int) = x) (hs : bs s = tx) :
    t1Val p (0, n, k, tx) = .tuple #[.agg #[.int .u8 (k : Int), .string s, .int .i64 (p : Int)], .int .i64 x, .int .i64 0] := by
  subst h hs
  unfold t1Val
  rw [Lib.mk_data]
  rfl
theorem t1Val_err (p n e : Nat) (he : e ≠ 0) (x : Int) (h : ((p + n : Nat) : Int) = x) :
    t1Val p (e, n, 0, []) = .tuple #[.agg #[.int .u8 0, .string ⟨#[]⟩, .int .i64 0], .int .i64 x, .int .i64 (e : Int)] := by
  subst h
  unfold t1Val
  simp only [if_neg he]
  rfl

theorem find_at (l : List (List UInt8)) (r : List UInt8) (k : Nat) (h : k < l.length) (hn : ∀ x ∈ l.take k, x.isPrefixOf r = false) (hx : (l.getD k []).isPrefixOf r = true) :
    l.find? (·.isPrefixOf r) = some (l.getD k []) := by
  have e : l = l.take k ++ l.getD k [] :: l.drop (k + 1) := by
    rw [getD_of l k h, ← List.drop_eq_getElem_cons h, List.take_append_drop]
  have hnone : (l.take k).find? (·.isPrefixOf r) = none := by
    rw [List.find?_eq_none]
    intro x hx; rw [hn x hx]; simp
  conv => lhs; rw [e]
  rw [List.find?_append, hnone, List.find?_cons, hx]
  rfl

def tokCells (k : Int) (s : ByteArray) (p : Int) : Array Value := #[.int .u8 k, .string s, .int .i64 p]

set_option maxHeartbeats 1000000 in
theorem sign_any (s : ByteArray) (p : Nat) (w : World) (hL : Laid w) (hs : s.size ≤ 2000) (hp : p < s.size) :
    Calls Tryd.prog 26 #[.string s, .int .i64 (p : Int)] w fun e w' => e = .returned (t1Val p (sgn1 ((bs s).drop p))) ∧ Below w.heap.size w w' := by
  obtain ⟨t2, f2, h2⟩ := hL.sg
  have h2' : ∀ o, (w.alloc o).heap[0]? = some (.cells sgCells t2 f2) := fun o => (Below.heap_alloc w o 0 (by have := hL.size; omega)).trans h2
  have hrow := fun (W : World) (hW : W.heap[0]? = some (.cells sgCells t2 f2)) (ops : Array Oper) (rest : List Oper) (o : Oper) (a : Act) (Q : Exit → Act → World → Prop) (hgd : o.guard = none) (x : Operand) (ho : o.op = .load 52 x) (hx : a.eval x = .pointer (some ⟨0, 0, none⟩)) => wpList_load_row (P := Tryd.prog) (ops := ops) (rest := rest) (o := o) (a := a) (w := W) (Q := Q) hgd 52 x ho 0 hx t2 sgCells f2 _ hW Tryd.underlying52 rfl (by kernel_rfl)
  have H2 := Lib.hid h2'
  clear h2 h2'
  go_enter Tryd.func26, Tryd.ntmps26
  go_wp2_with (refine hrow _ (H2.out _) _ _ _ _ _ rfl _ rfl rfl ?_)
  clear hrow H2
  go_loop [10] (fun i => ∃ k : Nat, k ≤ 24 ∧ i = .int .i64 (k : Int) ∧ Hid (∀ x ∈ sgs.take k, x.isPrefixOf ((bs s).drop p) = false)) (fun i => 24 - (intOf i).toNat)
  case atStart => exact ⟨0, by omega, rfl, by intro x hx; simp at hx⟩
  case round =>
    obtain ⟨k, h1, rfl, HR⟩ := hrel
    by_cases hk : k < 24
    · have hx : ∀ w, (Instr.index 52 (.agg sgCells) (.int .i64 (k : Int))).run Tryd.prog w = .ok (.string ⟨(sgs.getD k []).toArray⟩) w := fun w => index_strs 52 24 sgs Tryd.underlying52 rfl k hk w
      have ht := take_getD sgs k hk
      have hlen := sgs_pos _ (mem_getD sgs k hk)
      have hfind := find_at sgs ((bs s).drop p) k hk HR.out
      generalize sgs.getD k [] = x at *
      have hsz : (⟨x.toArray⟩ : ByteArray).size = x.length := by simp [ByteArray.size]
      rcases hm : x.isPrefixOf ((bs s).drop p) with _ | _
      · have H1 := Lib.hid (hp_at s p ⟨x.toArray⟩ false hm)
        have HN : Hid (∀ x ∈ sgs.take (k + 1), x.isPrefixOf ((bs s).drop p) = false) := by
          intro y hy
          rw [ht, List.mem_append] at hy
          rcases hy with hy | hy
          · exact HR y hy
          · obtain rfl : y = x := by simpa using hy
            exact hm
        clear ht hm HR hfind hlen hsz
        go_wp2_with (go_at_call 18; ((with_reducible refine (H1.out _).mono ?_); rintro e w' ⟨rfl, rfl⟩))
        go_round
        case rel => exact ⟨k + 1, by omega, by go_num, HN⟩
        case measure => simp [intOf]; omega
      · have H1 := Lib.hid (hp_at s p ⟨x.toArray⟩ true hm)
        have hfit := (List.isPrefixOf_iff_prefix.1 hm).length_le
        rw [List.length_drop, bs_length] at hfit
        have HN : Hid (sgn1 ((bs s).drop p) = (0, x.length, 7, x)) := by
          show _ = _
          unfold sgn1
          rw [hfind hm]
        have HV := Lib.hid (t1Val_ok p x.length 7 x ⟨x.toArray⟩ ((p : Int) + (x.length : Int)) (by omega) rfl)
        clear ht hm HR hfind
        go_wp2_with (go_at_call 18; ((with_reducible refine (H1.out _).mono ?_); rintro e w' ⟨rfl, rfl⟩))
        refine bodyPost_ret (v := .tuple #[.agg #[.int .u8 7, .string ⟨x.toArray⟩, .int .i64 (p : Int)], .int .i64 ((p : Int) + (x.length : Int)), .int .i64 0]) (by simp [results, Tryd.results26, go_sem]) rfl ⟨?_, ?_⟩
        · rw [HN.out, HV.out]; rfl
        · exact (Below.refl _ _).alloc (Nat.le_refl _) _
    · obtain rfl : k = 24 := by omega
      have HN : Hid (sgn1 ((bs s).drop p) = (4, 0, 0, [])) := by
        show _ = _
        unfold sgn1
        have : sgs.find? (·.isPrefixOf ((bs s).drop p)) = none := by
          rw [List.find?_eq_none]
          intro x hx
          rw [HR x (by rw [List.take_of_length_le (by decide)]; exact hx)]
          simp
        rw [this]
      have HV := Lib.hid (t1Val_err p 0 4 (by decide) (p : Int) (by omega))
      clear HR
      go_wp2
      refine bodyPost_ret (v := .tuple #[.agg #[.int .u8 0, .string ⟨#[]⟩, .int .i64 0], .int .i64 (p : Int), .int .i64 4]) (by simp [results, Tryd.results26, go_sem]) rfl ⟨?_, ?_⟩
      · rw [HN.out, HV.out]; rfl
      · exact (Below.refl _ _).alloc (Nat.le_refl _) _
end Go.Proofs.YtdpbjcdbdikenaaDoor
