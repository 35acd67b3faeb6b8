/- The laws' small functions: Same, Word, Number. -/
import Derived.Test.YtdpbjcdbdikenaaDoorLexO
namespace Go.Proofs.YtdpbjcdbdikenaaDoor
open Go.RowKit LexM

theorem neqTok (w : World) (a a' c c' : Int) (s s' : ByteArray) :
    (binOp .neq 33 (.agg #[.int .u8 a, .string s, .int .i64 c]) (.agg #[.int .u8 a', .string s', .int .i64 c'])).run Tryd.prog w = .ok (.bool (!(a == a' && (s.toList == s'.toList) && c == c'))) w := by
  have h1 := run_equalIn_agg (P := Tryd.prog) w 9999 33 #[.int .u8 a, .string s, .int .i64 c] #[.int .u8 a', .string s', .int .i64 c'] (by kernel_rfl) (by kernel_rfl)
  rw [run_neq_struct, h1]
  by_cases ha : a = a' <;> by_cases hs : s.toList = s'.toList <;> by_cases hb : c = c' <;> simp [go_sem, ha, hb, hs]

theorem tk_eq (x y : Tk) : ((x.kind : Int) == (y.kind : Int) && ((⟨x.text.toArray⟩ : ByteArray).toList == (⟨y.text.toArray⟩ : ByteArray).toList) && (x.at_ : Int) == (y.at_ : Int)) = decide (x = y) := by
  obtain ⟨a, b, c⟩ := x
  obtain ⟨a', b', c'⟩ := y
  rw [Lib.toList_data, Lib.toList_data, Bool.eq_iff_iff]
  simp
  constructor
  · rintro ⟨⟨h1, h2⟩, h3⟩; exact ⟨by omega, h2, by omega⟩
  · rintro ⟨h1, h2, h3⟩; exact ⟨⟨by omega, h2⟩, by omega⟩

theorem take_eq_step (l m : List Tk) (k : Nat) (h1 : k < l.length) (h2 : k < m.length) (he : l.take k = m.take k) (hk : l[k] = m[k]) : l.take (k + 1) = m.take (k + 1) := by
  rw [List.take_succ_eq_append_getElem h1, List.take_succ_eq_append_getElem h2, he, hk]

set_option maxHeartbeats 2000000 in
set_option maxRecDepth 100000 in
theorem same_rows (b off c b' off' c' : Nat) (l m : List Tk) (w : World) (hl : l.length ≤ 1000000) (hlm : l.length = m.length) (_ : l.length ≤ c) (_ : c ≤ maxLen) (_ : m.length ≤ c') (_ : c' ≤ maxLen) (hc : CellsT w b off l) (hc' : CellsT w b' off' m) :
    Calls Tryd.prog 12 #[.slice (some ⟨b, off, none⟩) l.length c, .slice (some ⟨b', off', none⟩) m.length c'] w fun e w' => e = .returned (.bool (decide (l = m))) ∧ Below w.heap.size w w' := by
  have Hc := Lib.hid hc
  have Hc' := Lib.hid hc'
  clear hc hc'
  have t0 : ((l.length : Int) != (m.length : Int)) = false := by rw [bne_eq_false_iff_eq]; omega
  have HLM := Lib.hid hlm
  clear hlm
  go_enter Tryd.func12, Tryd.ntmps12
  go_wp2
  go_loopw [5] (fun i wr => ∃ k : Nat, k ≤ l.length ∧ i = .int .i64 (k : Int) ∧ Hid (l.take k = m.take k) ∧ Below w.heap.size w wr) (fun i _ => l.length - (intOf i).toNat)
  case atStart => exact ⟨0, by omega, rfl, by show _ = _; simp, Below.refl _ _⟩
  case round =>
    obtain ⟨k, hk, rfl, HE, hb⟩ := hrel
    by_cases hlt : k < l.length
    · have hlt' : k < m.length := by have := HLM.out; omega
      obtain ⟨c1, c2, c3⟩ := (CellsT.below Hc.out hb (Nat.le_refl _)) k l[k] (by simp [hlt])
      obtain ⟨d1, d2, d3⟩ := (CellsT.below Hc'.out hb (Nat.le_refl _)) k m[k] (by simp [hlt'])
      have nq : ∀ w : World, (binOp .neq 33 (.agg #[.int .u8 (l[k].kind : Int), .string ⟨l[k].text.toArray⟩, .int .i64 (l[k].at_ : Int)]) (.agg #[.int .u8 (m[k].kind : Int), .string ⟨m[k].text.toArray⟩, .int .i64 (m[k].at_ : Int)])).run Tryd.prog w = .ok (.bool (!decide (l[k] = m[k]))) w := fun w => by
        rw [neqTok, tk_eq]
      unfold tkS at c2 d2
      have HB := Lib.hid hb
      clear hb
      by_cases he : l[k] = m[k]
      · have HN := Lib.hid (take_eq_step l m k hlt hlt' HE.out he)
        rw [decide_eq_true he] at nq
        generalize l[k] = x at *
        generalize m[k] = y at *
        generalize (⟨x.text.toArray⟩ : ByteArray) = S at *
        generalize (⟨y.text.toArray⟩ : ByteArray) = S' at *
        clear he HE
        go_wp2
        go_region
        go_wp2
        go_roundw
        case rel => exact ⟨k + 1, by omega, by go_num, HN, HB.out.drew⟩
        case measure => simp [intOf]; omega
      · have HN : Hid (decide (l = m) = false) := by
          show _ = _
          rw [decide_eq_false_iff_not]
          rintro rfl
          exact he rfl
        rw [decide_eq_false he] at nq
        generalize l[k] = x at *
        generalize m[k] = y at *
        generalize (⟨x.text.toArray⟩ : ByteArray) = S at *
        generalize (⟨y.text.toArray⟩ : ByteArray) = S' at *
        clear he HE
        go_wp2
        go_region
        go_wp2
        go_ret
        exact ⟨by rw [HN.out]; rfl, HB.out.drew⟩
    · obtain rfl : k = l.length := by omega
      have HN : Hid (decide (l = m) = true) := by
        show _ = _
        rw [decide_eq_true_iff]
        have := HE.out
        rw [List.take_length, HLM.out, List.take_length] at this
        exact this
      have HB := Lib.hid hb
      clear hb HE
      go_wp2
      go_ret
      exact ⟨by rw [HN.out]; rfl, HB.out⟩

theorem same_len (o o' : Option Addr) (n c n' c' : Nat) (w : World) (h : n ≠ n') :
    Calls Tryd.prog 12 #[.slice o n c, .slice o' n' c'] w fun e w' => e = .returned (.bool false) ∧ Below w.heap.size w w' := by
  have t0 : ((n : Int) != (n' : Int)) = true := by rw [bne_iff_ne]; omega
  clear h
  go_enter Tryd.func12, Tryd.ntmps12
  go_wp2
  go_ret
  exact ⟨rfl, Below.refl _ _⟩
theorem same_nil (o o' : Option Addr) (c c' : Nat) (w : World) :
    Calls Tryd.prog 12 #[.slice o 0 c, .slice o' 0 c'] w fun e w' => e = .returned (.bool true) ∧ Below w.heap.size w w' := by
  go_enter Tryd.func12, Tryd.ntmps12
  go_wp2
  go_loop [5] (fun i => i = .int .i64 0) (fun _ => 0)
  case atStart => rfl
  case round =>
    obtain rfl := hrel
    go_wp2
    go_ret
    exact ⟨rfl, Below.refl _ _⟩

theorem RdT.form {w : World} {v : Value} {l : List Tk} (h : RdT w v l) : ∃ o c, v = .slice o l.length c := by
  rcases h with ⟨o, c, _, rfl, rfl⟩ | ⟨b, off, c, rfl, _⟩
  · exact ⟨_, _, rfl⟩
  · exact ⟨_, _, rfl⟩

theorem same_any (v v' : Value) (l m : List Tk) (w : World) (h : RdT w v l) (h' : RdT w v' m) (hl : l.length ≤ 1000000) :
    Calls Tryd.prog 12 #[v, v'] w fun e w' => e = .returned (.bool (decide (l = m))) ∧ Below w.heap.size w w' := by
  by_cases hn : l.length = m.length
  · rcases h with ⟨o, c, _, rfl, rfl⟩ | ⟨b, off, c, rfl, h2, h3, h4, h5⟩
    · obtain rfl : m = [] := List.eq_nil_of_length_eq_zero hn.symm
      obtain ⟨o', c', rfl⟩ := h'.form
      exact same_nil _ _ _ _ _
    · rcases h' with ⟨o', c', _, rfl, rfl⟩ | ⟨b', off', c', rfl, g2, g3, g4, g5⟩
      · simp at hn; subst hn; simp at h2
      · exact same_rows _ _ _ _ _ _ _ _ _ hl hn h3 h4 g3 g4 h5 g5
  · obtain ⟨o, c, rfl⟩ := h.form
    obtain ⟨o', c', rfl⟩ := h'.form
    rw [decide_eq_false (fun e => hn (by rw [e]))]
    exact same_len _ _ _ _ _ _ _ hn

/-- Is it a keyword? -/
def isKw (l : List UInt8) : Bool := kws.contains l

set_option maxHeartbeats 2000000 in
set_option maxRecDepth 100000 in
theorem Word_any (s : ByteArray) (w : World) :
    Calls Tryd.prog 13 #[.string s] w fun e w' => e = .returned (.bool (isKw (bs s))) ∧ Below w.heap.size w w' := by
  go_enter Tryd.func13, Tryd.ntmps13
  go_wp2_with fail
  generalize hW : w.alloc _ = W
  have hrow : W.heap[w.heap.size]? = some (.cells kwCells 9 (0, 0)) := by rw [← hW]; exact heap_alloc_new w (.cells kwCells 9)
  have HB : Hid (Below w.heap.size w W) := by show Below _ _ _; rw [← hW]; exact (Below.refl _ w).alloc (Nat.le_refl _) _
  have hcell : ∀ k, k < 15 → W.cell? ⟨w.heap.size, k, none⟩ = some (.string ⟨(kws.getD k []).toArray⟩) := fun k hk => by
    rw [cell_of_row W w.heap.size k _ _ _ hrow, getD_of kws k hk]
    exact strs_get kws k hk
  clear hW hrow
  have HC := Lib.hid hcell
  clear hcell
  go_loop [4] (fun i => ∃ k : Nat, k ≤ 15 ∧ i = .int .i64 (k : Int) ∧ Hid (∀ x ∈ kws.take k, x ≠ bs s)) (fun i => 15 - (intOf i).toNat)
  case atStart => exact ⟨0, by omega, rfl, by intro x hx; simp at hx⟩
  case round =>
    obtain ⟨k, h1, rfl, HR⟩ := hrel
    by_cases hk : k < 15
    · have hc := HC.out k hk
      have ht := take_getD kws k hk
      have hmem := mem_getD kws k hk
      generalize kws.getD k [] = x at *
      have he : ((⟨x.toArray⟩ : ByteArray).toList == s.toList) = (x == bs s) := by rw [Lib.toList_data, Lib.toList_data]
      have he' : (x == s.toList) = (x == bs s) := by rw [Lib.toList_data]
      rcases hm : (x == bs s) with _ | _
      · rw [hm] at he he'
        have HN : Hid (∀ y ∈ kws.take (k + 1), y ≠ bs s) := by
          intro y hy
          rw [ht, List.mem_append] at hy
          rcases hy with hy | hy
          · exact HR y hy
          · obtain rfl : y = x := by simpa using hy
            rintro rfl
            simp at hm
        clear ht hmem hm HR
        go_wp2
        go_round
        case rel => exact ⟨k + 1, by omega, by go_num, HN⟩
        case measure => simp [intOf]; omega
      · rw [hm] at he he'
        have HN : Hid (isKw (bs s) = true) := by
          show kws.contains (bs s) = true
          rw [← eq_of_beq hm]
          simpa using hmem
        clear ht hmem hm HR
        go_wp2
        go_ret
        exact ⟨by rw [HN.out]; rfl, HB.out⟩
    · obtain rfl : k = 15 := by omega
      have HN : Hid (isKw (bs s) = false) := by
        show kws.contains (bs s) = false
        rw [List.contains_eq_any_beq, List.any_eq_false]
        intro x hx hxx
        have hxx := eq_of_beq hxx
        exact HR x (by rw [List.take_of_length_le (by decide)]; exact hx) hxx.symm
      clear HR
      go_wp2
      go_ret
      exact ⟨by rw [HN.out]; rfl, HB.out⟩

theorem get_mem (s : ByteArray) (k : Nat) (h : k < s.size) : s[k] ∈ bs s := by
  have h2 : k < (bs s).length := by rw [bs_length]; exact h
  show (bs s)[k] ∈ bs s
  exact List.getElem_mem h2

/-- What Number returns. -/
def nmVal : Option Nat → Value
  | some n => .tuple #[.int .i64 (n : Int), .bool true]
  | none => .tuple #[.int .i64 0, .bool false]

set_option maxHeartbeats 4000000 in
set_option maxRecDepth 100000 in
theorem Number_any (s : ByteArray) (w : World) (hs : s.size ≤ 2000) (hdg : ∀ c ∈ bs s, isDg c = true) :
    Calls Tryd.prog 14 #[.string s] w fun e w' => e = .returned (nmVal (pu 0 (bs s))) ∧ w = w' := by
  have HD := Lib.hid hdg
  clear hdg
  go_enter Tryd.func14, Tryd.ntmps14
  go_wp2
  go_loop [4, 5] (fun vn vi => ∃ (k acc : Nat) (a : Int), vn = .int .i64 a ∧ vi = .int .i64 (k : Int) ∧ k ≤ s.size ∧ Hid (a = (acc : Int) ∧ acc ≤ 4611686018427387903 ∧ pu 0 (bs s) = pu acc ((bs s).drop k)))
    (fun _ vi => s.size - (intOf vi).toNat)
  case atStart => exact ⟨0, 0, 0, rfl, rfl, by omega, rfl, by omega, rfl⟩
  case round =>
    obtain ⟨k, acc, a, rfl, rfl, hk, hh⟩ := hrel
    obtain ⟨ha, hacc, hdec⟩ := hh.out
    clear hh
    have a0 : 0 ≤ a := by omega
    have a1 : a ≤ 4611686018427387903 := by omega
    by_cases hkn : k < s.size
    · have hd := drop_cons s k hkn
      have hdig : isDg s[k] = true := HD.out _ (get_mem s k hkn)
      unfold isDg at hdig
      simp only [Bool.and_eq_true, decide_eq_true_eq] at hdig
      obtain ⟨hd0, hd1⟩ := hdig
      have i0 : (48 : Int) ≤ (s[k].toNat : Int) := by omega
      have i1 : (s[k].toNat : Int) ≤ 57 := by omega
      rw [hd] at hdec
      by_cases hov : 4611686018427387903 < acc * 10 + (s[k].toNat - 48)
      · have hF : pu acc (s[k] :: (bs s).drop (k + 1)) = none := by
          by_cases hcut : 1844674407370955162 ≤ acc
          · rw [pu, if_pos hcut]
          · rw [pu, if_neg hcut, if_pos hov]
        have HF : Hid (pu 0 (bs s) = none) := by show _ = _; rw [hdec, hF]
        have iov : (4611686018427387903 - ((s[k].toNat : Int) - 48)) / 10 < a := by omega
        clear hd hF hov ha hdec hd0 hd1 hacc
        go_wp2
        go_ret2
        exact ⟨by rw [HF.out]; rfl, rfl⟩
      · have hcut : ¬ 1844674407370955162 ≤ acc := by omega
        have hF : pu acc (s[k] :: (bs s).drop (k + 1)) = pu (acc * 10 + (s[k].toNat - 48)) ((bs s).drop (k + 1)) := by
          rw [pu, if_neg hcut, if_neg hov]
        have HN : Hid (a * 10 + ((s[k].toNat : Int) - 48) = ((acc * 10 + (s[k].toNat - 48) : Nat) : Int) ∧ acc * 10 + (s[k].toNat - 48) ≤ 4611686018427387903 ∧ pu 0 (bs s) = pu (acc * 10 + (s[k].toNat - 48)) ((bs s).drop (k + 1))) := Lib.hid ⟨by omega, by omega, hdec.trans hF⟩
        have iov : a ≤ (4611686018427387903 - ((s[k].toNat : Int) - 48)) / 10 := by omega
        have iov2 : a * 10 + ((s[k].toNat : Int) - 48) ≤ 4611686018427387903 := by omega
        clear hd hF hov hcut ha hdec hd0 hd1 hacc
        go_wp2
        go_round
        case rel => exact ⟨k + 1, acc * 10 + (s[k].toNat - 48), a * 10 + ((s[k].toNat : Int) - 48), by first | rfl | (congr 1; omega), by first | rfl | go_num, by omega, HN⟩
        case measure => simp [intOf]; omega
    · have hkk : k = s.size := by omega
      have hF : pu acc ((bs s).drop k) = some acc := by rw [List.drop_eq_nil_of_le (by rw [bs_length]; omega)]; rfl
      have HF : Hid (pu 0 (bs s) = some acc) := by show _ = _; rw [hdec, hF]
      subst ha
      clear hacc hF a0 a1 hdec hkk
      go_wp2
      go_ret2
      exact ⟨by rw [HF.out]; rfl, rfl⟩
end Go.Proofs.YtdpbjcdbdikenaaDoor
