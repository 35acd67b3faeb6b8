/- The reference's tokens of a text in quotes: the text itself. -/
import Derived.Test.YtiimofdbconlhaaDoorPriQc
namespace Go.Proofs.YtiimofdbconlhaaDoor
open Go.RowKit PriM

/-- What stands at a place. -/
theorem at_drop {Q : ByteArray} {p : Nat} {x : UInt8} {r : List UInt8} (h : Q.data.toList.drop p = x :: r) : ∃ hp : p < Q.size, Q[p] = x := by
  have hl := congrArg List.length h
  simp only [List.length_drop, List.length_cons, Array.length_toList] at hl
  have hp : p < Q.size := by show p < Q.data.size; omega
  refine ⟨hp, ?_⟩
  have h2 := List.drop_eq_getElem_cons (l := Q.data.toList) (i := p) (by simpa using hp)
  rw [h2] at h
  exact (List.cons.inj h).1
theorem drop_next {Q : ByteArray} {p : Nat} {x : UInt8} {r : List UInt8} (h : Q.data.toList.drop p = x :: r) : Q.data.toList.drop (p + 1) = r := by
  rw [← List.drop_drop, h]; rfl

/-- The place where the j-th byte stands. -/
def plc (l : List UInt8) (j : Nat) : Nat := 1 + (fl (l.take j)).length
theorem plc_drop {Q : ByteArray} {l : List UInt8} (h : Q.data.toList = qt l) (j : Nat) : Q.data.toList.drop (plc l j) = fl (l.drop j) ++ [34] := by
  rw [h]
  unfold qt plc
  rw [Nat.add_comm, List.drop_succ_cons, fl_split l j, List.append_assoc, List.drop_left]
theorem plc_next {l : List UInt8} {j : Nat} (h : j < l.length) : plc l (j + 1) = plc l j + (es l[j]).length := by
  unfold plc
  rw [fl_take l j h, List.length_append]
  omega

abbrev zTok : Obj := .cells #[.int .u8 0, .string ⟨#[]⟩, .int .i64 0] 71 (0, 0)
theorem lt_of_blk {w : World} {b : Nat} {o : Obj} (h : w.heap[b]? = some o) : b < w.heap.size := (Array.getElem?_eq_some_iff.1 h).1

set_option maxRecDepth 100000 in
set_option maxHeartbeats 8000000 in
theorem r3text_any (Q : ByteArray) (l : List UInt8) (w : World) (hQ : Q.data.toList = qt l) (hz : Q.size ≤ 2000) :
    Calls Tryd.prog 58 #[.string Q, .int .i64 0] w fun e w' => e = .returned (.tuple #[.agg #[.int .u8 5, .string ⟨l.toArray⟩, .int .i64 0], .int .i64 (Q.size : Int), .int .i64 0, .int .i64 0]) ∧ Below w.heap.size w w' := by
  have hsz : Q.size = (fl l).length + 2 := by rw [← qt_len, ← hQ]; simp
  have hll := (fl_len l).1
  have hl2 : l.length ≤ 2000 := by omega
  have HP := Lib.hid (fun j => plc_drop hQ j)
  have HNx := Lib.hid (fun j (h : j < l.length) => plc_next h)
  have HZ := Lib.hid (show plc l 0 = 1 from rfl)
  have HPL := Lib.hid (show plc l l.length + 1 = Q.size by unfold plc; rw [List.take_length]; omega)
  have HTk := Lib.hid (fun j (h : j < l.length) => List.take_succ_eq_append_getElem h)
  have HTl := Lib.hid (List.take_length (l := l))
  have HOne := Lib.hid (fun k (h : k < Q.size) => one_byte Q k h)
  clear hsz hQ
  go_enter Tryd.func58, Tryd.ntmps58
  go_wp2_with fail
  go_loop [8, 9] (fun t i => ∃ (j p : Nat) (O : List UInt8), j ≤ l.length ∧ i = .int .i64 (p : Int) ∧ Hid (p = plc l j) ∧ t = .string ⟨O.toArray⟩ ∧ Hid (O = l.take j) ∧ O.length ≤ 2000) (fun _ i => Q.size - (intOf i).toNat)
  case atStart => exact ⟨0, 1, [], Nat.zero_le _, rfl, Lib.hid rfl, rfl, Lib.hid rfl, Nat.zero_le _⟩
  case round =>
    obtain ⟨j, p, O, hj, rfl, HPj, rfl, HO, hO⟩ := hrel
    by_cases hlt : j < l.length
    · have hd := HP.out j
      rw [fl_drop l j hlt, List.append_assoc, ← HPj.out] at hd
      have hnx := HNx.out j hlt
      rw [← HPj.out] at hnx
      have htk := HTk.out j hlt
      rw [← HO.out] at htk
      have hOl : (O ++ [l[j]]).length ≤ 2000 := by
        have h1 := congrArg List.length htk
        rw [List.length_take] at h1
        omega
      have hj2 : j + 1 ≤ l.length := hlt
      have HO2 := Lib.hid htk.symm
      clear htk HO
      generalize l[j] = m at *
      have ho : ¬ 9223372036854775807 < O.length + 1 := by omega
      have hzO : (⟨O.toArray⟩ : ByteArray).size = O.length := size_mk O
      by_cases h92 : (m.toNat : Int) = 92
      · rw [es_92 h92] at hd hnx
        have em : m = 92 := (u8_iff m 92 (by decide)).1 h92
        subst em
        obtain ⟨hp, e1⟩ := at_drop hd
        obtain ⟨hp2, e2⟩ := at_drop (drop_next hd)
        have HX := Lib.hid hnx
        clear hd hnx h92
        have t1 : (Q[p].toNat : Int) = 92 := by rw [e1]; rfl
        have t2 : (Q[p + 1].toNat : Int) = 92 := by rw [e2]; rfl
        have hc : (⟨O.toArray⟩ : ByteArray) ++ ⟨#[92]⟩ = ⟨(O ++ [92]).toArray⟩ := str_add O [92]
        clear e1 e2
        go_wp2
        go_round
        case rel => exact ⟨j + 1, p + 2, _, hj2, by go_num, Lib.hid HX.out.symm, rfl, HO2, hOl⟩
        case measure => simp [intOf]; omega
      by_cases h34 : (m.toNat : Int) = 34
      · rw [es_34 h34] at hd hnx
        have em : m = 34 := (u8_iff m 34 (by decide)).1 h34
        subst em
        obtain ⟨hp, e1⟩ := at_drop hd
        obtain ⟨hp2, e2⟩ := at_drop (drop_next hd)
        have HX := Lib.hid hnx
        clear hd hnx h34 h92
        have t1 : (Q[p].toNat : Int) = 92 := by rw [e1]; rfl
        have t2 : (Q[p + 1].toNat : Int) = 34 := by rw [e2]; rfl
        have hc : (⟨O.toArray⟩ : ByteArray) ++ ⟨#[34]⟩ = ⟨(O ++ [34]).toArray⟩ := str_add O [34]
        clear e1 e2
        go_wp2
        go_round
        case rel => exact ⟨j + 1, p + 2, _, hj2, by go_num, Lib.hid HX.out.symm, rfl, HO2, hOl⟩
        case measure => simp [intOf]; omega
      by_cases h10 : (m.toNat : Int) = 10
      · rw [es_10 h10] at hd hnx
        have em : m = 10 := (u8_iff m 10 (by decide)).1 h10
        subst em
        obtain ⟨hp, e1⟩ := at_drop hd
        obtain ⟨hp2, e2⟩ := at_drop (drop_next hd)
        have HX := Lib.hid hnx
        clear hd hnx h10 h34 h92
        have t1 : (Q[p].toNat : Int) = 92 := by rw [e1]; rfl
        have t2 : (Q[p + 1].toNat : Int) = 110 := by rw [e2]; rfl
        have hc : (⟨O.toArray⟩ : ByteArray) ++ ⟨#[10]⟩ = ⟨(O ++ [10]).toArray⟩ := str_add O [10]
        clear e1 e2
        go_wp2
        go_round
        case rel => exact ⟨j + 1, p + 2, _, hj2, by go_num, Lib.hid HX.out.symm, rfl, HO2, hOl⟩
        case measure => simp [intOf]; omega
      by_cases h9 : (m.toNat : Int) = 9
      · rw [es_9 h9] at hd hnx
        have em : m = 9 := (u8_iff m 9 (by decide)).1 h9
        subst em
        obtain ⟨hp, e1⟩ := at_drop hd
        obtain ⟨hp2, e2⟩ := at_drop (drop_next hd)
        have HX := Lib.hid hnx
        clear hd hnx h9 h10 h34 h92
        have t1 : (Q[p].toNat : Int) = 92 := by rw [e1]; rfl
        have t2 : (Q[p + 1].toNat : Int) = 116 := by rw [e2]; rfl
        have hc : (⟨O.toArray⟩ : ByteArray) ++ ⟨#[9]⟩ = ⟨(O ++ [9]).toArray⟩ := str_add O [9]
        clear e1 e2
        go_wp2
        go_round
        case rel => exact ⟨j + 1, p + 2, _, hj2, by go_num, Lib.hid HX.out.symm, rfl, HO2, hOl⟩
        case measure => simp [intOf]; omega
      · rw [es_one h92 h34 h10 h9] at hd hnx
        obtain ⟨hp, e1⟩ := at_drop hd
        have HX := Lib.hid hnx
        have h1 := HOne.out p hp
        rw [e1] at h1
        have t1 : ((Q[p].toNat : Int) == 34) = false := by rw [e1, beq_eq_false_iff_ne]; exact h34
        have t2 : ((Q[p].toNat : Int) != 92) = true := by rw [e1, bne_iff_ne]; exact h92
        have t3 : ((Q[p].toNat : Int) == 92) = false := by rw [e1, beq_eq_false_iff_ne]; exact h92
        have hz2 : (⟨#[m]⟩ : ByteArray).size = 1 := rfl
        have hc : (⟨O.toArray⟩ : ByteArray) ++ ⟨#[m]⟩ = ⟨(O ++ [m]).toArray⟩ := str_add O [m]
        clear e1 hd hnx h92 h34 h10 h9
        go_wp2
        go_round
        case rel => exact ⟨j + 1, p + 1, _, hj2, by go_num, Lib.hid HX.out.symm, rfl, HO2, hOl⟩
        case measure => simp [intOf]; omega
    · obtain rfl : j = l.length := by omega
      have hd := HP.out l.length
      rw [List.drop_length, ← HPj.out] at hd
      obtain ⟨hp, e1⟩ := at_drop hd
      have t1 : (Q[p].toNat : Int) = 34 := by rw [e1]; rfl
      have hpl := HPL.out
      rw [← HPj.out] at hpl
      have hOl := HO.out
      rw [HTl.out] at hOl
      subst hOl
      have e2 : (p : Int) + 1 = (Q.size : Int) := by omega
      have E2 := Lib.hid e2
      clear hd e1 hlt hpl e2 HO HPj
      go_wp2_with fail
      refine bodyPost_ret (v := .tuple #[.agg #[.int .u8 5, .string ⟨O.toArray⟩, .int .i64 0], .int .i64 ((p : Int) + 1), .int .i64 0, .int .i64 0]) (by simp [results, Tryd.results58, go_sem]) rfl ⟨?_, (Below.refl _ _).alloc (Nat.le_refl _) _⟩
      rw [E2.out]
end Go.Proofs.YtiimofdbconlhaaDoor
