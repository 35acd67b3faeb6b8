/- The reference's texts in quotes. -/
import Derived.Test.YtiimofdbconlhaaDoorPriQa
import Derived.Test.YtiimofdbconlhaaDoorPriEe
import Derived.Deep.QuietTactic
import Derived.BigQuiet
namespace Go.Proofs.YtiimofdbconlhaaDoor
open Go.RowKit PriM

theorem str_add (a b : List UInt8) : (⟨a.toArray⟩ : ByteArray) ++ ⟨b.toArray⟩ = ⟨(a ++ b).toArray⟩ := bytes_cat a b
theorem one_byte (s : ByteArray) (k : Nat) (h : k < s.size) : s.extract k (k + 1) = ⟨#[s[k]]⟩ := by
  apply ByteArray.ext
  rw [ByteArray.data_extract]
  apply Array.ext
  · simp; omega
  · intro i h1 h2
    have : i = 0 := by simp at h2; omega
    subst this
    simp
    rfl


set_option maxRecDepth 100000 in
set_option maxHeartbeats 8000000 in
theorem rquote_any (s : ByteArray) (w : World) (hs : s.size ≤ 100000000000) : Calls Tryd.prog 15 #[.string s] w (TextPost w (qt s.data.toList)) := by
  have ST := Lib.hid (show Below w.heap.size w w from Below.refl _ _)
  have HT := Lib.hid (fun k (h : k < s.size) => fl_take s.data.toList k (by simpa using h))
  have HLe := Lib.hid (fun k => fl_take_le s.data.toList k)
  have HEnd := Lib.hid (show s.data.toList.take s.size = s.data.toList from List.take_of_length_le (by simp))
  have HOne := Lib.hid (fun k (h : k < s.size) => one_byte s k h)
  go_enter Tryd.func15, Tryd.ntmps15
  go_wp2_with fail
  go_loopw [3, 4] (fun x i wr => ∃ (k : Nat) (O : List UInt8), k ≤ s.size ∧ i = .int .i64 (k : Int) ∧ x = .string ⟨O.toArray⟩ ∧ Hid (O = 34 :: fl (s.data.toList.take k)) ∧ Below w.heap.size w wr) (fun _ i _ => s.size - (intOf i).toNat)
  case atStart => exact ⟨0, [34], Nat.zero_le _, rfl, rfl, Lib.hid rfl, ST.out⟩
  case round =>
    obtain ⟨k, O, hk, rfl, rfl, HO, hr⟩ := hrel
    have hle := HLe.out k
    have hO : O.length ≤ 2 * k + 1 := by rw [HO.out, List.length_cons]; omega
    clear hle
    have hz : (⟨O.toArray⟩ : ByteArray).size = O.length := size_mk O
    have HR := Lib.hid hr
    clear hr
    by_cases hk2 : k < s.size
    · have hM := HT.out k hk2
      have e0 : s.data.toList[k]'(by simpa using hk2) = s[k] := rfl
      rw [e0] at hM
      have m0 : (0 : Int) ≤ (s[k].toNat : Int) ∧ (s[k].toNat : Int) ≤ 255 := by have := s[k].toNat_lt; omega
      have HMk := Lib.hid hM
      clear hM e0
      by_cases h10 : (s[k].toNat : Int) = 10
      · have t1 : ((s[k].toNat : Int) == 10) = true := by rw [beq_iff_eq]; exact h10
        have HN : Hid (34 :: fl (s.data.toList.take (k + 1)) = O ++ [92, 110]) := Lib.hid (by rw [HMk.out, es_10 h10, HO.out]; rfl)
        have hc : (⟨O.toArray⟩ : ByteArray) ++ ⟨#[92, 110]⟩ = ⟨(O ++ [92, 110]).toArray⟩ := str_add O [92, 110]
        have ho : ¬ 9223372036854775807 < O.length + 2 := by omega
        go_wp2
        go_roundw
        case rel => exact ⟨k + 1, _, hk2, by go_num, rfl, Lib.hid (HN.out.symm), HR.out⟩
        case measure => simp [intOf]; omega
      · have t1 : ((s[k].toNat : Int) == 10) = false := by rw [beq_eq_false_iff_ne]; exact h10
        by_cases h9 : (s[k].toNat : Int) = 9
        · have t2 : ((s[k].toNat : Int) == 9) = true := by rw [beq_iff_eq]; exact h9
          have HN : Hid (34 :: fl (s.data.toList.take (k + 1)) = O ++ [92, 116]) := Lib.hid (by rw [HMk.out, es_9 h9, HO.out]; rfl)
          have hc : (⟨O.toArray⟩ : ByteArray) ++ ⟨#[92, 116]⟩ = ⟨(O ++ [92, 116]).toArray⟩ := str_add O [92, 116]
          have ho : ¬ 9223372036854775807 < O.length + 2 := by omega
          go_wp2
          go_roundw
          case rel => exact ⟨k + 1, _, hk2, by go_num, rfl, Lib.hid (HN.out.symm), HR.out⟩
          case measure => simp [intOf]; omega
        · have t2 : ((s[k].toNat : Int) == 9) = false := by rw [beq_eq_false_iff_ne]; exact h9
          by_cases h34 : (s[k].toNat : Int) = 34
          · have t3 : ((s[k].toNat : Int) == 34) = true := by rw [beq_iff_eq]; exact h34
            have HN : Hid (34 :: fl (s.data.toList.take (k + 1)) = O ++ [92, 34]) := Lib.hid (by rw [HMk.out, es_34 h34, HO.out]; rfl)
            have hc : (⟨O.toArray⟩ : ByteArray) ++ ⟨#[92, 34]⟩ = ⟨(O ++ [92, 34]).toArray⟩ := str_add O [92, 34]
            have ho : ¬ 9223372036854775807 < O.length + 2 := by omega
            go_wp2
            go_roundw
            case rel => exact ⟨k + 1, _, hk2, by go_num, rfl, Lib.hid (HN.out.symm), HR.out⟩
            case measure => simp [intOf]; omega
          · have t3 : ((s[k].toNat : Int) == 34) = false := by rw [beq_eq_false_iff_ne]; exact h34
            by_cases h92 : (s[k].toNat : Int) = 92
            · have t4 : ((s[k].toNat : Int) == 92) = true := by rw [beq_iff_eq]; exact h92
              have HN : Hid (34 :: fl (s.data.toList.take (k + 1)) = O ++ [92, 92]) := Lib.hid (by rw [HMk.out, es_92 h92, HO.out]; rfl)
              have hc : (⟨O.toArray⟩ : ByteArray) ++ ⟨#[92, 92]⟩ = ⟨(O ++ [92, 92]).toArray⟩ := str_add O [92, 92]
              have ho : ¬ 9223372036854775807 < O.length + 2 := by omega
              go_wp2
              go_roundw
              case rel => exact ⟨k + 1, _, hk2, by go_num, rfl, Lib.hid (HN.out.symm), HR.out⟩
              case measure => simp [intOf]; omega
            · have t4 : ((s[k].toNat : Int) == 92) = false := by rw [beq_eq_false_iff_ne]; exact h92
              have h1 := HOne.out k hk2
              have hz2 : (⟨#[s[k]]⟩ : ByteArray).size = 1 := rfl
              have HN : Hid (34 :: fl (s.data.toList.take (k + 1)) = O ++ [s[k]]) := Lib.hid (by rw [HMk.out, es_one h92 h34 h10 h9, HO.out]; rfl)
              have hc : (⟨O.toArray⟩ : ByteArray) ++ ⟨#[s[k]]⟩ = ⟨(O ++ [s[k]]).toArray⟩ := str_add O [s[k]]
              have ho : ¬ 9223372036854775807 < O.length + 1 := by omega
              go_wp2
              go_roundw
              case rel => exact ⟨k + 1, _, hk2, by go_num, rfl, Lib.hid (HN.out.symm), HR.out⟩
              case measure => simp [intOf]; omega
    · obtain rfl : k = s.size := by omega
      have HN : Hid (qt s.data.toList = O ++ [34]) := Lib.hid (by rw [HO.out, HEnd.out]; rfl)
      have hc : (⟨O.toArray⟩ : ByteArray) ++ ⟨#[34]⟩ = ⟨(O ++ [34]).toArray⟩ := str_add O [34]
      have ho : ¬ 9223372036854775807 < O.length + 1 := by omega
      clear hk2
      go_wp2
      go_ret
      rw [HN.out]
      exact ⟨rfl, HR.out⟩
end Go.Proofs.YtiimofdbconlhaaDoor
