/- The printer's texts in quotes. -/
import Derived.Test.YtiimofdbconlhaaDoorPriQa
import Derived.Test.YtiimofdbconlhaaDoorPriEe
import Derived.Deep.QuietTactic
import Derived.BigQuiet
namespace Go.Proofs.YtiimofdbconlhaaDoor
open Go.RowKit PriM

theorem own_byte (w : World) (b : UInt8) : Own (w.alloc (.cells #[.int .u8 (b.toNat : Int)] 5)) w.heap.size (.slice (some ⟨w.heap.size, 0, none⟩) 1 1) [b] :=
  ⟨rfl, .inr ⟨w.heap.size, 1, _, rfl, Nat.le_refl _, heap_alloc_new w _, Nat.le_refl _, by unfold maxLen; omega, rfl, rfl⟩⟩
/-- The bytes so far. -/
structure QRel (w wr : World) (v : Value) (o : List UInt8) : Prop where
  own : Own wr w.heap.size v o
  bel : Below w.heap.size w wr
theorem qrel_step {w wr w2 : World} {v v2 : Value} {o e o2 : List UInt8} {x : Obj} {xs : List Value} {n : Nat} (h : QRel w wr v o) (ho : o2 = o ++ e) (hx : xs = Bs e) (hown : w2.ownsRow w.heap.size 5 1 v2 n (Bs o ++ xs)) (hg : (wr.alloc x).grownBy w2 v.ownBlock) (hn : n = o.length + e.length := by rfl) : QRel w w2 v2 o2 := by
  have hs := h.bel.size
  refine ⟨?_, (h.bel.alloc hs _).grown hg (by simp; omega) (fun k hk => (h.own.lt k hk).1)⟩
  unfold Own
  rw [ho, Bs_append, List.length_append, ← hx, ← hn]
  exact hown


set_option maxRecDepth 100000 in
set_option maxHeartbeats 8000000 in
theorem quote_any (s : ByteArray) (w : World) (hs : s.size ≤ 100000000000) : Calls Tryd.prog 14 #[.string s] w (TextPost w (qt s.data.toList)) := by
  obtain ⟨i0, hi0, hz0, hz1, hz2⟩ := info_parts u8info
  have ST := Lib.hid (show QRel w (w.alloc (.cells #[.int .u8 34] 5)) (.slice (some ⟨w.heap.size, 0, none⟩) 1 1) (34 :: fl (s.data.toList.take 0)) from ⟨own_byte w 34, (Below.refl _ _).alloc (Nat.le_refl _) _⟩)
  have HT := Lib.hid (fun k (h : k < s.size) => fl_take s.data.toList k (by simpa using h))
  have HLe := Lib.hid (fun k => fl_take_le s.data.toList k)
  have HEnd := Lib.hid (show s.data.toList.take s.size = s.data.toList from List.take_of_length_le (by simp))
  go_enter Tryd.func14, Tryd.ntmps14
  go_wp2_with fail
  go_loopw [3, 8] (fun x i wr => ∃ (k : Nat) (v : Value) (O : List UInt8), k ≤ s.size ∧ i = .int .i64 (k : Int) ∧ v = x ∧ Hid (O = 34 :: fl (s.data.toList.take k)) ∧ QRel w wr v O) (fun _ i _ => s.size - (intOf i).toNat)
  case atStart => exact ⟨0, _, _, Nat.zero_le _, rfl, rfl, Lib.hid rfl, ST.out⟩
  case round =>
    obtain ⟨k, v, O, hk, rfl, rfl, HO, hr⟩ := hrel
    have hle := HLe.out k
    have hO : O.length ≤ 2 * k + 1 := by rw [HO.out, List.length_cons]; omega
    clear hle
    have hown := hr.own
    have hbs := hr.bel.size
    have HR := Lib.hid hr
    clear hr
    by_cases hk2 : k < s.size
    · have hM := HT.out k hk2
      have e0 : s.data.toList[k]'(by simpa using hk2) = s[k] := rfl
      rw [e0] at hM
      have m0 : (0 : Int) ≤ (s[k].toNat : Int) ∧ (s[k].toNat : Int) ≤ 255 := by have := s[k].toNat_lt; omega
      have HMk := Lib.hid hM
      clear hM e0
      by_cases h92 : (s[k].toNat : Int) = 92
      · have t1 : ((s[k].toNat : Int) == 92) = true := by rw [beq_iff_eq]; exact h92
        have HN : Hid (34 :: fl (s.data.toList.take (k + 1)) = O ++ [92, 92]) := Lib.hid (by rw [HMk.out, es_92 h92, HO.out]; rfl)
        have HM : Hid (34 :: fl (s.data.toList.take (k + 1)) = 34 :: fl (s.data.toList.take (k + 1))) := Lib.hid rfl
        go_wp2_with (
          at_builtin
          go_loud (refine wpList_append_own_at _ rfl (.tmp 23) (.tmp 27) 63 (by rfl) w.heap.size 5 i0 (.int .u8 0) 1 1 Tryd.underlying63 hi0 hz0 hz1 hz2 rfl (by omega) v O.length (Bs O) (by rfl) (hown.alloc _) ⟨wr.heap.size, 0, none⟩ 2 2 [.int .u8 92, .int .u8 92] (by rfl) (by rfl) (cells_two_new wr _ _ _) (by simp [Value.oneCell']) (by unfold maxLen; omega) (by omega) (by simp; omega) ?_)
          intro v2 w2 hown2 hgrow _ _
          have fin := Lib.hid (qrel_step HR.out HN.out rfl hown2 hgrow)
          clear hown2 hgrow hown HR)
        go_roundw
        case rel => exact ⟨k + 1, v2, _, hk2, by go_num, rfl, HM.out, fin.out⟩
        case measure => simp [intOf]; omega
      · have t1 : ((s[k].toNat : Int) == 92) = false := by rw [beq_eq_false_iff_ne]; exact h92
        by_cases h34 : (s[k].toNat : Int) = 34
        · have t2 : ((s[k].toNat : Int) == 34) = true := by rw [beq_iff_eq]; exact h34
          have HN : Hid (34 :: fl (s.data.toList.take (k + 1)) = O ++ [92, 34]) := Lib.hid (by rw [HMk.out, es_34 h34, HO.out]; rfl)
          have HM : Hid (34 :: fl (s.data.toList.take (k + 1)) = 34 :: fl (s.data.toList.take (k + 1))) := Lib.hid rfl
          go_wp2_with (
            at_builtin
            go_loud (refine wpList_append_own_at _ rfl (.tmp 23) (.tmp 27) 63 (by rfl) w.heap.size 5 i0 (.int .u8 0) 1 1 Tryd.underlying63 hi0 hz0 hz1 hz2 rfl (by omega) v O.length (Bs O) (by rfl) (hown.alloc _) ⟨wr.heap.size, 0, none⟩ 2 2 [.int .u8 92, .int .u8 34] (by rfl) (by rfl) (cells_two_new wr _ _ _) (by simp [Value.oneCell']) (by unfold maxLen; omega) (by omega) (by simp; omega) ?_)
            intro v2 w2 hown2 hgrow _ _
            have fin := Lib.hid (qrel_step HR.out HN.out rfl hown2 hgrow)
            clear hown2 hgrow hown HR)
          go_roundw
          case rel => exact ⟨k + 1, v2, _, hk2, by go_num, rfl, HM.out, fin.out⟩
          case measure => simp [intOf]; omega
        · have t2 : ((s[k].toNat : Int) == 34) = false := by rw [beq_eq_false_iff_ne]; exact h34
          by_cases h10 : (s[k].toNat : Int) = 10
          · have t3 : ((s[k].toNat : Int) == 10) = true := by rw [beq_iff_eq]; exact h10
            have HN : Hid (34 :: fl (s.data.toList.take (k + 1)) = O ++ [92, 110]) := Lib.hid (by rw [HMk.out, es_10 h10, HO.out]; rfl)
            have HM : Hid (34 :: fl (s.data.toList.take (k + 1)) = 34 :: fl (s.data.toList.take (k + 1))) := Lib.hid rfl
            go_wp2_with (
              at_builtin
              go_loud (refine wpList_append_own_at _ rfl (.tmp 31) (.tmp 32) 63 (by rfl) w.heap.size 5 i0 (.int .u8 0) 1 1 Tryd.underlying63 hi0 hz0 hz1 hz2 rfl (by omega) v O.length (Bs O) (by rfl) (hown.alloc _) ⟨wr.heap.size, 0, none⟩ 2 2 [.int .u8 92, .int .u8 110] (by rfl) (by rfl) (cells_two_new wr _ _ _) (by simp [Value.oneCell']) (by unfold maxLen; omega) (by omega) (by simp; omega) ?_)
              intro v2 w2 hown2 hgrow _ _
              have fin := Lib.hid (qrel_step HR.out HN.out rfl hown2 hgrow)
              clear hown2 hgrow hown HR)
            go_roundw
            case rel => exact ⟨k + 1, v2, _, hk2, by go_num, rfl, HM.out, fin.out⟩
            case measure => simp [intOf]; omega
          · have t3 : ((s[k].toNat : Int) == 10) = false := by rw [beq_eq_false_iff_ne]; exact h10
            by_cases h9 : (s[k].toNat : Int) = 9
            · have t4 : ((s[k].toNat : Int) == 9) = true := by rw [beq_iff_eq]; exact h9
              have HN : Hid (34 :: fl (s.data.toList.take (k + 1)) = O ++ [92, 116]) := Lib.hid (by rw [HMk.out, es_9 h9, HO.out]; rfl)
              have HM : Hid (34 :: fl (s.data.toList.take (k + 1)) = 34 :: fl (s.data.toList.take (k + 1))) := Lib.hid rfl
              go_wp2_with (
                at_builtin
                go_loud (refine wpList_append_own_at _ rfl (.tmp 36) (.tmp 37) 63 (by rfl) w.heap.size 5 i0 (.int .u8 0) 1 1 Tryd.underlying63 hi0 hz0 hz1 hz2 rfl (by omega) v O.length (Bs O) (by rfl) (hown.alloc _) ⟨wr.heap.size, 0, none⟩ 2 2 [.int .u8 92, .int .u8 116] (by rfl) (by rfl) (cells_two_new wr _ _ _) (by simp [Value.oneCell']) (by unfold maxLen; omega) (by omega) (by simp; omega) ?_)
                intro v2 w2 hown2 hgrow _ _
                have fin := Lib.hid (qrel_step HR.out HN.out rfl hown2 hgrow)
                clear hown2 hgrow hown HR)
              go_roundw
              case rel => exact ⟨k + 1, v2, _, hk2, by go_num, rfl, HM.out, fin.out⟩
              case measure => simp [intOf]; omega
            · have t4 : ((s[k].toNat : Int) == 9) = false := by rw [beq_eq_false_iff_ne]; exact h9
              have HN : Hid (34 :: fl (s.data.toList.take (k + 1)) = O ++ [s[k]]) := Lib.hid (by rw [HMk.out, es_one h92 h34 h10 h9, HO.out]; rfl)
              have HM : Hid (34 :: fl (s.data.toList.take (k + 1)) = 34 :: fl (s.data.toList.take (k + 1))) := Lib.hid rfl
              go_wp2_with (
                at_builtin
                go_loud (refine wpList_append_own_at _ rfl (.tmp 14) (.tmp 18) 63 (by rfl) w.heap.size 5 i0 (.int .u8 0) 1 1 Tryd.underlying63 hi0 hz0 hz1 hz2 rfl (by omega) v O.length (Bs O) (by rfl) (hown.alloc _) ⟨wr.heap.size, 0, none⟩ 1 1 [.int .u8 (s[k].toNat : Int)] (by rfl) (by rfl) (cell_one_new wr _ _) (by simp [Value.oneCell']) (by unfold maxLen; omega) (by omega) (by simp; omega) ?_)
                intro v2 w2 hown2 hgrow _ _
                have fin := Lib.hid (qrel_step HR.out HN.out rfl hown2 hgrow)
                clear hown2 hgrow hown HR)
              go_roundw
              case rel => exact ⟨k + 1, v2, _, hk2, by go_num, rfl, HM.out, fin.out⟩
              case measure => simp [intOf]; omega
    · obtain rfl : k = s.size := by omega
      have HN : Hid (qt s.data.toList = O ++ [34]) := Lib.hid (by rw [HO.out, HEnd.out]; rfl)
      clear hk2
      go_wp2_with (
        at_builtin
        refine wpList_append_own_at _ rfl (.tmp 40) (.tmp 41) 63 (by rfl) w.heap.size 5 i0 (.int .u8 0) 1 1 Tryd.underlying63 hi0 hz0 hz1 hz2 rfl (by omega) v O.length (Bs O) (by rfl) (hown.alloc _) ⟨wr.heap.size, 0, none⟩ 1 1 [.int .u8 34] (by rfl) (by rfl) (cell_one_new wr _ _) (by simp [Value.oneCell']) (by unfold maxLen; omega) (by omega) (by simp; omega) ?_
        intro v2 w2 hown2 hgrow _ _
        have fin := Lib.hid (qrel_step HR.out HN.out rfl hown2 hgrow)
        have hcv := toStr' fin.out.own
        clear hown2 hgrow hown HR)
      go_ret
      exact ⟨rfl, fin.out.bel⟩
end Go.Proofs.YtiimofdbconlhaaDoor
