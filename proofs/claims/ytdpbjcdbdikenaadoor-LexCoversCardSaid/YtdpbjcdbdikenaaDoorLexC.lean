/- The predicates on bytes; HasPrefix; escaped. -/
import Derived.Test.YtdpbjcdbdikenaaDoorLexB
namespace Go.Proofs.YtdpbjcdbdikenaaDoor
open Go.RowKit LexM

theorem b256 (b : UInt8) : (0 : Int) ≤ (b.toNat : Int) ∧ (b.toNat : Int) ≤ 255 := by
  have := b.toNat_lt; omega

theorem u8eq (b : UInt8) (n : Nat) (h : n < 256) : ((b.toNat : Int) == (n : Int)) = (b == UInt8.ofNat n) := by
  rw [Bool.eq_iff_iff]
  simp only [beq_iff_eq]
  constructor
  · intro h1
    apply UInt8.toNat_inj.1
    rw [UInt8.toNat_ofNat_of_lt' (by simpa using h)]
    omega
  · intro h1
    rw [h1, UInt8.toNat_ofNat_of_lt' (by simpa using h)]

theorem retb {a b : Bool} (h : a = b) : Ending.returned (.bool a) = .returned (.bool b) := by rw [h]

set_option maxHeartbeats 400000 in
theorem isLower_any (b : UInt8) (w : World) : Calls Tryd.prog 20 #[.int .u8 (b.toNat : Int)] w fun e w' => e = .returned (.bool (isLo b)) ∧ w = w' := by
  have hb := b256 b
  go_enter Tryd.func20, Tryd.ntmps20
  go_wp2
  all_goals
    go_ret
    refine ⟨retb ?_, rfl⟩
    unfold isLo
    rw [Bool.eq_iff_iff]
    simp
    try omega

set_option maxHeartbeats 400000 in
theorem isUpper_any (b : UInt8) (w : World) : Calls Tryd.prog 21 #[.int .u8 (b.toNat : Int)] w fun e w' => e = .returned (.bool (isUp b)) ∧ w = w' := by
  have hb := b256 b
  go_enter Tryd.func21, Tryd.ntmps21
  go_wp2
  all_goals
    go_ret
    refine ⟨retb ?_, rfl⟩
    unfold isUp
    rw [Bool.eq_iff_iff]
    simp
    try omega

set_option maxHeartbeats 400000 in
theorem isDigit_any (b : UInt8) (w : World) : Calls Tryd.prog 23 #[.int .u8 (b.toNat : Int)] w fun e w' => e = .returned (.bool (isDg b)) ∧ w = w' := by
  have hb := b256 b
  go_enter Tryd.func23, Tryd.ntmps23
  go_wp2
  all_goals
    go_ret
    refine ⟨retb ?_, rfl⟩
    unfold isDg
    rw [Bool.eq_iff_iff]
    simp
    try omega

theorem eqN (b : UInt8) (n : Nat) (h : n < 256) : b = UInt8.ofNat n ↔ (b.toNat : Int) = (n : Int) := by
  have := u8eq b n h
  rw [Bool.eq_iff_iff] at this
  simp only [beq_iff_eq] at this
  exact this.symm

theorem isSp_int (b : UInt8) : isSp b = decide ((b.toNat : Int) = 32 ∨ (b.toNat : Int) = 9 ∨ (b.toNat : Int) = 10 ∨ (b.toNat : Int) = 13) := by
  have h1 := eqN b 32 (by decide)
  have h2 := eqN b 9 (by decide)
  have h3 := eqN b 10 (by decide)
  have h4 := eqN b 13 (by decide)
  unfold isSp
  rw [Bool.eq_iff_iff]
  simp only [Bool.or_eq_true, beq_iff_eq, decide_eq_true_eq]
  rw [show (32 : UInt8) = UInt8.ofNat 32 from rfl, show (9 : UInt8) = UInt8.ofNat 9 from rfl, show (10 : UInt8) = UInt8.ofNat 10 from rfl, show (13 : UInt8) = UInt8.ofNat 13 from rfl, h1, h2, h3, h4, or_assoc, or_assoc]
  rfl

set_option maxHeartbeats 400000 in
theorem isSpace_any (b : UInt8) (w : World) : Calls Tryd.prog 17 #[.int .u8 (b.toNat : Int)] w fun e w' => e = .returned (.bool (isSp b)) ∧ w = w' := by
  go_enter Tryd.func17, Tryd.ntmps17
  go_wp2
  all_goals
    go_ret
    refine ⟨retb ?_, rfl⟩
    rw [isSp_int, Bool.eq_iff_iff]
    simp
    try omega

theorem inNm_int (b : UInt8) : inNm b = (isLo b || isUp b || isDg b || decide ((b.toNat : Int) = 95) || decide ((b.toNat : Int) = 39)) := by
  have h1 := eqN b 95 (by decide)
  have h2 := eqN b 39 (by decide)
  unfold inNm
  rw [Bool.eq_iff_iff]
  simp only [Bool.or_eq_true, beq_iff_eq, decide_eq_true_eq]
  rw [show (95 : UInt8) = UInt8.ofNat 95 from rfl, show (39 : UInt8) = UInt8.ofNat 39 from rfl, h1, h2]
  rfl

set_option maxHeartbeats 1000000 in
theorem isInName_any (b : UInt8) (w : World) : Calls Tryd.prog 28 #[.int .u8 (b.toNat : Int)] w fun e w' => e = .returned (.bool (inNm b)) ∧ w = w' := by
  have H := Lib.hid (inNm_int b)
  rcases h1 : isLo b with _ | _
  all_goals rcases h2 : isUp b with _ | _
  all_goals rcases h3 : isDg b with _ | _
  all_goals
    have L := Lib.hid (h1 ▸ isLower_any b)
    have U := Lib.hid (h2 ▸ isUpper_any b)
    have D := Lib.hid (h3 ▸ isDigit_any b)
    rw [h1, h2, h3] at H
    clear h1 h2 h3
    go_enter Tryd.func28, Tryd.ntmps28
    go_wp2_with (first | (go_at_call 20; refine (L.out _).mono ?_; rintro e w' ⟨rfl, rfl⟩) | (go_at_call 21; refine (U.out _).mono ?_; rintro e w' ⟨rfl, rfl⟩) | (go_at_call 23; refine (D.out _).mono ?_; rintro e w' ⟨rfl, rfl⟩))
    all_goals
      go_ret
      refine ⟨retb ?_, rfl⟩
      rw [H.out, Bool.eq_iff_iff]
      simp
      try omega

/-- strings.HasPrefix. -/
theorem liteHasPrefix_any (s p : ByteArray) (w : World) : Calls Tryd.prog 27 #[.string s, .string p] w fun e w' => e = .returned (.bool (Lib.hasPrefix s.data.toList p.data.toList)) ∧ w = w' := by
  rw [← Lib.hasPrefix_of_take, ← Lib.size_eq, ← Lib.size_eq]
  go_enter Tryd.func27, Tryd.ntmps27
  go_wp2
  · rename_i h
    go_ret
    refine ⟨?_, rfl⟩
    show Ending.returned (Value.bool ((s.extract 0 p.size).toList == p.toList)) = _
    rw [Lib.extract_toList, Lib.toList_data]
    simp [h]
  · rename_i h
    go_ret
    refine ⟨?_, rfl⟩
    show Ending.returned (Value.bool false) = _
    simp [h]

theorem hasPrefix_any (s p : ByteArray) (w : World) : Calls Tryd.prog 18 #[.string s, .string p] w fun e w' => e = .returned (.bool (Lib.hasPrefix s.data.toList p.data.toList)) ∧ w = w' := by
  go_enter Tryd.func18, Tryd.ntmps18
  go_wp2_with (go_at_call 27; refine (liteHasPrefix_any _ _ _).mono ?_; rintro e w' ⟨rfl, rfl⟩)
  go_ret
  exact ⟨rfl, rfl⟩

theorem esc_int (b : UInt8) : esc b = if (b.toNat : Int) = 110 then 10 else if (b.toNat : Int) = 116 then 9 else if (b.toNat : Int) = 34 then 34 else if (b.toNat : Int) = 92 then 92 else 0 := by
  have h1 := eqN b 110 (by decide)
  have h2 := eqN b 116 (by decide)
  have h3 := eqN b 34 (by decide)
  have h4 := eqN b 92 (by decide)
  unfold esc
  rw [show (110 : UInt8) = UInt8.ofNat 110 from rfl, show (116 : UInt8) = UInt8.ofNat 116 from rfl]
  simp only [h1, h2, show b = 34 ↔ _ from h3, show b = 92 ↔ _ from h4]
  rfl

set_option maxHeartbeats 400000 in
theorem escaped_any (b : UInt8) (w : World) : Calls Tryd.prog 31 #[.int .u8 (b.toNat : Int)] w fun e w' => e = .returned (B (esc b)) ∧ w = w' := by
  have H := Lib.hid (esc_int b)
  by_cases h1 : (b.toNat : Int) = 110
  all_goals by_cases h2 : (b.toNat : Int) = 116
  all_goals by_cases h3 : (b.toNat : Int) = 34
  all_goals by_cases h4 : (b.toNat : Int) = 92
  all_goals first | omega | skip
  all_goals
    go_enter Tryd.func31, Tryd.ntmps31
    go_wp2
    go_ret
    refine ⟨?_, rfl⟩
    rw [H.out]
    simp [h1, h2, h3, h4, B]
end Go.Proofs.YtdpbjcdbdikenaaDoor
