/- Comments, and what stands between tokens. -/
import Derived.Test.YtdpbjcdbdikenaaDoorLexC
namespace Go.Proofs.YtdpbjcdbdikenaaDoor
open Go.RowKit LexM

/-- The text's bytes. -/
abbrev bs (s : ByteArray) : List UInt8 := s.data.toList

theorem bs_length (s : ByteArray) : (bs s).length = s.size := (Lib.size_eq s).symm

theorem drop_cons (s : ByteArray) (k : Nat) (h : k < s.size) : (bs s).drop k = s[k] :: (bs s).drop (k + 1) := by
  rw [List.drop_eq_getElem_cons (by rw [bs_length]; exact h)]
  rfl

theorem extract_drop (s : ByteArray) (k : Nat) : (s.extract k s.size).data.toList = (bs s).drop k := by
  rw [Lib.extract_data, List.take_of_length_le (by rw [List.length_drop, bs_length]; omega)]

theorem hp_at (s : ByteArray) (k : Nat) (q : ByteArray) (v : Bool) (h : Lib.hasPrefix ((bs s).drop k) q.data.toList = v) (w : World) :
    Calls Tryd.prog 18 #[.string (s.extract k s.size), .string q] w fun e w' => e = .returned (.bool v) ∧ w = w' := by
  have := hasPrefix_any (s.extract k s.size) q w
  rw [extract_drop, h] at this
  exact this

def cmVal (p : Nat) : Option Nat → Value
  | some k => .tuple #[.int .i64 ((p + k : Nat) : Int), .int .i64 0]
  | none => .tuple #[.int .i64 (p : Int), .int .i64 4]

theorem cm_step (s : ByteArray) (p k n m d : Nat) (hd : 1 ≤ d) (hpk : p ≤ k)
    (h : cmt 0 ((bs s).drop p) = (cmt n ((bs s).drop k)).map (· + (k - p))) (h' : cmt n ((bs s).drop k) = (cmt m (((bs s).drop k).drop d)).map (· + d)) :
    cmt 0 ((bs s).drop p) = (cmt m ((bs s).drop (k + d))).map (· + (k + d - p)) := by
  rw [h, h', List.drop_drop, Option.map_map]
  congr 1
  funext x
  simp only [Function.comp]
  omega

theorem cmVal_some (p k : Nat) (x : Int) (h : ((p + k : Nat) : Int) = x) : cmVal p (some k) = .tuple #[.int .i64 x, .int .i64 0] := by
  subst h; rfl

set_option maxHeartbeats 1000000 in
theorem comment_any (s : ByteArray) (p : Nat) (w : World) (hs : s.size ≤ 2000) (hp : p ≤ s.size) (ho : opens ((bs s).drop p) = true) :
    Calls Tryd.prog 19 #[.string s, .int .i64 (p : Int)] w fun e w' => e = .returned (cmVal p (cmt 0 ((bs s).drop p))) ∧ w = w' := by
  have HO := Lib.hid ho
  clear ho
  go_enter Tryd.func19, Tryd.ntmps19
  go_wp2
  go_loop [6, 7] (fun o i => ∃ (n k : Nat), p ≤ k ∧ k ≤ s.size ∧ n ≤ k ∧ (0 < n ∨ k = p ∧ n = 0) ∧ o = .int .i64 (n : Int) ∧ i = .int .i64 (k : Int) ∧ Hid (cmt 0 ((bs s).drop p) = (cmt n ((bs s).drop k)).map (· + (k - p)))) (fun _ i => s.size - (intOf i).toNat)
  case atStart =>
    refine ⟨0, p, by omega, by omega, by omega, .inr ⟨rfl, rfl⟩, rfl, rfl, ?_⟩
    show cmt 0 _ = _
    rw [Nat.sub_self]
    cases cmt 0 ((bs s).drop p) <;> rfl
  case round =>
    obtain ⟨n, k, h1, h2, h3, h4, rfl, rfl, HR⟩ := hrel
    by_cases hk : k < s.size
    · rcases hopen : opens ((bs s).drop k) with _ | _
      · have hn : 0 < n := by
          rcases h4 with h | ⟨rfl, _⟩
          · exact h
          · rw [HO.out] at hopen; cases hopen
        clear h4
        rcases hcl : closes ((bs s).drop k) with _ | _
        · have H1 := Lib.hid (hp_at s k ⟨#[40, 42]⟩ false hopen)
          have H2 := Lib.hid (hp_at s k ⟨#[42, 41]⟩ false hcl)
          have HN := Lib.hid (cm_step s p k n n 1 (by omega) h1 HR.out (cmt_else n hopen hcl))
          have t1 : ((n : Int) == 0) = false := by rw [beq_eq_false_iff_ne]; omega
          clear hopen hcl
          go_wp2_with (go_at_call 18; first | ((with_reducible refine (H1.out _).mono ?_); rintro e w' ⟨rfl, rfl⟩) | ((with_reducible refine (H2.out _).mono ?_); rintro e w' ⟨rfl, rfl⟩))
          go_round
          case rel => exact ⟨n, k + 1, by omega, by omega, by omega, .inl hn, rfl, by go_num, HN⟩
          case measure => simp [intOf]; omega
        · have H1 := Lib.hid (hp_at s k ⟨#[40, 42]⟩ false hopen)
          have H2 := Lib.hid (hp_at s k ⟨#[42, 41]⟩ true hcl)
          have hc2 := closes_len hcl
          rw [List.length_drop, bs_length] at hc2
          have HC := Lib.hid (cmt_closes n hcl)
          by_cases hn1 : n = 1
          · subst hn1
            have HN : Hid (cmt 0 ((bs s).drop p) = some (k + 2 - p)) := by
              show _ = _
              rw [HR.out, HC.out, if_pos rfl]
              simp only [Option.map_some, Option.some.injEq]
              omega
            clear hopen hcl HC HR
            go_wp2_with (go_at_call 18; first | ((with_reducible refine (H1.out _).mono ?_); rintro e w' ⟨rfl, rfl⟩) | ((with_reducible refine (H2.out _).mono ?_); rintro e w' ⟨rfl, rfl⟩))
            go_ret2
            refine ⟨?_, rfl⟩
            rw [HN.out, cmVal_some p (k + 2 - p) ((k : Int) + 2) (by omega)]
            rfl
          · have HN := Lib.hid (cm_step s p k n (n - 1) 2 (by omega) h1 HR.out (by rw [HC.out, if_neg hn1]))
            have t1 : ((n : Int) - 1 == 0) = false := by rw [beq_eq_false_iff_ne]; omega
            clear hopen hcl HC HR
            go_wp2_with (go_at_call 18; first | ((with_reducible refine (H1.out _).mono ?_); rintro e w' ⟨rfl, rfl⟩) | ((with_reducible refine (H2.out _).mono ?_); rintro e w' ⟨rfl, rfl⟩))
            go_round
            case rel => exact ⟨n - 1, k + 2, by omega, by omega, by omega, .inl (by omega), by go_num, by go_num, HN⟩
            case measure => simp [intOf]; omega
      · have H1 := Lib.hid (hp_at s k ⟨#[40, 42]⟩ true hopen)
        have hc2 := opens_len hopen
        rw [List.length_drop, bs_length] at hc2
        have HN := Lib.hid (cm_step s p k n (n + 1) 2 (by omega) h1 HR.out (cmt_opens n hopen))
        have t1 : ((n : Int) + 1 == 0) = false := by rw [beq_eq_false_iff_ne]; omega
        clear hopen HR h4
        go_wp2_with (go_at_call 18; ((with_reducible refine (H1.out _).mono ?_); rintro e w' ⟨rfl, rfl⟩))
        go_round
        case rel => exact ⟨n + 1, k + 2, by omega, by omega, by omega, .inl (by omega), by go_num, by go_num, HN⟩
        case measure => simp [intOf]; omega
    · have hk' : k = s.size := by omega
      have HN : Hid (cmt 0 ((bs s).drop p) = none) := by
        show _ = _
        rw [HR.out, List.drop_of_length_le (by rw [bs_length]; omega), cmt_nil]
        rfl
      clear HR h4 hk'
      go_wp2
      go_ret2
      refine ⟨?_, rfl⟩
      rw [HN.out]
      rfl
/-- What skip comes to. -/
def skVal (p : Nat) (r : Nat × Bool) : Value := .tuple #[.int .i64 ((p + r.1 : Nat) : Int), .int .i64 (if r.2 then 0 else 4)]

theorem skVal_eq (p : Nat) (r : Nat × Bool) (x y : Int) (h : ((p + r.1 : Nat) : Int) = x) (h' : (if r.2 then 0 else 4) = y) : skVal p r = .tuple #[.int .i64 x, .int .i64 y] := by
  subst h h'; rfl

/-- What is left to be skipped at k comes to what it came to at p. -/
def SkAt (s : ByteArray) (p k : Nat) : Prop := p + (sk ((bs s).drop p)).1 = k + (sk ((bs s).drop k)).1 ∧ (sk ((bs s).drop p)).2 = (sk ((bs s).drop k)).2

set_option maxHeartbeats 2000000 in
theorem skip_any (s : ByteArray) (p : Nat) (w : World) (hs : s.size ≤ 2000) (hp : p ≤ s.size) :
    Calls Tryd.prog 15 #[.string s, .int .i64 (p : Int)] w fun e w' => e = .returned (skVal p (sk ((bs s).drop p))) ∧ w = w' := by
  go_enter Tryd.func15, Tryd.ntmps15
  go_wp2
  go_loop [1] (fun i => ∃ k : Nat, p ≤ k ∧ k ≤ s.size ∧ i = .int .i64 (k : Int) ∧ SkAt s p k) (fun i => s.size - (intOf i).toNat)
  case atStart => exact ⟨p, by omega, by omega, rfl, rfl, rfl⟩
  case round =>
    obtain ⟨k, h1, h2, rfl, HR⟩ := hrel
    by_cases hk : k < s.size
    · have hc := drop_cons s k hk
      rcases hsp : isSp s[k] with _ | _
      · have HS := Lib.hid (hsp ▸ isSpace_any s[k])
        rcases hopen : opens ((bs s).drop k) with _ | _
        · have H1 := Lib.hid (hp_at s k ⟨#[40, 42]⟩ false hopen)
          have HN : SkAt s p k ∧ (sk ((bs s).drop k)) = (0, true) := by
            refine ⟨HR, ?_⟩
            rw [hc]
            rw [hc] at hopen
            exact sk_no hsp hopen
          clear hopen hsp hc HR
          have HN := Lib.hid HN
          go_wp2_with (first | (go_at_call 18; ((with_reducible refine (H1.out _).mono ?_); rintro e w' ⟨rfl, rfl⟩)) | (go_at_call 17; ((with_reducible refine (HS.out _).mono ?_); rintro e w' ⟨rfl, rfl⟩)))
          go_ret2
          refine ⟨?_, rfl⟩
          obtain ⟨⟨g1, g2⟩, g3⟩ := HN.out
          rw [g3] at g1 g2
          rw [skVal_eq p _ (k : Int) 0 (by simp only at g1; omega) (by rw [g2]; rfl)]
          rfl
        · have H1 := Lib.hid (hp_at s k ⟨#[40, 42]⟩ true hopen)
          have H2 := Lib.hid (fun w => comment_any s k w hs h2 hopen)
          rcases hcm : cmt 0 ((bs s).drop k) with _ | m
          · have HN : SkAt s p k ∧ (sk ((bs s).drop k)) = (0, false) := by
              refine ⟨HR, ?_⟩
              rw [hc] at hopen hcm ⊢
              exact sk_bad hsp hopen hcm
            rw [hcm] at H2
            unfold cmVal at H2
            clear hopen hsp hc HR hcm
            have HN := Lib.hid HN
            go_wp2_with (first | (go_at_call 18; ((with_reducible refine (H1.out _).mono ?_); rintro e w' ⟨rfl, rfl⟩)) | (go_at_call 17; ((with_reducible refine (HS.out _).mono ?_); rintro e w' ⟨rfl, rfl⟩)) | (go_at_call 19; ((with_reducible refine (H2.out _).mono ?_); rintro e w' ⟨rfl, rfl⟩)))
            go_ret2
            refine ⟨?_, rfl⟩
            obtain ⟨⟨g1, g2⟩, g3⟩ := HN.out
            rw [g3] at g1 g2
            rw [skVal_eq p _ (k : Int) 4 (by simp only at g1; omega) (by rw [g2]; rfl)]
            rfl
          · have hm := cmt_le _ 0 _ m (Nat.le_refl _) hcm
            rw [List.length_drop, bs_length] at hm
            have HN : SkAt s p (k + m) := by
              obtain ⟨g1, g2⟩ := HR
              have g3 : sk ((bs s).drop k) = ((sk ((bs s).drop (k + m))).1 + m, (sk ((bs s).drop (k + m))).2) := by
                rw [← List.drop_drop]
                rw [hc] at hopen hcm ⊢
                exact sk_cmt hsp hopen hcm
              rw [g3] at g1 g2
              exact ⟨by rw [g1]; simp only; omega, g2⟩
            rw [hcm] at H2
            unfold cmVal at H2
            clear hopen hsp hc HR hcm
            go_wp2_with (first | (go_at_call 18; ((with_reducible refine (H1.out _).mono ?_); rintro e w' ⟨rfl, rfl⟩)) | (go_at_call 17; ((with_reducible refine (HS.out _).mono ?_); rintro e w' ⟨rfl, rfl⟩)) | (go_at_call 19; ((with_reducible refine (H2.out _).mono ?_); rintro e w' ⟨rfl, rfl⟩)))
            go_round
            case rel => exact ⟨k + m, by omega, by omega, rfl, HN⟩
            case measure => simp [intOf]; omega
      · have HS := Lib.hid (hsp ▸ isSpace_any s[k])
        have HN : SkAt s p (k + 1) := by
          obtain ⟨g1, g2⟩ := HR
          rw [hc, sk_sp hsp] at g1 g2
          exact ⟨by rw [g1]; simp only; omega, g2⟩
        clear hsp hc HR
        go_wp2_with (go_at_call 17; ((with_reducible refine (HS.out _).mono ?_); rintro e w' ⟨rfl, rfl⟩))
        go_round
        case rel => exact ⟨k + 1, by omega, by omega, by go_num, HN⟩
        case measure => simp [intOf]; omega
    · have HN : SkAt s p k ∧ (sk ((bs s).drop k)) = (0, true) := ⟨HR, by rw [List.drop_of_length_le (by rw [bs_length]; omega)]; rfl⟩
      have HN := Lib.hid HN
      clear HR
      go_wp2
      go_ret2
      refine ⟨?_, rfl⟩
      obtain ⟨⟨g1, g2⟩, g3⟩ := HN.out
      rw [g3] at g1 g2
      rw [skVal_eq p _ (k : Int) 0 (by simp only at g1; omega) (by rw [g2]; rfl)]
      rfl
end Go.Proofs.YtdpbjcdbdikenaaDoor
