/- The law of two texts. -/
import Derived.Test.YtdpbjcdbdikenaaDoorLexR
namespace Go.Proofs.YtdpbjcdbdikenaaDoor
open Go.RowKit LexM

theorem nl_eq (a b : ByteArray) : bs (a ++ ⟨#[10]⟩ ++ b) = bs a ++ 10 :: bs b := by
  rw [bs_append, bs_append, List.append_assoc]
  rfl

theorem lexed_short (s : ByteArray) (h : s.size ≤ 2000) : lexed (bs s) = toks 0 (bs s) := by
  unfold lexed
  rw [bs_length, if_neg (by omega)]

theorem toks_len (p : Nat) (l : List UInt8) : (toks p l).2.2.length ≤ l.length + 1 ∧ ((toks p l).1 = 0 → ∀ t ∈ (toks p l).2.2, t.at_ ≤ p + l.length) := by
  refine toks_ind (P := fun p l R => R.2.2.length ≤ l.length + 1 ∧ (R.1 = 0 → ∀ t ∈ R.2.2, t.at_ ≤ p + l.length)) ?_ ?_ ?_ ?_ _ p l (Nat.le_refl _)
  · intro p l h; simp
  · intro p l h h'
    have := sk_le _ l (Nat.le_refl _)
    refine ⟨by simp, fun _ t ht => ?_⟩
    obtain rfl : t = ⟨0, [], p + (sk l).1⟩ := by simpa using ht
    show p + (sk l).1 ≤ _
    omega
  · intro p l c r h h' he; exact ⟨by simp, fun h => absurd h he⟩
  · intro p l c r h h' he ih
    have h1 := one_le c r
    have h2 := h1.2 he
    have hlen : l.length - (sk l).1 = (c :: r).length := by rw [← h', List.length_drop]
    have hsk := sk_le _ l (Nat.le_refl _)
    unfold pre
    split
    · rename_i h0
      obtain ⟨i1, i2⟩ := ih
      rw [List.length_drop] at i1 i2
      refine ⟨by simp only [List.length_cons]; simp only [List.length_cons] at hlen i1 h1; omega, fun _ t ht => ?_⟩
      rcases List.mem_cons.1 ht with rfl | ht
      · show p + (sk l).1 ≤ _; omega
      · have := i2 h0 t ht
        simp only [List.length_cons] at hlen h1 this
        omega
    · rename_i h0
      obtain ⟨i1, i2⟩ := ih
      rw [List.length_drop] at i1
      exact ⟨by simp only [List.length_cons] at hlen i1 h1; omega, fun h => absurd h h0⟩

theorem toks_place (p : Nat) (l : List UInt8) : (toks p l).1 ≠ 0 → p ≤ (toks p l).2.1 ∧ (toks p l).2.1 ≤ p + l.length := by
  refine toks_ind (P := fun p l R => R.1 ≠ 0 → p ≤ R.2.1 ∧ R.2.1 ≤ p + l.length) ?_ ?_ ?_ ?_ _ p l (Nat.le_refl _)
  · intro p l h _
    have := sk_le _ l (Nat.le_refl _)
    exact ⟨by simp only; omega, by simp only; omega⟩
  · intro p l h h' h0; exact absurd rfl h0
  · intro p l c r h h' he _
    have h1 := (one_le c r).1
    have hlen : l.length - (sk l).1 = (c :: r).length := by rw [← h', List.length_drop]
    have := sk_le _ l (Nat.le_refl _)
    exact ⟨by simp only; omega, by simp only; omega⟩
  · intro p l c r h h' he ih h0
    have h1 := (one_le c r).1
    have hlen : l.length - (sk l).1 = (c :: r).length := by rw [← h', List.length_drop]
    have := sk_le _ l (Nat.le_refl _)
    unfold pre at h0 ⊢
    split
    · rename_i hz; rw [if_pos hz] at h0; exact absurd rfl h0
    · rename_i hz
      obtain ⟨i1, i2⟩ := ih hz
      rw [List.length_drop] at i2
      exact ⟨by omega, by omega⟩

set_option maxHeartbeats 4000000 in
set_option maxRecDepth 100000 in
theorem joins_long (a b : ByteArray) (w : World) (hL : Laid w) (hs : 1999 < a.size + b.size) (ha : a.size ≤ 140737488355328) (hb : b.size ≤ 140737488355328) :
    Calls Tryd.prog 3 #[.string a, .string b] w fun e w' => e = .returned (.bool true) ∧ Below w.heap.size w w' := by
  have HL := Lib.hid hL
  clear hL
  go_enter Tryd.func3, Tryd.ntmps3
  go_wp2_with fail
  refine (awake _ HL.out).mono ?_
  rintro e w1 ⟨rfl, hb1⟩
  have HB1 := Lib.hid hb1
  clear hb1
  go_wp2_with fail
  refine (awake _ (HL.out.below HB1.out HL.out.size)).mono ?_
  rintro e w2 ⟨rfl, hb2⟩
  have HB2 := Lib.hid (HB1.out.trans (hb2.mono HB1.out.size))
  clear hb2
  go_wp2_with fail
  go_ret
  exact ⟨rfl, HB2.out⟩

set_option maxHeartbeats 8000000 in
set_option maxRecDepth 100000 in
theorem joins_short (a b : ByteArray) (w : World) (hL : Laid w) (hs : a.size + b.size ≤ 1999) :
    Calls Tryd.prog 3 #[.string a, .string b] w fun e w' => e = .returned (.bool true) ∧ Below w.heap.size w w' := by
  have HL := Lib.hid hL
  clear hL
  have hsz : (a ++ ⟨#[10]⟩ ++ b).size ≤ 2000 := by rw [size_append, size_append]; show a.size + 1 + b.size ≤ 2000; omega
  have HA := Lib.hid (fun W (hW : Laid W) => tokens_short a W hW (by omega))
  have HBb := Lib.hid (fun W (hW : Laid W) => tokens_short b W hW (by omega))
  have hk := fun W (hW : Laid W) => tokens_short (a ++ ⟨#[10]⟩ ++ b) W hW hsz
  rw [nl_eq] at hk
  have HK := Lib.hid hk
  clear hk hsz
  go_enter Tryd.func3, Tryd.ntmps3
  go_wp2_with fail
  refine (awake _ HL.out).mono ?_
  rintro e w1 ⟨rfl, hb1⟩
  have HB1 := Lib.hid hb1
  clear hb1
  go_wp2_with fail
  refine (HA.out _ (HL.out.below HB1.out HL.out.size)).mono ?_
  rintro e w2 ⟨v2, rfl, ho2, hb2⟩
  have HB2 := Lib.hid (HB1.out.trans (hb2.mono HB1.out.size))
  have R2 := Lib.hid ho2.rd
  clear hb2 ho2
  go_wp2_with fail
  refine (HBb.out _ (HL.out.below HB2.out HL.out.size)).mono ?_
  rintro e w3 ⟨v3, rfl, ho3, hb3⟩
  have HB3 := Lib.hid (HB2.out.trans (hb3.mono HB2.out.size))
  have R2b := Lib.hid (R2.out.below hb3 (Nat.le_refl _))
  have R3b := Lib.hid ho3.rd
  clear hb3 ho3 R2
  go_wp2_with fail
  refine (HK.out _ (HL.out.below HB3.out HL.out.size)).mono ?_
  rintro e w4 ⟨v4, rfl, ho4, hb4⟩
  have HB4 := Lib.hid (HB3.out.trans (hb4.mono HB3.out.size))
  have R2 := Lib.hid (R2b.out.below hb4 (Nat.le_refl _))
  have R3 := Lib.hid (R3b.out.below hb4 (Nat.le_refl _))
  have R4 := Lib.hid ho4.rd
  clear hb4 ho4 R2b R3b
  have LA := toks_len 0 (bs a)
  have LB := toks_len 0 (bs b)
  have OA := toks_ok 0 (bs a)
  have PB := toks_place 0 (bs b)
  have OB := toks_ok 0 (bs b)
  have J := toks_join (bs b) 0 (bs a)
  rw [bs_length] at LA LB J PB
  rw [show 0 + a.size + 1 = 0 + (a.size + 1) by omega, toks_shift] at J
  generalize toks 0 (bs a ++ 10 :: bs b) = rk at *
  generalize toks 0 (bs a) = ra at *
  generalize toks 0 (bs b) = rb at *
  obtain ⟨ea, pa, la⟩ := ra
  obtain ⟨eb, pb, lb⟩ := rb
  obtain ⟨ek, pk, lk⟩ := rk
  dsimp only at LA LB OA OB J PB R2 R3 R4 ⊢
  by_cases hea : ea = 0
  · subst hea
    have J := J rfl
    unfold app shR at J
    by_cases heb : eb = 0
    · subst heb
      simp only [if_true, Prod.mk.injEq] at J
      obtain ⟨rfl, rfl, rfl⟩ := J
      have OA := (OA.1 rfl).2
      obtain ⟨o2, c2, rfl⟩ := R2.out.form
      have hi := R2.out.init OA
      have RI := Lib.hid hi.2.2.2.2
      obtain ⟨A2, rfl⟩ := Option.isSome_iff_exists.1 hi.2.2.2.1
      have hn1 := hi.2.1
      have hn2 := hi.2.2.1
      have LA' := LA.1
      have LB' := LB.1
      have LB2 := Lib.hid (LB.2 rfl)
      have hsz4 := HB4.out.size
      have hdl : la.dropLast.length = la.length - 1 := List.length_dropLast
      obtain ⟨v5, w5, hr5, ho5, hg5⟩ := append_rdT (w := w4) (base := w4.heap.size) (v := .slice none 0 0) (l := []) (World.ownsRow_nil w4 _ _ _) RI.out (by simp only [List.length_nil]; omega) (Nat.le_refl _) 23
      have hb5 : Below w4.heap.size w4 w5 := (Below.refl _ _).grown hg5 (Nat.le_refl _) (fun k hk => by cases hk)
      have HB45 := Lib.hid hb5
      have R3' := Lib.hid (R3.out.below hb5 (Nat.le_refl _))
      have HO5 := Lib.hid ho5
      have hs5 := hb5.size
      have HR5 := Lib.hid hr5
      have HM : Hid (∀ W, RdT W v3 lb → Calls Tryd.prog 11 #[v3, .int .i64 ((a.size : Int) + 1)] W (Moved W (a.size + 1) lb)) := fun W hR => moved_any v3 (a.size + 1) lb W hR (by omega) (by omega) (fun t ht => by have := LB2.out t ht; omega)
      clear ho5 hg5 hb5 hr5 hi LA LB OA OB HA HBb HK R2 R3
      go_wp2_with (first
        | (at_builtin
           refine wpList_append_known rfl (.tmp 63) (.tmp 68) 23 23 (by rfl) _ _ v5 (by rfl) (by rfl) HR5.out ?_)
        | fail)
      refine (HM.out _ R3'.out).mono ?_
      rintro e w6 ⟨v6, rfl, ho6, hb6⟩
      have hs6 := hb6.size
      have ho5 := HO5.out.below hb6 (Nat.le_refl _)
      obtain ⟨v7, w7, hr7, ho7, hg7⟩ := append_rdT ho5 ho6.rd (by simp only [List.length_append, List.length_nil, List.length_map]; omega) (by omega) 23
      have hb7 : Below w4.heap.size w6 w7 := (Below.refl _ _).grown hg7 (by omega) (fun k hk => (World.ownsRow.lt ho5 k hk).1)
      have hb47 : Below w4.heap.size w4 w7 := ((Below.refl _ w4).trans (HB45.out)).trans ((hb6.mono hs5).trans hb7)
      have HB7 := Lib.hid (HB4.out.trans (hb47.mono hsz4))
      have R4' := R4.out.below hb47 (Nat.le_refl _)
      have hs7 := same_any v4 v7 _ _ w7 R4' ho7.rd (by simp only [List.length_append, List.length_map]; omega)
      rw [List.nil_append, decide_eq_true rfl] at hs7
      have HS7 := Lib.hid hs7
      have HR7 := Lib.hid hr7
      clear hs7 hr7 ho7 hg7 hb7 hb47 R4' ho5 ho6 hb6 HM
      go_wp2_with (first
        | (at_builtin
           refine wpList_append_known rfl (.tmp 70) (.tmp 75) 23 23 (by rfl) _ _ v7 (by rfl) (by rfl) HR7.out ?_)
        | (go_at_call 12; refine HS7.out.mono ?_; rintro e w8 ⟨rfl, hb8⟩))
      go_ret
      exact ⟨rfl, HB7.out.trans (hb8.mono HB7.out.size)⟩
    · rw [if_neg heb, if_neg heb] at J
      simp only [Prod.mk.injEq] at J
      obtain ⟨rfl, rfl, rfl⟩ := J
      have PB := PB heb
      have t1 : ((ek : Int) != 0) = true := by rw [bne_iff_ne]; omega
      have t2 : (((pb + (a.size + 1) : Nat) : Int) == (a.size : Int) + 1 + (pb : Int)) = true := by rw [beq_iff_eq]; omega
      have t3 : ((pb : Int) + ((a.size : Int) + 1) == (a.size : Int) + 1 + (pb : Int)) = true := by rw [beq_iff_eq]; omega
      clear LA LB OA OB HA HBb HK R2 R3 R4 heb
      go_wp2
      go_ret
      exact ⟨rfl, HB4.out⟩
  · have t1 : ((ea : Int) != 0) = true := by rw [bne_iff_ne]; omega
    clear LA LB OA OB PB HA HBb HK R2 R3 R4 hea J
    go_wp2
    go_ret
    exact ⟨rfl, HB4.out⟩
theorem joins_walk (a b : ByteArray) (w : World) (hL : Laid w) (ha : a.size ≤ 140737488351232) (hb : b.size ≤ 140737488351232) :
    Calls Tryd.prog 3 #[.string a, .string b] w fun e w' => e = .returned (.bool true) ∧ Below w.heap.size w w' := by
  by_cases h : a.size + b.size ≤ 1999
  · exact joins_short a b w hL h
  · exact joins_long a b w hL (by omega) (by omega) (by omega)
end Go.Proofs.YtdpbjcdbdikenaaDoor
