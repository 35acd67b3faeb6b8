/- The law of remarks. -/
import Derived.Test.YtdpbjcdbdikenaaDoorLJoins
namespace Go.Proofs.YtdpbjcdbdikenaaDoor
open Go.RowKit LexM

/-- Bytes at a place. -/
theorem Rd.row {w : World} {v : Value} {l : List UInt8} (h : Rd w v l) :
    (l = [] ∧ ∃ o c, v = .slice o 0 c) ∨ ∃ b off c, v = .slice (some ⟨b, off, none⟩) l.length c ∧ 0 < l.length ∧ l.length ≤ c ∧ c ≤ maxLen ∧ ∀ j u, l[j]? = some u → w.cell? ⟨b, off + j, none⟩ = some (.int .u8 (u.toNat : Int)) := by
  rcases h with ⟨rfl, rfl⟩ | ⟨a, c, rfl, hn, hm, hc⟩
  · exact .inl ⟨rfl, _, _, rfl⟩
  · rcases l with _ | ⟨x, t⟩
    · exact .inl ⟨rfl, _, _, rfl⟩
    · obtain ⟨b, off, spot⟩ := a
      have h0 := hc 0 x rfl
      obtain rfl : spot = none := by simpa [Addr.add] using World.cell?_spot h0
      refine .inr ⟨b, off, c, rfl, by simp, hn, hm, fun j u hu => ?_⟩
      rw [← add_none]
      exact hc j u hu

/-- Neither opens nor closes a remark. -/
def plainB (b : UInt8) : Bool := b != 40 && b != 42 && b != 41

theorem cmt_plain (o : Nat) (z : List UInt8) : ∀ r : List UInt8, (∀ b ∈ r, plainB b = true) → cmt o (r ++ 42 :: z) = (cmt o (42 :: z)).map (· + r.length) := by
  intro r
  induction r with
  | nil => intro _; simp
  | cons x r ih =>
    intro h
    have hx := h x List.mem_cons_self
    unfold plainB at hx
    simp only [Bool.and_eq_true, bne_iff_ne, ne_eq] at hx
    have ho : opens (x :: (r ++ 42 :: z)) = false := by
      rcases r with _ | ⟨y, r⟩
      · rw [List.nil_append, opens_cons]; simp [hx.1.1]
      · rw [List.cons_append, opens_cons]; simp [hx.1.1]
    have hc : closes (x :: (r ++ 42 :: z)) = false := by
      rcases r with _ | ⟨y, r⟩
      · rw [List.nil_append, closes_cons]; simp [hx.1.2]
      · rw [List.cons_append, closes_cons]; simp [hx.1.2]
    rw [List.cons_append, cmt_else o ho hc, List.drop_succ_cons, List.drop_zero, ih (fun b hb => h b (List.mem_cons_of_mem _ hb)), Option.map_map]
    congr 1

/-- A remark with plain bytes in it. -/
def remark (r : List UInt8) : List UInt8 := [40, 42, 32, 40, 42] ++ r ++ [42, 41, 32, 42, 41]

theorem cmt_remark (r s : List UInt8) (h : ∀ b ∈ r, plainB b = true) : cmt 0 (remark r ++ s) = some (remark r).length := by
  have e : remark r ++ s = 40 :: 42 :: 32 :: 40 :: 42 :: (r ++ 42 :: 41 :: 32 :: 42 :: 41 :: s) := by simp [remark]
  have hl : (remark r).length = r.length + 10 := by simp [remark]
  rw [e, hl, cmt_opens 0 (by rw [opens_cons]; rfl)]
  simp only [List.drop_succ_cons, List.drop_zero]
  rw [cmt_else 1 (by rw [opens_cons]; rfl) (by rw [closes_cons]; rfl)]
  simp only [List.drop_succ_cons, List.drop_zero]
  rw [cmt_opens 1 (by rw [opens_cons]; rfl)]
  simp only [List.drop_succ_cons, List.drop_zero]
  rw [cmt_plain _ _ r h, cmt_closes 2 (by rw [closes_cons]; rfl), if_neg (by decide)]
  simp only [List.drop_succ_cons, List.drop_zero]
  rw [cmt_else 1 (by rw [opens_cons]; rfl) (by rw [closes_cons]; rfl)]
  simp only [List.drop_succ_cons, List.drop_zero]
  rw [cmt_closes 1 (by rw [closes_cons]; rfl), if_pos rfl]
  simp only [Option.map_some, Option.some.injEq]
  omega

theorem toks_remark (r s : List UInt8) (h : ∀ b ∈ r, plainB b = true) : toks 0 (remark r ++ s) = shR (remark r).length (toks 0 s) := by
  have hc := cmt_remark r s h
  have e : remark r ++ s = 40 :: (42 :: 32 :: 40 :: 42 :: (r ++ [42, 41, 32, 42, 41] ++ s)) := by simp [remark]
  have hs : sk (remark r ++ s) = ((sk s).1 + (remark r).length, (sk s).2) := by
    rw [e] at hc ⊢
    rw [sk_cmt (by decide) (by rw [opens_cons]; rfl) hc, ← e, List.drop_append_of_le_length (Nat.le_refl _), List.drop_of_length_le (Nat.le_refl _), List.nil_append]
  rw [toks_skip 0 (remark r).length (remark r ++ s) s hs (by rw [List.drop_append_of_le_length (Nat.le_refl _), List.drop_of_length_le (Nat.le_refl _), List.nil_append]), toks_shift]

/-- What holds while the plain bytes are gathered. -/
structure RRel (w wr : World) (v : Value) (o : List UInt8) : Prop where
  own : Own wr w.heap.size v o
  bel : Below w.heap.size w wr

theorem rrel_step {w wr w2 : World} {v v2 : Value} {o : List UInt8} {b : UInt8} {x : Obj} (h : RRel w wr v o) (hown : w2.ownsRow w.heap.size 5 1 v2 (o.length + 1) (Bs o ++ [.int .u8 (b.toNat : Int)])) (hg : (wr.alloc x).grownBy w2 v.ownBlock) : RRel w w2 v2 (o ++ [b]) := by
  have hs := h.bel.size
  refine ⟨?_, (h.bel.alloc hs _).grown hg (by simp; omega) (fun k hk => (h.own.lt k hk).1)⟩
  unfold Own
  rw [Bs_append, List.length_append]
  exact hown

theorem filter_step (l : List UInt8) (k : Nat) (h : k < l.length) : (l.take (k + 1)).filter plainB = if plainB l[k] then (l.take k).filter plainB ++ [l[k]] else (l.take k).filter plainB := by
  rw [List.take_succ_eq_append_getElem h, List.filter_append, List.filter_cons, List.filter_nil]
  split
  · rfl
  · rw [List.append_nil]

theorem bs_mk (l : List UInt8) : bs ⟨l.toArray⟩ = l := rfl

-- WALKS
set_option maxHeartbeats 8000000 in
set_option maxRecDepth 100000 in
theorem remarks_row (S : ByteArray) (b off c : Nat) (l : List UInt8) (w : World) (hL : Laid w) (hS : S.size ≤ 900) (hl : l.length ≤ 900) (h0 : 0 < l.length) (_ : l.length ≤ c) (_ : c ≤ maxLen) (hc : ∀ j u, l[j]? = some u → w.cell? ⟨b, off + j, none⟩ = some (.int .u8 (u.toNat : Int))) :
    Calls Tryd.prog 4 #[.string S, .slice (some ⟨b, off, none⟩) l.length c] w fun e w' => e = .returned (.bool true) ∧ Below w.heap.size w w' := by
  have HL := Lib.hid hL
  have HC := Lib.hid hc
  clear hL hc
  obtain ⟨i0, hi0, hz0, hz1, hz2⟩ := info_parts u8info
  go_enter Tryd.func4, Tryd.ntmps4
  go_wp2_with fail
  refine (awake _ HL.out).mono ?_
  rintro e w1 ⟨rfl, hb1⟩
  have HB1 := Lib.hid hb1
  clear hb1
  go_wp2_with fail
  go_loopw [5, 6] (fun x i wr => ∃ (k : Nat) (V : Value), k ≤ l.length ∧ i = .int .i64 (k : Int) ∧ V = x ∧ RRel w1 wr V ((l.take k).filter plainB)) (fun _ i _ => l.length - (intOf i).toNat)
  case atStart => exact ⟨0, _, by omega, rfl, rfl, World.ownsRow_nil _ _ _ _, Below.refl _ _⟩
  case round =>
    obtain ⟨k, x, hk, rfl, rfl, hr⟩ := hrel
    by_cases hlt : k < l.length
    · have hbw := HB1.out.trans (hr.bel.mono HB1.out.size)
      have c0 := HC.out k l[k] (by simp [hlt])
      have c1 := (hbw.cell (World.block_lt_of_cell? w _ c0)).trans c0
      have hs1 := hr.bel.size
      have HF := Lib.hid (filter_step l k hlt)
      have hfl : ((l.take k).filter plainB).length ≤ k := by
        have := List.length_filter_le plainB (l.take k)
        rw [List.length_take] at this
        omega
      generalize (l.take k).filter plainB = o at *
      have e1 := eqN l[k] 40 (by decide)
      have e2 := eqN l[k] 42 (by decide)
      have e3 := eqN l[k] 41 (by decide)
      rcases hp : plainB l[k] with _ | _
      · rw [hp] at HF
        have HR := Lib.hid hr
        have hcase : ((l[k].toNat : Int) != 40) = false ∨ (((l[k].toNat : Int) != 40) = true ∧ ((l[k].toNat : Int) != 42) = false) ∨ (((l[k].toNat : Int) != 40) = true ∧ ((l[k].toNat : Int) != 42) = true ∧ ((l[k].toNat : Int) != 41) = false) := by
          unfold plainB at hp
          simp only [Bool.and_eq_false_iff, bne_eq_false_iff_eq, bne_iff_ne, ne_eq] at hp ⊢
          by_cases q1 : (l[k].toNat : Int) = 40
          · exact .inl q1
          · by_cases q2 : (l[k].toNat : Int) = 42
            · exact .inr (.inl ⟨q1, q2⟩)
            · refine .inr (.inr ⟨q1, q2, ?_⟩)
              rcases hp with (h | h) | h
              · exact absurd (e1.1 h) q1
              · exact absurd (e2.1 h) q2
              · exact e3.1 h
        clear e1 e2 e3 hp hr hbw c0
        generalize l[k] = m at *
        rcases hcase with q1 | ⟨q1, q2⟩ | ⟨q1, q2, q3⟩
        all_goals
          go_wp2
          go_roundw
          case rel => exact ⟨k + 1, _, by omega, by go_num, rfl, by rw [HF.out]; exact HR.out⟩
          case measure => simp [intOf]; omega
      · rw [hp] at HF
        have hown := hr.own
        have HR := Lib.hid hr
        have q : ((l[k].toNat : Int) != 40) = true ∧ ((l[k].toNat : Int) != 42) = true ∧ ((l[k].toNat : Int) != 41) = true := by
          unfold plainB at hp
          simp only [Bool.and_eq_true, bne_iff_ne, ne_eq] at hp ⊢
          exact ⟨fun h => hp.1.1 (e1.2 h), fun h => hp.1.2 (e2.2 h), fun h => hp.2 (e3.2 h)⟩
        obtain ⟨q1, q2, q3⟩ := q
        clear e1 e2 e3 hp hr hbw c0
        generalize l[k] = m at *
        go_wp2_with (
          at_builtin
          refine wpList_append_own_at _ rfl (.tmp 52) (.tmp 57) 30 (by rfl) w1.heap.size 5 i0 (.int .u8 0) 1 1 Tryd.underlying30 hi0 hz0 hz1 hz2 rfl (by omega) x o.length (Bs o) (by rfl) (World.ownsRow.alloc hown _) ⟨wr.heap.size, 0, none⟩ 1 1 [.int .u8 (m.toNat : Int)] (by rfl) (by rfl) (cell_one_new wr _ _) (by simp [Value.oneCell']) (by unfold maxLen; omega) (by omega) (by first | (simp; omega) | simp) ?_
          intro v2 w2 hown2 hgrow _ _
          have fin := Lib.hid (rrel_step HR.out hown2 hgrow)
          clear hown2 hgrow hown HR)
        go_roundw
        case rel => exact ⟨k + 1, v2, by omega, by go_num, rfl, by rw [HF.out]; exact fin.out⟩
        case measure => simp [intOf]; omega
    · obtain rfl : k = l.length := by omega
      have HO : Hid (∀ b ∈ l.filter plainB, plainB b = true) := fun b hb => (List.mem_filter.1 hb).2
      have hol : (l.filter plainB).length ≤ l.length := List.length_filter_le _ _
      rw [List.take_length] at hr
      generalize l.filter plainB = o at *
      have hcv := toStr' hr.own
      have hosz : (⟨o.toArray⟩ : ByteArray).size = o.length := by simp [ByteArray.size]
      obtain ⟨T, hT⟩ : ∃ T : ByteArray, T = ⟨#[40, 42, 32, 40, 42]⟩ ++ ⟨o.toArray⟩ ++ ⟨#[42, 41, 32, 42, 41]⟩ := ⟨_, rfl⟩
      have hTb : bs T = remark o := by rw [hT, bs_append, bs_append]; rfl
      have hTs : T.size = o.length + 10 := by rw [← bs_length, hTb]; simp [remark]
      have HT := Lib.hid hT
      have HTb := Lib.hid hTb
      have HTs := Lib.hid hTs
      have hT900 : T.size ≤ 910 := by omega
      have HW := Lib.hid (HB1.out.trans (hr.bel.mono HB1.out.size))
      clear hr hT hTb hTs
      go_wp2_with fail
      rw [← HT.out]
      refine (tokens_short S _ (HL.out.below HW.out HL.out.size) (by omega)).mono ?_
      rintro e w3 ⟨v3, rfl, ho3, hb3⟩
      have HB3 := Lib.hid (HW.out.trans (hb3.mono HW.out.size))
      have R3b := Lib.hid ho3.rd
      clear hb3 ho3 hcv hosz
      go_wp2_with fail
      have hk := tokens_short (T ++ S) w3 (HL.out.below HB3.out HL.out.size) (by rw [size_append]; omega)
      rw [bs_append, HTb.out, toks_remark o (bs S) HO.out, show (remark o).length = T.size by rw [← HTb.out, bs_length]] at hk
      refine hk.mono ?_
      rintro e w4 ⟨v4, rfl, ho4, hb4⟩
      have HB4 := Lib.hid (HB3.out.trans (hb4.mono HB3.out.size))
      have R3 := Lib.hid (R3b.out.below hb4 (Nat.le_refl _))
      have R4 := Lib.hid ho4.rd
      clear hb4 ho4 R3b hk
      have LS := toks_len 0 (bs S)
      have OS := toks_ok 0 (bs S)
      have PS := toks_place 0 (bs S)
      rw [bs_length] at LS PS
      generalize toks 0 (bs S) = rs at *
      obtain ⟨es, ps, ls⟩ := rs
      unfold shR at R4 ⊢
      dsimp only at LS OS PS R3 R4 ⊢
      have t0 : ((es : Int) != (es : Int)) = false := by simp
      by_cases hes : es = 0
      · subst hes
        have LS2 := Lib.hid (LS.2 rfl)
        have LS1 := LS.1
        have HM : Hid (∀ W, RdT W v3 ls → Calls Tryd.prog 11 #[v3, .int .i64 (T.size : Int)] W (Moved W T.size ls)) := fun W hR => moved_any v3 T.size ls W hR (by omega) (by omega) (fun t ht => by have := LS2.out t ht; omega)
        clear LS OS PS
        go_wp2_with fail
        refine (HM.out _ R3.out).mono ?_
        rintro e w6 ⟨v6, rfl, ho6, hb6⟩
        have hs7 := same_any v4 v6 _ _ w6 (R4.out.below hb6 (Nat.le_refl _)) ho6.rd (by rw [List.length_map]; omega)
        rw [decide_eq_true rfl] at hs7
        have HS7 := Lib.hid hs7
        have HB6 := Lib.hid (HB4.out.trans (hb6.mono HB4.out.size))
        clear hs7 ho6 hb6
        go_wp2_with fail
        refine HS7.out.mono ?_
        rintro e w8 ⟨rfl, hb8⟩
        go_wp2_with fail
        go_ret
        exact ⟨rfl, HB6.out.trans (hb8.mono HB6.out.size)⟩
      · have PS := PS hes
        have t1 : ((es : Int) != 0) = true := by rw [bne_iff_ne]; omega
        have t2 : (((ps + T.size : Nat) : Int) != (ps : Int) + (T.size : Int)) = false := by rw [bne_eq_false_iff_eq]; omega
        have t3 : ((ps : Int) + (T.size : Int) != (ps : Int) + (T.size : Int)) = false := by simp
        rw [if_neg hes]
        clear LS OS hes R3 R4
        go_wp2
        go_ret
        exact ⟨rfl, HB4.out⟩

set_option maxHeartbeats 8000000 in
set_option maxRecDepth 100000 in
theorem remarks_nil (S : ByteArray) (o : Option Addr) (c : Nat) (w : World) (hL : Laid w) (hS : S.size ≤ 900) :
    Calls Tryd.prog 4 #[.string S, .slice o 0 c] w fun e w' => e = .returned (.bool true) ∧ Below w.heap.size w w' := by
  have HL := Lib.hid hL
  clear hL
  go_enter Tryd.func4, Tryd.ntmps4
  go_wp2_with fail
  refine (awake _ HL.out).mono ?_
  rintro e w1 ⟨rfl, hb1⟩
  have HB1 := Lib.hid hb1
  clear hb1
  go_wp2_with fail
  go_loopw [5, 6] (fun x i wr => i = .int .i64 0 ∧ ∃ V : Value, V = x ∧ RRel w1 wr V []) (fun _ _ _ => 0)
  case atStart => exact ⟨rfl, _, rfl, World.ownsRow_nil _ _ _ _, Below.refl _ _⟩
  case round =>
    obtain ⟨rfl, x, rfl, hr⟩ := hrel
    obtain ⟨o, hr, HO, hol⟩ : ∃ o : List UInt8, RRel w1 wr x o ∧ Hid (∀ b ∈ o, plainB b = true) ∧ o.length ≤ 0 := ⟨[], hr, (fun b hb => by cases hb), Nat.le_refl _⟩
    have hcv := toStr' hr.own
    have hosz : (⟨o.toArray⟩ : ByteArray).size = o.length := by simp [ByteArray.size]
    obtain ⟨T, hT⟩ : ∃ T : ByteArray, T = ⟨#[40, 42, 32, 40, 42]⟩ ++ ⟨o.toArray⟩ ++ ⟨#[42, 41, 32, 42, 41]⟩ := ⟨_, rfl⟩
    have hTb : bs T = remark o := by rw [hT, bs_append, bs_append]; rfl
    have hTs : T.size = o.length + 10 := by rw [← bs_length, hTb]; simp [remark]
    have HT := Lib.hid hT
    have HTb := Lib.hid hTb
    have HTs := Lib.hid hTs
    have hT900 : T.size ≤ 910 := by omega
    have HW := Lib.hid (HB1.out.trans (hr.bel.mono HB1.out.size))
    clear hr hT hTb hTs
    go_wp2_with fail
    rw [← HT.out]
    refine (tokens_short S _ (HL.out.below HW.out HL.out.size) (by omega)).mono ?_
    rintro e w3 ⟨v3, rfl, ho3, hb3⟩
    have HB3 := Lib.hid (HW.out.trans (hb3.mono HW.out.size))
    have R3b := Lib.hid ho3.rd
    clear hb3 ho3 hcv hosz
    go_wp2_with fail
    have hk := tokens_short (T ++ S) w3 (HL.out.below HB3.out HL.out.size) (by rw [size_append]; omega)
    rw [bs_append, HTb.out, toks_remark o (bs S) HO.out, show (remark o).length = T.size by rw [← HTb.out, bs_length]] at hk
    refine hk.mono ?_
    rintro e w4 ⟨v4, rfl, ho4, hb4⟩
    have HB4 := Lib.hid (HB3.out.trans (hb4.mono HB3.out.size))
    have R3 := Lib.hid (R3b.out.below hb4 (Nat.le_refl _))
    have R4 := Lib.hid ho4.rd
    clear hb4 ho4 R3b hk
    have LS := toks_len 0 (bs S)
    have OS := toks_ok 0 (bs S)
    have PS := toks_place 0 (bs S)
    rw [bs_length] at LS PS
    generalize toks 0 (bs S) = rs at *
    obtain ⟨es, ps, ls⟩ := rs
    unfold shR at R4 ⊢
    dsimp only at LS OS PS R3 R4 ⊢
    have t0 : ((es : Int) != (es : Int)) = false := by simp
    by_cases hes : es = 0
    · subst hes
      have LS2 := Lib.hid (LS.2 rfl)
      have LS1 := LS.1
      have HM : Hid (∀ W, RdT W v3 ls → Calls Tryd.prog 11 #[v3, .int .i64 (T.size : Int)] W (Moved W T.size ls)) := fun W hR => moved_any v3 T.size ls W hR (by omega) (by omega) (fun t ht => by have := LS2.out t ht; omega)
      clear LS OS PS
      go_wp2_with fail
      refine (HM.out _ R3.out).mono ?_
      rintro e w6 ⟨v6, rfl, ho6, hb6⟩
      have hs7 := same_any v4 v6 _ _ w6 (R4.out.below hb6 (Nat.le_refl _)) ho6.rd (by rw [List.length_map]; omega)
      rw [decide_eq_true rfl] at hs7
      have HS7 := Lib.hid hs7
      have HB6 := Lib.hid (HB4.out.trans (hb6.mono HB4.out.size))
      clear hs7 ho6 hb6
      go_wp2_with fail
      refine HS7.out.mono ?_
      rintro e w8 ⟨rfl, hb8⟩
      go_wp2_with fail
      go_ret
      exact ⟨rfl, HB6.out.trans (hb8.mono HB6.out.size)⟩
    · have PS := PS hes
      have t1 : ((es : Int) != 0) = true := by rw [bne_iff_ne]; omega
      have t2 : (((ps + T.size : Nat) : Int) != (ps : Int) + (T.size : Int)) = false := by rw [bne_eq_false_iff_eq]; omega
      have t3 : ((ps : Int) + (T.size : Int) != (ps : Int) + (T.size : Int)) = false := by simp
      rw [if_neg hes]
      clear LS OS hes R3 R4
      go_wp2
      go_ret
      exact ⟨rfl, HB4.out⟩

theorem remarks_long (S : ByteArray) (o : Option Addr) (n c : Nat) (w : World) (hL : Laid w) (hS : 900 < S.size ∨ S.size ≤ 900 ∧ 900 < n) :
    Calls Tryd.prog 4 #[.string S, .slice o n c] w fun e w' => e = .returned (.bool true) ∧ Below w.heap.size w w' := by
  have HL := Lib.hid hL
  clear hL
  rcases hS with h | ⟨h, h'⟩
  all_goals
    go_enter Tryd.func4, Tryd.ntmps4
    go_wp2_with fail
    refine (awake _ HL.out).mono ?_
    rintro e w1 ⟨rfl, hb1⟩
    have HB1 := Lib.hid hb1
    clear hb1
    go_wp2_with fail
    refine (awake _ (HL.out.below HB1.out HL.out.size)).mono ?_
    rintro e w2 ⟨rfl, hb2⟩
    have HB2 := Lib.hid (HB1.out.trans (hb2.mono HB1.out.size))
    clear hb2
    go_wp2_with fail
    go_ret
    exact ⟨rfl, HB2.out⟩

theorem Rd.form {w : World} {v : Value} {l : List UInt8} (h : Rd w v l) : ∃ o c, v = .slice o l.length c := by
  rcases h with ⟨rfl, rfl⟩ | ⟨a, c, rfl, _⟩
  · exact ⟨_, _, rfl⟩
  · exact ⟨_, _, rfl⟩

theorem remarks_walk (S : ByteArray) (v : Value) (l : List UInt8) (w : World) (hL : Laid w) (_ : S.size ≤ 140737488351232) (hv : Rd w v l) (_ : l.length ≤ 140737488351232) :
    Calls Tryd.prog 4 #[.string S, v] w fun e w' => e = .returned (.bool true) ∧ Below w.heap.size w w' := by
  by_cases h : S.size ≤ 900 ∧ l.length ≤ 900
  · rcases hv.row with ⟨rfl, o, c, rfl⟩ | ⟨b, off, c, rfl, h1, h2, h3, h4⟩
    · exact remarks_nil S o c w hL h.1
    · exact remarks_row S b off c l w hL h.1 h.2 h1 h2 h3 h4
  · obtain ⟨o, c, rfl⟩ := hv.form
    exact remarks_long S o _ c w hL (by omega)
end Go.Proofs.YtdpbjcdbdikenaaDoor
