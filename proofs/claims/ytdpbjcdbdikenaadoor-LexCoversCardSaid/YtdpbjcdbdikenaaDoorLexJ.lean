/- Texts in quotes. -/
import Derived.Test.YtdpbjcdbdikenaaDoorLexI
namespace Go.Proofs.YtdpbjcdbdikenaaDoor
open Go.RowKit LexM

def zeroTok : Obj := .cells #[.int .u8 0, .string ⟨#[]⟩, .int .i64 0] 33 (0, 0)

/-- What holds while a text is read: its bytes so far lie in a row of the call's own. -/
structure TRel (w wr : World) (v : Value) (o : List UInt8) : Prop where
  own : Own wr (w.heap.size + 1) v o
  bel : Below w.heap.size w wr
  blk : wr.heap[w.heap.size]? = some zeroTok

theorem trel_step {w wr w2 : World} {v v2 : Value} {o : List UInt8} {b : UInt8} {x : Obj} (h : TRel w wr v o) (hown : w2.ownsRow (w.heap.size + 1) 5 1 v2 (o.length + 1) (Bs o ++ [.int .u8 (b.toNat : Int)])) (hg : (wr.alloc x).grownBy w2 v.ownBlock) :
    TRel w w2 v2 (o ++ [b]) := by
  have hs := h.bel.size
  have hlt := lt_of_block h.blk
  refine ⟨?_, (h.bel.alloc hs _).grown hg (by simp; omega) (fun k hk => by have := (h.own.lt k hk).1; omega), ?_⟩
  · unfold Own
    rw [Bs_append, List.length_append]
    exact hown
  · rw [hg.block w.heap.size (by simp; omega) (fun e => by have := (h.own.lt _ e.symm).1; omega), Below.heap_alloc _ _ _ hlt, h.blk]

/-- Of what is left from k on. -/
def UQ (s : ByteArray) (p k : Nat) (o : List UInt8) : Prop :=
  (uq ((bs s).drop (p + 1))).1 = (uq ((bs s).drop k)).1 ∧ ((uq ((bs s).drop k)).1 = true → (uq ((bs s).drop (p + 1))).2.1 = o ++ (uq ((bs s).drop k)).2.1) ∧
  (uq ((bs s).drop (p + 1))).2.2 = k - (p + 1) + (uq ((bs s).drop k)).2.2

theorem txt1_bad (s : ByteArray) (p n : Nat) (hp : p < s.size) (h : (uq ((bs s).drop (p + 1))).1 = false) (hn : (uq ((bs s).drop (p + 1))).2.2 + 1 = n) : txt1 ((bs s).drop p) = (4, n, 0, []) := by
  unfold txt1
  rw [drop_cons s p hp, List.tail_cons, h, hn]
  rfl
theorem txt1_ok (s : ByteArray) (p n : Nat) (o : List UInt8) (hp : p < s.size) (h : (uq ((bs s).drop (p + 1))).1 = true) (ht : (uq ((bs s).drop (p + 1))).2.1 = o) (hn : (uq ((bs s).drop (p + 1))).2.2 + 1 = n) :
    txt1 ((bs s).drop p) = (0, n, 5, o) := by
  unfold txt1
  rw [drop_cons s p hp, List.tail_cons, h, hn, ht]
  rfl

theorem esc_any (b : UInt8) (w : World) : Calls Tryd.prog 31 #[.int .u8 (b.toNat : Int)] w fun e w' => e = .returned (.int .u8 ((esc b).toNat : Int)) ∧ w = w' := escaped_any b w

theorem uq_step (s : ByteArray) (p k : Nat) (o : List UInt8) (hk : k < s.size) (hpk : p + 1 ≤ k) (h34 : s[k] ≠ 34) (h92 : s[k] ≠ 92) (h : UQ s p k o) : UQ s p (k + 1) (o ++ [s[k]]) := by
  obtain ⟨h1, h2, h3⟩ := h
  have hc := uq_one ((bs s).drop (k + 1)) h34 h92
  rw [← drop_cons s k hk] at hc
  obtain ⟨c1, c2, c3⟩ := hc
  refine ⟨by rw [h1, c1], fun ht => ?_, by rw [h3, c3]; omega⟩
  rw [h2 (by rw [c1]; exact ht), c2 ht, List.append_assoc]
  rfl
theorem uq_step2 (s : ByteArray) (p k : Nat) (o : List UInt8) (hk : k + 1 < s.size) (hpk : p + 1 ≤ k) (h92 : s[k] = 92) (he : esc s[k + 1] ≠ 0) (h : UQ s p k o) : UQ s p (k + 2) (o ++ [esc s[k + 1]]) := by
  obtain ⟨h1, h2, h3⟩ := h
  have hc := uq_esc ((bs s).drop (k + 2)) he
  rw [← drop_cons s (k + 1) hk, ← h92, ← drop_cons s k (by omega)] at hc
  rw [hc] at h1 h2 h3
  refine ⟨h1, fun ht => ?_, by rw [h3]; simp only; omega⟩
  rw [h2 ht, List.append_assoc]
  rfl

theorem ne_of_toNat (b : UInt8) (n : Nat) (h : n < 256) : ((b.toNat : Int) = (n : Int)) ↔ b = UInt8.ofNat n := (eqN b n h).symm

set_option maxHeartbeats 8000000 in
set_option maxRecDepth 100000 in
theorem text_any (s : ByteArray) (p : Nat) (w : World) (hs : s.size ≤ 2000) (hp : p < s.size) :
    Calls Tryd.prog 25 #[.string s, .int .i64 (p : Int)] w fun e w' => e = .returned (t1Val p (txt1 ((bs s).drop p))) ∧ Below w.heap.size w w' := by
  obtain ⟨i0, hi0, hz0, hz1, hz2⟩ := info_parts u8info
  have start : TRel w (w.alloc zeroTok) (.slice none 0 0) [] := ⟨World.ownsRow_nil (w.alloc zeroTok) (w.heap.size + 1) 5 1, (Below.refl _ w).alloc (Nat.le_refl _) _, heap_alloc_new w _⟩
  have ST := Lib.hid start
  clear start
  unfold zeroTok at ST
  go_enter Tryd.func25, Tryd.ntmps25
  go_wp2_with fail
  go_loopw [7, 8] (fun v i wr => ∃ (k : Nat) (V : Value) (o : List UInt8), p + 1 ≤ k ∧ k ≤ s.size ∧ i = .int .i64 (k : Int) ∧ V = v ∧ o.length ≤ k ∧ TRel w wr V o ∧ UQ s p k o) (fun _ i _ => s.size - (intOf i).toNat)
  case atStart => exact ⟨p + 1, _, [], by omega, by omega, by go_num, rfl, by simp, ST.out, rfl, fun _ => rfl, by omega⟩
  case round =>
    clear ST
    obtain ⟨k, v, o, h1, h2, rfl, rfl, ho, hr, HU⟩ := hrel
    have hbs := hr.bel.size
    by_cases hk : k < s.size
    · by_cases h34 : (s[k].toNat : Int) = 34
      · have hu : uq ((bs s).drop k) = (true, [], 1) := by
          rw [drop_cons s k hk, show s[k] = 34 from (ne_of_toNat s[k] 34 (by decide)).1 h34]
          exact uq_quote _
        have HN : Hid (txt1 ((bs s).drop p) = (0, k + 1 - p, 5, o)) := by
          obtain ⟨g1, g2, g3⟩ := HU
          rw [hu] at g1 g2 g3
          exact txt1_ok s p _ o hp g1 (by rw [g2 rfl, List.append_nil]) (by rw [g3]; simp only; omega)
        have HE := Lib.hid (t1Val_ok p (k + 1 - p) 5 o ⟨o.toArray⟩ ((k : Int) + 1) (by omega) rfl)
        have t1 : ((k : Int) == (s.size : Int)) = false := by rw [beq_eq_false_iff_ne]; omega
        have hcv := toStr' hr.own
        have hblk := hr.blk
        unfold zeroTok at hblk
        have c0 := cell_of_row wr w.heap.size 0 _ _ _ hblk
        have c1 := cell_of_row wr w.heap.size 1 _ _ _ hblk
        have c2 := cell_of_row wr w.heap.size 2 _ _ _ hblk
        have f0 := row_free wr w.heap.size 0 _ _ hblk
        have f1 := row_free wr w.heap.size 1 _ _ hblk
        have f2 := row_free wr w.heap.size 2 _ _ hblk
        have hlt := lt_of_block hblk
        have HB := Lib.hid hr.bel
        clear HU hr hu hblk
        go_wp2_with fail
        refine bodyPost_ret (v := .tuple #[.agg #[.int .u8 5, .string ⟨o.toArray⟩, .int .i64 (p : Int)], .int .i64 ((k : Int) + 1), .int .i64 0]) (by simp [results, Tryd.results25, go_sem, c0, c1, c2]) rfl ⟨?_, ((HB.out.setCell (Nat.le_refl _) _).setCell (Nat.le_refl _) _).setCell (Nat.le_refl _) _⟩
        rw [HN.out, HE.out]; rfl
      · by_cases h92 : (s[k].toNat : Int) = 92
        · by_cases hk1 : k + 1 = s.size
          · have hu : uq ((bs s).drop k) = (false, [], 1) := by
              rw [drop_cons s k hk, hk1, List.drop_of_length_le (by rw [bs_length]; omega), show s[k] = 92 from (ne_of_toNat s[k] 92 (by decide)).1 h92]
              exact uq_end
            have HN : Hid (txt1 ((bs s).drop p) = (4, k + 1 - p, 0, [])) := by
              obtain ⟨g1, g2, g3⟩ := HU
              rw [hu] at g1 g2 g3
              exact txt1_bad s p _ hp g1 (by rw [g3]; simp only; omega)
            have HE := Lib.hid (t1Val_err p (k + 1 - p) 4 (by decide) ((k : Int) + 1) (by omega))
            have t1 : ((s[k].toNat : Int) != 34) = true := by rw [bne_iff_ne]; exact h34
            have t3 : ((k : Int) + 1 == (s.size : Int)) = true := by rw [beq_iff_eq]; omega
            have hblk := hr.blk
            unfold zeroTok at hblk
            have c0 := cell_of_row wr w.heap.size 0 _ _ _ hblk
            have c1 := cell_of_row wr w.heap.size 1 _ _ _ hblk
            have c2 := cell_of_row wr w.heap.size 2 _ _ _ hblk
            have f0 := row_free wr w.heap.size 0 _ _ hblk
            have f1 := row_free wr w.heap.size 1 _ _ hblk
            have f2 := row_free wr w.heap.size 2 _ _ hblk
            have hlt := lt_of_block hblk
            have HB := Lib.hid hr.bel
            clear HU hr hu hblk hk1
            go_wp2_with fail
            refine bodyPost_ret (v := .tuple #[.agg #[.int .u8 0, .string ⟨#[]⟩, .int .i64 0], .int .i64 ((k : Int) + 1), .int .i64 4]) (by simp [results, Tryd.results25, go_sem, c0, c1, c2]) rfl ⟨?_, ((HB.out.setCell (Nat.le_refl _) _).setCell (Nat.le_refl _) _).setCell (Nat.le_refl _) _⟩
            rw [HN.out, HE.out]; rfl
          · have hk2 : k + 1 < s.size := by omega
            have t1 : ((s[k].toNat : Int) != 34) = true := by rw [bne_iff_ne]; exact h34
            have t3 : ((k : Int) + 1 == (s.size : Int)) = false := by rw [beq_eq_false_iff_ne]; omega
            by_cases he : esc s[k + 1] = 0
            · have hu : uq ((bs s).drop k) = (false, [], 1) := by
                rw [drop_cons s k hk, drop_cons s (k + 1) hk2, show s[k] = 92 from (ne_of_toNat s[k] 92 (by decide)).1 h92]
                exact uq_bad _ he
              have HN : Hid (txt1 ((bs s).drop p) = (4, k + 1 - p, 0, [])) := by
                obtain ⟨g1, g2, g3⟩ := HU
                rw [hu] at g1 g2 g3
                exact txt1_bad s p _ hp g1 (by rw [g3]; simp only; omega)
              have HE := Lib.hid (t1Val_err p (k + 1 - p) 4 (by decide) ((k : Int) + 1) (by omega))
              have H1 := esc_any s[k + 1]
              rw [he] at H1
              have H1 := Lib.hid H1
              have hblk := hr.blk
              unfold zeroTok at hblk
              have c0 := cell_of_row wr w.heap.size 0 _ _ _ hblk
              have c1 := cell_of_row wr w.heap.size 1 _ _ _ hblk
              have c2 := cell_of_row wr w.heap.size 2 _ _ _ hblk
              have f0 := row_free wr w.heap.size 0 _ _ hblk
              have f1 := row_free wr w.heap.size 1 _ _ hblk
              have f2 := row_free wr w.heap.size 2 _ _ hblk
              have hlt := lt_of_block hblk
              have HB := Lib.hid hr.bel
              clear HU hr hu hblk hk1 he
              go_wp2_with (go_at_call 31; ((with_reducible refine (H1.out _).mono ?_); rintro e w' ⟨rfl, rfl⟩))
              refine bodyPost_ret (v := .tuple #[.agg #[.int .u8 0, .string ⟨#[]⟩, .int .i64 0], .int .i64 ((k : Int) + 1), .int .i64 4]) (by simp [results, Tryd.results25, go_sem, c0, c1, c2]) rfl ⟨?_, ((HB.out.setCell (Nat.le_refl _) _).setCell (Nat.le_refl _) _).setCell (Nat.le_refl _) _⟩
              rw [HN.out, HE.out]; rfl
            · have HU2 := Lib.hid (uq_step2 s p k o hk2 h1 ((ne_of_toNat s[k] 92 (by decide)).1 h92) he HU)
              have H1 := Lib.hid (esc_any s[k + 1])
              have t4 : (((esc s[k + 1]).toNat : Int) == 0) = false := by
                rw [beq_eq_false_iff_ne]
                exact fun h => he ((ne_of_toNat (esc s[k + 1]) 0 (by decide)).1 h)
              have hown := hr.own
              have HR := Lib.hid hr
              have HE8 := (esc s[k + 1]).toNat_lt
              generalize esc s[k + 1] = x at *
              clear HU hr h34 he hk1
              go_wp2_with (first
                | (go_at_call 31; ((with_reducible refine (H1.out _).mono ?_); rintro e w' ⟨rfl, rfl⟩))
                | (at_builtin
                   refine wpList_append_own_at _ rfl (.tmp 41) (.tmp 43) 30 (by rfl) (w.heap.size + 1) 5 i0 (.int .u8 0) 1 1 Tryd.underlying30 hi0 hz0 hz1 hz2 rfl (by omega) v o.length (Bs o) (by rfl) (hown.alloc _) ⟨wr.heap.size, 0, none⟩ 1 1 [.int .u8 (x.toNat : Int)] (by rfl) (by rfl) (cell_one_new wr _ _) (by simp [Value.oneCell']) (by unfold maxLen; omega) (by omega) (by simp; omega) ?_
                   intro v2 w2 hown2 hgrow _ _
                   have fin := Lib.hid (trel_step HR.out hown2 hgrow)
                   clear hown2 hgrow hown HR))
              go_roundw
              case rel => exact ⟨k + 2, v2, _, by omega, by omega, by go_num, rfl, by rw [List.length_append, List.length_singleton]; omega, fin.out, HU2.out⟩
              case measure => simp [intOf]; omega
        · have HU2 := Lib.hid (uq_step s p k o hk h1 (by rw [ne_eq, show (34 : UInt8) = UInt8.ofNat 34 from rfl, eqN s[k] 34 (by decide)]; exact h34) (by rw [ne_eq, show (92 : UInt8) = UInt8.ofNat 92 from rfl, eqN s[k] 92 (by decide)]; exact h92) HU)
          have t1 : ((s[k].toNat : Int) != 34) = true := by rw [bne_iff_ne]; exact h34
          have t2 : ((s[k].toNat : Int) == 92) = false := by rw [beq_eq_false_iff_ne]; exact h92
          have hown := hr.own
          have HR := Lib.hid hr
          clear HU hr h34 h92
          go_wp2_with (
            at_builtin
            refine wpList_append_own_at _ rfl (.tmp 41) (.tmp 43) 30 (by rfl) (w.heap.size + 1) 5 i0 (.int .u8 0) 1 1 Tryd.underlying30 hi0 hz0 hz1 hz2 rfl (by omega) v o.length (Bs o) (by rfl) (hown.alloc _) ⟨wr.heap.size, 0, none⟩ 1 1 [.int .u8 (s[k].toNat : Int)] (by rfl) (by rfl) (cell_one_new wr _ _) (by simp [Value.oneCell']) (by unfold maxLen; omega) (by omega) (by simp; omega) ?_
            intro v2 w2 hown2 hgrow _ _
            have fin := Lib.hid (trel_step HR.out hown2 hgrow)
            clear hown2 hgrow hown HR)
          go_roundw
          case rel => exact ⟨k + 1, v2, _, by omega, by omega, by go_num, rfl, by rw [List.length_append, List.length_singleton]; omega, fin.out, HU2.out⟩
          case measure => simp [intOf]; omega
    · obtain rfl : k = s.size := by omega
      have hu : uq ((bs s).drop s.size) = (false, [], 0) := by
        rw [List.drop_of_length_le (by rw [bs_length]; omega)]
        rfl
      have HN : Hid (txt1 ((bs s).drop p) = (4, s.size - p, 0, [])) := by
        obtain ⟨g1, g2, g3⟩ := HU
        rw [hu] at g1 g2 g3
        exact txt1_bad s p _ hp g1 (by rw [g3]; simp only; omega)
      have HE := Lib.hid (t1Val_err p (s.size - p) 4 (by decide) (s.size : Int) (by omega))
      have hblk := hr.blk
      unfold zeroTok at hblk
      have c0 := cell_of_row wr w.heap.size 0 _ _ _ hblk
      have c1 := cell_of_row wr w.heap.size 1 _ _ _ hblk
      have c2 := cell_of_row wr w.heap.size 2 _ _ _ hblk
      have f0 := row_free wr w.heap.size 0 _ _ hblk
      have f1 := row_free wr w.heap.size 1 _ _ hblk
      have f2 := row_free wr w.heap.size 2 _ _ hblk
      have hlt := lt_of_block hblk
      have HB := Lib.hid hr.bel
      clear HU hr hu hblk hk
      go_wp2_with fail
      refine bodyPost_ret (v := .tuple #[.agg #[.int .u8 0, .string ⟨#[]⟩, .int .i64 0], .int .i64 (s.size : Int), .int .i64 4]) (by simp [results, Tryd.results25, go_sem, c0, c1, c2]) rfl ⟨?_, ((HB.out.setCell (Nat.le_refl _) _).setCell (Nat.le_refl _) _).setCell (Nat.le_refl _) _⟩
      rw [HN.out, HE.out]; rfl
end Go.Proofs.YtdpbjcdbdikenaaDoor
