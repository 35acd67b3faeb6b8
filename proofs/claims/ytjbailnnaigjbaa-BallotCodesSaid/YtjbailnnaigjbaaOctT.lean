/- The reference's Sum. -/
import Derived.Test.YtjbailnnaigjbaaOctG
import Derived.Test.YtjbailnnaigjbaaOctX
namespace Go.Proofs.Ytjbailnnaigjbaa
open Go.RowKit OctM

/-- One bit, as the reference reckons it. -/
theorem ref_step (c x : Nat) : (c / 2 ^^^ (if (c % 2 + x % 2) % 2 = 1 then poly else 0)) ^^^ (x / 2) = f (c ^^^ x) := by
  have h := f_xor c x
  rw [h]
  unfold f
  rcases Nat.mod_two_eq_zero_or_one c with hc | hc <;> rcases Nat.mod_two_eq_zero_or_one x with hx | hx <;> simp only [hc, hx]
  · simp
  · simp only [Nat.zero_ne_one, if_false, if_true, Nat.xor_zero]
    rw [Nat.xor_assoc, Nat.xor_comm poly]
  · simp only [Nat.zero_ne_one, if_false, if_true, Nat.xor_zero]
  · have : (1 + 1) % 2 = 0 := rfl
    rw [this]
    simp only [Nat.zero_ne_one, if_false, if_true, Nat.xor_zero]
    rw [Nat.xor_assoc, ← Nat.xor_assoc poly, Nat.xor_comm poly (x / 2), Nat.xor_assoc (x / 2), Nat.xor_self, Nat.xor_zero]

/-- The inner loop: behind k bits of b. -/
def Bits (c0 b k y : Nat) : Prop := y < 4294967296 ∧ y ^^^ (b / 2 ^ k) = fs k (c0 ^^^ b)

theorem bits_start (c0 b : Nat) (h : c0 < 4294967296) : Bits c0 b 0 c0 := ⟨h, by simp [fs]⟩
theorem bits_end {c0 b y : Nat} (h : Bits c0 b 8 y) (hb : b < 256) : y = fs 8 (c0 ^^^ b) := by
  have h2 := h.2
  rw [show (2 : Nat) ^ 8 = 256 from rfl, Nat.div_eq_of_lt hb, Nat.xor_zero] at h2
  exact h2
theorem bits_step {c0 b k y : Nat} (h : Bits c0 b k y) : Bits c0 b (k + 1) (y / 2 ^^^ (if (y % 2 + b / 2 ^ k % 2) % 2 = 1 then poly else 0)) := by
  refine ⟨?_, ?_⟩
  · have h2 : (if (y % 2 + b / 2 ^ k % 2) % 2 = 1 then poly else 0) < 4294967296 := by split <;> decide
    exact xor_lt _ _ (by have := h.1; omega) h2
  · rw [fs_succ, ← h.2, ← ref_step, Nat.pow_succ, Nat.div_div_eq_div_mul]

theorem low_int (y x : Nat) (hy : y < 4294967296) (hx : x < 256) : bits .xor .u32 (bits .and .u32 (y : Int) 1) (bits .and .u32 (x : Int) 1) = (((y % 2 + x % 2) % 2 : Nat) : Int) := by
  rw [show (1 : Int) = ((1 : Nat) : Int) from rfl, u32_and_nat y 1 hy (by omega), u32_and_nat x 1 (by omega) (by omega), nat_mask1, nat_mask1, u32_xor_nat _ _ (by omega) (by omega)]
  rcases Nat.mod_two_eq_zero_or_one y with h1 | h1 <;> rcases Nat.mod_two_eq_zero_or_one x with h2 | h2 <;> simp [h1, h2]

theorem poly_int (y : Nat) (hy : y < 4294967296) : bits .xor .u32 ((y : Int) / 2) 2197175160 = ((y / 2 ^^^ poly : Nat) : Int) := by
  rw [show (y : Int) / 2 = ((y / 2 : Nat) : Int) by omega, show (2197175160 : Int) = ((poly : Nat) : Int) from rfl, u32_xor_nat _ _ (by omega) (by decide)]

theorem refsummed {l : List UInt8} {x : Nat} (_hx : (x : Int) < 4294967296) (h : x = st 4294967295 l) : Summed l (.returned (.int .u32 (4294967295 - (x : Int)))) := by
  have hs := st_lt 4294967295 l (by omega)
  refine ⟨sum l, ?_, rfl⟩
  have e : (4294967295 - (x : Int)) = ((sum l : Nat) : Int) := by unfold sum; omega
  rw [e]

set_option maxHeartbeats 4000000 in
set_option maxRecDepth 100000 in
theorem refsum_row (b off c : Nat) (l : List UInt8) (w : World) (hn : l.length ≤ c) (hm : c ≤ maxLen) (hc : ∀ j u, l[j]? = some u → w.cell? ⟨b, off + j, none⟩ = some (B u)) :
    Calls Try.prog 56 #[.slice (some ⟨b, off, none⟩) l.length c] w fun e w' => Summed l e ∧ w = w' := by
  unfold maxLen at hm
  have Hc := Lib.hid hc
  clear hc
  go_enter Try.func56, Try.ntmps56
  go_wp2
  go_loop [3, 4] (fun s i => ∃ k x : Nat, k ≤ l.length ∧ i = .int .i64 k ∧ s = .int .u32 (x : Int) ∧ (x : Int) < 4294967296 ∧ Hid (x = st 4294967295 (l.take k))) (fun _ i => l.length - (intOf i).toNat)
  case atStart => exact ⟨0, 4294967295, by omega, rfl, rfl, by omega, rfl⟩
  case round =>
    obtain ⟨k, x, hk, rfl, rfl, hx, He⟩ := hrel
    by_cases hlt : k < l.length
    · have hcell := Hc.out k l[k] (by simp [hlt])
      have hb : l[k].toNat < 256 := l[k].toNat_lt
      unfold B at hcell
      have hxn : x < 4294967296 := by omega
      have start := bits_start x l[k].toNat hxn
      have fin : ∀ y, Bits x l[k].toNat 8 y → Hid (y = st 4294967295 (l.take (k + 1))) := fun y hy => st_hid hlt He (bits_end hy hb)
      have hd : decide ((k : Int) < (l.length : Int)) = true := by simp; omega
      have hlt' : (k : Int) < (l.length : Int) := by omega
      generalize hu : l[k].toNat = u at *
      clear hu
      have HF := Lib.hid fin
      have hu1 : (u : Int) < 256 := by omega
      have hb' := Lib.hid hb
      clear fin hxn hb
      go_wp2_with fail
      go_loop [3, 5, 6] (fun s i _ => ∃ q y : Nat, q ≤ 8 ∧ i = .int .i64 q ∧ s = .int .u32 (y : Int) ∧ (y : Int) < 4294967296 ∧ Hid (Bits x u q y)) (fun _ i _ => 8 - (intOf i).toNat)
      case atStart => exact ⟨0, x, by omega, rfl, rfl, hx, start⟩
      case round =>
        obtain ⟨q, y, hq, rfl, rfl, hy, Hy⟩ := hrel
        clear start
        by_cases hq8 : (q : Int) < 8
        · have hdq : decide ((q : Int) < 8) = true := by simpa using hq8
          have hnext := bits_step Hy.out
          have hxb : u / 2 ^ q < 256 := Nat.lt_of_le_of_lt (Nat.div_le_self _ _) hb'.out
          have hli := low_int y (u / 2 ^ q) (by omega) hxb
          have hpi := poly_int y (by omega)
          have ex : (u : Int) / 2 ^ q = ((u / 2 ^ q : Nat) : Int) := by rw [Int.natCast_ediv, Int.natCast_pow]; rfl
          have hnl := hnext.1
          generalize u / 2 ^ q = z at *
          have hz : (z : Int) < 256 := by omega
          have hyn : y % 2 ≤ 1 := by omega
          by_cases hlow : (y % 2 + z % 2) % 2 = 1
          · rw [hlow] at hli
            rw [if_pos hlow] at hnext hnl
            have HN := Lib.hid hnext
            have hnl' : ((y / 2 ^^^ poly : Nat) : Int) < 4294967296 := by omega
            have HPI := Lib.hid hpi
            clear hnext hnl hpi hlow hxb hyn
            go_wp2_with fail
            go_round
            case rel => exact ⟨q + 1, y / 2 ^^^ poly, by omega, by go_num, by rw [HPI.out], hnl', HN.out⟩
            case measure => simp [intOf]; omega
          · have hl0 : (y % 2 + z % 2) % 2 = 0 := by omega
            rw [hl0] at hli
            rw [if_neg hlow, Nat.xor_zero] at hnext hnl
            have HN := Lib.hid hnext
            have hnl' : ((y / 2 : Nat) : Int) < 4294967296 := by omega
            clear hnext hnl hpi hlow hxb hyn hl0
            go_wp2_with fail
            go_round
            case rel => exact ⟨q + 1, y / 2, by omega, by go_num, by go_num, hnl', HN.out⟩
            case measure => simp [intOf]; omega
        · have hdq : decide ((q : Int) < 8) = false := by simpa using hq8
          have hq' : q = 8 := by omega
          have hfin := HF.out y (by have := Hy.out; rw [hq'] at this; exact this)
          clear hq' Hy hq
          go_wp2_with fail
          go_round
          case rel => exact ⟨k + 1, y, by omega, by go_num, rfl, hy, hfin⟩
          case measure => simp [intOf]; omega
    · have hk2 : k = l.length := by omega
      have hd : decide (k < l.length) = false := by simpa using hlt
      have hd2 : decide ((k : Int) < (l.length : Int)) = false := by simpa using hlt
      have fin := He.out
      rw [hk2, List.take_length] at fin
      have HF := Lib.hid fin
      clear hk2 hlt hk fin He
      repeat go_step
      go_ret
      exact ⟨refsummed hx HF.out, rfl⟩

set_option maxHeartbeats 2000000 in
set_option maxRecDepth 100000 in
theorem refsum_empty (o : Option Addr) (c : Nat) (w : World) :
    Calls Try.prog 56 #[.slice o 0 c] w fun e w' => Summed [] e ∧ w = w' := by
  go_enter Try.func56, Try.ntmps56
  go_wp2
  go_loop [3, 4] (fun s i => i = .int .i64 0 ∧ s = .int .u32 4294967295) (fun _ _ => 0)
  case atStart => exact ⟨rfl, rfl⟩
  case round =>
    obtain ⟨rfl, rfl⟩ := hrel
    repeat go_step
    go_ret
    exact ⟨refsummed (l := []) (x := 4294967295) (by omega) rfl, rfl⟩

theorem refsum_any (v : Value) (l : List UInt8) (w : World) (h : Rd w v l) :
    Calls Try.prog 56 #[v] w fun e w' => Summed l e ∧ w = w' := by
  rcases h with ⟨rfl, rfl⟩ | ⟨a, c, rfl, hn, hm, hc⟩
  · exact refsum_empty _ _ w
  · rcases l with _ | ⟨x, t⟩
    · exact refsum_empty _ _ w
    · obtain ⟨b, off, spot⟩ := a
      have h0 := hc 0 x rfl
      obtain rfl : spot = none := by simpa [Addr.add] using World.cell?_spot h0
      exact refsum_row b off c (x :: t) w hn hm (fun j u hu => by rw [← add_none]; exact hc j u hu)

set_option maxHeartbeats 4000000 in
set_option maxRecDepth 100000 in
theorem refseal (p : Value) (l : List UInt8) (w : World) (h : Rd w p l) (hl : l.length ≤ 140737488351232) :
    Calls Try.prog 38 #[p] w fun e w' => ∃ v, e = .returned v ∧ Own w' w.heap.size v (sealed l) ∧ Below w.heap.size w w' := by
  obtain ⟨i0, hi0, hz0, hz1, hz2⟩ := info_parts u8info
  obtain ⟨v1, w1, hr1, ho1, hg1⟩ := append_own (l := []) (k := l) (World.ownsRow_nil w w.heap.size 5 1) h (by simp; omega) (Nat.le_refl _) 35
  rw [List.nil_append] at ho1
  have hb1 : Below w.heap.size w w1 := (Below.refl _ w).grown hg1 (Nat.le_refl _) (by intro k hk; simp [Value.ownBlock] at hk)
  have HR := Lib.hid hr1
  have start : ∀ n, SRel w w1 v1 l n 0 := fun n => ⟨by simpa using ho1, hb1⟩
  have HS := Lib.hid (refsum_any p l w1 (h.below hb1))
  obtain ⟨o, c, rfl⟩ : ∃ o c, p = .slice o l.length c := by
    rcases h with ⟨rfl, rfl⟩ | ⟨_, c, rfl, _⟩ <;> exact ⟨_, _, rfl⟩
  have h0 : (0 : Int) ≤ (l.length : Int) := by omega
  have h1 : (l.length : Int) ≤ 140737488351232 := by omega
  clear hr1 ho1 hg1 hb1 h
  go_enter Try.func38, Try.ntmps38
  go_wp2_with (at_builtin; refine wpList_append_known rfl (.tmp 6) (.tmp 7) 35 35 (by rfl) _ _ _ (by rfl) (by rfl) HR.out ?_)
  refine HS.out.mono ?_
  rintro e w' ⟨⟨n, rfl, hn⟩, rfl⟩
  have HN := Lib.hid hn
  have hnl : (n : Int) < 4294967296 := by rw [hn]; have := sum_lt l; omega
  clear hn
  go_wp2_with fail
  have start := start n
  go_loopw [3, 5] (fun x i wr => ∃ (j : Nat) (v : Value), j ≤ 4 ∧ i = .int .i64 j ∧ v = x ∧ SRel w wr v l n j) (fun _ i _ => 4 - (intOf i).toNat)
  case atStart => exact ⟨0, v1, by omega, rfl, rfl, start⟩
  case round =>
    clear start
    obtain ⟨j, x4, hj, rfl, rfl, hr⟩ := hrel
    by_cases hlt : (j : Int) < 4
    · have hd : decide ((j : Int) < 4) = true := by simpa using hlt
      have hb := hr.bel.size
      have hown := hr.own
      have hm0 : (0 : Int) ≤ 8 * (j : Int) := by omega
      have hm1 : 8 * (j : Int) ≤ 32 := by omega
      go_wp2_with (
        at_builtin
        refine wpList_append_own_at _ rfl (.tmp 15) (.tmp 21) 35 (by rfl) w.heap.size 5 i0 (.int .u8 0) 1 1 Try.underlying35 hi0 hz0 hz1 hz2 rfl (by omega) x4 (l.length + j) _ (by rfl) (hown.alloc _) ⟨wr.heap.size, 0, none⟩ 1 1 [.int .u8 ((n : Int) / 2 ^ (8 * j) % 256)] (by rfl) (by rfl) (cell_one_new wr _ _) (by simp [Value.oneCell']) (by unfold maxLen; omega) (by omega) (by simp; omega) ?_
        intro v2 w2 hown2 hgrow _ _
        have fin := srel_step hr (by omega) hown2 hgrow
        clear hown2 hgrow hown hr)
      go_roundw
      case rel => exact ⟨j + 1, v2, by omega, by go_num, rfl, fin⟩
      case measure => simp [intOf]; omega
    · have hd : decide ((j : Int) < 4) = false := by simpa using hlt
      obtain rfl : j = 4 := by omega
      have fin := srel_end hr HN.out
      have hb := hr.bel
      clear hr
      repeat go_step
      go_ret
      exact ⟨_, rfl, fin, hb⟩
end Go.Proofs.Ytjbailnnaigjbaa
