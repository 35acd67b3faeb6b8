/- Seal, Open, Equal: contracts. -/
import Derived.Test.YtdckcjcddibglaaOctE
import Derived.Laws.MakeOwn
namespace Go.Proofs.Ytdckcjcddibglaa
open Go.RowKit OctM

/-- The four bytes of a sum, the lowest first. -/
def le4 (n : Nat) : List UInt8 := [UInt8.ofNat n, UInt8.ofNat (n / 256), UInt8.ofNat (n / 65536), UInt8.ofNat (n / 16777216)]

/-- Bytes with their sum. -/
def sealed (l : List UInt8) : List UInt8 := l ++ le4 (sum l)

theorem sealed_length (l : List UInt8) : (sealed l).length = l.length + 4 := by simp [sealed, le4]

/-- An append to whatever row of the call's own. -/
theorem append_own {w : World} {base : Nat} {v s : Value} {l k : List UInt8} (hown : Own w base v l) (hs : Rd w s k) (hb : l.length + k.length ≤ 140737488355328) (hbase : base ≤ w.heap.size) (ty : TypeId) :
    ∃ v' w', (Builtin.append_ #[22, 22] ty #[v, s]).run Try.prog w = .ok v' w' ∧ Own w' base v' (l ++ k) ∧ w.grownBy w' v.ownBlock := by
  obtain ⟨i0, hi0, hz0, hz1, hz2⟩ := info_parts u8info
  rcases hs with ⟨rfl, rfl⟩ | ⟨a, c, rfl, hn, hm, hc⟩
  · exact ⟨v, w, run_append_owned_none (P := Try.prog) (w := w) base 22 ty 5 i0 1 Try.underlying22 hi0 _ _ _ hown, by simpa [Own] using hown, World.grownBy.refl w _⟩
  · obtain ⟨v', w', hr, h2, h3, _, _⟩ := run_append_own_at (P := Try.prog) w base 22 ty 5 i0 (.int .u8 0) 1 1 Try.underlying22 hi0 hz0 hz1 hz2 rfl (by decide) v l.length (Bs l) hown a k.length c (Bs k)
      (by rw [Bs_length, Nat.mul_one]) (fun j u hj => by
        obtain ⟨b, hb, rfl⟩ : ∃ b, k[j]? = some b ∧ B b = u := by simpa [Bs] using hj
        exact hc j b hb) (Bs_one k) (by unfold maxLen; omega) (by omega) hbase
    refine ⟨v', w', hr, ?_, h3⟩
    unfold Own
    rw [List.length_append, Bs_append]
    exact h2

theorem made (n : Nat) (hn : n ≤ 140737488355332) : ∃ cs : Array Value, cs.size = n ∧ ∀ W, (Instr.makeSlice 22 (.int .i64 0) (.int .i64 (n : Int))).run Try.prog W = .ok (.slice (some ⟨W.heap.size, 0, none⟩) 0 n) (W.alloc (.cells cs 5)) := by
  obtain ⟨i0, hi0, hz0, hz1, hz2⟩ := info_parts u8info
  have h := fun W => run_make (P := Try.prog) W 22 5 i0 (.int .u8 0) Try.underlying22 hi0 hz0 .i64 .i64 0 (n : Int) (by omega) (by omega) (by rw [hz2]; omega) (by omega)
  simp only [Int.toNat_natCast, hz1, Nat.mul_one] at h
  exact ⟨_, by simp [madeCells], h⟩

theorem le4_take (n j : Nat) (h : j < 4) : (le4 n).take (j + 1) = (le4 n).take j ++ [UInt8.ofNat (n / 256 ^ j)] := by
  match j, h with
  | 0, _ => simp [le4]
  | 1, _ => simp [le4]
  | 2, _ => simp [le4]
  | 3, _ => simp [le4]

theorem le4_byte (n j : Nat) : (n : Int) / 2 ^ (8 * j) % 256 = ((UInt8.ofNat (n / 256 ^ j)).toNat : Int) := by
  have h := dig_int n j
  rw [show (8 * (j : Int)).toNat = 8 * j by omega, IntKind.wrap_u8] at h
  rw [dig] at h
  omega

/-- Behind the bytes and j of the sum's. -/
structure SRel (w wr : World) (v : Value) (l : List UInt8) (n j : Nat) : Prop where
  own : wr.ownsRow w.heap.size 5 1 v (l.length + j) (Bs (l ++ (le4 n).take j))
  bel : Below w.heap.size w wr

theorem srel_step {w wr w2 : World} {v v2 : Value} {l : List UInt8} {n j : Nat} (hr : SRel w wr v l n j) (hj : j < 4)
    (h2 : w2.ownsRow w.heap.size 5 1 v2 (l.length + j + 1) (Bs (l ++ (le4 n).take j) ++ [.int .u8 ((n : Int) / 2 ^ (8 * j) % 256)]))
    (hg : (wr.alloc (.cells #[.int .u8 ((n : Int) / 2 ^ (8 * j) % 256)] 5)).grownBy w2 v.ownBlock) : SRel w w2 v2 l n (j + 1) := by
  refine ⟨?_, ?_⟩
  · rw [le4_take n j hj, ← List.append_assoc, Bs_append]
    rw [le4_byte] at h2
    exact h2
  · have hs := hr.bel.size
    exact (hr.bel.alloc hs _).grown hg (by simp; omega) (fun k hk => (hr.own.lt k hk).1)

theorem srel_end {w wr : World} {v : Value} {l : List UInt8} {n : Nat} (hr : SRel w wr v l n 4) (hn : n = sum l) : Own wr w.heap.size v (sealed l) := by
  have h := hr.own
  have e : (le4 n).take 4 = le4 n := rfl
  rw [e, hn] at h
  unfold Own
  rw [sealed_length]
  exact h

set_option maxHeartbeats 4000000 in
set_option maxRecDepth 100000 in
theorem sealC (p : Value) (l : List UInt8) (w : World) (h : Rd w p l) (hl : l.length ≤ 140737488351232) :
    Calls Try.prog 44 #[p] w fun e w' => ∃ v, e = .returned v ∧ Own w' w.heap.size v (sealed l) ∧ Below w.heap.size w w' := by
  obtain ⟨i0, hi0, hz0, hz1, hz2⟩ := info_parts u8info
  have HS := Lib.hid (sum_any p l w h)
  obtain ⟨cs, hcs, hmk⟩ := made (l.length + 4) (by omega)
  have e4 : ((l.length + 4 : Nat) : Int) = (l.length : Int) + 4 := by omega
  rw [e4] at hmk
  have hmk' := hmk w
  clear hmk
  obtain ⟨v1, w1, hr1, ho1, hg1⟩ := append_own (l := []) (k := l) (World.ownsRow_made w cs (l.length + 4) (Nat.le_refl _) (by unfold maxLen; omega) (by rw [hcs, Nat.mul_one])) (h.below ((Below.refl _ w).alloc (Nat.le_refl _) (.cells cs 5))) (by simp; omega) (by simp) 22
  rw [List.nil_append] at ho1
  have hb1 : Below w.heap.size w w1 := ((Below.refl _ w).alloc (Nat.le_refl _) _).grown hg1 (by simp) (by intro k hk; simp [Value.ownBlock] at hk; omega)
  have HR := Lib.hid hr1
  have start : ∀ n, SRel w w1 v1 l n 0 := fun n => ⟨by simpa using ho1, hb1⟩
  obtain ⟨o, c, rfl⟩ : ∃ o c, p = .slice o l.length c := by
    rcases h with ⟨rfl, rfl⟩ | ⟨_, c, rfl, _⟩ <;> exact ⟨_, _, rfl⟩
  have h0 : (0 : Int) ≤ (l.length : Int) := by omega
  have h1 : (l.length : Int) ≤ 140737488351232 := by omega
  clear hcs hr1 ho1 hg1 hb1 h e4
  go_enter Try.func44, Try.ntmps44
  go_wp2_with fail
  refine HS.out.mono ?_
  rintro e w' ⟨⟨n, rfl, hn⟩, rfl⟩
  have HN := Lib.hid hn
  have hnl : (n : Int) < 4294967296 := by rw [hn]; have := sum_lt l; omega
  clear hn
  go_wp2_with (at_builtin; refine wpList_append_known rfl (.tmp 12) (.tmp 13) 22 22 (by rfl) _ _ _ (by rfl) (by rfl) HR.out ?_)
  have start := start n
  go_loopw [4, 15] (fun x i wr => ∃ (j : Nat) (v : Value), j ≤ 4 ∧ i = .int .i64 j ∧ v = x ∧ SRel w wr v l n j) (fun _ i _ => 4 - (intOf i).toNat)
  case atStart => exact ⟨0, v1, by omega, rfl, rfl, start⟩
  case round =>
    clear start
    obtain ⟨j, x4, hj, rfl, rfl, hr⟩ := hrel
    by_cases hlt : (j : Int) < 4
    · have hd : decide ((j : Int) < 4) = true := by simpa using hlt
      have hb := hr.bel.size
      have hown := hr.own
      have hm0 : (0 : Int) ≤ 8 * (j : Int) := by omega
      have hm1 : 8 * (j : Int) ≤ 32 := by omega
      go_wp2_with (
        at_builtin
        go_must (refine wpList_append_own_at _ rfl (.tmp 18) (.tmp 24) 22 (by rfl) w.heap.size 5 i0 (.int .u8 0) 1 1 Try.underlying22 hi0 hz0 hz1 hz2 rfl (by omega) x4 (l.length + j) _ (by rfl) (hown.alloc _) ⟨wr.heap.size, 0, none⟩ 1 1 [.int .u8 ((n : Int) / 2 ^ (8 * j) % 256)] (by rfl) (by rfl) (cell_one_new wr _ _) (by simp [Value.oneCell']) (by unfold maxLen; omega) (by omega) (by simp; omega) ?_)
        intro v2 w2 hown2 hgrow _ _
        have fin := srel_step hr (by omega) hown2 hgrow
        clear hown2 hgrow hown hr)
      go_roundw
      case rel => exact ⟨j + 1, v2, by omega, by go_num, rfl, fin⟩
      case measure => simp [intOf]; omega
    · have hd : decide ((j : Int) < 4) = false := by simpa using hlt
      obtain rfl : j = 4 := by omega
      have fin := srel_end hr HN.out
      have hb := hr.bel
      clear hr
      repeat go_step
      go_ret
      exact ⟨_, rfl, fin, hb⟩
end Go.Proofs.Ytdckcjcddibglaa
