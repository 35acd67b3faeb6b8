/- The law's helpers: open, same. -/
import Derived.Test.YtonahfpnlaolpaaStoJ
namespace Go.Proofs.Ytonahfpnlaolpaa
open Go.RowKit OctM

theorem opened_new (most : Nat) : opened (new 3 most) = ⟨new 3 most, 1, 2, zs⟩ := by
  unfold opened
  show (if (rdS []).ix < (rdS []).ix then _ else (⟨new 3 most, 1, 2, rdS []⟩ : Ss)) = _
  rw [rdS_nil, if_neg (by omega)]

set_option maxHeartbeats 2000000 in
set_option maxRecDepth 100000 in
theorem sopen_any (most : Nat) (w : World) (h3 : 1 ≤ most) (h4 : most ≤ 1048576) :
    Calls Try.prog 20 #[.int .i64 (most : Int)] w fun e w' => ∃ D T St, e = .returned (.tuple #[.pointer (some ⟨D, 0, none⟩), .pointer (some ⟨St, 0, none⟩)]) ∧ SAt w' (fun k => w.heap.size ≤ k ∧ k < w'.heap.size) St D T ⟨new 3 most, 1, 2, zs⟩ ∧ Below w.heap.size w w' ∧ w.heap.size ≤ T := by
  have H1 := Lib.hid (dt_new 3 most w (by omega) (by omega) h3 h4)
  have e3 : ((3 : Nat) : Int) = 3 := rfl
  rw [e3] at H1
  clear e3
  go_enter Try.func20, Try.ntmps20
  go_wp2_with fail
  refine H1.out.mono ?_
  rintro e w1 ⟨D, T, rfl, hd1, hb1, hT⟩
  have H2 := Lib.hid (open_on w1 hd1 (fun k hk => hk.2) rfl rfl)
  have hs1 := hb1.size
  have HB1 := Lib.hid hb1
  clear hb1 hd1
  go_wp2_with fail
  refine H2.out.mono ?_
  rintro e w2 ⟨St, rfl, hs2, hb2⟩
  rw [opened_new] at hs2
  have hz2 := hb2.size
  have hl2 : ∀ k, Fr (fun k => w.heap.size ≤ k ∧ k < w1.heap.size) w1 w2 k → w.heap.size ≤ k ∧ k < w2.heap.size := fun k hk => by
    rcases hk with hk | hk <;> omega
  have FIN := Lib.hid (hs2.block (R' := fun k => w.heap.size ≤ k ∧ k < w2.heap.size) (fun _ _ => rfl) (Nat.le_refl _) hl2 (fun k hk => hk.2))
  have HB2 := Lib.hid (HB1.out.trans (hb2.mono hs1))
  clear hs2 hb2 hl2 H1 H2
  go_wp2_with fail
  go_ret2
  exact ⟨D, T, St, rfl, FIN.out, HB2.out, hT⟩

def sameB (a b : Sn) : Bool := decide (a.ix = b.ix) && (decide (a.tm = b.tm) && decide (a.dat = b.dat))
theorem sameB_self (a : Sn) : sameB a a = true := by simp [sameB]

set_option maxHeartbeats 4000000 in
set_option maxRecDepth 100000 in
theorem same_any (a b : Sn) (va vb : Value) (w : World) (ha : Rd w va a.dat) (hb : Rd w vb b.dat) :
    Calls Try.prog 25 #[snV a va, snV b vb] w fun e w' => e = .returned (.bool (sameB a b)) ∧ Below w.heap.size w w' := by
  obtain ⟨oa, ca, rfl⟩ : ∃ o c, va = .slice o a.dat.length c := by
    rcases ha with ⟨rfl, h⟩ | ⟨_, c, rfl, _⟩
    · rw [h]; exact ⟨_, _, rfl⟩
    · exact ⟨_, _, rfl⟩
  obtain ⟨ob, cb, rfl⟩ : ∃ o c, vb = .slice o b.dat.length c := by
    rcases hb with ⟨rfl, h⟩ | ⟨_, c, rfl, _⟩
    · rw [h]; exact ⟨_, _, rfl⟩
    · exact ⟨_, _, rfl⟩
  obtain ⟨ai, at', al⟩ := a
  obtain ⟨bi, bt, bl⟩ := b
  have HE : Hid (sameB ⟨ai, at', al⟩ ⟨bi, bt, bl⟩ = (decide (ai = bi) && (decide (at' = bt) && decide (al = bl)))) := rfl
  have h2 : Below w.heap.size w ((w.alloc (.cells #[.int .u64 (ai : Int), .int .u64 (at' : Int), .slice oa al.length ca] 55)).alloc (.cells #[.int .u64 (bi : Int), .int .u64 (bt : Int), .slice ob bl.length cb] 55)) := ((Below.refl _ _).alloc (Nat.le_refl _) _).alloc (by simp) _
  have ta := toStr (ha.below h2)
  have tb := toStr (hb.below h2)
  have H2 := Lib.hid h2
  unfold S at ta tb
  unfold snV
  clear ha hb h2
  dsimp only at *
  by_cases h0 : ai = bi
  · subst h0
    have d0 : ((ai : Int) == ai) = true := by simp
    by_cases h1 : at' = bt
    · subst h1
      have d1 : ((at' : Int) == at') = true := by simp
      by_cases h2 : al = bl
      · subst h2
        have HE2 : Hid (sameB ⟨ai, at', al⟩ ⟨ai, at', al⟩ = true) := sameB_self _
        clear HE
        go_enter Try.func25, Try.ntmps25
        go_wp2_with fail
        go_ret
        rw [HE2.out]
        exact ⟨rfl, H2.out⟩
      · have d2 : (al == bl) = false := by simp [h2]
        have HE2 : Hid (sameB ⟨ai, at', al⟩ ⟨ai, at', bl⟩ = false) := by
          have : sameB ⟨ai, at', al⟩ ⟨ai, at', bl⟩ = false := by simp [sameB, h2]
          exact this
        clear HE
        go_enter Try.func25, Try.ntmps25
        go_wp2_with fail
        go_ret
        rw [HE2.out]
        exact ⟨rfl, H2.out⟩
    · have d1 : ((at' : Int) == bt) = false := by simp; omega
      have HE2 : Hid (sameB ⟨ai, at', al⟩ ⟨ai, bt, bl⟩ = false) := by
        have : sameB ⟨ai, at', al⟩ ⟨ai, bt, bl⟩ = false := by simp [sameB, h1]
        exact this
      clear HE
      go_enter Try.func25, Try.ntmps25
      go_wp2_with fail
      go_ret
      rw [HE2.out]
      exact ⟨rfl, H2.out⟩
  · have d0 : ((ai : Int) == bi) = false := by simp; omega
    have HE2 : Hid (sameB ⟨ai, at', al⟩ ⟨bi, bt, bl⟩ = false) := by
      have : sameB ⟨ai, at', al⟩ ⟨bi, bt, bl⟩ = false := by simp [sameB, h0]
      exact this
    clear HE
    go_enter Try.func25, Try.ntmps25
    go_wp2_with fail
    go_ret
    rw [HE2.out]
    exact ⟨rfl, H2.out⟩
end Go.Proofs.Ytonahfpnlaolpaa
