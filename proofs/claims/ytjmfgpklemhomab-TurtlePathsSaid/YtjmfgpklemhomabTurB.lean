/- The turtle's walk: words for moves and places in memory; place, turned. -/
import Derived.Test.YtjmfgpklemhomabRows
import Derived.Test.YtjmfgpklemhomabTurF
import Derived.Test.YtjmfgpklemhomabTurP
import Derived.WalkKit
import Derived.WalkLawsBesides
import Derived.WalkSpells
import Derived.Outline
import Derived.Lib.Hide
import Derived.StillTactics
import Derived.OwnWalk
import Derived.OneCell
import Derived.Laws.Pointers
import Derived.Deep.RegionHeld3
import Derived.Deep.AppendLies
import Derived.Deep.LoopGhost
import Derived.Deep.DeepFit
import Derived.Deep.DeepMust
import Derived.Deep.QuietTactic
import Derived.BigQuiet
import Derived.Deep.Draws
namespace Go.Proofs.Ytjmfgpklemhomab
open Go.RowKit TurF TurP

theorem ret_int {k : IntKind} {a b : Int} (h : a = b) : Ending.returned (.int k a) = .returned (.int k b) := by rw [h]

/-- A complex number of whole parts, as a value. -/
def Cx (v : Value) (p : Pt) : Prop := ∃ re im, v = .complex .f64 re im ∧ IsC re im p.1 p.2

theorem f64_i64 {b : Nat} {n : Int} (h : Is b n) (hs : Sm n) (w : World) : (convert 53 2 (.float .f64 b)).run Try.prog w = .ok (.int .i64 n) w :=
  run_convert_float_int w _ _ _ _ _ _ (by kernel_rfl) (by kernel_rfl) (is_toInt h hs)

/-- A place as a value. -/
def Pl (p : Pt) : Value := .agg #[.int .i64 p.1, .int .i64 p.2]

set_option maxHeartbeats 1000000 in
theorem place (v : Value) (p : Pt) (w : World) (h : Cx v p) (h1 : Sm p.1) (h2 : Sm p.2) :
    Calls Try.prog 18 #[v] w fun e w' => e = .returned (Pl p) ∧ Below w.heap.size w w' := by
  obtain ⟨re, im, rfl, i1, i2⟩ := h
  have c1 := f64_i64 i1 h1
  have c2 := f64_i64 i2 h2
  go_enter Try.func18, Try.ntmps18
  go_wp2
  exact bodyPost_ret (v := Pl p) (by simp [results, Try.results18, go_sem, Pl]) rfl ⟨rfl, ((Below.refl _ _).alloc (Nat.le_refl _) _)⟩

theorem tmod4 (n : Int) : -3 ≤ n.tmod 4 ∧ n.tmod 4 ≤ 3 ∧ (n.tmod 4 + 4) % 4 = ((n % 4).toNat : Int) ∧ (n % 4).toNat ≤ 3 := by
  have h1 := Int.tmod_add_mul_tdiv n 4
  rcases Int.le_total 0 n with h | h
  · rw [Int.tmod_eq_emod_of_nonneg h]
    omega
  · have h2 : n.tmod 4 = -((-n) % 4) := by
      have := Int.neg_tmod (-n) 4
      rw [Int.neg_neg, (Int.tmod_eq_emod_of_nonneg (by omega) : (-n).tmod 4 = (-n) % 4)] at this
      exact this
    rw [h2]
    omega

/-- What turned leaves. -/
def Turned (d : Pt) (n : Int) (e : Ending) : Prop := ∃ v, e = .returned v ∧ Cx v (rot n d)

theorem unit_sm {d : Pt} (h : Unit4 d) : -1 ≤ d.1 ∧ d.1 ≤ 1 ∧ -1 ≤ d.2 ∧ d.2 ≤ 1 := by rcases h with rfl | rfl | rfl | rfl <;> simp

theorem sm_of {n : Int} (h : -4000000000000000 ≤ n) (k : n ≤ 4000000000000000) : Sm n := by unfold Sm; omega

/-- Once to the left. -/
theorem left1 {a b : Nat} {d : Pt} (h : IsC a b d.1 d.2) (hd : Unit4 d) : ∃ re im, cMulBits a b 0 4607182418800017408 = some (re, im) ∧ IsC re im (rot1 d).1 (rot1 d).2 := by
  have hs := unit_sm hd
  have := isC_mul h (⟨is_zero, is_one⟩ : IsC 0 4607182418800017408 0 1) (sm_of (by omega) (by omega)) (sm_of (by omega) (by omega)) (sm_of (by omega) (by omega)) (sm_of (by omega) (by omega)) (sm_of (by omega) (by omega)) (sm_of (by omega) (by omega))
  simpa [rot1] using this

set_option maxHeartbeats 1000000 in
set_option maxRecDepth 100000 in
theorem turned (v : Value) (d : Pt) (n : Int) (w : World) (h : Cx v d) (hd : Unit4 d) :
    Calls Try.prog 20 #[v, .int .i64 n] w fun e w' => Turned d n e ∧ w = w' := by
  obtain ⟨t0, t1, t2, t3⟩ := tmod4 n
  have T2 := Lib.hid t2
  clear t2
  generalize hK : (n % 4).toNat = K at *
  have HK := Lib.hid hK
  clear hK
  obtain ⟨re, im, rfl, hi⟩ := h
  go_enter Try.func20, Try.ntmps20
  go_wp2
  rw [T2.out]
  go_loop [0, 9] (fun c i => ∃ (k a b : Nat), k ≤ K ∧ i = .int .i64 k ∧ c = .complex .f64 a b ∧ IsC a b (rotN k d).1 (rotN k d).2) (fun _ i => K - (intOf i).toNat)
  case atStart => exact ⟨0, re, im, by omega, rfl, rfl, hi⟩
  case round =>
    obtain ⟨k, a, b, hk, rfl, rfl, hab⟩ := hrel
    by_cases hlt : k < K
    · obtain ⟨re', im', hm, hi'⟩ := left1 hab (unit_rotN hd k)
      have hr := fun w : World => run_complex_mul (P := Try.prog) w 47 _ _ _ _ _ _ hm
      clear hm
      go_wp2
      go_round
      case rel => exact ⟨k + 1, re', im', by omega, by go_num, rfl, hi'⟩
      case measure => simp [intOf]; omega
    · obtain rfl : k = K := by omega
      go_wp2
      go_ret
      exact ⟨⟨_, rfl, _, _, rfl, by unfold rot; rw [HK.out]; exact hab⟩, rfl⟩
end Go.Proofs.Ytjmfgpklemhomab
