/- Sum: contracts. -/
import Derived.Test.YtdckcjcddibglaaOctD
import Derived.Test.YtdckcjcddibglaaOctC
namespace Go.Proofs.Ytdckcjcddibglaa
open Go.RowKit OctM

theorem step_int (x : Nat) (hx : (x : Int) < 4294967296) :
    bits .xor .u32 ((x : Int) / 2) (bits .and .u32 2197175160 (-bits .and .u32 (x : Int) 1 % 4294967296)) = ((f x : Nat) : Int) := by
  have e1 : bits .and .u32 (x : Int) 1 = ((x % 2 : Nat) : Int) := by
    rw [show (1 : Int) = ((1 : Nat) : Int) from rfl, u32_and_nat x 1 (by omega) (by omega), nat_mask1]
  have e2 : (-((x % 2 : Nat) : Int)) % 4294967296 = (((4294967296 - x % 2) % 4294967296 : Nat) : Int) := by omega
  rw [e1, e2, show (2197175160 : Int) = ((poly : Nat) : Int) from rfl, u32_and_nat poly _ (by decide) (by omega)]
  have e3 : (x : Int) / 2 = ((x / 2 : Nat) : Int) := by omega
  have hp : poly &&& ((4294967296 - x % 2) % 4294967296) < 4294967296 := Nat.lt_of_le_of_lt Nat.and_le_left (by decide)
  rw [e3, u32_xor_nat _ _ (by omega) hp, step_mask]

theorem step_hid {x k S : Nat} (h : Hid (x = fs k S)) : Hid (f x = fs (k + 1) S) := by
  have := h.out
  show f x = fs (k + 1) S
  rw [fs_succ, this]

/-- What eight bits of a sum leave. -/
def Div (S : Nat) (e : Ending) : Prop := ∃ x : Nat, e = .returned (.int .u32 (x : Int)) ∧ x = fs 8 S

set_option maxHeartbeats 2000000 in
set_option maxRecDepth 100000 in
theorem divide (s : Int) (w : World) (h0 : 0 ≤ s) (h1 : s < 4294967296) :
    Calls Try.prog 60 #[.int .u32 s] w fun e w' => Div s.toNat e ∧ w = w' := by
  obtain ⟨S, rfl⟩ := Int.eq_ofNat_of_zero_le h0
  rw [Int.toNat_natCast]
  go_enter Try.func60, Try.ntmps60
  go_wp2
  go_loop [0, 3] (fun c i => ∃ k x : Nat, k ≤ 8 ∧ i = .int .i64 k ∧ c = .int .u32 (x : Int) ∧ (x : Int) < 4294967296 ∧ Hid (x = fs k S)) (fun _ i => 8 - (intOf i).toNat)
  case atStart => exact ⟨0, S, by omega, rfl, rfl, h1, rfl⟩
  case round =>
    obtain ⟨k, x, hk, rfl, rfl, hx, He⟩ := hrel
    by_cases hlt : (k : Int) < 8
    · have hd : decide ((k : Int) < 8) = true := by simpa using hlt
      go_wp2
      go_round
      case rel => exact ⟨k + 1, f x, by omega, by go_num, by rw [step_int x hx], by have := f_lt x (by omega); omega, step_hid He⟩
      case measure => simp [intOf]; omega
    · have hd : decide ((k : Int) < 8) = false := by simpa using hlt
      obtain rfl : k = 8 := by omega
      go_wp2
      go_ret
      exact ⟨⟨x, rfl, He.out⟩, rfl⟩

/-- The checksum of bytes. -/
def Summed (l : List UInt8) (e : Ending) : Prop := ∃ x : Nat, e = .returned (.int .u32 (x : Int)) ∧ x = sum l

theorem st_hid {l : List UInt8} {k x y : Nat} (hk : k < l.length) (h : Hid (x = st 4294967295 (l.take k))) (hy : y = fs 8 (x ^^^ l[k].toNat)) : Hid (y = st 4294967295 (l.take (k + 1))) := by
  have := h.out
  show y = _
  rw [List.take_succ_eq_append_getElem hk, st_snoc, hy, this]

theorem summed_of {l : List UInt8} {k x : Nat} (hx : (x : Int) < 4294967296) (h : Hid (x = st 4294967295 (l.take k))) (hk : Hid (k = l.length)) :
    Summed l (.returned (.int .u32 (bits .xor .u32 (if IntKind.u32.signed = true then -1 else IntKind.u32.max) (x : Int)))) := by
  have e : (if IntKind.u32.signed = true then -1 else IntKind.u32.max) = ((4294967295 : Nat) : Int) := by decide
  have h1 := xor_ones 32 x (by omega)
  rw [show (2 : Nat) ^ 32 - 1 = 4294967295 from rfl] at h1
  rw [e, u32_xor_nat _ _ (by omega) (by omega), Nat.xor_comm, h1]
  have h2 := h.out
  rw [hk.out, List.take_length] at h2
  exact ⟨_, rfl, by unfold sum; rw [← h2]; omega⟩

set_option maxHeartbeats 2000000 in
set_option maxRecDepth 100000 in
theorem sum_row (b off c : Nat) (l : List UInt8) (w : World) (hn : l.length ≤ c) (hm : c ≤ maxLen) (hc : ∀ j u, l[j]? = some u → w.cell? ⟨b, off + j, none⟩ = some (B u)) :
    Calls Try.prog 55 #[.slice (some ⟨b, off, none⟩) l.length c] w fun e w' => Summed l e ∧ w = w' := by
  unfold maxLen at hm
  have Hc := Lib.hid hc
  clear hc
  go_enter Try.func55, Try.ntmps55
  go_wp2
  go_loop [3, 8] (fun s i => ∃ k x : Nat, k ≤ l.length ∧ i = .int .i64 k ∧ s = .int .u32 (x : Int) ∧ (x : Int) < 4294967296 ∧ Hid (x = st 4294967295 (l.take k))) (fun _ i => l.length - (intOf i).toNat)
  case atStart => exact ⟨0, 4294967295, by omega, rfl, rfl, by omega, rfl⟩
  case round =>
    obtain ⟨k, x, hk, rfl, rfl, hx, He⟩ := hrel
    by_cases hlt : k < l.length
    · have hcell := Hc.out k l[k] (by simp [hlt])
      have hb : (l[k].toNat : Int) < 256 := by have := l[k].toNat_lt; omega
      unfold B at hcell
      generalize hu : l[k].toNat = u at *
      have Hu := Lib.hid hu
      clear hu
      go_wp2_with fail
      have hxu := xor_lt x u (by omega) (by omega)
      rw [u32_xor_nat x u (by omega) (by omega)]
      refine (divide _ w (by omega) (by omega)).mono ?_
      rintro e w' ⟨⟨y, rfl, hy⟩, rfl⟩
      rw [Int.toNat_natCast] at hy
      have hyl := fs_lt 8 _ hxu
      rw [← hy] at hyl
      have hyl' : (y : Int) < 4294967296 := by omega
      have fin := st_hid hlt He (y := y) (by rw [Hu.out]; exact hy)
      clear hy hyl hxu
      go_wp2_with fail
      go_round
      case rel => exact ⟨k + 1, y, by omega, by go_num, rfl, hyl', fin⟩
      case measure => simp [intOf]; omega
    · have hk2 : k = l.length := by omega
      have hd : decide (k < l.length) = false := by simpa using hlt
      have hd2 : decide ((k : Int) < (l.length : Int)) = false := by simpa using hlt
      have Hk2 := Lib.hid hk2
      clear hk2 hlt hk
      repeat go_step
      go_ret
      exact ⟨summed_of hx He Hk2, rfl⟩

set_option maxHeartbeats 2000000 in
set_option maxRecDepth 100000 in
theorem sum_empty (o : Option Addr) (c : Nat) (w : World) :
    Calls Try.prog 55 #[.slice o 0 c] w fun e w' => Summed [] e ∧ w = w' := by
  go_enter Try.func55, Try.ntmps55
  go_wp2
  go_loop [3, 8] (fun s i => i = .int .i64 0 ∧ s = .int .u32 4294967295) (fun _ _ => 0)
  case atStart => exact ⟨rfl, rfl⟩
  case round =>
    obtain ⟨rfl, rfl⟩ := hrel
    repeat go_step
    go_ret
    exact ⟨summed_of (l := []) (k := 0) (x := 4294967295) (by omega) rfl rfl, rfl⟩

theorem sum_any (v : Value) (l : List UInt8) (w : World) (h : Rd w v l) :
    Calls Try.prog 55 #[v] w fun e w' => Summed l e ∧ w = w' := by
  rcases h with ⟨rfl, rfl⟩ | ⟨a, c, rfl, hn, hm, hc⟩
  · exact sum_empty _ _ w
  · rcases l with _ | ⟨x, t⟩
    · exact sum_empty _ _ w
    · obtain ⟨b, off, spot⟩ := a
      have h0 := hc 0 x rfl
      obtain rfl : spot = none := by simpa [Addr.add] using World.cell?_spot h0
      exact sum_row b off c (x :: t) w hn hm (fun j u hu => by rw [← add_none]; exact hc j u hu)
end Go.Proofs.Ytdckcjcddibglaa
