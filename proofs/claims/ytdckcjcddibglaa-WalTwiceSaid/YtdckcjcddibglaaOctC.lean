/- Plain mathematics of the checksum: one step is linear; no program in sight. -/
import Derived.Test.YtdckcjcddibglaaOctM
namespace Go.Proofs.Ytdckcjcddibglaa.OctM

def poly : Nat := 2197175160

/-- One bit goes out. -/
def f (c : Nat) : Nat := c / 2 ^^^ (if c % 2 = 1 then poly else 0)

/-- Several go out. -/
def fs : Nat → Nat → Nat
  | 0, c => c
  | k + 1, c => fs k (f c)

/-- A byte comes in. -/
def st (c : Nat) (l : List UInt8) : Nat := l.foldl (fun c b => fs 8 (c ^^^ b.toNat)) c

/-- The checksum. -/
def sum (l : List UInt8) : Nat := 4294967295 - st 4294967295 l

theorem fs_succ (k c : Nat) : fs (k + 1) c = f (fs k c) := by
  induction k generalizing c with
  | zero => rfl
  | succ k ih => rw [fs, ih, fs]

theorem f_lt (c : Nat) (h : c < 4294967296) : f c < 4294967296 := by
  unfold f
  have h2 : (if c % 2 = 1 then poly else 0) < 2 ^ 32 := by split <;> decide
  exact Nat.xor_lt_two_pow (n := 32) (by omega) h2

theorem fs_lt (k c : Nat) (h : c < 4294967296) : fs k c < 4294967296 := by
  induction k generalizing c with
  | zero => exact h
  | succ k ih => exact ih _ (f_lt c h)

theorem xor_lt (a b : Nat) (ha : a < 4294967296) (hb : b < 4294967296) : a ^^^ b < 4294967296 := Nat.xor_lt_two_pow (n := 32) ha hb

theorem st_lt (c : Nat) (l : List UInt8) (h : c < 4294967296) : st c l < 4294967296 := by
  induction l generalizing c with
  | nil => exact h
  | cons b t ih =>
    have hb : b.toNat < 256 := b.toNat_lt
    exact ih _ (fs_lt 8 _ (xor_lt _ _ h (by omega)))

theorem st_snoc (c : Nat) (l : List UInt8) (b : UInt8) : st c (l ++ [b]) = fs 8 (st c l ^^^ b.toNat) := by simp [st, List.foldl_append]

theorem sum_lt (l : List UInt8) : sum l < 4294967296 := by unfold sum; omega

/-- The step as the program reckons it. -/
theorem step_mask (c : Nat) : c / 2 ^^^ (poly &&& ((4294967296 - c % 2) % 4294967296)) = f c := by
  unfold f
  rcases Nat.mod_two_eq_zero_or_one c with e | e
  · rw [e]; simp
  · rw [e]
    have : poly &&& ((4294967296 - 1) % 4294967296) = poly := by decide
    rw [this]; simp

end Go.Proofs.Ytdckcjcddibglaa.OctM
