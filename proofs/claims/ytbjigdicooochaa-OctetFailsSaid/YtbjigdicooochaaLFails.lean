/- The law of faults: behind a fault, or Fail, nothing is read; a nil reader has a fault. -/
import Derived.Test.YtbjigdicooochaaOctP
namespace Go.Proofs.Ytbjigdicooochaa
open Go.RowKit OctM

theorem uintS_none : uintS none = (0, none) := rfl
theorem uptoS_none (m : Int) : uptoS none m = (0, none) := by unfold uptoS; split <;> rfl
theorem bytesS_none (m : Int) : bytesS none m = ([], none) := by unfold bytesS; rw [uptoS_none]; rfl
theorem unzig_zero : unzig 0 = 0 := by decide

theorem ruint0 (ptr : Option Addr) (w : World) (h : RS w ptr none) : Calls Try.prog 20 #[.pointer ptr] w fun e w' => e = .returned (.int .u64 0) ∧ RS w' ptr none ∧ Kept (own1 ptr) w w' :=
  (ruint ptr none w h).mono fun _ _ h => ⟨h.ret, h.st, h.kept⟩
theorem rint0 (ptr : Option Addr) (w : World) (h : RS w ptr none) : Calls Try.prog 21 #[.pointer ptr] w fun e w' => e = .returned (.int .i64 0) ∧ RS w' ptr none ∧ Kept (own1 ptr) w w' :=
  (rint ptr none w h).mono fun _ _ h => ⟨by have := h.ret; rw [uintS_none] at this; exact this, h.st, h.kept⟩
theorem rupto0 (ptr : Option Addr) (m : Int) (w : World) (h : RS w ptr none) (m0 : -9223372036854775808 ≤ m) (m1 : m ≤ 9223372036854775807) : Calls Try.prog 28 #[.pointer ptr, .int .i64 m] w fun e w' => e = .returned (.int .i64 0) ∧ RS w' ptr none ∧ Kept (own1 ptr) w w' :=
  (rupto ptr none m w h m0 m1).mono fun _ _ h => by rw [uptoS_none] at h; exact ⟨h.ret, h.st, h.kept⟩
theorem rtext0 (ptr : Option Addr) (m : Int) (w : World) (h : RS w ptr none) (m0 : -9223372036854775808 ≤ m) (m1 : m ≤ 9223372036854775807) : Calls Try.prog 23 #[.pointer ptr, .int .i64 m] w fun e w' => e = .returned (.string ⟨#[]⟩) ∧ RS w' ptr none ∧ Kept (own1 ptr) w w' :=
  (rtext ptr none m w h m0 m1).mono fun _ _ h => by rw [bytesS_none] at h; exact h
theorem rbytes0 (ptr : Option Addr) (m : Int) (w : World) (h : RS w ptr none) (m0 : -9223372036854775808 ≤ m) (m1 : m ≤ 9223372036854775807) : Calls Try.prog 22 #[.pointer ptr, .int .i64 m] w fun e w' => (∃ o c, e = .returned (.slice o 0 c)) ∧ RS w' ptr none ∧ Kept (own1 ptr) w w' :=
  (rbytes ptr none m w h m0 m1 (by rw [bytesS_none]; simp)).mono fun _ _ h => by
    rw [bytesS_none] at h
    obtain ⟨v, rfl, ho, hs, hk⟩ := h
    refine ⟨?_, hs, hk⟩
    rcases ho.2 with ⟨rfl, _⟩ | ⟨g, cap, cur, rfl, _⟩
    · exact ⟨_, _, rfl⟩
    · exact ⟨_, _, rfl⟩

theorem below_own1 {w w1 w2 : World} {ptr : Option Addr} (h : Below w.heap.size w w1) (hk : Kept (own1 ptr) w1 w2) (hp : ∀ a, ptr = some a → w.heap.size ≤ a.block) : Below w.heap.size w w2 :=
  h.trans (hk.below h.size (by rintro k ⟨a, ha, rfl⟩; exact hp a ha))

set_option maxHeartbeats 4000000 in
set_option maxRecDepth 100000 in
theorem fails_walk (v : Value) (l : List UInt8) (n : Int) (w : World) (h : Rd w v l) (hl : l.length ≤ 140737488351232) (m0 : -9223372036854775808 ≤ n) (m1 : n ≤ 9223372036854775807) :
    Calls Try.prog 7 #[v, .int .i64 n] w fun e w' => e = .returned (.bool true) ∧ Below w.heap.size w w' := by
  have H1 := Lib.hid (newReader v l w h (by omega))
  clear h
  go_enter Try.func7, Try.ntmps7
  go_wp2_with fail
  refine H1.out.mono ?_
  rintro e w1 ⟨b, rfl, hs1, hb1, hbb⟩
  have hp : ∀ a, (some ⟨b, 0, none⟩ : Option Addr) = some a → w.heap.size ≤ a.block := by rintro a ha; cases ha; exact hbb
  go_wp2_with fail
  refine (rfail _ _ w1 hs1).mono ?_
  rintro e w2 ⟨rfl, hs2, hk2⟩
  have hb2 := below_own1 hb1 hk2 hp
  clear hb1 hk2 hs1
  go_wp2_with fail
  refine (rfail none none w2 .nil).mono ?_
  rintro e w3 ⟨rfl, -, hk3⟩
  have hb3 := below_own1 hb2 hk3 (by simp)
  have hs3 : RS w3 (some ⟨b, 0, none⟩) none := hs2.below (hk3.below (Nat.le_refl _) (by rintro k ⟨a, ha, _⟩; cases ha))
  clear hb2 hk3 hs2
  go_wp2_with fail
  refine (awake w3).mono ?_
  rintro e w4 ⟨rfl, hb4'⟩
  have hs4 := hs3.below hb4'
  have hb4 : Below w.heap.size w w4 := hb3.trans (hb4'.mono hb3.size)
  clear hb3 hb4' hs3
  go_wp2_with fail
  refine (rbad _ _ w4 hs4).mono ?_
  rintro e w' ⟨rfl, rfl⟩
  go_wp2_with fail
  refine (rend _ _ w4 hs4).mono ?_
  rintro e w' ⟨rfl, rfl⟩
  go_wp2_with fail
  refine (ruint0 _ w4 hs4).mono ?_
  rintro e w5 ⟨rfl, hs5, hk5⟩
  have hb5 := below_own1 hb4 hk5 hp
  clear hb4 hk5 hs4
  go_wp2_with fail
  refine (rint0 _ w5 hs5).mono ?_
  rintro e w6 ⟨rfl, hs6, hk6⟩
  have hb6 := below_own1 hb5 hk6 hp
  clear hb5 hk6 hs5
  go_wp2_with fail
  refine (rbytes0 _ n w6 hs6 m0 m1).mono ?_
  rintro e w7 ⟨⟨o, c, rfl⟩, hs7, hk7⟩
  have hb7 := below_own1 hb6 hk7 hp
  clear hb6 hk7 hs6
  go_wp2_with fail
  refine (rbad none none w7 .nil).mono ?_
  rintro e w' ⟨rfl, rfl⟩
  go_wp2_with fail
  refine (rend none none w7 .nil).mono ?_
  rintro e w' ⟨rfl, rfl⟩
  go_wp2_with fail
  refine (ruint0 none w7 .nil).mono ?_
  rintro e w8 ⟨rfl, -, hk8⟩
  have hb8 := below_own1 hb7 hk8 (by simp)
  clear hb7 hk8
  go_wp2_with fail
  refine (rupto0 none n w8 .nil m0 m1).mono ?_
  rintro e w9 ⟨rfl, -, hk9⟩
  have hb9 := below_own1 hb8 hk9 (by simp)
  clear hb8 hk9
  go_wp2_with fail
  refine (rtext0 none n w9 .nil m0 m1).mono ?_
  rintro e w10 ⟨rfl, -, hk10⟩
  have hb10 := below_own1 hb9 hk10 (by simp)
  clear hb9 hk10
  go_wp2_with fail
  go_ret
  exact ⟨rfl, hb10⟩
end Go.Proofs.Ytbjigdicooochaa
