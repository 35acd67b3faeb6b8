/- DrumNil: the law's walk. -/
import Derived.Test.YtoekgglgcolliaaDruJ
namespace Go.Proofs.Ytoekgglgcolliaa
open Go.RowKit

set_option maxHeartbeats 4000000 in
set_option maxRecDepth 100000 in
theorem nil_walk (i : Int) (p : Value) (l : List UInt8) (w : World) (_h0 : -9223372036854775808 ≤ i) (_h1 : i ≤ 9223372036854775807) (_rd : Rd w p l) (_hl : l.length ≤ 140737488351232) :
    Calls Try.prog 6 #[.int .i64 i, p] w fun e w' => e = .returned (.bool true) ∧ Below w.heap.size w w' := by
  clear _rd
  go_enter Try.func6, Try.ntmps6
  go_wp2_with fail
  refine (nil_read i w).mono ?_
  rintro e w' ⟨rfl, rfl⟩
  go_wp2_with fail
  refine (awake w).mono ?_
  rintro e w1 ⟨rfl, hb1⟩
  have HB1 := Lib.hid hb1
  clear hb1
  go_wp2_with fail
  refine (nil_append i p _).mono ?_
  rintro e w' ⟨rfl, rfl⟩
  go_wp2_with fail
  refine (nil_write i p _).mono ?_
  rintro e w' ⟨rfl, rfl⟩
  go_wp2_with fail
  refine (nil_sync i _).mono ?_
  rintro e w' ⟨rfl, rfl⟩
  go_wp2_with fail
  refine (nil_arm i _).mono ?_
  rintro e w' ⟨rfl, rfl⟩
  go_wp2_with fail
  refine (nil_restart _ _).mono ?_
  rintro e w' ⟨rfl, rfl⟩
  go_wp2_with fail
  refine (nil_on _).mono ?_
  rintro e w' ⟨rfl, rfl⟩
  go_wp2_with fail
  refine (nil_ops _).mono ?_
  rintro e w' ⟨rfl, rfl⟩
  go_wp2_with fail
  refine (nil_tracks _).mono ?_
  rintro e w' ⟨rfl, rfl⟩
  go_wp2_with fail
  refine (nil_most _).mono ?_
  rintro e w' ⟨rfl, rfl⟩
  go_wp2_with fail
  go_ret
  exact ⟨rfl, HB1.out⟩
end Go.Proofs.Ytoekgglgcolliaa
