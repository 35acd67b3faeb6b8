/- The law of order. -/
import Derived.Test.YtbjigdicooochaaOctA
import Derived.Test.YtbjigdicooochaaOctO
import Derived.Deep.RegionWith
namespace Go.Proofs.Ytbjigdicooochaa
open Go.RowKit OctM

theorem WAt.drew {w : World} {b base : Nat} {v : Value} {l : List UInt8} (h : WAt w b base v l) : WAt w.drew b base v l := ⟨h.cell, h.own⟩

theorem toStr' {w : World} {v : Value} {l : List UInt8} {base : Nat} (h : Own w base v l) : (convert 25 9 v).run Try.prog w = .ok (.string ⟨l.toArray⟩) w := toStr (Rd.of_own h)

theorem own_below {w w' : World} {base n : Nat} {v : Value} {l : List UInt8} (h : Own w base v l) (hb : Below n w w') (hn : w.heap.size ≤ n) : Own w' base v l :=
  own_kept h (S := fun k => n ≤ k) (Below.kept hb fun _ h _ => h) (fun k hk => by have := (h.lt k hk).2; simp; omega)

/-- What was laid of a number is as it was behind another writer's call. -/
theorem own_wpost {w w' : World} {b base' : Nat} {v u : Value} {l : List UInt8} (h : Own w base' u l) (hk : Kept (two b v) w w') (hb : b < base') (hv : v.ownBlock = none) : Own w' base' u l :=
  own_kept h hk (fun k hk => by have := (h.lt k hk).1; simp only [two, hv]; rintro (h | h); omega; cases h)

theorem order_fin (a b : Int) (a0 : 0 ≤ a) (a1 : a ≤ 18446744073709551615) (b0 : 0 ≤ b) (b1 : b ≤ 18446744073709551615) : (Op.bytesLess (enc a.toNat) (enc b.toNat) == decide (a < b)) = true := by
  rw [enc_less a.toNat b.toNat (by omega) (by omega)]
  simp only [beq_iff_eq, decide_eq_decide]
  omega

set_option maxHeartbeats 4000000 in
set_option maxRecDepth 100000 in
theorem order_walk (a b : Int) (w : World) (a0 : 0 ≤ a) (a1 : a ≤ 18446744073709551615) (b0 : 0 ≤ b) (b1 : b ≤ 18446744073709551615) :
    Calls Try.prog 8 #[.int .u64 a, .int .u64 b] w fun e w' => e = .returned (.bool true) ∧ Below w.heap.size w w' := by
  go_enter Try.func8, Try.ntmps8
  go_wp2_with fail
  refine (awake w).mono ?_
  rintro e w0 ⟨rfl, hb0⟩
  have hA : WAt ((w0.alloc (.cells #[.slice none 0 0] 27)).alloc (.cells #[.slice none 0 0] 27)) w0.heap.size w0.heap.size (.slice none 0 0) [] :=
    wnew ((Below.heap_alloc _ _ _ (by simp)).trans (heap_alloc_new w0 _)) _
  have hB : WAt ((w0.alloc (.cells #[.slice none 0 0] 27)).alloc (.cells #[.slice none 0 0] 27)) (w0.heap.size + 1) w0.heap.size (.slice none 0 0) [] :=
    wnew (by have := heap_alloc_new (w0.alloc (.cells #[.slice none 0 0] 27)) (.cells #[.slice none 0 0] 27); simpa using this) _
  have hsz : ((w0.alloc (.cells #[.slice none 0 0] 27)).alloc (.cells #[.slice none 0 0] 27)).heap.size = w0.heap.size + 2 := by simp
  have hbel : Below w.heap.size w ((w0.alloc (.cells #[.slice none 0 0] 27)).alloc (.cells #[.slice none 0 0] 27)) := by
    have := hb0.size
    exact (hb0.alloc this _).alloc (by simp; omega) _
  go_wp2_with fail
  have hs0 := hb0.size
  generalize (w0.alloc (.cells #[.slice none 0 0] 27)).alloc (.cells #[.slice none 0 0] 27) = W at *
  have Hsz := Lib.hid hsz
  clear hsz
  generalize w0.heap.size = A at *
  clear hb0
  have hAB1 : A < A + 1 := by omega
  have hAB2 : A + 1 < A + 2 := by omega
  generalize A + 1 = D at *
  go_region_with (first
    | (go_at_call_of 11 (Value.pointer (some ⟨A, 0, none⟩))
       refine (wuint A A _ [] a _ a0 a1 hA.drew (by have := Hsz.out; show A ≤ W.heap.size; omega) (by simp)).mono ?_
       rintro e w1 ⟨rfl, ⟨v1, hA1, -⟩, hk1⟩
       have hB1 := hB.drew.kept hk1 (by simp [two, Value.ownBlock]; omega) (by simp [Value.ownBlock])
       have hbel1 : Below w.heap.size w w1 := hbel.drew.trans (hk1.below (by have := Hsz.out; show w.heap.size ≤ W.heap.size; omega) (by simp [two, Value.ownBlock]; omega))
       have hs1 : A + 2 ≤ w1.heap.size := by have h := hk1.size; have := Hsz.out; simp only [World.drew] at h; omega
       clear hk1)
    | (go_at_call_of 18 (Value.pointer (some ⟨A, 0, none⟩))
       refine (wdone _ _ _ _ _ hA1 (by simp [enc_length]; have := nd_le a.toNat; omega)).mono ?_
       rintro e w2 ⟨v2, rfl, ho2, hb2⟩
       have ht2 := toStr' ho2
       have hs2 := hb2.size
       have hB2 := hB1.below hb2
       have hbel2 : Below w.heap.size w w2 := hbel1.trans (hb2.mono (by omega))
       clear hb2 hB1 hbel1 hA1)
    | (go_at_call_of 11 (Value.pointer (some ⟨D, 0, none⟩))
       go_must (refine (wuint D A _ [] b _ b0 b1 hB2 (by omega) (by simp)).mono ?_)
       rintro e w3 ⟨rfl, ⟨v3, hB3, -⟩, hk3⟩
       have ho3 := own_wpost ho2 hk3 (by omega) rfl
       have ht3 := toStr' ho3
       have hs3 := hk3.size
       have hbel3 : Below w.heap.size w w3 := hbel2.trans (hk3.below (by omega) (by simp [two, Value.ownBlock]; omega))
       clear hk3 hB2 hbel2 ho2)
    | (go_at_call_of 18 (Value.pointer (some ⟨D, 0, none⟩))
       refine (wdone _ _ _ _ _ hB3 (by simp [enc_length]; have := nd_le b.toNat; omega)).mono ?_
       rintro e w4 ⟨v4, rfl, ho4, hb4⟩
       have ht4 := toStr' ho4
       have ht4' := toStr' (own_below ho3 hb4 (Nat.le_refl _))
       have hbel4 : Below w.heap.size w w4 := hbel3.trans (hb4.mono (by omega))
       clear hb4 hB3 hbel3 ho3))
  all_goals
    clear ht4 ht4' hA hB
    go_wp2
    go_ret
    exact ⟨congrArg (fun x => Ending.returned (Value.bool x)) (order_fin a b a0 a1 b0 b1), hbel4⟩
end Go.Proofs.Ytbjigdicooochaa
