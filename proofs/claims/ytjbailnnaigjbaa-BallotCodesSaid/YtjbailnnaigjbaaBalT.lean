/- One word, sorted. -/
import Derived.Test.YtjbailnnaigjbaaBalS
namespace Go.Proofs.Ytjbailnnaigjbaa
open Go.RowKit Go.Shelf OctM

set_option maxRecDepth 100000 in
set_option maxHeartbeats 2000000 in
theorem collect_any (Bs b off cap : Nat) (zs : List Nat) (w : World) (hl : zs.length ≤ 1000000) (hb : b < w.heap.size)
    (hc : w.cell? ⟨Bs, 0, none⟩ = some (.slice (some ⟨b, off, none⟩) zs.length cap)) (hI : ∀ j, j < zs.length → w.cell? ⟨b, off + j, none⟩ = some (.int .u64 ((zs[j]?.getD 0 : Nat) : Int))) :
    Calls Try.prog 79 #[.func (.func 81) #[] #[.pointer (some ⟨Bs, 0, none⟩)]] w fun e w' =>
      ∃ v, e = .returned v ∧ w'.ownsRow w.heap.size 32 1 v zs.length (zs.map Wd) ∧ Below w.heap.size w w' := by
  have H := Lib.hid (aseq_any Bs b off cap zs w hl hb hc hI)
  clear hc hI
  go_enter Try.func79, Try.ntmps79
  go_wp2_with fail
  refine H.out.mono ?_
  rintro e w1 ⟨v, rfl, ho, hbl⟩
  have HO := Lib.hid (And.intro ho hbl)
  clear ho hbl
  go_wp2_with fail
  go_ret
  exact ⟨v, rfl, HO.out⟩

set_option maxRecDepth 100000 in
set_option maxHeartbeats 2000000 in
theorem insertion_one (o : Option Addr) (n c : Nat) (w : World) : Calls Try.prog 85 #[.slice o n c, .int .i64 0, .int .i64 1] w fun e w' => e = .returned (.tuple #[]) ∧ w = w' := by
  go_enter Try.func85, Try.ntmps85
  go_wp2_with fail
  go_loop [6] (fun i => i = .int .i64 1) (fun _ => 0)
  case atStart => rfl
  case round =>
    subst hrel
    go_wp2_with fail
    go_end0
    exact ⟨rfl, rfl⟩

set_option maxRecDepth 100000 in
set_option maxHeartbeats 2000000 in
theorem pdq_one (o : Option Addr) (n c : Nat) (k : Int) (w : World) : Calls Try.prog 83 #[.slice o n c, .int .i64 0, .int .i64 1, .int .i64 k] w fun e w' => e = .returned (.tuple #[]) ∧ w = w' := by
  have H := Lib.hid (insertion_one o n c w)
  go_enter Try.func83, Try.ntmps83
  go_wp2_with fail
  go_loop [1, 2, 3, 8, 9] (fun a b _ _ _ => a = .int .i64 0 ∧ b = .int .i64 1) (fun _ _ _ _ _ => 0)
  case atStart => exact ⟨rfl, rfl⟩
  case round =>
    obtain ⟨rfl, rfl⟩ := hrel
    go_wp2_with fail
    refine H.out.mono ?_
    rintro e w' ⟨rfl, rfl⟩
    go_wp2_with fail
    exact bodyPost_ret (results_none rfl _ _ _) rfl ⟨rfl, rfl⟩


set_option maxRecDepth 100000 in
set_option maxHeartbeats 2000000 in
theorem len_one (w : World) : Calls Try.prog 84 #[.int .u64 1] w fun e w' => ∃ k, e = .returned (.int .i64 k) ∧ w = w' := by
  go_enter Try.func84, Try.ntmps84
  go_wp2_with fail
  refine (len64 1 w (by omega) (by omega)).mono ?_
  rintro e w' ⟨h, rfl⟩
  obtain ⟨k, rfl, -⟩ := h
  go_wp2_with fail
  go_ret
  exact ⟨k, rfl, rfl⟩

set_option maxRecDepth 100000 in
set_option maxHeartbeats 2000000 in
theorem sort_one (o : Option Addr) (c : Nat) (w : World) : Calls Try.prog 80 #[.slice o 1 c] w fun e w' => e = .returned (.tuple #[]) ∧ w = w' := by
  go_enter Try.func80, Try.ntmps80
  go_wp2_with fail
  refine (len_one w).mono ?_
  rintro e w' ⟨k, rfl, rfl⟩
  have H := Lib.hid (pdq_one o 1 c k w)
  go_wp2_with fail
  refine H.out.mono ?_
  rintro e w' ⟨rfl, rfl⟩
  go_wp2_with fail
  go_end0
  exact ⟨rfl, rfl⟩


set_option maxRecDepth 100000 in
set_option maxHeartbeats 2000000 in
theorem sorted_one (Bs b off cap x : Nat) (w : World) (hb : b < w.heap.size)
    (hc : w.cell? ⟨Bs, 0, none⟩ = some (.slice (some ⟨b, off, none⟩) 1 cap)) (hI : w.cell? ⟨b, off, none⟩ = some (Wd x)) :
    Calls Try.prog 75 #[.func (.func 81) #[] #[.pointer (some ⟨Bs, 0, none⟩)]] w fun e w' =>
      ∃ g c, e = .returned (.slice (some ⟨g, 0, none⟩) 1 c) ∧ w'.cell? ⟨g, 0, none⟩ = some (Wd x) ∧ Below w.heap.size w w' := by
  have H := Lib.hid (collect_any Bs b off cap [x] w (by simp) hb hc (fun j hj => by
    obtain rfl : j = 0 := by simp at hj; omega
    exact hI))
  clear hc hI
  go_enter Try.func75, Try.ntmps75
  go_wp2_with fail
  refine H.out.mono ?_
  rintro e w1 ⟨v, rfl, ho, hbl⟩
  obtain ⟨g, c, rfl⟩ := ownsRow_succ ho
  have hcl := World.ownsRow.cells ho rfl 0 (Wd x) rfl
  have HO := Lib.hid (And.intro hcl hbl)
  clear ho hbl hcl
  go_wp2_with fail
  refine (sort_one _ _ _).mono ?_
  rintro e w' ⟨rfl, rfl⟩
  go_wp2_with fail
  go_ret
  exact ⟨g, c, rfl, HO.out⟩
end Go.Proofs.Ytjbailnnaigjbaa
