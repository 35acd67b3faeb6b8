/- The turtle: Area. -/
import Derived.Test.YtjmfgpklemhomabTurE
import Derived.Test.YtjmfgpklemhomabTurQ
namespace Go.Proofs.Ytjmfgpklemhomab
open Go.RowKit TurF TurP

/-- The sum as it goes. -/
def arSum (P : List Pt) : Nat → Int
  | 0 => 0
  | k + 1 => arSum P k + cross (P.getD k (0, 0)) (P.getD ((k + 1) % P.length) (0, 0))

theorem arSum_along (P : List Pt) : ∀ k, k < P.length → arSum P k = along (P.take (k + 1)) := by
  intro k
  induction k with
  | zero =>
    intro h
    rcases P with _ | ⟨p, P⟩
    · simp at h
    · simp [arSum, along]
  | succ k ih =>
    intro h
    have h1 := ih (by omega)
    rw [List.take_succ_eq_append_getElem h, List.take_succ_eq_append_getElem (by omega : k < P.length), along_snoc, ← List.take_succ_eq_append_getElem (by omega : k < P.length), ← h1]
    show arSum P k + cross _ _ = _
    rw [Nat.mod_eq_of_lt h]
    simp [List.getD_eq_getElem?_getD, List.getElem?_eq_getElem h, List.getElem?_eq_getElem (by omega : k < P.length)]

theorem arSum_all (P : List Pt) (h : ∃ post, P = (0, 0) :: post) : arSum P P.length = along P := by
  obtain ⟨post, rfl⟩ := h
  have h1 := arSum_along ((0, 0) :: post) post.length (by simp)
  rw [List.length_cons]
  show arSum _ post.length + cross _ _ = _
  rw [h1, List.take_of_length_le (by simp), List.length_cons, Nat.mod_self]
  simp [cross]

theorem wrap_add (a b : Int) : wrap64 (wrap64 a + b) = wrap64 (a + b) := by
  unfold wrap64
  omega

theorem mul_le (a b : Int) (ha : -1000000000 ≤ a ∧ a ≤ 1000000000) (hb : -1000000000 ≤ b ∧ b ≤ 1000000000) : -1000000000000000000 ≤ a * b ∧ a * b ≤ 1000000000000000000 := by
  have key : ∀ x y : Int, 0 ≤ x → x ≤ 1000000000 → 0 ≤ y → y ≤ 1000000000 → 0 ≤ x * y ∧ x * y ≤ 1000000000000000000 := by
    intro x y h0 h1 h2 h3
    have := Int.mul_le_mul h1 h3 h2 (by omega)
    exact ⟨Int.mul_nonneg h0 h2, by omega⟩
  rcases Int.le_total 0 a with h1 | h1 <;> rcases Int.le_total 0 b with h2 | h2
  · have := key a b h1 ha.2 h2 hb.2; omega
  · have := key a (-b) h1 ha.2 (by omega) (by omega); rw [Int.mul_neg] at this; omega
  · have := key (-a) b (by omega) (by omega) h2 hb.2; rw [Int.neg_mul] at this; omega
  · have := key (-a) (-b) (by omega) (by omega) (by omega) (by omega); rw [Int.neg_mul_neg] at this; omega

/-- What Area leaves. -/
def AGood (l : List Mv) (e : Ending) : Prop := e = .returned (.tuple #[.int .i64 (wrap64 (along (run l).path)), .int .i64 0])

theorem getD_at {P : List Pt} {i : Nat} (h : i < P.length) : P.getD i (0, 0) = P[i] := by simp [List.getD_eq_getElem?_getD, List.getElem?_eq_getElem h]

theorem cell_alloc' {w : World} {p : Addr} {v : Value} (h : w.cell? p = some v) (o : Obj) : (w.alloc o).cell? p = some v :=
  (World.cell?_of_block (Below.heap_alloc w o p.block (World.block_lt_of_cell? w p h))).trans h

set_option maxHeartbeats 2000000 in
set_option maxRecDepth 100000 in
theorem area_good (v : Value) (l : List Mv) (w : World) (h : RdM w v l) (hlong : ¬ 1000 < l.length) (hfar : l.any far = false) :
    Calls Try.prog 13 #[v] w fun e w' => AGood l e ∧ Below w.heap.size w w' := by
  have H := Lib.hid (walk_good v l _ h hlong hfar)
  have ok := ok_run (B := 1000000) (by omega) l (within_of_err hfar)
  have hpl := path_len l s0
  have hpl' : (run l).path.length ≤ 1 + l.length := hpl
  have HG := Lib.hid (show AGood l (.returned (.tuple #[.int .i64 (wrap64 (arSum (run l).path (run l).path.length)), .int .i64 0])) by rw [arSum_all _ ok.first]; rfl)
  have BD := Lib.hid (fun p hp => ok.all p hp)
  have hn : 0 < (run l).path.length := by obtain ⟨post, hp⟩ := ok.first; rw [hp]; simp
  clear h hfar hpl ok
  go_enter Try.func13, Try.ntmps13
  go_wp2_with fail
  refine H.out.mono ?_
  rintro e w1 ⟨v', lk, rfl, hl, ho, hb⟩
  generalize (run l).path = P at *
  obtain ⟨g, cap, rfl, -, -, hcap, hm, hc⟩ := ho.cells hn
  have HC := Lib.hid hc
  have HB := Lib.hid hb
  have hsz := hb.size
  clear hc ho hb hl
  unfold maxLen at hm
  go_wp2_with fail
  go_loopw [7, 19] (fun a i wr => ∃ j : Nat, j ≤ P.length ∧ i = .int .i64 j ∧ a = .int .i64 (wrap64 (arSum P j)) ∧ Hid (Below w1.heap.size w1 wr)) (fun _ i _ => P.length - (intOf i).toNat)
  case atStart => exact ⟨0, by omega, rfl, by simp [arSum, wrap64], Lib.hid (Below.refl _ _)⟩
  case round =>
    obtain ⟨j, hj, rfl, rfl, hb⟩ := hrel
    by_cases hlt : j < P.length
    · obtain ⟨t, ht⟩ : ∃ t, t = (j + 1) % P.length := ⟨_, rfl⟩
      have htl : t < P.length := by rw [ht]; exact Nat.mod_lt _ hn
      have hq : ((j : Int) + 1) % (P.length : Int) = (t : Int) := by rw [ht, Int.natCast_emod]; rfl
      have HS := Lib.hid (show arSum P (j + 1) = arSum P j + cross P[j] P[t] by
        show arSum P j + cross _ _ = _
        rw [← ht, getD_at hlt, getD_at htl])
      have b1 := BD.out P[j] (List.getElem_mem _)
      have b2 := BD.out P[t] (List.getElem_mem _)
      obtain ⟨c1, c2⟩ := HC.out j P[j] (by simp [hlt])
      obtain ⟨c3, c4⟩ := HC.out t P[t] (by simp [htl])
      have l1 := World.block_lt_of_cell? _ _ c1
      simp only at l1
      have c1' := (hb.out.cell (p := ⟨g, j * 2, none⟩) l1).trans c1
      have c2' := (hb.out.cell (p := ⟨g, j * 2 + 1, none⟩) l1).trans c2
      have c3' := (hb.out.cell (p := ⟨g, t * 2, none⟩) l1).trans c3
      have c4' := (hb.out.cell (p := ⟨g, t * 2 + 1, none⟩) l1).trans c4
      clear c1 c2 c3 c4 ht
      generalize P[j] = p at *
      generalize P[t] = q at *
      have hle : ((l.length : Int)) * 1000000 ≤ 1000000000 := by omega
      have m1 := mul_le p.1 q.2 (by omega) (by omega)
      have m2 := mul_le q.1 p.2 (by omega) (by omega)
      have HW := Lib.hid (wrap_add (arSum P j) (p.1 * q.2 - q.1 * p.2))
      generalize hA : wrap64 (arSum P j) = A at *
      have HA := Lib.hid hA
      clear hA
      have o3 := cell_alloc' c3' (.cells #[.int .i64 p.1, .int .i64 p.2] 29)
      have o4 := cell_alloc' c4' (.cells #[.int .i64 p.1, .int .i64 p.2] 29)
      have BW := Lib.hid ((hb.out.alloc hb.out.size (.cells #[.int .i64 p.1, .int .i64 p.2] 29)).alloc (by have := hb.out.size; simp; omega) (.cells #[.int .i64 q.1, .int .i64 q.2] 29))
      clear hb
      go_wp2
      exact ⟨⟨j + 1, by omega, by go_num, by rw [HS.out]; exact congrArg _ HW.out, BW⟩, by simp [intOf]; omega⟩
    · have hk : j = P.length := by omega
      subst hk
      have BW := Lib.hid (HB.out.trans (hb.out.mono hsz))
      clear hb
      go_wp2
      go_ret2
      exact ⟨HG.out, BW.out⟩
end Go.Proofs.Ytjmfgpklemhomab
