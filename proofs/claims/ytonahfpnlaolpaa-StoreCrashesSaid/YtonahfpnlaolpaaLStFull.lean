/- StoreFull: what takes more than a track may have is refused, and what stands stays; what takes less is saved. -/
import Derived.Test.YtonahfpnlaolpaaLStKeeps
namespace Go.Proofs.Ytonahfpnlaolpaa
open Go.RowKit OctM

set_option maxHeartbeats 4000000 in
set_option maxRecDepth 100000 in
theorem stfull_out (a : Value) (p : List UInt8) (n : Int) (w : World) (ha : Rd w a p) (hp : p.length ≤ 140737488351232) (h : 2000 < p.length) :
    Calls Try.prog 7 #[a, .int .u16 n] w fun e w' => e = .returned (.bool true) ∧ Below w.heap.size w w' := by
  obtain ⟨oa, ca, rfl⟩ : ∃ o c, a = .slice o p.length c := by
    rcases ha with ⟨rfl, rfl⟩ | ⟨_, c, rfl, _⟩ <;> exact ⟨_, _, rfl⟩
  clear ha
  have hd2 : (2000 : Int) < (p.length : Int) := by omega
  clear h
  go_enter Try.func7, Try.ntmps7
  go_wp2_with fail
  refine (awake_any w).mono ?_
  rintro e w1 ⟨rfl, hb1⟩
  have HB1 := Lib.hid hb1
  clear hb1
  go_wp2_with fail
  refine (awake_any w1).mono ?_
  rintro e w2 ⟨rfl, hb2⟩
  have HB2 := Lib.hid (HB1.out.trans (hb2.mono HB1.out.size))
  clear hb2
  go_wp2_with fail
  go_ret
  exact ⟨rfl, HB2.out⟩

theorem save_gen (n : Sn) (x : Value) (w : World) {R : Nat → Prop} {St D T : Nat} {s : Ss} {r : Int × Ss} (h : SAt w R St D T s) (hx : Hx R w x n.dat) (h1 : n.ix < 18446744073709551616) (h2 : n.tm < 18446744073709551616) (hl : n.dat.length ≤ 100000000) (hops : s.d.ops ≤ 900000) (e : saveS s n = r) :
    Calls Try.prog 22 #[.pointer (some ⟨St, 0, none⟩), snV n x] w (SvP w R St D T r) := by
  rw [← e]
  exact save_any n x w h hx h1 h2 hl hops

theorem kept_draw (w : World) : Below w.heap.size w w.drew := ⟨rfl, rfl, rfl, Nat.le_refl _, fun _ _ => rfl⟩

/-- Noughts, and bytes behind them. -/
def nz (m : Nat) (p : List UInt8) : List UInt8 := List.replicate m 0 ++ p
theorem nz_length (m : Nat) (p : List UInt8) : (nz m p).length = m + p.length := by simp [nz]

set_option maxHeartbeats 8000000 in
set_option maxRecDepth 100000 in
theorem stfull_in (a : Value) (p : List UInt8) (n : Int) (w : World) (ha : Rd w a p) (hs : p.length ≤ 2000) (n0 : 0 ≤ n) (n1 : n ≤ 65535) :
    Calls Try.prog 7 #[a, .int .u16 n] w fun e w' => e = .returned (.bool true) ∧ Below w.heap.size w w' := by
  obtain ⟨oa, ca, rfl⟩ : ∃ o c, a = .slice o p.length c := by
    rcases ha with ⟨rfl, rfl⟩ | ⟨_, c, rfl, _⟩ <;> exact ⟨_, _, rfl⟩
  have h1 : (p.length : Int) ≤ 2000 := by omega
  have HA := Lib.hid ha
  have HS := Lib.hid hs
  have kc := fun (w : World) (C : Array Value) (n c : Nat) => Lib.run_convert_bytes_const (P := Try.prog) w 22 5 C n c Try.underlying22 Try.underlying5
  obtain ⟨m, hm⟩ : ∃ m : Nat, n % 1200 = (m : Int) := ⟨(n % 1200).toNat, by omega⟩
  have ht : Int.tmod n 1200 = (m : Int) := by rw [← hm]; exact Int.tmod_eq_emod_of_nonneg n0
  have hml : m < 1200 := by omega
  have hmk := made0 m (by omega)
  clear ha hs
  go_enter Try.func7, Try.ntmps7
  go_wp2_with fail
  refine (awake_any w).mono ?_
  rintro e w1 ⟨rfl, hb1⟩
  have HB1 := Lib.hid hb1
  clear hb1
  go_wp2_with fail
  refine (sopen_any 1000 w1 (by omega) (by omega)).mono ?_
  rintro e w2 ⟨D, T, St, rfl, h2, hb2, -⟩
  have HB2 := Lib.hid (HB1.out.trans (hb2.mono HB1.out.size))
  obtain ⟨R, hR⟩ : ∃ R, (fun k => w1.heap.size ≤ k ∧ k < w2.heap.size) = R := ⟨_, rfl⟩
  rw [hR] at h2
  have hge : ∀ k, R k → w1.heap.size ≤ k := by subst hR; exact fun k hk => hk.1
  clear hR
  have hs1 := HB1.out.size
  have hs2 := hb2.size
  have hb3 : Below w2.heap.size w2 (w2.alloc (.cells #[.int .u8 97] 5 (1, 2))) := (Below.refl _ _).alloc (Nat.le_refl _) _
  have hx3 : Hx R (w2.alloc (.cells #[.int .u8 97] 5 (1, 2))) (.slice (some ⟨w2.heap.size, 0, none⟩) 1 1) [97] := Hx.block (l := [97]) (heap_alloc_new w2 _) rfl (by simp) (fun h => by have := h2.lt _ h; omega)
  have HA3 := Lib.hid (h2.below hb3)
  have HB3 := Lib.hid (HB2.out.trans (hb3.mono HB2.out.size))
  have hs3 := hb3.size
  have H4 := Lib.hid (save_ok ⟨1, 7, [97]⟩ _ _ HA3.out (sg_new 1000) (by omega) hx3 (by decide) (by decide) (by show 0 < 1; omega) (by simp) rfl (by show 0 ≤ 900000; omega))
  unfold snV at H4
  clear h2 hb2 hb3 hx3
  go_wp2_with fail
  refine H4.out.mono ?_
  rintro e w4 ⟨s4, rfl, ha4, hg4, hn4, hf4, ho4, hk4⟩
  have hge4 := Fr.ge (w' := w4) hge (by omega : w1.heap.size ≤ (w2.alloc (.cells #[.int .u8 97] 5 (1, 2))).heap.size)
  generalize Fr R (w2.alloc (.cells #[.int .u8 97] 5 (1, 2))) w4 = R4 at *
  have HB4 := Lib.hid (HB3.out.trans (hk4.below (by omega) (fun k hk => by have := hge k hk; omega)))
  have hs4 := hk4.size
  have ho4' : s4.d.ops ≤ 3000 := Nat.le_trans ho4 (by show 0 + 2100 ≤ 3000; omega)
  have HA4 := Lib.hid ha4
  have HG4 := Lib.hid hg4
  have HN4 := Lib.hid hn4
  have HF4 := Lib.hid hf4
  have HGE4 := Lib.hid hge4
  clear ha4 hg4 hn4 hf4 hge4 ho4 hk4 H4 HA3
  have hb5 : Below w4.heap.size w4 (w4.alloc (.cells (Bs (List.replicate m 0)).toArray 5)) := (Below.refl _ _).alloc (Nat.le_refl _) _
  have hs5 : (w4.alloc (.cells (Bs (List.replicate m 0)).toArray 5)).heap.size = w4.heap.size + 1 := by simp
  have hz := own_block_bytes (l := List.replicate m 0) (heap_alloc_new w4 (.cells (Bs (List.replicate m 0)).toArray 5)) (Nat.le_refl w4.heap.size) (by simp [maxLen]; omega)
  rw [List.length_replicate] at hz
  have HB5 := Lib.hid (HB4.out.trans (hb5.mono (by omega)))
  obtain ⟨o, cap, w6, hr, ho, hg, hob, -⟩ := append_two hz (HA.out.below HB5.out) (by have := HS.out; simp; omega) (by omega) 22
  rw [List.length_replicate] at hr ho hob
  have hb6 : Below w4.heap.size (w4.alloc (.cells (Bs (List.replicate m 0)).toArray 5)) w6 := (Below.refl _ _).grown hg (by omega) (by intro k hk; simp [Value.ownBlock] at hk; omega)
  have HB6 := Lib.hid (HB5.out.trans (hb6.mono (by omega)))
  have hs6 := hg.size
  have hb7 : Below w6.heap.size w6 (w6.alloc (.cells #[.int .u64 2, .int .u64 8, .slice o (m + p.length) cap] 55)) := (Below.refl _ _).alloc (Nat.le_refl _) _
  have HB7 := Lib.hid (HB6.out.trans (hb7.mono (by omega)))
  have hn7 := heap_alloc_new w6 (.cells #[.int .u64 2, .int .u64 8, .slice o (m + p.length) cap] 55)
  have hs7 : (w6.alloc (.cells #[.int .u64 2, .int .u64 8, .slice o (m + p.length) cap] 55)).heap.size = w6.heap.size + 1 := by simp
  have ho7 : Own (w6.alloc (.cells #[.int .u64 2, .int .u64 8, .slice o (m + p.length) cap] 55)) w4.heap.size (.slice o (m + p.length) cap) (nz m p) := World.ownsRow.alloc ho _
  have HA7 := Lib.hid ((HA4.out.below (hb5.trans (hb6.trans (hb7.mono (by omega))))))
  have hrx : ∀ g, (Value.slice o (m + p.length) cap).ownBlock = some g → ¬ R4 g := fun g hg hR => by have := HA4.out.lt g hR; have := (ho7.lt g hg).1; omega
  have hx7 : Hx R4 (w6.alloc (.cells #[.int .u64 2, .int .u64 8, .slice o (m + p.length) cap] 55)) (.slice o (m + p.length) cap) (nz m p) := Hx.own ho7 hrx
  have HX7 := Lib.hid hx7
  have hmk4 := hmk w4
  clear hmk hz hg hob hb5 hb6 hb7 hrx hx7 ho ho7
  go_upto_region 6 with fail
  go_wp2_with (at_builtin; refine wpList_append_known rfl _ _ _ _ rfl _ _ _ rfl rfl hr ?_)
  have hw6g : w6.heap.size < (w6.alloc (.cells #[.int .u64 2, .int .u64 8, .slice o (m + p.length) cap] 55)).heap.size := lt_of_block hn7
  have hbR : ¬ R4 w6.heap.size := fun h => by have := HA4.out.lt _ h; omega
  have hb6w : w.heap.size ≤ w6.heap.size := HB6.out.size
  generalize w6.alloc (.cells #[.int .u64 2, .int .u64 8, .slice o (m + p.length) cap] 55) = w7 at *
  generalize w6.heap.size = b6 at *
  have hcase := save_cases 1000 s4 ⟨2, 8, nz m p⟩ HG4.out (by omega) (by show 2 < 18446744073709551616; decide) (by show 8 < 18446744073709551616; decide)
  have hlen := nz_length m p
  have hbnd := snB_bound ⟨2, 8, nz m p⟩
  simp only at hbnd
  have HN7 := Lib.hid hn7
  have hs7w : w.heap.size ≤ w7.heap.size := HB7.out.size
  have hge7 : w1.heap.size ≤ w7.heap.size := by omega
  cases hcase with
  | stale a _ => rw [HN4.out] at a; simp at a
  | cut _ _ _ a => exact absurd HF4.out a
  | full _ hl he =>
    have hbig : (960 : Int) < (m : Int) + (p.length : Int) := by omega
    have H8 := Lib.hid (save_gen ⟨2, 8, nz m p⟩ (.slice o (m + p.length) cap) w7 HA7.out HX7.out (by show 2 < 18446744073709551616; decide) (by show 8 < 18446744073709551616; decide) (by show (nz m p).length ≤ _; omega) (by omega) he)
    unfold snV at H8
    clear hl he hmk4 hr hbnd
    refine H8.out.mono ?_
    rintro e w8 ⟨rfl, ha8, hk8⟩
    obtain ⟨q0, q1, q2, -, -, -, -⟩ := kept3 ((hk8.block b6 hw6g hbR).trans HN7.out)
    have HB8 := Lib.hid (HB7.out.trans (hk8.below hs7w (fun k hk => by have := HGE4.out k hk; omega)))
    have H9 := Lib.hid (snap_any w8 ha8)
    clear ha8 hk8 H8
    go_wp2_with fail
    refine H9.out.mono ?_
    rintro e w9 ⟨v9, rfl, ho9, hb9⟩
    rw [HN4.out] at ho9 ⊢
    have HB9 := Lib.hid (HB8.out.trans (hb9.mono HB8.out.size))
    have hb10 : Below w9.heap.size w9 (w9.alloc (.cells #[.int .u8 97] 5 (1, 2))) := (Below.refl _ _).alloc (Nat.le_refl _) _
    have HB10 := Lib.hid (HB9.out.trans (hb10.mono HB9.out.size))
    have H11 := Lib.hid (same_any ⟨1, 7, [97]⟩ ⟨1, 7, [97]⟩ v9 (.slice (some ⟨w9.heap.size, 0, none⟩) 1 1) (w9.alloc (.cells #[.int .u8 97] 5 (1, 2))) ((Rd.of_own ho9).below hb10) (Rd.of_block (l := [97]) (heap_alloc_new w9 _) rfl (by simp)))
    rw [sameB_self] at H11
    unfold snV at *
    clear ho9 hb9 hb10 H9 q0 q1 q2
    go_wp2_with fail
    refine H11.out.mono ?_
    rintro e w12 ⟨rfl, hb12⟩
    have HB12 := Lib.hid (HB10.out.trans (hb12.mono HB10.out.size))
    clear hb12 H11
    go_wp2_with fail
    go_ret
    exact ⟨rfl, HB12.out⟩
  | done _ hl c g e f _ =>
    obtain ⟨s8, he⟩ : ∃ s8, saveS s4 ⟨2, 8, nz m p⟩ = (0, s8) := ⟨(saveS s4 ⟨2, 8, nz m p⟩).2, Prod.ext c rfl⟩
    rw [he] at e
    dsimp only at e
    have hsm : (m : Int) + (p.length : Int) ≤ 1000 := by omega
    have H8 := Lib.hid (save_gen ⟨2, 8, nz m p⟩ (.slice o (m + p.length) cap) w7 HA7.out HX7.out (by show 2 < 18446744073709551616; decide) (by show 8 < 18446744073709551616; decide) (by show (nz m p).length ≤ _; omega) (by omega) he)
    unfold snV at H8
    have HE8 := Lib.hid e
    clear hl he hmk4 hr hbnd c g f e
    refine H8.out.mono ?_
    rintro e w8 ⟨rfl, ha8, hk8⟩
    have HN8 := Lib.hid ((hk8.block b6 hw6g hbR).trans HN7.out)
    obtain ⟨q0, q1, q2, -, -, -, ql⟩ := kept3 HN8.out
    have HB8 := Lib.hid (HB7.out.trans (hk8.below hs7w (fun k hk => by have := HGE4.out k hk; omega)))
    have HX8 := Lib.hid (HX7.out.kept hk8)
    have HA8 := Lib.hid ha8
    clear ha8 hk8 H8
    go_wp2_with fail
    have ha9 := (show SAt w8.drew (Fr R4 w7 w8) St D T s8 from HA8.out.block (fun _ _ => rfl) (Nat.le_refl _) (fun _ h => h) (fun k hk => HA8.out.lt k hk))
    have H9 := Lib.hid (snap_any w8.drew ha9)
    have HB9 := Lib.hid (show Below w.heap.size w w8.drew from HB8.out.drew)
    have HN9 := Lib.hid (show w8.drew.heap[b6]? = _ from HN8.out)
    clear ha9
    refine wp_onlyN ?_
    refine wp_region_held_drew (S := fun w' => w'.cell? ⟨b6, 0, none⟩ = some (.int .u64 2) ∧ w'.cell? ⟨b6, 1, none⟩ = some (.int .u64 8) ∧ w'.cell? ⟨b6, 2, none⟩ = some (.slice o (m + p.length) cap)) (by kernel_rfl) ⟨q0, q1, q2⟩ ?_
    intro hHeld
    refine wpAnyH_take (i := 0) (v := ?_) (by simp only [List.getElem?_toArray, List.getElem?_cons_zero]; rfl) (by kernel_rfl) (by kernel_rfl) (by kernel_rfl) (by intro _ _ _ h; exact h) (Or.inl ⟨by rfl, ?_⟩) (by assumption) ?_
    rotate_left
    · (intro w hSw; (try dsimp only at hSw); go_simp; try with_reducible rfl)
    try simp only [Act.put, List.setIfInBounds_toArray, List.set_cons_zero, List.set_cons_succ]
    refine wpAnyH_take (i := 1) (v := ?_) (by simp only [List.getElem?_toArray, List.getElem?_cons_succ, List.getElem?_cons_zero]; rfl) (by kernel_rfl) (by kernel_rfl) (by kernel_rfl) (by intro _ _ _ h; exact h) (Or.inl ⟨by rfl, ?_⟩) (by assumption) ?_
    rotate_left
    · (intro w hSw; (try dsimp only at hSw); go_simp; try with_reducible rfl)
    try simp only [Act.put, List.setIfInBounds_toArray, List.set_cons_zero, List.set_cons_succ]
    refine wpAnyH_take (i := 2) (v := ?_) (by simp only [List.getElem?_toArray, List.getElem?_cons_succ, List.getElem?_cons_zero]; rfl) (by kernel_rfl) (by kernel_rfl) (by kernel_rfl) (by intro _ _ _ h; exact h) (Or.inl ⟨by rfl, ?_⟩) (by assumption) ?_
    rotate_left
    · (intro w hSw; (try dsimp only at hSw); go_simp; try with_reducible rfl)
    try simp only [Act.put, List.setIfInBounds_toArray, List.set_cons_zero, List.set_cons_succ]
    refine wpAnyH_take (i := 3) (v := ?_) (by simp only [List.getElem?_toArray, List.getElem?_cons_succ, List.getElem?_cons_zero]; rfl) (by kernel_rfl) (by kernel_rfl) (by kernel_rfl) (by intro _ _ _ h; exact h) (Or.inl ⟨by rfl, ?_⟩) (by assumption) ?_
    rotate_left
    · (intro w hSw; (try dsimp only at hSw); go_simp; try with_reducible rfl)
    try simp only [Act.put, List.setIfInBounds_toArray, List.set_cons_zero, List.set_cons_succ]
    refine wpAnyH_take (i := 4) (v := ?_) (by simp only [List.getElem?_toArray, List.getElem?_cons_succ, List.getElem?_cons_zero]; rfl) (by kernel_rfl) (by kernel_rfl) (by kernel_rfl) (by intro _ _ _ h; exact h) (Or.inl ⟨by rfl, ?_⟩) (by assumption) ?_
    rotate_left
    · (intro w hSw; (try dsimp only at hSw); go_simp; try with_reducible rfl)
    try simp only [Act.put, List.setIfInBounds_toArray, List.set_cons_zero, List.set_cons_succ]
    refine wpAnyH_take (i := 5) (v := ?_) (by simp only [List.getElem?_toArray, List.getElem?_cons_succ, List.getElem?_cons_zero]; rfl) (by kernel_rfl) (by kernel_rfl) (by kernel_rfl) (by intro _ _ _ h; exact h) (Or.inl ⟨by rfl, ?_⟩) (by assumption) ?_
    rotate_left
    · (intro w hSw; (try dsimp only at hSw); go_simp; try with_reducible rfl)
    try simp only [Act.put, List.setIfInBounds_toArray, List.set_cons_zero, List.set_cons_succ]
    refine wpAnyH_take (i := 7) (v := ?_) (by simp only [List.getElem?_toArray, List.getElem?_cons_succ, List.getElem?_cons_zero]; rfl) (by kernel_rfl) (by kernel_rfl) (by kernel_rfl) (by intro _ _ _ h; exact h) (Or.inl ⟨by rfl, ?_⟩) (by assumption) ?_
    rotate_left
    · (intro w hSw; (try dsimp only at hSw); go_simp; try with_reducible rfl)
    try simp only [Act.put, List.setIfInBounds_toArray, List.set_cons_zero, List.set_cons_succ]
    refine wpAnyH_ready (rs := [6]) (by kernel_rfl) (by simp) ?_
    refine AllReadyH.cons (by simp only [List.getElem?_toArray, List.getElem?_cons_succ, List.getElem?_cons_zero]; rfl) (fun K hK => ?_) AllReadyH.nil
    go_simp
    refine (H9.out).mono ?_
    rintro e w9 ⟨v9, rfl, ho9, hb9⟩
    rw [HE8.out] at ho9 ⊢
    have HB10 := Lib.hid (HB9.out.trans (hb9.mono HB9.out.size))
    obtain ⟨r0, r1, r2, -, -, -, rl⟩ := kept3 ((hb9.block b6 ql).trans HN9.out)
    have HX10 := Lib.hid (((HX8.out.below (kept_draw w8)).below hb9).rd)
    have H11 := Lib.hid (same_any ⟨2, 8, nz m p⟩ ⟨2, 8, nz m p⟩ v9 (.slice o (m + p.length) cap) w9 (Rd.of_own ho9) HX10.out)
    rw [sameB_self] at H11
    obtain ⟨o9, c9, rfl, -, -⟩ := own_slice ho9
    clear ho9 hb9
    unfold snV at *
    dsimp only at H11 ⊢
    rw [hlen] at H11 ⊢
    refine hK.out _ _ ⟨r0, r1, r2⟩ (fun hHeld => ?_)
    clear hK K
    try simp only [Act.put, List.setIfInBounds_toArray, List.set_cons_zero, List.set_cons_succ]
    refine wpAnyH_ready (rs := [8]) (by kernel_rfl) (by simp) ?_
    refine AllReadyH.cons (by simp only [List.getElem?_toArray, List.getElem?_cons_succ, List.getElem?_cons_zero]; rfl) (fun K hK => ?_) AllReadyH.nil
    go_simp
    refine (H11.out).mono ?_
    rintro e w12 ⟨rfl, hb12⟩
    have HB12 := Lib.hid (HB10.out.trans (hb12.mono HB10.out.size))
    have t0 := (hb12.cell (p := ⟨b6, 0, none⟩) rl).trans r0
    have t1 := (hb12.cell (p := ⟨b6, 1, none⟩) rl).trans r1
    have t2 := (hb12.cell (p := ⟨b6, 2, none⟩) rl).trans r2
    clear hb12
    dsimp only
    refine hK.out _ _ ⟨t0, t1, t2⟩ (fun hHeld => ?_)
    clear hK K
    try simp only [Act.put, List.setIfInBounds_toArray, List.set_cons_zero, List.set_cons_succ]
    refine wpAnyH_take (i := 9) (v := ?_) (by simp only [List.getElem?_toArray, List.getElem?_cons_succ, List.getElem?_cons_zero]; rfl) (by kernel_rfl) (by kernel_rfl) (by kernel_rfl) (by intro _ _ _ h; exact h) (Or.inl ⟨by rfl, ?_⟩) (by assumption) ?_
    rotate_left
    · (intro w hSw; (try dsimp only at hSw); go_simp; try with_reducible rfl)
    try simp only [Act.put, List.setIfInBounds_toArray, List.set_cons_zero, List.set_cons_succ]
    refine wpAnyH_take (i := 10) (v := ?_) (by simp only [List.getElem?_toArray, List.getElem?_cons_succ, List.getElem?_cons_zero]; rfl) (by kernel_rfl) (by kernel_rfl) (by kernel_rfl) (by intro _ _ _ h; exact h) (Or.inl ⟨by rfl, ?_⟩) (by assumption) ?_
    rotate_left
    · (intro w hSw; (try dsimp only at hSw); go_simp; try with_reducible rfl)
    try simp only [Act.put, List.setIfInBounds_toArray, List.set_cons_zero, List.set_cons_succ]
    refine wpAnyH_done (by kernel_rfl) ?_ _
    dsimp only [onlyN]
    go_wp2_with fail
    go_ret
    exact ⟨rfl, HB12.out⟩

/-- The law, whatever comes in. -/
theorem stfull_walk (a : Value) (p : List UInt8) (n : Int) (w : World) (ha : Rd w a p) (hp : p.length ≤ 140737488351232) (n0 : 0 ≤ n) (n1 : n ≤ 65535) :
    Calls Try.prog 7 #[a, .int .u16 n] w fun e w' => e = .returned (.bool true) ∧ Below w.heap.size w w' := by
  by_cases h : 2000 < p.length
  · exact stfull_out a p n w ha hp h
  · exact stfull_in a p n w ha (by omega) n0 n1
end Go.Proofs.Ytonahfpnlaolpaa
