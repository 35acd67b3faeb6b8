/- The reference: may an instruction stand there? -/
import Derived.Test.YtoplheipfbnobaaCodG
namespace CodM
theorem alw_rfn {fs : List Fun} {caps globs : Int} {x : Ins} {d t : Int} (h1 : rtk x < d) (h2 : 0 ≤ rtk x) (hd : d ≤ 1000000) (h0 : 1 ≤ d) : alw fs caps globs x d t = rfn fs caps globs x d t := by
  rcases h : rfn fs caps globs x d t with _ | _
  · exact alw_false (.inr (.inr h)) hd h0
  · exact alw_of h1 h2 h hd h0
end CodM
namespace Go.Proofs.Ytoplheipfbnobaa
open Go.RowKit OctM CodM

theorem box3' {w w1 : World} {o1 o2 o3 : Obj} (h : Below (((w.alloc o1).alloc o2).alloc o3).heap.size (((w.alloc o1).alloc o2).alloc o3) w1) : w1.heap[w.heap.size]? = some o1 ∧ w1.heap[w.heap.size + 1]? = some o2 ∧ w1.heap[w.heap.size + 1 + 1]? = some o3 := by
  obtain ⟨h2, h3, _⟩ := box3 w o1 o2 o3
  have h1 : (((w.alloc o1).alloc o2).alloc o3).heap[w.heap.size]? = some o1 := (Below.heap_alloc _ _ _ (by simp; omega)).trans ((Below.heap_alloc _ _ _ (by simp)).trans (heap_alloc_new w o1))
  exact ⟨(h.block _ (by simp; omega)).trans h1, (h.block _ (by simp)).trans h2, (h.block _ (by simp)).trans h3⟩

set_option maxHeartbeats 4000000 in
set_option maxRecDepth 100000 in
theorem fine_rest (fs : List Fun) (caps globs d t z : Int) (op : Nat) (n a : Int) (s : ByteArray) (w : World) (va : Value) (o : Option Addr) (m c : Nat) (hd : d ≤ 1000000) (h1 : 1 ≤ d) (h6 : op ≠ 6) :
    Calls Try.prog 37 #[.agg #[.int .i64 caps, .slice o m c], .agg #[.int .u8 (op : Int), .int .i64 n, .int .i64 a, .string s], .agg #[.int .i64 z, .int .i64 d, .int .i64 t], va, .int .i64 globs] w (AlPost fs caps globs ⟨op, n, a, s⟩ d t w) := by
  have t6 : ((op : Int) == 6) = false := by rw [beq_eq_false_iff_ne]; omega
  have hb0 : Below w.heap.size w (((w.alloc (.cells #[.int .i64 caps, .slice o m c] 57)).alloc (.cells #[.int .u8 (op : Int), .int .i64 n, .int .i64 a, .string s] 58)).alloc (.cells #[.int .i64 z, .int .i64 d, .int .i64 t] 79)) := (((Below.refl _ _).alloc (Nat.le_refl _) _).alloc (by simp) _).alloc (by simp; omega) _
  have HB := Lib.hid hb0
  have ht := takes op n a s (((w.alloc (.cells #[.int .i64 caps, .slice o m c] 57)).alloc (.cells #[.int .u8 (op : Int), .int .i64 n, .int .i64 a, .string s] 58)).alloc (.cells #[.int .i64 z, .int .i64 d, .int .i64 t] 79))
  unfold IntPost at ht
  have HAF := Lib.hid (fun (h : rtk ⟨op, n, a, s⟩ < 0 ∨ d ≤ rtk ⟨op, n, a, s⟩ ∨ rfn fs caps globs ⟨op, n, a, s⟩ d t = false) => alw_false (fs := fs) (caps := caps) (globs := globs) h hd h1)
  have HA := Lib.hid (fun h1' h2' => alw_rfn (fs := fs) (caps := caps) (globs := globs) (x := ⟨op, n, a, s⟩) (d := d) (t := t) h1' h2' hd h1)
  generalize rtk ⟨op, n, a, s⟩ = T at *
  have HT := Lib.hid ht
  clear hb0 ht
  go_enter Try.func37, Try.ntmps37
  go_wp2_with fail
  refine HT.out.mono ?_
  rintro e w1 ⟨rfl, hb1⟩
  obtain ⟨k1, k2, k3⟩ := box3' hb1
  have HB1 := Lib.hid (HB.out.trans (hb1.mono HB.out.size))
  have c0 : w1.cell? ⟨w.heap.size, 0, none⟩ = some (.int .i64 caps) := cellk k1 rfl
  have q0 : w1.cell? ⟨w.heap.size + 1, 0, none⟩ = some (.int .u8 (op : Int)) := cellk k2 rfl
  have q1 : w1.cell? ⟨w.heap.size + 1, 1, none⟩ = some (.int .i64 n) := cellk k2 rfl
  have q2 : w1.cell? ⟨w.heap.size + 1, 2, none⟩ = some (.int .i64 a) := cellk k2 rfl
  have r1 : w1.cell? ⟨w.heap.size + 1 + 1, 1, none⟩ = some (.int .i64 d) := cellk k3 rfl
  have r2 : w1.cell? ⟨w.heap.size + 1 + 1, 2, none⟩ = some (.int .i64 t) := cellk k3 rfl
  have l1 := lt_of_block k1
  have l2 := lt_of_block k2
  have l3 := lt_of_block k3
  clear hb1 k1 k2 k3
  go_wp2_with fail
  all_goals
    go_ret
    refine alPost ?_ HB1.out
    simp only [beq_iff_eq, beq_eq_false_iff_ne, ne_eq] at *
    first
      | exact HAF.out (.inl (by omega))
      | exact HAF.out (.inr (.inl (by omega)))
      | (rw [HA.out (by omega) (by omega)]
         unfold rfn
         dsimp only
         (repeat' split) <;> first | rfl | (exfalso; omega) | (rw [Bool.eq_iff_iff]; simp only [decide_eq_true_eq, Bool.false_eq_true, iff_false, beq_iff_eq]; omega))
set_option maxHeartbeats 4000000 in
set_option maxRecDepth 100000 in
theorem fine_clos_neg (fs : List Fun) (caps globs d t z : Int) (n a : Int) (s : ByteArray) (w : World) (o : Option Addr) (m c : Nat) (hd : d ≤ 1000000) (h1 : 1 ≤ d) (o2 : Option Addr) (c2 : Nat) (hn : n < 0) :
    Calls Try.prog 37 #[.agg #[.int .i64 caps, .slice o m c], .agg #[.int .u8 6, .int .i64 n, .int .i64 a, .string s], .agg #[.int .i64 z, .int .i64 d, .int .i64 t], (.slice o2 fs.length c2), .int .i64 globs] w (AlPost fs caps globs ⟨6, n, a, s⟩ d t w) := by
  have hdn : decide (0 ≤ n) = false := by simp; omega
  have hb0 : Below w.heap.size w (((w.alloc (.cells #[.int .i64 caps, .slice o m c] 57)).alloc (.cells #[.int .u8 6, .int .i64 n, .int .i64 a, .string s] 58)).alloc (.cells #[.int .i64 z, .int .i64 d, .int .i64 t] 79)) := (((Below.refl _ _).alloc (Nat.le_refl _) _).alloc (by simp) _).alloc (by simp; omega) _
  have HB := Lib.hid hb0
  have ht := takes 6 n a s (((w.alloc (.cells #[.int .i64 caps, .slice o m c] 57)).alloc (.cells #[.int .u8 6, .int .i64 n, .int .i64 a, .string s] 58)).alloc (.cells #[.int .i64 z, .int .i64 d, .int .i64 t] 79))
  unfold IntPost at ht
  have HAF := Lib.hid (fun (h : rtk ⟨6, n, a, s⟩ < 0 ∨ d ≤ rtk ⟨6, n, a, s⟩ ∨ rfn fs caps globs ⟨6, n, a, s⟩ d t = false) => alw_false (fs := fs) (caps := caps) (globs := globs) h hd h1)
  have HA := Lib.hid (fun h1' h2' => alw_rfn (fs := fs) (caps := caps) (globs := globs) (x := ⟨6, n, a, s⟩) (d := d) (t := t) h1' h2' hd h1)
  generalize rtk ⟨6, n, a, s⟩ = T at *
  have HT := Lib.hid ht
  clear hb0 ht
  go_enter Try.func37, Try.ntmps37
  go_wp2_with fail
  refine HT.out.mono ?_
  rintro e w1 ⟨rfl, hb1⟩
  obtain ⟨k1, k2, k3⟩ := box3' hb1
  have HB1 := Lib.hid (HB.out.trans (hb1.mono HB.out.size))
  have c0 : w1.cell? ⟨w.heap.size, 0, none⟩ = some (.int .i64 caps) := cellk k1 rfl
  have q0 : w1.cell? ⟨w.heap.size + 1, 0, none⟩ = some (.int .u8 6) := cellk k2 rfl
  have q1 : w1.cell? ⟨w.heap.size + 1, 1, none⟩ = some (.int .i64 n) := cellk k2 rfl
  have q2 : w1.cell? ⟨w.heap.size + 1, 2, none⟩ = some (.int .i64 a) := cellk k2 rfl
  have r1 : w1.cell? ⟨w.heap.size + 1 + 1, 1, none⟩ = some (.int .i64 d) := cellk k3 rfl
  have r2 : w1.cell? ⟨w.heap.size + 1 + 1, 2, none⟩ = some (.int .i64 t) := cellk k3 rfl
  have l1 := lt_of_block k1
  have l2 := lt_of_block k2
  have l3 := lt_of_block k3
  clear hb1 k1 k2 k3
  by_cases hT0 : T < 0
  · go_wp2_with fail
    go_ret
    exact alPost (HAF.out (.inl hT0)) HB1.out
  by_cases hTd : d ≤ T
  · have hTd' : ¬ T < d := by omega
    go_wp2_with fail
    go_ret
    exact alPost (HAF.out (.inr (.inl hTd))) HB1.out
  have hTd' : T < d := by omega
  have hT0' : 0 ≤ T := by omega
  have HAR := Lib.hid (HA.out hTd' hT0')
  go_wp2_with fail
  go_quiet (fail)
  go_wp2_with fail
  go_ret
  refine alPost (HAR.out.trans ?_) (below_drewN HB1.out _)
  simp [rfn]
  omega
set_option maxHeartbeats 4000000 in
set_option maxRecDepth 100000 in
theorem fine_clos_far (fs : List Fun) (caps globs d t z : Int) (n a : Int) (s : ByteArray) (w : World) (o : Option Addr) (m c : Nat) (hd : d ≤ 1000000) (h1 : 1 ≤ d) (o2 : Option Addr) (c2 : Nat) (hn : 0 ≤ n) (hl : (fs.length : Int) ≤ n) :
    Calls Try.prog 37 #[.agg #[.int .i64 caps, .slice o m c], .agg #[.int .u8 6, .int .i64 n, .int .i64 a, .string s], .agg #[.int .i64 z, .int .i64 d, .int .i64 t], (.slice o2 fs.length c2), .int .i64 globs] w (AlPost fs caps globs ⟨6, n, a, s⟩ d t w) := by
  have hdn : decide (n < (fs.length : Int)) = false := by simp; omega
  have hb0 : Below w.heap.size w (((w.alloc (.cells #[.int .i64 caps, .slice o m c] 57)).alloc (.cells #[.int .u8 6, .int .i64 n, .int .i64 a, .string s] 58)).alloc (.cells #[.int .i64 z, .int .i64 d, .int .i64 t] 79)) := (((Below.refl _ _).alloc (Nat.le_refl _) _).alloc (by simp) _).alloc (by simp; omega) _
  have HB := Lib.hid hb0
  have ht := takes 6 n a s (((w.alloc (.cells #[.int .i64 caps, .slice o m c] 57)).alloc (.cells #[.int .u8 6, .int .i64 n, .int .i64 a, .string s] 58)).alloc (.cells #[.int .i64 z, .int .i64 d, .int .i64 t] 79))
  unfold IntPost at ht
  have HAF := Lib.hid (fun (h : rtk ⟨6, n, a, s⟩ < 0 ∨ d ≤ rtk ⟨6, n, a, s⟩ ∨ rfn fs caps globs ⟨6, n, a, s⟩ d t = false) => alw_false (fs := fs) (caps := caps) (globs := globs) h hd h1)
  have HA := Lib.hid (fun h1' h2' => alw_rfn (fs := fs) (caps := caps) (globs := globs) (x := ⟨6, n, a, s⟩) (d := d) (t := t) h1' h2' hd h1)
  generalize rtk ⟨6, n, a, s⟩ = T at *
  have HT := Lib.hid ht
  clear hb0 ht
  go_enter Try.func37, Try.ntmps37
  go_wp2_with fail
  refine HT.out.mono ?_
  rintro e w1 ⟨rfl, hb1⟩
  obtain ⟨k1, k2, k3⟩ := box3' hb1
  have HB1 := Lib.hid (HB.out.trans (hb1.mono HB.out.size))
  have c0 : w1.cell? ⟨w.heap.size, 0, none⟩ = some (.int .i64 caps) := cellk k1 rfl
  have q0 : w1.cell? ⟨w.heap.size + 1, 0, none⟩ = some (.int .u8 6) := cellk k2 rfl
  have q1 : w1.cell? ⟨w.heap.size + 1, 1, none⟩ = some (.int .i64 n) := cellk k2 rfl
  have q2 : w1.cell? ⟨w.heap.size + 1, 2, none⟩ = some (.int .i64 a) := cellk k2 rfl
  have r1 : w1.cell? ⟨w.heap.size + 1 + 1, 1, none⟩ = some (.int .i64 d) := cellk k3 rfl
  have r2 : w1.cell? ⟨w.heap.size + 1 + 1, 2, none⟩ = some (.int .i64 t) := cellk k3 rfl
  have l1 := lt_of_block k1
  have l2 := lt_of_block k2
  have l3 := lt_of_block k3
  clear hb1 k1 k2 k3
  by_cases hT0 : T < 0
  · go_wp2_with fail
    go_ret
    exact alPost (HAF.out (.inl hT0)) HB1.out
  by_cases hTd : d ≤ T
  · have hTd' : ¬ T < d := by omega
    go_wp2_with fail
    go_ret
    exact alPost (HAF.out (.inr (.inl hTd))) HB1.out
  have hTd' : T < d := by omega
  have hT0' : 0 ≤ T := by omega
  have HAR := Lib.hid (HA.out hTd' hT0')
  go_wp2_with fail
  go_quiet (fail)
  go_wp2_with fail
  go_ret
  refine alPost (HAR.out.trans ?_) (below_drewN HB1.out _)
  simp [rfn]
  omega
set_option maxHeartbeats 4000000 in
set_option maxRecDepth 100000 in
theorem fine_clos_is (fs : List Fun) (caps globs d t z : Int) (n a : Int) (s : ByteArray) (w : World) (o : Option Addr) (m c : Nat) (hd : d ≤ 1000000) (h1 : 1 ≤ d) (b off c2 k : Nat) (cv : Int) (hn : n = (k : Int)) (hk : k < fs.length) (_hcp : fs.length ≤ c2) (cf : w.cell? ⟨b, off + k * 2, none⟩ = some (.int .i64 cv)) (hv : fs[k]?.map Fun.caps = some cv) :
    Calls Try.prog 37 #[.agg #[.int .i64 caps, .slice o m c], .agg #[.int .u8 6, .int .i64 n, .int .i64 a, .string s], .agg #[.int .i64 z, .int .i64 d, .int .i64 t], (.slice (some ⟨b, off, none⟩) fs.length c2), .int .i64 globs] w (AlPost fs caps globs ⟨6, n, a, s⟩ d t w) := by
  subst hn
  have HV := Lib.hid hv
  clear hv
  have hki : (k : Int) < (fs.length : Int) := by omega
  have hb0 : Below w.heap.size w (((w.alloc (.cells #[.int .i64 caps, .slice o m c] 57)).alloc (.cells #[.int .u8 6, .int .i64 (k : Int), .int .i64 a, .string s] 58)).alloc (.cells #[.int .i64 z, .int .i64 d, .int .i64 t] 79)) := (((Below.refl _ _).alloc (Nat.le_refl _) _).alloc (by simp) _).alloc (by simp; omega) _
  have HB := Lib.hid hb0
  have ht := takes 6 (k : Int) a s (((w.alloc (.cells #[.int .i64 caps, .slice o m c] 57)).alloc (.cells #[.int .u8 6, .int .i64 (k : Int), .int .i64 a, .string s] 58)).alloc (.cells #[.int .i64 z, .int .i64 d, .int .i64 t] 79))
  unfold IntPost at ht
  have HAF := Lib.hid (fun (h : rtk ⟨6, (k : Int), a, s⟩ < 0 ∨ d ≤ rtk ⟨6, (k : Int), a, s⟩ ∨ rfn fs caps globs ⟨6, (k : Int), a, s⟩ d t = false) => alw_false (fs := fs) (caps := caps) (globs := globs) h hd h1)
  have HA := Lib.hid (fun h1' h2' => alw_rfn (fs := fs) (caps := caps) (globs := globs) (x := ⟨6, (k : Int), a, s⟩) (d := d) (t := t) h1' h2' hd h1)
  generalize rtk ⟨6, (k : Int), a, s⟩ = T at *
  have HT := Lib.hid ht
  clear hb0 ht
  go_enter Try.func37, Try.ntmps37
  go_wp2_with fail
  refine HT.out.mono ?_
  rintro e w1 ⟨rfl, hb1⟩
  obtain ⟨k1, k2, k3⟩ := box3' hb1
  have HB1 := Lib.hid (HB.out.trans (hb1.mono HB.out.size))
  have c0 : w1.cell? ⟨w.heap.size, 0, none⟩ = some (.int .i64 caps) := cellk k1 rfl
  have q0 : w1.cell? ⟨w.heap.size + 1, 0, none⟩ = some (.int .u8 6) := cellk k2 rfl
  have q1 : w1.cell? ⟨w.heap.size + 1, 1, none⟩ = some (.int .i64 (k : Int)) := cellk k2 rfl
  have q2 : w1.cell? ⟨w.heap.size + 1, 2, none⟩ = some (.int .i64 a) := cellk k2 rfl
  have r1 : w1.cell? ⟨w.heap.size + 1 + 1, 1, none⟩ = some (.int .i64 d) := cellk k3 rfl
  have r2 : w1.cell? ⟨w.heap.size + 1 + 1, 2, none⟩ = some (.int .i64 t) := cellk k3 rfl
  have l1 := lt_of_block k1
  have l2 := lt_of_block k2
  have l3 := lt_of_block k3
  have cf1 : w1.cell? ⟨b, off + k * 2, none⟩ = some (.int .i64 cv) := ((HB.out.trans (hb1.mono HB.out.size)).cell (World.block_lt_of_cell? w _ cf)).trans cf
  have hbw := World.block_lt_of_cell? w1 _ cf1
  clear hb1 k1 k2 k3 cf
  by_cases hT0 : T < 0
  · go_wp2_with fail
    go_ret
    exact alPost (HAF.out (.inl hT0)) HB1.out
  by_cases hTd : d ≤ T
  · have hTd' : ¬ T < d := by omega
    go_wp2_with fail
    go_ret
    exact alPost (HAF.out (.inr (.inl hTd))) HB1.out
  have hTd' : T < d := by omega
  have hT0' : 0 ≤ T := by omega
  have HAR := Lib.hid (HA.out hTd' hT0')
  go_wp2_with fail
  go_quiet (fail)
  go_wp2_with fail
  go_ret
  refine alPost (HAR.out.trans ?_) (below_drewN HB1.out _)
  have hv := HV.out
  rw [Bool.eq_iff_iff, beq_iff_eq]
  show decide (0 ≤ (k : Int) ∧ (k : Int) < fs.length ∧ (fs[((k : Int)).toNat]?.map Fun.caps) = some a) = true ↔ _
  rw [Int.toNat_natCast, hv, decide_eq_true_eq, Option.some.injEq]
  exact ⟨fun ⟨_, _, h⟩ => h, fun h => ⟨by omega, hki, h⟩⟩

theorem fine_any (fs : List Fun) (caps globs d t z : Int) (op : Nat) (n a : Int) (s : ByteArray) (w : World) (va : Value) (o : Option Addr) (m c : Nat) (hd : d ≤ 1000000) (h1 : 1 ≤ d) (hf : RdF w va fs) :
    Calls Try.prog 37 #[.agg #[.int .i64 caps, .slice o m c], .agg #[.int .u8 (op : Int), .int .i64 n, .int .i64 a, .string s], .agg #[.int .i64 z, .int .i64 d, .int .i64 t], va, .int .i64 globs] w (AlPost fs caps globs ⟨op, n, a, s⟩ d t w) := by
  by_cases h6 : op = 6
  · subst h6
    by_cases hn : n < 0
    · obtain ⟨o2, c2, rfl⟩ := hf.form
      exact fine_clos_neg fs caps globs d t z n a s w o m c hd h1 o2 c2 hn
    have hn := Int.not_lt.1 hn
    by_cases hl : n < fs.length
    · obtain ⟨k, rfl⟩ := Int.eq_ofNat_of_zero_le hn
      have hk : k < fs.length := by omega
      rcases hf with ⟨o2, c2, rfl, rfl⟩ | ⟨b, off, c2, rfl, g1, g2, g3, g4⟩
      · simp at hk
      · obtain ⟨cc, _⟩ := g4 k fs[k] (by simp [hk])
        exact fine_clos_is fs caps globs d t z _ a s w o m c hd h1 b off c2 k _ rfl hk g2 cc (by simp [hk])
    · have hl := Int.not_lt.1 hl
      obtain ⟨o2, c2, rfl⟩ := hf.form
      exact fine_clos_far fs caps globs d t z n a s w o m c hd h1 o2 c2 hn hl
  · exact fine_rest fs caps globs d t z op n a s w va o m c hd h1 h6
end Go.Proofs.Ytoplheipfbnobaa
