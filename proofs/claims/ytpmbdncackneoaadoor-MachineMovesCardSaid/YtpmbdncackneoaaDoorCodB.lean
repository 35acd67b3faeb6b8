/- What an instruction names; whether it is allowed. -/
import Derived.Test.YtpmbdncackneoaaDoorCodA
import Derived.WalkSmall
namespace Go.Proofs.YtpmbdncackneoaaDoor.Oc
open Go.RowKit OctM CodM

set_option maxHeartbeats 4000000 in
set_option maxRecDepth 100000 in
theorem names_cap (fs : List Fun) (p : Nat) (caps globs d t : Int) (n a : Int) (s : ByteArray) (w : World) (c : w.cell? ⟨p, 2, none⟩ = some (.int .i64 caps)) :
    Calls Tryd.prog 66 #[.pointer (some ⟨p, 0, none⟩), .agg #[.int .u8 3, .int .i64 n, .int .i64 a, .string s], .agg #[.int .i64 d, .int .i64 t]] w (NmPost fs caps globs ⟨3, n, a, s⟩ d w) := by
  have hp : p < w.heap.size := World.block_lt_of_cell? w _ c
  have HB := Lib.hid (fun k => show Below w.heap.size w (((w.alloc (.cells #[.int .u8 3, .int .i64 n, .int .i64 a, .string s] 28)).alloc (.cells #[.int .i64 d, .int .i64 t] 103)).drewN k) from below_drewN (((Below.refl _ _).alloc (Nat.le_refl _) _).alloc (by simp) _) k)
  by_cases h0 : 0 ≤ n
  · go_enter Tryd.func66, Tryd.ntmps66
    go_wp2_with fail
    go_quiet (fail)
    go_wp2_with fail
    go_ret
    refine nmPost ?_ (HB.out _)
    simp [nm, h0]
  · have hd : decide (0 ≤ n) = false := by simpa using h0
    go_enter Tryd.func66, Tryd.ntmps66
    go_wp2_with fail
    go_quiet (fail)
    go_wp2_with fail
    go_ret
    refine nmPost ?_ (HB.out _)
    simp [nm]
    omega

set_option maxHeartbeats 4000000 in
set_option maxRecDepth 100000 in
theorem names_glob (fs : List Fun) (p : Nat) (caps globs d t : Int) (n a : Int) (s : ByteArray) (w : World) (c : w.cell? ⟨p, 1, none⟩ = some (.int .i64 globs)) :
    Calls Tryd.prog 66 #[.pointer (some ⟨p, 0, none⟩), .agg #[.int .u8 5, .int .i64 n, .int .i64 a, .string s], .agg #[.int .i64 d, .int .i64 t]] w (NmPost fs caps globs ⟨5, n, a, s⟩ d w) := by
  have hp : p < w.heap.size := World.block_lt_of_cell? w _ c
  have HB := Lib.hid (fun k => show Below w.heap.size w (((w.alloc (.cells #[.int .u8 5, .int .i64 n, .int .i64 a, .string s] 28)).alloc (.cells #[.int .i64 d, .int .i64 t] 103)).drewN k) from below_drewN (((Below.refl _ _).alloc (Nat.le_refl _) _).alloc (by simp) _) k)
  by_cases h0 : 0 ≤ n
  · go_enter Tryd.func66, Tryd.ntmps66
    go_wp2_with fail
    go_quiet (fail)
    go_wp2_with fail
    go_ret
    refine nmPost ?_ (HB.out _)
    simp [nm, h0]
  · have hd : decide (0 ≤ n) = false := by simpa using h0
    go_enter Tryd.func66, Tryd.ntmps66
    go_wp2_with fail
    go_quiet (fail)
    go_wp2_with fail
    go_ret
    refine nmPost ?_ (HB.out _)
    simp [nm]
    omega

set_option maxHeartbeats 4000000 in
set_option maxRecDepth 100000 in
theorem names_clos_neg (fs : List Fun) (p : Nat) (caps globs d t : Int) (n a : Int) (s : ByteArray) (w : World) {o : Option Addr} {cp : Nat} (c : w.cell? ⟨p, 0, none⟩ = some (.slice o fs.length cp)) (h : n < 0) :
    Calls Tryd.prog 66 #[.pointer (some ⟨p, 0, none⟩), .agg #[.int .u8 6, .int .i64 n, .int .i64 a, .string s], .agg #[.int .i64 d, .int .i64 t]] w (NmPost fs caps globs ⟨6, n, a, s⟩ d w) := by
  have hd : decide (0 ≤ n) = false := by simp; omega
  have hp : p < w.heap.size := World.block_lt_of_cell? w _ c
  have HB := Lib.hid (fun k => show Below w.heap.size w (((w.alloc (.cells #[.int .u8 6, .int .i64 n, .int .i64 a, .string s] 28)).alloc (.cells #[.int .i64 d, .int .i64 t] 103)).drewN k) from below_drewN (((Below.refl _ _).alloc (Nat.le_refl _) _).alloc (by simp) _) k)
  go_enter Tryd.func66, Tryd.ntmps66
  go_wp2_with fail
  go_quiet (fail)
  go_wp2_with fail
  go_ret
  refine nmPost ?_ (HB.out _)
  simp [nm]; omega

set_option maxHeartbeats 4000000 in
set_option maxRecDepth 100000 in
theorem names_clos_far (fs : List Fun) (p : Nat) (caps globs d t : Int) (n a : Int) (s : ByteArray) (w : World) {o : Option Addr} {cp : Nat} (c : w.cell? ⟨p, 0, none⟩ = some (.slice o fs.length cp)) (h0 : 0 ≤ n) (h : (fs.length : Int) ≤ n) :
    Calls Tryd.prog 66 #[.pointer (some ⟨p, 0, none⟩), .agg #[.int .u8 6, .int .i64 n, .int .i64 a, .string s], .agg #[.int .i64 d, .int .i64 t]] w (NmPost fs caps globs ⟨6, n, a, s⟩ d w) := by
  have hd : decide (n < (fs.length : Int)) = false := by simp; omega
  have hp : p < w.heap.size := World.block_lt_of_cell? w _ c
  have HB := Lib.hid (fun k => show Below w.heap.size w (((w.alloc (.cells #[.int .u8 6, .int .i64 n, .int .i64 a, .string s] 28)).alloc (.cells #[.int .i64 d, .int .i64 t] 103)).drewN k) from below_drewN (((Below.refl _ _).alloc (Nat.le_refl _) _).alloc (by simp) _) k)
  go_enter Tryd.func66, Tryd.ntmps66
  go_wp2_with fail
  go_quiet (fail)
  go_wp2_with fail
  go_ret
  refine nmPost ?_ (HB.out _)
  simp [nm]; omega

set_option maxHeartbeats 4000000 in
set_option maxRecDepth 100000 in
theorem names_clos_less (fs : List Fun) (p : Nat) (caps globs d t : Int) (n a : Int) (s : ByteArray) (w : World) {o : Option Addr} {cp : Nat} (c : w.cell? ⟨p, 0, none⟩ = some (.slice o fs.length cp)) (h0 : 0 ≤ n) (h : n < (fs.length : Int)) (ha : a < 0) :
    Calls Tryd.prog 66 #[.pointer (some ⟨p, 0, none⟩), .agg #[.int .u8 6, .int .i64 n, .int .i64 a, .string s], .agg #[.int .i64 d, .int .i64 t]] w (NmPost fs caps globs ⟨6, n, a, s⟩ d w) := by
  have hd : decide (0 ≤ a) = false := by simp; omega
  have hp : p < w.heap.size := World.block_lt_of_cell? w _ c
  have HB := Lib.hid (fun k => show Below w.heap.size w (((w.alloc (.cells #[.int .u8 6, .int .i64 n, .int .i64 a, .string s] 28)).alloc (.cells #[.int .i64 d, .int .i64 t] 103)).drewN k) from below_drewN (((Below.refl _ _).alloc (Nat.le_refl _) _).alloc (by simp) _) k)
  go_enter Tryd.func66, Tryd.ntmps66
  go_wp2_with fail
  go_quiet (fail)
  go_wp2_with fail
  go_ret
  refine nmPost ?_ (HB.out _)
  simp [nm]; omega

set_option maxHeartbeats 4000000 in
set_option maxRecDepth 100000 in
theorem names_clos_is (fs : List Fun) (p : Nat) (caps globs d t : Int) (n a : Int) (s : ByteArray) (w : World) {b off cp : Nat} {k : Nat} {cv : Int} (c : w.cell? ⟨p, 0, none⟩ = some (.slice (some ⟨b, off, none⟩) fs.length cp)) (hn : n = (k : Int)) (hk : k < fs.length) (ha : 0 ≤ a) (_hcp : fs.length ≤ cp) (_hm : cp ≤ maxLen) (cf : w.cell? ⟨b, off + k * 2, none⟩ = some (.int .i64 cv)) (hv : fs[k]?.map Fun.caps = some cv) :
    Calls Tryd.prog 66 #[.pointer (some ⟨p, 0, none⟩), .agg #[.int .u8 6, .int .i64 n, .int .i64 a, .string s], .agg #[.int .i64 d, .int .i64 t]] w (NmPost fs caps globs ⟨6, n, a, s⟩ d w) := by
  subst hn
  have HV := Lib.hid hv
  clear hv
  have hb : b < w.heap.size := World.block_lt_of_cell? w _ cf
  have hki : (k : Int) < (fs.length : Int) := by omega

  have hp : p < w.heap.size := World.block_lt_of_cell? w _ c
  have HB := Lib.hid (fun z => show Below w.heap.size w (((w.alloc (.cells #[.int .u8 6, .int .i64 (k : Int), .int .i64 a, .string s] 28)).alloc (.cells #[.int .i64 d, .int .i64 t] 103)).drewN z) from below_drewN (((Below.refl _ _).alloc (Nat.le_refl _) _).alloc (by simp) _) z)
  go_enter Tryd.func66, Tryd.ntmps66
  go_wp2_with fail
  go_quiet (fail)
  go_wp2_with fail
  go_ret
  refine nmPost ?_ (HB.out _)
  have hv := HV.out
  rw [Bool.eq_iff_iff, beq_iff_eq]
  show decide (0 ≤ (k : Int) ∧ (k : Int) < fs.length ∧ 0 ≤ a ∧ (fs[((k : Int)).toNat]?.map Fun.caps) = some a) = true ↔ _
  rw [Int.toNat_natCast, hv, decide_eq_true_eq, Option.some.injEq]
  exact ⟨fun ⟨_, _, _, h⟩ => h.symm, fun h => ⟨by omega, hki, ha, h.symm⟩⟩

/-- The walk's cells. -/
structure WkC (w : World) (p : Nat) (va : Value) (globs caps : Int) (vc : Value) (q n : Nat) : Prop where
  blk : w.heap[p]? = some (.cells #[va, .int .i64 globs, .int .i64 caps, vc, .slice (some ⟨q, 0, none⟩) n n] 80 (0, 0))
section
variable {w : World} {p q n : Nat} {va vc : Value} {globs caps : Int}
theorem WkC.c0 (h : WkC w p va globs caps vc q n) : w.cell? ⟨p, 0, none⟩ = some va := by simp [World.cell?, h.blk]
theorem WkC.c1 (h : WkC w p va globs caps vc q n) : w.cell? ⟨p, 1, none⟩ = some (.int .i64 globs) := by simp [World.cell?, h.blk]
theorem WkC.c2 (h : WkC w p va globs caps vc q n) : w.cell? ⟨p, 2, none⟩ = some (.int .i64 caps) := by simp [World.cell?, h.blk]
theorem WkC.c3 (h : WkC w p va globs caps vc q n) : w.cell? ⟨p, 3, none⟩ = some vc := by simp [World.cell?, h.blk]
theorem WkC.c4 (h : WkC w p va globs caps vc q n) : w.cell? ⟨p, 4, none⟩ = some (.slice (some ⟨q, 0, none⟩) n n) := by simp [World.cell?, h.blk]
theorem WkC.lt (h : WkC w p va globs caps vc q n) : p < w.heap.size := lt_of_block h.blk
theorem WkC.kept {w' : World} (h : WkC w p va globs caps vc q n) (hk : w'.heap[p]? = w.heap[p]?) : WkC w' p va globs caps vc q n := ⟨hk.trans h.blk⟩
end

theorem names_any (fs : List Fun) (p q m : Nat) (caps globs d t : Int) (op : Nat) (n a : Int) (s : ByteArray) (w : World) (va vc : Value) (h : WkC w p va globs caps vc q m) (hf : RdF w va fs) :
    Calls Tryd.prog 66 #[.pointer (some ⟨p, 0, none⟩), .agg #[.int .u8 (op : Int), .int .i64 n, .int .i64 a, .string s], .agg #[.int .i64 d, .int .i64 t]] w (NmPost fs caps globs ⟨op, n, a, s⟩ d w) := by
  by_cases h3 : op = 3
  · subst h3; exact names_cap fs p caps globs d t n a s w h.c2
  by_cases h5 : op = 5
  · subst h5; exact names_glob fs p caps globs d t n a s w h.c1
  by_cases h6 : op = 6
  · subst h6
    have c0 := h.c0
    by_cases hn : n < 0
    · obtain ⟨o, c, rfl⟩ := hf.form
      exact names_clos_neg fs p caps globs d t n a s w c0 hn
    have hn := Int.not_lt.1 hn
    by_cases hl : n < fs.length
    · by_cases ha : a < 0
      · obtain ⟨o, c, rfl⟩ := hf.form
        exact names_clos_less fs p caps globs d t n a s w c0 hn hl ha
      · have ha := Int.not_lt.1 ha
        obtain ⟨k, rfl⟩ := Int.eq_ofNat_of_zero_le hn
        have hk : k < fs.length := by omega
        rcases hf with ⟨o, c, rfl, rfl⟩ | ⟨b, off, c, rfl, g1, g2, g3, g4⟩
        · simp at hk
        · obtain ⟨cc, _⟩ := g4 k fs[k] (by simp [hk])
          exact names_clos_is fs p caps globs d t _ a s w c0 rfl hk ha g2 g3 cc (by simp [hk])
    · have hl := Int.not_lt.1 hl
      obtain ⟨o, c, rfl⟩ := hf.form
      exact names_clos_far fs p caps globs d t n a s w c0 hn hl
  exact names_rest fs p caps globs d t op n a s w h3 h5 h6

theorem cellk {w : World} {b i : Nat} {cs : Array Value} {t : TypeId} {fr : Nat × Nat} {v : Value} (h : w.heap[b]? = some (.cells cs t fr)) (hv : cs[i]? = some v) : w.cell? ⟨b, i, none⟩ = some v := by simp [World.cell?, h, hv]
theorem box2 {w w1 : World} {o1 o2 : Obj} (h : Below ((w.alloc o1).alloc o2).heap.size ((w.alloc o1).alloc o2) w1) : w1.heap[w.heap.size]? = some o1 ∧ w1.heap[w.heap.size + 1]? = some o2 := by
  have s1 := heap_alloc_new w o1
  have s2 := heap_alloc_new (w.alloc o1) o2
  have e : (w.alloc o1).heap.size = w.heap.size + 1 := by simp
  rw [e] at s2
  exact ⟨(h.block _ (by simp; omega)).trans ((Below.heap_alloc _ _ _ (by simp)).trans s1), (h.block _ (by simp)).trans s2⟩

def AlPost (fs : List Fun) (caps globs : Int) (x : Ins) (d t : Int) (w : World) (e : Ending) (w' : World) : Prop := e = .returned (.bool (alw fs caps globs x d t)) ∧ Below w.heap.size w w'
theorem alPost {fs : List Fun} {caps globs : Int} {x : Ins} {d t : Int} {w w' : World} {b : Bool} (hb : alw fs caps globs x d t = b) (h : Below w.heap.size w w') : AlPost fs caps globs x d t w (.returned (.bool b)) w' := by
  subst hb; exact ⟨rfl, h⟩

set_option maxHeartbeats 4000000 in
set_option maxRecDepth 100000 in
theorem isAllowed (fs : List Fun) (p q m : Nat) (caps globs d t : Int) (op : Nat) (n a : Int) (s : ByteArray) (w : World) (va vc : Value) (h : WkC w p va globs caps vc q m) (hf : RdF w va fs) :
    Calls Tryd.prog 47 #[.pointer (some ⟨p, 0, none⟩), .agg #[.int .u8 (op : Int), .int .i64 n, .int .i64 a, .string s], .agg #[.int .i64 d, .int .i64 t]] w (AlPost fs caps globs ⟨op, n, a, s⟩ d t w) := by
  have hb2 : Below w.heap.size w ((w.alloc (.cells #[.int .u8 (op : Int), .int .i64 n, .int .i64 a, .string s] 28)).alloc (.cells #[.int .i64 d, .int .i64 t] 103)) := ((Below.refl _ _).alloc (Nat.le_refl _) _).alloc (by simp) _
  have HB := Lib.hid hb2
  by_cases h26 : 26 < op
  · have t26 : decide (26 < (op : Int)) = true := by simp; omega
    go_enter Tryd.func47, Tryd.ntmps47
    go_wp2_with fail
    go_ret
    refine alPost ?_ HB.out
    have : decide (op ≤ 26) = false := by simp; omega
    simp [alw, this]
  · have t26 : decide (26 < (op : Int)) = false := by simp; omega
    have HN := Lib.hid (names_any fs p q m caps globs d t op n a s _ va vc (h.kept (hb2.block p h.lt)) (hf.below hb2 (Nat.le_refl _)))
    clear hb2
    rcases hnm : nm fs caps globs ⟨op, n, a, s⟩ d with _ | _
    · have HM := Lib.hid hnm
      unfold NmPost at HN
      rw [hnm] at HN
      clear hnm
      go_enter Tryd.func47, Tryd.ntmps47
      go_wp2_with fail
      refine HN.out.mono ?_
      rintro e w1 ⟨rfl, hb1⟩
      have HB1 := Lib.hid (HB.out.trans (hb1.mono HB.out.size))
      clear hb1
      go_wp2_with fail
      go_ret
      refine alPost ?_ HB1.out
      simp [alw, HM.out]
    · have HM := Lib.hid hnm
      unfold NmPost at HN
      rw [hnm] at HN
      clear hnm
      go_enter Tryd.func47, Tryd.ntmps47
      go_wp2_with fail
      refine HN.out.mono ?_
      rintro e w1 ⟨rfl, hb1⟩
      have HB1 := Lib.hid (HB.out.trans (hb1.mono HB.out.size))
      have hs1 := hb1.size
      obtain ⟨k1, k2⟩ := box2 hb1
      have c0 : w1.cell? ⟨w.heap.size, 0, none⟩ = some (.int .u8 (op : Int)) := cellk k1 rfl
      have c1 : w1.cell? ⟨w.heap.size, 1, none⟩ = some (.int .i64 n) := cellk k1 rfl
      have c2 : w1.cell? ⟨w.heap.size, 2, none⟩ = some (.int .i64 a) := cellk k1 rfl
      have c3 : w1.cell? ⟨w.heap.size, 3, none⟩ = some (.string s) := cellk k1 rfl
      have l1 := lt_of_block k1
      have l2 := lt_of_block k2
      have K1 := Lib.hid k1
      have K2 := Lib.hid k2
      clear k1 k2 hs1
      have HE := Lib.hid (effect op n a s w1)
      clear hb1
      go_wp2_with fail
      refine HE.out.mono ?_
      rintro e w2 ⟨rfl, hb2⟩
      have HB2 := Lib.hid (HB1.out.trans (hb2.mono HB1.out.size))
      have e0 : w2.cell? ⟨w.heap.size, 0, none⟩ = some (.int .u8 (op : Int)) := cellk ((hb2.block _ l1).trans K1.out) rfl
      have f0 : w2.cell? ⟨w.heap.size + 1, 0, none⟩ = some (.int .i64 d) := cellk ((hb2.block _ l2).trans K2.out) rfl
      have f1 : w2.cell? ⟨w.heap.size + 1, 1, none⟩ = some (.int .i64 t) := cellk ((hb2.block _ l2).trans K2.out) rfl
      generalize htk : tk ⟨op, n, a, s⟩ = T
      generalize lv ⟨op, n, a, s⟩ = L
      have HT := Lib.hid htk
      clear hb2 c0 c1 c2 c3 htk
      go_wp2_with fail
      all_goals
        go_ret
        refine alPost ?_ HB2.out
        have hm := HM.out
        have ht := HT.out
        have h26' : decide (op ≤ 26) = true := by simp; omega
        simp only [beq_iff_eq, beq_eq_false_iff_ne, ne_eq] at *
        simp only [alw, hm, ht, h26', Bool.true_and]
        (repeat' split) <;> first | rfl | (exfalso; omega) | (rw [Bool.eq_iff_iff]; simp only [decide_eq_true_eq, Bool.false_eq_true, iff_false, beq_iff_eq]; omega)
end Go.Proofs.YtpmbdncackneoaaDoor.Oc
