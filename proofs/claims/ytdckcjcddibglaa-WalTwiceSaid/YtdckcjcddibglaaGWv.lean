/- WaV, WaW, WaX, in one text. -/
import Derived.Test.YtdckcjcddibglaaGWt
import Derived.Deep.RegionHeld3
import Derived.OrdersHeld
import Derived.Lib.SlBytesConst

namespace Go.Proofs.Ytdckcjcddibglaa
open Go.RowKit OctM

/-- A drum of three tracks that does what it is asked. -/
structure Calm (d : Dr) : Prop where
  n : d.n = 3
  off : d.off = false
  fuse : d.fuse = 0
def wrT (d : Dr) (i : Nat) (p : List UInt8) : Dr := { d.set i ⟨p, (d.tr i).dur, true⟩ with ops := d.ops + 1 }
def apT (d : Dr) (i : Nat) (p : List UInt8) : Dr := { d.set i ⟨(d.tr i).now ++ p, (d.tr i).dur, (d.tr i).wr⟩ with ops := d.ops + 1 }
def syT (d : Dr) (i : Nat) : Dr := ({ d with ops := d.ops + 1 } : Dr).set i ⟨(d.tr i).now, (d.tr i).now, false⟩
theorem Calm.chk {d : Dr} (h : Calm d) (i : Nat) (hi : i < 3) : chk d i = 0 := by
  unfold Go.Proofs.Ytdckcjcddibglaa.chk
  rw [if_neg (by rw [h.n]; omega), if_neg (by rw [h.off]; simp)]
theorem calm_write {d : Dr} (h : Calm d) (i : Nat) (hi : i < 3) (p : List UInt8) (hp : p.length ≤ d.most) : writeS d i p = (0, wrT d i p) := by
  unfold writeS
  rw [h.chk i hi, if_neg (by simp), if_neg (by omega), Int.toNat_natCast]
  unfold cnt
  rw [if_pos (show (d.set i _).fuse = 0 from h.fuse)]
  rfl
theorem calm_app {d : Dr} (h : Calm d) (i : Nat) (hi : i < 3) (p : List UInt8) (hp : (d.tr i).now.length + p.length ≤ d.most) : appS d i p = (0, apT d i p) := by
  unfold appS
  rw [h.chk i hi, if_neg (by simp), Int.toNat_natCast, if_neg (by omega)]
  unfold cnt
  rw [if_pos (show (d.set i _).fuse = 0 from h.fuse)]
  rfl
theorem calm_sync {d : Dr} (h : Calm d) (i : Nat) (hi : i < 3) : syncS d i = (0, syT d i) := by
  have hc : cnt d = (0, { d with ops := d.ops + 1 }) := by
    unfold cnt
    rw [if_pos h.fuse]
  unfold syncS
  rw [h.chk i hi, if_neg (by simp), hc, if_pos rfl, Int.toNat_natCast]
  rfl
theorem Calm.wr {d : Dr} (h : Calm d) (i : Nat) (p : List UInt8) : Calm (wrT d i p) := ⟨h.n, h.off, h.fuse⟩
theorem Calm.ap {d : Dr} (h : Calm d) (i : Nat) (p : List UInt8) : Calm (apT d i p) := ⟨h.n, h.off, h.fuse⟩
theorem Calm.sy {d : Dr} (h : Calm d) (i : Nat) : Calm (syT d i) := ⟨h.n, h.off, h.fuse⟩
theorem calm_new (most : Nat) : Calm (new 3 most) := ⟨rfl, rfl, rfl⟩

theorem encB_len (k : List UInt8) : (encB k).length ≤ k.length + 9 := encB_length k
theorem enc_le (n : Nat) : (enc n).length ≤ 9 := by
  rw [enc_length]
  have := nd_le n
  omega
theorem bodyE_len (c : Nat) : ∀ (l : List En), (∀ x ∈ l, x.cl.length ≤ c) → (bodyE l).length ≤ l.length * (c + 40)
  | [], _ => by simp [bodyE]
  | x :: l, h => by
    have ih := bodyE_len c l (fun y hy => h y (List.mem_cons_of_mem _ hy))
    have h1 := enc_le x.tm
    have h2 := enc_le x.ss
    have h3 := enc_le x.nm
    have h4 := encB_len x.cl
    have h5 := h x List.mem_cons_self
    simp only [bodyE, List.flatMap_cons, List.length_append, encE, List.length_cons] at ih ⊢
    rw [Nat.add_mul]
    omega
theorem framesE_len (c : Nat) : ∀ (l : List En), (∀ x ∈ l, x.cl.length ≤ c) → (framesE l).length ≤ l.length * (c + 60)
  | [], _ => by simp [framesE]
  | x :: l, h => by
    have ih := framesE_len c l (fun y hy => h y (List.mem_cons_of_mem _ hy))
    have h1 := enc_le x.tm
    have h2 := enc_le x.ss
    have h3 := enc_le x.nm
    have h4 := encB_len x.cl
    have h5 := h x List.mem_cons_self
    have h6 := encB_len (sealed (encE x))
    have h7 : (sealed (encE x)).length = (encE x).length + 4 := sealed_length _
    have h8 : (encE x).length = (enc x.tm).length + (enc x.ss).length + (enc x.nm).length + (encB x.cl).length := by simp only [encE, List.length_append]
    simp only [framesE, List.flatMap_cons, List.length_append, List.length_cons] at ih ⊢
    rw [Nat.add_mul]
    have h9 : (frE x).length = (encB (sealed (encE x))).length := rfl
    omega
theorem wholeB_len (c turn : Nat) (s : Wst) (h : ∀ x ∈ s.lg, x.cl.length ≤ c) : (wholeB turn s).length ≤ 60 + s.lg.length * (c + 40) := by
  have h1 := bodyE_len c s.lg h
  have h2 := encB_len (sealed (headB turn s ++ bodyE s.lg))
  have h3 : (sealed (headB turn s ++ bodyE s.lg)).length = (headB turn s ++ bodyE s.lg).length + 4 := sealed_length _
  have a1 := enc_le turn
  have a2 := enc_le s.tm
  have a3 := enc_le (zig s.vt)
  have a4 := enc_le s.bs
  have a5 := enc_le s.lg.length
  have h4 : (headB turn s).length = (enc turn).length + (enc s.tm).length + (enc (zig s.vt)).length + (enc s.bs).length + (enc s.lg.length).length := by simp only [headB, List.length_append]
  rw [List.length_append] at h3
  unfold wholeB
  omega
theorem saveB_len (c tm : Nat) (vt : Int) (fr : Nat) (l : List En) (h : ∀ x ∈ l, x.cl.length ≤ c) : (saveB tm vt fr l).length ≤ 60 + l.length * (c + 60) := by
  have h1 := framesE_len c l h
  have h2 := encB_len (sealed (shead tm vt fr l.length))
  have h3 : (sealed (shead tm vt fr l.length)).length = (shead tm vt fr l.length).length + 4 := sealed_length _
  have a1 := enc_le tm
  have a2 := enc_le (zig vt)
  have a3 := enc_le fr
  have a4 := enc_le l.length
  have h4 : (shead tm vt fr l.length).length = (enc tm).length + (enc (zig vt)).length + (enc fr).length + (enc l.length).length := by simp only [shead, List.length_append]
  unfold saveB
  rw [List.length_append]
  omega

/-- The law's two entries. -/
def xE : En := ⟨1, 1, 1, [120]⟩
def zE : En := ⟨2, 2, 1, [122]⟩

theorem xOk : xE.Ok := ⟨by decide, by decide, by decide, by decide⟩
theorem zOk : zE.Ok := ⟨by decide, by decide, by decide, by decide⟩

theorem four_new (w : World) (a b c d : Obj) : ((((w.alloc a).alloc b).alloc c).alloc d).heap[w.heap.size]? = some a ∧ ((((w.alloc a).alloc b).alloc c).alloc d).heap[w.heap.size + 1]? = some b ∧ ((((w.alloc a).alloc b).alloc c).alloc d).heap[w.heap.size + 2]? = some c ∧
    ((((w.alloc a).alloc b).alloc c).alloc d).heap[w.heap.size + 3]? = some d ∧ ((((w.alloc a).alloc b).alloc c).alloc d).heap.size = w.heap.size + 4 ∧ Below w.heap.size w ((((w.alloc a).alloc b).alloc c).alloc d) := by
  have s1 : (w.alloc a).heap.size = w.heap.size + 1 := by simp
  have s2 : ((w.alloc a).alloc b).heap.size = w.heap.size + 2 := by simp
  have s3 : (((w.alloc a).alloc b).alloc c).heap.size = w.heap.size + 3 := by simp
  have n1 := heap_alloc_new (w.alloc a) b
  have n2 := heap_alloc_new ((w.alloc a).alloc b) c
  have n3 := heap_alloc_new (((w.alloc a).alloc b).alloc c) d
  rw [s1] at n1
  rw [s2] at n2
  rw [s3] at n3
  exact ⟨(Below.heap_alloc _ d _ (by omega)).trans ((Below.heap_alloc _ c _ (by omega)).trans ((Below.heap_alloc _ b _ (by omega)).trans (heap_alloc_new w a))), (Below.heap_alloc _ d _ (by omega)).trans ((Below.heap_alloc _ c _ (by omega)).trans n1), (Below.heap_alloc _ d _ (by omega)).trans n2, n3, by simp,
    ((((Below.refl _ _).alloc (Nat.le_refl _) _).alloc (by omega) _).alloc (by omega) _).alloc (by omega) _⟩

/-- A row of entries that lies in a block. -/
theorem rdl_row {W : World} {g : Nat} {t : TypeId} {fr : Nat × Nat} (qs : List (En × Value)) (h : W.heap[g]? = some (.cells (CsE qs).toArray t fr)) (hr : ∀ q ∈ qs, Rd W q.2 q.1.cl) (hl : qs.length ≤ 1000) : RdL W (.slice (some ⟨g, 0, none⟩) qs.length qs.length) (qs.map Prod.fst) := by
  refine .inr ⟨g, 0, qs.length, by rw [List.length_map], by rw [List.length_map]; exact Nat.le_refl _, by unfold maxLen; omega, fun i x hx => ?_⟩
  rw [List.getElem?_map] at hx
  obtain ⟨q, hq, rfl⟩ : ∃ q, qs[i]? = some q ∧ q.1 = x := by simpa using hx
  have hc : ∀ r u, (cE q)[r]? = some u → W.cell? ⟨g, 0 + i * 4 + r, none⟩ = some u := fun r u hu => by
    rw [show 0 + i * 4 + r = i * 4 + r by omega]
    exact cellk h (by simpa using CsE_get qs i q hq r u hu)
  exact ⟨q.2, ⟨hc 0 _ rfl, hc 1 _ rfl, hc 2 _ rfl, hc 3 _ rfl, hr q (List.mem_of_getElem? hq)⟩⟩
theorem rd_byte {W : World} {g : Nat} {t : TypeId} {fr : Nat × Nat} (b : UInt8) (h : W.heap[g]? = some (.cells #[B b] t fr)) : Rd W (.slice (some ⟨g, 0, none⟩) 1 1) [b] := by
  refine .inr ⟨⟨g, 0, none⟩, 1, rfl, Nat.le_refl _, by unfold maxLen; omega, fun j u hu => ?_⟩
  rcases j with _ | j
  · injection hu with hu
    rw [add_none, ← hu]
    exact cellk h rfl
  · simp at hu
end Go.Proofs.Ytdckcjcddibglaa

namespace Go.Proofs.Ytdckcjcddibglaa
open Go.RowKit OctM

/-- The drum behind the first Save, and behind the second. -/
def wk1 : Dr := wrT (new 3 2000) 2 (wholeB 1 ⟨1, 0, 0, [xE, xE]⟩)
def wk2 : Dr := syT wk1 2
def wk3 : Dr := apT wk2 2 (saveB 2 (-1) 2 [zE])
def wk4 : Dr := syT wk3 2
theorem wk_1 : writeS (new 3 2000) ((2 : Nat) : Int) (wholeB 1 ⟨1, 0, 0, [xE, xE]⟩) = (0, wk1) := calm_write (calm_new 2000) 2 (by omega) _ (by
  have := wholeB_len 1 1 ⟨1, 0, 0, [xE, xE]⟩ (fun x hx => by simp at hx; rw [hx]; decide)
  show _ ≤ 2000
  simp only [List.length_cons, List.length_nil] at this
  omega)
theorem wk_2 : syncS wk1 ((2 : Nat) : Int) = (0, wk2) := calm_sync ((calm_new 2000).wr 2 _) 2 (by omega)
theorem wk_3 : appS wk2 ((2 : Nat) : Int) (saveB 2 (-1) 2 [zE]) = (0, wk3) := calm_app (((calm_new 2000).wr 2 _).sy 2) 2 (by omega) _ (by
  have h1 := wholeB_len 1 1 ⟨1, 0, 0, [xE, xE]⟩ (fun x hx => by simp at hx; rw [hx]; decide)
  have h2 := saveB_len 1 2 (-1) 2 [zE] (fun x hx => by simp at hx; rw [hx]; decide)
  have h3 : ((syT (wrT (new 3 2000) 2 (wholeB 1 ⟨1, 0, 0, [xE, xE]⟩)) 2).tr 2).now = wholeB 1 ⟨1, 0, 0, [xE, xE]⟩ := rfl
  show _ ≤ 2000
  rw [h3]
  simp only [List.length_cons, List.length_nil] at h1 h2
  omega)
theorem wk_4 : syncS wk3 ((2 : Nat) : Int) = (0, wk4) := calm_sync ((((calm_new 2000).wr 2 _).sy 2).ap 2 _) 2 (by omega)

theorem fieldV (W : World) (a b c : Int) (o : Option Addr) (n k : Nat) : (Instr.field 31 (.agg #[.int .u64 a, .int .i64 b, .int .u64 c, .slice o n k]) 1).run Try.prog W = .ok (.int .i64 b) W := by kernel_rfl

set_option maxHeartbeats 4000000 in
set_option maxRecDepth 100000 in
theorem wawake (w : World) : Calls Try.prog 5 #[] w fun e w' => e = .returned (.bool true) ∧ Below w.heap.size w w' := by
  have H1 := Lib.hid (lopen_any 2000 w (by omega) (by omega))
  rw [show ((2000 : Nat) : Int) = 2000 from rfl] at H1
  have kc := fun (w : World) (C : Array Value) (n c : Nat) => Lib.run_convert_bytes_const (P := Try.prog) w 22 5 C n c Try.underlying22 Try.underlying5
  go_enter Try.func5, Try.ntmps5
  go_wp2_with fail
  refine H1.out.mono ?_
  rintro e w1 ⟨D, T, X0, rfl, hat, hb1, hT⟩
  have HAT := Lib.hid hat
  have HB1 := Lib.hid hb1
  have hs1 := hb1.size
  clear hat hb1 H1
  obtain ⟨W4, hW4⟩ : ∃ W4, ((((w1.alloc (.cells #[.int .u8 120] 5 (1, 2))).alloc (.cells #[.int .u64 1, .int .u64 1, .int .u64 1, .slice (some ⟨w1.heap.size, 0, none⟩) 1 1] 33)).alloc (.cells #[.int .u8 122] 5 (1, 2))).alloc (.cells #[.int .u64 2, .int .u64 2, .int .u64 1, .slice (some ⟨w1.heap.size + 1 + 1, 0, none⟩) 1 1] 33)) = W4 := ⟨_, rfl⟩
  obtain ⟨f0, f1, f2, f3, f4, f5⟩ := four_new w1 (.cells #[.int .u8 120] 5 (1, 2)) (.cells #[.int .u64 1, .int .u64 1, .int .u64 1, .slice (some ⟨w1.heap.size, 0, none⟩) 1 1] 33) (.cells #[.int .u8 122] 5 (1, 2)) (.cells #[.int .u64 2, .int .u64 2, .int .u64 1, .slice (some ⟨w1.heap.size + 1 + 1, 0, none⟩) 1 1] 33)
  rw [hW4] at f0 f1 f2 f3 f4 f5
  have F0 := Lib.hid f0
  have F1 := Lib.hid f1
  have F2 := Lib.hid f2
  have F3 := Lib.hid f3
  have F5 := Lib.hid f5
  have HW4 := Lib.hid hW4
  have k2 := kc ((w1.alloc (.cells #[.int .u8 120] 5 (1, 2))).alloc (.cells #[.int .u64 1, .int .u64 1, .int .u64 1, .slice (some ⟨w1.heap.size, 0, none⟩) 1 1] 33)) #[.int .u8 122] 1 1
  rw [show ((w1.alloc (.cells #[.int .u8 120] 5 (1, 2))).alloc (.cells #[.int .u64 1, .int .u64 1, .int .u64 1, .slice (some ⟨w1.heap.size, 0, none⟩) 1 1] 33)).heap.size = w1.heap.size + 1 + 1 by simp] at k2
  clear f0 f1 f2 f3 f5 hW4
  go_upto_region 4 with fail
  rw [HW4.out]
  obtain ⟨n, hn⟩ : ∃ n, w1.heap.size = n := ⟨_, rfl⟩
  have hrx : Rd W4 (.slice (some ⟨n, 0, none⟩) 1 1) [120] := by rw [← hn]; exact rd_byte 120 F0.out
  have hrz : Rd W4 (.slice (some ⟨n + 1 + 1, 0, none⟩) 1 1) [122] := by rw [← hn]; exact rd_byte 122 F2.out
  have hX : W4.heap[n + 1]? = some (.cells #[.int .u64 1, .int .u64 1, .int .u64 1, .slice (some ⟨n, 0, none⟩) 1 1] 33 (0, 0)) := by rw [← hn]; exact F1.out
  have hZ : W4.heap[n + 1 + 1 + 1]? = some (.cells #[.int .u64 2, .int .u64 2, .int .u64 1, .slice (some ⟨n + 1 + 1, 0, none⟩) 1 1] 33 (0, 0)) := by rw [← hn]; exact F3.out
  have hat4 := HAT.out.below F5.out
  have hb4 : Below w.heap.size w W4 := HB1.out.trans (F5.out.mono hs1)
  have hz4 : W4.heap.size = n + 4 := by rw [f4, hn]
  rw [hn] at hs1 hat4
  have H2 := Lib.hid (lstate_any W4 hat4)
  have HX := Lib.hid hX
  have HZ := Lib.hid hZ
  have HRX := Lib.hid hrx
  have HRZ := Lib.hid hrz
  have HB4 := Lib.hid hb4
  have HAT4 := Lib.hid hat4
  rw [hn]
  clear k2 kc F0 F1 F2 F3 F5 HW4 hrx hrz hX hZ hat4 hb4 HAT HB1 f4 hn
  go_wp2_with fail
  refine H2.out.mono ?_
  rintro e w5 ⟨v5, ps5, rfl, -, hom5, hb5⟩
  obtain ⟨o5, c5, rfl⟩ := hom5.form
  have kf := fieldV
  unfold wstV
  dsimp only
  have hX5 := (hb5.block (n + 1) (by omega)).trans HX.out
  have hZ5 := (hb5.block (n + 1 + 1 + 1) (by omega)).trans HZ.out
  have x0 : w5.cell? ⟨n + 1, 0, none⟩ = some (.int .u64 1) := cellk hX5 rfl
  have x1 : w5.cell? ⟨n + 1, 1, none⟩ = some (.int .u64 1) := cellk hX5 rfl
  have x2 : w5.cell? ⟨n + 1, 2, none⟩ = some (.int .u64 1) := cellk hX5 rfl
  have x3 : w5.cell? ⟨n + 1, 3, none⟩ = some (.slice (some ⟨n, 0, none⟩) 1 1) := cellk hX5 rfl
  have hs5 := hb5.size
  have HB5 := Lib.hid (HB4.out.trans (hb5.mono (by omega)))
  have HAT5 := Lib.hid (HAT4.out.below hb5)
  have HRX5 := Lib.hid (HRX.out.below hb5)
  have HRZ5 := Lib.hid (HRZ.out.below hb5)
  have HZ5 := Lib.hid hZ5
  have HX5 := Lib.hid hX5
  clear hb5 hX5 hZ5 H2 HX HZ HRX HRZ HB4 HAT4
  go_wp2_with fail
  have hal : Below w5.heap.size w5 (w5.alloc (.cells #[.int .u64 1, .int .u64 1, .int .u64 1, .slice (some ⟨n, 0, none⟩) 1 1, .int .u64 1, .int .u64 1, .int .u64 1, .slice (some ⟨n, 0, none⟩) 1 1] 33)) := (Below.refl _ _).alloc (Nat.le_refl _) _
  have hrow := rdl_row (W := w5.alloc (.cells #[.int .u64 1, .int .u64 1, .int .u64 1, .slice (some ⟨n, 0, none⟩) 1 1, .int .u64 1, .int .u64 1, .int .u64 1, .slice (some ⟨n, 0, none⟩) 1 1] 33)) [(xE, .slice (some ⟨n, 0, none⟩) 1 1), (xE, .slice (some ⟨n, 0, none⟩) 1 1)] (heap_alloc_new w5 _) (fun q hq => by
    simp only [List.mem_cons, List.not_mem_nil, or_false, or_self] at hq
    rw [hq]
    exact HRX5.out.below hal) (by simp)
  have hlt5 : w5.heap.size < (w5.alloc (.cells #[.int .u64 1, .int .u64 1, .int .u64 1, .slice (some ⟨n, 0, none⟩) 1 1, .int .u64 1, .int .u64 1, .int .u64 1, .slice (some ⟨n, 0, none⟩) 1 1] 33)).heap.size := by simp
  refine (save_any 1 0 1 [xE, xE] _ _ (d1 := wk1) (d2 := wk2) (HAT5.out.below hal) hrow (fun x hx => by simp at hx; rw [hx]; exact xOk) (by decide) (by decide) (by omega) ⟨by omega, by omega⟩ 0 rfl (.inr ⟨rfl, rfl⟩) (by omega) (by decide) (by show 0 < 1000000; omega) (by show 0 ≤ 900000; omega) (by show 1 ≤ 900000; omega) (.inl ⟨rfl, wk_1, wk_2, rfl⟩)).mono ?_
  rintro e w6 ⟨rfl, hat6, hk6⟩
  have hkz : ∀ g, n ≤ g → ∀ o, (w5.alloc (.cells #[.int .u64 1, .int .u64 1, .int .u64 1, .slice (some ⟨n, 0, none⟩) 1 1, .int .u64 1, .int .u64 1, .int .u64 1, .slice (some ⟨n, 0, none⟩) 1 1] 33)).heap[g]? = some o → w6.heap[g]? = some o := fun g hg o ho => (hk6.block g (lt_of_block ho) (fun h => by have := h.2; omega)).trans ho
  have hX6 := hkz _ (by omega) _ ((hal.block (n + 1) (by omega)).trans HX5.out)
  have hZ6 := hkz _ (by omega) _ ((hal.block (n + 1 + 1 + 1) (by omega)).trans HZ5.out)
  have hrx6 : Rd w6 (.slice (some ⟨n, 0, none⟩) 1 1) [120] := (HRX5.out.below hal).own_same (fun g hg => by
    have hg : n = g := by simpa [Value.ownBlock] using hg
    exact hk6.block g (by omega) (fun h => by have := h.2; omega))
  have hrz6 : Rd w6 (.slice (some ⟨n + 1 + 1, 0, none⟩) 1 1) [122] := (HRZ5.out.below hal).own_same (fun g hg => by
    have hg : n + 1 + 1 = g := by simpa [Value.ownBlock] using hg
    exact hk6.block g (by omega) (fun h => by have := h.2; omega))
  have hz6 := hk6.size
  have hsz6 : n + 4 ≤ w6.heap.size := by omega
  have HB6 : Hid (Below w.heap.size w w6) := Lib.hid ((HB5.out.trans (hal.mono (by omega))).trans (hk6.below (by have := HB5.out.size; omega) (fun k hk => hk.1)))
  have hlo : Hid (∀ k, Fr (fun k => w.heap.size ≤ k ∧ k < n) (w5.alloc (.cells #[.int .u64 1, .int .u64 1, .int .u64 1, .slice (some ⟨n, 0, none⟩) 1 1, .int .u64 1, .int .u64 1, .int .u64 1, .slice (some ⟨n, 0, none⟩) 1 1] 33)) w6 k → w.heap.size ≤ k ∧ (k < n ∨ n + 4 ≤ k)) := Lib.hid (fun k hk => by rcases hk with hk | hk; (exact ⟨hk.1, .inl hk.2⟩); (exact ⟨by omega, .inr (by omega)⟩))
  generalize hRR : Fr (fun k => w.heap.size ≤ k ∧ k < n) (w5.alloc (.cells #[.int .u64 1, .int .u64 1, .int .u64 1, .slice (some ⟨n, 0, none⟩) 1 1, .int .u64 1, .int .u64 1, .int .u64 1, .slice (some ⟨n, 0, none⟩) 1 1] 33)) w6 = RR at *
  have z0 : w6.cell? ⟨n + 1 + 1 + 1, 0, none⟩ = some (.int .u64 2) := cellk hZ6 rfl
  have z1 : w6.cell? ⟨n + 1 + 1 + 1, 1, none⟩ = some (.int .u64 2) := cellk hZ6 rfl
  have z2 : w6.cell? ⟨n + 1 + 1 + 1, 2, none⟩ = some (.int .u64 1) := cellk hZ6 rfl
  have z3 : w6.cell? ⟨n + 1 + 1 + 1, 3, none⟩ = some (.slice (some ⟨n + 1 + 1, 0, none⟩) 1 1) := cellk hZ6 rfl
  have HAT6 := Lib.hid hat6
  have HX6 := Lib.hid hX6
  have HZ6 := Lib.hid hZ6
  have HRX6 := Lib.hid hrx6
  have HRZ6 := Lib.hid hrz6
  clear hal hrow hlt5 hkz hX6 hZ6 hrx6 hrz6 hat6 hk6 hRR x0 x1 x2 x3 HX5 HZ5 HRX5 HRZ5 HB5 HAT5 hz6
  go_wp2_with fail
  have hal : Below w6.heap.size w6 (w6.alloc (.cells #[.int .u64 2, .int .u64 2, .int .u64 1, .slice (some ⟨n + 1 + 1, 0, none⟩) 1 1] 33)) := (Below.refl _ _).alloc (Nat.le_refl _) _
  have hrow := rdl_row (W := w6.alloc (.cells #[.int .u64 2, .int .u64 2, .int .u64 1, .slice (some ⟨n + 1 + 1, 0, none⟩) 1 1] 33)) [(zE, .slice (some ⟨n + 1 + 1, 0, none⟩) 1 1)] (heap_alloc_new w6 _) (fun q hq => by
    simp only [List.mem_cons, List.not_mem_nil, or_false] at hq
    rw [hq]
    exact HRZ6.out.below hal) (by simp)
  have hlt6 : w6.heap.size < (w6.alloc (.cells #[.int .u64 2, .int .u64 2, .int .u64 1, .slice (some ⟨n + 1 + 1, 0, none⟩) 1 1] 33)).heap.size := by simp
  refine (save_any 2 (-1) 2 [zE] _ _ (d1 := wk3) (d2 := wk4) (HAT6.out.below hal) hrow (fun x hx => by simp at hx; rw [hx]; exact zOk) (by decide) (by decide) (by omega) ⟨by omega, by omega⟩ 1 rfl (.inl (by decide)) (by omega) (by decide) (by show 1 < 1000000; omega) (by show 2 ≤ 900000; omega) (by show 3 ≤ 900000; omega) (.inr ⟨rfl, wk_3, wk_4, by
    have h2 := saveB_len 1 2 (-1) 2 [zE] (fun x hx => by simp at hx; rw [hx]; decide)
    simp only [List.length_cons, List.length_nil] at h2
    omega, rfl⟩)).mono ?_
  rintro e w7 ⟨rfl, hat7, hk7⟩
  have hkz : ∀ g, n ≤ g → g < n + 4 → ∀ o, w6.heap[g]? = some o → w7.heap[g]? = some o := fun g hg hg2 o ho => (hk7.block g (by omega) (fun h => by have := (hlo.out g h).2; omega)).trans ((hal.block g (by omega)).trans ho)
  have hX7 := hkz _ (by omega) (by omega) _ HX6.out
  have hZ7 := hkz _ (by omega) (by omega) _ HZ6.out
  have hrx7 : Rd w7 (.slice (some ⟨n, 0, none⟩) 1 1) [120] := (HRX6.out.below hal).own_same (fun g hg => by
    have hg : n = g := by simpa [Value.ownBlock] using hg
    exact hk7.block g (by omega) (fun h => by have := (hlo.out g h).2; omega))
  have hrz7 : Rd w7 (.slice (some ⟨n + 1 + 1, 0, none⟩) 1 1) [122] := (HRZ6.out.below hal).own_same (fun g hg => by
    have hg : n + 1 + 1 = g := by simpa [Value.ownBlock] using hg
    exact hk7.block g (by omega) (fun h => by have := (hlo.out g h).2; omega))
  have HB7 : Hid (Below w.heap.size w w7) := Lib.hid ((HB6.out.trans (hal.mono (by omega))).trans (hk7.below (by have := HB6.out.size; omega) (fun k hk => (hlo.out k hk).1)))
  have hlt7 := hk7.size
  have hsz7 : n + 4 ≤ w7.heap.size := by omega
  generalize Fr RR (w6.alloc (.cells #[.int .u64 2, .int .u64 2, .int .u64 1, .slice (some ⟨n + 1 + 1, 0, none⟩) 1 1] 33)) w7 = RQ at *
  have x0 : w7.cell? ⟨n + 1, 0, none⟩ = some (.int .u64 1) := cellk hX7 rfl
  have x1 : w7.cell? ⟨n + 1, 1, none⟩ = some (.int .u64 1) := cellk hX7 rfl
  have x2 : w7.cell? ⟨n + 1, 2, none⟩ = some (.int .u64 1) := cellk hX7 rfl
  have x3 : w7.cell? ⟨n + 1, 3, none⟩ = some (.slice (some ⟨n, 0, none⟩) 1 1) := cellk hX7 rfl
  have z0 : w7.cell? ⟨n + 1 + 1 + 1, 0, none⟩ = some (.int .u64 2) := cellk hZ7 rfl
  have z1 : w7.cell? ⟨n + 1 + 1 + 1, 1, none⟩ = some (.int .u64 2) := cellk hZ7 rfl
  have z2 : w7.cell? ⟨n + 1 + 1 + 1, 2, none⟩ = some (.int .u64 1) := cellk hZ7 rfl
  have z3 : w7.cell? ⟨n + 1 + 1 + 1, 3, none⟩ = some (.slice (some ⟨n + 1 + 1, 0, none⟩) 1 1) := cellk hZ7 rfl
  have HAT7 := Lib.hid hat7
  have HX7 := Lib.hid hX7
  have HZ7 := Lib.hid hZ7
  have HRX7 := Lib.hid hrx7
  have HRZ7 := Lib.hid hrz7
  clear hal hrow hlt6 hkz hX7 hZ7 hrx7 hrz7 hat7 hk7 hlo HX6 HZ6 HRX6 HRZ6 HB6 HAT6
  go_upto_region 6 with fail
  refine wp_region_held_drew (S := fun w' => w'.cell? ⟨n + 1, 0, none⟩ = some (.int .u64 1) ∧ w'.cell? ⟨n + 1, 1, none⟩ = some (.int .u64 1) ∧ w'.cell? ⟨n + 1, 2, none⟩ = some (.int .u64 1) ∧ w'.cell? ⟨n + 1, 3, none⟩ = some (.slice (some ⟨n, 0, none⟩) 1 1) ∧ w'.cell? ⟨n + 1 + 1 + 1, 0, none⟩ = some (.int .u64 2) ∧ w'.cell? ⟨n + 1 + 1 + 1, 1, none⟩ = some (.int .u64 2) ∧ w'.cell? ⟨n + 1 + 1 + 1, 2, none⟩ = some (.int .u64 1) ∧ w'.cell? ⟨n + 1 + 1 + 1, 3, none⟩ = some (.slice (some ⟨n + 1 + 1, 0, none⟩) 1 1)) (by kernel_rfl) ⟨x0, x1, x2, x3, z0, z1, z2, z3⟩ ?_
  intro hHeld
  refine wpAnyH_take (i := 0) (v := ?_) (by simp only [List.getElem?_toArray, List.getElem?_cons_zero]; rfl) (by kernel_rfl) (by kernel_rfl) (by kernel_rfl) (by intro _ _ _ h; exact h) (Or.inl ⟨by rfl, ?_⟩) (by assumption) ?_
  rotate_left
  · (intro w hSw; (try dsimp only at hSw); go_simp; try with_reducible rfl)
  try simp only [Act.put, List.setIfInBounds_toArray, List.set_cons_zero, List.set_cons_succ]
  refine wpAnyH_take (i := 2) (v := ?_) (by simp only [List.getElem?_toArray, List.getElem?_cons_succ, List.getElem?_cons_zero]; rfl) (by kernel_rfl) (by kernel_rfl) (by kernel_rfl) (by intro _ _ _ h; exact h) (Or.inl ⟨by rfl, ?_⟩) (by assumption) ?_
  rotate_left
  · (intro w hSw; (try dsimp only at hSw); go_simp; try with_reducible rfl)
  try simp only [Act.put, List.setIfInBounds_toArray, List.set_cons_zero, List.set_cons_succ]
  refine wpAnyH_take (i := 3) (v := ?_) (by simp only [List.getElem?_toArray, List.getElem?_cons_succ, List.getElem?_cons_zero]; rfl) (by kernel_rfl) (by kernel_rfl) (by kernel_rfl) (by intro _ _ _ h; exact h) (Or.inl ⟨by rfl, ?_⟩) (by assumption) ?_
  rotate_left
  · (intro w hSw; (try dsimp only at hSw); go_simp; try with_reducible rfl)
  try simp only [Act.put, List.setIfInBounds_toArray, List.set_cons_zero, List.set_cons_succ]
  refine wpAnyH_ready (rs := [1, 4]) (by kernel_rfl) (by simp) ?_
  refine AllReadyH.cons (by simp only [List.getElem?_toArray, List.getElem?_cons_succ, List.getElem?_cons_zero]; rfl) (fun K hK => ?_) (AllReadyH.cons (by simp only [List.getElem?_toArray, List.getElem?_cons_succ, List.getElem?_cons_zero]; rfl) (fun K hK => ?_) AllReadyH.nil)
  · go_simp
    have hst := lstate_any w7.drew (HAT7.out.below ((Below.refl _ _).drew))
    refine hst.mono ?_
    rintro e w8 ⟨v8, ps8, rfl, hps8, hom8, hb8⟩
    unfold wstV
    try dsimp only
    obtain ⟨o8, c8, rfl⟩ := hom8.form
    have hl8 : ps8.length = 2 := by have := congrArg List.length hps8; simpa using this
    have hva := hom8.rd
    rw [hps8] at hva
    have hzd : w7.drew.heap.size = w7.heap.size := rfl
    have hX8 := (hb8.block (n + 1) (by omega)).trans (show w7.drew.heap[n + 1]? = _ from HX7.out)
    have hZ8 := (hb8.block (n + 1 + 1 + 1) (by omega)).trans (show w7.drew.heap[n + 1 + 1 + 1]? = _ from HZ7.out)
    have x0 : w8.cell? ⟨n + 1, 0, none⟩ = some (.int .u64 1) := cellk hX8 rfl
    have x1 : w8.cell? ⟨n + 1, 1, none⟩ = some (.int .u64 1) := cellk hX8 rfl
    have x2 : w8.cell? ⟨n + 1, 2, none⟩ = some (.int .u64 1) := cellk hX8 rfl
    have x3 : w8.cell? ⟨n + 1, 3, none⟩ = some (.slice (some ⟨n, 0, none⟩) 1 1) := cellk hX8 rfl
    have z0 : w8.cell? ⟨n + 1 + 1 + 1, 0, none⟩ = some (.int .u64 2) := cellk hZ8 rfl
    have z1 : w8.cell? ⟨n + 1 + 1 + 1, 1, none⟩ = some (.int .u64 2) := cellk hZ8 rfl
    have z2 : w8.cell? ⟨n + 1 + 1 + 1, 2, none⟩ = some (.int .u64 1) := cellk hZ8 rfl
    have z3 : w8.cell? ⟨n + 1 + 1 + 1, 3, none⟩ = some (.slice (some ⟨n + 1 + 1, 0, none⟩) 1 1) := cellk hZ8 rfl
    have HX8 := Lib.hid hX8
    have HZ8 := Lib.hid hZ8
    have HVA8 : Hid (RdL w8 (.slice o8 ps8.length c8) [xE, zE]) := Lib.hid hva
    have hs8 := hb8.size
    have HRX8 := Lib.hid (HRX7.out.below ((Below.refl _ _).drew.trans hb8))
    have HRZ8 := Lib.hid (HRZ7.out.below ((Below.refl _ _).drew.trans hb8))
    have HB8 := Lib.hid ((HB7.out.drew).trans (hb8.mono (by have := HB7.out.size; omega)))
    clear hst hps8 hom8 hb8 hX8 hZ8 hva
    try dsimp only
    refine hK.out _ _ ⟨x0, x1, x2, x3, z0, z1, z2, z3⟩ (fun hHeld => ?_)
    clear hK K
    try simp only [Act.put, List.setIfInBounds_toArray, List.set_cons_zero, List.set_cons_succ]
    refine wpAnyH_ready (rs := [4]) (by kernel_rfl) (by simp) ?_
    refine AllReadyH.cons (by simp only [List.getElem?_toArray, List.getElem?_cons_succ, List.getElem?_cons_zero]; rfl) (fun K hK => ?_) AllReadyH.nil
    · go_simp
      have hal : Below w8.heap.size w8 ((w8.alloc (.cells #[.int .u64 1, .int .u64 1, .int .u64 1, .slice (some ⟨n, 0, none⟩) 1 1, .int .u64 2, .int .u64 2, .int .u64 1, .slice (some ⟨n + 1 + 1, 0, none⟩) 1 1] 33))) := ((Below.refl _ w8).alloc (Nat.le_refl _) (.cells #[.int .u64 1, .int .u64 1, .int .u64 1, .slice (some ⟨n, 0, none⟩) 1 1, .int .u64 2, .int .u64 2, .int .u64 1, .slice (some ⟨n + 1 + 1, 0, none⟩) 1 1] 33))
      have hrow := rdl_row (W := (w8.alloc (.cells #[.int .u64 1, .int .u64 1, .int .u64 1, .slice (some ⟨n, 0, none⟩) 1 1, .int .u64 2, .int .u64 2, .int .u64 1, .slice (some ⟨n + 1 + 1, 0, none⟩) 1 1] 33))) [(xE, .slice (some ⟨n, 0, none⟩) 1 1), (zE, .slice (some ⟨n + 1 + 1, 0, none⟩) 1 1)] (show ((w8.alloc (.cells #[.int .u64 1, .int .u64 1, .int .u64 1, .slice (some ⟨n, 0, none⟩) 1 1, .int .u64 2, .int .u64 2, .int .u64 1, .slice (some ⟨n + 1 + 1, 0, none⟩) 1 1] 33))).heap[w8.heap.size]? = _ from heap_alloc_new w8 (.cells #[.int .u64 1, .int .u64 1, .int .u64 1, .slice (some ⟨n, 0, none⟩) 1 1, .int .u64 2, .int .u64 2, .int .u64 1, .slice (some ⟨n + 1 + 1, 0, none⟩) 1 1] 33)) (fun q hq => by
        simp only [List.mem_cons, List.not_mem_nil, or_false] at hq
        rcases hq with rfl | rfl
        · exact HRX8.out.below hal
        · exact HRZ8.out.below hal) (by simp)
      have hX9 := (hal.block (n + 1) (by omega)).trans (show w8.heap[n + 1]? = _ from HX8.out)
      have hZ9 := (hal.block (n + 1 + 1 + 1) (by omega)).trans (show w8.heap[n + 1 + 1 + 1]? = _ from HZ8.out)
      have HVB : Hid (RdL ((w8.alloc (.cells #[.int .u64 1, .int .u64 1, .int .u64 1, .slice (some ⟨n, 0, none⟩) 1 1, .int .u64 2, .int .u64 2, .int .u64 1, .slice (some ⟨n + 1 + 1, 0, none⟩) 1 1] 33))) (.slice (some ⟨w8.heap.size, 0, none⟩) 2 2) [xE, zE]) := Lib.hid hrow
      have hs9 := hal.size
      have HB9 := Lib.hid (HB8.out.trans (hal.mono (by have := HB8.out.size; omega)))
      have HXL := Lib.hid hX9
      have HZL := Lib.hid hZ9
      have HVA := Lib.hid (HVA8.out.below hal)
      have hgs : (w8.alloc (.cells #[.int .u64 1, .int .u64 1, .int .u64 1, .slice (some ⟨n, 0, none⟩) 1 1, .int .u64 2, .int .u64 2, .int .u64 1, .slice (some ⟨n + 1 + 1, 0, none⟩) 1 1] 33)).heap.size = w8.heap.size + 1 := by simp
      generalize (w8.alloc (.cells #[.int .u64 1, .int .u64 1, .int .u64 1, .slice (some ⟨n, 0, none⟩) 1 1, .int .u64 2, .int .u64 2, .int .u64 1, .slice (some ⟨n + 1 + 1, 0, none⟩) 1 1] 33)) = w9 at *
      have x0 : w9.cell? ⟨n + 1, 0, none⟩ = some (.int .u64 1) := cellk hX9 rfl
      have x1 : w9.cell? ⟨n + 1, 1, none⟩ = some (.int .u64 1) := cellk hX9 rfl
      have x2 : w9.cell? ⟨n + 1, 2, none⟩ = some (.int .u64 1) := cellk hX9 rfl
      have x3 : w9.cell? ⟨n + 1, 3, none⟩ = some (.slice (some ⟨n, 0, none⟩) 1 1) := cellk hX9 rfl
      have z0 : w9.cell? ⟨n + 1 + 1 + 1, 0, none⟩ = some (.int .u64 2) := cellk hZ9 rfl
      have z1 : w9.cell? ⟨n + 1 + 1 + 1, 1, none⟩ = some (.int .u64 2) := cellk hZ9 rfl
      have z2 : w9.cell? ⟨n + 1 + 1 + 1, 2, none⟩ = some (.int .u64 1) := cellk hZ9 rfl
      have z3 : w9.cell? ⟨n + 1 + 1 + 1, 3, none⟩ = some (.slice (some ⟨n + 1 + 1, 0, none⟩) 1 1) := cellk hZ9 rfl
      clear hal hrow hX9 hZ9
      refine hK.out _ _ ⟨x0, x1, x2, x3, z0, z1, z2, z3⟩ (fun hHeld => ?_)
      clear hK K
      try simp only [Act.put, List.setIfInBounds_toArray, List.set_cons_zero, List.set_cons_succ]
      refine wpAnyH_take (i := 5) (v := ?_) (by simp only [List.getElem?_toArray, List.getElem?_cons_succ, List.getElem?_cons_zero]; rfl) (by kernel_rfl) (by kernel_rfl) (by kernel_rfl) (by intro _ _ _ h; exact h) (Or.inl ⟨by rfl, ?_⟩) (by assumption) ?_
      rotate_left
      · (intro w hSw; (try dsimp only at hSw); go_simp; try with_reducible rfl)
      try simp only [Act.put, List.setIfInBounds_toArray, List.set_cons_zero, List.set_cons_succ]
      refine wpAnyH_ready (rs := [6]) (by kernel_rfl) (by simp) ?_
      refine AllReadyH.cons (by simp only [List.getElem?_toArray, List.getElem?_cons_succ, List.getElem?_cons_zero]; rfl) (fun K hK => ?_) AllReadyH.nil
      go_simp
      have hsm := wsame_eq ⟨2, -1, 0, [xE, zE]⟩ (.slice o8 ps8.length c8) (.slice (some ⟨w8.heap.size, 0, none⟩) 2 2) _ HVA.out HVB.out (by decide)
      unfold wstV at hsm
      dsimp only at hsm
      simp only [hl8, show ((2 : Nat) : Int) = 2 from rfl, show ((0 : Nat) : Int) = 0 from rfl] at hsm
      with_reducible refine hsm.mono ?_
      rintro e wz ⟨rfl, hbz⟩
      have HBZ := Lib.hid (HB9.out.trans (hbz.mono (by have := HB9.out.size; omega)))
      have hX := (hbz.block (n + 1) (by omega)).trans HXL.out
      have hZ := (hbz.block (n + 1 + 1 + 1) (by omega)).trans HZL.out
      have x0 : wz.cell? ⟨n + 1, 0, none⟩ = some (.int .u64 1) := cellk hX rfl
      have x1 : wz.cell? ⟨n + 1, 1, none⟩ = some (.int .u64 1) := cellk hX rfl
      have x2 : wz.cell? ⟨n + 1, 2, none⟩ = some (.int .u64 1) := cellk hX rfl
      have x3 : wz.cell? ⟨n + 1, 3, none⟩ = some (.slice (some ⟨n, 0, none⟩) 1 1) := cellk hX rfl
      have z0 : wz.cell? ⟨n + 1 + 1 + 1, 0, none⟩ = some (.int .u64 2) := cellk hZ rfl
      have z1 : wz.cell? ⟨n + 1 + 1 + 1, 1, none⟩ = some (.int .u64 2) := cellk hZ rfl
      have z2 : wz.cell? ⟨n + 1 + 1 + 1, 2, none⟩ = some (.int .u64 1) := cellk hZ rfl
      have z3 : wz.cell? ⟨n + 1 + 1 + 1, 3, none⟩ = some (.slice (some ⟨n + 1 + 1, 0, none⟩) 1 1) := cellk hZ rfl
      clear hsm hbz hX hZ
      try dsimp only
      refine hK.out _ _ ⟨x0, x1, x2, x3, z0, z1, z2, z3⟩ (fun hHeld => ?_)
      clear hK K
      try simp only [Act.put, List.setIfInBounds_toArray, List.set_cons_zero, List.set_cons_succ]
      refine wpAnyH_take (i := 7) (v := ?_) (by simp only [List.getElem?_toArray, List.getElem?_cons_succ, List.getElem?_cons_zero]; rfl) (by kernel_rfl) (by kernel_rfl) (by kernel_rfl) (by intro _ _ _ h; exact h) (Or.inl ⟨by rfl, ?_⟩) (by assumption) ?_
      rotate_left
      · (intro w hSw; (try dsimp only at hSw); go_simp; try with_reducible rfl)
      try simp only [Act.put, List.setIfInBounds_toArray, List.set_cons_zero]
      refine wpAnyH_done (by kernel_rfl) ?_ _
      go_wp2_with fail
      go_ret
      exact ⟨rfl, HBZ.out⟩
  · go_simp
    have hal : Below w7.heap.size w7.drew ((w7.alloc (.cells #[.int .u64 1, .int .u64 1, .int .u64 1, .slice (some ⟨n, 0, none⟩) 1 1, .int .u64 2, .int .u64 2, .int .u64 1, .slice (some ⟨n + 1 + 1, 0, none⟩) 1 1] 33)).drew) := ((Below.refl _ w7.drew).alloc (Nat.le_refl _) (.cells #[.int .u64 1, .int .u64 1, .int .u64 1, .slice (some ⟨n, 0, none⟩) 1 1, .int .u64 2, .int .u64 2, .int .u64 1, .slice (some ⟨n + 1 + 1, 0, none⟩) 1 1] 33))
    have hrow := rdl_row (W := (w7.alloc (.cells #[.int .u64 1, .int .u64 1, .int .u64 1, .slice (some ⟨n, 0, none⟩) 1 1, .int .u64 2, .int .u64 2, .int .u64 1, .slice (some ⟨n + 1 + 1, 0, none⟩) 1 1] 33)).drew) [(xE, .slice (some ⟨n, 0, none⟩) 1 1), (zE, .slice (some ⟨n + 1 + 1, 0, none⟩) 1 1)] (show ((w7.alloc (.cells #[.int .u64 1, .int .u64 1, .int .u64 1, .slice (some ⟨n, 0, none⟩) 1 1, .int .u64 2, .int .u64 2, .int .u64 1, .slice (some ⟨n + 1 + 1, 0, none⟩) 1 1] 33)).drew).heap[w7.heap.size]? = _ from heap_alloc_new w7 (.cells #[.int .u64 1, .int .u64 1, .int .u64 1, .slice (some ⟨n, 0, none⟩) 1 1, .int .u64 2, .int .u64 2, .int .u64 1, .slice (some ⟨n + 1 + 1, 0, none⟩) 1 1] 33)) (fun q hq => by
      simp only [List.mem_cons, List.not_mem_nil, or_false] at hq
      rcases hq with rfl | rfl
      · exact HRX7.out.below ((Below.refl _ _).drew.trans hal)
      · exact HRZ7.out.below ((Below.refl _ _).drew.trans hal)) (by simp)
    have hX9 := (hal.block (n + 1) (by omega)).trans (show w7.drew.heap[n + 1]? = _ from HX7.out)
    have hZ9 := (hal.block (n + 1 + 1 + 1) (by omega)).trans (show w7.drew.heap[n + 1 + 1 + 1]? = _ from HZ7.out)
    have HVB : Hid (RdL ((w7.alloc (.cells #[.int .u64 1, .int .u64 1, .int .u64 1, .slice (some ⟨n, 0, none⟩) 1 1, .int .u64 2, .int .u64 2, .int .u64 1, .slice (some ⟨n + 1 + 1, 0, none⟩) 1 1] 33)).drew) (.slice (some ⟨w7.heap.size, 0, none⟩) 2 2) [xE, zE]) := Lib.hid hrow
    have hs9 := hal.size
    have HB9 := Lib.hid (HB7.out.drew.trans (hal.mono (by have := HB7.out.size; omega)))
    have HXL := Lib.hid hX9
    have HZL := Lib.hid hZ9
    have HAT9 := Lib.hid (HAT7.out.below ((Below.refl _ _).drew.trans hal))
    have hgs : (w7.alloc (.cells #[.int .u64 1, .int .u64 1, .int .u64 1, .slice (some ⟨n, 0, none⟩) 1 1, .int .u64 2, .int .u64 2, .int .u64 1, .slice (some ⟨n + 1 + 1, 0, none⟩) 1 1] 33)).drew.heap.size = w7.heap.size + 1 := by simp
    generalize (w7.alloc (.cells #[.int .u64 1, .int .u64 1, .int .u64 1, .slice (some ⟨n, 0, none⟩) 1 1, .int .u64 2, .int .u64 2, .int .u64 1, .slice (some ⟨n + 1 + 1, 0, none⟩) 1 1] 33)).drew = w9 at *
    have x0 : w9.cell? ⟨n + 1, 0, none⟩ = some (.int .u64 1) := cellk hX9 rfl
    have x1 : w9.cell? ⟨n + 1, 1, none⟩ = some (.int .u64 1) := cellk hX9 rfl
    have x2 : w9.cell? ⟨n + 1, 2, none⟩ = some (.int .u64 1) := cellk hX9 rfl
    have x3 : w9.cell? ⟨n + 1, 3, none⟩ = some (.slice (some ⟨n, 0, none⟩) 1 1) := cellk hX9 rfl
    have z0 : w9.cell? ⟨n + 1 + 1 + 1, 0, none⟩ = some (.int .u64 2) := cellk hZ9 rfl
    have z1 : w9.cell? ⟨n + 1 + 1 + 1, 1, none⟩ = some (.int .u64 2) := cellk hZ9 rfl
    have z2 : w9.cell? ⟨n + 1 + 1 + 1, 2, none⟩ = some (.int .u64 1) := cellk hZ9 rfl
    have z3 : w9.cell? ⟨n + 1 + 1 + 1, 3, none⟩ = some (.slice (some ⟨n + 1 + 1, 0, none⟩) 1 1) := cellk hZ9 rfl
    clear hal hrow hX9 hZ9
    refine hK.out _ _ ⟨x0, x1, x2, x3, z0, z1, z2, z3⟩ (fun hHeld => ?_)
    clear hK K
    try simp only [Act.put, List.setIfInBounds_toArray, List.set_cons_zero, List.set_cons_succ]
    refine wpAnyH_take (i := 5) (v := ?_) (by simp only [List.getElem?_toArray, List.getElem?_cons_succ, List.getElem?_cons_zero]; rfl) (by kernel_rfl) (by kernel_rfl) (by kernel_rfl) (by intro _ _ _ h; exact h) (Or.inl ⟨by rfl, ?_⟩) (by assumption) ?_
    rotate_left
    · (intro w hSw; (try dsimp only at hSw); go_simp; try with_reducible rfl)
    try simp only [Act.put, List.setIfInBounds_toArray, List.set_cons_zero, List.set_cons_succ]
    refine wpAnyH_ready (rs := [1]) (by kernel_rfl) (by simp) ?_
    refine AllReadyH.cons (by simp only [List.getElem?_toArray, List.getElem?_cons_succ, List.getElem?_cons_zero]; rfl) (fun K hK => ?_) AllReadyH.nil
    · go_simp
      have hst := lstate_any w9 HAT9.out
      refine hst.mono ?_
      rintro e w8 ⟨v8, ps8, rfl, hps8, hom8, hb8⟩
      unfold wstV
      try dsimp only
      obtain ⟨o8, c8, rfl⟩ := hom8.form
      have hl8 : ps8.length = 2 := by have := congrArg List.length hps8; simpa using this
      have hva := hom8.rd
      rw [hps8] at hva
      have hX8 := (hb8.block (n + 1) (by omega)).trans HXL.out
      have hZ8 := (hb8.block (n + 1 + 1 + 1) (by omega)).trans HZL.out
      have x0 : w8.cell? ⟨n + 1, 0, none⟩ = some (.int .u64 1) := cellk hX8 rfl
      have x1 : w8.cell? ⟨n + 1, 1, none⟩ = some (.int .u64 1) := cellk hX8 rfl
      have x2 : w8.cell? ⟨n + 1, 2, none⟩ = some (.int .u64 1) := cellk hX8 rfl
      have x3 : w8.cell? ⟨n + 1, 3, none⟩ = some (.slice (some ⟨n, 0, none⟩) 1 1) := cellk hX8 rfl
      have z0 : w8.cell? ⟨n + 1 + 1 + 1, 0, none⟩ = some (.int .u64 2) := cellk hZ8 rfl
      have z1 : w8.cell? ⟨n + 1 + 1 + 1, 1, none⟩ = some (.int .u64 2) := cellk hZ8 rfl
      have z2 : w8.cell? ⟨n + 1 + 1 + 1, 2, none⟩ = some (.int .u64 1) := cellk hZ8 rfl
      have z3 : w8.cell? ⟨n + 1 + 1 + 1, 3, none⟩ = some (.slice (some ⟨n + 1 + 1, 0, none⟩) 1 1) := cellk hZ8 rfl
      have HVA : Hid (RdL w8 (.slice o8 ps8.length c8) [xE, zE]) := Lib.hid hva
      have HVB := Lib.hid (HVB.out.below hb8)
      have HXL := Lib.hid hX8
      have HZL := Lib.hid hZ8
      have hs8 := hb8.size
      have HB8 := Lib.hid (HB9.out.trans (hb8.mono (by have := HB9.out.size; omega)))
      clear hst hps8 hom8 hb8 hX8 hZ8 hva
      try dsimp only
      refine hK.out _ _ ⟨x0, x1, x2, x3, z0, z1, z2, z3⟩ (fun hHeld => ?_)
      clear hK K
      try simp only [Act.put, List.setIfInBounds_toArray, List.set_cons_zero, List.set_cons_succ]
      refine wpAnyH_ready (rs := [6]) (by kernel_rfl) (by simp) ?_
      refine AllReadyH.cons (by simp only [List.getElem?_toArray, List.getElem?_cons_succ, List.getElem?_cons_zero]; rfl) (fun K hK => ?_) AllReadyH.nil
      go_simp
      have hsm := wsame_eq ⟨2, -1, 0, [xE, zE]⟩ (.slice o8 ps8.length c8) (.slice (some ⟨w7.heap.size, 0, none⟩) 2 2) _ HVA.out HVB.out (by decide)
      unfold wstV at hsm
      dsimp only at hsm
      simp only [hl8, show ((2 : Nat) : Int) = 2 from rfl, show ((0 : Nat) : Int) = 0 from rfl] at hsm
      with_reducible refine hsm.mono ?_
      rintro e wz ⟨rfl, hbz⟩
      have HBZ := Lib.hid (HB8.out.trans (hbz.mono (by have := HB8.out.size; omega)))
      have hX := (hbz.block (n + 1) (by omega)).trans HXL.out
      have hZ := (hbz.block (n + 1 + 1 + 1) (by omega)).trans HZL.out
      have x0 : wz.cell? ⟨n + 1, 0, none⟩ = some (.int .u64 1) := cellk hX rfl
      have x1 : wz.cell? ⟨n + 1, 1, none⟩ = some (.int .u64 1) := cellk hX rfl
      have x2 : wz.cell? ⟨n + 1, 2, none⟩ = some (.int .u64 1) := cellk hX rfl
      have x3 : wz.cell? ⟨n + 1, 3, none⟩ = some (.slice (some ⟨n, 0, none⟩) 1 1) := cellk hX rfl
      have z0 : wz.cell? ⟨n + 1 + 1 + 1, 0, none⟩ = some (.int .u64 2) := cellk hZ rfl
      have z1 : wz.cell? ⟨n + 1 + 1 + 1, 1, none⟩ = some (.int .u64 2) := cellk hZ rfl
      have z2 : wz.cell? ⟨n + 1 + 1 + 1, 2, none⟩ = some (.int .u64 1) := cellk hZ rfl
      have z3 : wz.cell? ⟨n + 1 + 1 + 1, 3, none⟩ = some (.slice (some ⟨n + 1 + 1, 0, none⟩) 1 1) := cellk hZ rfl
      clear hsm hbz hX hZ
      try dsimp only
      refine hK.out _ _ ⟨x0, x1, x2, x3, z0, z1, z2, z3⟩ (fun hHeld => ?_)
      clear hK K
      try simp only [Act.put, List.setIfInBounds_toArray, List.set_cons_zero, List.set_cons_succ]
      refine wpAnyH_take (i := 7) (v := ?_) (by simp only [List.getElem?_toArray, List.getElem?_cons_succ, List.getElem?_cons_zero]; rfl) (by kernel_rfl) (by kernel_rfl) (by kernel_rfl) (by intro _ _ _ h; exact h) (Or.inl ⟨by rfl, ?_⟩) (by assumption) ?_
      rotate_left
      · (intro w hSw; (try dsimp only at hSw); go_simp; try with_reducible rfl)
      try simp only [Act.put, List.setIfInBounds_toArray, List.set_cons_zero]
      refine wpAnyH_done (by kernel_rfl) ?_ _
      go_wp2_with fail
      go_ret
      exact ⟨rfl, HBZ.out⟩
end Go.Proofs.Ytdckcjcddibglaa

namespace Go.Proofs.Ytdckcjcddibglaa
open Go.RowKit OctM

theorem own_ne {w : World} {base : Nat} {e t : TypeId} {size : Nat} {v : Value} {n : Nat} {xs : List Value} {X : Nat} {cs : Array Value} {fr : Nat × Nat} (h : w.ownsRow base e size v n xs) (hX : w.heap[X]? = some (.cells cs t fr)) (ht : t ≠ e) : v.ownBlock ≠ some X := by
  rcases h.2 with ⟨rfl, _⟩ | ⟨g, c, cur, rfl, _, hg, _⟩
  · intro h; cases h
  · intro e'
    have : g = X := by simpa [Value.ownBlock] using e'
    subst this
    rw [hg] at hX
    injection hX with hX
    injection hX with _ hX _
    exact ht hX.symm
theorem own_ne2 {w : World} {b1 b2 : Nat} {e1 e2 : TypeId} {s1 s2 : Nat} {v u : Value} {n1 n2 : Nat} {xs ys : List Value} (h : w.ownsRow b1 e1 s1 v n1 xs) (k : w.ownsRow b2 e2 s2 u n2 ys) (he : e1 ≠ e2) : ∀ g, v.ownBlock = some g → u.ownBlock ≠ some g := by
  rcases h.2 with ⟨rfl, _⟩ | ⟨g, c, cur, rfl, _, hg, _⟩
  · intro g h; cases h
  · intro g' e'
    have : g = g' := by simpa [Value.ownBlock] using e'
    subst this
    exact own_ne k hg he

/-- A row of entries of the call's own, whose bytes are anybody's. -/
def OwnR (w : World) (base : Nat) (v : Value) (ps : List (En × Value)) : Prop := w.ownsRow base 33 4 v ps.length (CsE ps)
theorem ownR_rdl {w : World} {base : Nat} {v : Value} {ps : List (En × Value)} (h : OwnR w base v ps) (hrd : ∀ p ∈ ps, Rd w p.2 p.1.cl) : RdL w v (ps.map Prod.fst) := by
  rcases h.2 with ⟨rfl, hn⟩ | ⟨g, cap, cur, rfl, _, hg, hn, hm, _⟩
  · exact .inl ⟨rfl, by rw [List.map_eq_nil_iff]; exact List.eq_nil_of_length_eq_zero hn⟩
  · refine .inr ⟨g, 0, cap, by rw [List.length_map], by rw [List.length_map]; exact hn, hm, fun i x hx => ?_⟩
    rw [List.getElem?_map] at hx
    obtain ⟨p, hp, rfl⟩ : ∃ p, ps[i]? = some p ∧ p.1 = x := by simpa using hx
    have hget : ∀ j u, (cE p)[j]? = some u → w.cell? ⟨g, 0 + i * 4 + j, none⟩ = some u := fun j u hu => by
      have h3 := World.ownsRow.cells h rfl (i * 4 + j) u (CsE_get ps i p hp j u hu)
      rw [add_none] at h3
      rw [show 0 + i * 4 + j = 0 + (i * 4 + j) by omega]
      exact h3
    exact ⟨p.2, hget 0 _ rfl, hget 1 _ rfl, hget 2 _ rfl, hget 3 _ rfl, hrd p (List.mem_of_getElem? hp)⟩

theorem row_more {w : World} {base : Nat} {v : Value} {ps : List (En × Value)} (p : En × Value) (h : OwnR w base v ps) (h1 : p.2.oneCell' = true) (hn : ps.length ≤ 1000) (hbase : base ≤ w.heap.size) :
    ∃ o c w2, (Builtin.append_ #[28, 28] 28 #[v, .slice (some ⟨w.heap.size, 0, none⟩) 1 1]).run Try.prog (w.alloc (.cells (cE p).toArray 33)) = .ok (.slice o (ps.length + 1) c) w2 ∧ OwnR w2 base (.slice o (ps.length + 1) c) (ps ++ [p]) ∧ Kept (fun k => v.ownBlock = some k) w w2 ∧
      ((Value.slice o (ps.length + 1) c).ownBlock = v.ownBlock ∨ ∃ g, (Value.slice o (ps.length + 1) c).ownBlock = some g ∧ w.heap.size ≤ g) := by
  have hba : Below w.heap.size w (w.alloc (.cells (cE p).toArray 33)) := (Below.refl _ _).alloc (Nat.le_refl _) _
  have hown2 := own_kept h (Below.kept hba fun _ h _ => h) (fun q a => by have := (h.lt q a).2; omega)
  have hs : (w.alloc (.cells (cE p).toArray 33)).heap.size = w.heap.size + 1 := by simp
  obtain ⟨v', w2, hr, h2, h3, h4⟩ := append_ens (m := 1) (c := 1) (cs := cE p) (a := ⟨w.heap.size, 0, none⟩) hown2 rfl (cells_newE w (cE p) 33)
    (fun u hu => by
      simp only [cE, List.mem_cons, List.not_mem_nil, or_false] at hu
      rcases hu with rfl | rfl | rfl | rfl
      · rfl
      · rfl
      · rfl
      · exact h1) hn (by omega) (by omega)
  obtain ⟨o, c, rfl, _⟩ := own_slice h2
  refine ⟨o, c, w2, hr, ?_, ((kept_of_below hba).weak (T := fun k => v.ownBlock = some k) (fun _ _ hk => hk)).grown h3 (fun k hk => .inl hk), ?_⟩
  · unfold OwnR
    rw [show CsE (ps ++ [p]) = CsE ps ++ cE p by simp [CsE], List.length_append]
    exact h2
  · rcases h4 with h4 | h4
    · exact .inl h4
    · exact .inr ⟨_, h4, by omega⟩

/-- One more entry with bytes of its own. -/
theorem more_en2 {w : World} {base : Nat} {v : Value} {ps : List (En × Value)} (p : En × Value) (h : OwnL w base v ps) (hp : Own w base p.2 p.1.cl) (ha : ∀ g, p.2.ownBlock = some g → v.ownBlock ≠ some g) (hn : ps.length ≤ 1000) (hbase : base ≤ w.heap.size) :
    ∃ o c w2, (Builtin.append_ #[28, 28] 28 #[v, .slice (some ⟨w.heap.size, 0, none⟩) 1 1]).run Try.prog (w.alloc (.cells (cE p).toArray 33)) = .ok (.slice o (ps.length + 1) c) w2 ∧ OwnL w2 base (.slice o (ps.length + 1) c) (ps ++ [p]) ∧ Kept (fun k => v.ownBlock = some k) w w2 ∧
      ((Value.slice o (ps.length + 1) c).ownBlock = v.ownBlock ∨ ∃ g, (Value.slice o (ps.length + 1) c).ownBlock = some g ∧ w.heap.size ≤ g) := by
  obtain ⟨o, c, w2, hr, h2, hk, hor⟩ := row_more p h.row (rd_one (Rd.of_own hp)) hn hbase
  have hap : ∀ q : En × Value, Own w base q.2 q.1.cl → (∀ g, q.2.ownBlock = some g → v.ownBlock ≠ some g) → ∀ g, q.2.ownBlock = some g → (Value.slice o (ps.length + 1) c).ownBlock ≠ some g := fun q hq hqa g hg => by
    rcases hor with h4 | ⟨g', h4, h5⟩
    · rw [h4]; exact hqa g hg
    · rw [h4]
      intro e
      injection e with e
      have := (hq.lt g hg).2
      omega
  refine ⟨o, c, w2, hr, ⟨h2, fun q hq => ?_, fun q hq => ?_⟩, hk, hor⟩
  · rcases List.mem_append.1 hq with hq | hq
    · exact own_kept (h.cells q hq) hk (h.apart q hq)
    · obtain rfl := List.mem_singleton.1 hq
      exact own_kept hp hk ha
  · rcases List.mem_append.1 hq with hq | hq
    · exact hap q (h.cells q hq) (h.apart q hq)
    · obtain rfl := List.mem_singleton.1 hq
      exact hap _ hp ha
theorem own_at {w : World} {base : Nat} {e : TypeId} {size : Nat} {v : Value} {n : Nat} {xs : List Value} (h : w.ownsRow base e size v n xs) (hn : 0 < n) : ∃ g c, v = .slice (some ⟨g, 0, none⟩) n c ∧ base ≤ g ∧ g < w.heap.size ∧ (∀ i, w.frozen? ⟨g, i, none⟩ = false) ∧ ∀ j u, xs[j]? = some u → w.cell? ⟨g, j, none⟩ = some u := by
  have hc := h
  rcases h.2 with ⟨rfl, rfl⟩ | ⟨g, c, cur, rfl, hb, hg, _⟩
  · omega
  · refine ⟨g, c, rfl, hb, lt_of_block hg, fun i => free_of hg i, fun j u hj => ?_⟩
    have := World.ownsRow.cells hc rfl j u hj
    rw [add_none, Nat.zero_add] at this
    exact this

/-- The first entry of a row of the call's own. -/
theorem own_first {w : World} {base : Nat} {v : Value} {ps : List (En × Value)} {e : En} {rest : List En} (h : OwnL w base v ps) (hm : ps.map Prod.fst = e :: rest) (hl : 0 < e.cl.length) :
    ∃ g c gb cb b, v = .slice (some ⟨g, 0, none⟩) ps.length c ∧ base ≤ g ∧ g < w.heap.size ∧ base ≤ gb ∧ gb < w.heap.size ∧ g ≠ gb ∧ w.cell? ⟨g, 3, none⟩ = some (.slice (some ⟨gb, 0, none⟩) e.cl.length cb) ∧ w.cell? ⟨gb, 0, none⟩ = some (.int .u8 b) ∧ w.frozen? ⟨gb, 0, none⟩ = false ∧
      w.cell? ⟨g, 0, none⟩ = some (.int .u64 (e.tm : Int)) ∧ w.frozen? ⟨g, 0, none⟩ = false ∧ (∀ k, v.ownBlock = some k → k = g) ∧ ∀ b2 u n2 ys, w.ownsRow b2 33 4 u n2 ys → u.ownBlock ≠ some gb := by
  obtain ⟨p, ps', rfl⟩ : ∃ p ps', ps = p :: ps' := by
    cases ps with
    | nil => simp at hm
    | cons p ps' => exact ⟨p, ps', rfl⟩
  obtain rfl : p.1 = e := by simpa using (List.cons.inj hm).1
  have hmem : p ∈ p :: ps' := List.mem_cons_self
  obtain ⟨g, c, hv, hg, hgl, hf, hc⟩ := own_at h.row (by simp)
  obtain ⟨gb, cb, hp, hb, hbl, hfb, hcb⟩ := own_at (h.cells p hmem) hl
  obtain ⟨b, hb0⟩ : ∃ b, (Bs p.1.cl)[0]? = some (.int .u8 b) := by
    rcases hcl : p.1.cl with _ | ⟨x, t⟩
    · rw [hcl] at hl; simp at hl
    · exact ⟨_, rfl⟩
  refine ⟨g, c, gb, cb, b, hv, hg, hgl, hb, hbl, fun e' => ?_, ?_, hcb 0 _ hb0, hfb 0, hc 0 _ rfl, hf 0, fun k hk => ?_, fun b2 u n2 ys hu => own_ne2 (h.cells p hmem) hu (by decide) gb (by rw [hp]; rfl)⟩
  · exact h.apart p hmem gb (by rw [hp]; rfl) (by rw [hv, e']; rfl)
  · rw [← hp]
    exact hc 3 _ rfl
  · rw [hv] at hk
    simpa [Value.ownBlock] using hk.symm
end Go.Proofs.Ytdckcjcddibglaa
