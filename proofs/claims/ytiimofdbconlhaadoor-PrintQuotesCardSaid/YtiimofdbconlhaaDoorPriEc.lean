/- A call's parts; what an expression's part prints; the two printers. -/
import Derived.Test.YtiimofdbconlhaaDoorPriEb
namespace Go.Proofs.YtiimofdbconlhaaDoor
open Go.RowKit PriM

set_option maxRecDepth 100000 in
set_option maxHeartbeats 2000000 in
theorem call_any (bk off cap : Nat) (kd0 : Int) (s0 : ByteArray) (N0 : Int) (ko0 : Option Addr) (kn0 kc0 : Nat) (kd1 : Int) (s1 : ByteArray) (N1 : Int) (ko1 : Option Addr) (kn1 kc1 : Nat) (w : World) (h6 : (kd0 == 6) = false)
    (h0 : Six w bk off kd0 s0 N0 ko0 kn0 kc0) (h1 : Six w bk (off + 6) kd1 s1 N1 ko1 kn1 kc1) :
    Calls Tryd.prog 71 #[.agg #[.int .u8 11, .string ⟨#[]⟩, .int .i64 0, .bool false, .slice none 0 0, .slice (some ⟨bk, off, none⟩) 2 cap]] w (RPost w (Five ⟨#[40]⟩ ⟨#[32]⟩ ⟨#[41]⟩ kd0 s0 N0 ko0 kn0 kc0 kd1 s1 N1 ko1 kn1 kc1)) := by
  have lk := World.block_lt_of_cell? w _ h0.1
  have q0 := h0.1
  obtain ⟨wA, hA⟩ : ∃ wA, wA = (w.alloc (.cells #[.int .u8 11, .string ⟨#[]⟩, .int .i64 0, .bool false, .slice none 0 0, .slice (some ⟨bk, off, none⟩) 2 cap] 36)).alloc (.cells #[.string ⟨#[40]⟩, .string ⟨#[32]⟩, .string ⟨#[41]⟩] 9) := ⟨_, rfl⟩
  have hbA : Below w.heap.size w wA := by rw [hA]; exact ((Below.refl _ _).alloc (Nat.le_refl _) _).alloc (by simp) _
  have hn : wA.heap[w.heap.size + 1]? = some (.cells #[.string ⟨#[40]⟩, .string ⟨#[32]⟩, .string ⟨#[41]⟩] 9 (0, 0)) := by
    rw [hA]
    have := heap_alloc_new (w.alloc (.cells #[.int .u8 11, .string ⟨#[]⟩, .int .i64 0, .bool false, .slice none 0 0, .slice (some ⟨bk, off, none⟩) 2 cap] 36)) (.cells #[.string ⟨#[40]⟩, .string ⟨#[32]⟩, .string ⟨#[41]⟩] 9)
    simp only [World.size_alloc] at this
    exact this
  have HC := Lib.hid (laid_five ⟨#[40]⟩ ⟨#[32]⟩ ⟨#[41]⟩ (w.heap.size + 1) bk off cap kd0 s0 N0 ko0 kn0 kc0 kd1 s1 N1 ko1 kn1 kc1 wA hn (h0.below hbA lk) (h1.below hbA lk))
  have HB := Lib.hid hbA
  have HA := Lib.hid hA
  have q1 := cell_alloc q0 (.cells #[.int .u8 11, .string ⟨#[]⟩, .int .i64 0, .bool false, .slice none 0 0, .slice (some ⟨bk, off, none⟩) 2 cap] 36)
  clear hA hbA hn h0 h1 q0
  go_enter Tryd.func71, Tryd.ntmps71
  go_wp2_with fail
  obtain rfl := HA.out
  go_at_call 69
  refine (HC.out).mono ?_
  intro e w2 hp
  have hq := hp.later HB.out
  obtain ⟨v, ps, rfl, _⟩ := hp
  have HF := Lib.hid hq
  clear hq
  go_wp2_with fail
  go_ret
  exact HF.out

set_option maxRecDepth 100000 in
set_option maxHeartbeats 2000000 in
theorem ep_app (bk off cap : Nat) (kd0 : Int) (s0 : ByteArray) (N0 : Int) (ko0 : Option Addr) (kn0 kc0 : Nat) (kd1 : Int) (s1 : ByteArray) (N1 : Int) (ko1 : Option Addr) (kn1 kc1 : Nat) (w : World) (h6 : (kd0 == 6) = false)
    (h0 : Six w bk off kd0 s0 N0 ko0 kn0 kc0) (h1 : Six w bk (off + 6) kd1 s1 N1 ko1 kn1 kc1) :
    Calls Tryd.prog 42 #[.agg #[.int .u8 11, .string ⟨#[]⟩, .int .i64 0, .bool false, .slice none 0 0, .slice (some ⟨bk, off, none⟩) 2 cap]] w (RPost w (Five ⟨#[40]⟩ ⟨#[32]⟩ ⟨#[41]⟩ kd0 s0 N0 ko0 kn0 kc0 kd1 s1 N1 ko1 kn1 kc1)) := by
  have lk := World.block_lt_of_cell? w _ h0.1
  have hbA : Below w.heap.size w (w.alloc (.cells #[.int .u8 11, .string ⟨#[]⟩, .int .i64 0, .bool false, .slice none 0 0, .slice (some ⟨bk, off, none⟩) 2 cap] 36)) := (Below.refl _ _).alloc (Nat.le_refl _) _
  have HC := Lib.hid (call_any bk off cap kd0 s0 N0 ko0 kn0 kc0 kd1 s1 N1 ko1 kn1 kc1 _ h6 (h0.below hbA lk) (h1.below hbA lk))
  have HB := Lib.hid hbA
  clear hbA h0 h1 lk h6
  go_enter Tryd.func42, Tryd.ntmps42
  go_wp2_with fail
  go_at_call 71
  refine (HC.out).mono ?_
  intro e w2 hp
  have hq := hp.later HB.out
  obtain ⟨v, ps, rfl, _⟩ := hp
  have HF := Lib.hid hq
  clear hq
  go_wp2_with fail
  go_ret
  exact HF.out

set_option maxRecDepth 100000 in
theorem expr1_any (l : World → List Pv → Prop) (kd : Int) (s : ByteArray) (N : Int) (ko : Option Addr) (kn kc b : Nat) (w : World) (hb : BoxE w b (.int .u8 kd) (.string s) (.int .i64 N) (.bool false) (.slice none 0 0) (.slice ko kn kc))
    (hP : Calls Tryd.prog 42 #[.agg #[.int .u8 kd, .string s, .int .i64 N, .bool false, .slice none 0 0, .slice ko kn kc]] w (RPost w l)) : Calls Tryd.prog 41 #[.pointer (some ⟨b, 0, none⟩)] w (RPost w l) := by
  obtain ⟨a0, a1, a2, a3, a4, a5⟩ := hb.cells
  have HP := Lib.hid hP
  clear hP hb
  go_enter Tryd.func41, Tryd.ntmps41
  go_wp2_with fail
  go_at_call 42
  refine (HP.out).mono ?_
  intro e w1 hp
  have hq := hp
  obtain ⟨u, ps, rfl, _⟩ := hp
  have HF := Lib.hid hq
  clear hq
  go_wp2_with fail
  go_ret
  exact HF.out

/-- The examples' expressions. -/
inductive Ex where
  | var (s : List UInt8)
  | int (k : Nat)
  | app (a b : Ex)
  | op (s : List UInt8) (a b : Ex)

def rE : Ex → List UInt8
  | .var s => s
  | .int k => Lib.decDigits k
  | .app a b => 40 :: (rE a ++ (32 :: (rE b ++ [41])))
  | .op s a b => 40 :: (rE a ++ (32 :: (s ++ (32 :: (rE b ++ [41])))))
def kE : Ex → Nat
  | .var _ => 2
  | .int _ => 2
  | .app a b => kE a + kE b + 4
  | .op _ a b => kE a + kE b + 4

def ExV (n : Nat) (w : World) : Ex → Int → ByteArray → Int → Option Addr → Nat → Nat → Prop
  | .var s, kd, S, N, ko, kn, kc => kd = 5 ∧ S = ⟨s.toArray⟩ ∧ N = 0 ∧ ko = none ∧ kn = 0 ∧ kc = 0
  | .int k, kd, S, N, ko, kn, kc => kd = 1 ∧ S = ⟨#[]⟩ ∧ N = (k : Int) ∧ ko = none ∧ kn = 0 ∧ kc = 0 ∧ k < 100
  | .app a b, kd, S, N, ko, kn, _ => kd = 11 ∧ S = ⟨#[]⟩ ∧ N = 0 ∧ ∃ bk off, ko = some ⟨bk, off, none⟩ ∧ kn = 2 ∧ bk < n ∧
      (∃ kd s N ko kn kc, Six w bk off kd s N ko kn kc ∧ ExV n w a kd s N ko kn kc) ∧ (∃ kd s N ko kn kc, Six w bk (off + 6) kd s N ko kn kc ∧ ExV n w b kd s N ko kn kc)
  | .op t a b, kd, S, N, ko, kn, _ => kd = 17 ∧ S = ⟨t.toArray⟩ ∧ N = 0 ∧ t.length ≤ 1000 ∧ ∃ bk off, ko = some ⟨bk, off, none⟩ ∧ kn = 2 ∧ bk < n ∧
      (∃ kd s N ko kn kc, Six w bk off kd s N ko kn kc ∧ ExV n w a kd s N ko kn kc) ∧ (∃ kd s N ko kn kc, Six w bk (off + 6) kd s N ko kn kc ∧ ExV n w b kd s N ko kn kc)

theorem ExV.below {n : Nat} {w w' : World} (hb : Below n w w') : ∀ (x : Ex) {kd : Int} {s : ByteArray} {N : Int} {ko : Option Addr} {kn kc : Nat}, ExV n w x kd s N ko kn kc → ExV n w' x kd s N ko kn kc
  | .var _, _, _, _, _, _, _, h => h
  | .int _, _, _, _, _, _, _, h => h
  | .app a b, _, _, _, _, _, _, ⟨h1, h2, h3, bk, off, h4, h5, h6, ⟨k0, s0, N0, o0, n0, c0, x0, y0⟩, ⟨k1, s1, N1, o1, n1, c1, x1, y1⟩⟩ =>
    ⟨h1, h2, h3, bk, off, h4, h5, h6, ⟨k0, s0, N0, o0, n0, c0, x0.below hb h6, ExV.below hb a y0⟩, ⟨k1, s1, N1, o1, n1, c1, x1.below hb h6, ExV.below hb b y1⟩⟩
  | .op _t a b, _, _, _, _, _, _, ⟨h1, h2, h3, h3', bk, off, h4, h5, h6, ⟨k0, s0, N0, o0, n0, c0, x0, y0⟩, ⟨k1, s1, N1, o1, n1, c1, x1, y1⟩⟩ =>
    ⟨h1, h2, h3, h3', bk, off, h4, h5, h6, ⟨k0, s0, N0, o0, n0, c0, x0.below hb h6, ExV.below hb a y0⟩, ⟨k1, s1, N1, o1, n1, c1, x1.below hb h6, ExV.below hb b y1⟩⟩
theorem ExV.kind {n : Nat} {w : World} {x : Ex} {kd : Int} {s : ByteArray} {N : Int} {ko : Option Addr} {kn kc : Nat} (h : ExV n w x kd s N ko kn kc) : (kd == 6) = false := by
  cases x <;> (rw [h.1]; rfl)

theorem made_row {n d : Nat} {w : World} {l : World → List Pv → Prop} {k : Nat} {s : List UInt8} {e : Ending} {w' : World} (h : RPost w l e w') (hn : n ≤ w.heap.size)
    (hl : ∀ w' ps, Below w.heap.size w w' → l w' ps → ∃ L : List Pw, L.map (·.1) = ps ∧ (∀ x ∈ L, PartV n d x.2.2 w' x.1 x.2.1) ∧ cats L = s ∧ wsum L + 1 ≤ k) : MadeP n (PartV n d) w k s e w' := by
  obtain ⟨v, ps, rfl, h1, h2, h3⟩ := h
  obtain ⟨L, rfl, a, b, c⟩ := hl w' ps h3 h2
  exact ⟨v, L, rfl, h1, a, b, c, h3, hn⟩

theorem five_row {n d : Nat} {w : World} {ps : List Pv} {t0 t1 t2 r0 r1 : List UInt8} {k0 k1 : Nat} {kd0 : Int} {s0 : ByteArray} {N0 : Int} {ko0 : Option Addr} {kn0 kc0 : Nat} {kd1 : Int} {s1 : ByteArray} {N1 : Int} {ko1 : Option Addr} {kn1 kc1 : Nat}
    (h : Five ⟨t0.toArray⟩ ⟨t1.toArray⟩ ⟨t2.toArray⟩ kd0 s0 N0 ko0 kn0 kc0 kd1 s1 N1 ko1 kn1 kc1 w ps)
    (h0 : ∀ b, BoxE w b (.int .u8 kd0) (.string s0) (.int .i64 N0) (.bool false) (.slice none 0 0) (.slice ko0 kn0 kc0) → PartV n d k0 w ⟨⟨#[]⟩, some (41, b)⟩ r0)
    (h1 : ∀ b, BoxE w b (.int .u8 kd1) (.string s1) (.int .i64 N1) (.bool false) (.slice none 0 0) (.slice ko1 kn1 kc1) → PartV n d k1 w ⟨⟨#[]⟩, some (41, b)⟩ r1) :
    ∃ L : List Pw, L.map (·.1) = ps ∧ (∀ x ∈ L, PartV n d x.2.2 w x.1 x.2.1) ∧ cats L = t0 ++ (r0 ++ (t1 ++ (r1 ++ t2))) ∧ wsum L + 1 ≤ k0 + k1 + 4 := by
  obtain ⟨b0, b1, rfl, x0, x1⟩ := h
  refine ⟨[(pT t0, t0, 1), (⟨⟨#[]⟩, some (41, b0)⟩, r0, k0), (pT t1, t1, 1), (⟨⟨#[]⟩, some (41, b1)⟩, r1, k1), (pT t2, t2, 1)], rfl, ?_, by simp [cats], by simp only [wsum]; omega⟩
  intro x hx
  simp only [List.mem_cons, List.not_mem_nil, or_false] at hx
  rcases hx with rfl | rfl | rfl | rfl | rfl
  · exact partV_txt _ (Nat.le_refl _)
  · exact h0 b0 x0
  · exact partV_txt _ (Nat.le_refl _)
  · exact h1 b1 x1
  · exact partV_txt _ (Nat.le_refl _)

theorem ex_part (n : Nat) : ∀ (x : Ex) (w : World) (b : Nat) (kd : Int) (s : ByteArray) (N : Int) (ko : Option Addr) (kn kc : Nat), n ≤ w.heap.size → ExV n w x kd s N ko kn kc →
    BoxE w b (.int .u8 kd) (.string s) (.int .i64 N) (.bool false) (.slice none 0 0) (.slice ko kn kc) → PartV n (kE x) (kE x) w ⟨⟨#[]⟩, some (41, b)⟩ (rE x) := by
  have hent : ∀ args w, (callFunc 41 args).run Tryd.prog w = .ok (.enter 41 args) w := enters_of Tryd.func41 (by kernel_rfl) rfl
  intro x
  induction x with
  | var s =>
    rintro w b kd S N ko kn kc hn ⟨rfl, rfl, rfl, rfl, rfl, rfl⟩ hb
    refine .inr ⟨by simp only [kE]; omega, rfl, _, b, _, 36, rfl, hb, by decide, by decide, hent, fun W hW hWb => ?_⟩
    exact (expr1_any _ _ _ _ _ _ _ b W hWb (ep_var _ W)).mono fun e w' hp => made_row hp (Nat.le_trans hn hW.size) (fun w' ps _ h => ⟨[(pT s, s, 1)], by rw [h]; rfl, by
      intro x hx
      simp only [List.mem_cons, List.not_mem_nil, or_false] at hx
      subst hx
      exact partV_txt s (Nat.le_refl _), by simp [cats, rE], by simp [wsum, kE]⟩)
  | int k =>
    rintro w b kd S N ko kn kc hn ⟨rfl, rfl, rfl, rfl, rfl, rfl, hk⟩ hb
    refine .inr ⟨by simp only [kE]; omega, rfl, _, b, _, 36, rfl, hb, by decide, by decide, hent, fun W hW hWb => ?_⟩
    exact (expr1_any _ _ _ _ _ _ _ b W hWb (ep_int k hk W)).mono fun e w' hp => made_row hp (Nat.le_trans hn hW.size) (fun w' ps _ h => ⟨[(pT (Lib.decDigits k), Lib.decDigits k, 1)], by rw [h]; rfl, by
      intro x hx
      simp only [List.mem_cons, List.not_mem_nil, or_false] at hx
      subst hx
      exact partV_txt _ (Nat.le_refl _), by simp [cats, rE], by simp [wsum, kE]⟩)
  | app a c iha ihc =>
    rintro w b kd S N ko kn kc hn ⟨rfl, rfl, rfl, bk, off, rfl, rfl, hlt, ⟨k0, s0, N0, o0, n0, c0, x0, y0⟩, ⟨k1, s1, N1, o1, n1, c1, x1, y1⟩⟩ hb
    refine .inr ⟨by simp only [kE]; omega, rfl, _, b, _, 36, rfl, hb, by decide, by decide, hent, fun W hW hWb => ?_⟩
    refine (expr1_any _ _ _ _ _ _ _ b W hWb (ep_app bk off kc k0 s0 N0 o0 n0 c0 k1 s1 N1 o1 n1 c1 W y0.kind (x0.below hW hlt) (x1.below hW hlt))).mono fun e w' hp => made_row hp (Nat.le_trans hn hW.size) (fun w' ps hb' h => ?_)
    have hb2 := hW.trans (hb'.mono (Nat.le_trans hn hW.size))
    obtain ⟨L, a1, a2, a3, a4⟩ := five_row (t0 := [40]) (t1 := [32]) (t2 := [41]) h (fun b' hx => (iha w' b' k0 s0 N0 o0 n0 c0 (Nat.le_trans hn hb2.size) (ExV.below hb2 a y0) hx).upto (d' := kE a + kE c + 3) (by omega)) (fun b' hx => (ihc w' b' k1 s1 N1 o1 n1 c1 (Nat.le_trans hn hb2.size) (ExV.below hb2 c y1) hx).upto (by omega))
    exact ⟨L, a1, a2, by rw [a3]; rfl, by simp only [kE]; omega⟩
  | op t a c iha ihc =>
    rintro w b kd S N ko kn kc hn ⟨rfl, rfl, rfl, ht, bk, off, rfl, rfl, hlt, ⟨k0, s0, N0, o0, n0, c0, x0, y0⟩, ⟨k1, s1, N1, o1, n1, c1, x1, y1⟩⟩ hb
    refine .inr ⟨by simp only [kE]; omega, rfl, _, b, _, 36, rfl, hb, by decide, by decide, hent, fun W hW hWb => ?_⟩
    have hsz : (⟨t.toArray⟩ : ByteArray).size ≤ 1000 := by simpa [ByteArray.size] using ht
    have hcat : (⟨#[32]⟩ : ByteArray) ++ ⟨t.toArray⟩ ++ ⟨#[32]⟩ = ⟨(32 :: (t ++ [32])).toArray⟩ := by
      have h1 := bytes_cat [32] t
      have h2 := bytes_cat ([32] ++ t) [32]
      rw [← h1] at h2
      exact h2
    have hE := ep_op ⟨t.toArray⟩ bk off kc k0 s0 N0 o0 n0 c0 k1 s1 N1 o1 n1 c1 W hsz (x0.below hW hlt) (x1.below hW hlt)
    rw [hcat] at hE
    refine (expr1_any _ _ _ _ _ _ _ b W hWb hE).mono fun e w' hp => made_row hp (Nat.le_trans hn hW.size) (fun w' ps hb' h => ?_)
    have hb2 := hW.trans (hb'.mono (Nat.le_trans hn hW.size))
    obtain ⟨L, a1, a2, a3, a4⟩ := five_row (t0 := [40]) (t1 := 32 :: (t ++ [32])) (t2 := [41]) h (fun b' hx => (iha w' b' k0 s0 N0 o0 n0 c0 (Nat.le_trans hn hb2.size) (ExV.below hb2 a y0) hx).upto (d' := kE a + kE c + 3) (by omega)) (fun b' hx => (ihc w' b' k1 s1 N1 o1 n1 c1 (Nat.le_trans hn hb2.size) (ExV.below hb2 c y1) hx).upto (by omega))
    exact ⟨L, a1, a2, by rw [a3]; simp [rE], by simp only [kE]; omega⟩
end Go.Proofs.YtiimofdbconlhaaDoor
