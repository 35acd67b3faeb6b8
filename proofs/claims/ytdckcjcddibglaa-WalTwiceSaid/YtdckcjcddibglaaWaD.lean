/- A whole state's bytes. -/
import Derived.Test.YtdckcjcddibglaaWaC
namespace Go.Proofs.Ytdckcjcddibglaa
open Go.RowKit OctM

/-- An entry's cells. -/
structure EnAt (w : World) (b o : Nat) (x : En) (vx : Value) : Prop where
  tm : w.cell? ⟨b, o, none⟩ = some (.int .u64 (x.tm : Int))
  ss : w.cell? ⟨b, o + 1, none⟩ = some (.int .u64 (x.ss : Int))
  nm : w.cell? ⟨b, o + 2, none⟩ = some (.int .u64 (x.nm : Int))
  cl : w.cell? ⟨b, o + 3, none⟩ = some vx
  rd : Rd w vx x.cl
theorem EnAt.same {w w' : World} {b o : Nat} {x : En} {vx : Value} (h : EnAt w b o x vx) (hs : ∀ p : Addr, p.block < w.heap.size → w'.cell? p = w.cell? p) : EnAt w' b o x vx := by
  have hb : b < w.heap.size := World.block_lt_of_cell? w _ h.tm
  exact ⟨(hs _ hb).trans h.tm, (hs _ hb).trans h.ss, (hs _ hb).trans h.nm, (hs _ hb).trans h.cl, h.rd.same hs⟩
theorem EnAt.below {w w' : World} {b o : Nat} {x : En} {vx : Value} (h : EnAt w b o x vx) (hb : Below w.heap.size w w') : EnAt w' b o x vx := h.same fun _ hp => hb.cell hp

/-- A log that reads as l. -/
def RdL (w : World) (v : Value) (l : List En) : Prop :=
  (v = .slice none 0 0 ∧ l = []) ∨ ∃ b o c, v = .slice (some ⟨b, o, none⟩) l.length c ∧ l.length ≤ c ∧ c ≤ maxLen ∧ ∀ i x, l[i]? = some x → ∃ vx, EnAt w b (o + i * 4) x vx
theorem RdL.below {w w' : World} {v : Value} {l : List En} (h : RdL w v l) (hb : Below w.heap.size w w') : RdL w' v l := by
  rcases h with h | ⟨b, o, c, hv, h1, h2, h3⟩
  · exact .inl h
  · exact .inr ⟨b, o, c, hv, h1, h2, fun i x hx => by
      obtain ⟨vx, he⟩ := h3 i x hx
      exact ⟨vx, he.below hb⟩⟩
theorem RdL.form {w : World} {v : Value} {l : List En} (h : RdL w v l) : ∃ o c, v = .slice o l.length c := by
  rcases h with ⟨rfl, rfl⟩ | ⟨b, o, c, hv, _⟩
  · exact ⟨_, _, rfl⟩
  · exact ⟨_, _, hv⟩
theorem RdL.at {w : World} {o : Option Addr} {n c : Nat} {l : List En} (h : RdL w (.slice o n c) l) {i : Nat} {x : En} (hx : l[i]? = some x) : ∃ b off vx, o = some ⟨b, off, none⟩ ∧ EnAt w b (off + i * 4) x vx := by
  rcases h with ⟨_, rfl⟩ | ⟨b, off, c, hv, _, _, h3⟩
  · simp at hx
  · injection hv with hv _ _
    obtain ⟨vx, he⟩ := h3 i x hx
    exact ⟨b, off, vx, hv, he⟩

def bodyE (l : List En) : List UInt8 := l.flatMap encE
theorem bodyE_take (l : List En) (i : Nat) : (bodyE (l.take i)).length ≤ (bodyE l).length := by
  have : bodyE l = bodyE (l.take i) ++ bodyE (l.drop i) := by
    unfold bodyE
    rw [← List.flatMap_append, List.take_append_drop]
  rw [this, List.length_append]
  omega
theorem bodyE_succ (l : List En) (i : Nat) (x : En) (h : l[i]? = some x) : bodyE (l.take (i + 1)) = bodyE (l.take i) ++ encE x := by
  unfold bodyE
  rw [List.take_add_one, h]
  simp

/-- What is kept. -/
structure Wst where
  tm : Nat
  vt : Int
  bs : Nat
  lg : List En
structure Wst.Ok (s : Wst) : Prop where
  tm : s.tm < 18446744073709551616
  v0 : -1 ≤ s.vt
  v1 : s.vt < 7
  bs : s.bs < 18446744073709551616
  lg : ∀ x ∈ s.lg, x.Ok
  len : s.lg.length ≤ 1000
def wstV (s : Wst) (v : Value) : Value := .agg #[.int .u64 (s.tm : Int), .int .i64 s.vt, .int .u64 (s.bs : Int), v]
def headB (turn : Nat) (s : Wst) : List UInt8 := enc turn ++ enc s.tm ++ enc (zig s.vt) ++ enc s.bs ++ enc s.lg.length
def wholeB (turn : Nat) (s : Wst) : List UInt8 := encB (sealed (headB turn s ++ bodyE s.lg))

theorem bodyE_le (l : List En) (h : ∀ x ∈ l, x.Ok) : (bodyE l).length ≤ 4040 * l.length := by
  induction l with
  | nil => simp [bodyE]
  | cons x l ih =>
    have h1 := encE_length x (h x (List.mem_cons_self)).cl
    have h2 := ih (fun y hy => h y (List.mem_cons_of_mem _ hy))
    have h3 : bodyE (x :: l) = encE x ++ bodyE l := by simp [bodyE]
    rw [h3, List.length_append, List.length_cons]
    omega

theorem wholeB_le (turn : Nat) (s : Wst) (h : s.Ok) : (wholeB turn s).length ≤ 4041000 := by
  have h1 := bodyE_le s.lg h.lg
  have h2 := h.len
  have h3 := encB_length (sealed (headB turn s ++ bodyE s.lg))
  have h4 := sealed_length (headB turn s ++ bodyE s.lg)
  have := enc_length turn
  have := nd_le turn
  have := enc_length s.tm
  have := nd_le s.tm
  have := enc_length (zig s.vt)
  have := nd_le (zig s.vt)
  have := enc_length s.bs
  have := nd_le s.bs
  have := enc_length s.lg.length
  have := nd_le s.lg.length
  rw [List.length_append] at h4
  have h5 : (headB turn s).length ≤ 100 := by
    simp only [headB, List.length_append]
    omega
  unfold wholeB
  omega

set_option maxHeartbeats 8000000 in
set_option maxRecDepth 100000 in
theorem whole_any (turn : Nat) (s : Wst) (v : Value) (w : World) (hr : RdL w v s.lg) (hok : s.Ok) (ht : turn < 18446744073709551616) :
    Calls Try.prog 37 #[.int .u64 (turn : Int), wstV s v] w fun e w' => ∃ v', e = .returned v' ∧ Own w' w.heap.size v' (wholeB turn s) ∧ Below w.heap.size w w' := by
  obtain ⟨tm, vt, bs, lg⟩ := s
  obtain ⟨o1, o2, o3, o4, o5, o6⟩ := hok
  dsimp only at hr o1 o2 o3 o4 o5 o6
  obtain ⟨o, c, rfl⟩ := hr.form
  have HR := Lib.hid hr
  have HH0 := Lib.hid (show (turn : Int) ≤ 18446744073709551615 by omega)
  have HH1 := Lib.hid (show (tm : Int) ≤ 18446744073709551615 by omega)
  have HH2 := Lib.hid (show -9223372036854775808 ≤ vt ∧ vt ≤ 9223372036854775807 by omega)
  have HH3 := Lib.hid (show (bs : Int) ≤ 18446744073709551615 by omega)
  have HOK := Lib.hid o5
  have HL6 := Lib.hid o6
  have wl : IntKind.u64.wrap (lg.length : Int) = (lg.length : Int) := by rw [IntKind.wrap_u64]; omega
  have HBL : Hid ((bodyE lg).length ≤ 4040000) := Lib.hid (by have := bodyE_le lg o5; omega)
  clear hr o1 o2 o3 o4 o5 ht
  unfold wstV
  dsimp only
  go_enter Try.func37, Try.ntmps37
  go_upto_region 2 with fail
  obtain ⟨W, hW⟩ : ∃ W, ((w.alloc (.cells #[.int .u64 (tm : Int), .int .i64 vt, .int .u64 (bs : Int), .slice o lg.length c] 36)).alloc (.cells #[.slice none 0 0] 79)) = W := ⟨_, rfl⟩
  have hb : Below w.heap.size w W := by rw [← hW]; exact ((Below.refl _ _).alloc (Nat.le_refl _) _).alloc (by simp) _
  have hs : W.heap.size = w.heap.size + 2 := by rw [← hW]; simp
  have hn : W.heap[w.heap.size]? = some (.cells #[.int .u64 (tm : Int), .int .i64 vt, .int .u64 (bs : Int), .slice o lg.length c] 36 (0, 0)) := by
    rw [← hW, Below.heap_alloc _ _ _ (by simp)]; exact heap_alloc_new _ _
  have hw1 : W.heap[w.heap.size + 1]? = some (.cells #[.slice none 0 0] 79 (0, 0)) := by
    rw [← hW]
    have := heap_alloc_new (w.alloc (.cells #[.int .u64 (tm : Int), .int .i64 vt, .int .u64 (bs : Int), .slice o lg.length c] 36)) (.cells #[.slice none 0 0] 79)
    simpa using this
  rw [hW]
  have HEW := Lib.hid (WS.new hw1 hb (Nat.le_succ w.heap.size))
  have hbox : ∀ W', Kept (fun k => k ≠ w.heap.size) W W' → W'.heap[w.heap.size]? = some (.cells #[.int .u64 (tm : Int), .int .i64 vt, .int .u64 (bs : Int), .slice o lg.length c] 36 (0, 0)) := fun W' hk => (hk.block _ (by omega) (by simp)).trans hn
  have HBOX := Lib.hid hbox
  have g0 : W.cell? ⟨w.heap.size, 0, none⟩ = some (.int .u64 (tm : Int)) := cellk (i := 0) hn rfl
  have g1 : W.cell? ⟨w.heap.size, 1, none⟩ = some (.int .i64 vt) := cellk (i := 1) hn rfl
  have g2 : W.cell? ⟨w.heap.size, 2, none⟩ = some (.int .u64 (bs : Int)) := cellk (i := 2) hn rfl
  have g3 : W.cell? ⟨w.heap.size, 3, none⟩ = some (.slice o lg.length c) := cellk (i := 3) hn rfl
  generalize hbe : w.heap.size + 1 = b at *
  have HTW := Lib.hid (show ∀ k, two b (.slice none 0 0) k → k ≠ w.heap.size from fun k hk => by
    rcases hk with rfl | hk
    · omega
    · cases hk)
  have hkp0 : w.heap.size < W.heap.size := by omega
  clear hbox hb hn hW hw1 hs
  refine wp_region_held_drew (S := fun w' => w'.cell? ⟨w.heap.size, 0, none⟩ = some (.int .u64 (tm : Int)) ∧ w'.cell? ⟨w.heap.size, 1, none⟩ = some (.int .i64 vt) ∧ w'.cell? ⟨w.heap.size, 2, none⟩ = some (.int .u64 (bs : Int)) ∧ w'.cell? ⟨w.heap.size, 3, none⟩ = some (.slice o lg.length c)) (by kernel_rfl) ⟨g0, g1, g2, g3⟩ ?_
  intro hHeld
  refine wpAnyH_take (i := 0) (v := ?_) (by simp only [List.getElem?_toArray, List.getElem?_cons_zero]; rfl) (by kernel_rfl) (by kernel_rfl) (by kernel_rfl) (by intro _ _ _ h; exact h) (Or.inl ⟨by rfl, ?_⟩) (by assumption) ?_
  rotate_left
  · (intro w hSw; (try dsimp only at hSw); go_simp; try with_reducible rfl)
  try simp only [Act.put, List.setIfInBounds_toArray, List.set_cons_zero, List.set_cons_succ]
  refine wpAnyH_take (i := 1) (v := ?_) (by simp only [List.getElem?_toArray, List.getElem?_cons_succ, List.getElem?_cons_zero]; rfl) (by kernel_rfl) (by kernel_rfl) (by kernel_rfl) (by intro _ _ _ h; exact h) (Or.inl ⟨by rfl, ?_⟩) (by assumption) ?_
  rotate_left
  · (intro w hSw; (try dsimp only at hSw); go_simp; try with_reducible rfl)
  try simp only [Act.put, List.setIfInBounds_toArray, List.set_cons_zero, List.set_cons_succ]
  refine wpAnyH_take (i := 3) (v := ?_) (by simp only [List.getElem?_toArray, List.getElem?_cons_succ, List.getElem?_cons_zero]; rfl) (by kernel_rfl) (by kernel_rfl) (by kernel_rfl) (by intro _ _ _ h; exact h) (Or.inl ⟨by rfl, ?_⟩) (by assumption) ?_
  rotate_left
  · (intro w hSw; (try dsimp only at hSw); go_simp; try with_reducible rfl)
  try simp only [Act.put, List.setIfInBounds_toArray, List.set_cons_zero, List.set_cons_succ]
  refine wpAnyH_take (i := 4) (v := ?_) (by simp only [List.getElem?_toArray, List.getElem?_cons_succ, List.getElem?_cons_zero]; rfl) (by kernel_rfl) (by kernel_rfl) (by kernel_rfl) (by intro _ _ _ h; exact h) (Or.inl ⟨by rfl, ?_⟩) (by assumption) ?_
  rotate_left
  · (intro w hSw; (try dsimp only at hSw); go_simp; try with_reducible rfl)
  try simp only [Act.put, List.setIfInBounds_toArray, List.set_cons_zero, List.set_cons_succ]
  refine wpAnyH_take (i := 6) (v := ?_) (by simp only [List.getElem?_toArray, List.getElem?_cons_succ, List.getElem?_cons_zero]; rfl) (by kernel_rfl) (by kernel_rfl) (by kernel_rfl) (by intro _ _ _ h; exact h) (Or.inl ⟨by rfl, ?_⟩) (by assumption) ?_
  rotate_left
  · (intro w hSw; (try dsimp only at hSw); go_simp; try with_reducible rfl)
  try simp only [Act.put, List.setIfInBounds_toArray, List.set_cons_zero, List.set_cons_succ]
  refine wpAnyH_take (i := 7) (v := ?_) (by simp only [List.getElem?_toArray, List.getElem?_cons_succ, List.getElem?_cons_zero]; rfl) (by kernel_rfl) (by kernel_rfl) (by kernel_rfl) (by intro _ _ _ h; exact h) (Or.inl ⟨by rfl, ?_⟩) (by assumption) ?_
  rotate_left
  · (intro w hSw; (try dsimp only at hSw); go_simp; try with_reducible rfl)
  try simp only [Act.put, List.setIfInBounds_toArray, List.set_cons_zero, List.set_cons_succ]
  refine wpAnyH_take (i := 9) (v := ?_) (by simp only [List.getElem?_toArray, List.getElem?_cons_succ, List.getElem?_cons_zero]; rfl) (by kernel_rfl) (by kernel_rfl) (by kernel_rfl) (by intro _ _ _ h; exact h) (Or.inl ⟨by rfl, ?_⟩) (by assumption) ?_
  rotate_left
  · (intro w hSw; (try dsimp only at hSw); go_simp; try with_reducible rfl)
  try simp only [Act.put, List.setIfInBounds_toArray, List.set_cons_zero, List.set_cons_succ]
  refine wpAnyH_take (i := 10) (v := ?_) (by simp only [List.getElem?_toArray, List.getElem?_cons_succ, List.getElem?_cons_zero]; rfl) (by kernel_rfl) (by kernel_rfl) (by kernel_rfl) (by intro _ _ _ h; exact h) (Or.inl ⟨by rfl, ?_⟩) (by assumption) ?_
  rotate_left
  · (intro w hSw; (try dsimp only at hSw); go_simp; try with_reducible rfl)
  try simp only [Act.put, List.setIfInBounds_toArray, List.set_cons_zero, List.set_cons_succ]
  refine wpAnyH_take (i := 12) (v := ?_) (by simp only [List.getElem?_toArray, List.getElem?_cons_succ, List.getElem?_cons_zero]; rfl) (by kernel_rfl) (by kernel_rfl) (by kernel_rfl) (by intro _ _ _ h; exact h) (Or.inl ⟨by rfl, ?_⟩) (by assumption) ?_
  rotate_left
  · (intro w hSw; (try dsimp only at hSw); go_simp; try with_reducible rfl)
  try simp only [Act.put, List.setIfInBounds_toArray, List.set_cons_zero, List.set_cons_succ]
  refine wpAnyH_take (i := 13) (v := ?_) (by simp only [List.getElem?_toArray, List.getElem?_cons_succ, List.getElem?_cons_zero]; rfl) (by kernel_rfl) (by kernel_rfl) (by kernel_rfl) (by intro _ _ _ h; exact h) (Or.inl ⟨by rfl, ?_⟩) (by assumption) ?_
  rotate_left
  · (intro w hSw; (try dsimp only at hSw); go_simp; try with_reducible rfl)
  try simp only [Act.put, List.setIfInBounds_toArray, List.set_cons_zero, List.set_cons_succ]
  refine wpAnyH_take (i := 14) (v := ?_) (by simp only [List.getElem?_toArray, List.getElem?_cons_succ, List.getElem?_cons_zero]; rfl) (by kernel_rfl) (by kernel_rfl) (by kernel_rfl) (by intro _ _ _ h; exact h) (Or.inl ⟨by rfl, ?_⟩) (by assumption) ?_
  rotate_left
  · (intro w hSw; (try dsimp only at hSw); go_simp; try with_reducible rfl)
  try simp only [Act.put, List.setIfInBounds_toArray, List.set_cons_zero, List.set_cons_succ]
  refine wpAnyH_take (i := 15) (v := ?_) (by simp only [List.getElem?_toArray, List.getElem?_cons_succ, List.getElem?_cons_zero]; rfl) (by kernel_rfl) (by kernel_rfl) (by kernel_rfl) (by intro _ _ _ h; exact h) (Or.inl ⟨by rfl, ?_⟩) (by assumption) ?_
  rotate_left
  · (intro w hSw; (try dsimp only at hSw); go_simp; try with_reducible rfl)
  try simp only [Act.put, List.setIfInBounds_toArray, List.set_cons_zero, List.set_cons_succ]
  refine wpAnyH_ready (rs := [2]) (by kernel_rfl) (by simp) ?_
  refine AllReadyH.cons (by simp only [List.getElem?_toArray, List.getElem?_cons_succ, List.getElem?_cons_zero]; rfl) (fun K hK => ?_) AllReadyH.nil
  go_simp
  refine (wuint b w.heap.size (.slice none 0 0) [] (turn : Int) W.drew (by omega) HH0.out HEW.out.drew.at_ HEW.out.drew.bel.size (by have := enc_length turn; have := nd_le turn; have := enc_length tm; have := nd_le tm; have := enc_length (zig vt); have := nd_le (zig vt); have := enc_length bs; have := nd_le bs; (try simp only [List.length_nil]); omega)).mono ?_
  intro e W1 hp1
  have hret := hp1.ret
  subst hret
  obtain ⟨u1, hat1, hor1⟩ := hp1.at_
  have hws1 := (show WS w b u1 _ W1 from ⟨hat1, (HEW.out.drew).bel.trans (hp1.kept.below (HEW.out.drew).bel.size (fun k hk => ((HEW.out.drew).two_lt k hk).1)), (HEW.out.drew).ge⟩)
  have hkk1 : Kept (fun k => k ≠ w.heap.size) W W1 := ((Kept.refl _ W).drew).trans (hp1.kept.weak (fun k _ hk => HTW.out k hk))
  have HT1 := Lib.hid (show ∀ k, two b u1 k → k ≠ w.heap.size from fun k hk => by
    rcases hk with rfl | hk
    · exact HTW.out k (.inl rfl)
    · rcases hor1 with h5 | ⟨g, hg, hgs⟩
      · exact HTW.out k (.inr (h5 ▸ hk))
      · have h6 := hkp0; have h7 : W.heap.size ≤ g := hgs; rw [hg] at hk; injection hk with hk; omega)
  have hkp1 : w.heap.size < W1.heap.size := by have := hkk1.size; omega
  have q := HBOX.out _ hkk1
  have q10 := cellk (i := 0) q rfl
  have q11 := cellk (i := 1) q rfl
  have q12 := cellk (i := 2) q rfl
  have q13 := cellk (i := 3) q rfl
  simp only [Int.toNat_natCast, List.nil_append] at hws1
  have HEW1 := Lib.hid hws1
  have HKK1 := Lib.hid hkk1
  clear hp1 hws1 hat1 hor1 hkk1 q
  dsimp only
  refine hK.out _ _ ⟨q10, q11, q12, q13⟩ (fun hHeld => ?_)
  clear hK K
  try simp only [Act.put, List.setIfInBounds_toArray, List.set_cons_zero, List.set_cons_succ]
  refine wpAnyH_ready (rs := [5]) (by kernel_rfl) (by simp) ?_
  refine AllReadyH.cons (by simp only [List.getElem?_toArray, List.getElem?_cons_succ, List.getElem?_cons_zero]; rfl) (fun K hK => ?_) AllReadyH.nil
  go_simp
  refine (wuint b w.heap.size u1 (enc turn) (tm : Int) W1 (by omega) HH1.out HEW1.out.at_ HEW1.out.bel.size (by have := enc_length turn; have := nd_le turn; have := enc_length tm; have := nd_le tm; have := enc_length (zig vt); have := nd_le (zig vt); have := enc_length bs; have := nd_le bs; (try simp only [List.length_append]); omega)).mono ?_
  intro e W2 hp2
  have hret := hp2.ret
  subst hret
  obtain ⟨u2, hat2, hor2⟩ := hp2.at_
  have hws2 := (show WS w b u2 _ W2 from ⟨hat2, (HEW1.out).bel.trans (hp2.kept.below (HEW1.out).bel.size (fun k hk => ((HEW1.out).two_lt k hk).1)), (HEW1.out).ge⟩)
  have hkk2 : Kept (fun k => k ≠ w.heap.size) W W2 := (HKK1.out).trans (hp2.kept.weak (fun k _ hk => HT1.out k hk))
  have HT2 := Lib.hid (show ∀ k, two b u2 k → k ≠ w.heap.size from fun k hk => by
    rcases hk with rfl | hk
    · exact HT1.out k (.inl rfl)
    · rcases hor2 with h5 | ⟨g, hg, hgs⟩
      · exact HT1.out k (.inr (h5 ▸ hk))
      · have h6 := hkp1; have h7 : W1.heap.size ≤ g := hgs; rw [hg] at hk; injection hk with hk; omega)
  have hkp2 : w.heap.size < W2.heap.size := by have := hkk2.size; omega
  have q := HBOX.out _ hkk2
  have q20 := cellk (i := 0) q rfl
  have q21 := cellk (i := 1) q rfl
  have q22 := cellk (i := 2) q rfl
  have q23 := cellk (i := 3) q rfl
  try simp only [Int.toNat_natCast] at hws2
  have HEW2 := Lib.hid hws2
  have HKK2 := Lib.hid hkk2
  clear hp2 hws2 hat2 hor2 hkk2 q
  dsimp only
  refine hK.out _ _ ⟨q20, q21, q22, q23⟩ (fun hHeld => ?_)
  clear hK K
  try simp only [Act.put, List.setIfInBounds_toArray, List.set_cons_zero, List.set_cons_succ]
  refine wpAnyH_ready (rs := [8]) (by kernel_rfl) (by simp) ?_
  refine AllReadyH.cons (by simp only [List.getElem?_toArray, List.getElem?_cons_succ, List.getElem?_cons_zero]; rfl) (fun K hK => ?_) AllReadyH.nil
  go_simp
  refine (wint b w.heap.size u2 (enc turn ++ enc tm) vt W2 HH2.out.1 HH2.out.2 HEW2.out.at_ HEW2.out.bel.size (by have := enc_length turn; have := nd_le turn; have := enc_length tm; have := nd_le tm; have := enc_length (zig vt); have := nd_le (zig vt); have := enc_length bs; have := nd_le bs; (try simp only [List.length_append]); omega)).mono ?_
  intro e W3 hp3
  have hret := hp3.ret
  subst hret
  obtain ⟨u3, hat3, hor3⟩ := hp3.at_
  have hws3 := (show WS w b u3 _ W3 from ⟨hat3, (HEW2.out).bel.trans (hp3.kept.below (HEW2.out).bel.size (fun k hk => ((HEW2.out).two_lt k hk).1)), (HEW2.out).ge⟩)
  have hkk3 : Kept (fun k => k ≠ w.heap.size) W W3 := (HKK2.out).trans (hp3.kept.weak (fun k _ hk => HT2.out k hk))
  have HT3 := Lib.hid (show ∀ k, two b u3 k → k ≠ w.heap.size from fun k hk => by
    rcases hk with rfl | hk
    · exact HT2.out k (.inl rfl)
    · rcases hor3 with h5 | ⟨g, hg, hgs⟩
      · exact HT2.out k (.inr (h5 ▸ hk))
      · have h6 := hkp2; have h7 : W2.heap.size ≤ g := hgs; rw [hg] at hk; injection hk with hk; omega)
  have hkp3 : w.heap.size < W3.heap.size := by have := hkk3.size; omega
  have q := HBOX.out _ hkk3
  have q30 := cellk (i := 0) q rfl
  have q31 := cellk (i := 1) q rfl
  have q32 := cellk (i := 2) q rfl
  have q33 := cellk (i := 3) q rfl
  try simp only [Int.toNat_natCast] at hws3
  have HEW3 := Lib.hid hws3
  have HKK3 := Lib.hid hkk3
  clear hp3 hws3 hat3 hor3 hkk3 q
  dsimp only
  refine hK.out _ _ ⟨q30, q31, q32, q33⟩ (fun hHeld => ?_)
  clear hK K
  try simp only [Act.put, List.setIfInBounds_toArray, List.set_cons_zero, List.set_cons_succ]
  refine wpAnyH_ready (rs := [11]) (by kernel_rfl) (by simp) ?_
  refine AllReadyH.cons (by simp only [List.getElem?_toArray, List.getElem?_cons_succ, List.getElem?_cons_zero]; rfl) (fun K hK => ?_) AllReadyH.nil
  go_simp
  refine (wuint b w.heap.size u3 (enc turn ++ enc tm ++ enc (zig vt)) (bs : Int) W3 (by omega) HH3.out HEW3.out.at_ HEW3.out.bel.size (by have := enc_length turn; have := nd_le turn; have := enc_length tm; have := nd_le tm; have := enc_length (zig vt); have := nd_le (zig vt); have := enc_length bs; have := nd_le bs; (try simp only [List.length_append]); omega)).mono ?_
  intro e W4 hp4
  have hret := hp4.ret
  subst hret
  obtain ⟨u4, hat4, hor4⟩ := hp4.at_
  have hws4 := (show WS w b u4 _ W4 from ⟨hat4, (HEW3.out).bel.trans (hp4.kept.below (HEW3.out).bel.size (fun k hk => ((HEW3.out).two_lt k hk).1)), (HEW3.out).ge⟩)
  have hkk4 : Kept (fun k => k ≠ w.heap.size) W W4 := (HKK3.out).trans (hp4.kept.weak (fun k _ hk => HT3.out k hk))
  have HT4 := Lib.hid (show ∀ k, two b u4 k → k ≠ w.heap.size from fun k hk => by
    rcases hk with rfl | hk
    · exact HT3.out k (.inl rfl)
    · rcases hor4 with h5 | ⟨g, hg, hgs⟩
      · exact HT3.out k (.inr (h5 ▸ hk))
      · have h6 := hkp3; have h7 : W3.heap.size ≤ g := hgs; rw [hg] at hk; injection hk with hk; omega)
  have hkp4 : w.heap.size < W4.heap.size := by have := hkk4.size; omega
  have q := HBOX.out _ hkk4
  have q40 := cellk (i := 0) q rfl
  have q41 := cellk (i := 1) q rfl
  have q42 := cellk (i := 2) q rfl
  have q43 := cellk (i := 3) q rfl
  try simp only [Int.toNat_natCast] at hws4
  have HEW4 := Lib.hid hws4
  have HKK4 := Lib.hid hkk4
  clear hp4 hws4 hat4 hor4 hkk4 q
  dsimp only
  refine hK.out _ _ ⟨q40, q41, q42, q43⟩ (fun hHeld => ?_)
  clear hK K
  try simp only [Act.put, List.setIfInBounds_toArray, List.set_cons_zero, List.set_cons_succ]
  refine wpAnyH_ready (rs := [16]) (by kernel_rfl) (by simp) ?_
  refine AllReadyH.cons (by simp only [List.getElem?_toArray, List.getElem?_cons_succ, List.getElem?_cons_zero]; rfl) (fun K hK => ?_) AllReadyH.nil
  go_simp
  refine (wuint b w.heap.size u4 (enc turn ++ enc tm ++ enc (zig vt) ++ enc bs) (lg.length : Int) W4 (by omega) (by have := HL6.out; omega) HEW4.out.at_ HEW4.out.bel.size (by have := enc_length turn; have := nd_le turn; have := enc_length tm; have := nd_le tm; have := enc_length (zig vt); have := nd_le (zig vt); have := enc_length bs; have := nd_le bs; (try simp only [List.length_append]); omega)).mono ?_
  intro e W5 hp5
  have hret := hp5.ret
  subst hret
  obtain ⟨u5, hat5, hor5⟩ := hp5.at_
  have hws5 := (show WS w b u5 _ W5 from ⟨hat5, (HEW4.out).bel.trans (hp5.kept.below (HEW4.out).bel.size (fun k hk => ((HEW4.out).two_lt k hk).1)), (HEW4.out).ge⟩)
  have hkk5 : Kept (fun k => k ≠ w.heap.size) W W5 := (HKK4.out).trans (hp5.kept.weak (fun k _ hk => HT4.out k hk))
  have HT5 := Lib.hid (show ∀ k, two b u5 k → k ≠ w.heap.size from fun k hk => by
    rcases hk with rfl | hk
    · exact HT4.out k (.inl rfl)
    · rcases hor5 with h5 | ⟨g, hg, hgs⟩
      · exact HT4.out k (.inr (h5 ▸ hk))
      · have h6 := hkp4; have h7 : W4.heap.size ≤ g := hgs; rw [hg] at hk; injection hk with hk; omega)
  have hkp5 : w.heap.size < W5.heap.size := by have := hkk5.size; omega
  have q := HBOX.out _ hkk5
  have q50 := cellk (i := 0) q rfl
  have q51 := cellk (i := 1) q rfl
  have q52 := cellk (i := 2) q rfl
  have q53 := cellk (i := 3) q rfl
  try simp only [Int.toNat_natCast] at hws5
  have HEW5 := Lib.hid hws5
  have HKK5 := Lib.hid hkk5
  clear hp5 hws5 hat5 hor5 hkk5 q
  dsimp only
  refine hK.out _ _ ⟨q50, q51, q52, q53⟩ (fun hHeld => ?_)
  clear hK K
  try simp only [Act.put, List.setIfInBounds_toArray, List.set_cons_zero, List.set_cons_succ]
  refine wpAnyH_done (by kernel_rfl) ?_ _
  have HHL : Hid ((headB turn ⟨tm, vt, bs, lg⟩).length ≤ 100) := Lib.hid (by
    have := enc_length turn; have := nd_le turn; have := enc_length tm; have := nd_le tm; have := enc_length (zig vt); have := nd_le (zig vt); have := enc_length bs; have := nd_le bs; have := enc_length lg.length; have := nd_le lg.length
    simp only [headB, List.length_append]; omega)
  have HS5 : Hid (WS w b u5 (headB turn ⟨tm, vt, bs, lg⟩) W5) := HEW5
  have HWB := Lib.hid (show wholeB turn ⟨tm, vt, bs, lg⟩ = encB (sealed (headB turn ⟨tm, vt, bs, lg⟩ ++ bodyE lg)) from rfl)
  generalize headB turn ⟨tm, vt, bs, lg⟩ = hd at *
  clear HEW HEW1 HEW2 HEW3 HEW4 HEW5 HTW HT1 HT2 HT3 HT4 HT5 HKK1 HKK2 HKK3 HKK4 HKK5
  go_wp2_with fail
  go_loopw [31] (fun c wr => ∃ (i : Nat) (u : Value), i ≤ lg.length ∧ c = .int .i64 (i : Int) ∧ Hid (WS w b u (hd ++ bodyE (lg.take i)) wr)) (fun c _ => lg.length + 1 - (intOf c).toNat)
  case atStart => exact ⟨0, u5, by omega, rfl, by simpa [bodyE] using HS5⟩
  case round =>
    obtain ⟨i, u, hi, rfl, HS⟩ := hrel
    have hl6 := HL6.out
    have hbt := bodyE_take lg i
    by_cases hlt : i < lg.length
    · have i1 : (i : Int) < (lg.length : Int) := by omega
      obtain ⟨bb, off, vx, rfl, hat0⟩ := HR.out.at (List.getElem?_eq_getElem hlt)
      have hok := HOK.out _ (List.getElem_mem hlt)
      have hsucc := bodyE_succ lg i _ (List.getElem?_eq_getElem hlt)
      have hat := hat0.below HS.out.bel
      generalize lg[i] = X at *
      obtain ⟨xt, xs, xn, xl⟩ := X
      obtain ⟨a0, a1, a2, a3, ard⟩ := hat
      dsimp only at a0 a1 a2 a3 ard
      obtain ⟨ox, cx, rfl⟩ : ∃ o c, vx = .slice o xl.length c := by
        rcases ard with ⟨rfl, rfl⟩ | ⟨_, c, rfl, _⟩ <;> exact ⟨_, _, rfl⟩
      have hba : Below wr.heap.size wr (wr.alloc (.cells #[.int .u64 (xt : Int), .int .u64 (xs : Int), .int .u64 (xn : Int), .slice ox xl.length cx] 33)) := (Below.refl _ _).alloc (Nat.le_refl _) _
      have hna := heap_alloc_new wr (.cells #[.int .u64 (xt : Int), .int .u64 (xs : Int), .int .u64 (xn : Int), .slice ox xl.length cx] 33)
      have HC := Lib.hid (entry_any b u (.slice ox xl.length cx) (hd ++ bodyE (lg.take i)) ⟨xt, xs, xn, xl⟩ w _ (HS.out.below hba) hat0.rd hok (by have := HHL.out; have := HBL.out; rw [List.length_append]; omega))
      have wi : IntKind.i64.wrap ((i : Int) + 1) = (i : Int) + 1 := IntWalk.i64_in _ (by omega)
      rw [List.append_assoc, ← hsucc] at HC
      unfold enV at HC
      dsimp only at HC
      clear hat0 hok ard hba
      go_upto_region 6 with fail
      generalize (wr.alloc (.cells #[.int .u64 (xt : Int), .int .u64 (xs : Int), .int .u64 (xn : Int), .slice ox xl.length cx] 33)) = wa at *
      have x0 := cellk (i := 0) hna rfl
      have x1 := cellk (i := 1) hna rfl
      have x2 := cellk (i := 2) hna rfl
      have x3 := cellk (i := 3) hna rfl
      clear hna a0 a1 a2 a3
      go_wp2_with fail
      refine HC.out.mono ?_
      rintro e wb ⟨rfl, u', hws⟩
      have HWS := Lib.hid hws
      clear hws HC
      go_wp2_with fail
      go_roundw
      case rel => exact ⟨i + 1, u', by omega, by go_num, HWS⟩
      case measure => simp [intOf]; omega
    · have i1 : ¬ (i : Int) < (lg.length : Int) := by omega
      have hie : i = lg.length := by omega
      subst hie
      rw [List.take_length] at HS
      have hbo : Below wr.heap.size wr (wr.alloc (.cells #[.slice none 0 0] 79)) := (Below.refl _ _).alloc (Nat.le_refl _) _
      have hno := heap_alloc_new wr (.cells #[.slice none 0 0] 79)
      have HF := Lib.hid (frame_any wr.heap.size b w.heap.size (.slice none 0 0) u [] (hd ++ bodyE lg) wr _ (WS.new hno hbo (Nat.le_refl _)) (HS.out.below hbo).at_ (by have := HHL.out; have := HBL.out; rw [List.length_append]; omega) (by simp))
      clear hbo hno hbt
      go_wp2_with fail
      refine HF.out.mono ?_
      rintro e wf ⟨rfl, ⟨uf, hwf, -⟩, -⟩
      rw [List.nil_append] at hwf
      have HWF := Lib.hid hwf
      have HD := Lib.hid (wdone wr.heap.size wr.heap.size uf _ wf hwf.at_ (by
        have := HHL.out; have := HBL.out
        have h1 := enc_length (sealed (hd ++ bodyE lg)).length
        have h2 := nd_le (sealed (hd ++ bodyE lg)).length
        have h3 := sealed_length (hd ++ bodyE lg)
        simp only [encB, List.length_append] at *
        omega))
      clear hwf HF
      go_wp2_with fail
      refine HD.out.mono ?_
      rintro e wg ⟨vg, rfl, hog, hbg⟩
      have HO := Lib.hid (own_base hog (by have := HWF.out.bel.size; have := HS.out.bel.size; omega : w.heap.size ≤ wf.heap.size))
      have HB := Lib.hid ((HS.out.bel.trans (HWF.out.bel.mono HS.out.bel.size)).trans (hbg.mono (by have := HWF.out.bel.size; have := HS.out.bel.size; omega)))
      clear hog hbg HD
      go_wp2_with fail
      go_ret
      exact ⟨_, rfl, by rw [HWB.out]; exact HO.out, HB.out⟩
end Go.Proofs.Ytdckcjcddibglaa
