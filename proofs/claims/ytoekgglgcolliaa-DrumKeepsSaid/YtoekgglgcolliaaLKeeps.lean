/- DrumKeeps: the law's walk. -/
import Derived.Test.YtoekgglgcolliaaDruK
namespace Go.Proofs.Ytoekgglgcolliaa
open Go.RowKit

/-- A drum, its blocks in S, all of them at B or above and there. -/
def Dq (w : World) (S : Nat → Prop) (B D T : Nat) (d : Dr) : Prop := (∃ vn vd, DAt w S D T vn vd d) ∧ (∀ k, S k → B ≤ k ∧ k < w.heap.size)

theorem Fr.lt {S : Nat → Prop} {w w' : World} {B : Nat} (h : ∀ k, S k → B ≤ k ∧ k < w.heap.size) (hs : w.heap.size ≤ w'.heap.size) (hB : B ≤ w.heap.size) : ∀ k, Fr S w w' k → B ≤ k ∧ k < w'.heap.size := fun k hk => by
  rcases hk with hk | hk
  · have := h k hk; omega
  · omega

/-- A world in which no block of the drum has turned. -/
theorem Dq.block {w w' : World} {S : Nat → Prop} {B D T : Nat} {d : Dr} (h : Dq w S B D T d) (hs : w.heap.size ≤ w'.heap.size) (hk : ∀ g, S g → w'.heap[g]? = w.heap[g]?) : Dq w' S B D T d := by
  obtain ⟨⟨vn, vd, h1⟩, h2⟩ := h
  exact ⟨⟨vn, vd, h1.block (fun g hg _ => hk g hg) fun _ h => h⟩, fun k hk => by have := h2 k hk; omega⟩

def DqP (w : World) (S : Nat → Prop) (B D T : Nat) (r : Int × Dr) (e : Ending) (w' : World) : Prop :=
  e = .returned (.int .i64 r.1) ∧ Dq w' (Fr S w w') B D T r.2 ∧ Kept S w w'

theorem DqP.of {w : World} {S : Nat → Prop} {B D T : Nat} {r : Int × Dr} {x : Int} {d : Dr} (hS : ∀ k, S k → B ≤ k ∧ k < w.heap.size) (hB : B ≤ w.heap.size) (h1 : r = (x, d)) (e : Ending) (w' : World) (h : APost w S D T r e w') :
    e = .returned (.int .i64 x) ∧ Dq w' (Fr S w w') B D T d ∧ Kept S w w' := by
  subst h1
  obtain ⟨he, hd, hk⟩ := h
  exact ⟨he, ⟨hd, Fr.lt hS hk.size hB⟩, hk⟩

theorem Dq.read {w : World} {S : Nat → Prop} {B D T : Nat} {d : Dr} (h : Dq w S B D T d) (i : Int) (hz : chk d i = 0) :
    Calls Try.prog 14 #[.pointer (some ⟨D, 0, none⟩), .int .i64 i] w fun e w' => ∃ v, e = .returned (.tuple #[v, .int .i64 0]) ∧ Own w' w.heap.size v (d.tr i.toNat).now ∧ Below w.heap.size w w' := by
  obtain ⟨⟨vn, vd, h1⟩, h2⟩ := h
  exact (read_any i w h1).mono fun e w' hr => by
    rcases hr with ⟨h1, _⟩ | ⟨_, h2⟩
    · exact absurd hz h1
    · exact h2

theorem own_form {w : World} {base : Nat} {v : Value} {l : List UInt8} (h : Own w base v l) (hl : 0 < l.length) :
    ∃ g c, v = .slice (some ⟨g, 0, none⟩) l.length c ∧ base ≤ g ∧ g < w.heap.size ∧ (∀ j u, l[j]? = some u → w.cell? ⟨g, j, none⟩ = some (B u)) ∧ ∀ i, w.frozen? ⟨g, i, none⟩ = false := by
  have hc := fun g => World.ownsRow.cells h (g := g)
  have hlt := h.lt
  rcases h.2 with ⟨_, hn⟩ | ⟨g, cap, cur, rfl, hb, hg, hn, hm, _⟩
  · omega
  · refine ⟨g, cap, rfl, hb, (hlt g rfl).2, fun j u hu => ?_, fun i => by simp [World.frozen?, hg]⟩
    have := hc g rfl j (B u) (by simp [Bs, hu])
    rw [add_none, Nat.zero_add] at this
    exact this

/-- The states. -/
def ks1 (p : List UInt8) : Dr := ⟨2, 5000, upd (fun _ => ⟨[], [], false⟩) 0 ⟨p, [], true⟩, false, 1, 0⟩
def ks2 (p : List UInt8) : Dr := ⟨2, 5000, upd (upd (fun _ => ⟨[], [], false⟩) 0 ⟨p, [], true⟩) 1 ⟨[] ++ p, [], false⟩, false, 2, 0⟩
def ks3 (p : List UInt8) : Dr := ⟨2, 5000, upd (upd (upd (fun _ => ⟨[], [], false⟩) 0 ⟨p, [], true⟩) 1 ⟨[] ++ p, [], false⟩) 1 ⟨[] ++ p, [] ++ p, false⟩, false, 3, 0⟩
theorem ks_1 (p : List UInt8) (h : p.length ≤ 1000) : writeS (new 2 5000) 0 p = (0, ks1 p) :=
  (if_neg (show ¬ chk (new 2 5000) 0 ≠ 0 by decide)).trans (if_neg (show ¬ (new 2 5000).most < p.length by show ¬ 5000 < p.length; omega))
theorem ks_2 (p : List UInt8) (h : p.length ≤ 1000) : appS (ks1 p) 1 p = (0, ks2 p) :=
  (if_neg (show ¬ chk (ks1 p) 1 ≠ 0 by simp [chk, ks1])).trans (if_neg (show ¬ (ks1 p).most < ((ks1 p).tr (1 : Int).toNat).now.length + p.length by show ¬ 5000 < ([] : List UInt8).length + p.length; simp; omega))
theorem ks_3 (p : List UInt8) : syncS (ks2 p) 1 = (0, ks3 p) :=
  (if_neg (show ¬ chk (ks2 p) 1 ≠ 0 by simp [chk, ks2])).trans (if_pos (show (cnt (ks2 p)).1 = 0 from rfl))

theorem Dq.write {w : World} {S : Nat → Prop} {B D T : Nat} {d d' : Dr} (h : Dq w S B D T d) (hB : B ≤ w.heap.size) (i : Int) (x : Value) (p : List UInt8) (hx : Rd w x p) (hp : p.length ≤ 1000) (ho : d.ops ≤ 1000000) (h1 : writeS d i p = (0, d')) :
    Calls Try.prog 12 #[.pointer (some ⟨D, 0, none⟩), .int .i64 i, x] w fun e w' => e = .returned (.int .i64 0) ∧ Dq w' (Fr S w w') B D T d' ∧ Kept S w w' := by
  obtain ⟨⟨vn, vd, h3⟩, h2⟩ := h
  exact (write_any i x p w h3 hx (by omega) ho).mono (DqP.of h2 hB h1)
theorem Dq.append {w : World} {S : Nat → Prop} {B D T : Nat} {d d' : Dr} (h : Dq w S B D T d) (hB : B ≤ w.heap.size) (i : Int) (x : Value) (p : List UInt8) (hx : Rd w x p) (hp : p.length ≤ 1000) (ho : d.ops ≤ 1000000) (h1 : appS d i p = (0, d')) :
    Calls Try.prog 10 #[.pointer (some ⟨D, 0, none⟩), .int .i64 i, x] w fun e w' => e = .returned (.int .i64 0) ∧ Dq w' (Fr S w w') B D T d' ∧ Kept S w w' := by
  obtain ⟨⟨vn, vd, h3⟩, h2⟩ := h
  exact (append_any i x p w h3 hx (by omega) ho).mono (DqP.of h2 hB h1)
theorem Dq.sync {w : World} {S : Nat → Prop} {B D T : Nat} {d d' : Dr} (h : Dq w S B D T d) (hB : B ≤ w.heap.size) (i : Int) (ho : d.ops ≤ 1000000) (h1 : syncS d i = (0, d')) :
    Calls Try.prog 11 #[.pointer (some ⟨D, 0, none⟩), .int .i64 i] w fun e w' => e = .returned (.int .i64 0) ∧ Dq w' (Fr S w w') B D T d' ∧ Kept S w w' := by
  obtain ⟨⟨vn, vd, h3⟩, h2⟩ := h
  exact (sync_any i w h3 ho).mono (DqP.of h2 hB h1)

/-- A block beside the drum's stays beside. -/
theorem Fr.out {S : Nat → Prop} {w w' : World} {g : Nat} (h : ¬ S g) (hg : g < w.heap.size) : ¬ Fr S w w' g := fun hk => by
  rcases hk with hk | hk
  · exact h hk
  · omega

theorem Below.of_kept {S : Nat → Prop} {a b : World} {n : Nat} (h : Kept S a b) (hn : n ≤ a.heap.size) (hS : ∀ k, S k → n ≤ k ∧ k < a.heap.size) : Below n a b := h.below hn fun k hk => (hS k hk).1

set_option maxHeartbeats 4000000 in
set_option maxRecDepth 100000 in
theorem keeps_out (a : Value) (p : List UInt8) (w : World) (ha : Rd w a p) (hp : p.length ≤ 140737488351232) (h : p.length = 0 ∨ 1000 < p.length) :
    Calls Try.prog 5 #[a] w fun e w' => e = .returned (.bool true) ∧ Below w.heap.size w w' := by
  obtain ⟨oa, ca, rfl⟩ : ∃ o c, a = .slice o p.length c := by
    rcases ha with ⟨rfl, rfl⟩ | ⟨_, c, rfl, _⟩ <;> exact ⟨_, _, rfl⟩
  have h0 : (0 : Int) ≤ (p.length : Int) := by omega
  have h1 : (p.length : Int) ≤ 140737488351232 := by omega
  clear ha
  by_cases hz : p.length = 0
  · have hd : ((p.length : Int) == 0) = true := by simp [hz]
    clear hz h
    go_enter Try.func5, Try.ntmps5
    go_wp2_with fail
    refine (awake w).mono ?_
    rintro e w1 ⟨rfl, hb1⟩
    have HB1 := Lib.hid hb1
    clear hb1
    go_wp2_with fail
    refine (awake w1).mono ?_
    rintro e w2 ⟨rfl, hb2⟩
    have HB2 := Lib.hid (HB1.out.trans (hb2.mono HB1.out.size))
    clear hb2
    go_wp2_with fail
    go_ret
    exact ⟨rfl, HB2.out⟩
  · have hd : ((p.length : Int) == 0) = false := beq_eq_false_iff_ne.2 (by omega)
    have hd2 : (1000 : Int) < (p.length : Int) := by omega
    clear hz h
    go_enter Try.func5, Try.ntmps5
    go_wp2_with fail
    refine (awake w).mono ?_
    rintro e w1 ⟨rfl, hb1⟩
    have HB1 := Lib.hid hb1
    clear hb1
    go_wp2_with fail
    refine (awake w1).mono ?_
    rintro e w2 ⟨rfl, hb2⟩
    have HB2 := Lib.hid (HB1.out.trans (hb2.mono HB1.out.size))
    clear hb2
    go_wp2_with fail
    go_ret
    exact ⟨rfl, HB2.out⟩

set_option maxHeartbeats 8000000 in
set_option maxRecDepth 100000 in
theorem keeps_in (a : Value) (p : List UInt8) (w : World) (ha : Rd w a p) (hz : p.length ≠ 0) (hs : p.length ≤ 1000) :
    Calls Try.prog 5 #[a] w fun e w' => e = .returned (.bool true) ∧ Below w.heap.size w w' := by
  obtain ⟨oa, ca, rfl⟩ : ∃ o c, a = .slice o p.length c := by
    rcases ha with ⟨rfl, rfl⟩ | ⟨_, c, rfl, _⟩ <;> exact ⟨_, _, rfl⟩
  have h0 : (0 : Int) < (p.length : Int) := by omega
  have h1 : (p.length : Int) ≤ 1000 := by omega
  have hd : ((p.length : Int) == 0) = false := beq_eq_false_iff_ne.2 (by omega)
  have hpp : (p == p) = true := by simp
  have HA := Lib.hid ha
  have HZ := Lib.hid (show 0 < p.length by omega)
  have HS := Lib.hid hs
  clear ha hz hs
  go_enter Try.func5, Try.ntmps5
  go_wp2_with fail
  refine (awake w).mono ?_
  rintro e w1 ⟨rfl, hb1⟩
  have HB1 := Lib.hid hb1
  clear hb1
  go_wp2_with fail
  refine (new_any 2 5000 w1 (by decide) (by decide) (by decide) (by decide)).mono ?_
  rintro e w2 ⟨D, T, rfl, hd2, hb, hT⟩
  have HB2 := Lib.hid (HB1.out.trans (hb.mono HB1.out.size))
  have HS1 := Lib.hid HB1.out.size
  obtain ⟨o, cap, w3, hr, ho, hg, -, -⟩ := append_two (World.ownsRow_nil w2 w2.heap.size 5 1) (l := []) (HA.out.below HB2.out) (by have := HS.out; simp; omega) (Nat.le_refl _) 22
  simp only [List.length_nil, Nat.zero_add, List.nil_append] at hr ho
  have hb3 : Below w2.heap.size w2 w3 := (Below.refl _ w2).grown hg (Nat.le_refl _) (by intro k hk; cases hk)
  have HD3 : Hid (Dq w3 (Fr (fun _ => False) w1 w2) w1.heap.size D T (new 2 5000)) :=
    Lib.hid ⟨⟨_, _, hd2.same hb3⟩, fun k hk => by
      rcases hk with hk | hk
      · exact hk.elim
      · have := hb3.size; omega⟩
  have HS2 := Lib.hid hb.size
  have HB3 := Lib.hid (HB2.out.trans (hb3.mono HB2.out.size))
  have HS3 := Lib.hid hb3.size
  have hO0 : ∀ k, Fr (fun _ => False) w1 w2 k → k < w2.heap.size := fun k hk => by
    rcases hk with hk | hk
    · exact hk.elim
    · exact hk.2
  generalize Fr (fun _ => False) w1 w2 = S0 at HD3 hO0
  obtain ⟨gq, cq, hq, hgq0, hgq1, hcq, hfq⟩ := own_form ho HZ.out
  injection hq with hq1 _ hq3
  subst hq1 hq3
  have hnq0 : ¬ S0 gq := fun h => by have := hO0 gq h; omega
  have HNQ0 := Lib.hid hnq0
  have HGQ := Lib.hid hgq1
  have HG0 := Lib.hid (Nat.le_trans HB2.out.size hgq0)
  have HOQ := Lib.hid ho
  have CW := Lib.hid (HD3.out.write (by have := HS2.out; have := HS3.out; omega) 0 _ p (Rd.of_own ho) HS.out (by decide) (ks_1 p HS.out))
  have hB3 : w1.heap.size ≤ w3.heap.size := by have := HS2.out; have := HS3.out; omega
  have HW3 := Lib.hid hB3
  clear hd2 hb hT ho hg hb3 hO0 hgq0 hgq1 hcq hfq hnq0 hB3
  go_wp2_with (at_builtin; refine wpList_append_known rfl _ _ _ _ rfl _ _ _ rfl rfl hr ?_)
  refine CW.out.mono ?_
  rintro e w4 ⟨rfl, hd, hk⟩
  have HB4 := Lib.hid (HB3.out.trans ((Below.of_kept hk HW3.out HD3.out.2).mono HS1.out))
  have hq4 := own_kept HOQ.out hk (fun k hk => by
    have : gq = k := by simpa [Value.ownBlock] using hk
    rw [← this]; exact HNQ0.out)
  have HNQ1 := Lib.hid (Fr.out (w' := w4) HNQ0.out HGQ.out)
  have HW4 := Lib.hid (Nat.le_trans HW3.out hk.size)
  have HG4 := Lib.hid (Nat.lt_of_lt_of_le HGQ.out hk.size)
  have HD4 := Lib.hid hd
  have HOQ4 := Lib.hid hq4
  have CA := Lib.hid (hd.append HW4.out 1 _ p (Rd.of_own hq4) HS.out (by show 1 ≤ 1000000; decide) (ks_2 p HS.out))
  clear hd hk hq4 CW
  generalize Fr S0 w3 w4 = S1 at *
  go_wp2_with fail
  refine CA.out.mono ?_
  rintro e w5 ⟨rfl, hd, hk⟩
  have HB5 := Lib.hid (HB4.out.trans ((Below.of_kept hk HW4.out HD4.out.2).mono HS1.out))
  have hq5 := own_kept HOQ4.out hk (fun k hk => by
    have : gq = k := by simpa [Value.ownBlock] using hk
    rw [← this]; exact HNQ1.out)
  have HNQ2 := Lib.hid (Fr.out (w' := w5) HNQ1.out HG4.out)
  have HW5 := Lib.hid (Nat.le_trans HW4.out hk.size)
  have HG5 := Lib.hid (Nat.lt_of_lt_of_le HG4.out hk.size)
  generalize Fr S1 w4 w5 = S2 at *
  obtain ⟨g', c', hq', _, _, hcq, hfq⟩ := own_form hq5 HZ.out
  injection hq' with hq1 _ hq3
  injection hq1 with hq1
  injection hq1 with hq1 _ _
  subst hq1 hq3
  obtain ⟨x0, hx0⟩ : ∃ x0, p[0]? = some x0 := ⟨p[0]'HZ.out, List.getElem?_eq_getElem _⟩
  have hc0 := hcq 0 x0 hx0
  have hf0 := hfq 0
  unfold B at hc0
  have CR : Hid (∀ X, Calls Try.prog 14 #[.pointer (some ⟨D, 0, none⟩), .int .i64 0] (w5.setCell ⟨gq, 0, none⟩ X) fun e w' => ∃ v, e = .returned (.tuple #[v, .int .i64 0]) ∧ Own w' w5.heap.size v p ∧ Dq w' S2 w1.heap.size D T (ks2 p) ∧ Below w.heap.size w w' ∧ w5.heap.size ≤ w'.heap.size) :=
    Lib.hid fun X => by
      have h2 : Dq (w5.setCell ⟨gq, 0, none⟩ X) S2 w1.heap.size D T (ks2 p) := hd.block (by simp) fun g hg => heap_setCell_other _ _ _ _ (fun e => HNQ2.out (by have e : g = gq := e; subst e; exact hg))
      refine (h2.read 0 rfl).mono fun e w' ⟨v, he, ho, hb⟩ => ?_
      have hs : (w5.setCell ⟨gq, 0, none⟩ X).heap.size = w5.heap.size := by simp
      have hsz := hb.size
      rw [hs] at ho hsz
      exact ⟨v, he, ho, h2.block (by rw [hs]; exact hsz) fun g hg => hb.block g (by have := (h2.2 g hg).2; omega), (HB5.out.setCell (p := ⟨gq, 0, none⟩) HG0.out X).trans (hb.mono (by rw [hs]; exact HB5.out.size)), hsz⟩
  have HL5 := Lib.hid (fun k hk => (hd.2 k hk).2)
  clear hd hk hq5 hcq hfq hx0 CA
  go_wp2_with fail
  refine (CR.out _).mono ?_
  rintro e w6 ⟨va, rfl, hoa, hd6, hb6, hs6⟩
  have HB6 := Lib.hid hb6
  have HOA := Lib.hid hoa
  have HD6 := Lib.hid hd6
  have CR2 := Lib.hid (hd6.read 1 rfl)
  clear hc0 hf0 hoa hd6 hb6 CR
  go_wp2_with fail
  refine CR2.out.mono ?_
  rintro e w7 ⟨vb, rfl, hob, hb⟩
  have HB7 := Lib.hid (HB6.out.trans (hb.mono HB6.out.size))
  have hob' : Own w7 w6.heap.size vb p := hob
  have hoa' : Own w7 w5.heap.size va p := own_block HOA.out fun g hg => hb.block g (HOA.out.lt g hg).2
  have hd7 : Dq w7 S2 w1.heap.size D T (ks2 p) := HD6.out.block hb.size fun g hg => hb.block g (HD6.out.2 g hg).2
  have hta : (convert 22 9 va).run Try.prog w7 = .ok (.string ⟨p.toArray⟩) w7 := toStr' hoa'
  have htb : (convert 22 9 vb).run Try.prog w7 = .ok (.string ⟨p.toArray⟩) w7 := toStr' hob'
  have htp : (convert 22 9 (.slice oa p.length ca)).run Try.prog w7 = .ok (.string ⟨p.toArray⟩) w7 := toStr (HA.out.below HB7.out)
  obtain ⟨ga, k1, rfl, hga0, hga1, hac, haf⟩ := own_form hoa' HZ.out
  obtain ⟨gb, k2, rfl, hgb0, hgb1, hbc, hbf⟩ := own_form hob' HZ.out
  obtain ⟨x1, hx1⟩ : ∃ x0, p[0]? = some x0 := ⟨p[0]'HZ.out, List.getElem?_eq_getElem _⟩
  have ca0 := hac 0 x1 hx1
  have cb0 := hbc 0 x1 hx1
  unfold B at ca0 cb0
  have fa0 := haf 0
  have fb0 := hbf 0
  have hga6 : ga < w6.heap.size := by
    have := (HOA.out.lt ga rfl).2
    exact this
  have nab : ga ≠ gb := by omega
  have nSa : ∀ k, S2 k → k ≠ ga ∧ k ≠ gb := fun k hk => by have := HL5.out k hk; omega
  have HW7 := Lib.hid (show w1.heap.size ≤ w7.heap.size by have := HW5.out; have := hb.size; omega)
  have hg0 : w.heap.size ≤ ga ∧ w.heap.size ≤ gb := by have := HB5.out.size; omega
  have CS : Hid (∀ Y z, Calls Try.prog 11 #[.pointer (some ⟨D, 0, none⟩), .int .i64 1] ((w7.setCell ⟨ga, 0, none⟩ Y).setCell ⟨gb, 0, none⟩ (.int .u8 z)) fun e w' => e = .returned (.int .i64 0) ∧ ∃ S3, Dq w' S3 w1.heap.size D T (ks3 p) ∧ ¬ S3 gb ∧ (∃ y, w'.cell? ⟨gb, 0, none⟩ = some (.int .u8 y)) ∧ w'.frozen? ⟨gb, 0, none⟩ = false ∧ Below w.heap.size w w' ∧ gb < w'.heap.size) :=
    Lib.hid fun Y z => by
      have h8 : Dq ((w7.setCell ⟨ga, 0, none⟩ Y).setCell ⟨gb, 0, none⟩ (.int .u8 z)) S2 w1.heap.size D T (ks2 p) := hd7.block (by simp) fun g hg => (heap_setCell_other _ _ _ _ (nSa g hg).2).trans (heap_setCell_other _ _ _ _ (nSa g hg).1)
      have hs8 : ((w7.setCell ⟨ga, 0, none⟩ Y).setCell ⟨gb, 0, none⟩ (.int .u8 z)).heap.size = w7.heap.size := by simp
      have hc8 : ((w7.setCell ⟨ga, 0, none⟩ Y).setCell ⟨gb, 0, none⟩ (.int .u8 z)).cell? ⟨gb, 0, none⟩ = some (.int .u8 z) := set_same (set_other (by simp) cb0)
      have hf8 : ((w7.setCell ⟨ga, 0, none⟩ Y).setCell ⟨gb, 0, none⟩ (.int .u8 z)).frozen? ⟨gb, 0, none⟩ = false := by simpa using fb0
      have hb8 : Below w.heap.size w ((w7.setCell ⟨ga, 0, none⟩ Y).setCell ⟨gb, 0, none⟩ (.int .u8 z)) := (HB7.out.setCell (p := ⟨ga, 0, none⟩) hg0.1 Y).setCell (p := ⟨gb, 0, none⟩) hg0.2 _
      generalize (w7.setCell ⟨ga, 0, none⟩ Y).setCell ⟨gb, 0, none⟩ (.int .u8 z) = w8 at *
      refine (h8.sync (by rw [hs8]; exact HW7.out) 1 (by show 2 ≤ 1000000; decide) (ks_3 p)).mono fun e w' ⟨he, hd', hk⟩ => ?_
      have ngb : ¬ S2 gb := fun h => (nSa gb h).2 rfl
      have hkb := hk.block gb (by rw [hs8]; exact hgb1) ngb
      exact ⟨he, _, hd', Fr.out ngb (by rw [hs8]; exact hgb1), ⟨z, (World.cell?_of_block (w := w8) hkb).trans hc8⟩, (World.frozen?_of_block (w := w8) hkb).trans hf8, hb8.trans ((Below.of_kept hk (by rw [hs8]; exact HW7.out) h8.2).mono HS1.out), by have := hk.size; omega⟩
  have HG0B := Lib.hid hg0.2
  clear hob hb hob' hoa' hd7 hac haf hbc hbf hx1 hg0 nSa hga0 hga1 hgb0 hgb1 hga6 hs6
  go_wp2_with fail
  refine (CS.out _ _).mono ?_
  rintro e w10 ⟨rfl, S3, hd10, nS3, ⟨y, hcy⟩, hfy, hb10, hgb10⟩
  have CR3 : Hid (∀ X, Calls Try.prog 14 #[.pointer (some ⟨D, 0, none⟩), .int .i64 0] (w10.setCell ⟨gb, 0, none⟩ X) fun e w' => ∃ v, e = .returned (.tuple #[v, .int .i64 0]) ∧ Own w' w10.heap.size v p ∧ Dq w' S3 w1.heap.size D T (ks3 p) ∧ Below w.heap.size w w') :=
    Lib.hid fun X => by
      have h2 : Dq (w10.setCell ⟨gb, 0, none⟩ X) S3 w1.heap.size D T (ks3 p) := hd10.block (by simp) fun g hg => heap_setCell_other _ _ _ _ (fun e => nS3 (by have e : g = gb := e; subst e; exact hg))
      refine (h2.read 0 rfl).mono fun e w' ⟨v, he, ho, hb⟩ => ?_
      have hs : (w10.setCell ⟨gb, 0, none⟩ X).heap.size = w10.heap.size := by simp
      have hsz := hb.size
      rw [hs] at ho hsz
      exact ⟨v, he, ho, h2.block (by rw [hs]; exact hsz) fun g hg => hb.block g (by have := (h2.2 g hg).2; omega), (hb10.setCell (p := ⟨gb, 0, none⟩) HG0B.out X).trans (hb.mono (by rw [hs]; exact hb10.size))⟩
  clear hd10 nS3 hb10 hgb10 ca0 cb0 fa0 fb0 hta htb htp CS CR2
  go_wp2_with fail
  refine (CR3.out _).mono ?_
  rintro e w11 ⟨va, rfl, hoa, hd11, hb11⟩
  have HB11 := Lib.hid hb11
  have HOA2 := Lib.hid hoa
  have CR4 := Lib.hid (hd11.read 1 rfl)
  clear hoa hd11 hb11 hcy hfy CR3
  go_wp2_with fail
  refine CR4.out.mono ?_
  rintro e w12 ⟨vb, rfl, hob, hb⟩
  have HB12 := Lib.hid (HB11.out.trans (hb.mono HB11.out.size))
  have hob' : Own w12 w11.heap.size vb p := hob
  have hoa' : Own w12 w10.heap.size va p := own_block HOA2.out fun g hg => hb.block g (HOA2.out.lt g hg).2
  have hta : (convert 22 9 va).run Try.prog w12 = .ok (.string ⟨p.toArray⟩) w12 := toStr' hoa'
  have htb : (convert 22 9 vb).run Try.prog w12 = .ok (.string ⟨p.toArray⟩) w12 := toStr' hob'
  have htp : (convert 22 9 (.slice oa p.length ca)).run Try.prog w12 = .ok (.string ⟨p.toArray⟩) w12 := toStr (HA.out.below HB12.out)
  clear hob hob' hoa' hb CR4
  go_wp2_with fail
  go_ret
  exact ⟨rfl, HB12.out⟩

/-- The law, whatever comes in. -/
theorem keeps_walk (a : Value) (p : List UInt8) (w : World) (ha : Rd w a p) (hp : p.length ≤ 140737488351232) :
    Calls Try.prog 5 #[a] w fun e w' => e = .returned (.bool true) ∧ Below w.heap.size w w' := by
  by_cases h : p.length = 0 ∨ 1000 < p.length
  · exact keeps_out a p w ha hp h
  · exact keeps_in a p w ha (by omega) (by omega)
end Go.Proofs.Ytoekgglgcolliaa
