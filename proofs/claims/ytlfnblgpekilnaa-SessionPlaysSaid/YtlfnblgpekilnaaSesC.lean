/- Sessions: Len, find, Ask. -/
import Derived.Test.YtlfnblgpekilnaaSesB
namespace Go.Proofs.Ytlfnblgpekilnaa
open Go.RowKit OctM

/-- A table in memory, as a plain list. -/
def TA (w : World) (b base : Nat) (v : Value) (l : List Se) : Prop := ∃ ps, ps.map Prod.fst = l ∧ TAx w b base v ps

theorem TAx.below {w w' : World} {b base : Nat} {v : Value} {ps : List (Se × Value)} (h : TAx w b base v ps) (hb : Below w.heap.size w w') : TAx w' b base v ps :=
  ⟨(hb.block b (lt_of_block h.cell)).trans h.cell, h.own.below hb (Nat.le_refl _)⟩
theorem TA.below {w w' : World} {b base : Nat} {v : Value} {l : List Se} (h : TA w b base v l) (hb : Below w.heap.size w w') : TA w' b base v l := by
  obtain ⟨ps, h1, h2⟩ := h
  exact ⟨ps, h1, h2.below hb⟩

/-- The same, the replies' blocks in S. -/
def TQ (S : Nat → Prop) (w : World) (b base : Nat) (v : Value) (l : List Se) : Prop := ∃ ps, ps.map Prod.fst = l ∧ TAx w b base v ps ∧ ∀ p ∈ ps, ∀ g, p.2.ownBlock = some g → S g
theorem TQ.ta {S : Nat → Prop} {w : World} {b base : Nat} {v : Value} {l : List Se} (h : TQ S w b base v l) : TA w b base v l := by
  obtain ⟨ps, h1, h2, _⟩ := h
  exact ⟨ps, h1, h2⟩
theorem TA.tq {w : World} {b base : Nat} {v : Value} {l : List Se} (h : TA w b base v l) : TQ (fun _ => True) w b base v l := by
  obtain ⟨ps, h1, h2⟩ := h
  exact ⟨ps, h1, h2, fun _ _ _ _ => trivial⟩
theorem TQ.below {S : Nat → Prop} {w w' : World} {b base : Nat} {v : Value} {l : List Se} (h : TQ S w b base v l) (hb : Below w.heap.size w w') : TQ S w' b base v l := by
  obtain ⟨ps, h1, h2, h3⟩ := h
  exact ⟨ps, h1, h2.below hb, h3⟩

set_option maxHeartbeats 2000000 in
set_option maxRecDepth 100000 in
theorem tlen_any (w : World) {b base : Nat} {v : Value} {l : List Se} (h : TA w b base v l) : Calls Try.prog 17 #[.pointer (some ⟨b, 0, none⟩)] w fun e w' => e = .returned (.int .i64 (l.length : Int)) ∧ w = w' := by
  obtain ⟨ps, rfl, h⟩ := h
  obtain ⟨o, c, rfl⟩ := own_slice h.own.row
  have c0 := cell_of_one h.cell
  rw [List.length_map]
  clear h
  go_enter Try.func17, Try.ntmps17
  go_wp2_with fail
  go_ret
  exact ⟨rfl, rfl⟩

set_option maxHeartbeats 2000000 in
set_option maxRecDepth 100000 in
theorem tlen_nil (w : World) : Calls Try.prog 17 #[.pointer none] w fun e w' => e = .returned (.int .i64 0) ∧ w = w' := by
  go_enter Try.func17, Try.ntmps17
  go_wp2_with fail
  go_ret
  exact ⟨rfl, rfl⟩

set_option maxHeartbeats 2000000 in
set_option maxRecDepth 100000 in
theorem find_any (id : Nat) (w : World) {b base : Nat} {v : Value} {l : List Se} (h : TA w b base v l) (hl : l.length ≤ 1000) (hr : Ris l) :
    Calls Try.prog 20 #[.pointer (some ⟨b, 0, none⟩), .int .u64 (id : Int)] w fun e w' => e = .returned (.tuple #[.int .i64 (pl l id : Int), .bool (seAt l id).isSome]) ∧ Below w.heap.size w w' := by
  obtain ⟨ps, rfl, h⟩ := h
  have H1 := Lib.hid (bin_any base v ps id w h.own (by rw [List.length_map] at hl; exact hl) hr)
  obtain ⟨o, c, rfl⟩ := own_slice h.own.row
  have c0 := cell_of_one h.cell
  clear h hr hl
  generalize pl (ps.map Prod.fst) id = P at *
  generalize (seAt (ps.map Prod.fst) id).isSome = T at *
  go_enter Try.func20, Try.ntmps20
  go_wp2_with fail
  refine H1.out.mono ?_
  rintro e w1 ⟨rfl, hb⟩
  have HB := Lib.hid hb
  clear hb H1 c0
  go_wp2_with fail
  go_ret2
  exact ⟨rfl, HB.out⟩

def askS (l : List Se) (id nm : Nat) : Int × List UInt8 :=
  if id = 0 ∨ nm = 0 then (1, []) else
  match seAt l id with
  | none => if 64 ≤ l.length then (2, []) else (6, [])
  | some s => if s.nm < nm then (6, []) else if nm < s.nm then (16, []) else (0, s.rp)

set_option maxHeartbeats 2000000 in
set_option maxRecDepth 100000 in
theorem ask_nil (id nm : Int) (w : World) : Calls Try.prog 13 #[.pointer none, .int .u64 id, .int .u64 nm] w fun e w' => e = .returned (.tuple #[.slice none 0 0, .int .i64 15]) ∧ w = w' := by
  go_enter Try.func13, Try.ntmps13
  go_wp2_with fail
  go_ret2
  exact ⟨rfl, rfl⟩

/-- What Ask leaves. -/
def AskP (w : World) (r : Int × List UInt8) (e : Ending) (w' : World) : Prop := ∃ v, e = .returned (.tuple #[v, .int .i64 r.1]) ∧ Own w' w.heap.size v r.2 ∧ Below w.heap.size w w'

theorem seAt_some {l : List Se} {id : Nat} {s : Se} (h : seAt l id = some s) : l[pl l id]? = some s ∧ s.id = id := by
  unfold seAt at h
  split at h
  · split at h
    · injection h with h
      subst h
      exact ⟨by assumption, by assumption⟩
    · cases h
  · cases h

set_option maxHeartbeats 4000000 in
set_option maxRecDepth 100000 in
theorem ask_any (id nm : Nat) (w : World) {b base : Nat} {v : Value} {l : List Se} (h : TA w b base v l) (hl : l.length ≤ 1000) (hr : Ris l) (hb : ∀ s ∈ l, s.rp.length ≤ 1000000) :
    Calls Try.prog 13 #[.pointer (some ⟨b, 0, none⟩), .int .u64 (id : Int), .int .u64 (nm : Int)] w (AskP w (askS l id nm)) := by
  have H := Lib.hid h
  have hnone : ∀ W : World, Own W w.heap.size (.slice none 0 0) [] := fun W => World.ownsRow_nil _ _ _ _
  have HN := Lib.hid hnone
  clear hnone
  by_cases hz : id = 0 ∨ nm = 0
  · have HE : Hid (askS l id nm = (1, [])) := Lib.hid (if_pos hz)
    clear h hr hb
    by_cases h1 : id = 0
    · have i1 : (id : Int) = 0 := by omega
      go_enter Try.func13, Try.ntmps13
      go_wp2_with fail
      go_ret2
      rw [HE.out]
      exact ⟨_, rfl, HN.out _, Below.refl _ _⟩
    · have i1 : ¬ (id : Int) = 0 := by omega
      have i2 : (nm : Int) = 0 := by omega
      go_enter Try.func13, Try.ntmps13
      go_wp2_with fail
      go_ret2
      rw [HE.out]
      exact ⟨_, rfl, HN.out _, Below.refl _ _⟩
  · have i1 : ((id : Int) == 0) = false := by simp; omega
    have i2 : ((nm : Int) == 0) = false := by simp; omega
    have H1 := Lib.hid (find_any id w h hl hr)
    have HB := Lib.hid hb
    have hlen : l.length ≤ 1000 := hl
    clear h hr hb hl
    rcases hs : seAt l id with _ | s
    · have HE : Hid (askS l id nm = if 64 ≤ l.length then (2, []) else (6, [])) := Lib.hid (by unfold askS; rw [if_neg hz, hs])
      rw [hs] at H1
      clear hs hz
      have H1 : Hid (Calls Try.prog 20 #[.pointer (some ⟨b, 0, none⟩), .int .u64 (id : Int)] w fun e w' => e = .returned (.tuple #[.int .i64 (pl l id : Int), .bool false]) ∧ Below w.heap.size w w') := H1
      go_enter Try.func13, Try.ntmps13
      go_wp2_with fail
      refine H1.out.mono ?_
      rintro e w1 ⟨rfl, hb⟩
      have hta := H.out.below hb
      have HB1 := Lib.hid hb
      obtain ⟨ps, hps, h⟩ := hta
      have hpl : ps.length = l.length := by rw [← hps]; simp
      obtain ⟨o, c, rfl⟩ := own_slice h.own.row
      have c0 := cell_of_one h.cell
      clear hb h hps H1
      by_cases h64 : 64 ≤ l.length
      · have j1 : (64 : Int) ≤ (ps.length : Int) := by omega
        rw [if_pos h64] at HE
        clear h64
        go_wp2_with fail
        go_ret2
        rw [HE.out]
        exact ⟨_, rfl, HN.out _, HB1.out⟩
      · have j1 : ¬ (64 : Int) ≤ (ps.length : Int) := by omega
        rw [if_neg h64] at HE
        clear h64
        go_wp2_with fail
        go_ret2
        rw [HE.out]
        exact ⟨_, rfl, HN.out _, HB1.out⟩
    · have HE : Hid (askS l id nm = if s.nm < nm then (6, []) else if nm < s.nm then (16, []) else (0, s.rp)) := Lib.hid (by unfold askS; rw [if_neg hz, hs])
      rw [hs] at H1
      have H1 : Hid (Calls Try.prog 20 #[.pointer (some ⟨b, 0, none⟩), .int .u64 (id : Int)] w fun e w' => e = .returned (.tuple #[.int .i64 (pl l id : Int), .bool true]) ∧ Below w.heap.size w w') := H1
      obtain ⟨hat, -⟩ := seAt_some hs
      have hsl := HB.out s (List.mem_of_getElem? hat)
      generalize pl l id = P at *
      clear hs hz
      go_enter Try.func13, Try.ntmps13
      go_wp2_with fail
      refine H1.out.mono ?_
      rintro e w1 ⟨rfl, hb⟩
      have hta := H.out.below hb
      have HB1 := Lib.hid hb
      obtain ⟨ps, hps, h⟩ := hta
      have hpl : ps.length = l.length := by rw [← hps]; simp
      have hP := (List.getElem?_eq_some_iff.1 hat).1
      have hpx : ps[P]? = some ps[P] := List.getElem?_eq_getElem (by omega)
      have hpe : (ps[P]).1 = s := by
        rw [← hps, List.getElem?_map, hpx] at hat
        injection hat
      have hown := h.own.cells _ (List.getElem_mem (by omega : P < ps.length))
      generalize ps[P] = q at *
      obtain ⟨s', vx⟩ := q
      dsimp only at hpe hown
      subst hpe
      obtain ⟨ox, cx, rfl⟩ := own_slice hown
      obtain ⟨g, c, rfl, hgb, hgl, -, hcs⟩ := own_at h.own.row (by omega)
      obtain ⟨x0, x1, x2⟩ := (show SRow w1 w1 g ps from ⟨Below.refl _ _, hgl, hcs⟩).at hpx
      dsimp only at x0 x1 x2
      have c0 := cell_of_one h.cell
      have j0 : P < ps.length := by omega
      have HC := Lib.hid (clone (.slice ox s'.rp.length cx) s'.rp w1 (Rd.of_own hown) (by omega))
      clear hb h hps H1 hown hcs hat hpx
      by_cases h64 : s'.nm < nm
      · have j1 : (s'.nm : Int) < (nm : Int) := by omega
        rw [if_pos h64] at HE
        clear h64
        go_wp2_with fail
        go_ret2
        rw [HE.out]
        exact ⟨_, rfl, HN.out _, HB1.out⟩
      · have j1 : ¬ (s'.nm : Int) < (nm : Int) := by omega
        rw [if_neg h64] at HE
        by_cases h65 : nm < s'.nm
        · have j2 : (nm : Int) < (s'.nm : Int) := by omega
          rw [if_pos h65] at HE
          clear h64 h65
          go_wp2_with fail
          go_ret2
          rw [HE.out]
          exact ⟨_, rfl, HN.out _, HB1.out⟩
        · have j2 : ¬ (nm : Int) < (s'.nm : Int) := by omega
          rw [if_neg h65] at HE
          clear h64 h65
          go_wp2_with fail
          refine HC.out.mono ?_
          rintro e w2 ⟨v2, rfl, ho2, hb2⟩
          have HO := Lib.hid (own_base ho2 HB1.out.size)
          have HB2 := Lib.hid (HB1.out.trans (hb2.mono HB1.out.size))
          clear ho2 hb2 HC
          go_wp2_with fail
          go_ret2
          rw [HE.out]
          exact ⟨_, rfl, HO.out, HB2.out⟩
end Go.Proofs.Ytlfnblgpekilnaa
