/- Sessions: the reference's Ask. -/
import Derived.Test.YtlfnblgpekilnaaSesK
namespace Go.Proofs.Ytlfnblgpekilnaa
open Go.RowKit OctM

/-- The reference's table, its replies in rows of their own. -/
structure RO (w : World) (b base : Nat) (v : Value) (ps : List (Se × Value)) : Prop where
  cell : w.heap[b]? = some (.cells #[v] 29 (0, 0))
  own : OwnS w base 63 v ps
theorem RO.rt {w : World} {b base : Nat} {v : Value} {ps : List (Se × Value)} (h : RO w b base v ps) : RT w b base v ps := ⟨h.cell, h.own.row, fun q hq => Rd.of_own (h.own.cells q hq)⟩
theorem RO.below {w w' : World} {b base : Nat} {v : Value} {ps : List (Se × Value)} (h : RO w b base v ps) (hb : Below w.heap.size w w') : RO w' b base v ps :=
  ⟨(hb.block b (lt_of_block h.cell)).trans h.cell, h.own.below hb (Nat.le_refl _)⟩

theorem ris_ne {l : List Se} (h : Ris l) {i j : Nat} {x y : Se} (hx : l[i]? = some x) (hy : l[j]? = some y) (e : x.id = y.id) : i = j := by
  rcases Nat.lt_trichotomy i j with h1 | h1 | h1
  · have := h i j x y h1 hx hy; omega
  · exact h1
  · have := h j i y x h1 hy hx; omega
/-- Where a session is, it is found. -/
theorem seAt_here {l : List Se} {i : Nat} {s : Se} (h : Ris l) (hs : l[i]? = some s) : seAt l s.id = some s := by
  have hp : pl l s.id = i := pl_of l s.id i (by have := (List.getElem?_eq_some_iff.1 hs).1; omega) (fun t y ht hy => h t i y s ht hy hs) (fun y hy => by rw [hs] at hy; injection hy with hy; rw [hy]; omega)
  unfold seAt
  rw [hp, hs]
  dsimp only
  rw [if_pos rfl]
theorem seAt_gone {l : List Se} {id : Nat} (h : ∀ (j : Nat) s, l[j]? = some s → s.id ≠ id) : seAt l id = none := by
  rcases hs : seAt l id with _ | s
  · rfl
  · obtain ⟨h1, h2⟩ := seAt_some hs
    exact absurd h2 (h _ s h1)

/-- What the reference's Ask leaves. -/
def RAskP (w : World) (r : Int × List UInt8) (e : Ending) (w' : World) : Prop := ∃ o c, e = .returned (.tuple #[.slice o r.2.length c, .int .i64 r.1]) ∧ Rd w (.slice o r.2.length c) r.2 ∧ w = w'

set_option maxHeartbeats 4000000 in
set_option maxRecDepth 100000 in
theorem rask_any (id nm : Nat) (w : World) {b base : Nat} {v : Value} {ps : List (Se × Value)} (h : RT w b base v ps) (hl : ps.length ≤ 1000) (hr : Ris (ps.map Prod.fst)) :
    Calls Try.prog 14 #[.pointer (some ⟨b, 0, none⟩), .int .u64 (id : Int), .int .u64 (nm : Int)] w (RAskP w (askS (ps.map Prod.fst) id nm)) := by
  have H := Lib.hid h
  have HR := Lib.hid hr
  have HL := Lib.hid hl
  have hlm : (ps.map Prod.fst).length = ps.length := by simp
  generalize hLL : ps.map Prod.fst = l at *
  have HLL := Lib.hid hLL
  have HLM := Lib.hid hlm
  clear hLL hlm hr
  obtain ⟨ov, cv, rfl⟩ := own_slice h.row
  have c0 := cell_of_one h.cell
  clear h
  have hnil : ∀ code : Int, RAskP w (code, []) (.returned (.tuple #[.slice none 0 0, .int .i64 code])) w := fun code => ⟨none, 0, rfl, .inl ⟨rfl, rfl⟩, rfl⟩
  have HNIL := Lib.hid hnil
  clear hnil
  by_cases hz : id = 0 ∨ nm = 0
  · have HE : Hid (askS l id nm = (1, [])) := Lib.hid (if_pos hz)
    by_cases h1 : id = 0
    · have i1 : (id : Int) = 0 := by omega
      go_enter Try.func14, Try.ntmps14
      go_wp2_with fail
      go_ret2
      rw [HE.out]
      exact HNIL.out 1
    · have i1 : ¬ (id : Int) = 0 := by omega
      have i2 : (nm : Int) = 0 := by omega
      go_enter Try.func14, Try.ntmps14
      go_wp2_with fail
      go_ret2
      rw [HE.out]
      exact HNIL.out 1
  · have i1 : ((id : Int) == 0) = false := beq_eq_false_iff_ne.2 (by omega)
    have i2 : ((nm : Int) == 0) = false := beq_eq_false_iff_ne.2 (by omega)
    have HE : Hid (askS l id nm = match seAt l id with
      | none => if 64 ≤ l.length then (2, []) else (6, [])
      | some s => if s.nm < nm then (6, []) else if nm < s.nm then (16, []) else (0, s.rp)) := Lib.hid (by unfold askS; rw [if_neg hz]; cases seAt l id <;> rfl)
    clear hz
    go_enter Try.func14, Try.ntmps14
    go_wp2_with fail
    go_loopw [8] (fun t8 wr => ∃ (i : Nat), i ≤ ps.length ∧ t8 = .int .i64 (i : Int) ∧ wr = w ∧ Hid (∀ (j : Nat) s, j < i → l[j]? = some s → s.id ≠ id)) (fun t8 _ => ps.length + 1 - (intOf t8).toNat)
    case atStart => exact ⟨0, by omega, rfl, rfl, Lib.hid (fun j s hj => by omega)⟩
    case round =>
      obtain ⟨i, hi, rfl, rfl, HN⟩ := hrel
      have hl6 := HL.out
      by_cases hlt : i < ps.length
      · have j1 : (i : Int) < (ps.length : Int) := by omega
        have wi : IntKind.i64.wrap ((i : Int) + 1) = (i : Int) + 1 := IntWalk.i64_in _ (by omega)
        have hpx : ps[i]? = some ps[i] := List.getElem?_eq_getElem hlt
        have hgx : l[i]? = some (ps[i]).1 := by rw [← HLL.out, List.getElem?_map, hpx]; rfl
        have hrd := H.out.rd _ (List.getElem_mem hlt)
        obtain ⟨g, cg, hv, -, hgl, a0, a1, a2, ox, cx, hox⟩ := H.out.at hpx
        injection hv with hv _ hc'
        subst hv hc'
        generalize ps[i] = q at *
        obtain ⟨⟨xi, xn, xr⟩, vy⟩ := q
        dsimp only at hox a0 a1 a2 hrd
        subst hox
        have HG := Lib.hid hgx
        have HRD := Lib.hid hrd
        clear hpx hgx hrd
        by_cases hid : xi = id
        · have j2 : ((xi : Int) != (id : Int)) = false := by simp [hid]
          have j3 : ((xi : Int) == (id : Int)) = true := by simp [hid]
          have HS : Hid (seAt l id = some ⟨xi, xn, xr⟩) := Lib.hid (by have := seAt_here HR.out HG.out; rw [← hid]; exact this)
          have hE := HE.out
          rw [HS.out] at hE
          dsimp only at hE
          clear hid
          by_cases h3 : xn < nm
          · have j4 : (xn : Int) < (nm : Int) := by omega
            rw [if_pos h3] at hE
            have HE2 := Lib.hid hE
            clear h3 hE HE
            go_wp2_with fail
            go_ret2
            rw [HE2.out]
            exact HNIL.out 6
          · have j4 : ¬ (xn : Int) < (nm : Int) := by omega
            rw [if_neg h3] at hE
            by_cases h4 : nm < xn
            · have j5 : (nm : Int) < (xn : Int) := by omega
              rw [if_pos h4] at hE
              have HE2 := Lib.hid hE
              clear h3 h4 hE HE
              go_wp2_with fail
              go_ret2
              rw [HE2.out]
              exact HNIL.out 16
            · have j5 : ¬ (nm : Int) < (xn : Int) := by omega
              rw [if_neg h4] at hE
              have HE2 := Lib.hid hE
              clear h3 h4 hE HE
              go_wp2_with fail
              go_ret2
              rw [HE2.out]
              exact ⟨ox, cx, rfl, HRD.out, rfl⟩
        · have j2 : ((xi : Int) != (id : Int)) = true := by simp; omega
          have j3 : ((xi : Int) == (id : Int)) = false := beq_eq_false_iff_ne.2 (by omega)
          have HN2 : Hid (∀ (j : Nat) s, j < i + 1 → l[j]? = some s → s.id ≠ id) := Lib.hid (fun j s hj hs => by
            rcases Nat.lt_or_ge j i with h | h
            · exact HN.out j s h hs
            · obtain rfl : j = i := by omega
              rw [HG.out] at hs
              injection hs with hs
              rw [← hs]
              exact hid)
          clear hid
          go_wp2_with fail
          go_roundw
          case rel => exact ⟨i + 1, by omega, by go_num, by first | rfl | trivial, HN2⟩
          case measure => simp [intOf]; omega
      · have j1 : ¬ (i : Int) < (ps.length : Int) := by omega
        have HS : Hid (seAt l id = none) := Lib.hid (seAt_gone (fun j s hs => HN.out j s (by have := (List.getElem?_eq_some_iff.1 hs).1; have := HLM.out; omega) hs))
        have hE := HE.out
        rw [HS.out] at hE
        dsimp only at hE
        rw [HLM.out] at hE
        by_cases h3 : 64 ≤ ps.length
        · have j4 : (64 : Int) ≤ (ps.length : Int) := by omega
          rw [if_pos h3] at hE
          have HE2 := Lib.hid hE
          clear h3 hE HE
          go_wp2_with fail
          go_ret2
          rw [HE2.out]
          exact HNIL.out 2
        · have j4 : ¬ (64 : Int) ≤ (ps.length : Int) := by omega
          rw [if_neg h3] at hE
          have HE2 := Lib.hid hE
          clear h3 hE HE
          go_wp2_with fail
          go_ret2
          rw [HE2.out]
          exact HNIL.out 6
end Go.Proofs.Ytlfnblgpekilnaa
