/- The reference's cell of a text in quotes. -/
import Derived.Test.YtiimofdbconlhaaDoorPriRe
namespace Go.Proofs.YtiimofdbconlhaaDoor
open Go.RowKit PriM

/-- Two tokens in a row of the call's own. -/
theorem two_toks {w : World} {base : Nat} {v : Value} {T : ByteArray} {n : Nat} (h : w.ownsRow base 71 3 v 2 (T2 T n)) : ∃ g cap, v = .slice (some ⟨g, 0, none⟩) 2 cap ∧ base ≤ g ∧ g < w.heap.size ∧ 2 ≤ cap ∧ cap ≤ maxLen ∧
    w.cell? ⟨g, 0, none⟩ = some (.int .u8 5) ∧ w.cell? ⟨g, 1, none⟩ = some (.string T) ∧ w.cell? ⟨g, 2, none⟩ = some (.int .i64 0) ∧ w.cell? ⟨g, 3, none⟩ = some (.int .u8 0) ∧ w.cell? ⟨g, 4, none⟩ = some (.string ⟨#[]⟩) ∧ w.cell? ⟨g, 5, none⟩ = some (.int .i64 (n : Int)) := by
  have hc := h
  rcases h.2 with ⟨_, hn⟩ | ⟨g, cap, cur, rfl, hb, hg, hn, hm, _⟩
  · cases hn
  · have key : ∀ j u, (T2 T n)[j]? = some u → w.cell? ⟨g, j, none⟩ = some u := fun j u hu => by
      have := World.ownsRow.cells hc (g := g) rfl j u hu
      rwa [add_none, Nat.zero_add] at this
    exact ⟨g, cap, rfl, hb, lt_of_blk hg, hn, hm, key 0 _ rfl, key 1 _ rfl, key 2 _ rfl, key 3 _ rfl, key 4 _ rfl, key 5 _ rfl⟩

theorem declInfo : (Tryd.prog.info? 39).map (fun i => (i.zero, i.size, i.bytes)) = some (some (.agg #[.int .u8 0, .string ⟨#[]⟩, .bool false, .int .u8 0, .string ⟨#[]⟩, .int .i64 0, .bool false, .slice none 0 0, .slice none 0 0, .int .i64 0, .slice none 0 0]), 11, 152) := by kernel_rfl
theorem cells_list_new (w : World) (l : List Value) (t : TypeId) : ∀ j u, l[j]? = some u → (w.alloc (.cells l.toArray t)).cell? ((⟨w.heap.size, 0, none⟩ : Addr).add j) = some u := by
  intro j u hj
  exact World.news_of_block (w := w.alloc (.cells l.toArray t)) (heap_alloc_new w _) j u (by simpa using hj)

/-- What holds at the head of a round: nothing is read; the declaration is read. -/
def CS (w wr : World) (r b cap : Nat) (T : ByteArray) (A : Nat) (V : Value) : Prop :=
  Below w.heap.size w wr ∧ ((V = .slice none 0 0 ∧ Rdr wr r b cap T A 0 0) ∨ (wr.ownsRow w.heap.size 39 11 V 1 (dCs T) ∧ Rdr wr r b cap T A 1 0))
def cMeas : Value → Nat
  | .slice none _ _ => 1
  | _ => 0
theorem cMeas_own {w : World} {base : Nat} {V : Value} {xs : List Value} (h : w.ownsRow base 39 11 V 1 xs) : cMeas V = 0 := by
  rcases h.2 with ⟨_, hn⟩ | ⟨g, cap, cur, rfl, _⟩
  · cases hn
  · rfl
/-- What Cell leaves. -/
def CPost (w : World) (T : ByteArray) (e : Ending) (w' : World) : Prop := ∃ g cap, e = .returned (.tuple #[.slice (some ⟨g, 0, none⟩) 1 cap, .int .i64 0, .int .i64 0]) ∧ 1 ≤ cap ∧ cap ≤ maxLen ∧ w'.cell? ⟨g, 3, none⟩ = some (.int .u8 2) ∧ w'.cell? ⟨g, 4, none⟩ = some (.string T) ∧ Below w.heap.size w w'
theorem cpost_of {w w' : World} {T : ByteArray} {V : Value} (h : w'.ownsRow w.heap.size 39 11 V 1 (dCs T)) (hb : Below w.heap.size w w') : CPost w T (.returned (.tuple #[V, .int .i64 0, .int .i64 0])) w' := by
  have hc := h
  rcases h.2 with ⟨_, hn⟩ | ⟨g, cap, cur, rfl, _, hg, hn, hm, _⟩
  · cases hn
  · have key : ∀ j u, (dCs T)[j]? = some u → w'.cell? ⟨g, j, none⟩ = some u := fun j u hu => by
      have := World.ownsRow.cells hc (g := g) rfl j u hu
      rwa [add_none, Nat.zero_add] at this
    exact ⟨g, cap, rfl, hn, hm, key 3 _ rfl, key 4 _ rfl, hb⟩

set_option maxRecDepth 100000 in
set_option maxHeartbeats 16000000 in
theorem r4Cell_any (Q : ByteArray) (l : List UInt8) (w : World) (hQ : Q.data.toList = qt l) (hz : Q.size ≤ 2000) :
    Calls Tryd.prog 12 #[.string Q] w (CPost w ⟨l.toArray⟩) := by
  obtain ⟨i0, hi0, hz0, hz1, hz2⟩ := info_parts declInfo
  have HT := Lib.hid (r3Tokens_any Q l w hQ hz)
  clear hQ
  generalize (⟨l.toArray⟩ : ByteArray) = T at *
  generalize Q.size = A at *
  go_enter Tryd.func12, Tryd.ntmps12
  go_wp2_with fail
  go_at_call 22
  refine (HT.out).mono ?_
  rintro e w1 ⟨v, rfl, hown, hb⟩
  obtain ⟨b, cap, rfl, hbb, hbl, hc2, hcm, k0, t0, a0, k1, t1, a1⟩ := two_toks hown
  have hbs := hb.size
  have hnew := heap_alloc_new w1 (.cells #[.slice (some ⟨b, 0, none⟩) 2 cap, .int .i64 0, .int .i64 0, .int .i64 0, .int .i64 0] 59)
  have hn1 : Below w1.heap.size w1 (w1.alloc (.cells #[.slice (some ⟨b, 0, none⟩) 2 cap, .int .i64 0, .int .i64 0, .int .i64 0, .int .i64 0] 59)) := (Below.refl _ _).alloc (Nat.le_refl _) _
  have hR : Rdr (w1.alloc (.cells #[.slice (some ⟨b, 0, none⟩) 2 cap, .int .i64 0, .int .i64 0, .int .i64 0, .int .i64 0] 59)) w1.heap.size b cap T A 0 0 :=
    ⟨hnew, (hn1.cell hbl).trans k0, (hn1.cell hbl).trans t0, (hn1.cell hbl).trans a0, (hn1.cell hbl).trans k1, (hn1.cell hbl).trans t1, (hn1.cell hbl).trans a1, by omega, hc2, hcm⟩
  have HS := Lib.hid (show CS w (w1.alloc (.cells #[.slice (some ⟨b, 0, none⟩) 2 cap, .int .i64 0, .int .i64 0, .int .i64 0, .int .i64 0] 59)) w1.heap.size b cap T A (.slice none 0 0) from ⟨hb.alloc hbs _, .inl ⟨rfl, hR⟩⟩)
  clear HT hown k0 t0 a0 k1 t1 a1 hnew hn1 hR hb
  go_wp2_with fail
  go_loopw [9] (fun o wr => ∃ V, V = o ∧ CS w wr w1.heap.size b cap T A V) (fun o _ => cMeas o)
  case atStart => exact ⟨_, rfl, HS.out⟩
  case round =>
    obtain ⟨V, rfl, hbel, h⟩ := hrel
    have HB0 := Lib.hid hbel
    have hws := hbel.size
    clear hbel
    rcases h with ⟨rfl, hR⟩ | ⟨hown, hR⟩
    · have R0 := Lib.hid hR
      obtain ⟨-, -, -, c4⟩ := hR.cells
      clear hR
      go_wp2_with fail
      go_at_call 23
      refine (r4take_no R0.out (.inl rfl) ⟨#[59, 59]⟩ (ne_nil _ _)).mono ?_
      rintro e w2 ⟨rfl, hb⟩
      have R2 := Lib.hid (R0.out.below hb)
      have B2 := Lib.hid (HB0.out.trans (hb.mono hws))
      clear hb c4
      go_wp2_with fail
      go_at_call 24
      refine (r4kind_first R2.out 0 false (by rfl)).mono ?_
      rintro e w3 ⟨rfl, hb⟩
      have R3 := Lib.hid (R2.out.below hb)
      have B3 := Lib.hid (B2.out.trans (hb.mono B2.out.size))
      clear hb
      go_wp2_with fail
      go_at_call 25
      refine (r4decl_any R3.out).mono ?_
      rintro e w4 ⟨rfl, hk, hR⟩
      have R4 := Lib.hid hR
      have hk4 : Below w.heap.size w w4 := B3.out.trans (hk.below B3.out.size (fun k e => by omega))
      have B4 := Lib.hid hk4
      have hs4 := hk4.size
      have hown := World.ownsRow_nil w4 w.heap.size 39 11
      clear hk hR hk4
      have hAA : Below w4.heap.size w4 ((w4.alloc (.cells (dCs T).toArray 39)).alloc (.cells (dCs T).toArray 39)) := ((Below.refl _ _).alloc (Nat.le_refl _) _).alloc (by simp) _
      have HAA := Lib.hid hAA
      have HN2 := Lib.hid (cells_list_new (w4.alloc (.cells (dCs T).toArray 39)) (dCs T) 39)
      clear hAA
      go_wp2_with (
        at_builtin
        go_loud (refine wpList_append_own_at _ rfl (.tmp 36) (.tmp 38) 30 (by rfl) w.heap.size 39 i0 _ 11 152 Tryd.underlying30 hi0 hz0 hz1 hz2 rfl (by omega) (.slice none 0 0) 0 [] (by rfl) (World.ownsRow.alloc (World.ownsRow.alloc hown _) _) ⟨w4.heap.size + 1, 0, none⟩ 1 1 (dCs T) (by rfl) (by rfl) (by have := HN2.out; simpa using this) (by simp [Value.oneCell']) (by unfold maxLen; omega) (by omega) (by first | (simp; omega) | simp) ?_)
        intro v2 w5 hown2 hgrow _ _
        have hb5 : Below w4.heap.size w4 w5 := HAA.out.grown hgrow (by simp; omega) (fun k hk => by cases hk)
        have R5 := Lib.hid (R4.out.below hb5)
        have B5 := Lib.hid (B4.out.trans (hb5.mono hs4))
        have HO5 := Lib.hid (show w5.ownsRow w.heap.size 39 11 v2 1 (dCs T) from hown2)
        obtain ⟨-, -, -, c4⟩ := R5.out.cells
        clear hown2 hgrow hown hb5)
      go_at_call 24
      refine (r4kind_last R5.out 0 true (by rfl)).mono ?_
      rintro e w6 ⟨rfl, hb⟩
      have fin := Lib.hid (show CS w w6 w1.heap.size b cap T A v2 from ⟨B5.out.trans (hb.mono B5.out.size), .inr ⟨row_below HO5.out hb (Nat.le_refl _), R5.out.below hb⟩⟩)
      have HM := Lib.hid (cMeas_own HO5.out)
      clear hb c4
      go_wp2_with fail
      go_roundw
      case rel => exact ⟨_, rfl, fin.out⟩
      case measure => rw [HM.out]; exact Nat.zero_lt_one
    · have R0 := Lib.hid hR
      have HO0 := Lib.hid hown
      obtain ⟨-, -, -, c4⟩ := hR.cells
      clear hR hown
      go_wp2_with fail
      go_at_call 23
      refine (r4take_no R0.out (.inr rfl) ⟨#[59, 59]⟩ (ne_nil _ _)).mono ?_
      rintro e w2 ⟨rfl, hb⟩
      have R2 := Lib.hid (R0.out.below hb)
      have B2 := Lib.hid (HB0.out.trans (hb.mono hws))
      have HO2 := Lib.hid (row_below HO0.out hb (Nat.le_refl _))
      clear hb c4
      go_wp2_with fail
      go_at_call 24
      refine (r4kind_last R2.out 0 true (by rfl)).mono ?_
      rintro e w3 ⟨rfl, hb⟩
      have fin := Lib.hid (cpost_of (row_below HO2.out hb (Nat.le_refl _)) (B2.out.trans (hb.mono B2.out.size)))
      clear hb
      go_wp2_with fail
      go_ret3
      exact fin.out
end Go.Proofs.YtiimofdbconlhaaDoor
