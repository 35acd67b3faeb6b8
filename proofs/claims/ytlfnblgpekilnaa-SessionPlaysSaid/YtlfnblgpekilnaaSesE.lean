/- Sessions: New; a table made since; the law's awake. -/
import Derived.Test.YtlfnblgpekilnaaSesD
namespace Go.Proofs.Ytlfnblgpekilnaa
open Go.RowKit OctM

set_option maxRecDepth 100000 in
theorem tnew (w : World) : Calls Try.prog 10 #[] w fun e w' => e = .returned (.pointer (some ⟨w.heap.size, 0, none⟩)) ∧ w.alloc (.cells #[.slice none 0 0] 55) = w' := by
  go_enter Try.func10, Try.ntmps10
  go_wp2_with fail
  go_ret
  exact ⟨rfl, rfl⟩

/-- A table made since w0, and nothing of w0 has turned. -/
structure TB (w0 : World) (b : Nat) (l : List Se) (w : World) : Prop where
  ex : ∃ v, TA w b w0.heap.size v l
  bel : Below w0.heap.size w0 w
  ge : w0.heap.size ≤ b

theorem TB.below {w0 w w' : World} {b : Nat} {l : List Se} (h : TB w0 b l w) (hb : Below w.heap.size w w') : TB w0 b l w' := by
  obtain ⟨v, hv⟩ := h.ex
  exact ⟨⟨v, hv.below hb⟩, h.bel.trans (hb.mono h.bel.size), h.ge⟩
theorem TB.drew {w0 w : World} {b : Nat} {l : List Se} (h : TB w0 b l w) : TB w0 b l w.drew := h.below (Below.refl _ w).drew

theorem tb_new (w0 w : World) (hb : Below w0.heap.size w0 w) : TB w0 w.heap.size [] (w.alloc (.cells #[.slice none 0 0] 55)) :=
  ⟨⟨.slice none 0 0, [], rfl, heap_alloc_new _ _, ownS_nil _ _ _⟩, hb.trans (((Below.refl _ w).alloc (Nat.le_refl _) _).mono hb.size), hb.size⟩

theorem rd_block {w w' : World} {x : Value} {l : List UInt8} (h : Rd w x l) (hg : ∀ g, x.ownBlock = some g → w'.heap[g]? = w.heap[g]?) : Rd w' x l := by
  rcases h with h | ⟨a, c, rfl, hl, hm, hc⟩
  · exact .inl h
  · refine .inr ⟨a, c, rfl, hl, hm, fun j u hu => ?_⟩
    have hb : (a.add j).block = a.block := by unfold Addr.add; split <;> rfl
    exact (World.cell?_of_block (w := w) (a := a.add j) (by rw [hb]; exact hg a.block rfl)).trans (hc j u hu)

/-- Bytes that a table doesn't have: of w0, or in a block of bytes. -/
def Apt (w0 w : World) (x : Value) : Prop := ∀ g, x.ownBlock = some g → g < w0.heap.size ∨ ∃ cs fr, w.heap[g]? = some (.cells cs 5 fr)
theorem Apt.own {w0 w : World} {base : Nat} {x : Value} {l : List UInt8} (h : Own w base x l) : Apt w0 w x := by
  intro g hg
  rcases h.2 with ⟨rfl, _⟩ | ⟨g', c, cur, rfl, _, hgc, _⟩
  · cases hg
  · right
    have : g' = g := by simpa [Value.ownBlock] using hg
    subst this
    exact ⟨_, _, hgc⟩

/-- What a Put of such a table leaves. -/
structure TBP (w0 w : World) (b : Nat) (r : Int × List Se) (e : Ending) (w' : World) : Prop where
  ret : e = .returned (.int .i64 r.1)
  tb : TB w0 b r.2 w'
  keep : ∀ base v l, Own w base v l → Own w' base v l
  size : w.heap.size ≤ w'.heap.size

theorem tb_put (id nm : Nat) (rp : List UInt8) (x : Value) (w0 w : World) {b : Nat} {l : List Se} (h : TB w0 b l w) (hl : l.length ≤ 900) (hr : Ris l) (hb : ∀ s ∈ l, s.rp.length ≤ 1000000)
    (hx : Rd w x rp) (ha : Apt w0 w x) (hrp : rp.length ≤ 1000000) :
    Calls Try.prog 11 #[.pointer (some ⟨b, 0, none⟩), .int .u64 (id : Int), .int .u64 (nm : Int), x] w (TBP w0 w b (putS l ⟨id, nm, rp⟩)) := by
  obtain ⟨v, hv⟩ := h.ex
  obtain ⟨ps, hps, hax⟩ := hv
  have hvq := TA.tq ⟨ps, hps, hax⟩
  have hn : ∀ g, two b v g → w0.heap.size ≤ g := by
    rintro g (rfl | hg)
    · exact h.ge
    · exact (hax.own.row.lt g hg).1
  refine (put_any id nm rp x w (fun _ _ => trivial) hvq h.bel.size hl hr hb (fun w' hk => rd_block hx (fun g hg => ?_)) hrp).mono ?_
  · rcases ha g hg with h1 | ⟨cs, fr, hc⟩
    · exact hk.block g (Nat.lt_of_lt_of_le h1 h.bel.size) (fun h2 => by have := hn g h2; omega)
    · refine hk.block g (lt_of_block hc) ?_
      rintro (rfl | hg2)
      · have h3 := hax.cell
        rw [hc] at h3
        injection h3 with h3
        injection h3 with _ h3 _
        exact absurd h3 (by decide)
      · exact own_ne hax.own.row hc (by decide) hg2
  · rintro e w' ⟨rfl, v', hta, -, hk⟩
    refine ⟨rfl, ⟨⟨v', hta.ta⟩, h.bel.trans (hk.below h.bel.size (fun k hk2 => hn k hk2)), h.ge⟩, fun base u l ho => own_kept ho hk ?_, hk.size⟩
    rintro g hg (rfl | hg2)
    · exact own_ne ho hax.cell (by decide) hg
    · exact own_ne2 hax.own.row ho (by decide) g hg2 hg

theorem tb_ask (id nm : Nat) (w0 w : World) {b : Nat} {l : List Se} (h : TB w0 b l w) (hl : l.length ≤ 1000) (hr : Ris l) (hb : ∀ s ∈ l, s.rp.length ≤ 1000000) :
    Calls Try.prog 13 #[.pointer (some ⟨b, 0, none⟩), .int .u64 (id : Int), .int .u64 (nm : Int)] w fun e w' => AskP w (askS l id nm) e w' ∧ TB w0 b l w' := by
  obtain ⟨v, hv⟩ := h.ex
  refine (ask_any id nm w hv hl hr hb).mono ?_
  rintro e w' hp
  obtain ⟨u, h1, h2, h3⟩ := hp
  exact ⟨⟨u, h1, h2, h3⟩, h.below h3⟩

theorem ris_nil : Ris [] := fun i j x y _ h => by simp at h
theorem ris_one (s : Se) : Ris [s] := fun i j x y hij h1 h2 => by
  have a := (List.getElem?_eq_some_iff.1 h1).1
  have c := (List.getElem?_eq_some_iff.1 h2).1
  simp at a c; omega

/-- Bytes as a text. -/
theorem textS {w : World} {base : Nat} {v : Value} {l : List UInt8} (h : Own w base v l) : (convert 31 9 v).run Try.prog w = .ok (.string ⟨l.toArray⟩) w := toStr (Rd.of_own h)

/-- A Put of a text of one byte that stands in the code. -/
theorem tb_lit (id nm : Nat) (k : UInt8) (fr : Nat × Nat) (w0 w : World) {b : Nat} {l : List Se} (h : TB w0 b l w) (hl : l.length ≤ 900) (hr : Ris l) (hb : ∀ s ∈ l, s.rp.length ≤ 1000000) :
    Calls Try.prog 11 #[.pointer (some ⟨b, 0, none⟩), .int .u64 (id : Int), .int .u64 (nm : Int), .slice (some ⟨w.heap.size, 0, none⟩) 1 1] (w.alloc (.cells #[.int .u8 (k.toNat : Int)] 5 fr)) (TBP w0 (w.alloc (.cells #[.int .u8 (k.toNat : Int)] 5 fr)) b (putS l ⟨id, nm, [k]⟩)) :=
  tb_put id nm [k] (.slice (some ⟨w.heap.size, 0, none⟩) 1 1) w0 _ (h.below ((Below.refl _ _).alloc (Nat.le_refl _) _)) hl hr hb (Rd.of_block (l := [k]) (heap_alloc_new w _) rfl (by simp))
    (fun g hg => .inr ⟨_, fr, by
      have : w.heap.size = g := by simpa [Value.ownBlock] using hg
      subst this
      exact heap_alloc_new w _⟩) (by simp)

theorem put0 : putS [] ⟨7, 1, [97]⟩ = (0, [⟨7, 1, [97]⟩]) := by rfl
theorem ask1 : askS [⟨7, 1, [97]⟩] 7 1 = (0, [97]) := by rfl
theorem put1 : putS [⟨7, 1, [97]⟩] ⟨7, 2, [98]⟩ = (0, [⟨7, 2, [98]⟩]) := by rfl
theorem ask2 : askS [⟨7, 2, [98]⟩] 7 1 = (16, []) := by rfl

set_option maxHeartbeats 4000000 in
set_option maxRecDepth 100000 in
theorem sawake (w : World) : Calls Try.prog 9 #[] w fun e w' => e = .returned (.bool true) ∧ Below w.heap.size w w' := by
  have kc := fun (w : World) (C : Array Value) (n c : Nat) => Lib.run_convert_bytes_const (P := Try.prog) w 31 5 C n c Try.underlying31 Try.underlying5
  have H0 := Lib.hid (tnew w)
  have HT := Lib.hid (tb_new w w (Below.refl _ _))
  go_enter Try.func9, Try.ntmps9
  go_wp2_with fail
  refine H0.out.mono ?_
  rintro e w1 ⟨rfl, hw1⟩
  rw [hw1] at HT
  clear hw1 H0
  generalize w.heap.size = b at *
  have H1 := Lib.hid (tb_lit 7 1 97 (1, 2) w w1 HT.out (by decide) ris_nil (fun _ h => (List.not_mem_nil h).elim))
  rw [put0] at H1
  go_wp2_with fail
  refine H1.out.mono ?_
  rintro e w2 ⟨rfl, ht2, -, -⟩
  have HT2 := Lib.hid ht2
  have H2 := Lib.hid (tb_ask 7 1 w w2 ht2 (by decide) (ris_one _) (by simp))
  rw [ask1] at H2
  clear ht2 H1 HT
  go_wp2_with fail
  refine H2.out.mono ?_
  rintro e w3 ⟨⟨v3, rfl, ho3, hb3⟩, ht3⟩
  obtain ⟨o3, c3, rfl⟩ := own_slice ho3
  have HT3 := Lib.hid ht3
  have HO3 := Lib.hid ho3
  have H3 := Lib.hid (tb_lit 7 2 98 (1, 2) w w3 ht3 (by decide) (ris_one _) (by simp))
  rw [put1] at H3
  clear ht3 ho3 hb3 H2 HT2
  go_wp2_with fail
  refine H3.out.mono ?_
  rintro e w4 ⟨rfl, ht4, hk4, -⟩
  have HO4 := Lib.hid (hk4 _ _ _ (own_below HO3.out ((Below.refl _ w3).alloc (Nat.le_refl _) _) (Nat.le_refl _)))
  have H4 := Lib.hid (tb_ask 7 1 w w4 ht4 (by decide) (ris_one _) (by simp))
  rw [ask2] at H4
  clear ht4 hk4 H3 HT3 HO3 kc
  go_wp2_with fail
  refine H4.out.mono ?_
  rintro e w5 ⟨⟨v5, rfl, ho5, hb5⟩, ht5⟩
  obtain ⟨o5, c5, rfl⟩ := own_slice ho5
  have htx : (convert 31 9 (.slice o3 1 c3)).run Try.prog w5 = .ok (.string ⟨#[97]⟩) w5 := textS (own_below HO4.out hb5 (Nat.le_refl _))
  obtain ⟨v6, hv6⟩ := ht5.ex
  have H5 := Lib.hid (tlen_any w5 hv6)
  have HB5 := Lib.hid ht5.bel
  clear ho5 hb5 ht5 hv6 H4 HO4
  go_wp2_with fail
  refine H5.out.mono ?_
  rintro e w' ⟨rfl, rfl⟩
  go_wp2_with fail
  go_ret
  exact ⟨rfl, HB5.out⟩
end Go.Proofs.Ytlfnblgpekilnaa
