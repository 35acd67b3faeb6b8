/- Appending bytes, or a text, to a row of the call's own; the writer's Bytes and Text. -/
import Derived.Test.YtdckcjcddibglaaOctA
import Derived.Lib.AppendStr
import Derived.Laws.AppendOwnNone
namespace Go.Proofs.Ytdckcjcddibglaa
open Go.RowKit OctM

theorem strCells_eq (l : List UInt8) : Lib.strCells ⟨l.toArray⟩ = Bs l := by
  rfl

theorem size_mk (l : List UInt8) : (⟨l.toArray⟩ : ByteArray).size = l.length := by simp [ByteArray.size]

/-- What an append of k more leaves, to a row that has something. -/
def Grew (w w' : World) (base : Nat) (v : Value) (l k : List UInt8) (g cap : Nat) : Prop :=
  Own w' base (.slice (some ⟨g, 0, none⟩) (l.length + k.length) cap) (l ++ k) ∧ w.grownBy w' v.ownBlock ∧ (v.ownBlock = some g ∨ g = w.heap.size)

theorem append_rd {w : World} {base : Nat} {v s : Value} {l k : List UInt8} (hown : Own w base v l) (hl : 0 < l.length) (hs : Rd w s k) (hb : l.length + k.length ≤ 140737488355328) (hbase : base ≤ w.heap.size) (ty : TypeId) :
    ∃ g cap w', (Builtin.append_ #[22, 22] ty #[v, s]).run Try.prog w = .ok (.slice (some ⟨g, 0, none⟩) (l.length + k.length) cap) w' ∧ Grew w w' base v l k g cap := by
  obtain ⟨i0, hi0, hz0, hz1, hz2⟩ := info_parts u8info
  rcases hs with ⟨rfl, rfl⟩ | ⟨a, c, rfl, hn, hm, hc⟩
  · obtain ⟨g, cap, rfl, _, _⟩ := hown.form hl
    exact ⟨g, cap, w, run_append_owned_none (P := Try.prog) (w := w) base 22 ty 5 i0 1 Try.underlying22 hi0 _ _ _ hown, by simpa [Own] using hown, World.grownBy.refl w _, .inl rfl⟩
  · obtain ⟨v', w', hr, h2, h3, _, h5⟩ := run_append_own_at (P := Try.prog) w base 22 ty 5 i0 (.int .u8 0) 1 1 Try.underlying22 hi0 hz0 hz1 hz2 rfl (by decide) v l.length (Bs l) hown a k.length c (Bs k)
      (by rw [Bs_length, Nat.mul_one]) (fun j u hj => by
        obtain ⟨b, hb, rfl⟩ : ∃ b, k[j]? = some b ∧ B b = u := by simpa [Bs] using hj
        exact hc j b hb) (Bs_one k) (by unfold maxLen; omega) (by omega) hbase
    obtain ⟨g, cap, rfl, _, _⟩ := h2.form (by omega)
    refine ⟨g, cap, w', hr, ?_, h3, ?_⟩
    · unfold Own
      rw [List.length_append, Bs_append]
      exact h2
    · rcases h5 with h5 | h5
      · exact .inl (by rw [← h5]; rfl)
      · right; simpa [Value.ownBlock] using h5

theorem append_str {w : World} {base : Nat} {v : Value} {l k : List UInt8} (hown : Own w base v l) (hl : 0 < l.length) (hb : l.length + k.length ≤ 140737488355328) (hbase : base ≤ w.heap.size) (ty : TypeId) :
    ∃ g cap w', (Builtin.append_ #[22, 9] ty #[v, S k]).run Try.prog w = .ok (.slice (some ⟨g, 0, none⟩) (l.length + k.length) cap) w' ∧ Grew w w' base v l k g cap := by
  obtain ⟨i0, hi0, hz0, hz1, hz2⟩ := info_parts u8info
  have hsz := size_mk k
  obtain ⟨v', w', hr, h2, h3, _⟩ := Lib.run_append_own_string (P := Try.prog) w base 22 9 ty 5 i0 Try.underlying22 Try.underlying9 hi0 hz0 hz1 hz2 v l.length (Bs l) hown ⟨k.toArray⟩ (by rw [hsz]; unfold maxLen; omega) (by rw [hsz]; exact hb) hbase
  rw [hsz, strCells_eq] at h2
  obtain ⟨g, cap, rfl, _, _⟩ := h2.form (by omega)
  refine ⟨g, cap, w', hr, ?_, h3, ?_⟩
  · unfold Own
    rw [List.length_append, Bs_append]
    exact h2
  · have hcells := fun g => World.ownsRow.cells hown (g := g)
    rcases hown.2 with ⟨_, hn⟩ | ⟨g0, cap0, cur, rfl, _, hg, hnc, _, hcs, _⟩
    · omega
    · by_cases hroom : l.length + (⟨k.toArray⟩ : ByteArray).size ≤ cap0
      · have hr2 := Lib.run_append_room_string (P := Try.prog) w 22 9 ty 5 i0 Try.underlying22 Try.underlying9 hi0 hz1 g0 l.length cap0 cur hg ⟨k.toArray⟩ hroom (by omega)
        rw [hr] at hr2
        injection hr2 with hr2 _
        injection hr2 with hr2 _ _
        injection hr2 with hr2
        injection hr2 with hr2 _ _
        subst hr2
        exact .inl rfl
      · have hr2 := Lib.run_append_grow_string (P := Try.prog) w 22 9 ty 5 i0 _ Try.underlying22 Try.underlying9 hi0 hz0 ⟨g0, 0, none⟩ l.length cap0 (Bs l) (by rw [Bs_length, hz1, Nat.mul_one]) (hcells g0 rfl) ⟨k.toArray⟩ (by omega) (by rw [hsz]; omega) (by rw [hz2]; exact growslice_fits (by omega) (by rw [hsz]; omega))
        rw [hr] at hr2
        injection hr2 with hr2 _
        injection hr2 with hr2 _ _
        injection hr2 with hr2
        injection hr2 with hr2 _ _
        exact .inr hr2

/-- An append whose run is known, in a plain list of operations. -/
theorem wpList_append_known {P : Program} {w w' : World} {ops : Array Oper} {rest : List Oper} {o : Oper} {a : Act} {Q : Exit → Act → World → Prop} (hgd : o.guard = none) (s x : Operand) (t u : TypeId)
    (ho : o.op = .call { callee := .builtin .append, args := #[s, x], argTypes := #[t, u] }) (v y v' : Value) (hs : a.eval s = v) (hx : a.eval x = y)
    (hr : (Builtin.append_ #[t, u] o.type #[v, y]).run P w = .ok v' w') (h : wpList P ops Q rest (a.put o.dst v') w') : wpList P ops Q (o :: rest) a w := by
  refine wpList_plain hgd fun K hK => ?_
  unfold Oper.wp execOp
  simp only [ho, resolve, invoke, builtin, Sem.run_bind, Sem.run_pure, Result.andThen_ok, List.map_toArray, List.map_cons, List.map_nil, hs, hx, hr]
  exact hK _ _ h

/-- A writer behind an append to its row. -/
theorem wat_grew {w w' : World} {b base : Nat} {v : Value} {l k : List UInt8} {g cap : Nat} (h : WAt w b base v l) (hg : Grew w w' base v l k g cap) :
    g ≠ b ∧ w'.heap[b]? = some (.cells #[v] 79 (0, 0)) ∧ WAt (w'.setCell ⟨b, 0, none⟩ (.slice (some ⟨g, 0, none⟩) (l.length + k.length) cap)) b base (.slice (some ⟨g, 0, none⟩) (l.length + k.length) cap) (l ++ k) ∧
      Kept (two b v) w (w'.setCell ⟨b, 0, none⟩ (.slice (some ⟨g, 0, none⟩) (l.length + k.length) cap)) := by
  obtain ⟨h1, h2, h3⟩ := hg
  have hlt := lt_of_block h.cell
  have hgb : g ≠ b := by
    rintro rfl
    rcases h3 with h3 | h3
    · exact h.ne h3
    · omega
  have hc : w'.heap[b]? = some (.cells #[v] 79 (0, 0)) := (h2.block b hlt (Ne.symm h.ne)).trans h.cell
  refine ⟨hgb, hc, ⟨one_setCell hc, ?_⟩, ((Kept.refl _ w).grown h2 (fun k hk => .inl (.inr hk))).setCell (.inl (.inl rfl)) _⟩
  exact ownsRow_setCell_other h1 (by simp only [Value.ownBlock, ne_eq, Option.some.injEq]; exact hgb) _

theorem Kept.step {T U : Nat → Prop} {a b c : World} (h : Kept T a b) (k : Kept U b c) (hU : ∀ k, U k → T k ∨ a.heap.size ≤ k) : Kept T a c :=
  ⟨k.os.trans h.os, k.tape.trans h.tape, k.output.trans h.output, Nat.le_trans h.size k.size, fun i hi hs => (k.block i (Nat.lt_of_lt_of_le hi h.size) (fun hu => by
    rcases hU i hu with h1 | h1
    · exact hs h1
    · omega)).trans (h.block i hi hs)⟩

/-- Bytes as they are laid. -/
def encB (k : List UInt8) : List UInt8 := enc k.length ++ k

theorem encB_length (k : List UInt8) : (encB k).length ≤ k.length + 9 := by
  have := nd_le k.length
  simp only [encB, List.length_append, enc_length]
  omega

/-- The second half: the row grows by k. -/
theorem wpost_grew {w w1 w2 : World} {b base : Nat} {v v1 : Value} {l m k : List UInt8} {g cap : Nat} (hk : Kept (two b v) w w1) (ha : v1.ownBlock = v.ownBlock ∨ ∃ g, v1.ownBlock = some g ∧ w.heap.size ≤ g)
    (h : WAt w1 b base v1 m) (hg : Grew w1 w2 base v1 m k g cap) (e : m ++ k = l) :
    WPost w (w2.setCell ⟨b, 0, none⟩ (.slice (some ⟨g, 0, none⟩) (m.length + k.length) cap)) b base v l (.returned (.pointer (some ⟨b, 0, none⟩))) := by
  obtain ⟨_, _, h1, h2⟩ := wat_grew h hg
  subst e
  refine ⟨rfl, ⟨_, h1, ?_⟩, hk.step h2 fun k hk2 => ?_⟩
  · rcases hg.2.2 with h3 | h3
    · rcases ha with ha | ⟨g', ha, hg'⟩
      · exact .inl (by rw [← ha, h3]; rfl)
      · rw [h3] at ha
        injection ha with ha
        exact .inr ⟨g, rfl, by omega⟩
    · have := hk.size
      exact .inr ⟨g, rfl, by omega⟩
  · rcases hk2 with hk2 | hk2
    · exact .inl (.inl hk2)
    · rcases ha with ha | ⟨g', ha, hg'⟩
      · exact .inl (.inr (by rw [← ha]; exact hk2))
      · rw [hk2] at ha
        injection ha with ha
        exact .inr (by omega)

set_option maxHeartbeats 2000000 in
set_option maxRecDepth 100000 in
theorem wbytes (b base : Nat) (v : Value) (l : List UInt8) (x : Value) (k : List UInt8) (w : World) (hw : WAt w b base v l) (hb : base ≤ w.heap.size) (hx : Rd w x k) (hxs : ∀ w', Kept (two b v) w w' → Rd w' x k) (hl : l.length + k.length ≤ 140737488350000) :
    Calls Try.prog 43 #[.pointer (some ⟨b, 0, none⟩), x] w fun e w' => WPost w w' b base v (l ++ encB k) e := by
  have hk := nd_le k.length
  obtain ⟨o, c, rfl⟩ : ∃ o c, x = .slice o k.length c := by
    rcases hx with ⟨rfl, rfl⟩ | ⟨a, c, rfl, _⟩
    · exact ⟨_, _, rfl⟩
    · exact ⟨_, _, rfl⟩
  have H := Lib.hid (wuint b base v l (k.length : Int) w (by omega) (by omega) hw hb (by omega))
  have HX := Lib.hid hxs
  have h0 : (0 : Int) ≤ (k.length : Int) := by omega
  have h1 : (k.length : Int) ≤ 140737488350000 := by omega
  clear hw hx hxs
  go_enter Try.func43, Try.ntmps43
  go_wp2_with fail
  refine H.out.mono ?_
  rw [Int.toNat_natCast]
  rintro e w1 ⟨rfl, ⟨v1, hw1, ha⟩, hk1⟩
  have hlen : 0 < (l ++ enc k.length).length ∧ (l ++ enc k.length).length + k.length ≤ 140737488355328 := by
    rw [List.length_append, enc_length]; omega
  obtain ⟨g, cap, w2, hr, hg⟩ := append_rd hw1.own hlen.1 (HX.out w1 hk1) hlen.2 (Nat.le_trans hb hk1.size) 22
  obtain ⟨hgb, hc2, _, _⟩ := wat_grew hw1 hg
  have fin := wpost_grew (l := l ++ encB k) hk1 ha hw1 hg (by simp [encB])
  have c1 := cell_of_one hw1.cell
  have c2 := cell_of_one hc2
  have f2 := free_of_one hc2
  have hlt2 := lt_of_block hc2
  have HF := Lib.hid fin
  have HR := Lib.hid hr
  generalize (l ++ enc k.length).length = M at *
  clear hr fin hg hw1 hc2 hlen
  go_wp2_with (at_builtin; refine wpList_append_known rfl (.tmp 16) (.tmp 17) 22 22 (by rfl) v1 _ _ (by rfl) (by rfl) HR.out ?_)
  go_ret
  exact HF.out

/-- A row that has something, written out. -/
theorem own_form' {w : World} {base : Nat} {v : Value} {l : List UInt8} (h : Own w base v l) (hl : 0 < l.length) :
    ∃ g c, v = .slice (some ⟨g, 0, none⟩) l.length c ∧ base ≤ g ∧ g < w.heap.size ∧ l.length ≤ c ∧ c ≤ maxLen ∧ ∀ j u, l[j]? = some u → w.cell? ⟨g, j, none⟩ = some (B u) := by
  have hc := fun g => World.ownsRow.cells h (g := g)
  have hlt := h.lt
  rcases h.2 with ⟨_, hn⟩ | ⟨g, cap, cur, rfl, hb, hg, hn, hm, _⟩
  · omega
  · refine ⟨g, cap, rfl, hb, (hlt g rfl).2, hn, hm, fun j u hu => ?_⟩
    have := hc g rfl j (B u) (by simp [Bs, hu])
    rw [add_none, Nat.zero_add] at this
    exact this
end Go.Proofs.Ytdckcjcddibglaa
