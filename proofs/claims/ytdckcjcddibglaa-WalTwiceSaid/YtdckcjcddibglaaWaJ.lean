/- A log in memory; State. -/
import Derived.Test.YtdckcjcddibglaaWaI
import Derived.Test.YtdckcjcddibglaaStoF
namespace Go.Proofs.Ytdckcjcddibglaa
open Go.RowKit OctM

theorem Rd.own_same {w w' : World} {v : Value} {l : List UInt8} (h : Rd w v l) (hs : ∀ g, v.ownBlock = some g → w'.heap[g]? = w.heap[g]?) : Rd w' v l := by
  rcases h with h | ⟨a, c, rfl, hl, hm, hc⟩
  · exact .inl h
  · refine .inr ⟨a, c, rfl, hl, hm, fun j u hu => ?_⟩
    have hb : (a.add j).block = a.block := by unfold Addr.add; split <;> rfl
    exact (World.cell?_of_block (by rw [hb]; exact hs a.block rfl)).trans (hc j u hu)

/-- A log that reads as l, in blocks of L alone. -/
def LogIn (L : Nat → Prop) (w : World) (v : Value) (l : List En) : Prop :=
  (v = .slice none 0 0 ∧ l = []) ∨ ∃ b o c, v = .slice (some ⟨b, o, none⟩) l.length c ∧ l.length ≤ c ∧ c ≤ maxLen ∧ (0 < l.length ∧ L b) ∧ ∀ i x, l[i]? = some x → ∃ vx, EnAt w b (o + i * 4) x vx ∧ ∀ g, vx.ownBlock = some g → L g
theorem LogIn.rd {L : Nat → Prop} {w : World} {v : Value} {l : List En} (h : LogIn L w v l) : RdL w v l := by
  rcases h with h | ⟨b, o, c, hv, h1, h2, _, h3⟩
  · exact .inl h
  · exact .inr ⟨b, o, c, hv, h1, h2, fun i x hx => by
      obtain ⟨vx, he, _⟩ := h3 i x hx
      exact ⟨vx, he⟩⟩
theorem LogIn.nil {L : Nat → Prop} {w : World} {v : Value} (h : LogIn L w v []) : v = .slice none 0 0 := by
  rcases h with ⟨h, _⟩ | ⟨_, _, _, _, _, _, ⟨h, _⟩, _⟩
  · exact h
  · cases h
theorem LogIn.block {L L' : Nat → Prop} {w w' : World} {v : Value} {l : List En} (h : LogIn L w v l) (hs : ∀ g, L g → w'.heap[g]? = w.heap[g]?) (hL : ∀ g, L g → L' g) : LogIn L' w' v l := by
  rcases h with h | ⟨b, o, c, hv, h1, h2, hb, h3⟩
  · exact .inl h
  · refine .inr ⟨b, o, c, hv, h1, h2, ⟨hb.1, hL b hb.2⟩, fun i x hx => ?_⟩
    obtain ⟨vx, ⟨e0, e1, e2, e3, er⟩, hg⟩ := h3 i x hx
    have hc : ∀ k, w'.cell? ⟨b, k, none⟩ = w.cell? ⟨b, k, none⟩ := fun k => World.cell?_of_block (hs b hb.2)
    exact ⟨vx, ⟨(hc _).trans e0, (hc _).trans e1, (hc _).trans e2, (hc _).trans e3, er.own_same fun g hv => hs g (hg g hv)⟩, fun g hv => hL g (hg g hv)⟩
/-- One of the call's own. -/
theorem OwnL.inside {w : World} {base : Nat} {v : Value} {ps : List (En × Value)} {L : Nat → Prop} (h : OwnL w base v ps) (hL : ∀ g, base ≤ g → g < w.heap.size → L g) (hp0 : 0 < ps.length) : LogIn L w v (ps.map Prod.fst) := by
  rcases h.rd with h1 | ⟨b, o, c, hv, h1, h2, h3⟩
  · exact .inl h1
  · have hrow := h.row
    have hb : v.ownBlock = some b := by rw [hv]; rfl
    have hbl := hrow.lt b hb
    refine .inr ⟨b, o, c, hv, h1, h2, ⟨by rw [List.length_map]; exact hp0, hL b hbl.1 hbl.2⟩, fun i x hx => ?_⟩
    rw [List.getElem?_map] at hx
    obtain ⟨p, hp, rfl⟩ : ∃ p, ps[i]? = some p ∧ p.1 = x := by simpa using hx
    obtain ⟨vx, he⟩ := h3 i p.1 (by rw [List.getElem?_map, hp]; rfl)
    obtain ⟨vy, hy⟩ : ∃ vy, vy = p.2 := ⟨_, rfl⟩
    refine ⟨vx, he, fun g hg => ?_⟩
    -- the cell of the row is the pair's own
    have hcell : w.cell? ⟨b, o + i * 4 + 3, none⟩ = some p.2 := by
      rcases hrow.2 with ⟨hn, _⟩ | ⟨g', cap, cur, hv', _, hg', hn, hm, _⟩
      · rw [hn] at hv; cases hv
      · rw [hv] at hv'
        injection hv' with e1 e2 e3
        injection e1 with e1
        injection e1 with e4 e5
        subst e4 e5
        have hget := World.ownsRow.cells hrow hb (i * 4 + 3) p.2 (by
          have hsp : CsE ps = CsE (ps.take i) ++ (cE p ++ CsE (ps.drop (i + 1))) := by
            have h5 : ps = ps.take i ++ p :: ps.drop (i + 1) := by
              rw [← (List.getElem?_eq_some_iff.1 hp).2]
              simp
            have h6 : CsE (ps.take i ++ p :: ps.drop (i + 1)) = CsE (ps.take i) ++ (cE p ++ CsE (ps.drop (i + 1))) := by simp [CsE]
            rw [← h6, ← h5]
          have hi := (List.getElem?_eq_some_iff.1 hp).1
          rw [hsp, List.getElem?_append_right (by rw [CsE_length, List.length_take]; omega), CsE_length, List.length_take, List.getElem?_append_left (by simp [cE]; omega)]
          rw [show i * 4 + 3 - min i ps.length * 4 = 3 by omega]
          rfl)
        rw [add_none] at hget
        rw [show 0 + i * 4 + 3 = 0 + (i * 4 + 3) by omega]
        exact hget
    have hvx : vx = p.2 := by
      have := he.cl.symm.trans hcell
      injection this
    have hl2 := (h.cells p (List.mem_of_getElem? hp)).lt g (hvx ▸ hg)
    exact hL g hl2.1 hl2.2

/-- A log: its drum, the track that counts, the other one, its turn, whether nothing may be appended, what is kept. -/
structure Wl where
  d : Dr
  now : Nat
  sp : Nat
  turn : Nat
  shut : Bool
  st : Wst

/-- A log in memory: at B; X: its drum's blocks; L: those of its entries; R: all its blocks. -/
structure WlX (w : World) (R X L : Nat → Prop) (v : Value) (B D T : Nat) (s : Wl) : Prop where
  dt : Dt w X D T s.d
  cell : w.heap[B]? = some (.cells #[.pointer (some ⟨D, 0, none⟩), .int .i64 (s.now : Int), .int .i64 (s.sp : Int), .int .u64 (s.turn : Int), .bool s.shut, .int .u64 (s.st.tm : Int), .int .i64 s.st.vt, .int .u64 (s.st.bs : Int), v] 53 (0, 0))
  log : LogIn L w v s.st.lg
  sX : ∀ k, X k → R k
  sL : ∀ k, L k → R k ∧ ¬ X k ∧ k ≠ B
  rB : R B
  nB : ¬ X B
  lt : ∀ k, R k → k < w.heap.size
  ok : s.st.Ok
  lim : s.now ≤ 1000 ∧ s.sp ≤ 1000 ∧ s.turn ≤ 1000000

def WlAt (w : World) (R : Nat → Prop) (B D T : Nat) (s : Wl) : Prop := ∃ X L v, WlX w R X L v B D T s

theorem WlAt.block {w w' : World} {R R' : Nat → Prop} {B D T : Nat} {s : Wl} (h : WlAt w R B D T s) (hk : ∀ g, R g → w'.heap[g]? = w.heap[g]?) (hR : ∀ k, R k → R' k) (hl : ∀ k, R' k → k < w'.heap.size) : WlAt w' R' B D T s := by
  obtain ⟨X, L, v, h⟩ := h
  exact ⟨X, L, v, h.dt.block (fun g hg _ => hk g (h.sX g hg)) (fun _ h => h), (hk B h.rB).trans h.cell, h.log.block (fun g hg => hk g (h.sL g hg).1) (fun _ h => h), fun k hk => hR k (h.sX k hk), fun k hk => ⟨hR k (h.sL k hk).1, (h.sL k hk).2⟩, hR _ h.rB, h.nB, hl, h.ok, h.lim⟩
theorem WlAt.lt {w : World} {R : Nat → Prop} {B D T : Nat} {s : Wl} (h : WlAt w R B D T s) : ∀ k, R k → k < w.heap.size := by
  obtain ⟨X, L, v, h⟩ := h; exact h.lt
theorem WlAt.below {w w' : World} {R : Nat → Prop} {B D T : Nat} {s : Wl} (h : WlAt w R B D T s) (hb : Below w.heap.size w w') : WlAt w' R B D T s :=
  h.block (fun g hg => hb.block g (h.lt g hg)) (fun _ h => h) (fun k hk => Nat.lt_of_lt_of_le (h.lt k hk) hb.size)

/-- What State leaves. -/
def StP (w : World) (s : Wst) (e : Ending) (w' : World) : Prop := ∃ v' ps, e = .returned (wstV s v') ∧ ps.map Prod.fst = s.lg ∧ OwnL w' w.heap.size v' ps ∧ Below w.heap.size w w'

theorem OwnL.form {w : World} {base : Nat} {v : Value} {ps : List (En × Value)} (h : OwnL w base v ps) : ∃ o c, v = .slice o ps.length c := by
  obtain ⟨o, c, h, _⟩ := own_slice h.row
  exact ⟨o, c, h⟩
theorem OwnL.beside {w : World} {base : Nat} {v : Value} {ps : List (En × Value)} (h : OwnL w base v ps) {b : Nat} (hb : b < base) (i : Nat) (u : Value) : OwnL (w.setCell ⟨b, i, none⟩ u) base v ps :=
  h.kept (S := fun k => k = b) ((Kept.refl (fun k => k = b) w).setCell (p := ⟨b, i, none⟩) (.inl rfl) u) (fun g hg e => by have := (h.row.lt g hg).1; omega) (fun p hp g hg e => by have := ((h.cells p hp).lt g hg).1; omega)
end Go.Proofs.Ytdckcjcddibglaa
