/- The drum's blocks, and they alone; what is written of bytes in pieces, in the plain. -/
import Derived.Test.YtdckcjcddibglaaStoE
namespace Go.Proofs.Ytdckcjcddibglaa
open Go.RowKit OctM

/-- A drum's own blocks. -/
def Tg (D T n : Nat) (vn vd : Nat → Value) : Nat → Prop := fun k => k = D ∨ k = T ∨ ∃ i, i < n ∧ TB (vn i) (vd i) k

theorem DAt.tight {w : World} {S : Nat → Prop} {D T : Nat} {vn vd : Nat → Value} {d : Dr} (h : DAt w S D T vn vd d) : DAt w (Tg D T d.n vn vd) D T vn vd d where
  cell := h.cell
  row := h.row
  tk := h.tk
  mine i hi g hg := ⟨.inr (.inr ⟨i, hi, hg⟩), (h.mine i hi g hg).2⟩
  alone := h.alone
  sD := .inl rfl
  sT := .inr (.inl rfl)
  ne := h.ne
  lim := h.lim
  fit := h.fit
theorem DAt.sub {w : World} {S : Nat → Prop} {D T : Nat} {vn vd : Nat → Value} {d : Dr} (h : DAt w S D T vn vd d) : ∀ k, Tg D T d.n vn vd k → S k := fun k hk => by
  rcases hk with rfl | rfl | ⟨i, hi, hg⟩
  · exact h.sD
  · exact h.sT
  · exact (h.mine i hi k hg).1
theorem own_cells {w : World} {base : Nat} {e : TypeId} {size : Nat} {v : Value} {n : Nat} {xs : List Value} (h : w.ownsRow base e size v n xs) {g : Nat} (hg : v.ownBlock = some g) : ∃ o, w.heap[g]? = some o ∧ o.isCells = true := by
  rcases h.2 with ⟨rfl, _⟩ | ⟨g', cap, cur, rfl, _, hgg, _⟩
  · cases hg
  · injection hg with hg; subst hg; exact ⟨_, hgg, rfl⟩
theorem DAt.cellsOf {w : World} {S : Nat → Prop} {D T : Nat} {vn vd : Nat → Value} {d : Dr} (h : DAt w S D T vn vd d) : ∀ k, Tg D T d.n vn vd k → ∃ o, w.heap[k]? = some o ∧ o.isCells = true := fun k hk => by
  rcases hk with rfl | rfl | ⟨i, hi, hg | hg⟩
  · exact ⟨_, h.cell, rfl⟩
  · by_cases hn : 0 < d.n
    · obtain ⟨c0, -, -⟩ := h.tcells hn
      obtain ⟨o, ho, hc⟩ := cells_of_cell c0
      exact ⟨o, ho, hc⟩
    · obtain ⟨cs, hcs, _⟩ := h.row
      exact ⟨_, hcs, rfl⟩
  · exact own_cells (h.tk i hi).now hg
  · exact own_cells (h.tk i hi).dur hg

/-- A drum in memory; its blocks are among those of X. -/
def Dt (w : World) (X : Nat → Prop) (D T : Nat) (d : Dr) : Prop := ∃ vn vd, DAt w (Tg D T d.n vn vd) D T vn vd d ∧ ∀ k, Tg D T d.n vn vd k → X k

theorem Dt.of {w : World} {S X : Nat → Prop} {D T : Nat} {vn vd : Nat → Value} {d : Dr} (h : DAt w S D T vn vd d) (hX : ∀ k, S k → X k) : Dt w X D T d := ⟨vn, vd, h.tight, fun k hk => hX k (h.sub k hk)⟩
theorem Dt.block {w w' : World} {X X' : Nat → Prop} {D T : Nat} {d : Dr} (h : Dt w X D T d) (hk : ∀ g, X g → g < w.heap.size → w'.heap[g]? = w.heap[g]?) (hX : ∀ k, X k → X' k) : Dt w' X' D T d := by
  obtain ⟨vn, vd, h1, h2⟩ := h
  exact ⟨vn, vd, h1.block (fun g hg hl => hk g (h2 g hg) hl) (fun _ h => h), fun k hk => hX k (h2 k hk)⟩
theorem Dt.abides {w w' : World} {X : Nat → Prop} {D T : Nat} {d : Dr} {row : Option Nat} (h : Dt w X D T d) (hg : w.grownBy w' row) (hr : ∀ r, row = some r → ∃ o : Obj, w.heap[r]? = some o ∧ o.isCells = false) : Dt w' X D T d := by
  obtain ⟨vn, vd, h1, h2⟩ := h
  exact ⟨vn, vd, h1.block (fun g hg' _ => by obtain ⟨o, ho, hc⟩ := h1.cellsOf g hg'; exact grownBy_keeps_cells hg hr ho hc) (fun _ h => h), h2⟩

/-- What a call of the drum's leaves. -/
def DtP (w : World) (X : Nat → Prop) (D T : Nat) (r : Int × Dr) (e : Ending) (w' : World) : Prop :=
  e = .returned (.int .i64 r.1) ∧ Dt w' (Fr X w w') D T r.2 ∧ Kept X w w' ∧ KeepsOthers w w'

theorem others_of {w w' : World} {S : Nat → Prop} (hk : Kept S w w') (hc : ∀ k, S k → ∃ o, w.heap[k]? = some o ∧ o.isCells = true) : KeepsOthers w w' :=
  ⟨hk.size, fun k o ho hn => (hk.block k (lt_of_block ho) (fun hs => by obtain ⟨o', ho', hc'⟩ := hc k hs; rw [ho] at ho'; cases ho'; rw [hn] at hc'; cases hc')).trans ho⟩

theorem DtP.of {w : World} {X : Nat → Prop} {D T : Nat} {vn vd : Nat → Value} {d : Dr} {r : Int × Dr} (h : DAt w (Tg D T d.n vn vd) D T vn vd d) (hX : ∀ k, Tg D T d.n vn vd k → X k) (e : Ending) (w' : World) (hp : APost w (Tg D T d.n vn vd) D T r e w') : DtP w X D T r e w' := by
  obtain ⟨he, ⟨vn', vd', hd⟩, hk⟩ := hp
  refine ⟨he, Dt.of hd (fun k hk => ?_), hk.weak (fun k _ => hX k), others_of hk h.cellsOf⟩
  rcases hk with hk | hk
  · exact .inl (hX k hk)
  · exact .inr hk

theorem dt_append (i : Int) (x : Value) (p : List UInt8) (w : World) {X : Nat → Prop} {D T : Nat} {d : Dr} (h : Dt w X D T d) (hx : Rd w x p) (hp : p.length ≤ 140737487306752) (hops : d.ops ≤ 1000000) :
    Calls Try.prog 13 #[.pointer (some ⟨D, 0, none⟩), .int .i64 i, x] w (DtP w X D T (appS d i p)) := by
  obtain ⟨vn, vd, h1, h2⟩ := h
  exact (append_any i x p w h1 hx hp hops).mono (DtP.of h1 h2)
theorem dt_write (i : Int) (x : Value) (p : List UInt8) (w : World) {X : Nat → Prop} {D T : Nat} {d : Dr} (h : Dt w X D T d) (hx : Rd w x p) (hp : p.length ≤ 140737487306752) (hops : d.ops ≤ 1000000) :
    Calls Try.prog 11 #[.pointer (some ⟨D, 0, none⟩), .int .i64 i, x] w (DtP w X D T (writeS d i p)) := by
  obtain ⟨vn, vd, h1, h2⟩ := h
  exact (write_any i x p w h1 hx hp hops).mono (DtP.of h1 h2)
theorem dt_sync (i : Int) (w : World) {X : Nat → Prop} {D T : Nat} {d : Dr} (h : Dt w X D T d) (hops : d.ops ≤ 1000000) :
    Calls Try.prog 12 #[.pointer (some ⟨D, 0, none⟩), .int .i64 i] w (DtP w X D T (syncS d i)) := by
  obtain ⟨vn, vd, h1, h2⟩ := h
  exact (sync_any i w h1 hops).mono (DtP.of h1 h2)
theorem dt_read (i : Int) (w : World) {X : Nat → Prop} {D T : Nat} {d : Dr} (h : Dt w X D T d) : Calls Try.prog 29 #[.pointer (some ⟨D, 0, none⟩), .int .i64 i] w (ReadP w d i) := by
  obtain ⟨vn, vd, h1, h2⟩ := h
  exact read_any i w h1
theorem dt_tracks (w : World) {X : Nat → Prop} {D T : Nat} {d : Dr} (h : Dt w X D T d) : Calls Try.prog 28 #[.pointer (some ⟨D, 0, none⟩)] w fun e w' => e = .returned (.int .i64 (d.n : Int)) ∧ w = w' := by
  obtain ⟨vn, vd, h1, h2⟩ := h
  exact tracks_any w h1
theorem dt_new (n most : Nat) (w : World) (h1 : 1 ≤ n) (h2 : n ≤ 8) (h3 : 1 ≤ most) (h4 : most ≤ 1048576) :
    Calls Try.prog 15 #[.int .i64 (n : Int), .int .i64 (most : Int)] w fun e w' => ∃ D T, e = .returned (.tuple #[.pointer (some ⟨D, 0, none⟩), .int .i64 0]) ∧ Dt w' (fun k => w.heap.size ≤ k ∧ k < w'.heap.size) D T (new n most) ∧ Below w.heap.size w w' ∧ w.heap.size ≤ T :=
  (new_any n most w h1 h2 h3 h4).mono fun e w' ⟨D, T, he, hd, hb, hT⟩ => ⟨D, T, he, Dt.of hd (fun k hk => by rcases hk with h | h; exact h.elim; exact h), hb, hT⟩

/-! ### Bytes written in pieces, in the plain -/
def pcS (q : List UInt8) (k : Nat) : List UInt8 := (q.drop (500 * k)).take 500
theorem pcS_length (q : List UInt8) (k : Nat) : (pcS q k).length = pl q.length k := by simp [pcS, pl]

/-- One piece more; the pieces x of a list. -/
def wrN (i : Int) (q : List UInt8) (r : Int × Dr) (x : Nat) : Int × Dr := if r.1 = 0 then appS r.2 i (pcS q x) else r
def wrL (d : Dr) (i : Int) (q : List UInt8) (pre : List Nat) : Int × Dr := pre.foldl (wrN i q) (writeS d i [])
theorem wrL_snoc (d : Dr) (i : Int) (q : List UInt8) (pre : List Nat) (x : Nat) : wrL d i q (pre ++ [x]) = wrN i q (wrL d i q pre) x := by simp [wrL]
def wrZ (i : Int) (r : Int × Dr) : Int × Dr := if r.1 = 0 then syncS r.2 i else r
def wrS (d : Dr) (i : Int) (q : List UInt8) : Int × Dr := wrZ i (wrL d i q (List.range (pcs q.length)))

theorem cnt_ops (d : Dr) : (cnt d).2.ops = d.ops + 1 := by
  unfold cnt
  repeat' split
  all_goals rfl
theorem app_ops (d : Dr) (i : Int) (p : List UInt8) : (appS d i p).2.ops ≤ d.ops + 1 := by
  unfold appS
  repeat' split
  · simp
  · simp
  · rw [cnt_ops]; exact Nat.le_refl _
theorem write_ops (d : Dr) (i : Int) (p : List UInt8) : (writeS d i p).2.ops ≤ d.ops + 1 := by
  unfold writeS
  repeat' split
  · simp
  · simp
  · rw [cnt_ops]; exact Nat.le_refl _
theorem sync_ops (d : Dr) (i : Int) : (syncS d i).2.ops ≤ d.ops + 1 := by
  unfold syncS
  repeat' split
  · simp
  · show (cnt d).2.ops ≤ _; rw [cnt_ops]; exact Nat.le_refl _
  · rw [cnt_ops]; exact Nat.le_refl _
theorem wrN_ops (i : Int) (q : List UInt8) (r : Int × Dr) (x : Nat) : (wrN i q r x).2.ops ≤ r.2.ops + 1 := by
  unfold wrN
  split
  · exact app_ops _ _ _
  · omega
theorem wrL_ops (d : Dr) (i : Int) (q : List UInt8) (pre : List Nat) : (wrL d i q pre).2.ops ≤ d.ops + pre.length + 1 := by
  have h : ∀ (pre : List Nat) (r : Int × Dr), (pre.foldl (wrN i q) r).2.ops ≤ r.2.ops + pre.length := by
    intro pre
    induction pre with
    | nil => intro r; simp
    | cons x t ih =>
      intro r
      have h1 := ih (wrN i q r x)
      have h2 := wrN_ops i q r x
      simp only [List.foldl_cons, List.length_cons]
      omega
  have h1 := h pre (writeS d i [])
  have h2 := write_ops d i []
  unfold wrL
  omega
theorem wrS_ops (d : Dr) (i : Int) (q : List UInt8) : (wrS d i q).2.ops ≤ d.ops + pcs q.length + 2 := by
  have h := wrL_ops d i q (List.range (pcs q.length))
  rw [List.length_range] at h
  unfold wrS wrZ
  split
  · have := sync_ops (wrL d i q (List.range (pcs q.length))).2 i; omega
  · omega

/-- A piece in memory. -/
theorem rd_piece {W : World} {g : Nat} {q : List UInt8} (hc : ∀ j u, q[j]? = some u → W.cell? ⟨g, j, none⟩ = some (B u)) (k : Nat) : Rd W (pcV g q.length k) (pcS q k) := by
  refine .inr ⟨⟨g, 500 * k, none⟩, pl q.length k, by rw [pcS_length]; rfl, by rw [pcS_length]; exact Nat.le_refl _, by unfold pl maxLen; omega, fun j u hu => ?_⟩
  rw [add_none]
  refine hc _ _ ?_
  unfold pcS at hu
  rw [List.getElem?_take] at hu
  split at hu
  · rw [List.getElem?_drop] at hu; exact hu
  · cases hu
end Go.Proofs.Ytdckcjcddibglaa
