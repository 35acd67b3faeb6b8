/- Functions of one's own: clones, copied. -/
import Derived.Test.YtpmbdncackneoaaDoorMacT
namespace Go.Proofs.YtpmbdncackneoaaDoor
open Go.RowKit HeaM Ma

theorem inInfo : (Tryd.prog.info? 28).map (fun i => (i.zero, i.size, i.bytes)) = some (some (.agg #[.int .u8 0, .int .i64 0, .int .i64 0, .string ⟨#[]⟩]), 4, 40) := by kernel_rfl
theorem fuInfo : (Tryd.prog.info? 44).map (fun i => (i.zero, i.size, i.bytes)) = some (some (.agg #[.int .i64 0, .slice none 0 0]), 2, 32) := by kernel_rfl
def inC (x : CodM.Ins) : List Value := [.int .u8 (x.op : Int), .int .i64 x.n, .int .i64 x.a, .string x.s]
def fuC (p : Int × Value) : List Value := [.int .i64 p.1, p.2]
def CsIn (l : List CodM.Ins) : List Value := l.flatMap inC
def CsFu (l : List (Int × Value)) : List Value := l.flatMap fuC
theorem CsIn_length (l : List CodM.Ins) : (CsIn l).length = l.length * 4 := flat_length inC 4 (fun _ => rfl) l
theorem CsFu_length (l : List (Int × Value)) : (CsFu l).length = l.length * 2 := flat_length fuC 2 (fun _ => rfl) l

/-- An append of rows of some size. -/
theorem append_rows {w : World} {base k n m bytes c : Nat} {e t ty : TypeId} {z v : Value} {xs cs : List Value} {a : Addr} (hinf : (Tryd.prog.info? e).map (fun i => (i.zero, i.size, i.bytes)) = some (some z, k, bytes)) (ht : Tryd.prog.underlying t = some (.slice e)) (hz : z.cells.size = k) (hk : 0 < k)
    (hown : w.ownsRow base e k v n xs) (hl : cs.length = m * k) (hc : ∀ j u, cs[j]? = some u → w.cell? (a.add j) = some u) (h1 : ∀ u ∈ cs, u.oneCell' = true) (hb : (n + m) * bytes ≤ 140737488355328) (hm : n + m ≤ 1000000000) (hbase : base ≤ w.heap.size) :
    ∃ v' w', (Builtin.append_ #[t, t] ty #[v, .slice (some a) m c]).run Tryd.prog w = .ok v' w' ∧ w'.ownsRow base e k v' (n + m) (xs ++ cs) ∧ w.grownBy w' v.ownBlock ∧ (v'.ownBlock = v.ownBlock ∨ v'.ownBlock = some w.heap.size) := by
  obtain ⟨i0, hi0, hz0, hz1, hz2⟩ := info_parts hinf
  obtain ⟨v', w', hr, h2, h3, _, h5⟩ := run_append_own_at (P := Tryd.prog) w base t ty e i0 z k bytes ht hi0 hz0 hz1 hz2 hz hk v n xs hown a m c cs hl hc h1 (by unfold maxLen; omega) hb hbase
  exact ⟨v', w', hr, h2, h3, h5⟩

theorem eqNilI : ∀ (w : World) (a : Option Addr) (n c n' c' : Nat), (binOp .eql 24 (.slice a n c) (.slice none n' c')).run Tryd.prog w = .ok (.bool a.isNone) w :=
  fun w a n c n' c' => Lib.run_eql_slice_nil w _ _ a n c n' c' Tryd.underlying24
theorem eqNilFu : ∀ (w : World) (a : Option Addr) (n c n' c' : Nat), (binOp .eql 45 (.slice a n c) (.slice none n' c')).run Tryd.prog w = .ok (.bool a.isNone) w :=
  fun w a n c n' c' => Lib.run_eql_slice_nil w _ _ a n c n' c' Tryd.underlying45

set_option maxHeartbeats 2000000 in
set_option maxRecDepth 100000 in
theorem cloneI (a : Addr) (n c : Nat) (xs : List Value) (w : World) (hl : xs.length = n * 4) (hc : ∀ j u, xs[j]? = some u → w.cell? (a.add j) = some u) (h1 : ∀ u ∈ xs, u.oneCell' = true) (hn : n ≤ 1000000) (_hnc : n ≤ c) (_hcm : c ≤ maxLen) :
    Calls Tryd.prog 28 #[.slice (some a) n c] w fun e w' => ∃ v', e = .returned v' ∧ w'.ownsRow w.heap.size 28 4 v' n xs ∧ Below w.heap.size w w' := by
  have q := eqNilI
  have hb0 : Below w.heap.size w (w.alloc (.cells #[] 28)) := (Below.refl _ _).alloc (Nat.le_refl _) _
  obtain ⟨v', w1, hr, ho, hg, _⟩ := append_rows (c := c) (ty := 24) (t := 24) inInfo Tryd.underlying24 rfl (by decide) (World.ownsRow_made w (size := 4) (base := w.heap.size) (e := 28) #[] 0 (Nat.le_refl _) (Nat.zero_le _) rfl)
    hl (fun j u hu => (hb0.cell (World.block_lt_of_cell? w _ (hc j u hu))).trans (hc j u hu)) h1 (by omega) (by omega) (by simp)
  have HR := Lib.hid hr
  have fin : w1.ownsRow w.heap.size 28 4 v' n xs ∧ Below w.heap.size w w1 := by
    refine ⟨by simpa using ho, hb0.grown hg (by simp) (by intro k hk; simp [Value.ownBlock] at hk; omega)⟩
  have FIN := Lib.hid fin
  clear hr ho hg fin hc h1 hb0 hl
  unfold maxLen at _hcm
  go_enter Tryd.func28, Tryd.ntmps28
  go_wp2_with (at_builtin; refine wpList_append_known rfl (.tmp 5) (.tmp 6) 24 24 (by rfl) _ _ _ (by rfl) (by rfl) HR.out ?_)
  go_ret
  exact ⟨v', rfl, FIN.out⟩
set_option maxHeartbeats 2000000 in
set_option maxRecDepth 100000 in
theorem cloneFu (a : Addr) (n c : Nat) (xs : List Value) (w : World) (hl : xs.length = n * 2) (hc : ∀ j u, xs[j]? = some u → w.cell? (a.add j) = some u) (h1 : ∀ u ∈ xs, u.oneCell' = true) (hn : n ≤ 1000000) (_hnc : n ≤ c) (_hcm : c ≤ maxLen) :
    Calls Tryd.prog 27 #[.slice (some a) n c] w fun e w' => ∃ v', e = .returned v' ∧ w'.ownsRow w.heap.size 44 2 v' n xs ∧ Below w.heap.size w w' := by
  have q := eqNilFu
  have hb0 : Below w.heap.size w (w.alloc (.cells #[] 44)) := (Below.refl _ _).alloc (Nat.le_refl _) _
  obtain ⟨v', w1, hr, ho, hg, _⟩ := append_rows (c := c) (ty := 45) (t := 45) fuInfo Tryd.underlying45 rfl (by decide) (World.ownsRow_made w (size := 2) (base := w.heap.size) (e := 44) #[] 0 (Nat.le_refl _) (Nat.zero_le _) rfl)
    hl (fun j u hu => (hb0.cell (World.block_lt_of_cell? w _ (hc j u hu))).trans (hc j u hu)) h1 (by omega) (by omega) (by simp)
  have HR := Lib.hid hr
  have fin : w1.ownsRow w.heap.size 44 2 v' n xs ∧ Below w.heap.size w w1 := by
    refine ⟨by simpa using ho, hb0.grown hg (by simp) (by intro k hk; simp [Value.ownBlock] at hk; omega)⟩
  have FIN := Lib.hid fin
  clear hr ho hg fin hc h1 hb0 hl
  unfold maxLen at _hcm
  go_enter Tryd.func27, Tryd.ntmps27
  go_wp2_with (at_builtin; refine wpList_append_known rfl (.tmp 5) (.tmp 6) 45 45 (by rfl) _ _ _ (by rfl) (by rfl) HR.out ?_)
  go_ret
  exact ⟨v', rfl, FIN.out⟩

theorem madeFu (W : World) : (Instr.makeSlice 45 (.int .i64 0) (.int .i64 0)).run Tryd.prog W = .ok (.slice (some ⟨W.heap.size, 0, none⟩) 0 0) (W.alloc (.cells #[] 44)) := by
  obtain ⟨i0, hi0, hz0, hz1, hz2⟩ := info_parts fuInfo
  have h := run_make (P := Tryd.prog) W 45 44 i0 _ Tryd.underlying45 hi0 hz0 .i64 .i64 0 0 (by omega) (by omega) (by rw [hz2]; omega) (by omega)
  have e : madeCells (Value.agg #[Value.int .i64 0, Value.slice none 0 0]).cells (Int.toNat 0 * i0.size) = #[] := by
    rw [show Int.toNat 0 * i0.size = 0 by simp]
    simp [madeCells]
  rw [h, e]
  rfl

set_option maxHeartbeats 1000000 in
set_option maxRecDepth 100000 in
theorem vouched_none (w : World) : Calls Tryd.prog 15 #[.slice none 0 0] w fun e w' => ∃ g, e = .returned (.slice (some ⟨g, 0, none⟩) 0 0) ∧ w'.ownsRow w.heap.size 44 2 (.slice (some ⟨g, 0, none⟩) 0 0) 0 [] ∧ Below w.heap.size w w' := by
  have mk := madeFu
  have hf : (w.alloc (.cells #[] 44)).ownsRow w.heap.size 44 2 (.slice (some ⟨w.heap.size, 0, none⟩) 0 0) 0 [] := World.ownsRow_made w (size := 2) (base := w.heap.size) (e := 44) #[] 0 (Nat.le_refl _) (Nat.zero_le _) rfl
  have HF := Lib.hid hf
  clear hf
  go_enter Tryd.func15, Tryd.ntmps15
  go_wp2_with fail
  refine wp_loop_rounds 1 ?_
  rw [rounds_succ]
  go_wp2_with fail
  go_ret
  exact ⟨_, rfl, HF.out.alloc _, ((Below.refl _ _).alloc (Nat.le_refl _) _).alloc (by simp) _⟩

theorem CsIn_get (l : List CodM.Ins) (j i : Nat) (x : CodM.Ins) (hx : l[j]? = some x) (hi : i < 4) : (CsIn l)[j * 4 + i]? = (inC x)[i]? := flat_get inC 4 (fun _ => rfl) l j i x hx hi
theorem CsIn_of {w : World} {b off : Nat} {l : List CodM.Ins} (h : Oc.InsC w b off l) : ∀ (j : Nat) (u : Value), (CsIn l)[j]? = some u → w.cell? ((⟨b, off, none⟩ : Addr).add j) = some u := by
  intro j u hu
  have hj : j < l.length * 4 := by rw [← CsIn_length]; exact (List.getElem?_eq_some_iff.1 hu).1
  have hlt : j / 4 < l.length := by omega
  have hx : l[j / 4]? = some l[j / 4] := List.getElem?_eq_getElem hlt
  obtain ⟨h1, h2, h3, h4⟩ := h _ _ hx
  have e := CsIn_get l (j / 4) (j % 4) _ hx (by omega)
  rw [show j / 4 * 4 + j % 4 = j by omega, hu] at e
  rw [add_none]
  have hm : j % 4 = 0 ∨ j % 4 = 1 ∨ j % 4 = 2 ∨ j % 4 = 3 := by omega
  rcases hm with hm | hm | hm | hm
  · rw [hm] at e
    rw [show off + j = off + j / 4 * 4 by omega, h1, e]
    rfl
  · rw [hm] at e
    rw [show off + j = off + j / 4 * 4 + 1 by omega, h2, e]
    rfl
  · rw [hm] at e
    rw [show off + j = off + j / 4 * 4 + 2 by omega, h3, e]
    rfl
  · rw [hm] at e
    rw [show off + j = off + j / 4 * 4 + 3 by omega, h4, e]
    rfl
theorem InsC_of {w : World} {base g n cap : Nat} {l : List CodM.Ins} (h : w.ownsRow base 28 4 (.slice (some ⟨g, 0, none⟩) n cap) n (CsIn l)) (hn : l.length = n) : Oc.InsC w g 0 l := by
  subst hn
  intro j x hx
  have hj := (List.getElem?_eq_some_iff.1 hx).1
  have e := fun i (hi : i < 4) => (h.cellAt (j * 4 + i) (by omega)).trans (CsIn_get l j i x hx hi)
  simp only [Nat.zero_add]
  exact ⟨(e 0 (by omega)).trans rfl, (e 1 (by omega)).trans rfl, (e 2 (by omega)).trans rfl, (e 3 (by omega)).trans rfl⟩

/-- Functions as they are handed in: each is there, its code as well. -/
structure FIn (w : World) (b off : Nat) (fs : List CodM.Fun) (ps : List (Int × Value)) : Prop where
  len : ps.length = fs.length
  cells : ∀ (j : Nat) (p : Int × Value), ps[j]? = some p → w.cell? ⟨b, off + j * 2, none⟩ = some (.int .i64 p.1) ∧ w.cell? ⟨b, off + j * 2 + 1, none⟩ = some p.2
  fun_ : ∀ (j : Nat) (f : CodM.Fun), fs[j]? = some f → ∃ b2 off2 c2, ps[j]? = some (f.caps, .slice (some ⟨b2, off2, none⟩) f.code.length c2) ∧ 0 < f.code.length ∧ f.code.length ≤ c2 ∧ c2 ≤ maxLen ∧ Oc.InsC w b2 off2 f.code
/-- Functions that have been copied: their codes lie at or above a bound. -/
def FOut (w : World) (lo : Nat) (fs : List CodM.Fun) (ps : List (Int × Value)) : Prop :=
  ps.length = fs.length ∧ ∀ (j : Nat) (f : CodM.Fun), fs[j]? = some f → ∃ g c2, ps[j]? = some (f.caps, .slice (some ⟨g, 0, none⟩) f.code.length c2) ∧ 0 < f.code.length ∧ f.code.length ≤ c2 ∧ c2 ≤ maxLen ∧ lo ≤ g ∧ TgB w g 28 ∧ Oc.InsC w g 0 f.code
theorem CsFu_get (l : List (Int × Value)) (j i : Nat) (x : Int × Value) (hx : l[j]? = some x) (hi : i < 2) : (CsFu l)[j * 2 + i]? = (fuC x)[i]? := flat_get fuC 2 (fun _ => rfl) l j i x hx hi

theorem FOut.next {w w' : World} {lo : Nat} {fs : List CodM.Fun} {ps : List (Int × Value)} (h : FOut w lo fs ps) (hk : ∀ q, TgB w q 28 → w'.heap[q]? = w.heap[q]?) : FOut w' lo fs ps := by
  refine ⟨h.1, fun j f hf => ?_⟩
  obtain ⟨g, c2, h1, h2, h3, h4, h5, h6, h7⟩ := h.2 j f hf
  have e := hk g h6
  obtain ⟨cur, hc⟩ := h6
  exact ⟨g, c2, h1, h2, h3, h4, h5, ⟨cur, e.trans hc⟩, fun j x hx => by
    obtain ⟨i1, i2, i3, i4⟩ := h7 j x hx
    exact ⟨(World.cell?_of_block (a := ⟨g, 0 + j * 4, none⟩) e).trans i1, (World.cell?_of_block (a := ⟨g, 0 + j * 4 + 1, none⟩) e).trans i2, (World.cell?_of_block (a := ⟨g, 0 + j * 4 + 2, none⟩) e).trans i3, (World.cell?_of_block (a := ⟨g, 0 + j * 4 + 3, none⟩) e).trans i4⟩⟩
theorem FOut.snoc {w : World} {lo g c2 : Nat} {fs : List CodM.Fun} {ps : List (Int × Value)} {f : CodM.Fun} (h : FOut w lo fs ps) (h2 : 0 < f.code.length) (h3 : f.code.length ≤ c2) (h4 : c2 ≤ maxLen) (h5 : lo ≤ g) (h6 : TgB w g 28) (h7 : Oc.InsC w g 0 f.code) : FOut w lo (fs ++ [f]) (ps ++ [(f.caps, .slice (some ⟨g, 0, none⟩) f.code.length c2)]) := by
  refine ⟨by simp [h.1], fun j f' hf => ?_⟩
  by_cases hj : j < fs.length
  · rw [List.getElem?_append_left hj] at hf
    obtain ⟨g', c', e1, e2⟩ := h.2 j f' hf
    exact ⟨g', c', by rw [List.getElem?_append_left (by rw [h.1]; exact hj)]; exact e1, e2⟩
  · have hl := (List.getElem?_eq_some_iff.1 hf).1
    simp at hl
    obtain rfl : j = fs.length := by omega
    simp at hf
    subst hf
    exact ⟨g, c2, by rw [← h.1]; simp, h2, h3, h4, h5, h6, h7⟩
theorem CsFu_app (a b : List (Int × Value)) : CsFu (a ++ b) = CsFu a ++ CsFu b := by simp [CsFu]
theorem CsFu_set (a b : List (Int × Value)) (p : Int × Value) (u : Value) : (CsFu (a ++ p :: b)).set (a.length * 2 + 1) u = CsFu (a ++ [(p.1, u)] ++ b) := by
  rw [CsFu_app, List.set_append_right _ _ (by rw [CsFu_length]; omega), CsFu_length, Nat.add_sub_cancel_left, List.append_assoc, CsFu_app]
  rfl

set_option maxHeartbeats 4000000 in
set_option maxRecDepth 100000 in
theorem copied_t (b off c : Nat) (fs : List CodM.Fun) (ps : List (Int × Value)) (w : World) (h : FIn w b off fs ps) (hn : fs.length ≤ 1000) (h0 : 0 < fs.length) (hc : fs.length ≤ c) (hcm : c ≤ maxLen) (hcode : ∀ f ∈ fs, f.code.length ≤ 100000) (hone : ∀ x : CodM.Ins, ∀ u ∈ inC x, u.oneCell' = true) :
    Calls Tryd.prog 16 #[.slice (some ⟨b, off, none⟩) fs.length c] w fun e w' => ∃ v' ps', e = .returned v' ∧ w'.ownsRow w.heap.size 44 2 v' fs.length (CsFu ps') ∧ FOut w' w.heap.size fs ps' ∧ Below w.heap.size w w' := by
  have hcs : ∀ (j : Nat) (u : Value), (CsFu ps)[j]? = some u → w.cell? ((⟨b, off, none⟩ : Addr).add j) = some u := by
    intro j u hu
    have hj : j < ps.length * 2 := by rw [← CsFu_length]; exact (List.getElem?_eq_some_iff.1 hu).1
    have hx : ps[j / 2]? = some (ps[j / 2]'(by omega)) := List.getElem?_eq_getElem (by omega)
    obtain ⟨c1, c2⟩ := h.cells _ _ hx
    have e := CsFu_get ps (j / 2) (j % 2) _ hx (by omega)
    rw [show j / 2 * 2 + j % 2 = j by omega, hu] at e
    rw [add_none]
    have hm : j % 2 = 0 ∨ j % 2 = 1 := by omega
    rcases hm with hm | hm
    · rw [hm] at e
      rw [show off + j = off + j / 2 * 2 by omega, c1, e]
      rfl
    · rw [hm] at e
      rw [show off + j = off + j / 2 * 2 + 1 by omega, c2, e]
      rfl
  have hone2 : ∀ u ∈ CsFu ps, u.oneCell' = true := by
    intro u hu
    obtain ⟨p, hp, hu⟩ := List.mem_flatMap.1 hu
    obtain ⟨j, hj⟩ := List.getElem?_of_mem hp
    have hlt : j < fs.length := by rw [← h.len]; exact (List.getElem?_eq_some_iff.1 hj).1
    obtain ⟨b2, off2, c2, e, _⟩ := h.fun_ j fs[j] (List.getElem?_eq_getElem hlt)
    rw [hj] at e
    injection e with e
    subst e
    simp only [fuC, List.mem_cons, List.not_mem_nil, or_false] at hu
    rcases hu with rfl | rfl <;> rfl
  have HCL := Lib.hid (cloneFu ⟨b, off, none⟩ fs.length c (CsFu ps) w (by rw [CsFu_length, h.len]) hcs hone2 (by omega) hc hcm)
  have hni : (fs.length : Int) ≤ 1000 := by omega
  have H := Lib.hid h
  have HON := Lib.hid hone
  have HCD := Lib.hid hcode
  clear h hcs hone2 hone hcode
  unfold maxLen at hcm
  go_enter Tryd.func16, Tryd.ntmps16
  go_wp2_with fail
  refine HCL.out.mono ?_
  rintro e w1 ⟨v', rfl, ho, hb⟩
  obtain ⟨g1, k1, rfl, hk1, hm1, hg1, hg1l⟩ := own_some ho h0
  have HST := Lib.hid (And.intro ho hb)
  clear ho hb HCL
  unfold maxLen at hm1
  go_wp2_with fail
  go_loopw [10] (fun i wr => ∃ (k : Nat) (qs : List (Int × Value)), k ≤ fs.length ∧ i = .int .i64 k ∧ qs.length = k ∧ wr.ownsRow w.heap.size 44 2 (.slice (some ⟨g1, 0, none⟩) fs.length k1) fs.length (CsFu (qs ++ ps.drop k)) ∧ FOut wr w.heap.size (fs.take k) qs ∧ Below w.heap.size w wr) (fun i _ => fs.length - (intOf i).toNat)
  case atStart => exact ⟨0, [], Nat.zero_le _, rfl, rfl, by simpa using HST.out.1, ⟨rfl, fun j f hf => by simp at hf⟩, HST.out.2⟩
  case round =>
    obtain ⟨k, qs, hk, rfl, hql, hown, hout, hb⟩ := hrel
    clear HST
    by_cases hlt : k < fs.length
    · have hki : (k : Int) < (fs.length : Int) := by omega
      have hkl : (k : Int) ≤ 1000 := by omega
      have hf : fs[k]? = some fs[k] := List.getElem?_eq_getElem hlt
      obtain ⟨b2, off2, c2, hpk, hc0, hcc2, hcm2, hI⟩ := H.out.fun_ k _ hf
      obtain ⟨e0, e1⟩ := H.out.cells k _ hpk
      have hcode := HCD.out _ (List.getElem_mem hlt)
      have htake := List.take_succ_eq_append_getElem hlt
      have hdrop : ps.drop k = (fs[k].caps, .slice (some ⟨b2, off2, none⟩) fs[k].code.length c2) :: ps.drop (k + 1) := by
        rw [List.drop_eq_getElem_cons (by rw [H.out.len]; exact hlt)]
        congr 1
        have := List.getElem?_eq_getElem (l := ps) (i := k) (by rw [H.out.len]; exact hlt)
        rw [hpk] at this
        injection this with this
        exact this.symm
      have d0 := (hb.cell (p := ⟨b, off + k * 2, none⟩) (World.block_lt_of_cell? w _ e0)).trans e0
      have d1 := (hb.cell (p := ⟨b, off + k * 2 + 1, none⟩) (World.block_lt_of_cell? w _ e1)).trans e1
      generalize fs[k] = f at *
      have HCI := Lib.hid fun (W : World) (hW : Below wr.heap.size wr W) => cloneI ⟨b2, off2, none⟩ f.code.length c2 (CsIn f.code) W (CsIn_length _) (fun j u hu => ((hb.trans (hW.mono hb.size)).cell (World.block_lt_of_cell? w _ (CsIn_of hI j u hu))).trans (CsIn_of hI j u hu)) (fun u hu => by obtain ⟨x, _, hx⟩ := List.mem_flatMap.1 hu; exact HON.out x u hx) (by omega) hcc2 hcm2
      have HA := Lib.hid (And.intro hown (And.intro hout hb))
      have HDR := Lib.hid hdrop
      have HTK := Lib.hid htake
      have HF := Lib.hid hf
      clear hown hout hb e0 e1 hpk hI hdrop htake hf
      unfold maxLen at hcm2
      go_wp2_with fail
      refine (HCI.out _ ((Below.refl _ _).alloc (Nat.le_refl _) _)).mono ?_
      rintro e w3 ⟨v3, rfl, ho3, hb3⟩
      obtain ⟨g3, k3, rfl, hk3, hm3, hg3, hg3l⟩ := own_some ho3 hc0
      have hba : Below wr.heap.size wr w3 := ((Below.refl _ wr).alloc (Nat.le_refl _) _).trans (hb3.mono (by simp))
      have hown3 := own_kept HA.out.1 (Below.kept hba fun _ h _ => h) (fun q a => by have := (HA.out.1.lt q a).2; omega)
      have hst := (hown3.stored (k * 2 + 1) (.slice (some ⟨g3, 0, none⟩) f.code.length k3)).1
      rw [HDR.out] at hst
      have hset := CsFu_set qs (ps.drop (k + 1)) (f.caps, .slice (some ⟨b2, off2, none⟩) f.code.length c2) (.slice (some ⟨g3, 0, none⟩) f.code.length k3)
      rw [hql] at hset
      rw [hset] at hst
      have hcell : w3.cell? ⟨g1, k * 2 + 1, none⟩ = some (.slice (some ⟨b2, off2, none⟩) f.code.length c2) := by
        rw [hown3.cellAt (k * 2 + 1) (by omega), HDR.out, CsFu_app, List.getElem?_append_right (by rw [CsFu_length, hql]; omega), CsFu_length, hql, Nat.add_sub_cancel_left]
        rfl
      obtain ⟨cur1, hcur1⟩ := own_tag hown3 g1 rfl
      have hfr := frozen_of_row w3 g1 (k * 2 + 1) _ _ hcur1
      have hgl : wr.heap.size ≤ g3 := Nat.le_trans (by simp) hg3
      have hg1w : g1 < wr.heap.size := by have := (HA.out.1.lt g1 rfl).2; exact this
      have hne : g3 ≠ g1 := by omega
      have hfo := (HA.out.2.1.next (w' := w3.setCell ⟨g1, k * 2 + 1, none⟩ (.slice (some ⟨g3, 0, none⟩) f.code.length k3)) (fun q hq => by
        have hq1 : q < wr.heap.size := by obtain ⟨_, hc⟩ := hq; exact lt_of_block hc
        rw [heap_setCell_other _ _ _ _ (by
          rintro rfl
          exact (own_tag HA.out.1 _ rfl).ne hq (by decide))]
        exact hba.block q hq1)).snoc (f := f) hc0 hk3 hm3 (by have := HA.out.2.2.size; omega : w.heap.size ≤ g3) ((own_tag ho3 g3 rfl).setCell _ _ _) (by
          intro j x hx
          have e3 : (w3.setCell ⟨g1, k * 2 + 1, none⟩ (.slice (some ⟨g3, 0, none⟩) f.code.length k3)).heap[g3]? = w3.heap[g3]? := heap_setCell_other _ _ _ _ hne
          obtain ⟨i1, i2, i3, i4⟩ := InsC_of ho3 rfl j x hx
          exact ⟨(World.cell?_of_block (a := ⟨g3, 0 + j * 4, none⟩) e3).trans i1, (World.cell?_of_block (a := ⟨g3, 0 + j * 4 + 1, none⟩) e3).trans i2, (World.cell?_of_block (a := ⟨g3, 0 + j * 4 + 2, none⟩) e3).trans i3, (World.cell?_of_block (a := ⟨g3, 0 + j * 4 + 3, none⟩) e3).trans i4⟩)
      rw [← HTK.out] at hfo
      have hbf : Below w.heap.size w (w3.setCell ⟨g1, k * 2 + 1, none⟩ (.slice (some ⟨g3, 0, none⟩) f.code.length k3)) := (HA.out.2.2.trans (hba.mono HA.out.2.2.size)).setCell hg1 _
      have FIN := Lib.hid (And.intro hst (And.intro hfo hbf))
      unfold maxLen at hm3
      clear ho3 hb3 hba hown3 hst hset hfo hbf hcur1 hne
      go_wp2_with fail
      exact ⟨⟨k + 1, qs ++ [(f.caps, .slice (some ⟨g3, 0, none⟩) f.code.length k3)], by omega, by go_num, by simp [hql], FIN.out.1, FIN.out.2.1, FIN.out.2.2⟩, by simp [intOf]; omega⟩
    · obtain rfl : k = fs.length := by omega
      have hki : ¬ (fs.length : Int) < (fs.length : Int) := by omega
      rw [List.take_of_length_le (Nat.le_refl _)] at hout
      rw [List.drop_of_length_le (by rw [H.out.len]; exact Nat.le_refl _), List.append_nil] at hown
      have FIN := Lib.hid (And.intro hown (And.intro hout hb))
      clear hown hout hb
      go_wp2_with fail
      go_ret
      exact ⟨_, rfl, qs, FIN.out.1, FIN.out.2.1, FIN.out.2.2⟩
end Go.Proofs.YtpmbdncackneoaaDoor
