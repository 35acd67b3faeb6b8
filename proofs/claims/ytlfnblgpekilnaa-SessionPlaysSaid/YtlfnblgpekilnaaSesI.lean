/- Sessions: slices.Insert of one session. -/
import Derived.Test.YtlfnblgpekilnaaSesA
namespace Go.Proofs.Ytlfnblgpekilnaa
open Go.RowKit OctM

/-- What Insert leaves. -/
def InsP (w : World) (base : Nat) (v : Value) (n : Nat) (ys : List Value) (e : Ending) (w' : World) : Prop :=
  ∃ v', e = .returned v' ∧ w'.ownsRow base 60 3 v' (n + 1) ys ∧ w.grownBy w' v.ownBlock ∧ (v'.ownBlock = v.ownBlock ∨ v'.ownBlock = some w.heap.size)

set_option maxHeartbeats 4000000 in
set_option maxRecDepth 100000 in
theorem ins_end (n : Nat) (v : Value) (xs news : List Value) (xb base : Nat) (w : World) (h : w.ownsRow base 60 3 v n xs) (hn : n ≤ 1000) (hx : w.heap[xb]? = some (.cells news.toArray 60 (0, 0))) (hnl : news.length = 3)
    (h2 : ∀ u ∈ news, u.oneCell' = true) (hbase : base ≤ w.heap.size) :
    Calls Try.prog 21 #[v, .int .i64 (n : Int), .slice (some ⟨xb, 0, none⟩) 1 1] w (InsP w base v n (xs ++ news)) := by
  obtain ⟨i0, hi0, hz0, hz1, hz2⟩ := info_parts ansInfo
  have sz := sizeAns
  have hap := run_append_own_at (P := Try.prog) w base 53 53 60 i0 _ 3 40 (by kernel_rfl) hi0 hz0 hz1 hz2 rfl (by decide) v n xs h ⟨xb, 0, none⟩ 1 1 news (by omega) (fun j u hu => by
    rw [add_none, Nat.zero_add]
    exact cellk hx (by simpa using hu)) h2 (by unfold maxLen; omega) (by omega) hbase
  obtain ⟨v', w', hr, ho, hg, -, hat⟩ := hap
  have HRUN := Lib.hid hr
  have HFIN := Lib.hid (show w'.ownsRow base 60 3 v' (n + 1) (xs ++ news) ∧ w.grownBy w' v.ownBlock ∧ (v'.ownBlock = v.ownBlock ∨ v'.ownBlock = some w.heap.size) from ⟨ho, hg, hat⟩)
  rcases h.2 with ⟨rfl, rfl⟩ | ⟨g, c, cur, rfl, hb, hgc, hnc, hcm, -⟩
  · clear h hx h2 hr ho hg hat
    go_enter Try.func21, Try.ntmps21
    go_wp2_with (at_builtin; refine wpList_append_known rfl (.tmp 23) (.tmp 24) 53 53 (by rfl) (.slice none 0 0) _ _ (by rfl) (by rfl) HRUN.out ?_)
    go_ret
    exact ⟨_, rfl, HFIN.out⟩
  · have hc2 : c ≤ 9223372036854775807 := by unfold maxLen at hcm; omega
    clear h hx h2 hr ho hg hat hgc
    by_cases hcn : c = n
    · subst hcn
      go_enter Try.func21, Try.ntmps21
      go_wp2_with (at_builtin; refine wpList_append_known rfl (.tmp 23) (.tmp 24) 53 53 (by rfl) (.slice (some ⟨g, 0, none⟩) c c) _ _ (by rfl) (by rfl) HRUN.out ?_)
      go_ret
      exact ⟨_, rfl, HFIN.out⟩
    · go_enter Try.func21, Try.ntmps21
      go_wp2_with (at_builtin; refine wpList_append_known rfl (.tmp 23) (.tmp 24) 53 53 (by rfl) (.slice (some ⟨g, 0, none⟩) n c) _ _ (by rfl) (by rfl) HRUN.out ?_)
      go_ret
      exact ⟨_, rfl, HFIN.out⟩

/-- A copy whose run is known, in a plain list of operations. -/
theorem wpList_copy_known {P : Program} {w w' : World} {ops : Array Oper} {rest : List Oper} {o : Oper} {a : Act} {Q : Exit → Act → World → Prop} (hgd : o.guard = none) (s x : Operand) (t u : TypeId)
    (ho : o.op = .call { callee := .builtin .copy, args := #[s, x], argTypes := #[t, u] }) (v y v' : Value) (hs : a.eval s = v) (hx : a.eval x = y)
    (hr : (Builtin.copy_ #[t, u] o.type #[v, y]).run P w = .ok v' w') (h : wpList P ops Q rest (a.put o.dst v') w') : wpList P ops Q (o :: rest) a w := by
  refine wpList_plain hgd fun K hK => ?_
  unfold Oper.wp execOp
  simp only [ho, resolve, invoke, builtin, Sem.run_bind, Sem.run_pure, Result.andThen_ok, List.map_toArray, List.map_cons, List.map_nil, hs, hx, hr]
  exact hK _ _ h
/-- .. and in a region that draws. -/
theorem step_copy_known {P : Program} {w w' : World} {ops : Array Oper} {o : Oper} {a : Act} {K : Act → World → Prop} {Q : Exit → Act → World → Prop} {E : Prop} (hgd : o.guard = none) (s x : Operand) (t u : TypeId)
    (ho : o.op = .call { callee := .builtin .copy, args := #[s, x], argTypes := #[t, u] }) (v y v' : Value) (hs : a.eval s = v) (hx : a.eval x = y)
    (hr : (Builtin.copy_ #[t, u] o.type #[v, y]).run P w = .ok v' w') (h : K (a.put o.dst v') w') : if Region.wanted o (yielded ops a.tmps) = true then Oper.wp P o a w K Q else E := by
  have hw : Region.wanted o (yielded ops a.tmps) = true := by simp [Region.wanted, hgd]
  rw [if_pos hw]
  unfold Oper.wp execOp
  simp only [ho, resolve, invoke, builtin, Sem.run_bind, Sem.run_pure, Result.andThen_ok, List.map_toArray, List.map_cons, List.map_nil, hs, hx, hr]
  exact h

/-- Cells moved up by three, and three laid in. -/
theorem shift_cells (C xs news : List Value) (i n : Nat) (hC : (n + 1) * 3 ≤ C.length) (hi : i < n) (hx : C.take (n * 3) = xs) (hn : news.length = 3) (C1 C2 : List Value)
    (h1 : C1 = C.take ((i + 1) * 3) ++ xs.drop (i * 3) ++ C.drop ((i + 1) * 3 + (xs.drop (i * 3)).length)) (h2 : C2 = C1.take (i * 3) ++ news ++ C1.drop (i * 3 + news.length)) :
    C1.length = C.length ∧ C2.length = C.length ∧ C2.take ((n + 1) * 3) = xs.take (i * 3) ++ news ++ xs.drop (i * 3) := by
  have hxl : xs.length = n * 3 := by rw [← hx, List.length_take]; omega
  have hl1 : C1.length = C.length := by
    rw [h1]; simp only [List.length_append, List.length_take, List.length_drop]; omega
  have hl2 : C2.length = C.length := by
    rw [h2]; simp only [List.length_append, List.length_take, List.length_drop]; omega
  have e1 : C1.take (i * 3) = xs.take (i * 3) := by
    rw [h1, List.append_assoc, List.take_append_of_le_length (by rw [List.length_take]; omega), List.take_take, ← hx, List.take_take]
    congr 1; omega
  have e2 : C1.drop (i * 3 + news.length) = xs.drop (i * 3) ++ C.drop ((i + 1) * 3 + (xs.drop (i * 3)).length) := by
    rw [h1, hn, show i * 3 + 3 = (C.take ((i + 1) * 3)).length by rw [List.length_take]; omega, List.append_assoc, List.drop_left]
  refine ⟨hl1, hl2, ?_⟩
  rw [h2, e1, e2, ← List.append_assoc]
  rw [List.take_append_of_le_length (by simp only [List.length_append, List.length_take, List.length_drop]; omega)]
  exact List.take_of_length_le (by simp only [List.length_append, List.length_take, List.length_drop]; omega)

theorem grown_sets {w : World} {g : Nat} (cs1 cs2 : Array Value) : w.grownBy ((w.drew.setRow g cs1).setRow g cs2) (some g) :=
  ⟨rfl, rfl, rfl, by simp [World.setRow], fun k hk hne => by
    rw [setRow_other _ g k _ (fun e => hne (by rw [e])), setRow_other _ g k _ (fun e => hne (by rw [e])), ]
    rfl⟩

theorem hov_any (w : World) {g xb : Nat} {cur news : Array Value} (hg : w.heap[g]? = some (.cells cur 60 (0, 0))) (hx : w.heap[xb]? = some (.cells news 60 (0, 0))) (hne : xb ≠ g) (hc : cur.size ≠ 0) (o lb cb : Nat) :
    (callFunc 40 #[.slice (some ⟨xb, 0, none⟩) 1 1, .slice (some ⟨g, o, none⟩) lb cb]).run Try.prog w = .ok (.value (.bool false)) w := by
  rw [run_callFunc_extern Try.func40 (by kernel_rfl) (by kernel_rfl) (by kernel_rfl) (e := Extern.SlicesOverlaps.overlaps #[53, 53] #[4]) (by kernel_rfl),
    Lib.run_overlaps_apart w 53 4 60 Try.underlying53 3 sizeAns ⟨xb, 0, none⟩ ⟨g, o, none⟩ 1 1 lb cb hne 60 60 news.size cur.size (by simp [World.shape?, hx]) (by simp [World.shape?, hg]) hc (free_of hx 0) (free_of hx _)]
  rfl

set_option maxHeartbeats 4000000 in
set_option maxRecDepth 100000 in
theorem ins_shift (i n g c : Nat) (xs news : List Value) (xb base : Nat) (w : World) (h : w.ownsRow base 60 3 (.slice (some ⟨g, 0, none⟩) n c) n xs) (hi : i < n) (hroom : n + 1 ≤ c) (hn : n ≤ 1000) (hx : w.heap[xb]? = some (.cells news.toArray 60 (0, 0))) (hnl : news.length = 3)
    (hne : xb ≠ g) (h1 : ∀ u ∈ xs, u.oneCell' = true) (h2 : ∀ u ∈ news, u.oneCell' = true) :
    Calls Try.prog 21 #[.slice (some ⟨g, 0, none⟩) n c, .int .i64 (i : Int), .slice (some ⟨xb, 0, none⟩) 1 1] w (InsP w base (.slice (some ⟨g, 0, none⟩) n c) n (xs.take (i * 3) ++ news ++ xs.drop (i * 3))) := by
  have hxl := h.1
  rcases h.2 with ⟨hv, _⟩ | ⟨g', c', cur, hv, hb, hgc, hnc, hcm, hsz, htk⟩
  · cases hv
  injection hv with hv _ hc'
  injection hv with hv
  injection hv with hv _ _
  subst hv hc'
  have hc2 : c ≤ 9223372036854775807 := by unfold maxLen at hcm; omega
  have hsz' : cur.toList.length = c * 3 := by simpa using hsz
  obtain ⟨C1, hC1⟩ : ∃ C1, C1 = cur.toList.take ((i + 1) * 3) ++ xs.drop (i * 3) ++ cur.toList.drop ((i + 1) * 3 + (xs.drop (i * 3)).length) := ⟨_, rfl⟩
  obtain ⟨C2, hC2⟩ : ∃ C2, C2 = C1.take (i * 3) ++ news ++ C1.drop (i * 3 + news.length) := ⟨_, rfl⟩
  obtain ⟨hl1, hl2, hl3⟩ := shift_cells cur.toList xs news i n (by omega) hi htk hnl C1 C2 hC1 hC2
  have hrow1 := setRow_heap w.drew g cur C1.toArray 60 (0, 0) hgc
  have hrow2 := setRow_heap (w.drew.setRow g C1.toArray) g C1.toArray C2.toArray 60 (0, 0) hrow1
  have HFIN := Lib.hid (show InsP w base (.slice (some ⟨g, 0, none⟩) n c) n (xs.take (i * 3) ++ news ++ xs.drop (i * 3)) (.returned (.slice (some ⟨g, 0, none⟩) (n + 1) c)) ((w.drew.setRow g C1.toArray).setRow g C2.toArray) from
    ⟨_, rfl, ⟨by simp only [List.length_append, List.length_take, List.length_drop]; omega, .inr ⟨g, c, C2.toArray, rfl, hb, hrow2, hroom, hcm, by simpa using by omega, by simpa using hl3⟩⟩, grown_sets _ _, .inl rfl⟩)
  have hov := hov_any w hgc hx hne (by intro e; rw [e] at hsz; omega)
  have hcp1 : ∀ ty d1 d2, (Builtin.copy_ #[53, 53] ty #[.slice (some ⟨g, (i + 1) * 3, none⟩) (n - i) d1, .slice (some ⟨g, i * 3, none⟩) (n + 1 - i) d2]).run Try.prog w.drew = .ok (goInt (Nat.min (n + 1 - i) (n - i))) (w.drew.setRow g C1.toArray) := fun ty d1 d2 => by
    rw [run_copy_rowK 3 w.drew 53 53 ty 60 g ((i + 1) * 3) (n - i) d1 ⟨g, i * 3, none⟩ (n + 1 - i) d2 cur 60 (xs.drop (i * 3)) Try.underlying53 (by kernel_rfl) hgc
      (by rw [List.length_drop, hxl]; simp only [Nat.min_def]; split <;> omega)
      (fun j u hj => by
        rw [add_none]
        rw [List.getElem?_drop, ← htk, List.getElem?_take] at hj
        split at hj
        · exact cellk (w := w.drew) hgc (by simpa using hj)
        · cases hj)
      (by rw [List.length_drop, hxl]; omega) (fun u hu => h1 u (List.mem_of_mem_drop hu)), ← hC1]
  have hcp2 : ∀ ty d1, (Builtin.copy_ #[53, 53] ty #[.slice (some ⟨g, i * 3, none⟩) (n + 1 - i) d1, .slice (some ⟨xb, 0, none⟩) 1 1]).run Try.prog (w.drew.setRow g C1.toArray) = .ok (goInt (Nat.min 1 (n + 1 - i))) ((w.drew.setRow g C1.toArray).setRow g C2.toArray) := fun ty d1 => by
    have hx1 : (w.drew.setRow g C1.toArray).heap[xb]? = some (.cells news.toArray 60 (0, 0)) := (setRow_other w.drew g xb _ hne).trans hx
    rw [run_copy_rowK 3 _ 53 53 ty 60 g (i * 3) (n + 1 - i) d1 ⟨xb, 0, none⟩ 1 1 C1.toArray 60 news Try.underlying53 (by kernel_rfl) hrow1
      (by rw [hnl]; simp only [Nat.min_def]; split <;> omega)
      (fun j u hj => by
        rw [add_none, Nat.zero_add]
        exact cellk hx1 (by simpa using hj))
      (by simp; omega) h2, show (C1.toArray).toList = C1 from rfl, ← hC2]
  have HCP1 := Lib.hid hcp1
  have HCP2 := Lib.hid hcp2
  have sz := sizeAns
  have i1 : ¬ ((i : Int) = (n : Int)) := by omega
  have i2 : ¬ (c : Int) < (n : Int) + 1 := by omega
  have i3 : ¬ (c = i) := by omega
  have i4 : ¬ (c = i + 1) := by omega
  have i5 : (i : Int) ≤ (n : Int) := by omega
  have wi : IntKind.i64.wrap ((i : Int) + 1) = (i : Int) + 1 := IntWalk.i64_in _ (by omega)
  have j1 : (0 : Int) ≤ (i : Int) + 1 := by omega
  have j3 : (i : Int) ≤ (n : Int) + 1 := by omega
  have htn : ((i : Int) + 1).toNat = i + 1 := by omega
  clear h hx h1 h2 hgc hsz hsz' htk hC1 hC2 hl1 hl2 hl3 hrow1 hrow2 hcp1 hcp2 hxl
  generalize xs.take (i * 3) ++ news ++ xs.drop (i * 3) = ys at *
  generalize hM1 : Nat.min (n + 1 - i) (n - i) = M1 at *
  generalize hM2 : Nat.min 1 (n + 1 - i) = M2 at *
  clear hM1 hM2
  go_enter Try.func21, Try.ntmps21
  go_wp2_with (simp only [hov])
  have hq := HCP1.out 3 (c - (i + 1)) (c - i)
  have hq2 := HCP2.out 3 (c - i)
  go_region
  go_wp2_with fail
  go_ret
  exact HFIN.out

/-- Cells of a new row: three laid in, and those behind. -/
theorem grow_cells (C xs news : List Value) (i n : Nat) (hC : (n + 1) * 3 ≤ C.length) (hi : i < n) (hxl : xs.length = n * 3) (hx : C.take (i * 3) = xs.take (i * 3)) (hn : news.length = 3) (C1 C2 : List Value)
    (h1 : C1 = C.take (i * 3) ++ news ++ C.drop (i * 3 + news.length)) (h2 : C2 = C1.take ((i + 1) * 3) ++ xs.drop (i * 3) ++ C1.drop ((i + 1) * 3 + (xs.drop (i * 3)).length)) :
    C1.length = C.length ∧ C2.length = C.length ∧ C2.take ((n + 1) * 3) = xs.take (i * 3) ++ news ++ xs.drop (i * 3) := by
  have hl1 : C1.length = C.length := by
    rw [h1]; simp only [List.length_append, List.length_take, List.length_drop]; omega
  have hl2 : C2.length = C.length := by
    rw [h2]; simp only [List.length_append, List.length_take, List.length_drop]; omega
  have e1 : C1.take ((i + 1) * 3) = xs.take (i * 3) ++ news := by
    rw [h1, hx, List.take_append_of_le_length (by simp only [List.length_append, List.length_take]; omega)]
    exact List.take_of_length_le (by simp only [List.length_append, List.length_take]; omega)
  refine ⟨hl1, hl2, ?_⟩
  rw [h2, e1, List.take_append_of_le_length (by simp only [List.length_append, List.length_take, List.length_drop]; omega)]
  exact List.take_of_length_le (by simp only [List.length_append, List.length_take, List.length_drop]; omega)

theorem grown_new {w : World} {o : Obj} {row : Option Nat} (cs1 cs2 : Array Value) : w.grownBy ((((w.drew.alloc o).setRow w.heap.size cs1).drew).setRow w.heap.size cs2) row :=
  ⟨rfl, rfl, rfl, by simp [World.setRow], fun k hk _ => by
    rw [setRow_other _ _ k _ (by omega)]
    show ((w.drew.alloc o).setRow w.heap.size cs1).heap[k]? = _
    rw [setRow_other _ _ k _ (by omega)]
    exact Below.heap_alloc w.drew o k hk⟩

set_option maxHeartbeats 4000000 in
set_option maxRecDepth 100000 in
theorem ins_grow (i n g : Nat) (xs news : List Value) (xb base : Nat) (w : World) (h : w.ownsRow base 60 3 (.slice (some ⟨g, 0, none⟩) n n) n xs) (hi : i < n) (hn : n ≤ 1000) (hx : w.heap[xb]? = some (.cells news.toArray 60 (0, 0))) (hnl : news.length = 3)
    (h1 : ∀ u ∈ xs, u.oneCell' = true) (h2 : ∀ u ∈ news, u.oneCell' = true) (hbase : base ≤ w.heap.size) :
    Calls Try.prog 21 #[.slice (some ⟨g, 0, none⟩) n n, .int .i64 (i : Int), .slice (some ⟨xb, 0, none⟩) 1 1] w (InsP w base (.slice (some ⟨g, 0, none⟩) n n) n (xs.take (i * 3) ++ news ++ xs.drop (i * 3))) := by
  have hxl := h.1
  have hcell : ∀ j u, xs[j]? = some u → w.cell? ⟨g, j, none⟩ = some u := fun j u hj => by
    have := World.ownsRow.cells h rfl j u hj
    rw [add_none, Nat.zero_add] at this
    exact this
  have hgl : g < w.heap.size := (h.lt g rfl).2
  obtain ⟨i0, hi0, hz0, hz1, hz2⟩ := info_parts ansInfo
  obtain ⟨G, hG⟩ : ∃ G, G = grownCap w (n + 1) n 60 := ⟨_, rfl⟩
  have hG1 : n + 1 ≤ G := by rw [hG]; exact grownCap_ge _ _ _ _
  have hG2 : G ≤ maxLen := by rw [hG]; exact grownCap_le_maxLen _ _ _ _ (by unfold maxLen; omega)
  have hold : (Builtin.firstCells i0.size i (.slice (some ⟨g, 0, none⟩) i n)).run Try.prog w.drew = .ok (xs.take (i * 3)).toArray w.drew := by
    rw [hz1]
    exact run_firstCells_some w.drew 3 i ⟨g, 0, none⟩ i n (xs.take (i * 3)) (by rw [List.length_take]; omega) (fun j v hj => by
      rw [add_none, Nat.zero_add]
      rw [List.getElem?_take] at hj
      split at hj
      · exact hcell j v hj
      · cases hj)
  have hrz : ∀ ty, (Builtin.append_ #[53, 3] ty #[.slice (some ⟨g, 0, none⟩) i n, .int .i64 ((n : Int) + 1 - (i : Int))]).run Try.prog w = .ok (.slice (some ⟨w.heap.size, 0, none⟩) (n + 1) G) (w.drew.alloc (.cells ((xs.take (i * 3)).toArray ++ Builtin.zeroCells (Value.agg #[.int .u64 0, .int .u64 0, .slice none 0 0]).cells (n + 1 - i) ++ Builtin.zeroCells (Value.agg #[.int .u64 0, .int .u64 0, .slice none 0 0]).cells (G - (n + 1))) 60)) := fun ty => by
    have h := Lib.run_append_grow_zeros w 53 3 ty 60 i0 _ .i64 .i64 Try.underlying53 Try.underlying3 hi0 hz0 (some ⟨g, 0, none⟩) i n (xs.take (i * 3)) hold (n + 1 - i) (by omega) (by omega) (by omega) (by omega) (by rw [hz2]; omega) (by rw [hz2, show i + (n + 1 - i) = n + 1 by omega]; exact growslice_fits (by omega) (by omega))
    rw [show i + (n + 1 - i) = n + 1 by omega, ← hG] at h
    rw [show (n : Int) + 1 - (i : Int) = ((n + 1 - i : Nat) : Int) by omega]
    exact h
  obtain ⟨C, hCe⟩ : ∃ C : List Value, C.toArray = (xs.take (i * 3)).toArray ++ Builtin.zeroCells (Value.agg #[.int .u64 0, .int .u64 0, .slice none 0 0]).cells (n + 1 - i) ++ Builtin.zeroCells (Value.agg #[.int .u64 0, .int .u64 0, .slice none 0 0]).cells (G - (n + 1)) := ⟨_, Array.toArray_toList⟩
  have hCl : C.length = G * 3 := by
    have := congrArg Array.size hCe
    simp [Builtin.zeroCells, Value.cells] at this
    rw [this, hxl]
    omega
  have hCt : C.take (i * 3) = xs.take (i * 3) := by
    have := congrArg Array.toList hCe
    simp only [Array.toList_append, List.append_assoc] at this
    rw [this, List.take_append_of_le_length (by rw [List.length_take]; omega)]
    exact List.take_of_length_le (by rw [List.length_take]; omega)
  rw [← hCe] at hrz
  obtain ⟨C1, hC1⟩ : ∃ C1, C1 = C.take (i * 3) ++ news ++ C.drop (i * 3 + news.length) := ⟨_, rfl⟩
  obtain ⟨C2, hC2⟩ : ∃ C2, C2 = C1.take ((i + 1) * 3) ++ xs.drop (i * 3) ++ C1.drop ((i + 1) * 3 + (xs.drop (i * 3)).length) := ⟨_, rfl⟩
  obtain ⟨hl1, hl2, hl3⟩ := grow_cells C xs news i n (by omega) hi hxl hCt hnl C1 C2 hC1 hC2
  have hrow0 : (w.drew.alloc (.cells C.toArray 60)).heap[w.heap.size]? = some (.cells C.toArray 60 (0, 0)) := heap_alloc_new w.drew _
  have hrow1 := setRow_heap (w.drew.alloc (.cells C.toArray 60)) w.heap.size C.toArray C1.toArray 60 (0, 0) hrow0
  have hrow2 := setRow_heap (((w.drew.alloc (.cells C.toArray 60)).setRow w.heap.size C1.toArray).drew) w.heap.size C1.toArray C2.toArray 60 (0, 0) hrow1
  have HFIN := Lib.hid (show InsP w base (.slice (some ⟨g, 0, none⟩) n n) n (xs.take (i * 3) ++ news ++ xs.drop (i * 3)) (.returned (.slice (some ⟨w.heap.size, 0, none⟩) (n + 1) G)) ((((w.drew.alloc (.cells C.toArray 60)).setRow w.heap.size C1.toArray).drew).setRow w.heap.size C2.toArray) from
    ⟨_, rfl, ⟨by simp only [List.length_append, List.length_take, List.length_drop]; omega, .inr ⟨w.heap.size, G, C2.toArray, rfl, hbase, hrow2, hG1, hG2, by simpa using by omega, by simpa using hl3⟩⟩, grown_new _ _, .inr rfl⟩)
  have hcp1 : (Builtin.copy_ #[53, 53] 3 #[.slice (some ⟨w.heap.size, i * 3, none⟩) (n + 1 - i) (G - i), .slice (some ⟨xb, 0, none⟩) 1 1]).run Try.prog (w.drew.alloc (.cells C.toArray 60)) = .ok (goInt (Nat.min 1 (n + 1 - i))) ((w.drew.alloc (.cells C.toArray 60)).setRow w.heap.size C1.toArray) := by
    have hx1 : (w.drew.alloc (.cells C.toArray 60)).heap[xb]? = some (.cells news.toArray 60 (0, 0)) := (Below.heap_alloc w.drew _ xb (lt_of_block hx)).trans hx
    rw [run_copy_rowK 3 _ 53 53 _ 60 w.heap.size (i * 3) (n + 1 - i) _ ⟨xb, 0, none⟩ 1 1 C.toArray 60 news Try.underlying53 (by kernel_rfl) hrow0
      (by rw [hnl]; simp only [Nat.min_def]; split <;> omega)
      (fun j u hj => by
        rw [add_none, Nat.zero_add]
        exact cellk hx1 (by simpa using hj))
      (by simp; omega) h2, show (C.toArray).toList = C from rfl, ← hC1]
  have hcp2 : (Builtin.copy_ #[53, 53] 3 #[.slice (some ⟨w.heap.size, (i + 1) * 3, none⟩) (n - i) (G - (i + 1)), .slice (some ⟨g, i * 3, none⟩) (n - i) (n - i)]).run Try.prog (((w.drew.alloc (.cells C.toArray 60)).setRow w.heap.size C1.toArray).drew) = .ok (goInt (Nat.min (n - i) (n - i))) ((((w.drew.alloc (.cells C.toArray 60)).setRow w.heap.size C1.toArray).drew).setRow w.heap.size C2.toArray) := by
    have hcell2 : ∀ j u, xs[j]? = some u → (((w.drew.alloc (.cells C.toArray 60)).setRow w.heap.size C1.toArray).drew).cell? ⟨g, j, none⟩ = some u := fun j u hj => by
      have h3 : (((w.drew.alloc (.cells C.toArray 60)).setRow w.heap.size C1.toArray).drew).heap[g]? = w.heap[g]? :=
        (setRow_other (w.drew.alloc (.cells C.toArray 60)) w.heap.size g _ (by omega)).trans (Below.heap_alloc w.drew _ g hgl)
      exact (World.cell?_of_block (w := w) (a := ⟨g, j, none⟩) h3).trans (hcell j u hj)
    rw [run_copy_rowK 3 (((w.drew.alloc (.cells C.toArray 60)).setRow w.heap.size C1.toArray).drew) 53 53 _ 60 w.heap.size ((i + 1) * 3) (n - i) _ ⟨g, i * 3, none⟩ (n - i) _ C1.toArray 60 (xs.drop (i * 3)) Try.underlying53 (by kernel_rfl) hrow1
      (by rw [List.length_drop, hxl]; simp only [Nat.min_def]; split <;> omega)
      (fun j u hj => by
        rw [add_none]
        rw [List.getElem?_drop] at hj
        exact hcell2 _ u hj)
      (by simp; omega) (fun u hu => h1 u (List.mem_of_mem_drop hu)), show (C1.toArray).toList = C1 from rfl, ← hC2]
  have HRZ := Lib.hid (hrz 53)
  have sz := sizeAns
  have i1 : ¬ ((i : Int) = (n : Int)) := by omega
  have i2 : (n : Int) < (n : Int) + 1 := by omega
  have i3 : ¬ (n = i) := by omega
  have i5 : (i : Int) ≤ (n : Int) := by omega
  have i6 : ¬ (G = i) := by omega
  have i7 : ¬ (G = i + 1) := by omega
  have wi : IntKind.i64.wrap ((i : Int) + 1) = (i : Int) + 1 := IntWalk.i64_in _ (by omega)
  have wn : IntKind.i64.wrap ((n : Int) + 1) = (n : Int) + 1 := IntWalk.i64_in _ (by omega)
  have wd : IntKind.i64.wrap ((n : Int) + 1 - (i : Int)) = (n : Int) + 1 - (i : Int) := IntWalk.i64_in _ (by omega)
  have j1 : (0 : Int) ≤ (i : Int) + 1 := by omega
  have j3 : (i : Int) ≤ (n : Int) + 1 := by omega
  have htn : ((i : Int) + 1).toNat = i + 1 := by omega
  clear h hx h1 h2 hxl hcell hgl hold hrz hCl hCt hCe hC1 hC2 hl1 hl2 hl3 hrow0 hrow1 hrow2 hG hG1 hG2 hi0 hz0 hz1 hz2 i0 hbase
  generalize xs.take (i * 3) ++ news ++ xs.drop (i * 3) = ys at *
  generalize hM1 : Nat.min (n - i) (n - i) = M1 at *
  generalize hM2 : Nat.min 1 (n + 1 - i) = M2 at *
  clear hM1 hM2
  generalize w.drew.alloc (.cells C.toArray 60) = W0 at *
  go_enter Try.func21, Try.ntmps21
  go_wp2_with (at_builtin; refine wpList_append_known rfl (.tmp 34) (.tmp 39) 53 3 (by rfl) (.slice (some ⟨g, 0, none⟩) i n) (.int .i64 ((n : Int) + 1 - (i : Int))) _ (by rfl) (by rfl) HRZ.out ?_)
  go_region
  go_wp2_with fail
  go_ret
  exact HFIN.out

/-- slices.Insert of one session. -/
theorem insert_any (i n : Nat) (v : Value) (xs news : List Value) (xb base : Nat) (w : World) (h : w.ownsRow base 60 3 v n xs) (hi : i ≤ n) (hn : n ≤ 1000) (hx : w.heap[xb]? = some (.cells news.toArray 60 (0, 0))) (hnl : news.length = 3)
    (hne : v.ownBlock ≠ some xb) (h1 : ∀ u ∈ xs, u.oneCell' = true) (h2 : ∀ u ∈ news, u.oneCell' = true) (hbase : base ≤ w.heap.size) :
    Calls Try.prog 21 #[v, .int .i64 (i : Int), .slice (some ⟨xb, 0, none⟩) 1 1] w (InsP w base v n (xs.take (i * 3) ++ news ++ xs.drop (i * 3))) := by
  have hxl := h.1
  rcases Nat.lt_or_ge i n with hlt | hge
  · obtain ⟨g, c, rfl, -, -, -, -⟩ := own_at h (by omega)
    have hnc : n ≤ c := by
      rcases h.2 with ⟨hv, _⟩ | ⟨g', c', cur, hv, hb, hgc, hnc, hcm, hsz, htk⟩
      · cases hv
      · injection hv with _ _ hc'; omega
    by_cases hroom : n + 1 ≤ c
    · exact ins_shift i n g c xs news xb base w h hlt hroom hn hx hnl (fun e => hne (by rw [e]; rfl)) h1 h2
    · obtain rfl : c = n := by omega
      exact ins_grow i c g xs news xb base w h hlt hn hx hnl h1 h2 hbase
  · obtain rfl : i = n := by omega
    rw [List.take_of_length_le (by omega), List.drop_eq_nil_of_le (by omega), List.append_nil]
    exact ins_end i v xs news xb base w h hn hx hnl h2 hbase
end Go.Proofs.Ytlfnblgpekilnaa
