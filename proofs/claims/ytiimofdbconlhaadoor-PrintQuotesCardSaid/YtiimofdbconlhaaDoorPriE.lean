/- A stack with a row on it: the walk. -/
import Derived.Test.YtiimofdbconlhaaDoorPriD
import Derived.Maps.OwnIn
namespace Go.Proofs.YtiimofdbconlhaaDoor
open Go.RowKit Go.Shelf PriM

attribute [local go_sem] Oper.semAt_some

/-- What pushed leaves. -/
def PushPost (w : World) (base : Nat) (todo : Value) (l : List Pv) (e : Ending) (W' : World) : Prop :=
  ∃ v, e = .returned v ∧ OwnP W' base v l ∧ w.grownBy W' todo.ownBlock ∧ RowOf todo w.heap.size v

set_option maxRecDepth 100000 in
set_option maxHeartbeats 4000000 in
theorem pushed_in (F : Fence) (n : Nat) (h3 : F.fn 31) (h4 : F.fn 43) (h5 : F.fn 74) (hro : F.round = none) (hn : 3 ≤ n) (o ro : Option Addr) (tl tc rl rc : Nat) (base : Nat) (ts ps : List Pv) (w : World)
    (hown : OwnP w base (.slice o tl tc) ts) (hbase : base ≤ w.heap.size) (hI : RdZ w.heap.size (fun k => (Value.slice o tl tc).ownBlock = some k) w (.slice ro rl rc) ps) (hlen : ts.length + ps.length ≤ 5000000000000) :
    CallsIn F n Tryd.prog 31 #[.slice o tl tc, .slice ro rl rc] w (PushPost w base (.slice o tl tc) (ts ++ ps.reverse)) := by
  have h1 : 1 ≤ n := by omega
  obtain ⟨i0, hi, hz0, hz1, hz2⟩ := info_parts partInfo
  refine callsIn_of_wp_marks Tryd.func31 rfl h3 ?_ hro
  simp only [Tryd.ntmps31, List.size_toArray, List.length_cons, List.length_nil, Nat.reduceAdd, Nat.reduceSub, Array.replicate_succ, Array.replicate_zero, List.push_toArray, List.append_toArray, List.nil_append, List.cons_append]
  gi_wp2_with (gi_at_call 43; refine (back_in F (n - 1) h4 hro _ _ _ _).mono ?_; rintro e w' ⟨rfl, rfl⟩)
  generalize hT : Value.slice o tl tc = todo at *
  generalize hR : Value.slice ro rl rc = row at *
  have bO := (Boxed.new w 53 todo).alloc (.cells #[row] 53)
  have bN := Boxed.new (w.alloc (.cells #[todo] 53)) 53 row
  rw [World.size_alloc] at bN
  have hG : w.grownBy ((w.alloc (.cells #[todo] 53)).alloc (.cells #[row] 53)) todo.ownBlock := grownBy_trans (World.grownBy_alloc w _ _) (World.grownBy_alloc _ _ none) (fun g e => by cases e)
  have hO : OwnP ((w.alloc (.cells #[todo] 53)).alloc (.cells #[row] 53)) base todo ts := World.ownsRow.alloc (World.ownsRow.alloc hown _) _
  have hsz : ((w.alloc (.cells #[todo] 53)).alloc (.cells #[row] 53)).heap.size = w.heap.size + 2 := by simp
  have hI2 : RdZ (w.heap.size + 2) (fun k => todo.ownBlock = some k ∨ k = w.heap.size) ((w.alloc (.cells #[todo] 53)).alloc (.cells #[row] 53)) row ps := by
    rcases hI with h | ⟨b, off, c, e, hb, hz, hc⟩
    · exact .inl h
    · refine .inr ⟨b, off, c, e, by omega, by rintro (h | h); exact hz h; omega, fun j p hj => ?_⟩
      obtain ⟨c0, c1⟩ := hc j p hj
      have hB : Below w.heap.size w ((w.alloc (.cells #[todo] 53)).alloc (.cells #[row] 53)) := ((Below.refl _ w).alloc (Nat.le_refl _) _).alloc (by simp) _
      exact ⟨(hB.cell (by show b < _; omega)).trans c0, (hB.cell (by show b < _; omega)).trans c1⟩
  obtain ⟨W0, hW0⟩ : ∃ W0, (w.alloc (.cells #[todo] 53)).alloc (.cells #[row] 53) = W0 := ⟨_, rfl⟩
  rw [hW0] at bO bN hG hO hsz hI2 ⊢
  clear hW0
  refine wpIn_rangeFunc_ownH hro h1 (gf := 74) (lb := #[.pointer (some ⟨w.heap.size + 1, 0, none⟩)]) rfl h5 (enters_of Tryd.func74 (by kernel_rfl) rfl)
    (back_stops F (n - 1) h5 hro (by omega) (w.heap.size + 1) (w.heap.size + 2) (fun k => todo.ownBlock = some k ∨ k = w.heap.size) row ps (by omega) W0 (by omega) ?hZ (by omega) bN.cell hI2) (fun h k => KeptB.trans h k) (keptB_b (by omega)) (Below.refl _ _) (fun _ => rfl)
    (fun pre W => (∃ v, Boxed W w.heap.size 53 v ∧ W.ownsRow base 51 2 v (ts.length + pre.length) (Cs (ts ++ pre.map (·.2))) ∧ RowOf todo w.heap.size v) ∧ Boxed W (w.heap.size + 1) 53 row ∧ w.grownBy W todo.ownBlock)
    (fun _ _ _ => False)
    (OwnFrom.and (Own.from (holdsRow_own base w.heap.size 53 51 2 (fun pre : List (Nat × Pv) => ts.length + pre.length) (fun pre => Cs (ts ++ pre.map (·.2))) (fun _ v => RowOf todo w.heap.size v)) _) (OwnFrom.and (Own.from (boxed_own _ _ (fun _ => row)) _) (fun s X Y rw hs hg hr => grownBy_trans hs hg (fun g e => .inr (by have := (hr g e).1; omega)))))
    (fun _ _ _ _ _ hs _ _ => hs)
    ⟨⟨_, bO, by unfold OwnP at hO; simpa using hO, fun g e => .inl e⟩, bN, hG⟩
    (fun x a' W => ∃ Bx, Box2 W Bx x.2 ∧ a' = { tmps := #[todo, row, .pointer (some ⟨w.heap.size, 0, none⟩), undef, .slice none 0 0, undef, .pointer (some ⟨Bx, 0, none⟩), row, .func (.func 74) #[] #[.pointer (some ⟨w.heap.size + 1, 0, none⟩)], .int .i64 x.1, x.2.agg, undef, undef, undef, undef, undef], defers := [] })
    (fun x a' s X Y rw ⟨Bx, hb, e⟩ hg hr => ⟨Bx, Box2.own (β := Unit) s X Y rw hb hg (fun r e => (hr r e).2), e⟩) ?assign ?body ?done ?stop
  case hZ =>
    rintro (h | h)
    · have := (World.ownsRow.lt hown _ h).2
      omega
    · omega
  case assign =>
    rintro l pre ⟨i, ⟨s, f⟩⟩ W K ⟨⟨v, hv, hrow, hr⟩, hv2, hg⟩ hK
    have hs := hg.size
    have hl2 := hv2.lt
    have hK' := fun a' h => hK a' (W.alloc (.cells #[.string s, fnV f] 51)) ((KeepsOthers.alloc _ _).from _) ((KeptB.refl _ _ W).alloc (by omega) _) ⟨⟨v, hv.alloc _, World.ownsRow.alloc hrow _, hr⟩, hv2.alloc _, grownBy_trans hg (World.grownBy_alloc W _ none) (fun g e => by cases e)⟩ ⟨W.heap.size, World.alloc_heap_new W _, h⟩
    clear hK hv hrow hr hv2 hg
    rcases f with _ | ⟨k, b⟩
    all_goals
      unfold fnV at hK'
      have HK := Lib.hid hK'
      clear hK'
      unfold encB Pv.agg fnV
      gi_wp2
      exact HK.out _ rfl
  case body =>
    rintro l pre ⟨i, ⟨s, f⟩⟩ a' W hl ⟨rr, hrr⟩ ⟨⟨v, hv, hrow, hr⟩, hv2, hg⟩ ⟨Bx, hbx, rfl⟩ hlt
    have hs := hg.size
    have hc := hv.cell
    have HC0 := Lib.hid hbx.c0
    have HC1 := Lib.hid hbx.c1
    have STEP := Lib.hid (fun w1 v' hown' hgrow hnew => pushed_step (w1 := w1) (v' := v') (x := (i, ⟨s, f⟩)) (tmp := .cells #[.string s, fnV f] 51) hg hr hbase hv hv2 hrow hown' hgrow hnew)
    clear hbx
    have hsz0 : base ≤ W.heap.size := Nat.le_trans hbase hs
    clear hv hr hv2 hg hrr
    rcases f with _ | ⟨k, b⟩
    all_goals
      have c0 := HC0.out
      have c1 := HC1.out
      unfold fnV at c1
      clear HC0 HC1
      unfold Pv.agg fnV
      gi_wp2_with (gi_at_builtin; refine wpListIn_append_own_at _ rfl _ _ 53 rfl base 51 i0 _ 2 24 Tryd.underlying53 hi hz0 hz1 hz2 rfl (by decide) v _ _ rfl (hrow.alloc _) ⟨W.heap.size, 0, none⟩ 1 1 [.string s, _] rfl rfl (cells_two_new _ _ _ _) (by simp [Value.oneCell']) (by unfold maxLen; omega) (by omega) (by simp; omega) ?_; intro v' w1 hown' hgrow _ hat; obtain ⟨g', cap', rfl⟩ := ownsRow_succ hown'; obtain ⟨st1, st2⟩ := STEP.out w1 _ hown' hgrow (by intro g e; rcases hat with h | h; (left; rw [← h]; exact e); (right; rw [h] at e; simp at e; omega)); have hc1 := st1.cell; have hf1 := st1.frozen; have ST2 := Lib.hid st2; clear st2 hat hgrow hown' st1)
      exact ⟨ST2.out.1.from _, ST2.out.2.1, ST2.out.2.2⟩
  case done =>
    rintro D ys W hD hys ⟨⟨v, hv, hrow, hr⟩, hv2, hg⟩ hK
    have hc := hv.cell
    gi_wp2
    refine ⟨by simp, .inl ⟨_, _, rfl, run_takeDeferred hK, ?_⟩⟩
    refine ⟨_, results_tmp rfl _ _ _, v, rfl, ?_, grownBy_trans hg (grownBy_putObj' _ _ _) (fun g e => by cases e; exact .inr (by omega)), hr⟩
    have := ownsRow_putObj hrow (.deferred none) hK rfl
    rw [hys] at this
    have e1 : ys.length = ps.length := by have := congrArg List.length hys; simpa using this
    unfold OwnP
    rw [List.length_append, List.length_reverse, ← e1]
    exact this
  case stop =>
    rintro D c pre W _ _ h _
    exact h.elim
end Go.Proofs.YtiimofdbconlhaaDoor
