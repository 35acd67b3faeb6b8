/- The law's own words: funs. -/
import Derived.Test.YthmnhacgcdcbiaaCodW
namespace Go.Proofs.Ythmnhacgcdcbiaa
open Go.RowKit OctM CodM

theorem OwnI.form {w : World} {base : Nat} {v : Value} {l : List Ins} (h : OwnI w base v l) : ∃ o c, v = .slice o l.length c := by
  rcases h.2 with ⟨rfl, hn⟩ | ⟨g, cap, cur, rfl, _⟩
  · exact ⟨none, 0, by rw [hn]⟩
  · exact ⟨_, _, rfl⟩
theorem append_ins {w : World} {base : Nat} {v : Value} {l : List Ins} {p : Ins} (hown : OwnI w base v l) (a : Addr) (hc : ∀ j u, [Value.int .u8 (p.op : Int), .int .i64 p.n, .int .i64 p.a, .string p.s][j]? = some u → w.cell? (a.add j) = some u) (hl : l.length ≤ 2000000) (hbase : base ≤ w.heap.size) (ty : TypeId) :
    ∃ v' w', (Builtin.append_ #[55, 55] ty #[v, .slice (some a) 1 1]).run Try.prog w = .ok v' w' ∧ OwnI w' base v' (l ++ [p]) ∧ w.grownBy w' v.ownBlock ∧ (v'.ownBlock = v.ownBlock ∨ v'.ownBlock = some w.heap.size) := by
  obtain ⟨i0, hi0, hz0, hz1, hz2⟩ := info_parts rinsInfo
  obtain ⟨v', w', hr, h2, h3, _, h5⟩ := run_append_own_at (P := Try.prog) w base 55 ty 58 i0 _ 4 40 Try.underlying55 hi0 hz0 hz1 hz2 rfl (by decide) v l.length (CsI l) hown a 1 1 [Value.int .u8 (p.op : Int), .int .i64 p.n, .int .i64 p.a, .string p.s]
    (by rfl) hc (by simp [Value.oneCell']) (by unfold maxLen; omega) (by omega) hbase
  refine ⟨v', w', hr, ?_, h3, h5⟩
  unfold OwnI
  rw [List.length_append, CsI_append]
  exact h2
theorem append_fun {w : World} {base : Nat} {v : Value} {l : List (Int × Value)} {x : Int} {o : Option Addr} {n c : Nat} (hown : OwnF w base v l) (a : Addr) (hc : ∀ j u, [Value.int .i64 x, .slice o n c][j]? = some u → w.cell? (a.add j) = some u) (hl : l.length ≤ 2000000) (hbase : base ≤ w.heap.size) (ty : TypeId) :
    ∃ v' w', (Builtin.append_ #[27, 27] ty #[v, .slice (some a) 1 1]).run Try.prog w = .ok v' w' ∧ OwnF w' base v' (l ++ [(x, .slice o n c)]) ∧ w.grownBy w' v.ownBlock ∧ (v'.ownBlock = v.ownBlock ∨ v'.ownBlock = some w.heap.size) := by
  obtain ⟨i0, hi0, hz0, hz1, hz2⟩ := info_parts rfunInfo
  obtain ⟨v', w', hr, h2, h3, _, h5⟩ := run_append_own_at (P := Try.prog) w base 27 ty 57 i0 _ 2 32 Try.underlying27 hi0 hz0 hz1 hz2 rfl (by decide) v l.length (CsF l) hown a 1 1 [Value.int .i64 x, .slice o n c]
    (by rfl) hc (by simp [Value.oneCell']) (by unfold maxLen; omega) (by omega) hbase
  refine ⟨v', w', hr, ?_, h3, h5⟩
  unfold OwnF
  rw [List.length_append, CsF_append]
  exact h2
theorem cells_new (w : World) (cs : List Value) (t : TypeId) : ∀ j u, cs[j]? = some u → (w.alloc (.cells cs.toArray t)).cell? ((⟨w.heap.size, 0, none⟩ : Addr).add j) = some u := by
  intro j u hj
  exact World.news_of_block (w := w.alloc (.cells cs.toArray t)) (heap_alloc_new w _) j u (by simpa using hj)

theorem balloc' {a b : World} {o : Obj} (h : Below a.heap.size a b) : Below a.heap.size a (b.alloc o) := h.alloc h.size _

/-- Instructions that lie beside some blocks. -/
def RdIX (w : World) (v : Value) (l : List Ins) (S : Nat → Prop) : Prop :=
  (∃ o c, v = .slice o 0 c ∧ l = []) ∨
  ∃ b off c, v = .slice (some ⟨b, off, none⟩) l.length c ∧ 0 < l.length ∧ l.length ≤ c ∧ c ≤ maxLen ∧ InsC w b off l ∧ ¬ S b
theorem RdIX.rd {w : World} {v : Value} {l : List Ins} {S : Nat → Prop} (h : RdIX w v l S) : RdI w v l := by
  rcases h with h | ⟨b, off, c, h1, h2, h3, h4, h5, _⟩
  · exact .inl h
  · exact .inr ⟨b, off, c, h1, h2, h3, h4, h5⟩
theorem InsC.kept {w w' : World} {b off : Nat} {l : List Ins} (h : InsC w b off l) (hb : w'.heap[b]? = w.heap[b]?) : InsC w' b off l := by
  intro j x hx
  obtain ⟨h1, h2, h3, h4⟩ := h j x hx
  exact ⟨(World.cell?_of_block hb).trans h1, (World.cell?_of_block hb).trans h2, (World.cell?_of_block hb).trans h3, (World.cell?_of_block hb).trans h4⟩
theorem InsC.lt {w : World} {b off : Nat} {l : List Ins} (h : InsC w b off l) (hl : 0 < l.length) : b < w.heap.size := by
  have := World.block_lt_of_cell? w _ (h 0 l[0] (by simp [hl])).1
  exact this
theorem RdIX.next {w w' : World} {v : Value} {l : List Ins} {S S' : Nat → Prop} (h : RdIX w v l S) (hk : ∀ k, k < w.heap.size → ¬ S k → w'.heap[k]? = w.heap[k]?) (hS : ∀ k, k < w.heap.size → S' k → S k) : RdIX w' v l S' := by
  rcases h with h | ⟨b, off, c, h1, h2, h3, h4, h5, h6⟩
  · exact .inl h
  · have hlt := h5.lt h2
    exact .inr ⟨b, off, c, h1, h2, h3, h4, h5.kept (hk b hlt h6), fun h' => h6 (hS b hlt h')⟩
theorem OwnI.rdx {w : World} {base : Nat} {v : Value} {l : List Ins} (h : OwnI w base v l) {S : Nat → Prop} (hS : ∀ k, base ≤ k → ¬ S k) : RdIX w v l S := by
  rcases h.rd with h1 | ⟨b, off, c, h1, h2, h3, h4, h5⟩
  · exact .inl h1
  · refine .inr ⟨b, off, c, h1, h2, h3, h4, h5, hS b ?_⟩
    rcases h.2 with ⟨rfl, hn⟩ | ⟨g, cap, cur, rfl, hb, _⟩
    · cases h1
    · injection h1 with h1 _ _
      injection h1 with h1
      injection h1 with h1 _ _
      omega

/-- So many functions have been laid. -/
def FunsI (w : World) (L : Value) (fs : List Fun) (k : Nat) (ps : List (Int × Value)) : Prop :=
  ps.length = k ∧ ∀ (j : Nat) (f : Fun), j < k → fs[j]? = some f → ∃ u, ps[j]? = some (f.caps, u) ∧ RdIX w u f.code (fun g => L.ownBlock = some g)

set_option maxHeartbeats 1000000 in
set_option maxRecDepth 100000 in
theorem funs_none (o : Option Addr) (c : Nat) (w : World) : Calls Try.prog 10 #[.slice o 0 c] w fun e w' => ∃ v, e = .returned v ∧ RdF w' v [] ∧ Below w.heap.size w w' := by
  go_enter Try.func10, Try.ntmps10
  go_wp2_with fail
  go_loop [3, 4] (fun L i => L = .slice none 0 0 ∧ i = .int .i64 0) (fun _ _ => 0)
  case atStart => exact ⟨rfl, rfl⟩
  case round =>
    obtain ⟨rfl, rfl⟩ := hrel
    go_wp2_with fail
    go_ret
    exact ⟨_, rfl, .inl ⟨_, _, rfl, rfl⟩, Below.refl _ _⟩

def FnPost (fs : List Fun) (w : World) (e : Ending) (w' : World) : Prop := ∃ v, e = .returned v ∧ RdF w' v fs ∧ Below w.heap.size w w'

set_option maxHeartbeats 4000000 in
set_option maxRecDepth 100000 in
theorem funs_row (fs : List Fun) (w : World) (b off c : Nat) (hl : 0 < fs.length) (hlc : fs.length ≤ c) (hcm : c ≤ maxLen) (hc : FunC w b off fs) (hn : fs.length ≤ 5000) (hm : ∀ f ∈ fs, f.code.length ≤ 1048576) :
    Calls Try.prog 10 #[.slice (some ⟨b, off, none⟩) fs.length c] w (FnPost fs w) := by
  unfold maxLen at hcm
  have HC := Lib.hid hc
  have HM := Lib.hid hm
  clear hc hm
  go_enter Try.func10, Try.ntmps10
  go_wp2_with fail
  go_loopw [3, 4] (fun L K wr => ∃ (k : Nat) (ps : List (Int × Value)), k ≤ fs.length ∧ K = .int .i64 k ∧ OwnF wr w.heap.size L ps ∧ Hid (FunsI wr L fs k ps) ∧ Below w.heap.size w wr) (fun _ K _ => fs.length - (intOf K).toNat)
  case atStart => exact ⟨0, [], by omega, rfl, World.ownsRow_nil _ _ _ _, ⟨rfl, fun j f h => by omega⟩, Below.refl _ _⟩
  case round =>
    obtain ⟨k, ps, hk, rfl, hown, HF, hb⟩ := hrel
    generalize wr = wo at *
    have hz := hb.size
    by_cases hlt : k < fs.length
    · have hx : fs[k]? = some fs[k] := List.getElem?_eq_getElem hlt
      have hml := HM.out fs[k] (List.getElem_mem hlt)
      have hkI : (k : Int) < (fs.length : Int) := by omega
      generalize fs[k] = f at *
      obtain ⟨x0, v, x1, hv⟩ := (FunC.below HC.out hb (Nat.le_refl _)) k _ hx
      have hbw := World.block_lt_of_cell? wo _ x0
      simp only at hbw
      have HX := Lib.hid hx
      have HB := Lib.hid hb
      have HOWN := Lib.hid hown
      have HV := Lib.hid hv
      obtain ⟨o, cc, rfl⟩ := hv.form
      have hb1 : Below wo.heap.size wo (wo.alloc (.cells #[.int .i64 f.caps, .slice none 0 0] 57)) := (Below.refl _ _).alloc (Nat.le_refl _) _
      have HB1 := Lib.hid hb1
      have HBX := Lib.hid (heap_alloc_new wo (.cells #[.int .i64 f.caps, .slice none 0 0] 57))
      clear hx hb hown hv hb1
      go_wp2_with fail
      go_loopw [6] (fun J wi => ∃ (j : Nat) (vj : Value), j ≤ f.code.length ∧ J = .int .i64 j ∧ Hid (OwnI wi (wo.heap.size + 1) vj (f.code.take j)) ∧ Hid (wi.heap[wo.heap.size]? = some (.cells #[.int .i64 f.caps, vj] 57 (0, 0))) ∧ Hid (Below wo.heap.size wo wi)) (fun J _ => f.code.length - (intOf J).toNat)
      case atStart => exact ⟨0, _, by omega, rfl, World.ownsRow_nil _ _ _ _, HBX, HB1⟩
      case round =>
        obtain ⟨j, vj, hj, rfl, HO, HBJ, HBW⟩ := hrel
        generalize wr = wi at *
        have hzi := HBW.out.size
        have y0 := (HBW.out.cell (p := ⟨b, off + k * 2, none⟩) hbw).trans x0
        have y1 := (HBW.out.cell (p := ⟨b, off + k * 2 + 1, none⟩) hbw).trans x1
        have ybw : b < wi.heap.size := by omega
        have bl := lt_of_block HBJ.out
        have b0 := cellk (i := 0) HBJ.out rfl
        have b1 := cellk (i := 1) HBJ.out rfl
        by_cases hjl : j < f.code.length
        · rcases HV.out with ⟨o', c', hv', h0⟩ | ⟨b2, off2, c2, hv', h1, h2, h3, h4⟩
          · rw [h0] at hjl
            simp at hjl
          injection hv' with e1 e2 e3
          subst e1 e3
          unfold maxLen at h3
          have hcx : f.code[j]? = some f.code[j] := List.getElem?_eq_getElem hjl
          obtain ⟨z0, z1, z2, z3⟩ := (h4.below HBW.out (Nat.le_refl _)) j _ hcx
          have HTK := Lib.hid (List.take_succ_eq_append_getElem hjl)
          have hjI : (j : Int) < (f.code.length : Int) := by omega
          generalize f.code[j] = x at *
          obtain ⟨op, n, a, s⟩ := x
          simp only at z0 z1 z2 z3
          have zb := World.block_lt_of_cell? wi _ z0
          simp only at zb
          have hbA : Below wo.heap.size wo ((wi.alloc (.cells #[.int .u8 (op : Int), .int .i64 n, .int .i64 a, .string s] 34)).alloc (.cells #[.int .u8 (op : Int), .int .i64 n, .int .i64 a, .string s] 58)) := balloc' (balloc' HBW.out)
          obtain ⟨v5, w5, hrun, hown5, hg5, -⟩ := append_ins (w := (wi.alloc (.cells #[.int .u8 (op : Int), .int .i64 n, .int .i64 a, .string s] 34)).alloc (.cells #[.int .u8 (op : Int), .int .i64 n, .int .i64 a, .string s] 58)) (base := wo.heap.size + 1) (v := vj) (l := f.code.take j) (p := ⟨op, n, a, s⟩) (World.ownsRow.alloc (World.ownsRow.alloc HO.out _) _) ⟨(wi.alloc (.cells #[.int .u8 (op : Int), .int .i64 n, .int .i64 a, .string s] 34)).heap.size, 0, none⟩ (cells_new _ [.int .u8 (op : Int), .int .i64 n, .int .i64 a, .string s] _) (by simp; omega) (by simp; omega) 55
          have hne : ∀ g, vj.ownBlock = some g → wo.heap.size + 1 ≤ g := fun g hg => (HO.out.lt g hg).1
          have hbB : Below wo.heap.size wo w5 := hbA.grown hg5 hbA.size (fun k hk => by have := hne k hk; omega)
          have hsz1 : wi.heap.size ≤ (wi.alloc (.cells #[.int .u8 (op : Int), .int .i64 n, .int .i64 a, .string s] 34)).heap.size := by simp
          have hsz2 : wi.heap.size ≤ ((wi.alloc (.cells #[.int .u8 (op : Int), .int .i64 n, .int .i64 a, .string s] 34)).alloc (.cells #[.int .u8 (op : Int), .int .i64 n, .int .i64 a, .string s] 58)).heap.size := by simp; omega
          have hbox5 : w5.heap[wo.heap.size]? = some (.cells #[.int .i64 f.caps, vj] 57 (0, 0)) := (hg5.block wo.heap.size (Nat.lt_of_lt_of_le bl hsz2) (by intro h; have := hne _ h.symm; omega)).trans ((Below.heap_alloc (wi.alloc (.cells #[.int .u8 (op : Int), .int .i64 n, .int .i64 a, .string s] 34)) _ _ (Nat.lt_of_lt_of_le bl hsz1)).trans ((Below.heap_alloc _ _ _ bl).trans HBJ.out))
          have hlen : (f.code.take j ++ [(⟨op, n, a, s⟩ : Ins)]).length = j + 1 := by simp; omega
          obtain ⟨o5, c5, hv5⟩ := hown5.form
          rw [hlen] at hv5
          subst hv5
          have d1 := cellk (i := 1) hbox5 rfl
          have f1 := free_of hbox5 1
          have bl5 := lt_of_block hbox5
          rw [show (wi.alloc (.cells #[.int .u8 (op : Int), .int .i64 n, .int .i64 a, .string s] 34)).heap.size = wi.heap.size + 1 by simp] at hrun
          have hown6 : OwnI (w5.setCell ⟨wo.heap.size, 1, none⟩ (.slice o5 (j + 1) c5)) (wo.heap.size + 1) (.slice o5 (j + 1) c5) (f.code.take (j + 1)) := by
            rw [HTK.out]
            exact own_kept hown5 (S := fun k => k = wo.heap.size) ((Kept.refl (fun k => k = wo.heap.size) w5).setCell (p := ⟨wo.heap.size, 1, none⟩) (.inl rfl) _) (fun k hk => by have := (hown5.lt k hk).1; show ¬ (k = wo.heap.size); omega)
          have hbox6 := set_two1 (x := .slice o5 (j + 1) c5) hbox5
          have hb6 : Below wo.heap.size wo (w5.setCell ⟨wo.heap.size, 1, none⟩ (.slice o5 (j + 1) c5)) := hbB.setCell (Nat.le_refl _) _
          have HRUN := Lib.hid hrun
          have HOW6 := Lib.hid hown6
          have HBO6 := Lib.hid hbox6
          have HB6 := Lib.hid hb6
          clear hrun hown5 hg5 hbA hbB hbox5 hown6 hbox6 hb6 hcx h4 hne hlen hsz1 hsz2
          go_wp2_with (at_builtin; refine wpList_append_known rfl (.tmp 39) (.tmp 49) 55 55 (by rfl) _ _ _ (by rfl) (by rfl) HRUN.out ?_)
          exact ⟨⟨j + 1, _, by omega, by go_num, HOW6, HBO6, HB6⟩, by simp [intOf]; omega⟩
        · obtain rfl : j = f.code.length := by omega
          have ho := HO.out
          rw [List.take_of_length_le (Nat.le_refl _)] at ho
          obtain ⟨ov, cv, rfl⟩ := ho.form
          have hown' : OwnF wi w.heap.size _ ps := own_kept HOWN.out (S := fun k' => wo.heap.size ≤ k') (Below.kept HBW.out fun _ h _ => h) (fun k' hk' => by have := (HOWN.out.lt k' hk').2; omega)
          have hpl := HF.out.1
          obtain ⟨v5, w5, hrun, hown5, hg5, hat5⟩ := append_fun (w := wi.alloc (.cells #[.int .i64 f.caps, .slice ov f.code.length cv] 57)) (base := w.heap.size) (l := ps) (x := f.caps) (o := ov) (n := f.code.length) (c := cv) (World.ownsRow.alloc hown' _) ⟨wi.heap.size, 0, none⟩ (cells_new _ [.int .i64 f.caps, .slice ov f.code.length cv] _) (by omega) (by simp; omega) 27
          have hL : ∀ g, Value.ownBlock _ = some g → w.heap.size ≤ g ∧ g < wo.heap.size := fun g hg => HOWN.out.lt g hg
          have hb5 : Below w.heap.size w w5 := ((HB.out.trans (HBW.out.mono hz)).alloc (by omega) _).grown hg5 (by simp; omega) (fun k hk => (hL k hk).1)
          have hfi : FunsI w5 v5 fs (k + 1) (ps ++ [(f.caps, .slice ov f.code.length cv)]) := by
            refine ⟨by simp [hpl], fun i g hi hg => ?_⟩
            have hnew : ∀ m, m < wi.heap.size → v5.ownBlock = some m → Value.ownBlock _ = some m := fun m hm hh => by
              rcases hat5 with e | e
              · rw [← e]; exact hh
              · rw [e] at hh
                injection hh with hh
                simp at hh
                omega
            have hkeep : ∀ m, m < wi.heap.size → ¬ (Value.ownBlock _ = some m) → w5.heap[m]? = wi.heap[m]? := fun m hm hs => (hg5.block m (by simp; omega) (fun h => hs h.symm)).trans (Below.heap_alloc _ _ _ hm)
            by_cases hik : i < k
            · obtain ⟨u, hu, hr⟩ := HF.out.2 i g hik hg
              refine ⟨u, by rw [List.getElem?_append_left (by omega)]; exact hu, ?_⟩
              have hr2 := hr.next (w' := wi) (S' := fun m => Value.ownBlock _ = some m) (fun m hm _ => HBW.out.block m hm) (fun m _ h => h)
              exact hr2.next hkeep hnew
            · obtain rfl : i = k := by omega
              have hg' := HX.out
              rw [hg] at hg'
              injection hg' with hg'
              subst hg'
              refine ⟨_, by rw [List.getElem?_append_right (by omega), hpl]; simp; rfl, ?_⟩
              have hr := ho.rdx (S := fun m => Value.ownBlock _ = some m) (fun m hm h => by have := (hL m h).2; omega)
              exact hr.next hkeep hnew
          have HRUN := Lib.hid hrun
          have HO5 := Lib.hid hown5
          have HF5 := Lib.hid hfi
          clear hrun hown5 hg5 hat5 hfi hown' hL ho hpl
          go_wp2_with (at_builtin; refine wpList_append_known rfl (.tmp 52) (.tmp 54) 27 27 (by rfl) _ _ _ (by rfl) (by rfl) HRUN.out ?_)
          exact ⟨⟨k + 1, _, by omega, by go_num, HO5.out, HF5, hb5⟩, by simp [intOf]; omega⟩
    · obtain rfl : k = fs.length := by omega
      have HE : Hid (∀ w', FnPost fs w (.returned (.slice none 0 0)) w' → True) := fun _ _ => trivial
      obtain ⟨h1, h2⟩ := HF.out
      have hrd : RdF wo _ fs := hown.rd h1 (fun j f hj => by
        obtain ⟨u, hu, hr⟩ := h2 j f (List.getElem?_eq_some_iff.1 hj).1 hj
        exact ⟨u, hu, hr.rd⟩)
      have HR := Lib.hid hrd
      have HB := Lib.hid hb
      clear h1 h2 hrd hown hb HE
      go_wp2_with fail
      go_ret
      exact ⟨_, rfl, HR.out, HB.out⟩
end Go.Proofs.Ythmnhacgcdcbiaa
