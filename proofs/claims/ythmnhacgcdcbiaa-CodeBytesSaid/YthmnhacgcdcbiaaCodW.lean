/- The law's own words: great, funs. -/
import Derived.Test.YthmnhacgcdcbiaaCodA
import Derived.Test.YthmnhacgcdcbiaaCodB
import Derived.Test.YthmnhacgcdcbiaaCodD
import Derived.Test.YthmnhacgcdcbiaaOctE
import Derived.Maps.AppendAt
namespace Go.Proofs.Ythmnhacgcdcbiaa
open Go.RowKit OctM CodM

/-- Are there few, and small? -/
def small (fs : List Fun) : Bool := decide (fs.length ≤ 20 ∧ ∀ f ∈ fs, f.code.length ≤ 100)
def GrPost (fs : List Fun) (e : Ending) : Prop := e = .returned (.bool (!small fs))
theorem grPost {fs : List Fun} {b : Bool} (h : small fs = !b) : GrPost fs (.returned (.bool b)) := by unfold GrPost; rw [h]; simp
theorem small_false {fs : List Fun} (h : 20 < fs.length ∨ ∃ f ∈ fs, 100 < f.code.length) : small fs = false := by
  unfold small
  rw [decide_eq_false_iff_not]
  rintro ⟨h1, h2⟩
  rcases h with h | ⟨f, hf, h⟩
  · omega
  · have := h2 f hf; omega

set_option maxHeartbeats 1000000 in
set_option maxRecDepth 100000 in
theorem great_none (o : Option Addr) (c : Nat) (w : World) : Calls Try.prog 7 #[.slice o 0 c] w fun e w' => GrPost [] e ∧ Below w.heap.size w w' := by
  go_enter Try.func7, Try.ntmps7
  go_wp2_with fail
  go_loop [3] (fun i => i = .int .i64 0) (fun _ => 0)
  case atStart => rfl
  case round =>
    obtain rfl := hrel
    go_wp2_with fail
    go_ret
    exact ⟨grPost (by simp [small]), Below.refl _ _⟩

set_option maxHeartbeats 1000000 in
set_option maxRecDepth 100000 in
theorem great_row (fs : List Fun) (w : World) (b off c : Nat) (hl : 0 < fs.length) (hlc : fs.length ≤ c) (hcm : c ≤ maxLen) (hc : FunC w b off fs) :
    Calls Try.prog 7 #[.slice (some ⟨b, off, none⟩) fs.length c] w fun e w' => GrPost fs e ∧ Below w.heap.size w w' := by
  unfold maxLen at hcm
  have HC := Lib.hid hc
  clear hc
  by_cases hlong : 20 < fs.length
  · have HO := Lib.hid (small_false (.inl hlong))
    have hd : decide (20 < (fs.length : Int)) = true := by simp; omega
    go_enter Try.func7, Try.ntmps7
    go_wp2_with fail
    go_ret
    exact ⟨grPost HO.out, Below.refl _ _⟩
  · have hd : decide (20 < (fs.length : Int)) = false := by simp; omega
    go_enter Try.func7, Try.ntmps7
    go_wp2_with fail
    go_loopw [3] (fun i wr => ∃ k nn : Nat, k ≤ fs.length ∧ i = .int .i64 k ∧ wr = w.drewN nn ∧ Hid (∀ f ∈ fs.take k, f.code.length ≤ 100)) (fun i _ => fs.length - (intOf i).toNat)
    case atStart => exact ⟨0, 0, by omega, rfl, rfl, by simp [Hid]⟩
    case round =>
      obtain ⟨k, nn, hk, rfl, rfl, HV⟩ := hrel
      have HBE := Lib.hid (below_drewN (Below.refl w.heap.size w) nn)
      by_cases hlt : k < fs.length
      · have hx : fs[k]? = some fs[k] := List.getElem?_eq_getElem hlt
        obtain ⟨x0, v, x1, hv⟩ := HC.out k _ hx
        have hkI : (k : Int) < (fs.length : Int) := by omega
        have HT := Lib.hid (List.take_succ_eq_append_getElem hlt)
        have HM := Lib.hid (List.getElem_mem hlt)
        generalize fs[k] = f at *
        obtain ⟨o, cc, rfl⟩ := hv.form
        clear hx hv x0
        by_cases hf : 100 < f.code.length
        · have HO := Lib.hid (small_false (.inr ⟨f, HM.out, hf⟩))
          have hd1 : decide (100 < (f.code.length : Int)) = true := by simp; omega
          go_wp2_with fail
          go_ret
          exact ⟨grPost HO.out, HBE.out⟩
        · have hd1 : decide (100 < (f.code.length : Int)) = false := by simp; omega
          have HV2 : Hid (∀ f ∈ fs.take (k + 1), f.code.length ≤ 100) := by
            intro g hg
            rw [HT.out, List.mem_append, List.mem_singleton] at hg
            rcases hg with hg | rfl
            · exact HV.out g hg
            · omega
          go_wp2_with fail
          exact ⟨⟨k + 1, nn, by omega, by go_num, rfl, HV2⟩, by simp [intOf]; omega⟩
      · obtain rfl : k = fs.length := by omega
        have HO : Hid (small fs = true) := by
          have := HV.out
          rw [List.take_of_length_le (Nat.le_refl _)] at this
          exact decide_eq_true ⟨by omega, this⟩
        go_wp2_with fail
        go_ret
        exact ⟨grPost HO.out, HBE.out⟩

theorem great (fs : List Fun) (w : World) (v : Value) (h : RdF w v fs) : Calls Try.prog 7 #[v] w fun e w' => GrPost fs e ∧ Below w.heap.size w w' := by
  rcases h with ⟨o, c, rfl, rfl⟩ | ⟨b, off, c, rfl, h1, h2, h3, h4⟩
  · exact great_none o c w
  · exact great_row fs w b off c h1 h2 h3 h4

/-- Instructions, and functions, as values. -/
def CsI : List Ins → List Value
  | [] => []
  | x :: xs => .int .u8 (x.op : Int) :: .int .i64 x.n :: .int .i64 x.a :: .string x.s :: CsI xs
theorem CsI_length (l : List Ins) : (CsI l).length = l.length * 4 := by
  induction l with
  | nil => rfl
  | cons p ps ih => simp only [CsI, List.length_cons, ih]; omega
theorem CsI_append (a b : List Ins) : CsI (a ++ b) = CsI a ++ CsI b := by
  induction a with
  | nil => rfl
  | cons p ps ih => simp only [List.cons_append, CsI, ih]
theorem CsI_get (ps : List Ins) : ∀ j x, ps[j]? = some x → (CsI ps)[j * 4]? = some (.int .u8 (x.op : Int)) ∧ (CsI ps)[j * 4 + 1]? = some (.int .i64 x.n) ∧ (CsI ps)[j * 4 + 2]? = some (.int .i64 x.a) ∧ (CsI ps)[j * 4 + 3]? = some (.string x.s) := by
  induction ps with
  | nil => intro j p h; simp at h
  | cons q ps ih =>
    intro j p h
    cases j with
    | zero => simp at h; subst h; exact ⟨rfl, rfl, rfl, rfl⟩
    | succ j =>
      have := ih j p (by simpa using h)
      rw [show (j + 1) * 4 = j * 4 + 1 + 1 + 1 + 1 by omega]
      simp only [CsI, List.getElem?_cons_succ]
      exact this
def CsF : List (Int × Value) → List Value
  | [] => []
  | x :: xs => .int .i64 x.1 :: x.2 :: CsF xs
theorem CsF_length (l : List (Int × Value)) : (CsF l).length = l.length * 2 := by
  induction l with
  | nil => rfl
  | cons p ps ih => simp only [CsF, List.length_cons, ih]; omega
theorem CsF_append (a b : List (Int × Value)) : CsF (a ++ b) = CsF a ++ CsF b := by
  induction a with
  | nil => rfl
  | cons p ps ih => simp only [List.cons_append, CsF, ih]
theorem CsF_get (ps : List (Int × Value)) : ∀ j x, ps[j]? = some x → (CsF ps)[j * 2]? = some (.int .i64 x.1) ∧ (CsF ps)[j * 2 + 1]? = some x.2 := by
  induction ps with
  | nil => intro j p h; simp at h
  | cons q ps ih =>
    intro j p h
    cases j with
    | zero => simp at h; subst h; exact ⟨rfl, rfl⟩
    | succ j =>
      have := ih j p (by simpa using h)
      rw [show (j + 1) * 2 = j * 2 + 1 + 1 by omega]
      simp only [CsF, List.getElem?_cons_succ]
      exact this

theorem rinsInfo : (Try.prog.info? 58).map (fun i => (i.zero, i.size, i.bytes)) = some (some (.agg #[.int .u8 0, .int .i64 0, .int .i64 0, .string ⟨#[]⟩]), 4, 40) := by kernel_rfl
theorem rfunInfo : (Try.prog.info? 57).map (fun i => (i.zero, i.size, i.bytes)) = some (some (.agg #[.int .i64 0, .slice none 0 0]), 2, 32) := by kernel_rfl

def OwnI (w : World) (base : Nat) (v : Value) (l : List Ins) : Prop := w.ownsRow base 58 4 v l.length (CsI l)
def OwnF (w : World) (base : Nat) (v : Value) (l : List (Int × Value)) : Prop := w.ownsRow base 57 2 v l.length (CsF l)
theorem OwnI.rd {w : World} {base : Nat} {v : Value} {l : List Ins} (h : OwnI w base v l) : RdI w v l := by
  have hc := h
  rcases h.2 with ⟨rfl, hn⟩ | ⟨g, cap, cur, rfl, hb, hg, hn, hm, _⟩
  · exact .inl ⟨_, _, rfl, List.eq_nil_of_length_eq_zero hn⟩
  · rcases l with _ | ⟨p, ps⟩
    · exact .inl ⟨_, _, rfl, rfl⟩
    · refine .inr ⟨g, 0, cap, rfl, by simp, hn, hm, fun j m hj => ?_⟩
      obtain ⟨h1, h2, h3, h4⟩ := CsI_get _ j m hj
      have c1 := World.ownsRow.cells hc (g := g) rfl _ _ h1
      have c2 := World.ownsRow.cells hc (g := g) rfl _ _ h2
      have c3 := World.ownsRow.cells hc (g := g) rfl _ _ h3
      have c4 := World.ownsRow.cells hc (g := g) rfl _ _ h4
      rw [add_none] at c1 c2 c3 c4
      rw [← Nat.add_assoc] at c2 c3 c4
      exact ⟨c1, c2, c3, c4⟩
theorem OwnF.rd {w : World} {base : Nat} {v : Value} {l : List (Int × Value)} {fs : List Fun} (h : OwnF w base v l) (hl : l.length = fs.length) (hx : ∀ (j : Nat) (f : Fun), fs[j]? = some f → ∃ u, l[j]? = some (f.caps, u) ∧ RdI w u f.code) : RdF w v fs := by
  have hc := h
  rcases h.2 with ⟨rfl, hn⟩ | ⟨g, cap, cur, rfl, hb, hg, hn, hm, _⟩
  · exact .inl ⟨_, _, rfl, List.eq_nil_of_length_eq_zero (by omega)⟩
  · rcases fs with _ | ⟨p, ps⟩
    · refine .inl ⟨some ⟨g, 0, none⟩, cap, ?_, rfl⟩
      rw [hl]; rfl
    · refine .inr ⟨g, 0, cap, by rw [hl], by simp, by omega, hm, fun j f hj => ?_⟩
      obtain ⟨u, hu, hr⟩ := hx j f hj
      obtain ⟨h1, h2⟩ := CsF_get _ j _ hu
      have c1 := World.ownsRow.cells hc (g := g) rfl _ _ h1
      have c2 := World.ownsRow.cells hc (g := g) rfl _ _ h2
      rw [add_none] at c1 c2
      rw [← Nat.add_assoc] at c2
      exact ⟨c1, u, c2, hr⟩
end Go.Proofs.Ythmnhacgcdcbiaa
