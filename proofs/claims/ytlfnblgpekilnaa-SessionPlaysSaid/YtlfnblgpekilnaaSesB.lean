/- Sessions: where one is, or would be. -/
import Derived.Test.YtlfnblgpekilnaaSesA
import Derived.Deep.LoopGhost
namespace Go.Proofs.Ytlfnblgpekilnaa
open Go.RowKit OctM

set_option maxHeartbeats 2000000 in
set_option maxRecDepth 100000 in
theorem isnan (x : Int) (w : World) : Calls Try.prog 46 #[.int .u64 x] w fun e w' => e = .returned (.bool false) ∧ w = w' := by
  have h1 : ((x : Int) != x) = false := by simp
  have h2 : ((x : Int) == x) = true := by simp
  go_enter Try.func46, Try.ntmps46
  go_wp2_with fail
  go_ret
  exact ⟨rfl, rfl⟩

/-- Which of two is less. -/
def cmpI (a b : Nat) : Int := if a < b then -1 else if b < a then 1 else 0

set_option maxHeartbeats 2000000 in
set_option maxRecDepth 100000 in
theorem compare_any (a b : Nat) (w : World) : Calls Try.prog 39 #[.int .u64 (a : Int), .int .u64 (b : Int)] w fun e w' => e = .returned (.int .i64 (cmpI a b)) ∧ w = w' := by
  have H1 := Lib.hid (isnan (a : Int) w)
  have H2 := Lib.hid (isnan (b : Int) w)
  go_enter Try.func39, Try.ntmps39
  go_wp2_with fail
  refine H1.out.mono ?_
  rintro e w' ⟨rfl, rfl⟩
  go_wp2_with fail
  refine H2.out.mono ?_
  rintro e w' ⟨rfl, rfl⟩
  by_cases h1 : a < b
  · have h2 : (a : Int) < (b : Int) := by omega
    have HE : Hid (cmpI a b = -1) := Lib.hid (if_pos h1)
    go_wp2_with fail
    go_ret
    exact ⟨by rw [HE.out]; try rfl, rfl⟩
  · have h2 : ¬ (a : Int) < (b : Int) := by omega
    by_cases h3 : b < a
    · have h4 : (b : Int) < (a : Int) := by omega
      have HE : Hid (cmpI a b = 1) := Lib.hid (by unfold cmpI; rw [if_neg h1, if_pos h3])
      go_wp2_with fail
      go_ret
      exact ⟨by rw [HE.out]; try rfl, rfl⟩
    · have h4 : ¬ (b : Int) < (a : Int) := by omega
      have HE : Hid (cmpI a b = 0) := Lib.hid (by unfold cmpI; rw [if_neg h1, if_neg h3])
      go_wp2_with fail
      go_ret
      exact ⟨by rw [HE.out]; try rfl, rfl⟩

def seV (x : Se) (v : Value) : Value := .agg #[.int .u64 (x.id : Int), .int .u64 (x.nm : Int), v]

set_option maxHeartbeats 2000000 in
set_option maxRecDepth 100000 in
theorem find1_any (x : Se) (o : Option Addr) (n c : Nat) (id : Nat) (w : World) : Calls Try.prog 38 #[seV x (.slice o n c), .int .u64 (id : Int)] w fun e w' => e = .returned (.int .i64 (cmpI x.id id)) ∧ Below w.heap.size w w' := by
  have hb : Below w.heap.size w (w.alloc (.cells #[.int .u64 (x.id : Int), .int .u64 (x.nm : Int), .slice o n c] 60)) := (Below.refl _ _).alloc (Nat.le_refl _) _
  have hn := heap_alloc_new w (.cells #[.int .u64 (x.id : Int), .int .u64 (x.nm : Int), .slice o n c] 60)
  have g0 := cellk (i := 0) hn rfl
  have HB := Lib.hid hb
  clear hb hn
  unfold seV
  go_enter Try.func38, Try.ntmps38
  go_upto_region 1 with fail
  generalize w.alloc (.cells #[.int .u64 (x.id : Int), .int .u64 (x.nm : Int), .slice o n c] 60) = W at *
  have H1 := Lib.hid (compare_any x.id id W)
  go_wp2_with fail
  refine H1.out.mono ?_
  rintro e w' ⟨rfl, rfl⟩
  go_wp2_with fail
  go_ret
  exact ⟨rfl, HB.out⟩

/-- How many sessions come ahead of a number. -/
def pl (l : List Se) (id : Nat) : Nat := (l.takeWhile (fun s => decide (s.id < id))).length
/-- Their numbers rise. -/
def Ris (l : List Se) : Prop := ∀ (i j : Nat) (x y : Se), i < j → l[i]? = some x → l[j]? = some y → x.id < y.id
theorem pl_le (l : List Se) (id : Nat) : pl l id ≤ l.length := by
  unfold pl
  exact (List.takeWhile_prefix _).length_le
theorem pl_of (l : List Se) (id i : Nat) (h0 : i ≤ l.length) (h1 : ∀ t s, t < i → l[t]? = some s → s.id < id) (h2 : ∀ s, l[i]? = some s → ¬ s.id < id) : pl l id = i := by
  unfold pl
  induction l generalizing i with
  | nil => simp at h0; simp [h0]
  | cons a l ih =>
    rcases i with _ | i
    · have := h2 a rfl
      simp [this]
    · have ha := h1 0 a (by omega) rfl
      rw [List.takeWhile_cons]
      simp only [ha, decide_true, if_true, List.length_cons]
      rw [ih i (by simpa using h0) (fun t s ht hs => h1 (t + 1) s (by omega) (by simpa using hs)) (fun s hs => h2 s (by simpa using hs))]
theorem pl_lt (l : List Se) (id t : Nat) (s : Se) (ht : t < pl l id) (hs : l[t]? = some s) : s.id < id := by
  unfold pl at ht
  induction l generalizing t with
  | nil => simp at hs
  | cons a l ih =>
    rw [List.takeWhile_cons] at ht
    split at ht
    · rename_i ha
      rcases t with _ | t
      · simp at hs; subst hs; simpa using ha
      · exact ih t (by simpa using ht) (by simpa using hs)
    · simp at ht
theorem pl_at (l : List Se) (id : Nat) (s : Se) (hs : l[pl l id]? = some s) : ¬ s.id < id := by
  unfold pl at hs
  induction l with
  | nil => simp at hs
  | cons a l ih =>
    rw [List.takeWhile_cons] at hs
    split at hs
    · exact ih (by simpa using hs)
    · rename_i ha
      simp at hs; subst hs; simpa using ha
/-- The session of this number, if it is there. -/
def seAt (l : List Se) (id : Nat) : Option Se := match l[pl l id]? with | some s => if s.id = id then some s else none | none => none

/-- A table in memory, in block b. -/
structure TAx (w : World) (b base : Nat) (v : Value) (ps : List (Se × Value)) : Prop where
  cell : w.heap[b]? = some (.cells #[v] 55 (0, 0))
  own : OwnS w base 60 v ps

/-- What holds of a row as long as blocks are laid alone. -/
structure SRow (w0 w : World) (g : Nat) (ps : List (Se × Value)) : Prop where
  bel : Below w0.heap.size w0 w
  lt : g < w0.heap.size
  cells : ∀ j u, (CsS ps)[j]? = some u → w0.cell? ⟨g, j, none⟩ = some u

theorem SRow.at {w0 w : World} {g : Nat} {ps : List (Se × Value)} (h : SRow w0 w g ps) {i : Nat} {p : Se × Value} (hp : ps[i]? = some p) :
    w.cell? ⟨g, i * 3, none⟩ = some (.int .u64 (p.1.id : Int)) ∧ w.cell? ⟨g, i * 3 + 1, none⟩ = some (.int .u64 (p.1.nm : Int)) ∧ w.cell? ⟨g, i * 3 + 2, none⟩ = some p.2 := by
  have k : ∀ j u, (cS p)[j]? = some u → w.cell? ⟨g, i * 3 + j, none⟩ = some u := fun j u hu => (h.bel.cell (p := ⟨g, i * 3 + j, none⟩) h.lt).trans (h.cells _ _ (CsS_get ps i p hp j u hu))
  exact ⟨k 0 _ rfl, k 1 _ rfl, k 2 _ rfl⟩

set_option maxHeartbeats 4000000 in
set_option maxRecDepth 100000 in
theorem bin_any (base : Nat) (v : Value) (ps : List (Se × Value)) (id : Nat) (w : World) (h : OwnS w base 60 v ps) (hl : ps.length ≤ 1000) (hr : Ris (ps.map Prod.fst)) :
    Calls Try.prog 37 #[v, .int .u64 (id : Int), .func (.func 38) #[] #[]] w fun e w' => e = .returned (.tuple #[.int .i64 (pl (ps.map Prod.fst) id : Int), .bool (seAt (ps.map Prod.fst) id).isSome]) ∧ Below w.heap.size w w' := by
  rcases Nat.eq_zero_or_pos ps.length with h0 | h0
  · obtain ⟨o, c, rfl⟩ := own_slice h.row
    have hps : ps = [] := List.eq_nil_of_length_eq_zero h0
    subst hps
    clear h
    simp only [List.length_nil]
    go_enter Try.func37, Try.ntmps37
    go_wp2_with fail
    go_loopg [9, 10] 0 (fun _ s9 s10 wr => s9 = .int .i64 0 ∧ s10 = .int .i64 0 ∧ wr = w)
    case atStart => exact ⟨rfl, rfl, rfl⟩
    case round =>
      obtain ⟨rfl, rfl, rfl⟩ := hrel
      go_wp2_with fail
      go_ret2
      exact ⟨rfl, Below.refl _ _⟩
  · obtain ⟨g, c, rfl, hgb, hgl, -, hcs⟩ := own_at h.row h0
    have HS := Lib.hid (show SRow w w g ps from ⟨Below.refl _ _, hgl, hcs⟩)
    have HR := Lib.hid hr
    have HO := Lib.hid h
    have HL := Lib.hid hl
    generalize hLL : ps.map Prod.fst = L at *
    have HLL := Lib.hid hLL
    have hn : L.length = ps.length := by rw [← hLL]; simp
    have HN := Lib.hid hn
    clear hcs h hr hLL hn
    go_enter Try.func37, Try.ntmps37
    go_wp2_with fail
    go_loopg [9, 10] ps.length (fun kx s9 s10 wr => ∃ lo hi : Nat, s9 = .int .i64 (lo : Int) ∧ s10 = .int .i64 (hi : Int) ∧ lo ≤ hi ∧ hi ≤ ps.length ∧ hi - lo ≤ kx ∧ Hid (SRow w wr g ps) ∧ Hid ((∀ (t : Nat) s, t < lo → L[t]? = some s → s.id < id) ∧ (∀ (t : Nat) s, hi ≤ t → L[t]? = some s → ¬ s.id < id)))
    case atStart => exact ⟨0, ps.length, rfl, rfl, by omega, by omega, by omega, HS, Lib.hid ⟨fun t s ht => by omega, fun t s ht hs => by have := (List.getElem?_eq_some_iff.1 hs).1; have := HN.out; omega⟩⟩
    case round =>
      clear HS
      obtain ⟨lo, hi, rfl, rfl, hlh, hin, hg, S1, I⟩ := hrel
      have hl6 := HL.out
      by_cases hlt : lo < hi
      · have i1 : (lo : Int) < (hi : Int) := by omega
        obtain ⟨m, hm⟩ : ∃ m, m = (lo + hi) / 2 := ⟨_, rfl⟩
        have hm1 : lo ≤ m := by omega
        have hm2 : m < hi := by omega
        have e1 : IntKind.i64.wrap ((lo : Int) + (hi : Int)) = (lo : Int) + (hi : Int) := IntWalk.i64_in _ (by omega)
        have hpx : ps[m]? = some ps[m] := List.getElem?_eq_getElem (by omega)
        have hLm : L[m]? = some (ps[m]).1 := by rw [← HLL.out, List.getElem?_map, hpx]; rfl
        have hown := HO.out.cells _ (List.getElem_mem (by omega : m < ps.length))
        generalize ps[m] = P at *
        obtain ⟨X, vx⟩ := P
        dsimp only at hown hLm
        obtain ⟨ox, cx, rfl⟩ := own_slice hown
        obtain ⟨x0, x1, x2⟩ := S1.out.at hpx
        dsimp only at x0 x1 x2
        have HC := Lib.hid (find1_any X ox X.rp.length cx id wr)
        have HX := Lib.hid hLm
        unfold seV at HC
        have wm : IntKind.i64.wrap (((lo : Int) + (hi : Int)) / 2 + 1) = ((lo : Int) + (hi : Int)) / 2 + 1 := IntWalk.i64_in _ (by omega)
        clear hpx hLm hown
        subst hm
        go_wp2_with fail
        refine HC.out.mono ?_
        rintro e wb ⟨rfl, hbb⟩
        have HBB := Lib.hid (show SRow w wb g ps from ⟨S1.out.bel.trans (hbb.mono S1.out.bel.size), S1.out.lt, S1.out.cells⟩)
        clear hbb HC x0 x1 x2
        by_cases hx : X.id < id
        · have HE : cmpI X.id id = -1 := if_pos hx
          have hneg : cmpI X.id id < 0 := by omega
          go_wp2_with fail
          go_roundg (hi - ((lo + hi) / 2 + 1))
          case measure => omega
          case rel =>
            refine ⟨(lo + hi) / 2 + 1, hi, by rw [show ((lo : Int) + (hi : Int)) / 2 + 1 = (((lo + hi) / 2 + 1 : Nat) : Int) by omega], rfl, by omega, hin, Nat.le_refl _, HBB, Lib.hid ⟨fun t s ht hs => ?_, I.out.2⟩⟩
            rcases Nat.lt_or_ge t ((lo + hi) / 2) with h1 | h1
            · exact Nat.lt_trans (HR.out t _ s X h1 hs HX.out) hx
            · have h2 : t = (lo + hi) / 2 := by omega
              subst h2
              have := HX.out
              rw [hs] at this
              injection this with this
              rw [this]; exact hx
        · have hneg : ¬ cmpI X.id id < 0 := by unfold cmpI; rw [if_neg hx]; split <;> omega
          go_wp2_with fail
          go_roundg ((lo + hi) / 2 - lo)
          case measure => omega
          case rel =>
            refine ⟨lo, (lo + hi) / 2, rfl, by rw [show ((lo : Int) + (hi : Int)) / 2 = (((lo + hi) / 2 : Nat) : Int) by omega], by omega, by omega, Nat.le_refl _, HBB, Lib.hid ⟨I.out.1, fun t s ht hs => ?_⟩⟩
            rcases Nat.lt_or_ge ((lo + hi) / 2) t with h1 | h1
            · have := HR.out _ t X s h1 HX.out hs
              omega
            · have h2 : t = (lo + hi) / 2 := by omega
              subst h2
              have := HX.out
              rw [hs] at this
              injection this with this
              rw [this]; exact hx
      · have hie : hi = lo := by omega
        have HPL : Hid (pl L id = lo) := Lib.hid (pl_of L id lo (by have := HN.out; omega) I.out.1 (fun s hs => I.out.2 lo s (by omega) hs))
        have i1 : ¬ (lo : Int) < (hi : Int) := by omega
        clear hg
        by_cases hend : lo < ps.length
        · have i2 : (lo : Int) < (ps.length : Int) := by omega
          have hpx : ps[lo]? = some ps[lo] := List.getElem?_eq_getElem hend
          have hLm : L[lo]? = some (ps[lo]).1 := by rw [← HLL.out, List.getElem?_map, hpx]; rfl
          have hown := HO.out.cells _ (List.getElem_mem hend)
          generalize ps[lo] = P at *
          obtain ⟨X, vx⟩ := P
          dsimp only at hown hLm
          obtain ⟨ox, cx, rfl⟩ := own_slice hown
          obtain ⟨x0, x1, x2⟩ := S1.out.at hpx
          dsimp only at x0 x1 x2
          have HC := Lib.hid (find1_any X ox X.rp.length cx id wr)
          have HX := Lib.hid hLm
          have hge := I.out.2 lo X (by omega) hLm
          unfold seV at HC
          clear hpx hLm hown
          have HSE : Hid ((seAt L id).isSome = decide (cmpI X.id id = 0)) := Lib.hid (by
            unfold seAt
            rw [HPL.out, HX.out]
            dsimp only
            unfold cmpI
            rw [if_neg hge]
            by_cases h1 : X.id = id
            · rw [if_pos h1, if_neg (by omega)]; rfl
            · rw [if_neg h1, if_pos (by omega)]; rfl)
          generalize hz : cmpI X.id id = z at *
          go_wp2_with fail
          refine HC.out.mono ?_
          rintro e wb ⟨rfl, hbb⟩
          have HBB := Lib.hid (S1.out.bel.trans (hbb.mono S1.out.bel.size))
          clear hbb HC x0 x1 x2
          by_cases hz0 : z = 0
          · go_wp2_with fail
            go_ret2
            exact ⟨by rw [HPL.out, HSE.out]; simp [hz0], HBB.out⟩
          · go_wp2_with fail
            go_ret2
            exact ⟨by rw [HPL.out, HSE.out]; simp [hz0], HBB.out⟩
        · have i2 : ¬ (lo : Int) < (ps.length : Int) := by omega
          have HSE : Hid ((seAt L id).isSome = false) := Lib.hid (by
            unfold seAt
            rw [HPL.out, List.getElem?_eq_none (by have := HN.out; omega)]
            rfl)
          go_wp2_with fail
          go_ret2
          exact ⟨by rw [HPL.out, HSE.out]; try rfl, S1.out.bel⟩
end Go.Proofs.Ytlfnblgpekilnaa
