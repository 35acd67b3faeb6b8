/- The turtle's walk: check. -/
import Derived.Test.YtjmfgpklemhomabTurB
namespace Go.Proofs.Ytjmfgpklemhomab
open Go.RowKit TurF TurP

/-- The move's number fits. -/
def InR (l : List Mv) : Prop := ∀ m ∈ l, -9223372036854775808 ≤ m.2 ∧ m.2 ≤ 9223372036854775807

/-- The cells of moves. -/
def CellsM (w : World) (b off : Nat) (l : List Mv) : Prop := ∀ j m, l[j]? = some m → w.cell? ⟨b, off + j * 2, none⟩ = some (.bool m.1) ∧ w.cell? ⟨b, off + j * 2 + 1, none⟩ = some (.int .i64 m.2)

/-- A slice that reads as the moves l. -/
def RdM (w : World) (v : Value) (l : List Mv) : Prop :=
  (∃ o c, (o = none → c = 0) ∧ v = .slice o 0 c ∧ l = []) ∨
  ∃ b off c, v = .slice (some ⟨b, off, none⟩) l.length c ∧ 0 < l.length ∧ l.length ≤ c ∧ c ≤ maxLen ∧ CellsM w b off l

theorem CellsM.below {w w' : World} {b off n : Nat} {l : List Mv} (h : CellsM w b off l) (hb : Below n w w') (hn : w.heap.size ≤ n) : CellsM w' b off l := by
  intro j m hm
  obtain ⟨h1, h2⟩ := h j m hm
  have l1 := World.block_lt_of_cell? w _ h1
  simp only at l1
  exact ⟨(hb.cell (by simp; omega)).trans h1, (hb.cell (by simp; omega)).trans h2⟩
theorem RdM.below {w w' : World} {v : Value} {n : Nat} {l : List Mv} (h : RdM w v l) (hb : Below n w w') (hn : w.heap.size ≤ n) : RdM w' v l := by
  rcases h with h | ⟨b, off, c, h1, h2, h3, h4, h5⟩
  · exact .inl h
  · exact .inr ⟨b, off, c, h1, h2, h3, h4, h5.below hb hn⟩

theorem far_snoc (l : List Mv) (k : Nat) (h : k < l.length) (h1 : (l.take k).any far = false) (h2 : far l[k] = false) : (l.take (k + 1)).any far = false := by
  rw [List.take_succ_eq_append_getElem h, List.any_append, h1]
  simp [h2]
theorem far_here (l : List Mv) (k : Nat) (h : k < l.length) (h2 : far l[k] = true) : l.any far = true := by
  rw [List.any_eq_true]
  exact ⟨l[k], List.getElem_mem _, h2⟩

theorem err_long {l : List Mv} (h : 1000 < l.length) : err l = 2 := by unfold err; rw [if_pos h]
theorem err_far {l : List Mv} (h : ¬ 1000 < l.length) (k : l.any far = true) : err l = 1 := by unfold err; rw [if_neg h, if_pos k]
theorem err_ok {l : List Mv} (h : ¬ 1000 < l.length) (k : l.any far = false) : err l = 0 := by unfold err; rw [if_neg h, if_neg (by simp [k])]

/-- What check leaves. -/
def Checked (l : List Mv) (e : Ending) : Prop := e = .returned (.int .i64 (err l))
theorem checked_of {l : List Mv} {n : Int} (h : err l = n) : Checked l (.returned (.int .i64 n)) := by unfold Checked; rw [h]

set_option maxHeartbeats 2000000 in
set_option maxRecDepth 100000 in
theorem check_row (b off c : Nat) (l : List Mv) (w : World) (h0 : 0 < l.length) (hl : l.length ≤ c) (hm : c ≤ maxLen) (hc : CellsM w b off l) :
    Calls Try.prog 19 #[.slice (some ⟨b, off, none⟩) l.length c] w fun e w' => Checked l e ∧ Below w.heap.size w w' := by
  unfold maxLen at hm
  have Hc := Lib.hid hc
  clear hc
  by_cases hlong : 1000 < l.length
  · have HE := Lib.hid (err_long hlong)
    go_enter Try.func19, Try.ntmps19
    go_wp2
    go_ret
    exact ⟨checked_of HE.out, Below.refl _ _⟩
  · go_enter Try.func19, Try.ntmps19
    go_wp2
    go_loopw [10] (fun i wr => ∃ k : Nat, k ≤ l.length ∧ i = .int .i64 k ∧ Below w.heap.size w wr ∧ Hid ((l.take k).any far = false)) (fun i _ => l.length - (intOf i).toNat)
    case atStart => exact ⟨0, by omega, rfl, Below.refl _ _, by simp [Hid]⟩
    case round =>
      obtain ⟨k, hk, rfl, hb, hf⟩ := hrel
      by_cases hlt : k < l.length
      · obtain ⟨c1, c2⟩ := (CellsM.below Hc.out hb (Nat.le_refl _)) k l[k] (by simp [hlt])
        have hsz := hb.size
        have HS := Lib.hid (far_snoc l k hlt hf.out)
        have HH := Lib.hid (far_here l k hlt)
        generalize l[k] = m at *
        obtain ⟨t, n⟩ := m
        dsimp only at c1 c2
        have bend : Below w.heap.size w (wr.alloc (.cells #[.bool t, .int .i64 n] 43)) := hb.alloc hsz _
        have BE := Lib.hid bend
        have BR := Lib.hid hb
        clear bend hb hf
        rcases t with _ | _
        · have F : far (false, n) = (decide (n < -1000000) || decide (1000000 < n)) := rfl
          by_cases h1 : n < -1000000
          · have H1 := HH.out (by rw [F]; simp [h1])
            have HE := Lib.hid (err_far hlong H1)
            clear F H1 HS HH
            go_wp2
            go_ret
            exact ⟨checked_of HE.out, BE.out⟩
          · by_cases h2 : 1000000 < n
            · have H1 := HH.out (by rw [F]; simp [h2])
              have HE := Lib.hid (err_far hlong H1)
              clear F H1 HS HH
              go_wp2
              go_ret
              exact ⟨checked_of HE.out, BE.out⟩
            · have H1 := Lib.hid (HS.out (by rw [F]; simp [h1, h2]))
              clear F HS HH
              go_wp2
              exact ⟨⟨k + 1, by omega, by go_num, BE.out, H1⟩, by simp [intOf]; omega⟩
        · have H1 := Lib.hid (HS.out rfl)
          clear HS HH
          go_wp2
          exact ⟨⟨k + 1, by omega, by go_num, BE.out, H1⟩, by simp [intOf]; omega⟩
      · have e : l.take k = l := List.take_of_length_le (by omega)
        have HE := Lib.hid (err_ok hlong (by rw [← e]; exact hf.out))
        clear e hf
        go_wp2
        go_ret
        exact ⟨checked_of HE.out, hb⟩

set_option maxHeartbeats 2000000 in
set_option maxRecDepth 100000 in
theorem check_none (o : Option Addr) (c : Nat) (w : World) :
    Calls Try.prog 19 #[.slice o 0 c] w fun e w' => Checked [] e ∧ Below w.heap.size w w' := by
  have HE := Lib.hid (err_ok (l := []) (by simp) rfl)
  go_enter Try.func19, Try.ntmps19
  go_wp2
  go_loop [10] (fun i => i = .int .i64 0) (fun _ => 0)
  case atStart => rfl
  case round =>
    obtain rfl := hrel
    go_wp2
    go_ret
    exact ⟨checked_of HE.out, Below.refl _ _⟩

theorem check (v : Value) (l : List Mv) (w : World) (h : RdM w v l) :
    Calls Try.prog 19 #[v] w fun e w' => Checked l e ∧ Below w.heap.size w w' := by
  rcases h with ⟨o, c, -, rfl, rfl⟩ | ⟨b, off, c, rfl, h2, h3, h4, h5⟩
  · exact check_none o c w
  · exact check_row b off c l w h2 h3 h4 h5
end Go.Proofs.Ytjmfgpklemhomab
