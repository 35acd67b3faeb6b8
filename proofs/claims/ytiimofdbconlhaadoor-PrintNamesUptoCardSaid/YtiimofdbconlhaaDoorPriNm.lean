/- Names of small letters alone: the walk. -/
import Derived.Test.YtiimofdbconlhaaDoorPriSt
import Derived.Test.YtiimofdbconlhaaDoorPriNa
namespace Go.Proofs.YtiimofdbconlhaaDoor
open Go.RowKit PriM

theorem nmTs_drop {ks : List Ty} {k : Nat} (h : k < ks.length) : nmTs (ks.drop k) = (nmT ks[k] && nmTs (ks.drop (k + 1))) := by
  rw [List.drop_eq_getElem_cons h, nmTs]
theorem nmTs_end {ks : List Ty} {k : Nat} (h : ks.length ≤ k) : nmTs (ks.drop k) = true := by
  rw [List.drop_of_length_le h]; unfold nmTs; rfl

set_option maxRecDepth 100000 in
set_option maxHeartbeats 2000000 in
theorem named_var (v : Int) (S : ByteArray) (o : Option Addr) (m c : Nat) (w : World) (hs : S.toList = []) :
    Calls Tryd.prog 18 #[.agg #[.string S, .int .i64 v, .slice o m c]] w (BPost w (decide (1 ≤ v) && decide (v ≤ 26))) := by
  have HB := Lib.hid (One.new w (.string S) (.int .i64 v) (.slice o m c)).bel
  have t1 : (S.toList == []) = true := by rw [hs]; rfl
  have t2 : S.toList.isEmpty = true := by rw [hs]; rfl
  clear hs
  by_cases h1 : 1 ≤ v
  · by_cases h2 : v ≤ 26
    · rw [show decide (1 ≤ v) = true by simpa using h1, show decide (v ≤ 26) = true by simpa using h2]
      go_enter Tryd.func18, Tryd.ntmps18
      go_wp2
      go_ret
      exact ⟨rfl, HB.out⟩
    · rw [show decide (1 ≤ v) = true by simpa using h1, show decide (v ≤ 26) = false by simpa using h2]
      go_enter Tryd.func18, Tryd.ntmps18
      go_wp2
      go_ret
      exact ⟨rfl, HB.out⟩
  · rw [show decide (1 ≤ v) = false by simpa using h1]
    go_enter Tryd.func18, Tryd.ntmps18
    go_wp2
    go_ret
    exact ⟨rfl, HB.out⟩

set_option maxRecDepth 100000 in
set_option maxHeartbeats 2000000 in
theorem named_off (v : Int) (S : ByteArray) (o : Option Addr) (m c : Nat) (w : World) (hs : S.toList ≠ []) (hv : v ≠ 0) :
    Calls Tryd.prog 18 #[.agg #[.string S, .int .i64 v, .slice o m c]] w (BPost w false) := by
  have HB := Lib.hid (One.new w (.string S) (.int .i64 v) (.slice o m c)).bel
  have t1 : (S.toList == []) = false := by simpa using hs
  have t2 : S.toList.isEmpty = false := by simpa using hs
  have t3 : (v == 0) = false := by simpa using hv
  have t4 : (v != 0) = true := by simpa using hv
  clear hs hv
  go_enter Tryd.func18, Tryd.ntmps18
  go_wp2
  go_ret
  exact ⟨rfl, HB.out⟩

/-- Up to a place all are small letters. -/
def LtrTo (S : ByteArray) (k : Nat) : Prop := ∀ j (h : j < S.size), j < k → ltr S[j] = true
theorem ltr_int {c : UInt8} : ltr c = true ↔ 97 ≤ (c.toNat : Int) ∧ (c.toNat : Int) ≤ 122 := by
  unfold ltr
  simp only [Bool.and_eq_true, decide_eq_true_eq]
  omega
theorem LtrTo.next {S : ByteArray} {k : Nat} (h : LtrTo S k) (hk : k < S.size) (hc : ltr S[k] = true) : LtrTo S (k + 1) := fun j hj h1 => by
  by_cases e : j = k
  · subst e; exact hc
  · exact h j hj (by omega)
theorem all_iff (nm : List UInt8) : nm.all ltr = true ↔ LtrTo ⟨nm.toArray⟩ (⟨nm.toArray⟩ : ByteArray).size := by
  rw [List.all_eq_true]
  have hz : (⟨nm.toArray⟩ : ByteArray).size = nm.length := size_mk nm
  constructor
  · intro h j hj _
    exact h _ (by show nm.toArray[j] ∈ nm; simp)
  · intro h x hx
    obtain ⟨j, hj, rfl⟩ := List.mem_iff_getElem.1 hx
    exact h j (by rw [hz]; exact hj) (by rw [hz]; exact hj)

set_option maxRecDepth 100000 in
set_option maxHeartbeats 4000000 in
theorem named_letter (S : ByteArray) (o : Option Addr) (m c : Nat) (w : World) (hs : S.toList ≠ []) (n1 : S.toList ≠ [45, 62]) (n2 : S.toList ≠ [42]) (hz : S.size ≤ 100000000000) (hl : ¬ LtrTo S S.size) :
    Calls Tryd.prog 18 #[.agg #[.string S, .int .i64 0, .slice o m c]] w (BPost w false) := by
  have H1 := Lib.hid (One.new w (.string S) (.int .i64 0) (.slice o m c))
  have t1 : (S.toList == []) = false := by simpa using hs
  have t2 : S.toList.isEmpty = false := by simpa using hs
  have t3 : (S.toList == [45, 62]) = false := by simpa using n1
  have t4 : (S.toList == [42]) = false := by simpa using n2
  have HL := Lib.hid hl
  have H0 := Lib.hid (show LtrTo S 0 from fun j _ h => absurd h (by omega))
  clear hs n1 n2 hl
  go_enter Tryd.func18, Tryd.ntmps18
  go_wp2_with fail
  go_loopw [3] (fun i wr => ∃ k : Nat, k ≤ S.size ∧ i = .int .i64 k ∧ LtrTo S k ∧ One w wr (.string S) (.int .i64 0) (.slice o m c)) (fun i _ => S.size - (intOf i).toNat)
  case atStart => exact ⟨0, Nat.zero_le _, rfl, H0.out, H1.out⟩
  case round =>
    obtain ⟨k, hk, rfl, hK, hone⟩ := hrel
    obtain ⟨a0, a1, a2⟩ := hone.box.cells
    have HO := Lib.hid hone
    clear hone
    by_cases hlt : k < S.size
    · have HN := Lib.hid (fun h => hK.next hlt h)
      clear hK
      by_cases hc : ltr S[k] = true
      · obtain ⟨l1, l2⟩ := ltr_int.1 hc
        have HK := Lib.hid (HN.out hc)
        clear hc
        go_wp2
        go_roundw
        case rel => exact ⟨k + 1, hlt, by go_num, HK.out, HO.out⟩
        case measure => simp [intOf]; omega
      · have l1 : ¬ (97 ≤ (S[k].toNat : Int) ∧ (S[k].toNat : Int) ≤ 122) := fun h => hc (ltr_int.2 h)
        clear hc
        by_cases l2 : (S[k].toNat : Int) < 97
        · clear l1
          go_wp2
          go_ret
          exact ⟨rfl, HO.out.bel⟩
        · have l3 : 122 < (S[k].toNat : Int) := by omega
          clear l1
          go_wp2
          go_ret
          exact ⟨rfl, HO.out.bel⟩
    · obtain rfl : k = S.size := by omega
      exact absurd hK HL.out

end Go.Proofs.YtiimofdbconlhaaDoor
