/- The name of a type's variable. -/
import Derived.Test.YtiimofdbconlhaaDoorPriK
import Derived.Test.YtiimofdbconlhaaDoorPriS
import Derived.Laws.Cover4
import Derived.Lib.ItoaLen
namespace Go.Proofs.YtiimofdbconlhaaDoor
open Go.RowKit PriM

/-- A variable's name. -/
def vn (v : Int) : List UInt8 := if 1 ≤ v ∧ v ≤ 26 then [39, UInt8.ofNat (96 + v.toNat)] else 39 :: 116 :: Lib.itoa v

/-- The table of the library's that a world has. -/
abbrev Tab (w : World) : Prop := Lib.TabIs Tryd.prog w "internal/strconv.uint64pow10" .u64 Lib.pow10Tab

theorem runes_small : ∀ k : Fin 26, (runesBytes [39, 97 + (((k.val + 1 : Nat) : Int) - 1)]).data.toList = [39, UInt8.ofNat (96 + (k.val + 1))] := by decide +kernel
theorem runes_var (v : Int) (h1 : 1 ≤ v) (h2 : v ≤ 26) : runesBytes [39, 97 + (v - 1)] = ⟨#[39, UInt8.ofNat (96 + v.toNat)]⟩ := by
  have := runes_small ⟨v.toNat - 1, by omega⟩
  simp only at this
  rw [show v.toNat - 1 + 1 = v.toNat by omega, Int.toNat_of_nonneg (by omega)] at this
  generalize runesBytes [39, 97 + (v - 1)] = r at *
  obtain ⟨r⟩ := r
  simp only at this
  rw [← this]

theorem grow_below (w : World) (k : Nat) (os : Array Obj) : Below w.heap.size w (Sort.grow (w.drewN k) os) :=
  ⟨rfl, rfl, rfl, by simp [Sort.grow, World.drewN], fun i hi => by
    show (w.heap ++ os)[i]? = w.heap[i]?
    rw [Array.getElem?_append, if_pos hi]⟩

theorem bytes_cat (a b : List UInt8) : (⟨a.toArray⟩ : ByteArray) ++ ⟨b.toArray⟩ = ⟨(a ++ b).toArray⟩ := by
  apply ByteArray.ext
  show (_ ++ _ : ByteArray).data = _
  simp [ByteArray.data_append]

set_option maxRecDepth 100000 in
set_option maxHeartbeats 1000000 in
theorem var_any (v : Int) (h0 : -9223372036854775808 ≤ v) (h1 : v ≤ 9223372036854775807) (w : World) (ht : Tab w) :
    Calls Tryd.prog 16 #[.int .i64 v] w fun e w' => e = .returned (.string ⟨(vn v).toArray⟩) ∧ Below w.heap.size w w' := by
  unfold vn
  by_cases hr : 1 ≤ v ∧ v ≤ 26
  · rw [if_pos hr]
    obtain ⟨a1, a2⟩ := hr
    have n1 : ¬ v < 1 := by omega
    have n2 : ¬ v > 26 := by omega
    have hn := heap_alloc_new w (.cells #[.int .i32 39, .int .i32 (97 + (v - 1))] 21)
    have kc := run_convert_runes (P := Tryd.prog) (w.alloc (.cells #[.int .i32 39, .int .i32 (97 + (v - 1))] 21)) 64 9 21 ⟨w.heap.size, 0, none⟩ 2 2 [39, 97 + (v - 1)] (by simp) Tryd.underlying64 Tryd.underlying21 Tryd.underlying9 (fun j hj => by
      rw [add_none, Nat.zero_add, cell_of_row _ _ _ _ _ _ hn]
      rcases j with _ | _ | j
      · rfl
      · rfl
      · simp at hj; omega)
    rw [show ([39, 97 + (v - 1)] : List Int).take 2 = [39, 97 + (v - 1)] from rfl, runes_var v a1 a2] at kc
    have hw : IntKind.i32.wrap (v - 1) = v - 1 := by exact IntWalk.i32_in _ (by omega)
    clear hn ht
    go_enter Tryd.func16, Tryd.ntmps16
    go_wp2
    go_ret
    exact ⟨rfl, (Below.refl _ _).alloc (Nat.le_refl _) _⟩
  · rw [if_neg hr]
    have HI := Lib.hid (fun W (h : Tab W) => Tryd.strconv_Itoa v h0 h1 W h)
    have HT := Lib.hid ht
    have hlen := Lib.itoa_length_le v h0 h1
    have hov : ¬ 9223372036854775807 < 2 + (Lib.itoa v).length := by omega
    have hcat : (⟨#[39, 116]⟩ : ByteArray) ++ ⟨(Lib.itoa v).toArray⟩ = ⟨(39 :: 116 :: Lib.itoa v).toArray⟩ := bytes_cat [39, 116] _
    have HC := Lib.hid hcat
    clear ht hcat
    by_cases hlt : v < 1
    · clear hr
      go_enter Tryd.func16, Tryd.ntmps16
      go_wp2_with (go_at_call 28; refine (HI.out _ HT.out).mono ?_; rintro e w' ⟨rfl, k, os, rfl⟩)
      go_ret
      exact ⟨by rw [HC.out]; rfl, grow_below _ _ _⟩
    · have hgt : 26 < v := by omega
      clear hr
      go_enter Tryd.func16, Tryd.ntmps16
      go_wp2_with (go_at_call 28; refine (HI.out _ HT.out).mono ?_; rintro e w' ⟨rfl, k, os, rfl⟩)
      go_ret
      exact ⟨by rw [HC.out]; rfl, grow_below _ _ _⟩
end Go.Proofs.YtiimofdbconlhaaDoor
