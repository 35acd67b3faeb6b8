/- Equal, Open: contracts. -/
import Derived.Test.YtdckcjcddibglaaOctG
namespace Go.Proofs.Ytdckcjcddibglaa
open Go.RowKit OctM

set_option maxHeartbeats 1000000 in
set_option maxRecDepth 100000 in
theorem equal (p q : Value) (l k : List UInt8) (w : World) (hp : Rd w p l) (hq : Rd w q k) :
    Calls Try.prog 59 #[p, q] w fun e w' => e = .returned (.bool (l == k)) ∧ w = w' := by
  have h1 := toStr hp
  have h2 := toStr hq
  unfold S at h1 h2
  clear hp hq
  go_enter Try.func59, Try.ntmps59
  go_wp2_with fail
  go_ret
  exact ⟨rfl, rfl⟩

/-- The bytes of sealed ones; the error's number. -/
def openS (l : List UInt8) : List UInt8 × Int :=
  if l.length < 4 then ([], 3) else if sealed (l.take (l.length - 4)) = l then (l.take (l.length - 4), 0) else ([], 14)

/-- What Open leaves. -/
structure OPost (w w' : World) (r : List UInt8 × Int) (e : Ending) : Prop where
  ret : ∃ v, e = .returned (.tuple #[v, .int .i64 r.2]) ∧ Rd w' v r.1
  bel : Below w.heap.size w w'

theorem Rd.take {w : World} {a : Addr} {c : Nat} {l : List UInt8} (h : Rd w (.slice (some a) l.length c) l) (n : Nat) (hn : n ≤ l.length) : Rd w (.slice (some a) n c) (l.take n) := by
  rcases h with ⟨h, _⟩ | ⟨a', c', hv, hl, hm, hc⟩
  · cases h
  · injection hv with hv _ hv2
    injection hv with hv
    subst hv hv2
    refine .inr ⟨a, c, by rw [List.length_take, Nat.min_eq_left hn], by rw [List.length_take]; omega, hm, fun j u hu => hc j u ?_⟩
    rw [List.getElem?_take] at hu
    split at hu
    · exact hu
    · cases hu

set_option maxHeartbeats 4000000 in
set_option maxRecDepth 100000 in
theorem openC (p : Value) (l : List UInt8) (w : World) (h : Rd w p l) (hl : l.length ≤ 140737488351236) :
    Calls Try.prog 52 #[p] w fun e w' => OPost w w' (openS l) e := by
  have h0 : (0 : Int) ≤ (l.length : Int) := by omega
  have h1 : (l.length : Int) ≤ 140737488351236 := by omega
  by_cases h4 : l.length < 4
  · obtain ⟨o, c, rfl⟩ : ∃ o c, p = .slice o l.length c := by
      rcases h with ⟨rfl, rfl⟩ | ⟨_, c, rfl, _⟩ <;> exact ⟨_, _, rfl⟩
    have hd : (l.length : Int) - 4 < 0 := by omega
    have HO : Hid (openS l = ([], 3)) := if_pos h4
    clear h h4
    go_enter Try.func52, Try.ntmps52
    go_wp2_with fail
    go_ret2
    rw [HO.out]
    exact ⟨⟨_, rfl, .inl ⟨rfl, rfl⟩⟩, Below.refl _ _⟩
  · obtain ⟨a, c, rfl, hc⟩ : ∃ a c, p = .slice (some a) l.length c ∧ l.length ≤ c ∧ c ≤ maxLen := by
      rcases h with ⟨rfl, rfl⟩ | ⟨a, c, rfl, h1, h2, _⟩
      · simp at h4
      · exact ⟨_, _, rfl, h1, h2⟩
    obtain ⟨n, hn⟩ : ∃ n : Nat, l.length = n + 4 := ⟨l.length - 4, by omega⟩
    have hsub : (l.length : Int) - 4 = (n : Int) := by omega
    have hn0 : (0 : Int) ≤ (n : Int) := by omega
    have hnc : (n : Int) ≤ (c : Int) := by omega
    have hrt := h.take n (by omega)
    have hlt : (l.take n).length = n := by rw [List.length_take]; omega
    have HS := Lib.hid (sealC (.slice (some a) n c) (l.take n) w hrt (by omega))
    have hm := hc.2
    unfold maxLen at hm
    have hcm : (c : Int) ≤ 9223372036854775807 := by omega
    have hseal := sealed_length (l.take n)
    rw [hlt] at hseal
    have HR := Lib.hid h
    have HO : Hid (openS l = if sealed (l.take n) = l then (l.take n, 0) else ([], 14)) := by
      show openS l = _
      unfold openS
      rw [if_neg h4, show l.length - 4 = n by omega]
    have hcl := hc.1
    clear h hc hm h4 hrt
    rw [hn] at *
    have HLT := Lib.hid hlt
    have HSL := Lib.hid hseal
    clear hlt hseal hsub hn
    have hsub : ((n + 4 : Nat) : Int) - 4 = (n : Int) := by omega
    by_cases he : sealed (l.take n) = l
    · have hb : (sealed (l.take n) == l) = true := by rw [he]; simp
      have HO' : Hid (openS l = (l.take n, 0)) := HO.out.trans (if_pos he)
      have HB := Lib.hid hb
      clear HO he hb
      go_enter Try.func52, Try.ntmps52
      go_wp2_with fail
      refine HS.out.mono ?_
      rintro e w1 ⟨v1, rfl, ho1, hb1⟩
      have HE := equal v1 _ _ _ w1 (Rd.of_own ho1) (HR.out.below hb1)
      rw [HB.out] at HE
      have HE := Lib.hid HE
      obtain ⟨g, cap, hv1, _, _, hcap, hcm1, hcell⟩ : ∃ g c, v1 = .slice (some ⟨g, 0, none⟩) (sealed (l.take n)).length c ∧ w.heap.size ≤ g ∧ g < w1.heap.size ∧ (sealed (l.take n)).length ≤ c ∧ c ≤ maxLen ∧ ∀ j u, (sealed (l.take n))[j]? = some u → w1.cell? ⟨g, j, none⟩ = some (B u) := own_form' ho1 (by rw [HSL.out]; omega)
      rw [HSL.out] at hv1 hcap
      subst hv1
      have hncap : (n : Int) ≤ (cap : Int) := by omega
      unfold maxLen at hcm1
      have hcapm : (cap : Int) ≤ 9223372036854775807 := by omega
      have fin : Rd w1 (.slice (some ⟨g, 0, none⟩) n n) (l.take n) := .inr ⟨_, n, by rw [HLT.out], by rw [HLT.out]; exact Nat.le_refl _, by unfold maxLen; omega, fun j u hu => by
        rw [add_none, Nat.zero_add]
        refine hcell j u ?_
        unfold sealed
        rw [List.getElem?_append_left (List.getElem?_eq_some_iff.1 hu).1]
        exact hu⟩
      have HF := Lib.hid fin
      clear fin hcell ho1
      go_wp2_with fail
      refine HE.out.mono ?_
      rintro e w' ⟨rfl, rfl⟩
      go_wp2_with fail
      go_ret2
      rw [HO'.out]
      exact ⟨⟨_, rfl, HF.out⟩, hb1⟩
    · have hb : (sealed (l.take n) == l) = false := by simp [he]
      have HO' : Hid (openS l = ([], 14)) := HO.out.trans (if_neg he)
      have HB := Lib.hid hb
      clear HO he hb
      go_enter Try.func52, Try.ntmps52
      go_wp2_with fail
      refine HS.out.mono ?_
      rintro e w1 ⟨v1, rfl, ho1, hb1⟩
      have HE := equal v1 _ _ _ w1 (Rd.of_own ho1) (HR.out.below hb1)
      rw [HB.out] at HE
      have HE := Lib.hid HE
      clear ho1
      go_wp2_with fail
      refine HE.out.mono ?_
      rintro e w' ⟨rfl, rfl⟩
      go_wp2_with fail
      go_ret2
      rw [HO'.out]
      exact ⟨⟨_, rfl, .inl ⟨rfl, rfl⟩⟩, hb1⟩
end Go.Proofs.Ytdckcjcddibglaa
