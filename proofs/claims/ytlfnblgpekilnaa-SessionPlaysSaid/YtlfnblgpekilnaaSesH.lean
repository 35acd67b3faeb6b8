/- Sessions: a table of bytes, plain. -/
import Derived.Test.YtlfnblgpekilnaaSesG
import Derived.Test.YtlfnblgpekilnaaOctZ
import Derived.Test.YtlfnblgpekilnaaDecP
namespace Go.Proofs.Ytlfnblgpekilnaa
open Go.RowKit OctM

/-- So many sessions more, their ids above the last one's. -/
def loopT (m : Nat) : Nat → Nat → List Se → Option (List UInt8) → Option (List Se × Option (List UInt8))
  | 0, _, t, s => some (t, s)
  | n + 1, last, t, s =>
    if (bytesS (uintS (uintS s).2).2 m).2 = none ∨ (uintS s).1 ≤ last ∨ (uintS (uintS s).2).1 = 0 then none
    else loopT m n (uintS s).1 (t ++ [⟨(uintS s).1, (uintS (uintS s).2).1, (bytesS (uintS (uintS s).2).2 m).1⟩]) (bytesS (uintS (uintS s).2).2 m).2
def finT (r : Option (List Se × Option (List UInt8))) : Option (List Se) :=
  match r with
  | none => none
  | some (t, s) => if s = some [] then some t else none
def loadS (p : List UInt8) : Option (List Se) := finT (loopT p.length (uptoS (some p) 64).1 0 [] (uptoS (some p) 64).2)

theorem uptoS_none' (most : Int) : uptoS none most = (0, none) := by
  unfold uptoS
  split
  · rfl
  · rw [uintS_none]
theorem uintS_inv {s : Option (List UInt8)} {n : Nat} {r : List UInt8} (h : uintS s = (n, some r)) : s = some (enc n ++ r) := by
  rcases s with _ | l
  · rw [uintS_none] at h; cases h
  · rcases l with _ | ⟨x, t⟩
    · rw [uintS_empty] at h; cases h
    · by_cases hf : 8 < x.toNat ∨ t.length < x.toNat
      · rw [uintS_far x t hf] at h; cases h
      · rw [uintS_near x t (by omega) (by omega)] at h
        split at h
        · rename_i he
          injection h with h1 h2
          injection h2 with h2
          rw [← h1, ← h2, he, List.cons_append, List.take_append_drop]
        · cases h
theorem uptoS_inv {s : Option (List UInt8)} {most : Int} {n : Nat} {r : List UInt8} (h : uptoS s most = (n, some r)) : s = some (enc n ++ r) ∧ (n : Int) ≤ most := by
  unfold uptoS at h
  split at h
  · cases h
  · rename_i hc
    refine ⟨uintS_inv h, ?_⟩
    rw [h] at hc
    simp only at hc
    omega
theorem takeS_inv {s : Option (List UInt8)} {n : Nat} {k r : List UInt8} (h : takeS s n = (k, some r)) : s = some (k ++ r) ∧ k.length = n := by
  rcases s with _ | l
  · simp [takeS] at h
  · by_cases hn : n ≤ l.length
    · rw [takeS_le hn] at h
      injection h with h1 h2
      injection h2 with h2
      subst h1 h2
      exact ⟨by rw [List.take_append_drop], by rw [List.length_take]; omega⟩
    · simp [takeS, hn] at h
theorem bytesS_inv {s : Option (List UInt8)} {most : Int} {k r : List UInt8} (h : bytesS s most = (k, some r)) : s = some (encB k ++ r) ∧ (k.length : Int) ≤ most := by
  unfold bytesS at h
  obtain ⟨h1, h2⟩ := takeS_inv h
  have h3 : uptoS s most = (k.length, some (k ++ r)) := by rw [← h1, h2]
  obtain ⟨h4, h5⟩ := uptoS_inv h3
  exact ⟨by rw [h4, encB, List.append_assoc], h5⟩
theorem pairS {α β : Type} {x : α × β} {b : β} (h : x.2 = b) : x = (x.1, b) := by rw [← h]

theorem loopT_inv (m : Nat) : ∀ (n last : Nat) (t : List Se) (s : Option (List UInt8)) (t' : List Se) (r : List UInt8), loopT m n last t s = some (t', some r) → ∃ k, t' = t ++ k ∧ k.length = n ∧ s = some (bodyS k ++ r)
  | 0, last, t, s, t', r, h => by
    unfold loopT at h
    injection h with h
    injection h with h1 h2
    subst h1 h2
    exact ⟨[], by simp, rfl, by simp [bodyS]⟩
  | n + 1, last, t, s, t', r, h => by
    unfold loopT at h
    split at h
    · cases h
    · rename_i hc
      obtain ⟨k, h1, h2, h3⟩ := loopT_inv m n _ _ _ t' r h
      have e3 := bytesS_inv (pairS h3)
      have e2 := uintS_inv (pairS e3.1)
      have e1 := uintS_inv (pairS e2)
      refine ⟨⟨(uintS s).1, (uintS (uintS s).2).1, (bytesS (uintS (uintS s).2).2 m).1⟩ :: k, by rw [h1]; simp, by simp [h2], ?_⟩
      rw [show bodyS (⟨(uintS s).1, (uintS (uintS s).2).1, (bytesS (uintS (uintS s).2).2 m).1⟩ :: k) = encS ⟨(uintS s).1, (uintS (uintS s).2).1, (bytesS (uintS (uintS s).2).2 m).1⟩ ++ bodyS k by simp [bodyS]]
      refine e1.trans ?_
      simp [encS, List.append_assoc]
/-- What is a table's bytes is what the table saves. -/
theorem loadS_inv {p : List UInt8} {t : List Se} (h : loadS p = some t) : saveB t = p := by
  unfold loadS finT at h
  split at h
  · cases h
  · rename_i t' s hl
    split at h
    · rename_i hs
      injection h with h
      subst h hs
      obtain ⟨k, h1, h2, h3⟩ := loopT_inv _ _ _ _ _ _ _ hl
      have e := uptoS_inv (pairS h3)
      rw [List.nil_append] at h1
      rw [List.append_nil] at e
      obtain ⟨e, -⟩ := e
      injection e with e
      unfold saveB
      rw [h1, h2]
      exact e.symm
    · cases h

/-- What holds of what is read so far. -/
structure Rd1 (m last : Nat) (t : List Se) : Prop where
  ris : Ris t
  ids : ∀ x ∈ t, x.id ≤ last
  wrd : Wrd t
  rp : ∀ x ∈ t, x.rp.length ≤ m
  pos : ∀ x ∈ t, x.nm ≠ 0 ∧ x.id ≠ 0
theorem ris_snoc {t : List Se} {x : Se} (h : Ris t) (hx : ∀ y ∈ t, y.id < x.id) : Ris (t ++ [x]) := by
  intro i j a c hij ha hc
  have hj := (List.getElem?_eq_some_iff.1 hc).1
  simp at hj
  rw [List.getElem?_append_left (by omega)] at ha
  rcases Nat.lt_or_ge j t.length with h1 | h1
  · rw [List.getElem?_append_left h1] at hc
    exact h i j a c hij ha hc
  · rw [List.getElem?_append_right h1, show j - t.length = 0 by omega] at hc
    simp at hc
    subst hc
    exact hx a (List.mem_of_getElem? ha)
theorem bytesS_le (s : Option (List UInt8)) (m : Nat) : (bytesS s m).1.length ≤ m := by
  unfold bytesS
  have h1 := takeS_len (uptoS s m).2 (uptoS s m).1
  have h2 : (uptoS s m).1 ≤ m := by
    unfold uptoS
    split
    · simp
    · rename_i h
      rcases hh : uintS s with ⟨a, b⟩
      rw [hh] at h
      simp only at h ⊢
      omega
  omega
theorem Rd1.snoc {m last id nm : Nat} {t : List Se} {s : Option (List UInt8)} (h : Rd1 m last t) (hid : last < id) (hn : nm ≠ 0) (h1 : id < 18446744073709551616) (h2 : nm < 18446744073709551616) : Rd1 m id (t ++ [⟨id, nm, (bytesS s m).1⟩]) := by
  have hm : ∀ x, x ∈ t ++ [(⟨id, nm, (bytesS s m).1⟩ : Se)] → x ∈ t ∨ x = ⟨id, nm, (bytesS s m).1⟩ := fun x hx => by simpa using hx
  refine ⟨ris_snoc h.ris (fun y hy => by have := h.ids y hy; show y.id < id; omega), fun x hx => ?_, fun x hx => ?_, fun x hx => ?_, fun x hx => ?_⟩
  · rcases hm x hx with hx | rfl
    · have := h.ids x hx; omega
    · exact Nat.le_refl _
  · rcases hm x hx with hx | rfl
    · exact h.wrd x hx
    · exact ⟨h1, h2⟩
  · rcases hm x hx with hx | rfl
    · exact h.rp x hx
    · exact bytesS_le s m
  · rcases hm x hx with hx | rfl
    · exact h.pos x hx
    · exact ⟨hn, by show id ≠ 0; omega⟩
theorem rd1_nil (m : Nat) : Rd1 m 0 [] := ⟨ris_nil, fun _ h => (List.not_mem_nil h).elim, fun _ h => (List.not_mem_nil h).elim, fun _ h => (List.not_mem_nil h).elim, fun _ h => (List.not_mem_nil h).elim⟩

/-- A Put behind all. -/
theorem put_snoc {m last : Nat} {t : List Se} (x : Se) (h : Rd1 m last t) (hid : last < x.id) (ht : t.length < 64) : putS t x = if x.nm = 0 then (1, t) else (0, t ++ [x]) := by
  have hp : pl t x.id = t.length := pl_of _ _ _ (Nat.le_refl _) (fun j s hj hs => by have := h.ids s (List.mem_of_getElem? hs); omega) (fun s hs => by have := (List.getElem?_eq_some_iff.1 hs).1; omega)
  have hs : seAt t x.id = none := by
    unfold seAt
    rw [hp, List.getElem?_eq_none (Nat.le_refl _)]
  have ha : askS t x.id x.nm = if x.nm = 0 then (1, []) else (6, []) := by
    unfold askS
    by_cases h0 : x.nm = 0
    · rw [if_pos (.inr h0), if_pos h0]
    · rw [if_neg (by omega), if_neg h0, hs]
      dsimp only
      rw [if_neg (by omega)]
  unfold putS
  rw [ha]
  by_cases h0 : x.nm = 0
  · rw [if_pos h0, if_pos h0, if_neg (by decide), if_neg (by decide)]
  · rw [if_neg h0, if_neg h0, if_neg (by decide), if_pos rfl]
    unfold insS
    rw [hs, hp]
    simp

theorem uptoS_enc' (n most : Nat) (r : List UInt8) (h : n ≤ most) (hm : n < 18446744073709551616) : uptoS (some (enc n ++ r)) (most : Int) = (n, some r) := by
  unfold uptoS
  rw [uintS_enc n r hm]
  rw [if_neg (by simp only; omega)]
theorem bytesS_enc' (m : Nat) (k r : List UInt8) (h : k.length ≤ m) (hm : k.length < 18446744073709551616) : bytesS (some (encB k ++ r)) m = (k, some r) := by
  unfold bytesS encB
  rw [List.append_assoc, uptoS_enc' k.length m (k ++ r) h hm]
  simp only
  rw [takeS_le (by simp)]
  simp
theorem loopT_enc (m : Nat) : ∀ (k t : List Se) (last : Nat) (r : List UInt8), Ris k → (∀ x ∈ k, last < x.id) → Wrd k → (∀ x ∈ k, x.nm ≠ 0 ∧ x.rp.length ≤ m ∧ x.rp.length < 18446744073709551616) → loopT m k.length last t (some (bodyS k ++ r)) = some (t ++ k, some r)
  | [], t, last, r, _, _, _, _ => by simp [loopT, bodyS]
  | x :: k, t, last, r, hr, hl, hw, hp => by
    have hx := hp x List.mem_cons_self
    have hwx := hw x List.mem_cons_self
    have e : bodyS (x :: k) ++ r = enc x.id ++ (enc x.nm ++ (encB x.rp ++ (bodyS k ++ r))) := by simp [bodyS, encS, List.append_assoc]
    rw [List.length_cons, e]
    unfold loopT
    rw [uintS_enc x.id _ hwx.1]
    dsimp only
    rw [uintS_enc x.nm _ hwx.2]
    dsimp only
    rw [bytesS_enc' m x.rp _ hx.2.1 hx.2.2]
    dsimp only
    have h1 := hl x List.mem_cons_self
    rw [if_neg (by
      rintro (h | h | h)
      · cases h
      · omega
      · exact hx.1 h)]
    rw [loopT_enc m k (t ++ [x]) x.id r (fun i j a c hij ha hc => hr (i + 1) (j + 1) a c (by omega) ha hc) (fun y hy => by
      obtain ⟨j, hj⟩ := List.getElem?_of_mem hy
      exact hr 0 (j + 1) x y (by omega) rfl hj) (fun y hy => hw y (List.mem_cons_of_mem _ hy)) (fun y hy => hp y (List.mem_cons_of_mem _ hy))]
    simp
/-- What a table saves is read as it is. -/
theorem loadS_enc {t : List Se} (hr : Ris t) (hw : Wrd t) (hp : ∀ x ∈ t, x.nm ≠ 0 ∧ x.id ≠ 0 ∧ x.rp.length ≤ 1000000) (hl : t.length ≤ 64) : loadS (saveB t) = some t := by
  unfold loadS
  have h1 : uptoS (some (saveB t)) 64 = (t.length, some (bodyS t)) := uptoS_enc' t.length 64 (bodyS t) hl (by omega)
  rw [h1]
  dsimp only
  have h2 := loopT_enc (saveB t).length t [] 0 [] hr (fun x hx => by have := (hp x hx).2.1; omega) hw (fun x hx => by
    have h3 := (hp x hx).2.2
    refine ⟨(hp x hx).1, ?_, by omega⟩
    obtain ⟨a, c, rfl⟩ := List.append_of_mem hx
    simp only [saveB, bodyS, List.flatMap_append, List.flatMap_cons, encS, encB, List.length_append]
    omega)
  rw [List.append_nil, List.nil_append] at h2
  rw [h2]
  simp [finT]
end Go.Proofs.Ytlfnblgpekilnaa
