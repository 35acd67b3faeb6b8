/- Snapshots in the plain: as bytes, and back; what is cut short is none. -/
import Derived.Test.YtdckcjcddibglaaOctJ
import Derived.Test.YtdckcjcddibglaaOctP
import Derived.Test.YtdckcjcddibglaaOctH
namespace Go.Proofs.Ytdckcjcddibglaa
open Go.RowKit OctM

/-- A snapshot. -/
structure Sn where
  ix : Nat
  tm : Nat
  dat : List UInt8

def zs : Sn := ⟨0, 0, []⟩
def body (s : Sn) : List UInt8 := enc s.ix ++ (enc s.tm ++ encB s.dat)
def snB (s : Sn) : List UInt8 := sealed (body s)
/-- What is read of bytes: a snapshot, and what is left. -/
def rd3 (l : List UInt8) : Sn × Option (List UInt8) :=
  (⟨(uintS (some l)).1, (uintS (uintS (some l)).2).1, (bytesS (uintS (uintS (some l)).2).2 1048576).1⟩, (bytesS (uintS (uintS (some l)).2).2 1048576).2)
/-- The snapshot of bytes. -/
def rdS (p : List UInt8) : Sn := if (openS p).2 ≠ 0 then zs else if (rd3 (openS p).1).2 = some [] then (rd3 (openS p).1).1 else zs

theorem uintS_cut (n : Nat) (r : List UInt8) (k : Nat) (h : n < 18446744073709551616) :
    uintS (some ((enc n ++ r).take k)) = if k < (enc n).length then (0, none) else (n, some (r.take (k - (enc n).length))) := by
  by_cases hk : k < (enc n).length
  · rw [if_pos hk]
    rcases k with _ | j
    · exact uintS_empty
    · rw [enc_length] at hk
      have h8 := nd_le n
      have hx : (UInt8.ofNat (nd n)).toNat = nd n := by simp; omega
      have e : (enc n ++ r).take (j + 1) = UInt8.ofNat (nd n) :: ((digs n).reverse ++ r).take j := by simp [enc]
      rw [e]
      exact uintS_far _ _ (.inr (by rw [hx, List.length_take]; omega))
  · rw [if_neg hk]
    have e : (enc n ++ r).take k = enc n ++ r.take (k - (enc n).length) := by
      rw [List.take_append, List.take_of_length_le (by omega)]
    rw [e]
    exact uintS_enc n _ h

theorem uintS_nothing : uintS none = (0, none) := uintS_none
theorem bytesS_nothing : (bytesS none 1048576).2 = none := by
  unfold bytesS uptoS
  rw [uintS_nothing]
  simp [takeS]

theorem bytesS_enc (d : List UInt8) (k : Nat) (hd : d.length ≤ 1048576) :
    bytesS (some ((encB d).take k)) 1048576 = if k < (encB d).length then ([], none) else (d, some []) := by
  have hl : (encB d).length = (enc d.length).length + d.length := by simp [encB]
  have hu : uptoS (some ((encB d).take k)) 1048576 = if k < (enc d.length).length then (0, none) else (d.length, some (d.take (k - (enc d.length).length))) := by
    unfold uptoS encB
    rw [uintS_cut _ _ _ (by omega)]
    by_cases hk : k < (enc d.length).length
    · simp only [if_pos hk]
      rw [if_neg (by omega)]
    · simp only [if_neg hk]
      rw [if_neg (by omega)]
  unfold bytesS
  rw [hu]
  by_cases hk : k < (enc d.length).length
  · rw [if_pos hk, if_pos (by omega)]
    rfl
  · rw [if_neg hk]
    by_cases hk2 : k < (encB d).length
    · rw [if_pos hk2]
      unfold takeS
      simp only [List.length_take]
      rw [if_neg (by omega)]
    · rw [if_neg hk2]
      have e : d.take (k - (enc d.length).length) = d := List.take_of_length_le (by omega)
      rw [e]
      simp [takeS]

/-- What is left of a snapshot's bytes of which the last ones are missing: a fault. -/
theorem rd3_cut (s : Sn) (k : Nat) (h1 : s.ix < 18446744073709551616) (h2 : s.tm < 18446744073709551616) (h3 : s.dat.length ≤ 1048576) :
    (k < (body s).length → (rd3 ((body s).take k)).2 = none) ∧ (¬ k < (body s).length → rd3 ((body s).take k) = (s, some [])) := by
  have hl : (body s).length = (enc s.ix).length + ((enc s.tm).length + (encB s.dat).length) := by simp [body]
  have e1 := uintS_cut s.ix (enc s.tm ++ encB s.dat) k h1
  have e2 := uintS_cut s.tm (encB s.dat) (k - (enc s.ix).length) h2
  have e3 := bytesS_enc s.dat (k - (enc s.ix).length - (enc s.tm).length) h3
  refine ⟨fun hk => ?_, fun hk => ?_⟩
  · unfold rd3 body
    rw [e1]
    by_cases a : k < (enc s.ix).length
    · rw [if_pos a]
      show (bytesS (uintS none).2 1048576).2 = none
      rw [uintS_nothing]
      exact bytesS_nothing
    · rw [if_neg a]
      show (bytesS (uintS (some _)).2 1048576).2 = none
      rw [e2]
      by_cases b : k - (enc s.ix).length < (enc s.tm).length
      · rw [if_pos b]
        exact bytesS_nothing
      · rw [if_neg b]
        show (bytesS (some _) 1048576).2 = none
        rw [e3, if_pos (by omega)]
  · unfold rd3 body
    rw [e1, if_neg (by omega)]
    dsimp only
    rw [e2, if_neg (by omega)]
    dsimp only
    rw [e3, if_neg (by omega)]

structure Fits (s : Sn) : Prop where
  ix : s.ix < 18446744073709551616
  tm : s.tm < 18446744073709551616
  dat : s.dat.length ≤ 1048576

theorem zs_fits : Fits zs := ⟨by decide, by decide, by decide⟩

theorem openS_sealed (l : List UInt8) : openS (sealed l) = (l, 0) := by
  have e : (sealed l).take ((sealed l).length - 4) = l := by
    rw [sealed_length, Nat.add_sub_cancel]
    exact List.take_left' rfl
  unfold openS
  rw [if_neg (by rw [sealed_length]; omega), e, if_pos rfl]

theorem openS_ok (p : List UInt8) (h : (openS p).2 = 0) : 4 ≤ p.length ∧ (openS p).1 = p.take (p.length - 4) := by
  unfold openS at h ⊢
  by_cases h1 : p.length < 4
  · rw [if_pos h1] at h; cases h
  · rw [if_neg h1] at h ⊢
    by_cases h2 : sealed (p.take (p.length - 4)) = p
    · rw [if_pos h2]
      exact ⟨by omega, rfl⟩
    · rw [if_neg h2] at h; cases h

theorem rdS_snB (s : Sn) (h : Fits s) : rdS (snB s) = s := by
  unfold rdS snB
  rw [openS_sealed]
  have e := (rd3_cut s (body s).length h.ix h.tm h.dat).2 (by omega)
  rw [List.take_length] at e
  show (if (0 : Int) ≠ 0 then zs else if (rd3 (body s)).2 = some [] then (rd3 (body s)).1 else zs) = s
  rw [e]
  simp

theorem snB_length (s : Sn) : (snB s).length = (body s).length + 4 := sealed_length _

theorem rdS_cut (s : Sn) (k : Nat) (h : Fits s) (hk : k < (snB s).length) : rdS ((snB s).take k) = zs := by
  unfold rdS
  by_cases h0 : (openS ((snB s).take k)).2 = 0
  · obtain ⟨h4, e⟩ := openS_ok _ h0
    rw [if_neg (by rw [h0]; simp), e]
    rw [snB_length] at hk
    have hlen : ((snB s).take k).length = k := by rw [List.length_take, snB_length]; omega
    rw [hlen] at h4 ⊢
    have e2 : ((snB s).take k).take (k - 4) = (body s).take (k - 4) := by
      rw [List.take_take, Nat.min_eq_left (by omega)]
      unfold snB sealed
      rw [List.take_append_of_le_length (by omega)]
    rw [e2, (rd3_cut s (k - 4) h.ix h.tm h.dat).1 (by omega)]
    simp
  · rw [if_pos h0]

theorem rdS_prefix (s : Sn) (p : List UInt8) (h : Fits s) (hp : p <+: snB s) : rdS p = s ∨ rdS p = zs := by
  have e := List.prefix_iff_eq_take.1 hp
  by_cases hk : p.length < (snB s).length
  · rw [e]; exact .inr (rdS_cut s _ h hk)
  · rw [e, List.take_of_length_le (by omega)]; exact .inl (rdS_snB s h)

theorem takeS_len2 (s : Option (List UInt8)) (l : List UInt8) (n : Nat) (hs : ∀ m, s = some m → m.length ≤ l.length) : (takeS s n).1.length ≤ l.length ∧ ∀ m, (takeS s n).2 = some m → m.length ≤ l.length := by
  unfold takeS
  split
  · simp
  · next m =>
    have := hs m rfl
    split
    · refine ⟨by simp; omega, fun m' e => ?_⟩
      injection e with e
      rw [← e, List.length_drop]
      omega
    · simp

theorem uintS_len (s : Option (List UInt8)) (l : List UInt8) (hs : ∀ m, s = some m → m.length ≤ l.length) : ∀ m, (uintS s).2 = some m → m.length ≤ l.length := by
  intro m hm
  have h1 : ∀ m, (sizeS s).2 = some m → m.length ≤ l.length := by
    intro m hm
    unfold sizeS at hm
    split at hm
    · next e => exact (takeS_len2 s l 1 hs).2 m (by rw [e]; exact hm)
    · next e =>
      split at hm
      · cases hm
      · exact (takeS_len2 s l 1 hs).2 m (by rw [e]; exact hm)
  unfold uintS at hm
  split at hm
  · next e => exact (takeS_len2 _ l _ h1).2 m (by rw [e]; exact hm)
  · next e =>
    split at hm
    · cases hm
    · exact (takeS_len2 _ l _ h1).2 m (by rw [e]; exact hm)

theorem bytesS_len (s : Option (List UInt8)) (l : List UInt8) (k : Int) (hs : ∀ m, s = some m → m.length ≤ l.length) : (bytesS s k).1.length ≤ l.length := by
  unfold bytesS
  refine (takeS_len2 _ l _ fun m hm => ?_).1
  unfold uptoS at hm
  split at hm
  · cases hm
  · exact uintS_len s l hs m hm

theorem rd3_len (l : List UInt8) : (rd3 l).1.dat.length ≤ l.length :=
  bytesS_len _ l _ (uintS_len _ l (uintS_len _ l fun m e => by injection e with e; rw [e]; exact Nat.le_refl _))

theorem openS_len (p : List UInt8) : (openS p).1.length ≤ p.length := by
  unfold openS
  repeat' split
  all_goals simp

theorem rd3_most (l : List UInt8) : (rd3 l).1.dat.length ≤ 1048576 := by
  show (bytesS _ 1048576).1.length ≤ _
  unfold bytesS
  have h2 : ∀ s, (uptoS s 1048576).1 ≤ 1048576 := fun s => by
    unfold uptoS
    split
    · exact Nat.zero_le _
    · omega
  exact Nat.le_trans (takeS_len _ _) (h2 _)

theorem rdS_fits (p : List UInt8) : Fits (rdS p) := by
  unfold rdS
  split
  · exact zs_fits
  · split
    · exact ⟨uintS_lt _, uintS_lt _, rd3_most _⟩
    · exact zs_fits

theorem rdS_len (p : List UInt8) : (rdS p).dat.length ≤ p.length := by
  unfold rdS
  split
  · exact Nat.zero_le _
  · split
    · exact Nat.le_trans (rd3_len _) (openS_len _)
    · exact Nat.zero_le _

theorem snB_bound (s : Sn) : s.dat.length ≤ (snB s).length ∧ (snB s).length ≤ s.dat.length + 31 := by
  rw [snB_length]
  have e1 := enc_length s.ix
  have e2 := enc_length s.tm
  have e3 := nd_le s.ix
  have e4 := nd_le s.tm
  have e5 := encB_length s.dat
  have hl : (body s).length = (enc s.ix).length + ((enc s.tm).length + (encB s.dat).length) := by simp [body]
  have h6 : s.dat.length ≤ (encB s.dat).length := by simp [encB]
  omega

theorem rdS_nil : rdS [] = zs := by
  unfold rdS openS
  simp

end Go.Proofs.Ytdckcjcddibglaa
