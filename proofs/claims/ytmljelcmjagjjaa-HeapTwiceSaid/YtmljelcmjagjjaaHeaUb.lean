/- Load: findObjects, hasSoundParts. -/
import Derived.Test.YtmljelcmjagjjaaHeaUa
import Derived.Deep.DeepCutAuto
namespace Go.Proofs.Ytmljelcmjagjjaa
open Go.RowKit HeaM

theorem iskind_yes (k : Nat) (w : World) (hk : k < 256) (h : Hid (isK k = true)) :
    Calls Try.prog 57 #[.int .u8 (k : Int)] w fun e w' => e = .returned (.bool true) ∧ w = w' :=
  (iskind_t k w hk).mono fun e w' ⟨h1, h2⟩ => ⟨by rw [h1, h.out], h2⟩
theorem Ob.objAt {W : List Nat} {F : List Bool} {i : Nat} (h : Ob W F i) : ObjAt W F i (W.getD i 0) (W.getD i 0 % 256) (W.getD i 0 / 256) (szX (W.getD i 0)) :=
  ⟨h.mark, by
    have h1 := h.fits
    have h2 := szX_pos (W.getD i 0)
    rw [List.getElem?_eq_getElem (by omega), List.getD_eq_getElem?_getD, List.getElem?_eq_getElem (by omega)]
    rfl, h.lt, rfl, rfl, rfl, h.fits⟩

/-- Where the segments behind the first ones begin. -/
structure SegAt (l done todo : List (List Nat)) (o : Nat) : Prop where
  split : l = done ++ todo
  at_ : o = done.flatten.length
theorem SegAt.next {l done todo : List (List Nat)} {s : List Nat} {o : Nat} (h : SegAt l done (s :: todo) o) : SegAt l (done ++ [s]) todo (o + s.length) :=
  ⟨by rw [h.split]; simp, by rw [h.at_]; simp⟩
theorem SegAt.head {l done todo : List (List Nat)} {s : List Nat} {o : Nat} (h : SegAt l done (s :: todo) o) (hs : s ≠ []) : l.flatten.getD o 0 = s.getD 0 0 ∧ o + s.length ≤ l.flatten.length := by
  have hp := List.length_pos_iff.2 hs
  refine ⟨?_, by rw [h.split, h.at_]; simp⟩
  rw [h.split, h.at_, List.flatten_append, List.flatten_cons]
  rw [show done.flatten.length = done.flatten.length + 0 from rfl, getD_right, List.getD_eq_getElem?_getD, List.getElem?_append_left hp, ← List.getD_eq_getElem?_getD]
/-- The marks of the first ones, none of the others yet. -/
def mksTo (done : List (List Nat)) (n : Nat) : List Bool := marks done ++ List.replicate (n - done.flatten.length) false
theorem mksTo_next {done : List (List Nat)} {s : List Nat} {n : Nat} (hd : ∀ x ∈ done, Seg x) (hs : Seg s) (hn : done.flatten.length + s.length ≤ n) : (mksTo done n).set done.flatten.length true = mksTo (done ++ [s]) n := by
  have hp := List.length_pos_iff.2 hs.1
  have hm := marks_length hd
  unfold mksTo
  rw [List.set_append_right _ _ (by omega), hm, Nat.sub_self]
  obtain ⟨k, hk⟩ : ∃ k, n - done.flatten.length = k + 1 := ⟨n - done.flatten.length - 1, by omega⟩
  rw [hk, List.replicate_succ, List.set_cons_zero]
  unfold marks
  rw [List.flatMap_append, List.append_assoc]
  congr 1
  have e : (done ++ [s]).flatten.length = done.flatten.length + s.length := by simp
  rw [e]
  simp only [List.flatMap_cons, List.flatMap_nil, List.append_nil, mks, List.cons_append]
  congr 1
  rw [List.replicate_append_replicate]
  congr 1
  omega
theorem szX_bound {X n : Nat} (h : szX X ≤ n) : X / 256 ≤ 8 * n := by
  unfold szX need at h
  split at h <;> omega

theorem HAt.storeF {w : World} {b base q c g cap i : Nat} {v1 : Value} {n : Nat} {W : List Nat} {F : List Bool} {x : Bool} (h : HAt w b base q c v1 (.slice (some ⟨g, 0, none⟩) n cap) W F) :
    HAt (w.setCell ⟨g, i, none⟩ (.bool x)) b base q c v1 (.slice (some ⟨g, 0, none⟩) n cap) W (F.set i x) := by
  have hn : n = F.length := by
    rcases h.own2.2 with ⟨e, _⟩ | ⟨g', cap', cur, e, _⟩
    · cases e
    · simp only [Value.slice.injEq] at e
      exact e.2.1
  subst hn
  have e : Fs (F.set i x) = (Fs F).set i (.bool x) := by unfold Fs; rw [List.map_set]
  refine ⟨?_, ?_, ?_⟩
  · rw [Below.heap_setCell _ _ _ _ (by
      intro e
      exact h.ne2 (by simp [Value.ownBlock, e]))]
    exact h.cell
  · exact ownsRow_setCell_other h.own1 (fun e => h.ne12 g e rfl) _
  · unfold OwnF
    rw [List.length_set, e]
    exact (h.own2.stored i (.bool x)).1

theorem HAt.drewN {w : World} {b base q c : Nat} {v1 v2 : Value} {W : List Nat} {F : List Bool} (h : HAt w b base q c v1 v2 W F) (n : Nat) : HAt (w.drewN n) b base q c v1 v2 W F := ⟨h.cell, h.own1, h.own2⟩
set_option maxHeartbeats 4000000 in
set_option maxRecDepth 100000 in
theorem find_t (b base q c : Nat) (v1 v2 : Value) (l : List (List Nat)) (w : World) (h : HAt w b base q c v1 v2 l.flatten (List.replicate l.flatten.length false)) (hl : ∀ s ∈ l, Seg s) (hmx : l.flatten.length ≤ 10000000) :
    Calls Try.prog 55 #[.pointer (some ⟨b, 0, none⟩)] w fun e w' => e = .returned (.bool true) ∧ HAt w' b base q c v1 v2 l.flatten (marks l) ∧ Kept (fun k => v2.ownBlock = some k) w w' := by
  obtain ⟨W, hW⟩ : ∃ W, l.flatten = W := ⟨_, rfl⟩
  rw [hW] at h hmx ⊢
  have HW := Lib.hid hW
  obtain ⟨o1, k1, hv1, hc1, hm1⟩ := own_slice h.own1
  obtain ⟨o2, k2, hv2, hc2, hm2⟩ := own_slice h.own2
  rw [List.length_replicate] at hv2 hc2
  have H := Lib.hid h
  have HL := Lib.hid hl
  clear h hl hW
  have hmx' : (W.length : Int) ≤ 10000000 := by omega
  unfold maxLen at hm1 hm2
  subst hv1 hv2
  go_enter Try.func55, Try.ntmps55
  go_wp2_with fail
  go_loopw [3] (fun a wr => ∃ (o : Nat) (done todo : List (List Nat)), o ≤ W.length ∧ a = .int .i64 o ∧ Hid (SegAt l done todo o ∧ HAt wr b base q c (.slice o1 W.length k1) (.slice o2 W.length k2) W (mksTo done W.length) ∧ Kept (fun k => (Value.slice o2 W.length k2).ownBlock = some k) w wr)) (fun a _ => W.length - (intOf a).toNat)
  case atStart => exact ⟨0, [], l, Nat.zero_le _, rfl, ⟨rfl, rfl⟩, by simpa [mksTo, marks] using H.out, Kept.refl _ _⟩
  case round =>
    obtain ⟨o, done, todo, ho, rfl, HK⟩ := hrel
    obtain ⟨c0, c1, c2, c3⟩ := HK.out.2.1.cells
    cases todo with
    | cons s t =>
      have hs := HL.out s (by rw [HK.out.1.split]; simp)
      obtain ⟨e1, e2⟩ := HK.out.1.head hs.1
      rw [HW.out] at e1 e2
      have hsp := List.length_pos_iff.2 hs.1
      have hlt : o < W.length := by omega
      have hlt' : (o : Int) < (W.length : Int) := by omega
      obtain ⟨X, hX⟩ : ∃ X, s.getD 0 0 = X := ⟨_, rfl⟩
      obtain ⟨N, hN⟩ : ∃ N, s.length = N := ⟨_, rfl⟩
      have hsz := hs.2.1
      have hki := hs.2.2.1
      have hXl : X < 18446744073709551616 := by
        rw [← hX]
        refine hs.2.2.2 _ ?_
        rw [List.getD_eq_getElem?_getD, List.getElem?_eq_getElem hsp]
        exact List.getElem_mem hsp
      rw [hX] at e1 hsz hki
      rw [hN] at e2 hsz hsp
      have hbd := szX_bound (X := X) (n := N) (by omega)
      have hget : W[o]? = some X := by
        rw [← e1, List.getD_eq_getElem?_getD, List.getElem?_eq_getElem hlt]
        rfl
      obtain ⟨g1, rfl⟩ : ∃ g1, o1 = some ⟨g1, 0, none⟩ := by
        rcases HK.out.2.1.own1.2 with ⟨e, e0⟩ | ⟨g, cap, cur, e, _⟩
        · omega
        · simp only [Value.slice.injEq] at e
          exact ⟨g, e.1⟩
      have hmk : (mksTo done W.length).length = W.length := by
        have := marks_length fun x hx => HL.out x (by rw [HK.out.1.split]; exact List.mem_append_left _ hx)
        unfold mksTo
        rw [List.length_append, List.length_replicate, this, ← HK.out.1.at_]
        omega
      obtain ⟨g2, rfl⟩ : ∃ g2, o2 = some ⟨g2, 0, none⟩ := by
        rcases HK.out.2.1.own2.2 with ⟨e, e0⟩ | ⟨g, cap, cur, e, _⟩
        · omega
        · simp only [Value.slice.injEq] at e
          exact ⟨g, e.1⟩
      have hcell : wr.cell? ⟨g1, o, none⟩ = some (.int .u64 (X : Int)) := by
        have o1 := HK.out.2.1.own1
        rw [World.ownsRow.cellAt o1 o (by omega)]
        simp only [Ws, List.getElem?_map, hget]
        rfl
      have HKI : Hid (X % 256 = X % 256) := rfl
      obtain ⟨k, hk⟩ : ∃ k, X % 256 = k := ⟨_, rfl⟩
      obtain ⟨n, hn⟩ : ∃ n, X / 256 = n := ⟨_, rfl⟩
      have hned : need k n = N := by rw [← hk, ← hn]; exact hsz
      have hk256 : k < 256 := by omega
      rw [hk] at hki
      rw [hn] at hbd
      have HKK := Lib.hid hk
      have HNN := Lib.hid hn
      have HNE := Lib.hid hned
      have HKIND := Lib.hid hki
      have hX' : (X : Int) ≤ 18446744073709551615 := by omega
      have hsh : (X : Int) / 256 = (n : Int) := by omega
      have hrest : ((W.length - o : Nat) : Int) = (W.length : Int) - (o : Int) := by omega
      have HSH := Lib.hid hsh
      have hbig : ¬ (8 * ((W.length : Int) - (o : Int)) < (X : Int) / 256) := by omega
      have hNr : ¬ ((W.length : Int) - (o : Int) < (N : Int)) := by omega
      clear hk hn hned hki hsh hrest hget e1 hsz hX HKI
      go_wp2_with fail
      go_quiet (fail)
      go_wp2_with fail
      have hq := HK.out.2.1.drewN nq
      have hkq : Kept (fun k => (Value.slice (some ⟨g2, 0, none⟩ : Option Addr) W.length k2).ownBlock = some k) w (wr.drewN nq) := HK.out.2.2.drewN nq
      clear c0 c1 c2 c3 hcell
      generalize wr.drewN nq = wq at *
      have hown2 := hq.own2
      unfold OwnF at hown2
      rw [hmk] at hown2
      have hfr := hown2.frozenAt o
      obtain ⟨ov, hov⟩ : ∃ ov, wq.cell? ⟨g2, o, none⟩ = some ov := by
        rw [hown2.cellAt o (by omega)]
        exact ⟨_, List.getElem?_eq_getElem (by rw [Fs_length, hmk]; exact hlt)⟩
      have hfin : SegAt l (done ++ [s]) t (o + N) ∧ HAt (wq.setCell ⟨g2, o, none⟩ (.bool true)) b base q c (.slice (some ⟨g1, 0, none⟩) W.length k1) (.slice (some ⟨g2, 0, none⟩) W.length k2) W (mksTo (done ++ [s]) W.length) ∧ Kept (fun k => (Value.slice (some ⟨g2, 0, none⟩ : Option Addr) W.length k2).ownBlock = some k) w (wq.setCell ⟨g2, o, none⟩ (.bool true)) := by
        refine ⟨by rw [← hN]; exact HK.out.1.next, ?_, Kept.setCell (p := ⟨g2, o, none⟩) hkq (.inl rfl) _⟩
        rw [← mksTo_next (fun x hx => HL.out x (by rw [HK.out.1.split]; exact List.mem_append_left _ hx)) hs (by rw [← HK.out.1.at_, hN]; exact e2), ← HK.out.1.at_]
        exact hq.storeF
      have FIN := Lib.hid hfin
      obtain ⟨c0, c1, c2, c3⟩ := hq.cells
      clear hfin hown2 hq hkq hmk hN
      refine (kind_k X k _ hXl HKK).mono ?_
      rintro e w' ⟨rfl, rfl⟩
      go_wp2_with fail
      refine (iskind_yes k _ hk256 HKIND).mono ?_
      rintro e w' ⟨rfl, rfl⟩
      go_wp2_with fail
      refine (kind_k X k _ hXl HKK).mono ?_
      rintro e w' ⟨rfl, rfl⟩
      go_wp2_with fail
      refine (size_k X n _ hXl HNN).mono ?_
      rintro e w' ⟨rfl, rfl⟩
      go_wp2_with fail
      refine (need_any k n N _ (by omega) HNE).mono ?_
      rintro e w' ⟨rfl, rfl⟩
      go_wp2_with fail
      refine (kind_k X k _ hXl HKK).mono ?_
      rintro e w' ⟨rfl, rfl⟩
      go_wp2_with fail
      refine (size_k X n _ hXl HNN).mono ?_
      rintro e w' ⟨rfl, rfl⟩
      go_wp2_with fail
      refine (need_any k n N _ (by omega) HNE).mono ?_
      rintro e w' ⟨rfl, rfl⟩
      go_wp2_with fail
      go_roundw
      case rel => exact ⟨o + N, done ++ [s], t, e2, by go_num, FIN.out⟩
      case measure => simp [intOf]; omega
    | nil =>
      have hend := HK.out.1.at_
      have hsp := HK.out.1.split
      rw [List.append_nil] at hsp
      rw [← hsp, HW.out] at hend
      subst hend
      have hfin : HAt wr b base q c (.slice o1 W.length k1) (.slice o2 W.length k2) W (marks l) ∧ Kept (fun k => (Value.slice o2 W.length k2).ownBlock = some k) w wr := by
        refine ⟨?_, HK.out.2.2⟩
        have h1 := HK.out.2.1
        unfold mksTo at h1
        rw [← hsp, HW.out, Nat.sub_self, List.replicate_zero, List.append_nil] at h1
        exact h1
      have FIN := Lib.hid hfin
      clear hfin hsp
      go_wp2_with fail
      go_ret
      exact ⟨rfl, FIN.out⟩
end Go.Proofs.Ytmljelcmjagjjaa
