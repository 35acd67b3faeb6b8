/- What stands for each of a list, with something between. -/
import Derived.Test.YtiimofdbconlhaaDoorPriK
namespace Go.Proofs.YtiimofdbconlhaaDoor
open Go.RowKit Go.Shelf PriM

/-- A part stands for an item. -/
def ItP (n : Nat) (w : World) : It → Pv → Prop
  | .txt s, p => p = pT s
  | .ty t k, p => ∃ b c0 c1 c2, p = ⟨⟨#[]⟩, some (fnOf k, b)⟩ ∧ BoxT w b c0 c1 c2 ∧ TyV n w t c0 c1 c2
def ItsP (n : Nat) (w : World) : List It → List Pv → Prop
  | [], [] => True
  | i :: is, p :: ps => ItP n w i p ∧ ItsP n w is ps
  | _, _ => False

theorem ItsP.append {n : Nat} {w : World} : ∀ {a : List It} {x : List Pv} {b : List It} {y : List Pv}, ItsP n w a x → ItsP n w b y → ItsP n w (a ++ b) (x ++ y)
  | [], [], _, _, _, h => h
  | _ :: _, _ :: _, _, _, ⟨h0, h1⟩, h => ⟨h0, ItsP.append h1 h⟩
theorem ItsP.len {n : Nat} {w : World} : ∀ {a : List It} {x : List Pv}, ItsP n w a x → x.length = a.length
  | [], [], _ => rfl
  | _ :: _, _ :: _, ⟨_, h⟩ => by simp [ItsP.len h]
theorem ItP.kept {n : Nat} {w w' : World} (hk : KeepT n w w') : ∀ {i : It} {p : Pv}, ItP n w i p → ItP n w' i p
  | .txt _, _, h => h
  | .ty t _, _, ⟨b, c0, c1, c2, e, hb, ht⟩ => ⟨b, c0, c1, c2, e, hk.box _ _ _ hb (by decide) (by decide), TyV.below hk.below t ht⟩
theorem ItsP.kept {n : Nat} {w w' : World} (hk : KeepT n w w') : ∀ {a : List It} {x : List Pv}, ItsP n w a x → ItsP n w' a x
  | [], [], _ => trivial
  | _ :: _, _ :: _, ⟨h0, h1⟩ => ⟨h0.kept hk, ItsP.kept hk h1⟩

theorem joinI_snoc (gap : List UInt8) (l : List It) (a : It) : joinI gap (l ++ [a]) = if l = [] then [a] else joinI gap l ++ [.txt gap, a] := by
  induction l with
  | nil => rfl
  | cons x l ih =>
    rw [if_neg (by simp)]
    cases l with
    | nil => rfl
    | cons y l =>
      rw [if_neg (by simp)] at ih
      simp only [List.cons_append, joinI] at ih ⊢
      rw [ih]
theorem joinI_len (gap : List UInt8) (l : List It) : (joinI gap l).length ≤ 2 * l.length := by
  induction l with
  | nil => simp [joinI]
  | cons x l ih =>
    cases l with
    | nil => simp [joinI]
    | cons y l => simp only [joinI, List.length_cons] at ih ⊢; omega

/-- A row of the call's own that stands for items. -/
def RowI (n base : Nat) (w : World) (v : Value) (its : List It) : Prop := ∃ l, OwnP w base v l ∧ ItsP n w its l

theorem RowI.nil (n base : Nat) (w : World) : RowI n base w (.slice none 0 0) [] := ⟨[], World.ownsRow_nil _ _ _ _, trivial⟩
theorem RowI.on {n base : Nat} {w w' : World} {v : Value} {its : List It} (h : RowI n base w v its) (hb : Below w.heap.size w w') (hn : n ≤ w.heap.size) : RowI n base w' v its := by
  obtain ⟨l, h1, h2⟩ := h
  exact ⟨l, h1.grow hb, h2.kept (KeepT.of_below hb hn)⟩

/-- One part more. -/
theorem rowI_more {n base : Nat} {w w1 : World} {v v' : Value} {its : List It} {l : List Pv} {i : It} {p : Pv} {tmp : Obj} (h : OwnP w base v l) (hi : ItsP n w its l) (hp : ItP n w i p) (hn : n ≤ base) (hb : base ≤ w.heap.size)
    (hown : w1.ownsRow base 51 2 v' (l.length + 1) (Cs l ++ [.string p.s, fnV p.f])) (hg : (w.alloc tmp).grownBy w1 v.ownBlock) :
    RowI n base w1 v' (its ++ [i]) ∧ Below base w w1 ∧ KeepT n w w1 := by
  have hk : KeepT n w w1 := ((KeepT.refl n w).alloc (by omega) tmp).grown (by simp; omega) hg (World.ownsRow.alloc h tmp) hn (.inl rfl)
  refine ⟨⟨l ++ [p], ?_, (hi.append (a := its) (b := [i]) (y := [p]) ⟨hp, trivial⟩).kept hk⟩, ((Below.refl _ _).alloc hb _).grown hg (by simp; omega) (fun g e => (World.ownsRow.lt h g e).1), hk⟩
  unfold OwnP
  rw [List.length_append, Cs_append]
  exact hown

/-- The relation of the loop. -/
structure JI (n : Nat) (w wr : World) (gap : List UInt8) (f : Ty → It) (ks : List Ty) (k : Nat) (v : Value) : Prop where
  row : RowI n w.heap.size wr v (joinI gap ((ks.take k).map f))
  bel : Below w.heap.size w wr
  low : n ≤ w.heap.size

def JPost (n : Nat) (w : World) (its : List It) (e : Ending) (w' : World) : Prop := ∃ v, e = .returned v ∧ RowI n w.heap.size w' v its ∧ Below w.heap.size w w'

theorem take_map_snoc (f : Ty → It) (ks : List Ty) (k : Nat) (h : k < ks.length) : (ks.take (k + 1)).map f = (ks.take k).map f ++ [f ks[k]] := by
  rw [List.take_succ_eq_append_getElem h, List.map_append]; rfl

theorem PartR.itP {n k : Nat} {w w' : World} {t : Ty} {c0 c1 c2 : Value} {e : Ending} (h : PartR k w c0 c1 c2 e w') (ht : TyV n w t c0 c1 c2) (hn : n ≤ w.heap.size) :
    ∃ b, e = .returned (.agg #[.string ⟨#[]⟩, .func (.func (fnOf k)) #[] #[.pointer (some ⟨b, 0, none⟩)]]) ∧ ItP n w' (.ty t k) ⟨⟨#[]⟩, some (fnOf k, b)⟩ ∧ Below w.heap.size w w' := by
  obtain ⟨b, rfl, hb, hbel, _⟩ := h
  exact ⟨b, rfl, ⟨b, _, _, _, rfl, hb, TyV.below (hbel.mono hn) _ ht⟩, hbel⟩

set_option maxHeartbeats 8000000 in
set_option maxRecDepth 100000 in
theorem joined_any (K : Nat) (kf : Ty → Nat) (hen : ∀ args w, (callFunc K args).run Tryd.prog w = .ok (.enter K args) w)
    (hone : ∀ nm v (ks : List Ty) o c W, ks.length ≤ 1000000000000 → Calls Tryd.prog K #[.agg #[.string ⟨nm.toArray⟩, .int .i64 v, .slice o ks.length c]] W (PartR (kf (.mk nm v ks)) W (.string ⟨nm.toArray⟩) (.int .i64 v) (.slice o ks.length c)))
    (gap : List UInt8) (n b off cap : Nat) (ks : List Ty) (w : World) (hks : TysV n w ks b off) (hb : b < n) (hn : n ≤ w.heap.size) (hl : ks.length ≤ 100000000000) (hw : ∀ t ∈ ks, t.kids.length ≤ 1000000000000) :
    Calls Tryd.prog 48 #[.slice (some ⟨b, off, none⟩) ks.length cap, .string ⟨gap.toArray⟩, .func (.func K) #[] #[]] w (JPost n w (joinI gap (ks.map fun t => .ty t (kf t)))) := by
  obtain ⟨i0, hi0, hz0, hz1, hz2⟩ := info_parts partInfo
  obtain ⟨gp, hgp⟩ : ∃ g : ByteArray, g = ⟨gap.toArray⟩ := ⟨_, rfl⟩
  rw [← hgp]
  have HGP := Lib.hid hgp
  have HKS := Lib.hid hks
  have HW := Lib.hid hw
  have HONE := Lib.hid hone
  have HS := Lib.hid (show JI n w w gap (fun t => .ty t (kf t)) ks 0 (.slice none 0 0) from ⟨RowI.nil _ _ _, Below.refl _ _, hn⟩)
  clear hgp hks hw hone
  go_enter Tryd.func48, Tryd.ntmps48
  go_wp2
  go_loopw [7, 12] (fun v i wr => ∃ (k : Nat) (V : Value), k ≤ ks.length ∧ i = .int .i64 k ∧ V = v ∧ JI n w wr gap (fun t => .ty t (kf t)) ks k V) (fun _ i _ => ks.length - (intOf i).toNat)
  case atStart => exact ⟨0, _, Nat.zero_le _, rfl, rfl, HS.out⟩
  case round =>
    obtain ⟨k, v, hk, rfl, rfl, hj⟩ := hrel
    clear HS
    by_cases hlt : k < ks.length
    · obtain ⟨q0, q1, q2, e0, e1, e2, ht⟩ := (TysV.below (hj.bel.mono hn) hb ks HKS.out).get k hlt
      have hkl := HW.out ks[k] (List.getElem_mem _)
      have hsn := take_map_snoc (fun t => It.ty t (kf t)) ks k hlt
      have hjo := joinI_snoc gap ((ks.take k).map fun t => It.ty t (kf t)) (.ty ks[k] (kf ks[k]))
      rw [← hsn] at hjo
      have hjl := joinI_len gap ((ks.take k).map fun t => It.ty t (kf t))
      rw [List.length_map, List.length_take] at hjl
      have HJ := Lib.hid hjo
      have hmn : ((ks.take k).map fun t => It.ty t (kf t)) = [] ↔ k = 0 := by
        constructor
        · intro h
          have := congrArg List.length h
          rw [List.length_map, List.length_take, List.length_nil] at this
          omega
        · rintro rfl; rfl
      have HMN := Lib.hid hmn
      have hwr := hj.bel.size
      clear hsn hjo hmn
      generalize hti : ks[k] = t at *
      clear hti
      obtain ⟨nm, vv, kk⟩ := t
      obtain ⟨rfl, rfl, hv1, hv2, o, c, rfl, hkk⟩ := ht
      have HT := Lib.hid (show TyV n wr (.mk nm vv kk) (.string ⟨nm.toArray⟩) (.int .i64 vv) (.slice o kk.length c) from ⟨rfl, rfl, hv1, hv2, o, c, rfl, hkk⟩)
      have H1 := Lib.hid (fun W => HONE.out nm vv kk o c W hkl)
      clear hkk hv1 hv2 hkl
      obtain ⟨S, hS⟩ : ∃ S : ByteArray, S = ⟨nm.toArray⟩ := ⟨_, rfl⟩
      rw [← hS] at e0 HT H1
      have HSS := Lib.hid hS
      clear hS
      obtain ⟨wA, hA⟩ : ∃ wA, wA = wr.alloc (.cells #[.string S, .int .i64 vv, .slice o kk.length c] 24) := ⟨_, rfl⟩
      have hbA : Below wr.heap.size wr wA := by rw [hA]; exact (Below.refl _ _).alloc (Nat.le_refl _) _
      have hxA : BoxT wA wr.heap.size (.string S) (.int .i64 vv) (.slice o kk.length c) := by rw [hA]; exact heap_alloc_new wr _
      have hrA := hj.row.on hbA (by omega)
      have HX := Lib.hid hxA
      have HBA := Lib.hid (hj.bel.trans (hbA.mono hwr))
      have HA := Lib.hid hA
      clear hA hbA hxA
      obtain ⟨l, hol, hil⟩ := hrA
      have hll := hil.len
      have HIL := Lib.hid hil
      clear hil hj
      rcases k with _ | k
      · rw [show ((0 : Nat) : Int) = 0 from rfl]
        simp only [Nat.zero_mul, Nat.add_zero] at e0 e1 e2
        have ht0 : ((ks.take 0).map fun t => It.ty t (kf t)) = [] := HMN.out.2 rfl
        have t1 : decide ((0 : Int) < 0) = false := by decide
        have a0 := HX.out.cells.1
        have a1 := HX.out.cells.2.1
        have a2 := HX.out.cells.2.2
        obtain rfl := HA.out
        have HNW : n ≤ (wr.alloc (.cells #[.string S, .int .i64 vv, .slice o kk.length c] 24)).heap.size := by simp; omega
        have HO := Lib.hid hol
        have HT2 : Hid (TyV n (wr.alloc (.cells #[.string S, .int .i64 vv, .slice o kk.length c] 24)) (.mk nm vv kk) (.string S) (.int .i64 vv) (.slice o kk.length c)) := by
          exact TyV.below ((Below.refl _ _).alloc (by omega) _) _ HT.out
        clear hol
        go_wp2_with (first
          | (go_at_fn K; refine (H1.out _).mono ?_; rintro e w2 hp; obtain ⟨b2, rfl, hip, hb2⟩ := hp.itP (HT2.out) HNW; have hrow2 := (RowI.on (n := n) ⟨l, HO.out, HIL.out⟩ hb2 HNW); obtain ⟨l2, hol2, hil2⟩ := hrow2; have hll2 := hil2.len; have HST := Lib.hid (fun w3 v3 hown hg => rowI_more (w := w2) (w1 := w3) (v' := v3) (tmp := .cells #[.string ⟨#[]⟩, .func (.func (fnOf (kf (.mk nm vv kk)))) #[] #[.pointer (some ⟨b2, 0, none⟩)]] 51) hol2 hil2 hip hn (by have := hb2.size; simp at this; omega) hown hg); have hs2 := hb2.size; simp only [World.size_alloc] at hs2; have HB2 := Lib.hid hb2; clear hip hb2 hil2 hp)
          | (at_builtin; refine wpList_append_own_at _ rfl (.tmp 24) (.tmp 28) 53 rfl w.heap.size 51 i0 _ 2 24 Tryd.underlying53 hi0 hz0 hz1 hz2 rfl (by decide) _ _ _ rfl (World.ownsRow.alloc hol2 _) ⟨w2.heap.size, 0, none⟩ 1 1 [.string ⟨#[]⟩, .func (.func (fnOf (kf (.mk nm vv kk)))) #[] #[.pointer (some ⟨b2, 0, none⟩)]] rfl rfl (cells_two_new _ _ _ _) (by simp [Value.oneCell']) (by unfold maxLen; omega) (by omega) (by simp; omega) ?_; intro v3 w3 hown3 hg3 _ _; have HFIN := Lib.hid (HST.out w3 v3 hown3 hg3); clear hown3 hg3 hol2))
        go_roundw
        case rel => exact ⟨1, v3, hlt, rfl, rfl, ⟨by rw [HJ.out, if_pos ht0]; have := HFIN.out.1; rw [ht0] at this; exact this, HBA.out.trans ((HB2.out.mono (by simp; omega)).trans HFIN.out.2.1), hn⟩⟩
        case measure => simp [intOf]; omega
      · have t1 : decide ((0 : Int) < ((k + 1 : Nat) : Int)) = true := by first | (simp; omega) | simp
        have ht0 : ¬ ((ks.take (k + 1)).map fun t => It.ty t (kf t)) = [] := fun h => by have := HMN.out.1 h; omega
        have HT0 := Lib.hid ht0
        clear ht0
        have a0 := HX.out.cells.1
        have a1 := HX.out.cells.2.1
        have a2 := HX.out.cells.2.2
        obtain rfl := HA.out
        have HNW : n ≤ (wr.alloc (.cells #[.string S, .int .i64 vv, .slice o kk.length c] 24)).heap.size := by simp; omega
        have HO := Lib.hid hol
        have HT2 : Hid (TyV n (wr.alloc (.cells #[.string S, .int .i64 vv, .slice o kk.length c] 24)) (.mk nm vv kk) (.string S) (.int .i64 vv) (.slice o kk.length c)) := by
          exact TyV.below ((Below.refl _ _).alloc (by omega) _) _ HT.out
        clear hol
        go_wp2_with (first
          | (at_builtin; refine wpList_append_own_at _ rfl (.tmp 19) (.tmp 22) 53 rfl w.heap.size 51 i0 _ 2 24 Tryd.underlying53 hi0 hz0 hz1 hz2 rfl (by decide) _ _ _ rfl (World.ownsRow.alloc HO.out _) ⟨wr.heap.size + 1, 0, none⟩ 1 1 [.string gp, .nilFunc] rfl rfl (by have := cells_two_new (wr.alloc (.cells #[.string S, .int .i64 vv, .slice o kk.length c] 24)) (.string gp) .nilFunc 51; simpa using this) (by simp [Value.oneCell']) (by unfold maxLen; omega) (by omega) (by simp; omega) ?_; intro v1 w1 hown1 hg1 _ _; have hm := rowI_more (i := .txt gap) (p := ⟨gp, none⟩) HO.out HIL.out (show _ = pT gap by rw [HGP.out]; rfl) hn (by simp; omega) hown1 hg1; obtain ⟨hr1, hb1, hk1⟩ := hm; have hx1 := hk1.box _ _ _ HX.out (by decide) (by decide); obtain ⟨a0, a1, a2⟩ := BoxT.cells hx1; have hs1 := hg1.size; simp only [World.size_alloc] at hs1; have HR1 := Lib.hid hr1; have HB1 := Lib.hid hb1; clear hown1 hg1 hr1 hb1 hk1 hx1)
          | (go_at_fn K; refine (H1.out w1).mono ?_; rintro e w2 hp; obtain ⟨b2, rfl, hip, hb2⟩ := hp.itP (TyV.below (HB1.out.mono hn) _ HT2.out) (by omega); have hrow2 := (RowI.on HR1.out hb2 (by omega)); obtain ⟨l2, hol2, hil2⟩ := hrow2; have hll2 := hil2.len; have HST := Lib.hid (fun w3 v3 hown hg => rowI_more (w := w2) (w1 := w3) (v' := v3) (tmp := .cells #[.string ⟨#[]⟩, .func (.func (fnOf (kf (.mk nm vv kk)))) #[] #[.pointer (some ⟨b2, 0, none⟩)]] 51) hol2 hil2 hip hn (by have := hb2.size; omega) hown hg); have hs2 := hb2.size; have hll3 := hll2; rw [List.length_append, List.length_singleton] at hll3; have HB2 := Lib.hid hb2; clear hip hb2 hil2 hp)
          | (at_builtin; refine wpList_append_own_at _ rfl (.tmp 24) (.tmp 28) 53 rfl w.heap.size 51 i0 _ 2 24 Tryd.underlying53 hi0 hz0 hz1 hz2 rfl (by decide) _ _ _ rfl (World.ownsRow.alloc hol2 _) ⟨w2.heap.size, 0, none⟩ 1 1 [.string ⟨#[]⟩, .func (.func (fnOf (kf (.mk nm vv kk)))) #[] #[.pointer (some ⟨b2, 0, none⟩)]] rfl rfl (cells_two_new _ _ _ _) (by simp [Value.oneCell']) (by unfold maxLen; omega) (by omega) (by simp; omega) ?_; intro v3 w3 hown3 hg3 _ _; have HFIN := Lib.hid (HST.out w3 v3 hown3 hg3); clear hown3 hg3 hol2))
        go_roundw
        case rel => exact ⟨k + 1 + 1, v3, hlt, by go_num, rfl, ⟨by rw [HJ.out, if_neg HT0.out]; have := HFIN.out.1; rw [List.append_assoc] at this; exact this, HBA.out.trans (HB1.out.trans ((HB2.out.mono (by omega)).trans HFIN.out.2.1)), hn⟩⟩
        case measure => simp [intOf]; omega
    · obtain rfl : k = ks.length := by omega
      have HF := Lib.hid (show JPost n w (joinI gap (ks.map fun t => .ty t (kf t))) (.returned v) wr from ⟨v, rfl, by have := hj.row; rwa [List.take_length] at this, hj.bel⟩)
      clear hj
      go_wp2
      go_ret
      exact HF.out
end Go.Proofs.YtiimofdbconlhaaDoor
