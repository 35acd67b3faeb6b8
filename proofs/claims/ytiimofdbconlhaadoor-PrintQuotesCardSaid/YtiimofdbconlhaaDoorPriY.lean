/- What a type's part prints. -/
import Derived.Test.YtiimofdbconlhaaDoorPriX
namespace Go.Proofs.YtiimofdbconlhaaDoor
open Go.RowKit PriM

theorem typeParts_any (n : Nat) (nm : List UInt8) (v : Int) (ks : List Ty) (S : ByteArray) (o : Option Addr) (c : Nat) (w : World) (h : TyC n w nm v ks S o c) :
    Calls Tryd.prog 33 #[.agg #[.string S, .int .i64 v, .slice o ks.length c]] w (JPost n w (tp vn (.mk nm v ks))) := by
  by_cases h0 : nm = []
  · exact tparts_var n nm v ks S o c w h h0
  by_cases h1 : nm = [45, 62] ∧ ks.length = 2
  · obtain ⟨rfl, h1⟩ := h1
    match ks, h1, h with
    | [a, b], _, h => exact tparts_fn n v a b S o c w h
  by_cases h2 : nm = [42] ∧ 2 ≤ ks.length
  · exact tparts_pr n nm v ks S o c w h h2.1 h2.2
  by_cases h3 : ks.length = 0
  · exact tparts_name n nm v ks S o c w h h0 h1 h2 h3
  by_cases h4 : ks.length = 1
  · match ks, h4, h with
    | [a], _, h => exact tparts_one n nm v a S o c w h h0
  · exact tparts_many n nm v ks S o c w h h0 h1 h2 (by omega)

set_option maxRecDepth 100000 in
theorem typ1_any (n : Nat) (its : List It) (s : ByteArray) (v : Int) (o : Option Addr) (m c b : Nat) (w : World) (hb : BoxT w b (.string s) (.int .i64 v) (.slice o m c)) (hP : Calls Tryd.prog 33 #[.agg #[.string s, .int .i64 v, .slice o m c]] w (JPost n w its)) :
    Calls Tryd.prog 32 #[.pointer (some ⟨b, 0, none⟩)] w (JPost n w its) := by
  obtain ⟨a0, a1, a2⟩ := hb.cells
  have HP := Lib.hid hP
  clear hP hb
  go_enter Tryd.func32, Tryd.ntmps32
  go_wp2_with fail
  go_at_call 33
  refine (HP.out).mono ?_
  intro e w1 hp
  have hq := hp
  obtain ⟨u, rfl, _⟩ := hp
  have HF := Lib.hid hq
  clear hq
  go_wp2_with fail
  go_ret
  exact HF.out

/-- A row with something in it, in brackets. -/
theorem enclosed_row {n base : Nat} {w : World} {v : Value} {its : List It} (h : RowI n base w v its) (h0 : 0 < its.length) (hm : its.length ≤ 100000000000) (hn : n ≤ w.heap.size) :
    Calls Tryd.prog 50 #[v] w (JPost n w (.txt [40] :: (its ++ [.txt [41]]))) := by
  obtain ⟨l, ho, hi⟩ := h
  have hl := hi.len
  obtain ⟨g, cap, rfl, hc, hg⟩ := own_shape ho (by omega)
  refine (enclosed_any g 0 cap l w hc hg (by omega)).mono ?_
  rintro e w' ⟨u, rfl, hu, hb⟩
  exact ⟨u, rfl, ⟨_, hu, enc_its (hi.kept (KeepT.of_below hb hn))⟩, hb⟩

set_option maxRecDepth 100000 in
theorem left1_any (n : Nat) (its : List It) (s : ByteArray) (v : Int) (o : Option Addr) (m c b : Nat) (w : World) (hb : BoxT w b (.string s) (.int .i64 v) (.slice o m c)) (hP : Calls Tryd.prog 33 #[.agg #[.string s, .int .i64 v, .slice o m c]] w (JPost n w its))
    (h0 : 0 < its.length) (hm : its.length ≤ 100000000000) (hn : n ≤ w.heap.size) : Calls Tryd.prog 75 #[.pointer (some ⟨b, 0, none⟩)] w (JPost n w (.txt [40] :: (its ++ [.txt [41]]))) := by
  obtain ⟨a0, a1, a2⟩ := hb.cells
  have HP := Lib.hid hP
  have HE := Lib.hid (fun w1 v (hr : RowI n w.heap.size w1 v its) (hb : Below w.heap.size w w1) => enclosed_row hr h0 hm (Nat.le_trans hn hb.size))
  clear hP hb h0 hm
  go_enter Tryd.func75, Tryd.ntmps75
  go_wp2_with fail
  go_at_call 33
  refine (HP.out).mono ?_
  rintro e w1 ⟨u, rfl, hr, hb⟩
  have HE2 := Lib.hid (HE.out w1 u hr hb)
  have HB := Lib.hid hb
  clear hr hb HE
  go_wp2_with fail
  go_at_call 50
  refine (HE2.out).mono ?_
  intro e w2 hp
  have hq := hp.later HB.out
  obtain ⟨u2, rfl, _⟩ := hp
  have HF := Lib.hid hq
  clear hq
  go_wp2_with fail
  go_ret
  exact HF.out

set_option maxRecDepth 100000 in
theorem tight1_any (n : Nat) (its : List It) (s : ByteArray) (v : Int) (o : Option Addr) (m c b : Nat) (w : World) (hb : BoxT w b (.string s) (.int .i64 v) (.slice o m c)) (hP : Calls Tryd.prog 33 #[.agg #[.string s, .int .i64 v, .slice o m c]] w (JPost n w its))
    (h0 : 0 < its.length) (hm : its.length ≤ 100000000000) (hn : n ≤ w.heap.size) : Calls Tryd.prog 76 #[.pointer (some ⟨b, 0, none⟩)] w (JPost n w (.txt [40] :: (its ++ [.txt [41]]))) := by
  obtain ⟨a0, a1, a2⟩ := hb.cells
  have HP := Lib.hid hP
  have HE := Lib.hid (fun w1 v (hr : RowI n w.heap.size w1 v its) (hb : Below w.heap.size w w1) => enclosed_row hr h0 hm (Nat.le_trans hn hb.size))
  clear hP hb h0 hm
  go_enter Tryd.func76, Tryd.ntmps76
  go_wp2_with fail
  go_at_call 33
  refine (HP.out).mono ?_
  rintro e w1 ⟨u, rfl, hr, hb⟩
  have HE2 := Lib.hid (HE.out w1 u hr hb)
  have HB := Lib.hid hb
  clear hr hb HE
  go_wp2_with fail
  go_at_call 50
  refine (HE2.out).mono ?_
  intro e w2 hp
  have hq := hp.later HB.out
  obtain ⟨u2, rfl, _⟩ := hp
  have HF := Lib.hid hq
  clear hq
  go_wp2_with fail
  go_ret
  exact HF.out

theorem PartV.up {n₀ : Nat} : ∀ {d k : Nat} {w : World} {p : Pv} {s : List UInt8}, PartV n₀ d k w p s → PartV n₀ (d + 1) k w p s
  | 0, _, _, _, _, h => .inl h
  | _d + 1, _, _, _, _, .inl h => .inl h
  | _d + 1, _, _, _, _, .inr ⟨h1, h0, fn, b, cs, T, a1, a2, a3, a4, he, h5⟩ => .inr ⟨h1, h0, fn, b, cs, T, a1, a2, a3, a4, he, fun W hb hW => (h5 W hb hW).mono fun _e _w' ⟨v, l, b1, b2, b3, b4⟩ => ⟨v, l, b1, b2, fun x hx => PartV.up (b3 x hx), b4⟩⟩
theorem PartV.upto {n₀ d d' k : Nat} {w : World} {p : Pv} {s : List UInt8} (h : PartV n₀ d k w p s) (hd : d ≤ d') : PartV n₀ d' k w p s := by
  induction hd with
  | refl => exact h
  | step _ ih => exact ih.up
theorem partV_txt {n₀ d k : Nat} {w : World} (s : List UInt8) (hk : 1 ≤ k) : PartV n₀ d k w (pT s) s := by
  have : 1 ≤ k ∧ (pT s).f = none ∧ (pT s).s.data.toList = s := ⟨hk, rfl, by simp [pT]⟩
  cases d with
  | zero => exact this
  | succ d => exact .inl this

/-- Parts with what they print. -/
def mkPw : List It → List Pv → List Pw
  | i :: is, p :: ps => (p, ren vn i, wI i) :: mkPw is ps
  | _, _ => []
theorem mkPw_all {n d : Nat} {w : World} : ∀ {its : List It} {l : List Pv}, ItsP n w its l → (∀ i ∈ its, ∀ p, ItP n w i p → PartV n d (wI i) w p (ren vn i)) →
    (mkPw its l).map (·.1) = l ∧ cats (mkPw its l) = cat vn its ∧ wsum (mkPw its l) = wL its ∧ ∀ x ∈ mkPw its l, PartV n d x.2.2 w x.1 x.2.1
  | [], [], _, _ => ⟨rfl, rfl, rfl, by simp [mkPw]⟩
  | i :: is, p :: ps, ⟨h0, h1⟩, hp => by
    obtain ⟨a, b, c, e⟩ := mkPw_all h1 (fun i hi => hp i (List.mem_cons_of_mem _ hi))
    refine ⟨by simp only [mkPw, List.map_cons, a], ?_, by simp only [mkPw, wsum, wL, c], ?_⟩
    · show ren vn i ++ cats (mkPw is ps) = _
      rw [b, cat_cons]
    · intro x hx
      simp only [mkPw, List.mem_cons] at hx
      rcases hx with rfl | hx
      · exact hp i List.mem_cons_self p h0
      · exact e x hx

theorem mem_joinI {gap : List UInt8} {i : It} : ∀ {l : List It}, i ∈ joinI gap l → i = .txt gap ∨ i ∈ l
  | [a], h => .inr (by simpa [joinI] using h)
  | a :: b :: l, h => by
    simp only [joinI, List.mem_cons] at h
    rcases h with rfl | rfl | h
    · exact .inr List.mem_cons_self
    · exact .inl rfl
    · rcases mem_joinI h with h | h
      · exact .inl h
      · exact .inr (List.mem_cons_of_mem _ h)

theorem getD_mem {ks : List Ty} {i : Nat} (h : i < ks.length) : ks.getD i (.mk [] 0 []) ∈ ks := by
  simp [List.getD, h]

/-- A part of a type is a text, or a kid. -/
theorem tp_mem {nm : List UInt8} {v : Int} {ks : List Ty} {i : It} (h : i ∈ tp vn (.mk nm v ks)) : (∃ s, i = .txt s) ∨ ∃ t ∈ ks, ∃ k, i = .ty t k := by
  have h' : i ∈ (if nm = [] then [It.txt (vn v)]
    else if nm = [45, 62] ∧ ks.length = 2 then [leftI (ks.getD 0 (.mk [] 0 [])), .txt sArrow, .ty (ks.getD 1 (.mk [] 0 [])) 0]
    else if nm = [42] ∧ 2 ≤ ks.length then joinI sStar (ks.map tightI)
    else if ks.length = 0 then [.txt nm]
    else if ks.length = 1 then [tightI (ks.getD 0 (.mk [] 0 [])), .txt (32 :: nm)]
    else .txt [40] :: (joinI sComma (ks.map fun t => .ty t 0) ++ [.txt [41], .txt (32 :: nm)])) := h
  clear h
  by_cases h0 : nm = []
  · rw [if_pos h0] at h'; exact .inl ⟨_, by simpa using h'⟩
  rw [if_neg h0] at h'
  by_cases h1 : nm = [45, 62] ∧ ks.length = 2
  · rw [if_pos h1] at h'
    simp only [List.mem_cons, List.not_mem_nil, or_false] at h'
    rcases h' with rfl | rfl | rfl
    · exact .inr ⟨_, getD_mem (by omega), _, rfl⟩
    · exact .inl ⟨_, rfl⟩
    · exact .inr ⟨_, getD_mem (by omega), _, rfl⟩
  rw [if_neg h1] at h'
  by_cases h2 : nm = [42] ∧ 2 ≤ ks.length
  · rw [if_pos h2] at h'
    rcases mem_joinI h' with rfl | h'
    · exact .inl ⟨_, rfl⟩
    · obtain ⟨t, ht, rfl⟩ := List.mem_map.1 h'
      exact .inr ⟨t, ht, _, rfl⟩
  rw [if_neg h2] at h'
  by_cases h3 : ks.length = 0
  · rw [if_pos h3] at h'; exact .inl ⟨_, by simpa using h'⟩
  rw [if_neg h3] at h'
  by_cases h4 : ks.length = 1
  · rw [if_pos h4] at h'
    simp only [List.mem_cons, List.not_mem_nil, or_false] at h'
    rcases h' with rfl | rfl
    · exact .inr ⟨_, getD_mem (by omega), _, rfl⟩
    · exact .inl ⟨_, rfl⟩
  rw [if_neg h4] at h'
  simp only [List.mem_cons, List.mem_append, List.not_mem_nil, or_false] at h'
  rcases h' with rfl | h' | rfl | rfl
  · exact .inl ⟨_, rfl⟩
  · rcases mem_joinI h' with rfl | h'
    · exact .inl ⟨_, rfl⟩
    · obtain ⟨t, ht, rfl⟩ := List.mem_map.1 h'
      exact .inr ⟨t, ht, _, rfl⟩
  · exact .inl ⟨_, rfl⟩
  · exact .inl ⟨_, rfl⟩

theorem inter_pos {gap : List UInt8} {l : List It} (h : 0 < l.length) : 0 < (joinI gap l).length := by
  rcases l with _ | ⟨a, _ | ⟨b, l⟩⟩
  · simp at h
  · simp [joinI]
  · simp [joinI]
theorem tp_pos (t : Ty) : 0 < (tp vn t).length := by
  obtain ⟨nm, v, ks⟩ := t
  show 0 < (if nm = [] then [It.txt (vn v)]
    else if nm = [45, 62] ∧ ks.length = 2 then [leftI (ks.getD 0 (.mk [] 0 [])), .txt sArrow, .ty (ks.getD 1 (.mk [] 0 [])) 0]
    else if nm = [42] ∧ 2 ≤ ks.length then joinI sStar (ks.map tightI)
    else if ks.length = 0 then [.txt nm]
    else if ks.length = 1 then [tightI (ks.getD 0 (.mk [] 0 [])), .txt (32 :: nm)]
    else .txt [40] :: (joinI sComma (ks.map fun t => .ty t 0) ++ [.txt [41], .txt (32 :: nm)])).length
  split
  · simp
  split
  · simp
  split
  · next h => exact inter_pos (by simp; omega)
  split
  · simp
  split
  · simp
  · simp

/-- What is known of a type that is to be printed. -/
structure TyOK (n : Nat) (w : World) (t : Ty) (c0 c1 c2 : Value) : Prop where
  ty : TyV n w t c0 c1 c2
  low : n ≤ w.heap.size
  tab : TabN n w
  len : wT t ≤ 100000000000
  nl : wN t ≤ 100000000000000

theorem TyOK.on {n : Nat} {w w' : World} {t : Ty} {c0 c1 c2 : Value} (h : TyOK n w t c0 c1 c2) (hb : Below n w w') : TyOK n w' t c0 c1 c2 :=
  ⟨TyV.below hb t h.ty, Nat.le_trans h.low hb.size, h.tab.on hb, h.len, h.nl⟩

theorem made_of {n d : Nat} {w w' : World} {its : List It} {k : Nat} {s : List UInt8} {e : Ending} (h : JPost n w its e w') (hn : n ≤ w.heap.size) (hs : cat vn its = s) (hk : wL its + 1 ≤ k)
    (hp : ∀ w', Below n w w' → ∀ i ∈ its, ∀ p, ItP n w' i p → PartV n d (wI i) w' p (ren vn i)) : MadeP n (PartV n d) w k s e w' := by
  obtain ⟨v, rfl, ⟨l, h1, h2⟩, h3⟩ := h
  obtain ⟨a, b, c, g⟩ := mkPw_all h2 (hp w' (h3.mono hn))
  exact ⟨v, mkPw its l, rfl, by rw [a]; exact h1, g, by rw [b, hs], by rw [c]; exact hk, h3, hn⟩

theorem ty_part (n : Nat) : ∀ (t : Ty) (k : Nat) (w : World) (b : Nat) (c0 c1 c2 : Value), BoxT w b c0 c1 c2 → TyOK n w t c0 c1 c2 → PartV n (wT t) (wI (.ty t k)) w ⟨⟨#[]⟩, some (fnOf k, b)⟩ (ren vn (.ty t k)) := by
  intro t
  induction t using Ty.rec' with
  | h nm v ks ih =>
    intro k w b c0 c1 c2 hb hok
    obtain ⟨d, hd⟩ : ∃ d, wT (.mk nm v ks) = d + 1 := ⟨wT (.mk nm v ks) - 1, by have := wT_pos (.mk nm v ks); omega⟩
    have hd' : ∀ t ∈ ks, wT t ≤ d := fun t ht => by have := wT_mem ht; unfold wT at hd; omega
    rw [hd]
    have hc := hok.ty
    obtain ⟨rfl, rfl, hv0, hv1, o, c, rfl, -⟩ := hc
    -- the kids' parts, whenever they are made
    have kid : ∀ W, Below n w W → ∀ i, i ∈ tp vn (.mk nm v ks) → ∀ p, ItP n W i p → PartV n d (wI i) W p (ren vn i) := fun W hW i hi p hp => by
      rcases tp_mem hi with ⟨s, rfl⟩ | ⟨t, ht, k', rfl⟩
      · obtain rfl : p = pT s := hp
        exact partV_txt s (Nat.le_refl _)
      · obtain ⟨b', q0, q1, q2, rfl, hbx, hty⟩ := hp
        have h1 := hok.len
        have h2 := hok.nl
        have h3 := wT_mem ht
        have h4 := wN_mem ht
        rw [wN_mk] at h2
        unfold wT at h1
        exact (ih t ht k' W b' q0 q1 q2 hbx ⟨hty, Nat.le_trans hok.low hW.size, hok.tab.on hW, by omega, by omega⟩).upto (hd' t ht)
    have hparts : ∀ W, Below n w W → Calls Tryd.prog 33 #[.agg #[.string ⟨nm.toArray⟩, .int .i64 v, .slice o ks.length c]] W (JPost n W (tp vn (.mk nm v ks))) := fun W hW =>
      typeParts_any n nm v ks _ o c W ⟨(hok.on hW).ty, rfl, hv0, hv1, Nat.le_trans hok.low hW.size, hok.tab.on hW, hok.len, hok.nl⟩
    have hwl := wL_prod vn (.ty (.mk nm v ks) k)
    have hlen : (tp vn (.mk nm v ks)).length ≤ 100000000000 := by
      have h1 := wL_len (tp vn (.mk nm v ks))
      have h2 := wL_tp vn (.mk nm v ks)
      have h3 := hok.len
      omega
    refine .inr ⟨wI_pos _, rfl, fnOf k, b, _, 24, rfl, hb, by decide, by decide, ?_, fun W hW hWb => ?_⟩
    · rcases k with _ | _ | k
      · exact enters_of Tryd.func32 (by kernel_rfl) rfl
      · exact enters_of Tryd.func75 (by kernel_rfl) rfl
      · exact enters_of Tryd.func76 (by kernel_rfl) rfl
    · have hnW := Nat.le_trans hok.low hW.size
      have br : ∀ w', Below n W w' → ∀ i ∈ (It.txt [40] :: (tp vn (.mk nm v ks) ++ [.txt [41]])), ∀ p, ItP n w' i p → PartV n d (wI i) w' p (ren vn i) := fun w' hw' i hi p hp => by
        simp only [List.mem_cons, List.mem_append, List.not_mem_nil, or_false] at hi
        rcases hi with rfl | hi | rfl
        · obtain rfl : p = pT _ := hp
          exact partV_txt _ (Nat.le_refl _)
        · exact kid w' (hW.trans hw') i hi p hp
        · obtain rfl : p = pT _ := hp
          exact partV_txt _ (Nat.le_refl _)
      have hcat := ren_prod vn (.ty (.mk nm v ks) k)
      rcases k with _ | _ | k
      · exact (typ1_any n _ _ v o ks.length c b W hWb (hparts W hW)).mono fun e w' hp => made_of hp hnW hcat.symm hwl (fun w' hw' i hi p hp => kid w' (hW.trans hw') i hi p hp)
      · exact (left1_any n _ _ v o ks.length c b W hWb (hparts W hW) (tp_pos _) hlen hnW).mono fun e w' hp => made_of hp hnW hcat.symm hwl br
      · exact (tight1_any n _ _ v o ks.length c b W hWb (hparts W hW) (tp_pos _) hlen hnW).mono fun e w' hp => made_of hp hnW hcat.symm hwl br
end Go.Proofs.YtiimofdbconlhaaDoor
