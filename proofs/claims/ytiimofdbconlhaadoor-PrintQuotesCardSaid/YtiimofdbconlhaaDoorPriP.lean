/- The parts of a type: the ways without an open order. -/
import Derived.Test.YtiimofdbconlhaaDoorPriL
import Derived.Test.YtiimofdbconlhaaDoorPriO
namespace Go.Proofs.YtiimofdbconlhaaDoor
open Go.RowKit PriM

/-- What lies while the parts of a type are made: its box. -/
structure One (w w1 : World) (c0 c1 c2 : Value) : Prop where
  box : BoxT w1 w.heap.size c0 c1 c2
  bel : Below w.heap.size w w1
  size : w.heap.size + 1 ≤ w1.heap.size
theorem One.new (w : World) (c0 c1 c2 : Value) : One w (w.alloc (.cells #[c0, c1, c2] 24)) c0 c1 c2 := ⟨heap_alloc_new w _, (Below.refl _ _).alloc (Nat.le_refl _) _, by simp⟩
theorem One.on {w w1 w2 : World} {c0 c1 c2 : Value} (h : One w w1 c0 c1 c2) (hb : Below w1.heap.size w1 w2) : One w w2 c0 c1 c2 := by
  have hs := h.size
  exact ⟨(hb.block _ (by omega)).trans h.box, h.bel.trans (hb.mono (by omega)), Nat.le_trans hs hb.size⟩

/-- The table stays. -/
def TabN (n : Nat) (w : World) : Prop := ∀ W, Below n w W → Tab W
theorem TabN.on {n : Nat} {w w' : World} (h : TabN n w) (hb : Below n w w') : TabN n w' := fun W hW => h W (hb.trans hW)

theorem plain_row {n : Nat} {w w1 : World} {c0 c1 c2 : Value} (s : List UInt8) (h : One w w1 c0 c1 c2) (_hn : n ≤ w.heap.size) :
    JPost n w [.txt s] (.returned (.slice (some ⟨w1.heap.size, 0, none⟩) 1 1)) (w1.alloc (.cells #[.string ⟨s.toArray⟩, .nilFunc] 51)) := by
  have hs := h.size
  refine ⟨_, rfl, ⟨[pT s], own_lit (l := [pT s]) (heap_alloc_new w1 _) (by omega) (by simp), ⟨rfl, trivial⟩⟩, h.bel.alloc (by omega) _⟩

/-- What is known of a type's three cells. -/
structure TyC (n : Nat) (w : World) (nm : List UInt8) (v : Int) (ks : List Ty) (S : ByteArray) (o : Option Addr) (c : Nat) : Prop where
  ty : TyV n w (.mk nm v ks) (.string S) (.int .i64 v) (.slice o ks.length c)
  str : S = ⟨nm.toArray⟩
  v0 : -9223372036854775808 ≤ v
  v1 : v ≤ 9223372036854775807
  low : n ≤ w.heap.size
  tab : TabN n w
  len : wT (.mk nm v ks) ≤ 100000000000
  nl : wN (.mk nm v ks) ≤ 100000000000000

theorem TyC.lens {n : Nat} {w : World} {nm : List UInt8} {v : Int} {ks : List Ty} {S : ByteArray} {o : Option Addr} {c : Nat} (h : TyC n w nm v ks S o c) : 15 * ks.length ≤ 100000000000 ∧ S.toList = nm ∧ S.size = nm.length ∧ S.size ≤ 100000000000000 := by
  have h1 := h.len
  have h2 := wTs_len ks
  unfold wT at h1
  have h3 := h.nl
  rw [wN_mk] at h3
  have h4 : S.size = nm.length := by rw [h.str]; simp [ByteArray.size]
  exact ⟨by omega, by rw [h.str]; exact toList_mk nm, h4, by omega⟩

set_option maxRecDepth 100000 in
set_option maxHeartbeats 1000000 in
theorem tparts_var (n : Nat) (nm : List UInt8) (v : Int) (ks : List Ty) (S : ByteArray) (o : Option Addr) (c : Nat) (w : World) (h : TyC n w nm v ks S o c) (hnm : nm = []) :
    Calls Tryd.prog 33 #[.agg #[.string S, .int .i64 v, .slice o ks.length c]] w (JPost n w (tp vn (.mk nm v ks))) := by
  have e : tp vn (.mk nm v ks) = [.txt (vn v)] := by show (if nm = [] then _ else _) = _; rw [if_pos hnm]
  rw [e]
  have t1 : (S.toList == []) = true := by rw [h.lens.2.1, hnm]; rfl
  have t2 : S.toList.isEmpty = true := by rw [h.lens.2.1, hnm]; rfl
  have H1 := Lib.hid (One.new w (.string S) (.int .i64 v) (.slice o ks.length c))
  have HV := Lib.hid (fun W (hb : Below w.heap.size w W) => var_any v h.v0 h.v1 W (h.tab W (hb.mono h.low)))
  have HN := Lib.hid h.low
  clear h e hnm
  go_enter Tryd.func33, Tryd.ntmps33
  go_wp2_with fail
  go_at_call 16
  refine (HV.out _ H1.out.bel).mono ?_
  rintro e w1 ⟨rfl, hb⟩
  have HF := Lib.hid (plain_row (vn v) (H1.out.on hb) HN.out)
  clear hb H1 HV HN
  go_wp2_with (go_at_call 44; refine (plain_any _ _).mono ?_; rintro e w' ⟨rfl, rfl⟩)
  go_ret
  exact HF.out

theorem wT_mem {t : Ty} : ∀ {ks : List Ty}, t ∈ ks → wT t ≤ wTs ks
  | k :: ks, h => by
    rcases List.mem_cons.1 h with rfl | h
    · simp only [wTs]; omega
    · have := wT_mem h; simp only [wTs]; omega
theorem kids_le (t : Ty) : 15 * t.kids.length ≤ wT t := by
  obtain ⟨nm, v, ks⟩ := t
  have := wTs_len ks
  show 15 * ks.length ≤ wT _
  unfold wT
  omega

theorem tight_kd (nm : List UInt8) (v : Int) (ks : List Ty) : (if isFn nm ks.length || isPr nm ks.length then 2 else 0) = if kd (.mk nm v ks) ≠ 0 then 2 else 0 := by
  rw [isFn_kd nm v ks]
  by_cases h : kd (.mk nm v ks) = 1
  · rw [h]; simp
  · rw [isPr_kd nm v ks h]; simp [h]
theorem left_kd (nm : List UInt8) (v : Int) (ks : List Ty) : (if isFn nm ks.length then 1 else 0) = if kd (.mk nm v ks) = 1 then 1 else 0 := by
  rw [isFn_kd nm v ks]; simp

theorem tight_one (nm : List UInt8) (v : Int) (ks : List Ty) (o : Option Addr) (c : Nat) (W : World) (h : ks.length ≤ 1000000000000) :
    Calls Tryd.prog 49 #[.agg #[.string ⟨nm.toArray⟩, .int .i64 v, .slice o ks.length c]] W (PartR (if kd (.mk nm v ks) ≠ 0 then 2 else 0) W (.string ⟨nm.toArray⟩) (.int .i64 v) (.slice o ks.length c)) := by
  have := tight_any ⟨nm.toArray⟩ nm (toList_mk nm) v o ks.length c W h
  rw [tight_kd nm v ks] at this
  exact this
theorem left_one (nm : List UInt8) (v : Int) (ks : List Ty) (o : Option Addr) (c : Nat) (W : World) (h : ks.length ≤ 1000000000000) :
    Calls Tryd.prog 46 #[.agg #[.string ⟨nm.toArray⟩, .int .i64 v, .slice o ks.length c]] W (PartR (if kd (.mk nm v ks) = 1 then 1 else 0) W (.string ⟨nm.toArray⟩) (.int .i64 v) (.slice o ks.length c)) := by
  have := left_any ⟨nm.toArray⟩ nm (toList_mk nm) v o ks.length c W h
  rw [left_kd nm v ks] at this
  exact this
theorem typ_one (nm : List UInt8) (v : Int) (ks : List Ty) (o : Option Addr) (c : Nat) (W : World) (_ : ks.length ≤ 1000000000000) :
    Calls Tryd.prog 21 #[.agg #[.string ⟨nm.toArray⟩, .int .i64 v, .slice o ks.length c]] W (PartR 0 W (.string ⟨nm.toArray⟩) (.int .i64 v) (.slice o ks.length c)) := typ_any _ v o ks.length c W

/-- A row that was made later. -/
theorem JPost.later {n : Nat} {w w1 : World} {its : List It} {e : Ending} {w' : World} (h : JPost n w1 its e w') (hb : Below w.heap.size w w1) : JPost n w its e w' := by
  obtain ⟨v, rfl, ⟨l, h1, h2⟩, h3⟩ := h
  exact ⟨v, rfl, ⟨l, own_baseP h1 hb.size, h2⟩, hb.trans (h3.mono hb.size)⟩

/-- joined, for a type's kids. -/
theorem joined_kids (K : Nat) (kf : Ty → Nat) (hen : ∀ args w, (callFunc K args).run Tryd.prog w = .ok (.enter K args) w)
    (hone : ∀ nm v (ks : List Ty) o c W, ks.length ≤ 1000000000000 → Calls Tryd.prog K #[.agg #[.string ⟨nm.toArray⟩, .int .i64 v, .slice o ks.length c]] W (PartR (kf (.mk nm v ks)) W (.string ⟨nm.toArray⟩) (.int .i64 v) (.slice o ks.length c)))
    (gap : List UInt8) {n : Nat} {nm : List UInt8} {v : Int} {ks : List Ty} {S : ByteArray} {o : Option Addr} {c : Nat} {w : World} (h : TyC n w nm v ks S o c) (hk : 1 ≤ ks.length) (W : World) (hW : Below w.heap.size w W) :
    Calls Tryd.prog 48 #[.slice o ks.length c, .string ⟨gap.toArray⟩, .func (.func K) #[] #[]] W (JPost n W (joinI gap (ks.map fun t => .ty t (kf t)))) := by
  obtain ⟨_, _, _, _, o', c', e', hk'⟩ := h.ty
  have hl := h.lens
  have hlen := h.len
  cases e'
  rcases hk' with rfl | ⟨b, off, rfl, hb, _, _, hks⟩
  · simp at hk
  · refine joined_any K kf hen hone gap n b off c ks W (TysV.below (hW.mono h.low) hb ks hks) hb (Nat.le_trans h.low hW.size) (by omega) (fun t ht => ?_)
    have h1 := wT_mem ht
    have h2 := kids_le t
    unfold wT at hlen
    omega

set_option maxRecDepth 100000 in
set_option maxHeartbeats 1000000 in
theorem tparts_pr (n : Nat) (nm : List UInt8) (v : Int) (ks : List Ty) (S : ByteArray) (o : Option Addr) (c : Nat) (w : World) (h : TyC n w nm v ks S o c) (hnm : nm = [42]) (hk : 2 ≤ ks.length) :
    Calls Tryd.prog 33 #[.agg #[.string S, .int .i64 v, .slice o ks.length c]] w (JPost n w (tp vn (.mk nm v ks))) := by
  have e : tp vn (.mk nm v ks) = joinI sStar (ks.map tightI) := by
    show (if nm = [] then _ else _) = _
    rw [if_neg (by rw [hnm]; simp), if_neg (by rw [hnm]; simp), if_pos ⟨hnm, hk⟩]
  rw [e]
  have hl := h.lens
  have t1 : (S.toList == []) = false := by rw [hl.2.1, hnm]; rfl
  have t2 : S.toList.isEmpty = false := by rw [hl.2.1, hnm]; rfl
  have hlen : ks.length ≤ 100000000000 := by omega
  have f1 : isFn nm ks.length = false := by rw [hnm]; rfl
  have f2 : isPr nm ks.length = true := by rw [hnm]; simp [isPr, hk]
  have HI := Lib.hid (fun W => f1 ▸ isFunction_any S nm hl.2.1 v o ks.length c W (by omega))
  have HP := Lib.hid (fun W => f2 ▸ isProduct_any S nm hl.2.1 v o ks.length c W (by omega))
  have H1 := Lib.hid (One.new w (.string S) (.int .i64 v) (.slice o ks.length c))
  have hj := joined_kids 49 (fun t => if kd t ≠ 0 then 2 else 0) (enters_of Tryd.func49 (by kernel_rfl) rfl) tight_one sStar h (by omega)
  have HJ := Lib.hid hj
  clear h e hnm f1 f2 hl hj
  go_enter Tryd.func33, Tryd.ntmps33
  go_wp2_with fail
  go_at_call 45
  refine (HI.out _).mono ?_
  rintro e w1 ⟨rfl, hb⟩
  have h1 := H1.out.on hb
  obtain ⟨a0, a1, a2⟩ := h1.box.cells
  have H2 := Lib.hid h1
  clear hb h1 H1
  go_wp2_with fail
  go_at_call 47
  refine (HP.out _).mono ?_
  rintro e w2 ⟨rfl, hb⟩
  have h1 := H2.out.on hb
  obtain ⟨a0, a1, a2⟩ := h1.box.cells
  have H3 := Lib.hid h1
  clear hb h1 H2
  go_wp2_with fail
  go_at_call 48
  refine (HJ.out w2 H3.out.bel).mono ?_
  intro e w3 hp
  have hq := hp.later H3.out.bel
  obtain ⟨v3, rfl, _⟩ := hp
  have HF := Lib.hid hq
  clear hq
  go_wp2_with fail
  go_ret
  exact HF.out
end Go.Proofs.YtiimofdbconlhaaDoor
