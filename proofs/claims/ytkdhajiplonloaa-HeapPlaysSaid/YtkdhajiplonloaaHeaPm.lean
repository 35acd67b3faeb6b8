/- What a heap tells of its roots, as the reference's At says: the law's looks. -/
import Derived.Test.YtkdhajiplonloaaHeaPl
import Derived.Deep.LoopGhost
namespace Go.Proofs.Ytkdhajiplonloaa
open Go.RowKit HeaM

/-- The text of an object, as At tells it. -/
def strO (W : List Nat) (i : Nat) : ByteArray := ⟨(if W.getD i 0 % 256 = 3 then txt W i (W.getD i 0 / 256) else []).toArray⟩

/-- What At tells of an object. -/
theorem at_lit3 (v : Value) (W : List Nat) (F : List Bool) (i : Nat) (w : World) (h : RdW w v W) (hg : Good W F) (hi : Ob W F i) :
    Calls Try.prog 14 #[v, .int .i64 (i : Int)] w fun e w' => ∃ (po : Option Addr) (pc N : Nat),
      e = .returned (.tuple #[.agg #[.int .u8 ((W.getD i 0 % 256 : Nat) : Int), .slice po (prs W i).length pc, .string (strO W i)], .int .i64 (N : Int)]) ∧ OwnU w' w.heap.size (.slice po (prs W i).length pc) (prs W i) ∧ Below w.heap.size w w' := by
  have hok := hi.ok
  have hz := szX_pos (W.getD i 0)
  have hf := hi.fits
  refine (at_t v W i w h (by omega) hg.words hg.max).mono ?_
  rintro e w' ⟨pv, rfl, ho, hb⟩
  simp only [hok, if_true, true_and] at ho ⊢
  obtain ⟨po, pc, rfl, _⟩ := own_slice ho
  exact ⟨po, pc, _, rfl, ho, hb⟩

theorem prs_n {W : List Nat} {F : List Bool} {i : Nat} (h : Ob W F i) (h3 : W.getD i 0 % 256 ≠ 3) : (prs W i).length = W.getD i 0 / 256 := by
  unfold prs
  rw [if_pos h3, rst_length h]
  unfold szX need
  rw [if_neg h3]
  omega
theorem prs_le {W : List Nat} {F : List Bool} {i : Nat} (h : Ob W F i) : (prs W i).length ≤ W.length := by
  unfold prs
  have h1 := h.fits
  split
  · rw [rst_length h]; omega
  · exact Nat.zero_le _
theorem strO_n {W : List Nat} {i : Nat} (h3 : W.getD i 0 % 256 = 3) : (strO W i).size = W.getD i 0 / 256 := by
  unfold strO
  rw [if_pos h3]
  show (txt W i _).toArray.size = _
  rw [List.size_toArray, txt_length]

/-- Text, of any object. -/
theorem text_any (b base q c : Nat) (v1 v2 : Value) (W : List Nat) (F : List Bool) (i : Nat) (w : World) (h : HAt w b base q c v1 v2 W F) (hg : Good W F) (hi : Ob W F i) :
    Calls Try.prog 22 #[.pointer (some ⟨b, 0, none⟩), .int .u64 ((2 * i : Nat) : Int)] w fun e w' => e = .returned (.string (strO W i)) ∧ Below w.heap.size w w' := by
  have hmx := hg.max
  by_cases h3 : W.getD i 0 % 256 = 3
  · have hO := hi.objAt
    rw [h3] at hO
    refine (text_t b base q c v1 v2 W F i _ _ _ w h hO hg.len (by omega) hg.words).mono ?_
    rintro e w' ⟨rfl, hb⟩
    refine ⟨?_, hb⟩
    unfold strO S
    rw [if_pos h3]
  · refine (htext_no b base q c v1 v2 W F i _ _ _ _ w h hi.objAt hg.len (by omega) h3).mono ?_
    rintro e w' ⟨rfl, nq, rfl⟩
    refine ⟨?_, below_drewN _ _ _⟩
    unfold strO
    rw [if_neg h3]

/-- The told object in memory. -/
structure LkS (w wx : World) (g : Nat) (kk : Int) (po : Option Addr) (pc : Nat) (str : ByteArray) (P : List Nat) : Prop where
  b : Below w.heap.size w wx
  o : wx.heap[g]? = some (.cells #[.int .u8 kk, .slice po P.length pc, .string str] 35 (0, 0))
  r : RdW wx (.slice po P.length pc) P
theorem LkS.lt {w wx : World} {g : Nat} {kk : Int} {po : Option Addr} {pc : Nat} {str : ByteArray} {P : List Nat} (h : LkS w wx g kk po pc str P) : g < wx.heap.size := (Array.getElem?_eq_some_iff.1 h.o).1
theorem LkS.more {w wx wy : World} {g : Nat} {kk : Int} {po : Option Addr} {pc : Nat} {str : ByteArray} {P : List Nat} (h : LkS w wx g kk po pc str P) (hb : Below wx.heap.size wx wy) : LkS w wy g kk po pc str P :=
  ⟨h.b.trans (hb.mono h.b.size), (hb.block _ h.lt).trans h.o, h.r.below hb⟩
theorem LkS.drewN {w wx : World} {g : Nat} {kk : Int} {po : Option Addr} {pc : Nat} {str : ByteArray} {P : List Nat} (h : LkS w wx g kk po pc str P) (n : Nat) : LkS w (wx.drewN n) g kk po pc str P := h.more (below_drewN _ _ _)
theorem LkS.drew {w wx : World} {g : Nat} {kk : Int} {po : Option Addr} {pc : Nat} {str : ByteArray} {P : List Nat} (h : LkS w wx g kk po pc str P) : LkS w wx.drew g kk po pc str P := h.more (Below.refl _ _).drew
theorem LkS.c0 {w wx : World} {g : Nat} {kk : Int} {po : Option Addr} {pc : Nat} {str : ByteArray} {P : List Nat} (h : LkS w wx g kk po pc str P) : wx.cell? ⟨g, 0, none⟩ = some (.int .u8 kk) := (ob_cells h.o).1
theorem LkS.c1 {w wx : World} {g : Nat} {kk : Int} {po : Option Addr} {pc : Nat} {str : ByteArray} {P : List Nat} (h : LkS w wx g kk po pc str P) : wx.cell? ⟨g, 1, none⟩ = some (.slice po P.length pc) := (ob_cells h.o).2.1
theorem LkS.c2 {w wx : World} {g : Nat} {kk : Int} {po : Option Addr} {pc : Nat} {str : ByteArray} {P : List Nat} (h : LkS w wx g kk po pc str P) : wx.cell? ⟨g, 2, none⟩ = some (.string str) := (ob_cells h.o).2.2

set_option maxHeartbeats 8000000 in
set_option maxRecDepth 100000 in
theorem looks_t (d base q c : Nat) (v1 v2 : Value) (W : List Nat) (F : List Bool) (mv rv : Value) (xs : List Nat) (w : World) (h : HAt w d base q c v1 v2 W F) (hm : RdW w mv W) (hr : RdW w rv xs) (hg : Good W F) (hx : ∀ x ∈ xs, (x % 2 = 1 ∨ isObj W F x = true) ∧ x < 18446744073709551616) (hn : xs.length ≤ 1000000) :
    Calls Try.prog 20 #[.pointer (some ⟨d, 0, none⟩), mv, rv] w fun e w' => e = .returned (.bool true) ∧ Below w.heap.size w w' := by
  have HL : Hid (∀ w', Below w.heap.size w w' → RdW w' mv W) := fun w' hb => hm.below hb
  have HR : Hid (∀ w', Below w.heap.size w w' → RdW w' rv xs) := fun w' hb => hr.below hb
  have HH : Hid (∀ w', Below w.heap.size w w' → HAt w' d base q c v1 v2 W F) := fun w' hb => h.below hb (Nat.le_refl _)
  obtain ⟨orr, cr, hrv, _⟩ := hr.slice
  rw [Ws_length] at hrv
  have HG := Lib.hid hg
  have HX := Lib.hid hx
  have hmx := hg.max
  have hni : (xs.length : Int) ≤ 1000000 := by omega
  clear h hm hr hg hx
  subst hrv
  go_enter Try.func20, Try.ntmps20
  go_wp2_with fail
  go_loopg [7] xs.length (fun K i wr => ∃ k : Nat, k ≤ xs.length ∧ K = xs.length - k ∧ i = .int .i64 k ∧ Hid (Below w.heap.size w wr))
  case atStart => exact ⟨0, Nat.zero_le _, by omega, rfl, Below.refl _ _⟩
  case round =>
    obtain ⟨k, hk, rfl, rfl, HB⟩ := hrel
    by_cases hlt : k < xs.length
    · have hki : (k : Int) < (xs.length : Int) := by omega
      obtain ⟨a, cr', hrv, _, hc⟩ := at_cell (HR.out wr HB.out) hlt
      simp only [Value.slice.injEq] at hrv
      obtain ⟨rfl, -, rfl⟩ := hrv
      have hcx := hc k hlt
      have hgx : xs.getD k 0 = xs[k] := by rw [List.getD_eq_getElem?_getD, List.getElem?_eq_getElem hlt]; rfl
      rw [hgx] at hcx
      have hfx := HX.out xs[k] (List.getElem_mem hlt)
      clear hc hgx
      generalize xs[k] = x at *
      have hx' : (x : Int) ≤ 18446744073709551615 := by omega
      have HNUM : Hid (Calls Try.prog 32 #[.int .u64 (x : Int)] wr fun e w' => e = .returned (.bool (x % 2 == 1)) ∧ wr = w') := isnum_t x wr hfx.2
      by_cases hodd : x % 2 = 1
      · have d0 : (x % 2 == 1) = true := by rw [beq_iff_eq]; exact hodd
        rw [d0] at HNUM
        clear hfx hodd d0
        go_wp2_with fail
        refine HNUM.out.mono ?_
        rintro e w' ⟨rfl, rfl⟩
        go_wp2_with fail
        go_roundg (xs.length - (k + 1))
        case measure => omega
        case rel => exact ⟨k + 1, by omega, rfl, by go_num, HB.out⟩
      · have d0 : (x % 2 == 1) = false := by rw [beq_eq_false_iff_ne]; exact hodd
        rw [d0] at HNUM
        have hobj : isObj W F x = true := by
          rcases hfx.1 with h1 | h1
          · omega
          · exact h1
        obtain ⟨_, hyl, hym⟩ := isObj_iff.1 hobj
        have hob := HG.out.obs _ hym
        obtain ⟨y, hy⟩ : ∃ y, x / 2 = y := ⟨_, rfl⟩
        rw [hy] at hyl hym hob
        have hxy : 2 * y = x := by omega
        have hdiv : (x : Int) / 2 = (y : Int) := by omega
        have hyi : (y : Int) < (W.length : Int) := by omega
        have HAT := Lib.hid (at_lit3 mv W F y wr (HL.out wr HB.out) HG.out hob)
        have hpl := prs_le hob
        have hkk : W.getD y 0 % 256 < 256 := by omega
        have HKIND : Hid (∀ W1, Below w.heap.size w W1 → Calls Try.prog 33 #[.pointer (some ⟨d, 0, none⟩), .int .u64 (x : Int)] W1 fun e w' => e = .returned (.int .u8 ((W.getD y 0 % 256 : Nat) : Int)) ∧ ∃ nq, w' = W1.drewN nq) := fun W1 hb => by
          have h1 := hkind_t d base q c v1 v2 W F y _ _ _ _ W1 (HH.out W1 hb) hob.objAt HG.out.len (by omega)
          rw [hxy] at h1
          exact h1
        have HLEN : Hid (∀ W1, Below w.heap.size w W1 → Calls Try.prog 34 #[.pointer (some ⟨d, 0, none⟩), .int .u64 (x : Int)] W1 fun e w' => e = .returned (.int .i64 ((W.getD y 0 / 256 : Nat) : Int)) ∧ ∃ nq, w' = W1.drewN nq) := fun W1 hb => by
          have h1 := hlen_t d base q c v1 v2 W F y _ _ _ _ W1 (HH.out W1 hb) hob.objAt HG.out.len (by omega)
          rw [hxy] at h1
          exact h1
        have HTEXT : Hid (∀ W1, Below w.heap.size w W1 → Calls Try.prog 22 #[.pointer (some ⟨d, 0, none⟩), .int .u64 (x : Int)] W1 fun e w' => e = .returned (.string (strO W y)) ∧ Below W1.heap.size W1 w') := fun W1 hb => by
          have h1 := text_any d base q c v1 v2 W F y W1 (HH.out W1 hb) HG.out hob
          rw [hxy] at h1
          exact h1
        have HPART : Hid (∀ W1, Below w.heap.size w W1 → ∀ m, m < (prs W y).length → Calls Try.prog 35 #[.pointer (some ⟨d, 0, none⟩), .int .u64 (x : Int), .int .i64 (m : Int)] W1 fun e w' => e = .returned (.tuple #[.int .u64 ((prs W y).getD m 0 : Int), .int .i64 0]) ∧ ∃ nq, w' = W1.drewN nq) := fun W1 hb m hm => by
          have h1 := hpart_t d base q c v1 v2 W F y m W1 (HH.out W1 hb) HG.out hob hm
          rw [hxy] at h1
          exact h1
        have HPNO : Hid (∀ W1, Below w.heap.size w W1 → Calls Try.prog 35 #[.pointer (some ⟨d, 0, none⟩), .int .u64 (x : Int), .int .i64 ((prs W y).length : Int)] W1 fun e w' => e = .returned (.tuple #[.int .u64 0, .int .i64 1]) ∧ ∃ nq, w' = W1.drewN nq) := fun W1 hb => by
          have h1 := hpart_no d base q c v1 v2 W F y _ W1 (HH.out W1 hb) HG.out hob (Nat.le_refl _) (by omega)
          rw [hxy] at h1
          exact h1
        have hn3 : (W.getD y 0 % 256 = 3 ∧ (strO W y).size = W.getD y 0 / 256) ∨ (W.getD y 0 % 256 ≠ 3 ∧ (prs W y).length = W.getD y 0 / 256) := by
          by_cases h3 : W.getD y 0 % 256 = 3
          · exact .inl ⟨h3, strO_n h3⟩
          · exact .inr ⟨h3, prs_n hob h3⟩
        have hwl : ∀ m, m < (prs W y).length → (prs W y).getD m 0 < 18446744073709551616 := fun m hm => by
          have h3 : prs W y = rst W y ∨ prs W y = [] := by unfold prs; split <;> simp
          rcases h3 with h3 | h3
          · rw [h3] at hm ⊢
            rw [List.getD_eq_getElem?_getD, List.getElem?_eq_getElem hm]
            exact HG.out.words _ (List.mem_of_mem_drop (List.mem_of_mem_take (List.getElem_mem hm)))
          · rw [h3] at hm
            simp at hm
        have HWL := Lib.hid hwl
        clear hym hob hobj hfx hodd d0 hy hxy hwl
        generalize prs W y = P at *
        generalize strO W y = str at *
        generalize W.getD y 0 % 256 = kk at *
        generalize W.getD y 0 / 256 = nn at *
        have hPi : (P.length : Int) ≤ 10000000 := by omega
        have hkk' : (kk : Int) ≤ 255 := by omega
        rcases hn3 with ⟨h3, rfl⟩ | ⟨h3, rfl⟩
        · have e3 : (kk : Int) = 3 := by omega
          simp only [e3] at HAT HKIND
          clear h3 e3 hkk'
          go_wp2_with fail
          refine HNUM.out.mono ?_
          rintro e w' ⟨rfl, rfl⟩
          go_wp2_with fail
          refine HAT.out.mono ?_
          rintro e w1 ⟨po, pc, N, rfl, ho, hb1⟩
          have hb2 := hb1.alloc hb1.size (.cells #[.int .u8 3, .slice po P.length pc, .string str] 35)
          have hlk : LkS w (w1.alloc (.cells #[.int .u8 3, .slice po P.length pc, .string str] 35)) w1.heap.size 3 po pc str P :=
            ⟨HB.out.trans (hb2.mono HB.out.size), heap_alloc_new w1 _, RdV.of_own (ho.alloc _)⟩
          have LK := Lib.hid hlk
          clear ho hb1 hb2 hlk
          obtain ⟨c0, c1, c2⟩ := ob_cells (heap_alloc_new w1 (.cells #[.int .u8 3, .slice po P.length pc, .string str] 35))
          go_upto_region 10 with (fail)
          obtain ⟨w2, hw2⟩ : ∃ w2, w1.alloc (.cells #[.int .u8 3, .slice po P.length pc, .string str] 35) = w2 := ⟨_, rfl⟩
          rw [hw2] at LK c0 c1 c2 ⊢
          generalize w1.heap.size = g at *
          clear hw2
          have HK2 : Hid (∀ W1, LkS w W1 g 3 po pc str P → Calls Try.prog 33 #[.pointer (some ⟨d, 0, none⟩), .int .u64 (x : Int)] W1 fun e w' => e = .returned (.int .u8 3) ∧ LkS w w' g 3 po pc str P ∧ w'.cell? ⟨g, 0, none⟩ = some (.int .u8 3) ∧ w'.cell? ⟨g, 2, none⟩ = some (.string str)) :=
            fun W1 h => (HKIND.out W1 h.b).mono fun e w' ⟨he, n, hw⟩ => by subst hw; exact ⟨he, h.drewN n, (h.drewN n).c0, (h.drewN n).c2⟩
          have HL2 : Hid (∀ W1, LkS w W1 g 3 po pc str P → Calls Try.prog 34 #[.pointer (some ⟨d, 0, none⟩), .int .u64 (x : Int)] W1 fun e w' => e = .returned (.int .i64 (str.size : Int)) ∧ LkS w w' g 3 po pc str P ∧ w'.cell? ⟨g, 0, none⟩ = some (.int .u8 3) ∧ w'.cell? ⟨g, 2, none⟩ = some (.string str)) :=
            fun W1 h => (HLEN.out W1 h.b).mono fun e w' ⟨he, n, hw⟩ => by subst hw; exact ⟨he, h.drewN n, (h.drewN n).c0, (h.drewN n).c2⟩
          have HT2 : Hid (∀ W1, LkS w W1 g 3 po pc str P → Calls Try.prog 22 #[.pointer (some ⟨d, 0, none⟩), .int .u64 (x : Int)] W1 fun e w' => e = .returned (.string str) ∧ LkS w w' g 3 po pc str P ∧ w'.cell? ⟨g, 0, none⟩ = some (.int .u8 3) ∧ w'.cell? ⟨g, 2, none⟩ = some (.string str)) :=
            fun W1 h => (HTEXT.out W1 h.b).mono fun e w' ⟨he, hb⟩ => ⟨he, h.more hb, (h.more hb).c0, (h.more hb).c2⟩
          have HP2 : Hid (∀ W1, LkS w W1 g 3 po pc str P → ∀ m, m < P.length → Calls Try.prog 35 #[.pointer (some ⟨d, 0, none⟩), .int .u64 (x : Int), .int .i64 (m : Int)] W1 fun e w' => e = .returned (.tuple #[.int .u64 (P.getD m 0 : Int), .int .i64 0]) ∧ LkS w w' g 3 po pc str P) :=
            fun W1 h m hm => (HPART.out W1 h.b m hm).mono fun e w' ⟨he, n, hw⟩ => by subst hw; exact ⟨he, h.drewN n⟩
          have HN2 : Hid (∀ W1, LkS w W1 g 3 po pc str P → Calls Try.prog 35 #[.pointer (some ⟨d, 0, none⟩), .int .u64 (x : Int), .int .i64 (P.length : Int)] W1 fun e w' => e = .returned (.tuple #[.int .u64 0, .int .i64 1]) ∧ LkS w w' g 3 po pc str P) :=
            fun W1 h => (HPNO.out W1 h.b).mono fun e w' ⟨he, n, hw⟩ => by subst hw; exact ⟨he, h.drewN n⟩
          clear HKIND HLEN HTEXT HPART HPNO HAT
          go_cut [66] (fun b wx => b = .bool false ∧ Hid (LkS w wx g 3 po pc str P))
          case first =>
            go_region_held3 (fun w' => w'.cell? ⟨g, 0, none⟩ = some (.int .u8 3) ∧ w'.cell? ⟨g, 2, none⟩ = some (.string str)) (go_keep)
              (first
                | (go_at_call 33; refine (HK2.out _ (by first | exact LK.out | exact LK.out.drew)).mono ?_; rintro e w3 ⟨rfl, hl3, hc3, hd3⟩; have LK3 := Lib.hid hl3; clear hl3)
                | (go_at_call 34; refine (HL2.out _ (by first | exact LK3.out | exact LK3.out.drew)).mono ?_; rintro e w4 ⟨rfl, hl4, hc4, hd4⟩; have LK4 := Lib.hid hl4; clear hl4)
                | (go_at_call 22; refine (HT2.out _ (by first | exact LK4.out | exact LK4.out.drew)).mono ?_; rintro e w5 ⟨rfl, hl5, hc5, hd5⟩; have LK5 := Lib.hid hl5; clear hl5))
            all_goals
              go_wp2_with fail
              go_meet
              exact ⟨rfl, LK5.out⟩
          case rest =>
            obtain ⟨rfl, HC⟩ := hcut
            clear c0 c1 c2 HK2 HL2 HT2 LK
            obtain ⟨_, c1, _⟩ := ob_cells HC.out.o
            go_wp2_with fail
            go_loopg [12] P.length (fun K j wr2 => ∃ m : Nat, m ≤ P.length ∧ K = P.length - m ∧ j = .int .i64 m ∧ Hid (LkS w wr2 g 3 po pc str P))
            case atStart => exact ⟨0, Nat.zero_le _, by omega, rfl, HC.out⟩
            case round =>
              obtain ⟨m, hm, rfl, rfl, HI⟩ := hrel
              have b1 := HI.out.c1
              by_cases hmp : m < P.length
              · have hmi : (m : Int) < (P.length : Int) := by omega
                obtain ⟨ap, pc', hpv, _, hcc⟩ := at_cell HI.out.r hmp
                simp only [Value.slice.injEq] at hpv
                obtain ⟨rfl, -, rfl⟩ := hpv
                have hcall := HP2.out _ HI.out m hmp
                have hxl := HWL.out m hmp
                have HPC := Lib.hid hcall
                clear hcc hcall
                obtain ⟨z, hz⟩ : ∃ z, P.getD m 0 = z := ⟨_, rfl⟩
                rw [hz] at HPC hxl
                have HZ := Lib.hid hz
                clear hz
                have hz' : (z : Int) ≤ 18446744073709551615 := by omega
                go_wp2_with fail
                refine HPC.out.mono ?_
                rintro e w6 ⟨rfl, hl6⟩
                have b6 := hl6.c1
                obtain ⟨ap', pc6, hpv6, _, hcc6⟩ := at_cell hl6.r hmp
                simp only [Value.slice.injEq] at hpv6
                obtain ⟨e6, -, -⟩ := hpv6
                have hcx6 := hcc6 m hmp
                simp only [Option.some.injEq] at e6
                rw [← e6, HZ.out] at hcx6
                have HL6 := Lib.hid hl6
                clear hl6 hcc6 e6
                go_wp2_with fail
                go_roundg (P.length - (m + 1))
                case measure => omega
                case rel => exact ⟨m + 1, by omega, rfl, by go_num, HL6.out⟩
              · obtain rfl : m = P.length := by omega
                have hmi : ¬ (P.length : Int) < (P.length : Int) := by omega
                go_wp2_with fail
                refine (HN2.out _ (by first | exact HI.out | exact HI.out.drew)).mono ?_
                rintro e w7 ⟨rfl, hl7⟩
                have HL7 := Lib.hid hl7.b
                clear hl7
                go_wp2_with fail
                go_roundg (xs.length - (k + 1))
                case measure => omega
                case rel => exact ⟨k + 1, by omega, rfl, by go_num, HL7.out⟩
        · have hk3 : ((kk : Int) == 3) = false := by rw [beq_eq_false_iff_ne]; omega
          go_wp2_with fail
          refine HNUM.out.mono ?_
          rintro e w' ⟨rfl, rfl⟩
          go_wp2_with fail
          refine HAT.out.mono ?_
          rintro e w1 ⟨po, pc, N, rfl, ho, hb1⟩
          have hb2 := hb1.alloc hb1.size (.cells #[.int .u8 (kk : Int), .slice po P.length pc, .string str] 35)
          have hlk : LkS w (w1.alloc (.cells #[.int .u8 (kk : Int), .slice po P.length pc, .string str] 35)) w1.heap.size (kk : Int) po pc str P :=
            ⟨HB.out.trans (hb2.mono HB.out.size), heap_alloc_new w1 _, RdV.of_own (ho.alloc _)⟩
          have LK := Lib.hid hlk
          clear ho hb1 hb2 hlk
          obtain ⟨c0, c1, c2⟩ := ob_cells (heap_alloc_new w1 (.cells #[.int .u8 (kk : Int), .slice po P.length pc, .string str] 35))
          go_upto_region 10 with (fail)
          obtain ⟨w2, hw2⟩ : ∃ w2, w1.alloc (.cells #[.int .u8 (kk : Int), .slice po P.length pc, .string str] 35) = w2 := ⟨_, rfl⟩
          rw [hw2] at LK c0 c1 c2 ⊢
          generalize w1.heap.size = g at *
          clear hw2
          have HK2 : Hid (∀ W1, LkS w W1 g (kk : Int) po pc str P → Calls Try.prog 33 #[.pointer (some ⟨d, 0, none⟩), .int .u64 (x : Int)] W1 fun e w' => e = .returned (.int .u8 (kk : Int)) ∧ LkS w w' g (kk : Int) po pc str P ∧ w'.cell? ⟨g, 0, none⟩ = some (.int .u8 (kk : Int)) ∧ w'.cell? ⟨g, 2, none⟩ = some (.string str)) :=
            fun W1 h => (HKIND.out W1 h.b).mono fun e w' ⟨he, n, hw⟩ => by subst hw; exact ⟨he, h.drewN n, (h.drewN n).c0, (h.drewN n).c2⟩
          have HL2 : Hid (∀ W1, LkS w W1 g (kk : Int) po pc str P → Calls Try.prog 34 #[.pointer (some ⟨d, 0, none⟩), .int .u64 (x : Int)] W1 fun e w' => e = .returned (.int .i64 (P.length : Int)) ∧ LkS w w' g (kk : Int) po pc str P ∧ w'.cell? ⟨g, 0, none⟩ = some (.int .u8 (kk : Int)) ∧ w'.cell? ⟨g, 2, none⟩ = some (.string str)) :=
            fun W1 h => (HLEN.out W1 h.b).mono fun e w' ⟨he, n, hw⟩ => by subst hw; exact ⟨he, h.drewN n, (h.drewN n).c0, (h.drewN n).c2⟩
          have HT2 : Hid (∀ W1, LkS w W1 g (kk : Int) po pc str P → Calls Try.prog 22 #[.pointer (some ⟨d, 0, none⟩), .int .u64 (x : Int)] W1 fun e w' => e = .returned (.string str) ∧ LkS w w' g (kk : Int) po pc str P ∧ w'.cell? ⟨g, 0, none⟩ = some (.int .u8 (kk : Int)) ∧ w'.cell? ⟨g, 2, none⟩ = some (.string str)) :=
            fun W1 h => (HTEXT.out W1 h.b).mono fun e w' ⟨he, hb⟩ => ⟨he, h.more hb, (h.more hb).c0, (h.more hb).c2⟩
          have HP2 : Hid (∀ W1, LkS w W1 g (kk : Int) po pc str P → ∀ m, m < P.length → Calls Try.prog 35 #[.pointer (some ⟨d, 0, none⟩), .int .u64 (x : Int), .int .i64 (m : Int)] W1 fun e w' => e = .returned (.tuple #[.int .u64 (P.getD m 0 : Int), .int .i64 0]) ∧ LkS w w' g (kk : Int) po pc str P) :=
            fun W1 h m hm => (HPART.out W1 h.b m hm).mono fun e w' ⟨he, n, hw⟩ => by subst hw; exact ⟨he, h.drewN n⟩
          have HN2 : Hid (∀ W1, LkS w W1 g (kk : Int) po pc str P → Calls Try.prog 35 #[.pointer (some ⟨d, 0, none⟩), .int .u64 (x : Int), .int .i64 (P.length : Int)] W1 fun e w' => e = .returned (.tuple #[.int .u64 0, .int .i64 1]) ∧ LkS w w' g (kk : Int) po pc str P) :=
            fun W1 h => (HPNO.out W1 h.b).mono fun e w' ⟨he, n, hw⟩ => by subst hw; exact ⟨he, h.drewN n⟩
          clear HKIND HLEN HTEXT HPART HPNO HAT
          go_cut [66] (fun b wx => b = .bool false ∧ Hid (LkS w wx g (kk : Int) po pc str P))
          case first =>
            go_region_held3 (fun w' => w'.cell? ⟨g, 0, none⟩ = some (.int .u8 (kk : Int)) ∧ w'.cell? ⟨g, 2, none⟩ = some (.string str)) (go_keep)
              (first
                | (go_at_call 33; refine (HK2.out _ (by first | exact LK.out | exact LK.out.drew)).mono ?_; rintro e w3 ⟨rfl, hl3, hc3, hd3⟩; have LK3 := Lib.hid hl3; clear hl3)
                | (go_at_call 34; refine (HL2.out _ (by first | exact LK3.out | exact LK3.out.drew)).mono ?_; rintro e w4 ⟨rfl, hl4, hc4, hd4⟩; have LK4 := Lib.hid hl4; clear hl4)
                | (go_at_call 22; refine (HT2.out _ (by first | exact LK4.out | exact LK4.out.drew)).mono ?_; rintro e w5 ⟨rfl, hl5, hc5, hd5⟩; have LK5 := Lib.hid hl5; clear hl5))
            all_goals
              go_wp2_with fail
              go_meet
              exact ⟨rfl, LK5.out⟩
          case rest =>
            obtain ⟨rfl, HC⟩ := hcut
            clear c0 c1 c2 HK2 HL2 HT2 LK
            obtain ⟨_, c1, _⟩ := ob_cells HC.out.o
            go_wp2_with fail
            go_loopg [12] P.length (fun K j wr2 => ∃ m : Nat, m ≤ P.length ∧ K = P.length - m ∧ j = .int .i64 m ∧ Hid (LkS w wr2 g (kk : Int) po pc str P))
            case atStart => exact ⟨0, Nat.zero_le _, by omega, rfl, HC.out⟩
            case round =>
              obtain ⟨m, hm, rfl, rfl, HI⟩ := hrel
              have b1 := HI.out.c1
              by_cases hmp : m < P.length
              · have hmi : (m : Int) < (P.length : Int) := by omega
                obtain ⟨ap, pc', hpv, _, hcc⟩ := at_cell HI.out.r hmp
                simp only [Value.slice.injEq] at hpv
                obtain ⟨rfl, -, rfl⟩ := hpv
                have hcall := HP2.out _ HI.out m hmp
                have hxl := HWL.out m hmp
                have HPC := Lib.hid hcall
                clear hcc hcall
                obtain ⟨z, hz⟩ : ∃ z, P.getD m 0 = z := ⟨_, rfl⟩
                rw [hz] at HPC hxl
                have HZ := Lib.hid hz
                clear hz
                have hz' : (z : Int) ≤ 18446744073709551615 := by omega
                go_wp2_with fail
                refine HPC.out.mono ?_
                rintro e w6 ⟨rfl, hl6⟩
                have b6 := hl6.c1
                obtain ⟨ap', pc6, hpv6, _, hcc6⟩ := at_cell hl6.r hmp
                simp only [Value.slice.injEq] at hpv6
                obtain ⟨e6, -, -⟩ := hpv6
                have hcx6 := hcc6 m hmp
                simp only [Option.some.injEq] at e6
                rw [← e6, HZ.out] at hcx6
                have HL6 := Lib.hid hl6
                clear hl6 hcc6 e6
                go_wp2_with fail
                go_roundg (P.length - (m + 1))
                case measure => omega
                case rel => exact ⟨m + 1, by omega, rfl, by go_num, HL6.out⟩
              · obtain rfl : m = P.length := by omega
                have hmi : ¬ (P.length : Int) < (P.length : Int) := by omega
                go_wp2_with fail
                refine (HN2.out _ (by first | exact HI.out | exact HI.out.drew)).mono ?_
                rintro e w7 ⟨rfl, hl7⟩
                have HL7 := Lib.hid hl7.b
                clear hl7
                go_wp2_with fail
                go_roundg (xs.length - (k + 1))
                case measure => omega
                case rel => exact ⟨k + 1, by omega, rfl, by go_num, HL7.out⟩
    · obtain rfl : k = xs.length := by omega
      go_wp2_with fail
      go_ret
      exact ⟨rfl, HB.out⟩
end Go.Proofs.Ytkdhajiplonloaa
