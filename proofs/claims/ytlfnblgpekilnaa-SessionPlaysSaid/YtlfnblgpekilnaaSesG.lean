/- Sessions: Save. -/
import Derived.Test.YtlfnblgpekilnaaSesW
namespace Go.Proofs.Ytlfnblgpekilnaa
open Go.RowKit OctM

/-- A writer that was made since w0, and nothing of w0 has turned. -/
structure WS (w0 : World) (b : Nat) (v : Value) (bs : List UInt8) (W : World) : Prop where
  at_ : WAt W b w0.heap.size v bs
  bel : Below w0.heap.size w0 W
  ge : w0.heap.size ≤ b
theorem WS.lt {w0 W : World} {b : Nat} {v : Value} {bs : List UInt8} (h : WS w0 b v bs W) : ∀ k, v.ownBlock = some k → w0.heap.size ≤ k ∧ k < W.heap.size := fun k hk => h.at_.own.lt k hk
theorem WS.below {w0 W W' : World} {b : Nat} {v : Value} {bs : List UInt8} (h : WS w0 b v bs W) (hb : Below W.heap.size W W') : WS w0 b v bs W' := ⟨h.at_.below hb, h.bel.trans (hb.mono h.bel.size), h.ge⟩
theorem WS.drew {w0 W : World} {b : Nat} {v : Value} {bs : List UInt8} (h : WS w0 b v bs W) : WS w0 b v bs W.drew := h.below ⟨rfl, rfl, rfl, Nat.le_refl _, fun _ _ => rfl⟩
theorem WS.two_lt {w0 W : World} {b : Nat} {v : Value} {bs : List UInt8} (h : WS w0 b v bs W) : ∀ k, two b v k → w0.heap.size ≤ k ∧ k < W.heap.size := fun k hk => by
  rcases hk with rfl | hk
  · exact ⟨h.ge, lt_of_block h.at_.cell⟩
  · exact h.lt k hk
theorem WS.put {w0 W W' : World} {b : Nat} {v : Value} {bs bs' : List UInt8} {e : Ending} (h : WS w0 b v bs W) (p : WPost W W' b w0.heap.size v bs' e) : ∃ v', WS w0 b v' bs' W' := by
  obtain ⟨v', hat, -⟩ := p.at_
  exact ⟨v', hat, h.bel.trans (p.kept.below h.bel.size (fun k hk => (h.two_lt k hk).1)), h.ge⟩
theorem WS.new {w0 W : World} {b : Nat} (hb : W.heap[b]? = some (.cells #[.slice none 0 0] 71 (0, 0))) (h : Below w0.heap.size w0 W) (hge : w0.heap.size ≤ b) : WS w0 b (.slice none 0 0) [] W := ⟨wnew hb _, h, hge⟩

/-- A session as bytes; a table as bytes. -/
def encS (s : Se) : List UInt8 := enc s.id ++ enc s.nm ++ encB s.rp
def bodyS (l : List Se) : List UInt8 := l.flatMap encS
def saveB (l : List Se) : List UInt8 := enc l.length ++ bodyS l
theorem encS_le (s : Se) (h : s.rp.length ≤ 1000000) : (encS s).length ≤ 1000100 := by
  have h1 := enc_length s.id; have h2 := nd_le s.id; have h3 := enc_length s.nm; have h4 := nd_le s.nm
  have h5 := encB_length s.rp
  simp only [encS, List.length_append]; omega
theorem bodyS_le (l : List Se) (h : ∀ s ∈ l, s.rp.length ≤ 1000000) : (bodyS l).length ≤ 1000100 * l.length := by
  induction l with
  | nil => simp [bodyS]
  | cons x l ih =>
    have h1 := encS_le x (h x List.mem_cons_self)
    have h2 := ih (fun y hy => h y (List.mem_cons_of_mem _ hy))
    have h3 : bodyS (x :: l) = encS x ++ bodyS l := by simp [bodyS]
    rw [h3, List.length_append, List.length_cons]; omega
theorem bodyS_succ (l : List Se) (i : Nat) (x : Se) (h : l[i]? = some x) : bodyS (l.take (i + 1)) = bodyS (l.take i) ++ encS x := by
  unfold bodyS
  rw [List.take_add_one, h]
  simp

/-- A session's numbers are words. -/
def Wrd (l : List Se) : Prop := ∀ s ∈ l, s.id < 18446744073709551616 ∧ s.nm < 18446744073709551616

set_option maxHeartbeats 2000000 in
set_option maxRecDepth 100000 in
theorem save_nil (w : World) : Calls Try.prog 16 #[.pointer none] w fun e w' => ∃ v', e = .returned v' ∧ Own w' w.heap.size v' (saveB []) ∧ Below w.heap.size w w' := by
  have H0 := Lib.hid (fun W => tlen_nil W)
  go_enter Try.func16, Try.ntmps16
  go_upto_region 2 with fail
  have hbo : Below w.heap.size w (w.alloc (.cells #[.slice none 0 0] 71)) := (Below.refl _ _).alloc (Nat.le_refl _) _
  have hno := heap_alloc_new w (.cells #[.slice none 0 0] 71)
  generalize (w.alloc (.cells #[.slice none 0 0] 71)) = w1 at *
  have HWO := Lib.hid (WS.new hno hbo (Nat.le_refl _))
  generalize hboe : w.heap.size = bo at *
  clear hbo hno
  go_wp2_with fail
  refine (H0.out _).mono ?_
  rintro e w' ⟨rfl, rfl⟩
  have HC1 := Lib.hid (wuint bo w.heap.size (.slice none 0 0) [] 0 w1 (by omega) (by omega) HWO.out.at_ HWO.out.bel.size (by simp))
  go_wp2_with fail
  refine HC1.out.mono ?_
  intro e w3 hp
  have hret := hp.ret
  subst hret
  obtain ⟨u1, hu⟩ := HWO.out.put hp
  have HU1 := Lib.hid hu
  clear hu hp HC1
  go_wp2_with fail
  refine (H0.out _).mono ?_
  rintro e w' ⟨rfl, rfl⟩
  go_wp2_with fail
  go_loopw [15] (fun c wr => c = .int .i64 0 ∧ wr = w3) (fun _ _ => 0)
  case atStart => exact ⟨rfl, rfl⟩
  case round =>
    obtain ⟨rfl, rfl⟩ := hrel
    have HD := Lib.hid (wdone bo w.heap.size u1 _ wr HU1.out.at_ (by decide))
    go_wp2_with fail
    refine HD.out.mono ?_
    rintro e wg ⟨vg, rfl, hog, hbg⟩
    have HO := Lib.hid (own_base hog HU1.out.bel.size)
    have HB := Lib.hid (HU1.out.bel.trans (hbg.mono HU1.out.bel.size))
    clear hog hbg HD
    go_wp2_with fail
    go_ret
    exact ⟨_, rfl, HO.out, HB.out⟩

set_option maxHeartbeats 8000000 in
set_option maxRecDepth 100000 in
theorem save_any (w : World) {b base : Nat} {v : Value} {l : List Se} (h : TA w b base v l) (hl : l.length ≤ 1000) (hw : Wrd l) (hb : ∀ s ∈ l, s.rp.length ≤ 1000000) :
    Calls Try.prog 16 #[.pointer (some ⟨b, 0, none⟩)] w fun e w' => ∃ v', e = .returned v' ∧ Own w' w.heap.size v' (saveB l) ∧ Below w.heap.size w w' := by
  have H := Lib.hid h
  have HW := Lib.hid hw
  have HB := Lib.hid hb
  have HL := Lib.hid hl
  have HLL : Hid ((l.length : Int) ≤ 18446744073709551615) := Lib.hid (by omega)
  have HBS0 : Hid ((bodyS l).length ≤ 1000100000) := Lib.hid (by have := bodyS_le l hb; omega)
  have wl : IntKind.u64.wrap (l.length : Int) = (l.length : Int) := by rw [IntKind.wrap_u64]; omega
  clear h hw hb
  go_enter Try.func16, Try.ntmps16
  go_upto_region 2 with fail
  have hbo : Below w.heap.size w (w.alloc (.cells #[.slice none 0 0] 71)) := (Below.refl _ _).alloc (Nat.le_refl _) _
  have hno := heap_alloc_new w (.cells #[.slice none 0 0] 71)
  have HLEN := Lib.hid (tlen_any _ (H.out.below hbo))
  generalize (w.alloc (.cells #[.slice none 0 0] 71)) = w1 at *
  have HWO := Lib.hid (WS.new hno hbo (Nat.le_refl _))
  generalize hboe : w.heap.size = bo at *
  clear hbo hno
  go_wp2_with fail
  refine HLEN.out.mono ?_
  rintro e w' ⟨rfl, rfl⟩
  have HC1 := Lib.hid (wuint bo w.heap.size (.slice none 0 0) [] (l.length : Int) w1 (by omega) HLL.out HWO.out.at_ HWO.out.bel.size (by simp))
  go_wp2_with fail
  refine HC1.out.mono ?_
  intro e w3 hp
  have hret := hp.ret
  subst hret
  obtain ⟨u1, hu⟩ := HWO.out.put hp
  simp only [Int.toNat_natCast, List.nil_append] at hu
  have HU1 := Lib.hid hu
  have HLEN3 := Lib.hid (tlen_any w3 (H.out.below (by rw [hboe]; have := hu.bel; rw [hboe] at this; exact this)))
  clear hu hp HC1 HLEN
  go_wp2_with fail
  refine HLEN3.out.mono ?_
  rintro e w' ⟨rfl, rfl⟩
  clear HLEN3 HWO wl
  go_wp2_with fail
  go_loopw [15] (fun c wr => ∃ (i : Nat) (u : Value), i ≤ l.length ∧ c = .int .i64 (i : Int) ∧ Hid (WS w bo u (enc l.length ++ bodyS (l.take i)) wr)) (fun c _ => l.length + 1 - (intOf c).toNat)
  case atStart => exact ⟨0, u1, by omega, rfl, by simpa [bodyS] using HU1⟩
  case round =>
    clear HU1
    obtain ⟨i, u, hi, rfl, HS⟩ := hrel
    have hl6 := HL.out
    have HTK : Hid ((bodyS (l.take i)).length ≤ 1000100000) := Lib.hid (by
      have h1 := bodyS_le (l.take i) (fun x hx => HB.out x (List.mem_of_mem_take hx))
      have h3 : (l.take i).length ≤ 1000 := by rw [List.length_take]; omega
      omega)
    by_cases hlt : i < l.length
    · have i1 : (i : Int) < (l.length : Int) := by omega
      have wi : IntKind.i64.wrap ((i : Int) + 1) = (i : Int) + 1 := IntWalk.i64_in _ (by omega)
      have hgx : l[i]? = some l[i] := List.getElem?_eq_getElem hlt
      have hww := HW.out _ (List.getElem_mem hlt)
      have hrr := HB.out _ (List.getElem_mem hlt)
      have hsucc := bodyS_succ l i _ hgx
      obtain ⟨ps, hps, hta0⟩ := H.out
      have hta := hta0.below HS.out.bel
      have hpl : ps.length = l.length := by rw [← hps]; simp
      have hpx : ps[i]? = some ps[i] := List.getElem?_eq_getElem (by omega)
      have hpe : (ps[i]).1 = l[i] := by
        have h9 : (ps.map Prod.fst)[i]? = some l[i] := by rw [hps]; exact hgx
        rw [List.getElem?_map, hpx] at h9
        injection h9
      have hown := hta0.own.cells _ (List.getElem_mem (by omega : i < ps.length))
      obtain ⟨g, cg, rfl, -, hgl, -, hcs⟩ := own_at hta.own.row (by omega)
      obtain ⟨a0, a1, a2⟩ := (show SRow wr wr g ps from ⟨Below.refl _ _, hgl, hcs⟩).at hpx
      have c0 := cell_of_one hta.cell
      generalize ps[i] = q at *
      obtain ⟨y, vy⟩ := q
      dsimp only at hpe hown a0 a1 a2
      generalize l[i] = yy at *
      subst hpe
      obtain ⟨xi, xn, xr⟩ := y
      dsimp only at hown a0 a1 a2 hww hrr
      obtain ⟨ox, cx, rfl⟩ := own_slice hown
      have HXI := Lib.hid (show (xi : Int) ≤ 18446744073709551615 by omega)
      have HXN := Lib.hid (show (xn : Int) ≤ 18446744073709551615 by omega)
      have HXR := Lib.hid hrr
      have HSUC := Lib.hid hsucc
      have HRDW := Lib.hid (Rd.of_own hown)
      have i2 : (i : Int) < (ps.length : Int) := by omega
      have HPS := Lib.hid (And.intro hps hpl)
      have hba : Below wr.heap.size wr (wr.alloc (.cells #[.int .u64 (xi : Int), .int .u64 (xn : Int), .slice ox xr.length cx] 60)) := (Below.refl _ _).alloc (Nat.le_refl _) _
      have hn := heap_alloc_new wr (.cells #[.int .u64 (xi : Int), .int .u64 (xn : Int), .slice ox xr.length cx] 60)
      have hsz : (wr.alloc (.cells #[.int .u64 (xi : Int), .int .u64 (xn : Int), .slice ox xr.length cx] 60)).heap.size = wr.heap.size + 1 := by simp
      clear hgx hpx hww hrr hsucc hown hcs hps hpl hta hta0
      have hbs : (enc l.length ++ bodyS (l.take i)).length ≤ 1000100010 := by
        have := HTK.out; have := enc_length l.length; have := nd_le l.length
        rw [List.length_append]; omega
      go_upto_region 7 with fail
      have HB1 := Lib.hid hba
      have hkp0 : wr.heap.size < (wr.alloc (.cells #[.int .u64 (xi : Int), .int .u64 (xn : Int), .slice ox xr.length cx] 60)).heap.size := by omega
      have HSW := Lib.hid (HS.out.below hba)
      have HTW := Lib.hid (show ∀ k, two bo u k → k ≠ wr.heap.size from fun k hk => Nat.ne_of_lt (HS.out.two_lt k hk).2)
      have hsb : Hid (bodyS (l.take (i + 1)) = bodyS (l.take i) ++ encS ⟨xi, xn, xr⟩) := HSUC
      have HBSEQ : Hid (enc l.length ++ bodyS (l.take (i + 1)) = (enc l.length ++ bodyS (l.take i)) ++ enc xi ++ enc xn ++ encB xr) := Lib.hid (by rw [hsb.out]; simp [encS, List.append_assoc])
      generalize (wr.alloc (.cells #[.int .u64 (xi : Int), .int .u64 (xn : Int), .slice ox xr.length cx] 60)) = W at *
      generalize wr.heap.size = X at *
      have HBOX := Lib.hid (show ∀ W', Kept (fun k => k ≠ X) W W' → W'.heap[X]? = some (.cells #[.int .u64 (xi : Int), .int .u64 (xn : Int), .slice ox xr.length cx] 60 (0, 0)) from fun W' hk => (hk.block _ (by omega) (by simp)).trans hn)
      have g0 : W.cell? ⟨X, 0, none⟩ = some (.int .u64 (xi : Int)) := cellk (i := 0) hn rfl
      have g1 : W.cell? ⟨X, 1, none⟩ = some (.int .u64 (xn : Int)) := cellk (i := 1) hn rfl
      have g2 : W.cell? ⟨X, 2, none⟩ = some (.slice ox xr.length cx) := cellk (i := 2) hn rfl
      generalize hbse : enc l.length ++ bodyS (l.take i) = bs at *
      have HBS := Lib.hid hbs
      have HEW := Lib.hid HSW.out
      clear hba hn hbs hsz a0 a1 a2 c0 HSUC hsb HB1 hbse HSW
      refine wp_region_held_drew (S := fun w' => w'.cell? ⟨X, 0, none⟩ = some (.int .u64 (xi : Int)) ∧ w'.cell? ⟨X, 1, none⟩ = some (.int .u64 (xn : Int)) ∧ w'.cell? ⟨X, 2, none⟩ = some (.slice ox xr.length cx)) (by kernel_rfl) ⟨g0, g1, g2⟩ ?_
      intro hHeld
      refine wpAnyH_take (i := 0) (v := ?_) (by simp only [List.getElem?_toArray, List.getElem?_cons_zero]; rfl) (by kernel_rfl) (by kernel_rfl) (by kernel_rfl) (by intro _ _ _ h; exact h) (Or.inl ⟨by rfl, ?_⟩) (by assumption) ?_
      rotate_left
      · (intro w hSw; (try dsimp only at hSw); go_simp; try with_reducible rfl)
      try simp only [Act.put, List.setIfInBounds_toArray, List.set_cons_zero, List.set_cons_succ]
      refine wpAnyH_take (i := 1) (v := ?_) (by simp only [List.getElem?_toArray, List.getElem?_cons_succ, List.getElem?_cons_zero]; rfl) (by kernel_rfl) (by kernel_rfl) (by kernel_rfl) (by intro _ _ _ h; exact h) (Or.inl ⟨by rfl, ?_⟩) (by assumption) ?_
      rotate_left
      · (intro w hSw; (try dsimp only at hSw); go_simp; try with_reducible rfl)
      try simp only [Act.put, List.setIfInBounds_toArray, List.set_cons_zero, List.set_cons_succ]
      refine wpAnyH_take (i := 2) (v := ?_) (by simp only [List.getElem?_toArray, List.getElem?_cons_succ, List.getElem?_cons_zero]; rfl) (by kernel_rfl) (by kernel_rfl) (by kernel_rfl) (by intro _ _ _ h; exact h) (Or.inl ⟨by rfl, ?_⟩) (by assumption) ?_
      rotate_left
      · (intro w hSw; (try dsimp only at hSw); go_simp; try with_reducible rfl)
      try simp only [Act.put, List.setIfInBounds_toArray, List.set_cons_zero, List.set_cons_succ]
      refine wpAnyH_take (i := 4) (v := ?_) (by simp only [List.getElem?_toArray, List.getElem?_cons_succ, List.getElem?_cons_zero]; rfl) (by kernel_rfl) (by kernel_rfl) (by kernel_rfl) (by intro _ _ _ h; exact h) (Or.inl ⟨by rfl, ?_⟩) (by assumption) ?_
      rotate_left
      · (intro w hSw; (try dsimp only at hSw); go_simp; try with_reducible rfl)
      try simp only [Act.put, List.setIfInBounds_toArray, List.set_cons_zero, List.set_cons_succ]
      refine wpAnyH_take (i := 5) (v := ?_) (by simp only [List.getElem?_toArray, List.getElem?_cons_succ, List.getElem?_cons_zero]; rfl) (by kernel_rfl) (by kernel_rfl) (by kernel_rfl) (by intro _ _ _ h; exact h) (Or.inl ⟨by rfl, ?_⟩) (by assumption) ?_
      rotate_left
      · (intro w hSw; (try dsimp only at hSw); go_simp; try with_reducible rfl)
      try simp only [Act.put, List.setIfInBounds_toArray, List.set_cons_zero, List.set_cons_succ]
      refine wpAnyH_take (i := 7) (v := ?_) (by simp only [List.getElem?_toArray, List.getElem?_cons_succ, List.getElem?_cons_zero]; rfl) (by kernel_rfl) (by kernel_rfl) (by kernel_rfl) (by intro _ _ _ h; exact h) (Or.inl ⟨by rfl, ?_⟩) (by assumption) ?_
      rotate_left
      · (intro w hSw; (try dsimp only at hSw); go_simp; try with_reducible rfl)
      try simp only [Act.put, List.setIfInBounds_toArray, List.set_cons_zero, List.set_cons_succ]
      refine wpAnyH_take (i := 8) (v := ?_) (by simp only [List.getElem?_toArray, List.getElem?_cons_succ, List.getElem?_cons_zero]; rfl) (by kernel_rfl) (by kernel_rfl) (by kernel_rfl) (by intro _ _ _ h; exact h) (Or.inl ⟨by rfl, ?_⟩) (by assumption) ?_
      rotate_left
      · (intro w hSw; (try dsimp only at hSw); go_simp; try with_reducible rfl)
      try simp only [Act.put, List.setIfInBounds_toArray, List.set_cons_zero, List.set_cons_succ]
      refine wpAnyH_ready (rs := [3]) (by kernel_rfl) (by simp) ?_
      refine AllReadyH.cons (by simp only [List.getElem?_toArray, List.getElem?_cons_succ, List.getElem?_cons_zero]; rfl) (fun K hK => ?_) AllReadyH.nil
      go_simp
      refine (wuint bo w.heap.size u bs (xi : Int) W.drew (by omega) HXI.out HEW.out.drew.at_ HEW.out.drew.bel.size (by have := HBS.out; have := enc_length xi; have := nd_le xi; have := enc_length xn; have := nd_le xn; have := HXR.out; (try simp only [List.length_append]); omega)).mono ?_
      intro e W1 hp1
      have hret := hp1.ret
      subst hret
      obtain ⟨u1, hat1, hor1⟩ := hp1.at_
      have hws1 := (show WS w bo u1 _ W1 from ⟨hat1, HEW.out.drew.bel.trans (hp1.kept.below HEW.out.drew.bel.size (fun k hk => (HEW.out.drew.two_lt k hk).1)), HEW.out.drew.ge⟩)
      have hkk1 : Kept (fun k => k ≠ X) W W1 := ((Kept.refl (fun k => k ≠ X) W).drew).trans (hp1.kept.weak (fun k _ hk => HTW.out k hk))
      have HT1 := Lib.hid (show ∀ k, two bo u1 k → k ≠ X from fun k hk => by
        rcases hk with rfl | hk
        · exact HTW.out k (.inl rfl)
        · rcases hor1 with h5 | ⟨g, hg, hgs⟩
          · exact HTW.out k (.inr (h5 ▸ hk))
          · have h6 := hkp0; have h7 : W.heap.size ≤ g := hgs; rw [hg] at hk; injection hk with hk; omega)
      have hkp1 : X < W1.heap.size := by have := hkk1.size; omega
      have q := HBOX.out _ hkk1
      have q10 := cellk (i := 0) q rfl
      have q11 := cellk (i := 1) q rfl
      have q12 := cellk (i := 2) q rfl
      simp only [Int.toNat_natCast] at hws1
      have HEW1 := Lib.hid hws1
      have HKK1 := Lib.hid hkk1
      clear hp1 hws1 hat1 hor1 hkk1 q
      dsimp only
      refine hK.out _ _ ⟨q10, q11, q12⟩ (fun hHeld => ?_)
      clear hK K
      try simp only [Act.put, List.setIfInBounds_toArray, List.set_cons_zero, List.set_cons_succ]
      refine wpAnyH_ready (rs := [6]) (by kernel_rfl) (by simp) ?_
      refine AllReadyH.cons (by simp only [List.getElem?_toArray, List.getElem?_cons_succ, List.getElem?_cons_zero]; rfl) (fun K hK => ?_) AllReadyH.nil
      go_simp
      refine (wuint bo w.heap.size u1 (bs ++ enc xi) (xn : Int) W1 (by omega) HXN.out HEW1.out.at_ HEW1.out.bel.size (by have := HBS.out; have := enc_length xi; have := nd_le xi; have := enc_length xn; have := nd_le xn; have := HXR.out; (try simp only [List.length_append]); omega)).mono ?_
      intro e W2 hp2
      have hret := hp2.ret
      subst hret
      obtain ⟨u2, hat2, hor2⟩ := hp2.at_
      have hws2 := (show WS w bo u2 _ W2 from ⟨hat2, HEW1.out.bel.trans (hp2.kept.below HEW1.out.bel.size (fun k hk => (HEW1.out.two_lt k hk).1)), HEW1.out.ge⟩)
      have hkk2 : Kept (fun k => k ≠ X) W W2 := (HKK1.out).trans (hp2.kept.weak (fun k _ hk => HT1.out k hk))
      have HT2 := Lib.hid (show ∀ k, two bo u2 k → k ≠ X from fun k hk => by
        rcases hk with rfl | hk
        · exact HT1.out k (.inl rfl)
        · rcases hor2 with h5 | ⟨g, hg, hgs⟩
          · exact HT1.out k (.inr (h5 ▸ hk))
          · have h6 := hkp1; have h7 : W1.heap.size ≤ g := hgs; rw [hg] at hk; injection hk with hk; omega)
      have hkp2 : X < W2.heap.size := by have := hkk2.size; omega
      have q := HBOX.out _ hkk2
      have q20 := cellk (i := 0) q rfl
      have q21 := cellk (i := 1) q rfl
      have q22 := cellk (i := 2) q rfl
      simp only [Int.toNat_natCast] at hws2
      have HEW2 := Lib.hid hws2
      have HKK2 := Lib.hid hkk2
      clear hp2 hws2 hat2 hor2 hkk2 q
      dsimp only
      refine hK.out _ _ ⟨q20, q21, q22⟩ (fun hHeld => ?_)
      clear hK K
      try simp only [Act.put, List.setIfInBounds_toArray, List.set_cons_zero, List.set_cons_succ]
      refine wpAnyH_ready (rs := [9]) (by kernel_rfl) (by simp) ?_
      refine AllReadyH.cons (by simp only [List.getElem?_toArray, List.getElem?_cons_succ, List.getElem?_cons_zero]; rfl) (fun K hK => ?_) AllReadyH.nil
      go_simp
      refine (wbytes bo w.heap.size u2 (bs ++ enc xi ++ enc xn) (.slice ox xr.length cx) xr W2 HEW2.out.at_ HEW2.out.bel.size (HRDW.out.below HEW2.out.bel) (fun w' hk => HRDW.out.below (HEW2.out.bel.trans (hk.below HEW2.out.bel.size (fun k hk2 => (HEW2.out.two_lt k hk2).1)))) (by have := HBS.out; have := enc_length xi; have := nd_le xi; have := enc_length xn; have := nd_le xn; have := HXR.out; (try simp only [List.length_append]); omega)).mono ?_
      intro e W3 hp3
      have hret := hp3.ret
      subst hret
      obtain ⟨u3, hat3, hor3⟩ := hp3.at_
      have hws3 := (show WS w bo u3 _ W3 from ⟨hat3, HEW2.out.bel.trans (hp3.kept.below HEW2.out.bel.size (fun k hk => (HEW2.out.two_lt k hk).1)), HEW2.out.ge⟩)
      have hkk3 : Kept (fun k => k ≠ X) W W3 := (HKK2.out).trans (hp3.kept.weak (fun k _ hk => HT2.out k hk))
      have HT3 := Lib.hid (show ∀ k, two bo u3 k → k ≠ X from fun k hk => by
        rcases hk with rfl | hk
        · exact HT2.out k (.inl rfl)
        · rcases hor3 with h5 | ⟨g, hg, hgs⟩
          · exact HT2.out k (.inr (h5 ▸ hk))
          · have h6 := hkp2; have h7 : W2.heap.size ≤ g := hgs; rw [hg] at hk; injection hk with hk; omega)
      have hkp3 : X < W3.heap.size := by have := hkk3.size; omega
      have q := HBOX.out _ hkk3
      have q30 := cellk (i := 0) q rfl
      have q31 := cellk (i := 1) q rfl
      have q32 := cellk (i := 2) q rfl
      have HEW3 := Lib.hid hws3
      have HKK3 := Lib.hid hkk3
      clear hp3 hws3 hat3 hor3 hkk3 q
      dsimp only
      refine hK.out _ _ ⟨q30, q31, q32⟩ (fun hHeld => ?_)
      clear hK K
      try simp only [Act.put, List.setIfInBounds_toArray, List.set_cons_zero, List.set_cons_succ]
      refine wpAnyH_done (by kernel_rfl) ?_ _
      go_wp2_with fail
      go_roundw
      case rel => exact ⟨i + 1, u3, by omega, by go_num, by rw [HBSEQ.out]; exact HEW3⟩
      case measure => simp [intOf]; omega
    · have i1 : ¬ (i : Int) < (l.length : Int) := by omega
      have hie : i = l.length := by omega
      subst hie
      rw [List.take_length] at HS
      have HD := Lib.hid (wdone bo w.heap.size u _ wr HS.out.at_ (by
        have := HBS0.out; have := enc_length l.length; have := nd_le l.length
        rw [List.length_append]
        omega))
      go_wp2_with fail
      refine HD.out.mono ?_
      rintro e wg ⟨vg, rfl, hog, hbg⟩
      have HO := Lib.hid (own_base hog HS.out.bel.size)
      have HBB := Lib.hid (HS.out.bel.trans (hbg.mono HS.out.bel.size))
      clear hog hbg HD
      go_wp2_with fail
      go_ret
      exact ⟨_, rfl, HO.out, HBB.out⟩
end Go.Proofs.Ytlfnblgpekilnaa
