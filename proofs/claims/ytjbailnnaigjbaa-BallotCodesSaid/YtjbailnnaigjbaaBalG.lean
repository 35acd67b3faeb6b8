/- One node of one: an entry is added. -/
import Derived.Test.YtjbailnnaigjbaaBalF
namespace Go.Proofs.Ytjbailnnaigjbaa
open Go.RowKit OctM

/-- An append whose run is known, as a step of a region that draws. -/
theorem step_append_known {P : Program} {w w' : World} {ops : Array Oper} {o : Oper} {a : Act} {K : Act → World → Prop} {Q : Exit → Act → World → Prop} {E : Prop} (hgd : o.guard = none) (s x : Operand) (t u : TypeId)
    (ho : o.op = .call { callee := .builtin .append, args := #[s, x], argTypes := #[t, u] }) (v y v' : Value) (hs : a.eval s = v) (hx : a.eval x = y)
    (hr : (Builtin.append_ #[t, u] o.type #[v, y]).run P w = .ok v' w') (h : K (a.put o.dst v') w') : if Region.wanted o (yielded ops a.tmps) = true then Oper.wp P o a w K Q else E := by
  have hw : Region.wanted o (yielded ops a.tmps) = true := by simp [Region.wanted, hgd]
  rw [if_pos hw]
  unfold Oper.wp execOp
  simp only [ho, resolve, invoke, builtin, Sem.run_bind, Sem.run_pure, Result.andThen_ok, List.map_toArray, List.map_cons, List.map_nil, hs, hx, hr]
  exact h

/-- What add leaves. -/
def AddP (X base : Nat) (p : Sc) (ps : List (En × Value)) (vs ns : List Value) (d l v n m o : Value) (x : En) (w : World) (e : Ending) (w' : World) : Prop :=
  e = .returned (.tuple #[]) ∧ ∃ ol' cl' y, NdAt w' X { p with cm := ps.length + 1 } d (.slice ol' (ps.length + 1) cl') v n m o ∧ StO w' base [] (ps ++ [(x, y)]) vs ns [Wd (ps.length + 1)] d (.slice ol' (ps.length + 1) cl') v n m ∧ Kept (fun k => k = X ∨ l.ownBlock = some k ∨ m.ownBlock = some k) w w'

/-- .. when its log has grown. -/
def AddQ (X base : Nat) (p : Sc) (ps : List (En × Value)) (vs ns : List Value) (z d l v n m o : Value) (x : En) (w w' : World) (l' : Value) : Prop :=
  ∃ ol' cl' y, l' = .slice ol' (ps.length + 1) cl' ∧ NdAt w' X p d l' v n m o ∧ StO w' base [] (ps ++ [(x, y)]) vs ns [z] d l' v n m ∧ Kept (fun k => k = X ∨ l.ownBlock = some k) w w'

set_option maxHeartbeats 8000000 in
set_option maxRecDepth 100000 in
theorem add_one (X base sn nm : Nat) (p : Sc) (ps : List (En × Value)) (vs ns : List Value) (z : Value) (d l v n m o u : Value) (cl : List UInt8) (w : World) (h : NdAt w X p d l v n m o) (hO : StO w base [] ps vs ns [z] d l v n m) (h1 : p.n = 1) (h2 : p.s = 0) (h3 : p.bs = 0)
    (hu : Rd w u cl) (hcl : cl.length ≤ 4000) (hps : ps.length ≤ 900) (hbase : base ≤ w.heap.size) (hc : p.cm < ps.length + 1) :
    Calls Try.prog 44 #[.pointer (some ⟨X, 0, none⟩), .int .u64 (sn : Int), .int .u64 (nm : Int), u] w (AddP X base p ps vs ns d l v n m o ⟨p.tm, sn, nm, cl⟩ w) := by
  obtain ⟨ol, cll, rfl⟩ := own_slice' hO.hl.row
  obtain ⟨od, cd, rfl⟩ := own_slice' hO.hd
  obtain ⟨ov, cv, rfl⟩ := own_slice' hO.hv
  obtain ⟨on, cn, rfl⟩ := own_slice' hO.hn
  obtain ⟨gm, cm, rfl, hmb, hml, hmf, hmc⟩ := own_at hO.hm (by simp)
  obtain ⟨ou, cu, rfl⟩ : ∃ o c, u = .slice o cl.length c := by
    rcases hu with ⟨rfl, rfl⟩ | ⟨a, c, rfl, _⟩
    · exact ⟨_, _, rfl⟩
    · exact ⟨_, _, rfl⟩
  have c8 : w.cell? ⟨X, 8, none⟩ = some (.slice ol ps.length cll) := cellk h rfl
  have c3 : w.cell? ⟨X, 3, none⟩ = some (.int .u64 (p.tm : Int)) := cellk h rfl
  have hX := lt_of_block h
  have H1 := Lib.hid (fun W (hk : Below w.heap.size w W) => clone (.slice ou cl.length cu) cl W (hu.below hk) (by omega))
  have H := Lib.hid h
  have HO := Lib.hid hO
  have HE := Lib.hid (And.intro h1 (And.intro h2 h3))
  clear h hO h1 h2 h3 hu hmc
  go_enter Try.func44, Try.ntmps44
  go_wp2_with fail
  have hAP : ∀ (W w1 : World) (oy : Option Addr) (cy : Nat), Below w.heap.size w W → Own w1 W.heap.size (.slice oy cl.length cy) cl → Below W.heap.size W w1 → w1.cell? ⟨X, 8, none⟩ = some (.slice ol ps.length cll) ∧ w1.cell? ⟨X, 3, none⟩ = some (.int .u64 (p.tm : Int)) ∧ X < w1.heap.size ∧
      ∃ o2 c2 w2, (Builtin.append_ #[29, 29] 29 #[.slice ol ps.length cll, .slice (some ⟨w1.heap.size, 0, none⟩) 1 1]).run Try.prog (w1.alloc (.cells #[.int .u64 (p.tm : Int), .int .u64 (sn : Int), .int .u64 (nm : Int), .slice oy cl.length cy] 51)) = .ok (.slice o2 (ps.length + 1) c2) w2 ∧
        w2.cell? ⟨X, 8, none⟩ = some (.slice ol ps.length cll) ∧ w2.frozen? ⟨X, 8, none⟩ = false ∧ X < w2.heap.size ∧
        AddQ X base p ps vs ns z (.slice od 0 cd) (.slice ol ps.length cll) (.slice ov vs.length cv) (.slice on ns.length cn) (.slice (some ⟨gm, 0, none⟩) 1 cm) o ⟨p.tm, sn, nm, cl⟩ w (w2.setCell ⟨X, 8, none⟩ (.slice o2 (ps.length + 1) c2)) (.slice o2 (ps.length + 1) c2) := by
    intro W w1 oy cy hW hy hb1
    have hB1 : Below w.heap.size w w1 := hW.trans (hb1.mono hW.size)
    have hz1 := hB1.size
    obtain ⟨o2, c2, w2, hr2, hO2, hk2⟩ := more_en (⟨p.tm, sn, nm, cl⟩, .slice oy cl.length cy) (HO.out.below hB1) (own_base hy (Nat.le_trans hbase hW.size)) (by omega) (by omega)
    have hN1 := H.out.below hB1
    have hNX : (Value.slice ol ps.length cll).ownBlock ≠ some X := own_ne (HO.out.below hB1).hl.row hN1 (by decide)
    have hN2 := hN1.kept hk2 hNX
    refine ⟨(hB1.cell (p := ⟨X, 8, none⟩) hX).trans c8, (hB1.cell (p := ⟨X, 3, none⟩) hX).trans c3, by omega, o2, c2, w2, hr2, cellk hN2 rfl, hN2.fz 8, lt_of_block hN2, ?_⟩
    exact ⟨o2, c2, _, rfl, hN2.set 8 _, hO2.nodeK hN2 keptX, ((kept_of_below hB1).trans (hk2.weak (fun k _ hk => .inr hk))).trans (keptX.weak fun k _ hk => .inl hk)⟩
  have HAP := Lib.hid hAP
  clear hAP
  go_cut [25] (fun v25 wx => ∃ wy vy, wy = wx ∧ vy = v25 ∧ Hid (AddQ X base p ps vs ns z (.slice od 0 cd) (.slice ol ps.length cll) (.slice ov vs.length cv) (.slice on ns.length cn) (.slice (some ⟨gm, 0, none⟩) 1 cm) o ⟨p.tm, sn, nm, cl⟩ w wy vy))
  case first =>
    rename_i J K' hJ hMJ
    go_region_law (first
    | (refine step_append_known rfl (.tmp 13) (.tmp 24) 29 29 rfl _ _ _ rfl rfl HR2.out ?_)
    | (go_simp; go_at_call 50; refine (H1.out _ (by first | exact Below.refl _ _ | exact (Below.refl _ _).drew)).mono ?_; rintro e w1 ⟨y, rfl, hy, hb1⟩; obtain ⟨oy, cy, rfl⟩ := own_slice' hy; obtain ⟨q8, q3, hz1, o2, c2, w2, hr2, r8, rf, rX, hq⟩ := HAP.out _ w1 oy cy (by first | exact Below.refl _ _ | exact (Below.refl _ _).drew) hy hb1; have HR2 := Lib.hid hr2; have HQ := Lib.hid hq; clear hr2 hq hy hb1; dsimp only))
    all_goals
      refine hMJ _ _ (Met.intro ?_)
      refine hJ _ _ ?_
      (repeat apply Exists.intro)
      refine ⟨?_, rfl⟩
      exact ⟨_, _, rfl, rfl, HQ⟩
  case rest =>
    obtain ⟨wy, vy, rfl, rfl, HQ⟩ := hcut
    obtain ⟨ol', cl', y, rfl, hN, hO2, hK2⟩ := HQ.out
    obtain ⟨J, hJ⟩ : ∃ J, J = ps.length + 1 := ⟨_, rfl⟩
    rw [← hJ] at hN hO2 ⊢
    have HO2 := Lib.hid hO2
    have HN := Lib.hid hN
    have HK2 := Lib.hid hK2
    have HJ := Lib.hid hJ
    have hX2 := lt_of_block hN
    obtain ⟨gm2, cm2, hge, hmb2, hml2, hmf2, hmc2⟩ := own_at hO2.hm (by simp)
    injection hge with hge hg1 hgc
    injection hge with hge
    injection hge with hge hg2 hg3
    subst hge hgc
    clear hg1 hg2 hg3
    have hmz := hmc2 0 z rfl
    have hmf0 := hmf2 0
    have hL := last_one p (.slice od 0 cd) (.slice ov vs.length cv) (.slice on ns.length cn) (.slice (some ⟨gm, 0, none⟩) 1 cm) ol' J cl'
    have HL := Lib.hid (fun W => hL W HE.out.2.2 ⟨_, _, rfl⟩ (by omega))
    unfold stV stC at HL
    rw [HE.out.2.1] at HL
    have x0 : wy.cell? ⟨X, 0, none⟩ = some (.int .i64 p.n) := cellk hN rfl
    have x1 : wy.cell? ⟨X, 1, none⟩ = some (.int .i64 p.s) := cellk hN rfl
    have x2 : wy.cell? ⟨X, 2, none⟩ = some (.int .i64 p.k) := cellk hN rfl
    have x3 : wy.cell? ⟨X, 3, none⟩ = some (.int .u64 (p.tm : Int)) := cellk hN rfl
    have x4 : wy.cell? ⟨X, 4, none⟩ = some (.int .i64 p.vt) := cellk hN rfl
    have x5 : wy.cell? ⟨X, 5, none⟩ = some (.int .u64 (p.bs : Int)) := cellk hN rfl
    have x6 : wy.cell? ⟨X, 6, none⟩ = some (.int .u64 (p.bt : Int)) := cellk hN rfl
    have x7 : wy.cell? ⟨X, 7, none⟩ = some (.slice od 0 cd) := cellk hN rfl
    have x8 : wy.cell? ⟨X, 8, none⟩ = some (.slice ol' J cl') := cellk hN rfl
    have x9 : wy.cell? ⟨X, 9, none⟩ = some (.int .u64 (p.cm : Int)) := cellk hN rfl
    have x10 : wy.cell? ⟨X, 10, none⟩ = some (.int .u8 (p.rl : Int)) := cellk hN rfl
    have x11 : wy.cell? ⟨X, 11, none⟩ = some (.int .i64 p.ld) := cellk hN rfl
    have x12 : wy.cell? ⟨X, 12, none⟩ = some (.int .i64 p.lf) := cellk hN rfl
    have x13 : wy.cell? ⟨X, 13, none⟩ = some (.slice ov vs.length cv) := cellk hN rfl
    have x14 : wy.cell? ⟨X, 14, none⟩ = some (.slice on ns.length cn) := cellk hN rfl
    have x15 : wy.cell? ⟨X, 15, none⟩ = some (.slice (some ⟨gm, 0, none⟩) 1 cm) := cellk hN rfl
    have xs : wy.cell? ⟨X, 1, none⟩ = some (.int .i64 0) := by rw [← HE.out.2.1]; exact x1
    clear hN hO2 hK2 hJ hmc2 hmf2 hmf H1 HAP HQ HO H c8 c3 hL x1
    go_wp2_with fail
    refine wp_region_held_drew (S := fun w' => w'.cell? ⟨X, 0, none⟩ = some (.int .i64 p.n) ∧ w'.cell? ⟨X, 1, none⟩ = some (.int .i64 0) ∧ w'.cell? ⟨X, 2, none⟩ = some (.int .i64 p.k) ∧ w'.cell? ⟨X, 3, none⟩ = some (.int .u64 (p.tm : Int)) ∧ w'.cell? ⟨X, 4, none⟩ = some (.int .i64 p.vt) ∧ w'.cell? ⟨X, 5, none⟩ = some (.int .u64 (p.bs : Int)) ∧ w'.cell? ⟨X, 6, none⟩ = some (.int .u64 (p.bt : Int)) ∧ w'.cell? ⟨X, 7, none⟩ = some (.slice od 0 cd) ∧ w'.cell? ⟨X, 8, none⟩ = some (.slice ol' J cl') ∧ w'.cell? ⟨X, 9, none⟩ = some (.int .u64 (p.cm : Int)) ∧ w'.cell? ⟨X, 10, none⟩ = some (.int .u8 (p.rl : Int)) ∧ w'.cell? ⟨X, 11, none⟩ = some (.int .i64 p.ld) ∧ w'.cell? ⟨X, 12, none⟩ = some (.int .i64 p.lf) ∧ w'.cell? ⟨X, 13, none⟩ = some (.slice ov vs.length cv) ∧ w'.cell? ⟨X, 14, none⟩ = some (.slice on ns.length cn) ∧ w'.cell? ⟨X, 15, none⟩ = some (.slice (some ⟨gm, 0, none⟩) 1 cm)) (by kernel_rfl) ⟨x0, xs, x2, x3, x4, x5, x6, x7, x8, x9, x10, x11, x12, x13, x14, x15⟩ ?_
    intro hHeld
    refine wpAnyH_take (i := 0) (v := ?_) (by simp only [List.getElem?_toArray, List.getElem?_cons_zero]; rfl) (by kernel_rfl) (by kernel_rfl) (by kernel_rfl) (by intro _ _ _ h; exact h) (Or.inl ⟨by rfl, ?_⟩) (by assumption) ?_
    rotate_left
    · (intro w hSw; (try dsimp only at hSw); go_simp; try with_reducible rfl)
    try simp only [Act.put, List.setIfInBounds_toArray, List.set_cons_zero, List.set_cons_succ]
    refine wpAnyH_take (i := 1) (v := ?_) (by simp only [List.getElem?_toArray, List.getElem?_cons_succ, List.getElem?_cons_zero]; rfl) (by kernel_rfl) (by kernel_rfl) (by kernel_rfl) (by intro _ _ _ h; exact h) (Or.inl ⟨by rfl, ?_⟩) (by assumption) ?_
    rotate_left
    · (intro w hSw; (try dsimp only at hSw); go_simp; try with_reducible rfl)
    try simp only [Act.put, List.setIfInBounds_toArray, List.set_cons_zero, List.set_cons_succ]
    refine wpAnyH_take (i := 2) (v := ?_) (by simp only [List.getElem?_toArray, List.getElem?_cons_succ, List.getElem?_cons_zero]; rfl) (by kernel_rfl) (by kernel_rfl) (by kernel_rfl) (by intro _ _ _ h; exact h) (Or.inl ⟨by rfl, ?_⟩) (by assumption) ?_
    rotate_left
    · (intro w hSw; (try dsimp only at hSw); go_simp; try with_reducible rfl)
    try simp only [Act.put, List.setIfInBounds_toArray, List.set_cons_zero, List.set_cons_succ]
    refine wpAnyH_take (i := 3) (v := ?_) (by simp only [List.getElem?_toArray, List.getElem?_cons_succ, List.getElem?_cons_zero]; rfl) (by kernel_rfl) (by kernel_rfl) (by kernel_rfl) (by intro _ _ _ h; exact h) (Or.inl ⟨by rfl, ?_⟩) (by assumption) ?_
    rotate_left
    · (intro w hSw; (try dsimp only at hSw); go_simp; try with_reducible rfl)
    try simp only [Act.put, List.setIfInBounds_toArray, List.set_cons_zero, List.set_cons_succ]
    refine wpAnyH_take (i := 4) (v := ?_) (by simp only [List.getElem?_toArray, List.getElem?_cons_succ, List.getElem?_cons_zero]; rfl) (by kernel_rfl) (by kernel_rfl) (by kernel_rfl) (by intro _ _ _ h; exact h) (Or.inl ⟨by rfl, ?_⟩) (by assumption) ?_
    rotate_left
    · (intro w hSw; (try dsimp only at hSw); go_simp; try with_reducible rfl)
    try simp only [Act.put, List.setIfInBounds_toArray, List.set_cons_zero, List.set_cons_succ]
    refine wpAnyH_take (i := 5) (v := ?_) (by simp only [List.getElem?_toArray, List.getElem?_cons_succ, List.getElem?_cons_zero]; rfl) (by kernel_rfl) (by kernel_rfl) (by kernel_rfl) (by intro _ _ _ h; exact h) (Or.inl ⟨by rfl, ?_⟩) (by assumption) ?_
    rotate_left
    · (intro w hSw; (try dsimp only at hSw); go_simp; try with_reducible rfl)
    try simp only [Act.put, List.setIfInBounds_toArray, List.set_cons_zero, List.set_cons_succ]
    refine wpAnyH_take (i := 6) (v := ?_) (by simp only [List.getElem?_toArray, List.getElem?_cons_succ, List.getElem?_cons_zero]; rfl) (by kernel_rfl) (by kernel_rfl) (by kernel_rfl) (by intro _ _ _ h; exact h) (Or.inl ⟨by rfl, ?_⟩) (by assumption) ?_
    rotate_left
    · (intro w hSw; (try dsimp only at hSw); go_simp; try with_reducible rfl)
    try simp only [Act.put, List.setIfInBounds_toArray, List.set_cons_zero, List.set_cons_succ]
    refine wpAnyH_take (i := 7) (v := ?_) (by simp only [List.getElem?_toArray, List.getElem?_cons_succ, List.getElem?_cons_zero]; rfl) (by kernel_rfl) (by kernel_rfl) (by kernel_rfl) (by intro _ _ _ h; exact h) (Or.inl ⟨by rfl, ?_⟩) (by assumption) ?_
    rotate_left
    · (intro w hSw; (try dsimp only at hSw); go_simp; try with_reducible rfl)
    try simp only [Act.put, List.setIfInBounds_toArray, List.set_cons_zero, List.set_cons_succ]
    refine wpAnyH_take (i := 8) (v := ?_) (by simp only [List.getElem?_toArray, List.getElem?_cons_succ, List.getElem?_cons_zero]; rfl) (by kernel_rfl) (by kernel_rfl) (by kernel_rfl) (by intro _ _ _ h; exact h) (Or.inl ⟨by rfl, ?_⟩) (by assumption) ?_
    rotate_left
    · (intro w hSw; (try dsimp only at hSw); go_simp; try with_reducible rfl)
    try simp only [Act.put, List.setIfInBounds_toArray, List.set_cons_zero, List.set_cons_succ]
    refine wpAnyH_take (i := 9) (v := ?_) (by simp only [List.getElem?_toArray, List.getElem?_cons_succ, List.getElem?_cons_zero]; rfl) (by kernel_rfl) (by kernel_rfl) (by kernel_rfl) (by intro _ _ _ h; exact h) (Or.inl ⟨by rfl, ?_⟩) (by assumption) ?_
    rotate_left
    · (intro w hSw; (try dsimp only at hSw); go_simp; try with_reducible rfl)
    try simp only [Act.put, List.setIfInBounds_toArray, List.set_cons_zero, List.set_cons_succ]
    refine wpAnyH_take (i := 10) (v := ?_) (by simp only [List.getElem?_toArray, List.getElem?_cons_succ, List.getElem?_cons_zero]; rfl) (by kernel_rfl) (by kernel_rfl) (by kernel_rfl) (by intro _ _ _ h; exact h) (Or.inl ⟨by rfl, ?_⟩) (by assumption) ?_
    rotate_left
    · (intro w hSw; (try dsimp only at hSw); go_simp; try with_reducible rfl)
    try simp only [Act.put, List.setIfInBounds_toArray, List.set_cons_zero, List.set_cons_succ]
    refine wpAnyH_take (i := 11) (v := ?_) (by simp only [List.getElem?_toArray, List.getElem?_cons_succ, List.getElem?_cons_zero]; rfl) (by kernel_rfl) (by kernel_rfl) (by kernel_rfl) (by intro _ _ _ h; exact h) (Or.inl ⟨by rfl, ?_⟩) (by assumption) ?_
    rotate_left
    · (intro w hSw; (try dsimp only at hSw); go_simp; try with_reducible rfl)
    try simp only [Act.put, List.setIfInBounds_toArray, List.set_cons_zero, List.set_cons_succ]
    refine wpAnyH_take (i := 12) (v := ?_) (by simp only [List.getElem?_toArray, List.getElem?_cons_succ, List.getElem?_cons_zero]; rfl) (by kernel_rfl) (by kernel_rfl) (by kernel_rfl) (by intro _ _ _ h; exact h) (Or.inl ⟨by rfl, ?_⟩) (by assumption) ?_
    rotate_left
    · (intro w hSw; (try dsimp only at hSw); go_simp; try with_reducible rfl)
    try simp only [Act.put, List.setIfInBounds_toArray, List.set_cons_zero, List.set_cons_succ]
    refine wpAnyH_take (i := 13) (v := ?_) (by simp only [List.getElem?_toArray, List.getElem?_cons_succ, List.getElem?_cons_zero]; rfl) (by kernel_rfl) (by kernel_rfl) (by kernel_rfl) (by intro _ _ _ h; exact h) (Or.inl ⟨by rfl, ?_⟩) (by assumption) ?_
    rotate_left
    · (intro w hSw; (try dsimp only at hSw); go_simp; try with_reducible rfl)
    try simp only [Act.put, List.setIfInBounds_toArray, List.set_cons_zero, List.set_cons_succ]
    refine wpAnyH_ready (rs := [14]) (by kernel_rfl) (by simp) ?_
    refine AllReadyH.cons (by simp only [List.getElem?_toArray, List.getElem?_cons_succ, List.getElem?_cons_zero]; rfl) (fun K hK => ?_) AllReadyH.nil
    go_simp
    refine (HL.out _).mono ?_
    rintro e w3 ⟨rfl, hb3⟩
    have hXd : X < wy.drew.heap.size := hX2
    have hz3 := (hb3.cell (p := ⟨gm, 0, none⟩) (show gm < wy.drew.heap.size from hml2)).trans hmz
    have hzf := (hb3.frozen (p := ⟨gm, 0, none⟩) (show gm < wy.drew.heap.size from hml2)).trans hmf0
    have hzl := Nat.lt_of_lt_of_le (show gm < wy.drew.heap.size from hml2) hb3.size
    obtain ⟨h0, h1, h2, h3, h4, h5, h6, h7, h8, h9, h10, h11, h12, h13, h14, h15⟩ := hHeld
    have hS3 : w3.cell? ⟨X, 0, none⟩ = some (.int .i64 p.n) ∧ w3.cell? ⟨X, 1, none⟩ = some (.int .i64 0) ∧ w3.cell? ⟨X, 2, none⟩ = some (.int .i64 p.k) ∧ w3.cell? ⟨X, 3, none⟩ = some (.int .u64 (p.tm : Int)) ∧ w3.cell? ⟨X, 4, none⟩ = some (.int .i64 p.vt) ∧ w3.cell? ⟨X, 5, none⟩ = some (.int .u64 (p.bs : Int)) ∧ w3.cell? ⟨X, 6, none⟩ = some (.int .u64 (p.bt : Int)) ∧ w3.cell? ⟨X, 7, none⟩ = some (.slice od 0 cd) ∧ w3.cell? ⟨X, 8, none⟩ = some (.slice ol' J cl') ∧ w3.cell? ⟨X, 9, none⟩ = some (.int .u64 (p.cm : Int)) ∧ w3.cell? ⟨X, 10, none⟩ = some (.int .u8 (p.rl : Int)) ∧ w3.cell? ⟨X, 11, none⟩ = some (.int .i64 p.ld) ∧ w3.cell? ⟨X, 12, none⟩ = some (.int .i64 p.lf) ∧ w3.cell? ⟨X, 13, none⟩ = some (.slice ov vs.length cv) ∧ w3.cell? ⟨X, 14, none⟩ = some (.slice on ns.length cn) ∧ w3.cell? ⟨X, 15, none⟩ = some (.slice (some ⟨gm, 0, none⟩) 1 cm) := ⟨(hb3.cell (p := ⟨X, 0, none⟩) hXd).trans h0, (hb3.cell (p := ⟨X, 1, none⟩) hXd).trans h1, (hb3.cell (p := ⟨X, 2, none⟩) hXd).trans h2, (hb3.cell (p := ⟨X, 3, none⟩) hXd).trans h3, (hb3.cell (p := ⟨X, 4, none⟩) hXd).trans h4, (hb3.cell (p := ⟨X, 5, none⟩) hXd).trans h5, (hb3.cell (p := ⟨X, 6, none⟩) hXd).trans h6, (hb3.cell (p := ⟨X, 7, none⟩) hXd).trans h7, (hb3.cell (p := ⟨X, 8, none⟩) hXd).trans h8, (hb3.cell (p := ⟨X, 9, none⟩) hXd).trans h9, (hb3.cell (p := ⟨X, 10, none⟩) hXd).trans h10, (hb3.cell (p := ⟨X, 11, none⟩) hXd).trans h11, (hb3.cell (p := ⟨X, 12, none⟩) hXd).trans h12, (hb3.cell (p := ⟨X, 13, none⟩) hXd).trans h13, (hb3.cell (p := ⟨X, 14, none⟩) hXd).trans h14, (hb3.cell (p := ⟨X, 15, none⟩) hXd).trans h15⟩
    have HB3 := Lib.hid (show Below wy.heap.size wy w3 from (Below.refl _ wy).drew.trans hb3)
    clear x0 x2 x3 x4 x5 x6 x7 x8 x9 x10 x11 x12 x13 x14 x15 hb3 HL xs
    dsimp only
    refine hK.out _ _ hS3 (fun hHeld => ?_)
    clear hK K
    try simp only [Act.put, List.setIfInBounds_toArray, List.set_cons_zero, List.set_cons_succ]
    obtain ⟨h0, h1, h2, h3, h4, h5, h6, h7, h8, h9, h10, h11, h12, h13, h14, h15⟩ := hS3
    have h0i : (0 : Int) < 1 := by decide
    refine wpAnyH_take (i := 15) (v := ?_) (by simp only [List.getElem?_toArray, List.getElem?_cons_succ, List.getElem?_cons_zero]; rfl) (by kernel_rfl) (by kernel_rfl) (by kernel_rfl) (by intro _ _ _ h; exact h) (Or.inl ⟨by rfl, ?_⟩) (by assumption) ?_
    rotate_left
    · (intro w hSw; (try dsimp only at hSw); go_simp; try with_reducible rfl)
    try simp only [Act.put, List.setIfInBounds_toArray, List.set_cons_zero, List.set_cons_succ]
    have hgX : gm ≠ X := fun e => own_ne HO2.out.hm HN.out (by decide) (by simp [Value.ownBlock, e])
    refine wpAnyH_ready (rs := [16]) (by kernel_rfl) (by simp) ?_
    refine AllReadyH.cons (by simp only [List.getElem?_toArray, List.getElem?_cons_succ, List.getElem?_cons_zero]; rfl) (fun K hK => ?_) AllReadyH.nil
    go_simp
    refine hK.out _ _ ⟨(World.cell?_setCell_far w3 ⟨gm, 0, none⟩ _ _ hgX).trans h0, (World.cell?_setCell_far w3 ⟨gm, 0, none⟩ _ _ hgX).trans h1, (World.cell?_setCell_far w3 ⟨gm, 0, none⟩ _ _ hgX).trans h2, (World.cell?_setCell_far w3 ⟨gm, 0, none⟩ _ _ hgX).trans h3, (World.cell?_setCell_far w3 ⟨gm, 0, none⟩ _ _ hgX).trans h4, (World.cell?_setCell_far w3 ⟨gm, 0, none⟩ _ _ hgX).trans h5, (World.cell?_setCell_far w3 ⟨gm, 0, none⟩ _ _ hgX).trans h6, (World.cell?_setCell_far w3 ⟨gm, 0, none⟩ _ _ hgX).trans h7, (World.cell?_setCell_far w3 ⟨gm, 0, none⟩ _ _ hgX).trans h8, (World.cell?_setCell_far w3 ⟨gm, 0, none⟩ _ _ hgX).trans h9, (World.cell?_setCell_far w3 ⟨gm, 0, none⟩ _ _ hgX).trans h10, (World.cell?_setCell_far w3 ⟨gm, 0, none⟩ _ _ hgX).trans h11, (World.cell?_setCell_far w3 ⟨gm, 0, none⟩ _ _ hgX).trans h12, (World.cell?_setCell_far w3 ⟨gm, 0, none⟩ _ _ hgX).trans h13, (World.cell?_setCell_far w3 ⟨gm, 0, none⟩ _ _ hgX).trans h14, (World.cell?_setCell_far w3 ⟨gm, 0, none⟩ _ _ hgX).trans h15⟩ (fun hHeld => ?_)
    clear hK K
    try simp only [Act.put, List.setIfInBounds_toArray, List.set_cons_zero, List.set_cons_succ]
    refine wpAnyH_done (by kernel_rfl) ?_ _
    have hn5 : NdAt (w3.setCell ⟨gm, 0, none⟩ (.int .u64 (J : Int))) X p (.slice od 0 cd) (.slice ol' J cl') (.slice ov vs.length cv) (.slice on ns.length cn) (.slice (some ⟨gm, 0, none⟩) 1 cm) o := (HN.out.below HB3.out).kept (S := fun k => k = gm) keptX (fun e => hgX e.symm)
    have ho3 := HO2.out.below HB3.out
    have hmr : (w3.setCell ⟨gm, 0, none⟩ (.int .u64 (J : Int))).ownsRow base 32 1 (.slice (some ⟨gm, 0, none⟩) 1 cm) 1 [Wd J] := own_set (k := 0) (u := Wd J) ho3.hm
    have ho5 : StO (w3.setCell ⟨gm, 0, none⟩ (.int .u64 (J : Int))) base [] (ps ++ [(⟨p.tm, sn, nm, cl⟩, y)]) vs ns [Wd J] (.slice od 0 cd) (.slice ol' J cl') (.slice ov vs.length cv) (.slice on ns.length cn) (.slice (some ⟨gm, 0, none⟩) 1 cm) :=
      ⟨own_kept ho3.hd (S := fun k => k = gm) keptX (fun g hg e => own_ne2 ho3.hd ho3.hm (by decide) g hg (by rw [e]; rfl)),
       ho3.hl.kept (S := fun k => k = gm) keptX (fun g hg e => own_ne2 ho3.hl.row ho3.hm (by decide) g hg (by rw [e]; rfl)) (fun q hq g hg e => own_ne2 (ho3.hl.cells q hq) ho3.hm (by decide) g hg (by rw [e]; rfl)),
       own_kept ho3.hv (S := fun k => k = gm) keptX (fun g hg e => own_ne2 ho3.hv ho3.hm (by decide) g hg (by rw [e]; rfl)),
       own_kept ho3.hn (S := fun k => k = gm) keptX (fun g hg e => ho3.nm g hg (by rw [e]; rfl)), hmr, ho3.nm⟩
    have hk5 : Kept (fun k => k = X ∨ (Value.slice ol ps.length cll).ownBlock = some k ∨ (Value.slice (some ⟨gm, 0, none⟩) 1 cm).ownBlock = some k) w (w3.setCell ⟨gm, 0, none⟩ (.int .u64 (J : Int))) :=
      ((HK2.out.weak (fun k _ hk => by rcases hk with hk | hk; exact .inl hk; exact .inr (.inl hk))).trans (kept_of_below HB3.out)).trans ((keptX (X := gm)).weak (fun k _ hk => .inr (.inr (by rw [hk]; rfl))))
    have hmc5 : (w3.setCell ⟨gm, 0, none⟩ (.int .u64 (J : Int))).cell? ⟨gm, 0, none⟩ = some (.int .u64 (J : Int)) := World.cell?_setCell_same _ _ _ hz3
    clear hHeld h0 h1 h2 h3 h4 h5 h6 h7 h8 h9 h10 h11 h12 h13 h14 h15 hz3 hzf hzl ho3 hmr HN HO2 HK2 HB3 hmz hmf0 hml2 hX2
    generalize w3.setCell ⟨gm, 0, none⟩ (.int .u64 (J : Int)) = w5 at *
    have hj := HJ.out
    rw [hj] at hmc5 hn5 ho5
    have HCM := Lib.hid (commit_one X base gm cm ps.length p _ (⟨p.tm, sn, nm, cl⟩, y) (.slice od 0 cd) (.slice ol' (ps.length + 1) cl') (.slice ov vs.length cv) (.slice on ns.length cn) o w5 hn5 HE.out.1 HE.out.2.2 ⟨_, _, rfl⟩ hmc5 ho5.hl (by simp) (by simp; omega) rfl hc)
    have HO5 := Lib.hid ho5
    have HND := Lib.hid hn5
    have HK5 := Lib.hid hk5
    clear hmc5 hn5 ho5 hk5 hj
    go_wp2_with fail
    refine HCM.out.mono ?_
    rintro e w6 ⟨rfl, hn6, hk6⟩
    have ho6 := HO5.out.nodeK HND.out hk6
    have HFIN := Lib.hid (show AddP X base p ps vs ns (.slice od 0 cd) (.slice ol ps.length cll) (.slice ov vs.length cv) (.slice on ns.length cn) (.slice (some ⟨gm, 0, none⟩) 1 cm) o ⟨p.tm, sn, nm, cl⟩ w (.returned (.tuple #[])) w6 from ⟨rfl, ol', cl', y, hn6, ho6, HK5.out.trans (hk6.weak fun k _ hk => .inl hk)⟩)
    have HUP := Lib.hid (updateOthers_one X _ _ _ _ _ _ _ w6 hn6 HE.out.1 HE.out.2.1)
    clear hn6 hk6 ho6 HCM HO5 HK5
    go_wp2_with fail
    refine HUP.out.mono ?_
    rintro e w7 ⟨rfl, rfl⟩
    go_wp2_with fail
    go_end0
    exact HFIN.out
end Go.Proofs.Ytjbailnnaigjbaa
