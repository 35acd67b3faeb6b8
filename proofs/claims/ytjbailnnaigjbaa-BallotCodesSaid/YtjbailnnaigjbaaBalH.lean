/- One node of one: it leads. -/
import Derived.Test.YtjbailnnaigjbaaBalG
namespace Go.Proofs.Ytjbailnnaigjbaa
open Go.RowKit OctM

/-- What win leaves. -/
def WinP (X base : Nat) (p : Sc) (d l v n m o : Value) (w : World) (e : Ending) (w' : World) : Prop :=
  e = .returned (.tuple #[]) ∧ ∃ ol' cl' y, NdAt w' X { p with rl := 2, ld := 0, cm := 1 } d (.slice ol' 1 cl') v n m o ∧ StO w' base [] [(⟨p.tm, 0, 0, []⟩, y)] [.bool true] [Wd 1] [Wd 1] d (.slice ol' 1 cl') v n m ∧ Kept (fun k => k = X ∨ l.ownBlock = some k ∨ n.ownBlock = some k ∨ m.ownBlock = some k) w w'

set_option maxHeartbeats 8000000 in
set_option maxRecDepth 100000 in
theorem win_one (X base : Nat) (p : Sc) (zn zm : Value) (d l v n m o : Value) (w : World) (h : NdAt w X p d l v n m o) (hO : StO w base [] [] [.bool true] [zn] [zm] d l v n m) (h1 : p.n = 1) (h2 : p.s = 0) (h3 : p.bs = 0) (h4 : p.rl = 1) (h5 : p.cm = 0) (hbase : base ≤ w.heap.size) :
    Calls Try.prog 65 #[.pointer (some ⟨X, 0, none⟩)] w (WinP X base p d l v n m o w) := by
  obtain ⟨ol, cll, rfl⟩ := own_slice' hO.hl.row
  obtain ⟨od, cd, rfl⟩ := own_slice' hO.hd
  obtain ⟨gv, cv, rfl, hvb, hvl, hvf, hvc⟩ := own_at hO.hv (by simp)
  obtain ⟨gn, cn, rfl, hnb, hnl, hnf, hnc⟩ := own_at hO.hn (by simp)
  obtain ⟨gm, cm, rfl, hmb, hml, hmf, hmc⟩ := own_at hO.hm (by simp)
  have v0 := hvc 0 _ rfl
  have n0 := hnc 0 _ rfl
  have m0 := hmc 0 _ rfl
  have hX := lt_of_block h
  have c0 : w.cell? ⟨X, 0, none⟩ = some (.int .i64 1) := by rw [← h1]; exact cellk h rfl
  have c1 : w.cell? ⟨X, 1, none⟩ = some (.int .i64 0) := by rw [← h2]; exact cellk h rfl
  have c10 : w.cell? ⟨X, 10, none⟩ = some (.int .u8 1) := by rw [show (1 : Int) = ((1 : Nat) : Int) from rfl, ← h4]; exact cellk h rfl
  have c11 : w.cell? ⟨X, 11, none⟩ = some (.int .i64 p.ld) := cellk h rfl
  have c13 : w.cell? ⟨X, 13, none⟩ = some (.slice (some ⟨gv, 0, none⟩) 1 cv) := cellk h rfl
  have f10 := h.fz 10
  have f11 := h.fz 11
  have H := Lib.hid h
  have HO := Lib.hid hO
  have HE := Lib.hid (And.intro h1 (And.intro h2 (And.intro h3 h5)))
  clear h hO h1 h2 h3 h4 h5 hvc hnc hmc hvf hnf hmf
  go_enter Try.func65, Try.ntmps65
  go_wp2_with fail
  go_loop [2, 12] (fun n i => (n = .int .i64 0 ∧ i = .int .i64 0) ∨ (n = .int .i64 1 ∧ i = .int .i64 1)) (fun _ i => 2 - (intOf i).toNat)
  case atStart => exact .inl ⟨rfl, rfl⟩
  case round =>
    rcases hrel with ⟨rfl, rfl⟩ | ⟨rfl, rfl⟩
    · go_wp2_with fail
      go_round
      case rel => exact .inr ⟨rfl, rfl⟩
      case measure => decide
    · clear v0
      go_wp2_with fail
      have hn1 := H.out.set 10 (.int .u8 2)
      have ho1 := HO.out.nodeK H.out (keptX (i := 10) (u := .int .u8 2))
      have hn2 : NdAt ((w.setCell ⟨X, 10, none⟩ (.int .u8 2)).setCell ⟨X, 11, none⟩ (.int .i64 0)) X { p with rl := 2, ld := 0 } (.slice od 0 cd) (.slice ol 0 cll) (.slice (some ⟨gv, 0, none⟩) 1 cv) (.slice (some ⟨gn, 0, none⟩) 1 cn) (.slice (some ⟨gm, 0, none⟩) 1 cm) o := NdAt.set (p := { p with rl := 2 }) hn1 11 (.int .i64 0)
      have ho2 := ho1.nodeK hn1 (keptX (i := 11) (u := .int .i64 0))
      have hk2 : Kept (fun g => g = X) w ((w.setCell ⟨X, 10, none⟩ (.int .u8 2)).setCell ⟨X, 11, none⟩ (.int .i64 0)) := keptX.trans keptX
      clear hn1 ho1 c0 c1 c10 c11 c13 f10 f11 n0 m0
      generalize (w.setCell ⟨X, 10, none⟩ (.int .u8 2)).setCell ⟨X, 11, none⟩ (.int .i64 0) = W at *
      have HW := Lib.hid (And.intro hn2 (And.intro ho2 hk2))
      clear hn2 ho2 hk2 H HO
      go_loopw [54] (fun i wr => (i = .int .i64 0 ∧ wr = W) ∨ (i = .int .i64 1 ∧ Hid (NdAt wr X { p with rl := 2, ld := 0 } (.slice od 0 cd) (.slice ol 0 cll) (.slice (some ⟨gv, 0, none⟩) 1 cv) (.slice (some ⟨gn, 0, none⟩) 1 cn) (.slice (some ⟨gm, 0, none⟩) 1 cm) o ∧ StO wr base [] [] [.bool true] [Wd 1] [Wd 0] (.slice od 0 cd) (.slice ol 0 cll) (.slice (some ⟨gv, 0, none⟩) 1 cv) (.slice (some ⟨gn, 0, none⟩) 1 cn) (.slice (some ⟨gm, 0, none⟩) 1 cm) ∧ Kept (fun k => k = X ∨ k = gn ∨ k = gm) w wr))) (fun i _ => 2 - (intOf i).toNat)
      case atStart => exact .inl ⟨rfl, rfl⟩
      case round =>
        rcases hrel with ⟨rfl, rfl⟩ | ⟨rfl, HR⟩
        · obtain ⟨hN, hO, hK⟩ := HW.out
          have hL := fun W => last_one { p with n := 1, s := 0, rl := 2, ld := 0 } (.slice od 0 cd) (.slice (some ⟨gv, 0, none⟩) 1 cv) (.slice (some ⟨gn, 0, none⟩) 1 cn) (.slice (some ⟨gm, 0, none⟩) 1 cm) ol 0 cll W HE.out.2.2.1 ⟨_, _, rfl⟩ (by omega)
          unfold stV stC at hL
          have HL := Lib.hid hL
          obtain ⟨gn', cn', e1, -, hnl2, hnf2, hnc2⟩ := own_at hO.hn (by simp)
          obtain ⟨gm', cm', e2, -, hml2, hmf2, hmc2⟩ := own_at hO.hm (by simp)
          injection e1 with e1 e1a e1b
          injection e1 with e1
          injection e1 with e1 e1c e1d
          injection e2 with e2 e2a e2b
          injection e2 with e2
          injection e2 with e2 e2c e2d
          subst e1 e2
          clear e1a e1b e1c e1d e2a e2b e2c e2d
          have n0 := hnc2 0 _ rfl
          have m0 := hmc2 0 _ rfl
          have nf0 := hnf2 0
          have mf0 := hmf2 0
          have hXW := lt_of_block hN
          have gnX : gn ≠ X := fun e => own_ne hO.hn hN (by decide) (by simp [Value.ownBlock, e])
          have gmX : gm ≠ X := fun e => own_ne hO.hm hN (by decide) (by simp [Value.ownBlock, e])
          have gnm : gn ≠ gm := fun e => hO.nm gn rfl (by simp [Value.ownBlock, e])
          have x0 : wr.cell? ⟨X, 0, none⟩ = some (.int .i64 1) := by rw [← HE.out.1]; exact cellk hN rfl
          have x1 : wr.cell? ⟨X, 1, none⟩ = some (.int .i64 0) := by rw [← HE.out.2.1]; exact cellk hN rfl
          have x2 : wr.cell? ⟨X, 2, none⟩ = some (.int .i64 p.k) := cellk hN rfl
          have x3 : wr.cell? ⟨X, 3, none⟩ = some (.int .u64 (p.tm : Int)) := cellk hN rfl
          have x4 : wr.cell? ⟨X, 4, none⟩ = some (.int .i64 p.vt) := cellk hN rfl
          have x5 : wr.cell? ⟨X, 5, none⟩ = some (.int .u64 (p.bs : Int)) := cellk hN rfl
          have x6 : wr.cell? ⟨X, 6, none⟩ = some (.int .u64 (p.bt : Int)) := cellk hN rfl
          have x7 : wr.cell? ⟨X, 7, none⟩ = some (.slice od 0 cd) := cellk hN rfl
          have x8 : wr.cell? ⟨X, 8, none⟩ = some (.slice ol 0 cll) := cellk hN rfl
          have x9 : wr.cell? ⟨X, 9, none⟩ = some (.int .u64 (p.cm : Int)) := cellk hN rfl
          have x10 : wr.cell? ⟨X, 10, none⟩ = some (.int .u8 2) := cellk hN rfl
          have x11 : wr.cell? ⟨X, 11, none⟩ = some (.int .i64 0) := cellk hN rfl
          have x12 : wr.cell? ⟨X, 12, none⟩ = some (.int .i64 p.lf) := cellk hN rfl
          have x13 : wr.cell? ⟨X, 13, none⟩ = some (.slice (some ⟨gv, 0, none⟩) 1 cv) := cellk hN rfl
          have x14 : wr.cell? ⟨X, 14, none⟩ = some (.slice (some ⟨gn, 0, none⟩) 1 cn) := cellk hN rfl
          have x15 : wr.cell? ⟨X, 15, none⟩ = some (.slice (some ⟨gm, 0, none⟩) 1 cm) := cellk hN rfl
          have HNO := Lib.hid (And.intro hN (And.intro hO hK))
          clear hN hO hK hL hnf2 hnc2 hmf2 hmc2 HW
          go_wp2_with fail
          refine wp_region_held_drew (S := fun w' => w'.cell? ⟨X, 0, none⟩ = some (.int .i64 1) ∧ w'.cell? ⟨X, 1, none⟩ = some (.int .i64 0) ∧ w'.cell? ⟨X, 2, none⟩ = some (.int .i64 p.k) ∧ w'.cell? ⟨X, 3, none⟩ = some (.int .u64 (p.tm : Int)) ∧ w'.cell? ⟨X, 4, none⟩ = some (.int .i64 p.vt) ∧ w'.cell? ⟨X, 5, none⟩ = some (.int .u64 (p.bs : Int)) ∧ w'.cell? ⟨X, 6, none⟩ = some (.int .u64 (p.bt : Int)) ∧ w'.cell? ⟨X, 7, none⟩ = some (.slice od 0 cd) ∧ w'.cell? ⟨X, 8, none⟩ = some (.slice ol 0 cll) ∧ w'.cell? ⟨X, 9, none⟩ = some (.int .u64 (p.cm : Int)) ∧ w'.cell? ⟨X, 10, none⟩ = some (.int .u8 2) ∧ w'.cell? ⟨X, 11, none⟩ = some (.int .i64 0) ∧ w'.cell? ⟨X, 12, none⟩ = some (.int .i64 p.lf) ∧ w'.cell? ⟨X, 13, none⟩ = some (.slice (some ⟨gv, 0, none⟩) 1 cv) ∧ w'.cell? ⟨X, 14, none⟩ = some (.slice (some ⟨gn, 0, none⟩) 1 cn) ∧ w'.cell? ⟨X, 15, none⟩ = some (.slice (some ⟨gm, 0, none⟩) 1 cm)) (by kernel_rfl) ⟨x0, x1, x2, x3, x4, x5, x6, x7, x8, x9, x10, x11, x12, x13, x14, x15⟩ ?_
          intro hHeld
          refine wpAnyH_take (i := 0) (v := ?_) (by simp only [List.getElem?_toArray, List.getElem?_cons_zero]; rfl) (by kernel_rfl) (by kernel_rfl) (by kernel_rfl) (by intro _ _ _ h; exact h) (Or.inl ⟨by rfl, ?_⟩) (by assumption) ?_
          rotate_left
          · (intro w hSw; (try dsimp only at hSw); go_simp; try with_reducible rfl)
          try simp only [Act.put, List.setIfInBounds_toArray, List.set_cons_zero, List.set_cons_succ]
          refine wpAnyH_take (i := 1) (v := ?_) (by simp only [List.getElem?_toArray, List.getElem?_cons_succ, List.getElem?_cons_zero]; rfl) (by kernel_rfl) (by kernel_rfl) (by kernel_rfl) (by intro _ _ _ h; exact h) (Or.inl ⟨by rfl, ?_⟩) (by assumption) ?_
          rotate_left
          · (intro w hSw; (try dsimp only at hSw); go_simp; try with_reducible rfl)
          try simp only [Act.put, List.setIfInBounds_toArray, List.set_cons_zero, List.set_cons_succ]
          refine wpAnyH_take (i := 2) (v := ?_) (by simp only [List.getElem?_toArray, List.getElem?_cons_succ, List.getElem?_cons_zero]; rfl) (by kernel_rfl) (by kernel_rfl) (by kernel_rfl) (by intro _ _ _ h; exact h) (Or.inl ⟨by rfl, ?_⟩) (by assumption) ?_
          rotate_left
          · (intro w hSw; (try dsimp only at hSw); go_simp; try with_reducible rfl)
          try simp only [Act.put, List.setIfInBounds_toArray, List.set_cons_zero, List.set_cons_succ]
          refine wpAnyH_take (i := 3) (v := ?_) (by simp only [List.getElem?_toArray, List.getElem?_cons_succ, List.getElem?_cons_zero]; rfl) (by kernel_rfl) (by kernel_rfl) (by kernel_rfl) (by intro _ _ _ h; exact h) (Or.inl ⟨by rfl, ?_⟩) (by assumption) ?_
          rotate_left
          · (intro w hSw; (try dsimp only at hSw); go_simp; try with_reducible rfl)
          try simp only [Act.put, List.setIfInBounds_toArray, List.set_cons_zero, List.set_cons_succ]
          refine wpAnyH_take (i := 4) (v := ?_) (by simp only [List.getElem?_toArray, List.getElem?_cons_succ, List.getElem?_cons_zero]; rfl) (by kernel_rfl) (by kernel_rfl) (by kernel_rfl) (by intro _ _ _ h; exact h) (Or.inl ⟨by rfl, ?_⟩) (by assumption) ?_
          rotate_left
          · (intro w hSw; (try dsimp only at hSw); go_simp; try with_reducible rfl)
          try simp only [Act.put, List.setIfInBounds_toArray, List.set_cons_zero, List.set_cons_succ]
          refine wpAnyH_take (i := 5) (v := ?_) (by simp only [List.getElem?_toArray, List.getElem?_cons_succ, List.getElem?_cons_zero]; rfl) (by kernel_rfl) (by kernel_rfl) (by kernel_rfl) (by intro _ _ _ h; exact h) (Or.inl ⟨by rfl, ?_⟩) (by assumption) ?_
          rotate_left
          · (intro w hSw; (try dsimp only at hSw); go_simp; try with_reducible rfl)
          try simp only [Act.put, List.setIfInBounds_toArray, List.set_cons_zero, List.set_cons_succ]
          refine wpAnyH_take (i := 6) (v := ?_) (by simp only [List.getElem?_toArray, List.getElem?_cons_succ, List.getElem?_cons_zero]; rfl) (by kernel_rfl) (by kernel_rfl) (by kernel_rfl) (by intro _ _ _ h; exact h) (Or.inl ⟨by rfl, ?_⟩) (by assumption) ?_
          rotate_left
          · (intro w hSw; (try dsimp only at hSw); go_simp; try with_reducible rfl)
          try simp only [Act.put, List.setIfInBounds_toArray, List.set_cons_zero, List.set_cons_succ]
          refine wpAnyH_take (i := 7) (v := ?_) (by simp only [List.getElem?_toArray, List.getElem?_cons_succ, List.getElem?_cons_zero]; rfl) (by kernel_rfl) (by kernel_rfl) (by kernel_rfl) (by intro _ _ _ h; exact h) (Or.inl ⟨by rfl, ?_⟩) (by assumption) ?_
          rotate_left
          · (intro w hSw; (try dsimp only at hSw); go_simp; try with_reducible rfl)
          try simp only [Act.put, List.setIfInBounds_toArray, List.set_cons_zero, List.set_cons_succ]
          refine wpAnyH_take (i := 8) (v := ?_) (by simp only [List.getElem?_toArray, List.getElem?_cons_succ, List.getElem?_cons_zero]; rfl) (by kernel_rfl) (by kernel_rfl) (by kernel_rfl) (by intro _ _ _ h; exact h) (Or.inl ⟨by rfl, ?_⟩) (by assumption) ?_
          rotate_left
          · (intro w hSw; (try dsimp only at hSw); go_simp; try with_reducible rfl)
          try simp only [Act.put, List.setIfInBounds_toArray, List.set_cons_zero, List.set_cons_succ]
          refine wpAnyH_take (i := 9) (v := ?_) (by simp only [List.getElem?_toArray, List.getElem?_cons_succ, List.getElem?_cons_zero]; rfl) (by kernel_rfl) (by kernel_rfl) (by kernel_rfl) (by intro _ _ _ h; exact h) (Or.inl ⟨by rfl, ?_⟩) (by assumption) ?_
          rotate_left
          · (intro w hSw; (try dsimp only at hSw); go_simp; try with_reducible rfl)
          try simp only [Act.put, List.setIfInBounds_toArray, List.set_cons_zero, List.set_cons_succ]
          refine wpAnyH_take (i := 10) (v := ?_) (by simp only [List.getElem?_toArray, List.getElem?_cons_succ, List.getElem?_cons_zero]; rfl) (by kernel_rfl) (by kernel_rfl) (by kernel_rfl) (by intro _ _ _ h; exact h) (Or.inl ⟨by rfl, ?_⟩) (by assumption) ?_
          rotate_left
          · (intro w hSw; (try dsimp only at hSw); go_simp; try with_reducible rfl)
          try simp only [Act.put, List.setIfInBounds_toArray, List.set_cons_zero, List.set_cons_succ]
          refine wpAnyH_take (i := 11) (v := ?_) (by simp only [List.getElem?_toArray, List.getElem?_cons_succ, List.getElem?_cons_zero]; rfl) (by kernel_rfl) (by kernel_rfl) (by kernel_rfl) (by intro _ _ _ h; exact h) (Or.inl ⟨by rfl, ?_⟩) (by assumption) ?_
          rotate_left
          · (intro w hSw; (try dsimp only at hSw); go_simp; try with_reducible rfl)
          try simp only [Act.put, List.setIfInBounds_toArray, List.set_cons_zero, List.set_cons_succ]
          refine wpAnyH_take (i := 12) (v := ?_) (by simp only [List.getElem?_toArray, List.getElem?_cons_succ, List.getElem?_cons_zero]; rfl) (by kernel_rfl) (by kernel_rfl) (by kernel_rfl) (by intro _ _ _ h; exact h) (Or.inl ⟨by rfl, ?_⟩) (by assumption) ?_
          rotate_left
          · (intro w hSw; (try dsimp only at hSw); go_simp; try with_reducible rfl)
          try simp only [Act.put, List.setIfInBounds_toArray, List.set_cons_zero, List.set_cons_succ]
          refine wpAnyH_take (i := 13) (v := ?_) (by simp only [List.getElem?_toArray, List.getElem?_cons_succ, List.getElem?_cons_zero]; rfl) (by kernel_rfl) (by kernel_rfl) (by kernel_rfl) (by intro _ _ _ h; exact h) (Or.inl ⟨by rfl, ?_⟩) (by assumption) ?_
          rotate_left
          · (intro w hSw; (try dsimp only at hSw); go_simp; try with_reducible rfl)
          try simp only [Act.put, List.setIfInBounds_toArray, List.set_cons_zero, List.set_cons_succ]
          refine wpAnyH_take (i := 14) (v := ?_) (by simp only [List.getElem?_toArray, List.getElem?_cons_succ, List.getElem?_cons_zero]; rfl) (by kernel_rfl) (by kernel_rfl) (by kernel_rfl) (by intro _ _ _ h; exact h) (Or.inl ⟨by rfl, ?_⟩) (by assumption) ?_
          rotate_left
          · (intro w hSw; (try dsimp only at hSw); go_simp; try with_reducible rfl)
          try simp only [Act.put, List.setIfInBounds_toArray, List.set_cons_zero, List.set_cons_succ]
          refine wpAnyH_take (i := 15) (v := ?_) (by simp only [List.getElem?_toArray, List.getElem?_cons_succ, List.getElem?_cons_zero]; rfl) (by kernel_rfl) (by kernel_rfl) (by kernel_rfl) (by intro _ _ _ h; exact h) (Or.inl ⟨by rfl, ?_⟩) (by assumption) ?_
          rotate_left
          · (intro w hSw; (try dsimp only at hSw); go_simp; try with_reducible rfl)
          try simp only [Act.put, List.setIfInBounds_toArray, List.set_cons_zero, List.set_cons_succ]
          refine wpAnyH_ready (rs := [16]) (by kernel_rfl) (by simp) ?_
          refine AllReadyH.cons (by simp only [List.getElem?_toArray, List.getElem?_cons_succ, List.getElem?_cons_zero]; rfl) (fun K hK => ?_) AllReadyH.nil
          go_simp
          refine (HL.out _).mono ?_
          rintro e w3 ⟨rfl, hb3⟩
          have hXd : X < wr.drew.heap.size := hXW
          have y0 := (hb3.cell (p := ⟨gn, 0, none⟩) (show gn < wr.drew.heap.size from hnl2)).trans n0
          have yf := (hb3.frozen (p := ⟨gn, 0, none⟩) (show gn < wr.drew.heap.size from hnl2)).trans nf0
          have yl := Nat.lt_of_lt_of_le (show gn < wr.drew.heap.size from hnl2) hb3.size
          have z0 := (hb3.cell (p := ⟨gm, 0, none⟩) (show gm < wr.drew.heap.size from hml2)).trans m0
          have zf := (hb3.frozen (p := ⟨gm, 0, none⟩) (show gm < wr.drew.heap.size from hml2)).trans mf0
          have zl := Nat.lt_of_lt_of_le (show gm < wr.drew.heap.size from hml2) hb3.size
          obtain ⟨h0, h1, h2, h3, h4, h5, h6, h7, h8, h9, h10, h11, h12, h13, h14, h15⟩ := hHeld
          have hS3 : w3.cell? ⟨X, 0, none⟩ = some (.int .i64 1) ∧ w3.cell? ⟨X, 1, none⟩ = some (.int .i64 0) ∧ w3.cell? ⟨X, 2, none⟩ = some (.int .i64 p.k) ∧ w3.cell? ⟨X, 3, none⟩ = some (.int .u64 (p.tm : Int)) ∧ w3.cell? ⟨X, 4, none⟩ = some (.int .i64 p.vt) ∧ w3.cell? ⟨X, 5, none⟩ = some (.int .u64 (p.bs : Int)) ∧ w3.cell? ⟨X, 6, none⟩ = some (.int .u64 (p.bt : Int)) ∧ w3.cell? ⟨X, 7, none⟩ = some (.slice od 0 cd) ∧ w3.cell? ⟨X, 8, none⟩ = some (.slice ol 0 cll) ∧ w3.cell? ⟨X, 9, none⟩ = some (.int .u64 (p.cm : Int)) ∧ w3.cell? ⟨X, 10, none⟩ = some (.int .u8 2) ∧ w3.cell? ⟨X, 11, none⟩ = some (.int .i64 0) ∧ w3.cell? ⟨X, 12, none⟩ = some (.int .i64 p.lf) ∧ w3.cell? ⟨X, 13, none⟩ = some (.slice (some ⟨gv, 0, none⟩) 1 cv) ∧ w3.cell? ⟨X, 14, none⟩ = some (.slice (some ⟨gn, 0, none⟩) 1 cn) ∧ w3.cell? ⟨X, 15, none⟩ = some (.slice (some ⟨gm, 0, none⟩) 1 cm) := ⟨(hb3.cell (p := ⟨X, 0, none⟩) hXd).trans h0, (hb3.cell (p := ⟨X, 1, none⟩) hXd).trans h1, (hb3.cell (p := ⟨X, 2, none⟩) hXd).trans h2, (hb3.cell (p := ⟨X, 3, none⟩) hXd).trans h3, (hb3.cell (p := ⟨X, 4, none⟩) hXd).trans h4, (hb3.cell (p := ⟨X, 5, none⟩) hXd).trans h5, (hb3.cell (p := ⟨X, 6, none⟩) hXd).trans h6, (hb3.cell (p := ⟨X, 7, none⟩) hXd).trans h7, (hb3.cell (p := ⟨X, 8, none⟩) hXd).trans h8, (hb3.cell (p := ⟨X, 9, none⟩) hXd).trans h9, (hb3.cell (p := ⟨X, 10, none⟩) hXd).trans h10, (hb3.cell (p := ⟨X, 11, none⟩) hXd).trans h11, (hb3.cell (p := ⟨X, 12, none⟩) hXd).trans h12, (hb3.cell (p := ⟨X, 13, none⟩) hXd).trans h13, (hb3.cell (p := ⟨X, 14, none⟩) hXd).trans h14, (hb3.cell (p := ⟨X, 15, none⟩) hXd).trans h15⟩
          have HB3 := Lib.hid (show Below wr.heap.size wr w3 from (Below.refl _ wr).drew.trans hb3)
          clear x0 x1 x2 x3 x4 x5 x6 x7 x8 x9 x10 x11 x12 x13 x14 x15 hb3 HL
          dsimp only
          refine hK.out _ _ hS3 (fun hHeld => ?_)
          clear hK K
          try simp only [Act.put, List.setIfInBounds_toArray, List.set_cons_zero, List.set_cons_succ]
          obtain ⟨h0, h1, h2, h3, h4, h5, h6, h7, h8, h9, h10, h11, h12, h13, h14, h15⟩ := hS3
          have h0i : (0 : Int) < 1 := by decide
          refine wpAnyH_take (i := 17) (v := ?_) (by simp only [List.getElem?_toArray, List.getElem?_cons_succ, List.getElem?_cons_zero]; rfl) (by kernel_rfl) (by kernel_rfl) (by kernel_rfl) (by intro _ _ _ h; exact h) (Or.inl ⟨by rfl, ?_⟩) (by assumption) ?_
          rotate_left
          · (intro w hSw; (try dsimp only at hSw); go_simp; try with_reducible rfl)
          try simp only [Act.put, List.setIfInBounds_toArray, List.set_cons_zero, List.set_cons_succ]
          refine wpAnyH_take (i := 18) (v := ?_) (by simp only [List.getElem?_toArray, List.getElem?_cons_succ, List.getElem?_cons_zero]; rfl) (by kernel_rfl) (by kernel_rfl) (by kernel_rfl) (by intro _ _ _ h; exact h) (Or.inl ⟨by rfl, ?_⟩) (by assumption) ?_
          rotate_left
          · (intro w hSw; (try dsimp only at hSw); go_simp; try with_reducible rfl)
          try simp only [Act.put, List.setIfInBounds_toArray, List.set_cons_zero, List.set_cons_succ]
          refine wpAnyH_ready (rs := [19]) (by kernel_rfl) (by simp) ?_
          refine AllReadyH.cons (by simp only [List.getElem?_toArray, List.getElem?_cons_succ, List.getElem?_cons_zero]; rfl) (fun K hK => ?_) AllReadyH.nil
          go_simp
          refine hK.out _ _ ⟨(World.cell?_setCell_far w3 ⟨gn, 0, none⟩ _ _ gnX).trans h0, (World.cell?_setCell_far w3 ⟨gn, 0, none⟩ _ _ gnX).trans h1, (World.cell?_setCell_far w3 ⟨gn, 0, none⟩ _ _ gnX).trans h2, (World.cell?_setCell_far w3 ⟨gn, 0, none⟩ _ _ gnX).trans h3, (World.cell?_setCell_far w3 ⟨gn, 0, none⟩ _ _ gnX).trans h4, (World.cell?_setCell_far w3 ⟨gn, 0, none⟩ _ _ gnX).trans h5, (World.cell?_setCell_far w3 ⟨gn, 0, none⟩ _ _ gnX).trans h6, (World.cell?_setCell_far w3 ⟨gn, 0, none⟩ _ _ gnX).trans h7, (World.cell?_setCell_far w3 ⟨gn, 0, none⟩ _ _ gnX).trans h8, (World.cell?_setCell_far w3 ⟨gn, 0, none⟩ _ _ gnX).trans h9, (World.cell?_setCell_far w3 ⟨gn, 0, none⟩ _ _ gnX).trans h10, (World.cell?_setCell_far w3 ⟨gn, 0, none⟩ _ _ gnX).trans h11, (World.cell?_setCell_far w3 ⟨gn, 0, none⟩ _ _ gnX).trans h12, (World.cell?_setCell_far w3 ⟨gn, 0, none⟩ _ _ gnX).trans h13, (World.cell?_setCell_far w3 ⟨gn, 0, none⟩ _ _ gnX).trans h14, (World.cell?_setCell_far w3 ⟨gn, 0, none⟩ _ _ gnX).trans h15⟩ (fun hHeld => ?_)
          clear hK K
          try simp only [Act.put, List.setIfInBounds_toArray, List.set_cons_zero, List.set_cons_succ]
          have z1 : (w3.setCell ⟨gn, 0, none⟩ (.int .u64 1)).cell? ⟨gm, 0, none⟩ = some zm := (World.cell?_setCell_far w3 ⟨gn, 0, none⟩ ⟨gm, 0, none⟩ _ gnm).trans z0
          refine wpAnyH_take (i := 20) (v := ?_) (by simp only [List.getElem?_toArray, List.getElem?_cons_succ, List.getElem?_cons_zero]; rfl) (by kernel_rfl) (by kernel_rfl) (by kernel_rfl) (by intro _ _ _ h; exact h) (Or.inl ⟨by rfl, ?_⟩) (by assumption) ?_
          rotate_left
          · (intro w hSw; (try dsimp only at hSw); go_simp; try with_reducible rfl)
          try simp only [Act.put, List.setIfInBounds_toArray, List.set_cons_zero, List.set_cons_succ]
          refine wpAnyH_ready (rs := [21]) (by kernel_rfl) (by simp) ?_
          refine AllReadyH.cons (by simp only [List.getElem?_toArray, List.getElem?_cons_succ, List.getElem?_cons_zero]; rfl) (fun K hK => ?_) AllReadyH.nil
          go_simp
          refine hK.out _ _ ⟨(World.cell?_setCell_far _ ⟨gm, 0, none⟩ _ _ gmX).trans ((World.cell?_setCell_far w3 ⟨gn, 0, none⟩ _ _ gnX).trans h0), (World.cell?_setCell_far _ ⟨gm, 0, none⟩ _ _ gmX).trans ((World.cell?_setCell_far w3 ⟨gn, 0, none⟩ _ _ gnX).trans h1), (World.cell?_setCell_far _ ⟨gm, 0, none⟩ _ _ gmX).trans ((World.cell?_setCell_far w3 ⟨gn, 0, none⟩ _ _ gnX).trans h2), (World.cell?_setCell_far _ ⟨gm, 0, none⟩ _ _ gmX).trans ((World.cell?_setCell_far w3 ⟨gn, 0, none⟩ _ _ gnX).trans h3), (World.cell?_setCell_far _ ⟨gm, 0, none⟩ _ _ gmX).trans ((World.cell?_setCell_far w3 ⟨gn, 0, none⟩ _ _ gnX).trans h4), (World.cell?_setCell_far _ ⟨gm, 0, none⟩ _ _ gmX).trans ((World.cell?_setCell_far w3 ⟨gn, 0, none⟩ _ _ gnX).trans h5), (World.cell?_setCell_far _ ⟨gm, 0, none⟩ _ _ gmX).trans ((World.cell?_setCell_far w3 ⟨gn, 0, none⟩ _ _ gnX).trans h6), (World.cell?_setCell_far _ ⟨gm, 0, none⟩ _ _ gmX).trans ((World.cell?_setCell_far w3 ⟨gn, 0, none⟩ _ _ gnX).trans h7), (World.cell?_setCell_far _ ⟨gm, 0, none⟩ _ _ gmX).trans ((World.cell?_setCell_far w3 ⟨gn, 0, none⟩ _ _ gnX).trans h8), (World.cell?_setCell_far _ ⟨gm, 0, none⟩ _ _ gmX).trans ((World.cell?_setCell_far w3 ⟨gn, 0, none⟩ _ _ gnX).trans h9), (World.cell?_setCell_far _ ⟨gm, 0, none⟩ _ _ gmX).trans ((World.cell?_setCell_far w3 ⟨gn, 0, none⟩ _ _ gnX).trans h10), (World.cell?_setCell_far _ ⟨gm, 0, none⟩ _ _ gmX).trans ((World.cell?_setCell_far w3 ⟨gn, 0, none⟩ _ _ gnX).trans h11), (World.cell?_setCell_far _ ⟨gm, 0, none⟩ _ _ gmX).trans ((World.cell?_setCell_far w3 ⟨gn, 0, none⟩ _ _ gnX).trans h12), (World.cell?_setCell_far _ ⟨gm, 0, none⟩ _ _ gmX).trans ((World.cell?_setCell_far w3 ⟨gn, 0, none⟩ _ _ gnX).trans h13), (World.cell?_setCell_far _ ⟨gm, 0, none⟩ _ _ gmX).trans ((World.cell?_setCell_far w3 ⟨gn, 0, none⟩ _ _ gnX).trans h14), (World.cell?_setCell_far _ ⟨gm, 0, none⟩ _ _ gmX).trans ((World.cell?_setCell_far w3 ⟨gn, 0, none⟩ _ _ gnX).trans h15)⟩ (fun hHeld => ?_)
          clear hK K
          try simp only [Act.put, List.setIfInBounds_toArray, List.set_cons_zero, List.set_cons_succ]
          refine wpAnyH_done (by kernel_rfl) ?_ _
          clear hHeld h0 h1 h2 h3 h4 h5 h6 h7 h8 h9 h10 h11 h12 h13 h14 h15 y0 yf yl z0 zf zl z1
          obtain ⟨hN, hO, hK⟩ := HNO.out
          have hN3 := hN.below HB3.out
          have hO3 := hO.below HB3.out
          have hN4 := hN3.kept (S := fun k => k = gn) (keptX (X := gn) (i := 0) (u := .int .u64 1)) (fun e => gnX e.symm)
          have hO4 : StO (w3.setCell ⟨gn, 0, none⟩ (.int .u64 1)) base [] [] [.bool true] [Wd 1] [zm] (.slice od 0 cd) (.slice ol 0 cll) (.slice (some ⟨gv, 0, none⟩) 1 cv) (.slice (some ⟨gn, 0, none⟩) 1 cn) (.slice (some ⟨gm, 0, none⟩) 1 cm) :=
            ⟨own_kept hO3.hd (S := fun k => k = gn) keptX (fun g hg e => own_ne2 hO3.hd hO3.hn (by decide) g hg (by rw [e]; rfl)),
             hO3.hl.kept (S := fun k => k = gn) keptX (fun g hg e => own_ne2 hO3.hl.row hO3.hn (by decide) g hg (by rw [e]; rfl)) (fun q hq g hg e => own_ne2 (hO3.hl.cells q hq) hO3.hn (by decide) g hg (by rw [e]; rfl)),
             own_kept hO3.hv (S := fun k => k = gn) keptX (fun g hg e => own_ne2 hO3.hv hO3.hn (by decide) g hg (by rw [e]; rfl)),
             own_set (k := 0) (u := Wd 1) hO3.hn, own_kept hO3.hm (S := fun k => k = gn) keptX (fun g hg e => hO3.nm gn rfl (by rw [← e]; exact hg)), hO3.nm⟩
          have hN5 := hN4.kept (S := fun k => k = gm) (keptX (X := gm) (i := 0) (u := .int .u64 0)) (fun e => gmX e.symm)
          have hO5 : StO ((w3.setCell ⟨gn, 0, none⟩ (.int .u64 1)).setCell ⟨gm, 0, none⟩ (.int .u64 0)) base [] [] [.bool true] [Wd 1] [Wd 0] (.slice od 0 cd) (.slice ol 0 cll) (.slice (some ⟨gv, 0, none⟩) 1 cv) (.slice (some ⟨gn, 0, none⟩) 1 cn) (.slice (some ⟨gm, 0, none⟩) 1 cm) :=
            ⟨own_kept hO4.hd (S := fun k => k = gm) keptX (fun g hg e => own_ne2 hO4.hd hO4.hm (by decide) g hg (by rw [e]; rfl)),
             hO4.hl.kept (S := fun k => k = gm) keptX (fun g hg e => own_ne2 hO4.hl.row hO4.hm (by decide) g hg (by rw [e]; rfl)) (fun q hq g hg e => own_ne2 (hO4.hl.cells q hq) hO4.hm (by decide) g hg (by rw [e]; rfl)),
             own_kept hO4.hv (S := fun k => k = gm) keptX (fun g hg e => own_ne2 hO4.hv hO4.hm (by decide) g hg (by rw [e]; rfl)),
             own_kept hO4.hn (S := fun k => k = gm) keptX (fun g hg e => hO4.nm g hg (by rw [e]; rfl)), own_set (k := 0) (u := Wd 0) hO4.hm, hO4.nm⟩
          have hK5 : Kept (fun k => k = X ∨ k = gn ∨ k = gm) w ((w3.setCell ⟨gn, 0, none⟩ (.int .u64 1)).setCell ⟨gm, 0, none⟩ (.int .u64 0)) :=
            (((hK.weak (fun k _ hk => .inl hk)).trans (kept_of_below HB3.out)).trans ((keptX (X := gn)).weak (fun k _ hk => .inr (.inl hk)))).trans ((keptX (X := gm)).weak (fun k _ hk => .inr (.inr hk)))
          have HFI := Lib.hid (And.intro hN5 (And.intro hO5 hK5))
          clear hN hO hK hN3 hO3 hN4 hO4 hN5 hO5 hK5 HNO HB3
          go_wp2_with fail
          go_roundw
          case rel => exact .inr ⟨rfl, HFI⟩
          case measure => decide
        · obtain ⟨hN, hO, hK⟩ := HR.out
          have c0 : wr.cell? ⟨X, 0, none⟩ = some (.int .i64 1) := by rw [← HE.out.1]; exact cellk hN rfl
          have HA := Lib.hid (add_one X base 0 0 { p with rl := 2, ld := 0 } [] [.bool true] [Wd 1] (Wd 0) _ _ _ _ _ o (.slice none 0 0) [] wr hN hO HE.out.1 HE.out.2.1 HE.out.2.2.1 (.inl ⟨rfl, rfl⟩) (by simp) (by simp) (Nat.le_trans hbase hK.size) (by show p.cm < _; rw [HE.out.2.2.2]; simp))
          have HK := Lib.hid hK
          clear hN hO hK HW HR
          go_wp2_with fail
          refine HA.out.mono ?_
          rintro e w6 ⟨rfl, ol', cl', y, hn6, ho6, hk6⟩
          have HFI := Lib.hid (show WinP X base p (.slice od 0 cd) (.slice ol 0 cll) (.slice (some ⟨gv, 0, none⟩) 1 cv) (.slice (some ⟨gn, 0, none⟩) 1 cn) (.slice (some ⟨gm, 0, none⟩) 1 cm) o w (.returned (.tuple #[])) w6 from
            ⟨rfl, ol', cl', y, hn6, ho6, (HK.out.weak (fun k _ hk => by
              rcases hk with hk | hk | hk
              · exact .inl hk
              · exact .inr (.inr (.inl (by rw [hk]; rfl)))
              · exact .inr (.inr (.inr (by rw [hk]; rfl))))).trans (hk6.weak (fun k _ hk => by
              rcases hk with hk | hk | hk
              · exact .inl hk
              · exact .inr (.inl hk)
              · exact .inr (.inr (.inr hk))))⟩)
          clear hn6 ho6 hk6 HA HK
          go_wp2_with fail
          go_end0
          exact HFI.out
end Go.Proofs.Ytjbailnnaigjbaa
