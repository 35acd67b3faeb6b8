/- The next function of bytes. -/
import Derived.Test.YthmnhacgcdcbiaaDecA
import Derived.Test.YthmnhacgcdcbiaaDecW
import Derived.Deep.CutBlock
import Derived.Deep.DeepCutAuto
import Derived.Deep.RegionLaw
namespace Go.Proofs.Ythmnhacgcdcbiaa
open Go.RowKit OctM CodM

/-- An append whose run is known, as a step of a region that draws. -/
theorem step_append_known {P : Program} {w w' : World} {ops : Array Oper} {o : Oper} {a : Act} {K : Act → World → Prop} {Q : Exit → Act → World → Prop} {E : Prop} (hgd : o.guard = none) (s x : Operand) (t u : TypeId)
    (ho : o.op = .call { callee := .builtin .append, args := #[s, x], argTypes := #[t, u] }) (v y v' : Value) (hs : a.eval s = v) (hx : a.eval x = y)
    (hr : (Builtin.append_ #[t, u] o.type #[v, y]).run P w = .ok v' w') (h : K (a.put o.dst v') w') : if Region.wanted o (yielded ops a.tmps) = true then Oper.wp P o a w K Q else E := by
  have hw : Region.wanted o (yielded ops a.tmps) = true := by simp [Region.wanted, hgd]
  rw [if_pos hw]
  unfold Oper.wp execOp
  simp only [ho, resolve, invoke, builtin, Sem.run_bind, Sem.run_pure, Result.andThen_ok, List.map_toArray, List.map_cons, List.map_nil, hs, hx, hr]
  exact h

structure DFPost (lim : Nat) (ptr : Option Addr) (w : World) (s : Option (List UInt8)) (e : Ending) (w' : World) : Prop where
  ret : ∃ o c, e = .returned (.agg #[.int .i64 (funS s).1.caps, .slice o (funS s).1.code.length c]) ∧ OwnJ w' w.heap.size (.slice o (funS s).1.code.length c) (funS s).1.code
  st : D.RS lim w' ptr (funS s).2
  kept : Kept (own1 ptr) w w'

/-- The result's block is laid at the end. -/
theorem decFun_end {lim : Nat} {ptr : Option Addr} {w w7 : World} {N1 : Int} {vj : Value} {acc : List Ins} {fb : Nat} {s' : Option (List UInt8)} (hfb : w.heap.size < fb)
    (ho : OwnJ w7 (fb + 1) vj acc) (hs : D.RS lim w7 ptr s') (hk : Kept (own1 ptr) w w7) (hp : ∀ a, ptr = some a → a.block < w.heap.size) (hl : lim ≤ w.heap.size) :
    OwnJ ((w7.setCell ⟨w.heap.size, 0, none⟩ (.int .i64 N1)).setCell ⟨w.heap.size, 1, none⟩ vj) w.heap.size vj acc ∧ D.RS lim ((w7.setCell ⟨w.heap.size, 0, none⟩ (.int .i64 N1)).setCell ⟨w.heap.size, 1, none⟩ vj) ptr s' ∧ Kept (own1 ptr) w ((w7.setCell ⟨w.heap.size, 0, none⟩ (.int .i64 N1)).setCell ⟨w.heap.size, 1, none⟩ vj) := by
  have hq : Kept (fun k => k = w.heap.size) w7 ((w7.setCell ⟨w.heap.size, 0, none⟩ (.int .i64 N1)).setCell ⟨w.heap.size, 1, none⟩ vj) :=
    ((Kept.refl (fun k => k = w.heap.size) w7).setCell (p := ⟨w.heap.size, 0, none⟩) (.inl rfl) _).setCell (p := ⟨w.heap.size, 1, none⟩) (.inl rfl) _
  refine ⟨own_base (own_kept ho hq fun k hk' => ?_) (by omega), hs.keep hq (fun a ha e => ?_) (fun k hk' e => ?_), (hk.setCell (p := ⟨w.heap.size, 0, none⟩) (.inr (Nat.le_refl _)) _).setCell (p := ⟨w.heap.size, 1, none⟩) (.inr (Nat.le_refl _)) _⟩
  · have := (ho.lt k hk').1
    omega
  · have := hp a ha
    omega
  · omega

/-- One more instruction is laid: what is made, and what it leaves. -/
theorem decIns_step {lim : Nat} {ptr : Option Addr} {w wi w5 : World} {N1 : Int} {oj : Option Addr} {cj fb : Nat} {acc : List Ins} {x : Ins} {s5 : Option (List UInt8)} (hfb : w.heap.size < fb)
    (hO : OwnJ wi (fb + 1) (.slice oj acc.length cj) acc) (hY : wi.heap[fb]? = some (.cells #[.int .i64 N1, .slice oj acc.length cj] 32 (0, 0)))
    (hX : wi.heap[w.heap.size]? = some (.cells #[.int .i64 0, .slice none 0 0] 32 (0, 0))) (hk : Kept (own1 ptr) w wi) (hs5 : D.RS lim w5 ptr s5) (hk5 : Kept (own1 ptr) wi w5)
    (hp : ∀ a, ptr = some a → a.block < w.heap.size) (hl : lim ≤ w.heap.size) (hlen : acc.length ≤ 1048576) :
    w5.cell? ⟨fb, 1, none⟩ = some (.slice oj acc.length cj) ∧ fb < w5.heap.size ∧
    ∃ o6 c6 w6, (Builtin.append_ #[30, 30] 30 #[.slice oj acc.length cj, .slice (some ⟨w5.heap.size, 0, none⟩) 1 1]).run Try.prog (w5.alloc (.cells #[.int .u8 (x.op : Int), .int .i64 x.n, .int .i64 x.a, .string x.s] 34)) = .ok (.slice o6 (acc.length + 1) c6) w6 ∧
      w6.cell? ⟨fb, 1, none⟩ = some (.slice oj acc.length cj) ∧ w6.frozen? ⟨fb, 1, none⟩ = false ∧ fb < w6.heap.size ∧
      OwnJ (w6.setCell ⟨fb, 1, none⟩ (.slice o6 (acc.length + 1) c6)) (fb + 1) (.slice o6 (acc.length + 1) c6) (acc ++ [x]) ∧
      (w6.setCell ⟨fb, 1, none⟩ (.slice o6 (acc.length + 1) c6)).heap[fb]? = some (.cells #[.int .i64 N1, .slice o6 (acc.length + 1) c6] 32 (0, 0)) ∧
      (w6.setCell ⟨fb, 1, none⟩ (.slice o6 (acc.length + 1) c6)).heap[w.heap.size]? = some (.cells #[.int .i64 0, .slice none 0 0] 32 (0, 0)) ∧
      D.RS lim (w6.setCell ⟨fb, 1, none⟩ (.slice o6 (acc.length + 1) c6)) ptr s5 ∧ Kept (own1 ptr) w (w6.setCell ⟨fb, 1, none⟩ (.slice o6 (acc.length + 1) c6)) := by
  have hp' : ∀ k, w.heap.size ≤ k → ¬ own1 ptr k := by
    rintro k hk ⟨a, ha, hb⟩
    have := hp a ha
    omega
  have hz := hk.size
  have hz5 := hk5.size
  have hbl := lt_of_block hY
  have hrl := lt_of_block hX
  have hL : ∀ g, (Value.slice oj acc.length cj).ownBlock = some g → fb + 1 ≤ g ∧ g < wi.heap.size := fun g hg => hO.lt g hg
  have hO5 : OwnJ w5 (fb + 1) (.slice oj acc.length cj) acc := own_kept hO hk5 (fun k hk' => hp' k (by have := (hL k hk').1; omega))
  have hY5 := (hk5.block fb hbl (hp' _ (by omega))).trans hY
  have hX5 := (hk5.block _ hrl (hp' _ (Nat.le_refl _))).trans hX
  obtain ⟨v6, w6, hrun, hown6, hg6, -⟩ := append_pins (w := w5.alloc (.cells #[.int .u8 (x.op : Int), .int .i64 x.n, .int .i64 x.a, .string x.s] 34)) (p := x) (World.ownsRow.alloc hO5 _) ⟨w5.heap.size, 0, none⟩ (cells_new _ [.int .u8 (x.op : Int), .int .i64 x.n, .int .i64 x.a, .string x.s] _) (by omega) (by simp; omega) 30
  obtain ⟨o6, c6, hv6⟩ := hown6.form
  rw [List.length_append] at hv6
  subst hv6
  have hAl : ∀ k, k < w5.heap.size → (w5.alloc (.cells #[.int .u8 (x.op : Int), .int .i64 x.n, .int .i64 x.a, .string x.s] 34)).heap[k]? = w5.heap[k]? := fun k hk => Below.heap_alloc _ _ _ hk
  have hY6 := ((hg6.block fb (by simp; omega) (fun h => by have := (hL _ h.symm).1; omega)).trans (hAl fb (by omega))).trans hY5
  have hX6 := ((hg6.block w.heap.size (by simp; omega) (fun h => by have := (hL _ h.symm).1; omega)).trans (hAl _ (by omega))).trans hX5
  have hq : Kept (fun k => fb ≤ k) w5 (w6.setCell ⟨fb, 1, none⟩ (.slice o6 (acc.length + 1) c6)) :=
    (((Kept.refl (fun k => fb ≤ k) w5).alloc _).grown hg6 (fun k h => .inl (by have := (hL k h).1; omega))).setCell (p := ⟨fb, 1, none⟩) (.inl (Nat.le_refl _)) _
  refine ⟨cellk hY5 rfl, by omega, o6, c6, w6, hrun, cellk hY6 rfl, free_of hY6 1, lt_of_block hY6, ?_, set_two1 hY6, (set_other (by omega)).trans hX6, hs5.keep hq (fun a ha h => by have := hp a ha; omega) (fun k hk' h => by omega), ?_⟩
  · exact own_kept hown6 (S := fun k => k = fb) ((Kept.refl (fun k => k = fb) w6).setCell (p := ⟨fb, 1, none⟩) (.inl rfl) _) (fun k hk' e => by have := (hown6.lt k hk').1; omega)
  · exact (hk.trans hk5).step hq (fun k h => .inr (by omega))

set_option maxHeartbeats 4000000 in
set_option maxRecDepth 100000 in
theorem decodeFun (ptr : Option Addr) (s : Option (List UInt8)) (lim : Nat) (w : World) (h : D.RS lim w ptr s) (hp : ∀ a, ptr = some a → a.block < w.heap.size) (hl : lim ≤ w.heap.size) :
    Calls Try.prog 27 #[.pointer ptr] w (DFPost lim ptr w s) := by
  have hb1 : Below w.heap.size w (w.alloc (.cells #[.int .i64 0, .slice none 0 0] 32)) := (Below.refl _ _).alloc (Nat.le_refl _) _
  have HBX := Lib.hid (heap_alloc_new w (.cells #[.int .i64 0, .slice none 0 0] 32))
  have H1 := Lib.hid (D.rupto ptr s 1048576 _ (h.below hb1) (by omega) (by omega))
  have HB1 := Lib.hid (kept_of_below (S := own1 ptr) hb1)
  have HON : Hid (∀ k, w.heap.size ≤ k → ¬ own1 ptr k) := by
    rintro k hk ⟨a, ha, hb⟩
    have := hp a ha
    omega
  have HP := Lib.hid hp
  clear hb1 h hp
  go_enter Try.func27, Try.ntmps27
  go_wp2_with fail
  refine H1.out.mono ?_
  rintro e w1 ⟨rfl, hs1, hk1⟩
  have HM1 := Lib.hid (uptoS_most s 1048576)
  have hK1 := HB1.out.trans hk1
  have hx1 := (hk1.block w.heap.size (by simp) (HON.out _ (Nat.le_refl _))).trans HBX.out
  have hz1 : w.heap.size < w1.heap.size := lt_of_block hx1
  have HFU : Hid (funS s = (⟨((uptoS s 1048576).1 : Nat), (codeS (uptoS (uptoS s 1048576).2 1048576).1 (uptoS (uptoS s 1048576).2 1048576).2).1⟩, (codeS (uptoS (uptoS s 1048576).2 1048576).1 (uptoS (uptoS s 1048576).2 1048576).2).2)) := rfl
  generalize (uptoS s 1048576).1 = N1 at *
  generalize (uptoS s 1048576).2 = s1 at *
  have hb2 : Below w1.heap.size w1 (w1.alloc (.cells #[.int .i64 (N1 : Int), .slice none 0 0] 32)) := (Below.refl _ _).alloc (Nat.le_refl _) _
  have H2 := Lib.hid (D.rupto ptr s1 1048576 _ (hs1.below hb2) (by omega) (by omega))
  have HM2 := Lib.hid (uptoS_most s1 1048576)
  have hy1 := heap_alloc_new w1 (.cells #[.int .i64 (N1 : Int), .slice none 0 0] 32)
  have hx2 := (hb2.block _ hz1).trans hx1
  have HK1 := Lib.hid (hK1.trans (kept_of_below (S := own1 ptr) hb2))
  have HX2 := Lib.hid hx2
  have HY1 := Lib.hid hy1
  clear hb2 hs1 hk1 hK1 hx1 hy1 hx2 HBX
  go_wp2_with fail
  refine H2.out.mono ?_
  rintro e w2 ⟨rfl, hs2, hk2⟩
  generalize (uptoS s1 1048576).1 = M at *
  generalize (uptoS s1 1048576).2 = s2 at *
  have hfbl : w1.heap.size < w2.heap.size := Nat.lt_of_lt_of_le (lt_of_block HY1.out) hk2.size
  have HX3 := Lib.hid ((hk2.block _ (lt_of_block HX2.out) (HON.out _ (Nat.le_refl _))).trans HX2.out)
  have HY3 := Lib.hid ((hk2.block _ (lt_of_block HY1.out) (HON.out _ (by omega))).trans HY1.out)
  have HK2 := Lib.hid (HK1.out.trans hk2)
  have HS2 := Lib.hid hs2
  have hMi : (M : Int) ≤ 1048576 := by have := HM2.out; omega
  generalize w1.heap.size = fb at *
  clear hs2 hk2 HK1 HX2 HY1 H1 H2 HB1
  go_wp2_with fail
  go_loopw [9] (fun i wr => ∃ (j : Nat) (sj : Option (List UInt8)) (vj : Value) (acc : List Ins), j ≤ M ∧ i = .int .i64 j ∧ acc.length = j ∧ Hid (OwnJ wr (fb + 1) vj acc) ∧ Hid (wr.heap[fb]? = some (.cells #[.int .i64 (N1 : Int), vj] 32 (0, 0))) ∧ Hid (wr.heap[w.heap.size]? = some (.cells #[.int .i64 0, .slice none 0 0] 32 (0, 0))) ∧ Hid (D.RS lim wr ptr sj) ∧ Hid (Kept (own1 ptr) w wr) ∧ Hid (codeS M s2 = (acc ++ (codeS (M - j) sj).1, (codeS (M - j) sj).2))) (fun i _ => M - (intOf i).toNat)
  case atStart => exact ⟨0, s2, _, [], by omega, rfl, rfl, World.ownsRow_nil _ _ _ _, HY3.out, HX3.out, HS2.out, HK2.out, rfl⟩
  case round =>
    obtain ⟨j, sj, vj, acc, hj, rfl, hal, HO, HY, HX, HS, HK, HC⟩ := hrel
    generalize wr = wi at *
    subst hal
    obtain ⟨oj, cj, hv⟩ := HO.out.form
    subst hv
    have b0 : wi.cell? ⟨fb, 0, none⟩ = some (.int .i64 (N1 : Int)) := cellk HY.out rfl
    have b1 : wi.cell? ⟨fb, 1, none⟩ = some (.slice oj acc.length cj) := cellk HY.out rfl
    have bl := lt_of_block HY.out
    have c0 : wi.cell? ⟨w.heap.size, 0, none⟩ = some (.int .i64 0) := cellk HX.out rfl
    have c1 : wi.cell? ⟨w.heap.size, 1, none⟩ = some (.slice none 0 0) := cellk HX.out rfl
    have f0 := free_of HX.out 0
    have f1 := free_of HX.out 1
    have rl := lt_of_block HX.out
    by_cases hlt : acc.length < M
    · have hjI : (acc.length : Int) < (M : Int) := by omega
      obtain ⟨Q, hQ⟩ : ∃ Q, insS sj = Q := ⟨_, rfl⟩
      obtain ⟨⟨op, n, a, str⟩, s5⟩ := Q
      have hdi : ∀ W, D.RS lim W ptr sj → w.heap.size ≤ W.heap.size → Calls Try.prog 43 #[.pointer ptr] W fun e w' => e = .returned (.agg #[.int .u8 (op : Int), .int .i64 n, .int .i64 a, .string str]) ∧ D.RS lim w' ptr s5 ∧ Kept (own1 ptr) W w' := by
        intro W hW hz
        refine (decodeIns ptr sj lim W hW (fun a ha => Nat.lt_of_lt_of_le (HP.out a ha) hz) (by omega)).mono ?_
        rintro e w' ⟨h1, h2, h3⟩
        rw [hQ] at h1 h2
        exact ⟨h1, h2, h3⟩
      have HDI := Lib.hid hdi
      have HQ := Lib.hid hQ
      have hzw : w.heap.size ≤ wi.heap.size := by omega
      clear hdi hQ
      have hstep := fun (w5 : World) (h1 : D.RS lim w5 ptr s5) (h2 : Kept (own1 ptr) wi w5) => decIns_step (x := ⟨op, n, a, str⟩) hz1 HO.out HY.out HX.out HK.out h1 h2 HP.out hl (by omega)
      have HSTEP := Lib.hid hstep
      clear hstep f0 f1 c0 c1
      go_upto_region 4 with (fail)
      go_cut [16] (fun v16 wx => ∃ (o6 : Option Addr) (c6 : Nat), Hid (OwnJ wx (fb + 1) (.slice o6 (acc.length + 1) c6) (acc ++ [⟨op, n, a, str⟩])) ∧ Hid (wx.heap[fb]? = some (.cells #[.int .i64 (N1 : Int), .slice o6 (acc.length + 1) c6] 32 (0, 0))) ∧ Hid (wx.heap[w.heap.size]? = some (.cells #[.int .i64 0, .slice none 0 0] 32 (0, 0))) ∧ Hid (D.RS lim wx ptr s5) ∧ Hid (Kept (own1 ptr) w wx))
      case first =>
        rename_i J K' hJ hMJ
        go_region_law (first
          | (refine step_append_known rfl (.tmp 12) (.tmp 15) 30 30 rfl _ _ _ rfl rfl HRUN.out ?_)
          | (go_simp; go_at_call 43; refine (HDI.out _ (by first | exact HS.out | exact HS.out.keep (Kept.refl (fun _ => False) wi).drew (fun _ _ h => h) (fun _ _ h => h)) (by first | exact hzw | (simp; exact hzw))).mono ?_; rintro e w5 ⟨rfl, hs5, hk5⟩; obtain ⟨q1, q2, o6, c6, w6, hrun, q3, q4, q5, hO6, hY6, hX6, hS6, hK6⟩ := HSTEP.out w5 hs5 (by first | exact hk5 | exact (Kept.refl _ wi).drew.trans hk5); simp only at hrun; have HRUN := Lib.hid hrun; have HO6 := Lib.hid hO6; have HY6 := Lib.hid hY6; have HX6 := Lib.hid hX6; have HS6 := Lib.hid hS6; have HK6 := Lib.hid hK6; clear hrun hO6 hY6 hX6 hS6 hK6 hs5 hk5; dsimp only))
        all_goals
          refine hMJ _ _ (Met.intro ?_)
          refine hJ _ _ ?_
          (repeat apply Exists.intro)
          refine ⟨?_, rfl⟩
          exact ⟨o6, c6, HO6, HY6, HX6, HS6, HK6⟩
      case rest =>
        obtain ⟨o6, c6, HO6, HY6, HX6, HS6, HK6⟩ := hcut
        have hHB := D.rbad ptr s5 wc HS6.out
        have HB := Lib.hid hHB
        have b0 : wc.cell? ⟨fb, 0, none⟩ = some (.int .i64 (N1 : Int)) := cellk HY6.out rfl
        have b1' : wc.cell? ⟨fb, 1, none⟩ = some (.slice o6 (acc.length + 1) c6) := cellk HY6.out rfl
        have bl' := lt_of_block HY6.out
        have c0 : wc.cell? ⟨w.heap.size, 0, none⟩ = some (.int .i64 0) := cellk HX6.out rfl
        have c1 : wc.cell? ⟨w.heap.size, 1, none⟩ = some (.slice none 0 0) := cellk HX6.out rfl
        have f0 := free_of HX6.out 0
        have f1 := free_of HX6.out 1
        have rl' := lt_of_block HX6.out
        have hsub : M - acc.length = (M - (acc.length + 1)) + 1 := by omega
        clear hHB HSTEP b1 bl
        go_wp2_with fail
        refine HB.out.mono ?_
        rintro e w9 ⟨rfl, rfl⟩
        dsimp only
        rcases s5 with _ | r
        · have hfin := decFun_end (N1 := (N1 : Int)) hz1 HO6.out HS6.out HK6.out HP.out hl
          have hcs : codeS M s2 = (acc ++ [⟨op, n, a, str⟩], none) := by
            rw [HC.out, hsub, codeS_bad (by rw [HQ.out]), HQ.out]
          have HFIN := Lib.hid hfin
          have HCS := Lib.hid hcs
          clear hfin hcs hsub HB
          go_wp2_with fail
          obtain ⟨hf1, hf2, hf3⟩ := HFIN.out
          refine bodyPost_ret (v := .agg #[.int .i64 (N1 : Int), .slice o6 (acc.length + 1) c6]) (by simp [results, Try.results27, go_sem, c0, c1]) rfl ⟨⟨o6, c6, ?_, ?_⟩, ?_, ?_⟩
          · rw [HFU.out, HCS.out]; simp
          · rw [HFU.out, HCS.out]; simpa using hf1
          · rw [HFU.out, HCS.out]; exact hf2
          · exact hf3
        · have hcc : codeS M s2 = ((acc ++ [⟨op, n, a, str⟩]) ++ (codeS (M - (acc.length + 1)) (some r)).1, (codeS (M - (acc.length + 1)) (some r)).2) := by
            rw [HC.out, hsub, codeS_ok (by rw [HQ.out]; simp), HQ.out]
            simp
          have HCC := Lib.hid hcc
          have hln : (acc ++ [(⟨op, n, a, str⟩ : Ins)]).length = acc.length + 1 := by simp
          clear hcc hsub HB
          go_wp2_with fail
          go_roundw
          case rel => exact ⟨acc.length + 1, some r, _, acc ++ [⟨op, n, a, str⟩], by omega, by go_num, hln, HO6, HY6, HX6, HS6, HK6, HCC⟩
          case measure => simp [intOf]; omega
    · have hjM : M = acc.length := by omega
      have hcs := HC.out
      rw [← hjM, Nat.sub_self] at hcs
      have hfin := decFun_end (N1 := (N1 : Int)) (by omega) HO.out HS.out HK.out HP.out hl
      have HFIN := Lib.hid hfin
      have HCS := Lib.hid hcs
      clear hfin hcs
      go_wp2_with fail
      obtain ⟨hf1, hf2, hf3⟩ := HFIN.out
      refine bodyPost_ret (v := .agg #[.int .i64 (N1 : Int), .slice oj acc.length cj]) (by simp [results, Try.results27, go_sem, c0, c1]) rfl ⟨⟨oj, cj, ?_, ?_⟩, ?_, ?_⟩
      · rw [HFU.out, HCS.out]; simp [codeS]
      · rw [HFU.out, HCS.out]; simpa [codeS] using hf1
      · rw [HFU.out, HCS.out]; simpa [codeS] using hf2
      · exact hf3
end Go.Proofs.Ythmnhacgcdcbiaa
