/- makeRoom, with a collection. -/
import Derived.Test.YtkdhajiplonloaaHeaPa
import Derived.Test.YtkdhajiplonloaaHeaF
namespace Go.Proofs.Ytkdhajiplonloaa
open Go.RowKit HeaM

/-- What a collection for room leaves: it was behind some new blocks. -/
def RoomPost (w w' : World) (b base q c : Nat) (v1 v2 : Value) (W : List Nat) (F : List Bool) (rs : List Addr) (xs : List Nat) (n : Nat) (e : Ending) : Prop :=
  e = .returned (.bool (decide (n ≤ q - (colS W F xs).2.length))) ∧ ∃ w1 nq, Below w.heap.size w w1 ∧ ∃ w2, ColPost w1 w2 b base q c v1 v2 W F rs xs (.returned (.tuple #[])) ∧ w' = w2.drewN nq

/-- A row of pointers behind another: all of them are roots. -/
theorem roots_two {w w1 : World} {b base bp q c : Nat} {v1 v2 rv pv av : Value} {W : List Nat} {F : List Bool} {rs : List Addr} {xs ps : List Nat} (hH : HAt w b base q c v1 v2 W F) (hR : RootsOK w b v1 v2 rv rs xs) (hp : OwnW w bp pv ps) (hpd : ∀ j, pv.ownBlock = some j → ¬ three b v1 v2 j ∧ ∀ a ∈ rs, a.block ≠ j) (hps : ∀ x ∈ ps, x < 18446744073709551616) (hn2 : rs.length + ps.length ≤ 1000000)
    (hb : Below w.heap.size w w1) (ho : w1.ownsRow w.heap.size 74 1 av (rs.length + ps.length) ((rs ++ rsOf pv ps.length).map ptrV)) : RootsOK w1 b v1 v2 av (rs ++ rsOf pv ps.length) (xs ++ ps) := by
  have hlen := rsOf_length hp
  have hmem : ∀ a ∈ rsOf pv ps.length, pv.ownBlock = some a.block := fun a ha => (rsOf_mem hp ha).1
  have hp1 : OwnW w1 bp pv ps := own_kept hp (Below.kept (S := fun k => w.heap.size ≤ k) hb fun k h1 _ => h1) fun k hk hs => by have := (hp.lt k hk).2; omega
  have hfz : ∀ a, a.block < w.heap.size → w1.frozen? a = w.frozen? a := fun a ha => World.frozen?_of_block (hb.block _ ha)
  refine ⟨⟨RdV.of_own ho, by rw [List.length_append, List.length_append, hlen, hR.roots.len], ?_, fun x hx => ?_⟩, ?_, fun a ha => ?_, fun a ha => ?_, ?_, by rw [List.length_append, hlen]; omega⟩
  · intro j a x hj hx
    rw [List.getElem?_append] at hj hx
    rw [hR.roots.len] at hx
    split at hj
    · rename_i hlt
      rw [if_pos hlt] at hx
      have hc := hR.roots.cell j a x hj hx
      rw [hb.cell (World.block_lt_of_cell? w _ hc)]
      exact hc
    · rename_i hlt
      rw [if_neg hlt] at hx
      rcases hp1.2 with ⟨rfl, h0⟩ | ⟨g, cap, cur, rfl, _, _, hc, hm, _⟩
      · simp [rsOf] at hj
      · rw [rsOf_some, List.getElem?_map] at hj
        have hjl : j - rs.length < ps.length := (List.getElem?_eq_some_iff.1 hx).1
        rw [List.getElem?_range hjl] at hj
        simp at hj
        subst hj
        rw [World.ownsRow.cellAt hp1 _ (by omega)]
        simp only [Ws, List.getElem?_map, hx]
        rfl
  · rcases List.mem_append.1 hx with hx | hx
    · exact hR.roots.lt x hx
    · exact hps x hx
  · rw [List.nodup_append]
    refine ⟨hR.nodup, ?_, fun a ha c hc e => ?_⟩
    · rcases hp.2 with ⟨rfl, h0⟩ | ⟨g, cap, cur, rfl, _, _, hc, hm, _⟩
      · exact List.nodup_nil
      · rw [rsOf_some]
        exact List.Pairwise.map _ (fun i j h e => h (by injection e)) List.nodup_range
    · exact (hpd _ (hmem c hc)).2 a ha (by rw [e])
  · rcases List.mem_append.1 ha with ha | ha
    · rw [hfz a (hR.lt a ha)]
      exact hR.free a ha
    · have h1 := hmem a ha
      rw [hfz a (hp.lt _ h1).2]
      obtain ⟨h1, h2, h3⟩ := rsOf_mem hp ha
      rcases hp.2 with ⟨rfl, hn⟩ | ⟨g, cap, cur, rfl, _, hg, hc, hm, _⟩
      · simp [Value.ownBlock] at h1
      · simp only [Value.ownBlock, Option.some.injEq] at h1
        subst h1
        have := frozen_of_row w a.block a.off cur _ hg
        obtain ⟨ab, ao, asp⟩ := a
        simp only at h2
        subst h2
        exact this
  · rcases List.mem_append.1 ha with ha | ha
    · exact hR.apart a ha
    · exact (hpd _ (hmem a ha)).1
  · intro a n k e
    rcases ho.2 with ⟨rfl, _⟩ | ⟨g, cap, cur, rfl, hg, hgg, _⟩
    · cases e
    · simp only [Value.slice.injEq, Option.some.injEq] at e
      obtain ⟨rfl, -⟩ := e
      refine ⟨fun hs => by have := hH.own_lt _ hs; simp only at this; omega, lt_of_block hgg, fun r hr e => ?_⟩
      rcases List.mem_append.1 hr with hr | hr
      · have := hR.lt r hr
        simp only at e
        omega
      · have := (hp.lt _ (hmem r hr)).2
        simp only at e
        omega

set_option maxHeartbeats 8000000 in
set_option maxRecDepth 100000 in
theorem room_col (b base bp q c : Nat) (v1 v2 rv pv : Value) (W : List Nat) (F : List Bool) (rs : List Addr) (xs ps : List Nat) (n : Nat) (w : World) (h : HAt w b base q c v1 v2 W F) (hg : Good W F) (hbase : base ≤ w.heap.size) (hc : c ≤ 100000000) (hq : q ≤ 1048576) (hWq : W.length ≤ q) (hR : RootsOK w b v1 v2 rv rs xs) (hp : OwnW w bp pv ps)
    (hpd : ∀ j, pv.ownBlock = some j → ¬ three b v1 v2 j ∧ ∀ a ∈ rs, a.block ≠ j) (hps : ∀ x ∈ ps, x < 18446744073709551616) (hn2 : rs.length + ps.length ≤ 1000000) (hn : q < W.length + n) (hnn : n ≤ 100000000) :
    Calls Try.prog 36 #[.pointer (some ⟨b, 0, none⟩), .int .i64 (n : Int), pv, rv] w fun e w' => RoomPost w w' b base q c v1 v2 W F (rs ++ rsOf pv ps.length) (xs ++ ps) n e := by
  obtain ⟨c0, c1, c2, c3⟩ := h.cells
  have hlt := h.lt
  obtain ⟨o1, k1, hv1, _⟩ := own_slice h.own1
  obtain ⟨op, kp, hpv, hkp, hmp⟩ := own_slice hp
  obtain ⟨orr, kr, hrv, hkr, hmr⟩ := hR.roots.rd.slice
  rw [List.length_map] at hrv hkr
  have H := Lib.hid h
  have HG := Lib.hid hg
  have HR := Lib.hid hR
  have HP := Lib.hid hp
  have HPD := Lib.hid hpd
  have HPS := Lib.hid hps
  have HV := Lib.hid hv1
  have HPV := Lib.hid hpv
  rw [hv1] at c2
  have hle1 : decide ((q : Int) - (W.length : Int) < (n : Int)) = true := by simp; omega
  have hle2 : (q : Int) - (W.length : Int) < (n : Int) := by omega
  have e1 : IntKind.i64.wrap ((q : Int) - (W.length : Int)) = (q : Int) - (W.length : Int) := IntWalk.i64_in _ (by omega)
  have mk := madeP0 (rs.length + ps.length) (by omega)
  rw [show ((rs.length + ps.length : Nat) : Int) = (rs.length : Int) + (ps.length : Int) by omega] at mk
  clear h hg hR hp hpd hps hv1
  unfold maxLen at hmp hmr
  have hri : (rs.length : Int) + (ps.length : Int) ≤ 1000000 := by omega
  have hplit : ∃ g, op = some ⟨g, 0, none⟩ ∨ ps.length = 0 := by
    rcases HP.out.2 with ⟨e, e0⟩ | ⟨g, cap, cur, e, _⟩
    · exact ⟨0, .inr e0⟩
    · rw [hpv] at e
      simp only [Value.slice.injEq] at e
      exact ⟨g, .inl e.1⟩
  have HSP := Lib.hid hplit
  have hcz : (List.replicate (rs.length + ps.length) (Value.pointer none)).toArray.size = (rs.length + ps.length) * 1 := by simp
  clear hplit
  generalize (List.replicate (rs.length + ps.length) (Value.pointer none)).toArray = CP at *
  have HCZ := Lib.hid hcz
  clear hcz
  subst hpv
  subst hrv
  go_enter Try.func36, Try.ntmps36
  go_wp2_with fail
  go_quiet (fail)
  have hbq := below_drewN w.heap.size nq w
  generalize w.drewN nq = wa at *
  have HBQ := Lib.hid hbq
  have hsq := hbq.size
  have hown0 := World.ownsRow_made wa (size := 1) (base := w.heap.size) (e := 74) CP (rs.length + ps.length) hsq (by unfold maxLen; omega) HCZ.out
  have hrdr : RdV (wa.alloc (.cells CP 74)) (.slice orr rs.length kr) (rs.map ptrV) := (HR.out.roots.rd).below (hbq.alloc hsq _)
  obtain ⟨av, w2, r2, o2, g2, a2⟩ := append_one (ty := 54) (t := 54) ptrInfo Try.underlying54 rfl hown0 hrdr (by intro u hu; obtain ⟨a, _, rfl⟩ := List.mem_map.1 hu; rfl) (by rw [List.length_map]; omega) (by rw [List.length_map]; omega) (by simp; omega)
  rw [List.length_map, Nat.zero_add, List.nil_append] at o2
  have hb2 : Below w.heap.size w w2 := (hbq.alloc hsq _).grown g2 (by simp; omega) (fun j hj => (hown0.lt j hj).1)
  have R2 := Lib.hid r2
  have O2 := Lib.hid o2
  have HB2 := Lib.hid hb2
  clear hbq hown0 hrdr r2 o2 g2 a2 hb2
  go_wp2_with (at_builtin; refine wpList_append_known rfl (.tmp 28) (.tmp 29) 54 54 (by rfl) _ _ _ (by rfl) (by rfl) R2.out ?_)
  clear mk
  go_loopw [9, 33] (fun v i wr => ∃ k : Nat, k ≤ ps.length ∧ i = .int .i64 k ∧ Hid (wr.ownsRow w.heap.size 74 1 v (rs.length + k) ((rs ++ rsOf (.slice op ps.length kp) k).map ptrV) ∧ Below w.heap.size w wr)) (fun _ i _ => ps.length - (intOf i).toNat)
  case atStart =>
    refine ⟨0, Nat.zero_le _, rfl, ?_, HB2.out⟩
    have e : rsOf (.slice op ps.length kp) 0 = [] := by unfold rsOf; cases op <;> rfl
    rw [e, List.append_nil]
    exact O2.out
  case round =>
    obtain ⟨k, hk, rfl, HK⟩ := hrel
    by_cases hlt : k < ps.length
    · have hk0 : (k : Int) < (ps.length : Int) := by omega
      obtain ⟨g, hg⟩ := HSP.out
      obtain rfl : op = some ⟨g, 0, none⟩ := by
        rcases hg with hg | hg
        · exact hg
        · omega
      have hown := HK.out.1
      have hb := HK.out.2
      obtain ⟨v', w3, r3, o3, g3, a3⟩ := append_one (ty := 54) (t := 54) ptrInfo Try.underlying54 rfl (hown.alloc (.cells #[.pointer (some ⟨g, k, none⟩)] 74)) (RdV.lit wr (.pointer (some ⟨g, k, none⟩)) 74) (by intro u hu; simp at hu; subst hu; rfl) (by simp; omega) (by simp; omega) (by have := hb.size; simp; omega)
      have hfin : w3.ownsRow w.heap.size 74 1 v' (rs.length + (k + 1)) ((rs ++ rsOf (.slice (some ⟨g, 0, none⟩) ps.length kp) (k + 1)).map ptrV) ∧ Below w.heap.size w w3 := by
        refine ⟨?_, (hb.alloc hb.size _).grown g3 (by have := hb.size; simp; omega) (fun j hj => (hown.lt j hj).1)⟩
        rw [rsOf_some] at o3 ⊢
        have e : (rs ++ (List.range (k + 1)).map fun j => (⟨g, j, none⟩ : Addr)).map ptrV = (rs ++ (List.range k).map fun j => (⟨g, j, none⟩ : Addr)).map ptrV ++ [.pointer (some ⟨g, k, none⟩)] := by
          rw [List.range_succ]
          simp [ptrV]
        rw [e]
        exact o3
      have FIN := Lib.hid hfin
      have R3 := Lib.hid r3
      clear hown hb r3 o3 g3 a3 hfin hg
      go_wp2_with (at_builtin; refine wpList_append_known rfl (.tmp 36) (.tmp 40) 54 54 (by rfl) _ _ _ (by rfl) (by rfl) R3.out ?_)
      go_roundw
      case rel => exact ⟨k + 1, by omega, by go_num, FIN.out⟩
      case measure => simp [intOf]; omega
    · obtain rfl : k = ps.length := by omega
      have hb := HK.out.2
      have hro := roots_two H.out HR.out HP.out HPD.out HPS.out hn2 hb HK.out.1
      have HCO := Lib.hid (collect_t b base q c v1 v2 _ W F _ _ wr (H.out.below hb (Nat.le_refl _)) HG.out (by have := hb.size; omega) (by omega) hro)
      have HB := Lib.hid hb
      clear hb hro HK
      go_wp2_with fail
      refine HCO.out.mono ?_
      intro e w4 hC
      have he := hC.1
      subst he
      obtain ⟨_, u1, u2, hH4, _, _, _, _, _, hinv⟩ := id hC
      obtain ⟨d0, d1, d2, d3⟩ := hH4.cells
      obtain ⟨o4, k4, hv4, _⟩ := own_slice hH4.own1
      have HC4 : Hid (ColPost wr w4 b base q c v1 v2 W F (rs ++ rsOf (.slice op ps.length kp) ps.length) (xs ++ ps) (.returned (.tuple #[]))) := hC
      have hvl : (colS W F (xs ++ ps)).2.length ≤ q := by
        have h1 := hinv.tot_le
        have h2 := hinv.len
        omega
      obtain ⟨L, hL⟩ : ∃ L, (colS W F (xs ++ ps)).2.length = L := ⟨_, rfl⟩
      rw [hL] at hv4 hvl
      rw [hv4] at d2
      have hdec : decide ((n : Int) ≤ (q : Int) - (L : Int)) = decide (n ≤ q - L) := by
        rw [Bool.eq_iff_iff, decide_eq_true_eq, decide_eq_true_eq]
        omega
      have hfin : ∀ nq, RoomPost w (w4.drewN nq) b base q c v1 v2 W F (rs ++ rsOf (.slice op ps.length kp) ps.length) (xs ++ ps) n (.returned (.bool (decide ((n : Int) ≤ (q : Int) - (L : Int))))) := fun nq => ⟨by rw [hL, hdec], wr, nq, HB.out, w4, HC4.out, rfl⟩
      have FIN := Lib.hid hfin
      have e3 : IntKind.i64.wrap ((q : Int) - (L : Int)) = (q : Int) - (L : Int) := IntWalk.i64_in _ (by omega)
      clear hC hH4 d1 d3 hdec hfin hL hv4 hinv
      go_wp2_with fail
      go_quiet (fail)
      go_wp2_with fail
      go_ret
      exact FIN.out _
end Go.Proofs.Ytkdhajiplonloaa
