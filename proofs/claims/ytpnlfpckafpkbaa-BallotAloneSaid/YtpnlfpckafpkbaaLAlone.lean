/- BallotAlone: the law's walk. -/
import Derived.Test.YtpnlfpckafpkbaaBalP
namespace Go.Proofs.Ytpnlfpckafpkbaa
open Go.RowKit OctM

/-- What is in the law's box. -/
def BxS (w W : World) (B : Nat) (p : Sc) (N : Nat) (qs : List (En × Value)) (vs ns ms : List Value) : Prop :=
  ∃ od cd ol cl ov cv on cn om cm, Bx w W B p qs vs ns ms (.slice od 0 cd) (.slice ol N cl) (.slice ov 1 cv) (.slice on 1 cn) (.slice om 1 cm) ∧ qs.length = N
theorem Bx.S {w W : World} {B : Nat} {p : Sc} {qs : List (En × Value)} {b : Bool} {zn zm : Nat} {d l v n m : Value} (h : Bx w W B p qs [.bool b] [Wd zn] [Wd zm] d l v n m) : BxS w W B p qs.length qs [.bool b] [Wd zn] [Wd zm] := by
  obtain ⟨od, cd, rfl⟩ := own_slice' h.st.hd
  obtain ⟨ol, cl, rfl⟩ := own_slice' h.st.hl.row
  obtain ⟨ov, cv, rfl⟩ := own_slice' h.st.hv
  obtain ⟨on, cn, rfl⟩ := own_slice' h.st.hn
  obtain ⟨om, cm, rfl⟩ := own_slice' h.st.hm
  exact ⟨_, _, _, _, _, _, _, _, _, _, h, rfl⟩

/-- Before the j-th tick, and behind them all. -/
def AtJ (wA W : World) (B k j : Nat) : Prop :=
  (j < k → BxS wA W B (scW k ((k : Int) - (j : Int))) 0 [] [.bool false] [Wd 0] [Wd 0]) ∧ (j = k → ∃ q lf, BxS wA W B (scL k lf 1) 1 [q] [.bool true] [Wd 1] [Wd 1] ∧ q.1.tm = 1 ∧ q.1.cl.length ≤ 4000)
/-- Before the i-th entry. -/
def AtI (wA W : World) (B k i : Nat) : Prop :=
  ∃ qs lf, BxS wA W B (scL k lf (i + 1)) (i + 1) qs [.bool true] [Wd 1] [Wd (i + 1)] ∧ ∀ q ∈ qs, q.1.cl.length ≤ 4000
theorem alone_tick (wA : World) (B k j : Nat) (draw : Int) (hj : j < k) (hk : k ≤ 51) : ∃ (P2 : Sc) (L2 : List En) (b2 : Bool) (zn zm : Nat), (∀ base W d l v n m, StO W base [] [] [.bool false] [Wd 0] [Wd 0] d l v n m → Calls Try.prog 20 #[stV (scW k ((k : Int) - (j : Int))) d l v n m, .int .i64 draw] W (TickP P2 L2 [.bool b2] [Wd zn] [Wd zm] W)) ∧
    (∀ W' qs d l v n m, qs.map Prod.fst = L2 → Bx wA W' B P2 qs [.bool b2] [Wd zn] [Wd zm] d l v n m → AtJ wA W' B k (j + 1)) := by
  by_cases h : j + 1 < k
  · refine ⟨scW k ((k : Int) - ((j + 1 : Nat) : Int)), [], false, 0, 0, fun base W d l v n m hO => tick_any _ _ _ _ _ _ base draw false 0 0 d l v n m W hO rfl rfl rfl (.inl ⟨by show 2 ≤ (k : Int) - (j : Int); omega, by show (k : Int) - (j : Int) ≤ 2000; omega, ?_, rfl, rfl, rfl, rfl⟩), ?_⟩
    · unfold scW
      simp only [Sc.mk.injEq, true_and]
      omega
    · intro W' qs d l v n m hq hb
      obtain rfl : qs = [] := by simpa using hq
      exact ⟨fun _ => hb.S, fun e => by omega⟩
  · have hjk : j + 1 = k := by omega
    have hlf : (k : Int) - (j : Int) = 1 := by omega
    rw [hlf]
    refine ⟨scL k (waitS k draw) 1, [⟨1, 0, 0, []⟩], true, 1, 1, fun base W d l v n m hO => tick_any _ _ _ _ _ _ base draw false 0 0 d l v n m W hO rfl rfl rfl (.inr ⟨rfl, rfl, rfl, rfl, by show (0 : Nat) ≤ 1000; omega, by show (0 : Int) ≤ k; omega, by show (k : Int) ≤ 1000; omega, rfl, rfl, rfl, rfl, rfl⟩), ?_⟩
    intro W' qs d l v n m hq hb
    refine ⟨fun e => by omega, fun _ => ?_⟩
    rcases qs with _ | ⟨q, _ | ⟨q', r⟩⟩
    · simp at hq
    · have hq1 : q.1 = ⟨1, 0, 0, []⟩ := by simpa using hq
      exact ⟨q, _, hb.S, by rw [hq1], by rw [hq1]; simp⟩
    · simp at hq

set_option maxHeartbeats 16000000 in
set_option maxRecDepth 100000 in
theorem alone_walk (wt : Int) (v : Value) (cs : List (List UInt8)) (draw : Int) (w : World) (hw0 : 0 ≤ wt) (hw1 : wt ≤ 255) (hv : RdBB w v cs) (_hd0 : -9223372036854775808 ≤ draw) (_hd1 : draw ≤ 9223372036854775807) :
    Calls Try.prog 6 #[.int .u8 wt, v, .int .i64 draw] w fun e w' => e = .returned (.bool true) ∧ Below w.heap.size w w' := by
  obtain ⟨ob, cb, rfl⟩ := hv.form
  have HV := Lib.hid hv
  clear hv
  go_enter Try.func6, Try.ntmps6
  go_wp2_with fail
  refine (bawake w).mono ?_
  rintro e wA ⟨rfl, hbA⟩
  have HBA := Lib.hid hbA
  clear hbA
  by_cases hlong : 20 < cs.length
  · have hlI : (20 : Int) < (cs.length : Int) := by omega
    go_wp2_with fail
    refine (bawake _).mono ?_
    rintro e w2 ⟨rfl, hb2⟩
    have HB2 := Lib.hid (HBA.out.trans (hb2.mono HBA.out.size))
    clear hb2
    go_wp2_with fail
    go_ret
    exact ⟨rfl, HB2.out⟩
  · have hlI : ¬ (20 : Int) < (cs.length : Int) := by omega
    obtain ⟨k, hk⟩ : ∃ k : Nat, (k : Int) = 2 + wt % 50 := ⟨(2 + wt % 50).toNat, by omega⟩
    have hk2 : 2 ≤ k ∧ k ≤ 51 := by omega
    have eR : wt.tmod 50 = wt % 50 := Int.tmod_eq_emod_of_nonneg hw0
    have HK := Lib.hid hk
    have HN := Lib.hid (new_one (k : Int) wA (by omega) (by omega))
    clear hlong
    go_wp2_with fail
    rw [← HK.out]
    clear hk eR
    with_reducible refine HN.out.mono ?_
    rintro e W1 ⟨v1, n1, m1, rfl, hst, hb1⟩
    obtain ⟨ov1, cv1, rfl⟩ := own_slice' hst.hv
    obtain ⟨on1, cn1, rfl⟩ := own_slice' hst.hn
    obtain ⟨om1, cm1, rfl⟩ := own_slice' hst.hm
    simp only [List.length_nil, List.length_cons, Nat.zero_add] at hst ⊢
    have hbx := bx_new (p := scW k k) hst hb1
    have HBX := Lib.hid hbx
    clear hst hb1 hbx HN
    unfold zsC at HBX
    unfold stV scW stC
    try dsimp only
    try simp only [show ((0 : Nat) : Int) = 0 from rfl]
    go_upto_region 5 with (refine wpList_store_row rfl 41 (.tmp 8) (.tmp 32) rfl W1.heap.size (stC (scW k k) (.slice none 0 0) (.slice none 0 0) (.slice ov1 1 cv1) (.slice on1 1 cn1) (.slice om1 1 cm1)).toArray rfl rfl 41 zsC.toArray (heap_alloc_new W1 _) (by kernel_rfl) rfl (by simp [stC, scW, Value.oneCell']) ?_)
    obtain ⟨B, hB⟩ : ∃ B, W1.heap.size = B := ⟨_, rfl⟩
    rw [hB] at HBX ⊢
    clear hB
    generalize (W1.alloc (.cells #[.int .i64 0, .int .i64 0, .int .i64 0, .int .u64 0, .int .i64 0, .int .u64 0, .int .u64 0, .slice none 0 0, .slice none 0 0, .int .u64 0, .int .u8 0, .int .i64 0, .int .i64 0, .slice none 0 0, .slice none 0 0, .slice none 0 0] 41)).setRow B (stC (scW k k) (.slice none 0 0) (.slice none 0 0) (.slice ov1 1 cv1) (.slice on1 1 cn1) (.slice om1 1 cm1)).toArray = W2 at *
    have HS0 := Lib.hid (show BxS wA W2 B (scW k k) 0 [] [.bool false] [Wd 0] [Wd 0] from ⟨_, _, _, _, _, _, _, _, _, _, HBX.out, rfl⟩)
    clear HBX
    go_wp2_with fail
    go_loopw [10] (fun i wr => ∃ j : Nat, j ≤ k ∧ i = .int .i64 (j : Int) ∧ Hid (AtJ wA wr B k j)) (fun i _ => k - (intOf i).toNat)
    case atStart => exact ⟨0, by omega, rfl, Lib.hid ⟨fun _ => by simpa using HS0.out, fun h => by omega⟩⟩
    case round =>
      obtain ⟨j, hj, rfl, HR⟩ := hrel
      generalize wr = wi at *
      by_cases hlt : j < k
      · have hjI : (j : Int) < (k : Int) := by omega
        obtain ⟨od, cd, ol, cl, ov, cv, on, cn, om, cm, hbx, -⟩ := HR.out.1 hlt
        have x0 : wi.cell? ⟨B, 0, none⟩ = some (.int .i64 1) := cellk hbx.box rfl
        have x1 : wi.cell? ⟨B, 1, none⟩ = some (.int .i64 0) := cellk hbx.box rfl
        have x2 : wi.cell? ⟨B, 2, none⟩ = some (.int .i64 (k : Int)) := cellk hbx.box rfl
        have x3 : wi.cell? ⟨B, 3, none⟩ = some (.int .u64 0) := cellk hbx.box rfl
        have x4 : wi.cell? ⟨B, 4, none⟩ = some (.int .i64 (-1)) := cellk hbx.box rfl
        have x5 : wi.cell? ⟨B, 5, none⟩ = some (.int .u64 0) := cellk hbx.box rfl
        have x6 : wi.cell? ⟨B, 6, none⟩ = some (.int .u64 0) := cellk hbx.box rfl
        have x7 : wi.cell? ⟨B, 7, none⟩ = some (.slice od 0 cd) := cellk hbx.box rfl
        have x8 : wi.cell? ⟨B, 8, none⟩ = some (.slice ol 0 cl) := cellk hbx.box rfl
        have x9 : wi.cell? ⟨B, 9, none⟩ = some (.int .u64 0) := cellk hbx.box rfl
        have x10 : wi.cell? ⟨B, 10, none⟩ = some (.int .u8 0) := cellk hbx.box rfl
        have x11 : wi.cell? ⟨B, 11, none⟩ = some (.int .i64 (-1)) := cellk hbx.box rfl
        have x12 : wi.cell? ⟨B, 12, none⟩ = some (.int .i64 ((k : Int) - (j : Int))) := cellk hbx.box rfl
        have x13 : wi.cell? ⟨B, 13, none⟩ = some (.slice ov 1 cv) := cellk hbx.box rfl
        have x14 : wi.cell? ⟨B, 14, none⟩ = some (.slice on 1 cn) := cellk hbx.box rfl
        have x15 : wi.cell? ⟨B, 15, none⟩ = some (.slice om 1 cm) := cellk hbx.box rfl
        have xl := lt_of_block hbx.box
        obtain ⟨P2, L2, b2, zn2, zm2, hTK, hnext⟩ := alone_tick wA B k j draw hlt hk2.2
        have htk := hTK wA.heap.size wi _ _ _ _ _ hbx.st
        unfold stV scW stC at htk
        try dsimp only at htk
        try simp only [show ((0 : Nat) : Int) = 0 from rfl] at htk
        have HTK := Lib.hid htk
        have HNX := Lib.hid hnext
        have HBX := Lib.hid hbx
        clear htk hnext hTK hbx HR HS0
        go_wp2_with fail
        with_reducible refine HTK.out.mono ?_
        rintro e W3 ⟨d3, l3, v3, n3, m3, qs3, rfl, hqs, hst, hbl⟩
        obtain ⟨od3, cd3, rfl⟩ := own_slice' hst.hd
        obtain ⟨ol3, cl3, rfl⟩ := own_slice' hst.hl.row
        obtain ⟨ov3, cv3, rfl⟩ := own_slice' hst.hv
        obtain ⟨on3, cn3, rfl⟩ := own_slice' hst.hn
        obtain ⟨om3, cm3, rfl⟩ := own_slice' hst.hm
        simp only [List.length_nil, List.length_cons, Nat.zero_add] at hst ⊢
        obtain ⟨hbo, hbs⟩ := HBX.out.set (p' := P2) hst hbl
        have HBO := Lib.hid hbo
        have HAT := Lib.hid (HNX.out _ _ _ _ _ _ _ hqs hbs)
        clear hbs hbo hst hbl hqs HTK HBX HNX x0 x1 x2 x3 x4 x5 x6 x7 x8 x9 x10 x11 x12 x13 x14 x15 xl
        unfold stV stC
        go_wp2_with (refine wpList_store_row rfl 41 (.tmp 8) (.tmp 48) rfl B (stC P2 (.slice od3 0 cd3) (.slice ol3 qs3.length cl3) (.slice ov3 1 cv3) (.slice on3 1 cn3) (.slice om3 1 cm3)).toArray rfl rfl 41 _ HBO.out (by kernel_rfl) rfl (by simp [stC, Value.oneCell']) ?_)
        go_roundw
        case rel => exact ⟨j + 1, by omega, by go_num, HAT⟩
        case measure => simp [intOf]; omega
      · obtain rfl : j = k := by omega
        have hjI : ¬ (j : Int) < (j : Int) := by omega
        obtain ⟨q, lf, hbs, -, hq⟩ := HR.out.2 rfl
        have HAI := Lib.hid (show AtI wA wi B j 0 from ⟨[q], lf, hbs, fun q' hq' => by
          obtain rfl := List.mem_singleton.1 hq'
          exact hq⟩)
        obtain ⟨od, cd, ol, cl, ov, cv, on, cn, om, cm, hbx, -⟩ := hbs
        have x10 : wi.cell? ⟨B, 10, none⟩ = some (.int .u8 2) := cellk hbx.box rfl
        have x3 : wi.cell? ⟨B, 3, none⟩ = some (.int .u64 1) := cellk hbx.box rfl
        have x9 : wi.cell? ⟨B, 9, none⟩ = some (.int .u64 1) := cellk hbx.box rfl
        have xl := lt_of_block hbx.box
        clear hbx hq HR HS0 hlt
        go_wp2_with fail
        clear x10 x3 x9 xl
        go_loopw [12] (fun i wr => ∃ t : Nat, t ≤ cs.length ∧ i = .int .i64 (t : Int) ∧ Hid (AtI wA wr B j t)) (fun i _ => cs.length - (intOf i).toNat)
        case atStart => exact ⟨0, by omega, rfl, HAI⟩
        case round =>
          obtain ⟨t, ht, rfl, HI⟩ := hrel
          generalize wr = wj at *
          by_cases hlt : t < cs.length
          · have htI : (t : Int) < (cs.length : Int) := by omega
            obtain ⟨bb, off, cc, hob, hcl, hcm, hcs⟩ : ∃ b off c, (Value.slice ob cs.length cb) = .slice (some ⟨b, off, none⟩) cs.length c ∧ cs.length ≤ c ∧ c ≤ maxLen ∧ ∀ (j : Nat) (l : List UInt8), cs[j]? = some l → ∃ u, w.cell? ⟨b, off + j, none⟩ = some u ∧ Rd w u l := by
              rcases HV.out with ⟨_, _, _, h0⟩ | h0
              · rw [h0] at hlt; simp at hlt
              · exact h0
            injection hob with hob hob1 hob2
            subst hob hob2
            obtain ⟨u, hu, hru⟩ := hcs t _ (List.getElem?_eq_getElem hlt)
            obtain ⟨L, hL⟩ : ∃ L, cs[t] = L := ⟨_, rfl⟩
            rw [hL] at hru
            obtain ⟨ou, cu, rfl⟩ : ∃ o c, u = .slice o L.length c := by
              rcases hru with ⟨rfl, rfl⟩ | ⟨a, c, rfl, _⟩
              · exact ⟨_, _, rfl⟩
              · exact ⟨_, _, rfl⟩
            obtain ⟨qs, lf2, hbs, hqs⟩ := HI.out
            obtain ⟨od2, cd2, ol2, cl2, ov2, cv2, on2, cn2, om2, cm2, hbx, hql⟩ := hbs
            have hbw : Below w.heap.size w wj := HBA.out.trans (hbx.bel.mono HBA.out.size)
            have huj := (hbw.cell (p := ⟨bb, off + t, none⟩) (World.block_lt_of_cell? w _ hu)).trans hu
            have hul := World.block_lt_of_cell? wj _ huj
            have hruj := hru.below hbw
            have HRU := Lib.hid (And.intro hru (And.intro hu hbw))
            have HBX := Lib.hid (And.intro hbx (And.intro hql hqs))
            have hul' : bb < wj.heap.size := hul
            clear hbw hu hru hcs hcl hcm hL hbx hql hqs hob1 hul HI HAI
            by_cases h2000 : 2000 < L.length
            · have hl2 : (2000 : Int) < (L.length : Int) := by omega
              have HBF := Lib.hid HRU.out.2.2
              go_wp2_with fail
              go_ret
              exact ⟨rfl, HBF.out⟩
            · have hl2 : ¬ (2000 : Int) < (L.length : Int) := by omega
              obtain ⟨J, hJ⟩ : ∃ J, J = t + 1 := ⟨_, rfl⟩
              rw [← hJ] at HBX
              have ht20 : t ≤ 20 := by omega
              have hJ9 : J ≤ 21 := by omega
              have HJ := Lib.hid hJ
              clear hJ
              have hbx := HBX.out.1
              have x0 : wj.cell? ⟨B, 0, none⟩ = some (.int .i64 1) := cellk hbx.box rfl
              have x1 : wj.cell? ⟨B, 1, none⟩ = some (.int .i64 0) := cellk hbx.box rfl
              have x2 : wj.cell? ⟨B, 2, none⟩ = some (.int .i64 (j : Int)) := cellk hbx.box rfl
              have x3 : wj.cell? ⟨B, 3, none⟩ = some (.int .u64 1) := cellk hbx.box rfl
              have x4 : wj.cell? ⟨B, 4, none⟩ = some (.int .i64 0) := cellk hbx.box rfl
              have x5 : wj.cell? ⟨B, 5, none⟩ = some (.int .u64 0) := cellk hbx.box rfl
              have x6 : wj.cell? ⟨B, 6, none⟩ = some (.int .u64 0) := cellk hbx.box rfl
              have x7 : wj.cell? ⟨B, 7, none⟩ = some (.slice od2 0 cd2) := cellk hbx.box rfl
              have x8 : wj.cell? ⟨B, 8, none⟩ = some (.slice ol2 J cl2) := cellk hbx.box rfl
              have x9 : wj.cell? ⟨B, 9, none⟩ = some (.int .u64 (J : Int)) := cellk hbx.box rfl
              have x10 : wj.cell? ⟨B, 10, none⟩ = some (.int .u8 2) := cellk hbx.box rfl
              have x11 : wj.cell? ⟨B, 11, none⟩ = some (.int .i64 0) := cellk hbx.box rfl
              have x12 : wj.cell? ⟨B, 12, none⟩ = some (.int .i64 lf2) := cellk hbx.box rfl
              have x13 : wj.cell? ⟨B, 13, none⟩ = some (.slice ov2 1 cv2) := cellk hbx.box rfl
              have x14 : wj.cell? ⟨B, 14, none⟩ = some (.slice on2 1 cn2) := cellk hbx.box rfl
              have x15 : wj.cell? ⟨B, 15, none⟩ = some (.slice om2 1 cm2) := cellk hbx.box rfl
              have xl := lt_of_block hbx.box
              have hpr : ∀ W, Below wj.heap.size wj W → Calls Try.prog 21 #[stV (scL j lf2 J) (.slice od2 0 cd2) (.slice ol2 J cl2) (.slice ov2 1 cv2) (.slice on2 1 cn2) (.slice om2 1 cm2), .int .u64 ((3 : Nat) : Int), .int .u64 (t : Int), .slice ou L.length cu] W (PropP (scL j lf2 (J + 1)) (qs.map Prod.fst ++ [⟨1, 3, t, L⟩]) [.bool true] [Wd 1] [Wd (J + 1)] (J + 1) W) := by
                intro W hb
                have hql := HBX.out.2.1
                have h := prop_one (scL j lf2 J) wA.heap.size 3 t qs true 1 J _ _ _ _ _ (.slice ou L.length cu) L W (hbx.st.below hb) rfl rfl rfl rfl HBX.out.2.2 (by omega) (by show J < qs.length + 1; omega) (hruj.below hb) (by omega)
                rw [hql] at h
                exact h
              unfold stV stC scL at hpr
              try dsimp only at hpr
              simp only [show ((0 : Nat) : Int) = 0 from rfl, show ((1 : Nat) : Int) = 1 from rfl, show ((2 : Nat) : Int) = 2 from rfl, show ((3 : Nat) : Int) = 3 from rfl] at hpr
              have HPR := Lib.hid hpr
              clear hpr hbx
              have hwt : IntKind.u64.wrap (t : Int) = (t : Int) := by rw [IntKind.wrap_u64]; omega
              go_upto_region 23 with fail
              go_cut [13, 14, 15, 16] (fun v13 v14 v15 v16 wx => ∃ wy X, wy = wx ∧ v13 = .pointer (some ⟨X, 0, none⟩) ∧ v14 = .slice none 0 0 ∧ v15 = .int .u64 ((J + 1 : Nat) : Int) ∧ v16 = .int .i64 0 ∧ Hid (∃ od cd ol cl ov cv on cn om cm qs', qs'.map Prod.fst = qs.map Prod.fst ++ [⟨1, 3, t, L⟩] ∧ Nx wj wy X (scL j lf2 (J + 1)) qs' [.bool true] [Wd 1] [Wd (J + 1)] (.slice od 0 cd) (.slice ol (J + 1) cl) (.slice ov 1 cv) (.slice on 1 cn) (.slice om 1 cm)))
              case first =>
                as_aux_lemma =>
                  rename_i JJ KK hJJ hMJ
                  refine wp_region_held_drew (S := fun w' => Below wj.heap.size wj w') (by kernel_rfl) ((Below.refl _ _).drew) ?_
                  intro hHeld
                  refine wpAnyH_take (i := 0) (v := ?_) (by simp only [List.getElem?_toArray, List.getElem?_cons_zero]; rfl) (by kernel_rfl) (by kernel_rfl) (by kernel_rfl) (by intro _ _ _ h; exact h) (Or.inl ⟨by rfl, ?_⟩) (by assumption) ?_
                  rotate_left
                  · (intro W hSw; (try dsimp only at hSw); have yl : B < W.heap.size := Nat.lt_of_lt_of_le xl hSw.size; have y0 := (hSw.cell (p := ⟨B, 0, none⟩) xl).trans x0; have y1 := (hSw.cell (p := ⟨B, 1, none⟩) xl).trans x1; have y2 := (hSw.cell (p := ⟨B, 2, none⟩) xl).trans x2; have y3 := (hSw.cell (p := ⟨B, 3, none⟩) xl).trans x3; have y4 := (hSw.cell (p := ⟨B, 4, none⟩) xl).trans x4; have y5 := (hSw.cell (p := ⟨B, 5, none⟩) xl).trans x5; have y6 := (hSw.cell (p := ⟨B, 6, none⟩) xl).trans x6; have y7 := (hSw.cell (p := ⟨B, 7, none⟩) xl).trans x7; have y8 := (hSw.cell (p := ⟨B, 8, none⟩) xl).trans x8; have y9 := (hSw.cell (p := ⟨B, 9, none⟩) xl).trans x9; have y10 := (hSw.cell (p := ⟨B, 10, none⟩) xl).trans x10; have y11 := (hSw.cell (p := ⟨B, 11, none⟩) xl).trans x11; have y12 := (hSw.cell (p := ⟨B, 12, none⟩) xl).trans x12; have y13 := (hSw.cell (p := ⟨B, 13, none⟩) xl).trans x13; have y14 := (hSw.cell (p := ⟨B, 14, none⟩) xl).trans x14; have y15 := (hSw.cell (p := ⟨B, 15, none⟩) xl).trans x15; go_simp; try with_reducible rfl)
                  try simp only [Act.put, List.setIfInBounds_toArray, List.set_cons_zero, List.set_cons_succ]
                  refine wpAnyH_take (i := 1) (v := ?_) (by simp only [List.getElem?_toArray, List.getElem?_cons_succ, List.getElem?_cons_zero]; rfl) (by kernel_rfl) (by kernel_rfl) (by kernel_rfl) (by intro _ _ _ h; exact h) (Or.inl ⟨by rfl, ?_⟩) (by assumption) ?_
                  rotate_left
                  · (intro w hSw; (try dsimp only at hSw); go_simp; try with_reducible rfl)
                  try simp only [Act.put, List.setIfInBounds_toArray, List.set_cons_zero, List.set_cons_succ]
                  refine wpAnyH_take (i := 2) (v := ?_) (by simp only [List.getElem?_toArray, List.getElem?_cons_succ, List.getElem?_cons_zero]; rfl) (by kernel_rfl) (by kernel_rfl) (by kernel_rfl) (by intro _ _ _ h; exact h) (Or.inl ⟨by rfl, ?_⟩) (by assumption) ?_
                  rotate_left
                  · (intro w hSw; (try dsimp only at hSw); go_simp; try with_reducible rfl)
                  try simp only [Act.put, List.setIfInBounds_toArray, List.set_cons_zero, List.set_cons_succ]
                  refine wpAnyH_take (i := 3) (v := ?_) (by simp only [List.getElem?_toArray, List.getElem?_cons_succ, List.getElem?_cons_zero]; rfl) (by kernel_rfl) (by kernel_rfl) (by kernel_rfl) (by intro _ _ _ h; exact h) (Or.inl ⟨by rfl, ?_⟩) (by assumption) ?_
                  rotate_left
                  · (intro w hSw; (try dsimp only at hSw); go_simp; try with_reducible rfl)
                  try simp only [Act.put, List.setIfInBounds_toArray, List.set_cons_zero, List.set_cons_succ]
                  refine wpAnyH_take (i := 4) (v := ?_) (by simp only [List.getElem?_toArray, List.getElem?_cons_succ, List.getElem?_cons_zero]; rfl) (by kernel_rfl) (by kernel_rfl) (by kernel_rfl) (by intro _ _ _ h; exact h) (Or.inl ⟨by rfl, ?_⟩) (by assumption) ?_
                  rotate_left
                  · (intro w hSw; (try dsimp only at hSw); go_simp; try with_reducible rfl)
                  try simp only [Act.put, List.setIfInBounds_toArray, List.set_cons_zero, List.set_cons_succ]
                  refine wpAnyH_take (i := 5) (v := ?_) (by simp only [List.getElem?_toArray, List.getElem?_cons_succ, List.getElem?_cons_zero]; rfl) (by kernel_rfl) (by kernel_rfl) (by kernel_rfl) (by intro _ _ _ h; exact h) (Or.inl ⟨by rfl, ?_⟩) (by assumption) ?_
                  rotate_left
                  · (intro w hSw; (try dsimp only at hSw); go_simp; try with_reducible rfl)
                  try simp only [Act.put, List.setIfInBounds_toArray, List.set_cons_zero, List.set_cons_succ]
                  refine wpAnyH_take (i := 6) (v := ?_) (by simp only [List.getElem?_toArray, List.getElem?_cons_succ, List.getElem?_cons_zero]; rfl) (by kernel_rfl) (by kernel_rfl) (by kernel_rfl) (by intro _ _ _ h; exact h) (Or.inl ⟨by rfl, ?_⟩) (by assumption) ?_
                  rotate_left
                  · (intro W hSw; (try dsimp only at hSw); have yl : bb < W.heap.size := Nat.lt_of_lt_of_le hul' hSw.size; have yu := (hSw.cell (p := ⟨bb, off + t, none⟩) hul').trans huj; go_simp; try with_reducible rfl)
                  try simp only [Act.put, List.setIfInBounds_toArray, List.set_cons_zero, List.set_cons_succ]
                  refine wpAnyH_ready (rs := [7, 13]) (by kernel_rfl) (by simp) ?_
                  refine AllReadyH.cons (by simp only [List.getElem?_toArray, List.getElem?_cons_succ, List.getElem?_cons_zero]; rfl) (fun K hK => ?_) ?_
                  ·
                    go_simp
                    with_reducible refine (HPR.out _ ((Below.refl _ _).drew)).mono ?_
                    rintro e W4 ⟨d4, l4, v4, n4, m4, qs4, rfl, hq4, hst4, hb4⟩
                    have hl4 : qs4.length = J + 1 := by have := congrArg List.length hq4; simpa [HBX.out.2.1] using this
                    obtain ⟨od4, cd4, rfl⟩ := own_slice' hst4.hd
                    obtain ⟨ol4, cl4, rfl⟩ := own_slice' hst4.hl.row
                    obtain ⟨ov4, cv4, rfl⟩ := own_slice' hst4.hv
                    obtain ⟨on4, cn4, rfl⟩ := own_slice' hst4.hn
                    obtain ⟨om4, cm4, rfl⟩ := own_slice' hst4.hm
                    simp only [hl4, List.length_nil, List.length_cons, Nat.zero_add] at hst4 ⊢
                    have hbw4 : Below wj.heap.size wj W4 := ((Below.refl _ wj).drew).trans hb4
                    have hst5 : StO W4 wj.heap.size [] qs4 [.bool true] [Wd 1] [Wd (J + 1)] (.slice od4 0 cd4) (.slice ol4 (J + 1) cl4) (.slice ov4 1 cv4) (.slice on4 1 cn4) (.slice om4 1 cm4) := hst4
                    refine hK.out _ _ hbw4 (fun hHeld => ?_)
                    clear hK K
                    try simp only [Act.put, List.setIfInBounds_toArray, List.set_cons_zero, List.set_cons_succ]
                    unfold stV stC
                    refine wpAnyH_take (i := 8) (v := ?_) (by simp only [List.getElem?_toArray, List.getElem?_cons_succ, List.getElem?_cons_zero]; rfl) (by kernel_rfl) (by kernel_rfl) (by kernel_rfl) (by intro _ _ _ h; exact h) (Or.inl ⟨by rfl, ?_⟩) (by assumption) ?_
                    rotate_left
                    · (intro w hSw; (try dsimp only at hSw); go_simp; try with_reducible rfl)
                    try simp only [Act.put, List.setIfInBounds_toArray, List.set_cons_zero, List.set_cons_succ]
                    refine wpAnyH_take (i := 9) (v := ?_) (by simp only [List.getElem?_toArray, List.getElem?_cons_succ, List.getElem?_cons_zero]; rfl) (by kernel_rfl) (by kernel_rfl) (by kernel_rfl) (by intro _ _ _ h; exact h) (Or.inl ⟨by rfl, ?_⟩) (by assumption) ?_
                    rotate_left
                    · (intro w hSw; (try dsimp only at hSw); go_simp; try with_reducible rfl)
                    try simp only [Act.put, List.setIfInBounds_toArray, List.set_cons_zero, List.set_cons_succ]
                    refine wpAnyH_take (i := 10) (v := ?_) (by simp only [List.getElem?_toArray, List.getElem?_cons_succ, List.getElem?_cons_zero]; rfl) (by kernel_rfl) (by kernel_rfl) (by kernel_rfl) (by intro _ _ _ h; exact h) (Or.inl ⟨by rfl, ?_⟩) (by assumption) ?_
                    rotate_left
                    · (intro w hSw; (try dsimp only at hSw); go_simp; try with_reducible rfl)
                    try simp only [Act.put, List.setIfInBounds_toArray, List.set_cons_zero, List.set_cons_succ]
                    refine wpAnyH_take (i := 11) (v := ?_) (by simp only [List.getElem?_toArray, List.getElem?_cons_succ, List.getElem?_cons_zero]; rfl) (by kernel_rfl) (by kernel_rfl) (by kernel_rfl) (by intro _ _ _ h; exact h) (Or.inl ⟨by rfl, ?_⟩) (by assumption) ?_
                    rotate_left
                    · (intro w hSw; (try dsimp only at hSw); go_simp; try with_reducible rfl)
                    try simp only [Act.put, List.setIfInBounds_toArray, List.set_cons_zero, List.set_cons_succ]
                    refine wpAnyH_take (i := 12) (v := ?_) (by simp only [List.getElem?_toArray, List.getElem?_cons_succ, List.getElem?_cons_zero]; rfl) (by kernel_rfl) (by kernel_rfl) (by kernel_rfl) (by intro _ _ _ h; exact h) (Or.inl ⟨by rfl, ?_⟩) (by assumption) ?_
                    rotate_left
                    · (intro w hSw; (try dsimp only at hSw); go_simp; try with_reducible rfl)
                    try simp only [Act.put, List.setIfInBounds_toArray, List.set_cons_zero, List.set_cons_succ]
                    refine wpAnyH_ready (rs := [13]) (by kernel_rfl) (by simp) ?_
                    refine AllReadyH.cons (by simp only [List.getElem?_toArray, List.getElem?_cons_succ, List.getElem?_cons_zero]; rfl) (fun K hK => ?_) AllReadyH.nil
                    go_simp
                    refine hK.out _ _ (hbw4.trans (((Below.refl _ _).alloc (Nat.le_refl _) _).mono hbw4.size)) (fun hHeld => ?_)
                    clear hK K
                    try simp only [Act.put, List.setIfInBounds_toArray, List.set_cons_zero, List.set_cons_succ]
                    refine wpAnyH_ready (rs := [14]) (by kernel_rfl) (by simp) ?_
                    refine AllReadyH.cons (by simp only [List.getElem?_toArray, List.getElem?_cons_succ, List.getElem?_cons_zero]; rfl) (fun K hK => ?_) AllReadyH.nil
                    refine step_store_row rfl 41 (.tmp 13) (.tmp 87) rfl W4.heap.size (stC (scL j lf2 (J + 1)) (.slice od4 0 cd4) (.slice ol4 (J + 1) cl4) (.slice ov4 1 cv4) (.slice on4 1 cn4) (.slice om4 1 cm4)).toArray rfl rfl 41 zsC.toArray (heap_alloc_new W4 _) (by kernel_rfl) rfl (by simp [stC, scL, Value.oneCell']) ?_
                    refine hK.out _ _ (nx_after (p := scL j lf2 (J + 1)) hst5 hbw4).bel (fun hHeld => ?_)
                    clear hK K
                    try simp only [Act.put]
                    refine wpAnyH_take (i := 15) (v := ?_) (by simp only [List.getElem?_toArray, List.getElem?_cons_succ, List.getElem?_cons_zero]; rfl) (by kernel_rfl) (by kernel_rfl) (by kernel_rfl) (by intro _ _ _ h; exact h) (Or.inl ⟨by rfl, ?_⟩) (by assumption) ?_
                    rotate_left
                    · (intro w hSw; (try dsimp only at hSw); go_simp; try with_reducible rfl)
                    try simp only [Act.put, List.setIfInBounds_toArray, List.set_cons_zero, List.set_cons_succ]
                    refine wpAnyH_take (i := 16) (v := ?_) (by simp only [List.getElem?_toArray, List.getElem?_cons_succ, List.getElem?_cons_zero]; rfl) (by kernel_rfl) (by kernel_rfl) (by kernel_rfl) (by intro _ _ _ h; exact h) (Or.inl ⟨by rfl, ?_⟩) (by assumption) ?_
                    rotate_left
                    · (intro w hSw; (try dsimp only at hSw); go_simp; try with_reducible rfl)
                    try simp only [Act.put, List.setIfInBounds_toArray, List.set_cons_zero, List.set_cons_succ]
                    refine wpAnyH_take (i := 17) (v := ?_) (by simp only [List.getElem?_toArray, List.getElem?_cons_succ, List.getElem?_cons_zero]; rfl) (by kernel_rfl) (by kernel_rfl) (by kernel_rfl) (by intro _ _ _ h; exact h) (Or.inl ⟨by rfl, ?_⟩) (by assumption) ?_
                    rotate_left
                    · (intro w hSw; (try dsimp only at hSw); go_simp; try with_reducible rfl)
                    try simp only [Act.put, List.setIfInBounds_toArray, List.set_cons_zero, List.set_cons_succ]
                    refine wpAnyH_done (by kernel_rfl) ?_ _
                    have HNX := Lib.hid (nx_after (p := scL j lf2 (J + 1)) hst5 hbw4)
                    clear hHeld hst4
                    refine hMJ _ _ (Met.intro ?_)
                    refine hJJ _ _ ?_
                    (repeat apply Exists.intro)
                    refine ⟨?_, rfl⟩
                    exact ⟨_, _, rfl, rfl, rfl, rfl, rfl, Lib.hid ⟨_, _, _, _, _, _, _, _, _, _, _, hq4, HNX.out⟩⟩
                  refine AllReadyH.cons (by simp only [List.getElem?_toArray, List.getElem?_cons_succ, List.getElem?_cons_zero]; rfl) (fun K hK => ?_) AllReadyH.nil
                  go_simp
                  obtain ⟨Wb, hWb⟩ : ∃ Wb, (wj.alloc (.cells zsC.toArray 41)).drew = Wb := ⟨_, rfl⟩
                  have hzb : Wb.heap[wj.heap.size]? = some (.cells zsC.toArray 41 (0, 0)) := by rw [← hWb]; exact heap_alloc_new wj _
                  have hbb : Below wj.heap.size wj Wb := by rw [← hWb]; exact ((Below.refl _ wj).alloc (Nat.le_refl _) _).drew
                  unfold zsC at hWb
                  rw [hWb]
                  refine hK.out _ _ hbb (fun hHeld => ?_)
                  clear hK K hWb
                  try simp only [Act.put, List.setIfInBounds_toArray, List.set_cons_zero, List.set_cons_succ]
                  refine wpAnyH_ready (rs := [7]) (by kernel_rfl) (by simp) ?_
                  refine AllReadyH.cons (by simp only [List.getElem?_toArray, List.getElem?_cons_succ, List.getElem?_cons_zero]; rfl) (fun K hK => ?_) AllReadyH.nil
                  go_simp
                  with_reducible refine (HPR.out _ hbb).mono ?_
                  rintro e W4 ⟨d4, l4, v4, n4, m4, qs4, rfl, hq4, hst4, hb4⟩
                  have hl4 : qs4.length = J + 1 := by have := congrArg List.length hq4; simpa [HBX.out.2.1] using this
                  obtain ⟨od4, cd4, rfl⟩ := own_slice' hst4.hd
                  obtain ⟨ol4, cl4, rfl⟩ := own_slice' hst4.hl.row
                  obtain ⟨ov4, cv4, rfl⟩ := own_slice' hst4.hv
                  obtain ⟨on4, cn4, rfl⟩ := own_slice' hst4.hn
                  obtain ⟨om4, cm4, rfl⟩ := own_slice' hst4.hm
                  simp only [hl4, List.length_nil, List.length_cons, Nat.zero_add] at hst4 ⊢
                  obtain ⟨hbz, hnx⟩ := nx_before (p := scL j lf2 (J + 1)) (Nat.le_refl _) hzb hbb hst4 hb4
                  refine hK.out _ _ (hbb.trans (hb4.mono hbb.size)) (fun hHeld => ?_)
                  clear hK K
                  try simp only [Act.put, List.setIfInBounds_toArray, List.set_cons_zero, List.set_cons_succ]
                  unfold stV stC
                  refine wpAnyH_take (i := 8) (v := ?_) (by simp only [List.getElem?_toArray, List.getElem?_cons_succ, List.getElem?_cons_zero]; rfl) (by kernel_rfl) (by kernel_rfl) (by kernel_rfl) (by intro _ _ _ h; exact h) (Or.inl ⟨by rfl, ?_⟩) (by assumption) ?_
                  rotate_left
                  · (intro w hSw; (try dsimp only at hSw); go_simp; try with_reducible rfl)
                  try simp only [Act.put, List.setIfInBounds_toArray, List.set_cons_zero, List.set_cons_succ]
                  refine wpAnyH_take (i := 9) (v := ?_) (by simp only [List.getElem?_toArray, List.getElem?_cons_succ, List.getElem?_cons_zero]; rfl) (by kernel_rfl) (by kernel_rfl) (by kernel_rfl) (by intro _ _ _ h; exact h) (Or.inl ⟨by rfl, ?_⟩) (by assumption) ?_
                  rotate_left
                  · (intro w hSw; (try dsimp only at hSw); go_simp; try with_reducible rfl)
                  try simp only [Act.put, List.setIfInBounds_toArray, List.set_cons_zero, List.set_cons_succ]
                  refine wpAnyH_take (i := 10) (v := ?_) (by simp only [List.getElem?_toArray, List.getElem?_cons_succ, List.getElem?_cons_zero]; rfl) (by kernel_rfl) (by kernel_rfl) (by kernel_rfl) (by intro _ _ _ h; exact h) (Or.inl ⟨by rfl, ?_⟩) (by assumption) ?_
                  rotate_left
                  · (intro w hSw; (try dsimp only at hSw); go_simp; try with_reducible rfl)
                  try simp only [Act.put, List.setIfInBounds_toArray, List.set_cons_zero, List.set_cons_succ]
                  refine wpAnyH_take (i := 11) (v := ?_) (by simp only [List.getElem?_toArray, List.getElem?_cons_succ, List.getElem?_cons_zero]; rfl) (by kernel_rfl) (by kernel_rfl) (by kernel_rfl) (by intro _ _ _ h; exact h) (Or.inl ⟨by rfl, ?_⟩) (by assumption) ?_
                  rotate_left
                  · (intro w hSw; (try dsimp only at hSw); go_simp; try with_reducible rfl)
                  try simp only [Act.put, List.setIfInBounds_toArray, List.set_cons_zero, List.set_cons_succ]
                  refine wpAnyH_take (i := 12) (v := ?_) (by simp only [List.getElem?_toArray, List.getElem?_cons_succ, List.getElem?_cons_zero]; rfl) (by kernel_rfl) (by kernel_rfl) (by kernel_rfl) (by intro _ _ _ h; exact h) (Or.inl ⟨by rfl, ?_⟩) (by assumption) ?_
                  rotate_left
                  · (intro w hSw; (try dsimp only at hSw); go_simp; try with_reducible rfl)
                  try simp only [Act.put, List.setIfInBounds_toArray, List.set_cons_zero, List.set_cons_succ]
                  refine wpAnyH_ready (rs := [14]) (by kernel_rfl) (by simp) ?_
                  refine AllReadyH.cons (by simp only [List.getElem?_toArray, List.getElem?_cons_succ, List.getElem?_cons_zero]; rfl) (fun K hK => ?_) AllReadyH.nil
                  refine step_store_row rfl 41 (.tmp 13) (.tmp 87) rfl wj.heap.size (stC (scL j lf2 (J + 1)) (.slice od4 0 cd4) (.slice ol4 (J + 1) cl4) (.slice ov4 1 cv4) (.slice on4 1 cn4) (.slice om4 1 cm4)).toArray rfl rfl 41 zsC.toArray hbz (by kernel_rfl) rfl (by simp [stC, scL, Value.oneCell']) ?_
                  refine hK.out _ _ hnx.bel (fun hHeld => ?_)
                  clear hK K
                  try simp only [Act.put]
                  refine wpAnyH_take (i := 15) (v := ?_) (by simp only [List.getElem?_toArray, List.getElem?_cons_succ, List.getElem?_cons_zero]; rfl) (by kernel_rfl) (by kernel_rfl) (by kernel_rfl) (by intro _ _ _ h; exact h) (Or.inl ⟨by rfl, ?_⟩) (by assumption) ?_
                  rotate_left
                  · (intro w hSw; (try dsimp only at hSw); go_simp; try with_reducible rfl)
                  try simp only [Act.put, List.setIfInBounds_toArray, List.set_cons_zero, List.set_cons_succ]
                  refine wpAnyH_take (i := 16) (v := ?_) (by simp only [List.getElem?_toArray, List.getElem?_cons_succ, List.getElem?_cons_zero]; rfl) (by kernel_rfl) (by kernel_rfl) (by kernel_rfl) (by intro _ _ _ h; exact h) (Or.inl ⟨by rfl, ?_⟩) (by assumption) ?_
                  rotate_left
                  · (intro w hSw; (try dsimp only at hSw); go_simp; try with_reducible rfl)
                  try simp only [Act.put, List.setIfInBounds_toArray, List.set_cons_zero, List.set_cons_succ]
                  refine wpAnyH_take (i := 17) (v := ?_) (by simp only [List.getElem?_toArray, List.getElem?_cons_succ, List.getElem?_cons_zero]; rfl) (by kernel_rfl) (by kernel_rfl) (by kernel_rfl) (by intro _ _ _ h; exact h) (Or.inl ⟨by rfl, ?_⟩) (by assumption) ?_
                  rotate_left
                  · (intro w hSw; (try dsimp only at hSw); go_simp; try with_reducible rfl)
                  try simp only [Act.put, List.setIfInBounds_toArray, List.set_cons_zero, List.set_cons_succ]
                  refine wpAnyH_done (by kernel_rfl) ?_ _
                  have HNX := Lib.hid hnx
                  clear hHeld hst4
                  refine hMJ _ _ (Met.intro ?_)
                  refine hJJ _ _ ?_
                  (repeat apply Exists.intro)
                  refine ⟨?_, rfl⟩
                  exact ⟨_, _, rfl, rfl, rfl, rfl, rfl, Lib.hid ⟨_, _, _, _, _, _, _, _, _, _, _, hq4, HNX.out⟩⟩
              case rest =>
                as_aux_lemma =>
                  obtain ⟨wy, X, rfl, rfl, rfl, rfl, rfl, HC⟩ := hcut
                  obtain ⟨od4, cd4, ol4, cl4, ov4, cv4, on4, cn4, om4, cm4, qs4, hq4, hnx⟩ := HC.out
                  have hL0 : (qs.map Prod.fst).length = J := by simp [HBX.out.2.1]
                  obtain ⟨gl, cl5, y, hlv, -, hgl, htm, hyc, hyo⟩ := nx_last hnx.st.hl hq4
                  rw [hL0] at hlv htm hyc
                  injection hlv with e1 e2 e3
                  subst e1 e3
                  clear e2
                  have hl4 : qs4.length = J + 1 := by have := congrArg List.length hq4; simpa [HBX.out.2.1] using this
                  obtain ⟨oy, cy, rfl⟩ := own_slice' hyo
                  obtain ⟨J1, hJ1⟩ : ∃ J1, J1 = J + 1 := ⟨_, rfl⟩
                  rw [← hJ1] at hnx hl4 ⊢
                  have hok4 : ∀ q ∈ qs4, q.1.cl.length ≤ 4000 := by
                    intro q hq
                    have h1 : q.1 ∈ qs.map Prod.fst ++ [(⟨1, 3, t, L⟩ : En)] := by rw [← hq4]; exact List.mem_map_of_mem hq
                    rcases List.mem_append.1 h1 with h1 | h1
                    · obtain ⟨q', hq', e⟩ := List.mem_map.1 h1
                      rw [← e]; exact HBX.out.2.2 q' hq'
                    · rw [List.mem_singleton.1 h1]; show L.length ≤ 4000; omega
                  obtain ⟨hbo, hbs⟩ := HBX.out.1.set (p' := scL j lf2 J1) hnx.drew.st hnx.drew.bel
                  have hat : AtI wA (wy.drew.setRow B (stC (scL j lf2 J1) (.slice od4 0 cd4) (.slice (some ⟨gl, 0, none⟩) J1 cl4) (.slice ov4 1 cv4) (.slice on4 1 cn4) (.slice om4 1 cm4)).toArray) B j (t + 1) := by
                    have hj := HJ.out
                    obtain rfl : J1 = t + 1 + 1 := by omega
                    exact ⟨qs4, lf2, ⟨_, _, _, _, _, _, _, _, _, _, hbs, hl4⟩, hok4⟩
                  have HAT := Lib.hid hat
                  have HBO := Lib.hid hbo
                  have e1 : IntKind.u64.wrap ((t : Int) + 2) = (J1 : Int) := by rw [IntKind.wrap_u64]; have := HJ.out; omega
                  have e2 : IntKind.u64.wrap ((J1 : Int) - 1) = (J : Int) := by rw [IntKind.wrap_u64]; omega
                  have hJJ1 : (J : Int) < (J1 : Int) := by omega
                  have hXl := lt_of_block hnx.box
                  have hux := (hnx.bel.cell (p := ⟨bb, off + t, none⟩) hul').trans huj
                  have hbl : bb < wy.heap.size := Nat.lt_of_lt_of_le hul' hnx.bel.size
                  have hts : (convert 35 9 (.slice oy L.length cy)).run Try.prog wy.drew = .ok (TxS L) wy.drew := toTx (w := wy.drew) (show Rd wy _ L from Rd.of_own hyo)
                  have htu : (convert 35 9 (.slice ou L.length cu)).run Try.prog wy.drew = .ok (TxS L) wy.drew := toTx (w := wy.drew) (show Rd wy _ L from hruj.below hnx.bel)
                  unfold TxS at hts htu
                  have z0 : wy.cell? ⟨X, 0, none⟩ = some (.int .i64 1) := cellk hnx.box rfl
                  have z1 : wy.cell? ⟨X, 1, none⟩ = some (.int .i64 0) := cellk hnx.box rfl
                  have z2 : wy.cell? ⟨X, 2, none⟩ = some (.int .i64 (j : Int)) := cellk hnx.box rfl
                  have z3 : wy.cell? ⟨X, 3, none⟩ = some (.int .u64 1) := cellk hnx.box rfl
                  have z4 : wy.cell? ⟨X, 4, none⟩ = some (.int .i64 0) := cellk hnx.box rfl
                  have z5 : wy.cell? ⟨X, 5, none⟩ = some (.int .u64 0) := cellk hnx.box rfl
                  have z6 : wy.cell? ⟨X, 6, none⟩ = some (.int .u64 0) := cellk hnx.box rfl
                  have z7 : wy.cell? ⟨X, 7, none⟩ = some (.slice od4 0 cd4) := cellk hnx.box rfl
                  have z8 : wy.cell? ⟨X, 8, none⟩ = some (.slice (some ⟨gl, 0, none⟩) J1 cl4) := cellk hnx.box rfl
                  have z9 : wy.cell? ⟨X, 9, none⟩ = some (.int .u64 (J1 : Int)) := cellk hnx.box rfl
                  have z10 : wy.cell? ⟨X, 10, none⟩ = some (.int .u8 2) := cellk hnx.box rfl
                  have z11 : wy.cell? ⟨X, 11, none⟩ = some (.int .i64 0) := cellk hnx.box rfl
                  have z12 : wy.cell? ⟨X, 12, none⟩ = some (.int .i64 lf2) := cellk hnx.box rfl
                  have z13 : wy.cell? ⟨X, 13, none⟩ = some (.slice ov4 1 cv4) := cellk hnx.box rfl
                  have z14 : wy.cell? ⟨X, 14, none⟩ = some (.slice on4 1 cn4) := cellk hnx.box rfl
                  have z15 : wy.cell? ⟨X, 15, none⟩ = some (.slice om4 1 cm4) := cellk hnx.box rfl
                  clear hbo hbs hat hok4 hnx hyo hJ1 hL0 HC HPR hq4 hl4 huj hruj x0 x1 x2 x3 x4 x5 x6 x7 x8 x9 x10 x11 x12 x13 x14 x15 xl
                  go_upto_region 24 with fail
                  refine wp_region_held_drew (S := fun w' => w' = wy.drew) (by kernel_rfl) rfl ?_
                  intro hHeld
                  refine wpAnyH_take (i := 0) (v := ?_) (by simp only [List.getElem?_toArray, List.getElem?_cons_zero]; rfl) (by kernel_rfl) (by kernel_rfl) (by kernel_rfl) (by intro _ _ _ h; exact h) (Or.inl ⟨by rfl, ?_⟩) (by assumption) ?_
                  rotate_left
                  · (intro W hSw; subst hSw; go_simp; try with_reducible rfl)
                  try simp only [Act.put, List.setIfInBounds_toArray, List.set_cons_zero, List.set_cons_succ]
                  refine wpAnyH_take (i := 1) (v := ?_) (by simp only [List.getElem?_toArray, List.getElem?_cons_succ, List.getElem?_cons_zero]; rfl) (by kernel_rfl) (by kernel_rfl) (by kernel_rfl) (by intro _ _ _ h; exact h) (Or.inl ⟨by rfl, ?_⟩) (by assumption) ?_
                  rotate_left
                  · (intro W hSw; subst hSw; go_simp; try with_reducible rfl)
                  try simp only [Act.put, List.setIfInBounds_toArray, List.set_cons_zero, List.set_cons_succ]
                  refine wpAnyH_take (i := 2) (v := ?_) (by simp only [List.getElem?_toArray, List.getElem?_cons_succ, List.getElem?_cons_zero]; rfl) (by kernel_rfl) (by kernel_rfl) (by kernel_rfl) (by intro _ _ _ h; exact h) (Or.inl ⟨by rfl, ?_⟩) (by assumption) ?_
                  rotate_left
                  · (intro W hSw; subst hSw; go_simp; try with_reducible rfl)
                  try simp only [Act.put, List.setIfInBounds_toArray, List.set_cons_zero, List.set_cons_succ]
                  refine wpAnyH_take (i := 3) (v := ?_) (by simp only [List.getElem?_toArray, List.getElem?_cons_succ, List.getElem?_cons_zero]; rfl) (by kernel_rfl) (by kernel_rfl) (by kernel_rfl) (by intro _ _ _ h; exact h) (Or.inl ⟨by rfl, ?_⟩) (by assumption) ?_
                  rotate_left
                  · (intro W hSw; subst hSw; go_simp; try with_reducible rfl)
                  try simp only [Act.put, List.setIfInBounds_toArray, List.set_cons_zero, List.set_cons_succ]
                  refine wpAnyH_take (i := 4) (v := ?_) (by simp only [List.getElem?_toArray, List.getElem?_cons_succ, List.getElem?_cons_zero]; rfl) (by kernel_rfl) (by kernel_rfl) (by kernel_rfl) (by intro _ _ _ h; exact h) (Or.inl ⟨by rfl, ?_⟩) (by assumption) ?_
                  rotate_left
                  · (intro W hSw; subst hSw; go_simp; try with_reducible rfl)
                  try simp only [Act.put, List.setIfInBounds_toArray, List.set_cons_zero, List.set_cons_succ]
                  refine wpAnyH_take (i := 5) (v := ?_) (by simp only [List.getElem?_toArray, List.getElem?_cons_succ, List.getElem?_cons_zero]; rfl) (by kernel_rfl) (by kernel_rfl) (by kernel_rfl) (by intro _ _ _ h; exact h) (Or.inl ⟨by rfl, ?_⟩) (by assumption) ?_
                  rotate_left
                  · (intro W hSw; subst hSw; go_simp; try with_reducible rfl)
                  try simp only [Act.put, List.setIfInBounds_toArray, List.set_cons_zero, List.set_cons_succ]
                  refine wpAnyH_take (i := 6) (v := ?_) (by simp only [List.getElem?_toArray, List.getElem?_cons_succ, List.getElem?_cons_zero]; rfl) (by kernel_rfl) (by kernel_rfl) (by kernel_rfl) (by intro _ _ _ h; exact h) (Or.inl ⟨by rfl, ?_⟩) (by assumption) ?_
                  rotate_left
                  · (intro W hSw; subst hSw; go_simp; try with_reducible rfl)
                  try simp only [Act.put, List.setIfInBounds_toArray, List.set_cons_zero, List.set_cons_succ]
                  refine wpAnyH_take (i := 7) (v := ?_) (by simp only [List.getElem?_toArray, List.getElem?_cons_succ, List.getElem?_cons_zero]; rfl) (by kernel_rfl) (by kernel_rfl) (by kernel_rfl) (by intro _ _ _ h; exact h) (Or.inl ⟨by rfl, ?_⟩) (by assumption) ?_
                  rotate_left
                  · (intro W hSw; subst hSw; go_simp; try with_reducible rfl)
                  try simp only [Act.put, List.setIfInBounds_toArray, List.set_cons_zero, List.set_cons_succ]
                  refine wpAnyH_take (i := 8) (v := ?_) (by simp only [List.getElem?_toArray, List.getElem?_cons_succ, List.getElem?_cons_zero]; rfl) (by kernel_rfl) (by kernel_rfl) (by kernel_rfl) (by intro _ _ _ h; exact h) (Or.inl ⟨by rfl, ?_⟩) (by assumption) ?_
                  rotate_left
                  · (intro W hSw; subst hSw; go_simp; try with_reducible rfl)
                  try simp only [Act.put, List.setIfInBounds_toArray, List.set_cons_zero, List.set_cons_succ]
                  refine wpAnyH_take (i := 9) (v := ?_) (by simp only [List.getElem?_toArray, List.getElem?_cons_succ, List.getElem?_cons_zero]; rfl) (by kernel_rfl) (by kernel_rfl) (by kernel_rfl) (by intro _ _ _ h; exact h) (Or.inl ⟨by rfl, ?_⟩) (by assumption) ?_
                  rotate_left
                  · (intro W hSw; subst hSw; go_simp; try with_reducible rfl)
                  try simp only [Act.put, List.setIfInBounds_toArray, List.set_cons_zero, List.set_cons_succ]
                  refine wpAnyH_take (i := 10) (v := ?_) (by simp only [List.getElem?_toArray, List.getElem?_cons_succ, List.getElem?_cons_zero]; rfl) (by kernel_rfl) (by kernel_rfl) (by kernel_rfl) (by intro _ _ _ h; exact h) (Or.inl ⟨by rfl, ?_⟩) (by assumption) ?_
                  rotate_left
                  · (intro W hSw; subst hSw; go_simp; try with_reducible rfl)
                  try simp only [Act.put, List.setIfInBounds_toArray, List.set_cons_zero, List.set_cons_succ]
                  refine wpAnyH_take (i := 11) (v := ?_) (by simp only [List.getElem?_toArray, List.getElem?_cons_succ, List.getElem?_cons_zero]; rfl) (by kernel_rfl) (by kernel_rfl) (by kernel_rfl) (by intro _ _ _ h; exact h) (Or.inl ⟨by rfl, ?_⟩) (by assumption) ?_
                  rotate_left
                  · (intro W hSw; subst hSw; go_simp; try with_reducible rfl)
                  try simp only [Act.put, List.setIfInBounds_toArray, List.set_cons_zero, List.set_cons_succ]
                  refine wpAnyH_take (i := 12) (v := ?_) (by simp only [List.getElem?_toArray, List.getElem?_cons_succ, List.getElem?_cons_zero]; rfl) (by kernel_rfl) (by kernel_rfl) (by kernel_rfl) (by intro _ _ _ h; exact h) (Or.inl ⟨by rfl, ?_⟩) (by assumption) ?_
                  rotate_left
                  · (intro W hSw; subst hSw; go_simp; try with_reducible rfl)
                  try simp only [Act.put, List.setIfInBounds_toArray, List.set_cons_zero, List.set_cons_succ]
                  refine wpAnyH_take (i := 13) (v := ?_) (by simp only [List.getElem?_toArray, List.getElem?_cons_succ, List.getElem?_cons_zero]; rfl) (by kernel_rfl) (by kernel_rfl) (by kernel_rfl) (by intro _ _ _ h; exact h) (Or.inl ⟨by rfl, ?_⟩) (by assumption) ?_
                  rotate_left
                  · (intro W hSw; subst hSw; go_simp; try with_reducible rfl)
                  try simp only [Act.put, List.setIfInBounds_toArray, List.set_cons_zero, List.set_cons_succ]
                  refine wpAnyH_take (i := 14) (v := ?_) (by simp only [List.getElem?_toArray, List.getElem?_cons_succ, List.getElem?_cons_zero]; rfl) (by kernel_rfl) (by kernel_rfl) (by kernel_rfl) (by intro _ _ _ h; exact h) (Or.inl ⟨by rfl, ?_⟩) (by assumption) ?_
                  rotate_left
                  · (intro W hSw; subst hSw; go_simp; try with_reducible rfl)
                  try simp only [Act.put, List.setIfInBounds_toArray, List.set_cons_zero, List.set_cons_succ]
                  refine wpAnyH_take (i := 15) (v := ?_) (by simp only [List.getElem?_toArray, List.getElem?_cons_succ, List.getElem?_cons_zero]; rfl) (by kernel_rfl) (by kernel_rfl) (by kernel_rfl) (by intro _ _ _ h; exact h) (Or.inl ⟨by rfl, ?_⟩) (by assumption) ?_
                  rotate_left
                  · (intro W hSw; subst hSw; go_simp; try with_reducible rfl)
                  try simp only [Act.put, List.setIfInBounds_toArray, List.set_cons_zero, List.set_cons_succ]
                  refine wpAnyH_take (i := 16) (v := ?_) (by simp only [List.getElem?_toArray, List.getElem?_cons_succ, List.getElem?_cons_zero]; rfl) (by kernel_rfl) (by kernel_rfl) (by kernel_rfl) (by intro _ _ _ h; exact h) (Or.inl ⟨by rfl, ?_⟩) (by assumption) ?_
                  rotate_left
                  · (intro W hSw; subst hSw; go_simp; try with_reducible rfl)
                  try simp only [Act.put, List.setIfInBounds_toArray, List.set_cons_zero, List.set_cons_succ]
                  refine wpAnyH_take (i := 17) (v := ?_) (by simp only [List.getElem?_toArray, List.getElem?_cons_succ, List.getElem?_cons_zero]; rfl) (by kernel_rfl) (by kernel_rfl) (by kernel_rfl) (by intro _ _ _ h; exact h) (Or.inl ⟨by rfl, ?_⟩) (by assumption) ?_
                  rotate_left
                  · (intro W hSw; subst hSw; go_simp; try with_reducible rfl)
                  try simp only [Act.put, List.setIfInBounds_toArray, List.set_cons_zero, List.set_cons_succ]
                  refine wpAnyH_take (i := 18) (v := ?_) (by simp only [List.getElem?_toArray, List.getElem?_cons_succ, List.getElem?_cons_zero]; rfl) (by kernel_rfl) (by kernel_rfl) (by kernel_rfl) (by intro _ _ _ h; exact h) (Or.inl ⟨by rfl, ?_⟩) (by assumption) ?_
                  rotate_left
                  · (intro W hSw; subst hSw; go_simp; try with_reducible rfl)
                  try simp only [Act.put, List.setIfInBounds_toArray, List.set_cons_zero, List.set_cons_succ]
                  refine wpAnyH_take (i := 19) (v := ?_) (by simp only [List.getElem?_toArray, List.getElem?_cons_succ, List.getElem?_cons_zero]; rfl) (by kernel_rfl) (by kernel_rfl) (by kernel_rfl) (by intro _ _ _ h; exact h) (Or.inl ⟨by rfl, ?_⟩) (by assumption) ?_
                  rotate_left
                  · (intro W hSw; subst hSw; go_simp; try with_reducible rfl)
                  try simp only [Act.put, List.setIfInBounds_toArray, List.set_cons_zero, List.set_cons_succ]
                  refine wpAnyH_take (i := 20) (v := ?_) (by simp only [List.getElem?_toArray, List.getElem?_cons_succ, List.getElem?_cons_zero]; rfl) (by kernel_rfl) (by kernel_rfl) (by kernel_rfl) (by intro _ _ _ h; exact h) (Or.inl ⟨by rfl, ?_⟩) (by assumption) ?_
                  rotate_left
                  · (intro W hSw; subst hSw; go_simp; try with_reducible rfl)
                  try simp only [Act.put, List.setIfInBounds_toArray, List.set_cons_zero, List.set_cons_succ]
                  refine wpAnyH_take (i := 21) (v := ?_) (by simp only [List.getElem?_toArray, List.getElem?_cons_succ, List.getElem?_cons_zero]; rfl) (by kernel_rfl) (by kernel_rfl) (by kernel_rfl) (by intro _ _ _ h; exact h) (Or.inl ⟨by rfl, ?_⟩) (by assumption) ?_
                  rotate_left
                  · (intro W hSw; subst hSw; go_simp; try with_reducible rfl)
                  try simp only [Act.put, List.setIfInBounds_toArray, List.set_cons_zero, List.set_cons_succ]
                  refine wpAnyH_take (i := 22) (v := ?_) (by simp only [List.getElem?_toArray, List.getElem?_cons_succ, List.getElem?_cons_zero]; rfl) (by kernel_rfl) (by kernel_rfl) (by kernel_rfl) (by intro _ _ _ h; exact h) (Or.inl ⟨by rfl, ?_⟩) (by assumption) ?_
                  rotate_left
                  · (intro W hSw; subst hSw; go_simp; try with_reducible rfl)
                  try simp only [Act.put, List.setIfInBounds_toArray, List.set_cons_zero, List.set_cons_succ]
                  refine wpAnyH_take (i := 23) (v := ?_) (by simp only [List.getElem?_toArray, List.getElem?_cons_succ, List.getElem?_cons_zero]; rfl) (by kernel_rfl) (by kernel_rfl) (by kernel_rfl) (by intro _ _ _ h; exact h) (Or.inl ⟨by rfl, ?_⟩) (by assumption) ?_
                  rotate_left
                  · (intro W hSw; subst hSw; go_simp; try with_reducible rfl)
                  try simp only [Act.put, List.setIfInBounds_toArray, List.set_cons_zero, List.set_cons_succ]
                  refine wpAnyH_take (i := 24) (v := ?_) (by simp only [List.getElem?_toArray, List.getElem?_cons_succ, List.getElem?_cons_zero]; rfl) (by kernel_rfl) (by kernel_rfl) (by kernel_rfl) (by intro _ _ _ h; exact h) (Or.inl ⟨by rfl, ?_⟩) (by assumption) ?_
                  rotate_left
                  · (intro W hSw; subst hSw; go_simp; try with_reducible rfl)
                  try simp only [Act.put, List.setIfInBounds_toArray, List.set_cons_zero, List.set_cons_succ]
                  refine wpAnyH_take (i := 25) (v := ?_) (by simp only [List.getElem?_toArray, List.getElem?_cons_succ, List.getElem?_cons_zero]; rfl) (by kernel_rfl) (by kernel_rfl) (by kernel_rfl) (by intro _ _ _ h; exact h) (Or.inl ⟨by rfl, ?_⟩) (by assumption) ?_
                  rotate_left
                  · (intro W hSw; subst hSw; go_simp; try with_reducible rfl)
                  try simp only [Act.put, List.setIfInBounds_toArray, List.set_cons_zero, List.set_cons_succ]
                  refine wpAnyH_take (i := 26) (v := ?_) (by simp only [List.getElem?_toArray, List.getElem?_cons_succ, List.getElem?_cons_zero]; rfl) (by kernel_rfl) (by kernel_rfl) (by kernel_rfl) (by intro _ _ _ h; exact h) (Or.inl ⟨by rfl, ?_⟩) (by assumption) ?_
                  rotate_left
                  · (intro W hSw; subst hSw; go_simp; try with_reducible rfl)
                  try simp only [Act.put, List.setIfInBounds_toArray, List.set_cons_zero, List.set_cons_succ]
                  refine wpAnyH_take (i := 27) (v := ?_) (by simp only [List.getElem?_toArray, List.getElem?_cons_succ, List.getElem?_cons_zero]; rfl) (by kernel_rfl) (by kernel_rfl) (by kernel_rfl) (by intro _ _ _ h; exact h) (Or.inl ⟨by rfl, ?_⟩) (by assumption) ?_
                  rotate_left
                  · (intro W hSw; subst hSw; go_simp; try with_reducible rfl)
                  try simp only [Act.put, List.setIfInBounds_toArray, List.set_cons_zero, List.set_cons_succ]
                  refine wpAnyH_take (i := 28) (v := ?_) (by simp only [List.getElem?_toArray, List.getElem?_cons_succ, List.getElem?_cons_zero]; rfl) (by kernel_rfl) (by kernel_rfl) (by kernel_rfl) (by intro _ _ _ h; exact h) (Or.inl ⟨by rfl, ?_⟩) (by assumption) ?_
                  rotate_left
                  · (intro W hSw; subst hSw; go_simp; try with_reducible rfl)
                  try simp only [Act.put, List.setIfInBounds_toArray, List.set_cons_zero, List.set_cons_succ]
                  refine wpAnyH_take (i := 29) (v := ?_) (by simp only [List.getElem?_toArray, List.getElem?_cons_succ, List.getElem?_cons_zero]; rfl) (by kernel_rfl) (by kernel_rfl) (by kernel_rfl) (by intro _ _ _ h; exact h) (Or.inl ⟨by rfl, ?_⟩) (by assumption) ?_
                  rotate_left
                  · (intro W hSw; subst hSw; go_simp; try with_reducible rfl)
                  try simp only [Act.put, List.setIfInBounds_toArray, List.set_cons_zero, List.set_cons_succ]
                  refine wpAnyH_take (i := 30) (v := ?_) (by simp only [List.getElem?_toArray, List.getElem?_cons_succ, List.getElem?_cons_zero]; rfl) (by kernel_rfl) (by kernel_rfl) (by kernel_rfl) (by intro _ _ _ h; exact h) (Or.inl ⟨by rfl, ?_⟩) (by assumption) ?_
                  rotate_left
                  · (intro W hSw; subst hSw; go_simp; try with_reducible rfl)
                  try simp only [Act.put, List.setIfInBounds_toArray, List.set_cons_zero, List.set_cons_succ]
                  refine wpAnyH_take (i := 31) (v := ?_) (by simp only [List.getElem?_toArray, List.getElem?_cons_succ, List.getElem?_cons_zero]; rfl) (by kernel_rfl) (by kernel_rfl) (by kernel_rfl) (by intro _ _ _ h; exact h) (Or.inl ⟨by rfl, ?_⟩) (by assumption) ?_
                  rotate_left
                  · (intro W hSw; subst hSw; go_simp; try with_reducible rfl)
                  try simp only [Act.put, List.setIfInBounds_toArray, List.set_cons_zero, List.set_cons_succ]
                  refine wpAnyH_take (i := 32) (v := ?_) (by simp only [List.getElem?_toArray, List.getElem?_cons_succ, List.getElem?_cons_zero]; rfl) (by kernel_rfl) (by kernel_rfl) (by kernel_rfl) (by intro _ _ _ h; exact h) (Or.inl ⟨by rfl, ?_⟩) (by assumption) ?_
                  rotate_left
                  · (intro W hSw; subst hSw; go_simp; try with_reducible rfl)
                  try simp only [Act.put, List.setIfInBounds_toArray, List.set_cons_zero, List.set_cons_succ]
                  refine wpAnyH_take (i := 33) (v := ?_) (by simp only [List.getElem?_toArray, List.getElem?_cons_succ, List.getElem?_cons_zero]; rfl) (by kernel_rfl) (by kernel_rfl) (by kernel_rfl) (by intro _ _ _ h; exact h) (Or.inl ⟨by rfl, ?_⟩) (by assumption) ?_
                  rotate_left
                  · (intro W hSw; subst hSw; go_simp; try with_reducible rfl)
                  try simp only [Act.put, List.setIfInBounds_toArray, List.set_cons_zero, List.set_cons_succ]
                  refine wpAnyH_take (i := 34) (v := ?_) (by simp only [List.getElem?_toArray, List.getElem?_cons_succ, List.getElem?_cons_zero]; rfl) (by kernel_rfl) (by kernel_rfl) (by kernel_rfl) (by intro _ _ _ h; exact h) (Or.inl ⟨by rfl, ?_⟩) (by assumption) ?_
                  rotate_left
                  · (intro W hSw; subst hSw; go_simp; try with_reducible rfl)
                  try simp only [Act.put, List.setIfInBounds_toArray, List.set_cons_zero, List.set_cons_succ]
                  refine wpAnyH_take (i := 35) (v := ?_) (by simp only [List.getElem?_toArray, List.getElem?_cons_succ, List.getElem?_cons_zero]; rfl) (by kernel_rfl) (by kernel_rfl) (by kernel_rfl) (by intro _ _ _ h; exact h) (Or.inl ⟨by rfl, ?_⟩) (by assumption) ?_
                  rotate_left
                  · (intro W hSw; subst hSw; go_simp; try with_reducible rfl)
                  try simp only [Act.put, List.setIfInBounds_toArray, List.set_cons_zero, List.set_cons_succ]
                  refine wpAnyH_take (i := 36) (v := ?_) (by simp only [List.getElem?_toArray, List.getElem?_cons_succ, List.getElem?_cons_zero]; rfl) (by kernel_rfl) (by kernel_rfl) (by kernel_rfl) (by intro _ _ _ h; exact h) (Or.inl ⟨by rfl, ?_⟩) (by assumption) ?_
                  rotate_left
                  · (intro W hSw; subst hSw; go_simp; try with_reducible rfl)
                  try simp only [Act.put, List.setIfInBounds_toArray, List.set_cons_zero, List.set_cons_succ]
                  refine wpAnyH_take (i := 37) (v := ?_) (by simp only [List.getElem?_toArray, List.getElem?_cons_succ, List.getElem?_cons_zero]; rfl) (by kernel_rfl) (by kernel_rfl) (by kernel_rfl) (by intro _ _ _ h; exact h) (Or.inl ⟨by rfl, ?_⟩) (by assumption) ?_
                  rotate_left
                  · (intro W hSw; subst hSw; go_simp; try with_reducible rfl)
                  try simp only [Act.put, List.setIfInBounds_toArray, List.set_cons_zero, List.set_cons_succ]
                  refine wpAnyH_take (i := 38) (v := ?_) (by simp only [List.getElem?_toArray, List.getElem?_cons_succ, List.getElem?_cons_zero]; rfl) (by kernel_rfl) (by kernel_rfl) (by kernel_rfl) (by intro _ _ _ h; exact h) (Or.inl ⟨by rfl, ?_⟩) (by assumption) ?_
                  rotate_left
                  · (intro W hSw; subst hSw; go_simp; try with_reducible rfl)
                  try simp only [Act.put, List.setIfInBounds_toArray, List.set_cons_zero, List.set_cons_succ]
                  refine wpAnyH_take (i := 39) (v := ?_) (by simp only [List.getElem?_toArray, List.getElem?_cons_succ, List.getElem?_cons_zero]; rfl) (by kernel_rfl) (by kernel_rfl) (by kernel_rfl) (by intro _ _ _ h; exact h) (Or.inl ⟨by rfl, ?_⟩) (by assumption) ?_
                  rotate_left
                  · (intro W hSw; subst hSw; go_simp; try with_reducible rfl)
                  try simp only [Act.put, List.setIfInBounds_toArray, List.set_cons_zero, List.set_cons_succ]
                  refine wpAnyH_take (i := 40) (v := ?_) (by simp only [List.getElem?_toArray, List.getElem?_cons_succ, List.getElem?_cons_zero]; rfl) (by kernel_rfl) (by kernel_rfl) (by kernel_rfl) (by intro _ _ _ h; exact h) (Or.inl ⟨by rfl, ?_⟩) (by assumption) ?_
                  rotate_left
                  · (intro W hSw; subst hSw; go_simp; try with_reducible rfl)
                  try simp only [Act.put, List.setIfInBounds_toArray, List.set_cons_zero, List.set_cons_succ]
                  refine wpAnyH_take (i := 41) (v := ?_) (by simp only [List.getElem?_toArray, List.getElem?_cons_succ, List.getElem?_cons_zero]; rfl) (by kernel_rfl) (by kernel_rfl) (by kernel_rfl) (by intro _ _ _ h; exact h) (Or.inl ⟨by rfl, ?_⟩) (by assumption) ?_
                  rotate_left
                  · (intro W hSw; subst hSw; go_simp; try with_reducible rfl)
                  try simp only [Act.put, List.setIfInBounds_toArray, List.set_cons_zero, List.set_cons_succ]
                  refine wpAnyH_take (i := 42) (v := ?_) (by simp only [List.getElem?_toArray, List.getElem?_cons_succ, List.getElem?_cons_zero]; rfl) (by kernel_rfl) (by kernel_rfl) (by kernel_rfl) (by intro _ _ _ h; exact h) (Or.inl ⟨by rfl, ?_⟩) (by assumption) ?_
                  rotate_left
                  · (intro W hSw; subst hSw; go_simp; try with_reducible rfl)
                  try simp only [Act.put, List.setIfInBounds_toArray, List.set_cons_zero, List.set_cons_succ]
                  refine wpAnyH_take (i := 43) (v := ?_) (by simp only [List.getElem?_toArray, List.getElem?_cons_succ, List.getElem?_cons_zero]; rfl) (by kernel_rfl) (by kernel_rfl) (by kernel_rfl) (by intro _ _ _ h; exact h) (Or.inl ⟨by rfl, ?_⟩) (by assumption) ?_
                  rotate_left
                  · (intro W hSw; subst hSw; go_simp; try with_reducible rfl)
                  try simp only [Act.put, List.setIfInBounds_toArray, List.set_cons_zero, List.set_cons_succ]
                  refine wpAnyH_take (i := 44) (v := ?_) (by simp only [List.getElem?_toArray, List.getElem?_cons_succ, List.getElem?_cons_zero]; rfl) (by kernel_rfl) (by kernel_rfl) (by kernel_rfl) (by intro _ _ _ h; exact h) (Or.inl ⟨by rfl, ?_⟩) (by assumption) ?_
                  rotate_left
                  · (intro W hSw; subst hSw; go_simp; try with_reducible rfl)
                  try simp only [Act.put, List.setIfInBounds_toArray, List.set_cons_zero, List.set_cons_succ]
                  refine wpAnyH_take (i := 45) (v := ?_) (by simp only [List.getElem?_toArray, List.getElem?_cons_succ, List.getElem?_cons_zero]; rfl) (by kernel_rfl) (by kernel_rfl) (by kernel_rfl) (by intro _ _ _ h; exact h) (Or.inl ⟨by rfl, ?_⟩) (by assumption) ?_
                  rotate_left
                  · (intro W hSw; subst hSw; go_simp; try with_reducible rfl)
                  try simp only [Act.put, List.setIfInBounds_toArray, List.set_cons_zero, List.set_cons_succ]
                  refine wpAnyH_done (by kernel_rfl) ?_ _
                  go_wp2_with (refine wpList_store_row rfl 41 (.tmp 8) (.tmp 137) rfl B (stC (scL j lf2 J1) (.slice od4 0 cd4) (.slice (some ⟨gl, 0, none⟩) J1 cl4) (.slice ov4 1 cv4) (.slice on4 1 cn4) (.slice om4 1 cm4)).toArray rfl rfl 41 _ HBO.out (by kernel_rfl) rfl (by simp [stC, scL, Value.oneCell']) ?_)
                  go_roundw
                  case rel => exact ⟨t + 1, by omega, by go_num, HAT⟩
                  case measure => simp [intOf]; omega
          · have htI : ¬ (t : Int) < (cs.length : Int) := by omega
            obtain ⟨qs, lf2, ⟨_, _, _, _, _, _, _, _, _, _, hbx, _⟩, _⟩ := HI.out
            have HBF := Lib.hid (show Below w.heap.size w wj from HBA.out.trans (hbx.bel.mono HBA.out.size))
            clear hbx
            go_wp2_with fail
            go_ret
            exact ⟨rfl, HBF.out⟩
end Go.Proofs.Ytpnlfpckafpkbaa
