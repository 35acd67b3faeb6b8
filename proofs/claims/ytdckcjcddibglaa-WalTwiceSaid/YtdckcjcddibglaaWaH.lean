/- Entries copied. -/
import Derived.Test.YtdckcjcddibglaaWaG
namespace Go.Proofs.Ytdckcjcddibglaa
open Go.RowKit OctM

/-- What reads of it. -/
theorem OwnL.rd {w : World} {base : Nat} {v : Value} {ps : List (En × Value)} (h : OwnL w base v ps) : RdL w v (ps.map Prod.fst) := by
  have hr := h.row
  rcases hr.2 with ⟨rfl, hn⟩ | ⟨g, cap, cur, rfl, _, hg, hn, hm, _⟩
  · exact .inl ⟨rfl, by rw [List.map_eq_nil_iff]; exact List.eq_nil_of_length_eq_zero hn⟩
  · refine .inr ⟨g, 0, cap, by rw [List.length_map], by rw [List.length_map]; exact hn, hm, fun i x hx => ?_⟩
    rw [List.getElem?_map] at hx
    obtain ⟨p, hp, rfl⟩ : ∃ p, ps[i]? = some p ∧ p.1 = x := by simpa using hx
    have hget : ∀ j u, (cE p)[j]? = some u → w.cell? ⟨g, 0 + i * 4 + j, none⟩ = some u := fun j u hu => by
      have hj : j < 4 := by
        have := List.getElem?_eq_some_iff.1 hu
        obtain ⟨h1, _⟩ := this
        simpa [cE] using h1
      have hi := (List.getElem?_eq_some_iff.1 hp).1
      have e : (CsE ps)[i * 4 + j]? = some u := by
        have hsp : CsE ps = CsE (ps.take i) ++ (cE p ++ CsE (ps.drop (i + 1))) := by
          have h1 : ps = ps.take i ++ p :: ps.drop (i + 1) := by
            rw [← (List.getElem?_eq_some_iff.1 hp).2]
            simp
          have h2 : CsE (ps.take i ++ p :: ps.drop (i + 1)) = CsE (ps.take i) ++ (cE p ++ CsE (ps.drop (i + 1))) := by simp [CsE]
          rw [← h2, ← h1]
        rw [hsp, List.getElem?_append_right (by rw [CsE_length, List.length_take]; omega), CsE_length, List.length_take, List.getElem?_append_left (by simp [cE]; omega)]
        rw [show i * 4 + j - min i ps.length * 4 = j by omega]
        exact hu
      have h3 := World.ownsRow.cells hr rfl (i * 4 + j) u e
      rw [add_none] at h3
      rw [show 0 + i * 4 + j = 0 + (i * 4 + j) by omega]
      exact h3
    have hmem : p ∈ ps := List.mem_of_getElem? hp
    exact ⟨p.2, hget 0 _ rfl, hget 1 _ rfl, hget 2 _ rfl, hget 3 _ rfl, Rd.of_own (h.cells p hmem)⟩

set_option maxHeartbeats 8000000 in
set_option maxRecDepth 100000 in
theorem copies_any (l : List En) (v : Value) (w : World) (hr : RdL w v l) (hok : ∀ x ∈ l, x.Ok) (hl : l.length ≤ 1000) :
    Calls Try.prog 19 #[v] w fun e w' => ∃ v' ps, e = .returned v' ∧ ps.map Prod.fst = l ∧ OwnL w' w.heap.size v' ps ∧ Below w.heap.size w w' := by
  obtain ⟨o, c, rfl⟩ := hr.form
  have HR := Lib.hid hr
  have HOK := Lib.hid hok
  have HL := Lib.hid hl
  clear hr hok
  go_enter Try.func19, Try.ntmps19
  go_wp2_with fail
  go_loopw [3, 8] (fun s t wr => ∃ (i : Nat) (ps : List (En × Value)), i ≤ l.length ∧ t = .int .i64 (i : Int) ∧ ps.map Prod.fst = l.take i ∧ Hid (OwnL wr w.heap.size s ps ∧ Below w.heap.size w wr)) (fun _ t _ => l.length + 1 - (intOf t).toNat)
  case atStart => exact ⟨0, [], by omega, rfl, rfl, Lib.hid ⟨ownL_nil _ _, Below.refl _ _⟩⟩
  case round =>
    obtain ⟨i, ps, hi, rfl, hps, HO⟩ := hrel
    have HPS := Lib.hid hps
    have hpl : ps.length = i := by
      have := congrArg List.length hps
      rw [List.length_map, List.length_take] at this
      omega
    clear hps
    have hl6 := HL.out
    by_cases hlt : i < l.length
    · have i1 : (i : Int) < (l.length : Int) := by omega
      obtain ⟨bb, off, vx, rfl, hat0⟩ := HR.out.at (List.getElem?_eq_getElem hlt)
      have hat := hat0.below HO.out.2
      have hxok := HOK.out _ (List.getElem_mem hlt)
      have HTK := Lib.hid (show l.take (i + 1) = l.take i ++ [l[i]] by rw [List.take_add_one, List.getElem?_eq_getElem hlt]; rfl)
      generalize l[i] = X at *
      obtain ⟨xt, xs, xn, xl⟩ := X
      obtain ⟨a0, a1, a2, a3, ard⟩ := hat
      dsimp only at a0 a1 a2 a3 ard
      obtain ⟨ox, cx, rfl⟩ : ∃ o c, vx = .slice o xl.length c := by
        rcases ard with ⟨rfl, rfl⟩ | ⟨_, c, rfl, _⟩ <;> exact ⟨_, _, rfl⟩
      have HXL := Lib.hid hxok.cl
      have hba : Below wr.heap.size wr (wr.alloc (.cells #[.int .u64 (xt : Int), .int .u64 (xs : Int), .int .u64 (xn : Int), .slice ox xl.length cx] 33)) := (Below.refl _ _).alloc (Nat.le_refl _) _
      have hna := heap_alloc_new wr (.cells #[.int .u64 (xt : Int), .int .u64 (xs : Int), .int .u64 (xn : Int), .slice ox xl.length cx] 33)
      have hsa : (wr.alloc (.cells #[.int .u64 (xt : Int), .int .u64 (xs : Int), .int .u64 (xn : Int), .slice ox xl.length cx] 33)).heap.size = wr.heap.size + 1 := by simp
      have wi : IntKind.i64.wrap ((i : Int) + 1) = (i : Int) + 1 := IntWalk.i64_in _ (by omega)
      have HARD := Lib.hid ard
      clear hat0 hxok ard
      go_upto_region 5 with fail
      generalize (wr.alloc (.cells #[.int .u64 (xt : Int), .int .u64 (xs : Int), .int .u64 (xn : Int), .slice ox xl.length cx] 33)) = wa at *
      obtain ⟨o', cap', w1, hr1, ho1, hg1, -, -⟩ := append_two (World.ownsRow_nil wa wa.heap.size 5 1) (l := []) (HARD.out.below hba) (by have : xl.length ≤ 4000 := HXL.out; simp; omega) (Nat.le_refl _) 22
      simp only [List.length_nil, Nat.zero_add, List.nil_append] at hr1 ho1
      have hb1 : Below wa.heap.size wa w1 := (Below.refl _ wa).grown hg1 (Nat.le_refl _) (by intro k hk; cases hk)
      have hs1 := hb1.size
      have hn1 := (hb1.block wr.heap.size (by omega)).trans hna
      have hown1 := ho1.lt
      have hne : (Value.slice o' xl.length cap').ownBlock ≠ some wr.heap.size := fun e => by have := (hown1 _ e).1; omega
      have HO1 := Lib.hid (ownsRow_setCell_other (a := ⟨wr.heap.size, 3, none⟩) ho1 hne (.slice o' xl.length cap'))
      have HB5 := Lib.hid ((hba.trans (hb1.mono (by omega))).setCell (p := ⟨wr.heap.size, 3, none⟩) (Nat.le_refl _) (.slice o' xl.length cap'))
      have x3 := cellk (i := 3) hna rfl
      have y3 := cellk (i := 3) hn1 rfl
      have yf := free_of hn1 3
      have hn5 : (w1.setCell ⟨wr.heap.size, 3, none⟩ (.slice o' xl.length cap')).heap[wr.heap.size]? = some (.cells #[.int .u64 (xt : Int), .int .u64 (xs : Int), .int .u64 (xn : Int), .slice o' xl.length cap'] 33 (0, 0)) := by
        simp [World.setCell, Array.getElem?_modify, hn1]
      have HN5 := Lib.hid hn5
      clear hna hn1 hba hb1 hg1 ho1 hown1 hne hn5 a0 a1 a2 a3
      go_upto_region 6 with (at_builtin; refine wpList_append_known rfl _ _ _ _ rfl _ _ _ rfl rfl hr1 ?_)
      generalize (w1.setCell ⟨wr.heap.size, 3, none⟩ (.slice o' xl.length cap')) = w5 at *
      have z0 := cellk (i := 0) HN5.out rfl
      have z1 := cellk (i := 1) HN5.out rfl
      have z2 := cellk (i := 2) HN5.out rfl
      have z3 := cellk (i := 3) HN5.out rfl
      have hz5 := HB5.out.size
      have hzw := HO.out.2.size
      obtain ⟨o7, c7, w7, hr7, ho7, hb7⟩ := more_en (⟨xt, xs, xn, xl⟩, .slice o' xl.length cap') (HO.out.1.below HB5.out (Nat.le_refl _)) (own_base HO1.out (by omega : w.heap.size ≤ wa.heap.size)) (fun g hg hv => by
        have h5 := (HO1.out.lt g hg).1
        have h6 := (HO.out.1.row.lt g hv).2
        omega) (by omega) (by omega)
      have HO7 := Lib.hid ho7
      have HB7 := Lib.hid ((HO.out.2.trans (HB5.out.mono hzw)).trans hb7)
      rw [hpl] at hr7
      clear x3 y3 yf hr1 ho7 hb7 HO1 HO hsa hs1
      go_wp2_with (at_builtin; refine wpList_append_known rfl _ _ _ _ rfl _ _ _ rfl rfl hr7 ?_)
      go_roundw
      case rel => exact ⟨i + 1, ps ++ [(⟨xt, xs, xn, xl⟩, .slice o' xl.length cap')], by omega, by go_num, by rw [HTK.out, List.map_append, HPS.out]; rfl, Lib.hid ⟨by rw [hpl] at HO7; exact HO7.out, HB7.out⟩⟩
      case measure => simp [intOf]; omega
    · have i1 : ¬ (i : Int) < (l.length : Int) := by omega
      have hie : i = l.length := by omega
      have HFin := Lib.hid (show ps.map Prod.fst = l by rw [HPS.out, hie, List.take_length])
      go_wp2_with fail
      go_ret
      exact ⟨_, rfl, ps, HFin.out, HO.out.1, HO.out.2⟩
end Go.Proofs.Ytdckcjcddibglaa
