/- Entries copied. -/
import Derived.Test.YtjbailnnaigjbaaBalA
namespace Go.Proofs.Ytjbailnnaigjbaa
open Go.RowKit OctM

theorem own_slice' {w : World} {base : Nat} {e : TypeId} {size : Nat} {v : Value} {n : Nat} {xs : List Value} (h : w.ownsRow base e size v n xs) : ∃ o c, v = .slice o n c := by
  rcases h.2 with ⟨rfl, rfl⟩ | ⟨g, c, cur, rfl, _⟩
  · exact ⟨_, _, rfl⟩
  · exact ⟨_, _, rfl⟩
theorem own_at {w : World} {base : Nat} {e : TypeId} {size : Nat} {v : Value} {n : Nat} {xs : List Value} (h : w.ownsRow base e size v n xs) (hn : 0 < n) : ∃ g c, v = .slice (some ⟨g, 0, none⟩) n c ∧ base ≤ g ∧ g < w.heap.size ∧ (∀ i, w.frozen? ⟨g, i, none⟩ = false) ∧ ∀ j u, xs[j]? = some u → w.cell? ⟨g, j, none⟩ = some u := by
  have hc := h
  rcases h.2 with ⟨rfl, rfl⟩ | ⟨g, c, cur, rfl, hb, hg, _⟩
  · omega
  · refine ⟨g, c, rfl, hb, lt_of_block hg, fun i => free_of hg i, fun j u hj => ?_⟩
    have := World.ownsRow.cells hc rfl j u hj
    rw [add_none, Nat.zero_add] at this
    exact this

set_option maxHeartbeats 8000000 in
set_option maxRecDepth 100000 in
theorem copies_any (base : Nat) (v : Value) (ps : List (En × Value)) (w : World) (h : OwnL w base v ps) (hok : ∀ p ∈ ps, p.1.cl.length ≤ 4000) (hl : ps.length ≤ 1000) :
    Calls Try.prog 58 #[v] w fun e w' => ∃ v' qs, e = .returned v' ∧ qs.map Prod.fst = ps.map Prod.fst ∧ OwnL w' w.heap.size v' qs ∧ Below w.heap.size w w' := by
  have H1 := Lib.hid (cle base ps.length v (CsE ps) w h.row (by omega) (fun u hu => by
    obtain ⟨p, hp, hu⟩ := List.mem_flatMap.1 hu
    simp only [cE, List.mem_cons, List.not_mem_nil, or_false] at hu
    obtain ⟨o, c, hpo⟩ := own_slice' (h.cells p hp)
    rcases hu with rfl | rfl | rfl | rfl
    · rfl
    · rfl
    · rfl
    · rw [hpo]; rfl))
  have HO := Lib.hid h
  have HOK := Lib.hid hok
  have HL := Lib.hid hl
  obtain ⟨o0, c0, rfl⟩ := own_slice' h.row
  clear h hok hl
  go_enter Try.func58, Try.ntmps58
  go_wp2_with fail
  refine H1.out.mono ?_
  rintro e w1 ⟨v', rfl, hr1, hb1⟩
  obtain ⟨o, c, rfl⟩ := own_slice' hr1
  have HS := Lib.hid (And.intro hr1 hb1)
  clear hr1 hb1 H1
  go_wp2_with fail
  go_loopw [9] (fun t wr => ∃ (i : Nat) (qs : List (En × Value)), i ≤ ps.length ∧ t = .int .i64 (i : Int) ∧ qs.length = i ∧ qs.map Prod.fst = (ps.take i).map Prod.fst ∧ Hid (wr.ownsRow w.heap.size 51 4 (.slice o ps.length c) ps.length (CsE (qs ++ ps.drop i)) ∧ (∀ p ∈ qs, Own wr w.heap.size p.2 p.1.cl ∧ ∀ g, p.2.ownBlock = some g → (Value.slice o ps.length c).ownBlock ≠ some g) ∧ Below w.heap.size w wr)) (fun t _ => ps.length + 1 - (intOf t).toNat)
  case atStart => exact ⟨0, [], by omega, rfl, rfl, rfl, Lib.hid ⟨HS.out.1, fun _ h => (List.not_mem_nil h).elim, HS.out.2⟩⟩
  case round =>
    obtain ⟨i, qs, hi, rfl, hal, has, HR⟩ := hrel
    have HAS := Lib.hid has
    clear has HS
    have hl6 := HL.out
    by_cases hlt : i < ps.length
    · have i1 : (i : Int) < (ps.length : Int) := by omega
      have hgx : ps[i]? = some ps[i] := List.getElem?_eq_getElem hlt
      have hmem : ps[i] ∈ ps := List.getElem_mem hlt
      have hdrop : ps.drop i = ps[i] :: ps.drop (i + 1) := List.drop_eq_getElem_cons hlt
      have htake : ps.take (i + 1) = ps.take i ++ [ps[i]] := List.take_succ_eq_append_getElem hlt
      have hcl := HO.out.cells _ hmem
      have hok := HOK.out _ hmem
      generalize ps[i] = P at *
      obtain ⟨X, vx⟩ := P
      dsimp only at hcl hok
      obtain ⟨ox, cx, rfl⟩ := own_slice' hcl
      obtain ⟨hrow, hcs, hbw⟩ := HR.out
      obtain ⟨g, c', hv, hgb, hgl, hfz, hcell⟩ := own_at hrow (by omega)
      injection hv with hv _ hc'
      subst hv hc'
      have hget : (qs ++ ps.drop i)[i]? = some (X, .slice ox X.cl.length cx) := by
        rw [List.getElem?_append_right (by omega), hal, Nat.sub_self, hdrop]; rfl
      have x3 := hcell (i * 4 + 3) _ (CsE_get _ i _ hget 3 _ rfl)
      have hset := fun u => CsE_set (qs ++ ps.drop i) i X (.slice ox X.cl.length cx) u
      have hrd : Rd wr (.slice ox X.cl.length cx) X.cl := (Rd.of_own hcl).below hbw
      have H2 := Lib.hid (clone (.slice ox X.cl.length cx) X.cl wr hrd (by omega))
      have hf3 := hfz (i * 4 + 3)
      have HX := Lib.hid (And.intro hrow (And.intro hcs hbw))
      have HG := Lib.hid hget
      have HD := Lib.hid (And.intro hdrop htake)
      have HSET := Lib.hid hset
      clear hgx hmem hdrop htake hcl hok hrow hcs hbw hcell hget hset hrd hfz
      go_wp2_with fail
      refine H2.out.mono ?_
      rintro e w2 ⟨v2, rfl, ho2, hb2⟩
      obtain ⟨o2, c2, rfl⟩ := own_slice' ho2
      obtain ⟨hrow, hcs, hbw⟩ := HX.out
      have y3 := (hb2.cell (p := ⟨g, i * 4 + 3, none⟩) hgl).trans x3
      have yf := (hb2.frozen (p := ⟨g, i * 4 + 3, none⟩) hgl).trans hf3
      have yl : g < w2.heap.size := Nat.lt_of_lt_of_le hgl hb2.size
      have hrow2 := own_set (k := i * 4 + 3) (u := .slice o2 X.cl.length c2) (own_kept hrow (kept_of_below (S := fun _ => False) hb2) (fun _ _ h => h))
      rw [HSET.out _ HG.out] at hrow2
      have hne : ∀ g', (Value.slice o2 X.cl.length c2).ownBlock = some g' → (Value.slice (some ⟨g, 0, none⟩) ps.length c).ownBlock ≠ some g' := fun g' hg' e => by
        have h1 := (ho2.lt g' hg').1
        have h2 : g = g' := by simpa [Value.ownBlock] using e
        omega
      have hzw := hbw.size
      have hfin : ∀ W, W = w2.setCell ⟨g, i * 4 + 3, none⟩ (.slice o2 X.cl.length c2) → (∀ p ∈ qs ++ [(X, .slice o2 X.cl.length c2)], Own W w.heap.size p.2 p.1.cl ∧ ∀ g', p.2.ownBlock = some g' → (Value.slice (some ⟨g, 0, none⟩) ps.length c).ownBlock ≠ some g') ∧ Below w.heap.size w W := by
        rintro W rfl
        refine ⟨fun p hp => ?_, (hbw.trans (hb2.mono hzw)).setCell (p := ⟨g, i * 4 + 3, none⟩) hgb _⟩
        rcases List.mem_append.1 hp with hp | hp
        · obtain ⟨h1, h2⟩ := hcs p hp
          refine ⟨ownsRow_setCell_other (own_kept h1 (kept_of_below (S := fun _ => False) hb2) (fun _ _ h => h)) (fun e => h2 g e rfl) _, h2⟩
        · obtain rfl := List.mem_singleton.1 hp
          exact ⟨ownsRow_setCell_other (own_base ho2 hzw) (fun e => hne g e rfl) _, hne⟩
      have HF := Lib.hid hfin
      have HR2 := Lib.hid hrow2
      clear x3 hrow2 hfin hrow hcs hbw ho2 hb2 hne hf3
      go_wp2_with fail
      go_roundw
      case rel =>
        refine ⟨i + 1, qs ++ [(X, .slice o2 X.cl.length c2)], by omega, by go_num, by simp [hal], ?_, Lib.hid ⟨?_, HF.out _ rfl⟩⟩
        · rw [HD.out.2, List.map_append, List.map_append, HAS.out]; rfl
        · have e : (qs ++ ps.drop i).set i (X, .slice o2 X.cl.length c2) = (qs ++ [(X, .slice o2 X.cl.length c2)]) ++ ps.drop (i + 1) := by
            rw [HD.out.1, List.set_append_right _ _ (by omega), hal, Nat.sub_self, List.set_cons_zero]
            simp
          rw [← e]
          exact HR2.out
      case measure => simp [intOf]; omega
    · have i1 : ¬ (i : Int) < (ps.length : Int) := by omega
      have hie : i = ps.length := by omega
      have HFin := Lib.hid (show qs.map Prod.fst = ps.map Prod.fst by rw [HAS.out, hie, List.take_length])
      obtain ⟨hrow, hcs, hbw⟩ := HR.out
      rw [hie, List.drop_length, List.append_nil] at hrow
      have HW := Lib.hid (show OwnL wr w.heap.size (.slice o ps.length c) qs ∧ Below w.heap.size w wr from ⟨⟨by rw [hal, hie]; exact hrow, fun p hp => (hcs p hp).1, fun p hp => (hcs p hp).2⟩, hbw⟩)
      clear hrow hcs hbw
      go_wp2_with fail
      go_ret
      exact ⟨_, rfl, qs, HFin.out, HW.out⟩
end Go.Proofs.Ytjbailnnaigjbaa
