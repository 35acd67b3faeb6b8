/- The next entries of bytes. -/
import Derived.Test.YtjbailnnaigjbaaBmA
import Derived.Test.YtjbailnnaigjbaaDecP
import Derived.Deep.RegionLaw
namespace Go.Proofs.Ytjbailnnaigjbaa
open Go.RowKit OctM

theorem takeS_len' (s : Option (List UInt8)) (n : Nat) : (takeS s n).1.length ≤ n := by
  unfold takeS
  split
  · simp
  · split
    · simp; omega
    · simp
theorem uptoS_most (s : Option (List UInt8)) (most : Nat) : (uptoS s most).1 ≤ most := by
  unfold uptoS
  split
  · simp
  · rename_i h
    rcases hh : uintS s with ⟨a, b⟩
    rw [hh] at h
    simp only at h ⊢
    omega
theorem bytesS_le (s : Option (List UInt8)) (m : Nat) : (bytesS s m).1.length ≤ m := Nat.le_trans (takeS_len' _ _) (uptoS_most s m)
theorem takeS_some2 {s : Option (List UInt8)} {n : Nat} (h : (takeS s n).1 ≠ []) : (takeS s n).2 ≠ none := by
  unfold takeS at *
  split
  · simp at h
  · split
    · simp
    · rename_i h1; simp [h1] at h
theorem uintS_bad2 {s : Option (List UInt8)} (h : (uintS s).2 = none) : (uintS s).1 = 0 := by
  rcases hd : (takeS (sizeS s).2 (sizeS s).1).1 with _ | ⟨x, t⟩
  · rw [uintS_nil hd]
  · by_cases hx : x.toNat = 0
    · rw [uintS_zero hd hx]
    · rw [uintS_ok hd hx] at h
      exact absurd h (takeS_some2 (by rw [hd]; simp))
theorem uptoS_bad {s : Option (List UInt8)} {most : Int} (h : (uptoS s most).2 = none) : (uptoS s most).1 = 0 := by
  unfold uptoS at h ⊢
  split
  · rfl
  · rename_i hc
    rw [if_neg hc] at h
    exact uintS_bad2 h

theorem append_en {w : World} {base : Nat} {ps : List (En × Value)} {l : Value} (q : En × Value) (h : OwnL w base l ps) (hq : Own w base q.2 q.1.cl) (hn : ps.length ≤ 65536) (hbase : base ≤ w.heap.size) :
    ∃ o c w2, (Builtin.append_ #[29, 29] 29 #[l, .slice (some ⟨w.heap.size, 0, none⟩) 1 1]).run Try.prog (w.alloc (.cells (cE q).toArray 51)) = .ok (.slice o (ps.length + 1) c) w2 ∧ OwnL w2 base (.slice o (ps.length + 1) c) (ps ++ [q]) ∧ Kept (fun k => l.ownBlock = some k) w w2 := by
  obtain ⟨oq, cq, hqs⟩ := own_slice' hq
  have hba : Below w.heap.size w (w.alloc (.cells (cE q).toArray 51)) := (Below.refl _ _).alloc (Nat.le_refl _) _
  have hl2 := own_kept h.row (kept_of_below (S := fun _ => False) hba) (fun _ _ h => h)
  obtain ⟨i0, hi0, hz0, hz1, hz2⟩ := info_parts enInfo
  have hne : ∀ j u, (cE q)[j]? = some u → (w.alloc (.cells (cE q).toArray 51)).cell? ((⟨w.heap.size, 0, none⟩ : Addr).add j) = some u := by
    intro j u hj
    exact World.news_of_block (w := w.alloc (.cells (cE q).toArray 51)) (heap_alloc_new w _) j u (by simpa using hj)
  obtain ⟨v', w2, hr, h2, h3, _, h5⟩ := run_append_own_at (P := Try.prog) (w.alloc (.cells (cE q).toArray 51)) base 29 29 51 i0 _ 4 48 Try.underlying29 hi0 hz0 hz1 hz2 rfl (by decide) l ps.length (CsE ps) hl2 ⟨w.heap.size, 0, none⟩ 1 1 (cE q)
    rfl hne (by
      intro u hu
      simp only [cE, List.mem_cons, List.not_mem_nil, or_false] at hu
      rcases hu with rfl | rfl | rfl | rfl
      · rfl
      · rfl
      · rfl
      · rw [hqs]; rfl) (by unfold maxLen; omega) (by omega) (by simp; omega)
  obtain ⟨o, c, rfl⟩ := own_slice' h2
  have hk : Kept (fun k => l.ownBlock = some k) w w2 := ((kept_of_below hba).weak (T := fun k => l.ownBlock = some k) (fun _ _ hk => hk)).grown h3 (fun k hk => .inl hk)
  refine ⟨o, c, w2, hr, ⟨?_, ?_, ?_⟩, hk⟩
  · rw [show CsE (ps ++ [q]) = CsE ps ++ cE q by simp [CsE], List.length_append]
    exact h2
  · intro r hr
    rcases List.mem_append.1 hr with hr | hr
    · exact own_kept (h.cells r hr) hk (fun g hg e => h.apart r hr g hg e)
    · obtain rfl := List.mem_singleton.1 hr
      exact own_kept hq hk (fun g hg e => own_ne2 hq h.row (by decide) g hg e)
  · intro r hr g hg e
    have hr2 : Own w2 base r.2 r.1.cl := by
      rcases List.mem_append.1 hr with hr | hr
      · exact own_kept (h.cells r hr) hk (fun g hg e => h.apart r hr g hg e)
      · obtain rfl := List.mem_singleton.1 hr
        exact own_kept hq hk (fun g hg e => own_ne2 hq h.row (by decide) g hg e)
    exact own_ne2 hr2 h2 (by decide) g hg e

theorem ent_step {lim : Nat} {ptr : Option Addr} {w wi w5 : World} {L : Value} {ps : List (En × Value)} {x : En} {vb : Value} {n5 : Nat} {s5 : Option (List UInt8)} (hL : OwnL wi w.heap.size L ps) (hk : Kept (own1 ptr) w wi)
    (hv : Own w5 n5 vb x.cl) (hn5 : wi.heap.size ≤ n5) (hs5 : D.RS lim w5 ptr s5) (hk5 : Kept (own1 ptr) wi w5) (hp : ∀ a, ptr = some a → a.block < w.heap.size) (hl : lim ≤ w.heap.size) (hlen : ps.length ≤ 65536) :
    ∃ o c w6, (Builtin.append_ #[29, 29] 29 #[L, .slice (some ⟨w5.heap.size, 0, none⟩) 1 1]).run Try.prog (w5.alloc (.cells #[.int .u64 (x.tm : Int), .int .u64 (x.ss : Int), .int .u64 (x.nm : Int), vb] 51)) = .ok (.slice o (ps.length + 1) c) w6 ∧
      OwnL w6 w.heap.size (.slice o (ps.length + 1) c) (ps ++ [(x, vb)]) ∧ D.RS lim w6 ptr s5 ∧ Kept (own1 ptr) w w6 := by
  have hp' : ∀ k, w.heap.size ≤ k → ¬ own1 ptr k := by
    rintro k hk ⟨a, ha, hb⟩
    have := hp a ha
    omega
  have hz := hk.size
  have hz5 := hk5.size
  have hLo : ∀ g, L.ownBlock = some g → w.heap.size ≤ g ∧ g < wi.heap.size := fun g hg => hL.row.lt g hg
  have hL5 : OwnL w5 w.heap.size L ps := hL.kept hk5 (fun g hg => hp' g (hLo g hg).1) (fun p hp2 g hg => hp' g ((hL.cells p hp2).lt g hg).1)
  obtain ⟨o, c, w6, hr, hO, hK⟩ := append_en (x, vb) hL5 (own_base hv (by omega)) hlen (by omega)
  refine ⟨o, c, w6, hr, hO, ?_, ?_⟩
  · exact hs5.keep hK (fun a ha h => by have := hp a ha; have := (hLo _ h).1; omega) (fun k hk' h => by have := (hLo _ h).1; omega)
  · exact (hk.trans hk5).step hK (fun k h => .inr (hLo k h).1)

theorem entsS_bad {n : Nat} {s : Option (List UInt8)} (h : (entS s).2 = none) : entsS (n + 1) s = ([], none) := by
  show (if _ then _ else _) = _
  rw [if_pos h]
theorem entsS_ok {n : Nat} {s : Option (List UInt8)} (h : (entS s).2 ≠ none) : entsS (n + 1) s = ((entS s).1 :: (entsS n (entS s).2).1, (entsS n (entS s).2).2) := by
  show (if _ then _ else _) = _
  rw [if_neg h]

structure EPost (lim : Nat) (ptr : Option Addr) (w : World) (R : List En × Option (List UInt8)) (e : Ending) (w' : World) : Prop where
  ret : ∃ v ps, e = .returned v ∧ OwnL w' w.heap.size v ps ∧ (R.2 ≠ none → ps.map Prod.fst = R.1)
  st : D.RS lim w' ptr R.2
  kept : Kept (own1 ptr) w w'

set_option maxHeartbeats 4000000 in
set_option maxRecDepth 100000 in
theorem readEntries (ptr : Option Addr) (s : Option (List UInt8)) (lim : Nat) (w : World) (h : D.RS lim w ptr s) (hp : ∀ a, ptr = some a → a.block < w.heap.size) (hl : lim ≤ w.heap.size) :
    Calls Try.prog 32 #[.pointer ptr] w (EPost lim ptr w (entsS (uptoS s 65536).1 (uptoS s 65536).2)) := by
  have H1 := Lib.hid (D.rupto ptr s 65536 w h (by omega) (by omega))
  have HP := Lib.hid hp
  clear h hp
  go_enter Try.func32, Try.ntmps32
  go_wp2_with fail
  refine H1.out.mono ?_
  rintro e w1 ⟨rfl, hs1, hk1⟩
  have HM := Lib.hid (uptoS_most s 65536)
  generalize (uptoS s 65536).1 = N at *
  generalize (uptoS s 65536).2 = s1 at *
  have HS1 := Lib.hid hs1
  have HK1 := Lib.hid hk1
  have hNi : (N : Int) ≤ 65536 := by have := HM.out; omega
  clear hs1 hk1 H1
  go_wp2_with fail
  go_loopw [3, 6] (fun L i wr => ∃ (j : Nat) (sj : Option (List UInt8)) (ps : List (En × Value)), j ≤ N ∧ i = .int .i64 j ∧ ps.length = j ∧ Hid (OwnL wr w.heap.size L ps) ∧ Hid (D.RS lim wr ptr sj) ∧ Hid (Kept (own1 ptr) w wr) ∧ Hid (entsS N s1 = (ps.map Prod.fst ++ (entsS (N - j) sj).1, (entsS (N - j) sj).2)) ) (fun _ i _ => N - (intOf i).toNat)
  case atStart => exact ⟨0, s1, [], by omega, rfl, rfl, ownL_nil _ _, HS1.out, HK1.out, rfl⟩
  case round =>
    obtain ⟨j, sj, ps, hj, rfl, hpl, HO, HS, HK, HC⟩ := hrel
    generalize wr = wi at *
    by_cases hlt : j < N
    · have hjI : (j : Int) < (N : Int) := by omega
      have HQ : Hid (entS sj = (⟨(uintS sj).1, (uintS (uintS sj).2).1, (uintS (uintS (uintS sj).2).2).1, (bytesS (uintS (uintS (uintS sj).2).2).2 4000).1⟩, (bytesS (uintS (uintS (uintS sj).2).2).2 4000).2)) := rfl
      have hu1 := D.ruint ptr sj wi HS.out
      have HU1 := Lib.hid hu1
      clear hu1
      go_wp2_with fail
      refine HU1.out.mono ?_
      rintro e wa ⟨rfl, hsa, hka⟩
      generalize (uintS sj).1 = n1 at *
      generalize (uintS sj).2 = sa at *
      have hu2 := D.ruint ptr sa wa hsa
      have HU2 := Lib.hid hu2
      have HKA := Lib.hid hka
      clear hu2 hsa hka HU1
      go_wp2_with fail
      refine HU2.out.mono ?_
      rintro e wb ⟨rfl, hsb, hkb⟩
      generalize (uintS sa).1 = n2 at *
      generalize (uintS sa).2 = sb at *
      have hu3 := D.ruint ptr sb wb hsb
      have HU3 := Lib.hid hu3
      have HKB := Lib.hid (HKA.out.trans hkb)
      clear hu3 hsb hkb HU2 HKA
      go_wp2_with fail
      refine HU3.out.mono ?_
      rintro e wc ⟨rfl, hsc, hkc⟩
      generalize (uintS sb).1 = n3 at *
      generalize (uintS sb).2 = sc at *
      have hu4 := D.rbytes ptr sc 4000 wc hsc (by omega) (by omega) (Nat.le_trans (bytesS_le sc 4000) (by omega))
      have HU4 := Lib.hid hu4
      have HKC := Lib.hid (HKB.out.trans hkc)
      clear hu4 hsc hkc HU3 HKB
      go_wp2_with fail
      refine HU4.out.mono ?_
      rintro e w5 ⟨vb, rfl, hvb, hs5, hk5⟩
      generalize (bytesS sc 4000).1 = bb at *
      generalize (bytesS sc 4000).2 = s5 at *
      obtain ⟨ob, cb, hvs⟩ := own_slice' hvb
      subst hvs
      have hst := ent_step (x := ⟨n1, n2, n3, bb⟩) HO.out HK.out hvb HKC.out.size hs5 (HKC.out.trans hk5) HP.out hl (by omega)
      obtain ⟨o, c, w6, hrun, hO6, hS6, hK6⟩ := hst
      rw [hpl] at hrun hO6
      simp only at hrun
      have HRUN := Lib.hid hrun
      have HO6 := Lib.hid hO6
      have HS6 := Lib.hid hS6
      have HK6 := Lib.hid hK6
      clear hrun hO6 hS6 hK6 hvb hs5 hk5 HO HS HK HKC HU4
      go_wp2_with (at_builtin; refine wpList_append_known rfl (.tmp 8) (.tmp 18) 29 29 (by rfl) _ _ _ (by rfl) (by rfl) HRUN.out ?_)
      refine (D.rbad ptr s5 w6 HS6.out).mono ?_
      rintro e w7 ⟨rfl, rfl⟩
      have hsub : N - j = (N - (j + 1)) + 1 := by omega
      rcases s5 with _ | r
      · have hfb : entsS N s1 = (ps.map Prod.fst, none) := by
          rw [HC.out, hsub, entsS_bad (by rw [HQ.out])]
          simp
        have HFB := Lib.hid hfb
        clear hfb hsub
        go_wp2_with fail
        go_ret
        refine ⟨⟨_, [], rfl, ownL_nil _ _, ?_⟩, ?_, HK6.out⟩
        · rw [HFB.out]; exact fun h => absurd rfl h
        · rw [HFB.out]; exact HS6.out
      · have hcc : entsS N s1 = ((ps ++ [((⟨n1, n2, n3, bb⟩ : En), Value.slice ob bb.length cb)]).map Prod.fst ++ (entsS (N - (j + 1)) (some r)).1, (entsS (N - (j + 1)) (some r)).2) := by
          rw [HC.out, hsub, entsS_ok (by rw [HQ.out]; simp), HQ.out]
          simp
        have HCC := Lib.hid hcc
        clear hcc hsub
        go_wp2_with fail
        go_roundw
        case rel => exact ⟨j + 1, some r, ps ++ [((⟨n1, n2, n3, bb⟩ : En), Value.slice ob bb.length cb)], by omega, by go_num, by simp [hpl], HO6.out, HS6.out, HK6.out, HCC.out⟩
        case measure => simp [intOf]; omega
    · obtain rfl : j = N := by omega
      have hcs := HC.out
      rw [Nat.sub_self] at hcs
      simp only [entsS, List.append_nil] at hcs
      have HCS := Lib.hid hcs
      clear hcs
      go_wp2_with fail
      go_ret
      refine ⟨⟨_, ps, rfl, HO.out, ?_⟩, ?_, HK.out⟩
      · rw [HCS.out]; exact fun _ => rfl
      · rw [HCS.out]; exact HS.out
end Go.Proofs.Ytjbailnnaigjbaa
