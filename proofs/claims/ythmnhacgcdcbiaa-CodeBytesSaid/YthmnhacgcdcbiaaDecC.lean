/- The next functions of bytes. -/
import Derived.Test.YthmnhacgcdcbiaaDecB
namespace Go.Proofs.Ythmnhacgcdcbiaa
open Go.RowKit OctM CodM

/-- Functions that have been laid, the instructions of each beside some blocks. -/
def FunsX (w : World) (ps : List (Int × Value)) (fs : List Fun) (S : Nat → Prop) : Prop :=
  ps.length = fs.length ∧ ∀ (j : Nat) (f : Fun), fs[j]? = some f → ∃ u, ps[j]? = some (f.caps, u) ∧ RdIX w u f.code S
theorem FunsX.nil (w : World) (S : Nat → Prop) : FunsX w [] [] S := ⟨rfl, fun j f h => by simp at h⟩
theorem FunsX.next {w w' : World} {ps : List (Int × Value)} {fs : List Fun} {S S' : Nat → Prop} (h : FunsX w ps fs S) (hk : ∀ k, k < w.heap.size → ¬ S k → w'.heap[k]? = w.heap[k]?) (hS : ∀ k, k < w.heap.size → S' k → S k) : FunsX w' ps fs S' :=
  ⟨h.1, fun j f hf => by
    obtain ⟨u, hu, hr⟩ := h.2 j f hf
    exact ⟨u, hu, hr.next hk hS⟩⟩
theorem FunsX.snoc {w : World} {ps : List (Int × Value)} {fs : List Fun} {S : Nat → Prop} (h : FunsX w ps fs S) (f : Fun) (u : Value) (hr : RdIX w u f.code S) : FunsX w (ps ++ [(f.caps, u)]) (fs ++ [f]) S :=
  ⟨by simp [h.1], fun j g hg => by
    by_cases hj : j < fs.length
    · rw [List.getElem?_append_left hj] at hg
      obtain ⟨u', hu', hr'⟩ := h.2 j g hg
      exact ⟨u', by rw [List.getElem?_append_left (by rw [h.1]; exact hj)]; exact hu', hr'⟩
    · have hl := (List.getElem?_eq_some_iff.1 hg).1
      simp at hl
      obtain rfl : j = fs.length := by omega
      simp at hg
      subst hg
      exact ⟨u, by rw [← h.1]; simp, hr⟩⟩

theorem own1_lt {ptr : Option Addr} {n : Nat} (hp : ∀ a, ptr = some a → a.block < n) {k : Nat} (h : own1 ptr k) : k < n := by
  obtain ⟨a, ha, hb⟩ := h
  have := hp a ha
  omega

/-- Functions that are read alike wherever blocks from a bound on are as they are. -/
def RdFB (w : World) (base : Nat) (v : Value) (fs : List Fun) : Prop := ∀ (S : Nat → Prop) (w' : World), Kept S w w' → (∀ k, base ≤ k → ¬ S k) → RdF w' v fs
theorem RdFB.rd {w : World} {base : Nat} {v : Value} {fs : List Fun} (h : RdFB w base v fs) : RdF w v fs := h (fun _ => False) w (Kept.refl _ _) (fun _ _ h => h)
theorem RdFB.nil (w : World) (base : Nat) : RdFB w base (.slice none 0 0) [] := fun _ _ _ _ => .inl ⟨_, _, rfl, rfl⟩

theorem decode_step {lim : Nat} {ptr : Option Addr} {w wi w5 : World} {L : Value} {ps : List (Int × Value)} {acc : List Fun} {f : Fun} {o : Option Addr} {c : Nat} {s5 : Option (List UInt8)}
    (hG : OwnG wi w.heap.size L ps) (hX : FunsX wi ps acc (fun g => L.ownBlock = some g ∨ g < w.heap.size)) (hk : Kept (own1 ptr) w wi)
    (hJ : OwnJ w5 wi.heap.size (.slice o f.code.length c) f.code) (hs5 : D.RS lim w5 ptr s5) (hk5 : Kept (own1 ptr) wi w5) (hp : ∀ a, ptr = some a → a.block < w.heap.size) (hl : lim ≤ w.heap.size) (hlen : ps.length ≤ 4000) :
    ∃ v6 w6, (Builtin.append_ #[22, 22] 22 #[L, .slice (some ⟨w5.heap.size, 0, none⟩) 1 1]).run Try.prog (w5.alloc (.cells #[.int .i64 f.caps, .slice o f.code.length c] 32)) = .ok v6 w6 ∧
      OwnG w6 w.heap.size v6 (ps ++ [(f.caps, .slice o f.code.length c)]) ∧ FunsX w6 (ps ++ [(f.caps, .slice o f.code.length c)]) (acc ++ [f]) (fun g => v6.ownBlock = some g ∨ g < w.heap.size) ∧ D.RS lim w6 ptr s5 ∧ Kept (own1 ptr) w w6 := by
  have hp' : ∀ k, w.heap.size ≤ k → ¬ own1 ptr k := by
    rintro k hk ⟨a, ha, hb⟩
    have := hp a ha
    omega
  have hz := hk.size
  have hz5 := hk5.size
  have hL : ∀ g, L.ownBlock = some g → w.heap.size ≤ g ∧ g < wi.heap.size := fun g hg => hG.lt g hg
  have hG5 : OwnG w5 w.heap.size L ps := own_kept hG hk5 (fun k hk' => hp' k (hL k hk').1)
  obtain ⟨v6, w6, hrun, hown6, hg6, hat6⟩ := append_pfun (w := w5.alloc (.cells #[.int .i64 f.caps, .slice o f.code.length c] 32)) (World.ownsRow.alloc hG5 _) ⟨w5.heap.size, 0, none⟩ (cells_new _ [.int .i64 f.caps, .slice o f.code.length c] _) (by omega) (by simp; omega) 22
  refine ⟨v6, w6, hrun, hown6, ?_, ?_, ?_⟩
  · have h5 := hX.next (w' := w5) (fun k hk' hs => hk5.block k hk' (fun h => by have := hs; exact hs (.inr (own1_lt hp h)))) (fun _ _ h => h)
    have h5' : RdIX w5 (.slice o f.code.length c) f.code (fun g => L.ownBlock = some g ∨ g < w.heap.size) := hJ.rdx (fun k hk' h => by
      rcases h with h | h
      · have := (hL k h).2
        omega
      · omega)
    refine (h5.snoc f _ h5').next (fun k hk' hs => ?_) (fun k hk' h => ?_)
    · exact (hg6.block k (by simp; omega) (fun h => hs (.inl h.symm))).trans (Below.heap_alloc _ _ _ hk')
    · rcases h with h | h
      · rcases hat6 with e | e
        · rw [e] at h
          exact .inl h
        · rw [e] at h
          injection h with h
          simp at h
          omega
      · exact .inr h
  · have hq : Kept (fun k => L.ownBlock = some k) w5 w6 := ((Kept.refl _ w5).alloc _).grown hg6 (fun k h => .inl h)
    exact hs5.keep hq (fun a ha h => by have := hp a ha; have := (hL _ h).1; omega) (fun k hk' h => by have := (hL _ h).1; omega)
  · exact ((hk.trans hk5).alloc _).grown hg6 (fun k h => .inr (hL k h).1)

structure DPost (lim : Nat) (ptr : Option Addr) (w : World) (s : Option (List UInt8)) (e : Ending) (w' : World) : Prop where
  ret : ∃ v, e = .returned v ∧ RdFB w' w.heap.size v (decS s).1
  st : D.RS lim w' ptr (decS s).2
  kept : Kept (own1 ptr) w w'

set_option maxHeartbeats 4000000 in
set_option maxRecDepth 100000 in
theorem decode (ptr : Option Addr) (s : Option (List UInt8)) (lim : Nat) (w : World) (h : D.RS lim w ptr s) (hp : ∀ a, ptr = some a → a.block < w.heap.size) (hl : lim ≤ w.heap.size) :
    Calls Try.prog 14 #[.pointer ptr] w (DPost lim ptr w s) := by
  have H1 := Lib.hid (D.rupto ptr s 4000 w h (by omega) (by omega))
  have HP := Lib.hid hp
  clear h hp
  go_enter Try.func14, Try.ntmps14
  go_wp2_with fail
  refine H1.out.mono ?_
  rintro e w1 ⟨rfl, hs1, hk1⟩
  have HDE : Hid (decS s = if (funsS (uptoS s 4000).1 (uptoS s 4000).2).2 = none then ([], none) else funsS (uptoS s 4000).1 (uptoS s 4000).2) := rfl
  have HBD : Hid ((uptoS s 4000).2 = none → (uptoS s 4000).1 = 0) := uptoS_bad
  have HM := Lib.hid (uptoS_most s 4000)
  generalize (uptoS s 4000).1 = N at *
  generalize (uptoS s 4000).2 = s1 at *
  have HS1 := Lib.hid hs1
  have HK1 := Lib.hid hk1
  have hNi : (N : Int) ≤ 4000 := by have := HM.out; omega
  clear hs1 hk1 H1
  go_wp2_with fail
  go_loopw [3, 6] (fun L i wr => ∃ (j : Nat) (sj : Option (List UInt8)) (ps : List (Int × Value)) (acc : List Fun), j ≤ N ∧ i = .int .i64 j ∧ ps.length = j ∧ Hid (OwnG wr w.heap.size L ps) ∧ Hid (FunsX wr ps acc (fun g => L.ownBlock = some g ∨ g < w.heap.size)) ∧ Hid (D.RS lim wr ptr sj) ∧ Hid (Kept (own1 ptr) w wr) ∧ Hid (funsS N s1 = (acc ++ (funsS (N - j) sj).1, (funsS (N - j) sj).2)) ∧ Hid (sj = none → N = 0)) (fun _ i _ => N - (intOf i).toNat)
  case atStart => exact ⟨0, s1, [], [], by omega, rfl, rfl, World.ownsRow_nil _ _ _ _, FunsX.nil _ _, HS1.out, HK1.out, rfl, HBD.out⟩
  case round =>
    obtain ⟨j, sj, ps, acc, hj, rfl, hpl, HO, HX, HS, HK, HC, HN⟩ := hrel
    generalize wr = wi at *
    by_cases hlt : j < N
    · have hjI : (j : Int) < (N : Int) := by omega
      obtain ⟨Q, hQ⟩ : ∃ Q, funS sj = Q := ⟨_, rfl⟩
      obtain ⟨⟨caps, code⟩, s5⟩ := Q
      have hdf := decodeFun ptr sj lim wi HS.out (fun a ha => Nat.lt_of_lt_of_le (HP.out a ha) HK.out.size) (Nat.le_trans hl HK.out.size)
      have HDF := Lib.hid hdf
      have HQ := Lib.hid hQ
      clear hdf hQ
      go_wp2_with fail
      refine HDF.out.mono ?_
      rintro e w5 ⟨⟨o, c, rfl, hJ⟩, hs5, hk5⟩
      rw [HQ.out] at hs5 hJ
      have hst := decode_step (f := ⟨caps, code⟩) HO.out HX.out HK.out hJ hs5 hk5 HP.out hl (by omega)
      obtain ⟨v6, w6, hrun, hown6, hx6, hs6, hk6⟩ := hst
      rw [HQ.out]
      simp only at hrun hown6 hx6 ⊢
      have HRUN := Lib.hid hrun
      have HO6 := Lib.hid hown6
      have HX6 := Lib.hid hx6
      have HS6 := Lib.hid hs6
      have HK6 := Lib.hid hk6
      clear hrun hown6 hx6 hs6 hk6 hJ hs5 hk5 HO HX HS HK HDF
      go_wp2_with (at_builtin; refine wpList_append_known rfl (.tmp 8) (.tmp 11) 22 22 (by rfl) _ _ _ (by rfl) (by rfl) HRUN.out ?_)
      refine (D.rbad ptr s5 w6 HS6.out).mono ?_
      rintro e w7 ⟨rfl, rfl⟩
      have hsub : N - j = (N - (j + 1)) + 1 := by omega
      rcases s5 with _ | r
      · have hfb : decS s = ([], none) := by
          rw [HDE.out, HC.out, hsub, funsS_bad (by rw [HQ.out])]
          simp
        have HFB := Lib.hid hfb
        clear hfb hsub
        go_wp2_with fail
        go_ret
        refine ⟨⟨_, rfl, ?_⟩, ?_, HK6.out⟩
        · rw [HFB.out]; exact RdFB.nil _ _
        · rw [HFB.out]; exact HS6.out
      · have hcc : funsS N s1 = ((acc ++ [⟨caps, code⟩]) ++ (funsS (N - (j + 1)) (some r)).1, (funsS (N - (j + 1)) (some r)).2) := by
          rw [HC.out, hsub, funsS_ok (by rw [HQ.out]; simp), HQ.out]
          simp
        have HCC := Lib.hid hcc
        clear hcc hsub
        go_wp2_with fail
        go_roundw
        case rel => exact ⟨j + 1, some r, _, _, by omega, by go_num, by simp [hpl], HO6.out, HX6.out, HS6.out, HK6.out, HCC.out, by simp [Hid]⟩
        case measure => simp [intOf]; omega
    · obtain rfl : j = N := by omega
      have hcs := HC.out
      rw [Nat.sub_self] at hcs
      have key : ∀ L, OwnG wi w.heap.size L ps → FunsX wi ps acc (fun g => L.ownBlock = some g ∨ g < w.heap.size) → RdFB wi w.heap.size L (decS s).1 ∧ (decS s).2 = sj := by
        intro L hO hX
        have hRB : RdFB wi w.heap.size L acc := by
          intro S w' hk hS
          have hO' : OwnG w' w.heap.size L ps := own_kept hO hk (fun k hk' => hS k (hO.lt k hk').1)
          exact hO'.rd hX.1 (fun j f hj => by
            obtain ⟨u, hu, hr⟩ := hX.2 j f hj
            exact ⟨u, hu, (hr.next (w' := w') (fun k hk' hs => hk.block k hk' (hS k (by
              rcases Nat.lt_or_ge k w.heap.size with h | h
              · exact absurd (.inr h) hs
              · exact h))) (fun _ _ h => h)).rd⟩)
        rw [HDE.out, hcs]
        by_cases h0 : sj = none
        · have hn := HN.out h0
          have ha : acc = [] := by
            have := hX.1
            exact List.eq_nil_of_length_eq_zero (by omega)
          subst h0 ha
          simp only [funsS, if_pos]
          exact ⟨hRB, trivial⟩
        · rw [if_neg (by simpa [funsS] using h0)]
          simp only [funsS, List.append_nil]
          exact ⟨hRB, trivial⟩
      obtain ⟨hf1, hf2⟩ := key _ HO.out HX.out
      have HF1 := Lib.hid hf1
      have HF2 := Lib.hid hf2
      clear hf1 hf2 hcs
      go_wp2_with fail
      go_ret
      exact ⟨⟨_, rfl, HF1.out⟩, by rw [HF2.out]; exact HS.out, HK.out⟩
end Go.Proofs.Ythmnhacgcdcbiaa
