/- Texts of an execution, where there is room. -/
import Derived.Test.YtpmbdncackneoaaDoorMacG
namespace Go.Proofs.YtpmbdncackneoaaDoor
open Go.RowKit HeaM Ma

/-- More words. -/
theorem RunF.laid {C : Cx} {w w' : World} {s : Ms} {vfr vst vtr vout vdn v1 v2 u1 u2 : Value} {R : List Nat} {FR : List Bool} (h : RunF C w s vfr vst vtr vout vdn v1 v2) (hL : LPost w w' C.H C.base C.m.q C.c v1 v2 u1 u2 (s.W ++ R) (s.F ++ FR)) (hl : FR.length = R.length) (hq : s.W.length + R.length ≤ C.m.q) (hR : ∀ x ∈ R, x < 18446744073709551616) :
    RunF C w' { s with W := s.W ++ R, F := s.F ++ FR } vfr vst vtr vout vdn u1 u2 := by
  have hk := hL.kept
  have hlo : w'.heap[C.lo]? = w.heap[C.lo]? := hk.block _ h.g.lt (by
    rintro (e | e | e)
    · exact (e ▸ h.g.rtag : TgB w C.H _).ne h.g.tH (by decide)
    · exact (own_tag h.g.heap.own1 _ e).ne h.g.rtag (by decide)
    · exact (own_tag h.g.heap.own2 _ e).ne h.g.rtag (by decide))
  have hx : ∀ {base : Nat} {e : TypeId} {size n : Nat} {v : Value} {xs : List Value}, e ≠ 72 → e ≠ 31 → e ≠ 4 → w.ownsRow base e size v n xs → w'.ownsRow base e size v n xs := by
    intro base e size n v xs e1 e2 e3 o
    refine own_kept o hk ?_
    rintro k a (b | b | b)
    · subst b
      exact (own_tag o _ a).ne h.g.tH e1
    · exact (own_tag o k a).ne (own_tag h.g.heap.own1 k b) e2
    · exact (own_tag o k a).ne (own_tag h.g.heap.own2 k b) e3
  refine ⟨h.fit, hlo.trans h.cell, ⟨⟨_, hlo.trans h.cell⟩, hx (by decide) (by decide) (by decide) h.g.fr, own_kept h.g.st hk ?_, hx (by decide) (by decide) (by decide) h.g.tr, hx (by decide) (by decide) (by decide) h.g.out, hx (by decide) (by decide) (by decide) h.g.dn, hL.at_, fun k hk => ?_, fun k a b => ?_, h.g.kept.step hk fun k a => ?_, ?_, ?_, ?_, ?_, ?_, ?_, h.g.fuel, h.g.room⟩⟩
  · rintro k a (b | b | b)
    · subst b
      exact (own_tag h.g.st _ a).ne h.g.tH (by decide)
    · exact h.g.ne k a b
    · exact (own_tag h.g.st k a).ne (own_tag h.g.heap.own2 k b) (by decide)
  · rcases hL.new k hk with a | a
    · exact h.g.new k a
    · exact .inr (by have := h.g.lt; omega)
  · rcases hL.new k (.inr (.inl b)) with c | c
    · rcases c with c | c | c
      · subst c
        exact (own_tag h.g.st _ a).ne h.g.tH (by decide)
      · exact h.g.ne k a c
      · exact (own_tag h.g.st k a).ne (own_tag h.g.heap.own2 k c) (by decide)
    · have := (h.g.st.lt k a).2
      omega
  · exact .inl (h.g.new k a)
  · rw [List.length_append, List.length_append, hl, h.g.len]
  · rw [List.length_append]; exact hq
  · intro x hx
    rcases List.mem_append.1 hx with hx | hx
    · exact h.g.ws x hx
    · exact hR x hx
  · exact fun v hv => Rep.left (h.g.rstk v hv) _ _
  · exact fun f hf => Rep.left (h.g.rfrs f hf) _ _
  · exact fun v hv => Rep.left (h.g.rglb v hv) _ _

set_option maxHeartbeats 1000000 in
set_option maxRecDepth 100000 in
theorem roots_t {C : Cx} {s : Ms} {w : World} (n : Nat) (h : RunE C w s) (hn : s.W.length + n ≤ C.m.q) :
    Calls Tryd.prog 50 #[.pointer (some ⟨C.lo, 0, none⟩), .int .i64 (n : Int)] w fun e w' => e = .returned (.slice none 0 0) ∧ ∃ nq, w' = w.drewN nq := by
  obtain ⟨vfr, vst, vtr, vout, vdn, v1, v2, h⟩ := h
  have hq := h.fit.q
  obtain ⟨c0, _⟩ := h.cells
  obtain ⟨m0, _⟩ := h.mach
  have HQ := Lib.hid fun nq => quota_t C.H C.base C.m.q C.c v1 v2 s.W s.F (w.drewN nq) (h.drewN nq).g.heap
  have HU := Lib.hid fun nq => used_t C.H C.base C.m.q C.c v1 v2 s.W s.F (w.drewN nq) (h.drewN nq).g.heap
  have hni : (n : Int) ≤ (C.m.q : Int) - (s.W.length : Int) := by omega
  have hqi : (C.m.q : Int) ≤ 1048576 := by omega
  have hwi : (s.W.length : Int) ≤ 1048576 := by omega
  have e1 : IntKind.i64.wrap ((C.m.q : Int) - (s.W.length : Int)) = (C.m.q : Int) - (s.W.length : Int) := IntWalk.i64_in _ (by omega)
  clear h hn
  generalize s.W.length = L at *
  generalize C.m.q = q at *
  go_enter Tryd.func50, Tryd.ntmps50
  go_wp2_with fail
  go_quiet (first
    | (go_at_call 69; exact Calls.quiet_of_same ((HQ.out _).mono fun _ _ h => ⟨h.1, h.2.symm⟩))
    | (go_at_call 70; exact Calls.quiet_of_same ((HU.out _).mono fun _ _ h => ⟨h.1, h.2.symm⟩)))
  have HW : Hid (∃ nq', w.drewN nq = w.drewN nq') := ⟨nq, rfl⟩
  generalize w.drewN nq = w1 at *
  go_wp2
  go_ret
  exact ⟨rfl, HW.out⟩

def errRun (C : Cx) (r : Ans) (e : Ending) (w' : World) : Prop := ∃ n s', r = some (n, s') ∧ OkRun C s' n e w'

set_option maxHeartbeats 1000000 in
set_option maxRecDepth 100000 in
/-- A text that isn't too long. -/
theorem text_short {C : Cx} {s s' : Ms} {l : List UInt8} {w : World} (str : ByteArray) (h : RunE C w s) (hl : str.data.toList = l) (h4 : l.length ≤ 4096) (hp : putText C.m s l = some (0, s')) (hn : s.stk.length ≤ 1000000000) :
    Calls Tryd.prog 32 #[.pointer (some ⟨C.lo, 0, none⟩), .string str] w (OkRun C s' 0) := by
  subst hl
  have hsz : str.data.toList.length = str.size := rfl
  have hroom : s.W.length + need 3 str.size ≤ C.m.q := by
    unfold putText at hp
    by_cases hr : s.W.length + need 3 str.data.toList.length ≤ C.m.q
    · exact hr
    · rw [if_neg hr] at hp; cases hp
  have hs' : s' = push { s with W := s.W ++ (str.size * 256 + 3) :: pk str.data.toList, F := s.F ++ true :: List.replicate (nw str.size) false } (.txt s.W.length str.data.toList) := by
    unfold putText at hp
    rw [if_pos (show s.W.length + need 3 str.data.toList.length ≤ C.m.q from hroom)] at hp
    simp only [ok, Option.some.injEq, Prod.mk.injEq, true_and] at hp
    exact hp.symm
  have HR := Lib.hid fun (w : World) (h : RunE C w s) => roots_t (need 3 str.size) h hroom
  have hput : ∀ w1, RunE C w1 s → Calls Tryd.prog 49 #[.pointer (some ⟨C.H, 0, none⟩), .string str, .slice none 0 0] w1 fun e w' => e = .returned (.tuple #[.int .u64 ((2 * s.W.length : Nat) : Int), .int .i64 0]) ∧ RunE C w' { s with W := s.W ++ (str.size * 256 + 3) :: pk str.data.toList, F := s.F ++ true :: List.replicate (nw str.size) false } := by
    intro w1 h1
    obtain ⟨vfr, vst, vtr, vout, vdn, v1, v2, h1⟩ := h1
    refine (puttext_room C.H C.base C.m.q C.c v1 v2 s.W s.F str (.slice none 0 0) w1 h1.g.heap h1.fit.q (by have := h1.fit.base; have := h1.g.lt; omega) (by omega) h1.g.len hroom).mono ?_
    rintro e w' ⟨rfl, u1, u2, hL⟩
    refine ⟨rfl, _, _, _, _, _, _, _, h1.laid hL ?_ ?_ ?_⟩
    · simp [pk_length, hsz]
    · have hnd : need 3 str.size = 1 + (str.size + 7) / 8 := rfl
      rw [List.length_cons, pk_length, hsz]
      unfold nw
      omega
    · intro x hx
      rcases List.mem_cons.1 hx with rfl | hx
      · omega
      · exact pk_lt _ x hx
  have hpush : ∀ w1, RunE C w1 { s with W := s.W ++ (str.size * 256 + 3) :: pk str.data.toList, F := s.F ++ true :: List.replicate (nw str.size) false } → Calls Tryd.prog 30 #[.pointer (some ⟨C.lo, 0, none⟩), .int .u64 ((2 * s.W.length : Nat) : Int)] w1 (VoidRun C s') := by
    intro w1 h1
    rw [hs']
    refine push_t (v := .txt s.W.length str.data.toList) h1 ?_ (Lib.hid rfl) hn
    obtain ⟨_, _, _, _, _, _, _, h⟩ := h
    exact rep_txt (l := str.data.toList) h.g.len (by omega)
  have hcells : ∀ w1, RunE C w1 s → w1.cell? ⟨C.lo, 0, none⟩ = some (.pointer (some ⟨C.M, 0, none⟩)) ∧ w1.cell? ⟨C.M, 0, none⟩ = some (.pointer (some ⟨C.H, 0, none⟩)) := by
    rintro w1 ⟨_, _, _, _, _, _, _, h1⟩
    exact ⟨h1.cells.1, h1.mach.1⟩
  obtain ⟨q0, q1⟩ := hcells w h
  have HC := Lib.hid hcells
  have HP := Lib.hid hput
  have HPU := Lib.hid hpush
  have HE := Lib.hid h
  have hsi : (str.size : Int) ≤ 4096 := by omega
  have HN : Hid (need 3 str.size = need 3 str.size) := rfl
  have HNE := Lib.hid fun w => need_any 3 str.size _ w (by omega) HN
  clear hput hpush hcells h hs' hp hsz hroom h4 HN
  generalize need 3 str.size = N at *
  go_enter Tryd.func32, Tryd.ntmps32
  go_wp2_with fail
  have HD : Hid (RunE C w.drew s) := HE.out.drewN 1
  go_region_law (first
    | (go_simp; go_at_call 12; refine (HNE.out _).mono ?_; rintro e w' ⟨rfl, rfl⟩)
    | (go_simp; go_at_call 50; refine (HR.out _ HD.out).mono ?_; rintro e w' ⟨rfl, nq, rfl⟩; have HD2 : Hid (RunE C (w.drewN (1 + nq)) s) := HE.out.drewN (1 + nq); obtain ⟨y0, y1⟩ := HC.out _ HD2.out)
    | (go_simp; go_at_call 49; refine (HP.out _ HD2.out).mono ?_; rintro e w2 ⟨rfl, hw2⟩; have HW2 := Lib.hid hw2; clear hw2))
  all_goals
    go_wp2_with fail
    refine (HPU.out _ HW2.out).mono ?_
    rintro e w' ⟨rfl, hw⟩
    have HW := Lib.hid hw
    clear hw
    go_wp2
    go_ret
    exact ⟨rfl, HW.out⟩
end Go.Proofs.YtpmbdncackneoaaDoor
