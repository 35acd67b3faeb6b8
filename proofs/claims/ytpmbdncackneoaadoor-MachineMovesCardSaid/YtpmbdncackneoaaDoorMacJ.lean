/- Exceptions; any text. -/
import Derived.Test.YtpmbdncackneoaaDoorMacI
namespace Go.Proofs.YtpmbdncackneoaaDoor
open Go.RowKit HeaM Ma

theorem land_stk {s s1 : Ms} {t : Tr} {ts : List Tr} (h : land s t ts = some s1) : s1.stk.length ≤ s.stk.length := by
  unfold land at h
  split at h
  · split at h
    · cases h
    · simp only [Option.some.injEq] at h
      subst h
      simp only [List.length_drop]
      omega
  · cases h

set_option maxHeartbeats 1000000 in
set_option maxRecDepth 100000 in
theorem raise_no {C : Cx} {s : Ms} {w : World} (str : ByteArray) (h : RunE C w s) (ht : s.trs = []) :
    Calls Tryd.prog 40 #[.pointer (some ⟨C.lo, 0, none⟩), .string str] w (OkRun C { s with raised := str.data.toList } 9) := by
  have HL := Lib.hid (land_no h ht)
  clear h
  go_enter Tryd.func40, Tryd.ntmps40
  go_wp2_with fail
  refine HL.out.mono ?_
  rintro e w1 ⟨rfl, h⟩
  obtain ⟨vfr, vst, vtr, vout, vdn, v1, v2, h⟩ := h
  have c9 := h.cells.2.2.2.2.2.2.2.2.2.1
  have f9 := h.free 9
  have hF := RunF.setR (j := 9) (u := .string str) (s := { s with raised := str.data.toList }) h.fit ⟨_, _, _, _, _, _, h.cell, rfl⟩ (by
    have hG := h.g
    exact { hG with })
  have HF := Lib.hid hF
  clear h hF
  go_wp2_with fail
  go_ret
  exact ⟨rfl, _, _, _, _, _, _, _, HF.out⟩

set_option maxHeartbeats 1000000 in
set_option maxRecDepth 100000 in
theorem raise_yes {C : Cx} {s s1 s' : Ms} {t : Tr} {ts : List Tr} {w : World} (str : ByteArray) (h : RunE C w s) (ht : s.trs = t :: ts) (hl : land s t ts = some s1) (hp : putText C.m s1 (if 4096 < str.data.toList.length then tLong else str.data.toList) = some (0, s')) (hn : s.stk.length ≤ 1000000000) (hf : s.frs.length ≤ 1000000000) (htn : s.trs.length ≤ 1000000000) :
    Calls Tryd.prog 40 #[.pointer (some ⟨C.lo, 0, none⟩), .string str] w (OkRun C s' 0) := by
  have HL := Lib.hid (land_yes h ht hl hf htn)
  have hs1 := land_stk hl
  have hsz : str.data.toList.length = str.size := rfl
  rw [hsz] at hp
  clear h ht hl
  by_cases h4 : 4096 < str.size
  · rw [if_pos h4] at hp
    have HT := Lib.hid fun (w : World) (h : RunE C w s1) => text_short ⟨#[108, 111, 110, 103]⟩ h rfl (by decide) hp (by omega)
    have h4i : (4096 : Int) < (str.size : Int) := by omega
    clear hp h4
    go_enter Tryd.func40, Tryd.ntmps40
    go_wp2_with fail
    refine HL.out.mono ?_
    rintro e w1 ⟨rfl, h⟩
    have H := Lib.hid h
    clear h
    go_wp2_with fail
    refine (HT.out _ H.out).mono ?_
    rintro e w' ⟨rfl, hw⟩
    have HW := Lib.hid hw
    clear hw
    go_wp2
    go_ret
    exact ⟨rfl, HW.out⟩
  · rw [if_neg h4] at hp
    have HT := Lib.hid fun (w : World) (h : RunE C w s1) => text_short str h rfl (by rw [hsz]; omega) hp (by omega)
    have h4i : ¬ (4096 : Int) < (str.size : Int) := by omega
    clear hp h4
    go_enter Tryd.func40, Tryd.ntmps40
    go_wp2_with fail
    refine HL.out.mono ?_
    rintro e w1 ⟨rfl, h⟩
    have H := Lib.hid h
    clear h
    go_wp2_with fail
    refine (HT.out _ H.out).mono ?_
    rintro e w' ⟨rfl, hw⟩
    have HW := Lib.hid hw
    clear hw
    go_wp2
    go_ret
    exact ⟨rfl, HW.out⟩

theorem putText_zero {c : Mc} {s s' : Ms} {l : List UInt8} {n : Nat} (h : putText c s l = some (n, s')) : n = 0 := by
  unfold putText at h
  by_cases hq : s.W.length + need 3 l.length ≤ c.q
  · rw [if_pos hq] at h
    simp only [ok, Option.some.injEq, Prod.mk.injEq] at h
    exact h.1.symm
  · rw [if_neg hq] at h; cases h
theorem raise_nil {c : Mc} {s : Ms} {l : List UInt8} (h : s.trs = []) : raise c s l = some (9, { s with raised := l }) := by
  unfold raise; simp only [h]
theorem raise_cons {c : Mc} {s s' : Ms} {l : List UInt8} {t : Tr} {ts : List Tr} {n : Nat} (h : s.trs = t :: ts) (hr : raise c s l = some (n, s')) : ∃ s1, land s t ts = some s1 ∧ putText c s1 (if 4096 < l.length then tLong else l) = some (n, s') := by
  unfold raise at hr
  rw [h] at hr
  rcases hl : land s t ts with _ | s1
  · simp only [hl] at hr; cases hr
  · simp only [hl] at hr; exact ⟨s1, rfl, hr⟩

theorem raise_t {C : Cx} {s s' : Ms} {n : Nat} {l : List UInt8} {w : World} (str : ByteArray) (h : RunE C w s) (hl : str.data.toList = l) (hr : raise C.m s l = some (n, s')) (hn : s.stk.length ≤ 1000000000) (hf : s.frs.length ≤ 1000000000) (htn : s.trs.length ≤ 1000000000) :
    Calls Tryd.prog 40 #[.pointer (some ⟨C.lo, 0, none⟩), .string str] w (OkRun C s' n) := by
  subst hl
  rcases ht : s.trs with _ | ⟨t, ts⟩
  · rw [raise_nil ht] at hr
    simp only [Option.some.injEq, Prod.mk.injEq] at hr
    obtain ⟨rfl, rfl⟩ := hr
    exact raise_no str h ht
  · obtain ⟨s1, hl, hp⟩ := raise_cons ht hr
    obtain rfl := putText_zero hp
    exact raise_yes str h ht hl hp hn hf htn

set_option maxHeartbeats 1000000 in
set_option maxRecDepth 100000 in
theorem text_t' {C : Cx} {s s' : Ms} {n : Nat} {l : List UInt8} {w : World} (str : ByteArray) (h : RunE C w s) (hl : str.data.toList = l) (hr : Ma.text C.m s l = some (n, s')) (hn : s.stk.length ≤ 1000000000) (hf : s.frs.length ≤ 1000000000) (htn : s.trs.length ≤ 1000000000) :
    Calls Tryd.prog 32 #[.pointer (some ⟨C.lo, 0, none⟩), .string str] w (OkRun C s' n) := by
  subst hl
  have hsz : str.data.toList.length = str.size := rfl
  unfold Ma.text at hr
  by_cases h4 : 4096 < str.data.toList.length
  · rw [if_pos h4] at hr
    rw [hsz] at h4
    have HR := Lib.hid (raise_t ⟨#[108, 111, 110, 103]⟩ h rfl hr hn hf htn)
    have h4i : (4096 : Int) < (str.size : Int) := by omega
    clear h hr h4
    go_enter Tryd.func32, Tryd.ntmps32
    go_wp2_with fail
    refine HR.out.mono ?_
    rintro e w' ⟨rfl, hw⟩
    have HW := Lib.hid hw
    clear hw
    go_wp2
    go_ret
    exact ⟨rfl, HW.out⟩
  · rw [if_neg h4] at hr
    obtain rfl := putText_zero hr
    exact text_short str h rfl (by omega) hr hn
end Go.Proofs.YtpmbdncackneoaaDoor
