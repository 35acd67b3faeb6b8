/- The reference's Right: what it takes is right. -/
import Derived.Test.YtmljelcmjagjjaaHeaUh
namespace Go.Proofs.Ytmljelcmjagjjaa
open Go.RowKit HeaM

/-- What Right leaves. -/
def RtPost (w w' : World) (W : List Nat) (e : Ending) : Prop := ∃ b : Bool, e = .returned (.bool b) ∧ (b = true → ∃ F, Right W F) ∧ Below w.heap.size w w'
theorem rtNo {w w' : World} {W : List Nat} (hb : Below w.heap.size w w') : RtPost w w' W (.returned (.bool false)) := ⟨false, rfl, fun h => absurd h (by decide), hb⟩

/-- The second pass: what was looked at is sound. -/
structure RsR (w wr : World) (W : List Nat) (l done todo : List (List Nat)) (o g : Nat) : Prop where
  at_ : SegAt l done todo o
  sound : ∀ i, i < o → Ob W (marks l) i → W.getD i 0 % 256 ≠ 3 → ∀ x ∈ rst W i, x % 2 = 1 ∨ isObj W (marks l) x = true
  row : wr.ownsRow w.heap.size 4 1 (.slice (some ⟨g, 0, none⟩) W.length W.length) W.length (Fs (marks l))
  below : Below w.heap.size w wr
theorem RsR.more {w wr w1 : World} {W : List Nat} {l done todo : List (List Nat)} {o g : Nat} (h : RsR w wr W l done todo o g) (hb : Below wr.heap.size wr w1) : RsR w w1 W l done todo o g :=
  ⟨h.at_, h.sound, own_kept h.row (Below.kept (S := fun k => wr.heap.size ≤ k) hb fun k h1 _ => h1) fun k hk hs => by have := (h.row.lt k hk).2; omega, h.below.trans (hb.mono h.below.size)⟩
theorem RsR.next {w wr : World} {W : List Nat} {l done todo : List (List Nat)} {s : List Nat} {o g : Nat} (h : RsR w wr W l done (s :: todo) o g) (hob : Ob W (marks l) o) (hs : szX (W.getD o 0) = s.length) (hp : W.getD o 0 % 256 ≠ 3 → ∀ x ∈ rst W o, x % 2 = 1 ∨ isObj W (marks l) x = true) : RsR w wr W l (done ++ [s]) todo (o + szX (W.getD o 0)) g := by
  refine ⟨by rw [hs]; exact h.at_.next, ?_, h.row, h.below⟩
  intro i hi hi2 hk x hx
  rcases Nat.lt_trichotomy i o with h1 | h1 | h1
  · exact h.sound i h1 hi2 hk x hx
  · subst h1
    exact hp hk x hx
  · have h2 := hob.rest i h1 hi
    rw [hi2.mark] at h2
    cases h2

set_option maxHeartbeats 8000000 in
set_option maxRecDepth 100000 in
theorem right_t (v : Value) (W : List Nat) (w : World) (h : RdW w v W) (hws : ∀ x ∈ W, x < 18446744073709551616) (hmx : W.length ≤ 10000000) :
    Calls Try.prog 32 #[v] w fun e w' => RtPost w w' W e := by
  obtain ⟨o, cap, hv, hcap, hmax⟩ := h.slice
  rw [Ws_length] at hv hcap
  have HR := Lib.hid h
  have HWS := Lib.hid hws
  clear h hws
  subst hv
  have hmx' : (W.length : Int) ≤ 10000000 := by omega
  have mk := madeF W.length (by omega)
  have HSZ := Lib.hid (show (Fs (List.replicate W.length false)).toArray.toList = Fs (List.replicate W.length false) by simp)
  have hsz2 : (Fs (List.replicate W.length false)).toArray.size = W.length * 1 := by simp [Fs]
  generalize (Fs (List.replicate W.length false)).toArray = CF at *
  have HS2 := Lib.hid hsz2
  clear hsz2
  have HST : Hid (RtR w (w.alloc (.cells CF 4)) W [] 0 w.heap.size) := by
    refine ⟨by simp, by simp, ?_, (Below.refl _ _).alloc (Nat.le_refl _) _⟩
    have h1 := World.ownsRow_lit (base := w.heap.size) (e := 4) (size := 1) w CF W.length (Nat.le_refl _) (by unfold maxLen; omega) HS2.out
    rw [HSZ.out] at h1
    simpa [mksTo, marks] using h1
  have hAt : ∀ (wr : World) (i : Nat), i < W.length → Below w.heap.size w wr → Calls Try.prog 22 #[.slice o W.length cap, .int .i64 (i : Int)] wr fun e w' => ∃ (kk : Nat) (po : Option Addr) (pc : Nat) (str : ByteArray) (N : Nat) (P : List Nat),
      e = .returned (.tuple #[.agg #[.int .u8 (kk : Int), .slice po P.length pc, .string str], .int .i64 (N : Int)]) ∧ OwnU w' wr.heap.size (.slice po P.length pc) P ∧ Below wr.heap.size wr w' ∧
      N = (if atOk W i = true then szX (W.getD i 0) else 0) ∧ P = (if atOk W i = true ∧ W.getD i 0 % 256 ≠ 3 then rst W i else []) ∧ kk < 256 :=
    fun wr i hi hb => at_lit _ W i wr (HR.out.below hb) hi HWS.out hmx
  have HAT := Lib.hid hAt
  clear hAt
  go_enter Try.func32, Try.ntmps32
  go_wp2_with fail
  clear mk
  go_loopw [4] (fun i' wr => ∃ (p : Nat) (done : List (List Nat)), p ≤ W.length ∧ i' = .int .i64 p ∧ Hid (RtR w wr W done p w.heap.size)) (fun i' _ => W.length - (intOf i').toNat)
  case atStart => exact ⟨0, [], Nat.zero_le _, rfl, HST.out⟩
  case round =>
    obtain ⟨p, done, hp, rfl, HK⟩ := hrel
    clear HST
    by_cases hlt : p < W.length
    · have hlt' : (p : Int) < (W.length : Int) := by omega
      have HA := Lib.hid (HAT.out wr p hlt HK.out.below)
      go_wp2_with fail
      refine HA.out.mono ?_
      rintro e w1 ⟨kk, po, pc, str, N, P, rfl, ho, hb, hN, hP, hkk⟩
      rcases hok : atOk W p with _ | _
      · rw [hok] at hN
        obtain rfl : N = 0 := by simpa using hN
        have hfin : ∀ o, RtPost w (w1.alloc o) W (.returned (.bool false)) := fun o => rtNo ((HK.out.below.trans (hb.mono HK.out.below.size)).alloc (by have := hb.size; have := HK.out.below.size; omega) _)
        have FIN := Lib.hid hfin
        have hkk' : (kk : Int) ≤ 255 := by omega
        clear hN hP ho hb hfin hok
        go_wp2_with fail
        go_ret
        exact FIN.out _
      · rw [hok] at hN
        simp only [if_true] at hN
        obtain ⟨_, _, hf⟩ := atOk_seg hlt HWS.out hok
        have hpos := szX_pos (W.getD p 0)
        have hnx := fun o => HK.out.next (w1 := w1.alloc o) hlt HWS.out hok (hb.alloc hb.size _)
        have hr1 := fun o => own_kept HK.out.row (Below.kept (S := fun k => wr.heap.size ≤ k) (hb.alloc hb.size o) fun k h1 _ => h1) fun k hk hs => by have := (HK.out.row.lt k hk).2; omega
        have hgl := (HK.out.row.lt w.heap.size rfl).2
        rw [← hN] at hf hpos hnx
        have hkk' : (kk : Int) ≤ 255 := by omega
        have hN0 : ((N : Int) == 0) = false := by rw [beq_eq_false_iff_ne]; omega
        have hNi : (N : Int) ≤ 10000000 := by omega
        have hcell : ∀ o, ∃ ov, (w1.alloc o).cell? ⟨w.heap.size, p, none⟩ = some ov := fun o => by
          have hr := hr1 o
          rw [World.ownsRow.cellAt hr p (by omega)]
          exact ⟨_, List.getElem?_eq_getElem (by rw [hr.1]; omega)⟩
        have hfr : ∀ o, (w1.alloc o).frozen? ⟨w.heap.size, p, none⟩ = false := fun o => (hr1 o).frozenAt p
        obtain ⟨ov, hov⟩ := hcell (.cells #[.int .u8 (kk : Int), .slice po P.length pc, .string str] 41)
        have hfr2 := hfr (.cells #[.int .u8 (kk : Int), .slice po P.length pc, .string str] 41)
        have HNX := Lib.hid hnx
        have hs1 := hb.size
        clear hN hP ho hb hok hnx hr1 hcell hfr
        go_wp2_with fail
        go_roundw
        case rel => exact ⟨p + N, _, hf, by go_num, HNX.out _⟩
        case measure => simp [intOf]; omega
    · obtain rfl : p = W.length := by omega
      have hfl := HK.out.flat
      rw [List.take_length] at hfl
      have hml := marks_length HK.out.segs
      have hrow : wr.ownsRow w.heap.size 4 1 (.slice (some ⟨w.heap.size, 0, none⟩) W.length W.length) W.length (Fs (marks done)) := by
        have h1 := HK.out.row
        unfold mksTo at h1
        rw [hfl, Nat.sub_self, List.replicate_zero, List.append_nil] at h1
        exact h1
      have HL : Hid (∀ s ∈ done, Seg s) := HK.out.segs
      have HFL := Lib.hid hfl
      have hgood := good_segs HL.out (by rw [hfl]; exact hmx)
      rw [hfl] at hgood
      have HG := Lib.hid hgood
      have HST2 : Hid (RsR w wr W done [] done 0 w.heap.size) := ⟨⟨rfl, rfl⟩, fun i hi => by omega, hrow, HK.out.below⟩
      clear HK hfl hml hrow hgood
      generalize done = l at *
      go_wp2_with fail
      go_loopw [7] (fun i' wr => ∃ (p : Nat) (d t : List (List Nat)), p ≤ W.length ∧ i' = .int .i64 p ∧ Hid (RsR w wr W l d t p w.heap.size)) (fun i' _ => W.length - (intOf i').toNat)
      case atStart => exact ⟨0, [], l, Nat.zero_le _, rfl, HST2.out⟩
      case round =>
        obtain ⟨q, d, t, hq, rfl, HK⟩ := hrel
        clear HST2
        by_cases hlt : q < W.length
        · have hlt' : (q : Int) < (W.length : Int) := by omega
          obtain ⟨s, t', rfl, hob, hsz⟩ := ob_next HL.out HK.out.at_ (by rw [HFL.out]; exact hlt)
          rw [HFL.out] at hob hsz
          have hok : atOk W q = true := by
            unfold atOk
            rw [hob.kind]
            have := hob.fits
            simp only [Bool.true_and, decide_eq_true_eq]
            omega
          have hfit := hob.fits
          have hpos := szX_pos (W.getD q 0)
          have HA := Lib.hid (HAT.out _ q hlt HK.out.below)
          have HOB := Lib.hid hob
          have HSS := Lib.hid hsz
          have HOK := Lib.hid hok
          clear hob hsz hok
          go_wp2_with fail
          refine HA.out.mono ?_
          rintro e w1 ⟨kk, po, pc, str, N, P, rfl, ho, hb, hN, hP, hkk⟩
          rw [HOK.out] at hN hP
          simp only [if_true, true_and] at hN hP
          rw [← hN] at hfit hpos
          have HN := Lib.hid hN
          have HP := Lib.hid hP
          have hPl : P.length ≤ W.length := by
            rw [hP]
            split
            · have := rst_length HOB.out
              have h2 := HOB.out.fits
              have h3 := szX_pos (W.getD q 0)
              omega
            · exact Nat.zero_le _
          have hkk' : (kk : Int) ≤ 255 := by omega
          have hK1 := HK.out.more (hb.alloc hb.size (.cells #[.int .u8 (kk : Int), .slice po P.length pc, .string str] 41))
          have hP1 : OwnU (w1.alloc (.cells #[.int .u8 (kk : Int), .slice po P.length pc, .string str] 41)) wr.heap.size (.slice po P.length pc) P := ho.alloc _
          have hnew := heap_alloc_new w1 (.cells #[.int .u8 (kk : Int), .slice po P.length pc, .string str] 41)
          have hcN := (ob_cells hnew).2.1
          have HK1 := Lib.hid hK1
          have HP1 := Lib.hid hP1
          clear hN hP ho hb hK1 hP1 hnew
          go_wp2_with fail
          generalize w1.alloc (.cells #[.int .u8 (kk : Int), .slice po P.length pc, .string str] 41) = w2 at *
          have hPi : (P.length : Int) ≤ 10000000 := by omega
          go_loop [10] (fun a => ∃ i : Nat, i ≤ P.length ∧ a = .int .i64 i ∧ Hid (∀ x ∈ P.take i, x % 2 = 1 ∨ isObj W (marks l) x = true)) (fun a => P.length - (intOf a).toNat)
          case atStart => exact ⟨0, Nat.zero_le _, rfl, fun x hx => by simp at hx⟩
          case round =>
            obtain ⟨i, hi, rfl, HI⟩ := hrel
            by_cases hil : i < P.length
            · have hil' : (i : Int) < (P.length : Int) := by omega
              obtain ⟨a, pc', hpv, _, hca⟩ := at_cell (RdV.of_own HP1.out) hil
              simp only [Value.slice.injEq] at hpv
              obtain ⟨rfl, -, rfl⟩ := hpv
              have hcx := hca i hil
              obtain ⟨x, hx⟩ : ∃ x, P.getD i 0 = x := ⟨_, rfl⟩
              rw [hx] at hcx
              have hxg : P[i]? = some x := by rw [← hx, List.getD_eq_getElem?_getD, List.getElem?_eq_getElem hil]; rfl
              have hxm : x ∈ P := List.mem_of_getElem? hxg
              have hxW : x ∈ W := by
                rw [HP.out] at hxm
                split at hxm
                · exact List.mem_of_mem_drop (List.mem_of_mem_take hxm)
                · cases hxm
              have hxl := HWS.out x hxW
              have hx' : (x : Int) ≤ 18446744073709551615 := by omega
              have htk : P.take (i + 1) = P.take i ++ [x] := by
                rw [List.take_succ_eq_append_getElem hil]
                congr 2
                rw [List.getElem?_eq_getElem hil] at hxg
                injection hxg
              have hnx : (x % 2 = 1 ∨ isObj W (marks l) x = true) → ∀ y ∈ P.take (i + 1), y % 2 = 1 ∨ isObj W (marks l) y = true := by
                intro h y hy
                rw [htk] at hy
                rcases List.mem_append.1 hy with hy | hy
                · exact HI.out y hy
                · simp at hy; subst hy; exact h
              have HNX := Lib.hid hnx
              have hno : RtPost w w2 W (.returned (.bool false)) := rtNo HK1.out.below
              have HNO := Lib.hid hno
              clear hca hx hxg hxm hxW htk hnx hno
              by_cases hodd : x % 2 = 1
              · have h1 : ((x : Int) % 2 == 0) = false := by rw [beq_eq_false_iff_ne]; omega
                have HN1 := Lib.hid (HNX.out (.inl hodd))
                clear hodd
                go_wp2_with fail
                go_round
                case rel => exact ⟨i + 1, by omega, by go_num, HN1.out⟩
                case measure => simp [intOf]; omega
              · have h1 : ((x : Int) % 2 == 0) = true := by rw [beq_iff_eq]; omega
                by_cases hbig : W.length ≤ x / 2
                · have h2 : (W.length : Int) ≤ (x : Int) / 2 := by omega
                  clear hodd
                  go_wp2_with fail
                  go_ret
                  exact HNO.out
                · have h2 : ¬ (W.length : Int) ≤ (x : Int) / 2 := by omega
                  have h2n : (x : Int) / 2 < (W.length : Int) := by omega
                  have hx2 : x / 2 < W.length := by omega
                  have hml : (marks l).length = W.length := HG.out.len
                  obtain ⟨bb, hbb⟩ : ∃ bb, (marks l)[x / 2]? = some bb := ⟨_, List.getElem?_eq_getElem (by omega)⟩
                  have hcb : w2.cell? ⟨w.heap.size, x / 2, none⟩ = some (.bool bb) := by
                    have hr := HK1.out.row
                    rw [World.ownsRow.cellAt hr _ (by omega)]
                    simp only [Fs, List.getElem?_map, hbb]
                    rfl
                  have hobj : bb = true → isObj W (marks l) x = true := fun e => isObj_iff.2 ⟨by omega, hx2, by rw [hbb, e]⟩
                  have HOBJ := Lib.hid hobj
                  have hxn : ((x : Int) / 2).toNat = x / 2 := by omega
                  have hx0 : (0 : Int) ≤ (x : Int) / 2 := by omega
                  clear hml hbb hobj hodd hbig
                  cases bb with
                  | false =>
                    go_wp2_with fail
                    go_ret
                    exact HNO.out
                  | true =>
                    have HN1 := Lib.hid (HNX.out (.inr (HOBJ.out rfl)))
                    go_wp2_with fail
                    go_round
                    case rel => exact ⟨i + 1, by omega, by go_num, HN1.out⟩
                    case measure => simp [intOf]; omega
            · obtain rfl : i = P.length := by omega
              have hall := HI.out
              rw [List.take_length] at hall
              have hfin : RsR w w2 W l (d ++ [s]) t' (q + N) w.heap.size := by
                have h1 := HK1.out.next HOB.out HSS.out (fun hk x hx => hall x (by rw [HP.out, if_pos hk]; exact hx))
                rw [← HN.out] at h1
                exact h1
              have FIN := Lib.hid hfin
              have hNi : (N : Int) ≤ 10000000 := by omega
              clear hall hfin
              go_wp2_with fail
              go_roundw
              case rel => exact ⟨q + N, d ++ [s], t', hfit, by go_num, FIN.out⟩
              case measure => simp [intOf]; omega
        · obtain rfl : q = W.length := by omega
          have hfin : RtPost w wr W (.returned (.bool true)) := by
            refine ⟨true, rfl, fun _ => ⟨marks l, ⟨l, HL.out, HFL.out.symm, rfl⟩, ?_⟩, HK.out.below⟩
            intro i hi hk x hx
            have h1 := hi.fits
            have h2 := szX_pos (W.getD i 0)
            exact HK.out.sound i (by omega) hi hk x hx
          have FIN := Lib.hid hfin
          clear hfin
          go_wp2_with fail
          go_ret
          exact FIN.out
end Go.Proofs.Ytmljelcmjagjjaa
