/- A frame is written. -/
import Derived.Test.YtdckcjcddibglaaWaA
namespace Go.Proofs.Ytdckcjcddibglaa
open Go.RowKit OctM

set_option maxHeartbeats 4000000 in
set_option maxRecDepth 100000 in
theorem frame_any (bo bp bq : Nat) (v vp : Value) (bs l : List UInt8) (w0 w : World) (h : WS w0 bo v bs w) (hp : WAt w bp bq vp l) (hl : l.length ≤ 100000000) (hbs : bs.length ≤ 100000000) :
    Calls Try.prog 32 #[.pointer (some ⟨bo, 0, none⟩), .pointer (some ⟨bp, 0, none⟩)] w fun e w' => e = .returned (.tuple #[]) ∧ (∃ v', WS w0 bo v' (bs ++ encB (sealed l)) w' ∧ (v'.ownBlock = v.ownBlock ∨ ∃ g, v'.ownBlock = some g ∧ w.heap.size ≤ g)) ∧ Kept (two bo v) w w' := by
  have HD := Lib.hid (wdone bp bq vp l w hp (by omega))
  have H := Lib.hid h
  clear h hp
  go_enter Try.func32, Try.ntmps32
  go_wp2_with fail
  refine HD.out.mono ?_
  rintro e w1 ⟨x1, rfl, ho1, hb1⟩
  have HS := Lib.hid (sealC x1 l w1 (Rd.of_own ho1) (by omega))
  have HB1 := Lib.hid hb1
  clear ho1 hb1 HD
  go_wp2_with fail
  refine HS.out.mono ?_
  rintro e w2 ⟨x2, rfl, ho2, hb2⟩
  have h2 := (H.out.below HB1.out).below hb2
  have hs1 := HB1.out.size
  have hs2 := hb2.size
  have hrd := h2.rdo ho2 (fun k hk hd => by
    have h5 := (ho2.lt k hk).1
    have h6 := (H.out.two_lt k hd).2
    omega)
  have HW := Lib.hid (wbytes bo w0.heap.size v bs x2 (sealed l) w2 h2.at_ h2.bel.size hrd.1 hrd.2 (by rw [sealed_length]; omega))
  have H2 := Lib.hid h2
  have HB2 := Lib.hid hb2
  clear hrd h2 ho2 hb2 HS
  go_wp2_with fail
  refine HW.out.mono ?_
  intro e w3 hp
  have hret := hp.ret
  subst hret
  obtain ⟨v', hat, hor⟩ := hp.at_
  have hws : WS w0 bo v' (bs ++ encB (sealed l)) w3 := ⟨hat, H2.out.bel.trans (hp.kept.below H2.out.bel.size (fun k hk => (H2.out.two_lt k hk).1)), H2.out.ge⟩
  have hk : Kept (two bo v) w w3 := ((kept_of_below HB1.out).trans (kept_of_below HB2.out)).trans hp.kept
  have HP := Lib.hid hws
  have HK := Lib.hid hk
  have hor' : v'.ownBlock = v.ownBlock ∨ ∃ g, v'.ownBlock = some g ∧ w.heap.size ≤ g := by
    rcases hor with h | ⟨g, hg, hgs⟩
    · exact .inl h
    · exact .inr ⟨g, hg, by omega⟩
  have HO := Lib.hid hor'
  clear hp hws hk hor hor' hat HW
  go_wp2_with fail
  go_end0
  exact ⟨rfl, ⟨v', HP.out, HO.out⟩, HK.out⟩
end Go.Proofs.Ytdckcjcddibglaa
