/- The reference's numbers with a sign, and bytes. -/
import Derived.Test.YtlfnblgpekilnaaOctV
import Derived.Test.YtlfnblgpekilnaaOctG
namespace Go.Proofs.Ytlfnblgpekilnaa
open Go.RowKit OctM

set_option maxHeartbeats 2000000 in
set_option maxRecDepth 100000 in
theorem refbytes (p : Value) (k : List UInt8) (w : World) (h : Rd w p k) (hk : k.length ≤ 140737488350000) :
    Calls Try.prog 33 #[p] w fun e w' => ∃ v, e = .returned v ∧ Own w' w.heap.size v (encB k) ∧ Below w.heap.size w w' := by
  obtain ⟨o, c, hp⟩ : ∃ o c, p = .slice o k.length c := by
    rcases h with ⟨rfl, rfl⟩ | ⟨_, c, rfl, _⟩ <;> exact ⟨_, _, rfl⟩
  have HC := Lib.hid (refuint (k.length : Int) w (by omega) (by omega))
  have hk0 : (0 : Int) ≤ (k.length : Int) := by omega
  have hk1 : (k.length : Int) ≤ 140737488350000 := by omega
  have H := Lib.hid h
  clear h
  subst hp
  go_enter Try.func33, Try.ntmps33
  go_wp2_with fail
  refine HC.out.mono ?_
  rintro e w1 ⟨v, rfl, ho, hb⟩
  rw [Int.toNat_natCast] at ho
  have hl : (enc k.length).length + k.length ≤ 140737488355328 := by rw [enc_length]; have := nd_le k.length; omega
  obtain ⟨v2, w2, hr, ho2, hg⟩ := append_own ho (H.out.below hb) hl hb.size 31
  have hb2 : Below w.heap.size w w2 := hb.grown hg hb.size (fun k hk => (ho.lt k hk).1)
  have HR := Lib.hid hr
  clear hr ho hg hb hl
  go_wp2_with (at_builtin; refine wpList_append_known rfl (.tmp 8) (.tmp 9) 31 31 (by rfl) _ _ _ (by rfl) (by rfl) HR.out ?_)
  go_ret
  exact ⟨_, rfl, ho2, hb2⟩
end Go.Proofs.Ytlfnblgpekilnaa
