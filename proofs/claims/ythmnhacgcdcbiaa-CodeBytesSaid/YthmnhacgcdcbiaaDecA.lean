/- The next instruction of bytes. -/
import Derived.Test.YthmnhacgcdcbiaaDecM
import Derived.Test.YthmnhacgcdcbiaaDecP
import Derived.Test.YthmnhacgcdcbiaaCodX
namespace Go.Proofs.Ythmnhacgcdcbiaa
open Go.RowKit OctM CodM

structure DIPost (lim : Nat) (ptr : Option Addr) (w : World) (s : Option (List UInt8)) (e : Ending) (w' : World) : Prop where
  ret : e = .returned (insV (insS s).1)
  st : D.RS lim w' ptr (insS s).2
  kept : Kept (own1 ptr) w w'

set_option maxHeartbeats 2000000 in
set_option maxRecDepth 100000 in
theorem decodeIns (ptr : Option Addr) (s : Option (List UInt8)) (lim : Nat) (w : World) (h : D.RS lim w ptr s) (hp : ∀ a, ptr = some a → a.block < w.heap.size) (hl : lim ≤ w.heap.size) :
    Calls Try.prog 43 #[.pointer ptr] w (DIPost lim ptr w s) := by
  have hb1 : Below w.heap.size w (w.alloc (.cells #[.int .u8 0, .int .i64 0, .int .i64 0, .string ⟨#[]⟩] 34)) := (Below.refl _ _).alloc (Nat.le_refl _) _
  have h1 := D.rupto ptr s 255 _ (h.below hb1) (by omega) (by omega)
  have hblk := heap_alloc_new w (.cells #[.int .u8 0, .int .i64 0, .int .i64 0, .string ⟨#[]⟩] 34)
  have H1 := Lib.hid h1
  have HB1 := Lib.hid (kept_of_below (S := own1 ptr) hb1)
  have HBL := Lib.hid hblk
  have hon : ¬ own1 ptr w.heap.size := by
    rintro ⟨a, ha, hb⟩
    have := hp a ha
    omega
  have HON := Lib.hid hon
  clear h1 hb1 hblk hon h
  go_enter Try.func43, Try.ntmps43
  go_wp2_with fail
  refine H1.out.mono ?_
  rintro e w1 ⟨rfl, hs1, hk1⟩
  have hm1 := uptoS_most s 255
  have hK1 := HB1.out.trans hk1
  have h2 := D.rint ptr _ w1 hs1
  have hbl1 := (hk1.block w.heap.size (by simp) HON.out).trans HBL.out
  have HIN : Hid (insS s = insS s) := rfl
  have HI0 : Hid ((insS s) = (⟨(uptoS s 255).1, unzig (uintS (uptoS s 255).2).1, ((uptoS (uintS (uptoS s 255).2).2 1048576).1 : Nat), ⟨(bytesS (uptoS (uintS (uptoS s 255).2).2 1048576).2 2000).1.toArray⟩⟩, (bytesS (uptoS (uintS (uptoS s 255).2).2 1048576).2 2000).2)) := rfl
  generalize (uptoS s 255).1 = N1 at *
  generalize (uptoS s 255).2 = s1 at *
  generalize (uintS s1).2 = s2 at *
  generalize unzig (uintS s1).1 = N2 at *
  have H2 := Lib.hid h2
  have HK1 := Lib.hid hK1
  have HBL1 := Lib.hid hbl1
  clear h2 hK1 hbl1 hs1 hk1 HIN
  go_wp2_with fail
  refine H2.out.mono ?_
  rintro e w2 ⟨rfl, hs2, hk2⟩
  have hK2 := HK1.out.trans hk2
  have hbl2 := (hk2.block w.heap.size (lt_of_block HBL1.out) HON.out).trans HBL1.out
  have h3 := D.rupto ptr s2 1048576 w2 hs2 (by omega) (by omega)
  have hm3 := uptoS_most s2 1048576
  generalize (uptoS s2 1048576).1 = N3 at *
  generalize (uptoS s2 1048576).2 = s3 at *
  have H3 := Lib.hid h3
  have HK2 := Lib.hid hK2
  have HBL2 := Lib.hid hbl2
  clear h3 hK2 hbl2 hs2 hk2
  go_wp2_with fail
  refine H3.out.mono ?_
  rintro e w3 ⟨rfl, hs3, hk3⟩
  have hK3 := HK2.out.trans hk3
  have hbl3 := (hk3.block w.heap.size (lt_of_block HBL2.out) HON.out).trans HBL2.out
  have h4 := D.rtext ptr s3 2000 w3 hs3 (by omega) (by omega)
  unfold S at h4
  generalize (bytesS s3 2000).1 = L4 at *
  generalize (bytesS s3 2000).2 = s4 at *
  have H4 := Lib.hid h4
  have HK3 := Lib.hid hK3
  have HBL3 := Lib.hid hbl3
  clear h4 hK3 hbl3 hs3 hk3
  go_wp2_with fail
  refine H4.out.mono ?_
  rintro e w4 ⟨rfl, hs4, hk4⟩
  have hK4 := HK3.out.trans hk4
  have hbl4 := (hk4.block w.heap.size (lt_of_block HBL3.out) HON.out).trans HBL3.out
  have c0 := cellk (i := 0) hbl4 rfl
  have c1 := cellk (i := 1) hbl4 rfl
  have c2 := cellk (i := 2) hbl4 rfl
  have c3 := cellk (i := 3) hbl4 rfl
  have f0 := free_of hbl4 0
  have f1 := free_of hbl4 1
  have f2 := free_of hbl4 2
  have f3 := free_of hbl4 3
  have lt4 := lt_of_block hbl4
  have HK4 := Lib.hid hK4
  have HS4 := Lib.hid hs4
  clear hK4 hbl4 hs4 hk4
  go_wp2_with fail
  have hq : Kept (fun k => k = w.heap.size) w4 ((((w4.setCell ⟨w.heap.size, 0, none⟩ (.int .u8 (N1 : Int))).setCell ⟨w.heap.size, 1, none⟩ (.int .i64 N2)).setCell ⟨w.heap.size, 2, none⟩ (.int .i64 (N3 : Int))).setCell ⟨w.heap.size, 3, none⟩ (.string ⟨L4.toArray⟩)) :=
    ((((Kept.refl (fun k => k = w.heap.size) w4).setCell (p := ⟨w.heap.size, 0, none⟩) (.inl rfl) _).setCell (p := ⟨w.heap.size, 1, none⟩) (.inl rfl) _).setCell (p := ⟨w.heap.size, 2, none⟩) (.inl rfl) _).setCell (p := ⟨w.heap.size, 3, none⟩) (.inl rfl) _
  have hs5 := HS4.out.keep hq (fun a ha e => by have := hp a ha; omega) (fun k hk e => by omega)
  have hk5 := (((HK4.out.setCell (p := ⟨w.heap.size, 0, none⟩) (.inr (Nat.le_refl _)) (.int .u8 (N1 : Int))).setCell (p := ⟨w.heap.size, 1, none⟩) (.inr (Nat.le_refl _)) (.int .i64 N2)).setCell (p := ⟨w.heap.size, 2, none⟩) (.inr (Nat.le_refl _)) (.int .i64 (N3 : Int))).setCell (p := ⟨w.heap.size, 3, none⟩) (.inr (Nat.le_refl _)) (.string ⟨L4.toArray⟩)
  refine bodyPost_ret (v := .agg #[.int .u8 (N1 : Int), .int .i64 N2, .int .i64 (N3 : Int), .string ⟨L4.toArray⟩]) (by simp [results, Try.results43, go_sem, c0, c1, c2, c3]) rfl ⟨?_, ?_, hk5⟩
  · rw [HI0.out]; rfl
  · rw [HI0.out]; exact hs5
end Go.Proofs.Ythmnhacgcdcbiaa
