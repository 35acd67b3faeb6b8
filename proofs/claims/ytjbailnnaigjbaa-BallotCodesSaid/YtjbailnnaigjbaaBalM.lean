/- awake. -/
import Derived.Test.YtjbailnnaigjbaaBalL
namespace Go.Proofs.Ytjbailnnaigjbaa
open Go.RowKit OctM

/-- A state's box is no part of its rows. -/
theorem StO.boxK {w w' : World} {base X : Nat} {D : List UInt8} {ps : List (En × Value)} {vs ns ms : List Value} {d l v n m : Value} {cs : Array Value} (h : StO w base D ps vs ns ms d l v n m) (hX : w.heap[X]? = some (.cells cs 41 (0, 0))) (hk : Kept (fun k => k = X) w w') : StO w' base D ps vs ns ms d l v n m :=
  ⟨own_kept h.hd hk (fun g hg e => own_ne h.hd hX (by decide) (e ▸ hg)),
   h.hl.kept hk (fun g hg e => own_ne h.hl.row hX (by decide) (e ▸ hg)) (fun p hp g hg e => own_ne (h.hl.cells p hp) hX (by decide) (e ▸ hg)),
   own_kept h.hv hk (fun g hg e => own_ne h.hv hX (by decide) (e ▸ hg)),
   own_kept h.hn hk (fun g hg e => own_ne h.hn hX (by decide) (e ▸ hg)),
   own_kept h.hm hk (fun g hg e => own_ne h.hm hX (by decide) (e ▸ hg)), h.nm⟩

/-- A node that leads. -/
def scL (k lf : Int) (cm : Nat) : Sc := ⟨1, 0, k, 1, 0, 0, 0, cm, 2, 0, lf⟩

/-- A law's box with a state of one node. -/
structure Bx (w W : World) (B : Nat) (p : Sc) (qs : List (En × Value)) (vs ns ms : List Value) (d l v n m : Value) : Prop where
  box : W.heap[B]? = some (.cells (stC p d l v n m).toArray 41 (0, 0))
  st : StO W w.heap.size [] qs vs ns ms d l v n m
  bel : Below w.heap.size w W
  ge : w.heap.size ≤ B

theorem Bx.below {w W W' : World} {B : Nat} {p : Sc} {qs : List (En × Value)} {vs ns ms : List Value} {d l v n m : Value} (h : Bx w W B p qs vs ns ms d l v n m) (hb : Below W.heap.size W W') : Bx w W' B p qs vs ns ms d l v n m :=
  ⟨(hb.block B (lt_of_block h.box)).trans h.box, h.st.below hb, h.bel.trans (hb.mono h.bel.size), h.ge⟩
theorem Bx.set {w W W' : World} {B : Nat} {p p' : Sc} {qs qs' : List (En × Value)} {vs ns ms vs' ns' ms' : List Value} {d l v n m d' l' v' n' m' : Value} (h : Bx w W B p qs vs ns ms d l v n m) (hst : StO W' W.heap.size [] qs' vs' ns' ms' d' l' v' n' m') (hb : Below W.heap.size W W') :
    W'.heap[B]? = some (.cells (stC p d l v n m).toArray 41 (0, 0)) ∧ Bx w (W'.setRow B (stC p' d' l' v' n' m').toArray) B p' qs' vs' ns' ms' d' l' v' n' m' := by
  have hbx := (hb.block B (lt_of_block h.box)).trans h.box
  refine ⟨hbx, setRow_heap _ _ _ _ _ _ hbx, (hst.base h.bel.size).boxK hbx (row_kept W' B _), ?_, h.ge⟩
  exact (h.bel.trans (hb.mono h.bel.size)).trans ((row_kept W' B _).below (Nat.le_trans h.bel.size hb.size) (fun k hk => by have := h.ge; omega))
theorem Bx.drew {w W : World} {B : Nat} {p : Sc} {qs : List (En × Value)} {vs ns ms : List Value} {d l v n m : Value} (h : Bx w W B p qs vs ns ms d l v n m) : Bx w W.drew B p qs vs ns ms d l v n m :=
  ⟨h.box, h.st.kept (S := fun _ => False) (Kept.refl _ _).drew (fun _ _ h => h), h.bel.drew, h.ge⟩
theorem bx_new {w W1 : World} {p : Sc} {vs ns ms : List Value} {d l v n m : Value} {qs : List (En × Value)} (hst : StO W1 w.heap.size [] qs vs ns ms d l v n m) (hb : Below w.heap.size w W1) : Bx w ((W1.alloc (.cells zsC.toArray 41)).setRow W1.heap.size (stC p d l v n m).toArray) W1.heap.size p qs vs ns ms d l v n m := by
  rw [World.setRow_alloc_new]
  exact ⟨heap_alloc_new _ _, hst.below ((Below.refl _ _).alloc (Nat.le_refl _) _), hb.trans (((Below.refl _ _).alloc (Nat.le_refl _) _).mono hb.size), hb.size⟩

set_option maxHeartbeats 8000000 in
set_option maxRecDepth 100000 in
theorem bawake (w : World) : Calls Try.prog 5 #[] w fun e w' => e = .returned (.bool true) ∧ Below w.heap.size w w' := by
  have HN := Lib.hid (new_one 2 w (by omega) (by omega))
  go_enter Try.func5, Try.ntmps5
  go_wp2_with fail
  with_reducible refine HN.out.mono ?_
  rintro e W1 ⟨v, n, m, rfl, hst, hb1⟩
  obtain ⟨ov1, cv1, rfl⟩ := own_slice' hst.hv
  obtain ⟨on1, cn1, rfl⟩ := own_slice' hst.hn
  obtain ⟨om1, cm1, rfl⟩ := own_slice' hst.hm
  simp only [List.length_nil, List.length_cons, Nat.zero_add] at hst ⊢
  have hbx := bx_new (p := scW 2 2) hst hb1
  have HBX := Lib.hid hbx
  clear hst hb1 hbx
  unfold zsC at HBX
  unfold stV scW stC
  dsimp only
  simp only [show ((0 : Nat) : Int) = 0 from rfl]
  go_upto_region 2 with (refine wpList_store_row rfl 41 (.tmp 1) (.tmp 5) rfl W1.heap.size (stC (scW 2 2) (.slice none 0 0) (.slice none 0 0) (.slice ov1 1 cv1) (.slice on1 1 cn1) (.slice om1 1 cm1)).toArray rfl rfl 41 zsC.toArray (heap_alloc_new W1 _) (by kernel_rfl) rfl (by simp [stC, scW, Value.oneCell']) ?_)
  obtain ⟨B, hB⟩ : ∃ B, W1.heap.size = B := ⟨_, rfl⟩
  rw [hB] at HBX ⊢
  clear hB
  generalize (W1.alloc (.cells #[.int .i64 0, .int .i64 0, .int .i64 0, .int .u64 0, .int .i64 0, .int .u64 0, .int .u64 0, .slice none 0 0, .slice none 0 0, .int .u64 0, .int .u8 0, .int .i64 0, .int .i64 0, .slice none 0 0, .slice none 0 0, .slice none 0 0] 41)).setRow B (stC (scW 2 2) (.slice none 0 0) (.slice none 0 0) (.slice ov1 1 cv1) (.slice on1 1 cn1) (.slice om1 1 cm1)).toArray = Wa at *
  have hbx := HBX.out
  have x0 : Wa.cell? ⟨B, 0, none⟩ = some (.int .i64 1) := cellk hbx.box rfl
  have x1 : Wa.cell? ⟨B, 1, none⟩ = some (.int .i64 0) := cellk hbx.box rfl
  have x2 : Wa.cell? ⟨B, 2, none⟩ = some (.int .i64 2) := cellk hbx.box rfl
  have x3 : Wa.cell? ⟨B, 3, none⟩ = some (.int .u64 0) := cellk hbx.box rfl
  have x4 : Wa.cell? ⟨B, 4, none⟩ = some (.int .i64 (-1)) := cellk hbx.box rfl
  have x5 : Wa.cell? ⟨B, 5, none⟩ = some (.int .u64 0) := cellk hbx.box rfl
  have x6 : Wa.cell? ⟨B, 6, none⟩ = some (.int .u64 0) := cellk hbx.box rfl
  have x7 : Wa.cell? ⟨B, 7, none⟩ = some (.slice none 0 0) := cellk hbx.box rfl
  have x8 : Wa.cell? ⟨B, 8, none⟩ = some (.slice none 0 0) := cellk hbx.box rfl
  have x9 : Wa.cell? ⟨B, 9, none⟩ = some (.int .u64 0) := cellk hbx.box rfl
  have x10 : Wa.cell? ⟨B, 10, none⟩ = some (.int .u8 0) := cellk hbx.box rfl
  have x11 : Wa.cell? ⟨B, 11, none⟩ = some (.int .i64 (-1)) := cellk hbx.box rfl
  have x12 : Wa.cell? ⟨B, 12, none⟩ = some (.int .i64 2) := cellk hbx.box rfl
  have x13 : Wa.cell? ⟨B, 13, none⟩ = some (.slice ov1 1 cv1) := cellk hbx.box rfl
  have x14 : Wa.cell? ⟨B, 14, none⟩ = some (.slice on1 1 cn1) := cellk hbx.box rfl
  have x15 : Wa.cell? ⟨B, 15, none⟩ = some (.slice om1 1 cm1) := cellk hbx.box rfl
  have xl := lt_of_block hbx.box
  have htk := tick_any (scW 2 2) (scW 2 1) [] [.bool false] [Wd 0] [Wd 0] w.heap.size 0 false 0 0 (.slice none 0 0) (.slice none 0 0) (.slice ov1 1 cv1) (.slice on1 1 cn1) (.slice om1 1 cm1) Wa hbx.st rfl rfl rfl (.inl ⟨by decide, by decide, rfl, rfl, rfl, rfl, rfl⟩)
  unfold stV scW stC at htk
  try dsimp only at htk
  try simp only [show ((0 : Nat) : Int) = 0 from rfl] at htk
  have HTK := Lib.hid htk
  clear htk hbx
  go_wp2_with fail
  with_reducible refine HTK.out.mono ?_
  rintro e Wb ⟨d2, l2, v2, n2, m2, qs2, rfl, hqs, hst, hbl⟩
  obtain rfl : qs2 = [] := by simpa using hqs
  obtain ⟨od2, cd2, rfl⟩ := own_slice' hst.hd
  obtain ⟨ol2, cl2, rfl⟩ := own_slice' hst.hl.row
  obtain ⟨ov2, cv2, rfl⟩ := own_slice' hst.hv
  obtain ⟨on2, cn2, rfl⟩ := own_slice' hst.hn
  obtain ⟨om2, cm2, rfl⟩ := own_slice' hst.hm
  simp only [List.length_nil, List.length_cons, Nat.zero_add] at hst ⊢
  obtain ⟨hbo, hbs⟩ := HBX.out.set (p' := (scW 2 1)) hst hbl
  have HB2 := Lib.hid hbs
  have HBO := Lib.hid hbo
  clear hbs hbo hst hbl hqs HTK HBX x0 x1 x2 x3 x4 x5 x6 x7 x8 x9 x10 x11 x12 x13 x14 x15 xl
  unfold stV stC
  try dsimp only
  try simp only [show ((0 : Nat) : Int) = 0 from rfl]
  go_upto_region 5 with (refine wpList_store_row rfl 41 (.tmp 1) (.tmp 12) rfl B (stC (scW 2 1) (.slice od2 0 cd2) (.slice ol2 0 cl2) (.slice ov2 1 cv2) (.slice on2 1 cn2) (.slice om2 1 cm2)).toArray rfl rfl 41 _ HBO.out (by kernel_rfl) rfl (by simp [stC, Value.oneCell']) ?_)
  generalize Wb.setRow B (stC (scW 2 1) (.slice od2 0 cd2) (.slice ol2 0 cl2) (.slice ov2 1 cv2) (.slice on2 1 cn2) (.slice om2 1 cm2)).toArray = Wc at *
  clear HBO
  have hbx := HB2.out
  have x0 : Wc.cell? ⟨B, 0, none⟩ = some (.int .i64 1) := cellk hbx.box rfl
  have x1 : Wc.cell? ⟨B, 1, none⟩ = some (.int .i64 0) := cellk hbx.box rfl
  have x2 : Wc.cell? ⟨B, 2, none⟩ = some (.int .i64 2) := cellk hbx.box rfl
  have x3 : Wc.cell? ⟨B, 3, none⟩ = some (.int .u64 0) := cellk hbx.box rfl
  have x4 : Wc.cell? ⟨B, 4, none⟩ = some (.int .i64 (-1)) := cellk hbx.box rfl
  have x5 : Wc.cell? ⟨B, 5, none⟩ = some (.int .u64 0) := cellk hbx.box rfl
  have x6 : Wc.cell? ⟨B, 6, none⟩ = some (.int .u64 0) := cellk hbx.box rfl
  have x7 : Wc.cell? ⟨B, 7, none⟩ = some (.slice od2 0 cd2) := cellk hbx.box rfl
  have x8 : Wc.cell? ⟨B, 8, none⟩ = some (.slice ol2 0 cl2) := cellk hbx.box rfl
  have x9 : Wc.cell? ⟨B, 9, none⟩ = some (.int .u64 0) := cellk hbx.box rfl
  have x10 : Wc.cell? ⟨B, 10, none⟩ = some (.int .u8 0) := cellk hbx.box rfl
  have x11 : Wc.cell? ⟨B, 11, none⟩ = some (.int .i64 (-1)) := cellk hbx.box rfl
  have x12 : Wc.cell? ⟨B, 12, none⟩ = some (.int .i64 1) := cellk hbx.box rfl
  have x13 : Wc.cell? ⟨B, 13, none⟩ = some (.slice ov2 1 cv2) := cellk hbx.box rfl
  have x14 : Wc.cell? ⟨B, 14, none⟩ = some (.slice on2 1 cn2) := cellk hbx.box rfl
  have x15 : Wc.cell? ⟨B, 15, none⟩ = some (.slice om2 1 cm2) := cellk hbx.box rfl
  have xl := lt_of_block hbx.box
  have htk := tick_any (scW 2 1) (scL 2 (waitS 2 0) 1) [⟨1, 0, 0, []⟩] [.bool true] [Wd 1] [Wd 1] w.heap.size 0 false 0 0 (.slice od2 0 cd2) (.slice ol2 0 cl2) (.slice ov2 1 cv2) (.slice on2 1 cn2) (.slice om2 1 cm2) Wc hbx.st rfl rfl rfl (.inr ⟨rfl, rfl, rfl, rfl, by decide, by decide, by decide, rfl, rfl, rfl, rfl, rfl⟩)
  unfold stV scW stC at htk
  try dsimp only at htk
  try simp only [show ((0 : Nat) : Int) = 0 from rfl] at htk
  have HTK := Lib.hid htk
  clear htk hbx
  go_wp2_with fail
  with_reducible refine HTK.out.mono ?_
  rintro e Wd' ⟨d3, l3, v3, n3, m3, qs3, rfl, hqs, hst, hbl⟩
  obtain ⟨q3, rfl⟩ : ∃ q, qs3 = [q] := by
    rcases qs3 with _ | ⟨q, _ | ⟨q', r⟩⟩
    · simp at hqs
    · exact ⟨q, rfl⟩
    · simp at hqs
  obtain ⟨od3, cd3, rfl⟩ := own_slice' hst.hd
  obtain ⟨ol3, cl3, rfl⟩ := own_slice' hst.hl.row
  obtain ⟨ov3, cv3, rfl⟩ := own_slice' hst.hv
  obtain ⟨on3, cn3, rfl⟩ := own_slice' hst.hn
  obtain ⟨om3, cm3, rfl⟩ := own_slice' hst.hm
  simp only [List.length_nil, List.length_cons, Nat.zero_add] at hst ⊢
  obtain ⟨hbo, hbs⟩ := HB2.out.set (p' := (scL 2 (waitS 2 0) 1)) hst hbl
  have HB3 := Lib.hid hbs
  have HBO := Lib.hid hbo
  clear hbs hbo hst hbl hqs HTK HB2 x0 x1 x2 x3 x4 x5 x6 x7 x8 x9 x10 x11 x12 x13 x14 x15 xl
  unfold stV stC
  try dsimp only
  try simp only [show ((0 : Nat) : Int) = 0 from rfl, show ((1 : Nat) : Int) = 1 from rfl, show ((2 : Nat) : Int) = 2 from rfl]
  go_upto_region 6 with (refine wpList_store_row rfl 41 (.tmp 1) (.tmp 17) rfl B (stC (scL 2 (waitS 2 0) 1) (.slice od3 0 cd3) (.slice ol3 1 cl3) (.slice ov3 1 cv3) (.slice on3 1 cn3) (.slice om3 1 cm3)).toArray rfl rfl 41 _ HBO.out (by kernel_rfl) rfl (by simp [stC, Value.oneCell']) ?_)
  generalize Wd'.setRow B (stC (scL 2 (waitS 2 0) 1) (.slice od3 0 cd3) (.slice ol3 1 cl3) (.slice ov3 1 cv3) (.slice on3 1 cn3) (.slice om3 1 cm3)).toArray = We at *
  clear HBO
  have hbx := HB3.out
  have x0 : We.cell? ⟨B, 0, none⟩ = some (.int .i64 1) := cellk hbx.box rfl
  have x1 : We.cell? ⟨B, 1, none⟩ = some (.int .i64 0) := cellk hbx.box rfl
  have x2 : We.cell? ⟨B, 2, none⟩ = some (.int .i64 2) := cellk hbx.box rfl
  have x3 : We.cell? ⟨B, 3, none⟩ = some (.int .u64 1) := cellk hbx.box rfl
  have x4 : We.cell? ⟨B, 4, none⟩ = some (.int .i64 0) := cellk hbx.box rfl
  have x5 : We.cell? ⟨B, 5, none⟩ = some (.int .u64 0) := cellk hbx.box rfl
  have x6 : We.cell? ⟨B, 6, none⟩ = some (.int .u64 0) := cellk hbx.box rfl
  have x7 : We.cell? ⟨B, 7, none⟩ = some (.slice od3 0 cd3) := cellk hbx.box rfl
  have x8 : We.cell? ⟨B, 8, none⟩ = some (.slice ol3 1 cl3) := cellk hbx.box rfl
  have x9 : We.cell? ⟨B, 9, none⟩ = some (.int .u64 1) := cellk hbx.box rfl
  have x10 : We.cell? ⟨B, 10, none⟩ = some (.int .u8 2) := cellk hbx.box rfl
  have x11 : We.cell? ⟨B, 11, none⟩ = some (.int .i64 0) := cellk hbx.box rfl
  have x12 : We.cell? ⟨B, 12, none⟩ = some (.int .i64 (waitS 2 0)) := cellk hbx.box rfl
  have x13 : We.cell? ⟨B, 13, none⟩ = some (.slice ov3 1 cv3) := cellk hbx.box rfl
  have x14 : We.cell? ⟨B, 14, none⟩ = some (.slice on3 1 cn3) := cellk hbx.box rfl
  have x15 : We.cell? ⟨B, 15, none⟩ = some (.slice om3 1 cm3) := cellk hbx.box rfl
  have xl := lt_of_block hbx.box
  have hL := fun Wx => last_one (scL 2 (waitS 2 0) 1) (.slice od3 0 cd3) (.slice ov3 1 cv3) (.slice on3 1 cn3) (.slice om3 1 cm3) ol3 1 cl3 Wx rfl ⟨_, _, rfl⟩ (by omega)
  unfold stV scL stC at hL
  try dsimp only at hL
  simp only [show ((0 : Nat) : Int) = 0 from rfl, show ((1 : Nat) : Int) = 1 from rfl, show ((2 : Nat) : Int) = 2 from rfl] at hL
  have HL := Lib.hid hL
  have HBW := Lib.hid hbx.bel
  clear hL hbx
  go_wp2_with fail
  with_reducible refine (HL.out We).mono ?_
  rintro e Wf ⟨rfl, hbf⟩
  have HBF := Lib.hid (HBW.out.trans (hbf.mono HBW.out.size))
  clear hbf HL x0 x1 x2 x3 x4 x5 x6 x7 x8 x9 x10 x11 x12 x13 x14 x15
  go_wp2_with fail
  go_ret
  exact ⟨rfl, HBF.out⟩
end Go.Proofs.Ytjbailnnaigjbaa
