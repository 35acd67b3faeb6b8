/- makeRoom where all goes; PutText. -/
import Derived.Test.YtpmbdncackneoaaDoorHeaQ
namespace Go.Proofs.YtpmbdncackneoaaDoor
open Go.RowKit HeaM

theorem ptrInfo : (Tryd.prog.info? 98).map (fun i => (i.zero, i.size, i.bytes)) = some (some (.pointer none), 1, 8) := by kernel_rfl

theorem madeP0 (n : Nat) (hn : n ≤ 1000000000) (W : World) : (Instr.makeSlice 73 (.int .i64 0) (.int .i64 (n : Int))).run Tryd.prog W = .ok (.slice (some ⟨W.heap.size, 0, none⟩) 0 n) (W.alloc (.cells (List.replicate n (Value.pointer none)).toArray 98)) := by
  obtain ⟨i0, hi0, hz0, hz1, hz2⟩ := info_parts ptrInfo
  have h := run_make (P := Tryd.prog) W 73 98 i0 _ Tryd.underlying73 hi0 hz0 .i64 .i64 0 (n : Int) (by omega) (by omega) (by rw [hz2]; omega) (by omega)
  rw [h]
  have e : madeCells (Value.pointer none).cells (n * i0.size) = (List.replicate n (Value.pointer none)).toArray := by
    apply Array.ext'
    rw [hz1, Nat.mul_one]
    show (madeCells #[Value.pointer none] n).toList = _
    rw [toList_madeCells_one]
  simp only [Int.toNat_natCast, e]
  rfl

theorem LPost.drewN {w w' : World} {b base q c : Nat} {v1 v2 v1' v2' : Value} {W' : List Nat} {F' : List Bool} (h : LPost w w' b base q c v1 v2 v1' v2' W' F') (n : Nat) : LPost w (w'.drewN n) b base q c v1 v2 v1' v2' W' F' :=
  ⟨⟨h.at_.cell, h.at_.own1, h.at_.own2⟩, h.new, ⟨h.kept.os, h.kept.tape, h.kept.output, h.kept.size, h.kept.block⟩⟩
theorem LPost.trans {w w1 w2 : World} {b base q c base' q' c' : Nat} {v1 v2 u1 u2 x1 x2 : Value} {W1 W2 : List Nat} {F1 F2 : List Bool} (h : LPost w w1 b base q c v1 v2 u1 u2 W1 F1) (k : LPost w1 w2 b base' q' c' u1 u2 x1 x2 W2 F2) : LPost w w2 b base' q' c' v1 v2 x1 x2 W2 F2 :=
  ⟨k.at_, fun j hj => (k.new j hj).elim (h.new j) (fun e => .inr (by have := h.kept.size; omega)), h.kept.step k.kept h.new⟩
/-- Blocks that are new before the call play no part. -/
theorem LPost.before {w w1 w2 : World} {b base q c : Nat} {v1 v2 u1 u2 : Value} {W1 : List Nat} {F1 : List Bool} (h : LPost w1 w2 b base q c v1 v2 u1 u2 W1 F1) (hb : Below w.heap.size w w1) : LPost w w2 b base q c v1 v2 u1 u2 W1 F1 :=
  ⟨h.at_, fun k hk => (h.new k hk).imp id (fun e => by have := hb.size; omega), (Below.kept (n := w.heap.size) hb (fun k h1 h2 => by omega)).trans h.kept⟩
theorem LPost.same {w w' : World} {b base q c : Nat} {v1 v2 : Value} {W : List Nat} {F : List Bool} (h : HAt w b base q c v1 v2 W F) (hb : Below w.heap.size w w') : LPost w w' b base q c v1 v2 v1 v2 W F :=
  ⟨h.below hb (Nat.le_refl _), fun _ h => .inl h, Below.kept (n := w.heap.size) hb (fun k h1 h2 => by omega)⟩

set_option maxHeartbeats 1000000 in
set_option maxRecDepth 100000 in
theorem room_none (b base q c : Nat) (v1 v2 : Value) (W : List Nat) (F : List Bool) (n : Nat) (w : World) (h : HAt w b base q c v1 v2 W F) (hF : F.length = W.length) (hq : q ≤ 1048576) (hc : c ≤ 1000000000) (hW : W.length ≤ q) (hbase : base ≤ w.heap.size) (hn : q < W.length + n) (hnq : n ≤ q) :
    Calls Tryd.prog 23 #[.pointer (some ⟨b, 0, none⟩), .int .i64 (n : Int), .slice none 0 0, .slice none 0 0] w fun e w' => e = .returned (.bool true) ∧ ∃ v1' v2', LPost w w' b base q (c + 1) v1 v2 v1' v2' [] [] := by
  obtain ⟨c0, c1, c2, c3⟩ := h.cells
  have hlt := h.lt
  have H := Lib.hid h
  obtain ⟨o1, k1, hv1, _⟩ := own_slice h.own1
  clear h
  subst hv1
  have e1 : IntKind.i64.wrap ((q : Int) - (W.length : Int)) = (q : Int) - (W.length : Int) := IntWalk.i64_in _ (by omega)
  have hle : (n : Int) > (q : Int) - (W.length : Int) := by omega
  have hle1 : decide ((q : Int) - (W.length : Int) < (n : Int)) = true := by simp; omega
  have hle2 : (q : Int) - (W.length : Int) < (n : Int) := by omega
  have mk := madeP0 0 (by omega)
  rw [show ((0 : Nat) : Int) = 0 from rfl, show (List.replicate 0 (Value.pointer none)).toArray = #[] from rfl] at mk
  obtain ⟨i0, hi0, hz0, hz1, hz2⟩ := info_parts ptrInfo
  go_enter Tryd.func23, Tryd.ntmps23
  go_wp2
  go_quiet (fail)
  have h1 := below_drewN w.heap.size nq w
  generalize w.drewN nq = wa at *
  have HA := Lib.hid h1
  have hap := run_append_owned_none (P := Tryd.prog) (w := wa.alloc (.cells #[] 98)) wa.heap.size 73 73 98 i0 1 Tryd.underlying73 hi0 _ _ _ (World.ownsRow_made wa (size := 1) (base := wa.heap.size) (e := 98) #[] 0 (Nat.le_refl _) (Nat.zero_le _) (by simp))
  have HP := Lib.hid hap
  have hs := h1.size
  clear h1 hap
  go_wp2_with (at_builtin; refine wpList_append_known rfl (.tmp 28) (.tmp 29) 73 73 (by rfl) _ _ _ (by rfl) (by rfl) HP.out ?_)
  refine wp_loop_rounds 1 ?_
  rw [rounds_succ]
  have hb2 : Below w.heap.size w (wa.alloc (.cells #[] 98)) := HA.out.alloc hs _
  have h2 := H.out.below hb2 (Nat.le_refl _)
  have HC := Lib.hid (collect_none b base q c _ v2 W F (some ⟨wa.heap.size, 0, none⟩) 0 _ h2 hF (by omega) (by have := hb2.size; omega) hc)
  have HB2 := Lib.hid hb2
  clear h2 hb2
  clear mk
  go_wp2_with fail
  refine HC.out.mono ?_
  rintro e w3 ⟨rfl, v1', v2', hP⟩
  obtain ⟨d0, _, d2, _⟩ := hP.at_.cells
  obtain ⟨o3, k3, hv3, _⟩ := own_slice hP.at_.own1
  have fin : LPost w w3 b base q (c + 1) (.slice o1 W.length k1) v2 v1' v2' [] [] := ⟨hP.at_, fun k hk => (hP.new k hk).imp id (fun h => by have := HB2.out.size; omega), (Below.kept (n := w.heap.size) HB2.out (fun k h1 h2 => by omega)).trans hP.kept⟩
  have FIN := Lib.hid fin
  clear hP fin
  subst hv3
  simp only [List.length_nil] at d2
  have e3 : IntKind.i64.wrap ((q : Int) - ((0 : Nat) : Int)) = (q : Int) := by rw [IntKind.wrap_i64]; omega
  have e4 : IntKind.i64.wrap ((q : Int) - 0) = (q : Int) := by rw [IntKind.wrap_i64]; omega
  have hnq' : (n : Int) ≤ (q : Int) := by omega
  go_wp2
  go_quiet (fail)
  go_wp2
  go_ret
  exact ⟨rfl, _, _, FIN.out.drewN _⟩

theorem head_t' (k n : Nat) (w : World) (N : Nat) (hk : k < 256) (hx : n < 36028797018963968) (hN : Hid (n * 256 + k = N)) :
    Calls Tryd.prog 25 #[.int .u8 (k : Int), .int .i64 (n : Int)] w fun e w' => e = .returned (.int .u64 (N : Int)) ∧ w = w' := by
  have h := hN.out
  subst h
  exact head_t k n w hk hx

set_option maxHeartbeats 1000000 in
set_option maxRecDepth 100000 in
/-- PutText behind makeRoom's yes. -/
theorem puttext_of (b base q c : Nat) (v1 v2 : Value) (W0 : List Nat) (F0 : List Bool) (s : ByteArray) (r : Value) (w : World) (hq : q ≤ 1048576) (hbase : base ≤ w.heap.size) (hs : s.size ≤ 1000000) (hF : F0.length = W0.length) (hW : W0.length + need 3 s.size ≤ q)
    (hroom : Calls Tryd.prog 23 #[.pointer (some ⟨b, 0, none⟩), .int .i64 ((need 3 s.size : Nat) : Int), .slice none 0 0, r] w fun e w' => e = .returned (.bool true) ∧ ∃ v1' v2', LPost w w' b base q c v1 v2 v1' v2' W0 F0) :
    Calls Tryd.prog 49 #[.pointer (some ⟨b, 0, none⟩), .string s, r] w fun e w' => e = .returned (.tuple #[.int .u64 ((2 * W0.length : Nat) : Int), .int .i64 0]) ∧
      ∃ v1' v2', LPost w w' b base q c v1 v2 v1' v2' (W0 ++ (s.size * 256 + 3) :: pk s.data.toList) (F0 ++ true :: List.replicate (nw s.size) false) := by
  have HR := Lib.hid hroom
  clear hroom
  have hs' : (s.size : Int) ≤ 1000000 := by omega
  obtain ⟨X, hX⟩ : ∃ X, s.size * 256 + 3 = X := ⟨_, rfl⟩
  have HX := Lib.hid hX
  clear hX
  go_enter Tryd.func49, Tryd.ntmps49
  go_wp2_with fail
  refine (need_text s.size _ (by omega)).mono ?_
  rintro e w' ⟨rfl, rfl⟩
  go_wp2_with fail
  refine HR.out.mono ?_
  rintro e w1 ⟨rfl, v1', v2', hP⟩
  have HP := Lib.hid hP
  have hb1 : base ≤ w1.heap.size := by have := hP.kept.size; omega
  clear hP
  go_wp2_with fail
  refine (head_t' 3 s.size _ X (by omega) (by omega) HX).mono ?_
  rintro e w' ⟨rfl, rfl⟩
  go_wp2_with fail
  refine (packed_t s _ hs).mono ?_
  rintro e w2 ⟨v, rfl, hv, hb2⟩
  have hl : (pk s.data.toList).length = nw s.size := pk_length _
  have h2 := HP.out.at_.below hb2 (Nat.le_refl _)
  have hsk : ∀ w', Kept (three b v1' v2') w2 w' → RdW w' v (pk s.data.toList) := by
    intro w' hk
    refine RdV.of_own (own_kept hv hk ?_)
    intro k hk hs
    have h1 := (hv.lt k hk).1
    have h2 := HP.out.at_.own_lt k hs
    omega
  have hl2 : (pk s.data.toList).length ≤ 1000000 := by rw [hl]; unfold nw; omega
  have HL := Lib.hid (lay_t b base q c v1' v2' W0 F0 X v (pk s.data.toList) w2 h2 (by have := hb2.size; omega) hsk (by omega) (by omega))
  have HB2 := Lib.hid hb2
  have HLN := Lib.hid hl
  clear hsk h2 hv hb2 hl hl2
  go_wp2_with fail
  refine HL.out.mono ?_
  rintro e w3 ⟨rfl, u1, u2, hL, _⟩
  have fin : LPost w w3 b base q c v1 v2 u1 u2 (W0 ++ X :: pk s.data.toList) (F0 ++ true :: List.replicate (nw s.size) false) := by
    have h := hL
    rw [HLN.out] at h
    exact HP.out.trans (h.before HB2.out)
  have FIN := Lib.hid fin
  clear hL fin
  go_wp2
  go_ret2
  refine ⟨rfl, u1, u2, ?_⟩
  rw [HX.out]
  exact FIN.out

/-- PutText where there is room. -/
theorem puttext_room (b base q c : Nat) (v1 v2 : Value) (W : List Nat) (F : List Bool) (s : ByteArray) (r : Value) (w : World) (h : HAt w b base q c v1 v2 W F) (hq : q ≤ 1048576) (hbase : base ≤ w.heap.size) (hs : s.size ≤ 1000000) (hF : F.length = W.length) (hW : W.length + need 3 s.size ≤ q) :
    Calls Tryd.prog 49 #[.pointer (some ⟨b, 0, none⟩), .string s, r] w fun e w' => e = .returned (.tuple #[.int .u64 ((2 * W.length : Nat) : Int), .int .i64 0]) ∧
      ∃ v1' v2', LPost w w' b base q c v1 v2 v1' v2' (W ++ (s.size * 256 + 3) :: pk s.data.toList) (F ++ true :: List.replicate (nw s.size) false) :=
  puttext_of b base q c v1 v2 W F s r w hq hbase hs hF hW ((room_yes b base q c v1 v2 W F (need 3 s.size) (.slice none 0 0) r w h hq hW).mono fun _ _ ⟨e, n, hw⟩ => ⟨e, v1, v2, by rw [hw]; exact (LPost.same h (Below.refl _ _)).drewN n⟩)

/-- PutText where all goes. -/
theorem puttext_none (b base q c : Nat) (v1 v2 : Value) (W : List Nat) (F : List Bool) (s : ByteArray) (w : World) (h : HAt w b base q c v1 v2 W F) (hq : q ≤ 1048576) (hbase : base ≤ w.heap.size) (hs : s.size ≤ 1000000) (hF : F.length = W.length) (hWq : W.length ≤ q) (hc : c ≤ 1000000000) (hn : q < W.length + need 3 s.size) (hnq : need 3 s.size ≤ q) :
    Calls Tryd.prog 49 #[.pointer (some ⟨b, 0, none⟩), .string s, .slice none 0 0] w fun e w' => e = .returned (.tuple #[.int .u64 0, .int .i64 0]) ∧
      ∃ v1' v2', LPost w w' b base q (c + 1) v1 v2 v1' v2' ((s.size * 256 + 3) :: pk s.data.toList) (true :: List.replicate (nw s.size) false) :=
  puttext_of b base q (c + 1) v1 v2 [] [] s _ w hq hbase hs rfl (by simpa using hnq) (room_none b base q c v1 v2 W F (need 3 s.size) w h hF hq hc hWq hbase hn hnq)
end Go.Proofs.YtpmbdncackneoaaDoor
