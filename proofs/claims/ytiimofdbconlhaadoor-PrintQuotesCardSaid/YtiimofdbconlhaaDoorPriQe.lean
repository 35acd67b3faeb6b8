/- The reference's tokens of a text in quotes: one token, and the end. -/
import Derived.Test.YtiimofdbconlhaaDoorPriQd
import Derived.Laws.AppendOwnNone
namespace Go.Proofs.YtiimofdbconlhaaDoor
open Go.RowKit PriM

theorem r3small_no (w : World) : Calls Tryd.prog 52 #[.int .u8 34] w fun e w' => e = .returned (.bool false) ∧ w = w' := by
  go_enter Tryd.func52, Tryd.ntmps52
  go_wp2
  go_ret
  exact ⟨rfl, rfl⟩
theorem r3great_no (w : World) : Calls Tryd.prog 53 #[.int .u8 34] w fun e w' => e = .returned (.bool false) ∧ w = w' := by
  go_enter Tryd.func53, Tryd.ntmps53
  go_wp2
  go_ret
  exact ⟨rfl, rfl⟩
theorem r3digit_no (w : World) : Calls Tryd.prog 56 #[.int .u8 34] w fun e w' => e = .returned (.bool false) ∧ w = w' := by
  go_enter Tryd.func56, Tryd.ntmps56
  go_wp2
  go_ret
  exact ⟨rfl, rfl⟩

theorem qt_first {Q : ByteArray} {l : List UInt8} (hQ : Q.data.toList = qt l) : ∃ h : 0 < Q.size, Q[0] = 34 := at_drop (p := 0) (r := fl l ++ [34]) (by rw [hQ]; rfl)
theorem qt_size {Q : ByteArray} {l : List UInt8} (hQ : Q.data.toList = qt l) : Q.size = (fl l).length + 2 := by rw [← qt_len, ← hQ]; simp
theorem qt_two {Q : ByteArray} {l : List UInt8} (hQ : Q.data.toList = qt l) : ((Q.extract 0 2).toList == [40, 42]) = false := by
  rw [beq_eq_false_iff_ne, ByteArray.toList_eq]
  intro h
  have h2 : (Q.extract 0 2).data.toList = Q.data.toList.take 2 := by rw [ByteArray.data_extract]; simp
  have h3 : Q.data.toList.take 2 = [40, 42] := by rw [← h2]; exact h
  rw [hQ] at h3
  simp [qt] at h3

set_option maxRecDepth 100000 in
theorem r3at_no (Q : ByteArray) (w : World) (hx : ((Q.extract 0 2).toList == [40, 42]) = false) (h2 : 2 ≤ Q.size) (hz : Q.size ≤ 2000) :
    Calls Tryd.prog 51 #[.string Q, .int .i64 0, .string ⟨#[40, 42]⟩] w fun e w' => e = .returned (.bool false) ∧ w = w' := by
  have z2 : (⟨#[40, 42]⟩ : ByteArray).size = 2 := rfl
  go_enter Tryd.func51, Tryd.ntmps51
  go_wp2
  go_ret
  exact ⟨rfl, rfl⟩

set_option maxRecDepth 100000 in
set_option maxHeartbeats 2000000 in
theorem r3blank_first (Q : ByteArray) (w : World) (hx : ((Q.extract 0 2).toList == [40, 42]) = false) (h2 : 2 ≤ Q.size) (hz : Q.size ≤ 2000) (hp : 0 < Q.size) (h0 : (Q[0].toNat : Int) = 34) :
    Calls Tryd.prog 34 #[.string Q, .int .i64 0] w fun e w' => e = .returned (.int .i64 0) ∧ w = w' := by
  have HA := Lib.hid (r3at_no Q w hx h2 hz)
  clear hx
  go_enter Tryd.func34, Tryd.ntmps34
  go_wp2_with fail
  go_loop [1] (fun i => i = .int .i64 0) (fun _ => 0)
  case atStart => exact rfl
  case round =>
    obtain rfl := hrel
    go_wp2_with (go_at_call 51; refine (HA.out).mono ?_; rintro e w' ⟨rfl, rfl⟩)
    go_ret
    exact ⟨rfl, rfl⟩
set_option maxRecDepth 100000 in
set_option maxHeartbeats 2000000 in
theorem r3blank_last (Q : ByteArray) (w : World) (_hz : Q.size ≤ 2000) :
    Calls Tryd.prog 34 #[.string Q, .int .i64 (Q.size : Int)] w fun e w' => e = .returned (.int .i64 0) ∧ w = w' := by
  go_enter Tryd.func34, Tryd.ntmps34
  go_wp2_with fail
  go_loop [1] (fun i => i = .int .i64 (Q.size : Int)) (fun _ => 0)
  case atStart => exact rfl
  case round =>
    obtain rfl := hrel
    go_wp2
    go_ret
    exact ⟨rfl, rfl⟩

set_option maxRecDepth 100000 in
set_option maxHeartbeats 8000000 in
theorem r3one_any (Q : ByteArray) (l : List UInt8) (w : World) (hQ : Q.data.toList = qt l) (hz : Q.size ≤ 2000) :
    Calls Tryd.prog 35 #[.string Q, .int .i64 0] w fun e w' => e = .returned (.tuple #[.agg #[.int .u8 5, .string ⟨l.toArray⟩, .int .i64 0], .int .i64 (Q.size : Int), .int .i64 0, .int .i64 0]) ∧ Below w.heap.size w w' := by
  obtain ⟨hp, e0⟩ := qt_first hQ
  have h0 : (Q[0].toNat : Int) = 34 := by rw [e0]; rfl
  have HT := Lib.hid (fun W => r3text_any Q l W hQ hz)
  have hW : Below w.heap.size w ((w.alloc zTok).alloc zTok) := ((Below.refl _ _).alloc (Nat.le_refl _) _).alloc (by simp) _
  have hblk : ((w.alloc zTok).alloc zTok).heap[w.heap.size]? = some zTok := by
    have h1 := heap_alloc_new w zTok
    have h2 : Below (w.alloc zTok).heap.size (w.alloc zTok) ((w.alloc zTok).alloc zTok) := (Below.refl _ _).alloc (Nat.le_refl _) _
    exact (h2.block _ (by simp)).trans h1
  have HW := Lib.hid hW
  have HBK := Lib.hid hblk
  clear hW hblk e0 hQ
  generalize (⟨l.toArray⟩ : ByteArray) = S at *
  go_enter Tryd.func35, Tryd.ntmps35
  go_wp2_with (first
    | (go_at_call 52; refine (r3small_no _).mono ?_; rintro e w' ⟨rfl, rfl⟩)
    | (go_at_call 53; refine (r3great_no _).mono ?_; rintro e w' ⟨rfl, rfl⟩)
    | (go_at_call 56; refine (r3digit_no _).mono ?_; rintro e w' ⟨rfl, rfl⟩))
  go_at_call 58
  refine (HT.out _).mono ?_
  rintro e w3 ⟨rfl, hb⟩
  have hblk : w3.heap[w.heap.size]? = some zTok := (hb.block _ (by simp; omega)).trans HBK.out
  have HB := Lib.hid (HW.out.trans (hb.mono (by simp; omega)))
  have c0 := cell_of_row w3 w.heap.size 0 _ _ _ hblk
  have c1 := cell_of_row w3 w.heap.size 1 _ _ _ hblk
  have c2 := cell_of_row w3 w.heap.size 2 _ _ _ hblk
  have f0 := row_free w3 w.heap.size 0 _ _ hblk
  have f1 := row_free w3 w.heap.size 1 _ _ hblk
  have f2 := row_free w3 w.heap.size 2 _ _ hblk
  have hlt := lt_of_blk hblk
  clear hb hblk
  go_wp2_with fail
  exact bodyPost_ret (v := .tuple #[.agg #[.int .u8 5, .string S, .int .i64 0], .int .i64 (Q.size : Int), .int .i64 0, .int .i64 0]) (by simp [results, Tryd.results35, go_sem, c0, c1, c2]) rfl ⟨rfl, ((HB.out.setCell (Nat.le_refl _) _).setCell (Nat.le_refl _) _).setCell (Nat.le_refl _) _⟩

theorem tokInfo : (Tryd.prog.info? 71).map (fun i => (i.zero, i.size, i.bytes)) = some (some (.agg #[.int .u8 0, .string ⟨#[]⟩, .int .i64 0]), 3, 32) := by kernel_rfl
theorem cells_three_new (w : World) (x y z : Value) (t : TypeId) : ∀ j u, [x, y, z][j]? = some u → (w.alloc (.cells #[x, y, z] t)).cell? ((⟨w.heap.size, 0, none⟩ : Addr).add j) = some u := by
  intro j u hj
  exact World.news_of_block (w := w.alloc (.cells #[x, y, z] t)) (heap_alloc_new w _) j u (by simpa using hj)
theorem row_below {w w' : World} {base k n size : Nat} {e : TypeId} {v : Value} {xs : List Value} (h : w.ownsRow base e size v n xs) (hb : Below k w w') (hk : w.heap.size ≤ k) : w'.ownsRow base e size v n xs :=
  own_kept h (S := fun k' => k ≤ k') (Below.kept hb fun _ h _ => h) (fun k' hk' => by have := (h.lt k' hk').2; omega)

/-- The token; the token and the end. -/
def T1 (S : ByteArray) : List Value := [.int .u8 5, .string S, .int .i64 0]
def T2 (S : ByteArray) (n : Nat) : List Value := [.int .u8 5, .string S, .int .i64 0, .int .u8 0, .string ⟨#[]⟩, .int .i64 (n : Int)]
/-- What holds at the head of a round. -/
def TRd (w : World) (S : ByteArray) (n : Nat) (o i : Value) (wr : World) : Prop :=
  Below w.heap.size w wr ∧ ((o = .slice none 0 0 ∧ i = .int .i64 0) ∨ (i = .int .i64 (n : Int) ∧ wr.ownsRow w.heap.size 71 3 o 1 (T1 S)))

set_option maxRecDepth 100000 in
set_option maxHeartbeats 8000000 in
theorem r3Tokens_any (Q : ByteArray) (l : List UInt8) (w : World) (hQ : Q.data.toList = qt l) (hz : Q.size ≤ 2000) :
    Calls Tryd.prog 22 #[.string Q] w fun e w' => ∃ v, e = .returned (.tuple #[v, .int .i64 0, .int .i64 0]) ∧ w'.ownsRow w.heap.size 71 3 v 2 (T2 ⟨l.toArray⟩ Q.size) ∧ Below w.heap.size w w' := by
  obtain ⟨i0, hi0, hz0, hz1, hz2⟩ := info_parts tokInfo
  obtain ⟨hp, e0⟩ := qt_first hQ
  have h0 : (Q[0].toNat : Int) = 34 := by rw [e0]; rfl
  have hsz := qt_size hQ
  have HB1 := Lib.hid (fun W => r3blank_first Q W (qt_two hQ) (by omega) hz hp h0)
  have HB2 := Lib.hid (fun W => r3blank_last Q W hz)
  have HO := Lib.hid (fun W => r3one_any Q l W hQ hz)
  have hq2 : 2 ≤ Q.size := by omega
  have q1 : ((0 : Int) == (Q.size : Int)) = false := by rw [beq_eq_false_iff_ne]; omega
  have HS := Lib.hid (show TRd w ⟨l.toArray⟩ Q.size (.slice none 0 0) (.int .i64 0) w from ⟨Below.refl _ _, .inl ⟨rfl, rfl⟩⟩)
  clear hsz hQ e0 h0
  generalize (⟨l.toArray⟩ : ByteArray) = S at *
  go_enter Tryd.func22, Tryd.ntmps22
  go_wp2_with fail
  go_loopw [5, 6] (fun o i wr => ∃ V I, V = o ∧ I = i ∧ TRd w S Q.size V I wr) (fun _ i _ => Q.size - (intOf i).toNat)
  case atStart => exact ⟨_, _, rfl, rfl, HS.out⟩
  case round =>
    obtain ⟨o, i, rfl, rfl, hbel, h⟩ := hrel
    have HBel := Lib.hid hbel
    have hws := hbel.size
    clear hbel
    rcases h with ⟨rfl, rfl⟩ | ⟨rfl, hown⟩
    · go_wp2_with fail
      go_at_call 34
      refine (HB1.out _).mono ?_
      rintro e w' ⟨rfl, rfl⟩
      go_wp2_with fail
      go_at_call 35
      refine (HO.out _).mono ?_
      rintro e w1 ⟨rfl, hb⟩
      have hb2 := HBel.out.trans (hb.mono hws)
      have HW1 := Lib.hid hb2
      have hs1 := hb2.size
      have hown := World.ownsRow_nil w1 w.heap.size 71 3
      clear hb hb2
      go_wp2_with (
        at_builtin
        go_loud (refine wpList_append_own_at _ rfl (.tmp 50) (.tmp 52) 54 (by rfl) w.heap.size 71 i0 _ 3 32 Tryd.underlying54 hi0 hz0 hz1 hz2 rfl (by omega) (.slice none 0 0) 0 [] (by rfl) (World.ownsRow.alloc (World.ownsRow.alloc hown _) _) ⟨w1.heap.size + 1, 0, none⟩ 1 1 [.int .u8 5, .string S, .int .i64 0] (by rfl) (by rfl) (by have := cells_three_new (w1.alloc (.cells #[.int .u8 5, .string S, .int .i64 0] 71)) (.int .u8 5) (.string S) (.int .i64 0) 71; simpa using this) (by simp [Value.oneCell']) (by unfold maxLen; omega) (by omega) (by first | (simp; omega) | simp) ?_)
        intro v2 w2 hown2 hgrow _ _
        have fin := Lib.hid (show TRd w S Q.size v2 (.int .i64 (Q.size : Int)) w2 from ⟨(((HW1.out.alloc hs1 _).alloc (by simp; omega) _).grown hgrow (by simp; omega) (fun k hk => by cases hk)), .inr ⟨rfl, hown2⟩⟩)
        clear hown2 hgrow hown)
      go_roundw
      case rel => exact ⟨_, _, rfl, rfl, fin.out⟩
      case measure => simp [intOf]; omega
    · have q2 : ((Q.size : Int) == (Q.size : Int)) = true := by simp
      have hle : o.ownBlock = none ∨ ∃ k, o.ownBlock = some k ∧ w.heap.size ≤ k := by
        cases h : o.ownBlock with
        | none => exact .inl rfl
        | some k => exact .inr ⟨k, rfl, (hown.lt k h).1⟩
      have HLE := Lib.hid (fun k (hk : o.ownBlock = some k) => (hown.lt k hk).1)
      clear q2 hle
      go_wp2_with fail
      go_at_call 34
      refine (HB2.out _).mono ?_
      rintro e w' ⟨rfl, rfl⟩
      go_wp2_with (
        at_builtin
        go_loud (refine wpList_append_own_at _ rfl (.tmp 31) (.tmp 34) 54 (by rfl) w.heap.size 71 i0 _ 3 32 Tryd.underlying54 hi0 hz0 hz1 hz2 rfl (by omega) o 1 (T1 S) (by rfl) (World.ownsRow.alloc hown _) ⟨wr.heap.size, 0, none⟩ 1 1 [.int .u8 0, .string ⟨#[]⟩, .int .i64 (Q.size : Int)] (by rfl) (by rfl) (cells_three_new _ _ _ _ _) (by simp [Value.oneCell']) (by unfold maxLen; omega) (by omega) (by first | (simp; omega) | simp) ?_)
        intro v2 w2 hown2 hgrow _ _
        have F1 := Lib.hid ((HBel.out.alloc hws _).grown hgrow (by simp; omega) (fun k hk => HLE.out k hk))
        have F2 := Lib.hid hown2
        clear hown2 hgrow hown)
      go_ret3
      exact ⟨_, rfl, F2.out, F1.out⟩
end Go.Proofs.YtiimofdbconlhaaDoor
