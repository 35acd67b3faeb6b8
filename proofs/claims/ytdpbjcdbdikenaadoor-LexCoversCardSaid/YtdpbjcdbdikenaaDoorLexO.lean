/- The laws' small functions: awake. -/
import Derived.Test.YtdpbjcdbdikenaaDoorLexN
import Derived.Laws.StructEq
namespace Go.Proofs.YtdpbjcdbdikenaaDoor
open Go.RowKit LexM

theorem eqTok (w : World) (a a' c c' : Int) (s s' : ByteArray) :
    (binOp .eql 33 (.agg #[.int .u8 a, .string s, .int .i64 c]) (.agg #[.int .u8 a', .string s', .int .i64 c'])).run Tryd.prog w = .ok (.bool (a == a' && (s.toList == s'.toList) && c == c')) w := by
  have h1 := run_equalIn_agg (P := Tryd.prog) w 9999 33 #[.int .u8 a, .string s, .int .i64 c] #[.int .u8 a', .string s', .int .i64 c'] (by kernel_rfl) (by kernel_rfl)
  rw [run_eql_struct, h1]
  by_cases ha : a = a' <;> by_cases hs : s.toList = s'.toList <;> by_cases hb : c = c' <;> simp [go_sem, ha, hb, hs]

theorem lexedAwake : lexed [102, 32, 39, 97, 40, 42, 42, 41, 120, 49] = (0, 0, [⟨1, [102], 0⟩, ⟨3, [39, 97], 2⟩, ⟨1, [120, 49], 8⟩, ⟨0, [], 10⟩]) := by decide +kernel

set_option maxHeartbeats 4000000 in
set_option maxRecDepth 100000 in
theorem awake (w : World) (hL : Laid w) : Calls Tryd.prog 9 #[] w fun e w' => e = .returned (.bool true) ∧ Below w.heap.size w w' := by
  have H := tokens_any ⟨#[102, 32, 39, 97, 40, 42, 42, 41, 120, 49]⟩ w hL
  rw [show bs ⟨#[102, 32, 39, 97, 40, 42, 42, 41, 120, 49]⟩ = [102, 32, 39, 97, 40, 42, 42, 41, 120, 49] from rfl, lexedAwake] at H
  have H := Lib.hid H
  clear hL
  go_enter Tryd.func9, Tryd.ntmps9
  go_wp2_with fail
  refine H.out.mono ?_
  rintro e w1 ⟨v, rfl, hown, hb⟩
  have hr := hown.rd
  rcases hr with ⟨_, _, _, _, h0⟩ | ⟨b, off, c, rfl, _, hn, hm, hcs⟩
  · cases h0
  · have e1 := fun w a a' c c' s s' => eqTok w a a' c c' s s'
    obtain ⟨a0, a1, a2⟩ := hcs 0 _ rfl
    obtain ⟨b0, b1, b2⟩ := hcs 1 _ rfl
    obtain ⟨c0, c1, c2⟩ := hcs 2 _ rfl
    obtain ⟨d0, d1, d2⟩ := hcs 3 _ rfl
    simp only [tkS] at a0 a1 a2 b0 b1 b2 c0 c1 c2 d0 d1 d2
    simp only [Nat.reduceMul, Nat.add_assoc, Nat.reduceAdd, Nat.add_zero] at a0 a1 a2 b0 b1 b2 c0 c1 c2 d0 d1 d2
    clear hcs hown
    go_wp2_with fail
    go_ret
    exact ⟨rfl, hb⟩

/-- A token so many places further on. -/
def shift (n : Nat) (t : Tk) : Tk := ⟨t.kind, t.text, t.at_ + n⟩

/-- What moved leaves. -/
def Moved (w : World) (n : Nat) (l : List Tk) (e : Ending) (w' : World) : Prop := ∃ v, e = .returned v ∧ OwnT w' w.heap.size v (l.map (shift n)) ∧ Below w.heap.size w w'

theorem cells_three_drew (w : World) (x y z : Value) (t : TypeId) : ∀ j u, [x, y, z][j]? = some u → ((w.alloc (.cells #[x, y, z] t)).drew).cell? ((⟨w.heap.size, 0, none⟩ : Addr).add j) = some u := by
  intro j u hj
  exact World.news_of_block (w := (w.alloc (.cells #[x, y, z] t)).drew) (heap_alloc_new w _) j u (by simpa using hj)

theorem map_take (l : List Tk) (n k : Nat) (h : k < l.length) : (l.take (k + 1)).map (shift n) = (l.take k).map (shift n) ++ [shift n l[k]] := by
  rw [List.take_succ_eq_append_getElem h, List.map_append]
  rfl

set_option maxHeartbeats 2000000 in
set_option maxRecDepth 100000 in
theorem moved_row (b off c n : Nat) (l : List Tk) (w : World) (h0 : 0 < l.length) (_ : l.length ≤ c) (_ : c ≤ maxLen) (hl : l.length ≤ 100000) (hn : n ≤ 100000) (hat : ∀ t ∈ l, t.at_ ≤ 100000) (hc : CellsT w b off l) :
    Calls Tryd.prog 11 #[.slice (some ⟨b, off, none⟩) l.length c, .int .i64 (n : Int)] w (Moved w n l) := by
  obtain ⟨i0, hi0, hz0, hz1, hz2⟩ := info_parts tokInfo
  have Hc := Lib.hid hc
  have Hat := Lib.hid hat
  clear hc hat
  have start : OwnT w w.heap.size (.slice none 0 0) ((l.take 0).map (shift n)) := World.ownsRow_nil _ _ _ _
  have ST := Lib.hid start
  clear start
  go_enter Tryd.func11, Tryd.ntmps11
  go_wp2
  go_loopw [5, 6] (fun v i wr => ∃ (k : Nat) (V : Value), k ≤ l.length ∧ i = .int .i64 k ∧ V = v ∧ OwnT wr w.heap.size V ((l.take k).map (shift n)) ∧ Below w.heap.size w wr) (fun _ i _ => l.length - (intOf i).toNat)
  case atStart => exact ⟨0, _, by omega, rfl, rfl, ST.out, Below.refl _ _⟩
  case round =>
    clear ST
    obtain ⟨k, v, hk, rfl, rfl, hown, hb⟩ := hrel
    have hsz := hb.size
    by_cases hlt : k < l.length
    · obtain ⟨c1, c2, c3⟩ := (CellsT.below Hc.out hb (Nat.le_refl _)) k l[k] (by simp [hlt])
      have hatk := Hat.out l[k] (List.getElem_mem _)
      have HS := Lib.hid (map_take l n k hlt)
      have hsl : ((l.take k).map (shift n)).length = k := by rw [List.length_map, List.length_take]; omega
      generalize (l.take k).map (shift n) = ms at *
      generalize l[k] = m at *
      obtain ⟨kd, tx, q⟩ := m
      unfold tkS at c2
      dsimp only at c1 c2 c3 hatk
      have HS2 : Hid (∃ S : ByteArray, S = ⟨tx.toArray⟩) := ⟨_, rfl⟩
      obtain ⟨S, hS⟩ := HS2.out
      rw [← hS] at c2
      have HS2 : Hid (shift n ⟨kd, tx, q⟩ = ⟨kd, tx, q + n⟩ ∧ tkS ⟨kd, tx, q + n⟩ = .string S) := ⟨rfl, by rw [hS]; rfl⟩
      have HB := Lib.hid hb
      have HSL := Lib.hid hsl
      have hml : ms.length ≤ 100000 := by omega
      have hwr : IntKind.i64.wrap ((q : Int) + (n : Int)) = (q : Int) + (n : Int) := IntWalk.i64_in _ (by omega)
      clear hb hS hsl
      go_wp2_with fail
      go_region_law (
        (refine step_append_lies _ (by rfl) _ _ _ (by rfl) w.heap.size 33 i0 _ 3 32 Tryd.underlying23 hi0 hz0 hz1 hz2 rfl (by omega) v ms.length (CsT ms) (by rfl) ((World.ownsRow.alloc hown _).drew) ⟨wr.heap.size, 0, none⟩ 1 1 [.int .u8 (kd : Int), .string S, .int .i64 ((q : Int) + (n : Int))] (by rfl) (by rfl) (cells_three_drew wr _ _ _ _) (by simp [Value.oneCell']) (by omega) (by unfold maxLen; omega) (by omega) (by simp; omega) (wr.heap.size + 1) (by simp) ?_
         intro g2 cap2 w2 hown2 hgrow _ _))
      all_goals
        have fin : OwnT w2 w.heap.size (.slice (some ⟨g2, 0, none⟩) (ms.length + 1) cap2) ((l.take (k + 1)).map (shift n)) ∧ Below w.heap.size w w2 := by
          refine ⟨?_, ((HB.out.alloc hsz _).drew).grown hgrow (by simp; omega) (fun k hk => (World.ownsRow.lt hown k hk).1)⟩
          unfold OwnT
          rw [HS.out, List.length_append, CsT_append, HS2.out.1]
          simp only [CsT]
          rw [HS2.out.2]
          exact hown2
        have FIN := Lib.hid fin
        clear fin hown2 hgrow hown hwr
        go_wp2
        go_roundw
        case rel => exact ⟨k + 1, _, by omega, by go_num, rfl, FIN.out.1, FIN.out.2⟩
        case measure => simp [intOf]; omega
    · obtain rfl : k = l.length := by omega
      rw [List.take_length] at hown
      have HF := Lib.hid (show Moved w n l (.returned v) wr from ⟨v, rfl, hown, hb⟩)
      clear hown hb
      go_wp2
      go_ret
      exact HF.out

set_option maxRecDepth 100000 in
theorem moved_none (o : Option Addr) (c n : Nat) (w : World) :
    Calls Tryd.prog 11 #[.slice o 0 c, .int .i64 (n : Int)] w (Moved w n []) := by
  have HF := Lib.hid (show Moved w n [] (.returned (.slice none 0 0)) w from ⟨_, rfl, World.ownsRow_nil _ _ _ _, Below.refl _ _⟩)
  go_enter Tryd.func11, Tryd.ntmps11
  go_wp2
  go_loop [5, 6] (fun v i => i = .int .i64 0 ∧ v = .slice none 0 0) (fun _ _ => 0)
  case atStart => exact ⟨rfl, rfl⟩
  case round =>
    obtain ⟨rfl, rfl⟩ := hrel
    go_wp2
    go_ret
    exact HF.out

theorem moved_any (v : Value) (n : Nat) (l : List Tk) (w : World) (h : RdT w v l) (hl : l.length ≤ 100000) (hn : n ≤ 100000) (hat : ∀ t ∈ l, t.at_ ≤ 100000) :
    Calls Tryd.prog 11 #[v, .int .i64 (n : Int)] w (Moved w n l) := by
  rcases h with ⟨o, c, -, rfl, rfl⟩ | ⟨b, off, c, rfl, h2, h3, h4, h5⟩
  · exact moved_none o c n w
  · exact moved_row b off c n l w h2 h3 h4 hl hn hat h5
end Go.Proofs.YtdpbjcdbdikenaaDoor
