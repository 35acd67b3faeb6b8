/- A drum whose blocks are new; the law's example. -/
import Derived.Test.YtdckcjcddibglaaDruI
namespace Go.Proofs.Ytdckcjcddibglaa
open Go.RowKit

/-- A drum all of whose blocks are at B or above. -/
def Dm (w : World) (B D T : Nat) (d : Dr) : Prop := ∃ S vn vd, (∀ k, S k → B ≤ k) ∧ B ≤ w.heap.size ∧ DAt w S D T vn vd d

theorem Dm.below {w w' : World} {B D T : Nat} {d : Dr} (h : Dm w B D T d) (hb : Below w.heap.size w w') : Dm w' B D T d := by
  obtain ⟨S, vn, vd, h1, h2, h3⟩ := h
  exact ⟨S, vn, vd, h1, Nat.le_trans h2 hb.size, h3.same hb⟩

theorem Dm.low {w : World} {B D T : Nat} {d : Dr} (h : Dm w B D T d) : B ≤ w.heap.size := by
  obtain ⟨_, _, _, _, h2, _⟩ := h
  exact h2

/-- What a writing call leaves. -/
def DmP (w : World) (B D T : Nat) (r : Int × Dr) (e : Ending) (w' : World) : Prop :=
  e = .returned (.int .i64 r.1) ∧ Dm w' B D T r.2 ∧ Below B w w'

theorem DmP.at {w : World} {B D T : Nat} {r : Int × Dr} {x : Int} {d : Dr} (h1 : r.1 = x) (h2 : r.2 = d) (e : Ending) (w' : World) (h : DmP w B D T r e w') : e = .returned (.int .i64 x) ∧ Dm w' B D T d ∧ Below B w w' := by
  subst h1 h2
  exact h

theorem DmP.of {w : World} {S : Nat → Prop} {B D T : Nat} {r : Int × Dr} (hS : ∀ k, S k → B ≤ k) (hB : B ≤ w.heap.size) (e : Ending) (w' : World) (h : APost w S D T r e w') : DmP w B D T r e w' := by
  obtain ⟨he, ⟨vn, vd, hd⟩, hk⟩ := h
  refine ⟨he, ⟨_, vn, vd, fun k hk => ?_, Nat.le_trans hB hk.size, hd⟩, hk.below hB hS⟩
  rcases hk with h1 | ⟨h1, _⟩
  · exact hS k h1
  · omega

theorem dm_new (n most : Nat) (w : World) (h1 : 1 ≤ n) (h2 : n ≤ 8) (h3 : 1 ≤ most) (h4 : most ≤ 1048576) :
    Calls Try.prog 15 #[.int .i64 (n : Int), .int .i64 (most : Int)] w fun e w' => ∃ D T, e = .returned (.tuple #[.pointer (some ⟨D, 0, none⟩), .int .i64 0]) ∧ Dm w' w.heap.size D T (new n most) ∧ Below w.heap.size w w' ∧ w.heap.size ≤ T :=
  (new_any n most w h1 h2 h3 h4).mono fun e w' ⟨D, T, he, hd, hb, hT⟩ => ⟨D, T, he, ⟨_, _, _, (fun k hk => by rcases hk with h | h; exact h.elim; exact h.1), hb.size, hd⟩, hb, hT⟩

theorem dm_append (i : Int) (x : Value) (p : List UInt8) (w : World) {B D T : Nat} {d : Dr} (h : Dm w B D T d) (hx : Rd w x p) (hp : p.length ≤ 140737487306752) (hops : d.ops ≤ 1000000) :
    Calls Try.prog 13 #[.pointer (some ⟨D, 0, none⟩), .int .i64 i, x] w (DmP w B D T (appS d i p)) := by
  obtain ⟨S, vn, vd, h1, h2, h3⟩ := h
  exact (append_any i x p w h3 hx hp hops).mono (DmP.of h1 h2)

theorem dm_write (i : Int) (x : Value) (p : List UInt8) (w : World) {B D T : Nat} {d : Dr} (h : Dm w B D T d) (hx : Rd w x p) (hp : p.length ≤ 140737487306752) (hops : d.ops ≤ 1000000) :
    Calls Try.prog 11 #[.pointer (some ⟨D, 0, none⟩), .int .i64 i, x] w (DmP w B D T (writeS d i p)) := by
  obtain ⟨S, vn, vd, h1, h2, h3⟩ := h
  exact (write_any i x p w h3 hx hp hops).mono (DmP.of h1 h2)

theorem dm_sync (i : Int) (w : World) {B D T : Nat} {d : Dr} (h : Dm w B D T d) (hops : d.ops ≤ 1000000) :
    Calls Try.prog 12 #[.pointer (some ⟨D, 0, none⟩), .int .i64 i] w (DmP w B D T (syncS d i)) := by
  obtain ⟨S, vn, vd, h1, h2, h3⟩ := h
  exact (sync_any i w h3 hops).mono (DmP.of h1 h2)

theorem dm_read (i : Int) (w : World) {B D T : Nat} {d : Dr} (h : Dm w B D T d) : Calls Try.prog 29 #[.pointer (some ⟨D, 0, none⟩), .int .i64 i] w (ReadP w d i) := by
  obtain ⟨S, vn, vd, h1, h2, h3⟩ := h
  exact read_any i w h3

/-- A Read that may be. -/
theorem dm_read_ok (i : Int) (w : World) {B D T : Nat} {d : Dr} (h : Dm w B D T d) (hz : chk d i = 0) :
    Calls Try.prog 29 #[.pointer (some ⟨D, 0, none⟩), .int .i64 i] w fun e w' => ∃ v, e = .returned (.tuple #[v, .int .i64 0]) ∧ Own w' w.heap.size v (d.tr i.toNat).now ∧ Below w.heap.size w w' :=
  (dm_read i w h).mono fun e w' hr => by
    rcases hr with ⟨h1, _⟩ | ⟨_, h2⟩
    · exact absurd hz h1
    · exact h2

/-- The states of the document's example. -/
def aw1 : Dr := (appS (new 1 10) 0 [97, 98]).2
def aw2 : Dr := (syncS aw1 0).2
def aw3 : Dr := (appS aw2 0 [99, 100]).2
def aw4 : Dr := restartS aw3 [1]

theorem aw_codes : (appS (new 1 10) 0 [97, 98]).1 = 0 ∧ (syncS aw1 0).1 = 0 ∧ (appS aw2 0 [99, 100]).1 = 0 ∧ chk aw4 0 = 0 ∧ (aw4.tr 0).now = [97, 98, 99] ∧ aw1.ops = 1 ∧ aw2.ops = 2 := ⟨rfl, rfl, rfl, rfl, rfl, rfl, rfl⟩

theorem bytes2 (w : World) (x y : UInt8) (a b : Int) (ha : a = x.toNat) (hb : b = y.toNat) : Rd (w.alloc (.cells #[.int .u8 a, .int .u8 b] 5 (2, 3))) (.slice (some ⟨w.heap.size, 0, none⟩) 2 2) [x, y] := by
  subst ha hb
  exact Rd.of_block (l := [x, y]) (heap_alloc_new w _) rfl (by simp)

theorem one_int (w : World) (x : Int) : RdI (w.alloc (.cells #[.int .i64 x] 3)) (.slice (some ⟨w.heap.size, 0, none⟩) 1 1) [x] := by
  refine ⟨_, _, rfl, by simp, fun j y hy => ⟨_, _, rfl, ?_⟩⟩
  rcases j with _ | j
  · have : x = y := by simpa using hy
    subst this
    have h := cell_of_row _ w.heap.size 0 _ _ (0, 0) (heap_alloc_new w (.cells #[.int .i64 x] 3))
    exact h
  · simp at hy

end Go.Proofs.Ytdckcjcddibglaa
