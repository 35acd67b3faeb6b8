/- Entries, and a writer at work. -/
import Derived.Test.YtdckcjcddibglaaStoD
namespace Go.Proofs.Ytdckcjcddibglaa
open Go.RowKit OctM

structure En where
  tm : Nat
  ss : Nat
  nm : Nat
  cl : List UInt8

/-- Its numbers are words, its cell is no longer than a record may be. -/
structure En.Ok (x : En) : Prop where
  tm : x.tm < 18446744073709551616
  ss : x.ss < 18446744073709551616
  nm : x.nm < 18446744073709551616
  cl : x.cl.length ≤ 4000

def encE (x : En) : List UInt8 := enc x.tm ++ enc x.ss ++ enc x.nm ++ encB x.cl
def enV (x : En) (v : Value) : Value := .agg #[.int .u64 (x.tm : Int), .int .u64 (x.ss : Int), .int .u64 (x.nm : Int), v]

theorem encE_length (x : En) (h : x.cl.length ≤ 4000) : (encE x).length ≤ 4040 := by
  have h1 := enc_length x.tm
  have h2 := enc_length x.ss
  have h3 := enc_length x.nm
  have h4 := nd_le x.tm
  have h5 := nd_le x.ss
  have h6 := nd_le x.nm
  have h7 := enc_length x.cl.length
  have h8 := nd_le x.cl.length
  simp only [encE, encB, List.length_append]
  omega

/-- A writer that was made since w0, and nothing of w0 has turned. -/
structure WS (w0 : World) (b : Nat) (v : Value) (bs : List UInt8) (W : World) : Prop where
  at_ : WAt W b w0.heap.size v bs
  bel : Below w0.heap.size w0 W
  ge : w0.heap.size ≤ b

theorem WS.lt {w0 W : World} {b : Nat} {v : Value} {bs : List UInt8} (h : WS w0 b v bs W) : ∀ k, v.ownBlock = some k → w0.heap.size ≤ k ∧ k < W.heap.size := fun k hk => h.at_.own.lt k hk
theorem WS.below {w0 W W' : World} {b : Nat} {v : Value} {bs : List UInt8} (h : WS w0 b v bs W) (hb : Below W.heap.size W W') : WS w0 b v bs W' := ⟨h.at_.below hb, h.bel.trans (hb.mono h.bel.size), h.ge⟩
theorem WS.drew {w0 W : World} {b : Nat} {v : Value} {bs : List UInt8} (h : WS w0 b v bs W) : WS w0 b v bs W.drew := h.below ⟨rfl, rfl, rfl, Nat.le_refl _, fun _ _ => rfl⟩
theorem WS.put {w0 W W' : World} {b : Nat} {v : Value} {bs bs' : List UInt8} {e : Ending} (h : WS w0 b v bs W) (p : WPost W W' b w0.heap.size v bs' e) : ∃ v', WS w0 b v' bs' W' := by
  obtain ⟨v', hat, -⟩ := p.at_
  exact ⟨v', hat, h.bel.trans (p.kept.below h.bel.size (fun k hk => by
    rcases hk with rfl | hk
    · exact h.ge
    · exact (h.lt k hk).1)), h.ge⟩
theorem WS.rd {w0 W : World} {b : Nat} {v x : Value} {bs l : List UInt8} (h : WS w0 b v bs W) (hr : Rd w0 x l) : Rd W x l ∧ ∀ W', Kept (two b v) W W' → Rd W' x l :=
  ⟨hr.below h.bel, fun W' hk => hr.below (h.bel.trans (hk.below h.bel.size (fun k hk => by
    rcases hk with rfl | hk
    · exact h.ge
    · exact (h.lt k hk).1)))⟩
theorem WS.rdo {w0 W : World} {b base : Nat} {v x : Value} {bs l : List UInt8} (_ : WS w0 b v bs W) (ho : Own W base x l) (hd : ∀ k, x.ownBlock = some k → ¬ two b v k) : Rd W x l ∧ ∀ W', Kept (two b v) W W' → Rd W' x l :=
  ⟨Rd.of_own ho, fun _ hk => Rd.of_own (own_kept ho hk hd)⟩
theorem WS.new {w0 W : World} {b : Nat} (hb : W.heap[b]? = some (.cells #[.slice none 0 0] 79 (0, 0))) (h : Below w0.heap.size w0 W) (hge : w0.heap.size ≤ b) : WS w0 b (.slice none 0 0) [] W := ⟨wnew hb _, h, hge⟩
/-- What is read since the writer's making is no part of it, where it was made behind the writer's last turn. -/
theorem WS.two_lt {w0 W : World} {b : Nat} {v : Value} {bs : List UInt8} (h : WS w0 b v bs W) : ∀ k, two b v k → w0.heap.size ≤ k ∧ k < W.heap.size := fun k hk => by
  rcases hk with rfl | hk
  · exact ⟨h.ge, lt_of_block h.at_.cell⟩
  · exact h.lt k hk

end Go.Proofs.Ytdckcjcddibglaa
