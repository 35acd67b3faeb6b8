/- A snapshot's bytes. -/
import Derived.Test.YtdckcjcddibglaaStoC
import Derived.Deep.RegionHeld3
import Derived.OrdersHeld
namespace Go.Proofs.Ytdckcjcddibglaa
open Go.RowKit OctM

/-- A writer at work since w: its bytes, and nothing else of w has turned. -/
structure EW (w : World) (b : Nat) (v : Value) (bs : List UInt8) (W : World) : Prop where
  at_ : WAt W b w.heap.size v bs
  kept : Kept (fun k => k = b) w W
theorem EW.lt {w W : World} {b : Nat} {v : Value} {bs : List UInt8} (h : EW w b v bs W) : ∀ k, v.ownBlock = some k → w.heap.size ≤ k ∧ k < W.heap.size := fun k hk => h.at_.own.lt k hk
theorem EW.drew {w W : World} {b : Nat} {v : Value} {bs : List UInt8} (h : EW w b v bs W) : EW w b v bs W.drew := ⟨⟨h.at_.cell, h.at_.own⟩, h.kept.drew⟩
theorem EW.put {w W W' : World} {b : Nat} {v : Value} {bs bs' : List UInt8} {e : Ending} (h : EW w b v bs W) (p : WPost W W' b w.heap.size v bs' e) : ∃ v', EW w b v' bs' W' := by
  obtain ⟨v', hat, hor⟩ := p.at_
  exact ⟨v', hat, h.kept.step p.kept (fun k hk => by
    rcases hk with rfl | hk
    · exact .inl rfl
    · exact .inr (h.lt k hk).1)⟩
theorem EW.blk {w W : World} {b : Nat} {v : Value} {bs : List UInt8} (h : EW w b v bs W) {fb : Nat} (hf : fb < w.heap.size) (hb : fb ≠ b) : W.heap[fb]? = w.heap[fb]? := h.kept.block fb hf hb
theorem EW.rd {w W : World} {b : Nat} {v x : Value} {bs l : List UInt8} (h : EW w b v bs W) (hr : ∀ W, Kept (fun k => k = b) w W → Rd W x l) : Rd W x l ∧ ∀ W', Kept (two b v) W W' → Rd W' x l :=
  ⟨hr W h.kept, fun W' hk => hr W' (h.kept.step hk (fun k hk => by
    rcases hk with rfl | hk
    · exact .inl rfl
    · exact .inr (h.lt k hk).1))⟩

theorem rd_kept {w0 w W : World} {b : Nat} {x : Value} {l : List UInt8} (h : Rd w0 x l) (hb : Below w0.heap.size w0 w) (hlt : w0.heap.size ≤ b) (hk : Kept (fun k => k = b) w W) : Rd W x l :=
  h.same fun p hp => (World.cell?_of_block (hk.block p.block (Nat.lt_of_lt_of_le hp hb.size) (fun e => by omega))).trans (hb.cell hp)

end Go.Proofs.Ytdckcjcddibglaa
