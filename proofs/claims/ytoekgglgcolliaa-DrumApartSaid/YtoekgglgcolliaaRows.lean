/-
  No cell of these rows narrows 'for every input' (looked for: loops, veiled, ifaces, maps, wideKeys, modest, calm, conditions, laid).
  DERIVED. THE GIVEN ROWS OF THIS SEAT. 5 by the template 'for every input the law returns true; each argument reads behind the call as it read before'; 0 by the template 'total and deterministic' (their statements: YtoekgglgcolliaaTotals.lean).
  GIVEN WITH THE SEED: the statements are not yours to turn. If you find one false, say at which input.
  Laid BY PROGRAM, IN A SANDBOX (cutbox-rows.mjs): the forced cells as the released guide's own fill.sh prints them over the translation ed3a37b3c4741d53… (all of the seat's roots in one cut). By AI agents, Wed Nov 11 2026. No macro, syntax, notation, axiom, sorry.
-/
import Derived.Test.YtoekgglgcolliaaChecked
import GoSem.Claim
import GoSem.ClaimJoined
import GoSem.ClaimMapViews
import Derived.JoinedTies
import Derived.KernelRfl
namespace Go.Proofs.Ytoekgglgcolliaa
/- THE CELL 'sum', in the pinned program and in every row, IS THE sha256 OF THE DUMP (.gsa) THAT YtoekgglgcolliaaProg.lean LOADS. Nothing in Lean hashes anything: it is a label: what it is worth is what the hold of that sum in a sandbox is worth. -/
noncomputable def Try.pinned : Pinned := { name := "ytoekgglgcolliaa", sum := "ed3a37b3c4741d532567b39d0e515f2b715c465f2e03c853e7973e297dda68f3", checked := Try.checked }
namespace Rows
def none {H : Type} : Left H := { results := [], args := [] }

/-- 'battledorelaw13.DrumSure': WHATEVER THE INPUT: true; the input reads as it did. -/
def drumSureSpec : ChangeSpec := { name := "drumSure", fn := fun _ => fun
  | [d1, d2, d3, d4] => { results := [.lit (.bool true)], args := [d1, d2, d3, d4] }
  | _ => none }
def drumSureRow : OpenClaim := { program := "ytoekgglgcolliaa", sum := "ed3a37b3c4741d532567b39d0e515f2b715c465f2e03c853e7973e297dda68f3", func := "battledore/battledorelaw13.DrumSure", spec := "drumSure", apart := false }
def DrumSureSaid : Prop := drumSureRow.holds Try.pinned (OpenSpec.ofChange drumSureSpec)

/-- ITS FALSE NEIGHBOUR: 'it returns false'. Refute it at one input. -/
def drumSureWrong : ChangeSpec := { name := "drumSure", fn := fun _ => fun
  | [d1, d2, d3, d4] => { results := [.lit (.bool false)], args := [d1, d2, d3, d4] }
  | _ => none }
def DrumSureWrongFalsely : Prop := drumSureRow.holds Try.pinned (OpenSpec.ofChange drumSureWrong)

/-- 'battledorelaw13.DrumArms': WHATEVER THE INPUT: true; the input reads as it did. -/
def drumArmsSpec : ChangeSpec := { name := "drumArms", fn := fun _ => fun
  | [d1, d2] => { results := [.lit (.bool true)], args := [d1, d2] }
  | _ => none }
def drumArmsRow : OpenClaim := { program := "ytoekgglgcolliaa", sum := "ed3a37b3c4741d532567b39d0e515f2b715c465f2e03c853e7973e297dda68f3", func := "battledore/battledorelaw13.DrumArms", spec := "drumArms", apart := false }
def DrumArmsSaid : Prop := drumArmsRow.holds Try.pinned (OpenSpec.ofChange drumArmsSpec)

/-- ITS FALSE NEIGHBOUR: 'it returns false'. Refute it at one input. -/
def drumArmsWrong : ChangeSpec := { name := "drumArms", fn := fun _ => fun
  | [d1, d2] => { results := [.lit (.bool false)], args := [d1, d2] }
  | _ => none }
def DrumArmsWrongFalsely : Prop := drumArmsRow.holds Try.pinned (OpenSpec.ofChange drumArmsWrong)

/-- 'battledorelaw13.DrumKeeps': WHATEVER THE INPUT: true; the input reads as it did. -/
def drumKeepsSpec : ChangeSpec := { name := "drumKeeps", fn := fun _ => fun
  | [d] => { results := [.lit (.bool true)], args := [d] }
  | _ => none }
def drumKeepsRow : OpenClaim := { program := "ytoekgglgcolliaa", sum := "ed3a37b3c4741d532567b39d0e515f2b715c465f2e03c853e7973e297dda68f3", func := "battledore/battledorelaw13.DrumKeeps", spec := "drumKeeps", apart := false }
def DrumKeepsSaid : Prop := drumKeepsRow.holds Try.pinned (OpenSpec.ofChange drumKeepsSpec)

/-- ITS FALSE NEIGHBOUR: 'it returns false'. Refute it at one input. -/
def drumKeepsWrong : ChangeSpec := { name := "drumKeeps", fn := fun _ => fun
  | [d] => { results := [.lit (.bool false)], args := [d] }
  | _ => none }
def DrumKeepsWrongFalsely : Prop := drumKeepsRow.holds Try.pinned (OpenSpec.ofChange drumKeepsWrong)

/-- 'battledorelaw13.DrumNil': WHATEVER THE INPUT: true; the input reads as it did. -/
def drumNilSpec : ChangeSpec := { name := "drumNil", fn := fun _ => fun
  | [d1, d2] => { results := [.lit (.bool true)], args := [d1, d2] }
  | _ => none }
def drumNilRow : OpenClaim := { program := "ytoekgglgcolliaa", sum := "ed3a37b3c4741d532567b39d0e515f2b715c465f2e03c853e7973e297dda68f3", func := "battledore/battledorelaw13.DrumNil", spec := "drumNil", apart := false }
def DrumNilSaid : Prop := drumNilRow.holds Try.pinned (OpenSpec.ofChange drumNilSpec)

/-- ITS FALSE NEIGHBOUR: 'it returns false'. Refute it at one input. -/
def drumNilWrong : ChangeSpec := { name := "drumNil", fn := fun _ => fun
  | [d1, d2] => { results := [.lit (.bool false)], args := [d1, d2] }
  | _ => none }
def DrumNilWrongFalsely : Prop := drumNilRow.holds Try.pinned (OpenSpec.ofChange drumNilWrong)

/-- 'battledorelaw13.DrumApart': WHATEVER THE INPUT: true; the input reads as it did. -/
def drumApartSpec : ChangeSpec := { name := "drumApart", fn := fun _ => fun
  | [d1, d2, d3, d4] => { results := [.lit (.bool true)], args := [d1, d2, d3, d4] }
  | _ => none }
def drumApartRow : OpenClaim := { program := "ytoekgglgcolliaa", sum := "ed3a37b3c4741d532567b39d0e515f2b715c465f2e03c853e7973e297dda68f3", func := "battledore/battledorelaw13.DrumApart", spec := "drumApart", apart := false }
def DrumApartSaid : Prop := drumApartRow.holds Try.pinned (OpenSpec.ofChange drumApartSpec)

/-- ITS FALSE NEIGHBOUR: 'it returns false'. Refute it at one input. -/
def drumApartWrong : ChangeSpec := { name := "drumApart", fn := fun _ => fun
  | [d1, d2, d3, d4] => { results := [.lit (.bool false)], args := [d1, d2, d3, d4] }
  | _ => none }
def DrumApartWrongFalsely : Prop := drumApartRow.holds Try.pinned (OpenSpec.ofChange drumApartWrong)

/- THE SECOND FORM. 'bulk': how many values and letters a reading holds, each counted each time it is reached (what is shared counts as often as it is met; a slice's spare places count too). A statement '..UptoSaid' is the law's where the arguments, and the package variables that the reading takes, are together of bulk at most 1048576: NARROWER than '..Said'. Prove '..Said' where nothing that the law and all that it calls make is longer than what came in: it says more and counts as full. Else prove '..UptoSaid'. A law counts once. -/
mutual
def uptoBulk {H : Type} : DataW H → Nat
  | .lit (.string bytes) => bytes.length + 1
  | .lit _ => 1
  | .nil => 1
  | .ptr d => uptoBulk d + 1
  | .slice elems spare => uptoBulkAll elems + uptoBulkAll spare + 1
  | .agg parts => uptoBulkAll parts + 1
  | .iface _ d => uptoBulk d + 1
  | .map entries => uptoBulkEntries entries + 1
  | .held _ => 1
def uptoBulkAll {H : Type} : List (DataW H) → Nat
  | [] => 0
  | d :: r => uptoBulk d + uptoBulkAll r
def uptoBulkEntries {H : Type} : List (Lit × DataW H) → Nat
  | [] => 0
  | x :: r => uptoBulkEntry x + uptoBulkEntries r
def uptoBulkEntry {H : Type} : Lit × DataW H → Nat
  | (.string bytes, d) => bytes.length + uptoBulk d + 1
  | (_, d) => uptoBulk d + 1
 end
def uptoSmall : (H : Type) → List (DataW H) → Bool := fun _ ds => decide (uptoBulkAll ds ≤ 1048576)
def OpenSpec.upto (s : _root_.Go.ChangeSpec) : _root_.Go.OpenSpec := { _root_.Go.OpenSpec.ofChange s with cond := some uptoSmall }

/-- 'battledorelaw13.DrumSure', WHERE WHAT IT READS IS OF BULK AT MOST 1048576: true; the input reads as it did. -/
def drumSureUptoRow : OpenClaim := { program := "ytoekgglgcolliaa", sum := "ed3a37b3c4741d532567b39d0e515f2b715c465f2e03c853e7973e297dda68f3", func := "battledore/battledorelaw13.DrumSure", spec := "drumSure", apart := false, narrowed := true }
def DrumSureUptoSaid : Prop := drumSureUptoRow.holds Try.pinned (OpenSpec.upto drumSureSpec)

/-- 'battledorelaw13.DrumArms', WHERE WHAT IT READS IS OF BULK AT MOST 1048576: true; the input reads as it did. -/
def drumArmsUptoRow : OpenClaim := { program := "ytoekgglgcolliaa", sum := "ed3a37b3c4741d532567b39d0e515f2b715c465f2e03c853e7973e297dda68f3", func := "battledore/battledorelaw13.DrumArms", spec := "drumArms", apart := false, narrowed := true }
def DrumArmsUptoSaid : Prop := drumArmsUptoRow.holds Try.pinned (OpenSpec.upto drumArmsSpec)

/-- 'battledorelaw13.DrumKeeps', WHERE WHAT IT READS IS OF BULK AT MOST 1048576: true; the input reads as it did. -/
def drumKeepsUptoRow : OpenClaim := { program := "ytoekgglgcolliaa", sum := "ed3a37b3c4741d532567b39d0e515f2b715c465f2e03c853e7973e297dda68f3", func := "battledore/battledorelaw13.DrumKeeps", spec := "drumKeeps", apart := false, narrowed := true }
def DrumKeepsUptoSaid : Prop := drumKeepsUptoRow.holds Try.pinned (OpenSpec.upto drumKeepsSpec)

/-- 'battledorelaw13.DrumNil', WHERE WHAT IT READS IS OF BULK AT MOST 1048576: true; the input reads as it did. -/
def drumNilUptoRow : OpenClaim := { program := "ytoekgglgcolliaa", sum := "ed3a37b3c4741d532567b39d0e515f2b715c465f2e03c853e7973e297dda68f3", func := "battledore/battledorelaw13.DrumNil", spec := "drumNil", apart := false, narrowed := true }
def DrumNilUptoSaid : Prop := drumNilUptoRow.holds Try.pinned (OpenSpec.upto drumNilSpec)

/-- 'battledorelaw13.DrumApart', WHERE WHAT IT READS IS OF BULK AT MOST 1048576: true; the input reads as it did. -/
def drumApartUptoRow : OpenClaim := { program := "ytoekgglgcolliaa", sum := "ed3a37b3c4741d532567b39d0e515f2b715c465f2e03c853e7973e297dda68f3", func := "battledore/battledorelaw13.DrumApart", spec := "drumApart", apart := false, narrowed := true }
def DrumApartUptoSaid : Prop := drumApartUptoRow.holds Try.pinned (OpenSpec.upto drumApartSpec)

end Rows
end Go.Proofs.Ytoekgglgcolliaa
