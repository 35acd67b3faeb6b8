/- Instructions: numbers; operators of numbers; the end. -/
import Derived.Test.YtpmbdncackneoaaDoorMacF
namespace Go.Proofs.YtpmbdncackneoaaDoor
open Go.RowKit HeaM Ma

def insB (op : Nat) (n a : Int) (str : ByteArray) : Obj := .cells #[.int .u8 (op : Int), .int .i64 n, .int .i64 a, .string str] 28
theorem RunE.ins {C : Cx} {w : World} {s : Ms} (h : RunE C w s) (op : Nat) (n a : Int) (str : ByteArray) : RunE C (w.alloc (.cells #[.int .u8 (op : Int), .int .i64 n, .int .i64 a, .string str] 28)) s := h.below ((Below.refl _ _).alloc (Nat.le_refl _) _)

set_option maxHeartbeats 1000000 in
set_option maxRecDepth 100000 in
theorem do_int {C : Cx} {s : Ms} {w : World} (n a : Int) (str : ByteArray) (h : RunE C w s) (hn : s.stk.length ≤ 1000000000) :
    Calls Tryd.prog 20 #[.pointer (some ⟨C.lo, 0, none⟩), .agg #[.int .u8 0, .int .i64 n, .int .i64 a, .string str]] w (OkRun C (push s (.num (cut n))) 0) := by
  have HP := Lib.hid (answer_t n (h.ins 0 n a str) hn)
  clear h
  go_enter Tryd.func20, Tryd.ntmps20
  go_wp2_with fail
  refine HP.out.mono ?_
  rintro e w' ⟨rfl, hw⟩
  have HW := Lib.hid hw
  clear hw
  go_wp2
  go_ret
  exact ⟨rfl, HW.out⟩
end Go.Proofs.YtpmbdncackneoaaDoor
