/- One node of one: an entry is proposed. -/
import Derived.Test.YtpnlfpckafpkbaaBalK
import Derived.Deep.WholeRow
namespace Go.Proofs.Ytpnlfpckafpkbaa
open Go.RowKit OctM

/-- What Propose leaves. -/
def PropP (p : Sc) (ps : List En) (vs ns ms : List Value) (J : Nat) (w : World) (e : Ending) (w' : World) : Prop :=
  ∃ d l v n m qs, e = .returned (.tuple #[stV p d l v n m, .slice none 0 0, .int .u64 (J : Int), .int .i64 0]) ∧ qs.map Prod.fst = ps ∧ StO w' w.heap.size [] qs vs ns ms d l v n m ∧ Below w.heap.size w w'

set_option maxRecDepth 100000 in
theorem prop_ret {p : Sc} {ps : List En} {vs ns ms : List Value} {J : Nat} {d l v n m : Value} {qs : List (En × Value)} {w W : World} {R : Nat} {tm : Array Value} (hf : W.heap[R]? = some (.cells (stC p d l v n m).toArray 41 (0, 0))) (hq : qs.map Prod.fst = ps) (hst : StO W w.heap.size [] qs vs ns ms d l v n m) (hbl : Below w.heap.size w W)
    (h6 : tm.getD 8 undef = .pointer (some ⟨R, 0, none⟩)) (h7 : tm.getD 9 undef = .slice none 0 0) (h8 : tm.getD 10 undef = .int .u64 (J : Int)) (h9 : tm.getD 11 undef = .int .i64 0) : bodyPost Try.prog Try.f21 (PropP p ps vs ns ms J w) .ret { tmps := tm, defers := [] } W := by
  have g6 : tm[8]?.getD undef = .pointer (some ⟨R, 0, none⟩) := by simpa using h6
  have g7 : tm[9]?.getD undef = .slice none 0 0 := by simpa using h7
  have g8 : tm[10]?.getD undef = .int .u64 (J : Int) := by simpa using h8
  have g9 : tm[11]?.getD undef = .int .i64 0 := by simpa using h9
  have r0 : W.cell? ⟨R, 0, none⟩ = some (.int .i64 p.n) := cellk hf rfl
  have r1 : W.cell? ⟨R, 1, none⟩ = some (.int .i64 p.s) := cellk hf rfl
  have r2 : W.cell? ⟨R, 2, none⟩ = some (.int .i64 p.k) := cellk hf rfl
  have r3 : W.cell? ⟨R, 3, none⟩ = some (.int .u64 (p.tm : Int)) := cellk hf rfl
  have r4 : W.cell? ⟨R, 4, none⟩ = some (.int .i64 p.vt) := cellk hf rfl
  have r5 : W.cell? ⟨R, 5, none⟩ = some (.int .u64 (p.bs : Int)) := cellk hf rfl
  have r6 : W.cell? ⟨R, 6, none⟩ = some (.int .u64 (p.bt : Int)) := cellk hf rfl
  have r7 : W.cell? ⟨R, 7, none⟩ = some (d) := cellk hf rfl
  have r8 : W.cell? ⟨R, 8, none⟩ = some (l) := cellk hf rfl
  have r9 : W.cell? ⟨R, 9, none⟩ = some (.int .u64 (p.cm : Int)) := cellk hf rfl
  have r10 : W.cell? ⟨R, 10, none⟩ = some (.int .u8 (p.rl : Int)) := cellk hf rfl
  have r11 : W.cell? ⟨R, 11, none⟩ = some (.int .i64 p.ld) := cellk hf rfl
  have r12 : W.cell? ⟨R, 12, none⟩ = some (.int .i64 p.lf) := cellk hf rfl
  have r13 : W.cell? ⟨R, 13, none⟩ = some (v) := cellk hf rfl
  have r14 : W.cell? ⟨R, 14, none⟩ = some (n) := cellk hf rfl
  have r15 : W.cell? ⟨R, 15, none⟩ = some (m) := cellk hf rfl
  refine bodyPost_ret (v := .tuple #[.agg #[.int .i64 p.n, .int .i64 p.s, .int .i64 p.k, .int .u64 (p.tm : Int), .int .i64 p.vt, .int .u64 (p.bs : Int), .int .u64 (p.bt : Int), d, l, .int .u64 (p.cm : Int), .int .u8 (p.rl : Int), .int .i64 p.ld, .int .i64 p.lf, v, n, m], .slice none 0 0, .int .u64 (J : Int), .int .i64 0]) (by simp [results, Try.results21, go_sem, g6, g7, g8, g9, r0, r1, r2, r3, r4, r5, r6, r7, r8, r9, r10, r11, r12, r13, r14, r15]) rfl ⟨_, _, _, _, _, qs, rfl, hq, hst, hbl⟩
end Go.Proofs.Ytpnlfpckafpkbaa
