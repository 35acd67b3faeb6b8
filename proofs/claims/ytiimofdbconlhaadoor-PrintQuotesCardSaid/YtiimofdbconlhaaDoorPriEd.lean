/- The printers of types and of the examples' expressions; the examples. -/
import Derived.Test.YtiimofdbconlhaaDoorPriEc
namespace Go.Proofs.YtiimofdbconlhaaDoor
open Go.RowKit PriM

/-- A row of one part, as a literal lays it. -/
theorem one_lit {n : Nat} {w1 : World} {p : Pv} {s : List UInt8} {k d : Nat} (h : PartV n d k w1 p s) (hn : n ≤ w1.heap.size) (hk : k ≤ 1000000000000) (hs : s.length ≤ 100000000000000) :
    Calls Tryd.prog 20 #[.slice (some ⟨w1.heap.size, 0, none⟩) 1 1] (w1.alloc (.cells #[.string p.s, fnV p.f] 51)) (TextPost (w1.alloc (.cells #[.string p.s, fnV p.f] 51)) s) := by
  have hk2 : KeepT n w1 (w1.alloc (.cells #[.string p.s, fnV p.f] 51)) := (KeepT.refl n w1).alloc hn _
  have hr := own_lit (l := [p]) (base := n) (heap_alloc_new w1 (.cells #[.string p.s, fnV p.f] 51)) hn (by simp)
  have := text_any n _ _ [(p, s, k)] hr.rd (fun x hx => by
    simp only [List.mem_cons, List.not_mem_nil, or_false] at hx
    subst hx
    exact ⟨d, h.kept hk2⟩) (by simp; omega) (by simp [wsum]; omega) (by simp [cats]; omega)
  simpa [cats] using this

theorem TextPost.later {w w1 : World} {s : List UInt8} {e : Ending} {w' : World} (h : TextPost w1 s e w') (hb : Below w.heap.size w w1) : TextPost w s e w' := ⟨h.1, hb.trans (h.2.mono hb.size)⟩

set_option maxRecDepth 100000 in
set_option maxHeartbeats 1000000 in
theorem type_any (n : Nat) (t : Ty) (S : ByteArray) (v : Int) (o : Option Addr) (m c : Nat) (w : World) (h : TyOK n w t (.string S) (.int .i64 v) (.slice o m c)) (hs : (rT vn t).length ≤ 100000000000000) :
    Calls Tryd.prog 10 #[.agg #[.string S, .int .i64 v, .slice o m c]] w (TextPost w (rT vn t)) := by
  have hbA : Below w.heap.size w (w.alloc (.cells #[.string S, .int .i64 v, .slice o m c] 24)) := (Below.refl _ _).alloc (Nat.le_refl _) _
  have HTY := Lib.hid (fun W => typ_any S v o m c W)
  have HX := Lib.hid (fun w1 b (hx : BoxT w1 b (.string S) (.int .i64 v) (.slice o m c)) (hb : Below w.heap.size w w1) => one_lit (w1 := w1) (ty_part n t 0 w1 b _ _ _ hx (h.on (hb.mono h.low))) (Nat.le_trans h.low hb.size) (by have := h.len; unfold wI; simp; omega) (by simpa [ren, paren] using hs))
  have HB := Lib.hid hbA
  clear hbA h hs
  go_enter Tryd.func10, Tryd.ntmps10
  go_wp2_with fail
  go_at_call 21
  refine (HTY.out _).mono ?_
  rintro e w1 ⟨b, rfl, hx, hb, _⟩
  have hb2 := HB.out.trans (hb.mono HB.out.size)
  have HT := Lib.hid (HX.out w1 b hx hb2)
  have HB2 := Lib.hid (hb2.alloc hb2.size (.cells #[.string ⟨#[]⟩, .func (.func 32) #[] #[.pointer (some ⟨b, 0, none⟩)]] 51))
  clear hx hb hb2 HX
  unfold Pv.agg fnV fnOf
  unfold fnV fnOf at HT
  go_wp2_with fail
  go_at_call 20
  refine (HT.out).mono ?_
  intro e w2 hp
  have hq := hp.later HB2.out
  obtain ⟨rfl, _⟩ := hp
  have e1 : ren vn (.ty t 0) = rT vn t := by simp [ren, paren]
  rw [e1] at hq ⊢
  have HF := Lib.hid hq
  clear hq e1
  go_wp2_with fail
  go_ret
  exact HF.out

set_option maxRecDepth 100000 in
set_option maxHeartbeats 1000000 in
theorem exprs_any (n : Nat) (x : Ex) (kd : Int) (S : ByteArray) (N : Int) (ko : Option Addr) (kn kc : Nat) (w : World) (h : ExV n w x kd S N ko kn kc) (hn : n ≤ w.heap.size) (hk : kE x ≤ 1000000000000) (hs : (rE x).length ≤ 100000000000000) :
    Calls Tryd.prog 19 #[.agg #[.int .u8 kd, .string S, .int .i64 N, .bool false, .slice none 0 0, .slice ko kn kc]] w (TextPost w (rE x)) := by
  have hbA : Below w.heap.size w (w.alloc (.cells #[.int .u8 kd, .string S, .int .i64 N, .bool false, .slice none 0 0, .slice ko kn kc] 36)) := (Below.refl _ _).alloc (Nat.le_refl _) _
  have HTY := Lib.hid (fun W => expr_any kd S N false none 0 0 ko kn kc W)
  have HX := Lib.hid (fun w1 b (hx : BoxE w1 b (.int .u8 kd) (.string S) (.int .i64 N) (.bool false) (.slice none 0 0) (.slice ko kn kc)) (hb : Below w.heap.size w w1) => one_lit (w1 := w1) (ex_part n x w1 b kd S N ko kn kc (Nat.le_trans hn hb.size) (ExV.below (hb.mono hn) x h) hx) (Nat.le_trans hn hb.size) hk hs)
  have HB := Lib.hid hbA
  clear hbA h hs hk
  go_enter Tryd.func19, Tryd.ntmps19
  go_wp2_with fail
  go_at_call 30
  refine (HTY.out _).mono ?_
  rintro e w1 ⟨b, rfl, hx, hb⟩
  have hb2 := HB.out.trans (hb.mono HB.out.size)
  have HT := Lib.hid (HX.out w1 b hx hb2)
  have HB2 := Lib.hid (hb2.alloc hb2.size (.cells #[.string ⟨#[]⟩, .func (.func 41) #[] #[.pointer (some ⟨b, 0, none⟩)]] 51))
  clear hx hb hb2 HX
  unfold fnV at HT
  go_wp2_with fail
  go_at_call 20
  refine (HT.out).mono ?_
  intro e w2 hp
  have hq := hp.later HB2.out
  obtain ⟨rfl, _⟩ := hp
  have HF := Lib.hid hq
  clear hq
  go_wp2_with fail
  go_ret
  exact HF.out
end Go.Proofs.YtiimofdbconlhaaDoor
