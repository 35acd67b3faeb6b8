/- What the program's text lays, opened; arguments opened. -/
import Derived.Test.YtdpbjcdbdikenaaDoorLexE
import Derived.Test.YtdpbjcdbdikenaaDoorRows
import Derived.Test.YtdpbjcdbdikenaaDoorCards
import Derived.Test.YtdpbjcdbdikenaaDoorTie
import Derived.ProofKit
import Derived.OpenShut
import Derived.SizedLaws
import Derived.Carry
import Derived.LaidMore
import Derived.Stop.LaidErr
import Derived.SevenTiedAt
import Derived.ChangeMaps5
namespace Go.Proofs.YtdpbjcdbdikenaaDoor
open Go.ChangeShapes Go.WideShapes Go.WideMaps Go.WideElems Go.ChangeAt Go.RowKit LexM

theorem ownFree : ownKnob Tryd.prog.godebug = none := by kernel_rfl
theorem laidOutP : laidOutB Tryd.prog = true := by kernel_rfl

/-- The list that each row has. -/
abbrev laidL : List (String × DataW Unit) := Rows.lexJoinsRow.laid

theorem door_met (os : Os) (args : Array Value) : laidMetH Tryd.prog laidL ((World.doorLaid Tryd.prog 400 os).forCall (fun _ _ => 0) ⟨#[], args, []⟩).memory :=
  laidMetH_of_parts3 (fuel := 8) (laidMet_of_run' 8 (by kernel_rfl) (by kernel_rfl)) (by kernel_rfl) (by kernel_rfl)

theorem strs_of_trod {H : Type} {enc : TypeId × Value → H} {W : World} {sp : Nat → Bool} {held : Bool} {fuel n : Nat} {T : TypeId} (l : List (List UInt8)) (hT : Tryd.prog.underlying T = some (.array n 9)) (hl : l.length = n) {cs : Array Value} {p : List MemPlace} (hC : Tryd.prog.cellsOf T = n)
    (hd : DataW.trod enc Tryd.prog W 0 sp held fuel T cs.toList = some (.agg (l.map fun x => .lit (.string x)), p)) : cs = strs l := by
  have c1 : Tryd.prog.cellsOf 9 = 1 := by kernel_rfl
  obtain ⟨xs, m, rfl, hx, hlen, hxn, hel⟩ := DataW.trod_array hT hd
  rw [c1] at hel
  rw [hC, Array.length_toList] at hlen
  simp only [Prod.mk.injEq, DataW.agg.injEq] at hx
  apply Array.ext
  · simp [strs]; omega
  · intro i h1 h2
    have hi : i < n := by omega
    have h := hel i hi
    rw [List.getElem?_eq_getElem (by omega)] at h
    obtain ⟨s, hc, hs, _⟩ := DataW.trod_string Tryd.underlying9 h
    have hxi : (xs[i]'(by omega)).1 = .lit (.string (l[i]'(by omega))) := by
      have := congrArg (fun L => L[i]?) hx.1
      simp only [List.getElem?_map] at this
      rw [List.getElem?_eq_getElem (show i < xs.length by omega), List.getElem?_eq_getElem (show i < l.length by omega)] at this
      simpa using this.symm
    rw [hs] at hxi
    have hsd : s.data.toList = l[i]'(by omega) := by simpa using hxi
    rw [Nat.mul_one, List.drop_eq_getElem_cons (by rw [Array.length_toList]; omega)] at hc
    have hcs : cs[i] = .string s := by simpa using hc
    rw [hcs]
    have := strs_get l i (by omega)
    rw [Array.getElem?_eq_getElem h2] at this
    rw [Option.some.inj this, ← hsd, Lib.mk_data]

theorem iface_of_trod {H : Type} {enc : TypeId × Value → H} {W : World} {sp : Nat → Bool} {held : Bool} {fuel : Nat} {T : TypeId} {ms : Array (String × TypeId)} {cs : List Value} {nm : String} {d : DataW H} {p : List MemPlace} (hT : Tryd.prog.underlying T = some (.interface ms))
    (hd : DataW.trod enc Tryd.prog W 0 sp held fuel T cs = some (.iface nm d, p)) : ∃ u v, cs = [.iface u v] := by
  cases fuel with
  | zero => simp [DataW.trod] at hd
  | succ m =>
    unfold DataW.trod at hd
    rw [hT] at hd
    split at hd <;> simp_all

theorem var_block {W : World} {n : String} {g : Nat} {cs : Array Value} (hg : Tryd.prog.globalNamed n = some g) (h : W.var? Tryd.prog n = some cs) : ∃ t fr, W.heap[g]? = some (.cells cs t fr) := by
  unfold World.var? at h
  rw [hg, Option.bind_some] at h
  split at h
  · rename_i c t fr hc
    exact ⟨t, fr, by rw [hc, Option.some.inj h]⟩
  · cases h

theorem laid_of_met {W : World} (h : laidMetH Tryd.prog laidL W) : Laid W := by
  rw [MakeChecks.laidMetH_plain _ _ _ (by kernel_rfl)] at h
  have h3 : laidMet Tryd.prog (laidL.drop 3) W := h.tail.tail.tail
  have h5 : laidMet Tryd.prog (laidL.drop 5) W := h.tail.tail.tail.tail.tail
  have h6 : laidMet Tryd.prog (laidL.drop 6) W := h.tail.tail.tail.tail.tail.tail
  clear h
  refine ⟨?_, ?_, ?_⟩
  · obtain ⟨ps, ⟨g, t, cs, f, p, q, hg, ht, hv, hd, _, _⟩, _, _⟩ := h6
    obtain rfl := Option.some.inj ((show Tryd.prog.globalNamed "battledore/lex.signs" = some 0 by kernel_rfl).symm.trans hg)
    obtain rfl := Option.some.inj ((show (Tryd.prog.globals[0]?).map (·.type) = some 52 by kernel_rfl).symm.trans ht)
    have e := strs_of_trod sgs Tryd.underlying52 rfl (by kernel_rfl) hd
    rw [← show strs sgs = sgCells from rfl, ← e]
    exact var_block hg hv
  · obtain ⟨ps, ⟨g, t, cs, f, p, q, hg, ht, hv, hd, _, _⟩, _, _⟩ := h5
    obtain rfl := Option.some.inj ((show Tryd.prog.globalNamed "battledore/lex.keywords" = some 1 by kernel_rfl).symm.trans hg)
    obtain rfl := Option.some.inj ((show (Tryd.prog.globals[1]?).map (·.type) = some 53 by kernel_rfl).symm.trans ht)
    have e := strs_of_trod kws Tryd.underlying53 rfl (by kernel_rfl) hd
    rw [← show strs kws = kwCells from rfl, ← e]
    exact var_block hg hv
  · obtain ⟨ps, ⟨g, t, cs, f, p, q, hg, ht, hv, hd, _, _⟩, _, _⟩ := h3
    obtain rfl := Option.some.inj ((show Tryd.prog.globalNamed "strconv.ErrRange" = some 3 by kernel_rfl).symm.trans hg)
    obtain rfl := Option.some.inj ((show (Tryd.prog.globals[3]?).map (·.type) = some 48 by kernel_rfl).symm.trans ht)
    obtain ⟨u, v, hc⟩ := iface_of_trod Tryd.underlying48 hd
    refine ⟨u, v, ?_⟩
    have := World.var?_cell hg hv 0
    rw [Array.eq_one_of_toList hc] at this
    simpa using this
theorem open_bytes {H : Type} {enc : TypeId × Value → H} {W : World} {base : Nat} {v : Value} {d : DataW H} {p : List MemPlace} {ts : List TypeId} {ds : List (DataW H)} {j : Nat}
    (hv : Value.okWide Tryd.prog W .any base 30 v) (h : DataW.Trod enc Tryd.prog W 0 (fun _ => true) true 30 v d p)
    (hsz : (DataW.weightsEach Tryd.prog ts ds).all (· ≤ reachBytes) = true) (ht : ts[j]? = some 30) (hd : ds[j]? = some d) : ∃ l, Rd W v l ∧ l.length ≤ 140737488351232 := by
  obtain ⟨a, len, cap, rfl⟩ := okWide_slice Tryd.underlying30 hv
  obtain ⟨fuel, hf⟩ := h
  rcases open_ints Tryd.underlying30 Tryd.underlying5 (by kernel_rfl) hf with ⟨hcs, hx⟩ | ⟨x, len', cap', zs, hcs, _, hl, hm, hz, hx, hcell, hwz⟩
  · simp only [Value.cells] at hcs
    simp at hcs
    obtain ⟨rfl, rfl, rfl⟩ := hcs
    exact ⟨[], .inl ⟨rfl, rfl⟩, by simp⟩
  · simp only [Value.cells] at hcs
    simp at hcs
    obtain ⟨rfl, rfl, rfl⟩ := hcs
    simp only [Prod.mk.injEq] at hx
    obtain ⟨rfl, -⟩ := hx
    have hr := sized_slice hsz ht hd Tryd.underlying30
    have hb : Tryd.prog.bytesOf 5 = 1 := by kernel_rfl
    simp only [if_true] at hz
    rw [hb] at hr
    have hlen : (zs.take len).length = len := by rw [List.length_take]; omega
    simp only [lits, List.length_map, hlen, List.length_drop, hz] at hr
    have hrb : reachBytes = 140737488351232 := by decide
    refine ⟨(zs.take len).map fun z => UInt8.ofNat z.toNat, .inr ⟨x, cap, by rw [List.length_map, hlen], by rw [List.length_map, hlen]; exact hl, hm, fun i u hu => ?_⟩, by rw [List.length_map, hlen]; omega⟩
    have hi : i < len := by
      have := (List.getElem?_eq_some_iff.1 hu).1
      rw [List.length_map, hlen] at this
      exact this
    rw [hcell i (by omega)]
    have hw := bounds_u8 (hwz (zs[i]'(by omega)) (List.getElem_mem _))
    have e1 : zs.getD i 0 = zs[i]'(by omega) := by simp [List.getD, show i < zs.length by omega]
    have e2 : u = UInt8.ofNat (zs[i]'(by omega)).toNat := by
      rw [List.getElem?_map, List.getElem?_take, if_pos hi, List.getElem?_eq_getElem (by omega)] at hu
      simpa using hu.symm
    rw [e1, e2]
    have := B_ofNat (zs[i]'(by omega)).toNat (by omega)
    rw [← this, Int.toNat_of_nonneg hw.1]


theorem open_str {H : Type} {enc : TypeId × Value → H} {W : World} {base : Nat} {v : Value} {d : DataW H} {p : List MemPlace} {ts : List TypeId} {ds : List (DataW H)} {j : Nat}
    (hv : Value.okWide Tryd.prog W .any base 9 v) (h : DataW.Trod enc Tryd.prog W 0 (fun _ => true) true 9 v d p)
    (hsz : (DataW.weightsEach Tryd.prog ts ds).all (· ≤ reachBytes) = true) (ht : ts[j]? = some 9) (hd : ds[j]? = some d) : ∃ s : ByteArray, v = .string s ∧ s.size ≤ 140737488351232 := by
  obtain ⟨s, rfl, rfl, _, _⟩ := Go.ChangeMaps.open_string Tryd.underlying9 hv h
  have hr := sized_string hsz ht hd
  have hrb : reachBytes = 140737488351232 := by decide
  refine ⟨s, rfl, ?_⟩
  rw [Lib.size_eq]
  omega
end Go.Proofs.YtdpbjcdbdikenaaDoor
