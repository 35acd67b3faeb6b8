/- Messages as bytes, plain: what is written is read. -/
import Derived.Test.YtjbailnnaigjbaaBmB
import Derived.Test.YtjbailnnaigjbaaLSeals
import Derived.Test.YtjbailnnaigjbaaOctE
import Derived.Test.YtjbailnnaigjbaaOctJ
namespace Go.Proofs.Ytjbailnnaigjbaa
open Go.RowKit OctM

/-- An entry's bytes, entries' bytes, a message's bytes within the seal. -/
def enE (x : En) : List UInt8 := enc x.tm ++ (enc x.ss ++ (enc x.nm ++ encB x.cl))
def enEs : List En → List UInt8
  | [] => []
  | x :: es => enE x ++ enEs es
def okN (m : Mg) : Nat := if m.ok then 1 else 0
def encI (m : Mg) : List UInt8 :=
  enc m.k ++ (enc (zig m.fr) ++ (enc (zig m.tg) ++ (enc m.tm ++ (enc m.ix ++ (enc m.lt ++ (enc m.cm ++ (enc (okN m) ++ (enc m.es.length ++ (enEs m.es ++ encB m.dt)))))))))
def encM (m : Mg) : List UInt8 := sealed (encI m)

structure OkE (x : En) : Prop where
  tm : x.tm < 18446744073709551616
  ss : x.ss < 18446744073709551616
  nm : x.nm < 18446744073709551616
  cl : x.cl.length ≤ 4000
structure OkM (m : Mg) : Prop where
  k : m.k ≤ 255
  fr : zig m.fr < 18446744073709551616
  tg : zig m.tg < 18446744073709551616
  tm : m.tm < 18446744073709551616
  ix : m.ix < 18446744073709551616
  lt : m.lt < 18446744073709551616
  cm : m.cm < 18446744073709551616
  es : m.es.length ≤ 65536
  all : ∀ x ∈ m.es, OkE x
  dt : m.dt.length ≤ 1048576

theorem uptoS_encK (n most : Nat) (r : List UInt8) (h : n ≤ most) (hm : n < 18446744073709551616) : uptoS (some (enc n ++ r)) (most : Int) = (n, some r) := by
  unfold uptoS
  rw [uintS_enc n r hm]
  rw [if_neg (by simp only; omega)]
theorem bytesS_encK (m : Nat) (k r : List UInt8) (h : k.length ≤ m) (hm : k.length < 18446744073709551616) : bytesS (some (encB k ++ r)) m = (k, some r) := by
  unfold bytesS encB
  rw [List.append_assoc, uptoS_encK k.length m (k ++ r) h hm]
  simp only
  rw [takeS_le (by simp)]
  simp
theorem entS_enc (x : En) (r : List UInt8) (h : OkE x) : entS (some (enE x ++ r)) = (x, some r) := by
  have h4 := bytesS_encK 4000 x.cl r h.cl (by have := h.cl; omega)
  have e : enE x ++ r = enc x.tm ++ (enc x.ss ++ (enc x.nm ++ (encB x.cl ++ r))) := by simp [enE, List.append_assoc]
  rw [show ((4000 : Nat) : Int) = 4000 from rfl] at h4
  rw [e]
  unfold entS
  rw [uintS_enc x.tm _ h.tm]
  dsimp only
  rw [uintS_enc x.ss _ h.ss]
  dsimp only
  rw [uintS_enc x.nm _ h.nm]
  dsimp only
  rw [h4]
theorem entsS_enc : ∀ (es : List En) (r : List UInt8), (∀ x ∈ es, OkE x) → entsS es.length (some (enEs es ++ r)) = (es, some r)
  | [], r, _ => rfl
  | x :: es, r, h => by
    have hx := entS_enc x (enEs es ++ r) (h x List.mem_cons_self)
    have ih := entsS_enc es r (fun y hy => h y (List.mem_cons_of_mem _ hy))
    have e : enEs (x :: es) ++ r = enE x ++ (enEs es ++ r) := by simp [enEs, List.append_assoc]
    rw [List.length_cons, e, entsS_ok (by rw [hx]; simp), hx]
    dsimp only
    rw [ih]

theorem decI_enc (m : Mg) (h : OkM m) : decI (encI m) = some m := by
  have h1 : okN m ≤ 1 := by unfold okN; split <;> omega
  have a1 := uptoS_encK m.k 255 (enc (zig m.fr) ++ (enc (zig m.tg) ++ (enc m.tm ++ (enc m.ix ++ (enc m.lt ++ (enc m.cm ++ (enc (okN m) ++ (enc m.es.length ++ (enEs m.es ++ encB m.dt))))))))) h.k (by have := h.k; omega)
  have a8 := uptoS_encK (okN m) 1 (enc m.es.length ++ (enEs m.es ++ encB m.dt)) h1 (by omega)
  have a9 := uptoS_encK m.es.length 65536 (enEs m.es ++ encB m.dt) h.es (by have := h.es; omega)
  have aE := entsS_enc m.es (encB m.dt) h.all
  have aD := bytesS_encK 1048576 m.dt [] h.dt (by have := h.dt; omega)
  rw [List.append_nil] at aD
  rw [show ((255 : Nat) : Int) = 255 from rfl] at a1
  rw [show ((1 : Nat) : Int) = 1 from rfl] at a8
  rw [show ((65536 : Nat) : Int) = 65536 from rfl] at a9
  rw [show ((1048576 : Nat) : Int) = 1048576 from rfl] at aD
  have a2 := uintS_enc (zig m.fr) (enc (zig m.tg) ++ (enc m.tm ++ (enc m.ix ++ (enc m.lt ++ (enc m.cm ++ (enc (okN m) ++ (enc m.es.length ++ (enEs m.es ++ encB m.dt)))))))) h.fr
  have a3 := uintS_enc (zig m.tg) (enc m.tm ++ (enc m.ix ++ (enc m.lt ++ (enc m.cm ++ (enc (okN m) ++ (enc m.es.length ++ (enEs m.es ++ encB m.dt))))))) h.tg
  have a4 := uintS_enc m.tm (enc m.ix ++ (enc m.lt ++ (enc m.cm ++ (enc (okN m) ++ (enc m.es.length ++ (enEs m.es ++ encB m.dt)))))) h.tm
  have a5 := uintS_enc m.ix (enc m.lt ++ (enc m.cm ++ (enc (okN m) ++ (enc m.es.length ++ (enEs m.es ++ encB m.dt))))) h.ix
  have a6 := uintS_enc m.lt (enc m.cm ++ (enc (okN m) ++ (enc m.es.length ++ (enEs m.es ++ encB m.dt)))) h.lt
  have a7 := uintS_enc m.cm (enc (okN m) ++ (enc m.es.length ++ (enEs m.es ++ encB m.dt))) h.cm
  have ho : (okN m == 1) = m.ok := by unfold okN; cases m.ok <;> rfl
  simp only [decI, headS, encI, a1, a2, a3, a4, a5, a6, a7, a8, a9, aE, aD, unzig_zig, ho, if_pos]
theorem decM_enc (m : Mg) (h : OkM m) : decM (encM m) = (0, some m) := by
  unfold decM encM
  rw [openS_sealed, if_neg (fun h => h rfl)]
  dsimp only
  rw [decI_enc m h]
  rfl
end Go.Proofs.Ytjbailnnaigjbaa
