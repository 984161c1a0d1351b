/-
  What package call does with calls and answers: their checks, and their encoding.
-/
import Derived.Test.YtcjijafmfomohaaRef
import Derived.LoopN
namespace Go.Proofs.Ytcjijafmfomohaa
open Go.RowKit

/-- A call and an answer, as values. -/
def cv (t n p : Int) (v : Value) : Value := .agg #[.int .u16 t, .int .u16 n, .int .i64 p, v]
def av (e r : Int) (v : Value) : Value := .agg #[.int .i64 e, .int .i64 r, v]

/-- Their encoding. -/
def callB (t n p : Int) (l : List UInt8) : List UInt8 := be2 t.toNat ++ be2 n.toNat ++ be2 p.toNat ++ txt l
def ansB (e r : Int) (l : List UInt8) : List UInt8 := be2 e.toNat ++ be2 r.toNat ++ txt l

/-- The first error of numbers that are Words, and so many bytes. -/
def okN (p : Int) : Bool := decide (0 ≤ p) && decide (p ≤ 65535)
def sizeN (n : Nat) : Int := if n ≤ 4000 then 0 else 6
def cchk (p : Int) (n : Nat) : Int := if okN p = true then sizeN n else 2
def achk (e r : Int) (n : Nat) : Int := if okN e = true then cchk r n else 2

theorem crow {w : World} {b : Nat} {cs : Array Value} {t : TypeId} (h : w.heap[b]? = some (.cells cs t (0, 0))) (i : Nat) (u : Value) (hu : cs[i]? = some u) : w.cell? ⟨b, i, none⟩ = some u := by
  simp only [World.cell?, h]
  simpa using hu

/-- The three ways of a number: below, above, a Word. -/
theorem three (p : Int) : (p < 0 ∧ okN p = false) ∨ ((decide (p < 0) = false ∧ (65535 : Int) < p) ∧ okN p = false) ∨ ((decide (p < 0) = false ∧ decide ((65535 : Int) < p) = false) ∧ okN p = true) := by
  unfold okN
  by_cases h0 : p < 0
  · left; simp; omega
  · by_cases h1 : 65535 < p
    · right; left; simp; omega
    · right; right; simp; omega

end Go.Proofs.Ytcjijafmfomohaa
