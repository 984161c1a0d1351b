/-
  The laws' Awake.
-/
import Derived.Test.YtcjijafmfomohaaVotBallot
namespace Go.Proofs.Ytcjijafmfomohaa
open Go.RowKit
set_option maxRecDepth 100000

theorem Fr.same {S : Nat → Prop} {w w' : World} (h : Fr S w w') (hs : ∀ k, S k → k < w.heap.size → w'.heap[k]? = w.heap[k]?) : Fr (fun _ => False) w w' :=
  ⟨h.os, h.tape, h.output, h.size, fun k hk _ => by
    by_cases hS : S k
    · exact hs k hS hk
    · exact h.block k hk hS⟩

theorem lt_of {w : World} {b : Nat} {o : Obj} (h : w.heap[b]? = some o) : b < w.heap.size := (Array.getElem?_eq_some_iff.1 h).1

/-- A lower vote leaves all as it was. -/
theorem accept_low (b : Nat) (pr pn ar an : Int) (x : En) (v u : Value) (s : Bool) (r n : Int) (y : En) (v' u' : Value) (w : World) (h : w.heap[b]? = some (oVr pr pn ar an x.k x.t x.n x.p v u s)) (hy : ES w y v' u') (hb : blt r n pr pn = true) :
    Calls Try.prog 16 #[.pointer (some ⟨b, 0, none⟩), ball r n, y.val v' u'] w fun e w' => e = .returned (.bool false) ∧ Fr (fun _ => False) w w' := by
  refine (accept_any b pr pn ar an x v u s r n y v' u' w h hy).mono ?_
  rintro e w' ⟨rfl, f, ha⟩
  unfold VotAfter at ha
  rw [if_pos hb] at ha
  refine ⟨by rw [hb]; rfl, f.same (fun k hk _ => ?_)⟩
  subst hk
  rw [ha, h]
