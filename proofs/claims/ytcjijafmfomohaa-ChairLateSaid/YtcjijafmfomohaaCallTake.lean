/-
  What Take and TakeAnswer read; the laws' fixed fact.
-/
import Derived.Test.YtcjijafmfomohaaCallSmall
import Derived.Test.YtcjijafmfomohaaFacts
namespace Go.Proofs.Ytcjijafmfomohaa
open Go.RowKit

theorem cconv (w : World) (s : ByteArray) : ∃ cap w', (convert 9 23 (.string s)).run Try.prog w = .ok (.slice (some ⟨w.heap.size, 0, none⟩) s.size cap) w' ∧ Fr (fun _ => False) w w' ∧ Sees w' (.slice (some ⟨w.heap.size, 0, none⟩) s.size cap) s.data.toList ∧ w.heap.size < w'.heap.size :=
  ⟨_, _, run_bytes_of_string (P := Try.prog) w 9 23 5 s Try.underlying9 Try.underlying23 Try.underlying5, (Fr.refl _ _).drew.alloc _, sees_bytes w s 5, by rw [World.size_alloc]; exact Nat.lt_succ_self _⟩

theorem free4 {w : World} {b : Nat} {cs : Array Value} {t : TypeId} (h : w.heap[b]? = some (.cells cs t (0, 0))) (i : Nat) : w.frozen? ⟨b, i, none⟩ = false := by
  simp [World.frozen?, h]

/-- What a call, an answer reads as. -/
def takeS (st : List UInt8 × Int) : (Nat × Nat × Nat × List UInt8) × (List UInt8 × Int) :=
  (((numS st 2).1, (numS (numS st 2).2 2).1, (numS (numS (numS st 2).2 2).2 2).1, (textS (numS (numS (numS st 2).2 2).2 2).2 4000).1), (textS (numS (numS (numS st 2).2 2).2 2).2 4000).2)
def takeAS (st : List UInt8 × Int) : (Nat × Nat × List UInt8) × (List UInt8 × Int) :=
  (((numS st 2).1, (numS (numS st 2).2 2).1, (textS (numS (numS st 2).2 2).2 4000).1), (textS (numS (numS st 2).2 2).2 4000).2)

end Go.Proofs.Ytcjijafmfomohaa
