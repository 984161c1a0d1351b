/-
  Slices of bytes that a call makes anew.
-/
import Derived.Test.YtojfabhbkdddpaaGen
import Derived.Test.YtojfabhbkdddpaaBytes
namespace Go.Proofs.Ytojfabhbkdddpaa
open Go.RowKit

theorem Try.infoU8 : (Try.prog.info? 5).map (fun i => (i.zero, i.size, i.bytes)) = some (some (.int .u8 0), 1, 1) := by kernel_rfl

theorem be2_new {P : Program} {n : Int} (h0 : 0 ≤ n) (h1 : n ≤ 65535) (w : World) : (Builtin.firstCells 1 2 (.slice (some ⟨w.heap.size, 0, none⟩) 2 2)).run P (w.alloc (.cells #[.int .u8 (n / 256), .int .u8 (n % 256)] 5)) =
    .ok ((be2 n.toNat).map bv).toArray (w.alloc (.cells #[.int .u8 (n / 256), .int .u8 (n % 256)] 5)) := by
  rw [first_row (heap_alloc_new w _) 2 2 rfl]
  have e1 := bv_of (n / 256) (by omega) (by omega)
  have e2 := bv_of (n % 256) (by omega) (by omega)
  rw [show (n / 256).toNat = n.toNat / 256 by omega] at e1
  rw [show (n % 256).toNat = n.toNat % 256 by omega] at e2
  simp [be2, e1, e2]

theorem zero_new {P : Program} (w : World) : (Builtin.firstCells 1 1 (.slice (some ⟨w.heap.size, 0, none⟩) 1 1)).run P (w.alloc (.cells #[.int .u8 0] 5)) =
    .ok ([(0 : UInt8)].map bv).toArray (w.alloc (.cells #[.int .u8 0] 5)) := first_row (heap_alloc_new w _) 1 1 rfl

/-- The call made the slice v of the bytes l, anew. -/
def Made (v : Value) (l : List UInt8) (w w' : World) : Prop := Own w' v l ∧ Fr (fun _ => False) w w' ∧ (∀ k, v.ownBlock = some k → w.heap.size ≤ k)

theorem own_new2 {n : Int} (h0 : 0 ≤ n) (h1 : n ≤ 65535) (w : World) : Own (w.alloc (.cells #[.int .u8 (n / 256), .int .u8 (n % 256)] 5)) (.slice (some ⟨w.heap.size, 0, none⟩) 2 2) (be2 n.toNat) := by
  have e1 := bv_of (n / 256) (by omega) (by omega)
  have e2 := bv_of (n % 256) (by omega) (by omega)
  rw [show (n / 256).toNat = n.toNat / 256 by omega] at e1
  rw [show (n % 256).toNat = n.toNat % 256 by omega] at e2
  refine ⟨rfl, .inr ⟨w.heap.size, 2, _, rfl, Nat.zero_le _, heap_alloc_new w _, Nat.le_refl _, by unfold maxLen; omega, rfl, ?_⟩⟩
  simp [be2, e1, e2]

/-- Behind an append of bytes that were made anew to a slice that was made anew. -/
theorem Made.append {v1 v' : Value} {l1 l2 : List UInt8} {n : Nat} {w w1 w2 w3 : World} (h1 : Made v1 l1 w w1) (h2 : Fr (fun _ => False) w1 w2) (hn : n = l1.length + l2.length)
    (ho : w3.ownsRow 0 5 1 v' n (l1.map bv ++ l2.map bv)) (hg : w2.grownBy w3 v1.ownBlock) (hv : v'.ownBlock = v1.ownBlock ∨ v'.ownBlock = some w2.heap.size) : Made v' (l1 ++ l2) w w3 := by
  obtain ⟨o1, f1, k1⟩ := h1
  refine ⟨?_, (f1.trans h2 (fun _ _ h => h)).trans (Fr.of_grown hg) (fun i hi e => by have := k1 i e.symm; omega), ?_⟩
  · unfold Own
    rw [List.length_append, List.map_append, ← hn]
    exact ho
  · intro k hk
    rcases hv with e | e
    · exact k1 k (e ▸ hk)
    · rw [e] at hk; simp at hk; have := f1.size; have := h2.size; omega

end Go.Proofs.Ytojfabhbkdddpaa
