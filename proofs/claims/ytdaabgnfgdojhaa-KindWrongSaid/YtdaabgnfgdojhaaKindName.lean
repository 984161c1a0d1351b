/-
  The laws' names.
-/
import Derived.Test.YtdaabgnfgdojhaaKindNode
import Derived.Test.YtdaabgnfgdojhaaGen
namespace Go.Proofs.Ytdaabgnfgdojhaa
open Go.RowKit

/-- The name of number i, by a small number. -/
def nameT (i : Nat) (n : Int) : Txt := [UInt8.ofNat (97 + i), UInt8.ofNat (65 + n % 26).toNat, 48]

set_option maxRecDepth 100000 in
set_option maxHeartbeats 4000000 in
theorem nameOf_any (i : Nat) (hi : i ≤ 3) (n : Int) (h0 : 0 ≤ n) (h1 : n ≤ 255) (w : World) :
    Calls Try.prog 31 #[.int .i64 i, .int .u8 n] w fun e w' => e = .returned (sv (nameT i n)) ∧ Fr (fun _ => False) w w' := by
  have hconv : ∀ c0 : Int, 0 ≤ c0 → c0 ≤ 255 → (convert 61 9 (.slice (some ⟨w.heap.size, 0, none⟩) 3 3)).run Try.prog (w.alloc (.cells #[.int .u8 c0, .int .u8 (65 + n % 26), .int .u8 48] 5)) = .ok (.string ⟨[UInt8.ofNat c0.toNat, UInt8.ofNat (65 + n % 26).toNat, 48].toArray⟩) (w.alloc (.cells #[.int .u8 c0, .int .u8 (65 + n % 26), .int .u8 48] 5)) := by
    intro c0 a0 a1
    have e0 := bv_of c0 a0 a1
    have e1 := bv_of (65 + n % 26) (by omega) (by omega)
    refine Sees.string (P := Try.prog) (sees_new w.heap.size (heap_alloc_new w _) (c := 3) (l := [UInt8.ofNat c0.toNat, UInt8.ofNat (65 + n % 26).toNat, 48]) (fun j hj => ?_) (by simp)) 61 5 9 Try.underlying61 Try.underlying5 Try.underlying9
    simp at hj
    rcases (by omega : j = 0 ∨ j = 1 ∨ j = 2) with rfl | rfl | rfl
    · simp [← e0]
    · simp [← e1]
    · rfl
  have q0 := hconv 97 (by omega) (by omega)
  have q1 := hconv 98 (by omega) (by omega)
  have q2 := hconv 99 (by omega) (by omega)
  have q3 := hconv 100 (by omega) (by omega)
  clear hconv
  rcases (by omega : i = 0 ∨ i = 1 ∨ i = 2 ∨ i = 3) with rfl | rfl | rfl | rfl <;>
  (go_enter Try.func31, Try.ntmps31
   go_wp2
   go_ret
   exact ⟨rfl, (Fr.refl _ _).alloc _⟩)

end Go.Proofs.Ytdaabgnfgdojhaa
