/-
  What Awake of layer 2's law gives.
-/
import Derived.Test.YtplijlgkchbdaaaCrcSum
import Derived.Lib.SlBytesConst
namespace Go.Proofs.Ytplijlgkchbdaaa
open Go.RowKit

theorem Crc.sum_awake : Crc.sum [49, 50, 51, 52, 53, 54, 55, 56, 57] = 4236843288 := by decide +kernel

set_option maxHeartbeats 1000000 in
theorem awake_any (w : World) : Calls Try.prog 7 #[] w fun e w' => e = .returned (.bool true) ∧ Fr (fun _ => False) w w' := by
  have kc := fun (w : World) (C : Array Value) (n c : Nat) => Lib.run_convert_bytes_const (P := Try.prog) w 22 5 C n c Try.underlying22 Try.underlying5
  go_enter Try.func7, Try.ntmps7
  go_wp2_with fail
  refine (sum_any _ [49, 50, 51, 52, 53, 54, 55, 56, 57] _ ?_ (by decide)).mono ?_
  · refine sees_new (c := 9) w.heap.size (heap_alloc_new w _) ?_ (by decide)
    intro j hj
    match j, hj with
    | 0, _ | 1, _ | 2, _ | 3, _ | 4, _ | 5, _ | 6, _ | 7, _ | 8, _ => rfl
  rintro e w1 ⟨rfl, rfl⟩
  rw [Crc.sum_awake]
  go_wp2_with fail
  go_ret
  exact ⟨rfl, (Fr.refl _ _).alloc _⟩
end Go.Proofs.Ytplijlgkchbdaaa
