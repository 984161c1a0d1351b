/-
  What the document's answers for a word and a long give.
-/
import Derived.Test.YtmpnomngnfffbaaMade
namespace Go.Proofs.Ytmpnomngnfffbaa
open Go.RowKit

set_option maxHeartbeats 400000 in
theorem refword_any (n : Int) (h0 : 0 ≤ n) (h1 : n ≤ 65535) (w : World) :
    Calls Try.prog 33 #[.int .i64 n] w fun e w' => ∃ v, e = .returned v ∧ Made v (be2 n.toNat) w w' := by
  have e0 : n / 256 % 256 = n / 256 := by omega
  go_enter Try.func33, Try.ntmps33
  go_wp2
  go_ret
  exact ⟨.slice (some ⟨w.heap.size, 0, none⟩) 2 2, rfl, own_new2 h0 h1 w, (Fr.refl _ _).alloc _, by simp [Value.ownBlock]⟩

end Go.Proofs.Ytmpnomngnfffbaa
