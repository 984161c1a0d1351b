/-
  The checks of calls and answers.
-/
import Derived.Test.YtmpnomngnfffbaaCall
namespace Go.Proofs.Ytmpnomngnfffbaa
open Go.RowKit

theorem new_two (w : World) (A B : Obj) : ((w.alloc A).alloc B).heap[w.heap.size + 1]? = some B := by
  have := heap_alloc_new (w.alloc A) B
  rw [World.size_alloc] at this
  exact this

set_option maxHeartbeats 400000 in
/-- A call's check. -/
theorem ccheck_any (t n p : Int) (a : Option Addr) (k c : Nat) (w : World) :
    Calls Try.prog 31 #[cv t n p (.slice a k c)] w fun e w' => e = .returned (.int .i64 (cchk p k)) ∧ Fr (fun _ => False) w w' := by
  unfold cv
  go_enter Try.func31, Try.ntmps31
  go_wp2_with fail
  have hg := new_two w (Obj.cells #[.int .u16 t, .int .u16 n, .int .i64 p, .slice a k c] 33 (0, 0)) (Obj.cells #[.int .i64 p] 3 (0, 0))
  have hf : Fr (fun _ => False) w ((w.alloc (Obj.cells #[.int .u16 t, .int .u16 n, .int .i64 p, .slice a k c] 33 (0, 0))).alloc (Obj.cells #[.int .i64 p] 3 (0, 0))) := ((Fr.refl _ _).alloc _).alloc _
  refine (check1_any a k c _ p _ hg).mono ?_
  rintro e w1 ⟨rfl, f1⟩
  have F := Lib.hid (hf.trans f1 (fun _ _ h => h))
  clear hg hf f1
  go_wp2
  go_ret
  exact ⟨rfl, F.out⟩

end Go.Proofs.Ytmpnomngnfffbaa
