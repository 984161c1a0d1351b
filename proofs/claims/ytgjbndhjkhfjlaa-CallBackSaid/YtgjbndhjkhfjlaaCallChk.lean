/-
  The checks of calls and answers.
-/
import Derived.Test.YtgjbndhjkhfjlaaCall
namespace Go.Proofs.Ytgjbndhjkhfjlaa
open Go.RowKit

theorem new_two (w : World) (A B : Obj) : ((w.alloc A).alloc B).heap[w.heap.size + 1]? = some B := by
  have := heap_alloc_new (w.alloc A) B
  rw [World.size_alloc] at this
  exact this

set_option maxHeartbeats 400000 in
/-- A call's check. -/
theorem ccheck_any (t n p : Int) (a : Option Addr) (k c : Nat) (w : World) :
    Calls Try.prog 24 #[cv t n p (.slice a k c)] w fun e w' => e = .returned (.int .i64 (cchk p k)) ∧ Fr (fun _ => False) w w' := by
  unfold cv
  go_enter Try.func24, Try.ntmps24
  go_wp2_with fail
  have hg := new_two w (Obj.cells #[.int .u16 t, .int .u16 n, .int .i64 p, .slice a k c] 32 (0, 0)) (Obj.cells #[.int .i64 p] 3 (0, 0))
  have hf : Fr (fun _ => False) w ((w.alloc (Obj.cells #[.int .u16 t, .int .u16 n, .int .i64 p, .slice a k c] 32 (0, 0))).alloc (Obj.cells #[.int .i64 p] 3 (0, 0))) := ((Fr.refl _ _).alloc _).alloc _
  refine (check1_any a k c _ p _ hg).mono ?_
  rintro e w1 ⟨rfl, f1⟩
  have F := Lib.hid (hf.trans f1 (fun _ _ h => h))
  clear hg hf f1
  go_wp2
  go_ret
  exact ⟨rfl, F.out⟩

set_option maxHeartbeats 400000 in
/-- An answer's check. -/
theorem acheck_any (x r : Int) (a : Option Addr) (k c : Nat) (w : World) :
    Calls Try.prog 25 #[av x r (.slice a k c)] w fun e w' => e = .returned (.int .i64 (achk x r k)) ∧ Fr (fun _ => False) w w' := by
  unfold av
  go_enter Try.func25, Try.ntmps25
  go_wp2_with fail
  have hg := new_two w (Obj.cells #[.int .i64 x, .int .i64 r, .slice a k c] 36 (0, 0)) (Obj.cells #[.int .i64 x, .int .i64 r] 3 (0, 0))
  have hf : Fr (fun _ => False) w ((w.alloc (Obj.cells #[.int .i64 x, .int .i64 r, .slice a k c] 36 (0, 0))).alloc (Obj.cells #[.int .i64 x, .int .i64 r] 3 (0, 0))) := ((Fr.refl _ _).alloc _).alloc _
  refine (check2_any a k c _ x r _ hg).mono ?_
  rintro e w1 ⟨rfl, f1⟩
  have F := Lib.hid (hf.trans f1 (fun _ _ h => h))
  clear hg hf f1
  go_wp2
  go_ret
  exact ⟨rfl, F.out⟩
end Go.Proofs.Ytgjbndhjkhfjlaa
