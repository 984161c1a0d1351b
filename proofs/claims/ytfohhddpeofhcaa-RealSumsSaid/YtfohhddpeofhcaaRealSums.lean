/-
  RealSums: for every input the law returns true.
-/
import Derived.Test.YtfohhddpeofhcaaRealMath
import Derived.Deep.RegionWith
import Derived.Deep.QuietTactic
import Derived.BigQuiet
import Derived.BigRegion
import Derived.Deep.LoopGhost
namespace Go.Proofs.Ytfohhddpeofhcaa
open Go.RowKit

theorem run_store_float (P : Program) (w : World) (a : Addr) (m : Mode) (k : FloatKind) (b : Nat) : (store a (.float k b) m).run P w = stored P w a (.float k b) m := run_store P w a _ m rfl
attribute [local go_sem] run_store_float

theorem fr_drewN {S : Nat → Prop} {a b : World} (h : Fr S a b) (n : Nat) : Fr S a (b.drewN n) := ⟨h.os, h.tape, h.output, h.size, h.block⟩
theorem refbits_told (b p : Nat) (h : Fl.canon b = p) (w : World) : Calls Try.prog 13 #[.float .f64 b] w fun e w' => e = .returned (.int .u64 p) ∧ w' = w := by
  subst h
  exact (refbits_any b w).mono fun _ _ ⟨h1, h2⟩ => ⟨h1, h2.symm⟩

set_option maxHeartbeats 4000000 in
theorem realsums_walk (n : Int) (hn : 0 ≤ n) (hn' : n ≤ 18446744073709551615) (m : Int) (hm : 0 ≤ m) (hm' : m ≤ 18446744073709551615) (x : Int) (hx : 0 ≤ x) (hx' : x ≤ 255) (y : Int) (hy : 0 ≤ y) (hy' : y ≤ 255) (w : World) :
    Calls Try.prog 4 #[.int .u64 n, .int .u64 m, .int .u8 x, .int .u8 y] w fun e w' => e = .returned (.bool true) ∧ Fr (fun _ => False) w w' := by
  go_enter Try.func4, Try.ntmps4
  go_wp2_with fail
  refine (awake_any w).mono ?_
  rintro e w1 ⟨rfl, hf⟩
  go_wp2_with fail
  refine (float_any n x hn hn' hx hx' _).mono ?_
  rintro e w2 ⟨a, ha, rfl, rfl⟩
  go_wp2_with fail
  refine (float_any m y hm hm' hy hy' _).mono ?_
  rintro e w2 ⟨b, hb, rfl, rfl⟩
  go_wp2_with fail
  refine (add_any a b _).mono ?_
  rintro e w2 ⟨rfl, f⟩
  replace hf := hf.trans f (fun _ _ h => h); clear f
  obtain ⟨r1, w3, h1, e1, f⟩ := arith_run .add _ 24 a b rfl (.inl rfl) w2
  replace hf := hf.trans f (fun _ _ h => h); clear f
  replace e1 : Fl.canon r1 = Fl.res (Ieee.double.add a b) := e1
  have E1 := Lib.hid e1; clear e1
  go_wp2_with fail
  refine (mul_any a b _).mono ?_
  rintro e w4 ⟨rfl, f⟩
  replace hf := hf.trans f (fun _ _ h => h); clear f h1
  obtain ⟨r2, w5, h2, e2, f⟩ := arith_run .mul _ 24 a b rfl (.inr (.inl rfl)) w4
  replace hf := hf.trans f (fun _ _ h => h); clear f
  replace e2 : Fl.canon r2 = Fl.res (Ieee.double.mul a b) := e2
  have E2 := Lib.hid e2; clear e2
  go_wp2_with fail
  refine (div_any a b _).mono ?_
  rintro e w6 ⟨rfl, f⟩
  replace hf := hf.trans f (fun _ _ h => h); clear f h2
  obtain ⟨r3, w7, h3, e3, f⟩ := arith_run .quo _ 24 a b rfl (.inr (.inr rfl)) w6
  replace hf := hf.trans f (fun _ _ h => h); clear f
  replace e3 : Fl.canon r3 = Fl.res (Ieee.double.div a b) := e3
  have E3 := Lib.hid e3; clear e3
  go_wp2_with fail
  clear h3
  replace hf := hf.alloc (.cells #[.float .f64 (Fl.res (Ieee.double.add a b)), .float .f64 r1, .float .f64 (Fl.res (Ieee.double.mul a b)), .float .f64 r2, .float .f64 (Fl.res (Ieee.double.div a b)), .float .f64 r3] 35)
  have hC : ∀ j : Nat, j < 6 → (w7.alloc (.cells #[.float .f64 (Fl.res (Ieee.double.add a b)), .float .f64 r1, .float .f64 (Fl.res (Ieee.double.mul a b)), .float .f64 r2, .float .f64 (Fl.res (Ieee.double.div a b)), .float .f64 r3] 35)).cell? ⟨w7.heap.size, j, none⟩ = some (.float .f64 ([Fl.res (Ieee.double.add a b), r1, Fl.res (Ieee.double.mul a b), r2, Fl.res (Ieee.double.div a b), r3].getD j 0)) := by
    intro j hj
    have hn := heap_alloc_new w7 (.cells #[.float .f64 (Fl.res (Ieee.double.add a b)), .float .f64 r1, .float .f64 (Fl.res (Ieee.double.mul a b)), .float .f64 r2, .float .f64 (Fl.res (Ieee.double.div a b)), .float .f64 r3] 35)
    have hj' : j = 0 ∨ j = 1 ∨ j = 2 ∨ j = 3 ∨ j = 4 ∨ j = 5 := by omega
    rcases hj' with rfl | rfl | rfl | rfl | rfl | rfl <;> (rw [cell_of_row _ _ _ _ _ _ hn]; rfl)
  generalize hW : (w7.alloc (.cells #[.float .f64 (Fl.res (Ieee.double.add a b)), .float .f64 r1, .float .f64 (Fl.res (Ieee.double.mul a b)), .float .f64 r2, .float .f64 (Fl.res (Ieee.double.div a b)), .float .f64 r3] 35)) = W at *
  have hb1 : w7.heap.size < W.heap.size := by rw [← hW, World.size_alloc]; omega
  clear hW
  generalize w7.heap.size = B at *
  generalize Fl.res (Ieee.double.add a b) = p1 at *
  generalize Fl.res (Ieee.double.mul a b) = p2 at *
  generalize Fl.res (Ieee.double.div a b) = p3 at *
  have k1 := E1.out
  have k2 := E2.out
  have k3 := E3.out
  have HC := Lib.hid hC
  have F := Lib.hid hf
  have X1 := Lib.hid k1
  have X2 := Lib.hid k2
  have X3 := Lib.hid k3
  clear k1 k2 k3 E1 E2 E3 hC hf
  go_loopg [44] 3 (fun g i wr => ∃ k : Nat, k ≤ 3 ∧ g = 3 - k ∧ i = .int .i64 k ∧ Fr (fun _ => False) W wr)
  case atStart => exact ⟨0, by omega, rfl, rfl, Fr.refl _ _⟩
  case round =>
    obtain ⟨k, hk, rfl, rfl, hr⟩ := hrel
    have hcell : ∀ j : Nat, j < 6 → wr.cell? ⟨B, j, none⟩ = some (.float .f64 ([p1, r1, p2, r2, p3, r3].getD j 0)) := by
      intro j hj
      rw [← HC.out j hj]
      exact hr.cell hb1 (fun h => h)
    have hsz : W.heap.size ≤ wr.heap.size := hr.size
    have R := Lib.hid hr
    clear hr
    have hk' : k = 0 ∨ k = 1 ∨ k = 2 ∨ k = 3 := by omega
    rcases hk' with rfl | rfl | rfl | rfl
    · have hc0 := hcell 0 (by omega)
      have hc1 := hcell 1 (by omega)
      clear hcell
      simp only [List.getD_cons_zero, List.getD_cons_succ] at hc0 hc1
      go_wp2_with fail
      go_quiet (first
        | (go_at_call_of 13 (Value.float .f64 r1); exact Calls.quiet_of_same (refbits_told r1 p1 X1.out _)))
      go_wp2_with fail
      go_roundg 2
      case measure => omega
      case rel => exact ⟨1, by omega, rfl, rfl, fr_drewN (R.out.alloc _) _⟩
    · have hc0 := hcell 2 (by omega)
      have hc1 := hcell 3 (by omega)
      clear hcell
      simp only [List.getD_cons_zero, List.getD_cons_succ] at hc0 hc1
      go_wp2_with fail
      go_quiet (first
        | (go_at_call_of 13 (Value.float .f64 r2); exact Calls.quiet_of_same (refbits_told r2 p2 X2.out _)))
      go_wp2_with fail
      go_roundg 1
      case measure => omega
      case rel => exact ⟨2, by omega, rfl, rfl, fr_drewN (R.out.alloc _) _⟩
    · have hc0 := hcell 4 (by omega)
      have hc1 := hcell 5 (by omega)
      clear hcell
      simp only [List.getD_cons_zero, List.getD_cons_succ] at hc0 hc1
      go_wp2_with fail
      go_quiet (first
        | (go_at_call_of 13 (Value.float .f64 r3); exact Calls.quiet_of_same (refbits_told r3 p3 X3.out _)))
      go_wp2_with fail
      go_roundg 0
      case measure => omega
      case rel => exact ⟨3, by omega, rfl, rfl, fr_drewN (R.out.alloc _) _⟩
    · clear hcell
      go_wp2_with fail
      go_ret
      exact ⟨rfl, F.out.trans R.out (fun _ _ h => h)⟩
end Go.Proofs.Ytfohhddpeofhcaa
