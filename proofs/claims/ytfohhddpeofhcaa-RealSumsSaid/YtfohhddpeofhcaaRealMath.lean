/-
  What math's Signbit, Copysign, Inf, NaN, Abs and IsInf give, in words; layer 3's Awake and Float.
-/
import Derived.Test.YtfohhddpeofhcaaReal
namespace Go.Proofs.Ytfohhddpeofhcaa
open Go.RowKit

theorem signbit_any (b : Nat) (w : World) : Calls Try.prog 12 #[.float .f64 b] w fun e w' => e = .returned (.bool (Fl.neg b)) ∧ w = w' := by
  have h : decide (wrap64 (b : Int) < 0) = Fl.neg b := by
    unfold Fl.neg wrap64
    by_cases h : b / 9223372036854775808 % 2 = 1
    · rw [h]; simp; omega
    · have h0 : b / 9223372036854775808 % 2 = 0 := by omega
      rw [h0]; simp; omega
  go_enter Try.func12, Try.ntmps12
  go_wp2_with fail
  go_ret
  exact ⟨by rw [← h]; rfl, rfl⟩

theorem abs_any (b : Nat) (hb : b < 18446744073709551616) (w : World) : Calls Try.prog 27 #[.float .f64 b] w fun e w' => e = .returned (.float .f64 (Fl.rung b)) ∧ w = w' := by
  have h : (bits .andNot .u64 (b : Int) 9223372036854775808).toNat = Fl.rung b := by
    rw [show (9223372036854775808 : Int) = ((9223372036854775808 : Nat) : Int) from rfl, u64_andNot_nat _ _ hb (by decide), Int.toNat_natCast]
    exact Nat.and_two_pow_sub_one_eq_mod b 63
  go_enter Try.func27, Try.ntmps27
  go_wp2_with fail
  go_ret
  exact ⟨by rw [← h]; rfl, rfl⟩

theorem copysign_at (a b r : Nat) (h : (bits .or .u64 (bits .andNot .u64 (a : Int) 9223372036854775808) (bits .and .u64 (b : Int) 9223372036854775808)).toNat = r) (w : World) :
    Calls Try.prog 22 #[.float .f64 a, .float .f64 b] w fun e w' => e = .returned (.float .f64 r) ∧ w = w' := by
  have H := Lib.hid h; clear h
  go_enter Try.func22, Try.ntmps22
  go_wp2_with fail
  go_ret
  exact ⟨by rw [← H.out]; rfl, rfl⟩

theorem inf_any (n : Int) (w : World) : Calls Try.prog 21 #[.int .i64 n] w fun e w' => e = .returned (.float .f64 (if 0 ≤ n then 9218868437227405312 else 18442240474082181120)) ∧ w = w' := by
  go_enter Try.func21, Try.ntmps21
  go_wp2_with fail
  all_goals (go_ret; exact ⟨rfl, rfl⟩)

theorem nan_any (w : World) : Calls Try.prog 24 #[] w fun e w' => e = .returned (.float .f64 9221120237041090561) ∧ w = w' := by
  go_enter Try.func24, Try.ntmps24
  go_wp2_with fail
  go_ret
  exact ⟨rfl, rfl⟩

theorem nan_max : Fl.isNaN 9218868437227405311 = false := by decide +kernel
theorem key_max : Fl.key 9218868437227405311 = 9218868437227405311 := by decide +kernel

theorem isinf_any (b : Nat) (hb : b < 18446744073709551616) (w : World) : Calls Try.prog 23 #[.float .f64 b, .int .i64 0] w fun e w' => e = .returned (.bool (decide (Fl.rung b = 9218868437227405312))) ∧ w = w' := by
  have h : (FloatKind.f64.format.order (Fl.rung b) 9218868437227405311 == some .gt) = decide (Fl.rung b = 9218868437227405312) := by
    have hl := Fl.rung_lt b
    have hr : Fl.rung (Fl.rung b) = Fl.rung b := Nat.mod_eq_of_lt hl
    cases hn : Fl.isNaN (Fl.rung b)
    · have ho := Fl.order_num hn nan_max
      rw [key_max] at ho
      rw [show FloatKind.f64.format.order (Fl.rung b) 9218868437227405311 = _ from ho, Fl.compare_gt]
      have hk : Fl.key (Fl.rung b) = Fl.rung b := by
        unfold Fl.key
        have : Fl.neg (Fl.rung b) = false := by unfold Fl.neg; rw [Nat.div_eq_of_lt hl]; rfl
        rw [this, hr]; rfl
      have hx := Fl.not_nan_iff.1 hn
      rw [hr] at hx
      rw [hk]
      exact decide_eq_decide.2 (by omega)
    · rw [show FloatKind.f64.format.order (Fl.rung b) 9218868437227405311 = _ from Fl.order_nan (.inl hn)]
      have hx := Fl.nan_iff.1 hn
      rw [hr] at hx
      symm
      rw [decide_eq_false (by omega)]
      rfl
  have H := Lib.hid h; clear h
  go_enter Try.func23, Try.ntmps23
  go_wp2_with fail
  refine (abs_any b hb _).mono ?_
  rintro e w1 ⟨rfl, rfl⟩
  have h := H.out; clear H
  go_wp2_with (rw [h])
  go_ret
  exact ⟨by rw [← h]; rfl, rfl⟩

theorem isinf_minus (w : World) : Calls Try.prog 23 #[.float .f64 18442240474082181120, .int .i64 (-1)] w fun e w' => e = .returned (.bool true) ∧ w = w' := by
  have h : (FloatKind.f64.format.order (Fl.opp 18442240474082181120) 9218868437227405311 == some .gt) = true := by decide +kernel
  go_enter Try.func23, Try.ntmps23
  go_wp2_with (rw [h])
  go_ret
  exact ⟨rfl, rfl⟩

theorem awake_any (w : World) : Calls Try.prog 7 #[] w fun e w' => e = .returned (.bool true) ∧ Fr (fun _ => False) w w' := by
  go_enter Try.func7, Try.ntmps7
  go_wp2_with fail
  refine (copysign_at _ _ 9223372036854775808 (by decide +kernel) _).mono ?_
  rintro e w1 ⟨rfl, rfl⟩
  go_wp2_with fail
  refine (same_any _ _ _).mono ?_
  rintro e w1 ⟨rfl, rfl⟩
  rw [show (((Fl.canon 0 : Nat) : Int) == ((Fl.canon 9223372036854775808 : Nat) : Int)) = false by decide +kernel]
  go_wp2_with fail
  refine (div_any _ _ _).mono ?_
  rintro e w1 ⟨rfl, hf⟩
  rw [show Fl.res (Ieee.double.div 4607182418800017408 9223372036854775808) = 18442240474082181120 by decide +kernel]
  go_wp2_with fail
  refine (isinf_minus _).mono ?_
  rintro e w2 ⟨rfl, rfl⟩
  go_wp2_with fail
  go_ret
  exact ⟨rfl, hf⟩
theorem float_of_int (n : Int) : floatOfInt .f64 n < 18446744073709551616 := Ieee.double.write_lt (.number (n < 0) n.natAbs 0)

theorem half_off (n : Int) : ∃ r : Nat, (r = 4602678819172646912 ∨ r = 13826050856027422720) ∧ ∀ (t : TypeId) (w : World), (binOp .sub t (.float .f64 (floatOfInt .f64 (n % 2))) (.float .f64 4602678819172646912)).run Try.prog w = .ok (.float .f64 r) w := by
  have h : n % 2 = 0 ∨ n % 2 = 1 := by omega
  rcases h with h | h <;> rw [h]
  · exact ⟨13826050856027422720, .inr rfl, fun t w => run_float_arith w .sub t .f64 _ _ _ (by decide +kernel)⟩
  · exact ⟨4602678819172646912, .inl rfl, fun t w => run_float_arith w .sub t .f64 _ _ _ (by decide +kernel)⟩

theorem float_any (n m : Int) (hn : 0 ≤ n) (hn' : n ≤ 18446744073709551615) (hm : 0 ≤ m) (hm' : m ≤ 255) (w : World) : Calls Try.prog 8 #[.int .u64 n, .int .u8 m] w fun e w' => ∃ b : Nat, b < 18446744073709551616 ∧ e = .returned (.float .f64 b) ∧ w = w' := by
  obtain ⟨r, hr, hs⟩ := half_off n
  go_enter Try.func8, Try.ntmps8
  go_wp2_with fail
  · refine (nan_any _).mono ?_
    rintro e w1 ⟨rfl, rfl⟩
    go_wp2_with fail
    go_ret
    exact ⟨_, by omega, rfl, rfl⟩
  · refine (inf_any _ _).mono ?_
    rintro e w1 ⟨rfl, rfl⟩
    generalize hx : (if 0 ≤ n % 2 * 2 - 1 then (9218868437227405312 : Nat) else 18442240474082181120) = x
    have hx' : x < 18446744073709551616 := by rw [← hx]; split <;> omega
    clear hx
    go_wp2_with fail
    go_ret
    exact ⟨_, hx', rfl, rfl⟩
  · rcases hr with rfl | rfl
    · refine (copysign_at _ _ 0 (by decide +kernel) _).mono ?_
      rintro e w1 ⟨rfl, rfl⟩
      go_wp2_with fail
      go_ret
      exact ⟨_, by omega, rfl, rfl⟩
    · refine (copysign_at _ _ 9223372036854775808 (by decide +kernel) _).mono ?_
      rintro e w1 ⟨rfl, rfl⟩
      go_wp2_with fail
      go_ret
      exact ⟨_, by omega, rfl, rfl⟩
  · go_ret
    exact ⟨_, float_of_int _, rfl, rfl⟩
  · go_ret
    exact ⟨_, float_of_int _, rfl, rfl⟩
  · go_ret
    exact ⟨_, by omega, rfl, rfl⟩
end Go.Proofs.Ytfohhddpeofhcaa
