/-
  What the program's real, the reference's Bits and Whole, and math's small functions give, function by function: in words.
-/
import Derived.Test.YtfohhddpeofhcaaFloatOps
import Derived.Test.YtfohhddpeofhcaaApp
import Derived.WalkLawsBesides
namespace Go.Proofs.Ytfohhddpeofhcaa
open Go.RowKit

theorem f64_bits (b : Nat) (w : World) : (callFunc 20 #[.float .f64 b]).run Try.prog w = .ok (.value (.int .u64 b)) w := by
  rw [run_callFunc_extern Try.func20 (e := Extern.MathFloatBits.float64bits) (by kernel_rfl) (by kernel_rfl) (by kernel_rfl) (by kernel_rfl)]
  rfl
theorem f64_of (n : Int) (w : World) : (callFunc 11 #[.int .u64 n]).run Try.prog w = .ok (.value (.float .f64 n.toNat)) w := by
  rw [run_callFunc_extern Try.func11 (e := Extern.MathFloatBits.float64frombits) (by kernel_rfl) (by kernel_rfl) (by kernel_rfl) (by kernel_rfl)]
  rfl
theorem f64_neg (b : Nat) (w : World) : (Op.unary .neg (.float .f64 b)).run Try.prog w = .ok (.float .f64 (Fl.opp b)) w := rfl
attribute [go_sem] f64_bits f64_of f64_neg

theorem isNaN_any (b : Nat) (w : World) : Calls Try.prog 26 #[.float .f64 b] w fun e w' => e = .returned (.bool (Fl.isNaN b)) ∧ w = w' := by
  have hb : ((FloatKind.f64.format.order b b != some .eq) : Bool) = Fl.isNaN b := Fl.self_ne b
  go_enter Try.func26, Try.ntmps26
  go_wp2_with (rw [hb])
  all_goals (go_ret; exact ⟨rfl, rfl⟩)

theorem canonical_any (b : Nat) (w : World) : Calls Try.prog 25 #[.float .f64 b] w fun e w' => e = .returned (.float .f64 (Fl.canon b)) ∧ w = w' := by
  go_enter Try.func25, Try.ntmps25
  go_wp2_with fail
  refine (isNaN_any b w).mono ?_
  rintro e w1 ⟨rfl, rfl⟩
  cases h : Fl.isNaN b
  · go_wp2_with fail
    go_ret
    exact ⟨by simp [Fl.canon, h], rfl⟩
  · go_wp2_with fail
    go_ret
    exact ⟨by simp [Fl.canon, h], rfl⟩

theorem bits_any (b : Nat) (w : World) : Calls Try.prog 10 #[.float .f64 b] w fun e w' => e = .returned (.int .u64 (Fl.canon b)) ∧ w = w' := by
  go_enter Try.func10, Try.ntmps10
  go_wp2_with fail
  refine (canonical_any b w).mono ?_
  rintro e w1 ⟨rfl, rfl⟩
  go_wp2_with fail
  go_ret
  exact ⟨rfl, rfl⟩

theorem of_int (n : Int) (w : World) : Calls Try.prog 9 #[.int .u64 n] w fun e w' => e = .returned (.tuple #[.float .f64 (Fl.canon n.toNat), .bool ((Fl.canon n.toNat : Int) == n)]) ∧ w = w' := by
  go_enter Try.func9, Try.ntmps9
  go_wp2_with fail
  refine (canonical_any _ w).mono ?_
  rintro e w1 ⟨rfl, rfl⟩
  go_wp2_with fail
  go_ret2
  exact ⟨rfl, rfl⟩
theorem of_any (n : Nat) (w : World) : Calls Try.prog 9 #[.int .u64 n] w fun e w' => e = .returned (.tuple #[.float .f64 (Fl.canon n), .bool ((Fl.canon n : Int) == n)]) ∧ w = w' :=
  of_int n w

theorem same_any (a b : Nat) (w : World) : Calls Try.prog 14 #[.float .f64 a, .float .f64 b] w fun e w' => e = .returned (.bool ((Fl.canon a : Int) == Fl.canon b)) ∧ w = w' := by
  go_enter Try.func14, Try.ntmps14
  go_wp2_with fail
  refine (bits_any _ w).mono ?_
  rintro e w1 ⟨rfl, rfl⟩
  go_wp2_with fail
  refine (bits_any _ _).mono ?_
  rintro e w1 ⟨rfl, rfl⟩
  go_wp2_with fail
  go_ret
  exact ⟨rfl, rfl⟩

/-- What an operation on floats comes to in the machine: the outcome's word, or a NaN that is drawn. -/
theorem arith_run (op : BinOp) (o : Option Nat) (t : TypeId) (a b : Nat) (ho : floatBits op .f64 a b = o) (hop : op = .add ∨ op = .mul ∨ op = .quo) (w : World) :
    ∃ (r : Nat) (w' : World), (binOp op t (.float .f64 a) (.float .f64 b)).run Try.prog w = .ok (.float .f64 r) w' ∧ Fl.canon r = Fl.res o ∧ Fr (fun _ => False) w w' := by
  cases o with
  | some r => exact ⟨r, w, run_float_arith w op t .f64 a b r ho, rfl, Fr.refl _ _⟩
  | none =>
    refine ⟨Question.cut (.nanBits .f64 a b) (w.tape w.drawn (.nanBits .f64 a b)), w.drew, ?_, Fl.canon_drawn _ a b, (Fr.refl _ _).drew⟩
    unfold floatBits at ho
    rcases hop with rfl | rfl | rfl <;> simp only at ho <;> simp [binOp, Op.floatArith, ho, Question.forced]

theorem conv_self (b : Nat) (w : World) : (convert 24 24 (.float .f64 b)).run Try.prog w = .ok (.float .f64 b) w :=
  run_convert_float_float w _ _ .f64 .f64 b b (by rw [Try.underlying24]; rfl) Try.underlying24 rfl

theorem add_any (a b : Nat) (w : World) : Calls Try.prog 17 #[.float .f64 a, .float .f64 b] w fun e w' => e = .returned (.float .f64 (Fl.res (Ieee.double.add a b))) ∧ Fr (fun _ => False) w w' := by
  obtain ⟨r, w1, h, hr, hf⟩ := arith_run .add _ 24 a b rfl (.inl rfl) w
  have hc := conv_self
  go_enter Try.func17, Try.ntmps17
  go_wp2_with (first | simp only [hc] | simp only [h])
  refine (canonical_any _ _).mono ?_
  rintro e w2 ⟨rfl, rfl⟩
  rw [hr]
  go_wp2_with fail
  go_ret
  exact ⟨rfl, hf⟩
theorem mul_any (a b : Nat) (w : World) : Calls Try.prog 18 #[.float .f64 a, .float .f64 b] w fun e w' => e = .returned (.float .f64 (Fl.res (Ieee.double.mul a b))) ∧ Fr (fun _ => False) w w' := by
  obtain ⟨r, w1, h, hr, hf⟩ := arith_run .mul _ 24 a b rfl (.inr (.inl rfl)) w
  have hc := conv_self
  go_enter Try.func18, Try.ntmps18
  go_wp2_with (first | simp only [hc] | simp only [h])
  refine (canonical_any _ _).mono ?_
  rintro e w2 ⟨rfl, rfl⟩
  rw [hr]
  go_wp2_with fail
  go_ret
  exact ⟨rfl, hf⟩
theorem div_any (a b : Nat) (w : World) : Calls Try.prog 19 #[.float .f64 a, .float .f64 b] w fun e w' => e = .returned (.float .f64 (Fl.res (Ieee.double.div a b))) ∧ Fr (fun _ => False) w w' := by
  obtain ⟨r, w1, h, hr, hf⟩ := arith_run .quo _ 24 a b rfl (.inr (.inr rfl)) w
  have hc := conv_self
  go_enter Try.func19, Try.ntmps19
  go_wp2_with (first | simp only [hc] | simp only [h])
  refine (canonical_any _ _).mono ?_
  rintro e w2 ⟨rfl, rfl⟩
  rw [hr]
  go_wp2_with fail
  go_ret
  exact ⟨rfl, hf⟩

theorem key_low : Fl.key 13970166044103278592 = -4746794007248502784 := by decide +kernel
theorem key_high : Fl.key 4746794007248502784 = 4746794007248502784 := by decide +kernel
theorem nan_low : Fl.isNaN 13970166044103278592 = false := by decide +kernel
theorem nan_high : Fl.isNaN 4746794007248502784 = false := by decide +kernel

theorem same_key {a b : Nat} (ha : a < 18446744073709551616) (hb : b < 18446744073709551616) (h0 : Fl.rung b ≠ 0) (h : Fl.key a = Fl.key b) : a = b := by
  unfold Fl.key at h
  refine Fl.same_word ha hb ?_ ?_ <;> cases h1 : Fl.neg a <;> cases h2 : Fl.neg b <;> simp [h1, h2] at h ⊢ <;> omega

theorem run_max_low (b : Nat) (hb : b < 18446744073709551616) (hn : Fl.isNaN b = false) (ts : Array TypeId) (t : TypeId) (w : World) :
    (Builtin.max_ ts t #[.float .f64 b, .float .f64 13970166044103278592]).run Try.prog w = .ok (.float .f64 (if Fl.key b ≤ -4746794007248502784 then 13970166044103278592 else b)) w := by
  have ho : FloatKind.f64.format.order b 13970166044103278592 = some (compare (Fl.key b) (-4746794007248502784)) := by rw [← key_low]; exact Fl.order_num hn nan_low
  unfold Builtin.max_
  simp only [List.foldlM, Builtin.max2, ho]
  have hc : compare (Fl.key b) (-4746794007248502784) = if Fl.key b < -4746794007248502784 then .lt else if Fl.key b = -4746794007248502784 then .eq else .gt := rfl
  rw [hc]
  by_cases h1 : Fl.key b < -4746794007248502784
  · simp [h1, show Fl.key b ≤ -4746794007248502784 by omega]
  · by_cases h2 : Fl.key b = -4746794007248502784
    · obtain rfl := same_key hb (by omega) (by decide +kernel) (h2.trans key_low.symm)
      simp [key_low]
    · simp [h1, h2, show ¬ Fl.key b ≤ -4746794007248502784 by omega]

theorem run_min_high (b : Nat) (hb : b < 18446744073709551616) (hn : Fl.isNaN b = false) (ts : Array TypeId) (t : TypeId) (w : World) :
    (Builtin.min_ ts t #[.float .f64 b, .float .f64 4746794007248502784]).run Try.prog w = .ok (.float .f64 (if 4746794007248502784 ≤ Fl.key b then 4746794007248502784 else b)) w := by
  have ho : FloatKind.f64.format.order b 4746794007248502784 = some (compare (Fl.key b) 4746794007248502784) := by
    have := Fl.order_num hn nan_high
    rw [key_high] at this
    exact this
  unfold Builtin.min_
  simp only [List.foldlM, Builtin.min2, ho]
  have hc : compare (Fl.key b) 4746794007248502784 = if Fl.key b < 4746794007248502784 then .lt else if Fl.key b = 4746794007248502784 then .eq else .gt := rfl
  rw [hc]
  by_cases h1 : Fl.key b < 4746794007248502784
  · simp [h1, show ¬ 4746794007248502784 ≤ Fl.key b by omega]
  · by_cases h2 : Fl.key b = 4746794007248502784
    · obtain rfl := same_key hb (by omega) (by decide +kernel) (h2.trans key_high.symm)
      simp [key_high]
    · simp [h1, h2, show 4746794007248502784 ≤ Fl.key b by omega]

theorem key_rung {b : Nat} (h1 : ¬ 4746794007248502784 ≤ Fl.key b) (h2 : ¬ Fl.key b ≤ -4746794007248502784) : Fl.rung b ≤ 4746794007248502784 := by
  unfold Fl.key at h1 h2
  cases hn : Fl.neg b <;> simp [hn] at h1 h2 <;> omega

theorem run_int (b : Nat) (n : Int) (h : floatToIntVal .f64 b .i64 = some n) (w : World) : (convert 24 2 (.float .f64 b)).run Try.prog w = .ok (.int .i64 n) w :=
  run_convert_float_int w _ _ .f64 .i64 b n (by rw [Try.underlying24]; rfl) Try.underlying2 h

theorem whole_any (b : Nat) (hb : b < 18446744073709551616) (w : World) : Calls Try.prog 15 #[.float .f64 b] w fun e w' => e = .returned (.int .i64 (Fl.whole b)) ∧ w = w' := by
  go_enter Try.func15, Try.ntmps15
  go_wp2_with fail
  refine (isNaN_any b w).mono ?_
  rintro e w1 ⟨rfl, rfl⟩
  cases h : Fl.isNaN b
  · have hx := run_max_low b hb h
    by_cases h1 : 4746794007248502784 ≤ Fl.key b
    · have hw : Fl.whole b = 2147483648 := by unfold Fl.whole; rw [h, if_neg (by decide), if_pos h1]
      have hy := run_min_high b hb h
      rw [if_neg (by omega)] at hx
      rw [if_pos h1] at hy
      have hz := run_int 4746794007248502784 2147483648 (by decide +kernel)
      clear h1
      go_wp2_with fail
      go_ret
      exact ⟨by rw [hw]; rfl, rfl⟩
    · by_cases h2 : Fl.key b ≤ -4746794007248502784
      · have hw : Fl.whole b = -2147483648 := by unfold Fl.whole; rw [h, if_neg (by decide), if_neg h1, if_pos h2]
        have hy := run_min_high 13970166044103278592 (by omega) nan_low
        rw [if_pos h2] at hx
        rw [key_low, if_neg (by omega)] at hy
        have hz := run_int 13970166044103278592 (-2147483648) (by decide +kernel)
        clear h1 h2
        go_wp2_with fail
        go_ret
        exact ⟨by rw [hw]; rfl, rfl⟩
      · have hw : Fl.whole b = Fl.tr b := by unfold Fl.whole; rw [h, if_neg (by decide), if_neg h1, if_neg h2]
        have hy := run_min_high b hb h
        rw [if_neg h2] at hx
        rw [if_neg h1] at hy
        have hz := run_int b (Fl.tr b) (Fl.toInt_val (key_rung h1 h2))
        clear h1 h2
        have HW := Lib.hid hw; clear hw
        go_wp2_with fail
        go_ret
        exact ⟨by rw [HW.out]; rfl, rfl⟩
  · have hw : Fl.whole b = 0 := by unfold Fl.whole; rw [h, if_pos rfl]
    go_wp2_with fail
    go_ret
    exact ⟨by rw [hw]; rfl, rfl⟩

theorem refbits_any (b : Nat) (w : World) : Calls Try.prog 13 #[.float .f64 b] w fun e w' => e = .returned (.int .u64 (Fl.canon b)) ∧ w = w' := by
  have hb : ((FloatKind.f64.format.order b b != some .eq) : Bool) = Fl.isNaN b := Fl.self_ne b
  cases h : Fl.isNaN b <;> rw [h] at hb
  · have hc := Fl.canon_of_not h
    have HC := Lib.hid hc; clear hc h
    go_enter Try.func13, Try.ntmps13
    go_wp2_with (rw [hb])
    go_ret
    exact ⟨by rw [HC.out]; rfl, rfl⟩
  · have hc := Fl.canon_of_nan h
    have HC := Lib.hid hc; clear hc h
    go_enter Try.func13, Try.ntmps13
    go_wp2_with (rw [hb])
    go_ret
    exact ⟨by rw [HC.out]; rfl, rfl⟩

theorem refwhole_any (b : Nat) (w : World) : Calls Try.prog 16 #[.float .f64 b] w fun e w' => e = .returned (.int .i64 (Fl.whole b)) ∧ w = w' := by
  have hb : ((FloatKind.f64.format.order b b != some .eq) : Bool) = Fl.isNaN b := Fl.self_ne b
  cases h : Fl.isNaN b <;> rw [h] at hb
  · have ho : ((FloatKind.f64.format.order b 4746794007248502784 == some .gt || FloatKind.f64.format.order b 4746794007248502784 == some .eq) : Bool) = decide (4746794007248502784 ≤ Fl.key b) := by
      have := Fl.order_num h nan_high
      rw [key_high] at this
      rw [show FloatKind.f64.format.order b 4746794007248502784 = _ from this, Fl.compare_gt, Fl.compare_eq, ← Bool.decide_or]
      exact decide_eq_decide.2 (by omega)
    have hl : ((FloatKind.f64.format.order b 13970166044103278592 == some .lt || FloatKind.f64.format.order b 13970166044103278592 == some .eq) : Bool) = decide (Fl.key b ≤ -4746794007248502784) := by
      have := Fl.order_num h nan_low
      rw [key_low] at this
      rw [show FloatKind.f64.format.order b 13970166044103278592 = _ from this, Fl.compare_lt, Fl.compare_eq, ← Bool.decide_or]
      exact decide_eq_decide.2 (by omega)
    by_cases h1 : 4746794007248502784 ≤ Fl.key b
    · have hw : Fl.whole b = 2147483648 := by unfold Fl.whole; rw [h, if_neg (by decide), if_pos h1]
      rw [decide_eq_true h1] at ho
      clear h1 hl
      go_enter Try.func16, Try.ntmps16
      go_wp2_with (first | rw [hb] | rw [ho])
      go_ret
      exact ⟨by rw [hw]; rfl, rfl⟩
    · rw [decide_eq_false h1] at ho
      by_cases h2 : Fl.key b ≤ -4746794007248502784
      · have hw : Fl.whole b = -2147483648 := by unfold Fl.whole; rw [h, if_neg (by decide), if_neg h1, if_pos h2]
        rw [decide_eq_true h2] at hl
        clear h1 h2
        go_enter Try.func16, Try.ntmps16
        go_wp2_with (first | rw [hb] | rw [ho] | rw [hl])
        go_ret
        exact ⟨by rw [hw]; rfl, rfl⟩
      · have hw : Fl.whole b = Fl.tr b := by unfold Fl.whole; rw [h, if_neg (by decide), if_neg h1, if_neg h2]
        rw [decide_eq_false h2] at hl
        have hz := run_int b (Fl.tr b) (Fl.toInt_val (key_rung h1 h2))
        have HW := Lib.hid hw; clear hw
        clear h1 h2
        go_enter Try.func16, Try.ntmps16
        go_wp2_with (first | rw [hb] | rw [ho] | rw [hl] | simp only [hz])
        go_ret
        exact ⟨by rw [HW.out]; rfl, rfl⟩
  · have hw : Fl.whole b = 0 := by unfold Fl.whole; rw [h, if_pos rfl]
    have HW := Lib.hid hw; clear hw
    go_enter Try.func16, Try.ntmps16
    go_wp2_with (rw [hb])
    go_ret
    exact ⟨by rw [HW.out]; rfl, rfl⟩
end Go.Proofs.Ytfohhddpeofhcaa
