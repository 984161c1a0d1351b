/-
  RealEdges: for every input the law returns true.
-/
import Derived.Test.YtfohhddpeofhcaaRealMath
namespace Go.Proofs.Ytfohhddpeofhcaa
open Go.RowKit

theorem Fl.read0 : Fl.isNaN 0 = false ∧ Fl.key 0 = 0 := by decide +kernel
theorem Fl.eqz (b : Nat) : (FloatKind.f64.format.order b 0 == some .eq) = (decide (Fl.isNaN b = false) && decide (Fl.rung b = 0)) := by
  cases h : Fl.isNaN b
  · have ho := Fl.order_num h Fl.read0.1
    rw [Fl.read0.2] at ho
    rw [show FloatKind.f64.format.order b 0 = _ from ho, Fl.compare_eq]
    simp only [decide_true, Bool.true_and]
    refine decide_eq_decide.2 ?_
    unfold Fl.key
    cases Fl.neg b <;> simp
  · rw [show FloatKind.f64.format.order b 0 = _ from Fl.order_nan (.inl h)]
    rfl
theorem Fl.gtz {b : Nat} (h : Fl.isNaN b = false) : (FloatKind.f64.format.order b 0 == some .gt) = (!Fl.neg b && decide (Fl.rung b ≠ 0)) := by
  have ho := Fl.order_num h Fl.read0.1
  rw [Fl.read0.2] at ho
  rw [show FloatKind.f64.format.order b 0 = _ from ho, Fl.compare_gt]
  unfold Fl.key
  cases Fl.neg b
  · simp only [Bool.not_false, Bool.true_and, Bool.false_eq_true, if_false]
    exact decide_eq_decide.2 (by omega)
  · simp only [Bool.not_true, Bool.false_and, if_true]
    exact decide_eq_false (by omega)

theorem Fl.eq_refl_beq (a b : Nat) (h : a = b) : (((a : Nat) : Int) == ((b : Nat) : Int)) = true := by subst h; simp

theorem Fl.inf_facts : Fl.isNaN 9218868437227405312 = false ∧ Fl.isNaN 18442240474082181120 = false ∧ Fl.rung 9218868437227405312 = 9218868437227405312 ∧ Fl.rung 18442240474082181120 = 9218868437227405312 ∧ Fl.neg 9218868437227405312 = false ∧ Fl.neg 18442240474082181120 = true := by decide +kernel
theorem Fl.word_zero_facts (s : Bool) : ((FloatKind.f64.format.order (Ieee.double.word s 0) 0 == some .eq) : Bool) = true ∧ Fl.neg (Ieee.double.word s 0) = s := by
  cases s <;> decide +kernel
theorem Fl.word_inf_facts (s : Bool) : Ieee.double.word s 9218868437227405312 < 18446744073709551616 ∧ decide (Fl.rung (Ieee.double.word s 9218868437227405312) = 9218868437227405312) = true ∧ ((FloatKind.f64.format.order (Ieee.double.word s 9218868437227405312) 0 == some .gt) : Bool) = !s := by
  cases s <;> decide +kernel
theorem Fl.nan_facts : Fl.isNaN 9221120237041090560 = true := by decide +kernel

set_option maxHeartbeats 4000000 in
theorem edges_walk (n : Int) (hn : 0 ≤ n) (hn' : n ≤ 18446744073709551615) (x : Int) (hx : 0 ≤ x) (hx' : x ≤ 255) (w : World) :
    Calls Try.prog 5 #[.int .u64 n, .int .u8 x] w fun e w' => e = .returned (.bool true) ∧ Fr (fun _ => False) w w' := by
  go_enter Try.func5, Try.ntmps5
  go_wp2_with fail
  refine (awake_any w).mono ?_
  rintro e w1 ⟨rfl, hf⟩
  go_wp2_with fail
  refine (float_any n x hn hn' hx hx' _).mono ?_
  rintro e w2 ⟨a, ha, rfl, rfl⟩
  go_wp2_with fail
  refine (inf_any 1 _).mono ?_
  rintro e w2 ⟨rfl, rfl⟩
  rw [if_pos (by decide)]
  have hqa : ((FloatKind.f64.format.order a a != some .eq) : Bool) = Fl.isNaN a := Fl.self_ne a
  have hz := Fl.eqz a
  cases hnan : Fl.isNaN a
  · have hg := Fl.gtz hnan
    rw [hnan] at hqa hz
    simp only [decide_true, Bool.true_and] at hz
    have hA : Fl.res (Ieee.double.add a 9223372036854775808) = a := by rw [Fl.add_mzero ha hnan]; exact Fl.canon_of_not hnan
    have hM : Fl.res (Ieee.double.mul a 4607182418800017408) = a := by rw [Fl.mul_one ha hnan]; exact Fl.canon_of_not hnan
    have HA := Lib.hid hA
    have HM := Lib.hid hM
    clear hA hM
    by_cases h0 : Fl.rung a = 0
    · -- a zero
      have hD : Fl.res (Ieee.double.div a 0) = 9221120237041090560 := by rw [Fl.div_zero_zero h0]; rfl
      have HD := Lib.hid hD; clear hD
      have hI : Fl.res (Ieee.double.div a 9218868437227405312) = Ieee.double.word (Fl.neg a) 0 := by
        rw [Fl.div_inf (by omega)]
        cases Fl.neg a <;> decide +kernel
      have HI := Lib.hid hI; clear hI
      have hin : decide (Fl.rung a = 9218868437227405312) = false := decide_eq_false (by omega)
      have HN := Lib.hid hin; clear hin
      rw [decide_eq_true h0] at hz
      rw [decide_eq_false (by omega), Bool.and_false] at hg
      clear hnan h0
      have h1' : ((FloatKind.f64.format.order 9221120237041090560 9221120237041090560 != some .eq) : Bool) = true := by decide +kernel
      have HX := Lib.hid h1'; clear h1'
      go_wp2_with (first | rw [hqa] | rw [hg] | rw [hz])
      refine (signbit_any _ _).mono ?_
      rintro e w2 ⟨rfl, rfl⟩
      have hI := HI.out; clear HI
      have hJ := Fl.word_zero_facts (Fl.neg a)
      generalize Fl.neg a = s at *
      have HI := Lib.hid hI
      have HJ := Lib.hid hJ
      clear hI hJ
      cases s <;> go_wp2_with fail
      all_goals
        refine (div_any a 0 _).mono ?_
        rintro e w2 ⟨rfl, f⟩
        replace hf := hf.trans f (fun _ _ h => h); clear f
        rw [HD.out]
        go_wp2_with fail
        refine (copysign_at _ _ 9223372036854775808 (by decide +kernel) _).mono ?_
        rintro e w3 ⟨rfl, rfl⟩
        go_wp2_with fail
        refine (add_any a _ _).mono ?_
        rintro e w3 ⟨rfl, f⟩
        replace hf := hf.trans f (fun _ _ h => h); clear f
        rw [HA.out]
        go_wp2_with fail
        refine (same_any _ _ _).mono ?_
        rintro e w4 ⟨rfl, rfl⟩
        rw [beq_self_eq_true]
        go_wp2_with fail
        refine (mul_any a _ _).mono ?_
        rintro e w4 ⟨rfl, f⟩
        replace hf := hf.trans f (fun _ _ h => h); clear f
        rw [HM.out]
        go_wp2_with fail
        refine (same_any _ _ _).mono ?_
        rintro e w5 ⟨rfl, rfl⟩
        rw [beq_self_eq_true]
        have h1' := HX.out
        go_wp2_with (first | rw [hz] | rw [h1'])
        refine (isinf_any a ha _).mono ?_
        rintro e w8 ⟨rfl, rfl⟩
        rw [HN.out]
        go_wp2_with fail
        refine (div_any a _ _).mono ?_
        rintro e w6 ⟨rfl, f⟩
        replace hf := hf.trans f (fun _ _ h => h); clear f
        rw [HI.out]
        have hj := HJ.out.1
        go_wp2_with (rw [hj])
        refine (div_any a _ _).mono ?_
        rintro e w7 ⟨rfl, f⟩
        replace hf := hf.trans f (fun _ _ h => h); clear f
        rw [HI.out]
        go_wp2_with fail
        refine (signbit_any _ _).mono ?_
        rintro e w8 ⟨rfl, rfl⟩
        rw [HJ.out.2]
        go_wp2_with fail
        go_ret
        exact ⟨rfl, hf⟩
    · -- no zero: finite, or infinite
      have hD : Fl.res (Ieee.double.div a 0) = Ieee.double.word (Fl.neg a) 9218868437227405312 := by
        rw [Fl.div_zero hnan h0]
        cases Fl.neg a <;> decide +kernel
      have HD := Lib.hid hD; clear hD
      have hI : Fl.rung a < 9218868437227405312 → Fl.res (Ieee.double.div a 9218868437227405312) = Ieee.double.word (Fl.neg a) 0 := by
        intro h
        rw [Fl.div_inf h]
        cases Fl.neg a <;> decide +kernel
      have hin := Fl.not_nan_iff.1 hnan
      have HN := Lib.hid hin; clear hin
      rw [decide_eq_false h0] at hz
      rw [decide_eq_true h0, Bool.and_true] at hg
      have hz2 : ((FloatKind.f64.format.order a 0 != some .eq) : Bool) = true := by
        show (!_) = true
        rw [hz]; rfl
      clear hnan h0
      have hJ := Fl.word_zero_facts (Fl.neg a)
      have hQ := Fl.word_inf_facts (Fl.neg a)
      generalize Fl.neg a = s at *
      have HI := Lib.hid hI
      have HJ := Lib.hid hJ
      have HQ := Lib.hid hQ
      clear hI hJ hQ
      cases s
      all_goals
        simp only [Bool.not_true, Bool.not_false] at hg
        go_wp2_with (first | rw [hqa] | rw [hg] | rw [hz])
        refine (div_any a 0 _).mono ?_
        rintro e w2 ⟨rfl, f⟩
        replace hf := hf.trans f (fun _ _ h => h); clear f
        rw [HD.out]
        go_wp2_with fail
        refine (copysign_at _ _ 9223372036854775808 (by decide +kernel) _).mono ?_
        rintro e w3 ⟨rfl, rfl⟩
        go_wp2_with fail
        refine (add_any a _ _).mono ?_
        rintro e w3 ⟨rfl, f⟩
        replace hf := hf.trans f (fun _ _ h => h); clear f
        rw [HA.out]
        go_wp2_with fail
        refine (same_any _ _ _).mono ?_
        rintro e w4 ⟨rfl, rfl⟩
        rw [beq_self_eq_true]
        go_wp2_with fail
        refine (mul_any a _ _).mono ?_
        rintro e w4 ⟨rfl, f⟩
        replace hf := hf.trans f (fun _ _ h => h); clear f
        rw [HM.out]
        go_wp2_with fail
        refine (same_any _ _ _).mono ?_
        rintro e w5 ⟨rfl, rfl⟩
        rw [beq_self_eq_true]
        go_wp2_with (first | rw [hz] | rw [hz2])
        refine (isinf_any _ HQ.out.1 _).mono ?_
        rintro e w8 ⟨rfl, rfl⟩
        rw [HQ.out.2.1]
        have hq := HQ.out.2.2
        simp only [Bool.not_true, Bool.not_false] at hq
        go_wp2_with (rw [hq])
        refine (isinf_any a ha _).mono ?_
        rintro e w8 ⟨rfl, rfl⟩
        by_cases hi : Fl.rung a = 9218868437227405312
        · rw [decide_eq_true hi]
          clear hi
          go_wp2_with fail
          go_ret
          exact ⟨rfl, hf⟩
        rw [decide_eq_false hi]
        have hlt := HI.out (by have := HN.out; omega)
        clear hi HI
        have HI := Lib.hid hlt; clear hlt
        go_wp2_with fail
        refine (div_any a _ _).mono ?_
        rintro e w6 ⟨rfl, f⟩
        replace hf := hf.trans f (fun _ _ h => h); clear f
        rw [HI.out]
        have hj := HJ.out.1
        go_wp2_with (rw [hj])
        refine (div_any a _ _).mono ?_
        rintro e w7 ⟨rfl, f⟩
        replace hf := hf.trans f (fun _ _ h => h); clear f
        rw [HI.out]
        go_wp2_with fail
        refine (signbit_any _ _).mono ?_
        rintro e w8 ⟨rfl, rfl⟩
        rw [HJ.out.2]
        go_wp2_with fail
        go_ret
        exact ⟨rfl, hf⟩
  · -- a NaN
    have hA : Fl.res (Ieee.double.add a 0) = 9221120237041090560 := by rw [Fl.add_nan _ hnan]; rfl
    have hM : Fl.res (Ieee.double.mul a 9218868437227405312) = 9221120237041090560 := by rw [Fl.mul_nan _ hnan]; rfl
    have hc := Fl.canon_of_nan hnan
    have hw : Fl.whole a = 0 := by unfold Fl.whole; rw [if_pos hnan]
    have HA := Lib.hid hA
    have HM := Lib.hid hM
    have HC := Lib.hid hc
    have HW := Lib.hid hw
    rw [hnan] at hqa
    clear hA hM hc hw hz hnan
    go_wp2_with (rw [hqa])
    refine (add_any a _ _).mono ?_
    rintro e w3 ⟨rfl, f⟩
    replace hf := hf.trans f (fun _ _ h => h); clear f
    rw [HA.out]
    go_wp2_with fail
    refine (same_any _ _ _).mono ?_
    rintro e w4 ⟨rfl, rfl⟩
    rw [HC.out, Fl.canon_of_nan Fl.nan_facts, beq_self_eq_true]
    go_wp2_with fail
    refine (mul_any a _ _).mono ?_
    rintro e w4 ⟨rfl, f⟩
    replace hf := hf.trans f (fun _ _ h => h); clear f
    rw [HM.out]
    go_wp2_with fail
    refine (same_any _ _ _).mono ?_
    rintro e w5 ⟨rfl, rfl⟩
    rw [HC.out, Fl.canon_of_nan Fl.nan_facts, beq_self_eq_true]
    go_wp2_with fail
    refine (whole_any a ha _).mono ?_
    rintro e w5 ⟨rfl, rfl⟩
    rw [HW.out]
    go_wp2_with fail
    go_ret
    exact ⟨rfl, hf⟩
end Go.Proofs.Ytfohhddpeofhcaa
