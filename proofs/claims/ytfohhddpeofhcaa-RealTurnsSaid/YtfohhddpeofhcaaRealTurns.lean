/-
  RealTurns: for every input the law returns true.
-/
import Derived.Test.YtfohhddpeofhcaaRealMath
namespace Go.Proofs.Ytfohhddpeofhcaa
open Go.RowKit

theorem Fl.eqz (b : Nat) : (FloatKind.f64.format.order b 0 == some .eq) = (decide (Fl.isNaN b = false) && decide (Fl.rung b = 0)) := by
  cases h : Fl.isNaN b
  · have ho := Fl.order_num h (b := 0) (by decide +kernel)
    rw [show Fl.key 0 = 0 by decide +kernel] at ho
    rw [show FloatKind.f64.format.order b 0 = _ from ho, Fl.compare_eq]
    simp only [decide_true, Bool.true_and]
    refine decide_eq_decide.2 ?_
    unfold Fl.key
    cases Fl.neg b <;> simp
  · rw [show FloatKind.f64.format.order b 0 = _ from Fl.order_nan (.inl h)]
    rfl

theorem Fl.same_res (o : Option Nat) (p : Option Nat) (h : o = p) : (((Fl.canon (Fl.res o) : Nat) : Int) == ((Fl.canon (Fl.res p) : Nat) : Int)) = true := by
  subst h; simp

theorem Fl.whole_small (b : Nat) : -9007199254740992 ≤ Fl.whole b ∧ Fl.whole b ≤ 9007199254740992 := by
  unfold Fl.whole
  split
  · omega
  · split
    · omega
    · split
      · omega
      · rename_i h1 h2
        obtain ⟨c, hc, e, _⟩ := Fl.toInt_small (key_rung h1 h2)
        unfold Fl.tr
        rw [e]
        cases Fl.neg b <;> simp <;> omega

theorem Fl.one_eq : (FloatKind.f64.format.order 4607182418800017408 4607182418800017408 == some .eq) = true := by decide +kernel
theorem Fl.nan_ne : (FloatKind.f64.format.order 9221120237041090560 9221120237041090560 != some .eq) = true := by decide +kernel

set_option maxHeartbeats 2000000 in
theorem turns_walk (n : Int) (hn : 0 ≤ n) (hn' : n ≤ 18446744073709551615) (m : Int) (hm : 0 ≤ m) (hm' : m ≤ 18446744073709551615) (x : Int) (hx : 0 ≤ x) (hx' : x ≤ 255) (y : Int) (hy : 0 ≤ y) (hy' : y ≤ 255) (w : World) :
    Calls Try.prog 6 #[.int .u64 n, .int .u64 m, .int .u8 x, .int .u8 y] w fun e w' => e = .returned (.bool true) ∧ Fr (fun _ => False) w w' := by
  go_enter Try.func6, Try.ntmps6
  go_wp2_with fail
  refine (awake_any w).mono ?_
  rintro e w1 ⟨rfl, hf⟩
  go_wp2_with fail
  refine (float_any n x hn hn' hx hx' _).mono ?_
  rintro e w2 ⟨a, ha, rfl, rfl⟩
  go_wp2_with fail
  refine (float_any m y hm hm' hy hy' _).mono ?_
  rintro e w2 ⟨b, hb, rfl, rfl⟩
  go_wp2_with fail
  refine (add_any a b _).mono ?_
  rintro e w2 ⟨rfl, f⟩
  replace hf := hf.trans f (fun _ _ h => h); clear f w1
  go_wp2_with fail
  refine (add_any b a _).mono ?_
  rintro e w3 ⟨rfl, f⟩
  replace hf := hf.trans f (fun _ _ h => h); clear f w2
  go_wp2_with fail
  refine (same_any _ _ _).mono ?_
  rintro e w4 ⟨rfl, rfl⟩
  rw [Fl.same_res _ _ (Fl.add_comm a b)]
  go_wp2_with fail
  refine (mul_any a b _).mono ?_
  rintro e w2 ⟨rfl, f⟩
  replace hf := hf.trans f (fun _ _ h => h); clear f w3
  go_wp2_with fail
  refine (mul_any b a _).mono ?_
  rintro e w3 ⟨rfl, f⟩
  replace hf := hf.trans f (fun _ _ h => h); clear f w2
  go_wp2_with fail
  refine (same_any _ _ _).mono ?_
  rintro e w4 ⟨rfl, rfl⟩
  rw [Fl.same_res _ _ (Fl.mul_comm a b)]
  go_wp2_with fail
  refine (same_any _ _ _).mono ?_
  rintro e w4 ⟨rfl, rfl⟩
  go_wp2_with fail
  refine (same_any _ _ _).mono ?_
  rintro e w4 ⟨rfl, rfl⟩
  rw [show (((Fl.canon b : Nat) : Int) == ((Fl.canon a : Nat) : Int)) = (((Fl.canon a : Nat) : Int) == ((Fl.canon b : Nat) : Int)) from BEq.comm]
  generalize (((Fl.canon a : Nat) : Int) == ((Fl.canon b : Nat) : Int)) = s
  have hz := Fl.eqz a
  have hq : ((FloatKind.f64.format.order a a != some .eq) : Bool) = Fl.isNaN a := Fl.self_ne a
  cases hnan : Fl.isNaN a
  · by_cases hfin : Fl.rung a < 9218868437227405312 ∧ Fl.rung a ≠ 0
    · -- a finite number other than zero
      have hd : Fl.res (Ieee.double.div a a) = 4607182418800017408 := by
        rw [Fl.div_self hfin.1 hfin.2]; rfl
      have hi : decide (Fl.rung a = 9218868437227405312) = false := decide_eq_false (by omega)
      have hz' : (FloatKind.f64.format.order a 0 == some .eq) = false := by
        rw [hz, decide_eq_false hfin.2, Bool.and_false]
      clear hz hfin
      have H1 := Lib.hid hz'
      have H2 := Lib.hid hi
      have H3 := Lib.hid hd
      clear hz' hi hd
      rw [hnan] at hq
      clear hnan
      cases s <;> go_wp2_with (rw [hq])
      all_goals
        refine (isinf_any a ha _).mono ?_
        rintro e w4 ⟨rfl, rfl⟩
        rw [H2.out]
        have hz' := H1.out
        go_wp2_with (rw [hz'])
        refine (div_any a a _).mono ?_
        rintro e w2 ⟨rfl, f⟩
        replace hf := hf.trans f (fun _ _ h => h); clear f
        rw [H3.out]
        have h1 := Fl.one_eq
        go_wp2_with (rw [h1])
        refine (mul_any (Fl.opp a) b _).mono ?_
        rintro e w4 ⟨rfl, f⟩
        replace hf := hf.trans f (fun _ _ h => h); clear f
        go_wp2_with fail
        refine (mul_any a (Fl.opp b) _).mono ?_
        rintro e w5 ⟨rfl, f⟩
        replace hf := hf.trans f (fun _ _ h => h); clear f
        go_wp2_with fail
        refine (same_any _ _ _).mono ?_
        rintro e w6 ⟨rfl, rfl⟩
        rw [Fl.same_res _ _ (Fl.mul_opp a b)]
        go_wp2_with fail
        refine (whole_any _ (Fl.opp_lt ha) _).mono ?_
        rintro e w6 ⟨rfl, rfl⟩
        rw [Fl.whole_opp]
        go_wp2_with fail
        refine (whole_any _ ha _).mono ?_
        rintro e w6 ⟨rfl, rfl⟩
        have hw := Fl.whole_small a
        go_wp2_with fail
        go_ret
        exact ⟨rfl, hf⟩
    · have hd : Fl.res (Ieee.double.div a a) = 9221120237041090560 := by
        rw [Fl.div_self_none (by omega)]; rfl
      have H3 := Lib.hid hd
      clear hd
      by_cases hi : Fl.rung a = 9218868437227405312
      · have hi' : decide (Fl.rung a = 9218868437227405312) = true := decide_eq_true hi
        have H2 := Lib.hid hi'
        clear hz hfin hi hi'
        rw [hnan] at hq
        clear hnan
        cases s <;> go_wp2_with (rw [hq])
        all_goals
          refine (isinf_any a ha _).mono ?_
          rintro e w4 ⟨rfl, rfl⟩
          rw [H2.out]
          go_wp2_with fail
          refine (div_any a a _).mono ?_
          rintro e w2 ⟨rfl, f⟩
          replace hf := hf.trans f (fun _ _ h => h); clear f
          rw [H3.out]
          have h1 := Fl.nan_ne
          go_wp2_with fail
          refine (div_any a a _).mono ?_
          rintro e w4 ⟨rfl, f⟩
          replace hf := hf.trans f (fun _ _ h => h); clear f
          rw [H3.out]
          go_wp2_with (rw [h1])
          go_ret
          exact ⟨rfl, hf⟩
      · have hi' : decide (Fl.rung a = 9218868437227405312) = false := decide_eq_false hi
        have H2 := Lib.hid hi'
        have hx := Fl.not_nan_iff.1 hnan
        have hz' : (FloatKind.f64.format.order a 0 == some .eq) = true := by
          rw [hz, hnan, decide_eq_true (show Fl.rung a = 0 by omega)]; rfl
        have H1 := Lib.hid hz'
        clear hz hfin hi hi' hx hz'
        rw [hnan] at hq
        clear hnan
        cases s <;> go_wp2_with (rw [hq])
        all_goals
          refine (isinf_any a ha _).mono ?_
          rintro e w4 ⟨rfl, rfl⟩
          rw [H2.out]
          have hz' := H1.out
          go_wp2_with (rw [hz'])
          refine (div_any a a _).mono ?_
          rintro e w2 ⟨rfl, f⟩
          replace hf := hf.trans f (fun _ _ h => h); clear f
          rw [H3.out]
          have h1 := Fl.nan_ne
          go_wp2_with fail
          refine (div_any a a _).mono ?_
          rintro e w4 ⟨rfl, f⟩
          replace hf := hf.trans f (fun _ _ h => h); clear f
          rw [H3.out]
          go_wp2_with (rw [h1])
          go_ret
          exact ⟨rfl, hf⟩
  · have hd : Fl.res (Ieee.double.div a a) = 9221120237041090560 := by
      rw [Fl.div_nan _ hnan]; rfl
    have H3 := Lib.hid hd
    clear hd hz
    rw [hnan] at hq
    clear hnan
    cases s <;> go_wp2_with (rw [hq])
    all_goals
      refine (div_any a a _).mono ?_
      rintro e w2 ⟨rfl, f⟩
      replace hf := hf.trans f (fun _ _ h => h); clear f
      rw [H3.out]
      have h1 := Fl.nan_ne
      go_wp2_with fail
      refine (div_any a a _).mono ?_
      rintro e w4 ⟨rfl, f⟩
      replace hf := hf.trans f (fun _ _ h => h); clear f
      rw [H3.out]
      go_wp2_with (rw [h1])
      go_ret
      exact ⟨rfl, hf⟩
end Go.Proofs.Ytfohhddpeofhcaa
