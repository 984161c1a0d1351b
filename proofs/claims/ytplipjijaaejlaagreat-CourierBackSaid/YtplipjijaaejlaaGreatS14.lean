/-
  CouBack, part 14 of what it rests on: FloatOps, Real.
-/
import Derived.Test.YtplipjijaaejlaaGreatS13
import Derived.Test.YtplipjijaaejlaaGreatS01
import Derived.WalkLawsBesides
set_option linter.unusedVariables false
set_option linter.unusedSimpArgs false
set_option maxHeartbeats 64000000
namespace Go.Proofs.YtplipjijaaejlaaGreat
open Go.RowKit
open Go.Lib (hid)
section
namespace Fl
open Ieee

/-- The word that real takes for a float. -/
def canon (b : Nat) : Nat := if isNaN b then 9221120237041090560 else b
/-- What real answers for an operation's outcome. -/
def res : Option Nat → Nat
  | some r => canon r
  | none => 9221120237041090560

theorem canon_canon (b : Nat) : canon (canon b) = canon b := by
  unfold canon
  by_cases h : isNaN b = true
  · rw [if_pos h]; rfl
  · rw [if_neg h, if_neg h]
theorem canon_res (o : Option Nat) : canon (res o) = res o := by
  cases o with
  | none => rfl
  | some r => exact canon_canon r
theorem canon_of_not {b : Nat} (h : isNaN b = false) : canon b = b := by unfold canon; rw [h]; rfl
theorem canon_of_nan {b : Nat} (h : isNaN b = true) : canon b = 9221120237041090560 := by unfold canon; rw [h]; rfl
theorem canon_lt {b : Nat} (h : b < 18446744073709551616) : canon b < 18446744073709551616 := by
  unfold canon; split <;> omega
theorem nan_canon (b : Nat) : isNaN (canon b) = isNaN b := by
  unfold canon
  cases h : isNaN b
  · simp [h]
  · rfl

/-- Every NaN that the model may draw is a NaN. -/
theorem drawn_nan (t : Nat) : isNaN (t % 2 * 2 ^ 63 + 9218868437227405312 + 1 + t / 2 % (2 ^ 52 - 1)) = true := by
  rw [nan_iff]
  unfold rung
  show 9218868437227405312 < (t % 2 * 9223372036854775808 + 9218868437227405312 + 1 + t / 2 % 4503599627370495) % 9223372036854775808
  generalize ht : t % 2 = p
  generalize hq : t / 2 % 4503599627370495 = q
  have h1 : p = 0 ∨ p = 1 := by omega
  have h2 : q < 4503599627370495 := by omega
  rcases h1 with rfl | rfl <;> omega
theorem canon_drawn (k : Nat) (x y : Nat) : canon (Question.cut (.nanBits .f64 x y) k) = 9221120237041090560 :=
  canon_of_nan (drawn_nan k)

theorem map_write_lt {o : Option Datum} {r : Nat} (h : o.map double.write = some r) : r < 18446744073709551616 := double.map_write_lt h

theorem res_lt {o : Option Datum} : res (o.map double.write) < 18446744073709551616 := by
  cases h : o.map double.write with
  | none => show 9221120237041090560 < _; omega
  | some r => exact canon_lt (map_write_lt h)

/-- The sign turned. -/
def opp (b : Nat) : Nat := b ^^^ 9223372036854775808

theorem opp_neg (b : Nat) : neg (opp b) = !neg b := by
  have e : ∀ x : Nat, neg x = x.testBit 63 := by
    intro x
    unfold neg
    rw [Nat.testBit_eq_decide_div_mod_eq]
    show _ = decide (x / 9223372036854775808 % 2 = 1)
    by_cases h : x / 9223372036854775808 % 2 = 1 <;> simp [h]
  rw [e, e]
  unfold opp
  rw [Nat.testBit_xor, show Nat.testBit 9223372036854775808 63 = true by decide +kernel]
  simp
theorem opp_rung (b : Nat) : rung (opp b) = rung b := by
  unfold opp rung
  rw [show (9223372036854775808 : Nat) = 2 ^ 63 from rfl, Nat.xor_mod_two_pow, Nat.mod_self, Nat.xor_zero]
theorem opp_lt {b : Nat} (h : b < 18446744073709551616) : opp b < 18446744073709551616 :=
  Nat.xor_lt_two_pow (n := 64) h (by decide)
theorem opp_nan (b : Nat) : isNaN (opp b) = isNaN b := by unfold isNaN; rw [opp_rung]
theorem opp_key (b : Nat) : key (opp b) = -key b := by
  unfold key
  rw [opp_neg, opp_rung]
  cases neg b <;> simp

theorem read_opp (b : Nat) : double.read (opp b) = (double.read b).opposite := by
  cases h : isNaN b
  · have h' := not_nan_iff.1 h
    by_cases hi : rung b = 9218868437227405312
    · rw [read_inf hi, read_inf (by rw [opp_rung]; exact hi), opp_neg]; rfl
    · rw [read_num (b := b) (by omega), read_num (b := opp b) (by rw [opp_rung]; omega), opp_neg, opp_rung]; rfl
  · rw [read_nan h, read_nan (b := opp b) (by rw [opp_nan]; exact h), opp_neg, opp_rung]; rfl

theorem sum_comm (x y : Datum) : x.sum y = y.sum x := by
  cases x with
  | nan s t => cases y <;> rfl
  | infinity s =>
    cases y with
    | nan => rfl
    | infinity t =>
      show (if s = t then some (Datum.infinity s) else none) = if t = s then some (Datum.infinity t) else none
      cases s <;> cases t <;> rfl
    | number => rfl
  | number s m i =>
    cases y with
    | nan => rfl
    | infinity t => rfl
    | number t n j =>
      unfold Datum.sum
      simp only [Int.min_comm j i, Int.add_comm (signed t n _), Bool.and_comm t s]

theorem product_comm (x y : Datum) : x.product y = y.product x := by
  cases x with
  | nan s t => cases y <;> rfl
  | infinity s =>
    cases y with
    | nan => rfl
    | infinity t => show some (Datum.infinity (s ^^ t)) = some (Datum.infinity (t ^^ s)); rw [Bool.xor_comm]
    | number t n j => rfl
  | number s m i =>
    cases y with
    | nan => rfl
    | infinity t => rfl
    | number t n j =>
      show some (Datum.number (s ^^ t) (m * n) (i + j)) = some (Datum.number (t ^^ s) (n * m) (j + i))
      rw [Bool.xor_comm, Nat.mul_comm, Int.add_comm]

theorem product_opp (x y : Datum) : x.opposite.product y = x.product y.opposite := by
  cases x with
  | nan s t => cases y <;> rfl
  | infinity s =>
    cases y with
    | nan => rfl
    | infinity t => show some (Datum.infinity (!s ^^ t)) = some (Datum.infinity (s ^^ !t)); cases s <;> cases t <;> rfl
    | number t n j => show (if n = 0 then none else some (Datum.infinity (!s ^^ t))) = if n = 0 then none else some (Datum.infinity (s ^^ !t)); cases s <;> cases t <;> rfl
  | number s m i =>
    cases y with
    | nan => rfl
    | infinity t => show (if m = 0 then none else some (Datum.infinity (t ^^ !s))) = if m = 0 then none else some (Datum.infinity ((!t) ^^ s)); cases s <;> cases t <;> rfl
    | number t n j => show some (Datum.number (!s ^^ t) (m * n) (i + j)) = some (Datum.number (s ^^ !t) (m * n) (i + j)); cases s <;> cases t <;> rfl

theorem add_comm (a b : Nat) : double.add a b = double.add b a := by unfold Format.add; rw [sum_comm]
theorem mul_comm (a b : Nat) : double.mul a b = double.mul b a := by unfold Format.mul; rw [product_comm]
theorem mul_opp (a b : Nat) : double.mul (opp a) b = double.mul a (opp b) := by unfold Format.mul; rw [read_opp, read_opp, product_opp]

theorem add_nan {a : Nat} (b : Nat) (h : isNaN a = true) : double.add a b = none := by
  unfold Format.add; rw [read_nan h]; rfl
theorem mul_nan {a : Nat} (b : Nat) (h : isNaN a = true) : double.mul a b = none := by
  unfold Format.mul; rw [read_nan h]; rfl
theorem div_nan {a : Nat} (b : Nat) (h : isNaN a = true) : double.div a b = none := by
  unfold Format.div; rw [read_nan h]; rfl

theorem write_number (s : Bool) (r k : Nat) (hr : r < 9218868437227405312) (m : Nat) (hm : m = mag r * 2 ^ k) (place : Int) (hp : place = -1074 + (ex r : Int) - k) :
    double.write (.number s m place) = double.word s r := by
  subst hm
  exact nearest_exact s r k hr place hp

theorem read_mzero : double.read 9223372036854775808 = .number true 0 (-1074) := by decide +kernel
theorem read_zero : double.read 0 = .number false 0 (-1074) := by decide +kernel
theorem read_one : double.read 4607182418800017408 = .number false 4503599627370496 (-52) := by decide +kernel
theorem read_infp : double.read 9218868437227405312 = .infinity false := by decide +kernel

theorem sum_num_num (s t : Bool) (m n : Nat) (i j : Int) : (Datum.number s m i).sum (.number t n j) =
    some (.number (if signed s m (i - min i j).toNat + signed t n (j - min i j).toNat = 0 then s && t else decide (signed s m (i - min i j).toNat + signed t n (j - min i j).toNat < 0)) (signed s m (i - min i j).toNat + signed t n (j - min i j).toNat).natAbs (min i j)) := rfl

/-- 'a + -0' is a. -/
theorem add_mzero {a : Nat} (ha : a < 18446744073709551616) (h : isNaN a = false) : double.add a 9223372036854775808 = some a := by
  have h' := not_nan_iff.1 h
  unfold Format.add
  rw [read_mzero]
  by_cases hi : rung a = 9218868437227405312
  · rw [read_inf hi]
    show some (double.word (neg a) double.infRung) = some a
    rw [inf_eq, ← hi, word_of a ha]
  · have hr : rung a < 9218868437227405312 := by omega
    rw [read_num hr, sum_num_num]
    have e1 : min (-1074 + (ex (rung a) : Int)) (-1074) = -1074 := by omega
    have e2 : (-1074 + (ex (rung a) : Int) - -1074).toNat = ex (rung a) := by omega
    rw [e1, e2, signed_eq, signed_eq]
    show some (double.write _) = some a
    congr 1
    rw [← word_of a ha]
    rw [neg_word _ _ (rung_lt a), rung_word _ _ (rung_lt a)]
    have hz : mag (rung a) * 2 ^ ex (rung a) = 0 ↔ mag (rung a) = 0 := by
      rw [Nat.mul_eq_zero]; have : 0 < 2 ^ ex (rung a) := Nat.two_pow_pos _; omega
    have hs : (if (if neg a = true then -((mag (rung a) * 2 ^ ex (rung a) : Nat) : Int) else ((mag (rung a) * 2 ^ ex (rung a) : Nat) : Int)) + (if true = true then -((0 * 2 ^ ((-1074 : Int) - -1074).toNat : Nat) : Int) else ((0 * 2 ^ ((-1074 : Int) - -1074).toNat : Nat) : Int)) = 0 then neg a && true else decide ((if neg a = true then -((mag (rung a) * 2 ^ ex (rung a) : Nat) : Int) else ((mag (rung a) * 2 ^ ex (rung a) : Nat) : Int)) + (if true = true then -((0 * 2 ^ ((-1074 : Int) - -1074).toNat : Nat) : Int) else ((0 * 2 ^ ((-1074 : Int) - -1074).toNat : Nat) : Int)) < 0)) = neg a := by
      rw [Nat.zero_mul]
      generalize mag (rung a) * 2 ^ ex (rung a) = X
      cases neg a
      · simp
      · simp; omega
    rw [hs]
    refine write_number (neg a) (rung a) (ex (rung a)) hr _ ?_ _ (by omega)
    rw [Nat.zero_mul]
    generalize mag (rung a) * 2 ^ ex (rung a) = X
    cases neg a <;> simp

/-- 'a * 1' is a. -/
theorem mul_one {a : Nat} (ha : a < 18446744073709551616) (h : isNaN a = false) : double.mul a 4607182418800017408 = some a := by
  have h' := not_nan_iff.1 h
  unfold Format.mul
  rw [read_one]
  by_cases hi : rung a = 9218868437227405312
  · rw [read_inf hi]
    show some (double.word (neg a ^^ false) double.infRung) = some a
    rw [inf_eq, Bool.xor_false, ← hi, word_of a ha]
  · have hr : rung a < 9218868437227405312 := by omega
    rw [read_num hr]
    show some (double.write (.number (neg a ^^ false) (mag (rung a) * 4503599627370496) (-1074 + (ex (rung a) : Int) + -52))) = some a
    rw [Bool.xor_false, write_number (neg a) (rung a) 52 hr _ rfl _ (by omega), word_of a ha]

theorem quotient_zero (d : Nat) (s t : Bool) (m : Nat) (i j : Int) : (Datum.number s m i).quotient d (.number t 0 j) = if m = 0 then none else some (.infinity (s ^^ t)) := rfl

/-- 'a / 0': a NaN where a is a zero; else infinity with a's sign. -/
theorem div_zero_zero {a : Nat} (h : rung a = 0) : double.div a 0 = none := by
  unfold Format.div
  rw [read_zero, read_num (by omega), h]
  rfl
theorem div_zero {a : Nat} (h : isNaN a = false) (h0 : rung a ≠ 0) : double.div a 0 = some (double.word (neg a) 9218868437227405312) := by
  have h' := not_nan_iff.1 h
  unfold Format.div
  rw [read_zero]
  by_cases hi : rung a = 9218868437227405312
  · rw [read_inf hi]
    show some (double.word (neg a ^^ false) double.infRung) = _
    rw [inf_eq, Bool.xor_false]
  · rw [read_num (by omega)]
    rw [quotient_zero, if_neg (fun e => h0 (mag_zero.1 e)), Bool.xor_false]
    show some (double.word (neg a) double.infRung) = _
    rw [inf_eq]

/-- 'a / +Inf' of a finite a: a zero with a's sign. -/
theorem div_inf {a : Nat} (h : rung a < 9218868437227405312) : double.div a 9218868437227405312 = some (double.word (neg a) 0) := by
  unfold Format.div
  rw [read_infp, read_num h]
  show some (double.nearest (neg a ^^ false) 0 0) = _
  rw [nearest_zero, Bool.xor_false]
theorem div_inf_inf {a : Nat} (h : rung a = 9218868437227405312) (b : Nat) (hb : rung b = 9218868437227405312) : double.div a b = none := by
  unfold Format.div
  rw [read_inf h, read_inf hb]
  rfl

/-- 'a / a': 1 of a finite a that is no zero; else a NaN. -/
theorem div_self {a : Nat} (h : rung a < 9218868437227405312) (h0 : rung a ≠ 0) : double.div a a = some 4607182418800017408 := by
  have hm : mag (rung a) ≠ 0 := fun e => h0 (mag_zero.1 e)
  unfold Format.div
  rw [read_num h]
  generalize mag (rung a) = m at *
  generalize (-1074 + (ex (rung a) : Int)) = i
  generalize neg a = s
  unfold Datum.quotient
  simp only [if_neg hm]
  have e1 : double.fractionBits + 2 + m.log2 - m.log2 = 54 := by rw [frac_eq]; omega
  have e2 : m <<< 54 = 18014398509481984 * m := by rw [Nat.shiftLeft_eq, Nat.mul_comm]
  simp only [e1, e2]
  have e3 : 18014398509481984 * m / m = 18014398509481984 := Nat.mul_div_cancel _ (by omega)
  have e4 : 18014398509481984 * m % m = 0 := Nat.mul_mod_left _ _
  rw [e3, e4, Bool.xor_self, show i - i - ((54 : Nat) : Int) - 1 = -55 by omega]
  decide +kernel
theorem div_self_none {a : Nat} (h : rung a = 0 ∨ 9218868437227405312 ≤ rung a) : double.div a a = none := by
  by_cases hn : isNaN a = true
  · exact div_nan a hn
  have hn' := not_nan_iff.1 (by simpa using hn)
  by_cases hi : rung a = 9218868437227405312
  · exact div_inf_inf hi a hi
  have h0 : rung a = 0 := by omega
  unfold Format.div
  rw [read_num (by omega), h0]
  rfl

/-- Cut towards zero. -/
def tr (b : Nat) : Int :=
  match (double.read b).toInt .zero with
  | some n => n
  | none => 0

theorem toInt_num (s : Bool) (m : Nat) (i : Int) : (Datum.number s m i).toInt .zero = some (signed s (Toward.zero.cut s (m <<< i.toNat) (-i).toNat) 0) := rfl
theorem cut_zero (s : Bool) (n d : Nat) : Toward.zero.cut s n d = n / (1 <<< min d (n.log2 + 2)) := rfl

theorem toInt_small {b : Nat} (h : rung b ≤ 4746794007248502784) : ∃ c : Nat, c < 9007199254740992 ∧ (double.read b).toInt .zero = some (if neg b then -(c : Int) else c) ∧ (double.read (opp b)).toInt .zero = some (if neg b then (c : Int) else -(c : Int)) := by
  have hx : ex (rung b) ≤ 1053 := by unfold ex; split <;> omega
  rw [read_opp, read_num (by omega)]
  refine ⟨Toward.zero.cut (neg b) (mag (rung b) <<< (-1074 + (ex (rung b) : Int)).toNat) (-(-1074 + (ex (rung b) : Int))).toNat, ?_, ?_, ?_⟩
  · rw [cut_zero, show (-1074 + (ex (rung b) : Int)).toNat = 0 by omega, Nat.shiftLeft_zero]
    exact Nat.lt_of_le_of_lt (Nat.div_le_self _ _) (mag_lt _)
  · rw [toInt_num, signed_eq]
    simp
  · show (Datum.number (!neg b) _ _).toInt .zero = _
    rw [toInt_num, signed_eq, cut_zero, cut_zero]
    cases neg b <;> simp

theorem toInt_val {b : Nat} (h : rung b ≤ 4746794007248502784) : floatToIntVal .f64 b .i64 = some (tr b) := by
  obtain ⟨c, hc, e, _⟩ := toInt_small h
  unfold floatToIntVal tr
  have e' : (FloatKind.decode .f64 b).toInt .zero = some (if neg b then -(c : Int) else c) := e
  rw [e', e]
  have : IntKind.i64.min ≤ (if neg b then -(c : Int) else c) ∧ (if neg b then -(c : Int) else c) ≤ IntKind.i64.max := by
    rw [show IntKind.i64.min = -9223372036854775808 from rfl, show IntKind.i64.max = 9223372036854775807 from rfl]
    cases neg b <;> simp <;> omega
  simp only [this, and_self, if_true]
theorem tr_opp {b : Nat} (h : rung b ≤ 4746794007248502784) : tr (opp b) = -tr b := by
  obtain ⟨c, _, e1, e2⟩ := toInt_small h
  unfold tr
  rw [e1, e2]
  cases neg b <;> simp

/-- What real's Whole answers. -/
def whole (b : Nat) : Int :=
  if isNaN b then 0
  else if 4746794007248502784 ≤ key b then 2147483648
  else if key b ≤ -4746794007248502784 then -2147483648
  else tr b

theorem whole_opp {b : Nat} : whole (opp b) = -whole b := by
  unfold whole
  rw [opp_nan, opp_key]
  cases h : isNaN b
  · simp only [Bool.false_eq_true, if_false]
    by_cases h1 : 4746794007248502784 ≤ key b
    · rw [if_neg (by omega), if_pos (by omega), if_pos h1]
    · by_cases h2 : key b ≤ -4746794007248502784
      · rw [if_pos (by omega), if_neg h1, if_pos h2]; rfl
      · rw [if_neg (by omega), if_neg (by omega), if_neg h1, if_neg h2]
        refine tr_opp ?_
        unfold key at h1 h2
        cases hn : neg b <;> simp [hn] at h1 h2 <;> omega
  · rfl

/-- real's Same, as Go's own comparison tells it. -/
theorem same_iff {a b : Nat} (ha : a < 18446744073709551616) (hb : b < 18446744073709551616) :
    (canon a = canon b) ↔ (isNaN a = true ∧ isNaN b = true) ∨ ((isNaN a = false ∧ isNaN b = false) ∧ key a = key b ∧ neg a = neg b) := by
  cases h1 : isNaN a
  · cases h2 : isNaN b
    · rw [canon_of_not h1, canon_of_not h2]
      simp only [Bool.false_eq_true, and_self, false_or, true_and]
      refine ⟨fun e => by subst e; exact ⟨rfl, rfl⟩, fun ⟨e, e'⟩ => same_word ha hb e' ?_⟩
      unfold key at e
      rw [e'] at e
      cases hn : neg b <;> simp [hn] at e <;> omega
    · have hne : canon a ≠ canon b := by
        intro e
        have := nan_canon a
        rw [e, nan_canon, h1, h2] at this
        exact absurd this (by decide)
      simp [hne]
  · cases h2 : isNaN b
    · have hne : canon a ≠ canon b := by
        intro e
        have := nan_canon a
        rw [e, nan_canon, h1, h2] at this
        exact absurd this (by decide)
      simp [hne]
    · rw [canon_of_nan h1, canon_of_nan h2]; simp

end Fl
end
section
theorem f64_bits (b : Nat) (w : World) : (callFunc 44 #[.float .f64 b]).run Tryz.prog w = .ok (.value (.int .u64 b)) w := by
  rw [run_callFunc_extern Tryz.func44 (e := Extern.MathFloatBits.float64bits) (by kernel_rfl) (by kernel_rfl) (by kernel_rfl) (by kernel_rfl)]
  rfl
theorem f64_of (n : Int) (w : World) : (callFunc 23 #[.int .u64 n]).run Tryz.prog w = .ok (.value (.float .f64 n.toNat)) w := by
  rw [run_callFunc_extern Tryz.func23 (e := Extern.MathFloatBits.float64frombits) (by kernel_rfl) (by kernel_rfl) (by kernel_rfl) (by kernel_rfl)]
  rfl
theorem f64_neg (b : Nat) (w : World) : (Op.unary .neg (.float .f64 b)).run Tryz.prog w = .ok (.float .f64 (Fl.opp b)) w := rfl
attribute [go_sem] f64_bits f64_of f64_neg

theorem isNaN_any (b : Nat) (w : World) : Calls Tryz.prog 84 #[.float .f64 b] w fun e w' => e = .returned (.bool (Fl.isNaN b)) ∧ w = w' := by
  have hb : ((FloatKind.f64.format.order b b != some .eq) : Bool) = Fl.isNaN b := Fl.self_ne b
  go_enter Tryz.func84, Tryz.ntmps84
  go_wp2_with (rw [hb])
  all_goals (go_ret; exact ⟨rfl, rfl⟩)

theorem canonical_any (b : Nat) (w : World) : Calls Tryz.prog 70 #[.float .f64 b] w fun e w' => e = .returned (.float .f64 (Fl.canon b)) ∧ w = w' := by
  go_enter Tryz.func70, Tryz.ntmps70
  go_wp2_with fail
  refine (isNaN_any b w).mono ?_
  rintro e w1 ⟨rfl, rfl⟩
  cases h : Fl.isNaN b
  · go_wp2_with fail
    go_ret
    exact ⟨by simp [Fl.canon, h], rfl⟩
  · go_wp2_with fail
    go_ret
    exact ⟨by simp [Fl.canon, h], rfl⟩

theorem bits_any (b : Nat) (w : World) : Calls Tryz.prog 52 #[.float .f64 b] w fun e w' => e = .returned (.int .u64 (Fl.canon b)) ∧ w = w' := by
  go_enter Tryz.func52, Tryz.ntmps52
  go_wp2_with fail
  refine (canonical_any b w).mono ?_
  rintro e w1 ⟨rfl, rfl⟩
  go_wp2_with fail
  go_ret
  exact ⟨rfl, rfl⟩

theorem of_int (n : Int) (w : World) : Calls Tryz.prog 75 #[.int .u64 n] w fun e w' => e = .returned (.tuple #[.float .f64 (Fl.canon n.toNat), .bool ((Fl.canon n.toNat : Int) == n)]) ∧ w = w' := by
  go_enter Tryz.func75, Tryz.ntmps75
  go_wp2_with fail
  refine (canonical_any _ w).mono ?_
  rintro e w1 ⟨rfl, rfl⟩
  go_wp2_with fail
  go_ret2
  exact ⟨rfl, rfl⟩
theorem of_any (n : Nat) (w : World) : Calls Tryz.prog 75 #[.int .u64 n] w fun e w' => e = .returned (.tuple #[.float .f64 (Fl.canon n), .bool ((Fl.canon n : Int) == n)]) ∧ w = w' :=
  of_int n w

theorem rsame_any (a b : Nat) (w : World) : Calls Tryz.prog 36 #[.float .f64 a, .float .f64 b] w fun e w' => e = .returned (.bool ((Fl.canon a : Int) == Fl.canon b)) ∧ w = w' := by
  go_enter Tryz.func36, Tryz.ntmps36
  go_wp2_with fail
  refine (bits_any _ w).mono ?_
  rintro e w1 ⟨rfl, rfl⟩
  go_wp2_with fail
  refine (bits_any _ _).mono ?_
  rintro e w1 ⟨rfl, rfl⟩
  go_wp2_with fail
  go_ret
  exact ⟨rfl, rfl⟩

/-- What an operation on floats comes to in the machine: the outcome's word, or a NaN that is drawn. -/
theorem arith_run (op : BinOp) (o : Option Nat) (t : TypeId) (a b : Nat) (ho : floatBits op .f64 a b = o) (hop : op = .add ∨ op = .mul ∨ op = .quo) (w : World) :
    ∃ (r : Nat) (w' : World), (binOp op t (.float .f64 a) (.float .f64 b)).run Tryz.prog w = .ok (.float .f64 r) w' ∧ Fl.canon r = Fl.res o ∧ Fr (fun _ => False) w w' := by
  cases o with
  | some r => exact ⟨r, w, run_float_arith w op t .f64 a b r ho, rfl, Fr.refl _ _⟩
  | none =>
    refine ⟨Question.cut (.nanBits .f64 a b) (w.tape w.drawn (.nanBits .f64 a b)), w.drew, ?_, Fl.canon_drawn _ a b, (Fr.refl _ _).drew⟩
    unfold floatBits at ho
    rcases hop with rfl | rfl | rfl <;> simp only at ho <;> simp [binOp, Op.floatArith, ho, Question.forced]

theorem conv_self (b : Nat) (w : World) : (convert 36 36 (.float .f64 b)).run Tryz.prog w = .ok (.float .f64 b) w :=
  run_convert_float_float w _ _ .f64 .f64 b b (by rw [Tryz.underlying36]; rfl) Tryz.underlying36 rfl

theorem key_low : Fl.key 13970166044103278592 = -4746794007248502784 := by decide +kernel
theorem key_high : Fl.key 4746794007248502784 = 4746794007248502784 := by decide +kernel
theorem nan_low : Fl.isNaN 13970166044103278592 = false := by decide +kernel
theorem nan_high : Fl.isNaN 4746794007248502784 = false := by decide +kernel

theorem same_key {a b : Nat} (ha : a < 18446744073709551616) (hb : b < 18446744073709551616) (h0 : Fl.rung b ≠ 0) (h : Fl.key a = Fl.key b) : a = b := by
  unfold Fl.key at h
  refine Fl.same_word ha hb ?_ ?_ <;> cases h1 : Fl.neg a <;> cases h2 : Fl.neg b <;> simp [h1, h2] at h ⊢ <;> omega

theorem run_max_low (b : Nat) (hb : b < 18446744073709551616) (hn : Fl.isNaN b = false) (ts : Array TypeId) (t : TypeId) (w : World) :
    (Builtin.max_ ts t #[.float .f64 b, .float .f64 13970166044103278592]).run Tryz.prog w = .ok (.float .f64 (if Fl.key b ≤ -4746794007248502784 then 13970166044103278592 else b)) w := by
  have ho : FloatKind.f64.format.order b 13970166044103278592 = some (compare (Fl.key b) (-4746794007248502784)) := by rw [← key_low]; exact Fl.order_num hn nan_low
  unfold Builtin.max_
  simp only [List.foldlM, Builtin.max2, ho]
  have hc : compare (Fl.key b) (-4746794007248502784) = if Fl.key b < -4746794007248502784 then .lt else if Fl.key b = -4746794007248502784 then .eq else .gt := rfl
  rw [hc]
  by_cases h1 : Fl.key b < -4746794007248502784
  · simp [h1, show Fl.key b ≤ -4746794007248502784 by omega]
  · by_cases h2 : Fl.key b = -4746794007248502784
    · obtain rfl := same_key hb (by omega) (by decide +kernel) (h2.trans key_low.symm)
      simp [key_low]
    · simp [h1, h2, show ¬ Fl.key b ≤ -4746794007248502784 by omega]

theorem run_min_high (b : Nat) (hb : b < 18446744073709551616) (hn : Fl.isNaN b = false) (ts : Array TypeId) (t : TypeId) (w : World) :
    (Builtin.min_ ts t #[.float .f64 b, .float .f64 4746794007248502784]).run Tryz.prog w = .ok (.float .f64 (if 4746794007248502784 ≤ Fl.key b then 4746794007248502784 else b)) w := by
  have ho : FloatKind.f64.format.order b 4746794007248502784 = some (compare (Fl.key b) 4746794007248502784) := by
    have := Fl.order_num hn nan_high
    rw [key_high] at this
    exact this
  unfold Builtin.min_
  simp only [List.foldlM, Builtin.min2, ho]
  have hc : compare (Fl.key b) 4746794007248502784 = if Fl.key b < 4746794007248502784 then .lt else if Fl.key b = 4746794007248502784 then .eq else .gt := rfl
  rw [hc]
  by_cases h1 : Fl.key b < 4746794007248502784
  · simp [h1, show ¬ 4746794007248502784 ≤ Fl.key b by omega]
  · by_cases h2 : Fl.key b = 4746794007248502784
    · obtain rfl := same_key hb (by omega) (by decide +kernel) (h2.trans key_high.symm)
      simp [key_high]
    · simp [h1, h2, show 4746794007248502784 ≤ Fl.key b by omega]

theorem key_rung {b : Nat} (h1 : ¬ 4746794007248502784 ≤ Fl.key b) (h2 : ¬ Fl.key b ≤ -4746794007248502784) : Fl.rung b ≤ 4746794007248502784 := by
  unfold Fl.key at h1 h2
  cases hn : Fl.neg b <;> simp [hn] at h1 h2 <;> omega

theorem run_int (b : Nat) (n : Int) (h : floatToIntVal .f64 b .i64 = some n) (w : World) : (convert 36 2 (.float .f64 b)).run Tryz.prog w = .ok (.int .i64 n) w :=
  run_convert_float_int w _ _ .f64 .i64 b n (by rw [Tryz.underlying36]; rfl) Tryz.underlying2 h

theorem refbits_any (b : Nat) (w : World) : Calls Tryz.prog 28 #[.float .f64 b] w fun e w' => e = .returned (.int .u64 (Fl.canon b)) ∧ w = w' := by
  have hb : ((FloatKind.f64.format.order b b != some .eq) : Bool) = Fl.isNaN b := Fl.self_ne b
  cases h : Fl.isNaN b <;> rw [h] at hb
  · have hc := Fl.canon_of_not h
    have HC := Lib.hid hc; clear hc h
    go_enter Tryz.func28, Tryz.ntmps28
    go_wp2_with (rw [hb])
    go_ret
    exact ⟨by rw [HC.out]; rfl, rfl⟩
  · have hc := Fl.canon_of_nan h
    have HC := Lib.hid hc; clear hc h
    go_enter Tryz.func28, Tryz.ntmps28
    go_wp2_with (rw [hb])
    go_ret
    exact ⟨by rw [HC.out]; rfl, rfl⟩
end
end Go.Proofs.YtplipjijaaejlaaGreat
