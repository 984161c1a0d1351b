/-
  The model's float64, its operations on words: which sums, products and quotients are what; signs turned; cut to a whole number. Pure: it speaks of no program.
-/
import Derived.Test.YtfohhddpeofhcaaFloat
namespace Go.Proofs.Ytfohhddpeofhcaa
namespace Fl
open Ieee

/-- The word that real takes for a float. -/
def canon (b : Nat) : Nat := if isNaN b then 9221120237041090560 else b
/-- What real answers for an operation's outcome. -/
def res : Option Nat → Nat
  | some r => canon r
  | none => 9221120237041090560

theorem canon_canon (b : Nat) : canon (canon b) = canon b := by
  unfold canon
  by_cases h : isNaN b = true
  · rw [if_pos h]; rfl
  · rw [if_neg h, if_neg h]
theorem canon_res (o : Option Nat) : canon (res o) = res o := by
  cases o with
  | none => rfl
  | some r => exact canon_canon r
theorem canon_of_not {b : Nat} (h : isNaN b = false) : canon b = b := by unfold canon; rw [h]; rfl
theorem canon_of_nan {b : Nat} (h : isNaN b = true) : canon b = 9221120237041090560 := by unfold canon; rw [h]; rfl
theorem canon_lt {b : Nat} (h : b < 18446744073709551616) : canon b < 18446744073709551616 := by
  unfold canon; split <;> omega
theorem nan_canon (b : Nat) : isNaN (canon b) = isNaN b := by
  unfold canon
  cases h : isNaN b
  · simp [h]
  · rfl

/-- Every NaN that the model may draw is a NaN. -/
theorem drawn_nan (t : Nat) : isNaN (t % 2 * 2 ^ 63 + 9218868437227405312 + 1 + t / 2 % (2 ^ 52 - 1)) = true := by
  rw [nan_iff]
  unfold rung
  show 9218868437227405312 < (t % 2 * 9223372036854775808 + 9218868437227405312 + 1 + t / 2 % 4503599627370495) % 9223372036854775808
  generalize ht : t % 2 = p
  generalize hq : t / 2 % 4503599627370495 = q
  have h1 : p = 0 ∨ p = 1 := by omega
  have h2 : q < 4503599627370495 := by omega
  rcases h1 with rfl | rfl <;> omega
theorem canon_drawn (k : Nat) (x y : Nat) : canon (Question.cut (.nanBits .f64 x y) k) = 9221120237041090560 :=
  canon_of_nan (drawn_nan k)

theorem map_write_lt {o : Option Datum} {r : Nat} (h : o.map double.write = some r) : r < 18446744073709551616 := double.map_write_lt h

theorem res_lt {o : Option Datum} : res (o.map double.write) < 18446744073709551616 := by
  cases h : o.map double.write with
  | none => show 9221120237041090560 < _; omega
  | some r => exact canon_lt (map_write_lt h)

/-- The sign turned. -/
def opp (b : Nat) : Nat := b ^^^ 9223372036854775808

theorem opp_neg (b : Nat) : neg (opp b) = !neg b := by
  have e : ∀ x : Nat, neg x = x.testBit 63 := by
    intro x
    unfold neg
    rw [Nat.testBit_eq_decide_div_mod_eq]
    show _ = decide (x / 9223372036854775808 % 2 = 1)
    by_cases h : x / 9223372036854775808 % 2 = 1 <;> simp [h]
  rw [e, e]
  unfold opp
  rw [Nat.testBit_xor, show Nat.testBit 9223372036854775808 63 = true by decide +kernel]
  simp
theorem opp_rung (b : Nat) : rung (opp b) = rung b := by
  unfold opp rung
  rw [show (9223372036854775808 : Nat) = 2 ^ 63 from rfl, Nat.xor_mod_two_pow, Nat.mod_self, Nat.xor_zero]
theorem opp_lt {b : Nat} (h : b < 18446744073709551616) : opp b < 18446744073709551616 :=
  Nat.xor_lt_two_pow (n := 64) h (by decide)
theorem opp_nan (b : Nat) : isNaN (opp b) = isNaN b := by unfold isNaN; rw [opp_rung]
theorem opp_key (b : Nat) : key (opp b) = -key b := by
  unfold key
  rw [opp_neg, opp_rung]
  cases neg b <;> simp

theorem read_opp (b : Nat) : double.read (opp b) = (double.read b).opposite := by
  cases h : isNaN b
  · have h' := not_nan_iff.1 h
    by_cases hi : rung b = 9218868437227405312
    · rw [read_inf hi, read_inf (by rw [opp_rung]; exact hi), opp_neg]; rfl
    · rw [read_num (b := b) (by omega), read_num (b := opp b) (by rw [opp_rung]; omega), opp_neg, opp_rung]; rfl
  · rw [read_nan h, read_nan (b := opp b) (by rw [opp_nan]; exact h), opp_neg, opp_rung]; rfl

theorem sum_comm (x y : Datum) : x.sum y = y.sum x := by
  cases x with
  | nan s t => cases y <;> rfl
  | infinity s =>
    cases y with
    | nan => rfl
    | infinity t =>
      show (if s = t then some (Datum.infinity s) else none) = if t = s then some (Datum.infinity t) else none
      cases s <;> cases t <;> rfl
    | number => rfl
  | number s m i =>
    cases y with
    | nan => rfl
    | infinity t => rfl
    | number t n j =>
      unfold Datum.sum
      simp only [Int.min_comm j i, Int.add_comm (signed t n _), Bool.and_comm t s]

theorem product_comm (x y : Datum) : x.product y = y.product x := by
  cases x with
  | nan s t => cases y <;> rfl
  | infinity s =>
    cases y with
    | nan => rfl
    | infinity t => show some (Datum.infinity (s ^^ t)) = some (Datum.infinity (t ^^ s)); rw [Bool.xor_comm]
    | number t n j => rfl
  | number s m i =>
    cases y with
    | nan => rfl
    | infinity t => rfl
    | number t n j =>
      show some (Datum.number (s ^^ t) (m * n) (i + j)) = some (Datum.number (t ^^ s) (n * m) (j + i))
      rw [Bool.xor_comm, Nat.mul_comm, Int.add_comm]

theorem product_opp (x y : Datum) : x.opposite.product y = x.product y.opposite := by
  cases x with
  | nan s t => cases y <;> rfl
  | infinity s =>
    cases y with
    | nan => rfl
    | infinity t => show some (Datum.infinity (!s ^^ t)) = some (Datum.infinity (s ^^ !t)); cases s <;> cases t <;> rfl
    | number t n j => show (if n = 0 then none else some (Datum.infinity (!s ^^ t))) = if n = 0 then none else some (Datum.infinity (s ^^ !t)); cases s <;> cases t <;> rfl
  | number s m i =>
    cases y with
    | nan => rfl
    | infinity t => show (if m = 0 then none else some (Datum.infinity (t ^^ !s))) = if m = 0 then none else some (Datum.infinity ((!t) ^^ s)); cases s <;> cases t <;> rfl
    | number t n j => show some (Datum.number (!s ^^ t) (m * n) (i + j)) = some (Datum.number (s ^^ !t) (m * n) (i + j)); cases s <;> cases t <;> rfl

theorem add_comm (a b : Nat) : double.add a b = double.add b a := by unfold Format.add; rw [sum_comm]
theorem mul_comm (a b : Nat) : double.mul a b = double.mul b a := by unfold Format.mul; rw [product_comm]
theorem mul_opp (a b : Nat) : double.mul (opp a) b = double.mul a (opp b) := by unfold Format.mul; rw [read_opp, read_opp, product_opp]

theorem add_nan {a : Nat} (b : Nat) (h : isNaN a = true) : double.add a b = none := by
  unfold Format.add; rw [read_nan h]; rfl
theorem mul_nan {a : Nat} (b : Nat) (h : isNaN a = true) : double.mul a b = none := by
  unfold Format.mul; rw [read_nan h]; rfl
theorem div_nan {a : Nat} (b : Nat) (h : isNaN a = true) : double.div a b = none := by
  unfold Format.div; rw [read_nan h]; rfl

theorem write_number (s : Bool) (r k : Nat) (hr : r < 9218868437227405312) (m : Nat) (hm : m = mag r * 2 ^ k) (place : Int) (hp : place = -1074 + (ex r : Int) - k) :
    double.write (.number s m place) = double.word s r := by
  subst hm
  exact nearest_exact s r k hr place hp

theorem read_mzero : double.read 9223372036854775808 = .number true 0 (-1074) := by decide +kernel
theorem read_zero : double.read 0 = .number false 0 (-1074) := by decide +kernel
theorem read_one : double.read 4607182418800017408 = .number false 4503599627370496 (-52) := by decide +kernel
theorem read_infp : double.read 9218868437227405312 = .infinity false := by decide +kernel

theorem sum_num_num (s t : Bool) (m n : Nat) (i j : Int) : (Datum.number s m i).sum (.number t n j) =
    some (.number (if signed s m (i - min i j).toNat + signed t n (j - min i j).toNat = 0 then s && t else decide (signed s m (i - min i j).toNat + signed t n (j - min i j).toNat < 0)) (signed s m (i - min i j).toNat + signed t n (j - min i j).toNat).natAbs (min i j)) := rfl

/-- 'a + -0' is a. -/
theorem add_mzero {a : Nat} (ha : a < 18446744073709551616) (h : isNaN a = false) : double.add a 9223372036854775808 = some a := by
  have h' := not_nan_iff.1 h
  unfold Format.add
  rw [read_mzero]
  by_cases hi : rung a = 9218868437227405312
  · rw [read_inf hi]
    show some (double.word (neg a) double.infRung) = some a
    rw [inf_eq, ← hi, word_of a ha]
  · have hr : rung a < 9218868437227405312 := by omega
    rw [read_num hr, sum_num_num]
    have e1 : min (-1074 + (ex (rung a) : Int)) (-1074) = -1074 := by omega
    have e2 : (-1074 + (ex (rung a) : Int) - -1074).toNat = ex (rung a) := by omega
    rw [e1, e2, signed_eq, signed_eq]
    show some (double.write _) = some a
    congr 1
    rw [← word_of a ha]
    rw [neg_word _ _ (rung_lt a), rung_word _ _ (rung_lt a)]
    have hz : mag (rung a) * 2 ^ ex (rung a) = 0 ↔ mag (rung a) = 0 := by
      rw [Nat.mul_eq_zero]; have : 0 < 2 ^ ex (rung a) := Nat.two_pow_pos _; omega
    have hs : (if (if neg a = true then -((mag (rung a) * 2 ^ ex (rung a) : Nat) : Int) else ((mag (rung a) * 2 ^ ex (rung a) : Nat) : Int)) + (if true = true then -((0 * 2 ^ ((-1074 : Int) - -1074).toNat : Nat) : Int) else ((0 * 2 ^ ((-1074 : Int) - -1074).toNat : Nat) : Int)) = 0 then neg a && true else decide ((if neg a = true then -((mag (rung a) * 2 ^ ex (rung a) : Nat) : Int) else ((mag (rung a) * 2 ^ ex (rung a) : Nat) : Int)) + (if true = true then -((0 * 2 ^ ((-1074 : Int) - -1074).toNat : Nat) : Int) else ((0 * 2 ^ ((-1074 : Int) - -1074).toNat : Nat) : Int)) < 0)) = neg a := by
      rw [Nat.zero_mul]
      generalize mag (rung a) * 2 ^ ex (rung a) = X
      cases neg a
      · simp
      · simp; omega
    rw [hs]
    refine write_number (neg a) (rung a) (ex (rung a)) hr _ ?_ _ (by omega)
    rw [Nat.zero_mul]
    generalize mag (rung a) * 2 ^ ex (rung a) = X
    cases neg a <;> simp

/-- 'a * 1' is a. -/
theorem mul_one {a : Nat} (ha : a < 18446744073709551616) (h : isNaN a = false) : double.mul a 4607182418800017408 = some a := by
  have h' := not_nan_iff.1 h
  unfold Format.mul
  rw [read_one]
  by_cases hi : rung a = 9218868437227405312
  · rw [read_inf hi]
    show some (double.word (neg a ^^ false) double.infRung) = some a
    rw [inf_eq, Bool.xor_false, ← hi, word_of a ha]
  · have hr : rung a < 9218868437227405312 := by omega
    rw [read_num hr]
    show some (double.write (.number (neg a ^^ false) (mag (rung a) * 4503599627370496) (-1074 + (ex (rung a) : Int) + -52))) = some a
    rw [Bool.xor_false, write_number (neg a) (rung a) 52 hr _ rfl _ (by omega), word_of a ha]

theorem quotient_zero (d : Nat) (s t : Bool) (m : Nat) (i j : Int) : (Datum.number s m i).quotient d (.number t 0 j) = if m = 0 then none else some (.infinity (s ^^ t)) := rfl

/-- 'a / 0': a NaN where a is a zero; else infinity with a's sign. -/
theorem div_zero_zero {a : Nat} (h : rung a = 0) : double.div a 0 = none := by
  unfold Format.div
  rw [read_zero, read_num (by omega), h]
  rfl
theorem div_zero {a : Nat} (h : isNaN a = false) (h0 : rung a ≠ 0) : double.div a 0 = some (double.word (neg a) 9218868437227405312) := by
  have h' := not_nan_iff.1 h
  unfold Format.div
  rw [read_zero]
  by_cases hi : rung a = 9218868437227405312
  · rw [read_inf hi]
    show some (double.word (neg a ^^ false) double.infRung) = _
    rw [inf_eq, Bool.xor_false]
  · rw [read_num (by omega)]
    rw [quotient_zero, if_neg (fun e => h0 (mag_zero.1 e)), Bool.xor_false]
    show some (double.word (neg a) double.infRung) = _
    rw [inf_eq]

/-- 'a / +Inf' of a finite a: a zero with a's sign. -/
theorem div_inf {a : Nat} (h : rung a < 9218868437227405312) : double.div a 9218868437227405312 = some (double.word (neg a) 0) := by
  unfold Format.div
  rw [read_infp, read_num h]
  show some (double.nearest (neg a ^^ false) 0 0) = _
  rw [nearest_zero, Bool.xor_false]
theorem div_inf_inf {a : Nat} (h : rung a = 9218868437227405312) (b : Nat) (hb : rung b = 9218868437227405312) : double.div a b = none := by
  unfold Format.div
  rw [read_inf h, read_inf hb]
  rfl

/-- 'a / a': 1 of a finite a that is no zero; else a NaN. -/
theorem div_self {a : Nat} (h : rung a < 9218868437227405312) (h0 : rung a ≠ 0) : double.div a a = some 4607182418800017408 := by
  have hm : mag (rung a) ≠ 0 := fun e => h0 (mag_zero.1 e)
  unfold Format.div
  rw [read_num h]
  generalize mag (rung a) = m at *
  generalize (-1074 + (ex (rung a) : Int)) = i
  generalize neg a = s
  unfold Datum.quotient
  simp only [if_neg hm]
  have e1 : double.fractionBits + 2 + m.log2 - m.log2 = 54 := by rw [frac_eq]; omega
  have e2 : m <<< 54 = 18014398509481984 * m := by rw [Nat.shiftLeft_eq, Nat.mul_comm]
  simp only [e1, e2]
  have e3 : 18014398509481984 * m / m = 18014398509481984 := Nat.mul_div_cancel _ (by omega)
  have e4 : 18014398509481984 * m % m = 0 := Nat.mul_mod_left _ _
  rw [e3, e4, Bool.xor_self, show i - i - ((54 : Nat) : Int) - 1 = -55 by omega]
  decide +kernel
theorem div_self_none {a : Nat} (h : rung a = 0 ∨ 9218868437227405312 ≤ rung a) : double.div a a = none := by
  by_cases hn : isNaN a = true
  · exact div_nan a hn
  have hn' := not_nan_iff.1 (by simpa using hn)
  by_cases hi : rung a = 9218868437227405312
  · exact div_inf_inf hi a hi
  have h0 : rung a = 0 := by omega
  unfold Format.div
  rw [read_num (by omega), h0]
  rfl

/-- Cut towards zero. -/
def tr (b : Nat) : Int :=
  match (double.read b).toInt .zero with
  | some n => n
  | none => 0

theorem toInt_num (s : Bool) (m : Nat) (i : Int) : (Datum.number s m i).toInt .zero = some (signed s (Toward.zero.cut s (m <<< i.toNat) (-i).toNat) 0) := rfl
theorem cut_zero (s : Bool) (n d : Nat) : Toward.zero.cut s n d = n / (1 <<< min d (n.log2 + 2)) := rfl

theorem toInt_small {b : Nat} (h : rung b ≤ 4746794007248502784) : ∃ c : Nat, c < 9007199254740992 ∧ (double.read b).toInt .zero = some (if neg b then -(c : Int) else c) ∧ (double.read (opp b)).toInt .zero = some (if neg b then (c : Int) else -(c : Int)) := by
  have hx : ex (rung b) ≤ 1053 := by unfold ex; split <;> omega
  rw [read_opp, read_num (by omega)]
  refine ⟨Toward.zero.cut (neg b) (mag (rung b) <<< (-1074 + (ex (rung b) : Int)).toNat) (-(-1074 + (ex (rung b) : Int))).toNat, ?_, ?_, ?_⟩
  · rw [cut_zero, show (-1074 + (ex (rung b) : Int)).toNat = 0 by omega, Nat.shiftLeft_zero]
    exact Nat.lt_of_le_of_lt (Nat.div_le_self _ _) (mag_lt _)
  · rw [toInt_num, signed_eq]
    simp
  · show (Datum.number (!neg b) _ _).toInt .zero = _
    rw [toInt_num, signed_eq, cut_zero, cut_zero]
    cases neg b <;> simp

theorem toInt_val {b : Nat} (h : rung b ≤ 4746794007248502784) : floatToIntVal .f64 b .i64 = some (tr b) := by
  obtain ⟨c, hc, e, _⟩ := toInt_small h
  unfold floatToIntVal tr
  have e' : (FloatKind.decode .f64 b).toInt .zero = some (if neg b then -(c : Int) else c) := e
  rw [e', e]
  have : IntKind.i64.min ≤ (if neg b then -(c : Int) else c) ∧ (if neg b then -(c : Int) else c) ≤ IntKind.i64.max := by
    rw [show IntKind.i64.min = -9223372036854775808 from rfl, show IntKind.i64.max = 9223372036854775807 from rfl]
    cases neg b <;> simp <;> omega
  simp only [this, and_self, if_true]
theorem tr_opp {b : Nat} (h : rung b ≤ 4746794007248502784) : tr (opp b) = -tr b := by
  obtain ⟨c, _, e1, e2⟩ := toInt_small h
  unfold tr
  rw [e1, e2]
  cases neg b <;> simp

/-- What real's Whole answers. -/
def whole (b : Nat) : Int :=
  if isNaN b then 0
  else if 4746794007248502784 ≤ key b then 2147483648
  else if key b ≤ -4746794007248502784 then -2147483648
  else tr b

theorem whole_opp {b : Nat} : whole (opp b) = -whole b := by
  unfold whole
  rw [opp_nan, opp_key]
  cases h : isNaN b
  · simp only [Bool.false_eq_true, if_false]
    by_cases h1 : 4746794007248502784 ≤ key b
    · rw [if_neg (by omega), if_pos (by omega), if_pos h1]
    · by_cases h2 : key b ≤ -4746794007248502784
      · rw [if_pos (by omega), if_neg h1, if_pos h2]; rfl
      · rw [if_neg (by omega), if_neg (by omega), if_neg h1, if_neg h2]
        refine tr_opp ?_
        unfold key at h1 h2
        cases hn : neg b <;> simp [hn] at h1 h2 <;> omega
  · rfl

/-- real's Same, as Go's own comparison tells it. -/
theorem same_iff {a b : Nat} (ha : a < 18446744073709551616) (hb : b < 18446744073709551616) :
    (canon a = canon b) ↔ (isNaN a = true ∧ isNaN b = true) ∨ ((isNaN a = false ∧ isNaN b = false) ∧ key a = key b ∧ neg a = neg b) := by
  cases h1 : isNaN a
  · cases h2 : isNaN b
    · rw [canon_of_not h1, canon_of_not h2]
      simp only [Bool.false_eq_true, and_self, false_or, true_and]
      refine ⟨fun e => by subst e; exact ⟨rfl, rfl⟩, fun ⟨e, e'⟩ => same_word ha hb e' ?_⟩
      unfold key at e
      rw [e'] at e
      cases hn : neg b <;> simp [hn] at e <;> omega
    · have hne : canon a ≠ canon b := by
        intro e
        have := nan_canon a
        rw [e, nan_canon, h1, h2] at this
        exact absurd this (by decide)
      simp [hne]
  · cases h2 : isNaN b
    · have hne : canon a ≠ canon b := by
        intro e
        have := nan_canon a
        rw [e, nan_canon, h1, h2] at this
        exact absurd this (by decide)
      simp [hne]
    · rw [canon_of_nan h1, canon_of_nan h2]; simp

end Fl
end Go.Proofs.Ytfohhddpeofhcaa
