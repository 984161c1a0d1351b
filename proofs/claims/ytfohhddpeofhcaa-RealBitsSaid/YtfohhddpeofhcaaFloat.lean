/-
  The model's float64, as words: what a word is read as, and that what is read is written as the same word; the order of two words is that of two whole numbers. Pure: it speaks of no program.
-/
import Derived.Laws.FloatArith
namespace Go.Proofs.Ytfohhddpeofhcaa
namespace Fl
open Ieee

theorem sw_eq : double.signWeight = 9223372036854775808 := by decide +kernel
theorem bin_eq : double.binade = 4503599627370496 := by decide +kernel
theorem inf_eq : double.infRung = 9218868437227405312 := by decide +kernel
theorem least_eq : double.leastPlace = -1074 := by decide +kernel
theorem frac_eq : double.fractionBits = 52 := rfl

def mag (r : Nat) : Nat := if r < 4503599627370496 then r else 4503599627370496 + r % 4503599627370496
def ex (r : Nat) : Nat := if r < 4503599627370496 then 0 else r / 4503599627370496 - 1
def V (r : Nat) : Nat := mag r * 2 ^ ex r
def neg (b : Nat) : Bool := b / 9223372036854775808 % 2 == 1
def rung (b : Nat) : Nat := b % 9223372036854775808
def isNaN (b : Nat) : Bool := decide (9218868437227405312 < rung b)
/-- A word as a whole number: the rung with the sign. -/
def key (b : Nat) : Int := if neg b then -(rung b : Int) else rung b

theorem rung_lt (b : Nat) : rung b < 9223372036854775808 := Nat.mod_lt _ (by decide)

theorem nan_iff {b : Nat} : isNaN b = true ↔ 9218868437227405312 < rung b := by simp [isNaN]
theorem not_nan_iff {b : Nat} : isNaN b = false ↔ rung b ≤ 9218868437227405312 := by simp [isNaN]

theorem read_num {b : Nat} (h : rung b < 9218868437227405312) : double.read b = .number (neg b) (mag (rung b)) (-1074 + (ex (rung b) : Int)) := by
  have h' : b % 9223372036854775808 < 9218868437227405312 := h
  unfold Format.read
  simp only [sw_eq, bin_eq, inf_eq, least_eq, rung, neg, mag, ex]
  by_cases hs : b % 9223372036854775808 < 4503599627370496
  · simp [hs]
  · simp [hs, h']

theorem read_inf {b : Nat} (h : rung b = 9218868437227405312) : double.read b = .infinity (neg b) := by
  have h' : b % 9223372036854775808 = 9218868437227405312 := h
  unfold Format.read
  simp only [sw_eq, bin_eq, inf_eq, neg, h']
  simp

theorem read_nan {b : Nat} (h : isNaN b = true) : double.read b = .nan (neg b) (rung b - 9218868437227405312) := by
  have h' : 9218868437227405312 < b % 9223372036854775808 := nan_iff.1 h
  have h1 : ¬ b % 9223372036854775808 < 4503599627370496 := by omega
  have h2 : ¬ b % 9223372036854775808 < 9218868437227405312 := by omega
  have h3 : ¬ b % 9223372036854775808 = 9218868437227405312 := by omega
  unfold Format.read
  simp only [sw_eq, bin_eq, inf_eq, neg, rung]
  rw [if_neg h1, if_neg h2, if_neg h3]

/-- A word is told by its sign and its rung. -/
theorem word_of (b : Nat) (hb : b < 18446744073709551616) : double.word (neg b) (rung b) = b := by
  unfold Format.word neg rung
  rw [sw_eq]
  by_cases h : b / 9223372036854775808 % 2 = 1
  · simp only [h, beq_self_eq_true, if_true]; omega
  · have h0 : (b / 9223372036854775808 % 2 == 1) = false := by simpa using h
    simp only [h0]; simp only [Bool.false_eq_true, if_false]; omega

theorem neg_word (s : Bool) (r : Nat) (h : r < 9223372036854775808) : neg (double.word s r) = s := by
  unfold neg Format.word
  rw [sw_eq]
  cases s
  · simp; omega
  · simp; omega
theorem rung_word (s : Bool) (r : Nat) (h : r < 9223372036854775808) : rung (double.word s r) = r := by
  unfold rung Format.word
  rw [sw_eq]
  cases s
  · simp; omega
  · simp; omega
theorem word_lt (s : Bool) (r : Nat) (h : r < 9223372036854775808) : double.word s r < 18446744073709551616 := by
  unfold Format.word
  rw [sw_eq]
  split <;> omega

theorem same_word {a b : Nat} (ha : a < 18446744073709551616) (hb : b < 18446744073709551616) (hn : neg a = neg b) (hr : rung a = rung b) : a = b := by
  rw [← word_of a ha, ← word_of b hb, hn, hr]

theorem mag_ex (r : Nat) : r = ex r * 4503599627370496 + mag r := by
  unfold ex mag
  split <;> omega

theorem mag_zero {r : Nat} : mag r = 0 ↔ r = 0 := by
  unfold mag
  split <;> omega

theorem mag_lt (r : Nat) : mag r < 9007199254740992 := by
  unfold mag
  split <;> omega

theorem mag_ge {r : Nat} (h : 0 < ex r) : 4503599627370496 ≤ mag r := by
  unfold ex at h
  unfold mag
  split at h
  · omega
  · rename_i h'; rw [if_neg h']; omega

theorem V_succ (r : Nat) : V r < V (r + 1) := by
  unfold V
  by_cases h1 : r + 1 < 4503599627370496
  · simp [mag, ex, h1, show r < 4503599627370496 by omega]
  · by_cases h2 : r + 1 = 4503599627370496
    · obtain rfl : r = 4503599627370495 := by omega
      decide +kernel
    · have e0 : mag r = 4503599627370496 + r % 4503599627370496 := by unfold mag; rw [if_neg (by omega)]
      have e1 : mag (r + 1) = 4503599627370496 + (r + 1) % 4503599627370496 := by unfold mag; rw [if_neg (by omega)]
      have x0 : ex r = r / 4503599627370496 - 1 := by unfold ex; rw [if_neg (by omega)]
      have x1 : ex (r + 1) = (r + 1) / 4503599627370496 - 1 := by unfold ex; rw [if_neg (by omega)]
      by_cases h3 : r % 4503599627370496 + 1 = 4503599627370496
      · have x2 : ex (r + 1) = ex r + 1 := by omega
        have m1 : mag (r + 1) = 4503599627370496 := by omega
        have m0 : mag r = 9007199254740991 := by omega
        rw [x2, m1, m0, Nat.pow_succ]
        have : 0 < 2 ^ ex r := Nat.two_pow_pos _
        omega
      · have x2 : ex (r + 1) = ex r := by omega
        have m1 : mag (r + 1) = mag r + 1 := by omega
        rw [x2, m1, Nat.add_mul]
        have : 0 < 2 ^ ex r := Nat.two_pow_pos _
        omega

theorem V_lt {a b : Nat} (h : a < b) : V a < V b := by
  induction b with
  | zero => omega
  | succ n ih =>
    have := V_succ n
    by_cases e : a = n
    · subst e; exact this
    · have := ih (by omega); omega

theorem V_lt_iff {a b : Nat} : V a < V b ↔ a < b := by
  refine ⟨fun h => ?_, V_lt⟩
  rcases Nat.lt_trichotomy a b with h' | h' | h'
  · exact h'
  · subst h'; omega
  · have := V_lt h'; omega

theorem V_zero : V 0 = 0 := by decide +kernel
theorem V_pos {r : Nat} : V r = 0 ↔ r = 0 := by
  refine ⟨fun h => ?_, fun h => by subst h; exact V_zero⟩
  rcases Nat.eq_zero_or_pos r with h' | h'
  · exact h'
  · have := V_lt h'; rw [V_zero] at this; omega

theorem signed_eq (s : Bool) (m u : Nat) : signed s m u = if s then -((m * 2 ^ u : Nat) : Int) else ((m * 2 ^ u : Nat) : Int) := by
  unfold signed
  rw [Nat.shiftLeft_eq]

theorem compare_int (x y x' y' : Int) (h : x < y ↔ x' < y') (h' : y < x ↔ y' < x') : compare x y = compare x' y' := by
  show compareOfLessAndEq x y = compareOfLessAndEq x' y'
  unfold compareOfLessAndEq
  by_cases h1 : x < y
  · rw [if_pos h1, if_pos (h.1 h1)]
  · rw [if_neg h1, if_neg (fun q => h1 (h.2 q))]
    by_cases h2 : x = y
    · rw [if_pos h2, if_pos (by omega)]
    · rw [if_neg h2, if_neg (by omega)]

theorem order_nan {a b : Nat} (h : isNaN a = true ∨ isNaN b = true) : double.order a b = none := by
  unfold Format.order
  rcases h with h | h
  · rw [read_nan h]; rfl
  · rw [read_nan h]; cases double.read a <;> rfl

theorem order_num_num (s t : Bool) (m n : Nat) (i j : Int) : (Datum.number s m i).order (.number t n j) = some (compare (signed s m (i - min i j).toNat) (signed t n (j - min i j).toNat)) := rfl

theorem order_finite {a b : Nat} (ha : rung a < 9218868437227405312) (hb : rung b < 9218868437227405312) : double.order a b = some (compare (key a) (key b)) := by
  unfold Format.order
  rw [read_num ha, read_num hb, order_num_num]
  generalize hra : rung a = ra at *
  generalize hrb : rung b = rb at *
  congr 1
  have hd : ∃ d : Nat, d ≤ ex ra ∧ d ≤ ex rb ∧ (-1074 + (ex ra : Int) - min (-1074 + (ex ra : Int)) (-1074 + (ex rb : Int))).toNat = ex ra - d ∧ (-1074 + (ex rb : Int) - min (-1074 + (ex ra : Int)) (-1074 + (ex rb : Int))).toNat = ex rb - d :=
    ⟨min (ex ra) (ex rb), by omega, by omega, by omega, by omega⟩
  obtain ⟨d, h1, h2, e1, e2⟩ := hd
  rw [e1, e2, signed_eq, signed_eq]
  have v1 : V ra = mag ra * 2 ^ (ex ra - d) * 2 ^ d := by
    unfold V; rw [Nat.mul_assoc, ← Nat.pow_add, Nat.sub_add_cancel h1]
  have v2 : V rb = mag rb * 2 ^ (ex rb - d) * 2 ^ d := by
    unfold V; rw [Nat.mul_assoc, ← Nat.pow_add, Nat.sub_add_cancel h2]
  generalize mag ra * 2 ^ (ex ra - d) = X at *
  generalize mag rb * 2 ^ (ex rb - d) = Y at *
  have hp : 0 < 2 ^ d := Nat.two_pow_pos _
  have c1 : X < Y ↔ ra < rb := by rw [← @V_lt_iff ra rb, v1, v2]; exact (Nat.mul_lt_mul_right hp).symm
  have c2 : Y < X ↔ rb < ra := by rw [← @V_lt_iff rb ra, v1, v2]; exact (Nat.mul_lt_mul_right hp).symm
  have z1 : X = 0 ↔ ra = 0 := by
    rw [← @V_pos ra, v1, Nat.mul_eq_zero]; constructor
    · exact Or.inl
    · rintro (h | h); exact h; omega
  have z2 : Y = 0 ↔ rb = 0 := by
    rw [← @V_pos rb, v2, Nat.mul_eq_zero]; constructor
    · exact Or.inl
    · rintro (h | h); exact h; omega
  unfold key
  rw [hra, hrb]
  refine compare_int _ _ _ _ ?_ ?_ <;> cases neg a <;> cases neg b <;> simp only [if_true, if_false, Bool.false_eq_true] <;> omega

theorem order_num {a b : Nat} (ha : isNaN a = false) (hb : isNaN b = false) : double.order a b = some (compare (key a) (key b)) := by
  have ha' := not_nan_iff.1 ha
  have hb' := not_nan_iff.1 hb
  by_cases h1 : rung a = 9218868437227405312
  · by_cases h2 : rung b = 9218868437227405312
    · unfold Format.order
      rw [read_inf h1, read_inf h2]
      unfold key
      rw [h1, h2]
      cases neg a <;> cases neg b <;> rfl
    · have h2' : rung b < 9218868437227405312 := by omega
      unfold Format.order
      rw [read_inf h1, read_num h2']
      show some (if neg a then Ordering.lt else .gt) = _
      congr 1
      unfold key
      rw [h1]
      show _ = compareOfLessAndEq _ _
      unfold compareOfLessAndEq
      cases neg a <;> cases neg b <;> simp only [if_true, if_false, Bool.false_eq_true]
      · rw [if_neg (by omega), if_neg (by omega)]
      · rw [if_neg (by omega), if_neg (by omega)]
      · rw [if_pos (by omega)]
      · rw [if_pos (by omega)]
  · have h1' : rung a < 9218868437227405312 := by omega
    by_cases h2 : rung b = 9218868437227405312
    · unfold Format.order
      rw [read_num h1', read_inf h2]
      show some (if neg b then Ordering.gt else .lt) = _
      congr 1
      unfold key
      rw [h2]
      show _ = compareOfLessAndEq _ _
      unfold compareOfLessAndEq
      cases neg a <;> cases neg b <;> simp only [if_true, if_false, Bool.false_eq_true]
      · rw [if_pos (by omega)]
      · rw [if_neg (by omega), if_neg (by omega)]
      · rw [if_pos (by omega)]
      · rw [if_neg (by omega), if_neg (by omega)]
    · exact order_finite h1' (by omega)

theorem compare_lt {x y : Int} : (some (compare x y) == some Ordering.lt) = decide (x < y) := by
  show (some (compareOfLessAndEq x y) == _) = _
  unfold compareOfLessAndEq
  by_cases h : x < y
  · simp [h]
  · by_cases h' : x = y <;> simp [h, h']
theorem compare_eq {x y : Int} : (some (compare x y) == some Ordering.eq) = decide (x = y) := by
  show (some (compareOfLessAndEq x y) == _) = _
  unfold compareOfLessAndEq
  by_cases h : x < y
  · have : ¬ x = y := by omega
    simp [h, this]
  · by_cases h' : x = y <;> simp [h, h']
theorem compare_gt {x y : Int} : (some (compare x y) == some Ordering.gt) = decide (y < x) := by
  show (some (compareOfLessAndEq x y) == _) = _
  unfold compareOfLessAndEq
  by_cases h : x < y
  · have : ¬ y < x := by omega
    simp [h, this]
  · by_cases h' : x = y
    · subst h'; simp
    · have : y < x := by omega
      simp [h, h', this]

/-- 'x != x': just a NaN. -/
theorem self_ne (b : Nat) : (double.order b b != some .eq) = isNaN b := by
  cases h : isNaN b
  · rw [order_num h h]
    show (!_) = _
    rw [compare_eq]; simp
  · rw [order_nan (.inl h)]; rfl

theorem log2_mul (m k : Nat) (h0 : m ≠ 0) : (m * 2 ^ k).log2 = m.log2 + k := by
  have h2k : 0 < 2 ^ k := Nat.two_pow_pos _
  have hne : m * 2 ^ k ≠ 0 := Nat.mul_ne_zero h0 (by omega)
  have a1 : 2 ^ m.log2 ≤ m := (Nat.le_log2 h0).1 (Nat.le_refl _)
  have a2 : m < 2 ^ (m.log2 + 1) := (Nat.log2_lt h0).1 (Nat.lt_succ_self _)
  apply Nat.le_antisymm
  · have : (m * 2 ^ k).log2 < m.log2 + 1 + k := by
      rw [Nat.log2_lt hne, Nat.pow_add]
      exact Nat.mul_lt_mul_of_pos_right a2 h2k
    omega
  · rw [Nat.le_log2 hne, Nat.pow_add]
    exact Nat.mul_le_mul_right _ a1

theorem cut_exact (s : Bool) (m k : Nat) (h0 : m ≠ 0) : Toward.even.cut s (m * 2 ^ k) k = m := by
  have h2k : 0 < 2 ^ k := Nat.two_pow_pos _
  unfold Toward.cut
  have g : 1 <<< min k ((m * 2 ^ k).log2 + 2) = 2 ^ k := by
    rw [log2_mul m k h0, Nat.min_eq_left (by omega), Nat.shiftLeft_eq, Nat.one_mul]
  simp only [g]
  rw [Nat.mul_div_cancel _ h2k, Nat.mul_mod_left]
  have e1 : decide (2 ^ k < 2 * 0) = false := by simp
  have e2 : (2 ^ k == 2 * 0) = false := by simp
  simp only [e1, e2]
  rfl

theorem nearest_zero (s : Bool) (place : Int) : double.nearest s 0 place = double.word s 0 := by
  unfold Format.nearest
  rw [if_pos rfl]

theorem nearest_last (s : Bool) (m : Nat) (place last : Int) (h0 : m ≠ 0) (hl : max (place + (m.log2 : Int) - 52) (-1074) = last) :
    double.nearest s m place = double.word s (min ((last + 1074).toNat * 4503599627370496 + Toward.even.cut s (m <<< (place - last).toNat) (last - place).toNat) 9218868437227405312) := by
  unfold Format.nearest
  rw [if_neg h0, bin_eq, inf_eq, least_eq, frac_eq]
  have hl' : max (place + (m.log2 : Int) - ((52 : Nat) : Int)) (-1074) = last := hl
  simp only [hl']
  rw [show last - -1074 = last + 1074 by omega]

/-- What is read is written as the same word: also with 'mag * 2 ^ k' at 'place - k'. -/
theorem nearest_exact (s : Bool) (r k : Nat) (hr : r < 9218868437227405312) (place : Int) (hp : place = -1074 + (ex r : Int) - k) :
    double.nearest s (mag r * 2 ^ k) place = double.word s r := by
  have hme := mag_ex r
  by_cases h0 : mag r = 0
  · have hr0 : r = 0 := mag_zero.1 h0
    rw [h0, Nat.zero_mul, nearest_zero, hr0]
  have h2k : 0 < 2 ^ k := Nat.two_pow_pos _
  have hne : mag r * 2 ^ k ≠ 0 := Nat.mul_ne_zero h0 (by omega)
  have hl52 : (mag r).log2 < 53 := by rw [Nat.log2_lt h0]; exact mag_lt r
  have hge : 0 < ex r → 52 ≤ (mag r).log2 := by
    intro hx
    rw [Nat.le_log2 h0]; exact mag_ge hx
  have hlast : max (place + ((mag r * 2 ^ k).log2 : Int) - 52) (-1074) = -1074 + (ex r : Int) := by
    rw [log2_mul _ k h0, hp]
    omega
  rw [nearest_last s _ place _ hne hlast]
  have t1 : (place - (-1074 + (ex r : Int))).toNat = 0 := by omega
  have t2 : (-1074 + (ex r : Int) - place).toNat = k := by omega
  have t3 : (-1074 + (ex r : Int) + 1074).toNat = ex r := by omega
  rw [t1, t2, t3, Nat.shiftLeft_zero, cut_exact s _ k h0, ← hme, Nat.min_eq_left (by omega)]

end Fl
end Go.Proofs.Ytfohhddpeofhcaa
