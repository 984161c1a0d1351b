/-
  The long division of the document's answer, on bits as a function of their place: it leaves what the register holds.
-/
import Derived.Test.YtgjbndhjkhfjlaaCrcMath
namespace Go.Proofs.Ytgjbndhjkhfjlaa.Crc

def terms : List Nat := [0, 6, 9, 10, 16, 20, 21, 22, 24, 25, 27, 28, 30, 31, 32]
/-- The polynomial taken away at place i, if there is a 1. -/
def divs (i : Nat) (f : Nat → Bool) : Nat → Bool := fun x => f x ^^ (f i && (decide (i ≤ x) && terms.contains (x - i)))
def win (f : Nat → Bool) (i : Nat) : BitVec 32 := topl ((List.range 32).map fun d => f (i + d))
def low (b : Bool) : BitVec 32 := if b then 1#32 else 0#32

theorem win_bit (f : Nat → Bool) (i d : Nat) (hd : d < 32) : (win f i).getLsbD (31 - d) = f (i + d) := by
  unfold win
  rw [topl_bit _ _ (by simp) hd]
  simp [List.getD, hd]

theorem low_bit (b : Bool) (j : Nat) : (low b).getLsbD j = (b && decide (j = 0)) := by
  unfold low
  cases b with
  | false => simp
  | true =>
    simp only [if_true, Bool.true_and]
    by_cases h : j < 32
    · have : ∀ j : Fin 32, (1#32).getLsbD j.val = decide (j.val = 0) := by decide
      exact this ⟨j, h⟩
    · rw [BitVec.getLsbD_of_ge _ _ (by omega)]
      exact (decide_eq_false (by omega)).symm

theorem win_ext {v : BitVec 32} {f : Nat → Bool} {i : Nat} (h : ∀ d, d < 32 → v.getLsbD (31 - d) = f (i + d)) : v = win f i := by
  apply BitVec.eq_of_getLsbD_eq
  intro j hj
  have h1 := h (31 - j) (by omega)
  have h2 := win_bit f i (31 - j) (by omega)
  rw [show 31 - (31 - j) = j by omega] at h1 h2
  rw [h1, h2]

theorem st_bit (r : BitVec 32) (d : Nat) (hd : d < 31) : (st r).getLsbD (31 - d) = (r.getLsbD (30 - d) ^^ (r.msb && poly.getLsbD (31 - d))) := by
  unfold st
  rw [BitVec.getLsbD_xor, BitVec.getLsbD_shiftLeft]
  have e1 : decide (31 - d < 32) = true := by simp; omega
  have e2 : decide (31 - d < 1) = false := by simp; omega
  have e3 : 31 - d - 1 = 30 - d := by omega
  rw [e1, e2, e3]
  cases r.msb <;> simp
theorem st_bit0 (r : BitVec 32) : (st r).getLsbD 0 = r.msb := by
  unfold st
  rw [BitVec.getLsbD_xor, BitVec.getLsbD_shiftLeft]
  cases r.msb <;> simp [poly]

theorem win_msb (f : Nat → Bool) (i : Nat) : (win f i).msb = f i := by
  rw [BitVec.msb_eq_getLsbD_last]
  have := win_bit f i 0 (by omega)
  simpa using this

theorem poly_terms : ∀ d : Fin 31, poly.getLsbD (31 - d.val) = terms.contains (d.val + 1) := by decide

theorem win_step (f : Nat → Bool) (i : Nat) : st (win f i) ^^^ low (f (i + 32)) = win (divs i f) (i + 1) := by
  apply win_ext
  intro d hd
  rw [BitVec.getLsbD_xor, low_bit]
  by_cases h : d = 31
  · subst h
    rw [show 31 - 31 = 0 from rfl, st_bit0, win_msb]
    simp only [divs, decide_true, Bool.and_true]
    rw [show i + 1 + 31 = i + 32 by omega, show i + 32 - i = 32 by omega, decide_eq_true (by omega : i ≤ i + 32), show terms.contains 32 = true by decide]
    simp [Bool.xor_comm]
  · have hd' : d < 31 := by omega
    rw [st_bit _ _ hd', win_msb]
    have e1 := win_bit f i (d + 1) (by omega)
    rw [show 31 - (d + 1) = 30 - d by omega] at e1
    rw [e1, poly_terms ⟨d, hd'⟩, decide_eq_false (by omega : ¬ 31 - d = 0)]
    simp only [divs]
    rw [show i + 1 + d = i + (d + 1) by omega, show i + (d + 1) - i = d + 1 by omega, decide_eq_true (by omega : i ≤ i + (d + 1))]
    simp

/-- Nothing is taken away where no bit is 1: the window moves on. -/
theorem win_next (m : Nat → Bool) (i : Nat) : win m (i + 1) = st (win m i ^^^ top (m i)) ^^^ low (m (i + 32)) := by
  symm
  apply win_ext
  intro d hd
  have hmsb : (win m i ^^^ top (m i)).msb = false := by
    rw [BitVec.msb_xor, win_msb]
    have : (top (m i)).msb = m i := by cases m i <;> decide
    rw [this, Bool.xor_self]
  rw [BitVec.getLsbD_xor, low_bit]
  by_cases h : d = 31
  · subst h
    rw [show 31 - 31 = 0 from rfl, st_bit0, hmsb, show i + 1 + 31 = i + 32 by omega]
    simp
  · have hd' : d < 31 := by omega
    rw [st_bit _ _ hd', hmsb, BitVec.getLsbD_xor, top_bit]
    have e1 := win_bit m i (d + 1) (by omega)
    rw [show 31 - (d + 1) = 30 - d by omega] at e1
    rw [e1, decide_eq_false (by omega : ¬ 31 - d = 0), decide_eq_false (by omega : ¬ 30 - d = 31)]
    simp
    rw [show i + 1 + d = i + (d + 1) by omega]

/-- The division, i places on. -/
def divn : Nat → (Nat → Bool) → (Nat → Bool)
  | 0, f => f
  | i + 1, f => divs i (divn i f)

theorem divn_far (f : Nat → Bool) : ∀ (i x : Nat), i + 32 ≤ x → divn i f x = f x
  | 0, _, _ => rfl
  | i + 1, x, h => by
    rw [divn, divs, divn_far f i x (by omega)]
    have : terms.contains (x - i) = false := by
      have h2 : ¬ (x - i) ∈ terms := by
        intro hm
        have : ∀ t ∈ terms, t ≤ 32 := by decide
        have := this _ hm
        omega
      simpa using h2
    rw [this]
    simp

/-- The bits with the first 32 turned. -/
def turned (m : Nat → Bool) : Nat → Bool := fun x => m x ^^ decide (x < 32)

theorem ones_bit (j : Nat) (h : j < 32) : ones.getLsbD j = true := by
  have : ∀ j : Fin 32, ones.getLsbD j.val = true := by decide
  exact this ⟨j, h⟩

theorem div_reg (m : Nat → Bool) : ∀ i, win (divn i (turned m)) i = cbs ones ((List.range i).map m) ^^^ win m i
  | 0 => by
    symm
    apply win_ext
    intro d hd
    show ((ones ^^^ win m 0).getLsbD (31 - d)) = turned m (0 + d)
    rw [BitVec.getLsbD_xor, ones_bit _ (by omega), win_bit m 0 d hd]
    simp only [turned]
    rw [decide_eq_true (by omega : 0 + d < 32)]
    cases m (0 + d) <;> rfl
  | i + 1 => by
    rw [divn, ← win_step, div_reg m i, divn_far _ i (i + 32) (by omega)]
    have ht : turned m (i + 32) = m (i + 32) := by
      simp only [turned]
      rw [decide_eq_false (by omega)]
      simp
    rw [ht, List.range_succ, List.map_append, cbs_append]
    show st (cbs ones ((List.range i).map m) ^^^ win m i) ^^^ low (m (i + 32)) = st (cbs ones ((List.range i).map m) ^^^ top (m i)) ^^^ win m (i + 1)
    rw [win_next m i, st_xor, st_xor, st_xor]
    have : ∀ a b c d : BitVec 32, a ^^^ b ^^^ d = a ^^^ c ^^^ (b ^^^ c ^^^ d) := by
      intro a b c d
      rw [BitVec.xor_comm b c, ← BitVec.xor_assoc, BitVec.xor_assoc a c, ← BitVec.xor_assoc c c, BitVec.xor_self, BitVec.zero_xor]
    exact this _ _ _ _

/-- Behind all bits: what is left is the register. -/
theorem div_end (ms : List Bool) : win (divn ms.length (turned fun x => ms.getD x false)) ms.length = cbs ones ms := by
  rw [div_reg]
  have h1 : (List.range ms.length).map (fun x => ms.getD x false) = ms := by
    apply List.ext_getElem
    · simp
    · intro j h1 h2
      simp [List.getD, h2]
  have h2 : win (fun x => ms.getD x false) ms.length = 0#32 := by
    symm
    apply win_ext
    intro d hd
    simp [List.getD]
  rw [h1, h2, BitVec.xor_zero]

/-- The number that bits tell. -/
def num (ms : List Bool) : Nat := ms.foldl (fun n b => n * 2 + b.toNat) 0
theorem num_snoc (ms : List Bool) (b : Bool) : num (ms ++ [b]) = num ms * 2 + b.toNat := by simp [num]
theorem num_lt : ∀ (ms : List Bool) (n : Nat), ms.foldl (fun n b => n * 2 + b.toNat) n < (n + 1) * 2 ^ ms.length
  | [], n => by simp
  | b :: ms, n => by
    have h := num_lt ms (n * 2 + b.toNat)
    have hb : b.toNat ≤ 1 := by cases b <;> decide
    rw [List.foldl_cons, List.length_cons, Nat.pow_succ]
    have h2 : (n * 2 + b.toNat + 1) * 2 ^ ms.length ≤ ((n + 1) * 2) * 2 ^ ms.length := Nat.mul_le_mul_right _ (by omega)
    have h3 : ((n + 1) * 2) * 2 ^ ms.length = (n + 1) * (2 ^ ms.length * 2) := by rw [Nat.mul_assoc, Nat.mul_comm 2]
    omega
theorem num_small (ms : List Bool) (k : Nat) (h : ms.length ≤ k) : num ms < 2 ^ k := by
  have h1 := num_lt ms 0
  have h2 : 2 ^ ms.length ≤ 2 ^ k := Nat.pow_le_pow_right (by omega) h
  unfold num
  omega

theorem num_range (f : Nat → Bool) : ∀ n j, j < n → (num ((List.range n).map f)).testBit j = f (n - 1 - j)
  | n + 1, 0, _ => by
    rw [List.range_succ, List.map_append, List.map_singleton, num_snoc, Nat.testBit_zero]
    simp only [Nat.add_sub_cancel, Nat.sub_zero]
    cases f n <;> simp [Nat.add_mod]
  | n + 1, j + 1, h => by
    rw [List.range_succ, List.map_append, List.map_singleton, num_snoc, Nat.testBit_succ]
    have : (num ((List.range n).map f) * 2 + (f n).toNat) / 2 = num ((List.range n).map f) := by cases f n <;> simp <;> omega
    rw [this, num_range f n j (by omega)]
    congr 1
    omega

/-- The number of 32 bits, each turned. -/
theorem num_win (f : Nat → Bool) (i : Nat) : num ((List.range 32).map fun d => !f (i + d)) = (~~~ win f i).toNat := by
  apply Nat.eq_of_testBit_eq
  intro j
  by_cases h : j < 32
  · rw [num_range _ 32 j h, BitVec.testBit_toNat, BitVec.getLsbD_not, decide_eq_true h]
    have := win_bit f i (31 - j) (by omega)
    rw [show 31 - (31 - j) = j by omega] at this
    rw [this, show 32 - 1 - j = 31 - j by omega]
    simp
  · have h1 := num_small ((List.range 32).map fun d => !f (i + d)) 32 (by simp)
    have h2 := (~~~ win f i).isLt
    rw [Nat.testBit_lt_two_pow (Nat.lt_of_lt_of_le h1 (Nat.pow_le_pow_right (by omega) (by omega))), Nat.testBit_lt_two_pow (Nat.lt_of_lt_of_le h2 (Nat.pow_le_pow_right (by omega) (by omega)))]

/-- The document's answer is the register's, turned. -/
theorem num_div (l : List UInt8) : num ((List.range 32).map fun d => !divn (8 * l.length) (turned fun x => (bits l).getD x false) (8 * l.length + d)) = sum l := by
  rw [num_win]
  have := div_end (bits l)
  rw [bits_length] at this
  rw [this]
  rfl

end Go.Proofs.Ytgjbndhjkhfjlaa.Crc
