/-
  Post, pure: how many bits a spoilt flight differs in from what it was.
-/
import Derived.Test.YtojfabhbkdddpaaPoSpoil
import Derived.Laws.BitsAllLaws
namespace Go.Proofs.Ytojfabhbkdddpaa
open Go.RowKit

/-- How many bits below k. -/
def cnt (k m : Nat) : Nat := (List.range k).countP (fun i => m.testBit i)
theorem and_half (a b : Nat) : (a &&& b) / 2 = a / 2 &&& b / 2 := by
  apply Nat.eq_of_testBit_eq
  intro i
  rw [← Nat.testBit_succ, Nat.testBit_and, Nat.testBit_and, Nat.testBit_succ, Nat.testBit_succ]
theorem cnt_step (k m : Nat) : cnt (k + 1) m = (if m.testBit 0 then 1 else 0) + cnt k (m / 2) := by
  unfold cnt
  rw [List.range_succ_eq_map, List.countP_cons, List.countP_map]
  rw [Nat.add_comm]
  congr 1
  apply List.countP_congr
  intro i _
  simp [Nat.testBit_succ]

theorem cnt_zero (k : Nat) : cnt k 0 = 0 := by
  unfold cnt
  rw [List.countP_eq_zero]
  simp

theorem cnt_le (k m : Nat) : cnt k m ≤ k := by
  unfold cnt
  exact Nat.le_trans List.countP_le_length (by simp)

theorem cnt_drop : ∀ (k x : Nat), 0 < x → x < 2 ^ k → cnt k (x &&& (x - 1)) + 1 = cnt k x
  | 0, x, h0, h1 => by simp at h1; omega
  | k + 1, x, h0, h1 => by
    rw [cnt_step, cnt_step, and_half, Nat.testBit_and]
    rw [Nat.pow_succ] at h1
    by_cases ho : x % 2 = 1
    · have b0 : x.testBit 0 = true := by simp [Nat.testBit_zero, ho]
      have b1 : (x - 1).testBit 0 = false := by simp [Nat.testBit_zero]; omega
      have e : (x - 1) / 2 = x / 2 := by omega
      rw [b0, b1, e, Nat.and_self]
      simp
      omega
    · have b0 : x.testBit 0 = false := by simp [Nat.testBit_zero]; omega
      have e : (x - 1) / 2 = x / 2 - 1 := by omega
      rw [b0, e]
      have := cnt_drop k (x / 2) (by omega) (by omega)
      simp
      exact this

theorem and_pred_lt (x : Nat) (h : 0 < x) : x &&& (x - 1) < x := by
  have := @Nat.and_le_right x (x - 1)
  omega

/-- A bit of a row of bytes, the most significant one of each byte first. -/
def bitAt (y : List UInt8) (p : Nat) : Bool := (y.getD (p / 8) 0).toNat.testBit (7 - p % 8)

theorem one_bit : ∀ r s : Fin 8, (UInt8.ofNat (128 / 2 ^ r.val)).toNat.testBit (7 - s.val) = decide (s = r) := by decide

theorem bit_flip (y : List UInt8) (j p : Nat) (hj : j < 8 * y.length) : bitAt (flipB y j) p = (bitAt y p ^^ decide (p = j)) := by
  unfold bitAt flipB
  by_cases hb : p / 8 = j / 8
  · rw [hb]
    have e : (y.set (j / 8) (y.getD (j / 8) 0 ^^^ UInt8.ofNat (128 / 2 ^ (j % 8)))).getD (j / 8) 0 = y.getD (j / 8) 0 ^^^ UInt8.ofNat (128 / 2 ^ (j % 8)) := by
      simp [List.getD, show j / 8 < y.length by omega]
    rw [e, UInt8.toNat_xor, Nat.testBit_xor]
    congr 1
    have := one_bit ⟨j % 8, by omega⟩ ⟨p % 8, by omega⟩
    rw [this]
    congr 1
    simp
    omega
  · have e : (y.set (j / 8) (y.getD (j / 8) 0 ^^^ UInt8.ofNat (128 / 2 ^ (j % 8)))).getD (p / 8) 0 = y.getD (p / 8) 0 := by
      simp only [List.getD]
      rw [List.getElem?_set_ne (fun e => hb e.symm)]
    rw [e, show decide (p = j) = false by simp; omega]
    simp

/-- Is it one of the first k bits of the mask, which is laid from bit f on? -/
def inMask (f m k p : Nat) : Bool := decide (f ≤ p ∧ p < f + k) && m.testBit (31 - (p - f))

theorem turn_bits (l : List UInt8) (f m : Nat) (hf : f + 32 ≤ 8 * l.length) (p : Nat) : ∀ k, k ≤ 32 → bitAt (turnN l f m k) p = (bitAt l p ^^ inMask f m k p)
  | 0, _ => by
    have : inMask f m 0 p = false := by unfold inMask; simp; omega
    rw [this]
    simp [turnN]
  | k + 1, hk => by
    have ih := turn_bits l f m hf p k (by omega)
    have hs : inMask f m (k + 1) p = (inMask f m k p ^^ (decide (p = f + k) && m.testBit (31 - k))) := by
      unfold inMask
      by_cases h1 : p = f + k
      · subst h1
        rw [show f + k - f = k by omega]
        simp
      · rw [show decide (p = f + k) = false by simp [h1]]
        rw [show decide (f ≤ p ∧ p < f + (k + 1)) = decide (f ≤ p ∧ p < f + k) by congr 1; apply propext; omega]
        simp
    unfold turnN
    cases hb : m.testBit (31 - k) with
    | true =>
      rw [if_pos rfl, bit_flip _ _ _ (by rw [turnN_length]; omega), ih, hs, hb]
      simp
    | false =>
      rw [if_neg (by simp), ih, hs, hb]
      simp

/-- So many bits are different in the first n bytes. -/
def difN (x y : List UInt8) : Nat → Nat
  | 0 => 0
  | n + 1 => difN x y n + cnt 8 (x.getD n 0 ^^^ y.getD n 0).toNat

theorem cnt8_rev (m : Nat) : (List.range 8).countP (fun s => m.testBit (7 - s)) = cnt 8 m := by
  unfold cnt
  rw [show List.range 8 = [0, 1, 2, 3, 4, 5, 6, 7] from rfl]
  simp only [List.countP_cons, List.countP_nil]
  simp only [Nat.sub_zero, Nat.reduceSub, Nat.sub_self]
  omega
theorem cnt32_rev (m : Nat) : (List.range 32).countP (fun s => m.testBit (31 - s)) = cnt 32 m := by
  unfold cnt
  rw [show List.range 32 = [0, 1, 2, 3, 4, 5, 6, 7, 8, 9, 10, 11, 12, 13, 14, 15, 16, 17, 18, 19, 20, 21, 22, 23, 24, 25, 26, 27, 28, 29, 30, 31] from rfl]
  simp only [List.countP_cons, List.countP_nil]
  simp only [Nat.sub_zero, Nat.reduceSub, Nat.sub_self]
  omega

theorem dif_count (x y : List UInt8) : ∀ n, difN x y n = (List.range (8 * n)).countP (fun p => bitAt x p ^^ bitAt y p)
  | 0 => rfl
  | n + 1 => by
    rw [difN, dif_count x y n, show 8 * (n + 1) = 8 * n + 8 by omega, List.range_add, List.countP_append, List.countP_map, ← cnt8_rev]
    congr 1
    apply List.countP_congr
    intro s hs
    rw [List.mem_range] at hs
    simp only [Function.comp, bitAt]
    rw [show (8 * n + s) / 8 = n by omega, show (8 * n + s) % 8 = s by omega, UInt8.toNat_xor, Nat.testBit_xor]

theorem mask_count (f m n : Nat) (h : f + 32 ≤ n) : (List.range n).countP (fun p => inMask f m 32 p) = cnt 32 m := by
  obtain ⟨d, rfl⟩ : ∃ d, n = f + 32 + d := ⟨n - (f + 32), by omega⟩
  rw [List.range_add, List.range_add, List.countP_append, List.countP_append, List.countP_map, List.countP_map, ← cnt32_rev]
  have e1 : (List.range f).countP (fun p => inMask f m 32 p) = 0 := by
    rw [List.countP_eq_zero]
    intro p hp
    rw [List.mem_range] at hp
    unfold inMask
    simp
    omega
  have e2 : (List.range d).countP ((fun p => inMask f m 32 p) ∘ fun x => f + 32 + x) = 0 := by
    rw [List.countP_eq_zero]
    intro p hp
    unfold inMask
    simp
    omega
  rw [e1, e2, Nat.zero_add, Nat.add_zero]
  apply List.countP_congr
  intro s hs
  rw [List.mem_range] at hs
  simp only [Function.comp, inMask]
  rw [show f + s - f = s by omega, show decide (f ≤ f + s ∧ f + s < f + 32) = true by simp; omega]
  simp

/-- A flight that is spoilt differs in just so many bits as the mask has. -/
theorem dif_turn (l : List UInt8) (f m : Nat) (hf : f + 32 ≤ 8 * l.length) : difN (turnL l f m) l l.length = cnt 32 m := by
  rw [dif_count, ← mask_count f m (8 * l.length) hf]
  apply List.countP_congr
  intro p _
  unfold turnL
  rw [turn_bits l f m hf p 32 (by omega)]
  cases bitAt l p <;> cases inMask f m 32 p <;> simp
end Go.Proofs.Ytojfabhbkdddpaa
