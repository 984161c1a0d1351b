/-
  Plain mathematics of a burst in bytes: which bit of which byte is turned.
-/
import Derived.Test.YtplijlgkchbdaaaCrcMath
namespace Go.Proofs.Ytplijlgkchbdaaa.Crc

theorem getD_left (a b : List Bool) (n : Nat) (h : n < a.length) : (a ++ b).getD n false = a.getD n false := by
  rw [List.getD_eq_getElem?_getD, List.getElem?_append_left h, ← List.getD_eq_getElem?_getD]
theorem getD_right (a b : List Bool) (n : Nat) (h : a.length ≤ n) : (a ++ b).getD n false = b.getD (n - a.length) false := by
  rw [List.getD_eq_getElem?_getD, List.getElem?_append_right h, ← List.getD_eq_getElem?_getD]

theorem bits_at : ∀ (l : List UInt8) (p : Nat), (bits l).getD p false = (l.getD (p / 8) 0).toNat.testBit (7 - p % 8)
  | [], p => by simp [bits]
  | c :: l, p => by
    have ih := bits_at l (p - 8)
    show (byteBits c ++ bits l).getD p false = _
    by_cases h : p < 8
    · rw [getD_left _ _ _ (by simpa [byteBits] using h), show p / 8 = 0 by omega, show p % 8 = p by omega, List.getD_cons_zero]
      match p, h with
      | 0, _ | 1, _ | 2, _ | 3, _ | 4, _ | 5, _ | 6, _ | 7, _ => rfl
    · rw [getD_right _ _ _ (by simp [byteBits]; omega), show (byteBits c).length = 8 from rfl, ih, show p / 8 = (p - 8) / 8 + 1 by omega, List.getD_cons_succ, show (p - 8) % 8 = p % 8 by omega]

/-- The bytes with the bit at place P turned. -/
def flip (l : List UInt8) (P : Nat) : List UInt8 := l.set (P / 8) (l.getD (P / 8) 0 ^^^ UInt8.ofNat (128 / 2 ^ (P % 8)))

theorem flip_length (l : List UInt8) (P : Nat) : (flip l P).length = l.length := by simp [flip]

theorem flip_byte (c : UInt8) (r s : Nat) (hr : r < 8) (hs : s < 8) : (c ^^^ UInt8.ofNat (128 / 2 ^ r)).toNat.testBit (7 - s) = (c.toNat.testBit (7 - s) ^^ decide (s = r)) := by
  rw [UInt8.toNat_xor, Nat.testBit_xor]
  congr 1
  have : ∀ a b : Fin 8, (UInt8.ofNat (128 / 2 ^ a.val)).toNat.testBit (7 - b.val) = decide (b.val = a.val) := by decide
  exact this ⟨r, hr⟩ ⟨s, hs⟩

theorem flip_at (l : List UInt8) (P p : Nat) (hP : P / 8 < l.length) : (bits (flip l P)).getD p false = ((bits l).getD p false ^^ decide (p = P)) := by
  rw [bits_at, bits_at]
  unfold flip
  by_cases h : p / 8 = P / 8
  · rw [← h] at hP ⊢
    rw [List.getD_eq_getElem?_getD, List.getElem?_set_self hP, Option.getD_some, flip_byte _ _ _ (by omega) (by omega)]
    congr 1
    rw [Bool.eq_iff_iff]
    simp
    omega
  · rw [List.getD_eq_getElem?_getD, List.getElem?_set_ne (fun e => h e.symm), ← List.getD_eq_getElem?_getD, decide_eq_false (by intro e; exact h (by rw [e]))]
    simp

/-- What the law's loop keeps behind k rounds: the bits from place 'from' on are turned as the mask says. -/
structure Turned (l y : List UInt8) (start k : Nat) (mask : BitVec 32) : Prop where
  len : y.length = l.length
  at_ : ∀ p, (bits y).getD p false = ((bits l).getD p false ^^ (decide (start ≤ p ∧ p < start + k) && mask.getLsbD (31 - (p - start))))

theorem Turned.start (l : List UInt8) (start : Nat) (mask : BitVec 32) : Turned l l start 0 mask :=
  ⟨rfl, fun p => by rw [decide_eq_false (by omega)]; simp⟩

theorem Turned.skip {l y : List UInt8} {start k : Nat} {mask : BitVec 32} (h : Turned l y start k mask) (hm : mask.getLsbD (31 - k) = false) : Turned l y start (k + 1) mask := by
  refine ⟨h.len, fun p => ?_⟩
  rw [h.at_ p]
  congr 1
  by_cases hp : p = start + k
  · subst hp
    rw [show start + k - start = k by omega, hm]
    simp
  · congr 1
    rw [Bool.eq_iff_iff]
    simp
    omega

theorem Turned.turn {l y : List UInt8} {start k : Nat} {mask : BitVec 32} (h : Turned l y start k mask) (hm : mask.getLsbD (31 - k) = true) (hl : start + k < 8 * l.length) : Turned l (flip y (start + k)) start (k + 1) mask := by
  refine ⟨by rw [flip_length]; exact h.len, fun p => ?_⟩
  rw [flip_at _ _ _ (by rw [h.len]; omega), h.at_ p, Bool.xor_assoc]
  congr 1
  by_cases hp : p = start + k
  · subst hp
    rw [show start + k - start = k by omega, hm, decide_eq_false (by omega), decide_eq_true (by omega : start ≤ start + k ∧ start + k < start + (k + 1))]
    simp
  · rw [decide_eq_false hp, Bool.xor_false]
    congr 1
    rw [Bool.eq_iff_iff]
    simp
    omega

theorem xorb_self : ∀ (l m : List UInt8), l.length = m.length → xorb l (xorb l m) = m
  | [], [], _ => rfl
  | a :: l, b :: m, h => by
    show (a ^^^ (a ^^^ b)) :: xorb l (xorb l m) = b :: m
    rw [xorb_self l m (by simpa using h), ← UInt8.xor_assoc, UInt8.xor_self, UInt8.zero_xor]
  | [], _ :: _, h => by simp at h
  | _ :: _, [], h => by simp at h

theorem xorl_at : ∀ (a b : List Bool) (p : Nat), a.length = b.length → (xorl a b).getD p false = (a.getD p false ^^ b.getD p false)
  | [], [], _, _ => rfl
  | x :: a, y :: b, 0, _ => rfl
  | x :: a, y :: b, p + 1, h => by
    show (xorl a b).getD p false = _
    rw [xorl_at a b p (by simpa using h)]
    rfl
  | [], _ :: _, _, h => by simp at h
  | _ :: _, [], _, h => by simp at h

theorem xorl_length : ∀ (a b : List Bool), a.length = b.length → (xorl a b).length = a.length
  | [], [], _ => rfl
  | x :: a, y :: b, h => by show (xorl a b).length + 1 = a.length + 1; rw [xorl_length a b (by simpa using h)]
  | [], _ :: _, h => by simp at h
  | _ :: _, [], h => by simp at h

theorem word_at (v : BitVec 32) (i : Nat) (h : i < 32) : (wordBits v).getD i false = v.getLsbD (31 - i) := by
  simp [wordBits, List.getD, h]

/-- Bytes with their sum, bits turned within 32 neighbours: they are right just if none was turned. -/
theorem right_turned (l y : List UInt8) (start : Nat) (mask : BitVec 32) (h4 : 4 ≤ l.length) (hr : right l = true) (hs : start + 32 ≤ 8 * l.length) (h : Turned l y start 32 mask) : right y = decide (mask = 0#32) := by
  have hb : bits (xorb l y) = List.replicate start false ++ wordBits mask ++ List.replicate (8 * l.length - (start + 32)) false := by
    rw [bits_xor l y h.len.symm]
    have hll : (bits l).length = (bits y).length := by rw [bits_length, bits_length, h.len]
    have hl1 : (xorl (bits l) (bits y)).length = 8 * l.length := by rw [xorl_length _ _ hll, bits_length]
    have hl2 : (List.replicate start false ++ wordBits mask ++ List.replicate (8 * l.length - (start + 32)) false).length = 8 * l.length := by simp [wordBits]; omega
    apply List.ext_getElem (by rw [hl1, hl2])
    intro p h1 h2
    have e1 : (xorl (bits l) (bits y))[p] = (xorl (bits l) (bits y)).getD p false := by simp [List.getD, h1]
    have e2 : (List.replicate start false ++ wordBits mask ++ List.replicate (8 * l.length - (start + 32)) false)[p] = (List.replicate start false ++ wordBits mask ++ List.replicate (8 * l.length - (start + 32)) false).getD p false := by
      rw [List.getD_eq_getElem?_getD, List.getElem?_eq_getElem h2]; rfl
    rw [e1, e2, xorl_at _ _ _ hll, h.at_ p, ← Bool.xor_assoc, Bool.xor_self, Bool.false_xor]
    have hw : (wordBits mask).length = 32 := by simp [wordBits]
    by_cases ha : p < start
    · rw [List.append_assoc, getD_left _ _ _ (by simpa using ha), decide_eq_false (by omega)]
      simp [List.getD, ha]
    · by_cases hc : p < start + 32
      · rw [List.append_assoc, getD_right _ _ _ (by simp; omega), getD_left _ _ _ (by rw [hw]; simp; omega), List.length_replicate, word_at _ _ (by omega), decide_eq_true (by omega)]
        rfl
      · rw [getD_right _ _ _ (by simp [hw]; omega), decide_eq_false (by omega)]
        rw [List.getD_eq_getElem?_getD, List.getElem?_replicate]
        split <;> rfl
  have hm : right y = true ↔ cbs 0#32 (bits (xorb l y)) = 0#32 := by
    have := right_xor l (xorb l y) (by rw [xorb_length _ _ h.len.symm]) h4 hr
    rwa [xorb_self l y h.len.symm] at this
  rw [hb] at hm
  rw [Bool.eq_iff_iff, hm, decide_eq_true_eq]
  constructor
  · intro e
    by_cases ht : true ∈ wordBits mask
    · exact absurd e (burst start _ (wordBits mask) (by simp [wordBits]) ht)
    · apply BitVec.eq_of_getLsbD_eq
      intro i hi
      have h1 := word_at mask (31 - i) (by omega)
      rw [show 31 - (31 - i) = i by omega] at h1
      rw [← h1, BitVec.getLsbD_zero]
      cases hv : (wordBits mask).getD (31 - i) false with
      | false => rfl
      | true =>
        exfalso
        apply ht
        rw [List.getD_eq_getElem?_getD, List.getElem?_eq_getElem (by simp [wordBits]; omega), Option.getD_some] at hv
        rw [← hv]
        exact List.getElem_mem _
  · rintro rfl
    have hz : wordBits 0#32 = List.replicate 32 false := by decide
    rw [hz, List.replicate_append_replicate, List.replicate_append_replicate]
    exact no_burst _
end Go.Proofs.Ytplijlgkchbdaaa.Crc
