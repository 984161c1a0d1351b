/-
  What the program's crc.shifted and crc.Sum give: the register over eight bits; the sum of bytes.
-/
import Derived.Test.YtcjijafmfomohaaGen
import Derived.Test.YtcjijafmfomohaaCrcMath
import Derived.Deep.LoopGhost
namespace Go.Proofs.Ytcjijafmfomohaa
open Go.RowKit

theorem bits_xor_nat (k : IntKind) (j : Nat) (hj : j ≤ k.bits) (hk : ∀ n : Int, 0 ≤ n → n < 2 ^ j → k.wrap n = n) (a b : Nat) (ha : a < 2 ^ j) (hb : b < 2 ^ j) :
    bits .xor k a b = ((a ^^^ b : Nat) : Int) := by
  have hp : 2 ^ j ≤ 2 ^ k.bits := Nat.pow_le_pow_right (by decide) hj
  have ha' : a % 2 ^ k.bits = a := Nat.mod_eq_of_lt (Nat.lt_of_lt_of_le ha hp)
  have hb' : b % 2 ^ k.bits = b := Nat.mod_eq_of_lt (Nat.lt_of_lt_of_le hb hp)
  simp only [bits, BitVec.ofInt_natCast, BitVec.toNat_xor, BitVec.toNat_ofNat, ha', hb']
  exact hk _ (Int.natCast_nonneg _) (by exact_mod_cast Nat.xor_lt_two_pow ha hb)

theorem wraps_u32 (n : Int) (h₀ : 0 ≤ n) (h₁ : n < 2 ^ 32) : IntKind.u32.wrap n = n := by rw [IntKind.wrap_u32]; omega

theorem xor_u32 (a b : Nat) (ha : a < 4294967296) (hb : b < 4294967296) : bits .xor .u32 (a : Int) (b : Int) = ((a ^^^ b : Nat) : Int) :=
  bits_xor_nat .u32 32 (by decide) wraps_u32 a b ha hb
theorem xor_u8 (a b : Nat) (ha : a < 256) (hb : b < 256) : bits .xor .u8 (a : Int) (b : Int) = ((a ^^^ b : Nat) : Int) :=
  bits_xor_nat .u8 8 (by decide) wraps_u8 a b ha hb

namespace Crc
theorem st_nat (q : BitVec 32) : ((st q).toNat : Int) = if (q.toNat : Int) / 2147483648 == 1 then Go.bits .xor .u32 ((q.toNat : Int) * 2 % 4294967296) 79764919 else (q.toNat : Int) * 2 % 4294967296 := by
  have hq := q.isLt
  have hm : q.msb = ((q.toNat : Int) / 2147483648 == 1) := by
    rw [BitVec.msb_eq_decide]
    by_cases h : 2 ^ (32 - 1) ≤ q.toNat
    · rw [decide_eq_true h]; symm; rw [beq_iff_eq]; omega
    · rw [decide_eq_false h]; symm; rw [beq_eq_false_iff_ne]; omega
  have e2 : (q.toNat : Int) * 2 % 4294967296 = ((q.toNat * 2 % 4294967296 : Nat) : Int) := by omega
  have e3 : (q <<< 1).toNat = q.toNat * 2 % 4294967296 := by
    rw [BitVec.toNat_shiftLeft, Nat.shiftLeft_eq]
  rw [← hm, e2]
  unfold st
  cases q.msb with
  | false =>
    simp only [Bool.false_eq_true, if_false, BitVec.xor_zero]
    rw [e3]
  | true =>
    simp only [if_true]
    rw [show (79764919 : Int) = ((79764919 : Nat) : Int) from rfl, xor_u32 _ _ (by omega) (by omega), BitVec.toNat_xor, e3]
    rfl
end Crc

def regv (r : BitVec 32) : Value := .int .u32 r.toNat

theorem Crc.topl_byte (c : UInt8) : (Crc.topl (Crc.byteBits c)).toNat = c.toNat * 16777216 := by
  have h : ∀ k : Fin 256, (Crc.topl (Crc.byteBits (UInt8.ofNat k.val))).toNat = (UInt8.ofNat k.val).toNat * 16777216 := by decide +kernel
  have := h ⟨c.toNat, c.toNat_lt⟩
  simpa using this

theorem Crc.cbs_byte (q : BitVec 32) (c : UInt8) : Crc.its 8 (q ^^^ Crc.topl (Crc.byteBits c)) = Crc.cbs q (Crc.byteBits c) := by
  rw [Crc.cbs_its _ _ (by simp [Crc.byteBits])]
  rfl

theorem Crc.xor_byte (q : BitVec 32) (c : UInt8) : Go.bits .xor .u32 (q.toNat : Int) ((c.toNat : Int) * 16777216) = ((q ^^^ Crc.topl (Crc.byteBits c)).toNat : Int) := by
  have hc := c.toNat_lt
  rw [show (c.toNat : Int) * 16777216 = ((c.toNat * 16777216 : Nat) : Int) by omega, xor_u32 _ _ q.isLt (by omega), BitVec.toNat_xor, Crc.topl_byte]

theorem Crc.not_reg (q : BitVec 32) : Go.bits .xor .u32 IntKind.u32.max (q.toNat : Int) = ((~~~ q).toNat : Int) := by
  rw [show IntKind.u32.max = ((4294967295 : Nat) : Int) from rfl, xor_u32 _ _ (by omega) q.isLt, ← Crc.ones_xor, BitVec.toNat_xor, Nat.xor_comm]
  rfl

end Go.Proofs.Ytcjijafmfomohaa
