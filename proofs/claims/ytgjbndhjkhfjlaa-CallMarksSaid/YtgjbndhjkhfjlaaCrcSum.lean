/-
  What the program's crc.shifted and crc.Sum give: the register over eight bits; the sum of bytes.
-/
import Derived.Test.YtgjbndhjkhfjlaaGen
import Derived.Test.YtgjbndhjkhfjlaaCrcMath
import Derived.Deep.LoopGhost
namespace Go.Proofs.Ytgjbndhjkhfjlaa
open Go.RowKit

theorem bits_xor_nat (k : IntKind) (j : Nat) (hj : j ≤ k.bits) (hk : ∀ n : Int, 0 ≤ n → n < 2 ^ j → k.wrap n = n) (a b : Nat) (ha : a < 2 ^ j) (hb : b < 2 ^ j) :
    bits .xor k a b = ((a ^^^ b : Nat) : Int) := by
  have hp : 2 ^ j ≤ 2 ^ k.bits := Nat.pow_le_pow_right (by decide) hj
  have ha' : a % 2 ^ k.bits = a := Nat.mod_eq_of_lt (Nat.lt_of_lt_of_le ha hp)
  have hb' : b % 2 ^ k.bits = b := Nat.mod_eq_of_lt (Nat.lt_of_lt_of_le hb hp)
  simp only [bits, BitVec.ofInt_natCast, BitVec.toNat_xor, BitVec.toNat_ofNat, ha', hb']
  exact hk _ (Int.natCast_nonneg _) (by exact_mod_cast Nat.xor_lt_two_pow ha hb)

theorem wraps_u32 (n : Int) (h₀ : 0 ≤ n) (h₁ : n < 2 ^ 32) : IntKind.u32.wrap n = n := by rw [IntKind.wrap_u32]; omega

theorem xor_u32 (a b : Nat) (ha : a < 4294967296) (hb : b < 4294967296) : bits .xor .u32 (a : Int) (b : Int) = ((a ^^^ b : Nat) : Int) :=
  bits_xor_nat .u32 32 (by decide) wraps_u32 a b ha hb
theorem xor_u8 (a b : Nat) (ha : a < 256) (hb : b < 256) : bits .xor .u8 (a : Int) (b : Int) = ((a ^^^ b : Nat) : Int) :=
  bits_xor_nat .u8 8 (by decide) wraps_u8 a b ha hb

namespace Crc
theorem st_nat (q : BitVec 32) : ((st q).toNat : Int) = if (q.toNat : Int) / 2147483648 == 1 then Go.bits .xor .u32 ((q.toNat : Int) * 2 % 4294967296) 79764919 else (q.toNat : Int) * 2 % 4294967296 := by
  have hq := q.isLt
  have hm : q.msb = ((q.toNat : Int) / 2147483648 == 1) := by
    rw [BitVec.msb_eq_decide]
    by_cases h : 2 ^ (32 - 1) ≤ q.toNat
    · rw [decide_eq_true h]; symm; rw [beq_iff_eq]; omega
    · rw [decide_eq_false h]; symm; rw [beq_eq_false_iff_ne]; omega
  have e2 : (q.toNat : Int) * 2 % 4294967296 = ((q.toNat * 2 % 4294967296 : Nat) : Int) := by omega
  have e3 : (q <<< 1).toNat = q.toNat * 2 % 4294967296 := by
    rw [BitVec.toNat_shiftLeft, Nat.shiftLeft_eq]
  rw [← hm, e2]
  unfold st
  cases q.msb with
  | false =>
    simp only [Bool.false_eq_true, if_false, BitVec.xor_zero]
    rw [e3]
  | true =>
    simp only [if_true]
    rw [show (79764919 : Int) = ((79764919 : Nat) : Int) from rfl, xor_u32 _ _ (by omega) (by omega), BitVec.toNat_xor, e3]
    rfl
end Crc

def regv (r : BitVec 32) : Value := .int .u32 r.toNat

set_option maxHeartbeats 2000000 in
theorem shifted_any (r : BitVec 32) (w : World) :
    Calls Try.prog 38 #[regv r] w fun e w' => e = .returned (regv (Crc.its 8 r)) ∧ w' = w := by
  unfold regv
  have hr := r.isLt
  go_enter Try.func38, Try.ntmps38
  go_wp2_with fail
  go_loopg [0, 4] 8 (fun g s i wr => ∃ (k : Nat) (q : BitVec 32), k ≤ 8 ∧ g = 8 - k ∧ i = .int .i64 k ∧ s = .int .u32 q.toNat ∧ Crc.its (8 - k) q = Crc.its 8 r ∧ wr = w)
  case atStart => exact ⟨0, r, Nat.zero_le _, rfl, rfl, rfl, rfl, rfl⟩
  case round =>
    obtain ⟨k, q, hk, rfl, rfl, rfl, he, rfl⟩ := hrel
    by_cases hlt : k < 8
    · have hq := q.isLt
      have hn := Crc.st_nat q
      have hs : Crc.its (8 - (k + 1)) (Crc.st q) = Crc.its 8 r := by rw [← he, show 8 - k = 8 - (k + 1) + 1 by omega]; rfl
      have HE := Lib.hid hs; clear he hs
      have HN := Lib.hid hn; clear hn
      go_wp2_with fail
      · rename_i h1 h2
        have hn := HN.out
        rw [h2, if_pos rfl] at hn
        go_roundg (8 - (k + 1))
        case measure => omega
        case rel => exact ⟨k + 1, Crc.st q, by omega, rfl, by simp, by rw [hn], HE.out, rfl⟩
      · rename_i h1 h2
        have hn := HN.out
        rw [h2] at hn
        simp only [Bool.false_eq_true, if_false] at hn
        go_roundg (8 - (k + 1))
        case measure => omega
        case rel => exact ⟨k + 1, Crc.st q, by omega, rfl, by simp, by rw [hn], HE.out, rfl⟩
    · obtain rfl : k = 8 := by omega
      have HE := Lib.hid he; clear he
      go_wp2_with fail
      go_ret
      have := HE.out
      refine ⟨?_, rfl⟩
      rw [← this]
      rfl

theorem Crc.topl_byte (c : UInt8) : (Crc.topl (Crc.byteBits c)).toNat = c.toNat * 16777216 := by
  have h : ∀ k : Fin 256, (Crc.topl (Crc.byteBits (UInt8.ofNat k.val))).toNat = (UInt8.ofNat k.val).toNat * 16777216 := by decide +kernel
  have := h ⟨c.toNat, c.toNat_lt⟩
  simpa using this

theorem Crc.cbs_byte (q : BitVec 32) (c : UInt8) : Crc.its 8 (q ^^^ Crc.topl (Crc.byteBits c)) = Crc.cbs q (Crc.byteBits c) := by
  rw [Crc.cbs_its _ _ (by simp [Crc.byteBits])]
  rfl

theorem Crc.xor_byte (q : BitVec 32) (c : UInt8) : Go.bits .xor .u32 (q.toNat : Int) ((c.toNat : Int) * 16777216) = ((q ^^^ Crc.topl (Crc.byteBits c)).toNat : Int) := by
  have hc := c.toNat_lt
  rw [show (c.toNat : Int) * 16777216 = ((c.toNat * 16777216 : Nat) : Int) by omega, xor_u32 _ _ q.isLt (by omega), BitVec.toNat_xor, Crc.topl_byte]

theorem Crc.not_reg (q : BitVec 32) : Go.bits .xor .u32 IntKind.u32.max (q.toNat : Int) = ((~~~ q).toNat : Int) := by
  rw [show IntKind.u32.max = ((4294967295 : Nat) : Int) from rfl, xor_u32 _ _ (by omega) q.isLt, ← Crc.ones_xor, BitVec.toNat_xor, Nat.xor_comm]
  rfl

set_option maxHeartbeats 2000000 in
theorem sum_any (v : Value) (l : List UInt8) (w : World) (hs : Sees w v l) (hl : l.length ≤ 100000) :
    Calls Try.prog 32 #[v] w fun e w' => e = .returned (.int .u32 (Crc.sum l)) ∧ w' = w := by
  obtain ⟨a, c, rfl, hn⟩ := hs.shape
  clear hn
  go_enter Try.func32, Try.ntmps32
  go_wp2_with fail
  go_loopg [3, 8] l.length (fun g s i wr => ∃ k : Nat, k ≤ l.length ∧ g = l.length - k ∧ i = .int .i64 k ∧ s = .int .u32 (Crc.reg (l.take k)).toNat ∧ wr = w)
  case atStart => exact ⟨0, Nat.zero_le _, rfl, rfl, rfl, rfl⟩
  case round =>
    obtain ⟨k, hkl, rfl, rfl, rfl, rfl⟩ := hrel
    by_cases hlt : k < l.length
    · rcases hs with ⟨h0, _⟩ | ⟨g, off, cap, e, hle, hc⟩
      · rw [h0] at hlt; simp at hlt
      simp only [Value.slice.injEq] at e
      obtain ⟨rfl, _, rfl⟩ := e
      have hc0 := hc k hlt
      unfold bv at hc0
      clear hc
      have hrg : Crc.cbs (Crc.reg (l.take k)) (Crc.byteBits (l.getD k 0)) = Crc.reg (l.take (k + 1)) := by
        unfold Crc.reg
        rw [List.take_succ_eq_append_getElem hlt, Crc.bits_append, Crc.cbs_append]
        simp [Crc.bits, List.getD, hlt]
      generalize l.getD k 0 = ch at *
      generalize Crc.reg (l.take k) = q at *
      have hx := Crc.xor_byte q ch
      have HR := Lib.hid hrg; clear hrg
      have HX := Lib.hid hx; clear hx
      have hcb := ch.toNat_lt
      go_wp2_with fail
      rw [HX.out]
      refine (shifted_any _ _).mono ?_
      rintro e w1 ⟨rfl, rfl⟩
      unfold regv
      rw [Crc.cbs_byte, HR.out]
      go_wp2_with fail
      go_roundg (l.length - (k + 1))
      case measure => omega
      case rel => exact ⟨k + 1, by omega, rfl, by simp, rfl, rfl⟩
    · obtain rfl : k = l.length := by omega
      have hnr := Crc.not_reg (Crc.reg l)
      rw [List.take_length]
      generalize hq : Crc.reg l = q at *
      have HN := Lib.hid hnr; clear hnr
      have HQ := Lib.hid hq; clear hq
      have hlt2 := q.isLt
      go_wp2_with fail
      go_ret
      refine ⟨?_, rfl⟩
      unfold Crc.sum
      rw [HQ.out, ← HN.out]
      rfl

end Go.Proofs.Ytgjbndhjkhfjlaa
