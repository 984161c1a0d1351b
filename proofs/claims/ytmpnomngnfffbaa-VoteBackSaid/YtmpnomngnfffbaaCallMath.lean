/-
  Marks: sums of bytes that differ in one place differ.
-/
import Derived.Test.YtmpnomngnfffbaaCallPut
namespace Go.Proofs.Ytmpnomngnfffbaa
open Go.RowKit

theorem Crc.cb_inj {a b : BitVec 32} {m : Bool} (h : Crc.cb a m = Crc.cb b m) : a = b := by
  unfold Crc.cb at h
  have h1 : Crc.st ((a ^^^ Crc.top m) ^^^ (b ^^^ Crc.top m)) = 0#32 := by rw [Crc.st_xor, h, BitVec.xor_self]
  have h2 := Crc.st_eq_zero h1
  have h3 : (a ^^^ Crc.top m) = (b ^^^ Crc.top m) := by
    have := congrArg (· ^^^ (b ^^^ Crc.top m)) h2
    simpa [BitVec.xor_assoc] using this
  have := congrArg (· ^^^ Crc.top m) h3
  simpa [BitVec.xor_assoc] using this

theorem Crc.cbs_inj : ∀ (ms : List Bool) {a b : BitVec 32}, Crc.cbs a ms = Crc.cbs b ms → a = b
  | [], _, _, h => h
  | m :: ms, a, b, h => Crc.cb_inj (Crc.cbs_inj ms (a := Crc.cb a m) (b := Crc.cb b m) h)

theorem Crc.byte_inj {r : BitVec 32} {c d : UInt8} (h : Crc.cbs r (Crc.byteBits c) = Crc.cbs r (Crc.byteBits d)) : c = d := by
  rw [Crc.cbs_its _ _ (by simp [Crc.byteBits]), Crc.cbs_its _ _ (by simp [Crc.byteBits])] at h
  have h1 := Crc.its_inj h
  have h2 : Crc.topl (Crc.byteBits c) = Crc.topl (Crc.byteBits d) := by
    have := congrArg (r ^^^ ·) h1
    simpa [← BitVec.xor_assoc] using this
  have h3 := congrArg BitVec.toNat h2
  rw [Crc.topl_byte, Crc.topl_byte] at h3
  have : c.toNat = d.toNat := by omega
  exact UInt8.toNat_inj.1 this

theorem Crc.sum_one (P Q : List UInt8) (c d : UInt8) : Crc.sum (P ++ c :: Q) = Crc.sum (P ++ d :: Q) ↔ c = d := by
  constructor
  · intro h
    unfold Crc.sum at h
    have h1 : ~~~ Crc.reg (P ++ c :: Q) = ~~~ Crc.reg (P ++ d :: Q) := BitVec.eq_of_toNat_eq h
    have h2 : Crc.reg (P ++ c :: Q) = Crc.reg (P ++ d :: Q) := by
      have := congrArg (~~~ ·) h1
      simpa using this
    unfold Crc.reg at h2
    rw [Crc.bits_append, Crc.bits_append, Crc.cbs_append, Crc.cbs_append] at h2
    have e : ∀ x : UInt8, Crc.bits (x :: Q) = Crc.byteBits x ++ Crc.bits Q := fun x => by simp [Crc.bits]
    rw [e, e, Crc.cbs_append, Crc.cbs_append] at h2
    exact Crc.byte_inj (Crc.cbs_inj _ h2)
  · rintro rfl; rfl

theorem xor_self_iff (c b : UInt8) : (c ^^^ b = c) ↔ b = 0 := by
  constructor
  · intro h
    have := congrArg (c ^^^ ·) h
    simpa [← UInt8.xor_assoc] using this
  · rintro rfl; simp

/-- One byte of the arguments turned: another mark. -/
theorem mark_byte (t n p : Int) (l : List UInt8) (i : Nat) (hi : i < l.length) (b : UInt8) :
    decide (Crc.sum (callB t n p l) = Crc.sum (callB t n p (l.set i (l.getD i 0 ^^^ b)))) = decide (b = 0) := by
  have h1 : ∀ c : UInt8, callB t n p (l.set i c) = (be2 t.toNat ++ be2 n.toNat ++ be2 p.toNat ++ be2 l.length ++ l.take i) ++ c :: (l.drop (i + 1) ++ (if l.length % 2 = 1 then [0] else [])) := by
    intro c
    unfold callB txt
    rw [List.length_set, List.set_eq_take_append_cons_drop, if_pos hi]
    simp
  have h0 : l = l.set i (l.getD i 0) := by
    have : l.getD i 0 = l[i] := by simp [List.getD, hi]
    rw [this, List.set_getElem_self]
  have h2 : Crc.sum (callB t n p l) = Crc.sum (callB t n p (l.set i (l.getD i 0))) := by rw [← h0]
  rw [h2, h1, h1, decide_eq_decide, Crc.sum_one, eq_comm]
  exact xor_self_iff _ _

/-- The number turned: another mark. -/
theorem mark_num (t p : Int) (n : Nat) (l : List UInt8) (b : UInt8) :
    decide (Crc.sum (callB t n p l) = Crc.sum (callB t ((n ^^^ b.toNat : Nat) : Int) p l)) = decide (b = 0) := by
  have hb := UInt8.toNat_lt b
  have e1 : (n ^^^ b.toNat) / 256 = n / 256 := by
    have := Nat.xor_div_two_pow (a := n) (b := b.toNat) (n := 8)
    rw [show 2 ^ 8 = 256 from rfl] at this
    rw [this, Nat.div_eq_of_lt hb, Nat.xor_zero]
  have e2 : (n ^^^ b.toNat) % 256 = (n % 256) ^^^ b.toNat := by
    have := Nat.xor_mod_two_pow (a := n) (b := b.toNat) (n := 8)
    rw [show 2 ^ 8 = 256 from rfl] at this
    rw [this, Nat.mod_eq_of_lt hb]
  have h1 : ∀ c : UInt8, be2 t.toNat ++ [UInt8.ofNat (n / 256), c] ++ be2 p.toNat ++ txt l = (be2 t.toNat ++ [UInt8.ofNat (n / 256)]) ++ c :: (be2 p.toNat ++ txt l) := by
    intro c; simp
  have k1 : callB t n p l = (be2 t.toNat ++ [UInt8.ofNat (n / 256)]) ++ UInt8.ofNat (n % 256) :: (be2 p.toNat ++ txt l) := by
    unfold callB
    rw [← h1]; rfl
  have k2 : callB t ((n ^^^ b.toNat : Nat) : Int) p l = (be2 t.toNat ++ [UInt8.ofNat (n / 256)]) ++ UInt8.ofNat ((n % 256) ^^^ b.toNat) :: (be2 p.toNat ++ txt l) := by
    unfold callB
    rw [← h1, Int.toNat_natCast]
    unfold be2
    rw [e1, e2]
  rw [k1, k2, decide_eq_decide, Crc.sum_one]
  have e3 : UInt8.ofNat ((n % 256) ^^^ b.toNat) = UInt8.ofNat (n % 256) ^^^ b := by
    apply UInt8.toNat_inj.1
    rw [UInt8.toNat_xor, UInt8.toNat_ofNat', UInt8.toNat_ofNat', Nat.mod_mod]
    have := Nat.xor_lt_two_pow (n := 8) (show n % 256 < 2 ^ 8 by omega) hb
    rw [Nat.mod_eq_of_lt this]
  rw [e3, eq_comm]
  exact xor_self_iff _ _

end Go.Proofs.Ytmpnomngnfffbaa
