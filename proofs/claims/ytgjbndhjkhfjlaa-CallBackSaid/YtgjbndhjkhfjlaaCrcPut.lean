/-
  What the program's crc.encoded and crc.Put give.
-/
import Derived.Test.YtgjbndhjkhfjlaaCrcSum
import Derived.Test.YtgjbndhjkhfjlaaMade
import Derived.Lib.AppendZerosOnto
namespace Go.Proofs.Ytgjbndhjkhfjlaa
open Go.RowKit

/-- The bytes of a sum as an array's value. -/
def arr (l : List UInt8) : Value := .agg (l.map bv).toArray

theorem bv_nat (n : Nat) (h : n < 256) : bv (UInt8.ofNat n) = .int .u8 (n : Int) := by
  unfold bv
  rw [show (UInt8.ofNat n).toNat = n by simp; omega]

/-- How many bytes the first k rows hold. -/
def flen (ls : List (List UInt8)) (k : Nat) : Nat := (ls.take k).flatten.length

theorem flen_le (ls : List (List UInt8)) (k : Nat) : flen ls k ≤ ls.flatten.length := by
  unfold flen
  conv => rhs; rw [← List.take_append_drop k ls]
  rw [List.flatten_append, List.length_append]
  omega

theorem flat_take_succ (ls : List (List UInt8)) (k : Nat) (h : k < ls.length) : (ls.take (k + 1)).flatten = (ls.take k).flatten ++ ls.getD k [] := by
  rw [List.take_succ_eq_append_getElem h, List.flatten_append]
  simp [List.getD, h]

end Go.Proofs.Ytgjbndhjkhfjlaa
