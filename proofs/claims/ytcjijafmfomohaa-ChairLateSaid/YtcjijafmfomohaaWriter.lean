/-
  What the calls of the Writer do: Word, Long, Quad, Text, Len, Bytes.
-/
import Derived.Test.YtcjijafmfomohaaMade
namespace Go.Proofs.Ytcjijafmfomohaa
open Go.RowKit

/-- The list of bytes in two parts: what is owned, said of each part. -/
theorem own_split {w : World} {v : Value} {l : List UInt8} {s : ByteArray} (h : Own w v (l ++ s.data.toList)) : w.ownsRow 0 5 1 v (l.length + s.size) (l.map bv ++ s.data.toList.map bv) := by
  unfold Own at h
  rw [List.length_append, List.map_append] at h
  exact h

/-- The bytes of a text as a Writer lays them. -/
def txt (s : List UInt8) : List UInt8 := be2 s.length ++ s ++ (if s.length % 2 = 1 then [0] else [])

theorem bv_length (s : ByteArray) : (s.data.toList.map bv).length = s.size * 1 := by
  rw [List.length_map, Nat.mul_one]; rfl

theorem txt_even (l : List UInt8) (s : ByteArray) (h : ¬ s.size % 2 = 1) : l ++ txt s.data.toList = l ++ be2 (s.size : Int).toNat ++ s.data.toList := by
  unfold txt
  have e : s.data.toList.length = s.size := rfl
  rw [e, if_neg h, List.append_nil, Int.toNat_natCast]
  simp only [List.append_assoc]
theorem txt_odd (l : List UInt8) (s : ByteArray) (h : s.size % 2 = 1) : l ++ txt s.data.toList = l ++ be2 (s.size : Int).toNat ++ s.data.toList ++ [0] := by
  unfold txt
  have e : s.data.toList.length = s.size := rfl
  rw [e, if_pos h, Int.toNat_natCast]
  simp only [List.append_assoc]

end Go.Proofs.Ytcjijafmfomohaa
