/-
  What the document's answers for words (Word, Long, Quad, Text), and Awake, give.
-/
import Derived.Test.YtcjijafmfomohaaReader
import Derived.Test.YtcjijafmfomohaaRefLong
namespace Go.Proofs.Ytcjijafmfomohaa
open Go.RowKit

/-- Two Writers that share no memory. -/
structure Off (b : Nat) (v : Value) (b' : Nat) (v' : Value) : Prop where
  ne : b ≠ b'
  own1 : v.ownBlock ≠ some b'
  own2 : v'.ownBlock ≠ some b
  both : ∀ k, v.ownBlock = some k → v'.ownBlock ≠ some k

theorem Off.symm {b : Nat} {v : Value} {b' : Nat} {v' : Value} (h : Off b v b' v') : Off b' v' b v :=
  ⟨fun e => h.ne e.symm, h.own2, h.own1, fun k hk e => h.both k e hk⟩

theorem Fr.trans0 {a b c : World} (h : Fr (fun _ => False) a b) (k : Fr (fun _ => False) b c) : Fr (fun _ => False) a c := h.trans k (fun _ _ h => h)

/-! What a Reader takes of bytes that begin as a Writer laid them. -/

theorem nextS_pre (p rest : List UInt8) (e : Int) : nextS (p ++ rest, e) p.length = (p, (rest, e)) := by
  unfold nextS
  rw [if_neg (by simp)]
  simp

theorem numS_be2 (n : Nat) (h : n < 65536) (rest : List UInt8) (e : Int) : numS (be2 n ++ rest, e) 2 = (n, (rest, e)) := by
  unfold numS
  rw [show (2 : Nat) = (be2 n).length from rfl, nextS_pre, beNum_be2 n h]
theorem numS_be4 (n : Nat) (h : n < 4294967296) (rest : List UInt8) (e : Int) : numS (be4 n ++ rest, e) 4 = (n, (rest, e)) := by
  unfold numS
  rw [show (4 : Nat) = (be4 n).length from rfl, nextS_pre, beNum_be4 n h]
theorem numS_be8 (n : Nat) (h : n < 18446744073709551616) (rest : List UInt8) (e : Int) : numS (be8 n ++ rest, e) 8 = (n, (rest, e)) := by
  unfold numS
  rw [show (8 : Nat) = (be8 n).length from rfl, nextS_pre, beNum_be8 n h]

theorem withinS_be2 (n : Nat) (h : n < 65536) (rest : List UInt8) (most : Int) (hm : (n : Int) ≤ most) (e : Int) : withinS (be2 n ++ rest, e) most = (n, (rest, e)) := by
  unfold withinS
  rw [numS_be2 n h, if_neg (by show ¬ most < (n : Int); omega)]

theorem textS_txt (s rest : List UInt8) (h : s.length < 65536) (most : Int) (hm : (s.length : Int) ≤ most) : textS (txt s ++ rest, 0) most = (s, (rest, 0)) := by
  unfold textS txt
  have hw : withinS (be2 s.length ++ s ++ (if s.length % 2 = 1 then [0] else []) ++ rest, 0) most = (s.length, (s ++ (if s.length % 2 = 1 then [0] else []) ++ rest, 0)) := by
    rw [List.append_assoc, List.append_assoc, withinS_be2 s.length h _ most hm, List.append_assoc]
  rw [hw]
  by_cases ho : s.length % 2 = 1
  · rw [if_pos ho]
    have hn : nextS (s ++ [0] ++ rest, 0) (s.length + s.length % 2) = (s ++ [0], (rest, 0)) := by
      rw [ho, show s.length + 1 = (s ++ [(0 : UInt8)]).length by simp, nextS_pre]
    simp only [hn]
    simp
  · rw [if_neg ho]
    have hn : nextS (s ++ [] ++ rest, 0) (s.length + s.length % 2) = (s, (rest, 0)) := by
      rw [show s.length % 2 = 0 by omega, Nat.add_zero, List.append_nil, nextS_pre]
    simp only [hn]
    simp [ho]

theorem txt_length (s : List UInt8) : (txt s).length = 2 + s.length + s.length % 2 := by
  unfold txt
  rw [List.length_append, List.length_append, be2_length]
  split
  · simp; omega
  · simp; omega

theorem str_of (s : ByteArray) : (⟨s.data.toList.toArray⟩ : ByteArray) = s := by simp

end Go.Proofs.Ytcjijafmfomohaa
