/-
  CrcMixes: for every three slices of bytes the law returns true, and its arguments read as before.
-/
import Derived.Test.YtgjbndhjkhfjlaaCrcAwake
import Derived.Test.YtgjbndhjkhfjlaaMade
import Derived.Test.YtgjbndhjkhfjlaaOpen
import Derived.Deep.RegionWith
import Derived.Deep.Cut
import Derived.Deep.CutRange
import Derived.BigRegion
import Derived.Deep.QuietTactic
import Derived.BigQuiet
import Derived.Deep.OwnRows
namespace Go.Proofs.Ytgjbndhjkhfjlaa
open Go.RowKit

theorem own_made (w : World) (n : Nat) (hn : n ≤ 100000) : Own (w.alloc (.cells (madeCells #[.int .u8 0] n) 5)) (.slice (some ⟨w.heap.size, 0, none⟩) n n) (List.replicate n 0) := by
  unfold Own
  rw [List.length_replicate]
  refine ⟨by simp, .inr ⟨w.heap.size, n, _, rfl, Nat.zero_le _, heap_alloc_new w _, Nat.le_refl _, by unfold maxLen; omega, by rw [size_madeCells]; omega, ?_⟩⟩
  rw [toList_madeCells_one, Nat.mul_one, List.take_of_length_le (by simp), List.map_replicate]
  rfl

/-- What the law's loop keeps: one row, of what has been mixed. -/
def mixed (a m : List UInt8) (n k : Nat) : List UInt8 := Crc.xorb (a.take k) (m.take k) ++ List.replicate (n - k) 0

theorem mixed_length (a m : List UInt8) (n k : Nat) (hk : k ≤ n) (ha : n ≤ a.length) (hm : n ≤ m.length) : (mixed a m n k).length = n := by
  unfold mixed
  rw [List.length_append, Crc.xorb_length _ _ (by simp; omega)]
  simp
  omega

theorem xorb_snoc : ∀ (l m : List UInt8) (x y : UInt8), l.length = m.length → Crc.xorb (l ++ [x]) (m ++ [y]) = Crc.xorb l m ++ [x ^^^ y]
  | [], [], _, _, _ => rfl
  | c :: l, d :: m, x, y, h => by
    show (c ^^^ d) :: Crc.xorb (l ++ [x]) (m ++ [y]) = (c ^^^ d) :: (Crc.xorb l m ++ [x ^^^ y])
    rw [xorb_snoc l m x y (by simpa using h)]
  | [], _ :: _, _, _, h => by simp at h
  | _ :: _, [], _, _, h => by simp at h

theorem mixed_step (a m : List UInt8) (n k : Nat) (hk : k < n) (ha : n ≤ a.length) (hm : n ≤ m.length) : (mixed a m n k).set k (a.getD k 0 ^^^ m.getD k 0) = mixed a m n (k + 1) := by
  unfold mixed
  have hl : (Crc.xorb (a.take k) (m.take k)).length = k := by rw [Crc.xorb_length _ _ (by simp; omega)]; simp; omega
  have ea : a.take (k + 1) = a.take k ++ [a.getD k 0] := by rw [List.take_succ_eq_append_getElem (by omega)]; simp [List.getD, show k < a.length by omega]
  have em : m.take (k + 1) = m.take k ++ [m.getD k 0] := by rw [List.take_succ_eq_append_getElem (by omega)]; simp [List.getD, show k < m.length by omega]
  rw [ea, em, xorb_snoc _ _ _ _ (by simp; omega), List.set_append_right _ _ (by omega), hl, Nat.sub_self, show n - k = (n - (k + 1)) + 1 by omega, List.replicate_succ, List.set_cons_zero, List.append_assoc]
  rfl

theorem mixed_end (a m : List UInt8) (n : Nat) : mixed a m n n = Crc.xorb (a.take n) (m.take n) := by simp [mixed]

theorem sees_at {w : World} {a : Option Addr} {n c : Nat} {l : List UInt8} (h : Sees w (.slice a n c) l) (k : Nat) (hk : k < l.length) : ∃ g o, a = some ⟨g, o, none⟩ ∧ w.cell? ⟨g, o + k, none⟩ = some (bv (l.getD k 0)) := by
  rcases h with ⟨rfl, _⟩ | ⟨g, off, cap, e, hle, hc⟩
  · simp at hk
  · simp only [Value.slice.injEq] at e
    exact ⟨g, off, e.1, hc k hk⟩

theorem sees_lt {w : World} {g o n c : Nat} {l : List UInt8} (h : Sees w (.slice (some ⟨g, o, none⟩) n c) l) (k : Nat) (hk : k < l.length) : g < w.heap.size := by
  obtain ⟨g', o', e, hc⟩ := sees_at h k hk
  simp only [Option.some.injEq, Addr.mk.injEq] at e
  obtain ⟨rfl, _⟩ := e
  exact World.block_lt_of_cell? w _ hc

theorem own_at {w : World} {g n c : Nat} {l : List UInt8} (h : Own w (.slice (some ⟨g, 0, none⟩) n c) l) (k : Nat) (hk : k < l.length) : w.cell? ⟨g, 0 + k, none⟩ = some (bv (l.getD k 0)) := by
  obtain ⟨g', o', e, hc⟩ := sees_at h.sees k hk
  simp only [Option.some.injEq, Addr.mk.injEq] at e
  obtain ⟨rfl, rfl, _⟩ := e
  exact hc

theorem own_len {w : World} {g n c : Nat} {l : List UInt8} (h : Own w (.slice (some ⟨g, 0, none⟩) n c) l) : n = l.length := by
  rcases h.2 with ⟨e, _⟩ | ⟨g', cap', cur, h', _⟩
  · simp at e
  · simp at h'; exact h'.2.1

theorem own_frozen {w : World} {g n c : Nat} {l : List UInt8} (h : Own w (.slice (some ⟨g, 0, none⟩) n c) l) (k : Nat) : w.frozen? ⟨g, k, none⟩ = false := by
  obtain rfl := own_len h
  exact World.ownsRow.frozenAt h k

theorem own_set {w : World} {g n c : Nat} {l : List UInt8} (h : Own w (.slice (some ⟨g, 0, none⟩) n c) l) (k : Nat) (u : UInt8) : Own (w.setCell ⟨g, k, none⟩ (bv u)) (.slice (some ⟨g, 0, none⟩) n c) (l.set k u) := by
  obtain rfl := own_len h
  have := (World.ownsRow.stored h k (bv u)).1
  unfold Own
  rw [List.length_set, List.map_set]
  exact this

theorem own_other {w : World} {v : Value} {l : List UInt8} (h : Own w v l) {a : Addr} (ha : v.ownBlock ≠ some a.block) (u : Value) : Own (w.setCell a u) v l := ownsRow_setCell_other h ha u

theorem sees_drewN {w : World} {v : Value} {l : List UInt8} (h : Sees w v l) (j : Nat) : Sees (w.drewN j) v l := h

theorem sees_take {w : World} {a : Option Addr} {n c : Nat} {l : List UInt8} (h : Sees w (.slice a n c) l) (k : Nat) (hk : k ≤ l.length) : Sees w (.slice a k c) (l.take k) := by
  have hl : (l.take k).length = k := by simp; omega
  rcases h with ⟨rfl, a', c', e⟩ | ⟨g, off, cap, e, hle, hc⟩
  · obtain rfl : k = 0 := by simpa using hk
    exact .inl ⟨rfl, a, c, rfl⟩
  · simp only [Value.slice.injEq] at e
    obtain ⟨rfl, _, rfl⟩ := e
    refine .inr ⟨g, off, c, by rw [hl], by omega, fun j hj => ?_⟩
    rw [hl] at hj
    rw [hc j (by omega)]
    simp [List.getD, hj]

theorem own_drew {w : World} {v : Value} {l : List UInt8} (h : Own w v l) : Own w.drew v l := h

theorem Fr.drewN {S : Nat → Prop} {a b : World} (h : Fr S a b) (n : Nat) : Fr S a (b.drewN n) := ⟨h.os, h.tape, h.output, h.size, h.block⟩

theorem Crc.sum_xor (l m : List UInt8) (h : l.length = m.length) : Crc.sum (Crc.xorb l m) ^^^ Crc.sum l = (Crc.cbs 0#32 (Crc.bits m)).toNat := by
  unfold Crc.sum
  rw [← BitVec.toNat_xor, Crc.reg_xor l m h]
  congr 1
  generalize Crc.reg l = R
  generalize Crc.cbs 0#32 (Crc.bits m) = D
  apply BitVec.eq_of_getLsbD_eq
  intro i hi
  simp only [BitVec.getLsbD_xor, BitVec.getLsbD_not, hi, decide_true, Bool.true_and]
  cases R.getLsbD i <;> cases D.getLsbD i <;> rfl

end Go.Proofs.Ytgjbndhjkhfjlaa
