/-
  CrcMixes: for every three slices of bytes the law returns true, and its arguments read as before.
-/
import Derived.Test.YtplijlgkchbdaaaCrcAwake
import Derived.Test.YtplijlgkchbdaaaMade
import Derived.Test.YtplijlgkchbdaaaOpen
import Derived.Deep.RegionWith
import Derived.Deep.Cut
import Derived.Deep.CutRange
import Derived.BigRegion
import Derived.Deep.QuietTactic
import Derived.BigQuiet
import Derived.Deep.OwnRows
namespace Go.Proofs.Ytplijlgkchbdaaa
open Go.RowKit

theorem own_made (w : World) (n : Nat) (hn : n ≤ 100000) : Own (w.alloc (.cells (madeCells #[.int .u8 0] n) 5)) (.slice (some ⟨w.heap.size, 0, none⟩) n n) (List.replicate n 0) := by
  unfold Own
  rw [List.length_replicate]
  refine ⟨by simp, .inr ⟨w.heap.size, n, _, rfl, Nat.zero_le _, heap_alloc_new w _, Nat.le_refl _, by unfold maxLen; omega, by rw [size_madeCells]; omega, ?_⟩⟩
  rw [toList_madeCells_one, Nat.mul_one, List.take_of_length_le (by simp), List.map_replicate]
  rfl

/-- What the law's loop keeps: one row, of what has been mixed. -/
def mixed (a m : List UInt8) (n k : Nat) : List UInt8 := Crc.xorb (a.take k) (m.take k) ++ List.replicate (n - k) 0

theorem mixed_length (a m : List UInt8) (n k : Nat) (hk : k ≤ n) (ha : n ≤ a.length) (hm : n ≤ m.length) : (mixed a m n k).length = n := by
  unfold mixed
  rw [List.length_append, Crc.xorb_length _ _ (by simp; omega)]
  simp
  omega

theorem xorb_snoc : ∀ (l m : List UInt8) (x y : UInt8), l.length = m.length → Crc.xorb (l ++ [x]) (m ++ [y]) = Crc.xorb l m ++ [x ^^^ y]
  | [], [], _, _, _ => rfl
  | c :: l, d :: m, x, y, h => by
    show (c ^^^ d) :: Crc.xorb (l ++ [x]) (m ++ [y]) = (c ^^^ d) :: (Crc.xorb l m ++ [x ^^^ y])
    rw [xorb_snoc l m x y (by simpa using h)]
  | [], _ :: _, _, _, h => by simp at h
  | _ :: _, [], _, _, h => by simp at h

theorem mixed_step (a m : List UInt8) (n k : Nat) (hk : k < n) (ha : n ≤ a.length) (hm : n ≤ m.length) : (mixed a m n k).set k (a.getD k 0 ^^^ m.getD k 0) = mixed a m n (k + 1) := by
  unfold mixed
  have hl : (Crc.xorb (a.take k) (m.take k)).length = k := by rw [Crc.xorb_length _ _ (by simp; omega)]; simp; omega
  have ea : a.take (k + 1) = a.take k ++ [a.getD k 0] := by rw [List.take_succ_eq_append_getElem (by omega)]; simp [List.getD, show k < a.length by omega]
  have em : m.take (k + 1) = m.take k ++ [m.getD k 0] := by rw [List.take_succ_eq_append_getElem (by omega)]; simp [List.getD, show k < m.length by omega]
  rw [ea, em, xorb_snoc _ _ _ _ (by simp; omega), List.set_append_right _ _ (by omega), hl, Nat.sub_self, show n - k = (n - (k + 1)) + 1 by omega, List.replicate_succ, List.set_cons_zero, List.append_assoc]
  rfl

theorem mixed_end (a m : List UInt8) (n : Nat) : mixed a m n n = Crc.xorb (a.take n) (m.take n) := by simp [mixed]

theorem sees_at {w : World} {a : Option Addr} {n c : Nat} {l : List UInt8} (h : Sees w (.slice a n c) l) (k : Nat) (hk : k < l.length) : ∃ g o, a = some ⟨g, o, none⟩ ∧ w.cell? ⟨g, o + k, none⟩ = some (bv (l.getD k 0)) := by
  rcases h with ⟨rfl, _⟩ | ⟨g, off, cap, e, hle, hc⟩
  · simp at hk
  · simp only [Value.slice.injEq] at e
    exact ⟨g, off, e.1, hc k hk⟩

theorem sees_lt {w : World} {g o n c : Nat} {l : List UInt8} (h : Sees w (.slice (some ⟨g, o, none⟩) n c) l) (k : Nat) (hk : k < l.length) : g < w.heap.size := by
  obtain ⟨g', o', e, hc⟩ := sees_at h k hk
  simp only [Option.some.injEq, Addr.mk.injEq] at e
  obtain ⟨rfl, _⟩ := e
  exact World.block_lt_of_cell? w _ hc

theorem own_at {w : World} {g n c : Nat} {l : List UInt8} (h : Own w (.slice (some ⟨g, 0, none⟩) n c) l) (k : Nat) (hk : k < l.length) : w.cell? ⟨g, 0 + k, none⟩ = some (bv (l.getD k 0)) := by
  obtain ⟨g', o', e, hc⟩ := sees_at h.sees k hk
  simp only [Option.some.injEq, Addr.mk.injEq] at e
  obtain ⟨rfl, rfl, _⟩ := e
  exact hc

theorem own_len {w : World} {g n c : Nat} {l : List UInt8} (h : Own w (.slice (some ⟨g, 0, none⟩) n c) l) : n = l.length := by
  rcases h.2 with ⟨e, _⟩ | ⟨g', cap', cur, h', _⟩
  · simp at e
  · simp at h'; exact h'.2.1

theorem own_frozen {w : World} {g n c : Nat} {l : List UInt8} (h : Own w (.slice (some ⟨g, 0, none⟩) n c) l) (k : Nat) : w.frozen? ⟨g, k, none⟩ = false := by
  obtain rfl := own_len h
  exact World.ownsRow.frozenAt h k

theorem own_set {w : World} {g n c : Nat} {l : List UInt8} (h : Own w (.slice (some ⟨g, 0, none⟩) n c) l) (k : Nat) (u : UInt8) : Own (w.setCell ⟨g, k, none⟩ (bv u)) (.slice (some ⟨g, 0, none⟩) n c) (l.set k u) := by
  obtain rfl := own_len h
  have := (World.ownsRow.stored h k (bv u)).1
  unfold Own
  rw [List.length_set, List.map_set]
  exact this

theorem own_other {w : World} {v : Value} {l : List UInt8} (h : Own w v l) {a : Addr} (ha : v.ownBlock ≠ some a.block) (u : Value) : Own (w.setCell a u) v l := ownsRow_setCell_other h ha u

theorem sees_drewN {w : World} {v : Value} {l : List UInt8} (h : Sees w v l) (j : Nat) : Sees (w.drewN j) v l := h

theorem sees_take {w : World} {a : Option Addr} {n c : Nat} {l : List UInt8} (h : Sees w (.slice a n c) l) (k : Nat) (hk : k ≤ l.length) : Sees w (.slice a k c) (l.take k) := by
  have hl : (l.take k).length = k := by simp; omega
  rcases h with ⟨rfl, a', c', e⟩ | ⟨g, off, cap, e, hle, hc⟩
  · obtain rfl : k = 0 := by simpa using hk
    exact .inl ⟨rfl, a, c, rfl⟩
  · simp only [Value.slice.injEq] at e
    obtain ⟨rfl, _, rfl⟩ := e
    refine .inr ⟨g, off, c, by rw [hl], by omega, fun j hj => ?_⟩
    rw [hl] at hj
    rw [hc j (by omega)]
    simp [List.getD, hj]

theorem own_drew {w : World} {v : Value} {l : List UInt8} (h : Own w v l) : Own w.drew v l := h

theorem Fr.drewN {S : Nat → Prop} {a b : World} (h : Fr S a b) (n : Nat) : Fr S a (b.drewN n) := ⟨h.os, h.tape, h.output, h.size, h.block⟩

theorem Crc.sum_xor (l m : List UInt8) (h : l.length = m.length) : Crc.sum (Crc.xorb l m) ^^^ Crc.sum l = (Crc.cbs 0#32 (Crc.bits m)).toNat := by
  unfold Crc.sum
  rw [← BitVec.toNat_xor, Crc.reg_xor l m h]
  congr 1
  generalize Crc.reg l = R
  generalize Crc.cbs 0#32 (Crc.bits m) = D
  apply BitVec.eq_of_getLsbD_eq
  intro i hi
  simp only [BitVec.getLsbD_xor, BitVec.getLsbD_not, hi, decide_true, Bool.true_and]
  cases R.getLsbD i <;> cases D.getLsbD i <;> rfl

set_option maxRecDepth 100000 in
set_option maxHeartbeats 4000000 in
theorem mixes_any (va vb vm : Value) (a b m : List UInt8) (w : World) (ha : Sees w va a) (hb : Sees w vb b) (hm : Sees w vm m) :
    Calls Try.prog 6 #[va, vb, vm] w fun e w' => e = .returned (.bool true) ∧ Fr (fun _ => False) w w' := by
  obtain ⟨aa, ca, rfl, hna⟩ := ha.shape
  obtain ⟨ab, cb, rfl, hnb⟩ := hb.shape
  obtain ⟨am, cm, rfl, hnm⟩ := hm.shape
  clear hna hnb hnm
  go_enter Try.func6, Try.ntmps6
  go_wp2_with fail
  refine (awake_any _).mono ?_
  rintro e w1 ⟨rfl, f1⟩
  obtain ⟨n, hn⟩ : ∃ n : Nat, n = min (min (min a.length b.length) m.length) 200 := ⟨_, rfl⟩
  have hmin : ∀ (ts : Array TypeId) (t : TypeId) (W : World), (Builtin.min_ ts t #[.int .i64 (a.length : Int), .int .i64 (b.length : Int), .int .i64 (m.length : Int), .int .i64 200]).run Try.prog W = .ok (.int .i64 (n : Int)) W := by
    intro ts t W
    simp [Builtin.min_, Builtin.min2]
    subst hn
    split <;> split <;> split <;> omega
  have h1 : n ≤ a.length := by omega
  have h2 : n ≤ b.length := by omega
  have h3 : n ≤ m.length := by omega
  have h4 : n ≤ 200 := by omega
  clear hn
  have hmk : ∀ W : World, (Instr.makeSlice 22 (.int .i64 (n : Int)) (.int .i64 (n : Int))).run Try.prog W = .ok (.slice (some ⟨W.heap.size, 0, none⟩) n n) (W.alloc (.cells (madeCells #[.int .u8 0] n) 5)) :=
    fun W => run_make_row' _ 5 (.int .u8 0) 1 Try.underlying22 Try.infoU8 rfl .i64 .i64 n (by omega) (by omega) W
  go_wp2_with fail
  go_cut [8, 9] from 20 to 23 (fun x y wx => ∃ bx' cy', x = .slice (some ⟨bx', 0, none⟩) n n ∧ y = .slice (some ⟨cy', 0, none⟩) n n ∧ Own wx x (List.replicate n 0) ∧ Own wx y (List.replicate n 0) ∧ bx' ≠ cy' ∧ w1.heap.size ≤ bx' ∧ w1.heap.size ≤ cy' ∧ Fr (fun _ => False) w1 wx)
  case first =>
    have hsz : (w1.alloc (.cells (madeCells #[.int .u8 0] n) 5)).heap.size = w1.heap.size + 1 := World.size_alloc _ _
    have o1 := own_made w1 n (by omega)
    have o2 := own_made (w1.alloc (.cells (madeCells #[.int .u8 0] n) 5)) n (by omega)
    rw [hsz] at o2
    have fr1 : Fr (fun _ => False) (w1.alloc (.cells (madeCells #[.int .u8 0] n) 5)) ((w1.alloc (.cells (madeCells #[.int .u8 0] n) 5)).alloc (.cells (madeCells #[.int .u8 0] n) 5)) := (Fr.refl _ _).alloc _
    have o1' := o1.fr fr1 (fun _ _ h => h)
    have fr2 : Fr (fun _ => False) w1 ((w1.alloc (.cells (madeCells #[.int .u8 0] n) 5)).alloc (.cells (madeCells #[.int .u8 0] n) 5)).drew := (((Fr.refl _ _).alloc _).alloc _).drew
    have O1 := Lib.hid o1'
    have O2 := Lib.hid o2
    have F2 := Lib.hid fr2
    clear o1 o1' o2 fr1 fr2 hsz
    go_region
    all_goals (go_wp2_with fail; go_meet)
    · exact ⟨_, _, rfl, rfl, O1.out, O2.out, by omega, Nat.le_refl _, by omega, F2.out⟩
    · exact ⟨_, _, rfl, rfl, O2.out, O1.out, by omega, by omega, Nat.le_refl _, F2.out⟩
  case rest =>
    obtain ⟨bx, cy, rfl, rfl, hx, hy, hne, hbx, hcy, fw⟩ := hcut
    clear hmin hmk
    have f2 : Fr (fun _ => False) w wc := f1.trans fw (fun _ _ h => h)
    have hwb : w.heap.size ≤ bx := Nat.le_trans f1.size hbx
    have hwc : w.heap.size ≤ cy := Nat.le_trans f1.size hcy
    clear hbx hcy fw f1 w1
    go_wp2_with fail
    go_loopg [10, 25] n (fun g u i wr => ∃ k : Nat, k ≤ n ∧ g = n - k ∧ i = .int .i64 k ∧ Own wr (.slice (some ⟨bx, 0, none⟩) n n) (mixed a m n k) ∧ Own wr (.slice (some ⟨cy, 0, none⟩) n n) (mixed b m n k) ∧ Fr (fun _ => False) w wr)
    case atStart => exact ⟨0, Nat.zero_le _, rfl, rfl, by simpa [mixed, Crc.xorb] using hx, by simpa [mixed, Crc.xorb] using hy, f2⟩
    case round =>
      clear hx hy f2
      obtain ⟨k, hkn, rfl, rfl, hx, hy, f2⟩ := hrel
      by_cases hlt : k < n
      · obtain ⟨ga, oa, rfl, hca⟩ : ∃ g o, aa = some ⟨g, o, none⟩ ∧ wr.cell? ⟨g, o + k, none⟩ = some (bv (a.getD k 0)) := sees_at (ha.fr f2 (fun _ _ h => h)) k (by omega)
        obtain ⟨gb, ob, rfl, hcb⟩ : ∃ g o, ab = some ⟨g, o, none⟩ ∧ wr.cell? ⟨g, o + k, none⟩ = some (bv (b.getD k 0)) := sees_at (hb.fr f2 (fun _ _ h => h)) k (by omega)
        obtain ⟨gm, om, rfl, hcm⟩ : ∃ g o, am = some ⟨g, o, none⟩ ∧ wr.cell? ⟨g, o + k, none⟩ = some (bv (m.getD k 0)) := sees_at (hm.fr f2 (fun _ _ h => h)) k (by omega)
        have la := sees_lt ha k (by omega)
        have lb := sees_lt hb k (by omega)
        have lm := sees_lt hm k (by omega)
        have n1 : ga ≠ bx := by omega
        have n2 : ga ≠ cy := by omega
        have n3 : gb ≠ bx := by omega
        have n4 : gb ≠ cy := by omega
        have n5 : gm ≠ bx := by omega
        have n6 : gm ≠ cy := by omega
        clear la lb lm
        have hxc : wr.cell? ⟨bx, 0 + k, none⟩ = some (bv ((mixed a m n k).getD k 0)) := own_at hx k (by rw [mixed_length _ _ _ _ hkn h1 h3]; omega)
        have hyc : wr.cell? ⟨cy, 0 + k, none⟩ = some (bv ((mixed b m n k).getD k 0)) := own_at hy k (by rw [mixed_length _ _ _ _ hkn h2 h3]; omega)
        have hxf : wr.frozen? ⟨bx, 0 + k, none⟩ = false := by rw [Nat.zero_add]; exact own_frozen hx k
        have hyf : wr.frozen? ⟨cy, 0 + k, none⟩ = false := by rw [Nat.zero_add]; exact own_frozen hy k
        rw [Nat.zero_add] at hxc hyc hxf hyf
        have HX := Lib.hid hx
        have HY := Lib.hid hy
        have SX := Lib.hid (mixed_step a m n k hlt h1 h3)
        have SY := Lib.hid (mixed_step b m n k hlt h2 h3)
        have LX := Lib.hid (mixed_length a m n k hkn h1 h3)
        have LY := Lib.hid (mixed_length b m n k hkn h2 h3)
        have FF := Lib.hid f2
        clear hx hy f2 ha hb hm
        generalize a.getD k 0 = pa at *
        generalize b.getD k 0 = pb at *
        generalize m.getD k 0 = pm at *
        have xa : Value.int .u8 (bits .xor .u8 (pa.toNat : Int) (pm.toNat : Int)) = bv (pa ^^^ pm) := by
          rw [xor_u8 _ _ (UInt8.toNat_lt _) (UInt8.toNat_lt _)]; unfold bv; rw [UInt8.toNat_xor]
        have xb : Value.int .u8 (bits .xor .u8 (pb.toNat : Int) (pm.toNat : Int)) = bv (pb ^^^ pm) := by
          rw [xor_u8 _ _ (UInt8.toNat_lt _) (UInt8.toNat_lt _)]; unfold bv; rw [UInt8.toNat_xor]
        have XA := Lib.hid xa
        have XB := Lib.hid xb
        clear xa xb
        unfold bv at hca hcb hcm hxc hyc
        have hbb : (Value.slice (some ⟨bx, 0, none⟩) n n).ownBlock ≠ some cy := by simp [Value.ownBlock]; omega
        have hcc : (Value.slice (some ⟨cy, 0, none⟩) n n).ownBlock ≠ some bx := by simp [Value.ownBlock]; omega
        have HB := Lib.hid hbb
        have HC := Lib.hid hcc
        clear hbb hcc
        go_wp2_with fail
        go_region
        all_goals
          go_wp2_with fail
          rw [XA.out, XB.out]
          go_roundg (n - (k + 1))
          case measure => omega
          case rel =>
            refine ⟨k + 1, by omega, rfl, by simp, ?_, ?_, ?_⟩
            · rw [← SX.out]
              first
              | exact own_other (own_set HX.out k _) HB.out _
              | exact own_set (own_other HX.out HB.out _) k _
            · rw [← SY.out]
              first
              | exact own_set (own_other HY.out HC.out _) k _
              | exact own_other (own_set HY.out k _) HC.out _
            · exact ((FF.out.setCell (p := ⟨_, k, none⟩) (fun h => absurd h (by simp; omega)) _).setCell (p := ⟨_, k, none⟩) (fun h => absurd h (by simp; omega)) _).drew
      · obtain rfl : k = n := by omega
        rw [mixed_end] at hx hy
        have lx : (Crc.xorb (a.take k) (m.take k)).length = k := by rw [Crc.xorb_length _ _ (by simp; omega)]; simp; omega
        have ly : (Crc.xorb (b.take k) (m.take k)).length = k := by rw [Crc.xorb_length _ _ (by simp; omega)]; simp; omega
        have sx : ∀ j, Sees (wr.drewN j) (.slice (some ⟨bx, 0, none⟩) k k) (Crc.xorb (a.take k) (m.take k)) := fun j => sees_drewN hx.sees j
        have sy : ∀ j, Sees (wr.drewN j) (.slice (some ⟨cy, 0, none⟩) k k) (Crc.xorb (b.take k) (m.take k)) := fun j => sees_drewN hy.sees j
        have sa : ∀ j, Sees (wr.drewN j) (.slice aa k ca) (a.take k) := fun j => sees_drewN (sees_take (ha.fr f2 (fun _ _ h => h)) k h1) j
        have sb : ∀ j, Sees (wr.drewN j) (.slice ab k cb) (b.take k) := fun j => sees_drewN (sees_take (hb.fr f2 (fun _ _ h => h)) k h2) j
        have ka : k ≤ ca := by have := ha.cap; omega
        have kb : k ≤ cb := by have := hb.cap; omega
        have qx : Crc.sum (Crc.xorb (a.take k) (m.take k)) ^^^ Crc.sum (a.take k) = Crc.sum (Crc.xorb (b.take k) (m.take k)) ^^^ Crc.sum (b.take k) := by
          rw [Crc.sum_xor _ _ (by simp; omega), Crc.sum_xor _ _ (by simp; omega)]
        have QX := Lib.hid qx
        clear qx
        have HXS := Lib.hid sx
        have HYS := Lib.hid sy
        have HAS := Lib.hid sa
        have HBS := Lib.hid sb
        have FF := Lib.hid f2
        have LX := Lib.hid lx
        have LY := Lib.hid ly
        have tx := Crc.sum_lt (Crc.xorb (a.take k) (m.take k))
        have ty := Crc.sum_lt (Crc.xorb (b.take k) (m.take k))
        have ta := Crc.sum_lt (a.take k)
        have tb := Crc.sum_lt (b.take k)
        clear hx hy ha hb hm f2 sx sy sa sb lx ly
        go_wp2_with fail
        go_quiet (first
          | (go_at_call_of 9 (Value.slice (some ⟨bx, 0, none⟩) k k); exact Calls.quiet_of_same (sum_any _ _ _ (HXS.out _) (by rw [LX.out]; omega)))
          | (go_at_call_of 9 (Value.slice (some ⟨cy, 0, none⟩) k k); exact Calls.quiet_of_same (sum_any _ _ _ (HYS.out _) (by rw [LY.out]; omega)))
          | (go_at_call_of 9 (Value.slice aa k ca); exact Calls.quiet_of_same (sum_any _ _ _ (HAS.out _) (by rw [List.length_take]; omega)))
          | (go_at_call_of 9 (Value.slice ab k cb); exact Calls.quiet_of_same (sum_any _ _ _ (HBS.out _) (by rw [List.length_take]; omega))))
        go_wp2_with fail
        go_ret
        refine ⟨?_, FF.out.drewN _⟩
        rw [xor_u32 _ _ tx ta, xor_u32 _ _ ty tb, QX.out]
        simp

/-- For every three slices, in the form that the statement's lift takes. -/
theorem mixes_all {w : World} (va : Value) (la : List Int) (ha : SeesL w va (la.map (Value.int .u8))) (fa : ∀ n ∈ la, (Lit.int .u8 n).wf = true) (vb : Value) (lb : List Int) (hb : SeesL w vb (lb.map (Value.int .u8))) (fb : ∀ n ∈ lb, (Lit.int .u8 n).wf = true)
    (vm : Value) (lm : List Int) (hm : SeesL w vm (lm.map (Value.int .u8))) (fm : ∀ n ∈ lm, (Lit.int .u8 n).wf = true) :
    Calls Try.prog 6 #[va, vb, vm] w fun e w' => e = .returned (.bool true) ∧ Fr (fun _ => False) w w' :=
  mixes_any va vb vm _ _ _ w (sees_u8 ha fa) (sees_u8 hb fb) (sees_u8 hm fm)
end Go.Proofs.Ytplijlgkchbdaaa
