/-
  package prog: Fuel, validLoop, validSkip.
-/
import Derived.Test.YtjifeopiaghmbaaProgBody
namespace Go.Proofs.Ytjifeopiaghmbaa
open Go.RowKit
set_option linter.unusedVariables false

theorem take_sum (l : List Ins) (j : Nat) (x : Ins) (hx : l[j]? = some x) : ((l.take (j + 1)).map Ins.turns).sum = ((l.take j).map Ins.turns).sum + x.turns := by
  rw [List.take_add_one, hx]; simp

set_option maxRecDepth 100000 in
set_option maxHeartbeats 4000000 in
theorem fuel_any (l : List Ins) (v : Value) (w : World) (hl : l.length ≤ 100) (h : PSees w v l) :
    Calls Try.prog 8 #[v] w fun e w' => e = .returned (.int .i64 (fuelE l)) ∧ Fr (fun _ => False) w w' := by
  obtain ⟨a, cap, rfl, hs⟩ := h.shape
  have Hs := Lib.hid hs
  clear h hs
  go_enter Try.func8, Try.ntmps8
  go_wp2
  go_loopg [3, 5, 10] l.length (fun G u3 u5 u10 wr => ∃ (j : Nat) (s : Int), j ≤ l.length ∧ G = l.length - j ∧ u10 = .int .i64 j ∧ u3 = .int .i64 s ∧ Hid (s = l.length + ((l.take j).map Ins.turns).sum ∧ (∀ x ∈ l, j ≤ l.length → x.Fits ∨ True) ∧ Fr (fun _ => False) w wr))
  case atStart => exact ⟨0, l.length, Nat.zero_le _, rfl, rfl, rfl, Lib.hid ⟨by simp, fun _ _ _ => .inr trivial, Fr.refl _ _⟩⟩
  case round =>
    obtain ⟨j, s, hj, rfl, rfl, rfl, HI⟩ := hrel
    by_cases hlt : j < l.length
    · rcases Hs.out with rfl | ⟨g, rfl, hcap, hat⟩
      · simp at hlt
      obtain ⟨x, hx⟩ : ∃ x, l[j]? = some x := ⟨_, List.getElem?_eq_getElem hlt⟩
      obtain ⟨hf, c0, c1, c2, c3, c4⟩ := hat j x hx
      have c0 := cell_fr0 HI.out.2.2 c0
      have c1 := cell_fr0 HI.out.2.2 c1
      have c2 := cell_fr0 HI.out.2.2 c2
      have c3 := cell_fr0 HI.out.2.2 c3
      have c4 := cell_fr0 HI.out.2.2 c4
      have FB : Hid (Fr (fun _ => False) w (wr.alloc (.cells #[.int .u8 x.op, .int .u8 x.dst, .int .u8 x.a, .int .u8 x.b, .int .i16 x.n] 34))) := Lib.hid (HI.out.2.2.alloc _)
      have HT := Lib.hid (take_sum l j x hx)
      have hsum := sum_bounds (l.take j) (fun y hy => by
        obtain ⟨i, hi, rfl⟩ := List.mem_iff_getElem.1 hy
        refine (hat i _ ?_).1
        rw [List.getElem_take]
        exact List.getElem?_eq_getElem _)
      have hlen : (l.take j).length ≤ 100 := by rw [List.length_take]; omega
      have hs0 : 0 ≤ s := by rw [HI.out.1]; omega
      have hs1 : s ≤ 1000000000 := by rw [HI.out.1]; omega
      have hTb := turns_bounds x hf
      have hb := hf.b
      have hn0 := hf.lo
      have hn1 := hf.hi
      clear hsum hlen hx hat hf
      by_cases h9 : x.op = 9
      · have hTe : x.turns = (x.b : Int) * (max x.n 1 - 1) := by unfold Ins.turns; rw [if_pos h9]
        rw [hTe] at hTb HT
        have e9 : ((x.op : Int) == 9) = true := by simp; omega
        clear hTe h9
        obtain ⟨op, dst, aa, b, n⟩ := x
        dsimp only at *
        obtain ⟨T, hT⟩ : ∃ T : Int, T = (b : Int) * (max n 1 - 1) := ⟨_, rfl⟩
        rw [← hT] at hTb HT
        have hmul : wrap64 ((b : Int) * (max n 1 - 1)) = T := by rw [← hT]; unfold wrap64; omega
        have hM0 : 1 ≤ max n 1 := by omega
        have hM1 : max n 1 ≤ 32767 := by omega
        have hmax : ∀ (ts : Array TypeId) (t : TypeId) (W : World), (Builtin.max_ ts t #[.int .i64 n, .int .i64 1]).run Try.prog W = .ok (.int .i64 (max n 1)) W := by
          intro ts t W
          have e : max n 1 = if n < 1 then 1 else n := by split <;> omega
          rw [e]
          by_cases h : n < 1
          · simp [Builtin.max_, Builtin.max2, h]
          · simp [Builtin.max_, Builtin.max2, h]
        generalize max n 1 = M at *
        clear hT
        go_wp2
        go_roundg (l.length - (j + 1))
        case measure => omega
        case rel => exact ⟨j + 1, _, by omega, rfl, by go_num, by go_num, Lib.hid ⟨by rw [HT.out, HI.out.1]; omega, fun _ _ _ => .inr trivial, FB.out⟩⟩
      · have hTe : x.turns = 0 := by unfold Ins.turns; rw [if_neg h9]
        rw [hTe] at HT
        have e9 : ((x.op : Int) == 9) = false := by simp; omega
        clear hTe hTb h9
        obtain ⟨op, dst, aa, b, n⟩ := x
        dsimp only at *
        go_wp2
        go_roundg (l.length - (j + 1))
        case measure => omega
        case rel => exact ⟨j + 1, _, by omega, rfl, by go_num, rfl, Lib.hid ⟨by rw [HT.out, HI.out.1]; omega, fun _ _ _ => .inr trivial, FB.out⟩⟩
    · obtain rfl : j = l.length := by omega
      have HE := Lib.hid (show s = fuelE l by rw [HI.out.1, List.take_length]; rfl)
      go_wp2
      go_ret
      rw [HE.out]
      exact ⟨rfl, HI.out.2.2⟩
end Go.Proofs.Ytjifeopiaghmbaa
