/-
  package prog: body, validRegisters, Fuel.
-/
import Derived.Test.YtjifeopiaghmbaaProgSees
import Derived.LoopN
import Derived.Deep.LoopGhost
import Derived.Deep.CutRange
import Derived.Deep.CutBlock
import Derived.IntWalk
namespace Go.Proofs.Ytjifeopiaghmbaa
open Go.RowKit
set_option linter.unusedVariables false

theorem body_find (l : List Ins) (i j e : Nat) (hj : j < i) (hk : ∀ k, k < j → bodyAt l i k = none) (h : bodyAt l i j = some e) : bodyE l i = some e := findSome_range i j e hj hk h

set_option maxRecDepth 100000 in
set_option maxHeartbeats 4000000 in
theorem body_any (l : List Ins) (g cap i : Nat) (w : World) (hl : l.length ≤ 100) (hcap : l.length ≤ cap) (hi : i ≤ l.length) (h : PAt w g l) :
    Calls Try.prog 13 #[.slice (some ⟨g, 0, none⟩) l.length cap, .int .i64 i] w fun e w' =>
      e = .returned (.tuple #[.int .i64 (((bodyE l i).getD 0 : Nat) : Int), .bool (bodyE l i).isSome]) ∧ Fr (fun _ => False) w w' := by
  have H := Lib.hid h
  clear h
  go_enter Try.func13, Try.ntmps13
  go_wp2
  go_loopg [6, 7, 8, 13] i (fun G u6 u7 u8 u13 wr => ∃ j : Nat, j ≤ i ∧ G = i - j ∧ u13 = .int .i64 j ∧ Hid ((∀ k, k < j → bodyAt l i k = none) ∧ Fr (fun _ => False) w wr))
  case atStart => exact ⟨0, Nat.zero_le _, rfl, rfl, Lib.hid ⟨fun k hk => by omega, Fr.refl _ _⟩⟩
  case round =>
    obtain ⟨j, hj, rfl, rfl, HI⟩ := hrel
    by_cases hlt : j < i
    · obtain ⟨x, hx⟩ : ∃ x, l[j]? = some x := ⟨_, List.getElem?_eq_getElem (by omega)⟩
      obtain ⟨hf, c0, c1, c2, c3, c4⟩ := H.out j x hx
      have c0 := cell_fr0 HI.out.2 c0
      have c1 := cell_fr0 HI.out.2 c1
      have c2 := cell_fr0 HI.out.2 c2
      have c3 := cell_fr0 HI.out.2 c3
      have c4 := cell_fr0 HI.out.2 c4
      have fb : Fr (fun _ => False) w (wr.alloc (.cells #[.int .u8 x.op, .int .u8 x.dst, .int .u8 x.a, .int .u8 x.b, .int .i16 x.n] 34)) := HI.out.2.alloc _
      have hb := hf.b
      have FB := Lib.hid fb
      have HB : Hid (bodyAt l i j = if x.op = 9 ∧ i < j + 1 + x.b then some (j + 1 + x.b) else none) := Lib.hid (by unfold bodyAt; rw [hx])
      clear hx hf fb
      obtain ⟨op, dst, a, b, n⟩ := x
      dsimp only at *
      by_cases h9 : op = 9
      · subst h9
        by_cases hin : i < j + 1 + b
        · have HE := Lib.hid (body_find l i j (j + 1 + b) hlt HI.out.1 (by rw [HB.out, if_pos ⟨rfl, hin⟩]))
          go_wp2
          go_ret2
          rw [HE.out]
          exact ⟨by simp, FB.out⟩
        · have HE := Lib.hid (show bodyAt l i j = none by rw [HB.out, if_neg (by omega)])
          go_wp2
          go_roundg (i - (j + 1))
          case measure => omega
          case rel => exact ⟨j + 1, by omega, rfl, by go_num, Lib.hid ⟨fun k hk => by
            by_cases h : k < j
            · exact HI.out.1 k h
            · obtain rfl : k = j := by omega
              exact HE.out, FB.out⟩⟩
      · have HE := Lib.hid (show bodyAt l i j = none by rw [HB.out, if_neg (by omega)])
        have e9 : ((op : Int) == 9) = false := by simp; omega
        clear h9
        go_wp2
        go_roundg (i - (j + 1))
        case measure => omega
        case rel => exact ⟨j + 1, by omega, rfl, by go_num, Lib.hid ⟨fun k hk => by
            by_cases h : k < j
            · exact HI.out.1 k h
            · obtain rfl : k = j := by omega
              exact HE.out, FB.out⟩⟩
    · obtain rfl : j = i := by omega
      have HE := Lib.hid (show bodyE l j = none from findSome_none j HI.out.1)
      go_wp2
      go_ret2
      rw [HE.out]
      exact ⟨rfl, HI.out.2⟩

theorem regs_any (x : Ins) (hf : x.Fits) (w : World) :
    Calls Try.prog 10 #[.agg #[.int .u8 x.op, .int .u8 x.dst, .int .u8 x.a, .int .u8 x.b, .int .i16 x.n]] w fun e w' => e = .returned (.bool (regsE x)) ∧ Fr (fun _ => False) w w' := by
  obtain ⟨op, dst, a, b, n⟩ := x
  by_cases h1 : dst < 16
  · by_cases h2 : a < 16
    · by_cases h3 : op = 9
      · subst h3
        go_enter Try.func10, Try.ntmps10
        go_wp2
        go_ret
        exact ⟨by simp [regsE, h1, h2], (Fr.refl _ _).alloc _⟩
      · have e9 : ((op : Int) == 9) = false := by simp; omega
        have HR : Hid (regsE ⟨op, dst, a, b, n⟩ = decide ((b : Int) < 16)) := Lib.hid (by simp [regsE, h1, h2, h3]; omega)
        clear h3
        go_enter Try.func10, Try.ntmps10
        go_wp2
        go_ret
        rw [HR.out]
        exact ⟨rfl, (Fr.refl _ _).alloc _⟩
    · go_enter Try.func10, Try.ntmps10
      go_wp2
      go_ret
      exact ⟨by simp [regsE, h1, h2], (Fr.refl _ _).alloc _⟩
  · go_enter Try.func10, Try.ntmps10
    go_wp2
    go_ret
    exact ⟨by simp [regsE, h1], (Fr.refl _ _).alloc _⟩

end Go.Proofs.Ytjifeopiaghmbaa
