/-
  package prog: body, validRegisters, Fuel.
-/
import Derived.Test.YtedadjlmmnikaaaMJ
import Derived.LoopN
import Derived.Deep.LoopGhost
import Derived.Deep.CutRange
import Derived.Deep.CutBlock
import Derived.IntWalk
set_option linter.unusedSimpArgs false
set_option linter.unusedVariables false
namespace Go.Proofs.Ytedadjlmmnikaaa
open Go.RowKit
set_option linter.unusedVariables false

theorem body_find (l : List Ins) (i j e : Nat) (hj : j < i) (hk : ∀ k, k < j → bodyAt l i k = none) (h : bodyAt l i j = some e) : bodyE l i = some e := findSome_range i j e hj hk h

set_option maxRecDepth 100000 in
set_option maxHeartbeats 4000000 in
theorem body_any (l : List Ins) (g cap i : Nat) (w : World) (hl : l.length ≤ 100) (hcap : l.length ≤ cap) (hi : i ≤ l.length) (h : PAt w g l) :
    Calls Try.prog 70 #[.slice (some ⟨g, 0, none⟩) l.length cap, .int .i64 i] w fun e w' =>
      e = .returned (.tuple #[.int .i64 (((bodyE l i).getD 0 : Nat) : Int), .bool (bodyE l i).isSome]) ∧ Fr (fun _ => False) w w' := by
  have H := Lib.hid h
  clear h
  go_enter Try.func70, Try.ntmps70
  go_wp2
  go_loopg [6, 7, 8, 13] i (fun G u6 u7 u8 u13 wr => ∃ j : Nat, j ≤ i ∧ G = i - j ∧ u13 = .int .i64 j ∧ Hid ((∀ k, k < j → bodyAt l i k = none) ∧ Fr (fun _ => False) w wr))
  case atStart => exact ⟨0, Nat.zero_le _, rfl, rfl, Lib.hid ⟨fun k hk => by omega, Fr.refl _ _⟩⟩
  case round =>
    obtain ⟨j, hj, rfl, rfl, HI⟩ := hrel
    by_cases hlt : j < i
    · obtain ⟨x, hx⟩ : ∃ x, l[j]? = some x := ⟨_, List.getElem?_eq_getElem (by omega)⟩
      obtain ⟨hf, c0, c1, c2, c3, c4⟩ := H.out j x hx
      have c0 := cell_fr0 HI.out.2 c0
      have c1 := cell_fr0 HI.out.2 c1
      have c2 := cell_fr0 HI.out.2 c2
      have c3 := cell_fr0 HI.out.2 c3
      have c4 := cell_fr0 HI.out.2 c4
      have fb : Fr (fun _ => False) w (wr.alloc (.cells #[.int .u8 x.op, .int .u8 x.dst, .int .u8 x.a, .int .u8 x.b, .int .i16 x.n] 84)) := HI.out.2.alloc _
      have hb := hf.b
      have FB := Lib.hid fb
      have HB : Hid (bodyAt l i j = if x.op = 9 ∧ i < j + 1 + x.b then some (j + 1 + x.b) else none) := Lib.hid (by unfold bodyAt; rw [hx])
      clear hx hf fb
      obtain ⟨op, dst, a, b, n⟩ := x
      dsimp only at *
      by_cases h9 : op = 9
      · subst h9
        by_cases hin : i < j + 1 + b
        · have HE := Lib.hid (body_find l i j (j + 1 + b) hlt HI.out.1 (by rw [HB.out, if_pos ⟨rfl, hin⟩]))
          go_wp2
          go_ret2
          rw [HE.out]
          exact ⟨by simp, FB.out⟩
        · have HE := Lib.hid (show bodyAt l i j = none by rw [HB.out, if_neg (by omega)])
          go_wp2
          go_roundg (i - (j + 1))
          case measure => omega
          case rel => exact ⟨j + 1, by omega, rfl, by go_num, Lib.hid ⟨fun k hk => by
            by_cases h : k < j
            · exact HI.out.1 k h
            · obtain rfl : k = j := by omega
              exact HE.out, FB.out⟩⟩
      · have HE := Lib.hid (show bodyAt l i j = none by rw [HB.out, if_neg (by omega)])
        have e9 : ((op : Int) == 9) = false := by simp; omega
        clear h9
        go_wp2
        go_roundg (i - (j + 1))
        case measure => omega
        case rel => exact ⟨j + 1, by omega, rfl, by go_num, Lib.hid ⟨fun k hk => by
            by_cases h : k < j
            · exact HI.out.1 k h
            · obtain rfl : k = j := by omega
              exact HE.out, FB.out⟩⟩
    · obtain rfl : j = i := by omega
      have HE := Lib.hid (show bodyE l j = none from findSome_none j HI.out.1)
      go_wp2
      go_ret2
      rw [HE.out]
      exact ⟨rfl, HI.out.2⟩

theorem regs_any (x : Ins) (hf : x.Fits) (w : World) :
    Calls Try.prog 53 #[.agg #[.int .u8 x.op, .int .u8 x.dst, .int .u8 x.a, .int .u8 x.b, .int .i16 x.n]] w fun e w' => e = .returned (.bool (regsE x)) ∧ Fr (fun _ => False) w w' := by
  obtain ⟨op, dst, a, b, n⟩ := x
  by_cases h1 : dst < 16
  · by_cases h2 : a < 16
    · by_cases h3 : op = 9
      · subst h3
        go_enter Try.func53, Try.ntmps53
        go_wp2
        go_ret
        exact ⟨by simp [regsE, h1, h2], (Fr.refl _ _).alloc _⟩
      · have e9 : ((op : Int) == 9) = false := by simp; omega
        have HR : Hid (regsE ⟨op, dst, a, b, n⟩ = decide ((b : Int) < 16)) := Lib.hid (by simp [regsE, h1, h2, h3]; omega)
        clear h3
        go_enter Try.func53, Try.ntmps53
        go_wp2
        go_ret
        rw [HR.out]
        exact ⟨rfl, (Fr.refl _ _).alloc _⟩
    · go_enter Try.func53, Try.ntmps53
      go_wp2
      go_ret
      exact ⟨by simp [regsE, h1, h2], (Fr.refl _ _).alloc _⟩
  · go_enter Try.func53, Try.ntmps53
    go_wp2
    go_ret
    exact ⟨by simp [regsE, h1], (Fr.refl _ _).alloc _⟩

end Go.Proofs.Ytedadjlmmnikaaa

/-
  package prog: Fuel, validLoop, validSkip.
-/
namespace Go.Proofs.Ytedadjlmmnikaaa
open Go.RowKit
set_option linter.unusedVariables false

theorem take_sum (l : List Ins) (j : Nat) (x : Ins) (hx : l[j]? = some x) : ((l.take (j + 1)).map Ins.turns).sum = ((l.take j).map Ins.turns).sum + x.turns := by
  rw [List.take_add_one, hx]; simp

set_option maxRecDepth 100000 in
set_option maxHeartbeats 4000000 in
theorem fuel_any (l : List Ins) (v : Value) (w : World) (hl : l.length ≤ 100) (h : PSees w v l) :
    Calls Try.prog 41 #[v] w fun e w' => e = .returned (.int .i64 (fuelE l)) ∧ Fr (fun _ => False) w w' := by
  obtain ⟨a, cap, rfl, hs⟩ := h.shape
  have Hs := Lib.hid hs
  clear h hs
  go_enter Try.func41, Try.ntmps41
  go_wp2
  go_loopg [3, 5, 10] l.length (fun G u3 u5 u10 wr => ∃ (j : Nat) (s : Int), j ≤ l.length ∧ G = l.length - j ∧ u10 = .int .i64 j ∧ u3 = .int .i64 s ∧ Hid (s = l.length + ((l.take j).map Ins.turns).sum ∧ (∀ x ∈ l, j ≤ l.length → x.Fits ∨ True) ∧ Fr (fun _ => False) w wr))
  case atStart => exact ⟨0, l.length, Nat.zero_le _, rfl, rfl, rfl, Lib.hid ⟨by simp, fun _ _ _ => .inr trivial, Fr.refl _ _⟩⟩
  case round =>
    obtain ⟨j, s, hj, rfl, rfl, rfl, HI⟩ := hrel
    by_cases hlt : j < l.length
    · rcases Hs.out with rfl | ⟨g, rfl, hcap, hat⟩
      · simp at hlt
      obtain ⟨x, hx⟩ : ∃ x, l[j]? = some x := ⟨_, List.getElem?_eq_getElem hlt⟩
      obtain ⟨hf, c0, c1, c2, c3, c4⟩ := hat j x hx
      have c0 := cell_fr0 HI.out.2.2 c0
      have c1 := cell_fr0 HI.out.2.2 c1
      have c2 := cell_fr0 HI.out.2.2 c2
      have c3 := cell_fr0 HI.out.2.2 c3
      have c4 := cell_fr0 HI.out.2.2 c4
      have FB : Hid (Fr (fun _ => False) w (wr.alloc (.cells #[.int .u8 x.op, .int .u8 x.dst, .int .u8 x.a, .int .u8 x.b, .int .i16 x.n] 84))) := Lib.hid (HI.out.2.2.alloc _)
      have HT := Lib.hid (take_sum l j x hx)
      have hsum := sum_bounds (l.take j) (fun y hy => by
        obtain ⟨i, hi, rfl⟩ := List.mem_iff_getElem.1 hy
        refine (hat i _ ?_).1
        rw [List.getElem_take]
        exact List.getElem?_eq_getElem _)
      have hlen : (l.take j).length ≤ 100 := by rw [List.length_take]; omega
      have hs0 : 0 ≤ s := by rw [HI.out.1]; omega
      have hs1 : s ≤ 1000000000 := by rw [HI.out.1]; omega
      have hTb := turns_bounds x hf
      have hb := hf.b
      have hn0 := hf.lo
      have hn1 := hf.hi
      clear hsum hlen hx hat hf
      by_cases h9 : x.op = 9
      · have hTe : x.turns = (x.b : Int) * (max x.n 1 - 1) := by unfold Ins.turns; rw [if_pos h9]
        rw [hTe] at hTb HT
        have e9 : ((x.op : Int) == 9) = true := by simp; omega
        clear hTe h9
        obtain ⟨op, dst, aa, b, n⟩ := x
        dsimp only at *
        obtain ⟨T, hT⟩ : ∃ T : Int, T = (b : Int) * (max n 1 - 1) := ⟨_, rfl⟩
        rw [← hT] at hTb HT
        have hmul : wrap64 ((b : Int) * (max n 1 - 1)) = T := by rw [← hT]; unfold wrap64; omega
        have hM0 : 1 ≤ max n 1 := by omega
        have hM1 : max n 1 ≤ 32767 := by omega
        have hmax : ∀ (ts : Array TypeId) (t : TypeId) (W : World), (Builtin.max_ ts t #[.int .i64 n, .int .i64 1]).run Try.prog W = .ok (.int .i64 (max n 1)) W := by
          intro ts t W
          have e : max n 1 = if n < 1 then 1 else n := by split <;> omega
          rw [e]
          by_cases h : n < 1
          · simp [Builtin.max_, Builtin.max2, h]
          · simp [Builtin.max_, Builtin.max2, h]
        generalize max n 1 = M at *
        clear hT
        go_wp2
        go_roundg (l.length - (j + 1))
        case measure => omega
        case rel => exact ⟨j + 1, _, by omega, rfl, by go_num, by go_num, Lib.hid ⟨by rw [HT.out, HI.out.1]; omega, fun _ _ _ => .inr trivial, FB.out⟩⟩
      · have hTe : x.turns = 0 := by unfold Ins.turns; rw [if_neg h9]
        rw [hTe] at HT
        have e9 : ((x.op : Int) == 9) = false := by simp; omega
        clear hTe hTb h9
        obtain ⟨op, dst, aa, b, n⟩ := x
        dsimp only at *
        go_wp2
        go_roundg (l.length - (j + 1))
        case measure => omega
        case rel => exact ⟨j + 1, _, by omega, rfl, by go_num, rfl, Lib.hid ⟨by rw [HT.out, HI.out.1]; omega, fun _ _ _ => .inr trivial, FB.out⟩⟩
    · obtain rfl : j = l.length := by omega
      have HE := Lib.hid (show s = fuelE l by rw [HI.out.1, List.take_length]; rfl)
      go_wp2
      go_ret
      rw [HE.out]
      exact ⟨rfl, HI.out.2.2⟩
end Go.Proofs.Ytedadjlmmnikaaa

/-
  package prog: validLoop, validSkip, checkAt.
-/
namespace Go.Proofs.Ytedadjlmmnikaaa
open Go.RowKit
set_option linter.unusedVariables false

theorem pret_bool {a b : Bool} (h : a = b) : (Ending.returned (.bool a)) = .returned (.bool b) := by rw [h]

set_option maxRecDepth 100000 in
set_option maxHeartbeats 4000000 in
theorem loop_any (l : List Ins) (g cap i : Nat) (x : Ins) (hx : l[i]? = some x) (w : World) (hl : l.length ≤ 100) (hcap : l.length ≤ cap) (h : PAt w g l) :
    Calls Try.prog 54 #[.slice (some ⟨g, 0, none⟩) l.length cap, .int .i64 i] w fun e w' => e = .returned (.bool (loopE l i x)) ∧ Fr (fun _ => False) w w' := by
  have hi := (List.getElem?_eq_some_iff.1 hx).1
  have hb := body_any l g cap i w hl hcap (by omega) h
  obtain ⟨hf, c0, c1, c2, c3, c4⟩ := h i x hx
  have hbb := hf.b
  have hn0 := hf.lo
  have hn1 := hf.hi
  have hL : Hid (loopE l i x = (!(bodyE l i).isSome && (decide (0 < x.b) && (decide (i + x.b < l.length) && (decide (1 ≤ x.n) && decide (x.n ≤ 8)))))) := Lib.hid rfl
  have HB := Lib.hid hb
  clear hb hf h hx
  obtain ⟨op, dst, a, b, n⟩ := x
  dsimp only at *
  cases hs : bodyE l i with
  | some e =>
    rw [hs] at HB
    have HL : Hid (loopE l i ⟨op, dst, a, b, n⟩ = false) := Lib.hid (by rw [hL.out, hs]; rfl)
    go_enter Try.func54, Try.ntmps54
    go_wp2_with fail
    refine HB.out.mono ?_
    rintro r w1 ⟨rfl, f1⟩
    go_wp2
    go_ret
    exact ⟨pret_bool HL.out.symm, f1⟩
  | none =>
    rw [hs] at HB
    have HL : Hid (loopE l i ⟨op, dst, a, b, n⟩ = (decide (0 < b) && (decide (i + b < l.length) && (decide (1 ≤ n) && decide (n ≤ 8))))) := Lib.hid (by rw [hL.out, hs]; rfl)
    clear hL hs
    by_cases h1 : 0 < b
    · by_cases h2 : i + b < l.length
      · by_cases h3 : 1 ≤ n
        · have HE : Hid (loopE l i ⟨op, dst, a, b, n⟩ = decide (n ≤ 8)) := Lib.hid (by rw [HL.out]; simp [h1, h2, h3])
          go_enter Try.func54, Try.ntmps54
          go_wp2_with fail
          refine HB.out.mono ?_
          rintro r w1 ⟨rfl, f1⟩
          replace c0 := cell_fr0 f1 c0
          replace c1 := cell_fr0 f1 c1
          replace c2 := cell_fr0 f1 c2
          replace c3 := cell_fr0 f1 c3
          replace c4 := cell_fr0 f1 c4
          go_wp2
          go_ret
          exact ⟨pret_bool HE.out.symm, f1.alloc _⟩
        · have HE : Hid (loopE l i ⟨op, dst, a, b, n⟩ = false) := Lib.hid (by rw [HL.out]; simp [h3])
          go_enter Try.func54, Try.ntmps54
          go_wp2_with fail
          refine HB.out.mono ?_
          rintro r w1 ⟨rfl, f1⟩
          replace c0 := cell_fr0 f1 c0
          replace c1 := cell_fr0 f1 c1
          replace c2 := cell_fr0 f1 c2
          replace c3 := cell_fr0 f1 c3
          replace c4 := cell_fr0 f1 c4
          go_wp2
          go_ret
          exact ⟨pret_bool HE.out.symm, f1.alloc _⟩
      · have HE : Hid (loopE l i ⟨op, dst, a, b, n⟩ = false) := Lib.hid (by rw [HL.out]; simp [h2])
        go_enter Try.func54, Try.ntmps54
        go_wp2_with fail
        refine HB.out.mono ?_
        rintro r w1 ⟨rfl, f1⟩
        replace c0 := cell_fr0 f1 c0
        replace c1 := cell_fr0 f1 c1
        replace c2 := cell_fr0 f1 c2
        replace c3 := cell_fr0 f1 c3
        replace c4 := cell_fr0 f1 c4
        go_wp2
        go_ret
        exact ⟨pret_bool HE.out.symm, f1.alloc _⟩
    · have HE : Hid (loopE l i ⟨op, dst, a, b, n⟩ = false) := Lib.hid (by rw [HL.out]; simp [h1])
      go_enter Try.func54, Try.ntmps54
      go_wp2_with fail
      refine HB.out.mono ?_
      rintro r w1 ⟨rfl, f1⟩
      replace c0 := cell_fr0 f1 c0
      replace c1 := cell_fr0 f1 c1
      replace c2 := cell_fr0 f1 c2
      replace c3 := cell_fr0 f1 c3
      replace c4 := cell_fr0 f1 c4
      go_wp2
      go_ret
      exact ⟨pret_bool HE.out.symm, f1.alloc _⟩

set_option maxRecDepth 100000 in
set_option maxHeartbeats 4000000 in
theorem skip_any (l : List Ins) (g cap i : Nat) (x : Ins) (hx : l[i]? = some x) (w : World) (hl : l.length ≤ 100) (hcap : l.length ≤ cap) (h : PAt w g l) :
    Calls Try.prog 55 #[.slice (some ⟨g, 0, none⟩) l.length cap, .int .i64 i] w fun e w' => e = .returned (.bool (skipE l i x)) ∧ Fr (fun _ => False) w w' := by
  have hi := (List.getElem?_eq_some_iff.1 hx).1
  have hb := body_any l g cap i w hl hcap (by omega) h
  obtain ⟨hf, c0, c1, c2, c3, c4⟩ := h i x hx
  have hn0 := hf.lo
  have hn1 := hf.hi
  have hL : Hid (skipE l i x = if x.n < 1 ∨ (l.length : Int) < i + 1 + x.n then false else match bodyE l i with | some e => decide ((i : Int) + 1 + x.n ≤ e) | none => !(bodyE l (i + 1 + x.n.toNat)).isSome) := Lib.hid rfl
  have HB := Lib.hid hb
  have HA := Lib.hid h
  clear hb hf h hx
  obtain ⟨op, dst, a, b, n⟩ := x
  dsimp only at *
  by_cases h1 : n < 1
  · have HE : Hid (skipE l i ⟨op, dst, a, b, n⟩ = false) := Lib.hid (by rw [hL.out, if_pos (.inl h1)])
    go_enter Try.func55, Try.ntmps55
    go_wp2
    go_ret
    exact ⟨pret_bool HE.out.symm, Fr.refl _ _⟩
  · by_cases h2 : (l.length : Int) < i + 1 + n
    · have HE : Hid (skipE l i ⟨op, dst, a, b, n⟩ = false) := Lib.hid (by rw [hL.out, if_pos (.inr h2)])
      go_enter Try.func55, Try.ntmps55
      go_wp2
      go_ret
      exact ⟨pret_bool HE.out.symm, Fr.refl _ _⟩
    · rw [if_neg (by omega)] at hL
      cases hs : bodyE l i with
      | some e =>
        rw [hs] at HB
        have HE : Hid (skipE l i ⟨op, dst, a, b, n⟩ = decide ((i : Int) + 1 + n ≤ (e : Nat))) := Lib.hid (by rw [hL.out, hs])
        clear hs hL
        go_enter Try.func55, Try.ntmps55
        go_wp2_with fail
        refine HB.out.mono ?_
        rintro r w1 ⟨rfl, f1⟩
        simp only [Option.getD_some, Option.isSome_some]
        go_wp2
        go_ret
        exact ⟨pret_bool HE.out.symm, f1⟩
      | none =>
        rw [hs] at HB
        obtain ⟨m, rfl⟩ : ∃ m : Nat, n = m := ⟨n.toNat, by omega⟩
        have HE : Hid (skipE l i ⟨op, dst, a, b, (m : Int)⟩ = !(bodyE l (i + 1 + m)).isSome) := Lib.hid (by rw [hL.out, hs]; rfl)
        have HC : ∀ w1, Fr (fun _ => False) w w1 → _ := fun w1 f => body_any l g cap (i + 1 + m) w1 hl hcap (by omega) (HA.out.fr f (fun h => h))
        have HC := Lib.hid HC
        clear hs hL
        go_enter Try.func55, Try.ntmps55
        go_wp2_with fail
        refine HB.out.mono ?_
        rintro r w1 ⟨rfl, f1⟩
        have HC1 := HC.out w1 f1
        simp only [Option.getD_none, Option.isSome_none]
        have hcast : ((i + 1 + m : Nat) : Int) = (i : Int) + 1 + m := by omega
        rw [hcast] at HC1
        have HC1 := Lib.hid HC1
        clear hcast
        go_wp2_with fail
        refine HC1.out.mono ?_
        rintro r w2 ⟨rfl, f2⟩
        clear HC HC1
        generalize (bodyE l (i + 1 + m)).isSome = B at HE ⊢
        generalize (((bodyE l (i + 1 + m)).getD 0 : Nat) : Int) = D
        go_wp2
        go_ret
        exact ⟨pret_bool HE.out.symm, f1.trans f2 (fun _ _ h => h)⟩

set_option maxRecDepth 100000 in
set_option maxHeartbeats 4000000 in
theorem ins_any (l : List Ins) (g cap i : Nat) (x : Ins) (hx : l[i]? = some x) (w : World) (hl : l.length ≤ 100) (hcap : l.length ≤ cap) (h : PAt w g l) :
    Calls Try.prog 40 #[.slice (some ⟨g, 0, none⟩) l.length cap, .int .i64 i] w fun e w' => e = .returned (.int .i64 (insE l i x : Nat)) ∧ Fr (fun _ => False) w w' := by
  have hi := (List.getElem?_eq_some_iff.1 hx).1
  obtain ⟨hf, c0, c1, c2, c3, c4⟩ := h i x hx
  have HR := Lib.hid (regs_any x hf)
  have HL : Hid (∀ w1, Fr (fun _ => False) w w1 → Calls Try.prog 54 #[.slice (some ⟨g, 0, none⟩) l.length cap, .int .i64 i] w1 fun e w' => e = .returned (.bool (loopE l i x)) ∧ Fr (fun _ => False) w1 w') :=
    Lib.hid (fun w1 f => loop_any l g cap i x hx w1 hl hcap (h.fr f (fun h => h)))
  have HS : Hid (∀ w1, Fr (fun _ => False) w w1 → Calls Try.prog 55 #[.slice (some ⟨g, 0, none⟩) l.length cap, .int .i64 i] w1 fun e w' => e = .returned (.bool (skipE l i x)) ∧ Fr (fun _ => False) w1 w') :=
    Lib.hid (fun w1 f => skip_any l g cap i x hx w1 hl hcap (h.fr f (fun h => h)))
  have hE : insE l i x = if 12 ≤ x.op then 5 else if regsE x = false then 2 else if (x.op = 9 ∧ loopE l i x = false) ∨ (x.op = 8 ∧ skipE l i x = false) then 4 else if x.op = 10 ∧ x.n < 0 then 2 else 0 := rfl
  have hop := hf.op
  generalize insE l i x = E at hE ⊢
  generalize loopE l i x = LB at hE HL
  generalize skipE l i x = SB at hE HS
  generalize regsE x = RB at hE HR
  have HE0 := Lib.hid hE
  clear hE hf h hx
  obtain ⟨op, dst, a, b, n⟩ := x
  dsimp only at *
  have f0 : Hid (Fr (fun _ => False) w (w.alloc (.cells #[.int .u8 op, .int .u8 dst, .int .u8 a, .int .u8 b, .int .i16 n] 84))) := Lib.hid ((Fr.refl _ _).alloc _)
  by_cases h12 : 12 ≤ op
  · have HE := Lib.hid (show E = 5 by rw [HE0.out, if_pos h12])
    clear HE0
    go_enter Try.func40, Try.ntmps40
    go_wp2
    go_ret
    rw [HE.out]
    exact ⟨rfl, f0.out⟩
  cases RB with
  | false =>
    have HE := Lib.hid (show E = 2 by rw [HE0.out, if_neg h12, if_pos rfl])
    clear HE0
    go_enter Try.func40, Try.ntmps40
    go_wp2_with fail
    refine (HR.out _).mono ?_
    rintro r w1 ⟨rfl, f1⟩
    go_wp2
    go_ret
    rw [HE.out]
    exact ⟨rfl, f0.out.trans f1 (fun _ _ h => h)⟩
  | true =>
    by_cases h9 : op = 9
    · subst h9
      cases LB with
      | false =>
        have HE := Lib.hid (show E = 4 by rw [HE0.out]; simp)
        clear HE0
        go_enter Try.func40, Try.ntmps40
        go_wp2_with fail
        refine (HR.out _).mono ?_
        rintro r w1 ⟨rfl, f1⟩
        have q := pbox_kept (heap_alloc_new w _) f1 (fun h => h)
        have q0 := pcells_row q 0 _ rfl
        have q4 := pcells_row q 4 _ rfl
        have F1 := Lib.hid (f0.out.trans f1 (fun _ _ h => h))
        clear q f1
        go_wp2_with fail
        refine (HL.out _ F1.out).mono ?_
        rintro r w2 ⟨rfl, f2⟩
        go_wp2
        go_ret
        rw [HE.out]
        exact ⟨rfl, F1.out.trans f2 (fun _ _ h => h)⟩
      | true =>
        have HE := Lib.hid (show E = 0 by rw [HE0.out]; simp)
        clear HE0
        go_enter Try.func40, Try.ntmps40
        go_wp2_with fail
        refine (HR.out _).mono ?_
        rintro r w1 ⟨rfl, f1⟩
        have q := pbox_kept (heap_alloc_new w _) f1 (fun h => h)
        have q0 := pcells_row q 0 _ rfl
        have q4 := pcells_row q 4 _ rfl
        have F1 := Lib.hid (f0.out.trans f1 (fun _ _ h => h))
        clear f1
        go_wp2_with fail
        refine (HL.out _ F1.out).mono ?_
        rintro r w2 ⟨rfl, f2⟩
        replace q := pbox_kept q f2 (fun h => h)
        replace q0 := pcells_row q 0 _ rfl
        replace q4 := pcells_row q 4 _ rfl
        clear q
        go_wp2
        go_ret
        rw [HE.out]
        exact ⟨rfl, F1.out.trans f2 (fun _ _ h => h)⟩
    · have e9 : ((op : Int) == 9) = false := by simp; omega
      by_cases h8 : op = 8
      · subst h8
        cases SB with
        | false =>
          have HE := Lib.hid (show E = 4 by rw [HE0.out]; simp)
          clear HE0
          clear h9
          go_enter Try.func40, Try.ntmps40
          go_wp2_with fail
          refine (HR.out _).mono ?_
          rintro r w1 ⟨rfl, f1⟩
          have q := pbox_kept (heap_alloc_new w _) f1 (fun h => h)
          have q0 := pcells_row q 0 _ rfl
          have q4 := pcells_row q 4 _ rfl
          have F1 := Lib.hid (f0.out.trans f1 (fun _ _ h => h))
          clear q f1
          go_wp2_with fail
          refine (HS.out _ F1.out).mono ?_
          rintro r w2 ⟨rfl, f2⟩
          go_wp2
          go_ret
          rw [HE.out]
          exact ⟨rfl, F1.out.trans f2 (fun _ _ h => h)⟩
        | true =>
          have HE := Lib.hid (show E = 0 by rw [HE0.out]; simp)
          clear HE0
          clear h9
          go_enter Try.func40, Try.ntmps40
          go_wp2_with fail
          refine (HR.out _).mono ?_
          rintro r w1 ⟨rfl, f1⟩
          have q := pbox_kept (heap_alloc_new w _) f1 (fun h => h)
          have q0 := pcells_row q 0 _ rfl
          have q4 := pcells_row q 4 _ rfl
          have F1 := Lib.hid (f0.out.trans f1 (fun _ _ h => h))
          clear f1
          go_wp2_with fail
          refine (HS.out _ F1.out).mono ?_
          rintro r w2 ⟨rfl, f2⟩
          replace q := pbox_kept q f2 (fun h => h)
          replace q0 := pcells_row q 0 _ rfl
          replace q4 := pcells_row q 4 _ rfl
          clear q
          go_wp2
          go_ret
          rw [HE.out]
          exact ⟨rfl, F1.out.trans f2 (fun _ _ h => h)⟩
      · have e8 : ((op : Int) == 8) = false := by simp; omega
        by_cases hr : op = 10
        · subst hr
          by_cases hn : n < 0
          · have HE := Lib.hid (show E = 2 by rw [HE0.out]; simp [hn])
            clear HE0
            clear h9 h8
            go_enter Try.func40, Try.ntmps40
            go_wp2_with fail
            refine (HR.out _).mono ?_
            rintro r w1 ⟨rfl, f1⟩
            have q := pbox_kept (heap_alloc_new w _) f1 (fun h => h)
            have q0 := pcells_row q 0 _ rfl
            have q4 := pcells_row q 4 _ rfl
            have F1 := Lib.hid (f0.out.trans f1 (fun _ _ h => h))
            clear q f1
            go_wp2
            go_ret
            rw [HE.out]
            exact ⟨rfl, F1.out⟩
          · have HE := Lib.hid (show E = 0 by rw [HE0.out]; simp; omega)
            clear HE0
            clear h9 h8
            go_enter Try.func40, Try.ntmps40
            go_wp2_with fail
            refine (HR.out _).mono ?_
            rintro r w1 ⟨rfl, f1⟩
            have q := pbox_kept (heap_alloc_new w _) f1 (fun h => h)
            have q0 := pcells_row q 0 _ rfl
            have q4 := pcells_row q 4 _ rfl
            have F1 := Lib.hid (f0.out.trans f1 (fun _ _ h => h))
            clear q f1
            go_wp2
            go_ret
            rw [HE.out]
            exact ⟨rfl, F1.out⟩
        · have HE := Lib.hid (show E = 0 by rw [HE0.out, if_neg h12, if_neg (by simp), if_neg (by omega), if_neg (by omega)])
          clear HE0
          have e10 : ((op : Int) == 10) = false := by simp; omega
          clear h9 h8 hr
          go_enter Try.func40, Try.ntmps40
          go_wp2_with fail
          refine (HR.out _).mono ?_
          rintro r w1 ⟨rfl, f1⟩
          have q := pbox_kept (heap_alloc_new w _) f1 (fun h => h)
          have q0 := pcells_row q 0 _ rfl
          have q4 := pcells_row q 4 _ rfl
          have F1 := Lib.hid (f0.out.trans f1 (fun _ _ h => h))
          clear q f1
          go_wp2
          go_ret
          rw [HE.out]
          exact ⟨rfl, F1.out⟩

end Go.Proofs.Ytedadjlmmnikaaa

/-
  package prog: Check; the laws' Awake.
-/
namespace Go.Proofs.Ytedadjlmmnikaaa
open Go.RowKit
set_option linter.unusedVariables false

theorem firstE_drop (l : List Ins) (j : Nat) (x : Ins) (hx : l[j]? = some x) : pfirstE l j (l.drop j) = if insE l j x ≠ 0 then insE l j x else pfirstE l (j + 1) (l.drop (j + 1)) := by
  have hj := (List.getElem?_eq_some_iff.1 hx)
  rw [List.drop_eq_getElem_cons hj.1, hj.2]
  rfl

theorem insE_le (l : List Ins) (i : Nat) (x : Ins) : insE l i x ≤ 5 := by
  unfold insE
  split
  · omega
  · split
    · omega
    · split
      · omega
      · split <;> omega

theorem checkE_le (l : List Ins) : pcheckE l ≤ 7 := by
  have h : ∀ (r : List Ins) (i : Nat), pfirstE l i r ≤ 5 := by
    intro r
    induction r with
    | nil => intro i; simp [pfirstE]
    | cons x r ih =>
      intro i
      unfold pfirstE
      split
      · exact insE_le l i x
      · exact ih _
  have := h l 0
  unfold pcheckE
  split
  · omega
  · split
    · omega
    · split <;> omega

set_option maxRecDepth 100000 in
set_option maxHeartbeats 4000000 in
theorem pcheck_any (l : List Ins) (v : Value) (w : World) (hl : l.length ≤ 100) (h : PSees w v l) :
    Calls Try.prog 23 #[v] w fun e w' => e = .returned (.int .i64 (pcheckE l : Nat)) ∧ Fr (fun _ => False) w w' := by
  have h0 := Lib.hid h
  obtain ⟨a, cap, rfl, hs⟩ := h.shape
  have Hs := Lib.hid hs
  have hE : pcheckE l = if 24 < l.length then 7 else if pfirstE l 0 l ≠ 0 then pfirstE l 0 l else if 200 < fuelE l then 6 else 0 := rfl
  generalize pcheckE l = E at hE ⊢
  have HE0 := Lib.hid hE
  clear h hs hE
  by_cases h24 : 24 < l.length
  · have HE := Lib.hid (show E = 7 by rw [HE0.out, if_pos h24])
    clear HE0
    go_enter Try.func23, Try.ntmps23
    go_wp2
    go_ret
    rw [HE.out]
    exact ⟨rfl, Fr.refl _ _⟩
  have HE1 := Lib.hid (show E = if pfirstE l 0 l ≠ 0 then pfirstE l 0 l else if 200 < fuelE l then 6 else 0 by rw [HE0.out, if_neg h24])
  clear HE0
  go_enter Try.func23, Try.ntmps23
  go_wp2
  go_loopg [3, 4, 10] l.length (fun G u3 u4 u10 wr => ∃ (j : Nat), j ≤ l.length ∧ G = l.length - j ∧ u10 = .int .i64 j ∧ Hid (pfirstE l 0 l = pfirstE l j (l.drop j) ∧ Fr (fun _ => False) w wr))
  case atStart => exact ⟨0, Nat.zero_le _, rfl, rfl, Lib.hid ⟨rfl, Fr.refl _ _⟩⟩
  case round =>
    obtain ⟨j, hj, rfl, rfl, HI⟩ := hrel
    by_cases hlt : j < l.length
    · rcases Hs.out with rfl | ⟨g, rfl, hcap, hat⟩
      · simp at hlt
      obtain ⟨x, hx⟩ : ∃ x, l[j]? = some x := ⟨_, List.getElem?_eq_getElem hlt⟩
      have HC := Lib.hid (ins_any l g cap j x hx wr hl hcap (hat.fr HI.out.2 (fun h => h)))
      have HF := Lib.hid (firstE_drop l j x hx)
      have hle := insE_le l j x
      clear hx hat
      generalize insE l j x = er at *
      by_cases her : er = 0
      · subst her
        have HF := Lib.hid (show pfirstE l j (l.drop j) = pfirstE l (j + 1) (l.drop (j + 1)) by rw [HF.out]; simp)
        go_wp2_with fail
        refine HC.out.mono ?_
        rintro r w1 ⟨rfl, f1⟩
        go_wp2
        go_roundg (l.length - (j + 1))
        case measure => omega
        case rel => exact ⟨j + 1, by omega, rfl, by go_num, Lib.hid ⟨by rw [HI.out.1, HF.out], HI.out.2.trans f1 (fun _ _ h => h)⟩⟩
      · have hFe : pfirstE l 0 l = er := by rw [HI.out.1, HF.out, if_pos her]
        have HE := Lib.hid (show E = er by rw [HE1.out, hFe, if_pos her])
        have e0 : ((er : Int) == 0) = false := by simp; omega
        have e1 : ((er : Int) != 0) = true := by simp; omega
        clear hFe HE1 her HF
        go_wp2_with fail
        refine HC.out.mono ?_
        rintro r w1 ⟨rfl, f1⟩
        go_wp2
        go_ret
        rw [HE.out]
        exact ⟨rfl, HI.out.2.trans f1 (fun _ _ h => h)⟩
    · obtain rfl : j = l.length := by omega
      have hF : pfirstE l 0 l = 0 := by rw [HI.out.1, List.drop_length]; rfl
      have HE := Lib.hid (show E = if 200 < fuelE l then 6 else 0 by rw [HE1.out, hF]; simp)
      have HC := Lib.hid (fuel_any l _ wr hl (h0.out.fr HI.out.2 (fun _ _ h => h)))
      clear hF HE1
      generalize fuelE l = F at *
      by_cases h200 : 200 < F
      · have HE := Lib.hid (show E = 6 by rw [HE.out, if_pos h200])
        go_wp2_with fail
        refine HC.out.mono ?_
        rintro r w1 ⟨rfl, f1⟩
        go_wp2
        go_ret
        rw [HE.out]
        exact ⟨rfl, HI.out.2.trans f1 (fun _ _ h => h)⟩
      · have HE := Lib.hid (show E = 0 by rw [HE.out, if_neg h200])
        go_wp2_with fail
        refine HC.out.mono ?_
        rintro r w1 ⟨rfl, f1⟩
        go_wp2
        go_ret
        rw [HE.out]
        exact ⟨rfl, HI.out.2.trans f1 (fun _ _ h => h)⟩

end Go.Proofs.Ytedadjlmmnikaaa
