/-
  ProgJoins and ProgMore: for every input the laws return true, and the arguments read as before.
-/
import Derived.Test.YtjifeopiaghmbaaProgMake
namespace Go.Proofs.Ytjifeopiaghmbaa
open Go.RowKit
set_option linter.unusedVariables false

theorem fuel_bounds (l : List Ins) (h : ∀ x ∈ l, x.Fits) (hl : l.length ≤ 100) : 0 ≤ fuelE l ∧ fuelE l ≤ 1000000000 := by
  have := sum_bounds l h
  unfold fuelE
  omega

theorem POwn.shape {w : World} {v : Value} {l : List Ins} (h : POwn w v l) : ∃ a c, v = .slice a l.length c := slice_of_own h

set_option maxRecDepth 100000 in
set_option maxHeartbeats 16000000 in
theorem joins_short (a b : List Sm) (va vb : Value) (w : World) (ha : SmSees w va a) (hb : SmSees w vb b) (la : a.length ≤ 12) (lb : b.length ≤ 12) :
    Calls Try.prog 3 #[va, vb] w fun e w' => e = .returned (.bool true) ∧ Fr (fun _ => False) w w' := by
  obtain ⟨aa, ca, rfl, _⟩ := ha.shape
  obtain ⟨ab, cb, rfl, _⟩ := hb.shape
  have HA := Lib.hid ha
  have HB := Lib.hid hb
  clear ha hb
  go_enter Try.func3, Try.ntmps3
  go_wp2_with fail
  refine (awake_any w).mono ?_
  rintro r w1 ⟨rfl, q1⟩
  have Q1 := Lib.hid q1
  clear q1
  go_wp2_with fail
  refine (program_any a _ w1 (HA.out.fr0 Q1.out)).mono ?_
  rintro r w2 ⟨v1, l1, rfl, t1, ln1, lm1, hf1, hc1⟩
  have Q2 := Lib.hid (Q1.out.trans t1.2.1 (fun _ _ h => h))
  go_wp2_with fail
  refine (program_any b _ w2 (HB.out.fr0 Q2.out)).mono ?_
  rintro r w3 ⟨v2, l2, rfl, t2, ln2, lm2, hf2, hc2⟩
  have Q3 := Lib.hid (Q2.out.trans t2.2.1 (fun _ _ h => h))
  have S1 : Hid (∀ w', Fr (fun _ => False) w3 w' → PSees w' v1 l1) := Lib.hid (fun w' f => ((t1.1.sees hf1).fr t2.2.1 (fun _ _ h => h)).fr f (fun _ _ h => h))
  have S2 : Hid (∀ w', Fr (fun _ => False) w3 w' → PSees w' v2 l2) := Lib.hid (fun w' f => (t2.1.sees hf2).fr f (fun _ _ h => h))
  have HJ := Lib.hid (check_join l1 l2 hc1 hc2 (by omega))
  have HF := Lib.hid (fuel_append l1 l2)
  have b1 := fuel_bounds l1 hf1 (by omega)
  have b2 := fuel_bounds l2 hf2 (by omega)
  have HH := Lib.hid (show ∀ x ∈ l1 ++ l2, x.Fits from fun x hx => (List.mem_append.1 hx).elim (hf1 x) (hf2 x))
  clear t1 t2 hc1 hc2 hf1 hf2
  go_wp2_with (at_builtin; refine wpList_append_ins rfl (.tmp 23) (.tmp 24) rfl (.slice (some ⟨w3.heap.size, 0, none⟩) 0 0) [] rfl (own_empty w3) v1 l1 rfl ?src ?len ?grow)
  case src => exact S1.out _ ((Fr.refl _ _).alloc _)
  case len => rw [List.length_nil]; omega
  case grow =>
    intro v3 w4 hown hgrow hcase
    have Q4 := Lib.hid (fr_append hgrow)
    have HO := Lib.hid hown
    have hfresh : ∀ k, v3.ownBlock = some k → w3.heap.size ≤ k := by
      intro k hk
      rcases hcase with e | e
      · rw [e] at hk; simp [Value.ownBlock] at hk; omega
      · rw [e] at hk; simp at hk; omega
    have HK := Lib.hid hfresh
    clear hown hgrow hcase hfresh
    go_wp2_with (at_builtin; refine wpList_append_ins rfl (.tmp 25) (.tmp 26) rfl v3 l1 rfl HO.out v2 l2 rfl ?src2 ?len2 ?grow2)
    case src2 => exact S2.out _ Q4.out
    case len2 => omega
    case grow2 =>
      intro v5 w5 hown hgrow hcase
      have Q5 : Hid (Fr (fun _ => False) w3 w5) := Lib.hid (Q4.out.trans (Fr.of_grown hgrow) (fun i hi e => by have := HK.out i e.symm; omega))
      have S5 : Hid (∀ w', Fr (fun _ => False) w5 w' → PSees w' v5 (l1 ++ l2)) := Lib.hid (fun w' f => (hown.sees HH.out).fr f (fun _ _ h => h))
      have hln : (l1 ++ l2).length ≤ 24 := by rw [List.length_append]; omega
      clear hown hgrow hcase HO HK
      generalize l1 ++ l2 = l5 at *
      have HC := Lib.hid (check_any l5 v5 w5 (by omega) (S5.out w5 (Fr.refl _ _)))
      rw [HJ.out] at HC
      have HG : Hid (∀ w', Fr (fun _ => False) w5 w' → Calls Try.prog 8 #[v5] w' fun e w'' => e = .returned (.int .i64 (fuelE l1 + fuelE l2)) ∧ Fr (fun _ => False) w' w'') :=
        Lib.hid (fun w' f => by have := fuel_any l5 v5 w' (by omega) (S5.out w' f); rw [HF.out] at this; exact this)
      have HG1 : Hid (∀ w', Fr (fun _ => False) w5 w' → Calls Try.prog 8 #[v1] w' fun e w'' => e = .returned (.int .i64 (fuelE l1)) ∧ Fr (fun _ => False) w' w'') :=
        Lib.hid (fun w' f => fuel_any l1 v1 w' (by omega) (S1.out w' (Q5.out.trans f (fun _ _ h => h))))
      have HG2 : Hid (∀ w', Fr (fun _ => False) w5 w' → Calls Try.prog 8 #[v2] w' fun e w'' => e = .returned (.int .i64 (fuelE l2)) ∧ Fr (fun _ => False) w' w'') :=
        Lib.hid (fun w' f => fuel_any l2 v2 w' (by omega) (S2.out w' (Q5.out.trans f (fun _ _ h => h))))
      rw [HF.out] at HC
      have QE := Lib.hid (Q3.out.trans Q5.out (fun _ _ h => h))
      clear HJ HF S1 S2 S5 HH HA HB Q1 Q2 Q3 Q4 Q5
      generalize fuelE l1 = F1 at *
      generalize fuelE l2 = F2 at *
      by_cases h200 : 200 < F1 + F2
      · rw [if_pos h200] at HC
        go_wp2_with fail
        refine HC.out.mono ?_
        rintro r w6 ⟨rfl, q6⟩
        go_wp2_with fail
        refine (HG.out w6 q6).mono ?_
        rintro r w7 ⟨rfl, q7⟩
        replace q7 := q6.trans q7 (fun _ _ h => h)
        go_wp2_with fail
        refine (HG1.out w7 q7).mono ?_
        rintro r w8 ⟨rfl, q8⟩
        replace q8 := q7.trans q8 (fun _ _ h => h)
        go_wp2_with fail
        refine (HG2.out w8 q8).mono ?_
        rintro r w9 ⟨rfl, q9⟩
        replace q9 := q8.trans q9 (fun _ _ h => h)
        go_wp2_with fail
        refine (HG.out w9 q9).mono ?_
        rintro r w10 ⟨rfl, q10⟩
        replace q10 := q9.trans q10 (fun _ _ h => h)
        go_wp2
        go_ret
        exact ⟨by simp; try omega, QE.out.trans q10 (fun _ _ h => h)⟩
      · rw [if_neg h200] at HC
        go_wp2_with fail
        refine HC.out.mono ?_
        rintro r w6 ⟨rfl, q6⟩
        go_wp2_with fail
        refine (HG.out w6 q6).mono ?_
        rintro r w7 ⟨rfl, q7⟩
        replace q7 := q6.trans q7 (fun _ _ h => h)
        go_wp2_with fail
        refine (HG1.out w7 q7).mono ?_
        rintro r w8 ⟨rfl, q8⟩
        replace q8 := q7.trans q8 (fun _ _ h => h)
        go_wp2_with fail
        refine (HG2.out w8 q8).mono ?_
        rintro r w9 ⟨rfl, q9⟩
        replace q9 := q8.trans q9 (fun _ _ h => h)
        go_wp2_with fail
        refine (HG.out w9 q9).mono ?_
        rintro r w10 ⟨rfl, q10⟩
        replace q10 := q9.trans q10 (fun _ _ h => h)
        go_wp2
        go_ret
        exact ⟨by simp; try omega, QE.out.trans q10 (fun _ _ h => h)⟩

theorem joins_any (a b : List Sm) (va vb : Value) (w : World) (ha : SmSees w va a) (hb : SmSees w vb b) :
    Calls Try.prog 3 #[va, vb] w fun e w' => e = .returned (.bool true) ∧ Fr (fun _ => False) w w' := by
  by_cases la : a.length ≤ 12
  · by_cases lb : b.length ≤ 12
    · exact joins_short a b va vb w ha hb la lb
    · obtain ⟨aa, ca, rfl, _⟩ := ha.shape
      obtain ⟨ab, cb, rfl, _⟩ := hb.shape
      have hm := hb.1
      unfold maxLen at hm
      clear ha hb
      go_enter Try.func3, Try.ntmps3
      go_wp2_with fail
      refine (awake_any w).mono ?_
      rintro r w1 ⟨rfl, q1⟩
      go_wp2
      go_ret
      exact ⟨rfl, q1⟩
  · obtain ⟨aa, ca, rfl, _⟩ := ha.shape
    obtain ⟨ab, cb, rfl, _⟩ := hb.shape
    have hm := ha.1
    unfold maxLen at hm
    clear ha hb
    go_enter Try.func3, Try.ntmps3
    go_wp2_with fail
    refine (awake_any w).mono ?_
    rintro r w1 ⟨rfl, q1⟩
    go_wp2
    go_ret
    exact ⟨rfl, q1⟩

set_option maxRecDepth 100000 in
set_option maxHeartbeats 16000000 in
theorem more_short (a : List Sm) (va : Value) (n : Int) (hn0 : 0 ≤ n) (hn1 : n ≤ 255) (w : World) (ha : SmSees w va a) (la : a.length ≤ 40) :
    Calls Try.prog 4 #[va, .int .u8 n] w fun e w' => e = .returned (.bool true) ∧ Fr (fun _ => False) w w' := by
  obtain ⟨aa, ca, rfl, _⟩ := ha.shape
  have HA := Lib.hid ha
  clear ha
  obtain ⟨m, hm, hm12⟩ : ∃ m : Nat, n % 12 = m ∧ m < 12 := ⟨(n % 12).toNat, by omega, by omega⟩
  obtain ⟨d, hd, hd16⟩ : ∃ m : Nat, n % 16 = m ∧ m < 16 := ⟨(n % 16).toNat, by omega, by omega⟩
  go_enter Try.func4, Try.ntmps4
  go_wp2_with fail
  refine (awake_any w).mono ?_
  rintro r w1 ⟨rfl, q1⟩
  have Q1 := Lib.hid q1
  clear q1
  go_wp2_with fail
  refine (program_any a _ w1 (HA.out.fr0 Q1.out)).mono ?_
  rintro r w2 ⟨v1, l1, rfl, t1, ln1, lm1, hf1, hc1⟩
  have HT := Lib.hid (show PTold w1 w2 v1 (l1 ++ []) from by rw [List.append_nil]; exact t1)
  have HF1 := Lib.hid hf1
  have HC1 := Lib.hid hc1
  have HX : Hid (Ins.Fits ⟨2, d, d, 0, 0⟩) := Lib.hid ⟨by show 2 ≤ 255; omega, by show d ≤ 255; omega, by show d ≤ 255; omega, by show 0 ≤ 255; omega, by show (-32768 : Int) ≤ 0; omega, by show (0 : Int) ≤ 32767; omega⟩
  clear t1 hf1 hc1 HA
  go_wp2
  simp only [hm]
  go_loopg [5, 17] m (fun G u5 u17 wr => ∃ (j : Nat) (q : List Ins), j ≤ m ∧ G = m - j ∧ u17 = .int .i64 j ∧ Hid (PTold w1 wr u5 (l1 ++ q) ∧ q.length = j ∧ ∀ x ∈ q, x = ⟨2, d, d, 0, 0⟩))
  case atStart => exact ⟨0, [], Nat.zero_le _, rfl, rfl, Lib.hid ⟨HT.out, rfl, by simp⟩⟩
  case round =>
    obtain ⟨j, q, hj, rfl, rfl, HI⟩ := hrel
    clear HT
    by_cases hlt : j < m
    · go_wp2_with (at_builtin; refine wpList_append_ins rfl (.tmp 19) (.tmp 25) rfl u5 (l1 ++ q) rfl ?own _ [⟨2, d, d, 0, 0⟩] rfl ?src ?len ?grow)
      case own => exact HI.out.1.1.fr (S := fun _ => False) ((Fr.refl _ _).alloc _) (fun _ _ h => h)
      case src => exact sees_one (heap_alloc_new wr _) _ HX.out rfl
      case len => have := HI.out.2.1; rw [List.length_append]; simp; omega
      case grow =>
        intro v' w3 hown' hgrow hcase
        rw [← List.append_assoc] at hown'
        have HO := Lib.hid (HI.out.1.append ((Fr.refl _ wr).alloc _) hown' hgrow hcase (by omega))
        clear hown' hgrow hcase
        go_wp2
        go_roundg (m - (j + 1))
        case measure => omega
        case rel => exact ⟨j + 1, q ++ [⟨2, d, d, 0, 0⟩], by omega, rfl, by go_num, Lib.hid ⟨by rw [← List.append_assoc]; exact HO.out, by have := HI.out.2.1; simp; omega, fun x hx => by
          rcases List.mem_append.1 hx with h | h
          · exact HI.out.2.2 x h
          · exact List.mem_singleton.1 h⟩⟩
    · obtain rfl : j = m := by omega
      have HE := check_more l1 q HC1.out (fun x hx => by rw [HI.out.2.2 x hx]; exact ⟨rfl, hd16, hd16, by show 0 < 16; omega⟩)
      have hfit : ∀ x ∈ l1 ++ q, x.Fits := fun x hx => (List.mem_append.1 hx).elim (HF1.out x) (fun h => by rw [HI.out.2.2 x h]; exact HX.out)
      have hl5 : (l1 ++ q).length ≤ 28 := by have := HI.out.2.1; rw [List.length_append]; omega
      have S5 : Hid (∀ w', Fr (fun _ => False) wr w' → PSees w' u5 (l1 ++ q)) := Lib.hid (fun w' f => (HI.out.1.1.sees hfit).fr f (fun _ _ h => h))
      obtain ⟨a5, c5, hsl⟩ := slice_of_own HI.out.1.1
      have QE := Lib.hid (Q1.out.trans HI.out.1.2.1 (fun _ _ h => h))
      have hb := fuel_bounds (l1 ++ q) hfit (by omega)
      clear HI HF1 HC1 hfit
      subst hsl
      generalize l1 ++ q = l5 at *
      have HC := Lib.hid (check_any l5 _ wr (by omega) (S5.out wr (Fr.refl _ _)))
      rw [HE] at HC
      have HG : Hid (∀ w', Fr (fun _ => False) wr w' → Calls Try.prog 8 #[.slice a5 l5.length c5] w' fun e w'' => e = .returned (.int .i64 (fuelE l5)) ∧ Fr (fun _ => False) w' w'') :=
        Lib.hid (fun w' f => fuel_any l5 _ w' (by omega) (S5.out w' f))
      clear HE S5
      generalize fuelE l5 = F at *
      generalize l5.length = N at *
      by_cases h24 : 24 < N
      · rw [if_pos h24] at HC
        go_wp2_with fail
        refine HC.out.mono ?_
        rintro r w6 ⟨rfl, q6⟩
        go_wp2
        go_ret
        exact ⟨rfl, QE.out.trans q6 (fun _ _ h => h)⟩
      · rw [if_neg h24] at HC
        by_cases h200 : 200 < F
        · rw [if_pos h200] at HC
          go_wp2_with fail
          refine HC.out.mono ?_
          rintro r w6 ⟨rfl, q6⟩
          go_wp2_with fail
          refine (HG.out w6 q6).mono ?_
          rintro r w7 ⟨rfl, q7⟩
          replace q7 := q6.trans q7 (fun _ _ h => h)
          go_wp2
          go_ret
          exact ⟨by simp; try omega, QE.out.trans q7 (fun _ _ h => h)⟩
        · rw [if_neg h200] at HC
          go_wp2_with fail
          refine HC.out.mono ?_
          rintro r w6 ⟨rfl, q6⟩
          go_wp2_with fail
          refine (HG.out w6 q6).mono ?_
          rintro r w7 ⟨rfl, q7⟩
          replace q7 := q6.trans q7 (fun _ _ h => h)
          go_wp2
          go_ret
          exact ⟨by simp; try omega, QE.out.trans q7 (fun _ _ h => h)⟩

theorem more_any (a : List Sm) (va : Value) (w : World) (ha : SmSees w va a) (n : Int) (hn0 : 0 ≤ n) (hn1 : n ≤ 255) :
    Calls Try.prog 4 #[va, .int .u8 n] w fun e w' => e = .returned (.bool true) ∧ Fr (fun _ => False) w w' := by
  by_cases la : a.length ≤ 40
  · exact more_short a va n hn0 hn1 w ha la
  · obtain ⟨aa, ca, rfl, _⟩ := ha.shape
    have hm := ha.1
    unfold maxLen at hm
    clear ha
    go_enter Try.func4, Try.ntmps4
    go_wp2_with fail
    refine (awake_any w).mono ?_
    rintro r w1 ⟨rfl, q1⟩
    go_wp2
    go_ret
    exact ⟨rfl, q1⟩

end Go.Proofs.Ytjifeopiaghmbaa
