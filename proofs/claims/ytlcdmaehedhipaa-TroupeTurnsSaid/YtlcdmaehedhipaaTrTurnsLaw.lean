/-
  The law TroupeTurns, walked.
-/
import Derived.Test.YtlcdmaehedhipaaTrTurnsMath
import Derived.Test.YtlcdmaehedhipaaTrNx
import Derived.Test.YtlcdmaehedhipaaTrViewsLaw
namespace Go.Proofs.Ytlcdmaehedhipaa
open Go.RowKit
set_option maxRecDepth 100000
set_option linter.unusedSimpArgs false
set_option linter.unusedVariables false

set_option maxHeartbeats 32000000 in
theorem turns_law (a n : Nat) (ha : a < 65536) (hn : n < 256) (w : World) :
    Calls Try.prog 4 #[.int .u16 a, .int .u8 n] w fun e w' => e = .returned (.bool true) ∧ Fr (fun _ => False) w w' := by
  have hma := nz_max a
  have hA := nz_lt ha
  have hpA := nz_nz a
  have hA0 := nz_pos a
  generalize nz a = A at *
  have hk : n % 16 < 16 := Nat.mod_lt _ (by omega)
  have hmod : (n : Int) % 16 = ((n % 16 : Nat) : Int) := by omega
  have htm : Int.tmod (n : Int) 16 = ((n % 16 : Nat) : Int) := (Int.ofNat_tmod n 16).symm
  generalize n % 16 = k at *
  have hP : 2 ^ k < 65536 := Nat.lt_of_lt_of_le (Nat.pow_lt_pow_right (a := 2) (by omega) hk) (by omega)
  have hD := Go.u16_andNot_nat A (2 ^ k) hA hP
  have hM := Go.u16_or_nat A (2 ^ k) hA hP
  have hDl : A &&& (65535 - 2 ^ k) < 65536 := Nat.lt_of_le_of_lt Nat.and_le_left hA
  have hMl : A ||| 2 ^ k < 65536 := Nat.or_lt_two_pow (n := 16) hA hP
  have hw2 : IntKind.u16.wrap ((2 : Int) ^ k) = ((2 ^ k : Nat) : Int) := by
    rw [show ((2 : Int) ^ k) = ((2 ^ k : Nat) : Int) by simp]
    have : ∀ Q : Nat, Q < 65536 → IntKind.u16.wrap (Q : Int) = (Q : Int) := fun Q h => by rw [IntKind.wrap_u16]; omega
    exact this _ hP
  have HLS := Lib.hid (less_bits A k hA0 hk)
  have HLN := Lib.hid (less_none A k hA0 hk)
  have hmb := more_bits A k hA0 hk
  generalize hPe : 2 ^ k = P at *
  generalize hDe : A &&& (65535 - P) = D at *
  generalize hMe : A ||| P = M at *
  have HMA := Lib.hid (fun W => members_open A hA W)
  have HMD := Lib.hid (fun W => members_open D hDl W)
  have HMM := Lib.hid (fun W => members_open M hMl W)
  have HLA := Lib.hid (bitsL_len A hA)
  have HLD := Lib.hid (bitsL_len D hDl)
  have HLM := Lib.hid (bitsL_len M hMl)
  have hp1 : (2 : Int) ^ k = (P : Int) := by rw [← hPe]; simp
  rw [hp1] at hw2
  have HP1 := Lib.hid hp1
  clear hPe hDe hMe hp1 ha hA hpA hA0 hDl hMl
  generalize bitsL A = la at *
  generalize bitsL D = ld at *
  generalize bitsL M = lm at *
  have HMB := Lib.hid hmb
  clear hmb
  have HHD := Lib.hid hD
  have HHM := Lib.hid hM
  have HW2 := Lib.hid hw2
  have HPL := Lib.hid hP
  clear hD hM hw2 hP
  have hk16 := hk
  go_enter Try.func4, Try.ntmps4
  go_wp2_with fail
  refine (tawake_any _).mono ?_
  rintro e w1 ⟨rfl, f1⟩
  have F1 := Lib.hid f1; clear f1
  go_upto_region 3 with fail
  go_cut [0] from 11 to 12 (fun u wx => u = .int .u16 A ∧ w1 = wx)
  case first =>
    rcases Int.lt_or_le (a : Int) 1 with h1 | h1
    all_goals
      have e1 := hma
      simp only [Int.max_def] at e1
      go_wp2_with fail
      go_meet
      case rel => exact ⟨by congr 1; omega, rfl⟩
  case rest =>
  obtain ⟨rfl, rfl⟩ := hcut
  clear hma
  go_wp2_with fail
  refine (HMA.out _).mono ?_
  rintro e w2 ⟨aa, ca, rfl, sa, f2⟩
  have F2 := Lib.hid (F1.out.trans f2 (fun _ _ h => h)); clear f2
  have hq := heap_alloc_new w2 (oVw 0 aa la.length ca)
  have f3 : Fr (fun _ => False) w2 (w2.alloc (oVw 0 aa la.length ca)) := (Fr.refl _ _).alloc _
  have SA3 := Lib.hid (sa.fr f3)
  have F3 := Lib.hid (F2.out.trans f3 (fun _ _ h => h))
  clear f3 sa
  go_upto_region 6 with fail
  generalize w2.alloc (oVw 0 aa la.length ca) = w3 at *
  generalize w2.heap.size = gv at *
  have HQ3 := Lib.hid hq; clear hq F1 F2
  have HLA0 : Hid (la ≠ []) := Lib.hid (fun e => by have := HLA.out; rw [e] at this; simp at this)
  obtain ⟨ll, hll⟩ : ∃ ll, ll = la.filter (fun x => decide (x ≠ (k : Int))) := ⟨_, rfl⟩
  have HLL := Lib.hid hll; clear hll
  refine wp_region_told (by kernel_rfl) (fun a b => Fr (fun _ => False) a b) (fun w => Fr.refl _ w) (fun _ _ _ h k => h.trans k (fun _ _ h => h)) [19, 20, 21, 22, 23, 24, 7, 8] rfl (by decide) (by intro d hd; simp at hd ⊢; omega)
    (vsV [.is (.agg #[.int .i64 0, .slice aa la.length ca]), .is (.int .i64 k), .si ll, .is (.agg #[.int .i64 0, .slice aa la.length ca]), .is (.int .i64 k), .si lm, .si ll, .si lm])
    (vsV_mono _) (by kernel_rfl) ?step6 ?fin6
  case step6 =>
    intro vals
    simp only [frOf, fill, List.setIfInBounds_toArray, List.set_cons_succ, List.set_cons_zero]
    repeat' (first | exact AllOps.nil | refine AllOps.cons ?_ ?_)
    all_goals
      intro wx hle he K' hK
      simp only [Act.put, List.setIfInBounds_toArray, List.set_cons_succ, List.set_cons_zero, vsV, VS.holds, List.getD_cons_zero, List.getD_cons_succ] at hK
      simp only [List.mem_cons, List.not_mem_nil, or_false, forall_eq_or_imp, forall_eq, Region.binds, forall_const, false_imp_iff, vsV, VS.holds, List.getD_cons_zero, List.getD_cons_succ] at he
      have hl5 := Fr.trans (Fr.drew (Fr.refl (fun _ => False) w3)) hle (fun _ _ h => h)
      have hl8 := Lib.hid hl5
      obtain ⟨q0, q1⟩ := vw_cells (lblock_kept HQ3.out hl5 (fun h => h))
      clear hl5 hle
    all_goals first
      | (simp only [he] at hK ⊢; clear he; go_simp; exact hK _ _ (Fr.refl _ _) rfl)
      | (clear he; go_simp; exact hK _ _ (Fr.refl _ _) rfl)
      | skip
    · simp only [he] at hK ⊢
      clear he q0 q1
      go_simp
      go_at_call 17
      refine (without_any 0 k la aa ca _ (SA3.out.fr hl8.out) HLA0.out (by have := HLA.out; omega)).mono ?_
      rintro er wa ⟨v, rfl, hs, fa⟩
      rw [← HLL.out] at hs
      exact hK _ _ fa hs
    · simp only [he] at hK ⊢
      clear he q0 q1
      go_simp
      go_at_call 18
      refine (with_any 0 k la aa ca _ (SA3.out.fr hl8.out) HLA0.out (by have := HLA.out; omega)).mono ?_
      rintro er wa ⟨v, rfl, hs, fa⟩
      rw [HMB.out] at hs
      exact hK _ _ fa hs
    · have hsi : SI wx (vals 2) ll := by first | exact he | exact he.1 | exact he.2 | exact he.2.1 | exact he.2.2 | exact he.2.2.1 | exact he.2.2.2 | exact he.2.2.2.1 | exact he.2.2.2.2 | exact he.2.2.2.2.1 | exact he.2.2.2.2.2 | exact he.2.2.2.2.2.1 | exact he.2.2.2.2.2.2 | exact he.2.2.2.2.2.2.1 | exact he.2.2.2.2.2.2.2 | exact he.2.2.2.2.2.2.2.1 | exact he.2.2.2.2.2.2.2.2
      clear he q0 q1
      go_simp
      exact hK _ _ (Fr.refl _ _) hsi
    · have hsi : SI wx (vals 5) lm := by first | exact he | exact he.1 | exact he.2 | exact he.2.1 | exact he.2.2 | exact he.2.2.1 | exact he.2.2.2 | exact he.2.2.2.1 | exact he.2.2.2.2 | exact he.2.2.2.2.1 | exact he.2.2.2.2.2 | exact he.2.2.2.2.2.1 | exact he.2.2.2.2.2.2 | exact he.2.2.2.2.2.2.1 | exact he.2.2.2.2.2.2.2 | exact he.2.2.2.2.2.2.2.1 | exact he.2.2.2.2.2.2.2.2
      clear he q0 q1
      go_simp
      exact hK _ _ (Fr.refl _ _) hsi
  case fin6 =>
    intro vals w4 hle hV
    have h6 : SI w4 (vals 6) ll := hV 6 (by decide)
    have h7 : SI w4 (vals 7) lm := hV 7 (by decide)
    clear hV
    have F4 := Lib.hid (Fr.trans (Fr.drew (Fr.refl (fun _ => False) w3)) hle (fun _ _ h => h))
    simp only [frOf, fill, List.setIfInBounds_toArray, List.set_cons_succ, List.set_cons_zero, Nat.reduceAdd]
    clear hle
    obtain ⟨al, cl, e6, s6⟩ := h6.shape
    obtain ⟨am, cm, e7, s7⟩ := h7.shape
    simp only [e6, e7]
    have SL := Lib.hid s6
    have SM := Lib.hid s7
    clear h6 h7 e6 e7 s6 s7
    generalize vals 0 = x0 at *
    generalize vals 1 = x1 at *
    generalize vals 2 = x2 at *
    generalize vals 3 = x3 at *
    generalize vals 4 = x4 at *
    generalize vals 5 = x5 at *
    have HQ4 := Lib.hid (lblock_kept HQ3.out F4.out (fun h => h))
    have SA4 := Lib.hid (SA3.out.fr F4.out)
    have FW4 := Lib.hid (F3.out.trans F4.out (fun _ _ h => h))
    have HLLn : Hid (ll.length ≤ 16) := Lib.hid (by rw [HLL.out]; exact Nat.le_trans (List.length_filter_le _ _) HLA.out.2)
    clear HQ3 SA3 F3 F4
    have hw2 := HW2.out
    have hd := HHD.out
    have hp1 := HP1.out
    go_upto_if 29 with fail
    obtain ⟨bd, hbd⟩ : ∃ bd, ((D : Int) == 0) = bd := ⟨_, rfl⟩
    rw [hbd]
    have HBD := Lib.hid hbd
    clear hbd
    go_cut [42] from 30 to 42 (fun u wx => Hid (Fr (fun _ => False) w4 wx))
    case first =>
      cases bd
      case true =>
        have h0 : D = 0 := by have := HBD.out; simpa using this
        have hl0 : ll.length = 0 := by rw [HLL.out, HLN.out h0]; rfl
        have hl1 : ((ll.length : Int) != 0) = false := by simp [hl0]
        have hl2 : (ll.length : Int) = 0 := by omega
        clear h0 hl0
        go_wp2_with fail
        go_meet
        case rel => exact Lib.hid (Fr.refl _ _)
      case false =>
        have h0 : D ≠ 0 := by have := HBD.out; simpa using this
        have HEQ : Hid (ll = ld) := Lib.hid (by rw [HLL.out]; exact HLS.out h0)
        clear h0
        go_wp2_with fail
        refine (HMD.out _).mono ?_
        rintro e w5 ⟨ad, cd, rfl, sd, f5⟩
        have SD := Lib.hid sd
        have F5 := Lib.hid f5
        clear sd f5
        go_wp2_with fail
        refine (tsame_any 0 0 ll ld al ad cl cd _ (SL.out.fr F5.out) SD.out (by have := HLLn.out; omega)).mono ?_
        rintro e w6 ⟨rfl, f6⟩
        have F6 := Lib.hid (F5.out.trans f6 (fun _ _ h => h))
        rw [show (decide ((0 : Int) = 0) && decide (ll = ld)) = true from by rw [HEQ.out]; simp]
        clear f6
        go_wp2_with fail
        go_meet
        case rel => exact F6
    case rest =>
    obtain ⟨w5, rfl⟩ : ∃ w5 : World, w5 = wc := ⟨_, rfl⟩
    have F5 : Hid (Fr (fun _ => False) w4 w5) := hcut
    have HQ5 := Lib.hid (lblock_kept HQ4.out F5.out (fun h => h))
    have SA5 := Lib.hid (SA4.out.fr F5.out)
    have SM5 := Lib.hid (SM.out.fr F5.out)
    have FW5 := Lib.hid (FW4.out.trans F5.out (fun _ _ h => h))
    clear hcut
    clear HQ4 SA4 SL SM FW4 F5 hd
    clear hw2 hp1
    go_upto_region 12 with fail
    refine wp_region_told (by kernel_rfl) (fun a b => Fr (fun _ => False) a b) (fun w => Fr.refl _ w) (fun _ _ _ h k => h.trans k (fun _ _ h => h)) [43, 44, 45, 46, 47, 48, 49, 50, 51, 52, 53, 54, 55, 56, 57, 58, 4] rfl (by decide) (by intro d hd; simp at hd ⊢; omega)
      (vsV [.is (.slice am lm.length cm), .is (.agg #[.int .i64 0, .slice am lm.length cm]), .is (.int .u16 A), .is (.int .i64 k), .is (.int .u16 P), .is (.int .u16 M), .si lm, .vw 0 lm, .is (.bool true), .is (.bool true), .is (.agg #[.int .i64 0, .slice aa la.length ca]), .is (.int .u16 A), .si la, .vw 0 la, .is (.bool true), .is (.bool true), .is (.bool true)])
      (vsV_mono _) (by kernel_rfl) ?step12 ?fin12
    case step12 =>
      intro vals
      simp only [frOf, fill, List.setIfInBounds_toArray, List.set_cons_succ, List.set_cons_zero]
      repeat' (first | exact AllOps.nil | refine AllOps.cons ?_ ?_)
      all_goals
        intro wx hle he K' hK
        simp only [Act.put, List.setIfInBounds_toArray, List.set_cons_succ, List.set_cons_zero, vsV, VS.holds, List.getD_cons_zero, List.getD_cons_succ] at hK
        simp only [List.mem_cons, List.not_mem_nil, or_false, forall_eq_or_imp, forall_eq, Region.binds, forall_const, false_imp_iff, vsV, VS.holds, List.getD_cons_zero, List.getD_cons_succ] at he
        have hl5 := Fr.trans (Fr.drew (Fr.refl (fun _ => False) w5)) hle (fun _ _ h => h)
        have hl8 := Lib.hid hl5
        obtain ⟨q0, q1⟩ := vw_cells (lblock_kept HQ5.out hl5 (fun h => h))
        have hw2 := HW2.out
        have hm := HHM.out
        have hp1 := HP1.out
        clear hl5 hle
      all_goals first
        | (simp only [he] at hK ⊢; clear he; go_simp; exact hK _ _ (Fr.refl _ _) rfl)
        | (clear he; go_simp; exact hK _ _ (Fr.refl _ _) rfl)
        | skip
      · simp only [he] at hK ⊢
        clear he q0 q1 hw2 hm hp1
        go_simp
        go_at_call 9
        refine (HMM.out _).mono ?_
        rintro er wa ⟨p2, k2, rfl, sm, fa⟩
        exact hK _ _ fa sm.sees
      · have hsi : SI wx (vals 6) lm := by first | exact he | exact he.1 | exact he.2 | exact he.2.1 | exact he.2.2 | exact he.2.2.1 | exact he.2.2.2 | exact he.2.2.2.1 | exact he.2.2.2.2 | exact he.2.2.2.2.1 | exact he.2.2.2.2.2 | exact he.2.2.2.2.2.1 | exact he.2.2.2.2.2.2 | exact he.2.2.2.2.2.2.1 | exact he.2.2.2.2.2.2.2 | exact he.2.2.2.2.2.2.2.1 | exact he.2.2.2.2.2.2.2.2
        obtain ⟨p2, k2, e, hs⟩ := SI.shape hsi
        have HSP := Lib.hid hs
        clear he q0 q1 hw2 hm hp1 hs hsi
        simp only [e] at hK ⊢
        clear e
        go_simp
        exact hK _ _ (Fr.refl _ _) ⟨p2, k2, rfl, HSP.out⟩
      · have hvw : ∃ a c, vals 7 = .agg #[.int .i64 0, .slice a lm.length c] ∧ SIc wx a c lm := by first | exact he | exact he.1 | exact he.2 | exact he.2.1 | exact he.2.2 | exact he.2.2.1 | exact he.2.2.2 | exact he.2.2.2.1 | exact he.2.2.2.2 | exact he.2.2.2.2.1 | exact he.2.2.2.2.2 | exact he.2.2.2.2.2.1 | exact he.2.2.2.2.2.2 | exact he.2.2.2.2.2.2.1 | exact he.2.2.2.2.2.2.2 | exact he.2.2.2.2.2.2.2.1 | exact he.2.2.2.2.2.2.2.2
        have h1 : vals 1 = .agg #[.int .i64 0, .slice am lm.length cm] := by first | exact he | exact he.1 | exact he.2 | exact he.2.1 | exact he.2.2 | exact he.2.2.1 | exact he.2.2.2 | exact he.2.2.2.1 | exact he.2.2.2.2 | exact he.2.2.2.2.1 | exact he.2.2.2.2.2 | exact he.2.2.2.2.2.1 | exact he.2.2.2.2.2.2 | exact he.2.2.2.2.2.2.1 | exact he.2.2.2.2.2.2.2 | exact he.2.2.2.2.2.2.2.1 | exact he.2.2.2.2.2.2.2.2
        obtain ⟨p2, k2, e, hs⟩ := hvw
        have HSP := Lib.hid hs
        clear he q0 q1 hw2 hm hp1 hs
        simp only [e, h1] at hK ⊢
        clear e h1
        go_simp
        go_at_call 12
        refine (tsame_any 0 0 lm lm am p2 cm k2 _ (SM5.out.fr hl8.out) HSP.out (by have := HLM.out; omega)).mono ?_
        rintro er wa ⟨rfl, fa⟩
        rw [show (decide ((0 : Int) = 0) && decide (lm = lm)) = true from by simp]
        exact hK _ _ fa rfl
      · simp only [he] at hK ⊢
        clear he q0 q1 hw2 hm hp1
        go_simp
        go_at_call 9
        refine (HMA.out _).mono ?_
        rintro er wa ⟨p2, k2, rfl, sm, fa⟩
        exact hK _ _ fa sm.sees
      · have hsi : SI wx (vals 12) la := by first | exact he | exact he.1 | exact he.2 | exact he.2.1 | exact he.2.2 | exact he.2.2.1 | exact he.2.2.2 | exact he.2.2.2.1 | exact he.2.2.2.2 | exact he.2.2.2.2.1 | exact he.2.2.2.2.2 | exact he.2.2.2.2.2.1 | exact he.2.2.2.2.2.2 | exact he.2.2.2.2.2.2.1 | exact he.2.2.2.2.2.2.2 | exact he.2.2.2.2.2.2.2.1 | exact he.2.2.2.2.2.2.2.2
        have h9 : vals 9 = .bool true := by first | exact he | exact he.1 | exact he.2 | exact he.2.1 | exact he.2.2 | exact he.2.2.1 | exact he.2.2.2 | exact he.2.2.2.1 | exact he.2.2.2.2 | exact he.2.2.2.2.1 | exact he.2.2.2.2.2 | exact he.2.2.2.2.2.1 | exact he.2.2.2.2.2.2 | exact he.2.2.2.2.2.2.1 | exact he.2.2.2.2.2.2.2 | exact he.2.2.2.2.2.2.2.1 | exact he.2.2.2.2.2.2.2.2
        obtain ⟨p2, k2, e, hs⟩ := SI.shape hsi
        have HSP := Lib.hid hs
        clear he q0 q1 hw2 hm hp1 hs hsi
        simp only [e, h9] at hK ⊢
        clear e h9
        go_simp
        exact hK _ _ (Fr.refl _ _) ⟨p2, k2, rfl, HSP.out⟩
      · have hvw : ∃ a c, vals 13 = .agg #[.int .i64 0, .slice a la.length c] ∧ SIc wx a c la := by first | exact he | exact he.1 | exact he.2 | exact he.2.1 | exact he.2.2 | exact he.2.2.1 | exact he.2.2.2 | exact he.2.2.2.1 | exact he.2.2.2.2 | exact he.2.2.2.2.1 | exact he.2.2.2.2.2 | exact he.2.2.2.2.2.1 | exact he.2.2.2.2.2.2 | exact he.2.2.2.2.2.2.1 | exact he.2.2.2.2.2.2.2 | exact he.2.2.2.2.2.2.2.1 | exact he.2.2.2.2.2.2.2.2
        have h1 : vals 10 = (.agg #[.int .i64 0, .slice aa la.length ca]) := by first | exact he | exact he.1 | exact he.2 | exact he.2.1 | exact he.2.2 | exact he.2.2.1 | exact he.2.2.2 | exact he.2.2.2.1 | exact he.2.2.2.2 | exact he.2.2.2.2.1 | exact he.2.2.2.2.2 | exact he.2.2.2.2.2.1 | exact he.2.2.2.2.2.2 | exact he.2.2.2.2.2.2.1 | exact he.2.2.2.2.2.2.2 | exact he.2.2.2.2.2.2.2.1 | exact he.2.2.2.2.2.2.2.2
        have h9 : vals 9 = .bool true := by first | exact he | exact he.1 | exact he.2 | exact he.2.1 | exact he.2.2 | exact he.2.2.1 | exact he.2.2.2 | exact he.2.2.2.1 | exact he.2.2.2.2 | exact he.2.2.2.2.1 | exact he.2.2.2.2.2 | exact he.2.2.2.2.2.1 | exact he.2.2.2.2.2.2 | exact he.2.2.2.2.2.2.1 | exact he.2.2.2.2.2.2.2 | exact he.2.2.2.2.2.2.2.1 | exact he.2.2.2.2.2.2.2.2
        obtain ⟨p2, k2, e, hs⟩ := hvw
        have HSP := Lib.hid hs
        clear he q0 q1 hw2 hm hp1 hs
        simp only [e, h1, h9] at hK ⊢
        clear e h1 h9
        go_simp
        go_at_call 12
        refine (tsame_any 0 0 la la aa p2 ca k2 _ (SA5.out.fr hl8.out) HSP.out (by have := HLA.out; omega)).mono ?_
        rintro er wa ⟨rfl, fa⟩
        rw [show (decide ((0 : Int) = 0) && decide (la = la)) = true from by simp]
        exact hK _ _ fa rfl
    case fin12 =>
      intro vals w6 hle hV
      have h16 : vals 16 = .bool true := hV 16 (by decide)
      clear hV
      have F6 := Lib.hid (Fr.trans (Fr.drew (Fr.refl (fun _ => False) w5)) hle (fun _ _ h => h))
      simp only [frOf, fill, List.setIfInBounds_toArray, List.set_cons_succ, List.set_cons_zero, Nat.reduceAdd, h16]
      clear hle h16
      go_wp2_with fail
      go_ret
      exact ⟨rfl, FW5.out.trans F6.out (fun _ _ h => h)⟩

theorem turns_all (a : Int) (ha0 : 0 ≤ a) (ha1 : a ≤ 65535) (n : Int) (hn0 : 0 ≤ n) (hn1 : n ≤ 255) (w : World) :
    Calls Try.prog 4 #[.int .u16 a, .int .u8 n] w fun e w' => e = .returned (.bool true) ∧ Fr (fun _ => False) w w' := by
  obtain ⟨x, rfl⟩ := Int.eq_ofNat_of_zero_le ha0
  obtain ⟨y, rfl⟩ := Int.eq_ofNat_of_zero_le hn0
  exact turns_law x y (by omega) (by omega) w

end Go.Proofs.Ytlcdmaehedhipaa
