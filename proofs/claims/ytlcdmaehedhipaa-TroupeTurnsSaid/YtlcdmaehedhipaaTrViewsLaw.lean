/-
  The law TroupeViews, walked.
-/
import Derived.Test.YtlcdmaehedhipaaTrHalvesLaw
import Derived.OpenShut
namespace Go.Proofs.Ytlcdmaehedhipaa
open Go.RowKit
set_option maxRecDepth 100000
set_option linter.unusedSimpArgs false
set_option linter.unusedVariables false

theorem nz_max (a : Nat) : max (a : Int) 1 = (nz a : Int) := by unfold nz; split <;> omega
theorem nz_nz (a : Nat) : nz (nz a) = nz a := nz_of (nz_pos a)
theorem and15 (j : Nat) (hj : j < 16) : bits .and .i64 (j : Int) 15 = j := by
  have : ∀ j : Fin 16, bits .and .i64 ((j.val : Nat) : Int) 15 = ((j.val : Nat) : Int) := by decide +kernel
  exact this ⟨j, hj⟩

theorem not_mem_bits (m : Nat) (n : Int) (h : n < 0 ∨ 16 ≤ n) : n ∉ bitsL m := by
  intro hn
  obtain ⟨i, h1, h2, _⟩ := mem_bitsL_range m n hn
  omega

set_option maxHeartbeats 32000000 in
theorem views_law (a b : Nat) (ha : a < 65536) (hb : b < 65536) (number : Int) (hn0 : 0 ≤ number) (hn1 : number ≤ 255) (n : Int) (twice : Bool) (w : World) :
    Calls Try.prog 3 #[.int .u16 a, .int .u16 b, .int .u8 number, .int .i64 n, .bool twice] w fun e w' => e = .returned (.bool true) ∧ Fr (fun _ => False) w w' := by
  obtain ⟨i0, hi, hz0, hz1, hz2⟩ := info_parts Try.infoInt
  have hma := nz_max a
  have hmb := nz_max b
  have hA := nz_lt ha
  have hB := nz_lt hb
  have hpA := nz_nz a
  have hpB := nz_nz b
  generalize nz a = A at *
  generalize nz b = B at *
  have HMA := Lib.hid (fun W => members_open A hA W)
  have HMB := Lib.hid (fun W => members_open B hB W)
  have HKA := Lib.hid (fun W => many_any A B hA hB W)
  have HKK := Lib.hid (fun W => many_any A A hA hA W)
  have HLA := Lib.hid (bitsL_len A hA)
  have HLB := Lib.hid (bitsL_len B hB)
  have HCA := Lib.hid (bitsL_chk A hA)
  have HCB := Lib.hid (bitsL_chk B hB)
  have HIN : Hid (inC (bitsL A) (bitsL B) = pc (A &&& B)) := Lib.hid (by rw [inC_bits, hpA, hpB])
  have HLN : Hid ((bitsL A).length = pc (A &&& A)) := Lib.hid (by rw [bitsL_length, hpA, Nat.and_self])
  have HBIT : Hid (∀ j : Nat, j < 16 → decide ((j : Int) ∈ bitsL A) = A.testBit j) := Lib.hid (fun j hj => by
    rw [Bool.eq_iff_iff, decide_eq_true_eq, mem_bitsL A j hj, hpA])
  have HNO : Hid (n < 0 ∨ 16 ≤ n → decide (n ∈ bitsL A) = false) := Lib.hid (fun h => by simp [not_mem_bits A n h])
  have HBA : Hid (∀ k, bits .and .u16 ((A : Int) / 2 ^ k) 1 = if A.testBit k then 1 else 0) := Lib.hid (fun k => bit_and A k hA)
  clear ha hb hA hB hpA hpB
  generalize bitsL A = la at *
  generalize bitsL B = lb at *
  generalize pc (A &&& B) = K at *
  generalize pc (A &&& A) = L at *
  have HN := Lib.hid (And.intro hn0 hn1)
  go_enter Try.func3, Try.ntmps3
  go_wp2_with fail
  refine (tawake_any _).mono ?_
  rintro e w1 ⟨rfl, f1⟩
  have F1 := Lib.hid f1; clear f1
  go_upto_region 3 with fail
  go_cut [0, 1] from 20 to 23 (fun u v wx => u = .int .u16 A ∧ v = .int .u16 B ∧ w1 = wx)
  case first =>
    rcases Int.lt_or_le (a : Int) 1 with h1 | h1 <;> rcases Int.lt_or_le (b : Int) 1 with h2 | h2
    all_goals
      have e1 := hma
      have e2 := hmb
      simp only [Int.max_def] at e1 e2
      go_wp2_with fail
      go_meet
      case rel => exact ⟨by congr 1; omega, by congr 1; omega, rfl⟩
  case rest =>
  obtain ⟨rfl, rfl, rfl⟩ := hcut
  clear hma hmb
  go_wp2_with fail
  refine (HMA.out _).mono ?_
  rintro e w2 ⟨aa, ca, rfl, sa, f2⟩
  have F2 := Lib.hid (F1.out.trans f2 (fun _ _ h => h)); clear f2
  have hq := heap_alloc_new w2 (oVw number aa la.length ca)
  have f3 : Fr (fun _ => False) w2 (w2.alloc (oVw number aa la.length ca)) := (Fr.refl _ _).alloc _
  have SA3 := Lib.hid (sa.fr f3)
  have F3 := Lib.hid (F2.out.trans f3 (fun _ _ h => h))
  clear f3 sa
  go_wp2_with fail
  generalize w2.alloc (oVw number aa la.length ca) = w3 at *
  generalize w2.heap.size = gv at *
  have HQ3 := Lib.hid hq; clear hq
  refine (HMB.out _).mono ?_
  rintro e w4 ⟨ab, cb, rfl, sb, f4⟩
  have HQ4 := Lib.hid (lblock_kept HQ3.out f4 (fun h => h))
  have SA4 := Lib.hid (SA3.out.fr f4)
  have F4 := Lib.hid (F3.out.trans f4 (fun _ _ h => h))
  have SB4 := Lib.hid sb
  clear f4 sb F1 F2 F3 HQ3 SA3
  have hlb : lb.length ≤ 16 := HLB.out.2
  go_upto_if 32 with fail
  go_cut [13] from 33 to 37 (fun v wx => ∃ aS cS S, v = .slice aS (List.length S) cS ∧ Hid (SIc wx aS cS S) ∧ Hid (inC la S = inC la lb) ∧ Hid (S.length ≤ 40) ∧ Hid (Fr (fun _ => False) w4 wx))
  case first =>
    cases twice
    · go_wp2_with fail
      go_meet
      case rel => exact ⟨ab, cb, lb, rfl, SB4, Lib.hid rfl, Lib.hid (by omega), Lib.hid (Fr.refl _ _)⟩
    · have f0 : Fr (fun _ => False) w4 (w4.alloc (.cells #[] 3)) := (Fr.refl _ _).alloc _
      have HS := Lib.hid (SB4.out.fr f0).sees
      have HF0 := Lib.hid f0
      clear f0
      go_wp2_with (at_builtin; refine wpList_append_sep rfl (.tmp 33) (.tmp 34) 24 24 rfl w4.heap.size 3 i0 (.int .i64 0) 1 8 Try.underlying24 _ Try.underlying24 (.inr ⟨_, rfl⟩) hi hz0 hz1 hz2 rfl (by decide) (.slice (some ⟨w4.heap.size, 0, none⟩) 0 0) 0 [] rfl ?own _ lb.length (lb.map (Value.int .i64)) rfl (lenOf_slice _ _ _) ?len ?c1 ?c2 ?one ?b1 ?b2 ?base ?grow)
      case own => exact empty_row w4 _ (Nat.le_refl _) _ _
      case len => simp
      case c1 => exact HS.out.first
      case c2 => exact SI.first (w := World.drew _) HS.out
      case one => exact iv_one lb
      case b1 => unfold maxLen; omega
      case b2 => omega
      case base => simp
      case grow =>
        intro v' w5 hown hg hv
        have HO : Hid (OI w5 w4.heap.size v' lb) := Lib.hid (by simpa [OI] using hown)
        obtain ⟨a1, c1, rfl⟩ := slice_of_own hown
        have F5 : Hid (Fr (fun _ => False) w4 w5) := Lib.hid (HF0.out.trans (Fr.of_grown hg) (fun i hi he => by simp [Value.ownBlock] at he; omega))
        have HS5 := Lib.hid (SB4.out.fr F5.out).sees
        clear hown hg hv HF0 HS
        go_wp2_with (at_builtin; refine wpList_append_sep rfl (.tmp 35) (.tmp 36) 24 24 rfl w4.heap.size 3 i0 (.int .i64 0) 1 8 Try.underlying24 _ Try.underlying24 (.inr ⟨_, rfl⟩) hi hz0 hz1 hz2 rfl (by decide) (.slice a1 lb.length c1) lb.length (lb.map (Value.int .i64)) rfl ?own2 _ lb.length (lb.map (Value.int .i64)) rfl (lenOf_slice _ _ _) ?len2 ?c12 ?c22 ?one2 ?b12 ?b22 ?base2 ?grow2)
        case own2 => exact HO.out
        case len2 => simp
        case c12 => exact HS5.out.first
        case c22 => exact SI.first (w := World.drew _) HS5.out
        case one2 => exact iv_one lb
        case b12 => unfold maxLen; omega
        case b22 => omega
        case base2 => exact F5.out.size
        case grow2 =>
          intro v6 w6 hown hg hv
          have HO6 : Hid (OI w6 w4.heap.size v6 (lb ++ lb)) := Lib.hid (by unfold OI; rw [List.length_append, List.map_append]; exact hown)
          have F6 : Hid (Fr (fun _ => False) w4 w6) := Lib.hid (F5.out.trans (Fr.of_grown hg) (fun i hi he => by have := oi_le HO.out i he.symm; omega))
          clear hown hg hv
          obtain ⟨a2, c2, hv6, s6⟩ := HO6.out.si.shape
          rw [hv6]
          have HS6 := Lib.hid s6
          clear hv6 s6
          go_wp2_with fail
          go_meet
          case rel => exact ⟨a2, c2, lb ++ lb, rfl, HS6, Lib.hid (inC_twice la lb), Lib.hid (by rw [List.length_append]; omega), F6⟩
  case rest =>
    obtain ⟨aS, cS, S, rfl, SS, HIS, HLS, F5⟩ := hcut
    obtain ⟨w5, rfl⟩ : ∃ w5 : World, w5 = wc := ⟨_, rfl⟩
    have HQ5 := Lib.hid (lblock_kept HQ4.out F5.out (fun h => h))
    have SA5 := Lib.hid (SA4.out.fr F5.out)
    have SB5 := Lib.hid (SB4.out.fr F5.out)
    have FW5 := Lib.hid (F4.out.trans F5.out (fun _ _ h => h))
    clear HQ4 SA4 SB4 F4 F5 hi hz0 hz1 hz2
    go_wp2_with fail
    refine (HKA.out _).mono ?_
    rintro e w6 ⟨rfl, rfl⟩
    obtain ⟨q0, q1⟩ := vw_cells HQ5.out
    go_wp2_with fail
    refine (next_any number la lb aa ab ca cb _ SA5.out SB5.out (by have := HLA.out; omega) (by omega) HN.out.1 (by have := HN.out; omega)).mono ?_
    rintro e w6 ⟨p, kk, rfl, ⟨sp, -⟩, f6⟩
    clear q0 q1
    obtain ⟨H, hH⟩ : ∃ H, nxN la lb = H := ⟨_, rfl⟩
    obtain ⟨y, hy⟩ : ∃ y, nxV number la lb = y := ⟨_, rfl⟩
    obtain ⟨x, hx⟩ : ∃ x, nxL la lb = x := ⟨_, rfl⟩
    rw [hH, hy, hx]
    rw [hx] at sp
    have HYX : Hid ((H = true → y = number + 1 ∧ x = lb) ∧ (H = false → y = 0 ∧ x = [])) := Lib.hid (by
      unfold nxV at hy
      unfold nxL at hx
      rw [hH] at hy hx
      exact ⟨fun h => by subst h; exact ⟨hy.symm, hx.symm⟩, fun h => by subst h; exact ⟨hy.symm, hx.symm⟩⟩)
    have HHH : Hid (decide ((la.length : Int) < 2 * (K : Int)) = H) := Lib.hid (by rw [← hH]; unfold nxN; rw [HCB.out, HIN.out]; simp)
    have HK16 : Hid (K ≤ 16) := Lib.hid (by have := inC_le la lb; have := HIN.out; have := HLA.out; omega)
    clear hH hy hx
    have hq7 := heap_alloc_new w6 (oVw y p x.length kk)
    have f7 : Fr (fun _ => False) w6 (w6.alloc (oVw y p x.length kk)) := (Fr.refl _ _).alloc _
    have f67 := f6.trans f7 (fun _ _ h => h)
    have HQ7 := Lib.hid (lblock_kept HQ5.out f67 (fun h => h))
    have SA7 := Lib.hid (SA5.out.fr f67)
    have SB7 := Lib.hid (SB5.out.fr f67)
    have SS7 := Lib.hid (SS.out.fr f67)
    have SX7 := Lib.hid (sp.fr f7)
    have F7 := Lib.hid (FW5.out.trans f67 (fun _ _ h => h))
    clear f6 f7 f67 sp HQ5 SA5 SB5 SS FW5
    go_upto_region 11 with fail
    generalize w6.alloc (oVw y p x.length kk) = w7 at *
    generalize w6.heap.size = gw at *
    have HR7 := Lib.hid hq7; clear hq7
    have hk16 := HK16.out
    have hh : decide ((L : Int) < 2 * (K : Int)) = H := by have := HHH.out; rw [HLN.out] at this; exact this
    go_wp2_with fail
    refine (HKK.out _).mono ?_
    rintro e w8 ⟨rfl, rfl⟩
    go_upto_region 12 with fail
    clear hh
    have HHN : Hid (H = decide (la.length < 2 * K)) := Lib.hid (by rw [← HHH.out, Bool.eq_iff_iff]; simp; omega)
    clear hk16
    go_cut [78] from 53 to 78 (fun u wx => u = .bool false ∧ Hid (Fr (fun _ => False) w7 wx))
    case first =>
      obtain ⟨r0, r1⟩ := vw_cells HR7.out
      cases H
      · obtain ⟨rfl, rfl⟩ := HYX.out.2 rfl
        simp only [List.length_nil] at *
        go_wp2_with fail
        refine (tsame_any 0 0 [] [] p none kk 0 _ SX7.out (fun h => absurd h (by simp)) (by simp)).mono ?_
        rintro e w9 ⟨rfl, f9⟩
        have F9 := Lib.hid f9
        clear r0 r1 f9
        go_wp2_with fail
        go_meet
        case rel => exact ⟨rfl, F9⟩
      · obtain ⟨rfl, rfl⟩ := HYX.out.1 rfl
        have hn := HN.out
        go_wp2_with fail
        refine (tsame_any (number + 1) (number + 1) x x p ab kk cb _ SX7.out SB7.out (by omega)).mono ?_
        rintro e w9 ⟨rfl, f9⟩
        have F9 := Lib.hid f9
        clear r0 r1 f9 hn
        simp only [decide_true, Bool.and_self]
        go_wp2_with fail
        go_meet
        case rel => exact ⟨rfl, F9⟩
    case rest =>
    obtain ⟨rfl, F8⟩ := hcut
    obtain ⟨w8, rfl⟩ : ∃ w8 : World, w8 = wc := ⟨_, rfl⟩
    have HQ8 := Lib.hid (lblock_kept HQ7.out F8.out (fun h => h))
    have SA8 := Lib.hid (SA7.out.fr F8.out)
    have SS8 := Lib.hid (SS7.out.fr F8.out)
    have FW8 := Lib.hid (F7.out.trans F8.out (fun _ _ h => h))
    clear HQ7 SA7 SB7 SS7 SX7 F7 F8 HR7 HYX
    obtain ⟨q0, q1⟩ := vw_cells HQ8.out
    have F8 : Hid (Fr (fun _ => False) w8 w8) := Lib.hid (Fr.refl _ _)
    obtain ⟨E, hE⟩ : ∃ E, decide ((K : Int) = (la.length : Int)) = E := ⟨_, rfl⟩
    have HE := Lib.hid hE
    have HEL : Hid (((K : Int) == (L : Int)) = E) := Lib.hid (by rw [← hE, HLN.out]; rfl)
    have HT : Hid (E == E) := Lib.hid (by simp)
    have HLA16 := Lib.hid (show la.length ≤ 1000 from by have := HLA.out; omega)
    clear hE
    have hneg : ¬ number < 0 := by have := HN.out; omega
    go_wp2_with fail
    refine (tcheck_any number la aa ca _ SA8.out HLA16.out).mono ?_
    rintro e w9 ⟨rfl, f9⟩
    rw [if_neg (Int.not_lt.2 HN.out.1), HCA.out]
    clear hneg
    have F9 := Lib.hid (F8.out.trans f9 (fun _ _ h => h))
    clear f9 q0 q1
    have hq9 := lblock_kept HQ8.out F9.out (fun h => h)
    obtain ⟨q0, q1⟩ := vw_cells hq9
    clear hq9
    go_wp2_with fail
    refine (has_any number n la aa ca _ (SA8.out.fr F9.out) HLA16.out).mono ?_
    rintro e w10 ⟨rfl, f10⟩
    have F10 := Lib.hid (F9.out.trans f10 (fun _ _ h => h))
    clear f10 q0 q1
    have hq10 := lblock_kept HQ8.out F10.out (fun h => h)
    obtain ⟨q0, q1⟩ := vw_cells hq10
    clear hq10
    by_cases h0 : n < 0
    · have h0' : ¬ (0 : Int) ≤ n := by omega
      rw [HNO.out (.inl h0)]
      go_wp2_with fail
      refine (most_any number la S aa aS ca cS _ (SA8.out.fr F10.out) (SS8.out.fr F10.out) HLA16.out (by have := HLS.out; omega)).mono ?_
      rintro e w11 ⟨rfl, f11⟩
      rw [HIS.out, HIN.out, HHH.out]
      have F11 := Lib.hid (F10.out.trans f11 (fun _ _ h => h))
      clear f11 q0 q1
      have hq11 := lblock_kept HQ8.out F11.out (fun h => h)
      obtain ⟨q0, q1⟩ := vw_cells hq11
      clear hq11
      go_wp2_with fail
      refine (all_any number la S aa aS ca cS _ (SA8.out.fr F11.out) (SS8.out.fr F11.out) HLA16.out (by have := HLS.out; omega)).mono ?_
      rintro e w12 ⟨rfl, f12⟩
      rw [HIS.out, HIN.out, HE.out]
      have F12 := Lib.hid (F11.out.trans f12 (fun _ _ h => h))
      clear f12 q0 q1
      have hq12 := lblock_kept HQ8.out F12.out (fun h => h)
      obtain ⟨q0, q1⟩ := vw_cells hq12
      clear hq12
      have hel := HEL.out
      go_wp2_with fail
      refine (HKK.out _).mono ?_
      rintro e w13 ⟨rfl, rfl⟩
      go_wp2_with fail
      refine (tsame_any number number la la aa aa ca ca _ (SA8.out.fr F12.out) (SA8.out.fr F12.out) HLA16.out).mono ?_
      rintro e w13 ⟨rfl, f13⟩
      simp only [decide_true, Bool.and_self]
      have F13 := Lib.hid (F12.out.trans f13 (fun _ _ h => h))
      clear f13 q0 q1 hel
      go_wp2_with fail
      go_ret
      exact ⟨rfl, FW8.out.trans F13.out (fun _ _ h => h)⟩
    by_cases h1 : 16 ≤ n
    · have h0' : (0 : Int) ≤ n := by omega
      have h1' : ¬ n < 16 := by omega
      rw [HNO.out (.inr h1)]
      go_wp2_with fail
      refine (most_any number la S aa aS ca cS _ (SA8.out.fr F10.out) (SS8.out.fr F10.out) HLA16.out (by have := HLS.out; omega)).mono ?_
      rintro e w11 ⟨rfl, f11⟩
      rw [HIS.out, HIN.out, HHH.out]
      have F11 := Lib.hid (F10.out.trans f11 (fun _ _ h => h))
      clear f11 q0 q1
      have hq11 := lblock_kept HQ8.out F11.out (fun h => h)
      obtain ⟨q0, q1⟩ := vw_cells hq11
      clear hq11
      go_wp2_with fail
      refine (all_any number la S aa aS ca cS _ (SA8.out.fr F11.out) (SS8.out.fr F11.out) HLA16.out (by have := HLS.out; omega)).mono ?_
      rintro e w12 ⟨rfl, f12⟩
      rw [HIS.out, HIN.out, HE.out]
      have F12 := Lib.hid (F11.out.trans f12 (fun _ _ h => h))
      clear f12 q0 q1
      have hq12 := lblock_kept HQ8.out F12.out (fun h => h)
      obtain ⟨q0, q1⟩ := vw_cells hq12
      clear hq12
      have hel := HEL.out
      go_wp2_with fail
      refine (HKK.out _).mono ?_
      rintro e w13 ⟨rfl, rfl⟩
      go_wp2_with fail
      refine (tsame_any number number la la aa aa ca ca _ (SA8.out.fr F12.out) (SA8.out.fr F12.out) HLA16.out).mono ?_
      rintro e w13 ⟨rfl, f13⟩
      simp only [decide_true, Bool.and_self]
      have F13 := Lib.hid (F12.out.trans f13 (fun _ _ h => h))
      clear f13 q0 q1 hel
      go_wp2_with fail
      go_ret
      exact ⟨rfl, FW8.out.trans F13.out (fun _ _ h => h)⟩
    have h0' : (0 : Int) ≤ n := by omega
    obtain ⟨j, rfl⟩ := Int.eq_ofNat_of_zero_le h0'
    have hj : j < 16 := by omega
    have hj' : (j : Int) < 16 := by omega
    have h15 := and15 j hj
    have hbit := HBA.out j
    rw [HBIT.out j hj]
    have hjm : max (j : Int) 0 = j := by omega
    cases hb : A.testBit j
    · rw [hb] at hbit
      simp only [Bool.false_eq_true, if_false] at hbit
      clear h0 h1 hb
      go_wp2_with fail
      refine (most_any number la S aa aS ca cS _ (SA8.out.fr F10.out) (SS8.out.fr F10.out) HLA16.out (by have := HLS.out; omega)).mono ?_
      rintro e w11 ⟨rfl, f11⟩
      rw [HIS.out, HIN.out, HHH.out]
      have F11 := Lib.hid (F10.out.trans f11 (fun _ _ h => h))
      clear f11 q0 q1
      have hq11 := lblock_kept HQ8.out F11.out (fun h => h)
      obtain ⟨q0, q1⟩ := vw_cells hq11
      clear hq11
      go_wp2_with fail
      refine (all_any number la S aa aS ca cS _ (SA8.out.fr F11.out) (SS8.out.fr F11.out) HLA16.out (by have := HLS.out; omega)).mono ?_
      rintro e w12 ⟨rfl, f12⟩
      rw [HIS.out, HIN.out, HE.out]
      have F12 := Lib.hid (F11.out.trans f12 (fun _ _ h => h))
      clear f12 q0 q1
      have hq12 := lblock_kept HQ8.out F12.out (fun h => h)
      obtain ⟨q0, q1⟩ := vw_cells hq12
      clear hq12
      have hel := HEL.out
      go_wp2_with fail
      refine (HKK.out _).mono ?_
      rintro e w13 ⟨rfl, rfl⟩
      go_wp2_with fail
      refine (tsame_any number number la la aa aa ca ca _ (SA8.out.fr F12.out) (SA8.out.fr F12.out) HLA16.out).mono ?_
      rintro e w13 ⟨rfl, f13⟩
      simp only [decide_true, Bool.and_self]
      have F13 := Lib.hid (F12.out.trans f13 (fun _ _ h => h))
      clear f13 q0 q1 hel
      go_wp2_with fail
      go_ret
      exact ⟨rfl, FW8.out.trans F13.out (fun _ _ h => h)⟩
    · rw [hb] at hbit
      simp only [if_true] at hbit
      clear h0 h1 hb
      go_wp2_with fail
      refine (most_any number la S aa aS ca cS _ (SA8.out.fr F10.out) (SS8.out.fr F10.out) HLA16.out (by have := HLS.out; omega)).mono ?_
      rintro e w11 ⟨rfl, f11⟩
      rw [HIS.out, HIN.out, HHH.out]
      have F11 := Lib.hid (F10.out.trans f11 (fun _ _ h => h))
      clear f11 q0 q1
      have hq11 := lblock_kept HQ8.out F11.out (fun h => h)
      obtain ⟨q0, q1⟩ := vw_cells hq11
      clear hq11
      go_wp2_with fail
      refine (all_any number la S aa aS ca cS _ (SA8.out.fr F11.out) (SS8.out.fr F11.out) HLA16.out (by have := HLS.out; omega)).mono ?_
      rintro e w12 ⟨rfl, f12⟩
      rw [HIS.out, HIN.out, HE.out]
      have F12 := Lib.hid (F11.out.trans f12 (fun _ _ h => h))
      clear f12 q0 q1
      have hq12 := lblock_kept HQ8.out F12.out (fun h => h)
      obtain ⟨q0, q1⟩ := vw_cells hq12
      clear hq12
      have hel := HEL.out
      go_wp2_with fail
      refine (HKK.out _).mono ?_
      rintro e w13 ⟨rfl, rfl⟩
      go_wp2_with fail
      refine (tsame_any number number la la aa aa ca ca _ (SA8.out.fr F12.out) (SA8.out.fr F12.out) HLA16.out).mono ?_
      rintro e w13 ⟨rfl, f13⟩
      simp only [decide_true, Bool.and_self]
      have F13 := Lib.hid (F12.out.trans f13 (fun _ _ h => h))
      clear f13 q0 q1 hel
      go_wp2_with fail
      go_ret
      exact ⟨rfl, FW8.out.trans F13.out (fun _ _ h => h)⟩

theorem views_all (a : Int) (ha0 : 0 ≤ a) (ha1 : a ≤ 65535) (b : Int) (hb0 : 0 ≤ b) (hb1 : b ≤ 65535) (number : Int) (hn0 : 0 ≤ number) (hn1 : number ≤ 255) (n : Int) (_ : -9223372036854775808 ≤ n) (_ : n ≤ 9223372036854775807) (twice : Bool) (w : World) :
    Calls Try.prog 3 #[.int .u16 a, .int .u16 b, .int .u8 number, .int .i64 n, .bool twice] w fun e w' => e = .returned (.bool true) ∧ Fr (fun _ => False) w w' := by
  obtain ⟨x, rfl⟩ := Int.eq_ofNat_of_zero_le ha0
  obtain ⟨y, rfl⟩ := Int.eq_ofNat_of_zero_le hb0
  exact views_law x y (by omega) (by omega) number hn0 hn1 n twice w

end Go.Proofs.Ytlcdmaehedhipaa
