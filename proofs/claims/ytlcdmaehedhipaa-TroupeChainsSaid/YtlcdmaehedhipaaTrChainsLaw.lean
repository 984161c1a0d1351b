/-
  The law TroupeChains, walked.
-/
import Derived.Test.YtlcdmaehedhipaaTrNx
import Derived.Test.YtlcdmaehedhipaaTrHalvesLaw
import Derived.OpenShut
namespace Go.Proofs.Ytlcdmaehedhipaa
open Go.RowKit
set_option maxRecDepth 100000
set_option linter.unusedSimpArgs false
set_option linter.unusedVariables false

set_option maxHeartbeats 32000000 in
theorem chains_law (first : Nat) (hf : first < 65536) (l : List Int) (hl : ∀ x ∈ l, 0 ≤ x ∧ x ≤ 65535) (a : Option Addr) (c : Nat) (w : World) (h : SeesL w (.slice a l.length c) (l.map (Value.int .u16))) :
    Calls Try.prog 7 #[.int .u16 first, .slice a l.length c] w fun e w' => e = .returned (.bool true) ∧ Fr (fun _ => False) w w' := by
  have HL := Lib.hid hl
  have HS := Lib.hid h
  have HM0 := Lib.hid (fun W => members_open first hf W)
  have HL0 := Lib.hid (bitsL_len first hf)
  clear hl h hf
  generalize bitsL first = l0 at *
  go_enter Try.func7, Try.ntmps7
  go_wp2_with fail
  refine (tawake_any _).mono ?_
  rintro e w1 ⟨rfl, f1⟩
  have F1 := Lib.hid f1; clear f1
  by_cases hn : l.length ≤ 50
  case neg =>
    have hn' : (50 : Int) < (l.length : Int) := by omega
    clear hn
    go_wp2_with fail
    go_ret
    exact ⟨rfl, F1.out⟩
  have hn' : ¬ (50 : Int) < (l.length : Int) := by omega
  go_wp2_with fail
  refine (HM0.out _).mono ?_
  rintro e w2 ⟨aa, ca, rfl, sa, f2⟩
  have F2 := Lib.hid (F1.out.trans f2 (fun _ _ h => h)); clear f2
  have hq := heap_alloc_new w2 (oVw 0 aa l0.length ca)
  have f3 : Fr (fun _ => False) w2 (w2.alloc (oVw 0 aa l0.length ca)) := (Fr.refl _ _).alloc _
  have SA3 := Lib.hid (sa.fr f3)
  have F3 := Lib.hid (F2.out.trans f3 (fun _ _ h => h))
  clear f3 sa hn'
  go_upto_region 6 with fail
  generalize w2.alloc (oVw 0 aa l0.length ca) = w3 at *
  have HGV := Lib.hid F2.out.size
  generalize w2.heap.size = gv at *
  have HQ3 := Lib.hid hq; clear hq
  have HN0 : Hid (l0.length ≤ 16) := Lib.hid HL0.out.2
  clear HL0 HM0 F1 F2
  go_wp2_with fail
  go_loopg [20] l.length (fun g u20 wr => ∃ (k : Nat) (n : Int) (la : List Int) (aa : Option Addr) (ca : Nat), k ≤ l.length ∧ g = l.length - k ∧ u20 = .int .i64 k ∧ Hid (0 ≤ n ∧ n ≤ k) ∧ Hid (la.length ≤ 16) ∧ Hid (Fr (fun _ => False) w wr) ∧ Hid (wr.heap[gv]? = some (oVw n aa la.length ca)) ∧ Hid (SIc wr aa ca la))
  case atStart => exact ⟨0, 0, l0, aa, ca, Nat.zero_le _, rfl, rfl, Lib.hid (by omega), HN0, F3, HQ3, SA3⟩
  case round =>
    clear HN0 F3 HQ3 SA3
    obtain ⟨k, n, la, aa, ca, hk, rfl, rfl, HN, HLA, FR, HQ, SA⟩ := hrel
    by_cases hlt : k < l.length
    case neg =>
      have hkl : k = l.length := by omega
      obtain ⟨q0, q1⟩ := vw_cells HQ.out
      have hnn : n ≤ (l.length : Int) := by have := HN.out; omega
      go_wp2_with fail
      go_ret
      exact ⟨rfl, FR.out⟩
    obtain ⟨xk, hxk⟩ : ∃ x, x = l[k] := ⟨_, rfl⟩
    obtain ⟨hx0, hx1⟩ : 0 ≤ xk ∧ xk ≤ 65535 := by rw [hxk]; exact HL.out _ (List.getElem_mem hlt)
    obtain ⟨b, rfl⟩ := Int.eq_ofNat_of_zero_le hx0
    have hb : b < 65536 := by omega
    rcases HS.out.fr0 FR.out with ⟨h0, _⟩ | ⟨g, off, cap, e, hle, hcell⟩
    · rw [List.map_eq_nil_iff] at h0; rw [h0] at hlt; simp at hlt
    simp only [Value.slice.injEq] at e
    obtain ⟨rfl, -, rfl⟩ := e
    have hck := hcell k (.int .u16 b) (by rw [List.getElem?_map, List.getElem?_eq_getElem hlt, ← hxk]; rfl)
    have HMB := Lib.hid (fun W => members_open b hb W)
    have HLB := Lib.hid (bitsL_len b hb)
    have HCB := Lib.hid (bitsL_chk b hb)
    clear hle hcell hxk hx0 hx1 hb
    generalize bitsL b = m at *
    have hgr : Hid (∀ W, Fr (fun _ => False) wr W → Calls Try.prog 11 #[UV n la aa ca, .slice none m.length 0] W fun e w' => True) ∨ True := .inr trivial
    clear hgr
    go_upto_region 9 with fail
    clear hck
    obtain ⟨B, hB⟩ : ∃ B, B = nxN la m := ⟨_, rfl⟩
    obtain ⟨y, hy⟩ : ∃ y, y = nxV n la m := ⟨_, rfl⟩
    obtain ⟨x, hx⟩ : ∃ x, x = nxL la m := ⟨_, rfl⟩
    have HBY := Lib.hid (And.intro hB (And.intro hy hx))
    clear hB hy hx

    refine wp_region_links (by kernel_rfl) [some 25, some 26, some 27, some 28, some 24, some 29, some 30, some 8, none, some 9] rfl (by decide) (by intro d hd; simp at hd ⊢; omega)
      (fun st wx => NX wr m x y B st wx)
      [.free (UV n la aa ca), .free (.int .u16 b), .link none, .link none, .link none, .link none, .free (.bool B), .link none, .link none, .free (.bool B)]
      (by kernel_rfl) ?h09 ?step9 ?fin9
    case h09 => exact NX.start
    case step9 =>
      intro vals
      simp only [frOfU, fillU, List.setIfInBounds_toArray, List.set_cons_succ, List.set_cons_zero]
      repeat' (first | exact AllOps.nil | refine AllOps.cons ?_ ?_)
      all_goals
        intro st wx hS he hu hn Kc hK
        simp only [Act.put, List.setIfInBounds_toArray, List.set_cons_succ, List.set_cons_zero, List.getD_cons_zero, List.getD_cons_succ] at hK
        simp only [List.mem_cons, List.not_mem_nil, or_false, forall_eq_or_imp, forall_eq, Region.binds, forall_const, qmode_gc, Bool.false_eq_true, false_imp_iff, List.getD_cons_zero, List.getD_cons_succ, OpSort.val, OpSort.isLink, Option.some.injEq, forall_eq', reduceCtorEq, implies_true, true_and, and_true] at he
        have hqx := lblock_kept HQ.out hS.fr (fun h => h)
        obtain ⟨q0, q1⟩ := vw_cells hqx
        clear hqx
        have HSX := Lib.hid hS
        clear hS
      all_goals first | (clear hu hn; (try simp only [he] at hK ⊢); go_simp; exact hK) | skip
      · have HN2 := Lib.hid hn
        clear hu hn q0 q1
        simp only [he] at hK ⊢
        go_simp
        go_at_call 9
        refine (HMB.out _).mono ?_
        rintro er wa ⟨p, k, rfl, sm, fa⟩
        exact hK _ _ (fun _ h => by cases h) (HSX.out.two HN2.out fa sm.sees)
      · have HN2 := Lib.hid hn
        have h8 := HSX.out.early 3 (by simp) hn
        have hst : st 2 = some (vals 2) := by first | exact he | exact he.1 | exact he.2 | exact he.2.1 | exact he.2.2 | exact he.2.2.1 | exact he.2.2.2 | exact he.2.2.2.1 | exact he.2.2.2.2 | exact he.2.2.2.2.1 | exact he.2.2.2.2.2 | exact he.2.2.2.2.2.1 | exact he.2.2.2.2.2.2 | exact he.2.2.2.2.2.2.1 | exact he.2.2.2.2.2.2.2 | exact he.2.2.2.2.2.2.2.1 | exact he.2.2.2.2.2.2.2.2
        obtain ⟨p, k, e, hs⟩ := SI.shape (HSX.out.c2 h8 _ hst)
        have HSP := Lib.hid hs
        have hv0 : vals 0 = UV n la aa ca := he.1
        have HST := Lib.hid hst
        clear hu hn q0 q1 h8 hst hs
        simp only [e, hv0] at hK ⊢
        clear he e hv0
        go_simp
        go_at_call 11
        refine (next_any n la m aa p ca k _ (SA.out.fr HSX.out.fr) HSP.out (by have := HLA.out; omega) (by have := HLB.out; omega) HN.out.1 (by have := HN.out; omega)).mono ?_
        rintro er wa ⟨p, k, rfl, sp, fa⟩
        rw [← HBY.out.1, ← HBY.out.2.1, ← HBY.out.2.2] at *
        exact hK _ _ (fun _ h => by cases h) (HSX.out.three HN2.out (by rw [HST.out]; simp) fa sp)
      · have HN2 := Lib.hid hn
        have hst : st 3 = some (vals 3) := by first | exact he | exact he.1 | exact he.2 | exact he.2.1 | exact he.2.2 | exact he.2.2.1 | exact he.2.2.2 | exact he.2.2.2.1 | exact he.2.2.2.2 | exact he.2.2.2.2.1 | exact he.2.2.2.2.2 | exact he.2.2.2.2.2.1 | exact he.2.2.2.2.2.2 | exact he.2.2.2.2.2.2.1 | exact he.2.2.2.2.2.2.2 | exact he.2.2.2.2.2.2.2.1 | exact he.2.2.2.2.2.2.2.2
        have HST := Lib.hid hst
        clear hu hn q0 q1 hst
        clear he
        go_simp
        exact hK _ _ (fun _ h => by cases h) (HSX.out.four HN2.out HST.out)
      · have HN2 := Lib.hid hn
        have hst : st 4 = some (vals 4) := by first | exact he | exact he.1 | exact he.2 | exact he.2.1 | exact he.2.2 | exact he.2.2.1 | exact he.2.2.2 | exact he.2.2.2.1 | exact he.2.2.2.2 | exact he.2.2.2.2.1 | exact he.2.2.2.2.2 | exact he.2.2.2.2.2.1 | exact he.2.2.2.2.2.2 | exact he.2.2.2.2.2.2.1 | exact he.2.2.2.2.2.2.2 | exact he.2.2.2.2.2.2.2.1 | exact he.2.2.2.2.2.2.2.2
        obtain ⟨p, k, e, -⟩ := HSX.out.sh _ (.inr hst)
        rw [e] at hst
        have HST := Lib.hid hst
        clear hu hn q0 q1 hst he
        simp only [e] at hK ⊢
        clear e
        go_simp
        exact hK _ _ (fun _ h => by cases h) (HSX.out.five HN2.out HST.out)
      · have hst : st 4 = some (vals 4) := by first | exact he | exact he.1 | exact he.2 | exact he.2.1 | exact he.2.2 | exact he.2.2.1 | exact he.2.2.2 | exact he.2.2.2.1 | exact he.2.2.2.2 | exact he.2.2.2.2.1 | exact he.2.2.2.2.2 | exact he.2.2.2.2.2.1 | exact he.2.2.2.2.2.2 | exact he.2.2.2.2.2.2.1 | exact he.2.2.2.2.2.2.2 | exact he.2.2.2.2.2.2.2.1 | exact he.2.2.2.2.2.2.2.2
        obtain ⟨p, k, e, -⟩ := HSX.out.sh _ (.inr hst)
        clear hu hn q0 q1 hst he
        simp only [e] at hK ⊢
        clear e
        go_simp
        exact hK
      · have HN2 := Lib.hid hn
        clear hu hn he q0 q1
        go_simp
        exact hK _ _ (fun _ h => by cases h) (HSX.out.seven HN2.out)
      · have HN2 := Lib.hid hn
        have h7 : st 7 = some (vals 7) := by first | exact he | exact he.1 | exact he.2 | exact he.2.1 | exact he.2.2 | exact he.2.2.1 | exact he.2.2.2 | exact he.2.2.2.1 | exact he.2.2.2.2 | exact he.2.2.2.2.1 | exact he.2.2.2.2.2 | exact he.2.2.2.2.2.1 | exact he.2.2.2.2.2.2 | exact he.2.2.2.2.2.2.1 | exact he.2.2.2.2.2.2.2 | exact he.2.2.2.2.2.2.2.1 | exact he.2.2.2.2.2.2.2.2
        have h5 : st 5 = some (vals 5) := by first | exact he | exact he.1 | exact he.2 | exact he.2.1 | exact he.2.2 | exact he.2.2.1 | exact he.2.2.2 | exact he.2.2.2.1 | exact he.2.2.2.2 | exact he.2.2.2.2.1 | exact he.2.2.2.2.2 | exact he.2.2.2.2.2.1 | exact he.2.2.2.2.2.2 | exact he.2.2.2.2.2.2.1 | exact he.2.2.2.2.2.2.2 | exact he.2.2.2.2.2.2.2.1 | exact he.2.2.2.2.2.2.2.2
        have h3 : st 3 = some (vals 3) := by first | exact he | exact he.1 | exact he.2 | exact he.2.1 | exact he.2.2 | exact he.2.2.1 | exact he.2.2.2 | exact he.2.2.2.1 | exact he.2.2.2.2 | exact he.2.2.2.2.1 | exact he.2.2.2.2.2 | exact he.2.2.2.2.2.1 | exact he.2.2.2.2.2.2 | exact he.2.2.2.2.2.2.1 | exact he.2.2.2.2.2.2.2 | exact he.2.2.2.2.2.2.2.1 | exact he.2.2.2.2.2.2.2.2
        obtain ⟨g1, e7, hg1, hc1⟩ := HSX.out.c7 hn _ h7
        obtain ⟨p, kk, e5, -⟩ := HSX.out.c5 hn _ h5
        rw [e7] at h7
        rw [e5] at h5
        have H7 := Lib.hid h7
        have H5 := Lib.hid h5
        have H3 := Lib.hid h3
        have HC1 := Lib.hid hc1
        obtain ⟨d0, d1⟩ := vw_cells hc1
        have z0 : wx.frozen? ⟨g1, 0, none⟩ = false := by simp [World.frozen?, hc1]
        have z1 : wx.frozen? ⟨g1, 1, none⟩ = false := by simp [World.frozen?, hc1]
        clear hu hn q0 q1 h7 h5 h3 hc1 he hg1
        simp only [e7, e5] at hK ⊢
        clear e7 e5
        go_simp
        exact hK undef _ (fun _ h => by cases h) (HSX.out.eight HN2.out (by rw [H3.out]; simp) H7.out H5.out (fr_two _ _ (Fr.refl _ _) (fun _ => rfl)) (store_two HC1.out))
    case fin9 =>
      intro vals w4 hS hV
      have v0 := hV 0 _ (by decide) rfl
      have v1 := hV 1 _ (by decide) rfl
      have v6 := hV 6 _ (by decide) rfl
      have v9 := hV 9 _ (by decide) rfl
      clear hV
      obtain ⟨gw, p, kk, h7, hgw, hb8, hsc, hnew⟩ := hS.c8 (by simp [OpSort.isLink])
      have e7 : vals 7 = lptr gw := by simpa [OpSort.isLink] using h7
      simp only [frOfU, fillU, List.setIfInBounds_toArray, List.set_cons_succ, List.set_cons_zero]
      simp only [Nat.reduceAdd, v0, v1, v6, v9, e7]
      have F4 := Lib.hid hS.fr
      have HB8 := Lib.hid hb8
      have HSC := Lib.hid (And.intro hsc hnew)
      have HGW := Lib.hid hgw
      clear v0 v1 v6 v9 e7 h7 hS hb8 hsc hnew hgw
      generalize vals 2 = u27 at *
      generalize vals 3 = u28 at *
      generalize vals 4 = u24 at *
      generalize vals 5 = u29 at *
      have HQ4 := Lib.hid (lblock_kept HQ.out F4.out (fun h => h))
      have SA4 := Lib.hid (SA.out.fr F4.out)
      have FR4 := Lib.hid (FR.out.trans F4.out (fun _ _ h => h))
      have HGV2 : Hid (gv < wr.heap.size) := Lib.hid (Array.getElem?_eq_some_iff.1 HQ.out).1
      cases B
      case false =>
        have HMO : Hid (decide ((la.length : Int) < 2 * (inC la m : Int)) = false) := Lib.hid (by have := HBY.out.1; unfold nxN at this; rw [HCB.out] at this; simpa using this)
        go_upto_region 11 with fail
        refine wp_region_told (by kernel_rfl) (fun a b => Fr (fun _ => False) a b) (fun w => Fr.refl _ w) (fun _ _ _ h k => h.trans k (fun _ _ h => h)) [33, 34, 35, 36] rfl (by decide) (by intro d hd; simp at hd ⊢; omega)
          (vsV [.is (UV n la aa ca), .is (.int .u16 b), .si m, .is (.bool false)])
          (vsV_mono _) (by kernel_rfl) ?step11 ?fin11
        case step11 =>
          intro vals2
          simp only [frOf, fill, List.setIfInBounds_toArray, List.set_cons_succ, List.set_cons_zero]
          repeat' (first | exact AllOps.nil | refine AllOps.cons ?_ ?_)
          all_goals
            intro wx hle he K' hK
            simp only [Act.put, List.setIfInBounds_toArray, List.set_cons_succ, List.set_cons_zero, vsV, VS.holds, List.getD_cons_zero, List.getD_cons_succ] at hK
            simp only [List.mem_cons, List.not_mem_nil, or_false, forall_eq_or_imp, forall_eq, Region.binds, forall_const, false_imp_iff, vsV, VS.holds, List.getD_cons_zero, List.getD_cons_succ] at he
            have hl5 := Fr.trans (Fr.drew (Fr.refl (fun _ => False) w4)) hle (fun _ _ h => h)
            have hl8 := Lib.hid hl5
            obtain ⟨q0, q1⟩ := vw_cells (lblock_kept HQ4.out hl5 (fun h => h))
            clear hl5 hle
          all_goals first
            | (simp only [he] at hK ⊢; clear he; go_simp; exact hK _ _ (Fr.refl _ _) rfl)
            | (clear he; go_simp; exact hK _ _ (Fr.refl _ _) rfl)
            | skip
          · clear q0 q1
            simp only [he] at hK ⊢
            clear he
            go_simp
            go_at_call 9
            refine (HMB.out _).mono ?_
            rintro er wa ⟨p2, k2, rfl, sm, fa⟩
            exact hK _ _ fa sm.sees
          · clear q0 q1
            have hsi : SI wx (vals2 2) m := by first | exact he | exact he.1 | exact he.2 | exact he.2.1 | exact he.2.2 | exact he.2.2.1 | exact he.2.2.2 | exact he.2.2.2.1 | exact he.2.2.2.2 | exact he.2.2.2.2.1 | exact he.2.2.2.2.2 | exact he.2.2.2.2.2.1 | exact he.2.2.2.2.2.2 | exact he.2.2.2.2.2.2.1 | exact he.2.2.2.2.2.2.2 | exact he.2.2.2.2.2.2.2.1 | exact he.2.2.2.2.2.2.2.2
            obtain ⟨p2, k2, e, hs⟩ := SI.shape hsi
            have hv0 : vals2 0 = UV n la aa ca := he.1
            have HSP := Lib.hid hs
            clear he hs hsi
            simp only [e, hv0] at hK ⊢
            clear e hv0
            go_simp
            go_at_call 15
            refine (most_any n la m aa p2 ca k2 _ (SA4.out.fr hl8.out) HSP.out (by have := HLA.out; omega) (by have := HLB.out; omega)).mono ?_
            rintro er wa ⟨rfl, fa⟩
            rw [HMO.out]
            exact hK _ _ fa rfl
        case fin11 =>
          intro vals2 w5 hle hV
          have h3 : vals2 3 = .bool false := hV 3 (by decide)
          clear hV
          have F5 := Lib.hid (Fr.trans (Fr.drew (Fr.refl (fun _ => False) w4)) hle (fun _ _ h => h))
          simp only [frOf, fill, List.setIfInBounds_toArray, List.set_cons_succ, List.set_cons_zero, Nat.reduceAdd, h3]
          clear hle h3
          go_wp2_with fail
          go_roundg (l.length - (k + 1))
          case measure => omega
          case rel => exact ⟨k + 1, n, la, aa, ca, by omega, rfl, by congr 1, Lib.hid (by have := HN.out; omega), HLA, Lib.hid (FR4.out.trans F5.out (fun _ _ h => h)), Lib.hid (lblock_kept HQ4.out F5.out (fun h => h)), Lib.hid (SA4.out.fr F5.out)⟩
      case true =>
        obtain ⟨hn1, hx1⟩ : y = n + 1 ∧ x = m := by
          have h1 := HBY.out.1
          have h2 := HBY.out.2.1
          have h3 := HBY.out.2.2
          unfold nxV at h2
          unfold nxL at h3
          rw [← h1] at h2 h3
          exact ⟨h2, h3⟩
        have HMO : Hid (decide ((m.length : Int) = (m.length : Int)) = true) := Lib.hid (by simp)
        have HMM : Hid (decide ((la.length : Int) < 2 * (inC la m : Int)) = true) := Lib.hid (by have := HBY.out.1; unfold nxN at this; rw [HCB.out] at this; simpa using this.symm)
        rw [hn1, hx1] at HB8
        rw [hx1] at HSC
        have HBY2 := Lib.hid (And.intro hn1 hx1)
        clear hn1 hx1 HBY
        have HW : Hid (IntKind.i64.wrap (n + 1) = n + 1) := Lib.hid (by have := HN.out; rw [IntKind.wrap_i64]; omega)
        have hne : gw ≠ gv := by have := HGW.out; have := HGV2.out; omega
        have HGT : Hid (¬ n + 1 < 0) := Lib.hid (by have := HN.out; omega)
        go_upto_region 13 with fail
        refine wp_region_told (by kernel_rfl) (fun a b => Fr (fun _ => False) a b) (fun w => Fr.refl _ w) (fun _ _ _ h k => h.trans k (fun _ _ h => h)) [37, 38, 39, 40, 41, 42, 43, 44, 45, 46, 47, 48, 49, 50, 51, 52, 53, 54, 55, 56, 57, 58, 59, 60, 61] rfl (by decide) (by intro d hd; simp at hd ⊢; omega)
          (vsV [.is (.pointer (some ⟨gw, 0, none⟩)), .is (.int .i64 (n + 1)), .is (.pointer (some ⟨gv, 0, none⟩)), .is (.int .i64 n), .is (.int .i64 (n + 1)), .is (.bool false), .is (.bool false), .is (UV n la aa ca), .is (.pointer (some ⟨gw, 1, none⟩)), .is (.slice p m.length kk), .is (.bool true), .is (.bool false), .is (.bool false), .is (.bool false), .is (UV (n + 1) m p kk), .is (.int .i64 0), .is (.bool false), .is (.bool false), .is (.bool false), .is (UV (n + 1) m p kk), .is (.int .u16 b), .si m, .is (.bool true), .is (.bool false), .is (.bool false)])
          (vsV_mono _) (by kernel_rfl) ?step13 ?fin13
        case step13 =>
          intro vals2
          simp only [frOf, fill, List.setIfInBounds_toArray, List.set_cons_succ, List.set_cons_zero]
          repeat' (first | exact AllOps.nil | refine AllOps.cons ?_ ?_)
          all_goals
            intro wx hle he K' hK
            simp only [Act.put, List.setIfInBounds_toArray, List.set_cons_succ, List.set_cons_zero, vsV, VS.holds, List.getD_cons_zero, List.getD_cons_succ] at hK
            simp only [List.mem_cons, List.not_mem_nil, or_false, forall_eq_or_imp, forall_eq, Region.binds, forall_const, false_imp_iff, vsV, VS.holds, List.getD_cons_zero, List.getD_cons_succ] at he
            have hl5 := Fr.trans (Fr.drew (Fr.refl (fun _ => False) w4)) hle (fun _ _ h => h)
            have hl8 := Lib.hid hl5
            obtain ⟨q0, q1⟩ := vw_cells (lblock_kept HQ4.out hl5 (fun h => h))
            obtain ⟨r0, r1⟩ := vw_cells (lblock_kept HB8.out hl5 (fun h => h))
            have hw := HW.out
            clear hl5 hle
          all_goals first
            | (simp only [he] at hK ⊢; clear he; go_simp; exact hK _ _ (Fr.refl _ _) rfl)
            | (clear he; go_simp; exact hK _ _ (Fr.refl _ _) rfl)
            | skip
          · simp only [he] at hK ⊢
            clear he q0 q1 r0 r1
            go_simp
            go_at_call 15
            refine (most_any n la m aa p ca kk _ (SA4.out.fr hl8.out) (HSC.out.1.fr hl8.out) (by have := HLA.out; omega) (by have := HLB.out; omega)).mono ?_
            rintro er wa ⟨rfl, fa⟩
            rw [HMM.out]
            exact hK _ _ fa rfl
          · simp only [he] at hK ⊢
            clear he q0 q1 r0 r1
            go_simp
            go_at_call 13
            refine (tcheck_any (n + 1) m p kk _ (HSC.out.1.fr hl8.out) (by have := HLB.out; omega)).mono ?_
            rintro er wa ⟨rfl, fa⟩
            rw [if_neg HGT.out, HCB.out]
            exact hK _ _ fa rfl
          · clear q0 q1 r0 r1
            simp only [he] at hK ⊢
            clear he
            go_simp
            go_at_call 9
            refine (HMB.out _).mono ?_
            rintro er wa ⟨p2, k2, rfl, sm, fa⟩
            exact hK _ _ fa sm.sees
          · clear q0 q1 r0 r1
            have hsi : SI wx (vals2 21) m := by first | exact he | exact he.1 | exact he.2 | exact he.2.1 | exact he.2.2 | exact he.2.2.1 | exact he.2.2.2 | exact he.2.2.2.1 | exact he.2.2.2.2 | exact he.2.2.2.2.1 | exact he.2.2.2.2.2 | exact he.2.2.2.2.2.1 | exact he.2.2.2.2.2.2 | exact he.2.2.2.2.2.2.1 | exact he.2.2.2.2.2.2.2 | exact he.2.2.2.2.2.2.2.1 | exact he.2.2.2.2.2.2.2.2
            obtain ⟨p2, k2, e, hs⟩ := SI.shape hsi
            have HSP := Lib.hid hs
            simp only [he, e] at hK ⊢
            clear he hs hsi e
            go_simp
            go_at_call 16
            refine (all_any (n + 1) m m p p2 kk k2 _ (HSC.out.1.fr hl8.out) HSP.out (by have := HLB.out; omega) (by have := HLB.out; omega)).mono ?_
            rintro er wa ⟨rfl, fa⟩
            rw [inC_self, HMO.out]
            exact hK _ _ fa rfl
        case fin13 =>
          intro vals2 w5 hle hV
          have h24 : vals2 24 = .bool false := hV 24 (by decide)
          clear hV
          have F5 := Lib.hid (Fr.trans (Fr.drew (Fr.refl (fun _ => False) w4)) hle (fun _ _ h => h))
          simp only [frOf, fill, List.setIfInBounds_toArray, List.set_cons_succ, List.set_cons_zero, Nat.reduceAdd]
          clear hle
          have hb5 := lblock_kept HB8.out F5.out (fun h => h)
          have hq5 := lblock_kept HQ4.out F5.out (fun h => h)
          obtain ⟨q0, q1⟩ := vw_cells hq5
          obtain ⟨r0, r1⟩ := vw_cells hb5
          have z0 : w5.frozen? ⟨gv, 0, none⟩ = false := by simp [World.frozen?, hq5]
          have z1 : w5.frozen? ⟨gv, 1, none⟩ = false := by simp [World.frozen?, hq5]
          have HQ5 := Lib.hid (store_two (y0 := .int .i64 (n + 1)) (y1 := .slice p m.length kk) hq5)
          clear hb5 hq5
          go_wp2_with fail
          go_roundg (l.length - (k + 1))
          case measure => omega
          case rel => exact ⟨k + 1, n + 1, m, p, kk, by omega, rfl, by congr 1, Lib.hid (by have := HN.out; omega), Lib.hid HLB.out.2, Lib.hid (fr_two _ _ (FR4.out.trans F5.out (fun _ _ h => h)) (fun h => by have := HGV.out; omega)), HQ5,
            Lib.hid (sic_off (HSC.out.1.fr F5.out) (fr_two _ _ (Fr.refl _ _) (fun _ => rfl)) (fun hx a ha => by have := HSC.out.2 hx a ha; have := HGV2.out; omega))⟩

theorem chains_all (first : Int) (h0 : 0 ≤ first) (h1 : first ≤ 65535) (v : Value) (l : List Int) {w : World} (h : SeesL w v (l.map (Value.int .u16))) (wf : ∀ n ∈ l, (Lit.int .u16 n).wf = true) :
    Calls Try.prog 7 #[.int .u16 first, v] w fun e w' => e = .returned (.bool true) ∧ Fr (fun _ => False) w w' := by
  obtain ⟨x, rfl⟩ := Int.eq_ofNat_of_zero_le h0
  have hv : ∃ a c, v = .slice a l.length c := by
    rcases h with ⟨h, a, c, rfl⟩ | ⟨g, off, cap, rfl, _, _⟩
    · have : l = [] := by simpa using h
      subst this
      exact ⟨a, c, rfl⟩
    · exact ⟨_, cap, by rw [List.length_map]⟩
  obtain ⟨a, c, rfl⟩ := hv
  exact chains_law x (by omega) l (fun n hn => bounds_u16 (wf n hn)) a c w h

end Go.Proofs.Ytlcdmaehedhipaa
