/-
  KindChecks: the law walked.
-/
import Derived.Test.YtdaabgnfgdojhaaKindSize
import Derived.Test.YtdaabgnfgdojhaaKindParts
import Derived.Test.YtdaabgnfgdojhaaKindAlike3
import Derived.Test.YtdaabgnfgdojhaaKindAwake
import Derived.Test.YtdaabgnfgdojhaaKindTable
namespace Go.Proofs.Ytdaabgnfgdojhaa
open Go.RowKit
set_option linter.unusedSimpArgs false
set_option linter.unusedVariables false

/-- The most types that there are in one that a procedure takes or answers, up to a thousand. -/
def mostF (T : KTab) : Nat → Nat
  | 0 => 0
  | n + 1 => max (max (mostF T n) (min 1000 (sizeF 20 T.types (T.procs.getD n noProc).takes))) (min 1000 (sizeF 20 T.types (T.procs.getD n noProc).answers))

theorem mostF_le (T : KTab) (n : Nat) (hn : n ≤ T.procs.length) : mostF T n ≤ 1000 ∧ (mostF T n ≤ 200 ↔ ∀ i, i < n → sizeF 20 T.types (T.procs.getD i noProc).takes ≤ 200 ∧ sizeF 20 T.types (T.procs.getD i noProc).answers ≤ 200) := by
  induction n with
  | zero => exact ⟨by simp [mostF], fun _ i hi => by omega, fun _ => by simp [mostF]⟩
  | succ n ih =>
    obtain ⟨h1, h2⟩ := ih (by omega)
    unfold mostF
    refine ⟨by omega, fun h i hi => ?_, fun h => ?_⟩
    · by_cases e : i = n
      · subst e; omega
      · exact h2.1 (by omega) i (by omega)
    · have a := h n (by omega)
      have b := h2.2 (fun i hi => h i (by omega))
      omega

theorem most_small (T : KTab) : mostF T T.procs.length ≤ 200 ↔ smallT T := by
  rw [(mostF_le T _ (Nat.le_refl _)).2]
  constructor
  · intro h p hp
    obtain ⟨i, hi, rfl⟩ := List.getElem_of_mem hp
    have := h i hi
    rw [List.getD_eq_getElem?_getD, List.getElem?_eq_getElem hi] at this
    exact this
  · intro h i hi
    rw [List.getD_eq_getElem?_getD, List.getElem?_eq_getElem hi]
    exact h _ (List.getElem_mem hi)

set_option maxRecDepth 100000 in
set_option maxHeartbeats 64000000 in
theorem checks_all (s : KS) (v : Value) (w : World) (h : SShows w s v) :
    Calls Try.prog 3 #[v] w fun e w' => e = .returned (.bool true) ∧ Fr (fun _ => False) w w' := by
  have HSH := Lib.hid h
  obtain ⟨av, pv, rfl, hnu, _, hav, hpv⟩ := h
  have HNUM := Lib.hid hnu
  have hnum8 : (0 : Int) ≤ (s.number : Int) ∧ (s.number : Int) ≤ 65535 := ⟨by omega, by omega⟩
  have HNUM8 := Lib.hid hnum8
  clear hnum8 hnu
  obtain ⟨aa, ac, rfl, hx1⟩ := hav.shape
  obtain ⟨pa, pc, rfl, hx2⟩ := hpv.shape
  clear hav hpv hx1 hx2
  obtain ⟨w0, hw0⟩ : ∃ w0, w0 = w.alloc (.cells #[.int .u16 s.number, .slice aa s.aliases.length ac, .int .u8 s.faults, .slice pa s.procs.length pc] 26) := ⟨_, rfl⟩
  have H0 := Lib.hid (show Fr (fun _ => False) w w0 ∧ w0.heap[w.heap.size]? = some (.cells #[.int .u16 s.number, .slice aa s.aliases.length ac, .int .u8 s.faults, .slice pa s.procs.length pc] 26 (0, 0)) from by rw [hw0]; exact ⟨(Fr.refl _ _).alloc _, heap_alloc_new _ _⟩)
  have haw := awake_any w0
  rw [hw0] at haw
  go_enter Try.func3, Try.ntmps3
  go_wp2_with fail
  refine haw.mono ?_
  rintro e w1 ⟨rfl, f1⟩
  rw [← hw0] at f1
  have H1 := Lib.hid (And.intro (H0.out.1.trans f1 (fun _ _ h => h)) (box_kept H0.out.2 f1 (fun h => h)))
  clear haw f1 hw0
  have r0 := cells_row H1.out.2 0 _ rfl
  have r1 := cells_row H1.out.2 1 _ rfl
  have r2 := cells_row H1.out.2 2 _ rfl
  have r3 := cells_row H1.out.2 3 _ rfl
  simp only [List.getElem_toArray, List.getElem_cons_succ, List.getElem_cons_zero] at r0 r1 r2 r3
  have hli := smallLight_any s _ w1 (HSH.out.fr H1.out.1)
  cases hB : smallE s with
  | false =>
    rw [hB] at hli
    go_wp2_with fail
    refine hli.mono ?_
    rintro e w2 ⟨rfl, f2⟩
    have F2 := Lib.hid f2
    clear f2 hli r0 r1 r2 r3
    go_wp2
    go_ret
    exact ⟨rfl, H1.out.1.trans F2.out (fun _ _ h => h)⟩
  | true =>
    rw [hB] at hli
    have HB := Lib.hid hB
    clear hB
    go_wp2_with fail
    refine hli.mono ?_
    rintro e w2 ⟨rfl, f2⟩
    have H2 := Lib.hid (And.intro (H1.out.1.trans f2 (fun _ _ h => h)) (box_kept H1.out.2 f2 (fun h => h)))
    clear f2 hli r0 r1 r2 r3
    have r0 := cells_row H2.out.2 0 _ rfl
    have r1 := cells_row H2.out.2 1 _ rfl
    have r2 := cells_row H2.out.2 2 _ rfl
    have r3 := cells_row H2.out.2 3 _ rfl
    simp only [List.getElem_toArray, List.getElem_cons_succ, List.getElem_cons_zero] at r0 r1 r2 r3
    have htab := table_any s _ w2 (HSH.out.fr H2.out.1) HB.out
    go_wp2_with fail
    refine htab.mono ?_
    rintro e w3 ⟨v', rfl, ht, f3⟩
    obtain ⟨T, hT⟩ : ∃ T, T = tableE s := ⟨_, rfl⟩
    rw [← hT] at ht
    have HTE := Lib.hid hT
    have HT := Lib.hid ht
    have F3 := Lib.hid (H2.out.1.trans f3 (fun _ _ h => h))
    obtain ⟨tv, fv, pv', rfl, hnl, hal, hfl, hpl⟩ := ht
    have hq1000 : T.procs.length ≤ 1000 := hpl.1
    obtain ⟨ta, tc, rfl, _⟩ := hal.shape
    obtain ⟨fa, fc, rfl, _⟩ := hfl.shape
    obtain ⟨qa, qc, rfl, hqs⟩ := hpl.shape
    have HQS := Lib.hid hqs
    have HAL := Lib.hid hal
    clear hT hnl hal hfl hpl hqs f3 htab r0 r1 r2 r3
    unfold sv
    go_upto_region 6 with fail
    obtain ⟨w4, hw4⟩ : ∃ w4, w4 = w3.alloc (.cells #[.string ⟨T.name.toArray⟩, .int .i64 T.number, .int .i64 T.version, .slice ta T.types.length tc, .slice fa T.faults.length fc, .slice qa T.procs.length qc] 32) := ⟨_, rfl⟩
    obtain ⟨g3, hg3⟩ : ∃ g3, g3 = w3.heap.size := ⟨_, rfl⟩
    rw [← hw4, ← hg3]
    have H4 := Lib.hid (show Fr (fun _ => False) w w4 ∧ w4.heap[g3]? = some (.cells #[.string ⟨T.name.toArray⟩, .int .i64 T.number, .int .i64 T.version, .slice ta T.types.length tc, .slice fa T.faults.length fc, .slice qa T.procs.length qc] 32 (0, 0)) ∧ Fr (fun _ => False) w3 w4 from by rw [hw4, hg3]; exact ⟨F3.out.alloc _, heap_alloc_new _ _, (Fr.refl _ _).alloc _⟩)
    have HQ0 : Hid (mostF T 0 = 0) := Lib.hid rfl
    have b5 := cells_row H4.out.2.1 5 _ rfl
    simp only [List.getElem_toArray, List.getElem_cons_succ, List.getElem_cons_zero] at b5
    clear hw4 hg3
    go_wp2_with fail
    clear b5
    go_loopg [4, 6, 18] T.procs.length (fun G u4 u6 u18 wr => ∃ j : Nat, j ≤ T.procs.length ∧ G = T.procs.length - j ∧ u18 = .int .i64 j ∧ u4 = .int .i64 ((mostF T j : Nat) : Int) ∧ Hid (Fr (fun _ => False) w wr ∧ wr.heap[g3]? = some (.cells #[.string ⟨T.name.toArray⟩, .int .i64 T.number, .int .i64 T.version, .slice ta T.types.length tc, .slice fa T.faults.length fc, .slice qa T.procs.length qc] 32 (0, 0)) ∧ Fr (fun _ => False) w3 wr))
    case atStart => exact ⟨0, Nat.zero_le _, rfl, by go_num, rfl, H4⟩
    case round =>
      obtain ⟨j, hj, rfl, rfl, rfl, HI⟩ := hrel
      by_cases hlt : j < T.procs.length
      · rcases HQS.out with hz | ⟨hqc, gq, oq, _, rfl, hcell⟩
        · omega
        obtain ⟨p, hp⟩ : ∃ p, T.procs[j]? = some p := ⟨_, List.getElem?_eq_getElem hlt⟩
        obtain ⟨x0, x1, x2, x3, y0, y1, y2, y3, c, hx, hy⟩ := hcell j p hp
        have c := fun i u h => cell_fr (R := fun _ => True) HI.out.2.2 (fun _ _ h => h) trivial (c i u h)
        obtain ⟨q0, q1, q2, q3, q4, q5, q6, q7, q8, q9, q10, q11⟩ := proc_cells c
        have HX := Lib.hid hx
        have HY := Lib.hid hy
        obtain ⟨xk, xm, xa, xn, xc, xa', xn', xc', rfl, rfl, rfl, rfl⟩ := hx.cells
        obtain ⟨yk, ym, ya, yn, yc, ya', yn', yc', rfl, rfl, rfl, rfl⟩ := hy.cells
        have hpg : T.procs.getD j noProc = p := by rw [List.getD_eq_getElem?_getD, hp]; rfl
        have hpm : p ∈ T.procs := List.mem_of_getElem? hp
        have hfit := tableE_fits (SShows.ok HSH.out) p (by rw [← HTE.out]; exact hpm)
        rw [← HTE.out] at hfit
        have HFIT := Lib.hid hfit
        have E := Lib.hid (show mostF T (j + 1) = max (max (mostF T j) (min 1000 (sizeF 20 T.types p.takes))) (min 1000 (sizeF 20 T.types p.answers)) from by simp only [mostF, hpg])
        obtain ⟨mj, hmj⟩ : ∃ mj, mj = mostF T j := ⟨_, rfl⟩
        have hmb : mj ≤ 1000 := by rw [hmj]; exact (mostF_le T j hj).1
        rw [← hmj]
        have HMJ := Lib.hid hmj
        have hl1 := lt_of_block HI.out.2.1
        have n1' : g3 ≠ wr.heap.size := by omega
        unfold sv at q0
        clear hcell c hx hy hp hpg hpm hfit hmj
        go_upto_region 10 with fail
        obtain ⟨wb, hwb⟩ : ∃ wb, wb = wr.alloc (.cells #[.string ⟨p.name.toArray⟩, .int .i64 p.number, .int .u8 xk, .int .i64 xm, .slice xa xn xc, .slice xa' xn' xc', .int .u8 yk, .int .i64 ym, .slice ya yn yc, .slice ya' yn' yc', .int .u8 p.collate, .int .i64 p.timeout] 41) := ⟨_, rfl⟩
        have fb : Fr (fun _ => False) wr wb := by rw [hwb]; exact (Fr.refl _ _).alloc _
        have hbb : wb.heap[wr.heap.size]? = some (.cells #[.string ⟨p.name.toArray⟩, .int .i64 p.number, .int .u8 xk, .int .i64 xm, .slice xa xn xc, .slice xa' xn' xc', .int .u8 yk, .int .i64 ym, .slice ya yn yc, .slice ya' yn' yc', .int .u8 p.collate, .int .i64 p.timeout] 41 (0, 0)) := by rw [hwb]; exact heap_alloc_new _ _
        have HB := Lib.hid (And.intro (HI.out.1.trans fb (fun _ _ h => h)) (And.intro (box_kept HI.out.2.1 fb (fun h => h)) (And.intro hbb (HI.out.2.2.trans fb (fun _ _ h => h)))))
        have HK := Lib.hid (fun (wx : World) (f : Fr (fun _ => False) wb wx) => And.intro (parts_any 20 T.types p.takes _ wx ⟨T.name.toArray⟩ T.number T.version (.slice ta T.types.length tc) fa T.faults.length fc (some ⟨gq, oq, none⟩) T.procs.length qc (.agg #[.int .u8 xk, .int .i64 xm, .slice xa xn xc, .slice xa' xn' xc']) 0 HFIT.out.1 (HAL.out.fr (HB.out.2.2.2.trans f (fun _ _ h => h)) (fun _ _ h => h)) (Shows.fr (HB.out.2.2.2.trans f (fun _ _ h => h)) (fun _ _ h => h) _ _ HX.out))
          (And.intro (parts_any 20 T.types p.answers _ wx ⟨T.name.toArray⟩ T.number T.version (.slice ta T.types.length tc) fa T.faults.length fc (some ⟨gq, oq, none⟩) T.procs.length qc (.agg #[.int .u8 yk, .int .i64 ym, .slice ya yn yc, .slice ya' yn' yc']) 0 HFIT.out.2 (HAL.out.fr (HB.out.2.2.2.trans f (fun _ _ h => h)) (fun _ _ h => h)) (Shows.fr (HB.out.2.2.2.trans f (fun _ _ h => h)) (fun _ _ h => h) _ _ HY.out))
          (And.intro (box_kept HB.out.2.1 f (fun h => h)) (box_kept HB.out.2.2.1 f (fun h => h)))))
        rw [← hwb]
        obtain ⟨za, hza⟩ : ∃ z, z = min 1000 (sizeF 20 T.types p.takes) := ⟨_, rfl⟩
        obtain ⟨zb, hzb⟩ : ∃ z, z = min 1000 (sizeF 20 T.types p.answers) := ⟨_, rfl⟩
        have hzal : za ≤ 1000 := by omega
        have hzbl : zb ≤ 1000 := by omega
        rw [← hza, ← hzb] at HK
        obtain ⟨zm, hzm⟩ : ∃ z, z = mostF T (j + 1) := ⟨_, rfl⟩
        have hzz : zm = max (max mj za) zb := by rw [hzm, E.out, ← HMJ.out, ← hza, ← hzb]
        have HZM := Lib.hid hzm
        have hmax : ∀ (ts : Array TypeId) (t : TypeId) (W : World), (Builtin.max_ ts t #[.int .i64 mj, .int .i64 za, .int .i64 zb]).run Try.prog W = .ok (.int .i64 (zm : Int)) W := by
          intro ts t W
          rw [hzz]
          simp [Builtin.max_, Builtin.max2]
          have e1 : (if mj < za then (za : Int) else (mj : Int)) = ((max mj za : Nat) : Int) := by split <;> omega
          rw [e1]
          split <;> omega
        clear fb hbb hwb hza hzb hzm hzz E q0 q1 q2 q3 q4 q5 q6 q7 q8 q9 q10 q11 hl1 n1'
        refine wp_region_toldV (by kernel_rfl) (fun a b => Fr (fun _ => False) a b) (fun w => Fr.refl _ w) (fun _ _ _ h k => h.trans k (fun _ _ h => h))
          [some 22, some 23, some 24, some 25, some 26, some 27, some 28, some 29, some 30, some 31, some 4] rfl (by decide) (by intro d hd; simp at hd ⊢; omega)
          (fun i v _ => i = 10 → v = .int .i64 mj)
          (fun i v _ => v = [.int .i64 mj, .agg #[.string ⟨T.name.toArray⟩, .int .i64 T.number, .int .i64 T.version, .slice ta T.types.length tc, .slice fa T.faults.length fc, .slice (some ⟨gq, oq, none⟩) T.procs.length qc], .pointer (some ⟨wr.heap.size, 2, none⟩), .agg #[.int .u8 xk, .int .i64 xm, .slice xa xn xc, .slice xa' xn' xc'], .int .i64 za,
            .agg #[.string ⟨T.name.toArray⟩, .int .i64 T.number, .int .i64 T.version, .slice ta T.types.length tc, .slice fa T.faults.length fc, .slice (some ⟨gq, oq, none⟩) T.procs.length qc], .pointer (some ⟨wr.heap.size, 6, none⟩), .agg #[.int .u8 yk, .int .i64 ym, .slice ya yn yc, .slice ya' yn' yc'], .int .i64 zb, .int .i64 zm, .int .i64 zm].getD i undef)
          (by kernel_rfl) ?u0 ?step ?fin
        case u0 => exact fun i _ e => by subst e; rfl
        case step =>
          intro vals
          simp only [frOfU, fillU, List.setIfInBounds_toArray, List.set_cons_succ, List.set_cons_zero]
          repeat' (first | exact AllOps.nil | refine AllOps.cons ?_ ?_)
          all_goals
            intro wx hle he hu hw K hK
            simp only [Act.put, List.setIfInBounds_toArray, List.set_cons_succ, List.set_cons_zero, List.getD_cons_zero, List.getD_cons_succ] at hK
            simp only [List.mem_cons, List.not_mem_nil, or_false, forall_eq_or_imp, forall_eq, Region.binds, forall_const, false_imp_iff, List.getD_cons_zero, List.getD_cons_succ] at he
            obtain ⟨hrec, hrec2, qt, qx⟩ := HK.out wx ⟨hle.os, hle.tape, hle.output, hle.size, hle.block⟩
            have e0 := cells_row qt 0 _ rfl
            have e1 := cells_row qt 1 _ rfl
            have e2 := cells_row qt 2 _ rfl
            have e3 := cells_row qt 3 _ rfl
            have e4 := cells_row qt 4 _ rfl
            have e5 := cells_row qt 5 _ rfl
            have a2 := cells_row qx 2 _ rfl
            have a3 := cells_row qx 3 _ rfl
            have a4 := cells_row qx 4 _ rfl
            have a5 := cells_row qx 5 _ rfl
            have a6 := cells_row qx 6 _ rfl
            have a7 := cells_row qx 7 _ rfl
            have a8 := cells_row qx 8 _ rfl
            have a9 := cells_row qx 9 _ rfl
            simp only [List.getElem_toArray, List.getElem_cons_succ, List.getElem_cons_zero] at e0 e1 e2 e3 e4 e5 a2 a3 a4 a5 a6 a7 a8 a9
            clear hle qt qx
          · have h5 := (hw 10 (by kernel_rfl)) rfl
            clear hw hu
            simp only [h5] at hK ⊢
            go_simp
            exact hK _ _ (Fr.refl _ _) rfl (fun _ _ _ h => h) (fun _ _ _ _ h => h)
          all_goals clear hw hu
          all_goals (try simp only [he] at hK ⊢)
          all_goals try go_simp
          all_goals first | (go_at_call 15) | (exact hK _ _ (Fr.refl _ _) rfl (fun _ _ _ h => h) (fun _ _ _ _ h => h))
          · refine hrec.mono ?_
            rintro e1 wa ⟨rfl, fa⟩
            exact hK _ _ fa rfl (fun _ _ _ h => h) (fun _ _ _ _ h => h)
          · refine hrec2.mono ?_
            rintro e1 wa ⟨rfl, fa⟩
            exact hK _ _ fa rfl (fun _ _ _ h => h) (fun _ _ _ _ h => h)
        case fin =>
          intro vals w' hle hV
          have h4 : vals 10 = .int .i64 zm := hV 10 (by decide)
          clear hV
          have fw : Fr (fun _ => False) wb w' := ⟨hle.os, hle.tape, hle.output, hle.size, hle.block⟩
          have HF := Lib.hid (And.intro (HB.out.1.trans fw (fun _ _ h => h)) (And.intro (box_kept HB.out.2.1 fw (fun h => h)) (HB.out.2.2.2.trans fw (fun _ _ h => h))))
          clear fw hle
          simp only [frOfU, fillU, List.setIfInBounds_toArray, List.set_cons_succ, List.set_cons_zero, Nat.reduceAdd, h4]
          go_wp2_with fail
          go_roundg (T.procs.length - (j + 1))
          case measure => omega
          case rel => exact ⟨j + 1, by omega, rfl, by go_num, by rw [HZM.out], HF⟩
      · obtain rfl : j = T.procs.length := by omega
        have hck := check_any _ T _ wr (HT.out.fr HI.out.2.2 (fun _ _ h => h))
        have hal := fun (wx : World) (f : Fr (fun _ => False) w3 wx) => alike_any _ T T _ _ wx (HT.out.fr f (fun _ _ h => h)) (HT.out.fr f (fun _ _ h => h)) (fun x hx => by have := (tableE_types (SShows.ok HSH.out) x (by rw [← HTE.out]; exact hx)).2; omega) (fun x hx => by have := (tableE_procs (SShows.ok HSH.out) x (by rw [← HTE.out]; exact hx)).2; omega)
        have href : alikeE T T = true := by
          rw [HTE.out]
          exact alikeE_refl _ (fun x hx => (tableE_types (SShows.ok HSH.out) x hx).1) (fun p hp => (tableE_procs (SShows.ok HSH.out) p hp).1)
        rw [href] at hal
        unfold sv at hck hal
        have HAK := Lib.hid hal
        obtain ⟨zm, hzm⟩ : ∃ z, z = mostF T T.procs.length := ⟨_, rfl⟩
        have hsm : zm ≤ 200 ↔ smallT T := by rw [hzm]; exact most_small T
        have hct := check_table s (SShows.ok HSH.out) HNUM.out
        rw [← HTE.out] at hct
        rw [← hzm]
        clear hal href hzm
        have e0 := cells_row HI.out.2.1 0 _ rfl
        have e1 := cells_row HI.out.2.1 1 _ rfl
        have e2 := cells_row HI.out.2.1 2 _ rfl
        have e3 := cells_row HI.out.2.1 3 _ rfl
        have e4 := cells_row HI.out.2.1 4 _ rfl
        have e5 := cells_row HI.out.2.1 5 _ rfl
        simp only [List.getElem_toArray, List.getElem_cons_succ, List.getElem_cons_zero] at e0 e1 e2 e3 e4 e5
        by_cases hs : zm ≤ 200
        · rw [hct.1 (hsm.1 hs)] at hck
          have hz : (zm : Int) ≤ 200 := by omega
          clear hct hsm hs
          go_wp2_with fail
          refine hck.mono ?_
          rintro e w5 ⟨rfl, f5⟩
          have HG := Lib.hid (And.intro (HI.out.1.trans f5 (fun _ _ h => h)) (And.intro (box_kept HI.out.2.1 f5 (fun h => h)) (HI.out.2.2.trans f5 (fun _ _ h => h))))
          clear f5 hck e0 e1 e2 e3 e4 e5
          have e0 := cells_row HG.out.2.1 0 _ rfl
          have e1 := cells_row HG.out.2.1 1 _ rfl
          have e2 := cells_row HG.out.2.1 2 _ rfl
          have e3 := cells_row HG.out.2.1 3 _ rfl
          have e4 := cells_row HG.out.2.1 4 _ rfl
          have e5 := cells_row HG.out.2.1 5 _ rfl
          simp only [List.getElem_toArray, List.getElem_cons_succ, List.getElem_cons_zero] at e0 e1 e2 e3 e4 e5
          have hal := HAK.out w5 HG.out.2.2
          go_wp2_with fail
          refine hal.mono ?_
          rintro e w6 ⟨rfl, f6⟩
          have F6 := Lib.hid f6
          clear f6 hal e0 e1 e2 e3 e4 e5
          go_wp2
          go_ret
          exact ⟨rfl, HG.out.1.trans F6.out (fun _ _ h => h)⟩
        · rw [hct.2 (fun h => hs (hsm.2 h))] at hck
          have hz : ¬ (zm : Int) ≤ 200 := by omega
          have hzd : decide ((zm : Int) ≤ 200) = false := decide_eq_false hz
          clear hct hsm hs
          go_wp2_with fail
          refine hck.mono ?_
          rintro e w5 ⟨rfl, f5⟩
          have HG := Lib.hid (And.intro (HI.out.1.trans f5 (fun _ _ h => h)) (And.intro (box_kept HI.out.2.1 f5 (fun h => h)) (HI.out.2.2.trans f5 (fun _ _ h => h))))
          clear f5 hck e0 e1 e2 e3 e4 e5
          have e0 := cells_row HG.out.2.1 0 _ rfl
          have e1 := cells_row HG.out.2.1 1 _ rfl
          have e2 := cells_row HG.out.2.1 2 _ rfl
          have e3 := cells_row HG.out.2.1 3 _ rfl
          have e4 := cells_row HG.out.2.1 4 _ rfl
          have e5 := cells_row HG.out.2.1 5 _ rfl
          simp only [List.getElem_toArray, List.getElem_cons_succ, List.getElem_cons_zero] at e0 e1 e2 e3 e4 e5
          have hal := HAK.out w5 HG.out.2.2
          go_wp2_with fail
          refine hal.mono ?_
          rintro e w6 ⟨rfl, f6⟩
          have F6 := Lib.hid f6
          clear f6 hal e0 e1 e2 e3 e4 e5
          go_wp2
          go_ret
          exact ⟨rfl, HG.out.1.trans F6.out (fun _ _ h => h)⟩

end Go.Proofs.Ytdaabgnfgdojhaa
