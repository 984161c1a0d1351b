/-
  CouBack, part 27 of what it rests on: ValFit2.
-/
import Derived.Test.YtplipjijaaejlaaGreatS26
set_option linter.unusedVariables false
set_option linter.unusedSimpArgs false
set_option maxHeartbeats 64000000
namespace Go.Proofs.YtplipjijaaejlaaGreat
open Go.RowKit
open Go.Lib (hid)
section
attribute [local go_sem] run_store_float

set_option maxRecDepth 100000 in
theorem each_one (of : Nat → KT) (ih : ∀ i, FitsAt (of i)) (ov : Nat → VT) (R : Nat → Prop) (a' : Option Addr) (n : Nat) (c' : Nat) (va : Option Addr) (c cap : Nat) (w : World) (hks : Kids R w of a' n c') (hvs : VKids R w ov va c cap) (hsz : ∀ i, i < c → szV (ov i) ≤ 100000) (hc5 : c ≤ 100000) (hnc : n = 1) :
    Calls Tryz.prog 47 #[.slice a' n c', .slice va c cap] w fun e w' => e = .returned (.bool ((List.range c).all (fun i => fitsE (of 0) (ov i)))) ∧ Fr (fun _ => False) w w' := by
  have HKS := Lib.hid hks
  have HVS := Lib.hid hvs
  have HSZ := Lib.hid hsz
  have HNC := Lib.hid hnc
  clear hks hvs hsz
  have hn1 : ((n : Int) == 1) = true := by simp; omega
  have hn2 : ((n : Int) != 1) = false := by unfold bne; rw [hn1]; rfl
  clear hnc
  go_enter Tryz.func47, Tryz.ntmps47
  go_wp2
  go_loopg [6, 12] c (fun G u6 u12 wr => ∃ j : Nat, j ≤ c ∧ G = c - j ∧ u12 = .int .i64 j ∧ Hid (Fr (fun _ => False) w wr ∧ ∀ i, i < j → fitsE (of 0) (ov i) = true))
  case atStart => exact ⟨0, Nat.zero_le _, rfl, by go_num, Lib.hid ⟨Fr.refl _ _, fun i hi => by omega⟩⟩
  case round =>
    obtain ⟨j, hj, rfl, rfl, HI⟩ := hrel
    by_cases hlt : j < c
    · rcases HKS.out with hz | ⟨hcap, g, off, hg, rfl, hcell⟩
      · have := HNC.out; omega
      rcases HVS.out with hz | ⟨hvcap, gv, ov', hgv, rfl, hvcell⟩
      · omega
      obtain ⟨x0, x1, x2, x3, y0, y1, y2, y3, hx⟩ := hcell 0 (by have := HNC.out; omega)
      obtain ⟨s0, s1, s2, s3, r0, r1, r2, r3, hs⟩ := hvcell j hlt
      obtain ⟨xk, xm, xa, xn, xc, xa', xn', xc', rfl, rfl, rfl, rfl⟩ := hx.cells
      obtain ⟨zn, zf, zs, za, zc, zcap, es⟩ := hs.lit
      simp only [Value.agg.injEq, Array.mk.injEq, List.cons.injEq, and_true] at es
      obtain ⟨rfl, rfl, rfl, rfl⟩ := es
      simp only [Nat.zero_mul, Nat.add_zero] at y0 y1 y2 y3
      have r0 := cell_fr HI.out.1 (fun _ _ h => h) hgv r0
      have r1 := cell_fr HI.out.1 (fun _ _ h => h) hgv r1
      have r2 := cell_fr HI.out.1 (fun _ _ h => h) hgv r2
      have r3 := cell_fr HI.out.1 (fun _ _ h => h) hgv r3
      obtain ⟨wp, hwp⟩ : ∃ wp, wp = wr.alloc (.cells #[.int .i64 zn, .float .f64 zf, .string zs, .slice za zc zcap] 39) := ⟨_, rfl⟩
      have fp : Fr (fun _ => False) wr wp := by rw [hwp]; exact (Fr.refl _ _).alloc _
      have qp : wp.heap[wr.heap.size]? = some (.cells #[.int .i64 zn, .float .f64 zf, .string zs, .slice za zc zcap] 39 (0, 0)) := by rw [hwp]; exact heap_alloc_new _ _
      have HY := Lib.hid (And.intro hg (And.intro y0 (And.intro y1 (And.intro y2 y3))))
      have HX := Lib.hid (And.intro hx hs)
      have HP := Lib.hid (And.intro (HI.out.1.trans fp (fun _ _ h => h)) qp)
      have HLT := Lib.hid hlt
      have jc : (j : Int) < (c : Int) := by omega
      skip
      have HN1 := Lib.hid (show 0 < n from by have := HNC.out; omega)
      clear hcell hvcell hx hs y0 y1 y2 y3 fp qp
      go_upto_region 6 with fail
      rw [← hwp]
      obtain ⟨pb, hpb⟩ : ∃ pb, wr.heap.size = pb := ⟨_, rfl⟩
      rw [hpb]
      rw [hpb] at HP
      clear hwp hpb r0 r1 r2 r3
      obtain ⟨BB, hBB⟩ : ∃ BB, fitsE (of 0) (ov j) = BB := ⟨_, rfl⟩
      have HBB := Lib.hid hBB
      clear hBB
      have n0 : 0 < n := HN1.out
      refine wp_region_chain (by kernel_rfl) [some 16, some 17, some 18, some 19, some 20, some 21] rfl (by decide) (by intro d hd; simp at hd ⊢; omega)
        [4] (fun _ wx => Fr (fun _ => False) wp wx)
        [.free (.slice (some ⟨g, off, none⟩) n c'), .free (.pointer (some ⟨g, off, none⟩)), .free (.agg #[.int .u8 xk, .int .i64 xm, .slice xa xn xc, .slice xa' xn' xc']), .free (.agg #[.int .i64 zn, .float .f64 zf, .string zs, .slice za zc zcap]), .link (some (.bool BB)), .free (.bool (!BB))]
        (by kernel_rfl) (by kernel_rfl) ?h0 ?step ?fin
      case h0 => exact (Fr.refl _ _).drew
      case step =>
        intro vals2
        simp only [frOfU, fillU, List.setIfInBounds_toArray, List.set_cons_succ, List.set_cons_zero]
        repeat' (first | exact AllOps.nil | refine AllOps.cons ?_ ?_)
        all_goals
          intro cvs wx hS he hu hlim K hK
          simp only [Act.put, List.setIfInBounds_toArray, List.set_cons_succ, List.set_cons_zero, List.getD_cons_zero, List.getD_cons_succ] at hK
          simp only [List.mem_cons, List.not_mem_nil, or_false, forall_eq_or_imp, forall_eq, Region.binds, forall_const, vmode_gc, Bool.false_eq_true, false_imp_iff, List.getD_cons_zero, List.getD_cons_succ, OpSort.val, Option.some.injEq, forall_eq', reduceCtorEq, implies_true, true_and, and_true] at he
          have HSX := Lib.hid hS
          clear hS
        all_goals first | (clear hlim hu; (try simp only [he] at hK ⊢); go_simp; exact hK) | skip
        · have e0 := cell_fr HSX.out (fun _ _ h => h) HY.out.1 (cell_fr HP.out.1 (fun _ _ h => h) HY.out.1 HY.out.2.1)
          have e1 := cell_fr HSX.out (fun _ _ h => h) HY.out.1 (cell_fr HP.out.1 (fun _ _ h => h) HY.out.1 HY.out.2.2.1)
          have e2 := cell_fr HSX.out (fun _ _ h => h) HY.out.1 (cell_fr HP.out.1 (fun _ _ h => h) HY.out.1 HY.out.2.2.2.1)
          have e3 := cell_fr HSX.out (fun _ _ h => h) HY.out.1 (cell_fr HP.out.1 (fun _ _ h => h) HY.out.1 HY.out.2.2.2.2)
          clear hlim hu
          simp only [he] at hK ⊢
          go_simp
          exact hK
        · obtain ⟨e0, e1, e2, e3⟩ := cell_of_four (box_kept HP.out.2 HSX.out (fun h => h))
          clear hlim hu
          simp only [he] at hK ⊢
          go_simp
          exact hK
        · simp only [he] at hK ⊢
          go_simp
          go_at_call 25
          refine (ih 0 R _ _ wx (ov j) (Shows.fr HSX.out (fun _ _ h => h) _ _ (Shows.fr HP.out.1 (fun _ _ h => h) _ _ HX.out.1)) (VShows.fr HSX.out (fun _ _ h => h) _ _ (VShows.fr HP.out.1 (fun _ _ h => h) _ _ HX.out.2)) (HSZ.out j HLT.out)).mono ?_
          rintro e1 wa ⟨rfl, fa⟩
          exact hK _ _ (fun _ h => by cases h; rw [HBB.out]) (HSX.out.trans fa (fun _ _ h => h))
      case fin =>
        intro vals2 w7 hS hV
        have v5 := hV 5 _ (by decide) rfl
        clear hV
        have H7 := Lib.hid (HP.out.1.trans hS (fun _ _ h => h))
        clear hS
        simp only [frOfU, fillU, List.setIfInBounds_toArray, List.set_cons_succ, List.set_cons_zero]
        simp only [Nat.reduceAdd, v5]
        clear v5
        cases BB with
        | true =>
          go_wp2
          go_roundg (c - (j + 1))
          case measure => have := HLT.out; omega
          case rel => exact ⟨j + 1, HLT.out, rfl, by go_num, Lib.hid ⟨H7.out, fun i hi => by
            by_cases h : i < j
            · exact HI.out.2 i h
            · obtain rfl : i = j := by omega
              exact HBB.out⟩⟩
        | false =>
          have EF : Hid ((List.range c).all (fun i => fitsE (of 0) (ov i)) = false) := Lib.hid (by
            rw [List.all_eq_false]
            exact ⟨j, List.mem_range.2 HLT.out, by simp [HBB.out]⟩)
          go_wp2
          go_ret
          rw [EF.out]
          exact ⟨rfl, H7.out⟩
    · obtain rfl : j = c := by omega
      have ET : Hid ((List.range j).all (fun i => fitsE (of 0) (ov i)) = true) := Lib.hid (by
        rw [List.all_eq_true]
        exact fun i hi => HI.out.2 i (List.mem_range.1 hi))
      go_wp2
      go_ret
      rw [ET.out]
      exact ⟨rfl, HI.out.1⟩


set_option maxRecDepth 100000 in
theorem each_any (of : Nat → KT) (ih : ∀ i, FitsAt (of i)) (ov : Nat → VT) (R : Nat → Prop) (a' : Option Addr) (n : Nat) (c' : Nat) (va : Option Addr) (c cap : Nat) (w : World) (hks : Kids R w of a' n c') (hvs : VKids R w ov va c cap) (hsz : ∀ i, i < c → szV (ov i) ≤ 100000) (hc5 : c ≤ 100000) :
    Calls Tryz.prog 47 #[.slice a' n c', .slice va c cap] w fun e w' => e = .returned (.bool (decide (n = 1) && (List.range c).all (fun i => fitsE (of 0) (ov i)))) ∧ Fr (fun _ => False) w w' := by
  by_cases hn : n = 1
  · rw [decide_eq_true hn, Bool.true_and]
    exact each_one of ih ov R a' n c' va c cap w hks hvs hsz hc5 hn
  · rw [decide_eq_false hn, Bool.false_and]
    have hn1 : ((n : Int) == 1) = false := by simp; omega
    have hn2 : ((n : Int) != 1) = true := by unfold bne; rw [hn1]; rfl
    clear hn hks hvs
    go_enter Tryz.func47, Tryz.ntmps47
    go_wp2
    go_ret
    exact ⟨rfl, Fr.refl _ _⟩

set_option maxRecDepth 100000 in
theorem all_any (of : Nat → KT) (ih : ∀ i, FitsAt (of i)) (ov : Nat → VT) (R : Nat → Prop) (a' : Option Addr) (n : Nat) (c' : Nat) (va : Option Addr) (c cap : Nat) (w : World) (hks : Kids R w of a' n c') (hvs : VKids R w ov va c cap) (hsz : ∀ i, i < c → szV (ov i) ≤ 100000) (hc5 : c ≤ 100000) (hnc : c = n) :
    Calls Tryz.prog 48 #[.slice a' n c', .slice va c cap] w fun e w' => e = .returned (.bool ((List.range c).all (fun i => fitsE (of i) (ov i)))) ∧ Fr (fun _ => False) w w' := by
  have HKS := Lib.hid hks
  have HVS := Lib.hid hvs
  have HSZ := Lib.hid hsz
  have HNC := Lib.hid hnc
  clear hks hvs hsz
  clear hnc
  go_enter Tryz.func48, Tryz.ntmps48
  go_wp2
  go_loopg [5, 6, 9] c (fun G u5 u6 u9 wr => ∃ j : Nat, j ≤ c ∧ G = c - j ∧ u9 = .int .i64 j ∧ Hid (Fr (fun _ => False) w wr ∧ ∀ i, i < j → fitsE (of i) (ov i) = true))
  case atStart => exact ⟨0, Nat.zero_le _, rfl, by go_num, Lib.hid ⟨Fr.refl _ _, fun i hi => by omega⟩⟩
  case round =>
    obtain ⟨j, hj, rfl, rfl, HI⟩ := hrel
    by_cases hlt : j < c
    · rcases HKS.out with hz | ⟨hcap, g, off, hg, rfl, hcell⟩
      · have := HNC.out; omega
      rcases HVS.out with hz | ⟨hvcap, gv, ov', hgv, rfl, hvcell⟩
      · omega
      obtain ⟨x0, x1, x2, x3, y0, y1, y2, y3, hx⟩ := hcell j (by have := HNC.out; omega)
      obtain ⟨s0, s1, s2, s3, r0, r1, r2, r3, hs⟩ := hvcell j hlt
      obtain ⟨xk, xm, xa, xn, xc, xa', xn', xc', rfl, rfl, rfl, rfl⟩ := hx.cells
      obtain ⟨zn, zf, zs, za, zc, zcap, es⟩ := hs.lit
      simp only [Value.agg.injEq, Array.mk.injEq, List.cons.injEq, and_true] at es
      obtain ⟨rfl, rfl, rfl, rfl⟩ := es
      skip
      have r0 := cell_fr HI.out.1 (fun _ _ h => h) hgv r0
      have r1 := cell_fr HI.out.1 (fun _ _ h => h) hgv r1
      have r2 := cell_fr HI.out.1 (fun _ _ h => h) hgv r2
      have r3 := cell_fr HI.out.1 (fun _ _ h => h) hgv r3
      obtain ⟨wp, hwp⟩ : ∃ wp, wp = wr.alloc (.cells #[.int .i64 zn, .float .f64 zf, .string zs, .slice za zc zcap] 39) := ⟨_, rfl⟩
      have fp : Fr (fun _ => False) wr wp := by rw [hwp]; exact (Fr.refl _ _).alloc _
      have qp : wp.heap[wr.heap.size]? = some (.cells #[.int .i64 zn, .float .f64 zf, .string zs, .slice za zc zcap] 39 (0, 0)) := by rw [hwp]; exact heap_alloc_new _ _
      have HY := Lib.hid (And.intro hg (And.intro y0 (And.intro y1 (And.intro y2 y3))))
      have HX := Lib.hid (And.intro hx hs)
      have HP := Lib.hid (And.intro (HI.out.1.trans fp (fun _ _ h => h)) qp)
      have HLT := Lib.hid hlt
      have jc : (j : Int) < (c : Int) := by omega
      have jn : (j : Int) < (n : Int) := by have := HNC.out; omega
      have HN1 := Lib.hid (show 0 < n from by have := HNC.out; omega)
      clear hcell hvcell hx hs y0 y1 y2 y3 fp qp
      go_upto_region 4 with fail
      rw [← hwp]
      obtain ⟨pb, hpb⟩ : ∃ pb, wr.heap.size = pb := ⟨_, rfl⟩
      rw [hpb]
      rw [hpb] at HP
      clear hwp hpb r0 r1 r2 r3
      obtain ⟨BB, hBB⟩ : ∃ BB, fitsE (of j) (ov j) = BB := ⟨_, rfl⟩
      have HBB := Lib.hid hBB
      clear hBB
      skip
      refine wp_region_chain (by kernel_rfl) [some 14, some 15, some 16, some 17, some 18, some 19, some 20] rfl (by decide) (by intro d hd; simp at hd ⊢; omega)
        [5] (fun _ wx => Fr (fun _ => False) wp wx)
        [.free (.slice (some ⟨g, off, none⟩) n c'), .free (.int .i64 j), .free (.pointer (some ⟨g, off + j * 4, none⟩)), .free (.agg #[.int .u8 xk, .int .i64 xm, .slice xa xn xc, .slice xa' xn' xc']), .free (.agg #[.int .i64 zn, .float .f64 zf, .string zs, .slice za zc zcap]), .link (some (.bool BB)), .free (.bool (!BB))]
        (by kernel_rfl) (by kernel_rfl) ?h0 ?step ?fin
      case h0 => exact (Fr.refl _ _).drew
      case step =>
        intro vals2
        simp only [frOfU, fillU, List.setIfInBounds_toArray, List.set_cons_succ, List.set_cons_zero]
        repeat' (first | exact AllOps.nil | refine AllOps.cons ?_ ?_)
        all_goals
          intro cvs wx hS he hu hlim K hK
          simp only [Act.put, List.setIfInBounds_toArray, List.set_cons_succ, List.set_cons_zero, List.getD_cons_zero, List.getD_cons_succ] at hK
          simp only [List.mem_cons, List.not_mem_nil, or_false, forall_eq_or_imp, forall_eq, Region.binds, forall_const, vmode_gc, Bool.false_eq_true, false_imp_iff, List.getD_cons_zero, List.getD_cons_succ, OpSort.val, Option.some.injEq, forall_eq', reduceCtorEq, implies_true, true_and, and_true] at he
          have HSX := Lib.hid hS
          clear hS
        all_goals first | (clear hlim hu; (try simp only [he] at hK ⊢); go_simp; exact hK) | skip
        · have e0 := cell_fr HSX.out (fun _ _ h => h) HY.out.1 (cell_fr HP.out.1 (fun _ _ h => h) HY.out.1 HY.out.2.1)
          have e1 := cell_fr HSX.out (fun _ _ h => h) HY.out.1 (cell_fr HP.out.1 (fun _ _ h => h) HY.out.1 HY.out.2.2.1)
          have e2 := cell_fr HSX.out (fun _ _ h => h) HY.out.1 (cell_fr HP.out.1 (fun _ _ h => h) HY.out.1 HY.out.2.2.2.1)
          have e3 := cell_fr HSX.out (fun _ _ h => h) HY.out.1 (cell_fr HP.out.1 (fun _ _ h => h) HY.out.1 HY.out.2.2.2.2)
          clear hlim hu
          simp only [he] at hK ⊢
          go_simp
          exact hK
        · obtain ⟨e0, e1, e2, e3⟩ := cell_of_four (box_kept HP.out.2 HSX.out (fun h => h))
          clear hlim hu
          simp only [he] at hK ⊢
          go_simp
          exact hK
        · simp only [he] at hK ⊢
          go_simp
          go_at_call 25
          refine (ih j R _ _ wx (ov j) (Shows.fr HSX.out (fun _ _ h => h) _ _ (Shows.fr HP.out.1 (fun _ _ h => h) _ _ HX.out.1)) (VShows.fr HSX.out (fun _ _ h => h) _ _ (VShows.fr HP.out.1 (fun _ _ h => h) _ _ HX.out.2)) (HSZ.out j HLT.out)).mono ?_
          rintro e1 wa ⟨rfl, fa⟩
          exact hK _ _ (fun _ h => by cases h; rw [HBB.out]) (HSX.out.trans fa (fun _ _ h => h))
      case fin =>
        intro vals2 w7 hS hV
        have v5 := hV 6 _ (by decide) rfl
        clear hV
        have H7 := Lib.hid (HP.out.1.trans hS (fun _ _ h => h))
        clear hS
        simp only [frOfU, fillU, List.setIfInBounds_toArray, List.set_cons_succ, List.set_cons_zero]
        simp only [Nat.reduceAdd, v5]
        clear v5
        cases BB with
        | true =>
          go_wp2
          go_roundg (c - (j + 1))
          case measure => have := HLT.out; omega
          case rel => exact ⟨j + 1, HLT.out, rfl, by go_num, Lib.hid ⟨H7.out, fun i hi => by
            by_cases h : i < j
            · exact HI.out.2 i h
            · obtain rfl : i = j := by omega
              exact HBB.out⟩⟩
        | false =>
          have EF : Hid ((List.range c).all (fun i => fitsE (of i) (ov i)) = false) := Lib.hid (by
            rw [List.all_eq_false]
            exact ⟨j, List.mem_range.2 HLT.out, by simp [HBB.out]⟩)
          go_wp2
          go_ret
          rw [EF.out]
          exact ⟨rfl, H7.out⟩
    · obtain rfl : j = c := by omega
      have ET : Hid ((List.range j).all (fun i => fitsE (of i) (ov i)) = true) := Lib.hid (by
        rw [List.all_eq_true]
        exact fun i hi => HI.out.2 i (List.mem_range.1 hi))
      go_wp2
      go_ret
      rw [ET.out]
      exact ⟨rfl, HI.out.1⟩


set_option maxRecDepth 100000 in
theorem fit_k5 (k : Nat) (m : Int) (ns : List Txt) (n : Nat) (of : Nat → KT) (ih : ∀ i, FitsAt (of i)) (hk0 : k = 5) : FitsAt (.mk k m ns n of) := by
  intro R v vv w T hsh hvs hsz
  have HSH := Lib.hid (Shows.mono (S := fun k => R k ∧ k < w.heap.size) (fun k hk h => ⟨h, hk⟩) _ _ hsh)
  have HVS := Lib.hid (VShows.mono (S := fun k => R k ∧ k < w.heap.size) (fun k hk h => ⟨h, hk⟩) _ _ hvs)
  clear hvs
  obtain ⟨N, f, s, c, ov, va, cap, rfl, rfl, hVB, hVK⟩ := vshows_open HVS.out
  obtain ⟨vn, vo, rfl, hk, hn, ht, ho⟩ := hsh
  obtain ⟨na, nc, rfl, _⟩ := ht.shape
  obtain ⟨a', c', rfl⟩ : ∃ a' c', vo = .slice a' n c' := by
    rcases ho with ⟨rfl, a', c', rfl⟩ | ⟨g, off, cap, hg, rfl, hle, hc⟩
    · exact ⟨a', c', rfl⟩
    · exact ⟨_, cap, rfl⟩
  have hns : ns.length ≤ 1000 := ht.1
  obtain ⟨hN0, hN1, hf64, hsl, hc5⟩ := hVB
  have HB := Lib.hid (And.intro hN0 (And.intro hN1 (And.intro hf64 (And.intro hsl hc5))))
  have HVK := Lib.hid hVK
  have HSZ := Lib.hid hsz
  have HK0 := Lib.hid hk0
  unfold sv
  obtain ⟨kz, hkz⟩ : ∃ kz : Int, (k : Int) = kz := ⟨_, rfl⟩
  rw [hkz]
  have HKZ := Lib.hid hkz
  have e0 : (kz == 0) = false := by simp; omega
  have e1 : (kz == 1) = false := by simp; omega
  have e2 : (kz == 2) = false := by simp; omega
  have e3 : (kz == 3) = false := by simp; omega
  have e4 : (kz == 4) = false := by simp; omega
  have e7 : (kz == 7) = false := by simp; omega
  have e5 : (kz == 5) = true := by simp; omega
  obtain ⟨w1, hw1⟩ : ∃ w1, w1 = (w.alloc (.cells #[.int .u8 kz, .int .i64 m, .slice na ns.length nc, .slice a' n c'] 34)).alloc (.cells #[.int .i64 N, .float .f64 f, .string ⟨s.toArray⟩, .slice va c cap] 39) := ⟨_, rfl⟩
  have f1 : Fr (fun _ => False) w w1 := by rw [hw1]; exact ((Fr.refl _ _).alloc _).alloc _
  have q1 : w1.heap[w.heap.size]? = some (.cells #[.int .u8 kz, .int .i64 m, .slice na ns.length nc, .slice a' n c'] 34 (0, 0)) := by rw [hw1]; exact heap_alloc_first _ _ _
  have v1 : w1.heap[w.heap.size + 1]? = some (.cells #[.int .i64 N, .float .f64 f, .string ⟨s.toArray⟩, .slice va c cap] 39 (0, 0)) := by rw [hw1]; exact heap_alloc_two _ _ _
  go_enter Tryz.func25, Tryz.ntmps25
  go_upto_region 2 with fail
  rw [← hw1]
  obtain ⟨vb, hvb⟩ : ∃ vb, w.heap.size + 1 = vb := ⟨_, rfl⟩
  rw [hvb] at v1 ⊢
  have HVBX := Lib.hid hvb
  have o1 : w.heap.size ≠ vb := by omega
  have o2 : vb ≠ w.heap.size := by omega
  have c0 := cells_row q1 0 _ rfl
  have c1 := cells_row q1 1 _ rfl
  have c2 := cells_row q1 2 _ rfl
  have c3 := cells_row q1 3 _ rfl
  have d0 := cells_row v1 0 _ rfl
  have d1 := cells_row v1 1 _ rfl
  have d2 := cells_row v1 2 _ rfl
  have d3 := cells_row v1 3 _ rfl
  have z0 : w1.frozen? ⟨vb, 0, none⟩ = false := by simp [World.frozen?, v1]
  have z1 : w1.frozen? ⟨vb, 1, none⟩ = false := by simp [World.frozen?, v1]
  have z2 : w1.frozen? ⟨vb, 2, none⟩ = false := by simp [World.frozen?, v1]
  have z3 : w1.frozen? ⟨vb, 3, none⟩ = false := by simp [World.frozen?, v1]
  have H1 := Lib.hid (And.intro f1 (And.intro q1 v1))
  clear hw1 f1 q1 v1 hvb hkz hk0 hk hn ht ho hVK hsz hN0 hN1 hf64 hsl hc5
  have hks : Kids (fun k => R k ∧ k < w.heap.size) w of a' n c' := by
    have h := HSH.out
    rw [HKZ.out] at h
    obtain ⟨k2, m2, ns2, of2, a2, c2, a3, n3, c3, e1, e2, e3, e4, e5, _, _, hk⟩ := shows_open h
    cases e1
    cases e5
    exact hk
  have HKK := Lib.hid (hks.fr H1.out.1 (fun _ _ h => h))
  have HVV := Lib.hid (HVK.out.fr H1.out.1 (fun _ _ h => h))
  have hss : ∀ i, i < c → szV (ov i) ≤ 100000 := fun i hi => by
    have h := HSZ.out
    rw [szV] at h
    have h2 := sumTo_le (fun i => szV (ov i)) i c hi
    unfold sumTo at h2
    omega
  have hcc : c ≤ 100000 := HB.out.2.2.2.2
  clear hks
  by_cases hB : (c : Int) ≤ m
  · have HDB : Hid (decide ((c : Int) ≤ m) = true) := Lib.hid (by simpa using hB)
    have hcall := each_any of ih ov (fun k => R k ∧ k < w.heap.size) a' n c' va c cap w1 HKK.out HVV.out hss hcc
    have HEQ : Hid (fitsE (.mk k m ns n of) (.mk N f s c ov) = ((decide (n = 1) && (List.range c).all (fun i => fitsE (of 0) (ov i))) && sameV (.mk N f s 0 ov) zeroV)) := Lib.hid (by
      have hk := HK0.out; subst hk; rw [fitsE]; rw [HDB.out]; simp)
    obtain ⟨BB, hBB⟩ : ∃ BB, (decide (n = 1) && (List.range c).all (fun i => fitsE (of 0) (ov i))) = BB := ⟨_, rfl⟩
    rw [hBB] at hcall HEQ
    clear hBB
    go_wp2_with fail
    refine hcall.mono ?_
    rintro e w3 ⟨rfl, f3⟩
    clear hcall
    have F3 := Lib.hid f3
    have v3 := box_kept H1.out.2.2 f3 (fun h => h)
    have z3 : w3.frozen? ⟨vb, 3, none⟩ = false := by simp [World.frozen?, v3]
    have d3 := cells_row v3 3 _ rfl
    clear f3
    go_upto_region 22 with fail
    obtain ⟨w2, hw2⟩ : ∃ w2, w2 = w3.setCell ⟨vb, 3, none⟩ (.slice none 0 0) := ⟨_, rfl⟩
    rw [← hw2]
    have f2 : Fr (fun k => k = vb) w3 w2 := by rw [hw2]; exact (Fr.refl _ _).set1 _ _
    have v2 : w2.heap[vb]? = some (.cells #[.int .i64 N, .float .f64 f, .string ⟨s.toArray⟩, .slice none 0 0] 39 (0, 0)) := by rw [hw2]; exact setCell_row 3 _ v3
    have hsame := vsame_any (fun k => R k ∧ k < w.heap.size) (.mk N f s 0 ov) zeroV (.agg #[.int .i64 N, .float .f64 f, .string ⟨s.toArray⟩, .slice none 0 0]) _ w2 (vshows_mk (n := N) (f := f) (s := s) (by have := HB.out; unfold VB; omega) (.inl rfl)) (zeroV_shows _ _) (by have h := HSZ.out; simp only [szV] at h ⊢; first | exact h | (simp; try omega))
    have HE := Lib.hid (show fitsE (.mk k m ns n of) (.mk N f s c ov) = (BB && sameV (.mk N f s 0 ov) zeroV) from HEQ.out)
    have d0 := cells_row v2 0 _ rfl
    have d1 := cells_row v2 1 _ rfl
    have d2 := cells_row v2 2 _ rfl
    have d3 := cells_row v2 3 _ rfl
    have F2 : Hid (Fr (fun _ => False) w w2) := Lib.hid ((H1.out.1.trans F3.out (fun _ _ h => h)).trans f2 (fun i hi h => by have := HVBX.out; omega))
    clear hw2 f2 v2
    cases hBB : BB with
    | false =>
      clear hsame
      rw [hBB] at HE
      clear hBB
      go_wp2
      go_ret
      rw [HE.out]
      exact ⟨rfl, F2.out⟩
    | true =>
      rw [hBB] at HE
      clear hBB
      go_wp2_with fail
      refine hsame.mono ?_
      rintro e w3 ⟨rfl, f3⟩
      have F3 := Lib.hid f3
      clear f3 hsame
      go_wp2
      go_ret
      rw [HE.out]
      exact ⟨rfl, F2.out.trans F3.out (fun _ _ h => h)⟩
  · have HEQ : Hid (fitsE (.mk k m ns n of) (.mk N f s c ov) = false) := Lib.hid (by
      have hk := HK0.out; subst hk; rw [fitsE]; rw [decide_eq_false hB]; simp)
    go_wp2
    go_ret
    rw [HEQ.out]
    refine ⟨rfl, H1.out.1.setCell (p := ⟨vb, 3, none⟩) (fun h => by have := HVBX.out; simp at h; omega) _⟩

set_option maxRecDepth 100000 in
theorem fit_k6 (k : Nat) (m : Int) (ns : List Txt) (n : Nat) (of : Nat → KT) (ih : ∀ i, FitsAt (of i)) (hk0 : k = 6) : FitsAt (.mk k m ns n of) := by
  intro R v vv w T hsh hvs hsz
  have HSH := Lib.hid (Shows.mono (S := fun k => R k ∧ k < w.heap.size) (fun k hk h => ⟨h, hk⟩) _ _ hsh)
  have HVS := Lib.hid (VShows.mono (S := fun k => R k ∧ k < w.heap.size) (fun k hk h => ⟨h, hk⟩) _ _ hvs)
  clear hvs
  obtain ⟨N, f, s, c, ov, va, cap, rfl, rfl, hVB, hVK⟩ := vshows_open HVS.out
  obtain ⟨vn, vo, rfl, hk, hn, ht, ho⟩ := hsh
  obtain ⟨na, nc, rfl, _⟩ := ht.shape
  obtain ⟨a', c', rfl⟩ : ∃ a' c', vo = .slice a' n c' := by
    rcases ho with ⟨rfl, a', c', rfl⟩ | ⟨g, off, cap, hg, rfl, hle, hc⟩
    · exact ⟨a', c', rfl⟩
    · exact ⟨_, cap, rfl⟩
  have hns : ns.length ≤ 1000 := ht.1
  obtain ⟨hN0, hN1, hf64, hsl, hc5⟩ := hVB
  have HB := Lib.hid (And.intro hN0 (And.intro hN1 (And.intro hf64 (And.intro hsl hc5))))
  have HVK := Lib.hid hVK
  have HSZ := Lib.hid hsz
  have HK0 := Lib.hid hk0
  unfold sv
  obtain ⟨kz, hkz⟩ : ∃ kz : Int, (k : Int) = kz := ⟨_, rfl⟩
  rw [hkz]
  have HKZ := Lib.hid hkz
  have e0 : (kz == 0) = false := by simp; omega
  have e1 : (kz == 1) = false := by simp; omega
  have e2 : (kz == 2) = false := by simp; omega
  have e3 : (kz == 3) = false := by simp; omega
  have e4 : (kz == 4) = false := by simp; omega
  have e7 : (kz == 7) = false := by simp; omega
  have e5 : (kz == 5) = false := by simp; omega
  have e6 : (kz == 6) = true := by simp; omega
  obtain ⟨w1, hw1⟩ : ∃ w1, w1 = (w.alloc (.cells #[.int .u8 kz, .int .i64 m, .slice na ns.length nc, .slice a' n c'] 34)).alloc (.cells #[.int .i64 N, .float .f64 f, .string ⟨s.toArray⟩, .slice va c cap] 39) := ⟨_, rfl⟩
  have f1 : Fr (fun _ => False) w w1 := by rw [hw1]; exact ((Fr.refl _ _).alloc _).alloc _
  have q1 : w1.heap[w.heap.size]? = some (.cells #[.int .u8 kz, .int .i64 m, .slice na ns.length nc, .slice a' n c'] 34 (0, 0)) := by rw [hw1]; exact heap_alloc_first _ _ _
  have v1 : w1.heap[w.heap.size + 1]? = some (.cells #[.int .i64 N, .float .f64 f, .string ⟨s.toArray⟩, .slice va c cap] 39 (0, 0)) := by rw [hw1]; exact heap_alloc_two _ _ _
  go_enter Tryz.func25, Tryz.ntmps25
  go_upto_region 2 with fail
  rw [← hw1]
  obtain ⟨vb, hvb⟩ : ∃ vb, w.heap.size + 1 = vb := ⟨_, rfl⟩
  rw [hvb] at v1 ⊢
  have HVBX := Lib.hid hvb
  have o1 : w.heap.size ≠ vb := by omega
  have o2 : vb ≠ w.heap.size := by omega
  have c0 := cells_row q1 0 _ rfl
  have c1 := cells_row q1 1 _ rfl
  have c2 := cells_row q1 2 _ rfl
  have c3 := cells_row q1 3 _ rfl
  have d0 := cells_row v1 0 _ rfl
  have d1 := cells_row v1 1 _ rfl
  have d2 := cells_row v1 2 _ rfl
  have d3 := cells_row v1 3 _ rfl
  have z0 : w1.frozen? ⟨vb, 0, none⟩ = false := by simp [World.frozen?, v1]
  have z1 : w1.frozen? ⟨vb, 1, none⟩ = false := by simp [World.frozen?, v1]
  have z2 : w1.frozen? ⟨vb, 2, none⟩ = false := by simp [World.frozen?, v1]
  have z3 : w1.frozen? ⟨vb, 3, none⟩ = false := by simp [World.frozen?, v1]
  have H1 := Lib.hid (And.intro f1 (And.intro q1 v1))
  clear hw1 f1 q1 v1 hvb hkz hk0 hk hn ht ho hVK hsz hN0 hN1 hf64 hsl hc5
  have hks : Kids (fun k => R k ∧ k < w.heap.size) w of a' n c' := by
    have h := HSH.out
    rw [HKZ.out] at h
    obtain ⟨k2, m2, ns2, of2, a2, c2, a3, n3, c3, e1, e2, e3, e4, e5, _, _, hk⟩ := shows_open h
    cases e1
    cases e5
    exact hk
  have HKK := Lib.hid (hks.fr H1.out.1 (fun _ _ h => h))
  have HVV := Lib.hid (HVK.out.fr H1.out.1 (fun _ _ h => h))
  have hss : ∀ i, i < c → szV (ov i) ≤ 100000 := fun i hi => by
    have h := HSZ.out
    rw [szV] at h
    have h2 := sumTo_le (fun i => szV (ov i)) i c hi
    unfold sumTo at h2
    omega
  have hcc : c ≤ 100000 := HB.out.2.2.2.2
  clear hks
  by_cases hB : c = n
  · have hB1 : ((c : Int) == (n : Int)) = true := by simp; omega
    have HDB : Hid (decide (c = n) = true) := Lib.hid (by simpa using hB)
    have hcall := all_any of ih ov (fun k => R k ∧ k < w.heap.size) a' n c' va c cap w1 HKK.out HVV.out hss hcc hB
    have HEQ : Hid (fitsE (.mk k m ns n of) (.mk N f s c ov) = (((List.range c).all (fun i => fitsE (of i) (ov i))) && sameV (.mk N f s 0 ov) zeroV)) := Lib.hid (by
      have hk := HK0.out; subst hk; rw [fitsE]; rw [HDB.out]; simp)
    clear hB
    obtain ⟨BB, hBB⟩ : ∃ BB, ((List.range c).all (fun i => fitsE (of i) (ov i))) = BB := ⟨_, rfl⟩
    rw [hBB] at hcall HEQ
    clear hBB
    go_wp2_with fail
    refine hcall.mono ?_
    rintro e w3 ⟨rfl, f3⟩
    clear hcall
    have F3 := Lib.hid f3
    have v3 := box_kept H1.out.2.2 f3 (fun h => h)
    have z3 : w3.frozen? ⟨vb, 3, none⟩ = false := by simp [World.frozen?, v3]
    have d3 := cells_row v3 3 _ rfl
    clear f3
    go_upto_region 22 with fail
    obtain ⟨w2, hw2⟩ : ∃ w2, w2 = w3.setCell ⟨vb, 3, none⟩ (.slice none 0 0) := ⟨_, rfl⟩
    rw [← hw2]
    have f2 : Fr (fun k => k = vb) w3 w2 := by rw [hw2]; exact (Fr.refl _ _).set1 _ _
    have v2 : w2.heap[vb]? = some (.cells #[.int .i64 N, .float .f64 f, .string ⟨s.toArray⟩, .slice none 0 0] 39 (0, 0)) := by rw [hw2]; exact setCell_row 3 _ v3
    have hsame := vsame_any (fun k => R k ∧ k < w.heap.size) (.mk N f s 0 ov) zeroV (.agg #[.int .i64 N, .float .f64 f, .string ⟨s.toArray⟩, .slice none 0 0]) _ w2 (vshows_mk (n := N) (f := f) (s := s) (by have := HB.out; unfold VB; omega) (.inl rfl)) (zeroV_shows _ _) (by have h := HSZ.out; simp only [szV] at h ⊢; first | exact h | (simp; try omega))
    have HE := Lib.hid (show fitsE (.mk k m ns n of) (.mk N f s c ov) = (BB && sameV (.mk N f s 0 ov) zeroV) from HEQ.out)
    have d0 := cells_row v2 0 _ rfl
    have d1 := cells_row v2 1 _ rfl
    have d2 := cells_row v2 2 _ rfl
    have d3 := cells_row v2 3 _ rfl
    have F2 : Hid (Fr (fun _ => False) w w2) := Lib.hid ((H1.out.1.trans F3.out (fun _ _ h => h)).trans f2 (fun i hi h => by have := HVBX.out; omega))
    clear hw2 f2 v2
    cases hBB : BB with
    | false =>
      clear hsame
      rw [hBB] at HE
      clear hBB
      go_wp2
      go_ret
      rw [HE.out]
      exact ⟨rfl, F2.out⟩
    | true =>
      rw [hBB] at HE
      clear hBB
      go_wp2_with fail
      refine hsame.mono ?_
      rintro e w3 ⟨rfl, f3⟩
      have F3 := Lib.hid f3
      clear f3 hsame
      go_wp2
      go_ret
      rw [HE.out]
      exact ⟨rfl, F2.out.trans F3.out (fun _ _ h => h)⟩
  · have hB1 : ((c : Int) == (n : Int)) = false := by simp; omega
    have HEQ : Hid (fitsE (.mk k m ns n of) (.mk N f s c ov) = false) := Lib.hid (by
      have hk := HK0.out; subst hk; rw [fitsE]; rw [decide_eq_false hB]; simp)
    clear hB
    go_wp2
    go_ret
    rw [HEQ.out]
    refine ⟨rfl, H1.out.1.setCell (p := ⟨vb, 3, none⟩) (fun h => by have := HVBX.out; simp at h; omega) _⟩
end
end Go.Proofs.YtplipjijaaejlaaGreat
