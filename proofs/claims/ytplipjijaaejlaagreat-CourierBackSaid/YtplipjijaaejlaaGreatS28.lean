/-
  CouBack, part 28 of what it rests on: ValFit3.
-/
import Derived.Test.YtplipjijaaejlaaGreatS27
set_option linter.unusedVariables false
set_option linter.unusedSimpArgs false
set_option maxHeartbeats 64000000
namespace Go.Proofs.YtplipjijaaejlaaGreat
open Go.RowKit
open Go.Lib (hid)
section
attribute [local go_sem] run_store_float

set_option maxRecDepth 100000 in
theorem fit_k8 (k : Nat) (m : Int) (ns : List Txt) (n : Nat) (of : Nat → KT) (ih : ∀ i, FitsAt (of i)) (hk0 : k = 8) : FitsAt (.mk k m ns n of) := by
  intro R v vv w T hsh hvs hsz
  have HSH := Lib.hid (Shows.mono (S := fun k => R k ∧ k < w.heap.size) (fun k hk h => ⟨h, hk⟩) _ _ hsh)
  have HVS := Lib.hid (VShows.mono (S := fun k => R k ∧ k < w.heap.size) (fun k hk h => ⟨h, hk⟩) _ _ hvs)
  clear hvs
  obtain ⟨N, f, s, c, ov, va, cap, rfl, rfl, hVB, hVK⟩ := vshows_open HVS.out
  obtain ⟨vn, vo, rfl, hk, hn, ht, ho⟩ := hsh
  obtain ⟨na, nc, rfl, _⟩ := ht.shape
  obtain ⟨a', c', rfl⟩ : ∃ a' c', vo = .slice a' n c' := by
    rcases ho with ⟨rfl, a', c', rfl⟩ | ⟨g, off, cap, hg, rfl, hle, hc⟩
    · exact ⟨a', c', rfl⟩
    · exact ⟨_, cap, rfl⟩
  have hns : ns.length ≤ 1000 := ht.1
  have HNN := Lib.hid hn
  obtain ⟨hN0, hN1, hf64, hsl, hc5⟩ := hVB
  have HB := Lib.hid (And.intro hN0 (And.intro hN1 (And.intro hf64 (And.intro hsl hc5))))
  have HVK := Lib.hid hVK
  have HSZ := Lib.hid hsz
  have HK0 := Lib.hid hk0
  unfold sv
  obtain ⟨kz, hkz⟩ : ∃ kz : Int, (k : Int) = kz := ⟨_, rfl⟩
  rw [hkz]
  have HKZ := Lib.hid hkz
  have e0 : (kz == 0) = false := by simp; omega
  have e1 : (kz == 1) = false := by simp; omega
  have e2 : (kz == 2) = false := by simp; omega
  have e3 : (kz == 3) = false := by simp; omega
  have e4 : (kz == 4) = false := by simp; omega
  have e7 : (kz == 7) = false := by simp; omega
  have e5 : (kz == 5) = false := by simp; omega
  have e6 : (kz == 6) = false := by simp; omega
  have e8 : (kz == 8) = true := by simp; omega
  obtain ⟨w1, hw1⟩ : ∃ w1, w1 = (w.alloc (.cells #[.int .u8 kz, .int .i64 m, .slice na ns.length nc, .slice a' n c'] 34)).alloc (.cells #[.int .i64 N, .float .f64 f, .string ⟨s.toArray⟩, .slice va c cap] 39) := ⟨_, rfl⟩
  have f1 : Fr (fun _ => False) w w1 := by rw [hw1]; exact ((Fr.refl _ _).alloc _).alloc _
  have q1 : w1.heap[w.heap.size]? = some (.cells #[.int .u8 kz, .int .i64 m, .slice na ns.length nc, .slice a' n c'] 34 (0, 0)) := by rw [hw1]; exact heap_alloc_first _ _ _
  have v1 : w1.heap[w.heap.size + 1]? = some (.cells #[.int .i64 N, .float .f64 f, .string ⟨s.toArray⟩, .slice va c cap] 39 (0, 0)) := by rw [hw1]; exact heap_alloc_two _ _ _
  go_enter Tryz.func25, Tryz.ntmps25
  go_upto_region 2 with fail
  rw [← hw1]
  obtain ⟨vb, hvb⟩ : ∃ vb, w.heap.size + 1 = vb := ⟨_, rfl⟩
  rw [hvb] at v1 ⊢
  have HVBX := Lib.hid hvb
  have o1 : w.heap.size ≠ vb := by omega
  have o2 : vb ≠ w.heap.size := by omega
  have c0 := cells_row q1 0 _ rfl
  have c1 := cells_row q1 1 _ rfl
  have c2 := cells_row q1 2 _ rfl
  have c3 := cells_row q1 3 _ rfl
  have d0 := cells_row v1 0 _ rfl
  have d1 := cells_row v1 1 _ rfl
  have d2 := cells_row v1 2 _ rfl
  have d3 := cells_row v1 3 _ rfl
  have z0 : w1.frozen? ⟨vb, 0, none⟩ = false := by simp [World.frozen?, v1]
  have z1 : w1.frozen? ⟨vb, 1, none⟩ = false := by simp [World.frozen?, v1]
  have z2 : w1.frozen? ⟨vb, 2, none⟩ = false := by simp [World.frozen?, v1]
  have z3 : w1.frozen? ⟨vb, 3, none⟩ = false := by simp [World.frozen?, v1]
  have H1 := Lib.hid (And.intro f1 (And.intro q1 v1))
  clear hw1 f1 q1 v1 hvb hkz hk0 hk hn ht ho hVK hsz hN0 hN1 hf64 hsl hc5
  have hks : Kids (fun k => R k ∧ k < w.heap.size) w of a' n c' := by
    have h := HSH.out
    rw [HKZ.out] at h
    obtain ⟨k2, m2, ns2, of2, a2, c2, a3, n3, c3, e1, e2, e3, e4, e5, _, _, hk⟩ := shows_open h
    cases e1
    cases e5
    exact hk
  have HKK := Lib.hid (hks.fr H1.out.1 (fun _ _ h => h))
  have HVV := Lib.hid (HVK.out.fr H1.out.1 (fun _ _ h => h))
  have hss : ∀ i, i < c → szV (ov i) ≤ 100000 := fun i hi => by
    have h := HSZ.out
    rw [szV] at h
    have h2 := sumTo_le (fun i => szV (ov i)) i c hi
    unfold sumTo at h2
    omega
  have hcc : c ≤ 100000 := HB.out.2.2.2.2
  have hn1000 : n ≤ 1000 := HNN.out
  clear hks
  by_cases hN : 0 ≤ N ∧ N ≤ (n : Int) - 1
  case neg =>
    have HDN : Hid (decide (0 ≤ N ∧ N ≤ (n : Int) - 1) = false) := Lib.hid (decide_eq_false hN)
    clear hN
    go_upto_region 20 with fail
    refine wp_region_chain (by kernel_rfl) [some 82, some 83, some 84, some 85, some 86, some 87, some 88, some 89, some 90, some 91, some 92, some 93, some 94, some 95, some 96, some 97, some 98, some 99, some 100, some 101, some 102, some 103, some 104, some 105, some 106, some 5] rfl (by decide) (by intro d hd; simp at hd ⊢; omega)
      [] (fun _ wx => Fr (fun _ => False) w1 wx)
      [.free (.pointer (some ⟨vb, 0, none⟩)), .free (.int .i64 N), .free (.pointer (some ⟨w.heap.size, 3, none⟩)), .free (.slice a' n c'), .free (.int .i64 n), .free (.bool false), .free (.bool false), .free undef, .free undef, .free undef, .free undef, .free (.bool false), .free (.bool false), .free undef, .free undef, .free undef, .free undef, .free undef, .free undef, .free undef, .free undef, .free undef, .free undef, .free undef, .free (.bool false), .free (.bool false)]
      (by kernel_rfl) (by kernel_rfl) ?h0A ?stepA ?finA
    case h0A => exact (Fr.refl _ _).drew
    case stepA =>
      intro vals2
      simp only [frOfU, fillU, List.setIfInBounds_toArray, List.set_cons_succ, List.set_cons_zero]
      repeat' (first | exact AllOps.nil | refine AllOps.cons ?_ ?_)
      all_goals
        intro cvs wx hS he hu hlim K hK
        simp only [Act.put, List.setIfInBounds_toArray, List.set_cons_succ, List.set_cons_zero, List.getD_cons_zero, List.getD_cons_succ] at hK
        simp only [List.mem_cons, List.not_mem_nil, or_false, forall_eq_or_imp, forall_eq, Region.binds, forall_const, vmode_gc, Bool.false_eq_true, false_imp_iff, List.getD_cons_zero, List.getD_cons_succ, OpSort.val, Option.some.injEq, forall_eq', reduceCtorEq, implies_true, true_and, and_true] at he
        have HSX := Lib.hid hS
        clear hS hlim hu
      all_goals first | ((try simp only [he] at hK ⊢); go_simp; exact hK) | skip
      all_goals first | (have qt := box_kept H1.out.2.1 HSX.out (fun h => h); have qv := box_kept H1.out.2.2 HSX.out (fun h => h); have k3 := cells_row qt 3 _ rfl; have l0 := cells_row qv 0 _ rfl; have l3 := cells_row qv 3 _ rfl; clear qt qv; (try simp only [he] at hK ⊢); go_simp; exact hK) | skip
      · simp only [he] at hK ⊢
        go_simp
        go_at_call 46
        refine (isIndex_any N n (by omega) wx).mono ?_
        rintro e1 wa ⟨rfl, rfl⟩
        rw [HDN.out]
        exact hK
    case finA =>
    intro vals2 w3 hS hV
    have v25 := hV 25 _ (by decide) rfl
    clear hV
    have f3 : Fr (fun _ => False) w1 w3 := hS
    clear hS
    simp only [frOfU, fillU, List.setIfInBounds_toArray, List.set_cons_succ, List.set_cons_zero]
    simp only [Nat.reduceAdd, v25]
    clear v25
    have F3 := Lib.hid f3
    have v3 := box_kept H1.out.2.2 f3 (fun h => h)
    have z0 : w3.frozen? ⟨vb, 0, none⟩ = false := by simp [World.frozen?, v3]
    have z3 : w3.frozen? ⟨vb, 3, none⟩ = false := by simp [World.frozen?, v3]
    have d0 := cells_row v3 0 _ rfl
    have d3 := cells_row v3 3 _ rfl
    clear f3
    go_upto_region 22 with fail
    obtain ⟨w2, hw2⟩ : ∃ w2, w2 = (w3.setCell ⟨vb, 0, none⟩ (.int .i64 0)).setCell ⟨vb, 3, none⟩ (.slice none 0 0) := ⟨_, rfl⟩
    rw [← hw2]
    have f2 : Fr (fun k => k = vb) w3 w2 := by rw [hw2]; exact ((Fr.refl _ _).set1 _ _).set1 _ _
    have v2 : w2.heap[vb]? = some (.cells #[.int .i64 0, .float .f64 f, .string ⟨s.toArray⟩, .slice none 0 0] 39 (0, 0)) := by rw [hw2]; exact setCell_row 3 _ (setCell_row 0 _ v3)
    have hsame := vsame_any (fun k => R k ∧ k < w.heap.size) (.mk 0 f s 0 ov) zeroV (.agg #[.int .i64 0, .float .f64 f, .string ⟨s.toArray⟩, .slice none 0 0]) _ w2 (vshows_mk (n := 0) (f := f) (s := s) (by have := HB.out; unfold VB; omega) (.inl rfl)) (zeroV_shows _ _) (by have h := HSZ.out; simp only [szV] at h ⊢; first | exact h | (simp; try omega))
    have HE := Lib.hid (show fitsE (.mk k m ns n of) (.mk N f s c ov) = (false && sameV (.mk 0 f s 0 ov) zeroV) from by have hk := HK0.out; subst hk; rw [fitsE, HDN.out]; simp)
    have d0 := cells_row v2 0 _ rfl
    have d1 := cells_row v2 1 _ rfl
    have d2 := cells_row v2 2 _ rfl
    have d3 := cells_row v2 3 _ rfl
    have F2 : Hid (Fr (fun _ => False) w w2) := Lib.hid ((H1.out.1.trans F3.out (fun _ _ h => h)).trans f2 (fun i hi h => by have := HVBX.out; omega))
    clear hw2 f2 v2
    clear hsame
    go_wp2
    go_ret
    rw [HE.out]
    exact ⟨rfl, F2.out⟩

  have HDN : Hid (decide (0 ≤ N ∧ N ≤ (n : Int) - 1) = true) := Lib.hid (decide_eq_true hN)
  by_cases hc1 : c = 1
  case neg =>
    have HDC : Hid (decide (c = 1) = false) := Lib.hid (decide_eq_false hc1)
    have hc2 : ((c : Int) == 1) = false := by simp; omega
    clear hN hc1
    go_upto_region 20 with fail
    refine wp_region_chain (by kernel_rfl) [some 82, some 83, some 84, some 85, some 86, some 87, some 88, some 89, some 90, some 91, some 92, some 93, some 94, some 95, some 96, some 97, some 98, some 99, some 100, some 101, some 102, some 103, some 104, some 105, some 106, some 5] rfl (by decide) (by intro d hd; simp at hd ⊢; omega)
      [] (fun _ wx => Fr (fun _ => False) w1 wx)
      [.free (.pointer (some ⟨vb, 0, none⟩)), .free (.int .i64 N), .free (.pointer (some ⟨w.heap.size, 3, none⟩)), .free (.slice a' n c'), .free (.int .i64 n), .free (.bool true), .free (.bool true), .free (.pointer (some ⟨vb, 3, none⟩)), .free (.slice va c cap), .free (.int .i64 c), .free (.bool false), .free (.bool false), .free (.bool false), .free undef, .free undef, .free undef, .free undef, .free undef, .free undef, .free undef, .free undef, .free undef, .free undef, .free undef, .free (.bool false), .free (.bool false)]
      (by kernel_rfl) (by kernel_rfl) ?h0B ?stepB ?finB
    case h0B => exact (Fr.refl _ _).drew
    case stepB =>
      intro vals2
      simp only [frOfU, fillU, List.setIfInBounds_toArray, List.set_cons_succ, List.set_cons_zero]
      repeat' (first | exact AllOps.nil | refine AllOps.cons ?_ ?_)
      all_goals
        intro cvs wx hS he hu hlim K hK
        simp only [Act.put, List.setIfInBounds_toArray, List.set_cons_succ, List.set_cons_zero, List.getD_cons_zero, List.getD_cons_succ] at hK
        simp only [List.mem_cons, List.not_mem_nil, or_false, forall_eq_or_imp, forall_eq, Region.binds, forall_const, vmode_gc, Bool.false_eq_true, false_imp_iff, List.getD_cons_zero, List.getD_cons_succ, OpSort.val, Option.some.injEq, forall_eq', reduceCtorEq, implies_true, true_and, and_true] at he
        have HSX := Lib.hid hS
        clear hS hlim hu
      all_goals first | ((try simp only [he] at hK ⊢); go_simp; exact hK) | skip
      all_goals first | (have qt := box_kept H1.out.2.1 HSX.out (fun h => h); have qv := box_kept H1.out.2.2 HSX.out (fun h => h); have k3 := cells_row qt 3 _ rfl; have l0 := cells_row qv 0 _ rfl; have l3 := cells_row qv 3 _ rfl; clear qt qv; (try simp only [he] at hK ⊢); go_simp; exact hK) | skip
      · simp only [he] at hK ⊢
        go_simp
        go_at_call 46
        refine (isIndex_any N n (by omega) wx).mono ?_
        rintro e1 wa ⟨rfl, rfl⟩
        rw [HDN.out]
        exact hK
    case finB =>
    intro vals2 w3 hS hV
    have v25 := hV 25 _ (by decide) rfl
    clear hV
    have f3 : Fr (fun _ => False) w1 w3 := hS
    clear hS
    simp only [frOfU, fillU, List.setIfInBounds_toArray, List.set_cons_succ, List.set_cons_zero]
    simp only [Nat.reduceAdd, v25]
    clear v25
    have F3 := Lib.hid f3
    have v3 := box_kept H1.out.2.2 f3 (fun h => h)
    have z0 : w3.frozen? ⟨vb, 0, none⟩ = false := by simp [World.frozen?, v3]
    have z3 : w3.frozen? ⟨vb, 3, none⟩ = false := by simp [World.frozen?, v3]
    have d0 := cells_row v3 0 _ rfl
    have d3 := cells_row v3 3 _ rfl
    clear f3
    go_upto_region 22 with fail
    obtain ⟨w2, hw2⟩ : ∃ w2, w2 = (w3.setCell ⟨vb, 0, none⟩ (.int .i64 0)).setCell ⟨vb, 3, none⟩ (.slice none 0 0) := ⟨_, rfl⟩
    rw [← hw2]
    have f2 : Fr (fun k => k = vb) w3 w2 := by rw [hw2]; exact ((Fr.refl _ _).set1 _ _).set1 _ _
    have v2 : w2.heap[vb]? = some (.cells #[.int .i64 0, .float .f64 f, .string ⟨s.toArray⟩, .slice none 0 0] 39 (0, 0)) := by rw [hw2]; exact setCell_row 3 _ (setCell_row 0 _ v3)
    have hsame := vsame_any (fun k => R k ∧ k < w.heap.size) (.mk 0 f s 0 ov) zeroV (.agg #[.int .i64 0, .float .f64 f, .string ⟨s.toArray⟩, .slice none 0 0]) _ w2 (vshows_mk (n := 0) (f := f) (s := s) (by have := HB.out; unfold VB; omega) (.inl rfl)) (zeroV_shows _ _) (by have h := HSZ.out; simp only [szV] at h ⊢; first | exact h | (simp; try omega))
    have HE := Lib.hid (show fitsE (.mk k m ns n of) (.mk N f s c ov) = (false && sameV (.mk 0 f s 0 ov) zeroV) from by have hk := HK0.out; subst hk; rw [fitsE, HDN.out, HDC.out]; simp)
    have d0 := cells_row v2 0 _ rfl
    have d1 := cells_row v2 1 _ rfl
    have d2 := cells_row v2 2 _ rfl
    have d3 := cells_row v2 3 _ rfl
    have F2 : Hid (Fr (fun _ => False) w w2) := Lib.hid ((H1.out.1.trans F3.out (fun _ _ h => h)).trans f2 (fun i hi h => by have := HVBX.out; omega))
    clear hw2 f2 v2
    clear hsame
    go_wp2
    go_ret
    rw [HE.out]
    exact ⟨rfl, F2.out⟩

  obtain ⟨x, hx⟩ : ∃ x : Nat, N = (x : Int) := ⟨N.toNat, by omega⟩
  have hxn : x < n := by omega
  have hxi : (x : Int) < (n : Int) := by omega
  have hx0 : (0 : Int) ≤ (x : Int) := by omega
  rcases HKK.out with hz | ⟨hcap, g, off, hg, rfl, hcell⟩
  · omega
  rcases HVV.out with hz | ⟨hvcap, gv, ov', hgv, rfl, hvcell⟩
  · omega
  obtain ⟨x0, x1, x2, x3, y0, y1, y2, y3, hxs⟩ := hcell x hxn
  obtain ⟨s0, s1, s2, s3, r0, r1, r2, r3, hs⟩ := hvcell 0 (by omega)
  obtain ⟨xk, xm, xa, xn, xc, xa', xn', xc', rfl, rfl, rfl, rfl⟩ := hxs.cells
  obtain ⟨zn, zf, zs, za, zc, zcap, es⟩ := hs.lit
  simp only [Value.agg.injEq, Array.mk.injEq, List.cons.injEq, and_true] at es
  obtain ⟨rfl, rfl, rfl, rfl⟩ := es
  simp only [Nat.zero_mul, Nat.add_zero] at r0 r1 r2 r3
  have HY := Lib.hid (And.intro hg (And.intro y0 (And.intro y1 (And.intro y2 y3))))
  have HR := Lib.hid (And.intro hgv (And.intro r0 (And.intro r1 (And.intro r2 r3))))
  have HXS := Lib.hid (And.intro hxs hs)
  have hss0 := hss 0 (by omega)
  have HSS := Lib.hid hss0
  clear hcell hvcell hxs hs y0 y1 y2 y3 r0 r1 r2 r3 hss hN hss0 hcc
  obtain ⟨BB, hBB⟩ : ∃ BB, fitsE (of x) (ov 0) = BB := ⟨_, rfl⟩
  have HBB := Lib.hid hBB
  have HEQ : Hid (fitsE (.mk k m ns n of) (.mk N f s c ov) = (BB && sameV (.mk 0 f s 0 ov) zeroV)) := Lib.hid (by
    have hk := HK0.out; subst hk; rw [fitsE, HDN.out, decide_eq_true hc1]; rw [hx]; simp only [Int.toNat_natCast, hBB]; simp)
  clear hBB
  subst hc1 hx
  clear HKK HVV
  go_upto_region 20 with fail
  refine wp_region_chain (by kernel_rfl) [some 82, some 83, some 84, some 85, some 86, some 87, some 88, some 89, some 90, some 91, some 92, some 93, some 94, some 95, some 96, some 97, some 98, some 99, some 100, some 101, some 102, some 103, some 104, some 105, some 106, some 5] rfl (by decide) (by intro d hd; simp at hd ⊢; omega)
    [23] (fun _ wx => Fr (fun _ => False) w1 wx)
    [.free (.pointer (some ⟨vb, 0, none⟩)), .free (.int .i64 x), .free (.pointer (some ⟨w.heap.size, 3, none⟩)), .free (.slice (some ⟨g, off, none⟩) n c'), .free (.int .i64 n), .free (.bool true), .free (.bool true), .free (.pointer (some ⟨vb, 3, none⟩)), .free (.slice (some ⟨gv, ov', none⟩) 1 cap), .free (.int .i64 1), .free (.bool true), .free (.bool true), .free (.bool true), .free (.pointer (some ⟨w.heap.size, 3, none⟩)), .free (.slice (some ⟨g, off, none⟩) n c'), .free (.pointer (some ⟨vb, 0, none⟩)), .free (.int .i64 x), .free (.pointer (some ⟨g, off + x * 4, none⟩)), .free (.agg #[.int .u8 xk, .int .i64 xm, .slice xa xn xc, .slice xa' xn' xc']), .free (.pointer (some ⟨vb, 3, none⟩)), .free (.slice (some ⟨gv, ov', none⟩) 1 cap), .free (.pointer (some ⟨gv, ov', none⟩)), .free (.agg #[.int .i64 zn, .float .f64 zf, .string zs, .slice za zc zcap]), .link (some (.bool BB)), .free (.bool BB), .free (.bool BB)]
    (by kernel_rfl) (by kernel_rfl) ?h0C ?stepC ?finC
  case h0C => exact (Fr.refl _ _).drew
  case stepC =>
    intro vals2
    simp only [frOfU, fillU, List.setIfInBounds_toArray, List.set_cons_succ, List.set_cons_zero]
    repeat' (first | exact AllOps.nil | refine AllOps.cons ?_ ?_)
    all_goals
      intro cvs wx hS he hu hlim K hK
      simp only [Act.put, List.setIfInBounds_toArray, List.set_cons_succ, List.set_cons_zero, List.getD_cons_zero, List.getD_cons_succ] at hK
      simp only [List.mem_cons, List.not_mem_nil, or_false, forall_eq_or_imp, forall_eq, Region.binds, forall_const, vmode_gc, Bool.false_eq_true, false_imp_iff, List.getD_cons_zero, List.getD_cons_succ, OpSort.val, Option.some.injEq, forall_eq', reduceCtorEq, implies_true, true_and, and_true] at he
      have HSX := Lib.hid hS
      clear hS hlim hu
    all_goals first | ((try simp only [he] at hK ⊢); go_simp; exact hK) | skip
    all_goals first | (have qt := box_kept H1.out.2.1 HSX.out (fun h => h); have qv := box_kept H1.out.2.2 HSX.out (fun h => h); have k3 := cells_row qt 3 _ rfl; have l0 := cells_row qv 0 _ rfl; have l3 := cells_row qv 3 _ rfl; clear qt qv; (try simp only [he] at hK ⊢); go_simp; exact hK) | skip
    · simp only [he] at hK ⊢
      go_simp
      go_at_call 46
      refine (isIndex_any x n (by omega) wx).mono ?_
      rintro e1 wa ⟨rfl, rfl⟩
      rw [HDN.out]
      exact hK
    · have e0 := cell_fr (R := fun k => R k ∧ k < w.heap.size) HSX.out (fun _ _ h => h) HY.out.1 HY.out.2.1
      have e1 := cell_fr (R := fun k => R k ∧ k < w.heap.size) HSX.out (fun _ _ h => h) HY.out.1 HY.out.2.2.1
      have e2 := cell_fr (R := fun k => R k ∧ k < w.heap.size) HSX.out (fun _ _ h => h) HY.out.1 HY.out.2.2.2.1
      have e3 := cell_fr (R := fun k => R k ∧ k < w.heap.size) HSX.out (fun _ _ h => h) HY.out.1 HY.out.2.2.2.2
      simp only [he] at hK ⊢
      go_simp
      exact hK
    · have e0 := cell_fr (R := fun k => R k ∧ k < w.heap.size) HSX.out (fun _ _ h => h) HR.out.1 HR.out.2.1
      have e1 := cell_fr (R := fun k => R k ∧ k < w.heap.size) HSX.out (fun _ _ h => h) HR.out.1 HR.out.2.2.1
      have e2 := cell_fr (R := fun k => R k ∧ k < w.heap.size) HSX.out (fun _ _ h => h) HR.out.1 HR.out.2.2.2.1
      have e3 := cell_fr (R := fun k => R k ∧ k < w.heap.size) HSX.out (fun _ _ h => h) HR.out.1 HR.out.2.2.2.2
      simp only [he] at hK ⊢
      go_simp
      exact hK
    · simp only [he] at hK ⊢
      go_simp
      go_at_call 25
      refine (ih x (fun k => R k ∧ k < w.heap.size) _ _ wx (ov 0) (Shows.fr HSX.out (fun _ _ h => h) _ _ HXS.out.1) (VShows.fr HSX.out (fun _ _ h => h) _ _ HXS.out.2) HSS.out).mono ?_
      rintro e1 wa ⟨rfl, fa⟩
      exact hK _ _ (fun _ h => by cases h; rw [HBB.out]) (HSX.out.trans fa (fun _ _ h => h))
  case finC =>
  intro vals2 w3 hS hV
  have v25 := hV 25 _ (by decide) rfl
  clear hV
  have f3 : Fr (fun _ => False) w1 w3 := hS
  clear hS
  simp only [frOfU, fillU, List.setIfInBounds_toArray, List.set_cons_succ, List.set_cons_zero]
  simp only [Nat.reduceAdd, v25]
  clear v25
  have F3 := Lib.hid f3
  have v3 := box_kept H1.out.2.2 f3 (fun h => h)
  have z0 : w3.frozen? ⟨vb, 0, none⟩ = false := by simp [World.frozen?, v3]
  have z3 : w3.frozen? ⟨vb, 3, none⟩ = false := by simp [World.frozen?, v3]
  have d0 := cells_row v3 0 _ rfl
  have d3 := cells_row v3 3 _ rfl
  clear f3
  go_upto_region 22 with fail
  obtain ⟨w2, hw2⟩ : ∃ w2, w2 = (w3.setCell ⟨vb, 0, none⟩ (.int .i64 0)).setCell ⟨vb, 3, none⟩ (.slice none 0 0) := ⟨_, rfl⟩
  rw [← hw2]
  have f2 : Fr (fun k => k = vb) w3 w2 := by rw [hw2]; exact ((Fr.refl _ _).set1 _ _).set1 _ _
  have v2 : w2.heap[vb]? = some (.cells #[.int .i64 0, .float .f64 f, .string ⟨s.toArray⟩, .slice none 0 0] 39 (0, 0)) := by rw [hw2]; exact setCell_row 3 _ (setCell_row 0 _ v3)
  have hsame := vsame_any (fun k => R k ∧ k < w.heap.size) (.mk 0 f s 0 ov) zeroV (.agg #[.int .i64 0, .float .f64 f, .string ⟨s.toArray⟩, .slice none 0 0]) _ w2 (vshows_mk (n := 0) (f := f) (s := s) (by have := HB.out; unfold VB; omega) (.inl rfl)) (zeroV_shows _ _) (by have h := HSZ.out; simp only [szV] at h ⊢; first | exact h | (simp; try omega))
  have HE := Lib.hid (show fitsE (.mk k m ns n of) (.mk x f s 1 ov) = (BB && sameV (.mk 0 f s 0 ov) zeroV) from HEQ.out)
  have d0 := cells_row v2 0 _ rfl
  have d1 := cells_row v2 1 _ rfl
  have d2 := cells_row v2 2 _ rfl
  have d3 := cells_row v2 3 _ rfl
  have F2 : Hid (Fr (fun _ => False) w w2) := Lib.hid ((H1.out.1.trans F3.out (fun _ _ h => h)).trans f2 (fun i hi h => by have := HVBX.out; omega))
  clear hw2 f2 v2
  cases hBB : BB with
  | false =>
    clear hsame
    rw [hBB] at HE
    clear hBB
    go_wp2
    go_ret
    rw [HE.out]
    exact ⟨rfl, F2.out⟩
  | true =>
    rw [hBB] at HE
    clear hBB
    go_wp2_with fail
    refine hsame.mono ?_
    rintro e w3 ⟨rfl, f3⟩
    have F3 := Lib.hid f3
    clear f3 hsame
    go_wp2
    go_ret
    rw [HE.out]
    exact ⟨rfl, F2.out.trans F3.out (fun _ _ h => h)⟩

set_option maxRecDepth 100000 in
theorem fit_rest (k : Nat) (m : Int) (ns : List Txt) (n : Nat) (of : Nat → KT) (hk0 : 9 ≤ k) : FitsAt (.mk k m ns n of) := by
  intro R v vv w T hsh hvs hsz
  obtain ⟨N, f, s, c, ov, va, cap, rfl, rfl, hVB, hVK⟩ := vshows_open hvs
  obtain ⟨vn, vo, rfl, hk, hn, ht, ho⟩ := hsh
  obtain ⟨na, nc, rfl, _⟩ := ht.shape
  obtain ⟨a', c', rfl⟩ : ∃ a' c', vo = .slice a' n c' := by
    rcases ho with ⟨rfl, a', c', rfl⟩ | ⟨g, off, cap, hg, rfl, hle, hc⟩
    · exact ⟨a', c', rfl⟩
    · exact ⟨_, cap, rfl⟩
  have HE : Hid (fitsE (.mk k m ns n of) (.mk N f s c ov) = false) := Lib.hid (by
    rw [fitsE, if_neg (by omega), if_neg (by omega), if_neg (by omega), if_neg (by omega), if_neg (by omega), if_neg (by omega), if_neg (by omega), if_neg (by omega), if_neg (by omega)])
  unfold sv
  obtain ⟨kz, hkz⟩ : ∃ kz : Int, (k : Int) = kz := ⟨_, rfl⟩
  rw [hkz]
  have e0 : (kz == 0) = false := by simp; omega
  have e1 : (kz == 1) = false := by simp; omega
  have e2 : (kz == 2) = false := by simp; omega
  have e3 : (kz == 3) = false := by simp; omega
  have e4 : (kz == 4) = false := by simp; omega
  have e7 : (kz == 7) = false := by simp; omega
  have e5 : (kz == 5) = false := by simp; omega
  have e6 : (kz == 6) = false := by simp; omega
  have e8 : (kz == 8) = false := by simp; omega
  clear hVB hVK ho hk hn ht hk0 hkz hsz hvs
  go_enter Tryz.func25, Tryz.ntmps25
  go_wp2
  go_ret
  rw [HE.out]
  exact ⟨rfl, ((Fr.refl _ _).alloc _).alloc _⟩

theorem fits_any (t : KT) : FitsAt t := by
  induction t with
  | nil => exact fun _ _ _ _ _ h => h.elim
  | mk k m ns n of ih =>
    by_cases h9 : 9 ≤ k
    · exact fit_rest k m ns n of h9
    · rcases (by omega : k = 0 ∨ k = 1 ∨ k = 2 ∨ k = 3 ∨ k = 4 ∨ k = 5 ∨ k = 6 ∨ k = 7 ∨ k = 8) with h | h | h | h | h | h | h | h | h
      · exact fit_k0 k m ns n of h
      · exact fit_k1 k m ns n of h
      · exact fit_k2 k m ns n of h
      · exact fit_k3 k m ns n of h
      · exact fit_k4 k m ns n of h
      · exact fit_k5 k m ns n of ih h
      · exact fit_k6 k m ns n of ih h
      · exact fit_k7 k m ns n of h
      · exact fit_k8 k m ns n of ih h

/-- Is it a value of the type? -/
def isVal (t : KT) (T : VT) : Bool := hasE t 20 && fitsE t T

/-- The check's answer. -/
def valE (t : KT) (T : VT) : Nat := if isVal t T then 0 else 17

set_option maxRecDepth 100000 in
theorem vcheck_any (R : Nat → Prop) (t : KT) (T : VT) (v vv : Value) (w : World) (hsh : Shows R w t v) (hvs : VShows R w T vv) (hsz : szV T ≤ 100000) :
    Calls Tryz.prog 10 #[v, vv] w fun e w' => e = .returned (.int .i64 (valE t T : Nat)) ∧ Fr (fun _ => False) w w' := by
  obtain ⟨k, m, a, n, c, a', n', c', rfl⟩ := hsh.four
  obtain ⟨N, f, s, va, vc, cap, rfl⟩ := hvs.lit
  obtain ⟨w1, hw1⟩ : ∃ w1, w1 = (w.alloc (.cells #[.int .u8 k, .int .i64 m, .slice a n c, .slice a' n' c'] 34)).alloc (.cells #[.int .i64 N, .float .f64 f, .string s, .slice va vc cap] 39) := ⟨_, rfl⟩
  have f1 : Fr (fun _ => False) w w1 := by rw [hw1]; exact ((Fr.refl _ _).alloc _).alloc _
  have q1 : w1.heap[w.heap.size]? = some (.cells #[.int .u8 k, .int .i64 m, .slice a n c, .slice a' n' c'] 34 (0, 0)) := by rw [hw1]; exact heap_alloc_first _ _ _
  have v1 : w1.heap[w.heap.size + 1]? = some (.cells #[.int .i64 N, .float .f64 f, .string s, .slice va vc cap] 39 (0, 0)) := by rw [hw1]; exact heap_alloc_two _ _ _
  have H0 := Lib.hid (And.intro hsh hvs)
  have HSZ := Lib.hid hsz
  have hhas := has_any t R _ w1 20 20 rfl (by omega) (Shows.fr f1 (fun _ _ h => h) _ _ hsh)
  have H1 := Lib.hid (And.intro f1 (And.intro q1 v1))
  obtain ⟨B1, hB1⟩ : ∃ B1, hasE t 20 = B1 := ⟨_, rfl⟩
  obtain ⟨B2, hB2⟩ : ∃ B2, fitsE t T = B2 := ⟨_, rfl⟩
  rw [hB1] at hhas
  have HE : Hid (valE t T = if (B1 && B2) then 0 else 17) := Lib.hid (by unfold valE isVal; rw [hB1, hB2])
  have HB2 := Lib.hid hB2
  clear hsh hvs hsz hB1 hB2 f1 q1 v1
  go_enter Tryz.func10, Tryz.ntmps10
  go_upto_region 1 with fail
  rw [← hw1]
  clear hw1
  obtain ⟨c0, c1, c2, c3⟩ := cell_of_four H1.out.2.1
  obtain ⟨d0, d1, d2, d3⟩ := cell_of_four H1.out.2.2
  cases B1 with
  | false =>
    go_wp2_with fail
    refine hhas.mono ?_
    rintro e w2 ⟨rfl, f2⟩
    have F2 := Lib.hid f2
    clear f2 hhas c0 c1 c2 c3 d0 d1 d2 d3
    go_wp2
    go_ret
    rw [HE.out]
    exact ⟨rfl, H1.out.1.trans F2.out (fun _ _ h => h)⟩
  | true =>
    go_wp2_with fail
    refine hhas.mono ?_
    rintro e w2 ⟨rfl, f2⟩
    have F2 := Lib.hid (H1.out.1.trans f2 (fun _ _ h => h))
    obtain ⟨i0, i1, i2, i3⟩ := cell_of_four (box_kept H1.out.2.1 f2 (fun h => h))
    obtain ⟨j0, j1, j2, j3⟩ := cell_of_four (box_kept H1.out.2.2 f2 (fun h => h))
    have hfit := fits_any t R _ _ w2 T (Shows.fr F2.out (fun _ _ h => h) _ _ H0.out.1) (VShows.fr F2.out (fun _ _ h => h) _ _ H0.out.2) HSZ.out
    rw [HB2.out] at hfit
    clear f2 hhas c0 c1 c2 c3 d0 d1 d2 d3
    cases B2 with
    | false =>
      go_wp2_with fail
      refine hfit.mono ?_
      rintro e w3 ⟨rfl, f3⟩
      have F3 := Lib.hid f3
      clear f3 hfit i0 i1 i2 i3 j0 j1 j2 j3
      go_wp2
      go_ret
      rw [HE.out]
      exact ⟨rfl, F2.out.trans F3.out (fun _ _ h => h)⟩
    | true =>
      go_wp2_with fail
      refine hfit.mono ?_
      rintro e w3 ⟨rfl, f3⟩
      have F3 := Lib.hid f3
      clear f3 hfit i0 i1 i2 i3 j0 j1 j2 j3
      go_wp2
      go_ret
      rw [HE.out]
      exact ⟨rfl, F2.out.trans F3.out (fun _ _ h => h)⟩
end
end Go.Proofs.YtplipjijaaejlaaGreat
