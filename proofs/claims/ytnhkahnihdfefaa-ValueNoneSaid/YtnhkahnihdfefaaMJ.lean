/-
  The law ValueSame, walked.
-/
import Derived.Test.YtnhkahnihdfefaaMI
import Derived.Test.YtnhkahnihdfefaaMH
import Derived.Test.YtnhkahnihdfefaaMC
import Derived.Deep.Cut
import Derived.Deep.CutRange
namespace Go.Proofs.Ytnhkahnihdfefaa
open Go.RowKit
attribute [local go_sem] run_store_float
set_option linter.unusedVariables false
set_option linter.unusedSimpArgs false

/-- A slice of numbers that came in. -/
theorem nums_of {w : World} {v : Value} {l : List Int} (h : SeesL w v (l.map (Value.int .i64))) (hb : ∀ n ∈ l, (Lit.int .i64 n).wf = true) (hl : l.length ≤ 1000) : Nums (fun _ => True) w l v := by
  refine ⟨hl, fun x hx => ⟨(bounds_i64 (hb x hx)).1, (bounds_i64 (hb x hx)).2⟩, ?_⟩
  rcases h with ⟨h, a, c, rfl⟩ | ⟨g, off, cap, rfl, hle, hc⟩
  · left
    have : l = [] := by cases l with | nil => rfl | cons _ _ => simp at h
    exact ⟨this, a, c, rfl⟩
  · right
    refine ⟨g, off, cap, trivial, by simp, by simpa using hle, fun j x hj => hc j _ ?_⟩
    rw [List.getElem?_map, hj]; rfl

theorem seesL_slice {w : World} {v : Value} {xs : List Value} (h : SeesL w v xs) : ∃ a c, v = .slice a xs.length c := by
  rcases h with ⟨rfl, a, c, rfl⟩ | ⟨g, off, cap, rfl, _, _⟩
  · exact ⟨a, c, rfl⟩
  · exact ⟨_, cap, rfl⟩

set_option maxRecDepth 100000 in
set_option maxHeartbeats 32000000 in
theorem valuesame_walk (t : KN) (vn lv pv : Value) (l : List Int) (path : List UInt8) (f g e h : Int) (hf0 : 0 ≤ f) (hf1 : f ≤ 18446744073709551615) (hg0 : 0 ≤ g) (hg1 : g ≤ 18446744073709551615) (he0 : 0 ≤ e) (he1 : e ≤ 255) (hh0 : 0 ≤ h) (hh1 : h ≤ 255)
    (w : World) (hn : NShows w t vn) (hl : SeesL w lv (l.map (Value.int .i64))) (hlw : ∀ n ∈ l, (Lit.int .i64 n).wf = true) (hp : Sees w pv path) :
    Calls Try.prog 5 #[vn, lv, pv, .int .u64 f, .int .u64 g, .int .u8 e, .int .u8 h] w fun e w' => e = .returned (.bool true) ∧ Fr (fun _ => False) w w' := by
  obtain ⟨k, n, a, c, cap, rfl⟩ := hn.cells
  obtain ⟨la, lc, rfl⟩ := seesL_slice hl
  obtain ⟨pa, pc, rfl, _⟩ := hp.shape
  simp only [List.length_map] at hl ⊢
  have HN := Lib.hid hn
  have HL := Lib.hid (And.intro hl hlw)
  have HP := Lib.hid hp
  obtain ⟨ll, hll⟩ : ∃ ll, l.length = ll := ⟨_, rfl⟩
  obtain ⟨pl, hpl⟩ : ∃ pl, path.length = pl := ⟨_, rfl⟩
  rw [hll, hpl]
  have HLL := Lib.hid (And.intro hll hpl)
  clear hn hl hlw hp hll hpl
  obtain ⟨w1, hw1⟩ : ∃ w1, w1 = w.alloc (.cells #[.int .u8 k, .int .u8 n, .slice a c cap] 24) := ⟨_, rfl⟩
  have f1 : Fr (fun _ => False) w w1 := by rw [hw1]; exact (Fr.refl _ _).alloc _
  have q1 : w1.heap[w.heap.size]? = some (.cells #[.int .u8 k, .int .u8 n, .slice a c cap] 24 (0, 0)) := by rw [hw1]; exact heap_alloc_new _ _
  have H1 := Lib.hid (And.intro f1 q1)
  go_enter Try.func5, Try.ntmps5
  go_upto_region 1 with fail
  rw [← hw1]
  clear hw1 f1 q1
  go_wp2_with fail
  refine (vawake_any _).mono ?_
  rintro er w2 ⟨rfl, f2⟩
  have q2 := box_kept H1.out.2 f2 (fun h => h)
  have c0 := cells_row q2 0 _ rfl
  have c1 := cells_row q2 1 _ rfl
  have c2 := cells_row q2 2 _ rfl
  have H2 := Lib.hid (And.intro (H1.out.1.trans f2 (fun _ _ h => h)) q2)
  clear f2 q2
  have hli := light_any t _ w2 4 4 rfl (by omega) (NShows.fr H2.out.1 _ _ HN.out)
  cases hB : lightE t 4 with
  | false =>
    rw [hB] at hli
    clear hB
    go_wp2_with fail
    refine hli.mono ?_
    rintro er w3 ⟨rfl, f3⟩
    have F3 := Lib.hid f3
    clear f3 hli c0 c1 c2
    go_wp2
    go_ret
    exact ⟨rfl, H2.out.1.trans F3.out (fun _ _ h => h)⟩
  | true =>
    rw [hB] at hli
    clear hB
    go_wp2_with fail
    refine hli.mono ?_
    rintro er w3 ⟨rfl, f3⟩
    have H3 := Lib.hid (And.intro (H2.out.1.trans f3 (fun _ _ h => h)) (box_kept H2.out.2 f3 (fun h => h)))
    clear f3 hli c0 c1 c2
    by_cases h40 : 40 < ll
    · have b40 : (40 : Int) < (ll : Int) := by omega
      clear h40
      go_wp2
      go_ret
      exact ⟨rfl, H3.out.1⟩
    have b40 : ¬ (40 : Int) < (ll : Int) := by omega
    by_cases h10 : 10 < pl
    · have b10 : (10 : Int) < (pl : Int) := by omega
      clear h40 h10
      go_wp2
      go_ret
      exact ⟨rfl, H3.out.1⟩
    have b10 : ¬ (10 : Int) < (pl : Int) := by omega
    have c0 := cells_row H3.out.2 0 _ rfl
    have c1 := cells_row H3.out.2 1 _ rfl
    have c2 := cells_row H3.out.2 2 _ rfl
    have hty := vtype_any t _ w3 (NShows.fr H3.out.1 _ _ HN.out)
    have HM := Lib.hid (And.intro h40 h10)
    clear h40 h10
    go_wp2_with fail
    refine hty.mono ?_
    rintro er w4 ⟨tv, rfl, hs4, f4⟩
    have hnum := nums_of HL.out.1 HL.out.2 (by have := HLL.out.1; have := HM.out.1; omega)
    rw [HLL.out.1] at hnum
    have F4 := Lib.hid (H3.out.1.trans f4 (fun _ _ h => h))
    have hbu := Build_any (fun _ => True) l (typeE [] t 4) tv (.slice la ll lc) w4 (Shows.mono (fun _ _ _ => trivial) _ _ hs4) (hnum.fr F4.out (fun _ _ h => h)) (by have := cost_typeE [] t 4; omega)
    clear hty f4 hs4 hnum c0 c1 c2
    go_wp2_with fail
    refine hbu.mono ?_
    rintro er w5 ⟨v', rfl, hv5, f5⟩
    obtain ⟨T, hT⟩ : ∃ T, BuildE l (typeE [] t 4) = T := ⟨_, rfl⟩
    rw [hT] at hv5
    have HSZ : Hid (szV T ≤ 256) := Lib.hid (by
      rw [← hT]
      unfold BuildE
      by_cases hB : (surveyE (typeE [] t 4) 1000 0).1 = true
      · rw [if_pos hB]
        exact Nat.le_trans (build_le l _ (survey_good _ _ _ hB) (0, 0)).2 (cost_typeE [] t 4)
      · rw [if_neg hB]
        simp [zeroV, szV])
    have HREFL : Hid (sameV T T = true) := Lib.hid (sameV_refl _ _ _ _ hv5)
    obtain ⟨zn, zf, zs, za, zc, zcap, rfl⟩ := hv5.lit
    obtain ⟨w6, hw6⟩ : ∃ w6, w6 = w5.alloc (.cells #[.int .i64 zn, .float .f64 zf, .string zs, .slice za zc zcap] 37) := ⟨_, rfl⟩
    have f6 : Fr (fun _ => False) w5 w6 := by rw [hw6]; exact (Fr.refl _ _).alloc _
    have q6 : w6.heap[w5.heap.size]? = some (.cells #[.int .i64 zn, .float .f64 zf, .string zs, .slice za zc zcap] 37 (0, 0)) := by rw [hw6]; exact heap_alloc_new _ _
    have H6 := Lib.hid (And.intro ((F4.out.trans f5 (fun _ _ h => h)).trans f6 (fun _ _ h => h)) (And.intro q6 (VShows.fr f6 (fun _ _ h => h) _ _ (VShows.mono (S := fun k => k < w5.heap.size) (fun k hk _ => hk) _ _ hv5))))
    clear hT hbu f5 hv5 f6 q6
    go_upto_region 6 with fail
    rw [← hw6]
    clear hw6
    obtain ⟨vb, hvb⟩ : ∃ vb, w5.heap.size = vb := ⟨_, rfl⟩
    rw [hvb] at H6 ⊢
    clear hvb
    go_wp2_with fail
    refine (float_any f e hf0 hf1 he0 he1 _).mono ?_
    rintro er w6' ⟨fa, hfa, rfl, rfl⟩
    go_wp2_with fail
    refine (float_any g h hg0 hg1 hh0 hh1 _).mono ?_
    rintro er w6' ⟨fb, hfb, rfl, rfl⟩
    have hvl : vb < w6.heap.size := lt_of_block H6.out.2.1
    have HFAB := Lib.hid (And.intro hfa hfb)
    have hpl : path.length ≤ 1000 := by have := HLL.out.2; have := HM.out.2; omega
    have HPL := Lib.hid hpl
    have HTN := Lib.hid (fun (b : Nat) (hb : b < 18446744073709551616) (wx : World) (fx : Fr (fun _ => False) w6 wx) => turn_all 1 (by omega) (turn_float 1 (by omega) rfl) T (fun k => k < w6.heap.size) (.agg #[.int .i64 zn, .float .f64 zf, .string zs, .slice za zc zcap]) (.slice pa path.length pc) wx path 0 b [] (VShows.fr fx (fun _ _ h => h) _ _ (VShows.mono (fun k _ hk => by omega) _ _ H6.out.2.2)) (HP.out.fr (H6.out.1.trans fx (fun _ _ h => h)) (fun _ _ h => h)) hpl (by omega) (by omega) hb (by simp) (by have := HSZ.out; omega))
    clear hfa hfb hpl
    go_upto_region 7 with fail
    refine wp_region_links (by kernel_rfl) [some 46, some 47, some 48, some 49, some 50, some 51, some 52, some 53, some 18, some 19, none, none] rfl (by decide) (by intro d hd; simp at hd ⊢; omega)
      (fun st wx => VTwoS w6 (turnE 1 0 fa [] T path) (turnE 1 0 fb [] T path) st wx)
      [.free (.agg #[.int .i64 zn, .float .f64 zf, .string zs, .slice za zc zcap]), .free (.slice pa pl pc), .free (.float .f64 fa), .link none, .free (.agg #[.int .i64 zn, .float .f64 zf, .string zs, .slice za zc zcap]), .free (.slice pa pl pc), .free (.float .f64 fb), .link none, .link none, .link none, .link none, .link none]
      (by kernel_rfl) ?h0 ?step ?fin
    case h0 => exact VPhA.two ⟨(Fr.refl _ _).drew, fun v h => (by cases h), fun v h => (by cases h), fun v h => (by cases h), fun v h => (by cases h), fun v h => (by cases h)⟩ rfl rfl
    case step =>
      intro vals
      simp only [frOfU, fillU, List.setIfInBounds_toArray, List.set_cons_succ, List.set_cons_zero]
      repeat' (first | exact AllOps.nil | refine AllOps.cons ?_ ?_)
      all_goals
        intro st wx hS he hu hn K hK
        simp only [Act.put, List.setIfInBounds_toArray, List.set_cons_succ, List.set_cons_zero, List.getD_cons_zero, List.getD_cons_succ] at hK
        simp only [List.mem_cons, List.not_mem_nil, or_false, forall_eq_or_imp, forall_eq, Region.binds, forall_const, vmode_gc, Bool.false_eq_true, false_imp_iff, List.getD_cons_zero, List.getD_cons_succ, OpSort.val, OpSort.isLink, Option.some.injEq, forall_eq', reduceCtorEq, implies_true, true_and, and_true] at he
        obtain ⟨c0, c1, c2, c3⟩ := cell_of_four (box_kept H6.out.2.1 hS.fr (fun h => h))
        have HSX := Lib.hid hS
        clear hS
      all_goals first | (clear hu hn; (try simp only [he] at hK ⊢); go_simp; exact hK) | skip
      · have h10 := (hu 10 (by simp) (by kernel_rfl)).2
        have h11 := (hu 11 (by simp) (by kernel_rfl)).2
        have ha := Lib.hid (HSX.out.a h10 h11)
        clear hu hn
        simp only [he] at hK ⊢
        go_simp
        go_at_call 19
        have ht := HTN.out fa HFAB.out.1 wx ha.out.fr
        rw [HLL.out.2] at ht
        refine ht.mono ?_
        rintro q1 wa ⟨v', rfl, ht, fa⟩
        exact hK _ _ (fun _ h => by cases h) (VPhA.two (ha.out.call3 fa ht) h10 h11)
      · have h10 := (hu 10 (by simp) (by kernel_rfl)).2
        have h11 := (hu 11 (by simp) (by kernel_rfl)).2
        have ha := Lib.hid (HSX.out.a h10 h11)
        clear hu hn
        simp only [he] at hK ⊢
        go_simp
        go_at_call 19
        have ht := HTN.out fb HFAB.out.2 wx ha.out.fr
        rw [HLL.out.2] at ht
        refine ht.mono ?_
        rintro q1 wa ⟨v', rfl, ht, fa⟩
        exact hK _ _ (fun _ h => by cases h) (VPhA.two (ha.out.call7 fa ht) h10 h11)
      · have h10 := (hu 10 (by simp) (by kernel_rfl)).2
        have h11 := (hu 11 (by simp) (by kernel_rfl)).2
        have ha := Lib.hid (HSX.out.a h10 h11)
        clear hu hn
        go_simp
        exact hK _ _ (fun _ h => by cases h) (VPhA.two ha.out.alloc8 h10 h11)
      · have h10 := (hu 10 (by simp) (by kernel_rfl)).2
        have h11 := (hu 11 (by simp) (by kernel_rfl)).2
        have ha := Lib.hid (HSX.out.a h10 h11)
        clear hu hn
        go_simp
        exact hK _ _ (fun _ h => by cases h) (VPhA.two ha.out.alloc9 h10 h11)
      · have h11 := (hu 11 (by simp) (by kernel_rfl)).2
        have ha := Lib.hid (HSX.out.a hn h11)
        obtain ⟨s8, s3, s7, -, -, -, -, -, -, -, -, -, s9⟩ := he
        obtain ⟨g8, e8, hg8, hc8⟩ := ha.out.p8 _ s8
        obtain ⟨g9, e9, hg9, hc9⟩ := ha.out.p9 _ s9
        obtain ⟨an, af, ax, aa, ac, acap, e3⟩ := (ha.out.t3 _ s3).lit
        have HH := Lib.hid (And.intro s3 (And.intro s7 (And.intro (e8 ▸ s8) (And.intro (e9 ▸ s9) (And.intro e3 (And.intro hc8 (And.intro hg8 h11)))))))
        have z0 : wx.frozen? ⟨g8, 0, none⟩ = false := by simp [World.frozen?, hc8]
        have z1 : wx.frozen? ⟨g8, 1, none⟩ = false := by simp [World.frozen?, hc8]
        have z2 : wx.frozen? ⟨g8, 2, none⟩ = false := by simp [World.frozen?, hc8]
        have z3 : wx.frozen? ⟨g8, 3, none⟩ = false := by simp [World.frozen?, hc8]
        have d0 := cells_row hc8 0 _ rfl
        have d1 := cells_row hc8 1 _ rfl
        have d2 := cells_row hc8 2 _ rfl
        have d3 := cells_row hc8 3 _ rfl
        simp only [zero4, List.getElem_toArray, List.getElem_cons_succ, List.getElem_cons_zero] at d0 d1 d2 d3
        unfold vptr at e8
        clear hu hn hc8 hc9 s3 s7 s8 s9 e9 c0 c1 c2 c3
        simp only [e8, e3] at hK ⊢
        go_simp
        exact hK undef _ (fun _ h => by cases h) (VPhA.store10 ha.out HH.out.1 HH.out.2.1 HH.out.2.2.1 HH.out.2.2.2.1 HH.out.2.2.2.2.2.2.2 HH.out.2.2.2.2.1 (store_four HH.out.2.2.2.2.2.1) (fr_four _ _ _ _ (Fr.refl _ _) (fun _ => rfl)))
      · obtain ⟨s9, s7, s10, -⟩ := he
        have hb : VPhB w6 (turnE 1 0 fa [] T path) (turnE 1 0 fb [] T path) st wx := by
          have h := HSX.out
          unfold VTwoS at h
          rw [s10, show st 11 = none from hn] at h
          exact h
        have HB0 := Lib.hid hb
        obtain ⟨g8, g9, v7, _, s9', s7', _, hne, hg8, hg9, _, hc9, ht⟩ := hb
        obtain ⟨an, af, ax, aa, ac, acap, e1⟩ := ht.lit
        have e9 : vals 9 = vptr g9 := Option.some.inj (s9.symm.trans s9')
        have e7 : vals 7 = v7 := Option.some.inj (s7.symm.trans s7')
        have HH := Lib.hid (And.intro s7' (And.intro s9' (And.intro e1 (And.intro hc9 hg9))))
        have z0 : wx.frozen? ⟨g9, 0, none⟩ = false := by simp [World.frozen?, hc9]
        have z1 : wx.frozen? ⟨g9, 1, none⟩ = false := by simp [World.frozen?, hc9]
        have z2 : wx.frozen? ⟨g9, 2, none⟩ = false := by simp [World.frozen?, hc9]
        have z3 : wx.frozen? ⟨g9, 3, none⟩ = false := by simp [World.frozen?, hc9]
        have d0 := cells_row hc9 0 _ rfl
        have d1 := cells_row hc9 1 _ rfl
        have d2 := cells_row hc9 2 _ rfl
        have d3 := cells_row hc9 3 _ rfl
        simp only [zero4, List.getElem_toArray, List.getElem_cons_succ, List.getElem_cons_zero] at d0 d1 d2 d3
        rw [e1] at e7
        unfold vptr at e9
        clear hu hn hc9 s7 s9 s10 s7' s9' ht e1 c0 c1 c2 c3
        simp only [e9, e7] at hK ⊢
        go_simp
        exact hK undef _ (fun _ h => by cases h) (VPhB.store11 HB0.out HH.out.1 HH.out.2.1 HH.out.2.2.1 (store_four HH.out.2.2.2.1) (fr_four _ _ _ _ (Fr.refl _ _) (fun _ => rfl)))
    case fin =>
      intro vals w8 hS hV
      have h2 : ∃ g8 g9, some (vals 8) = some (vptr g8) ∧ some (vals 9) = some (vptr g9) ∧ VTwoIn w6 (turnE 1 0 fa [] T path) (turnE 1 0 fb [] T path) g8 g9 w8 := hS
      obtain ⟨g8, g9, e8, e9, htw⟩ := h2
      have x8 := Option.some.inj e8
      have x9 := Option.some.inj e9
      have HTW := Lib.hid htw
      clear hS hV htw e8 e9
      unfold vptr at x8 x9
      simp only [frOfU, fillU, List.setIfInBounds_toArray, List.set_cons_succ, List.set_cons_zero]
      simp only [Nat.reduceAdd, x8, x9]
      clear x8 x9
      obtain ⟨wo, rfl⟩ : ∃ wo : World, wo = w8 := ⟨_, rfl⟩
      obtain ⟨sm, hsm⟩ : ∃ sm, decide (Fl.canon fa = Fl.canon fb) = sm := ⟨_, rfl⟩
      have HSM := Lib.hid hsm
      have hway := edge_way fa fb HFAB.out.1 HFAB.out.2
      rw [hsm] at hway
      clear hsm
      go_upto_region 8 with fail
      go_cut [20] from 54 to 77 (fun s20 wx => s20 = .bool sm ∧ Hid (wx = wo))
      case first =>
        cases hway with
        | nans h1 h2 =>
          go_wp2
          go_meet
          case rel => exact ⟨rfl, Lib.hid rfl⟩
        | one h1 h2 h3 =>
          go_wp2
          go_meet
          case rel => exact ⟨rfl, Lib.hid rfl⟩
        | other h1 h3 =>
          go_wp2
          go_meet
          case rel => exact ⟨rfl, Lib.hid rfl⟩
        | equal h1 h3 h4 =>
          go_wp2
          go_meet
          case rel => exact ⟨rfl, Lib.hid rfl⟩
        | zeros u v _ h1 h3 h4 h5 h6 h7 =>
          go_wp2
          go_meet
          case rel => exact ⟨rfl, Lib.hid rfl⟩
      case rest =>
        obtain ⟨rfl, hwc⟩ := hcut
        obtain rfl := hwc.out
        obtain ⟨fo, hne, hg8, hg9, ⟨cs8, hc8, hx8⟩, ⟨cs9, hc9, hx9⟩⟩ := HTW.out
        obtain ⟨an, af, ax, aa, ac, acap, e8⟩ := hx8.lit
        cases e8
        obtain ⟨bn, bf, bx, ba, bc, bcap, e9⟩ := hx9.lit
        cases e9
        have hs1 := vsame_any _ _ _ _ _ _ hx8 hx9 (by rw [turn_sz]; have := HSZ.out; omega)
        rw [turn_same _ _ _ _ _ _ _ _ HREFL.out, HSM.out] at hs1
        obtain ⟨c0, c1, c2, c3⟩ := cell_of_four hc8
        obtain ⟨d0, d1, d2, d3⟩ := cell_of_four hc9
        have H8 := Lib.hid (And.intro (H6.out.1.trans fo (fun _ _ h => h)) (And.intro hc8 hx8))
        clear fo hx9 hc8 hc9 hx8
        have hbb : (sm == sm) = true := by cases sm <;> rfl
        go_wp2_with fail
        refine hs1.mono ?_
        rintro er w9 ⟨rfl, f9⟩
        have hc8 := box_kept H8.out.2.1 f9 (fun h => h)
        have hx8 := VShows.fr f9 (fun _ _ h => h) _ _ H8.out.2.2
        have hs2 := vsame_any _ _ _ _ _ _ hx8 hx8 (by rw [turn_sz]; have := HSZ.out; omega)
        rw [sameV_refl _ _ _ _ hx8] at hs2
        obtain ⟨e0, e1, e2, e3⟩ := cell_of_four hc8
        have F9 := Lib.hid (H8.out.1.trans f9 (fun _ _ h => h))
        clear hs1 hc8 hx8 f9 c0 c1 c2 c3 d0 d1 d2 d3
        go_wp2_with fail
        refine hs2.mono ?_
        rintro er w10 ⟨rfl, f10⟩
        have F10 := Lib.hid f10
        clear hs2 f10 e0 e1 e2 e3
        go_wp2
        go_ret
        exact ⟨rfl, F9.out.trans F10.out (fun _ _ h => h)⟩

end Go.Proofs.Ytnhkahnihdfefaa

/-
  The laws' arguments opened: a node; the law ValueSame with its arguments as the row hands them.
-/
namespace Go.Proofs.Ytnhkahnihdfefaa
open Go.ChangeShapes Go.WideShapes Go.ChangeAt Go.RowKit

set_option maxRecDepth 100000 in
/-- Whatever is handed in as a node shows plain data. -/
theorem node_any {H : Type} (enc : TypeId × Value → H) (w : World) {v : Value} {d : DataW H} {p : List MemPlace} {base : Nat} (hval : Value.okWide Try.prog w .any base 24 v)
    (h : DataW.Trod enc Try.prog w 0 (fun _ => true) true 24 v d p) : ∃ t, NShows w t v := by
  obtain ⟨cs, rfl, _⟩ := okWide_struct Try.underlying24 hval
  obtain ⟨fuel, hf⟩ := h
  obtain ⟨t, c0, c1, c2, e, ht⟩ := node_shows enc w fuel _ _ hf
  have hcs : (Value.agg cs).cells.toList = cs.toList := rfl
  rw [hcs] at e
  obtain ⟨cs⟩ := cs
  simp only at e
  subst e
  exact ⟨t, ht⟩

theorem valuesame_all {W : World} (t : KN) (vn : Value) (hn : NShows W t vn) (v1 : Value) (l1 : List Int) (w1 : SeesL W v1 (l1.map (Value.int .i64))) (wf1 : ∀ n ∈ l1, (Lit.int .i64 n).wf = true) (v2 : Value) (l2 : List Int) (w2 : SeesL W v2 (l2.map (Value.int .u8))) (wf2 : ∀ n ∈ l2, (Lit.int .u8 n).wf = true)
    (f : Int) (hf0 : 0 ≤ f) (hf1 : f ≤ 18446744073709551615) (g : Int) (hg0 : 0 ≤ g) (hg1 : g ≤ 18446744073709551615) (e : Int) (he0 : 0 ≤ e) (he1 : e ≤ 255) (h : Int) (hh0 : 0 ≤ h) (hh1 : h ≤ 255) :
    Calls Try.prog 5 #[vn, v1, v2, .int .u64 f, .int .u64 g, .int .u8 e, .int .u8 h] W fun e w' => e = .returned (.bool true) ∧ Fr (fun _ => False) W w' :=
  valuesame_walk t vn v1 v2 l1 _ f g e h hf0 hf1 hg0 hg1 he0 he1 hh0 hh1 W hn w1 wf1 (sees_u8 w2 wf2)

end Go.Proofs.Ytnhkahnihdfefaa
