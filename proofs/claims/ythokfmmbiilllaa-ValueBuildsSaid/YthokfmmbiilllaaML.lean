/-
  The law ValueBuilds, walked.
-/
import Derived.Test.YthokfmmbiilllaaMK
import Derived.Test.YthokfmmbiilllaaMI
import Derived.Test.YthokfmmbiilllaaMH
import Derived.Test.YthokfmmbiilllaaMC
import Derived.Deep.Cut
import Derived.Deep.CutRange
import Derived.Deep.LoopGhost
set_option linter.unusedSimpArgs false
set_option linter.unusedVariables false
namespace Go.Proofs.Ythokfmmbiilllaa
open Go.RowKit
attribute [local go_sem] run_store_float
set_option linter.unusedVariables false
set_option linter.unusedSimpArgs false

/-- A slice of numbers that came in. -/
theorem bnums_of {w : World} {v : Value} {l : List Int} (h : SeesL w v (l.map (Value.int .i64))) (hb : ∀ n ∈ l, (Lit.int .i64 n).wf = true) (hl : l.length ≤ 1000) : Nums (fun _ => True) w l v := by
  refine ⟨hl, fun x hx => ⟨(bounds_i64 (hb x hx)).1, (bounds_i64 (hb x hx)).2⟩, ?_⟩
  rcases h with ⟨h, a, c, rfl⟩ | ⟨g, off, cap, rfl, hle, hc⟩
  · left
    have : l = [] := by cases l with | nil => rfl | cons _ _ => simp at h
    exact ⟨this, a, c, rfl⟩
  · right
    refine ⟨g, off, cap, trivial, by simp, by simpa using hle, fun j x hj => hc j _ ?_⟩
    rw [List.getElem?_map, hj]; rfl

theorem bseesL_slice {w : World} {v : Value} {xs : List Value} (h : SeesL w v xs) : ∃ a c, v = .slice a xs.length c := by
  rcases h with ⟨rfl, a, c, rfl⟩ | ⟨g, off, cap, rfl, _, _⟩
  · exact ⟨a, c, rfl⟩
  · exact ⟨_, cap, rfl⟩

/-- The answer's type, its value, the value's numbers. -/
def S8 (wb : World) (t : KT) (T : VT) (F : List Int) : List Value → World → Prop
  | [], wx => Fr (fun _ => False) wb wx
  | [a], wx => Fr (fun _ => False) wb wx ∧ RShows (fun k => k < wx.heap.size) wx t a
  | [a, b], wx => Fr (fun _ => False) wb wx ∧ RShows (fun k => k < wx.heap.size) wx t a ∧ VShows (fun k => k < wx.heap.size) wx T b
  | [_, _, c], wx => Fr (fun _ => False) wb wx ∧ IOwn wb.heap.size wx c F
  | [_, _, _, d], wx => Fr (fun _ => False) wb wx ∧ IOwn wb.heap.size wx d F
  | _, _ => False

theorem S8.fr {wb wx : World} {t : KT} {T : VT} {F : List Int} : ∀ {c : List Value}, S8 wb t T F c wx → Fr (fun _ => False) wb wx
  | [], h => h
  | [_], h => h.1
  | [_, _], h => h.1
  | [_, _, _], h => h.1
  | [_, _, _, _], h => h.1
  | _ :: _ :: _ :: _ :: _ :: _, h => h.elim

theorem bfr0 {a b c : World} (h : Fr (fun _ => False) a b) (k : Fr (fun _ => False) b c) : Fr (fun _ => False) a c := h.trans k (fun _ _ h => h)

set_option maxRecDepth 100000 in
set_option maxHeartbeats 32000000 in
theorem valuebuilds_walk (t : KN) (vn lv : Value) (l : List Int) (mz : Int) (hm0 : -9223372036854775808 ≤ mz) (hm1 : mz ≤ 9223372036854775807) (w : World) (hn : NShows w t vn) (hl : SeesL w lv (l.map (Value.int .i64))) (hlw : ∀ n ∈ l, (Lit.int .i64 n).wf = true) :
    Calls Try.prog 3 #[vn, lv, .int .i64 mz] w fun e w' => e = .returned (.bool true) ∧ Fr (fun _ => False) w w' := by
  obtain ⟨k, n, a, c, cap, rfl⟩ := hn.cells
  obtain ⟨la, lc, rfl⟩ := bseesL_slice hl
  simp only [List.length_map] at hl ⊢
  have HVOK := Lib.hid (NShows.vok t _ hn)
  have HN := Lib.hid hn
  have HL := Lib.hid (And.intro hl hlw)
  obtain ⟨ll, hll⟩ : ∃ ll, l.length = ll := ⟨_, rfl⟩
  rw [hll]
  have HLL := Lib.hid hll
  clear hn hl hlw hll
  obtain ⟨w1, hw1⟩ : ∃ w1, w1 = w.alloc (.cells #[.int .u8 k, .int .u8 n, .slice a c cap] 24) := ⟨_, rfl⟩
  have f1 : Fr (fun _ => False) w w1 := by rw [hw1]; exact (Fr.refl _ _).alloc _
  have q1 : w1.heap[w.heap.size]? = some (.cells #[.int .u8 k, .int .u8 n, .slice a c cap] 24 (0, 0)) := by rw [hw1]; exact heap_alloc_new _ _
  have H1 := Lib.hid (And.intro f1 q1)
  go_enter Try.func3, Try.ntmps3
  go_upto_region 1 with fail
  rw [← hw1]
  clear hw1 f1 q1
  go_wp2_with fail
  refine (vawake_any _).mono ?_
  rintro er w2 ⟨rfl, f2⟩
  have q2 := box_kept H1.out.2 f2 (fun h => h)
  have c0 := cells_row q2 0 _ rfl
  have c1 := cells_row q2 1 _ rfl
  have c2 := cells_row q2 2 _ rfl
  have H2 := Lib.hid (And.intro (bfr0 H1.out.1 f2) q2)
  clear f2 q2
  have hli := light_any t _ w2 4 4 rfl (by omega) (NShows.fr H2.out.1 _ _ HN.out)
  cases hB : lightE t 4 with
  | false =>
    rw [hB] at hli
    clear hB
    go_wp2_with fail
    refine hli.mono ?_
    rintro er w3 ⟨rfl, f3⟩
    have F3 := Lib.hid f3
    clear f3 hli c0 c1 c2
    go_wp2
    go_ret
    exact ⟨rfl, bfr0 H2.out.1 F3.out⟩
  | true =>
  rw [hB] at hli
  clear hB
  go_wp2_with fail
  refine hli.mono ?_
  rintro er w3 ⟨rfl, f3⟩
  have H3 := Lib.hid (And.intro (bfr0 H2.out.1 f3) (box_kept H2.out.2 f3 (fun h => h)))
  clear f3 hli c0 c1 c2
  by_cases h60 : 60 < ll
  · have b60 : (60 : Int) < (ll : Int) := by omega
    clear h60
    go_wp2
    go_ret
    exact ⟨rfl, H3.out.1⟩
  have b60 : ¬ (60 : Int) < (ll : Int) := by omega
  have c0 := cells_row H3.out.2 0 _ rfl
  have c1 := cells_row H3.out.2 1 _ rfl
  have c2 := cells_row H3.out.2 2 _ rfl
  have hty := vtype_any t _ w3 (NShows.fr H3.out.1 _ _ HN.out)
  have HM := Lib.hid h60
  clear h60
  have hnum0 : Nums (fun k => k < w.heap.size) w l (.slice la ll lc) := by
    have := bnums_of HL.out.1 HL.out.2 (by have := HLL.out; have := HM.out; omega)
    rw [HLL.out] at this
    exact this.mono (fun k hk _ => hk)
  have HNUM := Lib.hid hnum0
  clear hnum0
  have HTY := Lib.hid (good_type t 4 (by omega) HVOK.out).1
  have HBT := Lib.hid (build_type l t 4 (by omega) (by omega) HVOK.out)
  have HCO := Lib.hid (show costE (typeE [] t 4) ≤ 256 from cost_typeE [] t 4)
  obtain ⟨TY, hTY⟩ : ∃ TY, typeE [] t 4 = TY := ⟨_, rfl⟩
  rw [hTY] at hty HTY HBT HCO
  clear hTY
  go_wp2_with fail
  refine hty.mono ?_
  rintro er w4 ⟨tv, rfl, hs4, f4⟩
  obtain ⟨tk, tm, ta, tn, tc, ta2, tn2, tc2, rfl⟩ := hs4.four
  go_upto_region 6 with fail
  obtain ⟨w5, hw5⟩ : ∃ w5, w5 = w4.alloc (.cells #[.int .u8 tk, .int .i64 tm, .slice ta tn tc, .slice ta2 tn2 tc2] 32) := ⟨_, rfl⟩
  rw [← hw5]
  have f5 : Fr (fun _ => False) w4 w5 := by rw [hw5]; exact (Fr.refl _ _).alloc _
  have q5 : w5.heap[w4.heap.size]? = some (.cells #[.int .u8 tk, .int .i64 tm, .slice ta tn tc, .slice ta2 tn2 tc2] 32 (0, 0)) := by rw [hw5]; exact heap_alloc_new _ _
  have hs5 : Shows (fun k => k < w5.heap.size) w5 TY (.agg #[.int .u8 tk, .int .i64 tm, .slice ta tn tc, .slice ta2 tn2 tc2]) := Shows.mono (fun k hk _ => hk) _ _ (Shows.fr f5 (fun _ _ h => h) _ _ hs4)
  have H5 := Lib.hid (And.intro (bfr0 (bfr0 H3.out.1 f4) f5) (And.intro q5 hs5))
  clear hw5 f5 q5 hs5 hs4 f4 hty c0 c1 c2 b60
  obtain ⟨tb, htb⟩ : ∃ tb, w4.heap.size = tb := ⟨_, rfl⟩
  rw [htb] at H5 ⊢
  clear htb
  have hbu := Build_any (fun _ => True) l TY (.agg #[.int .u8 tk, .int .i64 tm, .slice ta tn tc, .slice ta2 tn2 tc2]) (.slice la ll lc) w5 (Shows.mono (fun _ _ _ => trivial) _ _ H5.out.2.2) ((HNUM.out.fr H5.out.1 (fun _ _ h => h)).mono (fun _ _ _ => trivial)) (by have := HCO.out; omega)
  have c0 := cells_row H5.out.2.1 0 _ rfl
  have c1 := cells_row H5.out.2.1 1 _ rfl
  have c2 := cells_row H5.out.2.1 2 _ rfl
  have c3 := cells_row H5.out.2.1 3 _ rfl
  go_wp2_with fail
  refine hbu.mono ?_
  rintro er w6 ⟨v', rfl, hv6, f6⟩
  clear hbu c0 c1 c2 c3
  obtain ⟨T, hT⟩ : ∃ T, BuildE l TY = T := ⟨_, rfl⟩
  rw [hT] at hv6
  have HT := Lib.hid (show (buildE l TY (0, 0)).1 = T ∧ isVal TY T = true from by rw [← hT]; exact ⟨HBT.out.1.symm, HBT.out.2⟩)
  have HSZ : Hid (szV T ≤ 256) := Lib.hid (by
    rw [← HT.out.1]
    exact Nat.le_trans (build_le l TY HTY.out (0, 0)).2 HCO.out)
  have HREFL : Hid (sameV T T = true) := Lib.hid (sameV_refl _ _ _ _ hv6)
  clear hT
  obtain ⟨zn, zf, zs, za, zc, zcap, rfl⟩ := hv6.lit
  go_upto_region 7 with fail
  obtain ⟨w7, hw7⟩ : ∃ w7, w7 = w6.alloc (.cells #[.int .i64 zn, .float .f64 zf, .string zs, .slice za zc zcap] 37) := ⟨_, rfl⟩
  rw [← hw7]
  have f7 : Fr (fun _ => False) w6 w7 := by rw [hw7]; exact (Fr.refl _ _).alloc _
  have q7 : w7.heap[w6.heap.size]? = some (.cells #[.int .i64 zn, .float .f64 zf, .string zs, .slice za zc zcap] 37 (0, 0)) := by rw [hw7]; exact heap_alloc_new _ _
  have f57 := bfr0 f6 f7
  have H7 := Lib.hid (And.intro (bfr0 H5.out.1 f57) (And.intro (box_kept H5.out.2.1 f57 (fun h => h)) (And.intro q7 (And.intro (Shows.mono (S := fun k => k < w7.heap.size) (fun k hk _ => hk) _ _ (Shows.fr f57 (fun _ _ h => h) _ _ H5.out.2.2)) (VShows.mono (S := fun k => k < w7.heap.size) (fun k hk _ => hk) _ _ (VShows.fr f7 (fun _ _ h => h) _ _ hv6))))))
  clear hw7 f7 q7 f57 f6 hv6
  obtain ⟨vb, hvb⟩ : ∃ vb, w6.heap.size = vb := ⟨_, rfl⟩
  rw [hvb] at H7 ⊢
  clear hvb
  have c0 := cells_row H7.out.2.1 0 _ rfl
  have c1 := cells_row H7.out.2.1 1 _ rfl
  have c2 := cells_row H7.out.2.1 2 _ rfl
  have c3 := cells_row H7.out.2.1 3 _ rfl
  have n1 : tb < w7.heap.size := lt_of_block H7.out.2.1
  have n2 : tb ≠ w7.heap.size := by omega
  have n3 : w7.heap.size ≠ tb := by omega
  have n4 : vb < w7.heap.size := lt_of_block H7.out.2.2.1
  obtain ⟨w8, hw8⟩ : ∃ w8, w8 = w7.alloc (.cells #[.slice la ll lc, .int .i64 0, .int .i64 0] 46) := ⟨_, rfl⟩
  have f8 : Fr (fun _ => False) w7 w8 := by rw [hw8]; exact (Fr.refl _ _).alloc _
  have q8 : w8.heap[w7.heap.size]? = some (.cells #[.slice la ll lc, .int .i64 0, .int .i64 0] 46 (0, 0)) := by rw [hw8]; exact heap_alloc_new _ _
  have hsz8 : w8.heap.size = w7.heap.size + 1 := by rw [hw8]; exact World.size_alloc _ _
  go_wp2_with fail
  rw [← hw8]
  have hre := ref_any TY _ _ w8 (Shows.fr f8 (fun _ _ h => h) _ _ H7.out.2.2.2.1) HTY.out
  refine hre.mono ?_
  rintro er w9 ⟨rt, rfl, hrt, f9⟩
  clear hre c0 c1 c2 c3
  obtain ⟨mb, hmb⟩ : ∃ mb, w7.heap.size = mb := ⟨_, rfl⟩
  rw [hmb] at q8 hsz8 n1 n2 n3 n4 ⊢
  have HMB := Lib.hid hmb
  have hw7 : w.heap.size ≤ mb := by rw [← hmb]; exact H7.out.1.size
  have box9 : MBox w9 mb (.slice la ll lc) 0 0 := box_kept q8 f9 (fun h => h)
  have f09 := bfr0 (bfr0 H7.out.1 f8) f9
  have hnum9 : Nums (fun k => k ≠ mb) w9 l (.slice la ll lc) := (HNUM.out.fr f09 (fun _ _ h => h)).mono (fun k _ hk => by omega)
  have hrb := rbuild_any l TY (fun k => k ≠ mb) rt (.slice la ll lc) w9 mb 0 0 HTY.out (by have := HCO.out; omega) (by have := HCO.out; omega) (RShows.mono (fun k _ (hk : w8.heap.size ≤ k) => by omega) _ _ hrt) (fun h => h rfl) hnum9 box9
  have H9 := Lib.hid (And.intro f09 (And.intro (bfr0 f8 f9) (And.intro n1 (And.intro n4 hw7))))
  clear q8 hsz8 n1 n2 n3 n4 hmb hw7 hw8 hrt f8 f9 f09 box9 hnum9
  go_wp2_with fail
  refine hrb.mono ?_
  rintro er w10 ⟨v2, rfl, hv2, f10, b10⟩
  clear hrb b10
  rw [HT.out.1] at hv2
  have hof := of_any T _ v2 w10 hv2 (by have := HSZ.out; omega)
  go_wp2_with fail
  refine hof.mono ?_
  rintro er w11 ⟨v3, rfl, hv3, f11⟩
  clear hof hv2
  obtain ⟨yn, yf, ys, ya, yc, ycap, rfl⟩ := hv3.lit
  go_upto_region 8 with fail
  obtain ⟨w12, hw12⟩ : ∃ w12, w12 = w11.alloc (.cells #[.int .i64 yn, .float .f64 yf, .string ys, .slice ya yc ycap] 37) := ⟨_, rfl⟩
  rw [← hw12]
  have f12 : Fr (fun _ => False) w11 w12 := by rw [hw12]; exact (Fr.refl _ _).alloc _
  have q12 : w12.heap[w11.heap.size]? = some (.cells #[.int .i64 yn, .float .f64 yf, .string ys, .slice ya yc ycap] 37 (0, 0)) := by rw [hw12]; exact heap_alloc_new _ _
  have fm : Fr (fun k => k = mb) w7 w12 := (((H9.out.2.1.mono (fun _ _ h => h.elim)).trans f10 (fun _ _ h => h)).trans f11 (fun _ _ h => h.elim)).trans f12 (fun _ _ h => h.elim)
  have fw : Fr (fun _ => False) w w12 := (H7.out.1.mono (fun _ _ h => h)).trans fm (fun i hi e => by have := H9.out.2.2.2.2; omega)
  have H12 := Lib.hid (And.intro fw (And.intro (box_kept H7.out.2.1 fm (fun e => by have := H9.out.2.2.1; omega)) (And.intro (box_kept H7.out.2.2.1 fm (fun e => by have := H9.out.2.2.2.1; omega)) (And.intro q12
    (And.intro (Shows.mono (S := fun k => k < w12.heap.size) (fun k hk _ => hk) _ _ (Shows.fr fm (fun k (hk : k < w7.heap.size) e => by have := HMB.out; omega) _ _ H7.out.2.2.2.1))
    (And.intro (VShows.mono (S := fun k => k < w12.heap.size) (fun k hk _ => hk) _ _ (VShows.fr fm (fun k (hk : k < w7.heap.size) e => by have := HMB.out; omega) _ _ H7.out.2.2.2.2))
    (VShows.mono (S := fun k => k < w12.heap.size) (fun k hk _ => hk) _ _ (VShows.fr f12 (fun _ _ h => h) _ _ hv3))))))))
  clear hw12 f12 q12 fm fw f10 f11 hv3 H7 H9 HMB H5
  obtain ⟨wb, hwb⟩ : ∃ wb, w11.heap.size = wb := ⟨_, rfl⟩
  rw [hwb] at H12 ⊢
  clear hwb
  have hisE : isE TY T = true := by
    have := HT.out.2
    unfold isVal at this
    rw [Bool.and_eq_true] at this
    rw [← fits_is TY HTY.out T]
    exact this.2
  have HIS := Lib.hid hisE
  clear hisE
  have hFl : (flE TY T).length ≤ 512 := by have := fl_len TY T; have := HSZ.out; omega
  obtain ⟨F, hF⟩ : ∃ F, flE TY T = F := ⟨_, rfl⟩
  rw [hF] at hFl
  have HF := Lib.hid hF
  have HFL := Lib.hid hFl
  clear hF hFl
  refine wp_region_chain (by kernel_rfl) [some 37, some 38, some 39, some 40, some 41, some 10] rfl (by decide) (by intro d hd; simp at hd ⊢; omega)
    [1, 3, 4, 5] (fun cvs wx => S8 w12 TY T F cvs wx)
    [.free (.agg #[.int .u8 tk, .int .i64 tm, .slice ta tn tc, .slice ta2 tn2 tc2]), .link none, .free (.agg #[.int .i64 zn, .float .f64 zf, .string zs, .slice za zc zcap]), .link none, .link none, .link none]
    (by kernel_rfl) (by kernel_rfl) ?h08 ?step8 ?fin8
  case h08 => exact (Fr.refl _ _).drew
  case step8 =>
    intro vals
    simp only [frOfU, fillU, List.setIfInBounds_toArray, List.set_cons_succ, List.set_cons_zero]
    repeat' (first | exact AllOps.nil | refine AllOps.cons ?_ ?_)
    all_goals
      intro cvs wx hS he hu hlim K hK
      simp only [Act.put, List.setIfInBounds_toArray, List.set_cons_succ, List.set_cons_zero, List.getD_cons_zero, List.getD_cons_succ] at hK
      simp only [List.mem_cons, List.not_mem_nil, or_false, forall_eq_or_imp, forall_eq, Region.binds, forall_const, vmode_gc, Bool.false_eq_true, false_imp_iff, List.getD_cons_zero, List.getD_cons_succ, OpSort.val, Option.some.injEq, forall_eq', reduceCtorEq, implies_true, true_and, and_true] at he
      have hfr := S8.fr hS
      obtain ⟨c0, c1, c2, c3⟩ := cell_of_four (box_kept H12.out.2.1 hfr (fun h => h))
      obtain ⟨d0, d1, d2, d3⟩ := cell_of_four (box_kept H12.out.2.2.1 hfr (fun h => h))
      have HSX := Lib.hid hS
      clear hS hfr
    all_goals first | (clear hlim hu; (try simp only [he] at hK ⊢); go_simp; exact hK) | skip
    · obtain rfl := hlim (0 : Nat) rfl
      have h1 : Fr (fun _ => False) w12 wx := HSX.out
      have H1' := Lib.hid h1
      clear hlim hu HSX h1 c0 c1 c2 c3 d0 d1 d2 d3
      simp only [he] at hK ⊢
      go_simp
      go_at_call 10
      refine (ref_any TY _ _ wx (Shows.fr H1'.out (fun _ _ h => h) _ _ H12.out.2.2.2.2.1) HTY.out).mono ?_
      rintro er wa ⟨a1, rfl, hr, fa⟩
      exact hK _ _ (fun _ h => by cases h) ⟨bfr0 H1'.out fa, RShows.mono (fun k hk _ => hk) _ _ hr⟩
    · obtain rfl := hlim (1 : Nat) rfl
      have h1 : Fr (fun _ => False) w12 wx ∧ RShows (fun k => k < wx.heap.size) wx TY (vals 1) := HSX.out
      have H1' := Lib.hid h1
      clear hlim hu HSX h1 c0 c1 c2 c3 d0 d1 d2 d3
      simp only [he] at hK ⊢
      go_simp
      go_at_call 12
      refine (refv_any T _ _ wx (VShows.fr H1'.out.1 (fun _ _ h => h) _ _ H12.out.2.2.2.2.2.1) (by have := HSZ.out; omega)).mono ?_
      rintro er wa ⟨a1, rfl, hr, fa⟩
      exact hK _ _ (fun _ h => by cases h) ⟨bfr0 H1'.out.1 fa, RShows.mono (fun k hk _ => hk) _ _ (RShows.fr fa (fun _ _ h => h) _ _ H1'.out.2), VShows.mono (fun k hk _ => hk) _ _ hr⟩
    · obtain rfl := hlim (2 : Nat) rfl
      have h1 : Fr (fun _ => False) w12 wx ∧ RShows (fun k => k < wx.heap.size) wx TY (vals 1) ∧ VShows (fun k => k < wx.heap.size) wx T (vals 3) := HSX.out
      have H1' := Lib.hid h1
      clear hlim hu HSX h1 c0 c1 c2 c3 d0 d1 d2 d3
      (try simp only [he] at hK ⊢)
      go_simp
      go_at_call 11
      refine (rflat_any TY _ _ _ wx T HTY.out H1'.out.2.1 H1'.out.2.2 HIS.out (by have := HSZ.out; omega)).mono ?_
      rintro er wa ⟨a1, rfl, ho, fa⟩
      exact hK _ _ (fun _ h => by cases h) ⟨bfr0 H1'.out.1 fa, by rw [HF.out] at ho; exact ho.le H1'.out.1.size⟩
    · obtain rfl := hlim (3 : Nat) rfl
      have h1 : Fr (fun _ => False) w12 wx ∧ IOwn w12.heap.size wx (vals 4) F := HSX.out
      have H1' := Lib.hid h1
      clear hlim hu HSX h1 c0 c1 c2 c3 d0 d1 d2 d3
      (try simp only [he] at hK ⊢)
      go_simp
      exact hK _ _ (fun _ h => by cases h) H1'.out
  case fin8 =>
  intro vals w13 hS hV
  have h13 : Fr (fun _ => False) w12 w13 ∧ IOwn w12.heap.size w13 (vals 5) F := hS
  have v0 := hV 0 _ (by decide) rfl
  have v2 := hV 2 _ (by decide) rfl
  clear hS hV
  simp only [frOfU, fillU, List.setIfInBounds_toArray, List.set_cons_succ, List.set_cons_zero]
  simp only [Nat.reduceAdd, v0, v2]
  clear v0 v2
  generalize vals 5 = u10 at *
  generalize vals 4 = x4 at *
  generalize vals 3 = x3 at *
  generalize vals 1 = x1 at *
  obtain ⟨fa, fc, rfl⟩ := slice_of_own h13.2
  have H13 := Lib.hid (And.intro (bfr0 H12.out.1 h13.1) (And.intro h13.1 h13.2))
  clear h13
  obtain ⟨fl, hfl⟩ : ∃ fl, F.length = fl := ⟨_, rfl⟩
  rw [hfl] at H13 ⊢
  have HFLN := Lib.hid hfl
  clear hfl
  go_upto_region 9 with fail
  obtain ⟨w14, hw14⟩ : ∃ w14, w14 = w13.alloc (.cells #[.int .i64 mz, .int .i64 64, .int .i64 5] 3) := ⟨_, rfl⟩
  have f14 : Fr (fun _ => False) w13 w14 := by rw [hw14]; exact (Fr.refl _ _).alloc _
  have q14 : w14.heap[w13.heap.size]? = some (.cells #[.int .i64 mz, .int .i64 64, .int .i64 5] 3 (0, 0)) := by rw [hw14]; exact heap_alloc_new _ _
  have H14 := Lib.hid (And.intro (bfr0 H13.out.1 f14) (And.intro (bfr0 H13.out.2.1 f14) (And.intro (ownsRow_fr H13.out.2.2 f14 (fun _ _ h => h)) q14)))
  clear f14 q14
  go_wp2_with fail
  rw [← hw14]
  clear hw14
  obtain ⟨kb, hkb⟩ : ∃ kb, w13.heap.size = kb := ⟨_, rfl⟩
  rw [hkb] at H14 ⊢
  clear hkb
  go_loopg [12, 13, 14, 45] 3 (fun G u12 u13 u14 u45 wr => ∃ i : Nat, i ≤ 3 ∧ G = 3 - i ∧ u45 = .int .i64 i ∧ Hid (Fr (fun _ => False) w14 wr))
  case atStart => exact ⟨0, by omega, rfl, rfl, Lib.hid (Fr.refl _ _)⟩
  case round =>
    obtain ⟨i, hi, rfl, rfl, HI⟩ := hrel
    by_cases hlt : i < 3
    · have qk := box_kept H14.out.2.2.2 HI.out (fun h => h)
      obtain ⟨K, hK, hKb⟩ : ∃ K : Int, wr.cell? ⟨kb, i, none⟩ = some (.int .i64 K) ∧ (-9223372036854775808 ≤ K ∧ K ≤ 9223372036854775807) := by
        rcases (by omega : i = 0 ∨ i = 1 ∨ i = 2) with rfl | rfl | rfl
        · exact ⟨mz, cells_row qk 0 _ rfl, hm0, hm1⟩
        · exact ⟨64, cells_row qk 1 _ rfl, by omega, by omega⟩
        · exact ⟨5, cells_row qk 2 _ rfl, by omega, by omega⟩
      have f12r := bfr0 H14.out.2.1 HI.out
      obtain ⟨c0, c1, c2, c3⟩ := cell_of_four (box_kept H12.out.2.1 f12r (fun h => h))
      obtain ⟨d0, d1, d2, d3⟩ := cell_of_four (box_kept H12.out.2.2.1 f12r (fun h => h))
      have hfla := Flat_any (fun k => k < w12.heap.size) TY T (.agg #[.int .u8 tk, .int .i64 tm, .slice ta tn tc, .slice ta2 tn2 tc2]) (.agg #[.int .i64 zn, .float .f64 zf, .string zs, .slice za zc zcap]) wr K (Shows.fr f12r (fun _ _ h => h) _ _ H12.out.2.2.2.2.1) (VShows.fr f12r (fun _ _ h => h) _ _ H12.out.2.2.2.2.2.1) (by have := HSZ.out; omega) HT.out.2
      rw [flat_takeZ, HF.out] at hfla
      have HKB := Lib.hid hKb
      obtain ⟨GL, hGL⟩ : ∃ GL, F.take K.toNat = GL := ⟨_, rfl⟩
      rw [hGL] at hfla
      have hlen : (GL.length : Int) = min (fl : Int) (max K 0) := by rw [← hGL, List.length_take, HFLN.out]; omega
      have hget : ∀ (j : Nat) (x : Int), GL[j]? = some x → F[j]? = some x := by
        intro j x hj
        rw [← hGL, List.getElem?_take] at hj
        split at hj
        · exact hj
        · cases hj
      have HGET := Lib.hid hget
      have HI3 := Lib.hid hlt
      clear hget hGL qk hKb
      have hli : (i : Int) < 3 := by omega
      go_wp2_with fail
      refine hfla.mono ?_
      rintro er w15 ⟨nv, rfl, hown, f15⟩
      clear hfla c0 c1 c2 c3 d0 d1 d2 d3 hK
      obtain ⟨ga, gc, rfl⟩ := slice_of_own hown
      obtain ⟨gl, hgl⟩ : ∃ gl, GL.length = gl := ⟨_, rfl⟩
      rw [hgl] at hlen hown ⊢
      have HGL := Lib.hid hgl
      clear hgl
      have H15 := Lib.hid (And.intro (bfr0 HI.out f15) hown)
      clear hown f15 f12r
      have hgb : gl ≤ 512 := by
        have h1 := HFL.out
        have h2 := HFLN.out
        omega
      have hmax : ∀ (ts : Array TypeId) (t : TypeId) (W : World), (Builtin.max_ ts t #[.int .i64 K, .int .i64 0]).run Try.prog W = .ok (.int .i64 (max K 0)) W := by
        intro ts t W
        simp [Builtin.max_, Builtin.max2]
        split <;> omega
      have hmin : ∀ (ts : Array TypeId) (t : TypeId) (W : World), (Builtin.min_ ts t #[.int .i64 (fl : Int), .int .i64 (max K 0)]).run Try.prog W = .ok (.int .i64 (gl : Int)) W := by
        intro ts t W
        rw [hlen]
        simp [Builtin.min_, Builtin.min2]
        split <;> omega
      clear hlen
      go_wp2_with fail
      clear hmax hmin
      obtain ⟨wo, rfl⟩ : ∃ wo : World, wo = wr := ⟨_, rfl⟩
      go_loopg [14, 63] gl (fun G u14 u63 wr => ∃ j : Nat, j ≤ gl ∧ G = gl - j ∧ u63 = .int .i64 j ∧ Hid (Fr (fun _ => False) w15 wr))
      case atStart => exact ⟨0, Nat.zero_le _, rfl, rfl, Lib.hid (Fr.refl _ _)⟩
      case round =>
        obtain ⟨j, hj, rfl, rfl, HJ⟩ := hrel
        by_cases hjl : j < gl
        · obtain ⟨x, hx⟩ : ∃ x, GL[j]? = some x := ⟨_, List.getElem?_eq_getElem (by rw [HGL.out]; exact hjl)⟩
          have hx2 := HGET.out j x hx
          have hjf : j < fl := by have := (List.getElem?_eq_some_iff.1 hx2).1; rw [HFLN.out] at this; exact this
          have hj1 : (j : Int) < (gl : Int) := by omega
          have hj2 : (j : Int) < (fl : Int) := by omega
          have y1 : ∃ g, ga = some ⟨g, 0, none⟩ ∧ wr.cell? ⟨g, j, none⟩ = some (.int .i64 x) := by
            rcases bown_cells H15.out.2 with ⟨h0, _⟩ | ⟨g, cap, e, hle, hg, hg2, hc⟩
            · omega
            · simp only [Value.slice.injEq] at e
              exact ⟨g, e.1, by rw [HJ.out.cell (p := ⟨g, j, none⟩) hg2 (fun h => h)]; exact hc j _ (by rw [List.getElem?_map, hx]; rfl)⟩
          have y2 : ∃ g, fa = some ⟨g, 0, none⟩ ∧ wr.cell? ⟨g, j, none⟩ = some (.int .i64 x) := by
            rcases bown_cells H14.out.2.2.1 with ⟨h0, _⟩ | ⟨g, cap, e, hle, hg, hg2, hc⟩
            · have := HFLN.out; omega
            · simp only [Value.slice.injEq] at e
              exact ⟨g, e.1, by rw [(bfr0 H15.out.1 HJ.out).cell (p := ⟨g, j, none⟩) hg2 (fun h => h)]; exact hc j _ (by rw [List.getElem?_map, hx2]; rfl)⟩
          obtain ⟨g1, rfl, y1⟩ := y1
          obtain ⟨g2, rfl, y2⟩ := y2
          have HJL := Lib.hid hjl
          clear hx hx2
          go_upto_region 18 with fail
          go_region
          all_goals
            go_wp2_with fail
            go_roundg (gl - (j + 1))
            case measure => have := HJL.out; omega
            case rel => exact ⟨j + 1, HJL.out, rfl, by go_num, Lib.hid HJ.out.drew⟩
        · obtain rfl : j = gl := by omega
          go_wp2_with fail
          go_roundg (3 - (i + 1))
          case measure => have := HI3.out; omega
          case rel => exact ⟨i + 1, HI3.out, rfl, by go_num, Lib.hid (bfr0 H15.out.1 HJ.out)⟩
    · obtain rfl : i = 3 := by omega
      have f12r := bfr0 H14.out.2.1 HI.out
      obtain ⟨c0, c1, c2, c3⟩ := cell_of_four (box_kept H12.out.2.2.2.1 f12r (fun h => h))
      obtain ⟨d0, d1, d2, d3⟩ := cell_of_four (box_kept H12.out.2.2.1 f12r (fun h => h))
      have hsm := vsame_any (fun k => k < w12.heap.size) T T (.agg #[.int .i64 zn, .float .f64 zf, .string zs, .slice za zc zcap]) (.agg #[.int .i64 yn, .float .f64 yf, .string ys, .slice ya yc ycap]) wr (VShows.fr f12r (fun _ _ h => h) _ _ H12.out.2.2.2.2.2.1) (VShows.fr f12r (fun _ _ h => h) _ _ H12.out.2.2.2.2.2.2) (by have := HSZ.out; omega)
      rw [HREFL.out] at hsm
      go_wp2_with fail
      refine hsm.mono ?_
      rintro er w16 ⟨rfl, f16⟩
      have F16 := Lib.hid (bfr0 f12r f16)
      have FW16 := Lib.hid (bfr0 H12.out.1 (bfr0 f12r f16))
      clear hsm c0 c1 c2 c3 d0 d1 d2 d3 f16 f12r
      obtain ⟨c0, c1, c2, c3⟩ := cell_of_four (box_kept H12.out.2.1 F16.out (fun h => h))
      obtain ⟨d0, d1, d2, d3⟩ := cell_of_four (box_kept H12.out.2.2.1 F16.out (fun h => h))
      have hval : valE TY T = 0 := by unfold valE; rw [HT.out.2]; rfl
      have hck := vcheck_any (fun k => k < w12.heap.size) TY T (.agg #[.int .u8 tk, .int .i64 tm, .slice ta tn tc, .slice ta2 tn2 tc2]) (.agg #[.int .i64 zn, .float .f64 zf, .string zs, .slice za zc zcap]) w16 (Shows.fr F16.out (fun _ _ h => h) _ _ H12.out.2.2.2.2.1) (VShows.fr F16.out (fun _ _ h => h) _ _ H12.out.2.2.2.2.2.1) (by have := HSZ.out; omega)
      rw [hval] at hck
      clear hval
      go_wp2_with fail
      refine hck.mono ?_
      rintro er w17 ⟨rfl, f17⟩
      have F17 := Lib.hid (bfr0 F16.out f17)
      have FW17 := Lib.hid (bfr0 FW16.out f17)
      clear hck c0 c1 c2 c3 d0 d1 d2 d3 f17
      obtain ⟨d0, d1, d2, d3⟩ := cell_of_four (box_kept H12.out.2.2.1 F17.out (fun h => h))
      have hsm := vsame_any (fun k => k < w12.heap.size) T T (.agg #[.int .i64 zn, .float .f64 zf, .string zs, .slice za zc zcap]) (.agg #[.int .i64 zn, .float .f64 zf, .string zs, .slice za zc zcap]) w17 (VShows.fr F17.out (fun _ _ h => h) _ _ H12.out.2.2.2.2.2.1) (VShows.fr F17.out (fun _ _ h => h) _ _ H12.out.2.2.2.2.2.1) (by have := HSZ.out; omega)
      rw [HREFL.out] at hsm
      go_wp2_with fail
      refine hsm.mono ?_
      rintro er w18 ⟨rfl, f18⟩
      have FW18 := Lib.hid (bfr0 FW17.out f18)
      clear hsm d0 d1 d2 d3 f18
      go_wp2_with fail
      go_ret
      exact ⟨rfl, FW18.out⟩

/-- In the form that the statement's lift takes. -/
theorem valuebuilds_all {w : World} (t : KN) (vn : Value) (hn : NShows w t vn) (lv : Value) (l : List Int) (hl : SeesL w lv (l.map (Value.int .i64))) (hlw : ∀ n ∈ l, (Lit.int .i64 n).wf = true) (mz : Int) (hm0 : -9223372036854775808 ≤ mz) (hm1 : mz ≤ 9223372036854775807) :
    Calls Try.prog 3 #[vn, lv, .int .i64 mz] w fun e w' => e = .returned (.bool true) ∧ Fr (fun _ => False) w w' := valuebuilds_walk t vn lv l mz hm0 hm1 w hn hl hlw
end Go.Proofs.Ythokfmmbiilllaa

/-
  The law ValueBuilds with its arguments as the row hands them: a node opened.
-/
namespace Go.Proofs.Ythokfmmbiilllaa
open Go.ChangeShapes Go.WideShapes Go.ChangeAt Go.RowKit

set_option maxRecDepth 100000 in
/-- Whatever is handed in as a node shows plain data. -/
theorem node_any {H : Type} (enc : TypeId × Value → H) (w : World) {v : Value} {d : DataW H} {p : List MemPlace} {base : Nat} (hval : Value.okWide Try.prog w .any base 24 v)
    (h : DataW.Trod enc Try.prog w 0 (fun _ => true) true 24 v d p) : ∃ t, NShows w t v := by
  obtain ⟨cs, rfl, _⟩ := okWide_struct Try.underlying24 hval
  obtain ⟨fuel, hf⟩ := h
  obtain ⟨t, c0, c1, c2, e, ht⟩ := node_shows enc w fuel _ _ hf
  have hcs : (Value.agg cs).cells.toList = cs.toList := rfl
  rw [hcs] at e
  obtain ⟨cs⟩ := cs
  simp only at e
  subst e
  exact ⟨t, ht⟩

end Go.Proofs.Ythokfmmbiilllaa
