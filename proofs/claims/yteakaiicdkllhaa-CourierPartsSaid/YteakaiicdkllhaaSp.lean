/-
  CouParts, what it rests on behind Si: CouPartsMath, CouPartsLaw, CouPartsArg.
-/
import Derived.Test.YteakaiicdkllhaaSi
import Derived.Deep.Cut
import Derived.Deep.CutRange
import Derived.Laws.Concat
set_option linter.unusedVariables false
set_option linter.unusedSimpArgs false
set_option maxHeartbeats 64000000
namespace Go.Proofs.Yteakaiicdkllhaa
open Go.RowKit
open Go.Lib (hid)
section
set_option maxRecDepth 100000

def recT (T U : KT) : KT := .mk 6 0 [[97], [98]] 2 (fun i => if i = 0 then T else U)
def recV (A B : VT) : VT := .mk 0 0 [] 2 (fun i => if i = 0 then A else B)
def choT (T U : KT) : KT := .mk 8 0 [[97], [98]] 2 (fun i => if i = 0 then T else U)
def choV (B : VT) : VT := .mk 1 0 [] 1 (fun _ => B)

theorem rec_val (T U : KT) (A B : VT) (h1 : fitsE T A = true) (h2 : fitsE U B = true) (h3 : hasE T 19 = true) (h4 : hasE U 19 = true) : isVal (recT T U) (recV A B) = true := by
  unfold isVal recT recV
  rw [hasE, if_neg (by omega), fitsE, if_neg (by omega), if_neg (by omega), if_neg (by omega), if_neg (by omega), if_neg (by omega), if_neg (by omega), if_neg (by omega), if_pos rfl, same_zero, canon0]
  simp [List.range_succ, h1, h2, h3, h4]

theorem cho_val (T U : KT) (B : VT) (h2 : fitsE U B = true) (h3 : hasE T 19 = true) (h4 : hasE U 19 = true) : isVal (choT T U) (choV B) = true := by
  unfold isVal choT choV
  rw [hasE, if_neg (by omega), fitsE, if_neg (by omega), if_neg (by omega), if_neg (by omega), if_neg (by omega), if_neg (by omega), if_neg (by omega), if_neg (by omega), if_neg (by omega), if_pos rfl, same_zero, canon0]
  simp [List.range_succ, h2, h3, h4]

theorem rec_sz (A B : VT) : szV (recV A B) = 1 + (szV A + szV B) := by
  unfold recV
  rw [szV]
  simp [List.range_succ]

theorem cho_sz (B : VT) : szV (choV B) = 1 + szV B := by
  unfold choV
  rw [szV]
  simp [List.range_succ]

theorem rec_good {T U : KT} (h1 : goodE T) (h2 : goodE U) : goodE (recT T U) := by
  refine ⟨⟨by omega, by decide +kernel⟩, fun i hi => ?_⟩
  rcases (by omega : i = 0 ∨ i = 1) with rfl | rfl
  · exact h1
  · exact h2

theorem cho_good {T U : KT} (h1 : goodE T) (h2 : goodE U) : goodE (choT T U) := by
  refine ⟨⟨by omega, by decide +kernel⟩, fun i hi => ?_⟩
  rcases (by omega : i = 0 ∨ i = 1) with rfl | rfl
  · exact h1
  · exact h2

theorem rec_enc (T U : KT) (A B : VT) : encE (recT T U) (recV A B) = encE T A ++ encE U B := by
  unfold recT recV
  rw [encE, if_neg (by omega), if_neg (by omega), if_neg (by omega)]
  simp [List.range_succ]

theorem cho_enc (T U : KT) (B : VT) : encE (choT T U) (choV B) = [0, 1] ++ encE U B := by
  unfold choT choV
  rw [encE, if_neg (by omega), if_neg (by omega), if_neg (by omega)]
  simp [List.range_succ, be2]

theorem two_cells {R : Nat → Prop} {w : World} {T U : KT} {g : Nat} {x0 x1 x2 x3 y0 y1 y2 y3 : Value} (h : w.heap[g]? = some (.cells #[x0, x1, x2, x3, y0, y1, y2, y3] 34 (0, 0))) (h1 : Shows R w T (.agg #[x0, x1, x2, x3])) (h2 : Shows R w U (.agg #[y0, y1, y2, y3])) :
    ∀ i, i < 2 → ∃ x0 x1 x2 x3, w.cell? ⟨g, 0 + i * 4, none⟩ = some x0 ∧ w.cell? ⟨g, 0 + i * 4 + 1, none⟩ = some x1 ∧ w.cell? ⟨g, 0 + i * 4 + 2, none⟩ = some x2 ∧ w.cell? ⟨g, 0 + i * 4 + 3, none⟩ = some x3 ∧ Shows R w (if i = 0 then T else U) (.agg #[x0, x1, x2, x3]) := by
  intro i hi
  rcases (by omega : i = 0 ∨ i = 1) with rfl | rfl
  · exact ⟨_, _, _, _, cells_row h 0 _ rfl, cells_row h 1 _ rfl, cells_row h 2 _ rfl, cells_row h 3 _ rfl, h1⟩
  · exact ⟨_, _, _, _, cells_row h 4 _ rfl, cells_row h 5 _ rfl, cells_row h 6 _ rfl, cells_row h 7 _ rfl, h2⟩

theorem two_vcells {R : Nat → Prop} {w : World} {T U : VT} {g : Nat} {x0 x1 x2 x3 y0 y1 y2 y3 : Value} (h : w.heap[g]? = some (.cells #[x0, x1, x2, x3, y0, y1, y2, y3] 42 (0, 0))) (h1 : VShows R w T (.agg #[x0, x1, x2, x3])) (h2 : VShows R w U (.agg #[y0, y1, y2, y3])) :
    ∀ i, i < 2 → ∃ x0 x1 x2 x3, w.cell? ⟨g, 0 + i * 4, none⟩ = some x0 ∧ w.cell? ⟨g, 0 + i * 4 + 1, none⟩ = some x1 ∧ w.cell? ⟨g, 0 + i * 4 + 2, none⟩ = some x2 ∧ w.cell? ⟨g, 0 + i * 4 + 3, none⟩ = some x3 ∧ VShows R w (if i = 0 then T else U) (.agg #[x0, x1, x2, x3]) := by
  intro i hi
  rcases (by omega : i = 0 ∨ i = 1) with rfl | rfl
  · exact ⟨_, _, _, _, cells_row h 0 _ rfl, cells_row h 1 _ rfl, cells_row h 2 _ rfl, cells_row h 3 _ rfl, h1⟩
  · exact ⟨_, _, _, _, cells_row h 4 _ rfl, cells_row h 5 _ rfl, cells_row h 6 _ rfl, cells_row h 7 _ rfl, h2⟩

/-- Two types in a row of their own, with two names: what shows a type of kind k. -/
theorem shows_pairT {R : Nat → Prop} {w : World} {k : Nat} {T U : KT} {gs gt : Nat} {x0 x1 x2 x3 y0 y1 y2 y3 : Value} (hk : k ≤ 255) (hgs : R gs) (hgt : R gt)
    (s : w.heap[gs]? = some (.cells #[.string ⟨#[97]⟩, .string ⟨#[98]⟩] 9 (0, 0))) (g : w.heap[gt]? = some (.cells #[x0, x1, x2, x3, y0, y1, y2, y3] 34 (0, 0)))
    (h1 : Shows R w T (.agg #[x0, x1, x2, x3])) (h2 : Shows R w U (.agg #[y0, y1, y2, y3])) :
    Shows R w (.mk k 0 [[97], [98]] 2 (fun i => if i = 0 then T else U)) (.agg #[.int .u8 k, .int .i64 0, .slice (some ⟨gs, 0, none⟩) 2 2, .slice (some ⟨gt, 0, none⟩) 2 2]) :=
  ⟨.slice (some ⟨gs, 0, none⟩) 2 2, .slice (some ⟨gt, 0, none⟩) 2 2, by simp, by omega, by omega,
    ⟨by simp, by simp, .inr ⟨gs, 0, 2, hgs, rfl, by simp, fun j s' hj => by
      have hj2 := (List.getElem?_eq_some_iff.1 hj).1
      simp at hj2
      rcases (by omega : j = 0 ∨ j = 1) with rfl | rfl
      · simp at hj; subst hj; exact cells_row s 0 _ rfl
      · simp at hj; subst hj; exact cells_row s 1 _ rfl⟩⟩,
    .inr ⟨gt, 0, 2, hgt, rfl, by omega, two_cells g h1 h2⟩⟩
end
section
attribute [local go_sem] run_store_float
set_option maxRecDepth 100000

theorem own_block_lt {w : World} {v : Value} {l : List UInt8} (h : Own w v l) : ∀ k, v.ownBlock = some k → k < w.heap.size := by
  intro k hk
  rcases h.2 with ⟨rfl, _⟩ | ⟨g, cap, cur, rfl, hb, hg, _⟩
  · simp [Value.ownBlock] at hk
  · have e : g = k := by simpa [Value.ownBlock] using hk
    subst e
    exact (Array.getElem?_eq_some_iff.1 hg).1

theorem ptype_small (t : KN) (l : List Int) (h : vokN t) : szV (BuildE l (typeE [] t 3)) ≤ 256 := by
  have h3 := cost_typeE [] t 3
  rw [(build_type l t 3 (by omega) (by omega) h).1]
  have := (build_le l _ (good_type t 3 (by omega) h).1 (0, 0)).2
  omega

theorem parts_walk (t u : KN) (vn vm lv : Value) (l : List Int) (one : Bool) (w : World) (hn : NShows w t vn) (hm : NShows w u vm) (hl : SeesL w lv (l.map (Value.int .i64))) (hlw : ∀ n ∈ l, (Lit.int .i64 n).wf = true) :
    Calls Try.prog 6 #[vn, vm, lv, .bool one] w fun e w' => e = .returned (.bool true) ∧ Fr (fun _ => False) w w' := by
  obtain ⟨k, n, a, c, cap, rfl⟩ := hn.cells
  obtain ⟨k', n', a', c', cap', rfl⟩ := hm.cells
  obtain ⟨la, lc, rfl⟩ := cslice hl
  simp only [List.length_map] at hl ⊢
  have HVOK := Lib.hid (And.intro (NShows.vok t _ hn) (NShows.vok u _ hm))
  have HN := Lib.hid (And.intro hn hm)
  have HL := Lib.hid (And.intro hl hlw)
  obtain ⟨ll, hll⟩ : ∃ ll, l.length = ll := ⟨_, rfl⟩
  rw [hll]
  have HLL := Lib.hid hll
  clear hn hm hl hlw hll
  obtain ⟨w1, hw1⟩ : ∃ w1, w1 = (w.alloc (.cells #[.int .u8 k, .int .u8 n, .slice a c cap] 24)).alloc (.cells #[.int .u8 k', .int .u8 n', .slice a' c' cap'] 24) := ⟨_, rfl⟩
  have f1 : Fr (fun _ => False) w w1 := by rw [hw1]; exact ((Fr.refl _ _).alloc _).alloc _
  have q1 : w1.heap[w.heap.size]? = some (.cells #[.int .u8 k, .int .u8 n, .slice a c cap] 24 (0, 0)) := by rw [hw1]; exact heap_alloc_first _ _ _
  have r1 : w1.heap[w.heap.size + 1]? = some (.cells #[.int .u8 k', .int .u8 n', .slice a' c' cap'] 24 (0, 0)) := by rw [hw1]; exact heap_alloc_two _ _ _
  go_enter Try.func6, Try.ntmps6
  go_upto_region 1 with fail
  rw [← hw1]
  obtain ⟨nb, hnb⟩ : ∃ nb, w.heap.size = nb := ⟨_, rfl⟩
  obtain ⟨mb, hmb⟩ : ∃ mb, w.heap.size + 1 = mb := ⟨_, rfl⟩
  rw [hmb] at r1 ⊢
  rw [hnb] at q1 ⊢
  have H1 := Lib.hid (And.intro f1 (And.intro q1 r1))
  clear hw1 f1 q1 r1 hnb hmb
  go_wp2_with fail
  refine (cawake_any _).mono ?_
  rintro er w2 ⟨rfl, f2⟩
  have H2 := Lib.hid (And.intro (H1.out.1.trans f2 (fun _ _ h => h)) (And.intro (box_kept H1.out.2.1 f2 (fun h => h)) (box_kept H1.out.2.2 f2 (fun h => h))))
  have c0 := cells_row H2.out.2.1 0 _ rfl
  have c1 := cells_row H2.out.2.1 1 _ rfl
  have c2 := cells_row H2.out.2.1 2 _ rfl
  clear f2
  have hli := light_any t _ w2 3 3 rfl (by omega) (NShows.fr H2.out.1 _ _ HN.out.1)
  cases hB : lightE t 3 with
  | false =>
    rw [hB] at hli
    clear hB
    go_wp2_with fail
    refine hli.mono ?_
    rintro er w3 ⟨rfl, f3⟩
    have F3 := Lib.hid f3
    clear f3 hli c0 c1 c2
    go_wp2
    go_ret
    exact ⟨rfl, H2.out.1.trans F3.out (fun _ _ h => h)⟩
  | true =>
  rw [hB] at hli
  clear hB
  go_wp2_with fail
  refine hli.mono ?_
  rintro er w3 ⟨rfl, f3⟩
  have H3 := Lib.hid (And.intro (H2.out.1.trans f3 (fun _ _ h => h)) (And.intro (box_kept H2.out.2.1 f3 (fun h => h)) (box_kept H2.out.2.2 f3 (fun h => h))))
  clear f3 hli c0 c1 c2
  have c0 := cells_row H3.out.2.2 0 _ rfl
  have c1 := cells_row H3.out.2.2 1 _ rfl
  have c2 := cells_row H3.out.2.2 2 _ rfl
  have hli := light_any u _ w3 3 3 rfl (by omega) (NShows.fr H3.out.1 _ _ HN.out.2)
  cases hB : lightE u 3 with
  | false =>
    rw [hB] at hli
    clear hB
    go_wp2_with fail
    refine hli.mono ?_
    rintro er w4 ⟨rfl, f4⟩
    have F4 := Lib.hid f4
    clear f4 hli c0 c1 c2
    go_wp2
    go_ret
    exact ⟨rfl, H3.out.1.trans F4.out (fun _ _ h => h)⟩
  | true =>
  rw [hB] at hli
  clear hB
  go_wp2_with fail
  refine hli.mono ?_
  rintro er w4 ⟨rfl, f4⟩
  have H4 := Lib.hid (And.intro (H3.out.1.trans f4 (fun _ _ h => h)) (And.intro (box_kept H3.out.2.1 f4 (fun h => h)) (box_kept H3.out.2.2 f4 (fun h => h))))
  clear f4 hli c0 c1 c2
  by_cases h40 : 40 < ll
  · have b40 : (40 : Int) < (ll : Int) := by omega
    clear h40
    go_wp2
    go_ret
    exact ⟨rfl, H4.out.1⟩
  have b40 : ¬ (40 : Int) < (ll : Int) := by omega
  have HM := Lib.hid h40
  clear h40
  go_upto_region 5 with fail
  clear b40
  have hdif5 : PDif 1 3 99 4 5 := ⟨by decide, by decide, by decide, by decide, by decide, by decide, by decide, by decide, by decide, by decide⟩
  refine wp_region_links (by kernel_rfl) [some 37, some 38, some 39, some 40, some 9, some 10, none, none] rfl (by decide) (by intro d hd; simp at hd ⊢; omega)
    (fun st wx => (PS (seenT (typeE [] t 3)) (seenT (typeE [] u 3)) (seenN []) 34 34 zeroK4 zeroK4 1 3 99 4 5 6 7 w4) st wx)
    [.free (.agg #[.int .u8 k, .int .u8 n, .slice a c cap]), .link none, .free (.agg #[.int .u8 k', .int .u8 n', .slice a' c' cap']), .link none, .link none, .link none, .link none, .link none]
    (by kernel_rfl) ?h05 ?step5 ?fin5
  case h05 => exact PA.ps ⟨(Fr.refl _ _).drew, fun v h => (by cases h), fun v h => (by cases h), fun v h => (by cases h), fun v h => (by cases h), fun v h => (by cases h), fun v h => (by cases h)⟩ rfl rfl
  case step5 =>
    intro vals
    simp only [frOfU, fillU, List.setIfInBounds_toArray, List.set_cons_succ, List.set_cons_zero]
    repeat' (first | exact AllOps.nil | refine AllOps.cons ?_ ?_)
    all_goals
      intro st wx hS he hu hn Kc hK
      simp only [Act.put, List.setIfInBounds_toArray, List.set_cons_succ, List.set_cons_zero, List.getD_cons_zero, List.getD_cons_succ] at hK
      simp only [List.mem_cons, List.not_mem_nil, or_false, forall_eq_or_imp, forall_eq, Region.binds, forall_const, pmode_gc, Bool.false_eq_true, false_imp_iff, List.getD_cons_zero, List.getD_cons_succ, OpSort.val, OpSort.isLink, Option.some.injEq, forall_eq', reduceCtorEq, implies_true, true_and, and_true] at he
      have qn := box_kept H4.out.2.1 hS.fr (fun h => h)
      have qm := box_kept H4.out.2.2 hS.fr (fun h => h)
      have c0 := cells_row qn 0 _ rfl
      have c1 := cells_row qn 1 _ rfl
      have c2 := cells_row qn 2 _ rfl
      have e0 := cells_row qm 0 _ rfl
      have e1' := cells_row qm 1 _ rfl
      have e2'' := cells_row qm 2 _ rfl
      clear qn qm
      have HSX := Lib.hid hS
      clear hS
    all_goals first | (clear hu hn; (try simp only [he] at hK ⊢); go_simp; exact hK) | skip
    · have hs1 := (hu 6 (by simp) (by kernel_rfl)).2
      have hs2 := (hu 7 (by simp) (by kernel_rfl)).2
      have ha := Lib.hid (HSX.out.a hs1 hs2)
      clear hu hn
      simp only [he] at hK ⊢
      go_simp
      go_at_call 15
      refine (type_any [] t (fun _ => True) _ (.slice none 0 0) wx 3 3 rfl (by omega) (by omega) (NShows.fr (H4.out.1.trans ha.out.fr (fun _ _ h => h)) _ _ HN.out.1) (texts_none _ _ _ _)).mono ?_
      rintro er wa ⟨v', rfl, ht0, fra⟩
      have ht : (seenT (typeE [] t 3)).sh (fun k => k < w4.heap.size ∨ wx.heap.size ≤ k) wa v' := Shows.mono (fun k _ h => .inr h) _ _ ht0
      exact hK _ _ (fun _ h => by cases h) (PA.ps (ha.out.call1 hdif5 fra ht) hs1 hs2)
    · have hs1 := (hu 6 (by simp) (by kernel_rfl)).2
      have hs2 := (hu 7 (by simp) (by kernel_rfl)).2
      have ha := Lib.hid (HSX.out.a hs1 hs2)
      clear hu hn
      simp only [he] at hK ⊢
      go_simp
      go_at_call 15
      refine (type_any [] u (fun _ => True) _ (.slice none 0 0) wx 3 3 rfl (by omega) (by omega) (NShows.fr (H4.out.1.trans ha.out.fr (fun _ _ h => h)) _ _ HN.out.2) (texts_none _ _ _ _)).mono ?_
      rintro er wa ⟨v', rfl, ht0, fra⟩
      have ht : (seenT (typeE [] u 3)).sh (fun k => k < w4.heap.size ∨ wx.heap.size ≤ k) wa v' := Shows.mono (fun k _ h => .inr h) _ _ ht0
      exact hK _ _ (fun _ h => by cases h) (PA.ps (ha.out.call2 hdif5 fra ht) hs1 hs2)
    · have hs1 := (hu 6 (by simp) (by kernel_rfl)).2
      have hs2 := (hu 7 (by simp) (by kernel_rfl)).2
      have ha := Lib.hid (HSX.out.a hs1 hs2)
      clear hu hn
      go_simp
      exact hK _ _ (fun _ h => by cases h) (PA.ps (ha.out.alloc1 hdif5) hs1 hs2)
    · have hs1 := (hu 6 (by simp) (by kernel_rfl)).2
      have hs2 := (hu 7 (by simp) (by kernel_rfl)).2
      have ha := Lib.hid (HSX.out.a hs1 hs2)
      clear hu hn
      go_simp
      exact hK _ _ (fun _ h => by cases h) (PA.ps (ha.out.alloc2 hdif5) hs1 hs2)
    · have hs2 := (hu 7 (by simp) (by kernel_rfl)).2
      have ha := Lib.hid (HSX.out.a hn hs2)
      have sa : st 4 = some (vals 4) := by first | exact he | exact he.1 | exact he.2 | exact he.2.1 | exact he.2.2 | exact he.2.2.1 | exact he.2.2.2 | exact he.2.2.2.1 | exact he.2.2.2.2 | exact he.2.2.2.2.1 | exact he.2.2.2.2.2 | exact he.2.2.2.2.2.1 | exact he.2.2.2.2.2.2 | exact he.2.2.2.2.2.2.1 | exact he.2.2.2.2.2.2.2 | exact he.2.2.2.2.2.2.2.1 | exact he.2.2.2.2.2.2.2.2 | exact he.2.2.2.2.2.2.2.2.1 | exact he.2.2.2.2.2.2.2.2.2 | exact he.2.2.2.2.2.2.2.2.2.1 | exact he.2.2.2.2.2.2.2.2.2.2 | exact he.2.2.2.2.2.2.2.2.2.2.1 | exact he.2.2.2.2.2.2.2.2.2.2.2 | exact he.2.2.2.2.2.2.2.2.2.2.2.1 | exact he.2.2.2.2.2.2.2.2.2.2.2.2 | exact he.2.2.2.2.2.2.2.2.2.2.2.2.1 | exact he.2.2.2.2.2.2.2.2.2.2.2.2.2 | exact he.2.2.2.2.2.2.2.2.2.2.2.2.2.1 | exact he.2.2.2.2.2.2.2.2.2.2.2.2.2.2
      have sb : st 5 = some (vals 5) := by first | exact he | exact he.1 | exact he.2 | exact he.2.1 | exact he.2.2 | exact he.2.2.1 | exact he.2.2.2 | exact he.2.2.2.1 | exact he.2.2.2.2 | exact he.2.2.2.2.1 | exact he.2.2.2.2.2 | exact he.2.2.2.2.2.1 | exact he.2.2.2.2.2.2 | exact he.2.2.2.2.2.2.1 | exact he.2.2.2.2.2.2.2 | exact he.2.2.2.2.2.2.2.1 | exact he.2.2.2.2.2.2.2.2 | exact he.2.2.2.2.2.2.2.2.1 | exact he.2.2.2.2.2.2.2.2.2 | exact he.2.2.2.2.2.2.2.2.2.1 | exact he.2.2.2.2.2.2.2.2.2.2 | exact he.2.2.2.2.2.2.2.2.2.2.1 | exact he.2.2.2.2.2.2.2.2.2.2.2 | exact he.2.2.2.2.2.2.2.2.2.2.2.1 | exact he.2.2.2.2.2.2.2.2.2.2.2.2 | exact he.2.2.2.2.2.2.2.2.2.2.2.2.1 | exact he.2.2.2.2.2.2.2.2.2.2.2.2.2 | exact he.2.2.2.2.2.2.2.2.2.2.2.2.2.1 | exact he.2.2.2.2.2.2.2.2.2.2.2.2.2.2
      have sc : st 1 = some (vals 1) := by first | exact he | exact he.1 | exact he.2 | exact he.2.1 | exact he.2.2 | exact he.2.2.1 | exact he.2.2.2 | exact he.2.2.2.1 | exact he.2.2.2.2 | exact he.2.2.2.2.1 | exact he.2.2.2.2.2 | exact he.2.2.2.2.2.1 | exact he.2.2.2.2.2.2 | exact he.2.2.2.2.2.2.1 | exact he.2.2.2.2.2.2.2 | exact he.2.2.2.2.2.2.2.1 | exact he.2.2.2.2.2.2.2.2 | exact he.2.2.2.2.2.2.2.2.1 | exact he.2.2.2.2.2.2.2.2.2 | exact he.2.2.2.2.2.2.2.2.2.1 | exact he.2.2.2.2.2.2.2.2.2.2 | exact he.2.2.2.2.2.2.2.2.2.2.1 | exact he.2.2.2.2.2.2.2.2.2.2.2 | exact he.2.2.2.2.2.2.2.2.2.2.2.1 | exact he.2.2.2.2.2.2.2.2.2.2.2.2 | exact he.2.2.2.2.2.2.2.2.2.2.2.2.1 | exact he.2.2.2.2.2.2.2.2.2.2.2.2.2 | exact he.2.2.2.2.2.2.2.2.2.2.2.2.2.1 | exact he.2.2.2.2.2.2.2.2.2.2.2.2.2.2
      have sd : st 3 = some (vals 3) := by first | exact he | exact he.1 | exact he.2 | exact he.2.1 | exact he.2.2 | exact he.2.2.1 | exact he.2.2.2 | exact he.2.2.2.1 | exact he.2.2.2.2 | exact he.2.2.2.2.1 | exact he.2.2.2.2.2 | exact he.2.2.2.2.2.1 | exact he.2.2.2.2.2.2 | exact he.2.2.2.2.2.2.1 | exact he.2.2.2.2.2.2.2 | exact he.2.2.2.2.2.2.2.1 | exact he.2.2.2.2.2.2.2.2 | exact he.2.2.2.2.2.2.2.2.1 | exact he.2.2.2.2.2.2.2.2.2 | exact he.2.2.2.2.2.2.2.2.2.1 | exact he.2.2.2.2.2.2.2.2.2.2 | exact he.2.2.2.2.2.2.2.2.2.2.1 | exact he.2.2.2.2.2.2.2.2.2.2.2 | exact he.2.2.2.2.2.2.2.2.2.2.2.1 | exact he.2.2.2.2.2.2.2.2.2.2.2.2 | exact he.2.2.2.2.2.2.2.2.2.2.2.2.1 | exact he.2.2.2.2.2.2.2.2.2.2.2.2.2 | exact he.2.2.2.2.2.2.2.2.2.2.2.2.2.1 | exact he.2.2.2.2.2.2.2.2.2.2.2.2.2.2
      obtain ⟨g1, e1, hg1, hc1⟩ := ha.out.p1 _ sa
      obtain ⟨g2, e2, hg2, hc2⟩ := ha.out.p2 _ sb
      obtain ⟨k, m, a, n, c, a', n', c', el⟩ := shows_lit8 (ha.out.c1 _ sc)
      have HH := Lib.hid (And.intro sc (And.intro sd (And.intro (e1 ▸ sa) (And.intro (e2 ▸ sb) (And.intro el hc1)))))
      have z0 : wx.frozen? ⟨g1, 0, none⟩ = false := by simp [World.frozen?, hc1]
      have z1 : wx.frozen? ⟨g1, 1, none⟩ = false := by simp [World.frozen?, hc1]
      have z2 : wx.frozen? ⟨g1, 2, none⟩ = false := by simp [World.frozen?, hc1]
      have z3 : wx.frozen? ⟨g1, 3, none⟩ = false := by simp [World.frozen?, hc1]
      have d0 := cells_row hc1 0 _ rfl
      have d1 := cells_row hc1 1 _ rfl
      have d2 := cells_row hc1 2 _ rfl
      have d3 := cells_row hc1 3 _ rfl
      simp only [zeroK4, List.getElem_toArray, List.getElem_cons_succ, List.getElem_cons_zero] at d0 d1 d2 d3
      unfold pptr at e1
      clear hu hn hc1 hc2 sa sb sc sd e2 he c0 c1 c2 e0 e1' e2''
      simp only [e1, el] at hK ⊢
      go_simp
      exact hK undef _ (fun _ h => by cases h) (PA.store1 ha.out HH.out.1 HH.out.2.1 HH.out.2.2.1 HH.out.2.2.2.1 (by decide) hs2 (by decide) (by decide) (by decide) HH.out.2.2.2.2.1 (store_four HH.out.2.2.2.2.2) (fr_four _ _ _ _ (Fr.refl _ _) (fun _ => rfl)))
    · have sb : st 5 = some (vals 5) := by first | exact he | exact he.1 | exact he.2 | exact he.2.1 | exact he.2.2 | exact he.2.2.1 | exact he.2.2.2 | exact he.2.2.2.1 | exact he.2.2.2.2 | exact he.2.2.2.2.1 | exact he.2.2.2.2.2 | exact he.2.2.2.2.2.1 | exact he.2.2.2.2.2.2 | exact he.2.2.2.2.2.2.1 | exact he.2.2.2.2.2.2.2 | exact he.2.2.2.2.2.2.2.1 | exact he.2.2.2.2.2.2.2.2 | exact he.2.2.2.2.2.2.2.2.1 | exact he.2.2.2.2.2.2.2.2.2 | exact he.2.2.2.2.2.2.2.2.2.1 | exact he.2.2.2.2.2.2.2.2.2.2 | exact he.2.2.2.2.2.2.2.2.2.2.1 | exact he.2.2.2.2.2.2.2.2.2.2.2 | exact he.2.2.2.2.2.2.2.2.2.2.2.1 | exact he.2.2.2.2.2.2.2.2.2.2.2.2 | exact he.2.2.2.2.2.2.2.2.2.2.2.2.1 | exact he.2.2.2.2.2.2.2.2.2.2.2.2.2 | exact he.2.2.2.2.2.2.2.2.2.2.2.2.2.1 | exact he.2.2.2.2.2.2.2.2.2.2.2.2.2.2
      have sd : st 3 = some (vals 3) := by first | exact he | exact he.1 | exact he.2 | exact he.2.1 | exact he.2.2 | exact he.2.2.1 | exact he.2.2.2 | exact he.2.2.2.1 | exact he.2.2.2.2 | exact he.2.2.2.2.1 | exact he.2.2.2.2.2 | exact he.2.2.2.2.2.1 | exact he.2.2.2.2.2.2 | exact he.2.2.2.2.2.2.1 | exact he.2.2.2.2.2.2.2 | exact he.2.2.2.2.2.2.2.1 | exact he.2.2.2.2.2.2.2.2 | exact he.2.2.2.2.2.2.2.2.1 | exact he.2.2.2.2.2.2.2.2.2 | exact he.2.2.2.2.2.2.2.2.2.1 | exact he.2.2.2.2.2.2.2.2.2.2 | exact he.2.2.2.2.2.2.2.2.2.2.1 | exact he.2.2.2.2.2.2.2.2.2.2.2 | exact he.2.2.2.2.2.2.2.2.2.2.2.1 | exact he.2.2.2.2.2.2.2.2.2.2.2.2 | exact he.2.2.2.2.2.2.2.2.2.2.2.2.1 | exact he.2.2.2.2.2.2.2.2.2.2.2.2.2 | exact he.2.2.2.2.2.2.2.2.2.2.2.2.2.1 | exact he.2.2.2.2.2.2.2.2.2.2.2.2.2.2
      have ss : st 6 = some (vals 6) := by first | exact he | exact he.1 | exact he.2 | exact he.2.1 | exact he.2.2 | exact he.2.2.1 | exact he.2.2.2 | exact he.2.2.2.1 | exact he.2.2.2.2 | exact he.2.2.2.2.1 | exact he.2.2.2.2.2 | exact he.2.2.2.2.2.1 | exact he.2.2.2.2.2.2 | exact he.2.2.2.2.2.2.1 | exact he.2.2.2.2.2.2.2 | exact he.2.2.2.2.2.2.2.1 | exact he.2.2.2.2.2.2.2.2 | exact he.2.2.2.2.2.2.2.2.1 | exact he.2.2.2.2.2.2.2.2.2 | exact he.2.2.2.2.2.2.2.2.2.1 | exact he.2.2.2.2.2.2.2.2.2.2 | exact he.2.2.2.2.2.2.2.2.2.2.1 | exact he.2.2.2.2.2.2.2.2.2.2.2 | exact he.2.2.2.2.2.2.2.2.2.2.2.1 | exact he.2.2.2.2.2.2.2.2.2.2.2.2 | exact he.2.2.2.2.2.2.2.2.2.2.2.2.1 | exact he.2.2.2.2.2.2.2.2.2.2.2.2.2 | exact he.2.2.2.2.2.2.2.2.2.2.2.2.2.1 | exact he.2.2.2.2.2.2.2.2.2.2.2.2.2.2
      have hb := Lib.hid (HSX.out.b ss hn)
      obtain ⟨g1, g2, v2, ea, eb, e2', hf, hne, hg1, hg2, hX, hc2, hY⟩ := hb.out
      have e2 : vals 5 = pptr g2 := Option.some.inj (sb.symm.trans eb)
      have ev : vals 3 = v2 := Option.some.inj (sd.symm.trans e2')
      obtain ⟨k, m, a, n, c, a', n', c', el⟩ := shows_lit8 hY
      have HH := Lib.hid (And.intro (ev ▸ sd) (And.intro (e2 ▸ sb) (And.intro el hc2)))
      have z0 : wx.frozen? ⟨g2, 0, none⟩ = false := by simp [World.frozen?, hc2]
      have z1 : wx.frozen? ⟨g2, 1, none⟩ = false := by simp [World.frozen?, hc2]
      have z2 : wx.frozen? ⟨g2, 2, none⟩ = false := by simp [World.frozen?, hc2]
      have z3 : wx.frozen? ⟨g2, 3, none⟩ = false := by simp [World.frozen?, hc2]
      have d0 := cells_row hc2 0 _ rfl
      have d1 := cells_row hc2 1 _ rfl
      have d2 := cells_row hc2 2 _ rfl
      have d3 := cells_row hc2 3 _ rfl
      simp only [zeroK4, List.getElem_toArray, List.getElem_cons_succ, List.getElem_cons_zero] at d0 d1 d2 d3
      rw [el] at ev
      unfold pptr at e2
      clear hu hn hc2 sb sd ss ea eb e2' hX hY hf el he c0 c1 c2 e0 e1' e2''
      simp only [e2, ev] at hK ⊢
      go_simp
      exact hK undef _ (fun _ h => by cases h) (PB.store2 hb.out (HH.out.2.2.1 ▸ HH.out.1) HH.out.2.1 (by decide) (by decide) (by decide) rfl (store_four HH.out.2.2.2) (fr_four _ _ _ _ (Fr.refl _ _) (fun _ => rfl)))
  case fin5 =>
  intro vals w5 hS hV
  have v0 := hV 0 _ (by decide) rfl
  have h2 : ∃ g1 g2 v2, some (vals 4) = some (pptr g1) ∧ some (vals 5) = some (pptr g2) ∧ some (vals 3) = some v2 ∧ PIn (seenT (typeE [] t 3)) (seenT (typeE [] u 3)) 34 34 w4 g1 g2 w5 := hS
  obtain ⟨tb, ub, _, e4, e5, _, fo, hne, htb, hub, ⟨cs1, hc1, hx1⟩, ⟨cs2, hc2, hx2⟩⟩ := h2
  have x4 := Option.some.inj e4
  have x5 := Option.some.inj e5
  clear hS hV e4 e5
  unfold pptr at x4 x5
  simp only [frOfU, fillU, List.setIfInBounds_toArray, List.set_cons_succ, List.set_cons_zero]
  simp only [Nat.reduceAdd, x4, x5]
  clear x4 x5 hdif5 v0
  obtain ⟨tk, tm, ta, tn, tc, ta', tn', tc', e⟩ := shows_lit8 hx1
  cases e
  obtain ⟨uk, um, ua, un, uc, ua', un', uc', e⟩ := shows_lit8 hx2
  cases e
  have H5 := Lib.hid (And.intro (H4.out.1.trans fo (fun _ _ h => h)) (And.intro hc1 (And.intro (Shows.mono (S := fun _ => True) (fun _ _ _ => trivial) _ _ hx1) (And.intro hc2 (Shows.mono (S := fun _ => True) (fun _ _ _ => trivial) _ _ hx2)))))
  clear fo hne htb hub hc1 hx1 hc2 hx2
  have HG := Lib.hid (And.intro (good_type t 3 (by omega) HVOK.out.1) (good_type u 3 (by omega) HVOK.out.2))
  have HC := Lib.hid (And.intro (show costE (typeE [] t 3) ≤ 100000 from by have := cost_typeE [] t 3; omega) (show costE (typeE [] u 3) ≤ 100000 from by have := cost_typeE [] u 3; omega))
  have HBT := Lib.hid (And.intro (build_type l t 3 (by omega) (by omega) HVOK.out.1).2 (build_type l u 3 (by omega) (by omega) HVOK.out.2).2)
  have HBS := Lib.hid (And.intro (ptype_small t l HVOK.out.1) (ptype_small u l HVOK.out.2))
  generalize typeE [] t 3 = T at *
  generalize typeE [] u 3 = U at *
  have HNU : Hid (Nums (fun _ => True) w l (.slice la ll lc)) := Lib.hid (by
    have h1 := cnums_of HL.out.1 HL.out.2 (by have := HM.out; have := HLL.out; omega)
    rw [HLL.out] at h1
    exact h1)
  go_upto_region 6 with fail
  have hdif6 : PDif 2 5 99 6 7 := ⟨by decide, by decide, by decide, by decide, by decide, by decide, by decide, by decide, by decide, by decide⟩
  refine wp_region_links (by kernel_rfl) [some 41, some 42, some 43, some 44, some 45, some 46, some 11, some 12, none, none] rfl (by decide) (by intro d hd; simp at hd ⊢; omega)
    (fun st wx => (PS (seenV (BuildE l T)) (seenV (BuildE l U)) (seenN []) 42 42 zeroV4 zeroV4 2 5 99 6 7 8 9 w5) st wx)
    [.free (.agg #[.int .u8 tk, .int .i64 tm, .slice ta tn tc, .slice ta' tn' tc']), .free (.slice la ll lc), .link none, .free (.agg #[.int .u8 uk, .int .i64 um, .slice ua un uc, .slice ua' un' uc']), .free (.slice la ll lc), .link none, .link none, .link none, .link none, .link none]
    (by kernel_rfl) ?h06 ?step6 ?fin6
  case h06 => exact PA.ps ⟨(Fr.refl _ _).drew, fun v h => (by cases h), fun v h => (by cases h), fun v h => (by cases h), fun v h => (by cases h), fun v h => (by cases h), fun v h => (by cases h)⟩ rfl rfl
  case step6 =>
    intro vals
    simp only [frOfU, fillU, List.setIfInBounds_toArray, List.set_cons_succ, List.set_cons_zero]
    repeat' (first | exact AllOps.nil | refine AllOps.cons ?_ ?_)
    all_goals
      intro st wx hS he hu hn Kc hK
      simp only [Act.put, List.setIfInBounds_toArray, List.set_cons_succ, List.set_cons_zero, List.getD_cons_zero, List.getD_cons_succ] at hK
      simp only [List.mem_cons, List.not_mem_nil, or_false, forall_eq_or_imp, forall_eq, Region.binds, forall_const, pmode_gc, Bool.false_eq_true, false_imp_iff, List.getD_cons_zero, List.getD_cons_succ, OpSort.val, OpSort.isLink, Option.some.injEq, forall_eq', reduceCtorEq, implies_true, true_and, and_true] at he
      obtain ⟨c0, c1, c2, c3⟩ := cell_of_four (box_kept H5.out.2.1 hS.fr (fun h => h))
      obtain ⟨e0, e1', e2'', e3⟩ := cell_of_four (box_kept H5.out.2.2.2.1 hS.fr (fun h => h))
      have HSX := Lib.hid hS
      clear hS
    all_goals first | (clear hu hn; (try simp only [he] at hK ⊢); go_simp; exact hK) | skip
    · have hs1 := (hu 8 (by simp) (by kernel_rfl)).2
      have hs2 := (hu 9 (by simp) (by kernel_rfl)).2
      have ha := Lib.hid (HSX.out.a hs1 hs2)
      clear hu hn
      simp only [he] at hK ⊢
      go_simp
      go_at_call 11
      refine (Build_any (fun _ => True) l T _ (.slice la ll lc) wx (Shows.fr ha.out.fr (fun _ _ h => h) _ _ H5.out.2.2.1) ((HNU.out.fr H5.out.1 (fun _ _ h => h)).fr ha.out.fr (fun _ _ h => h)) HC.out.1).mono ?_
      rintro er wa ⟨v', rfl, ht0, fra⟩
      have ht : (seenV (BuildE l T)).sh (fun k => k < w5.heap.size ∨ wx.heap.size ≤ k) wa v' := VShows.mono (fun k _ h => .inr h) _ _ ht0
      exact hK _ _ (fun _ h => by cases h) (PA.ps (ha.out.call1 hdif6 fra ht) hs1 hs2)
    · have hs1 := (hu 8 (by simp) (by kernel_rfl)).2
      have hs2 := (hu 9 (by simp) (by kernel_rfl)).2
      have ha := Lib.hid (HSX.out.a hs1 hs2)
      clear hu hn
      simp only [he] at hK ⊢
      go_simp
      go_at_call 11
      refine (Build_any (fun _ => True) l U _ (.slice la ll lc) wx (Shows.fr ha.out.fr (fun _ _ h => h) _ _ H5.out.2.2.2.2) ((HNU.out.fr H5.out.1 (fun _ _ h => h)).fr ha.out.fr (fun _ _ h => h)) HC.out.2).mono ?_
      rintro er wa ⟨v', rfl, ht0, fra⟩
      have ht : (seenV (BuildE l U)).sh (fun k => k < w5.heap.size ∨ wx.heap.size ≤ k) wa v' := VShows.mono (fun k _ h => .inr h) _ _ ht0
      exact hK _ _ (fun _ h => by cases h) (PA.ps (ha.out.call2 hdif6 fra ht) hs1 hs2)
    · have hs1 := (hu 8 (by simp) (by kernel_rfl)).2
      have hs2 := (hu 9 (by simp) (by kernel_rfl)).2
      have ha := Lib.hid (HSX.out.a hs1 hs2)
      clear hu hn
      go_simp
      exact hK _ _ (fun _ h => by cases h) (PA.ps (ha.out.alloc1 hdif6) hs1 hs2)
    · have hs1 := (hu 8 (by simp) (by kernel_rfl)).2
      have hs2 := (hu 9 (by simp) (by kernel_rfl)).2
      have ha := Lib.hid (HSX.out.a hs1 hs2)
      clear hu hn
      go_simp
      exact hK _ _ (fun _ h => by cases h) (PA.ps (ha.out.alloc2 hdif6) hs1 hs2)
    · have hs2 := (hu 9 (by simp) (by kernel_rfl)).2
      have ha := Lib.hid (HSX.out.a hn hs2)
      have sa : st 6 = some (vals 6) := by first | exact he | exact he.1 | exact he.2 | exact he.2.1 | exact he.2.2 | exact he.2.2.1 | exact he.2.2.2 | exact he.2.2.2.1 | exact he.2.2.2.2 | exact he.2.2.2.2.1 | exact he.2.2.2.2.2 | exact he.2.2.2.2.2.1 | exact he.2.2.2.2.2.2 | exact he.2.2.2.2.2.2.1 | exact he.2.2.2.2.2.2.2 | exact he.2.2.2.2.2.2.2.1 | exact he.2.2.2.2.2.2.2.2 | exact he.2.2.2.2.2.2.2.2.1 | exact he.2.2.2.2.2.2.2.2.2 | exact he.2.2.2.2.2.2.2.2.2.1 | exact he.2.2.2.2.2.2.2.2.2.2 | exact he.2.2.2.2.2.2.2.2.2.2.1 | exact he.2.2.2.2.2.2.2.2.2.2.2 | exact he.2.2.2.2.2.2.2.2.2.2.2.1 | exact he.2.2.2.2.2.2.2.2.2.2.2.2 | exact he.2.2.2.2.2.2.2.2.2.2.2.2.1 | exact he.2.2.2.2.2.2.2.2.2.2.2.2.2 | exact he.2.2.2.2.2.2.2.2.2.2.2.2.2.1 | exact he.2.2.2.2.2.2.2.2.2.2.2.2.2.2
      have sb : st 7 = some (vals 7) := by first | exact he | exact he.1 | exact he.2 | exact he.2.1 | exact he.2.2 | exact he.2.2.1 | exact he.2.2.2 | exact he.2.2.2.1 | exact he.2.2.2.2 | exact he.2.2.2.2.1 | exact he.2.2.2.2.2 | exact he.2.2.2.2.2.1 | exact he.2.2.2.2.2.2 | exact he.2.2.2.2.2.2.1 | exact he.2.2.2.2.2.2.2 | exact he.2.2.2.2.2.2.2.1 | exact he.2.2.2.2.2.2.2.2 | exact he.2.2.2.2.2.2.2.2.1 | exact he.2.2.2.2.2.2.2.2.2 | exact he.2.2.2.2.2.2.2.2.2.1 | exact he.2.2.2.2.2.2.2.2.2.2 | exact he.2.2.2.2.2.2.2.2.2.2.1 | exact he.2.2.2.2.2.2.2.2.2.2.2 | exact he.2.2.2.2.2.2.2.2.2.2.2.1 | exact he.2.2.2.2.2.2.2.2.2.2.2.2 | exact he.2.2.2.2.2.2.2.2.2.2.2.2.1 | exact he.2.2.2.2.2.2.2.2.2.2.2.2.2 | exact he.2.2.2.2.2.2.2.2.2.2.2.2.2.1 | exact he.2.2.2.2.2.2.2.2.2.2.2.2.2.2
      have sc : st 2 = some (vals 2) := by first | exact he | exact he.1 | exact he.2 | exact he.2.1 | exact he.2.2 | exact he.2.2.1 | exact he.2.2.2 | exact he.2.2.2.1 | exact he.2.2.2.2 | exact he.2.2.2.2.1 | exact he.2.2.2.2.2 | exact he.2.2.2.2.2.1 | exact he.2.2.2.2.2.2 | exact he.2.2.2.2.2.2.1 | exact he.2.2.2.2.2.2.2 | exact he.2.2.2.2.2.2.2.1 | exact he.2.2.2.2.2.2.2.2 | exact he.2.2.2.2.2.2.2.2.1 | exact he.2.2.2.2.2.2.2.2.2 | exact he.2.2.2.2.2.2.2.2.2.1 | exact he.2.2.2.2.2.2.2.2.2.2 | exact he.2.2.2.2.2.2.2.2.2.2.1 | exact he.2.2.2.2.2.2.2.2.2.2.2 | exact he.2.2.2.2.2.2.2.2.2.2.2.1 | exact he.2.2.2.2.2.2.2.2.2.2.2.2 | exact he.2.2.2.2.2.2.2.2.2.2.2.2.1 | exact he.2.2.2.2.2.2.2.2.2.2.2.2.2 | exact he.2.2.2.2.2.2.2.2.2.2.2.2.2.1 | exact he.2.2.2.2.2.2.2.2.2.2.2.2.2.2
      have sd : st 5 = some (vals 5) := by first | exact he | exact he.1 | exact he.2 | exact he.2.1 | exact he.2.2 | exact he.2.2.1 | exact he.2.2.2 | exact he.2.2.2.1 | exact he.2.2.2.2 | exact he.2.2.2.2.1 | exact he.2.2.2.2.2 | exact he.2.2.2.2.2.1 | exact he.2.2.2.2.2.2 | exact he.2.2.2.2.2.2.1 | exact he.2.2.2.2.2.2.2 | exact he.2.2.2.2.2.2.2.1 | exact he.2.2.2.2.2.2.2.2 | exact he.2.2.2.2.2.2.2.2.1 | exact he.2.2.2.2.2.2.2.2.2 | exact he.2.2.2.2.2.2.2.2.2.1 | exact he.2.2.2.2.2.2.2.2.2.2 | exact he.2.2.2.2.2.2.2.2.2.2.1 | exact he.2.2.2.2.2.2.2.2.2.2.2 | exact he.2.2.2.2.2.2.2.2.2.2.2.1 | exact he.2.2.2.2.2.2.2.2.2.2.2.2 | exact he.2.2.2.2.2.2.2.2.2.2.2.2.1 | exact he.2.2.2.2.2.2.2.2.2.2.2.2.2 | exact he.2.2.2.2.2.2.2.2.2.2.2.2.2.1 | exact he.2.2.2.2.2.2.2.2.2.2.2.2.2.2
      obtain ⟨g1, e1, hg1, hc1⟩ := ha.out.p1 _ sa
      obtain ⟨g2, e2, hg2, hc2⟩ := ha.out.p2 _ sb
      obtain ⟨vn, vf, vs, va, vc, vcap, el⟩ := vshows_lit6 (ha.out.c1 _ sc)
      have HH := Lib.hid (And.intro sc (And.intro sd (And.intro (e1 ▸ sa) (And.intro (e2 ▸ sb) (And.intro el hc1)))))
      have z0 : wx.frozen? ⟨g1, 0, none⟩ = false := by simp [World.frozen?, hc1]
      have z1 : wx.frozen? ⟨g1, 1, none⟩ = false := by simp [World.frozen?, hc1]
      have z2 : wx.frozen? ⟨g1, 2, none⟩ = false := by simp [World.frozen?, hc1]
      have z3 : wx.frozen? ⟨g1, 3, none⟩ = false := by simp [World.frozen?, hc1]
      have d0 := cells_row hc1 0 _ rfl
      have d1 := cells_row hc1 1 _ rfl
      have d2 := cells_row hc1 2 _ rfl
      have d3 := cells_row hc1 3 _ rfl
      simp only [zeroV4, List.getElem_toArray, List.getElem_cons_succ, List.getElem_cons_zero] at d0 d1 d2 d3
      unfold pptr at e1
      clear hu hn hc1 hc2 sa sb sc sd e2 he c0 c1 c2 c3 e0 e1' e2'' e3
      simp only [e1, el] at hK ⊢
      go_simp
      exact hK undef _ (fun _ h => by cases h) (PA.store1 ha.out HH.out.1 HH.out.2.1 HH.out.2.2.1 HH.out.2.2.2.1 (by decide) hs2 (by decide) (by decide) (by decide) HH.out.2.2.2.2.1 (store_four HH.out.2.2.2.2.2) (fr_four _ _ _ _ (Fr.refl _ _) (fun _ => rfl)))
    · have sb : st 7 = some (vals 7) := by first | exact he | exact he.1 | exact he.2 | exact he.2.1 | exact he.2.2 | exact he.2.2.1 | exact he.2.2.2 | exact he.2.2.2.1 | exact he.2.2.2.2 | exact he.2.2.2.2.1 | exact he.2.2.2.2.2 | exact he.2.2.2.2.2.1 | exact he.2.2.2.2.2.2 | exact he.2.2.2.2.2.2.1 | exact he.2.2.2.2.2.2.2 | exact he.2.2.2.2.2.2.2.1 | exact he.2.2.2.2.2.2.2.2 | exact he.2.2.2.2.2.2.2.2.1 | exact he.2.2.2.2.2.2.2.2.2 | exact he.2.2.2.2.2.2.2.2.2.1 | exact he.2.2.2.2.2.2.2.2.2.2 | exact he.2.2.2.2.2.2.2.2.2.2.1 | exact he.2.2.2.2.2.2.2.2.2.2.2 | exact he.2.2.2.2.2.2.2.2.2.2.2.1 | exact he.2.2.2.2.2.2.2.2.2.2.2.2 | exact he.2.2.2.2.2.2.2.2.2.2.2.2.1 | exact he.2.2.2.2.2.2.2.2.2.2.2.2.2 | exact he.2.2.2.2.2.2.2.2.2.2.2.2.2.1 | exact he.2.2.2.2.2.2.2.2.2.2.2.2.2.2
      have sd : st 5 = some (vals 5) := by first | exact he | exact he.1 | exact he.2 | exact he.2.1 | exact he.2.2 | exact he.2.2.1 | exact he.2.2.2 | exact he.2.2.2.1 | exact he.2.2.2.2 | exact he.2.2.2.2.1 | exact he.2.2.2.2.2 | exact he.2.2.2.2.2.1 | exact he.2.2.2.2.2.2 | exact he.2.2.2.2.2.2.1 | exact he.2.2.2.2.2.2.2 | exact he.2.2.2.2.2.2.2.1 | exact he.2.2.2.2.2.2.2.2 | exact he.2.2.2.2.2.2.2.2.1 | exact he.2.2.2.2.2.2.2.2.2 | exact he.2.2.2.2.2.2.2.2.2.1 | exact he.2.2.2.2.2.2.2.2.2.2 | exact he.2.2.2.2.2.2.2.2.2.2.1 | exact he.2.2.2.2.2.2.2.2.2.2.2 | exact he.2.2.2.2.2.2.2.2.2.2.2.1 | exact he.2.2.2.2.2.2.2.2.2.2.2.2 | exact he.2.2.2.2.2.2.2.2.2.2.2.2.1 | exact he.2.2.2.2.2.2.2.2.2.2.2.2.2 | exact he.2.2.2.2.2.2.2.2.2.2.2.2.2.1 | exact he.2.2.2.2.2.2.2.2.2.2.2.2.2.2
      have ss : st 8 = some (vals 8) := by first | exact he | exact he.1 | exact he.2 | exact he.2.1 | exact he.2.2 | exact he.2.2.1 | exact he.2.2.2 | exact he.2.2.2.1 | exact he.2.2.2.2 | exact he.2.2.2.2.1 | exact he.2.2.2.2.2 | exact he.2.2.2.2.2.1 | exact he.2.2.2.2.2.2 | exact he.2.2.2.2.2.2.1 | exact he.2.2.2.2.2.2.2 | exact he.2.2.2.2.2.2.2.1 | exact he.2.2.2.2.2.2.2.2 | exact he.2.2.2.2.2.2.2.2.1 | exact he.2.2.2.2.2.2.2.2.2 | exact he.2.2.2.2.2.2.2.2.2.1 | exact he.2.2.2.2.2.2.2.2.2.2 | exact he.2.2.2.2.2.2.2.2.2.2.1 | exact he.2.2.2.2.2.2.2.2.2.2.2 | exact he.2.2.2.2.2.2.2.2.2.2.2.1 | exact he.2.2.2.2.2.2.2.2.2.2.2.2 | exact he.2.2.2.2.2.2.2.2.2.2.2.2.1 | exact he.2.2.2.2.2.2.2.2.2.2.2.2.2 | exact he.2.2.2.2.2.2.2.2.2.2.2.2.2.1 | exact he.2.2.2.2.2.2.2.2.2.2.2.2.2.2
      have hb := Lib.hid (HSX.out.b ss hn)
      obtain ⟨g1, g2, v2, ea, eb, e2', hf, hne, hg1, hg2, hX, hc2, hY⟩ := hb.out
      have e2 : vals 7 = pptr g2 := Option.some.inj (sb.symm.trans eb)
      have ev : vals 5 = v2 := Option.some.inj (sd.symm.trans e2')
      obtain ⟨vn, vf, vs, va, vc, vcap, el⟩ := vshows_lit6 hY
      have HH := Lib.hid (And.intro (ev ▸ sd) (And.intro (e2 ▸ sb) (And.intro el hc2)))
      have z0 : wx.frozen? ⟨g2, 0, none⟩ = false := by simp [World.frozen?, hc2]
      have z1 : wx.frozen? ⟨g2, 1, none⟩ = false := by simp [World.frozen?, hc2]
      have z2 : wx.frozen? ⟨g2, 2, none⟩ = false := by simp [World.frozen?, hc2]
      have z3 : wx.frozen? ⟨g2, 3, none⟩ = false := by simp [World.frozen?, hc2]
      have d0 := cells_row hc2 0 _ rfl
      have d1 := cells_row hc2 1 _ rfl
      have d2 := cells_row hc2 2 _ rfl
      have d3 := cells_row hc2 3 _ rfl
      simp only [zeroV4, List.getElem_toArray, List.getElem_cons_succ, List.getElem_cons_zero] at d0 d1 d2 d3
      rw [el] at ev
      unfold pptr at e2
      clear hu hn hc2 sb sd ss ea eb e2' hX hY hf el he c0 c1 c2 c3 e0 e1' e2'' e3
      simp only [e2, ev] at hK ⊢
      go_simp
      exact hK undef _ (fun _ h => by cases h) (PB.store2 hb.out (HH.out.2.2.1 ▸ HH.out.1) HH.out.2.1 (by decide) (by decide) (by decide) rfl (store_four HH.out.2.2.2) (fr_four _ _ _ _ (Fr.refl _ _) (fun _ => rfl)))
  case fin6 =>
  intro vals w6 hS hV
  have v0 := hV 0 _ (by decide) rfl
  have h2 : ∃ g1 g2 v2, some (vals 6) = some (pptr g1) ∧ some (vals 7) = some (pptr g2) ∧ some (vals 5) = some v2 ∧ PIn (seenV (BuildE l T)) (seenV (BuildE l U)) 42 42 w5 g1 g2 w6 := hS
  obtain ⟨vb, xb, _, e4, e5, _, fo, hne, hvb, hxb, ⟨cs1, hc1, hx1⟩, ⟨cs2, hc2, hx2⟩⟩ := h2
  have x4 := Option.some.inj e4
  have x5 := Option.some.inj e5
  clear hS hV e4 e5
  unfold pptr at x4 x5
  simp only [frOfU, fillU, List.setIfInBounds_toArray, List.set_cons_succ, List.set_cons_zero]
  simp only [Nat.reduceAdd, x4, x5]
  clear x4 x5 hdif6 v0
  obtain ⟨vn, vf, vs, va, vc, vcap, e⟩ := vshows_lit6 hx1
  cases e
  obtain ⟨xn, xf, xs, xa, xc, xcap, e⟩ := vshows_lit6 hx2
  cases e
  generalize BuildE l T = A at *
  generalize BuildE l U = B at *
  have H6 : Hid (Fr (fun _ => False) w w6 ∧ (w6.heap[tb]? = some (.cells #[.int .u8 tk, .int .i64 tm, .slice ta tn tc, .slice ta' tn' tc'] 34 (0, 0)) ∧ Shows (fun _ => True) w6 T (.agg #[.int .u8 tk, .int .i64 tm, .slice ta tn tc, .slice ta' tn' tc'])) ∧ (w6.heap[ub]? = some (.cells #[.int .u8 uk, .int .i64 um, .slice ua un uc, .slice ua' un' uc'] 34 (0, 0)) ∧ Shows (fun _ => True) w6 U (.agg #[.int .u8 uk, .int .i64 um, .slice ua un uc, .slice ua' un' uc'])) ∧
      (w6.heap[vb]? = some (.cells #[.int .i64 vn, .float .f64 vf, .string vs, .slice va vc vcap] 42 (0, 0)) ∧ VShows (fun _ => True) w6 A (.agg #[.int .i64 vn, .float .f64 vf, .string vs, .slice va vc vcap])) ∧ (w6.heap[xb]? = some (.cells #[.int .i64 xn, .float .f64 xf, .string xs, .slice xa xc xcap] 42 (0, 0)) ∧ VShows (fun _ => True) w6 B (.agg #[.int .i64 xn, .float .f64 xf, .string xs, .slice xa xc xcap]))) :=
    Lib.hid ⟨H5.out.1.trans fo (fun _ _ h => h), ⟨box_kept H5.out.2.1 fo (fun h => h), Shows.fr fo (fun _ _ h => h) _ _ H5.out.2.2.1⟩, ⟨box_kept H5.out.2.2.2.1 fo (fun h => h), Shows.fr fo (fun _ _ h => h) _ _ H5.out.2.2.2.2⟩, ⟨hc1, VShows.mono (S := fun _ => True) (fun _ _ _ => trivial) _ _ hx1⟩, ⟨hc2, VShows.mono (S := fun _ => True) (fun _ _ _ => trivial) _ _ hx2⟩⟩
  clear fo hne hvb hxb hc1 hx1 hc2 hx2
  obtain ⟨c0, c1, c2, c3⟩ := cell_of_four H6.out.2.1.1
  obtain ⟨d0, d1, d2, d3⟩ := cell_of_four H6.out.2.2.2.1.1
  go_wp2_with fail
  refine (cput_any (fun _ => True) T A _ _ w6 H6.out.2.1.2 H6.out.2.2.2.1.2 HG.out.1.1 HBT.out.1 (by have := HBS.out.1; omega)).mono ?_
  rintro er w7 ⟨pv, rfl, hb7, f7⟩
  have HB7 := Lib.hid hb7
  have H7 := Lib.hid (And.intro (H6.out.1.trans f7 (fun _ _ h => h)) (And.intro f7 (And.intro (box_kept H6.out.2.2.1.1 f7 (fun h => h)) (box_kept H6.out.2.2.2.2.1 f7 (fun h => h)))))
  clear c0 c1 c2 c3 d0 d1 d2 d3 hb7 f7
  obtain ⟨pl, hpl⟩ : ∃ pl, (if (encE T A).length ≤ 4000 then encE T A else []) = pl := ⟨_, rfl⟩
  obtain ⟨pe, hpe⟩ : ∃ pe : Int, (if (encE T A).length ≤ 4000 then 0 else 6 : Int) = pe := ⟨_, rfl⟩
  rw [hpl] at HB7
  rw [hpe]
  have HPE := Lib.hid (And.intro hpl hpe)
  clear hpl hpe
  obtain ⟨pa, pc, rfl⟩ := new_slice HB7.out
  obtain ⟨c0, c1, c2, c3⟩ := cell_of_four H7.out.2.2.1
  obtain ⟨d0, d1, d2, d3⟩ := cell_of_four H7.out.2.2.2
  go_wp2_with fail
  refine (cput_any (fun _ => True) U B _ _ w7 (Shows.fr H7.out.2.1 (fun _ _ h => h) _ _ H6.out.2.2.1.2) (VShows.fr H7.out.2.1 (fun _ _ h => h) _ _ H6.out.2.2.2.2.2) HG.out.2.1 HBT.out.2 (by have := HBS.out.2; omega)).mono ?_
  rintro er w8 ⟨qv, rfl, hb8, f8⟩
  have HB8 := Lib.hid hb8
  have H8 := Lib.hid (And.intro (H7.out.1.trans f8 (fun _ _ h => h)) (And.intro f8 (H7.out.2.1.trans f8 (fun _ _ h => h))))
  clear c0 c1 c2 c3 d0 d1 d2 d3 hb8 f8
  obtain ⟨ql, hql⟩ : ∃ ql, (if (encE U B).length ≤ 4000 then encE U B else []) = ql := ⟨_, rfl⟩
  obtain ⟨qe, hqe⟩ : ∃ qe : Int, (if (encE U B).length ≤ 4000 then 0 else 6 : Int) = qe := ⟨_, rfl⟩
  rw [hql] at HB8
  rw [hqe]
  have HQE := Lib.hid (And.intro hql hqe)
  clear hql hqe
  obtain ⟨qa, qc, rfl⟩ := new_slice HB8.out
  have qt := box_kept H6.out.2.1.1 H8.out.2.2 (fun h => h)
  have qu := box_kept H6.out.2.2.1.1 H8.out.2.2 (fun h => h)
  have htl : tb < w8.heap.size := lt_of_block qt
  have hul : ub < w8.heap.size := lt_of_block qu
  have htn : tb ≠ w8.heap.size := by omega
  have hun : ub ≠ w8.heap.size := by omega
  obtain ⟨c0, c1, c2, c3⟩ := cell_of_four qt
  obtain ⟨d0, d1, d2, d3⟩ := cell_of_four qu
  clear qt qu
  obtain ⟨w9, hw9⟩ : ∃ w9, w9 = ((w8.alloc (.cells #[.string ⟨#[97]⟩, .string ⟨#[98]⟩] 9)).alloc (.cells #[.int .u8 tk, .int .i64 tm, .slice ta tn tc, .slice ta' tn' tc', .int .u8 uk, .int .i64 um, .slice ua un uc, .slice ua' un' uc'] 34)).alloc (.cells #[.int .u8 6, .int .i64 0, .slice (some ⟨w8.heap.size, 0, none⟩) 2 2, .slice (some ⟨w8.heap.size + 1, 0, none⟩) 2 2] 34) := ⟨_, rfl⟩
  have f9 : Fr (fun _ => False) w8 w9 := by rw [hw9]; exact (((Fr.refl _ _).alloc _).alloc _).alloc _
  have s9 : w9.heap[w8.heap.size]? = some (.cells #[.string ⟨#[97]⟩, .string ⟨#[98]⟩] 9 (0, 0)) := by rw [hw9, Below.heap_alloc _ _ _ (by simp; omega)]; exact heap_alloc_first _ _ _
  have g9 : w9.heap[w8.heap.size + 1]? = some (.cells #[.int .u8 tk, .int .i64 tm, .slice ta tn tc, .slice ta' tn' tc', .int .u8 uk, .int .i64 um, .slice ua un uc, .slice ua' un' uc'] 34 (0, 0)) := by rw [hw9, Below.heap_alloc _ _ _ (by simp)]; exact heap_alloc_two _ _ _
  have r9 : w9.heap[w8.heap.size + 2]? = some (.cells #[.int .u8 6, .int .i64 0, .slice (some ⟨w8.heap.size, 0, none⟩) 2 2, .slice (some ⟨w8.heap.size + 1, 0, none⟩) 2 2] 34 (0, 0)) := by
    rw [hw9]
    have h := heap_alloc_new ((w8.alloc (.cells #[.string ⟨#[97]⟩, .string ⟨#[98]⟩] 9)).alloc (.cells #[.int .u8 tk, .int .i64 tm, .slice ta tn tc, .slice ta' tn' tc', .int .u8 uk, .int .i64 um, .slice ua un uc, .slice ua' un' uc'] 34)) (.cells #[.int .u8 6, .int .i64 0, .slice (some ⟨w8.heap.size, 0, none⟩) 2 2, .slice (some ⟨w8.heap.size + 1, 0, none⟩) 2 2] 34)
    simpa using h
  go_upto_region 10 with fail
  rw [← hw9]
  obtain ⟨gs, hgs⟩ : ∃ gs, w8.heap.size = gs := ⟨_, rfl⟩
  obtain ⟨gt, hgt⟩ : ∃ gt, w8.heap.size + 1 = gt := ⟨_, rfl⟩
  obtain ⟨rb, hrb⟩ : ∃ rb, w8.heap.size + 2 = rb := ⟨_, rfl⟩
  have hrb' : w8.heap.size + 1 + 1 = rb := by omega
  try rw [hrb]
  try rw [hrb']
  rw [hrb, hgt, hgs] at r9
  rw [hgt] at g9
  rw [hgs] at s9
  try rw [hgt]
  try rw [hgs]
  have HGS : Hid (gs ≠ rb ∧ gt ≠ rb ∧ w8.heap.size ≤ rb ∧ ∀ k, k < w8.heap.size → k ≠ rb) := Lib.hid ⟨by omega, by omega, by omega, fun k h => by omega⟩
  have H9 := Lib.hid (And.intro (H8.out.2.2.trans f9 (fun _ _ h => h)) (And.intro s9 (And.intro g9 (And.intro r9 f9))))
  clear hw9 f9 s9 g9 r9 htl hul htn hun hrb hrb' hgs hgt c0 c1 c2 c3 d0 d1 d2 d3
  have qr := H9.out.2.2.2.1
  have qv := box_kept H6.out.2.2.2.1.1 H9.out.1 (fun h => h)
  have qx := box_kept H6.out.2.2.2.2.1 H9.out.1 (fun h => h)
  have hvl : vb < w9.heap.size := lt_of_block qv
  have hxl : xb < w9.heap.size := lt_of_block qx
  have hvn : vb ≠ w9.heap.size := by omega
  have hxn : xb ≠ w9.heap.size := by omega
  obtain ⟨b0, b1, b2, b3⟩ := cell_of_four qr
  obtain ⟨c0, c1, c2, c3⟩ := cell_of_four qv
  obtain ⟨d0, d1, d2, d3⟩ := cell_of_four qx
  clear qr qv qx
  obtain ⟨w10, hw10⟩ : ∃ w10, w10 = w9.alloc (.cells #[.int .i64 vn, .float .f64 vf, .string vs, .slice va vc vcap, .int .i64 xn, .float .f64 xf, .string xs, .slice xa xc xcap] 42) := ⟨_, rfl⟩
  have f10 : Fr (fun _ => False) w9 w10 := by rw [hw10]; exact (Fr.refl _ _).alloc _
  have g10 : w10.heap[w9.heap.size]? = some (.cells #[.int .i64 vn, .float .f64 vf, .string vs, .slice va vc vcap, .int .i64 xn, .float .f64 xf, .string xs, .slice xa xc xcap] 42 (0, 0)) := by rw [hw10]; exact heap_alloc_new _ _
  go_wp2_with fail
  rw [← hw10]
  have F10 := Lib.hid (H9.out.1.trans f10 (fun _ _ h => h))
  have hrec : Shows (fun _ => True) w10 (recT T U) (.agg #[.int .u8 6, .int .i64 0, .slice (some ⟨gs, 0, none⟩) 2 2, .slice (some ⟨gt, 0, none⟩) 2 2]) :=
    shows_pairT (by omega) trivial trivial (box_kept H9.out.2.1 f10 (fun h => h)) (box_kept H9.out.2.2.1 f10 (fun h => h)) (Shows.fr F10.out (fun _ _ h => h) _ _ H6.out.2.1.2) (Shows.fr F10.out (fun _ _ h => h) _ _ H6.out.2.2.1.2)
  have hboth : VShows (fun _ => True) w10 (recV A B) (.agg #[.int .i64 0, .float .f64 0, .string ⟨#[]⟩, .slice (some ⟨w9.heap.size, 0, none⟩) 2 2]) :=
    vshows_mk (s := []) (by unfold VB maxLen; simp) (.inr ⟨by omega, w9.heap.size, 0, trivial, rfl, two_vcells g10 (VShows.fr F10.out (fun _ _ h => h) _ _ H6.out.2.2.2.1.2) (VShows.fr F10.out (fun _ _ h => h) _ _ H6.out.2.2.2.2.2)⟩)
  have HRV : Hid (isVal (recT T U) (recV A B) = true ∧ isVal (choT T U) (choV B) = true) := Lib.hid (by
    have h1 := HBT.out.1
    have h2 := HBT.out.2
    unfold isVal at h1 h2
    rw [Bool.and_eq_true] at h1 h2
    exact ⟨rec_val _ _ _ _ h1.2 h2.2 (HG.out.1.2 19 (by omega)) (HG.out.2.2 19 (by omega)), cho_val _ _ _ h2.2 (HG.out.1.2 19 (by omega)) (HG.out.2.2 19 (by omega))⟩)
  refine (cput_any (fun _ => True) (recT T U) (recV A B) _ _ w10 hrec hboth (rec_good HG.out.1.1 HG.out.2.1) HRV.out.1 (by have := HBS.out; rw [rec_sz]; omega)).mono ?_
  rintro er w11 ⟨rv, rfl, hb11, f11⟩
  have HB11 := Lib.hid hb11
  have HRB := Lib.hid (show rb < w10.heap.size from Nat.lt_of_lt_of_le (lt_of_block H9.out.2.2.2.1) f10.size)
  have H11 := Lib.hid (And.intro (H9.out.1.trans (f10.trans f11 (fun _ _ h => h)) (fun _ _ h => h)) (And.intro (H9.out.2.2.2.2.trans (f10.trans f11 (fun _ _ h => h)) (fun _ _ h => h)) (f10.trans f11 (fun _ _ h => h))))
  clear hw10 f10 g10 f11 F10 hrec hboth hb11 hvl hxl hvn hxn b0 b1 b2 b3 c0 c1 c2 c3 d0 d1 d2 d3
  rw [rec_enc] at HB11 ⊢
  obtain ⟨rl, hrl⟩ : ∃ rl, (if (encE T A ++ encE U B).length ≤ 4000 then encE T A ++ encE U B else []) = rl := ⟨_, rfl⟩
  obtain ⟨re, hre⟩ : ∃ re : Int, (if (encE T A ++ encE U B).length ≤ 4000 then 0 else 6 : Int) = re := ⟨_, rfl⟩
  rw [hrl] at HB11
  rw [hre]
  have HRE := Lib.hid (And.intro hrl hre)
  clear hrl hre
  obtain ⟨ra, rc, rfl⟩ := new_slice HB11.out
  have qr := box_kept H9.out.2.2.2.1 H11.out.2.2 (fun h => h)
  obtain ⟨b0, b1, b2, b3⟩ := cell_of_four qr
  have z0 : w11.frozen? ⟨rb, 0, none⟩ = false := by simp [World.frozen?, qr]
  obtain ⟨w12, hw12⟩ : ∃ w12, w12 = w11.setCell ⟨rb, 0, none⟩ (.int .u8 8) := ⟨_, rfl⟩
  have f12 : Fr (fun k => k = rb) w11 w12 := by rw [hw12]; exact Fr.set1 (Fr.refl _ _) 0 _
  have r12 : w12.heap[rb]? = some (.cells #[.int .u8 8, .int .i64 0, .slice (some ⟨gs, 0, none⟩) 2 2, .slice (some ⟨gt, 0, none⟩) 2 2] 34 (0, 0)) := by rw [hw12]; exact setCell_four 0 qr
  clear qr
  go_upto_region 12 with fail
  rw [← hw12]
  have H12 := Lib.hid (And.intro f12 r12)
  clear hw12 f12 r12 b0 b1 b2 b3 z0
  have HTT := Lib.hid (And.intro (Shows.fr H12.out.1 (fun k h => HGS.out.2.2.2 k h) _ _ (Shows.fr H11.out.2.1 (fun _ _ h => h) _ _ (Shows.mono (S := fun k => k < w8.heap.size) (fun k h _ => h) _ _ (Shows.fr H8.out.2.2 (fun _ _ h => h) _ _ H6.out.2.1.2)))) (And.intro (Shows.fr H12.out.1 (fun k h => HGS.out.2.2.2 k h) _ _ (Shows.fr H11.out.2.1 (fun _ _ h => h) _ _ (Shows.mono (S := fun k => k < w8.heap.size) (fun k h _ => h) _ _ (Shows.fr H8.out.2.2 (fun _ _ h => h) _ _ H6.out.2.2.1.2)))) (VShows.fr H12.out.1 (fun k h => HGS.out.2.2.2 k h) _ _ (VShows.fr H11.out.2.1 (fun _ _ h => h) _ _ (VShows.mono (S := fun k => k < w8.heap.size) (fun k h _ => h) _ _ (VShows.fr H8.out.2.2 (fun _ _ h => h) _ _ H6.out.2.2.2.2.2))))))
  have qr := H12.out.2
  have qx0 := box_kept H6.out.2.2.2.2.1 H8.out.2.2 (fun h => h)
  have hxb8 : xb < w8.heap.size := lt_of_block qx0
  have qx := box_kept (box_kept qx0 H11.out.2.1 (fun h => h)) H12.out.1 (HGS.out.2.2.2 _ hxb8)
  have hxl : xb < w12.heap.size := lt_of_block qx
  have hxn : xb ≠ w12.heap.size := by omega
  obtain ⟨b0, b1, b2, b3⟩ := cell_of_four qr
  obtain ⟨d0, d1, d2, d3⟩ := cell_of_four qx
  clear qr qx qx0 hxb8
  obtain ⟨w13, hw13⟩ : ∃ w13, w13 = w12.alloc (.cells #[.int .i64 xn, .float .f64 xf, .string xs, .slice xa xc xcap] 42) := ⟨_, rfl⟩
  have f13 : Fr (fun _ => False) w12 w13 := by rw [hw13]; exact (Fr.refl _ _).alloc _
  have g13 : w13.heap[w12.heap.size]? = some (.cells #[.int .i64 xn, .float .f64 xf, .string xs, .slice xa xc xcap] 42 (0, 0)) := by rw [hw13]; exact heap_alloc_new _ _
  go_wp2_with fail
  rw [← hw13]
  have hcho : Shows (fun _ => True) w13 (choT T U) (.agg #[.int .u8 8, .int .i64 0, .slice (some ⟨gs, 0, none⟩) 2 2, .slice (some ⟨gt, 0, none⟩) 2 2]) :=
    shows_pairT (by omega) trivial trivial (box_kept (box_kept (box_kept H9.out.2.1 H11.out.2.2 (fun h => h)) H12.out.1 HGS.out.1) f13 (fun h => h)) (box_kept (box_kept (box_kept H9.out.2.2.1 H11.out.2.2 (fun h => h)) H12.out.1 HGS.out.2.1) f13 (fun h => h)) (Shows.mono (S := fun _ => True) (fun _ _ _ => trivial) _ _ (Shows.fr f13 (fun _ _ h => h) _ _ HTT.out.1)) (Shows.mono (S := fun _ => True) (fun _ _ _ => trivial) _ _ (Shows.fr f13 (fun _ _ h => h) _ _ HTT.out.2.1))
  have hone : VShows (fun _ => True) w13 (choV B) (.agg #[.int .i64 1, .float .f64 0, .string ⟨#[]⟩, .slice (some ⟨w12.heap.size, 0, none⟩) 1 1]) :=
    vshows_mk (s := []) (by unfold VB maxLen; simp) (.inr ⟨by omega, w12.heap.size, 0, trivial, rfl, fun i hi => by
      obtain rfl : i = 0 := by omega
      exact ⟨_, _, _, _, cells_row g13 0 _ rfl, cells_row g13 1 _ rfl, cells_row g13 2 _ rfl, cells_row g13 3 _ rfl, VShows.mono (S := fun _ => True) (fun _ _ _ => trivial) _ _ (VShows.fr f13 (fun _ _ h => h) _ _ HTT.out.2.2)⟩⟩)
  refine (cput_any (fun _ => True) (choT T U) (choV B) _ _ w13 hcho hone (cho_good HG.out.1.1 HG.out.2.1) HRV.out.2 (by have := HBS.out; rw [cho_sz]; omega)).mono ?_
  rintro er w14 ⟨cv, rfl, hb14, f14⟩
  have HB14 := Lib.hid hb14
  have H14 := Lib.hid (And.intro (f13.trans f14 (fun _ _ h => h)) (H8.out.1.trans (H11.out.2.1.trans (H12.out.1.trans (f13.trans f14 (fun _ _ h => h)) (fun _ _ h => h.elim)) (fun k hk h => HGS.out.2.2.2 k hk h)) (fun _ _ h => h)))
  clear hw13 f13 g13 f14 hcho hone hb14 hxl hxn b0 b1 b2 b3 d0 d1 d2 d3
  rw [cho_enc] at HB14 ⊢
  obtain ⟨sl, hsl⟩ : ∃ sl : List UInt8, (if (([0, 1] : List UInt8) ++ encE U B).length ≤ 4000 then ([0, 1] : List UInt8) ++ encE U B else []) = sl := ⟨_, rfl⟩
  obtain ⟨se, hse⟩ : ∃ se : Int, (if (([0, 1] : List UInt8) ++ encE U B).length ≤ 4000 then 0 else 6 : Int) = se := ⟨_, rfl⟩
  rw [hsl] at HB14
  rw [hse]
  have HSE := Lib.hid (And.intro hsl hse)
  clear hsl hse
  obtain ⟨sa, sc, rfl⟩ := new_slice HB14.out
  by_cases hT : (encE T A).length ≤ 4000
  case neg =>
    obtain rfl : 6 = pe := by have := HPE.out.2; rw [if_neg hT] at this; exact this
    clear hT
    go_wp2_with fail
    go_ret
    exact ⟨rfl, H14.out.2⟩
  obtain rfl : 0 = pe := by have := HPE.out.2; rw [if_pos hT] at this; exact this
  obtain rfl : encE T A = pl := by have := HPE.out.1; rw [if_pos hT] at this; exact this
  by_cases hU : (encE U B).length ≤ 4000
  case neg =>
    obtain rfl : 6 = qe := by have := HQE.out.2; rw [if_neg hU] at this; exact this
    clear hU hT
    go_wp2_with fail
    go_ret
    exact ⟨rfl, H14.out.2⟩
  obtain rfl : 0 = qe := by have := HQE.out.2; rw [if_pos hU] at this; exact this
  obtain rfl : encE U B = ql := by have := HQE.out.1; rw [if_pos hU] at this; exact this
  clear HPE HQE
  generalize encE T A = P at *
  generalize encE U B = Q at *
  obtain ⟨x, hx⟩ : ∃ x, P.length = x := ⟨_, rfl⟩
  obtain ⟨y, hy⟩ : ∃ y, Q.length = y := ⟨_, rfl⟩
  have HX := Lib.hid (And.intro hx hy)
  rw [hx] at hT ⊢
  rw [hy] at hU ⊢
  clear hx hy
  have hxi : (x : Int) ≤ 4000 := by omega
  have hyi : (y : Int) ≤ 4000 := by omega
  by_cases hs : 3990 < x + y
  case pos =>
    have hsi : (3990 : Int) < (x : Int) + (y : Int) := by omega
    clear hT hU hs
    go_wp2_with fail
    go_ret
    exact ⟨rfl, H14.out.2⟩
  have hsi : ¬ (3990 : Int) < (x : Int) + (y : Int) := by omega
  obtain rfl : 0 = re := by have := HRE.out.2; rw [if_pos (by rw [List.length_append, HX.out.1, HX.out.2]; omega)] at this; exact this
  obtain rfl : P ++ Q = rl := by have := HRE.out.1; rw [if_pos (by rw [List.length_append, HX.out.1, HX.out.2]; omega)] at this; exact this
  obtain rfl : 0 = se := by have := HSE.out.2; rw [if_pos (by rw [List.length_append, HX.out.2]; simp; omega)] at this; exact this
  obtain rfl : ([0, 1] : List UInt8) ++ Q = sl := by have := HSE.out.1; rw [if_pos (by rw [List.length_append, HX.out.2]; simp; omega)] at this; exact this
  clear HRE HSE
  obtain ⟨X, hX⟩ : ∃ X : ByteArray, X = ⟨P.toArray⟩ := ⟨_, rfl⟩
  obtain ⟨Y, hY⟩ : ∃ Y : ByteArray, Y = ⟨Q.toArray⟩ := ⟨_, rfl⟩
  obtain ⟨Z, hZ⟩ : ∃ Z : ByteArray, Z = ⟨(P ++ Q).toArray⟩ := ⟨_, rfl⟩
  obtain ⟨V, hV⟩ : ∃ V : ByteArray, V = ⟨(([0, 1] : List UInt8) ++ Q).toArray⟩ := ⟨_, rfl⟩
  have f814 : Fr (fun k => k = rb) w8 w14 := (H11.out.2.1.mono (fun _ _ h => h.elim)).trans (H12.out.1.trans H14.out.1 (fun _ _ h => h.elim)) (fun _ _ h => h)
  have hp8 := HB7.out.1.fr H8.out.2.1 (fun _ _ h => h)
  have hne : ∀ (v : Value) (L : List UInt8), Own w8 v L → Own w14 v L := fun v L h => h.fr f814 (fun k hk e => HGS.out.2.2.2 k (own_block_lt h k hk) e)
  have st1 := ((hne _ _ hp8).sees).string 26 5 9 Try.underlying26 Try.underlying5 Try.underlying9
  have st2 := ((hne _ _ HB8.out.1).sees).string 26 5 9 Try.underlying26 Try.underlying5 Try.underlying9
  have st3 := ((HB11.out.1.fr (H12.out.1.trans H14.out.1 (fun _ _ h => h.elim)) (fun k hk e => by have := HB11.out.2 k hk; have := HRB.out; omega)).sees).string 26 5 9 Try.underlying26 Try.underlying5 Try.underlying9
  have st4 := new_string HB14.out (Fr.refl _ _)
  rw [← hX, HX.out.1] at st1
  rw [← hY, HX.out.2] at st2
  rw [← hZ] at st3
  rw [← hV] at st4
  have ad1 : ∀ w, (Op.stringOp .add X Y).run Try.prog w = .ok (.string Z) w := fun w => by rw [hX, hY, hZ]; exact run_string_add_lists w P Q (by rw [HX.out.1]; omega) (by rw [HX.out.2]; omega)
  have ad2 : ∀ w, (Op.stringOp .add (⟨#[0, 1]⟩ : ByteArray) Y).run Try.prog w = .ok (.string V) w := fun w => by rw [hY, hV]; exact run_string_add_lists w [0, 1] Q (by simp) (by rw [HX.out.2]; omega)
  obtain ⟨zr, hzr⟩ : ∃ zr, (P ++ Q).length = zr := ⟨_, rfl⟩
  obtain ⟨zs, hzs⟩ : ∃ zs, (([0, 1] : List UInt8) ++ Q).length = zs := ⟨_, rfl⟩
  rw [hzr] at st3 ⊢
  rw [hzs] at st4 ⊢
  clear hX hY hZ hV hzr hzs hne hp8 f814 hT hU hs
  go_wp2_with fail
  go_ret
  exact ⟨rfl, H14.out.2⟩
end
section
open Go.ChangeShapes Go.WideShapes Go.ChangeAt Go.RowKit

theorem courierparts_all {W : World} (t : KN) (vn : Value) (hn : NShows W t vn) (u : KN) (vm : Value) (hm : NShows W u vm) (v1 : Value) (l1 : List Int) (w1 : SeesL W v1 (l1.map (Value.int .i64))) (wf1 : ∀ n ∈ l1, (Lit.int .i64 n).wf = true) (b : Bool) :
    Calls Try.prog 6 #[vn, vm, v1, .bool b] W fun e w' => e = .returned (.bool true) ∧ Fr (fun _ => False) W w' :=
  parts_walk t u vn vm v1 l1 b W hn hm w1 wf1
end
end Go.Proofs.Yteakaiicdkllhaa
