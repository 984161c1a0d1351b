/-
  CouBack, part 53 of what it rests on: CouBackLaw.
-/
import Derived.Test.YtplipjijaaejlaaGreatS41
import Derived.Test.YtplipjijaaejlaaGreatS44
import Derived.Test.YtplipjijaaejlaaGreatS45
import Derived.Test.YtplipjijaaejlaaGreatS51
import Derived.Test.YtplipjijaaejlaaGreatS52
import Derived.Test.YtplipjijaaejlaaGreatS38
set_option linter.unusedVariables false
set_option linter.unusedSimpArgs false
set_option maxHeartbeats 64000000
namespace Go.Proofs.YtplipjijaaejlaaGreat
open Go.RowKit
open Go.Lib (hid)
section
attribute [local go_sem] run_store_float
set_option maxRecDepth 100000

/-- The answer's type, its value, its bytes. -/
def BRefS (w : World) (t : KT) (T : VT) (P : List UInt8) : List Value → World → Prop
  | [], wx => Fr (fun _ => False) w wx
  | [r], wx => Fr (fun _ => False) w wx ∧ RShows (fun _ => True) wx t r
  | [r, u], wx => Fr (fun _ => False) w wx ∧ RShows (fun _ => True) wx t r ∧ VShows (fun _ => True) wx T u
  | [_, _, p], wx => Fr (fun _ => False) w wx ∧ Sees wx p P
  | [_, _, _, p], wx => Fr (fun _ => False) w wx ∧ Sees wx p P
  | _, _ => False

theorem BRefS.fr {w : World} {t : KT} {T : VT} {P : List UInt8} {l : List Value} {wx : World} (h : BRefS w t T P l wx) : Fr (fun _ => False) w wx := by
  match l with
  | [] => exact h
  | [_] => exact h.1
  | [_, _] => exact h.1
  | [_, _, _] => exact h.1
  | [_, _, _, _] => exact h.1
  | _ :: _ :: _ :: _ :: _ :: _ => exact h.elim

theorem back_walk (t : KN) (vn lv rv : Value) (l : List Int) (raw : List UInt8) (f e : Int) (w : World) (hn : NShows w t vn) (hl : SeesL w lv (l.map (Value.int .i64))) (hlw : ∀ n ∈ l, (Lit.int .i64 n).wf = true) (hr : Sees w rv raw) (hf0 : 0 ≤ f) (hf1 : f ≤ 18446744073709551615) (he0 : 0 ≤ e) (he1 : e ≤ 255) :
    Calls Tryz.prog 3 #[vn, lv, rv, .int .u64 f, .int .u8 e] w fun e w' => e = .returned (.bool true) ∧ Fr (fun _ => False) w w' := by
  obtain ⟨k, n, a, c, cap, rfl⟩ := hn.cells
  obtain ⟨la, lc, rfl⟩ := cslice hl
  obtain ⟨ra, rc, rfl, _⟩ := hr.shape
  simp only [List.length_map] at hl ⊢
  have HVOK := Lib.hid (NShows.vok t _ hn)
  have HN := Lib.hid hn
  have HL := Lib.hid (And.intro hl hlw)
  have HR := Lib.hid hr
  obtain ⟨ll, hll⟩ : ∃ ll, l.length = ll := ⟨_, rfl⟩
  rw [hll]
  have HLL := Lib.hid hll
  clear hn hl hlw hll hr
  obtain ⟨w1, hw1⟩ : ∃ w1, w1 = w.alloc (.cells #[.int .u8 k, .int .u8 n, .slice a c cap] 24) := ⟨_, rfl⟩
  have f1 : Fr (fun _ => False) w w1 := by rw [hw1]; exact (Fr.refl _ _).alloc _
  have q1 : w1.heap[w.heap.size]? = some (.cells #[.int .u8 k, .int .u8 n, .slice a c cap] 24 (0, 0)) := by rw [hw1]; exact heap_alloc_new _ _
  go_enter Tryz.func3, Tryz.ntmps3
  go_upto_region 1 with fail
  rw [← hw1]
  obtain ⟨nb, hnb⟩ : ∃ nb, w.heap.size = nb := ⟨_, rfl⟩
  rw [hnb] at q1 ⊢
  have H1 := Lib.hid (And.intro f1 q1)
  clear hw1 f1 q1 hnb
  go_wp2_with fail
  refine (cawake_any _).mono ?_
  rintro er w2 ⟨rfl, f2⟩
  have H2 := Lib.hid (And.intro (H1.out.1.trans f2 (fun _ _ h => h)) (box_kept H1.out.2 f2 (fun h => h)))
  have c0 := cells_row H2.out.2 0 _ rfl
  have c1 := cells_row H2.out.2 1 _ rfl
  have c2 := cells_row H2.out.2 2 _ rfl
  clear f2
  have hli := light_any t _ w2 4 4 rfl (by omega) (NShows.fr H2.out.1 _ _ HN.out)
  cases hB : lightE t 4 with
  | false =>
    rw [hB] at hli
    clear hB
    go_wp2_with fail
    refine hli.mono ?_
    rintro er w3 ⟨rfl, f3⟩
    have F3 := Lib.hid f3
    clear f3 hli c0 c1 c2
    go_wp2
    go_ret
    exact ⟨rfl, H2.out.1.trans F3.out (fun _ _ h => h)⟩
  | true =>
  rw [hB] at hli
  clear hB
  go_wp2_with fail
  refine hli.mono ?_
  rintro er w3 ⟨rfl, f3⟩
  have H3 := Lib.hid (And.intro (H2.out.1.trans f3 (fun _ _ h => h)) (box_kept H2.out.2 f3 (fun h => h)))
  clear f3 hli c0 c1 c2
  by_cases h60 : 60 < ll
  · have b60 : (60 : Int) < (ll : Int) := by omega
    clear h60
    go_wp2
    go_ret
    exact ⟨rfl, H3.out.1⟩
  have b60 : ¬ (60 : Int) < (ll : Int) := by omega
  have HM := Lib.hid h60
  clear h60
  by_cases h100 : 10 < raw.length
  · have b100 : (10 : Int) < (raw.length : Int) := by omega
    clear h100
    go_wp2
    go_ret
    exact ⟨rfl, H3.out.1⟩
  have b100 : ¬ (10 : Int) < (raw.length : Int) := by omega
  have HMR := Lib.hid h100
  clear h100
  have c0 := cells_row H3.out.2 0 _ rfl
  have c1 := cells_row H3.out.2 1 _ rfl
  have c2 := cells_row H3.out.2 2 _ rfl
  go_wp2_with fail
  clear b60 b100
  refine (vtype_any t _ w3 (NShows.fr H3.out.1 _ _ HN.out)).mono ?_
  rintro er w4 ⟨tv, rfl, ht, f4⟩
  have HG := Lib.hid (good_type t 4 (by omega) HVOK.out)
  have HC := Lib.hid (show costE (typeE [] t 4) ≤ 100000 from by have := cost_typeE [] t 4; omega)
  have HBT := Lib.hid (build_type l t 4 (by omega) (by omega) HVOK.out)
  have HBS := Lib.hid (Nat.le_trans (build_le l _ (good_type t 4 (by omega) HVOK.out).1 (0, 0)).2 (Nat.le_trans (cost_typeE [] t 4) (show 4 ^ 4 ≤ 256 by decide)))
  rw [← HBT.out.1] at HBS
  generalize typeE [] t 4 = tt at *
  obtain ⟨tk, tm, ta, tn, tc, ta', tn', tc', rfl⟩ := shows_lit8 (T := tt) ht
  have f5 : Fr (fun _ => False) w4 (w4.alloc (.cells #[.int .u8 tk, .int .i64 tm, .slice ta tn tc, .slice ta' tn' tc'] 34)) := (Fr.refl _ _).alloc _
  have q5 := heap_alloc_new w4 (.cells #[.int .u8 tk, .int .i64 tm, .slice ta tn tc, .slice ta' tn' tc'] 34)
  have HT := Lib.hid (Shows.fr f5 (fun _ _ h => h) _ _ (Shows.mono (S := fun _ => True) (fun _ _ _ => trivial) _ _ ht))
  have F5 := Lib.hid ((H3.out.1.trans f4 (fun _ _ h => h)).trans f5 (fun _ _ h => h))
  clear ht f4 f5 c0 c1 c2
  go_upto_region 6 with fail
  generalize w4.alloc (.cells #[.int .u8 tk, .int .i64 tm, .slice ta tn tc, .slice ta' tn' tc'] 34) = w5 at *
  generalize w4.heap.size = tb at *
  have H5 := Lib.hid (And.intro F5.out (And.intro q5 HT.out))
  clear q5
  have HNU : Hid (Nums (fun _ => True) w5 l (.slice la ll lc)) := Lib.hid (by
    have h1 := cnums_of (HL.out.1.fr0 F5.out) HL.out.2 (by have := HM.out; have := HLL.out; omega)
    rw [HLL.out] at h1
    exact h1)
  obtain ⟨c0, c1, c2, c3⟩ := cell_of_four H5.out.2.1
  go_wp2_with fail
  refine (Build_any (fun _ => True) l tt _ (.slice la ll lc) w5 H5.out.2.2 HNU.out HC.out).mono ?_
  rintro er w6 ⟨v', rfl, hv6, f6⟩
  obtain ⟨zn, zf, zs, za, zc, zcap, rfl⟩ := vshows_lit6 hv6
  obtain ⟨w7, hw7⟩ : ∃ w7, w7 = w6.alloc (.cells #[.int .i64 zn, .float .f64 zf, .string zs, .slice za zc zcap] 39) := ⟨_, rfl⟩
  have f7 : Fr (fun _ => False) w6 w7 := by rw [hw7]; exact (Fr.refl _ _).alloc _
  have q7 : w7.heap[w6.heap.size]? = some (.cells #[.int .i64 zn, .float .f64 zf, .string zs, .slice za zc zcap] 39 (0, 0)) := by rw [hw7]; exact heap_alloc_new _ _
  clear c0 c1 c2 c3
  go_upto_region 7 with fail
  rw [← hw7]
  obtain ⟨vb, hvb⟩ : ∃ vb, w6.heap.size = vb := ⟨_, rfl⟩
  rw [hvb] at q7 ⊢
  obtain ⟨T, hT⟩ : ∃ T, BuildE l tt = T := ⟨_, rfl⟩
  rw [hT] at hv6 HBT HBS
  have HZ := Lib.hid (VShows.fr f7 (fun _ _ h => h) _ _ (VShows.mono (S := fun k => k < vb) (fun k hk _ => by omega) _ _ hv6))
  have F7 := Lib.hid (f6.trans f7 (fun _ _ h => h))
  have HFV : Hid (w.heap.size ≤ vb) := Lib.hid (by have := H5.out.1.size; have := f6.size; omega)
  have HVB7 : Hid (vb < w7.heap.size) := Lib.hid (lt_of_block q7)
  have H7 : Hid (Fr (fun _ => False) w w7 ∧ (w7.heap[tb]? = some (.cells #[.int .u8 tk, .int .i64 tm, .slice ta tn tc, .slice ta' tn' tc'] 34 (0, 0)) ∧ Shows (fun _ => True) w7 tt (.agg #[.int .u8 tk, .int .i64 tm, .slice ta tn tc, .slice ta' tn' tc'])) ∧ w7.heap[vb]? = some (.cells #[.int .i64 zn, .float .f64 zf, .string zs, .slice za zc zcap] 39 (0, 0))) :=
    Lib.hid ⟨H5.out.1.trans F7.out (fun _ _ h => h), ⟨box_kept H5.out.2.1 F7.out (fun h => h), Shows.fr F7.out (fun _ _ h => h) _ _ H5.out.2.2⟩, q7⟩
  have HTB : Hid (tb ≠ vb ∧ Shows (fun k => k ≠ vb) w7 tt (.agg #[.int .u8 tk, .int .i64 tm, .slice ta tn tc, .slice ta' tn' tc'])) := Lib.hid ⟨by have := lt_of_block H5.out.2.1; have := f6.size; omega, Shows.fr F7.out (fun _ _ h => h) _ _ (Shows.mono (S := fun k => k ≠ vb) (fun k hk _ => by have := f6.size; omega) _ _ H5.out.2.2)⟩
  have HRW := Lib.hid (HR.out.fr H7.out.1 (fun _ _ h => h))
  obtain ⟨pl, hpl⟩ : ∃ pl, raw.length = pl := ⟨_, rfl⟩
  have HPL := Lib.hid hpl
  have HTN := Lib.hid (fun (b : Nat) (hb : b < 18446744073709551616) (wx : World) (fx : Fr (fun _ => False) w7 wx) => turn_all 1 (by omega) (turn_float 1 (by omega) (by omega)) T (fun k => k < vb) (.agg #[.int .i64 zn, .float .f64 zf, .string zs, .slice za zc zcap]) (.slice ra raw.length rc) wx raw 0 b [] (VShows.fr fx (fun _ _ h => h) _ _ HZ.out) (HRW.out.fr fx (fun _ _ h => h)) (by have := HMR.out; omega) (by omega) (by omega) hb (by unfold maxLen; simp) (by have := HBS.out; omega))
  rw [hpl]
  clear hw7 f7 q7 f6 hv6 hvb hT hpl
  refine wp_region_links (by kernel_rfl) [some 39, some 40, some 41, some 42, some 43, some 44, some 13, none] rfl (by decide) (by intro d hd; simp at hd ⊢; omega)
    (fun st wx => WOneS w7 (fun fa => turnE 1 0 fa [] T raw) vb st wx)
    [.free (.agg #[.int .i64 zn, .float .f64 zf, .string zs, .slice za zc zcap]), .free (.slice ra pl rc), .free (.int .u64 f), .free (.int .u8 e), .link none, .link none, .link none, .link none]
    (by kernel_rfl) ?h0 ?step ?fin
  case h0 => exact WOneA.one ⟨(Fr.refl _ _).drew, fun v h => (by cases h), fun v h => (by cases h), fun v h => (by cases h)⟩ rfl
  case step =>
    intro vals
    simp only [frOfU, fillU, List.setIfInBounds_toArray, List.set_cons_succ, List.set_cons_zero]
    repeat' (first | exact AllOps.nil | refine AllOps.cons ?_ ?_)
    all_goals
      intro st wx hS he hu hn K hK
      simp only [Act.put, List.setIfInBounds_toArray, List.set_cons_succ, List.set_cons_zero, List.getD_cons_zero, List.getD_cons_succ] at hK
      simp only [List.mem_cons, List.not_mem_nil, or_false, forall_eq_or_imp, forall_eq, Region.binds, forall_const, vmode_gc, Bool.false_eq_true, false_imp_iff, List.getD_cons_zero, List.getD_cons_succ, OpSort.val, OpSort.isLink, Option.some.injEq, forall_eq', reduceCtorEq, implies_true, true_and, and_true] at he
      obtain ⟨c0, c1, c2, c3⟩ := cell_of_four (box_kept H7.out.2.2 hS.fr (fun h => h))
      have HSX := Lib.hid hS
      clear hS
    all_goals first | (clear hu hn; (try simp only [he] at hK ⊢); go_simp; exact hK) | skip
    · have h10 := (hu 7 (by simp) (by kernel_rfl)).2
      have ha := Lib.hid (HSX.out.a h10)
      clear hu hn
      simp only [he] at hK ⊢
      go_simp
      go_at_call 9
      refine (float_any f e hf0 hf1 he0 he1 _).mono ?_
      rintro q1 wa ⟨fa, hfa, rfl, rfl⟩
      exact hK _ _ (fun _ h => by cases h) (WOneA.one (ha.out.call4 hfa) h10)
    · have h10 := (hu 7 (by simp) (by kernel_rfl)).2
      have ha := Lib.hid (HSX.out.a h10)
      clear hu hn
      have a0 : vals 0 = (.agg #[.int .i64 zn, .float .f64 zf, .string zs, .slice za zc zcap]) := by first | exact he | exact he.1 | exact he.2 | exact he.2.1 | exact he.2.2 | exact he.2.2.1 | exact he.2.2.2 | exact he.2.2.2.1 | exact he.2.2.2.2 | exact he.2.2.2.2.1 | exact he.2.2.2.2.2 | exact he.2.2.2.2.2.1 | exact he.2.2.2.2.2.2 | exact he.2.2.2.2.2.2.1 | exact he.2.2.2.2.2.2.2 | exact he.2.2.2.2.2.2.2.1 | exact he.2.2.2.2.2.2.2.2 | exact he.2.2.2.2.2.2.2.2.1 | exact he.2.2.2.2.2.2.2.2.2 | exact he.2.2.2.2.2.2.2.2.2.1 | exact he.2.2.2.2.2.2.2.2.2.2 | exact he.2.2.2.2.2.2.2.2.2.2.1 | exact he.2.2.2.2.2.2.2.2.2.2.2 | exact he.2.2.2.2.2.2.2.2.2.2.2.1 | exact he.2.2.2.2.2.2.2.2.2.2.2.2 | exact he.2.2.2.2.2.2.2.2.2.2.2.2.1 | exact he.2.2.2.2.2.2.2.2.2.2.2.2.2 | exact he.2.2.2.2.2.2.2.2.2.2.2.2.2.1 | exact he.2.2.2.2.2.2.2.2.2.2.2.2.2.2
      have a1 : vals 1 = .slice ra pl rc := by first | exact he | exact he.1 | exact he.2 | exact he.2.1 | exact he.2.2 | exact he.2.2.1 | exact he.2.2.2 | exact he.2.2.2.1 | exact he.2.2.2.2 | exact he.2.2.2.2.1 | exact he.2.2.2.2.2 | exact he.2.2.2.2.2.1 | exact he.2.2.2.2.2.2 | exact he.2.2.2.2.2.2.1 | exact he.2.2.2.2.2.2.2 | exact he.2.2.2.2.2.2.2.1 | exact he.2.2.2.2.2.2.2.2 | exact he.2.2.2.2.2.2.2.2.1 | exact he.2.2.2.2.2.2.2.2.2 | exact he.2.2.2.2.2.2.2.2.2.1 | exact he.2.2.2.2.2.2.2.2.2.2 | exact he.2.2.2.2.2.2.2.2.2.2.1 | exact he.2.2.2.2.2.2.2.2.2.2.2 | exact he.2.2.2.2.2.2.2.2.2.2.2.1 | exact he.2.2.2.2.2.2.2.2.2.2.2.2 | exact he.2.2.2.2.2.2.2.2.2.2.2.2.1 | exact he.2.2.2.2.2.2.2.2.2.2.2.2.2 | exact he.2.2.2.2.2.2.2.2.2.2.2.2.2.1 | exact he.2.2.2.2.2.2.2.2.2.2.2.2.2.2
      have s4 : st 4 = some (vals 4) := by first | exact he | exact he.1 | exact he.2 | exact he.2.1 | exact he.2.2 | exact he.2.2.1 | exact he.2.2.2 | exact he.2.2.2.1 | exact he.2.2.2.2 | exact he.2.2.2.2.1 | exact he.2.2.2.2.2 | exact he.2.2.2.2.2.1 | exact he.2.2.2.2.2.2 | exact he.2.2.2.2.2.2.1 | exact he.2.2.2.2.2.2.2 | exact he.2.2.2.2.2.2.2.1 | exact he.2.2.2.2.2.2.2.2 | exact he.2.2.2.2.2.2.2.2.1 | exact he.2.2.2.2.2.2.2.2.2 | exact he.2.2.2.2.2.2.2.2.2.1 | exact he.2.2.2.2.2.2.2.2.2.2 | exact he.2.2.2.2.2.2.2.2.2.2.1 | exact he.2.2.2.2.2.2.2.2.2.2.2 | exact he.2.2.2.2.2.2.2.2.2.2.2.1 | exact he.2.2.2.2.2.2.2.2.2.2.2.2 | exact he.2.2.2.2.2.2.2.2.2.2.2.2.1 | exact he.2.2.2.2.2.2.2.2.2.2.2.2.2 | exact he.2.2.2.2.2.2.2.2.2.2.2.2.2.1 | exact he.2.2.2.2.2.2.2.2.2.2.2.2.2.2
      obtain ⟨fa, hfa, e6⟩ := ha.out.f6 _ s4
      clear he s4
      simp only [a0, a1, e6] at hK ⊢
      go_simp
      go_at_call 8
      have ht := HTN.out fa hfa wx ha.out.fr
      rw [HPL.out] at ht
      refine ht.mono ?_
      rintro q1 wa ⟨v', rfl, ht, fra⟩
      exact hK _ _ (fun _ h => by cases h) (WOneA.one (ha.out.call5 fra hfa (VShows.mono (fun k _ hk => ⟨by have := HVB7.out; rcases hk with h | h; exact .inl (by omega); exact .inr h, by have := HVB7.out; have := ha.out.fr.size; rcases hk with h | h <;> omega⟩) _ _ ht)) h10)
    · have h10 := (hu 7 (by simp) (by kernel_rfl)).2
      have ha := Lib.hid (HSX.out.a h10)
      clear hu hn
      go_simp
      exact hK _ _ (fun _ h => by cases h) (WOneA.one ha.out.alloc6 h10)
    · have ha := Lib.hid (HSX.out.a hn)
      have s9 : st 6 = some (vals 6) := by first | exact he | exact he.1 | exact he.2 | exact he.2.1 | exact he.2.2 | exact he.2.2.1 | exact he.2.2.2 | exact he.2.2.2.1 | exact he.2.2.2.2 | exact he.2.2.2.2.1 | exact he.2.2.2.2.2 | exact he.2.2.2.2.2.1 | exact he.2.2.2.2.2.2 | exact he.2.2.2.2.2.2.1 | exact he.2.2.2.2.2.2.2 | exact he.2.2.2.2.2.2.2.1 | exact he.2.2.2.2.2.2.2.2 | exact he.2.2.2.2.2.2.2.2.1 | exact he.2.2.2.2.2.2.2.2.2 | exact he.2.2.2.2.2.2.2.2.2.1 | exact he.2.2.2.2.2.2.2.2.2.2 | exact he.2.2.2.2.2.2.2.2.2.2.1 | exact he.2.2.2.2.2.2.2.2.2.2.2 | exact he.2.2.2.2.2.2.2.2.2.2.2.1 | exact he.2.2.2.2.2.2.2.2.2.2.2.2 | exact he.2.2.2.2.2.2.2.2.2.2.2.2.1 | exact he.2.2.2.2.2.2.2.2.2.2.2.2.2 | exact he.2.2.2.2.2.2.2.2.2.2.2.2.2.1 | exact he.2.2.2.2.2.2.2.2.2.2.2.2.2.2
      have s8 : st 5 = some (vals 5) := by first | exact he | exact he.1 | exact he.2 | exact he.2.1 | exact he.2.2 | exact he.2.2.1 | exact he.2.2.2 | exact he.2.2.2.1 | exact he.2.2.2.2 | exact he.2.2.2.2.1 | exact he.2.2.2.2.2 | exact he.2.2.2.2.2.1 | exact he.2.2.2.2.2.2 | exact he.2.2.2.2.2.2.1 | exact he.2.2.2.2.2.2.2 | exact he.2.2.2.2.2.2.2.1 | exact he.2.2.2.2.2.2.2.2 | exact he.2.2.2.2.2.2.2.2.1 | exact he.2.2.2.2.2.2.2.2.2 | exact he.2.2.2.2.2.2.2.2.2.1 | exact he.2.2.2.2.2.2.2.2.2.2 | exact he.2.2.2.2.2.2.2.2.2.2.1 | exact he.2.2.2.2.2.2.2.2.2.2.2 | exact he.2.2.2.2.2.2.2.2.2.2.2.1 | exact he.2.2.2.2.2.2.2.2.2.2.2.2 | exact he.2.2.2.2.2.2.2.2.2.2.2.2.1 | exact he.2.2.2.2.2.2.2.2.2.2.2.2.2 | exact he.2.2.2.2.2.2.2.2.2.2.2.2.2.1 | exact he.2.2.2.2.2.2.2.2.2.2.2.2.2.2
      obtain ⟨g9, e9, hg9, hc9⟩ := ha.out.p9 _ s9
      obtain ⟨fa, hfa, ht8⟩ := ha.out.t8 _ s8
      obtain ⟨an, af, ax, aa, ac, acap, e8⟩ := ht8.lit
      have HH := Lib.hid (And.intro s8 (And.intro (e9 ▸ s9) (And.intro e8 (And.intro hc9 hg9))))
      have z0 : wx.frozen? ⟨g9, 0, none⟩ = false := by simp [World.frozen?, hc9]
      have z1 : wx.frozen? ⟨g9, 1, none⟩ = false := by simp [World.frozen?, hc9]
      have z2 : wx.frozen? ⟨g9, 2, none⟩ = false := by simp [World.frozen?, hc9]
      have z3 : wx.frozen? ⟨g9, 3, none⟩ = false := by simp [World.frozen?, hc9]
      have d0 := cells_row hc9 0 _ rfl
      have d1 := cells_row hc9 1 _ rfl
      have d2 := cells_row hc9 2 _ rfl
      have d3 := cells_row hc9 3 _ rfl
      simp only [zero4, List.getElem_toArray, List.getElem_cons_succ, List.getElem_cons_zero] at d0 d1 d2 d3
      unfold vptr at e9
      clear hu hn hc9 s8 s9 ht8 he c0 c1 c2 c3
      simp only [e9, e8] at hK ⊢
      go_simp
      exact hK undef _ (fun _ h => by cases h) (WOneA.store7 ha.out HH.out.1 HH.out.2.1 HH.out.2.2.1 (store_four HH.out.2.2.2.1) (fr_four _ _ _ _ (Fr.refl _ _) (fun _ => rfl)))
  case fin =>
    intro vals wq hS hV
    have h2 : ∃ g9, some (vals 6) = some (vptr g9) ∧ WOneIn w7 (fun fa => turnE 1 0 fa [] T raw) vb g9 wq := hS
    obtain ⟨ub, e9, fq, hg9, cs, fa, hfa, hcs, hus⟩ := h2
    have x9 := Option.some.inj e9
    clear hS hV e9
    unfold vptr at x9
    simp only [frOfU, fillU, List.setIfInBounds_toArray, List.set_cons_succ, List.set_cons_zero]
    simp only [Nat.reduceAdd, x9]
    clear x9
    obtain ⟨TU, hTU⟩ : ∃ TU, turnE 1 0 fa [] T raw = TU := ⟨_, rfl⟩
    have hus' : VShows (fun k => k ≠ ub ∧ k ≠ vb) wq TU (.agg cs) := by rw [← hTU]; exact hus
    have HSU : Hid (szV TU ≤ 256) := Lib.hid (by rw [← hTU, turn_sz]; exact HBS.out)
    obtain ⟨un, uf, us, ua, uc, ucap, e8⟩ := vshows_lit6 hus'
    cases e8
    have HUB : Hid (ub ≠ vb) := Lib.hid (by have := HVB7.out; omega)
    have HU := Lib.hid (And.intro hcs (VShows.mono (S := fun k => k ≠ vb) (fun _ _ h => h.2) _ _ hus'))
    have HQ : Hid (Fr (fun _ => False) w wq ∧ (wq.heap[tb]? = some (.cells #[.int .u8 tk, .int .i64 tm, .slice ta tn tc, .slice ta' tn' tc'] 34 (0, 0)) ∧ Shows (fun k => k ≠ vb) wq tt (.agg #[.int .u8 tk, .int .i64 tm, .slice ta tn tc, .slice ta' tn' tc'])) ∧ (wq.heap[vb]? = some (.cells #[.int .i64 zn, .float .f64 zf, .string zs, .slice za zc zcap] 39 (0, 0)) ∧ VShows (fun k => k < vb) wq T (.agg #[.int .i64 zn, .float .f64 zf, .string zs, .slice za zc zcap]))) :=
      Lib.hid ⟨H7.out.1.trans fq (fun _ _ h => h), ⟨box_kept H7.out.2.1.1 fq (fun h => h), Shows.fr fq (fun _ _ h => h) _ _ HTB.out.2⟩, ⟨box_kept H7.out.2.2 fq (fun h => h), VShows.fr fq (fun _ _ h => h) _ _ HZ.out⟩⟩
    clear hus hus' hcs fq hg9 hTU hfa HTN
    obtain ⟨c0, c1, c2, c3⟩ := cell_of_four HQ.out.2.1.1
    obtain ⟨d0, d1, d2, d3⟩ := cell_of_four HU.out.1
    have HCK := Lib.hid (vcheck_any (fun k => k ≠ vb) tt TU (.agg #[.int .u8 tk, .int .i64 tm, .slice ta tn tc, .slice ta' tn' tc']) (.agg #[.int .i64 un, .float .f64 uf, .string us, .slice ua uc ucap]) wq HQ.out.2.1.2 HU.out.2 (by have := HSU.out; omega))
    go_wp2_with fail
    refine HCK.out.mono ?_
    rintro er wc ⟨rfl, fc⟩
    clear HCK
    have HQ2 : Hid (Fr (fun _ => False) w wc ∧ (wc.heap[tb]? = some (.cells #[.int .u8 tk, .int .i64 tm, .slice ta tn tc, .slice ta' tn' tc'] 34 (0, 0)) ∧ Shows (fun k => k ≠ vb) wc tt (.agg #[.int .u8 tk, .int .i64 tm, .slice ta tn tc, .slice ta' tn' tc'])) ∧ (wc.heap[vb]? = some (.cells #[.int .i64 zn, .float .f64 zf, .string zs, .slice za zc zcap] 39 (0, 0)) ∧ VShows (fun k => k < vb) wc T (.agg #[.int .i64 zn, .float .f64 zf, .string zs, .slice za zc zcap]))) :=
      Lib.hid ⟨HQ.out.1.trans fc (fun _ _ h => h), ⟨box_kept HQ.out.2.1.1 fc (fun h => h), Shows.fr fc (fun _ _ h => h) _ _ HQ.out.2.1.2⟩, ⟨box_kept HQ.out.2.2.1 fc (fun h => h), VShows.fr fc (fun _ _ h => h) _ _ HQ.out.2.2.2⟩⟩
    have HU2 := Lib.hid (And.intro (box_kept HU.out.1 fc (fun h => h)) (VShows.fr fc (fun _ _ h => h) _ _ HU.out.2))
    clear fc c0 c1 c2 c3 d0 d1 d2 d3
    obtain ⟨ve, hve⟩ : ∃ ve : Nat, valE tt TU = ve := ⟨_, rfl⟩
    rw [hve]
    unfold valE at hve
    cases hv : isVal tt TU with
    | true =>
      rw [hv, if_pos rfl] at hve
      subst hve
      have HV := Lib.hid hv
      clear hv
      obtain ⟨d0, d1, d2, d3⟩ := cell_of_four HU2.out.1
      obtain ⟨c0, c1, c2, c3⟩ := cell_of_four HQ2.out.2.2.1
      have z0 : wc.frozen? ⟨vb, 0, none⟩ = false := by simp [World.frozen?, HQ2.out.2.2.1]
      have z1 : wc.frozen? ⟨vb, 1, none⟩ = false := by simp [World.frozen?, HQ2.out.2.2.1]
      have z2 : wc.frozen? ⟨vb, 2, none⟩ = false := by simp [World.frozen?, HQ2.out.2.2.1]
      have z3 : wc.frozen? ⟨vb, 3, none⟩ = false := by simp [World.frozen?, HQ2.out.2.2.1]
      dsimp only
      go_upto_region 10 with fail
      obtain ⟨w10, hw10⟩ : ∃ w10, w10 = (((wc.setCell ⟨vb, 0, none⟩ (.int .i64 un)).setCell ⟨vb, 1, none⟩ (.float .f64 uf)).setCell ⟨vb, 2, none⟩ (.string us)).setCell ⟨vb, 3, none⟩ (.slice ua uc ucap) := ⟨_, rfl⟩
      rw [← hw10]
      have f10 : Fr (fun k => k = vb) wc w10 := by rw [hw10]; exact fr_four _ _ _ _ (Fr.refl _ _) (fun _ => rfl)
      have q10 : w10.heap[vb]? = some (.cells #[.int .i64 un, .float .f64 uf, .string us, .slice ua uc ucap] 39 (0, 0)) := by rw [hw10]; exact store_four HQ2.out.2.2.1
      have H10 : Hid (Fr (fun _ => False) w w10 ∧ (w10.heap[tb]? = some (.cells #[.int .u8 tk, .int .i64 tm, .slice ta tn tc, .slice ta' tn' tc'] 34 (0, 0)) ∧ Shows (fun _ => True) w10 tt (.agg #[.int .u8 tk, .int .i64 tm, .slice ta tn tc, .slice ta' tn' tc'])) ∧ (w10.heap[vb]? = some (.cells #[.int .i64 un, .float .f64 uf, .string us, .slice ua uc ucap] 39 (0, 0)) ∧ VShows (fun _ => True) w10 TU (.agg #[.int .i64 un, .float .f64 uf, .string us, .slice ua uc ucap]))) :=
        Lib.hid ⟨HQ2.out.1.trans f10 (fun i hi e => by have := HFV.out; omega), ⟨box_kept HQ2.out.2.1.1 f10 HTB.out.1, Shows.mono (S := fun _ => True) (fun _ _ _ => trivial) _ _ (Shows.fr f10 (fun k hk e => hk e) _ _ HQ2.out.2.1.2)⟩, ⟨q10, VShows.mono (S := fun _ => True) (fun _ _ _ => trivial) _ _ (VShows.fr f10 (fun k hk e => hk e) _ _ HU2.out.2)⟩⟩
      have HSV := HSU
      clear hw10 f10 q10 c0 c1 c2 c3 d0 d1 d2 d3 z0 z1 z2 z3
      obtain ⟨P, hP⟩ : ∃ P, encE tt TU = P := ⟨_, rfl⟩
      have HP := Lib.hid hP
      clear hP
      have HIS : Hid (isE tt TU = true) := Lib.hid (by have h := HV.out; unfold isVal at h; rw [Bool.and_eq_true, fits_is tt HG.out.1] at h; exact h.2)
      refine wp_region_chain (by kernel_rfl) [some 50, some 51, some 52, some 53, some 54, some 14] rfl (by decide) (by intro d hd; simp at hd ⊢; omega)
        [1, 3, 4, 5] (fun cvs wx => BRefS w10 tt TU P cvs wx)
        [.free (.agg #[.int .u8 tk, .int .i64 tm, .slice ta tn tc, .slice ta' tn' tc']), .link none, .free (.agg #[.int .i64 un, .float .f64 uf, .string us, .slice ua uc ucap]), .link none, .link none, .link none]
        (by kernel_rfl) (by kernel_rfl) ?hA ?stepA ?finA
      case hA => exact (Fr.refl _ _).drew
      case stepA =>
        intro vals
        simp only [frOfU, fillU, List.setIfInBounds_toArray, List.set_cons_succ, List.set_cons_zero]
        repeat' (first | exact AllOps.nil | refine AllOps.cons ?_ ?_)
        all_goals
          intro cvs wx hS he hu hlim Kc hK
          simp only [Act.put, List.setIfInBounds_toArray, List.set_cons_succ, List.set_cons_zero, List.getD_cons_zero, List.getD_cons_succ] at hK
          simp only [List.mem_cons, List.not_mem_nil, or_false, forall_eq_or_imp, forall_eq, Region.binds, forall_const, vmode_gc, Bool.false_eq_true, false_imp_iff, List.getD_cons_zero, List.getD_cons_succ, OpSort.val, Option.some.injEq, forall_eq', reduceCtorEq, implies_true, true_and, and_true] at he
          obtain ⟨c0, c1, c2, c3⟩ := cell_of_four (box_kept H10.out.2.1.1 hS.fr (fun h => h))
          obtain ⟨d0, d1, d2, d3⟩ := cell_of_four (box_kept H10.out.2.2.1 hS.fr (fun h => h))
          have HSX := Lib.hid hS
          clear hS
        all_goals first | (clear hlim hu; (try simp only [he] at hK ⊢); go_simp; exact hK) | skip
        · obtain rfl := hlim (0 : Nat) rfl
          have h1 : Fr (fun _ => False) w10 wx := HSX.out
          clear hlim hu HSX
          simp only [he] at hK ⊢
          go_simp
          go_at_call 12
          refine (ref_any tt (fun _ => True) _ wx (Shows.fr h1 (fun _ _ h => h) _ _ H10.out.2.1.2) HG.out.1).mono ?_
          rintro er wa ⟨v', rfl, hrs, fra⟩
          exact hK _ _ (fun _ h => by cases h) ⟨h1.trans fra (fun _ _ h => h), RShows.mono (fun _ _ _ => trivial) _ _ hrs⟩
        · obtain rfl := hlim (1 : Nat) rfl
          obtain ⟨h1, hr1⟩ : Fr (fun _ => False) w10 wx ∧ RShows (fun _ => True) wx tt (vals 1) := HSX.out
          clear hlim hu HSX
          simp only [he] at hK ⊢
          go_simp
          go_at_call 13
          refine (refv_any TU (fun _ => True) _ wx (VShows.fr h1 (fun _ _ h => h) _ _ H10.out.2.2.2) (by have := HSV.out; omega)).mono ?_
          rintro er wa ⟨v', rfl, hvs, fra⟩
          exact hK _ _ (fun _ h => by cases h) ⟨h1.trans fra (fun _ _ h => h), RShows.fr fra (fun _ _ h => h) _ _ hr1, VShows.mono (fun _ _ _ => trivial) _ _ hvs⟩
        · obtain rfl := hlim (2 : Nat) rfl
          obtain ⟨h1, hr1, hu1⟩ : Fr (fun _ => False) w10 wx ∧ RShows (fun _ => True) wx tt (vals 1) ∧ VShows (fun _ => True) wx TU (vals 3) := HSX.out
          clear hlim hu HSX
          go_simp
          go_at_call 11
          refine (rput_any tt (fun _ => True) _ _ wx TU HG.out.1 hr1 hu1 HIS.out (by have := HSV.out; omega)).mono ?_
          rintro er wa ⟨pv', rfl, hm⟩
          rw [HP.out] at hm
          exact hK _ _ (fun _ h => by cases h) ⟨h1.trans hm.2.1 (fun _ _ h => h), hm.1.sees⟩
        · obtain rfl := hlim (3 : Nat) rfl
          obtain ⟨h1, hs1⟩ : Fr (fun _ => False) w10 wx ∧ Sees wx (vals 4) P := HSX.out
          obtain ⟨a3, c3', e3, _⟩ := hs1.shape
          obtain ⟨nq, hnq⟩ : ∃ nq, nq = P.length := ⟨_, rfl⟩
          rw [← hnq] at e3
          have HSS := Lib.hid (e3 ▸ hs1)
          clear hlim hu HSX hs1 hnq
          simp only [he, e3] at hK ⊢
          (try simp only [Nat.reduceAdd, Nat.zero_add] at hK)
          clear he e3
          go_simp
          exact hK _ _ (fun _ h => by cases h) ⟨h1, HSS.out⟩
      case finA =>
        intro vals w11 hS hV
        have v0 := hV 0 _ (by decide) rfl
        have v2 := hV 2 _ (by decide) rfl
        clear hV
        simp only [frOfU, fillU, List.setIfInBounds_toArray, List.set_cons_succ, List.set_cons_zero]
        simp only [Nat.reduceAdd, v0, v2]
        clear v0 v2
        obtain ⟨f11, hs11⟩ : Fr (fun _ => False) w10 w11 ∧ Sees w11 (vals 5) P := hS
        obtain ⟨ga, gc, hgv, _⟩ := hs11.shape
        have S11 := Lib.hid hs11
        rw [hgv] at S11
        simp only [hgv]
        have H11 : Hid (Fr (fun _ => False) w w11 ∧ (w11.heap[tb]? = some (.cells #[.int .u8 tk, .int .i64 tm, .slice ta tn tc, .slice ta' tn' tc'] 34 (0, 0)) ∧ Shows (fun _ => True) w11 tt (.agg #[.int .u8 tk, .int .i64 tm, .slice ta tn tc, .slice ta' tn' tc'])) ∧ (w11.heap[vb]? = some (.cells #[.int .i64 un, .float .f64 uf, .string us, .slice ua uc ucap] 39 (0, 0)) ∧ VShows (fun _ => True) w11 TU (.agg #[.int .i64 un, .float .f64 uf, .string us, .slice ua uc ucap]))) :=
          Lib.hid ⟨H10.out.1.trans f11 (fun _ _ h => h), ⟨box_kept H10.out.2.1.1 f11 (fun h => h), Shows.fr f11 (fun _ _ h => h) _ _ H10.out.2.1.2⟩, ⟨box_kept H10.out.2.2.1 f11 (fun h => h), VShows.fr f11 (fun _ _ h => h) _ _ H10.out.2.2.2⟩⟩
        clear f11 hs11 hgv
        obtain ⟨c0, c1, c2, c3⟩ := cell_of_four H11.out.2.1.1
        obtain ⟨d0, d1, d2, d3⟩ := cell_of_four H11.out.2.2.1
        have HPU := cput_any (fun _ => True) tt TU (.agg #[.int .u8 tk, .int .i64 tm, .slice ta tn tc, .slice ta' tn' tc']) (.agg #[.int .i64 un, .float .f64 uf, .string us, .slice ua uc ucap]) w11 H11.out.2.1.2 H11.out.2.2.2 HG.out.1 HV.out (by have := HSV.out; omega)
        rw [HP.out] at HPU
        have HPT := Lib.hid HPU
        clear HPU
        by_cases h4 : P.length ≤ 4000
        case neg =>
          have hpt := HPT.out
          rw [if_neg h4, if_neg h4] at hpt
          have h4i : (4000 : Int) < (P.length : Int) := by omega
          have HPT2 := Lib.hid hpt
          clear hpt HPT h4
          go_wp2_with fail
          refine HPT2.out.mono ?_
          rintro er w12 ⟨pv, rfl, hnew, f12⟩
          obtain ⟨ba, bc, rfl⟩ := new_slice hnew
          have F12 := Lib.hid (H11.out.1.trans f12 (fun _ _ h => h))
          clear hnew f12 c0 c1 c2 c3 d0 d1 d2 d3
          dsimp only [List.length_nil]
          go_wp2_with fail
          go_ret
          exact ⟨rfl, F12.out⟩
        have hpt := HPT.out
        rw [if_pos h4, if_pos h4] at hpt
        have h4i : ¬ (4000 : Int) < (P.length : Int) := by omega
        have HPT2 := Lib.hid hpt
        have H4 := Lib.hid h4
        clear hpt HPT h4
        go_wp2_with fail
        refine HPT2.out.mono ?_
        rintro er w12 ⟨pv, rfl, hnew, f12⟩
        have HNEW := Lib.hid hnew
        obtain ⟨ba, bc, rfl⟩ := new_slice hnew
        have H12 : Hid (Fr (fun _ => False) w w12 ∧ (w12.heap[tb]? = some (.cells #[.int .u8 tk, .int .i64 tm, .slice ta tn tc, .slice ta' tn' tc'] 34 (0, 0)) ∧ Shows (fun _ => True) w12 tt (.agg #[.int .u8 tk, .int .i64 tm, .slice ta tn tc, .slice ta' tn' tc'])) ∧ (w12.heap[vb]? = some (.cells #[.int .i64 un, .float .f64 uf, .string us, .slice ua uc ucap] 39 (0, 0)) ∧ VShows (fun _ => True) w12 TU (.agg #[.int .i64 un, .float .f64 uf, .string us, .slice ua uc ucap]))) :=
          Lib.hid ⟨H11.out.1.trans f12 (fun _ _ h => h), ⟨box_kept H11.out.2.1.1 f12 (fun h => h), Shows.fr f12 (fun _ _ h => h) _ _ H11.out.2.1.2⟩, ⟨box_kept H11.out.2.2.1 f12 (fun h => h), VShows.fr f12 (fun _ _ h => h) _ _ H11.out.2.2.2⟩⟩
        have S12 := Lib.hid (S11.out.fr f12 (fun _ _ h => h))
        clear hnew f12 c0 c1 c2 c3 d0 d1 d2 d3
        obtain ⟨c0, c1, c2, c3⟩ := cell_of_four H12.out.2.1.1
        have HBE := back_err tt HG.out.1 TU HV.out (vbs_shows TU _ H12.out.2.2.2) (by have := HSV.out; omega)
        rw [HP.out] at HBE
        have HTK := Take_any tt (fun _ => True) (.agg #[.int .u8 tk, .int .i64 tm, .slice ta tn tc, .slice ta' tn' tc']) (.slice ba P.length bc) P w12 H12.out.2.1.2 HNEW.out.1.sees H4.out (take_small tt HG.out.1 P H4.out)
        rw [HBE.1] at HTK
        have HTA := Lib.hid HTK
        have HSA := Lib.hid HBE.2
        clear HTK HBE
        dsimp only
        go_wp2_with fail
        refine HTA.out.mono ?_
        rintro er w13 ⟨v', rfl, hv13, f13⟩
        simp only [if_true] at hv13
        obtain ⟨Y, hY⟩ : ∃ Y, (takeE tt 20 ((P, 0), 0)).1 = Y := ⟨_, rfl⟩
        rw [hY] at hv13 HSA
        dsimp only
        obtain ⟨yn, yf, ys, ya, yc, ycap, rfl⟩ := vshows_lit6 hv13
        obtain ⟨w14, hw14⟩ : ∃ w14, w14 = w13.alloc (.cells #[.int .i64 yn, .float .f64 yf, .string ys, .slice ya yc ycap] 39) := ⟨_, rfl⟩
        have f14 : Fr (fun _ => False) w13 w14 := by rw [hw14]; exact (Fr.refl _ _).alloc _
        have q14 : w14.heap[w13.heap.size]? = some (.cells #[.int .i64 yn, .float .f64 yf, .string ys, .slice ya yc ycap] 39 (0, 0)) := by rw [hw14]; exact heap_alloc_new _ _
        have HY14 := Lib.hid (VShows.fr f14 (fun _ _ h => h) _ _ (VShows.mono (S := fun _ => True) (fun _ _ _ => trivial) _ _ hv13))
        have F14 := Lib.hid (f13.trans f14 (fun _ _ h => h))
        clear c0 c1 c2 c3 hY hv13
        go_upto_region 15 with fail
        rw [← hw14]
        obtain ⟨yb, hyb⟩ : ∃ yb, w13.heap.size = yb := ⟨_, rfl⟩
        rw [hyb] at q14 ⊢
        have H14 : Hid (Fr (fun _ => False) w w14 ∧ (w14.heap[tb]? = some (.cells #[.int .u8 tk, .int .i64 tm, .slice ta tn tc, .slice ta' tn' tc'] 34 (0, 0)) ∧ Shows (fun _ => True) w14 tt (.agg #[.int .u8 tk, .int .i64 tm, .slice ta tn tc, .slice ta' tn' tc'])) ∧ (w14.heap[vb]? = some (.cells #[.int .i64 un, .float .f64 uf, .string us, .slice ua uc ucap] 39 (0, 0)) ∧ VShows (fun _ => True) w14 TU (.agg #[.int .i64 un, .float .f64 uf, .string us, .slice ua uc ucap]))) :=
          Lib.hid ⟨H12.out.1.trans F14.out (fun _ _ h => h), ⟨box_kept H12.out.2.1.1 F14.out (fun h => h), Shows.fr F14.out (fun _ _ h => h) _ _ H12.out.2.1.2⟩, ⟨box_kept H12.out.2.2.1 F14.out (fun h => h), VShows.fr F14.out (fun _ _ h => h) _ _ H12.out.2.2.2⟩⟩
        have Q14 := Lib.hid q14
        obtain ⟨SB, hSB⟩ : ∃ s : ByteArray, s = ⟨P.toArray⟩ := ⟨_, rfl⟩
        have hc1 := new_string HNEW.out F14.out
        have hc2 : (convert 26 9 (.slice ga P.length gc)).run Tryz.prog w14 = .ok (.string ⟨P.toArray⟩) w14 := (S12.out.fr F14.out (fun _ _ h => h)).string 26 5 9 Tryz.underlying26 Tryz.underlying5 Tryz.underlying9
        rw [← hSB] at hc1 hc2
        clear hSB hw14 f13 f14 q14 hyb
        obtain ⟨c0, c1, c2, c3⟩ := cell_of_four H14.out.2.2.1
        obtain ⟨d0, d1, d2, d3⟩ := cell_of_four Q14.out
        have HSM := vsame_any (fun _ => True) TU Y (.agg #[.int .i64 un, .float .f64 uf, .string us, .slice ua uc ucap]) (.agg #[.int .i64 yn, .float .f64 yf, .string ys, .slice ya yc ycap]) w14 H14.out.2.2.2 HY14.out (by have := HSV.out; omega)
        rw [HSA.out] at HSM
        have HSMH := Lib.hid HSM
        clear HSM
        go_wp2_with fail
        refine HSMH.out.mono ?_
        rintro er w15 ⟨rfl, f15⟩
        have F15 := Lib.hid (H14.out.1.trans f15 (fun _ _ h => h))
        clear f15 c0 c1 c2 c3 d0 d1 d2 d3 hc1 hc2
        dsimp only
        go_wp2_with fail
        go_ret
        exact ⟨rfl, F15.out⟩
    | false =>
      rw [hv, if_neg (by decide)] at hve
      subst hve
      clear hv
      dsimp only
      go_upto_region 10 with fail
      have H10 : Hid (Fr (fun _ => False) w wc ∧ (wc.heap[tb]? = some (.cells #[.int .u8 tk, .int .i64 tm, .slice ta tn tc, .slice ta' tn' tc'] 34 (0, 0)) ∧ Shows (fun _ => True) wc tt (.agg #[.int .u8 tk, .int .i64 tm, .slice ta tn tc, .slice ta' tn' tc'])) ∧ (wc.heap[vb]? = some (.cells #[.int .i64 zn, .float .f64 zf, .string zs, .slice za zc zcap] 39 (0, 0)) ∧ VShows (fun _ => True) wc T (.agg #[.int .i64 zn, .float .f64 zf, .string zs, .slice za zc zcap]))) :=
        Lib.hid ⟨HQ2.out.1, ⟨HQ2.out.2.1.1, Shows.mono (S := fun _ => True) (fun _ _ _ => trivial) _ _ HQ2.out.2.1.2⟩, ⟨HQ2.out.2.2.1, VShows.mono (S := fun _ => True) (fun _ _ _ => trivial) _ _ HQ2.out.2.2.2⟩⟩
      have HSV := HBS
      have HV := Lib.hid HBT.out.2
      obtain ⟨P, hP⟩ : ∃ P, encE tt T = P := ⟨_, rfl⟩
      have HP := Lib.hid hP
      clear hP
      have HIS : Hid (isE tt T = true) := Lib.hid (by have h := HV.out; unfold isVal at h; rw [Bool.and_eq_true, fits_is tt HG.out.1] at h; exact h.2)
      refine wp_region_chain (by kernel_rfl) [some 50, some 51, some 52, some 53, some 54, some 14] rfl (by decide) (by intro d hd; simp at hd ⊢; omega)
        [1, 3, 4, 5] (fun cvs wx => BRefS wc tt T P cvs wx)
        [.free (.agg #[.int .u8 tk, .int .i64 tm, .slice ta tn tc, .slice ta' tn' tc']), .link none, .free (.agg #[.int .i64 zn, .float .f64 zf, .string zs, .slice za zc zcap]), .link none, .link none, .link none]
        (by kernel_rfl) (by kernel_rfl) ?hB ?stepB ?finB
      case hB => exact (Fr.refl _ _).drew
      case stepB =>
        intro vals
        simp only [frOfU, fillU, List.setIfInBounds_toArray, List.set_cons_succ, List.set_cons_zero]
        repeat' (first | exact AllOps.nil | refine AllOps.cons ?_ ?_)
        all_goals
          intro cvs wx hS he hu hlim Kc hK
          simp only [Act.put, List.setIfInBounds_toArray, List.set_cons_succ, List.set_cons_zero, List.getD_cons_zero, List.getD_cons_succ] at hK
          simp only [List.mem_cons, List.not_mem_nil, or_false, forall_eq_or_imp, forall_eq, Region.binds, forall_const, vmode_gc, Bool.false_eq_true, false_imp_iff, List.getD_cons_zero, List.getD_cons_succ, OpSort.val, Option.some.injEq, forall_eq', reduceCtorEq, implies_true, true_and, and_true] at he
          obtain ⟨c0, c1, c2, c3⟩ := cell_of_four (box_kept H10.out.2.1.1 hS.fr (fun h => h))
          obtain ⟨d0, d1, d2, d3⟩ := cell_of_four (box_kept H10.out.2.2.1 hS.fr (fun h => h))
          have HSX := Lib.hid hS
          clear hS
        all_goals first | (clear hlim hu; (try simp only [he] at hK ⊢); go_simp; exact hK) | skip
        · obtain rfl := hlim (0 : Nat) rfl
          have h1 : Fr (fun _ => False) wc wx := HSX.out
          clear hlim hu HSX
          simp only [he] at hK ⊢
          go_simp
          go_at_call 12
          refine (ref_any tt (fun _ => True) _ wx (Shows.fr h1 (fun _ _ h => h) _ _ H10.out.2.1.2) HG.out.1).mono ?_
          rintro er wa ⟨v', rfl, hrs, fra⟩
          exact hK _ _ (fun _ h => by cases h) ⟨h1.trans fra (fun _ _ h => h), RShows.mono (fun _ _ _ => trivial) _ _ hrs⟩
        · obtain rfl := hlim (1 : Nat) rfl
          obtain ⟨h1, hr1⟩ : Fr (fun _ => False) wc wx ∧ RShows (fun _ => True) wx tt (vals 1) := HSX.out
          clear hlim hu HSX
          simp only [he] at hK ⊢
          go_simp
          go_at_call 13
          refine (refv_any T (fun _ => True) _ wx (VShows.fr h1 (fun _ _ h => h) _ _ H10.out.2.2.2) (by have := HSV.out; omega)).mono ?_
          rintro er wa ⟨v', rfl, hvs, fra⟩
          exact hK _ _ (fun _ h => by cases h) ⟨h1.trans fra (fun _ _ h => h), RShows.fr fra (fun _ _ h => h) _ _ hr1, VShows.mono (fun _ _ _ => trivial) _ _ hvs⟩
        · obtain rfl := hlim (2 : Nat) rfl
          obtain ⟨h1, hr1, hu1⟩ : Fr (fun _ => False) wc wx ∧ RShows (fun _ => True) wx tt (vals 1) ∧ VShows (fun _ => True) wx T (vals 3) := HSX.out
          clear hlim hu HSX
          go_simp
          go_at_call 11
          refine (rput_any tt (fun _ => True) _ _ wx T HG.out.1 hr1 hu1 HIS.out (by have := HSV.out; omega)).mono ?_
          rintro er wa ⟨pv', rfl, hm⟩
          rw [HP.out] at hm
          exact hK _ _ (fun _ h => by cases h) ⟨h1.trans hm.2.1 (fun _ _ h => h), hm.1.sees⟩
        · obtain rfl := hlim (3 : Nat) rfl
          obtain ⟨h1, hs1⟩ : Fr (fun _ => False) wc wx ∧ Sees wx (vals 4) P := HSX.out
          obtain ⟨a3, c3', e3, _⟩ := hs1.shape
          obtain ⟨nq, hnq⟩ : ∃ nq, nq = P.length := ⟨_, rfl⟩
          rw [← hnq] at e3
          have HSS := Lib.hid (e3 ▸ hs1)
          clear hlim hu HSX hs1 hnq
          simp only [he, e3] at hK ⊢
          (try simp only [Nat.reduceAdd, Nat.zero_add] at hK)
          clear he e3
          go_simp
          exact hK _ _ (fun _ h => by cases h) ⟨h1, HSS.out⟩
      case finB =>
        intro vals w11 hS hV
        have v0 := hV 0 _ (by decide) rfl
        have v2 := hV 2 _ (by decide) rfl
        clear hV
        simp only [frOfU, fillU, List.setIfInBounds_toArray, List.set_cons_succ, List.set_cons_zero]
        simp only [Nat.reduceAdd, v0, v2]
        clear v0 v2
        obtain ⟨f11, hs11⟩ : Fr (fun _ => False) wc w11 ∧ Sees w11 (vals 5) P := hS
        obtain ⟨ga, gc, hgv, _⟩ := hs11.shape
        have S11 := Lib.hid hs11
        rw [hgv] at S11
        simp only [hgv]
        have H11 : Hid (Fr (fun _ => False) w w11 ∧ (w11.heap[tb]? = some (.cells #[.int .u8 tk, .int .i64 tm, .slice ta tn tc, .slice ta' tn' tc'] 34 (0, 0)) ∧ Shows (fun _ => True) w11 tt (.agg #[.int .u8 tk, .int .i64 tm, .slice ta tn tc, .slice ta' tn' tc'])) ∧ (w11.heap[vb]? = some (.cells #[.int .i64 zn, .float .f64 zf, .string zs, .slice za zc zcap] 39 (0, 0)) ∧ VShows (fun _ => True) w11 T (.agg #[.int .i64 zn, .float .f64 zf, .string zs, .slice za zc zcap]))) :=
          Lib.hid ⟨H10.out.1.trans f11 (fun _ _ h => h), ⟨box_kept H10.out.2.1.1 f11 (fun h => h), Shows.fr f11 (fun _ _ h => h) _ _ H10.out.2.1.2⟩, ⟨box_kept H10.out.2.2.1 f11 (fun h => h), VShows.fr f11 (fun _ _ h => h) _ _ H10.out.2.2.2⟩⟩
        clear f11 hs11 hgv
        obtain ⟨c0, c1, c2, c3⟩ := cell_of_four H11.out.2.1.1
        obtain ⟨d0, d1, d2, d3⟩ := cell_of_four H11.out.2.2.1
        have HPU := cput_any (fun _ => True) tt T (.agg #[.int .u8 tk, .int .i64 tm, .slice ta tn tc, .slice ta' tn' tc']) (.agg #[.int .i64 zn, .float .f64 zf, .string zs, .slice za zc zcap]) w11 H11.out.2.1.2 H11.out.2.2.2 HG.out.1 HV.out (by have := HSV.out; omega)
        rw [HP.out] at HPU
        have HPT := Lib.hid HPU
        clear HPU
        by_cases h4 : P.length ≤ 4000
        case neg =>
          have hpt := HPT.out
          rw [if_neg h4, if_neg h4] at hpt
          have h4i : (4000 : Int) < (P.length : Int) := by omega
          have HPT2 := Lib.hid hpt
          clear hpt HPT h4
          go_wp2_with fail
          refine HPT2.out.mono ?_
          rintro er w12 ⟨pv, rfl, hnew, f12⟩
          obtain ⟨ba, bc, rfl⟩ := new_slice hnew
          have F12 := Lib.hid (H11.out.1.trans f12 (fun _ _ h => h))
          clear hnew f12 c0 c1 c2 c3 d0 d1 d2 d3
          dsimp only [List.length_nil]
          go_wp2_with fail
          go_ret
          exact ⟨rfl, F12.out⟩
        have hpt := HPT.out
        rw [if_pos h4, if_pos h4] at hpt
        have h4i : ¬ (4000 : Int) < (P.length : Int) := by omega
        have HPT2 := Lib.hid hpt
        have H4 := Lib.hid h4
        clear hpt HPT h4
        go_wp2_with fail
        refine HPT2.out.mono ?_
        rintro er w12 ⟨pv, rfl, hnew, f12⟩
        have HNEW := Lib.hid hnew
        obtain ⟨ba, bc, rfl⟩ := new_slice hnew
        have H12 : Hid (Fr (fun _ => False) w w12 ∧ (w12.heap[tb]? = some (.cells #[.int .u8 tk, .int .i64 tm, .slice ta tn tc, .slice ta' tn' tc'] 34 (0, 0)) ∧ Shows (fun _ => True) w12 tt (.agg #[.int .u8 tk, .int .i64 tm, .slice ta tn tc, .slice ta' tn' tc'])) ∧ (w12.heap[vb]? = some (.cells #[.int .i64 zn, .float .f64 zf, .string zs, .slice za zc zcap] 39 (0, 0)) ∧ VShows (fun _ => True) w12 T (.agg #[.int .i64 zn, .float .f64 zf, .string zs, .slice za zc zcap]))) :=
          Lib.hid ⟨H11.out.1.trans f12 (fun _ _ h => h), ⟨box_kept H11.out.2.1.1 f12 (fun h => h), Shows.fr f12 (fun _ _ h => h) _ _ H11.out.2.1.2⟩, ⟨box_kept H11.out.2.2.1 f12 (fun h => h), VShows.fr f12 (fun _ _ h => h) _ _ H11.out.2.2.2⟩⟩
        have S12 := Lib.hid (S11.out.fr f12 (fun _ _ h => h))
        clear hnew f12 c0 c1 c2 c3 d0 d1 d2 d3
        obtain ⟨c0, c1, c2, c3⟩ := cell_of_four H12.out.2.1.1
        have HBE := back_err tt HG.out.1 T HV.out (vbs_shows T _ H12.out.2.2.2) (by have := HSV.out; omega)
        rw [HP.out] at HBE
        have HTK := Take_any tt (fun _ => True) (.agg #[.int .u8 tk, .int .i64 tm, .slice ta tn tc, .slice ta' tn' tc']) (.slice ba P.length bc) P w12 H12.out.2.1.2 HNEW.out.1.sees H4.out (take_small tt HG.out.1 P H4.out)
        rw [HBE.1] at HTK
        have HTA := Lib.hid HTK
        have HSA := Lib.hid HBE.2
        clear HTK HBE
        dsimp only
        go_wp2_with fail
        refine HTA.out.mono ?_
        rintro er w13 ⟨v', rfl, hv13, f13⟩
        simp only [if_true] at hv13
        obtain ⟨Y, hY⟩ : ∃ Y, (takeE tt 20 ((P, 0), 0)).1 = Y := ⟨_, rfl⟩
        rw [hY] at hv13 HSA
        dsimp only
        obtain ⟨yn, yf, ys, ya, yc, ycap, rfl⟩ := vshows_lit6 hv13
        obtain ⟨w14, hw14⟩ : ∃ w14, w14 = w13.alloc (.cells #[.int .i64 yn, .float .f64 yf, .string ys, .slice ya yc ycap] 39) := ⟨_, rfl⟩
        have f14 : Fr (fun _ => False) w13 w14 := by rw [hw14]; exact (Fr.refl _ _).alloc _
        have q14 : w14.heap[w13.heap.size]? = some (.cells #[.int .i64 yn, .float .f64 yf, .string ys, .slice ya yc ycap] 39 (0, 0)) := by rw [hw14]; exact heap_alloc_new _ _
        have HY14 := Lib.hid (VShows.fr f14 (fun _ _ h => h) _ _ (VShows.mono (S := fun _ => True) (fun _ _ _ => trivial) _ _ hv13))
        have F14 := Lib.hid (f13.trans f14 (fun _ _ h => h))
        clear c0 c1 c2 c3 hY hv13
        go_upto_region 15 with fail
        rw [← hw14]
        obtain ⟨yb, hyb⟩ : ∃ yb, w13.heap.size = yb := ⟨_, rfl⟩
        rw [hyb] at q14 ⊢
        have H14 : Hid (Fr (fun _ => False) w w14 ∧ (w14.heap[tb]? = some (.cells #[.int .u8 tk, .int .i64 tm, .slice ta tn tc, .slice ta' tn' tc'] 34 (0, 0)) ∧ Shows (fun _ => True) w14 tt (.agg #[.int .u8 tk, .int .i64 tm, .slice ta tn tc, .slice ta' tn' tc'])) ∧ (w14.heap[vb]? = some (.cells #[.int .i64 zn, .float .f64 zf, .string zs, .slice za zc zcap] 39 (0, 0)) ∧ VShows (fun _ => True) w14 T (.agg #[.int .i64 zn, .float .f64 zf, .string zs, .slice za zc zcap]))) :=
          Lib.hid ⟨H12.out.1.trans F14.out (fun _ _ h => h), ⟨box_kept H12.out.2.1.1 F14.out (fun h => h), Shows.fr F14.out (fun _ _ h => h) _ _ H12.out.2.1.2⟩, ⟨box_kept H12.out.2.2.1 F14.out (fun h => h), VShows.fr F14.out (fun _ _ h => h) _ _ H12.out.2.2.2⟩⟩
        have Q14 := Lib.hid q14
        obtain ⟨SB, hSB⟩ : ∃ s : ByteArray, s = ⟨P.toArray⟩ := ⟨_, rfl⟩
        have hc1 := new_string HNEW.out F14.out
        have hc2 : (convert 26 9 (.slice ga P.length gc)).run Tryz.prog w14 = .ok (.string ⟨P.toArray⟩) w14 := (S12.out.fr F14.out (fun _ _ h => h)).string 26 5 9 Tryz.underlying26 Tryz.underlying5 Tryz.underlying9
        rw [← hSB] at hc1 hc2
        clear hSB hw14 f13 f14 q14 hyb
        obtain ⟨c0, c1, c2, c3⟩ := cell_of_four H14.out.2.2.1
        obtain ⟨d0, d1, d2, d3⟩ := cell_of_four Q14.out
        have HSM := vsame_any (fun _ => True) T Y (.agg #[.int .i64 zn, .float .f64 zf, .string zs, .slice za zc zcap]) (.agg #[.int .i64 yn, .float .f64 yf, .string ys, .slice ya yc ycap]) w14 H14.out.2.2.2 HY14.out (by have := HSV.out; omega)
        rw [HSA.out] at HSM
        have HSMH := Lib.hid HSM
        clear HSM
        go_wp2_with fail
        refine HSMH.out.mono ?_
        rintro er w15 ⟨rfl, f15⟩
        have F15 := Lib.hid (H14.out.1.trans f15 (fun _ _ h => h))
        clear f15 c0 c1 c2 c3 d0 d1 d2 d3 hc1 hc2
        dsimp only
        go_wp2_with fail
        go_ret
        exact ⟨rfl, F15.out⟩

/-- The law at its arguments. -/
theorem back_all {W : World} (t : KN) (vn : Value) (hn : NShows W t vn) (v1 : Value) (l1 : List Int) (w1 : SeesL W v1 (l1.map (Value.int .i64))) (wf1 : ∀ n ∈ l1, (Lit.int .i64 n).wf = true) (v2 : Value) (l2 : List Int) (w2 : SeesL W v2 (l2.map (Value.int .u8))) (wf2 : ∀ n ∈ l2, (Lit.int .u8 n).wf = true) (f : Int) (h0 : 0 ≤ f) (h1 : f ≤ 18446744073709551615) (e : Int) (h2 : 0 ≤ e) (h3 : e ≤ 255) :
    Calls Tryz.prog 3 #[vn, v1, v2, .int .u64 f, .int .u8 e] W fun e w' => e = .returned (.bool true) ∧ Fr (fun _ => False) W w' :=
  back_walk t vn v1 v2 l1 _ f e W hn w1 wf1 (sees_u8 w2 wf2) h0 h1 h2 h3
end
end Go.Proofs.YtplipjijaaejlaaGreat
