/-
  CouAny, part 12 of what it rests on: CouAnyLaw, CouAnyArg.
-/
import Derived.Test.YtplipjijaaejlaaSk
import Derived.Deep.LoopGhost
import Derived.BigRegion
set_option linter.unusedVariables false
set_option linter.unusedSimpArgs false
set_option maxHeartbeats 32000000
namespace Go.Proofs.Ytplipjijaaejlaa
open Go.RowKit
open Go.Lib (hid)
section
attribute [local go_sem] run_store_float
set_option maxRecDepth 100000

/-- Specs of values in a region: a known value; a value shown; a row of bytes and an error; bytes. -/
inductive VC where
  | is (v : Value)
  | vv (T : VT)
  | tp (P : List UInt8) (E : Int)
  | bt (P : List UInt8)
def VC.holds : VC → Value → World → Prop
  | .is v, y, _ => y = v
  | .vv T, y, w => VShows (fun _ => True) w T y
  | .tp P E, y, w => ∃ pv, y = .tuple #[pv, .int .i64 E] ∧ Sees w pv P
  | .bt P, y, w => Sees w y P
def vcV (l : List VC) (i : Nat) (v : Value) (w : World) : Prop := (l.getD i (.is undef)).holds v w
theorem vcV_mono (l : List VC) : ∀ i v w w', Fr (fun _ => False) w w' → vcV l i v w → vcV l i v w' := by
  intro i v w w' f h
  unfold vcV at *
  cases hx : l.getD i (.is undef) with
  | is u => rw [hx] at h; exact h
  | vv T => rw [hx] at h; exact VShows.fr f (fun _ _ h => h) _ _ h
  | tp P E =>
    rw [hx] at h
    obtain ⟨pv, e, h⟩ := h
    exact ⟨pv, e, h.fr f (fun _ _ h => h)⟩
  | bt P => rw [hx] at h; exact Sees.fr h f (fun _ _ h => h)

/-- The region of the four slices: how far it is. -/
def CaS (raw P : List UInt8) (rs ts gs : Value) (w9 : World) : List Value → World → Prop
  | [], wx => Fr (fun _ => False) w9 wx
  | [v1], wx => Made v1 [] w9 wx
  | [_, v2], wx => Made v2 P w9 wx
  | [_, _, v3], wx => Made v3 (P ++ raw) w9 wx
  | [_, _, _, v4], wx => ∃ g v3, v4 = .slice (some ⟨g, 0, none⟩) 4 4 ∧ wx.heap[g]? = some (.cells #[rs, ts, gs, v3] 26 (0, 0)) ∧ Sees wx v3 (P ++ raw) ∧ Fr (fun _ => False) w9 wx
  | [_, _, _, v4, v5], wx => v5 = .int .i64 4 ∧ ∃ g v3, v4 = .slice (some ⟨g, 0, none⟩) 4 4 ∧ wx.heap[g]? = some (.cells #[rs, ts, gs, v3] 26 (0, 0)) ∧ Sees wx v3 (P ++ raw) ∧ Fr (fun _ => False) w9 wx
  | _, _ => False

theorem CaS.fr {raw P : List UInt8} {rs ts gs : Value} {w9 wx : World} : ∀ {c : List Value}, CaS raw P rs ts gs w9 c wx → Fr (fun _ => False) w9 wx
  | [], h => h
  | [_], h => h.2.1
  | [_, _], h => h.2.1
  | [_, _, _], h => h.2.1
  | [_, _, _, _], ⟨_, _, _, _, _, h⟩ => h
  | [_, _, _, _, _], ⟨_, _, _, _, _, _, h⟩ => h
  | _ :: _ :: _ :: _ :: _ :: _ :: _, h => h.elim

theorem any_walk (t : KN) (vn lv rv : Value) (l : List Int) (raw : List UInt8) (at_ by_ : Int) (w : World) (hn : NShows w t vn) (hl : SeesL w lv (l.map (Value.int .i64))) (hlw : ∀ n ∈ l, (Lit.int .i64 n).wf = true) (hr : Sees w rv raw) (ha0 : 0 ≤ at_) (ha1 : at_ ≤ 65535) (hb0 : 0 ≤ by_) (hb1 : by_ ≤ 255) :
    Calls Try.prog 3 #[vn, lv, rv, .int .u16 at_, .int .u8 by_] w fun e w' => e = .returned (.bool true) ∧ Fr (fun _ => False) w w' := by
  obtain ⟨k, n, a, c, cap, rfl⟩ := hn.cells
  obtain ⟨la, lc, rfl⟩ := cslice hl
  obtain ⟨ra, rc, rfl, _⟩ := hr.shape
  simp only [List.length_map] at hl ⊢
  have HVOK := Lib.hid (NShows.vok t _ hn)
  have HN := Lib.hid hn
  have HL := Lib.hid (And.intro hl hlw)
  have HR := Lib.hid hr
  obtain ⟨ll, hll⟩ : ∃ ll, l.length = ll := ⟨_, rfl⟩
  rw [hll]
  have HLL := Lib.hid hll
  clear hn hl hlw hll hr
  obtain ⟨w1, hw1⟩ : ∃ w1, w1 = w.alloc (.cells #[.int .u8 k, .int .u8 n, .slice a c cap] 24) := ⟨_, rfl⟩
  have f1 : Fr (fun _ => False) w w1 := by rw [hw1]; exact (Fr.refl _ _).alloc _
  have q1 : w1.heap[w.heap.size]? = some (.cells #[.int .u8 k, .int .u8 n, .slice a c cap] 24 (0, 0)) := by rw [hw1]; exact heap_alloc_new _ _
  go_enter Try.func3, Try.ntmps3
  go_upto_region 1 with fail
  rw [← hw1]
  obtain ⟨nb, hnb⟩ : ∃ nb, w.heap.size = nb := ⟨_, rfl⟩
  rw [hnb] at q1 ⊢
  have H1 := Lib.hid (And.intro f1 q1)
  clear hw1 f1 q1 hnb
  go_wp2_with fail
  refine (cawake_any _).mono ?_
  rintro er w2 ⟨rfl, f2⟩
  have H2 := Lib.hid (And.intro (H1.out.1.trans f2 (fun _ _ h => h)) (box_kept H1.out.2 f2 (fun h => h)))
  have c0 := cells_row H2.out.2 0 _ rfl
  have c1 := cells_row H2.out.2 1 _ rfl
  have c2 := cells_row H2.out.2 2 _ rfl
  clear f2
  have hli := light_any t _ w2 4 4 rfl (by omega) (NShows.fr H2.out.1 _ _ HN.out)
  cases hB : lightE t 4 with
  | false =>
    rw [hB] at hli
    clear hB
    go_wp2_with fail
    refine hli.mono ?_
    rintro er w3 ⟨rfl, f3⟩
    have F3 := Lib.hid f3
    clear f3 hli c0 c1 c2
    go_wp2
    go_ret
    exact ⟨rfl, H2.out.1.trans F3.out (fun _ _ h => h)⟩
  | true =>
  rw [hB] at hli
  clear hB
  go_wp2_with fail
  refine hli.mono ?_
  rintro er w3 ⟨rfl, f3⟩
  have H3 := Lib.hid (And.intro (H2.out.1.trans f3 (fun _ _ h => h)) (box_kept H2.out.2 f3 (fun h => h)))
  clear f3 hli c0 c1 c2
  by_cases h60 : 60 < ll
  · have b60 : (60 : Int) < (ll : Int) := by omega
    clear h60
    go_wp2
    go_ret
    exact ⟨rfl, H3.out.1⟩
  have b60 : ¬ (60 : Int) < (ll : Int) := by omega
  have HM := Lib.hid h60
  clear h60
  by_cases h100 : 100 < raw.length
  · have b100 : (100 : Int) < (raw.length : Int) := by omega
    clear h100
    go_wp2
    go_ret
    exact ⟨rfl, H3.out.1⟩
  have b100 : ¬ (100 : Int) < (raw.length : Int) := by omega
  have HMR := Lib.hid h100
  clear h100
  have c0 := cells_row H3.out.2 0 _ rfl
  have c1 := cells_row H3.out.2 1 _ rfl
  have c2 := cells_row H3.out.2 2 _ rfl
  go_wp2_with fail
  clear b60 b100
  refine (vtype_any t _ w3 (NShows.fr H3.out.1 _ _ HN.out)).mono ?_
  rintro er w4 ⟨tv, rfl, ht, f4⟩
  have HG := Lib.hid (good_type t 4 (by omega) HVOK.out)
  have HC := Lib.hid (show costE (typeE [] t 4) ≤ 100000 from by have := cost_typeE [] t 4; omega)
  have HBT := Lib.hid (build_type l t 4 (by omega) (by omega) HVOK.out)
  have HBS := Lib.hid (build_le l _ (good_type t 4 (by omega) HVOK.out).1 (0, 0)).2
  rw [← HBT.out.1] at HBS
  generalize typeE [] t 4 = tt at *
  obtain ⟨tk, tm, ta, tn, tc, ta', tn', tc', rfl⟩ := shows_lit8 (T := tt) ht
  have f5 : Fr (fun _ => False) w4 (w4.alloc (.cells #[.int .u8 tk, .int .i64 tm, .slice ta tn tc, .slice ta' tn' tc'] 34)) := (Fr.refl _ _).alloc _
  have q5 := heap_alloc_new w4 (.cells #[.int .u8 tk, .int .i64 tm, .slice ta tn tc, .slice ta' tn' tc'] 34)
  have HT := Lib.hid (Shows.fr f5 (fun _ _ h => h) _ _ (Shows.mono (S := fun _ => True) (fun _ _ _ => trivial) _ _ ht))
  have F5 := Lib.hid ((H3.out.1.trans f4 (fun _ _ h => h)).trans f5 (fun _ _ h => h))
  clear ht f4 f5 c0 c1 c2
  go_upto_region 6 with fail
  generalize w4.alloc (.cells #[.int .u8 tk, .int .i64 tm, .slice ta tn tc, .slice ta' tn' tc'] 34) = w5 at *
  generalize w4.heap.size = tb at *
  have H5 := Lib.hid (And.intro F5.out (And.intro q5 HT.out))
  clear q5
  have HNU : Hid (Nums (fun _ => True) w5 l (.slice la ll lc)) := Lib.hid (by
    have h1 := cnums_of (HL.out.1.fr0 F5.out) HL.out.2 (by have := HM.out; have := HLL.out; omega)
    rw [HLL.out] at h1
    exact h1)
  obtain ⟨T, hT⟩ : ∃ T, T = BuildE l tt := ⟨_, rfl⟩
  rw [← hT] at HBT HBS
  have HBB := Lib.hid hT
  clear hT
  obtain ⟨P, hP⟩ : ∃ P, P = if (encE tt T).length ≤ 4000 then encE tt T else [] := ⟨_, rfl⟩
  obtain ⟨E0, hE0⟩ : ∃ E0 : Int, E0 = if (encE tt T).length ≤ 4000 then 0 else 6 := ⟨_, rfl⟩
  have HPL : Hid (P.length ≤ 4000) := Lib.hid (by rw [hP]; split <;> simp_all)
  have HPE := Lib.hid (And.intro hP hE0)
  clear hP hE0
  refine wp_region_told (by kernel_rfl) (fun a b => Fr (fun _ => False) a b) (fun w => Fr.refl _ w) (fun _ _ _ h k => h.trans k (fun _ _ h => h)) [39, 40, 41, 42, 43, 38, 44, 45, 12, 13] rfl (by decide) (by intro d hd; simp at hd ⊢; omega)
    (vcV [.is (.agg #[.int .u8 tk, .int .i64 tm, .slice ta tn tc, .slice ta' tn' tc']), .is (.agg #[.int .u8 tk, .int .i64 tm, .slice ta tn tc, .slice ta' tn' tc']), .is (.slice la ll lc), .vv T, .tp P E0, .tp P E0, .bt P, .is (.int .i64 E0), .bt P, .is (.int .i64 E0)])
    (vcV_mono _) (by kernel_rfl) ?step6 ?fin6
  case step6 =>
    intro vals
    simp only [frOf, fill, List.setIfInBounds_toArray, List.set_cons_succ, List.set_cons_zero]
    repeat' (first | exact AllOps.nil | refine AllOps.cons ?_ ?_)
    all_goals
      intro wx hle he K' hK
      simp only [Act.put, List.setIfInBounds_toArray, List.set_cons_succ, List.set_cons_zero, vcV, VC.holds, List.getD_cons_zero, List.getD_cons_succ] at hK
      simp only [List.mem_cons, List.not_mem_nil, or_false, forall_eq_or_imp, forall_eq, Region.binds, forall_const, false_imp_iff, vcV, VC.holds, List.getD_cons_zero, List.getD_cons_succ] at he
      have hl5 := Fr.trans (Fr.drew (Fr.refl (fun _ => False) w5)) hle (fun _ _ h => h)
      have hl8 := Lib.hid hl5
      obtain ⟨c0, c1, c2, c3⟩ := cell_of_four (box_kept H5.out.2.1 hl5 (fun h => h))
      clear hl5 hle
    all_goals first
      | (simp only [he] at hK ⊢; clear he; go_simp; exact hK _ _ (Fr.refl _ _) rfl)
      | (clear he; go_simp; exact hK _ _ (Fr.refl _ _) rfl)
      | skip
    · simp only [he] at hK ⊢
      clear he
      go_simp
      go_at_call 11
      refine (Build_any (fun _ => True) l tt _ (.slice la ll lc) wx (Shows.fr hl8.out (fun _ _ h => h) _ _ H5.out.2.2) (HNU.out.fr hl8.out (fun _ _ h => h)) HC.out).mono ?_
      rintro er wa ⟨v', rfl, ht0, fra⟩
      exact hK _ _ fra (by rw [HBB.out]; exact VShows.mono (S := fun _ => True) (fun _ _ _ => trivial) _ _ ht0)
    · obtain ⟨e1, e2⟩ := he
      have hvs : VShows (fun _ => True) wx T (vals 3) := by first | exact e2 | exact e2.1
      have HVS := Lib.hid hvs
      simp only [e1] at hK ⊢
      clear e1 e2 hvs
      go_simp
      go_at_call 10
      refine (cput_any (fun _ => True) tt T _ (vals 3) wx (Shows.fr hl8.out (fun _ _ h => h) _ _ H5.out.2.2) HVS.out HG.out.1 HBT.out.2 (by have := HBS.out; have := HC.out; omega)).mono ?_
      rintro er wa ⟨pv, rfl, hnew, fra⟩
      rw [← HPE.out.1] at hnew
      rw [← HPE.out.2]
      exact hK _ _ fra ⟨pv, rfl, hnew.1.sees⟩
    · obtain ⟨pv, e1, hs⟩ : ∃ pv, vals 4 = .tuple #[pv, .int .i64 E0] ∧ Sees wx pv P := by first | exact he | exact he.1
      have HSS := Lib.hid hs
      clear hs
      simp only [e1] at hK ⊢
      clear he e1
      go_simp
      exact hK _ _ (Fr.refl _ _) ⟨pv, rfl, HSS.out⟩
    · obtain ⟨pv, e1, hs⟩ : ∃ pv, vals 5 = .tuple #[pv, .int .i64 E0] ∧ Sees wx pv P := by first | exact he | exact he.1
      have HSS := Lib.hid hs
      clear hs
      simp only [e1] at hK ⊢
      clear he e1
      go_simp
      exact hK _ _ (Fr.refl _ _) HSS.out
    · obtain ⟨pv, e1, hs⟩ : ∃ pv, vals 5 = .tuple #[pv, .int .i64 E0] ∧ Sees wx pv P := by first | exact he | exact he.1
      clear hs
      simp only [e1] at hK ⊢
      clear he e1
      go_simp
      exact hK _ _ (Fr.refl _ _) rfl
    · have hs : Sees wx (vals 6) P := by first | exact he | exact he.1
      have HSS := Lib.hid hs
      clear hs he
      go_simp
      exact hK _ _ (Fr.refl _ _) HSS.out
  case fin6 =>
    intro vals w6 hle hV
    have hs8 : Sees w6 (vals 8) P := hV 8 (by decide)
    have h9 : vals 9 = .int .i64 E0 := hV 9 (by decide)
    clear hV
    have hf6 := Fr.trans (Fr.drew (Fr.refl (fun _ => False) w5)) hle (fun _ _ h => h)
    have F6 := Lib.hid (H5.out.1.trans hf6 (fun _ _ h => h))
    have T6 := Lib.hid (And.intro (box_kept H5.out.2.1 hf6 (fun h => h)) (Shows.mono (S := fun k => k < w6.heap.size) (fun k hk _ => hk) _ _ (Shows.fr hf6 (fun _ _ h => h) _ _ H5.out.2.2)))
    have HTB : Hid (tb < w6.heap.size ∧ w.heap.size ≤ w6.heap.size) := Lib.hid ⟨(Array.getElem?_eq_some_iff.1 T6.out.1).1, F6.out.size⟩
    clear hle hf6
    obtain ⟨ga, gc, hgv, _⟩ := hs8.shape
    have S6 := Lib.hid hs8
    rw [hgv] at S6
    simp only [frOf, fill, List.setIfInBounds_toArray, List.set_cons_succ, List.set_cons_zero, Nat.reduceAdd]
    simp only [h9, hgv]
    clear h9 hgv hs8
    by_cases hP0 : P = []
    · have hp0 : P.length = 0 := by simp [hP0]
      have hb : ((P.length : Int) == 0) = true := by simp [hP0]
      clear hP0 hp0
      go_wp2_with fail
      go_ret
      exact ⟨rfl, F6.out⟩
    have hb : ((P.length : Int) == 0) = false := by simp [hP0]
    have HP0 := Lib.hid (And.intro hP0 (List.length_pos_iff.2 hP0))
    clear hP0
    go_upto_region 9 with fail
    clear hb
    obtain ⟨i0, hi, hz0, hz1, hz2⟩ := info_parts Try.infoU8
    have hf7 : Fr (fun _ => False) w6 (w6.alloc (.cells #[] 5)) := (Fr.refl _ _).alloc _
    have M7 := Lib.hid (made_empty w6)
    have hs7 := Lib.hid (S6.out.fr hf7 (fun _ _ h => h))
    go_wp2_with (at_builtin; refine wpList_append_sep rfl (.tmp 49) (.tmp 50) 26 26 rfl 0 5 i0 (.int .u8 0) 1 1 Try.underlying26 _ Try.underlying26 (.inr ⟨_, rfl⟩) hi hz0 hz1 hz2 rfl (by decide) (.slice (some ⟨w6.heap.size, 0, none⟩) 0 0) 0 [] rfl M7.out.1 _ P.length (P.map bv) rfl (lenOf_slice _ _ _) (by simp) hs7.out.first (hs7.out.drew).first (bv_one _) ?b1 ?b2 (Nat.zero_le _) ?grow)
    case b1 => have := HPL.out; unfold maxLen; omega
    case b2 => have := HPL.out; omega
    case grow =>
    intro v8 w8 hown hg hv
    have m8 : Made v8 ([] ++ P) w6 w8 := Made.append M7.out (Fr.refl _ _) (by simp) hown hg (by rw [World.size_alloc]; exact hv)
    rw [List.nil_append] at m8
    have F8 := Lib.hid (F6.out.trans m8.2.1 (fun _ _ h => h))
    have T8 := Lib.hid (And.intro (box_kept T6.out.1 m8.2.1 (fun h => h)) (Shows.fr m8.2.1 (fun _ _ h => h) _ _ T6.out.2))
    have S8 := Lib.hid (S6.out.fr m8.2.1 (fun _ _ h => h))
    have hgold : ∀ k, (Value.slice ga P.length gc).ownBlock = some k → k < w6.heap.size := sees_old8 S6.out HP0.out.1
    have HGO := Lib.hid hgold
    obtain ⟨gt, ct, hv8, hle8⟩ := made_shape m8 HP0.out.2
    subst hv8
    have O8 := Lib.hid m8.1
    have HGT : Hid (w6.heap.size ≤ gt ∧ gt < w8.heap.size) := Lib.hid ⟨m8.2.2 gt rfl, m8.1.lt gt rfl⟩
    clear hown hg hv m8 hf7 M7 hs7 hgold F6 T6 S6
    go_upto_region 10 with fail
    obtain ⟨B, hB⟩ : ∃ B : UInt8, (B.toNat : Int) = by_ := ⟨UInt8.ofNat by_.toNat, by rw [UInt8.toNat_ofNat']; omega⟩
    subst hB
    obtain ⟨q, hq1, hq2⟩ : ∃ q : Nat, at_ % (P.length : Int) = q ∧ q < P.length := by
      have := HP0.out.2
      refine ⟨(at_ % (P.length : Int)).toNat, ?_, ?_⟩
      · rw [Int.toNat_of_nonneg (Int.emod_nonneg _ (by omega))]
      · have := Int.emod_lt_of_pos at_ (show 0 < (P.length : Int) by omega)
        have := Int.emod_nonneg at_ (show (P.length : Int) ≠ 0 by omega)
        omega
    have hq3 : at_.tmod (P.length : Int) = q := by rw [Int.tmod_eq_emod_of_nonneg ha0]; exact hq1
    have hq4 : (q : Int) < (P.length : Int) := by omega
    have hc := own_at O8.out q hq2
    have hz := own_frozen O8.out q
    rw [Nat.zero_add] at hc
    unfold bv at hc
    have hS := own_set O8.out q (P.getD q 0 ^^^ B)
    generalize hd : P.getD q 0 = d at *
    have hx : Value.int .u8 (bits .xor .u8 (d.toNat : Int) (B.toNat : Int)) = bv (d ^^^ B) := by
      rw [xor_u8 _ _ (UInt8.toNat_lt _) (UInt8.toNat_lt _)]; unfold bv; rw [UInt8.toNat_xor]
    have HX := Lib.hid hx; clear hx
    have HS := Lib.hid hS; clear hS
    have HQ := Lib.hid (And.intro hq1 (And.intro hq2 hq3))
    clear hd
    go_upto_region 11 with fail
    rw [HX.out]
    have s9 : Fr (fun k => k = gt) w8 (w8.setCell ⟨gt, q, none⟩ (bv (d ^^^ B))) := (Fr.refl (fun k => k = gt) w8).setCell (p := ⟨gt, q, none⟩) (fun _ => rfl) _
    have O9 := Lib.hid HS.out
    have F9 := Lib.hid (F8.out.trans s9 (fun k hk e => by
      subst e
      have := HGT.out.1
      have := HTB.out.2
      omega))
    have T9 := Lib.hid (And.intro (box_kept T8.out.1 s9 (by have := HTB.out; have := HGT.out; omega)) (Shows.fr s9 (fun k hk e => by have := HGT.out; omega) _ _ T8.out.2))
    have S9 := Lib.hid (S8.out.fr s9 (fun k hk e => by have := HGO.out k hk; have := HGT.out.1; omega))
    generalize hL : P.set q (d ^^^ B) = L9 at *
    have HL9 : Hid (L9.length = P.length) := Lib.hid (by rw [← hL, List.length_set])
    generalize w8.setCell ⟨gt, q, none⟩ (bv (d ^^^ B)) = w9 at *
    have R9 := Lib.hid (HR.out.fr F9.out (fun _ _ h => h))
    clear s9 hL hc hz HX HS T8 S8 O8 F8
    obtain ⟨hq1, hq2, hq3⟩ := HQ.out
    have hgc : P.length ≤ gc := by
      rcases S9.out with ⟨e, _⟩ | ⟨g, off, cap, e, hle, _⟩
      · exact absurd e HP0.out.1
      · simp only [Value.slice.injEq] at e
        omega
    have hq5 : (q : Int) ≤ (gc : Int) := by omega
    have hq6 : q ≤ gc := by omega
    have HWA : Hid (IntKind.i64.wrap at_ = at_) := Lib.hid (by rw [IntKind.wrap_i64]; omega)
    refine wp_region_chain (by kernel_rfl) [some 63, some 64, some 65, some 66, some 67, some 68, some 69, some 70, some 71, some 72, some 73, some 74, some 75, some 76, some 77, some 78, some 79] rfl (by decide) (by intro d hd; simp at hd ⊢; omega)
      [9, 11, 13, 14, 15] (fun cvs wx => CaS raw P (.slice ra raw.length rc) (.slice (some ⟨gt, 0, none⟩) P.length ct) (.slice ga q gc) w9 cvs wx)
      [.free (.slice ra raw.length rc), .free (.slice (some ⟨gt, 0, none⟩) P.length ct), .free (.slice ga P.length gc), .free (.int .u16 at_), .free (.int .i64 at_), .free (.slice ga P.length gc), .free (.int .i64 P.length), .free (.int .i64 q), .free (.slice ga q gc), .link none, .free (.slice ga P.length gc), .link none, .free (.slice ra raw.length rc), .link none, .link none, .link none, .free (.int .i64 0)]
      (by kernel_rfl) (by kernel_rfl) ?h11 ?step11 ?fin11
    case h11 => exact (Fr.refl _ _).drew
    case step11 =>
      intro vals
      simp only [frOfU, fillU, List.setIfInBounds_toArray, List.set_cons_succ, List.set_cons_zero]
      repeat' (first | exact AllOps.nil | refine AllOps.cons ?_ ?_)
      all_goals
        intro cvs wx hS he hu hlim Kc hK
        simp only [Act.put, List.setIfInBounds_toArray, List.set_cons_succ, List.set_cons_zero, List.getD_cons_zero, List.getD_cons_succ] at hK
        simp only [List.mem_cons, List.not_mem_nil, or_false, forall_eq_or_imp, forall_eq, Region.binds, forall_const, qmode_gc, Bool.false_eq_true, false_imp_iff, List.getD_cons_zero, List.getD_cons_succ, OpSort.val, Option.some.injEq, forall_eq', reduceCtorEq, implies_true, true_and, and_true] at he
        have hwa := HWA.out
        have hne0 := HP0.out.1
        have HSX := Lib.hid hS
        clear hS
      all_goals first | (clear hlim hu; (try simp only [he] at hK ⊢); go_simp; exact hK) | skip
      · obtain rfl := hlim (0 : Nat) rfl
        have h1 : Fr (fun _ => False) w9 wx := HSX.out
        have hm := Lib.hid (show Made (.slice (some ⟨wx.heap.size, 0, none⟩) 0 0) [] w9 (wx.alloc (.cells #[] 5)) from ⟨(made_empty wx).1, h1.trans (made_empty wx).2.1 (fun _ _ h => h), fun k hk => Nat.le_trans h1.size ((made_empty wx).2.2 k hk)⟩)
        clear hlim hu HSX h1
        go_simp
        exact hK _ _ (fun _ h => by cases h) hm.out
      · obtain rfl := hlim (1 : Nat) rfl
        have hm : Made (vals 9) [] w9 wx := HSX.out
        clear hlim hu HSX
        simp only [he] at hK ⊢
        rw [if_pos (by rfl)]
        refine opWp_app (.tmp 72) (.tmp 73) rfl (vals 9) rfl (.slice ga P.length gc) rfl [] P hm (Fr.refl _ _) (S9.out.fr hm.2.1 (fun _ _ h => h)) (by have := HPL.out; simp; omega) ?_
        intro v' w' m'
        exact hK _ _ (fun _ h => by cases h) m'
      · obtain rfl := hlim (2 : Nat) rfl
        have hm : Made (vals 11) P w9 wx := HSX.out
        clear hlim hu HSX
        simp only [he] at hK ⊢
        rw [if_pos (by rfl)]
        refine opWp_app (.tmp 74) (.tmp 75) rfl (vals 11) rfl (.slice ra raw.length rc) rfl P raw hm (Fr.refl _ _) (R9.out.fr hm.2.1 (fun _ _ h => h)) (by have := HPL.out; have := HMR.out; omega) ?_
        intro v' w' m'
        exact hK _ _ (fun _ h => by cases h) m'
      · obtain rfl := hlim (3 : Nat) rfl
        have hm : Made (vals 13) (P ++ raw) w9 wx := HSX.out
        obtain ⟨a3, c3, e3⟩ := slice_of_own hm.1
        obtain ⟨nn, hnn⟩ : ∃ nn, nn = (P ++ raw).length := ⟨_, rfl⟩
        rw [← hnn] at e3
        have HMM := Lib.hid (e3 ▸ hm)
        clear hlim hu HSX hm hnn
        simp only [he, e3] at hK ⊢
        (try simp only [Nat.reduceAdd, Nat.zero_add] at hK)
        clear he e3
        go_simp
        have f1 : Fr (fun _ => False) wx (wx.alloc (.cells #[(.slice ra raw.length rc), (.slice (some ⟨gt, 0, none⟩) P.length ct), (.slice ga q gc), .slice a3 nn c3] 26)) := (Fr.refl _ _).alloc _
        exact hK _ _ (fun _ h => by cases h) ⟨wx.heap.size, .slice a3 nn c3, rfl, heap_alloc_new _ _, HMM.out.1.sees.fr f1 (fun _ _ h => h), HMM.out.2.1.trans f1 (fun _ _ h => h)⟩
      · obtain rfl := hlim (4 : Nat) rfl
        obtain ⟨g, v3, e4, hq, hs, hf⟩ : ∃ g v3, vals 14 = .slice (some ⟨g, 0, none⟩) 4 4 ∧ wx.heap[g]? = some (.cells #[(.slice ra raw.length rc), (.slice (some ⟨gt, 0, none⟩) P.length ct), (.slice ga q gc), v3] 26 (0, 0)) ∧ Sees wx v3 (P ++ raw) ∧ Fr (fun _ => False) w9 wx := HSX.out
        have HH := Lib.hid (And.intro hq (And.intro hs hf))
        have HE4 := Lib.hid e4
        clear hlim hu HSX hq hs hf
        simp only [e4] at hK ⊢
        (try simp only [Nat.reduceAdd, Nat.zero_add] at hK)
        clear e4
        go_simp
        exact hK _ _ (fun _ h => by cases h) ⟨rfl, g, v3, HE4.out, HH.out⟩
    case fin11 =>
      intro vals w11 hS hV
      have v0 := hV 0 _ (by decide) rfl
      have v1 := hV 1 _ (by decide) rfl
      have v2 := hV 2 _ (by decide) rfl
      have v3 := hV 3 _ (by decide) rfl
      have v4 := hV 4 _ (by decide) rfl
      have v5 := hV 5 _ (by decide) rfl
      have v6 := hV 6 _ (by decide) rfl
      have v7 := hV 7 _ (by decide) rfl
      have v8 := hV 8 _ (by decide) rfl
      have v10 := hV 10 _ (by decide) rfl
      have v12 := hV 12 _ (by decide) rfl
      have v16 := hV 16 _ (by decide) rfl
      clear hV
      simp only [frOfU, fillU, List.setIfInBounds_toArray, List.set_cons_succ, List.set_cons_zero]
      simp only [Nat.reduceAdd, v0, v1, v2, v3, v4, v5, v6, v7, v8, v10, v12, v16]
      clear v0 v1 v2 v3 v4 v5 v6 v7 v8 v10 v12 v16
      obtain ⟨e15, gr, v3, e14, hq, hs, hf⟩ : CaS raw P (.slice ra raw.length rc) (.slice (some ⟨gt, 0, none⟩) P.length ct) (.slice ga q gc) w9 [vals 9, vals 11, vals 13, vals 14, vals 15] w11 := hS
      have x14 := e14
      have x15 := e15
      generalize vals 9 = y9 at *
      generalize vals 11 = y11 at *
      generalize vals 13 = y13 at *
      generalize vals 14 = y14 at *
      generalize vals 15 = y15 at *
      subst x14 x15
      clear e14 e15
      obtain ⟨a3, c3, hv3, _⟩ := hs.shape
      subst hv3
      have HX : Hid (∀ k : Nat, k < 4 → ∀ W, Fr (fun _ => False) w11 W → ∃ (ax : Option Addr) (lx : List UInt8) (cx : Nat), W.cell? ⟨gr, k, none⟩ = some (.slice ax lx.length cx) ∧ Sees W (.slice ax lx.length cx) lx) := Lib.hid (by
        intro k hk W f
        have hqW := box_kept hq f (fun h => h)
        have hf11 := hf.trans f (fun _ _ h => h)
        match k, hk with
        | 0, _ => exact ⟨ra, raw, rc, cells_row hqW 0 _ rfl, R9.out.fr hf11 (fun _ _ h => h)⟩
        | 1, _ => exact ⟨some ⟨gt, 0, none⟩, L9, ct, by rw [HL9.out]; exact cells_row hqW 1 _ rfl, by have h9 := (O9.out.fr hf11 (fun _ _ h => h)).sees; rw [← HL9.out] at h9; exact h9⟩
        | 2, _ =>
          have hlq : (P.take q).length = q := by rw [List.length_take]; omega
          exact ⟨ga, P.take q, gc, by rw [hlq]; exact cells_row hqW 2 _ rfl, by rw [hlq]; exact (S9.out.fr hf11 (fun _ _ h => h)).take (Nat.le_of_lt hq2)⟩
        | 3, _ => exact ⟨a3, P ++ raw, c3, cells_row hqW 3 _ rfl, hs.fr f (fun _ _ h => h)⟩)
      have F11 := Lib.hid (F9.out.trans hf (fun _ _ h => h))
      have T11 := Lib.hid (And.intro (box_kept T9.out.1 hf (fun h => h)) (Shows.fr hf (fun _ _ h => h) _ _ T9.out.2))
      clear hq hs hf F9 T9 R9 S9 O9 HL9 hq1 hq2 hq3 hq4 hq5 hq6 hgc HQ
      go_upto_region 12 with fail
      go_loopg [79] 4 (fun gh u79 wr => ∃ i : Nat, i ≤ 4 ∧ gh = 4 - i ∧ u79 = .int .i64 i ∧ Hid (Fr (fun _ => False) w11 wr))
      case atStart => exact ⟨0, by omega, rfl, rfl, Lib.hid (Fr.refl _ _)⟩
      case round =>
        obtain ⟨i, hi4, rfl, rfl, FR⟩ := hrel
        by_cases hilt : i < 4
        case neg =>
          obtain rfl : i = 4 := by omega
          go_wp2_with fail
          go_ret
          exact ⟨rfl, F11.out.trans FR.out (fun _ _ h => h)⟩
        obtain ⟨ax, lx, cx, hcx, sx⟩ := HX.out i hilt wr FR.out
        have SX := Lib.hid sx
        clear sx
        have q12 := box_kept T11.out.1 FR.out (fun h => h)
        obtain ⟨k0, k1, k2, k3⟩ := cell_of_four q12
        have HTK := Lib.hid (takeC (fun k => k < w6.heap.size) tt HG.out.1 (.agg #[.int .u8 tk, .int .i64 tm, .slice ta tn tc, .slice ta' tn' tc']) (.slice ax lx.length cx) lx wr (Shows.fr FR.out (fun _ _ h => h) _ _ T11.out.2) SX.out)
        clear q12
        go_wp2_with fail
        refine HTK.out.mono ?_
        rintro er w12 ⟨v12, rfl, hv12, f12⟩
        obtain ⟨xn, xf, xs, xa, xc, xcap, rfl⟩ := VShows.lit hv12
        have f13 : Fr (fun _ => False) w12 (w12.alloc (.cells #[.int .i64 xn, .float .f64 xf, .string xs, .slice xa xc xcap] 42)) := (Fr.refl _ _).alloc _
        have q13 := heap_alloc_new w12 (.cells #[.int .i64 xn, .float .f64 xf, .string xs, .slice xa xc xcap] 42)
        have hv13 := VShows.fr f13 (fun _ _ h => h) _ _ (VShows.mono (S := fun _ => True) (fun _ _ _ => trivial) _ _ hv12)
        obtain ⟨E1, hE1⟩ : ∃ E1, E1 = tkErr tt lx := ⟨_, rfl⟩
        rw [← hE1] at hv13 ⊢
        have HE1 := Lib.hid hE1
        have F13 := Lib.hid (FR.out.trans (f12.trans f13 (fun _ _ h => h)) (fun _ _ h => h))
        have FW13 := Lib.hid (f12.trans f13 (fun _ _ h => h))
        clear hE1 hv12 k0 k1 k2 k3 hcx
        dsimp only
        go_upto_region 15 with fail
        generalize w12.alloc (.cells #[.int .i64 xn, .float .f64 xf, .string xs, .slice xa xc xcap] 42) = w13 at *
        generalize w12.heap.size = gv at *
        have HV13 := Lib.hid (And.intro q13 hv13)
        clear f12 f13 q13 hv13
        by_cases hz : E1 = 0
        case neg =>
          have hb1 : (E1 == 0) = false := by simp [hz]
          have hzv := HV13.out.2
          rw [if_neg hz] at hzv
          have HZV := Lib.hid hzv
          clear hzv hz
          obtain ⟨d0, d1, d2, d3⟩ := cell_of_four HV13.out.1
          go_wp2_with fail
          refine (vsame_any (fun _ => True) zeroV zeroV _ _ w13 HZV.out (zeroV_shows _ _) (by rw [zero_sz]; omega)).mono ?_
          rintro er w14 ⟨rfl, f14⟩
          have hsame : sameV zeroV zeroV = true := by decide +kernel
          rw [hsame]
          have F14 := Lib.hid (F13.out.trans f14 (fun _ _ h => h))
          clear f14 hsame d0 d1 d2 d3
          dsimp only
          go_wp2_with fail
          go_roundg (4 - (i + 1))
          case measure => omega
          case rel => exact ⟨i + 1, by omega, rfl, by congr 1, F14⟩
        subst hz
        have HZV := Lib.hid (And.intro (tkErr_ok tt HG.out.1 lx HE1.out.symm) (show VShows (fun _ => True) w13 (tkV tt lx) (.agg #[.int .i64 xn, .float .f64 xf, .string xs, .slice xa xc xcap]) from by have := HV13.out.2; rw [if_pos rfl] at this; exact this))
        obtain ⟨d0, d1, d2, d3⟩ := cell_of_four HV13.out.1
        obtain ⟨k0, k1, k2, k3⟩ := cell_of_four (box_kept T11.out.1 F13.out (fun h => h))
        have HPT := cput_any (fun _ => True) tt (tkV tt lx) (.agg #[.int .u8 tk, .int .i64 tm, .slice ta tn tc, .slice ta' tn' tc']) (.agg #[.int .i64 xn, .float .f64 xf, .string xs, .slice xa xc xcap]) w13 (Shows.mono (S := fun _ => True) (fun _ _ _ => trivial) _ _ (Shows.fr F13.out (fun _ _ h => h) _ _ T11.out.2)) HZV.out.2 HG.out.1 HZV.out.1.2.1 HZV.out.1.2.2.1
        rw [HZV.out.1.1, if_pos HZV.out.1.2.2.2, if_pos HZV.out.1.2.2.2] at HPT
        have HPUT := Lib.hid HPT
        clear HPT
        go_wp2_with fail
        refine HPUT.out.mono ?_
        rintro er w14 ⟨pv, rfl, hnew, f14⟩
        have F14 := Lib.hid (F13.out.trans f14 (fun _ _ h => h))
        have HNEW := Lib.hid hnew
        have FF := Lib.hid f14
        have FRX := Lib.hid (FW13.out.trans f14 (fun _ _ h => h))
        obtain ⟨pa, pc, hpv⟩ := new_slice hnew
        subst hpv
        clear hnew f14 d0 d1 d2 d3 k0 k1 k2 k3
        obtain ⟨d0, d1, d2, d3⟩ := cell_of_four (box_kept HV13.out.1 FF.out (fun h => h))
        obtain ⟨k0, k1, k2, k3⟩ := cell_of_four (box_kept T11.out.1 F14.out (fun h => h))
        dsimp only
        go_upto_region 19 with fail
        have HCK := vcheck_any (fun _ => True) tt (tkV tt lx) (.agg #[.int .u8 tk, .int .i64 tm, .slice ta tn tc, .slice ta' tn' tc']) (.agg #[.int .i64 xn, .float .f64 xf, .string xs, .slice xa xc xcap]) w14 (Shows.mono (S := fun _ => True) (fun _ _ _ => trivial) _ _ (Shows.fr F14.out (fun _ _ h => h) _ _ T11.out.2)) (VShows.fr FF.out (fun _ _ h => h) _ _ HZV.out.2) HZV.out.1.2.2.1
        have hve : valE tt (tkV tt lx) = 0 := by unfold valE; rw [if_pos HZV.out.1.2.1]
        rw [hve] at HCK
        have HCH := Lib.hid HCK
        clear HCK hve
        go_wp2_with fail
        refine HCH.out.mono ?_
        rintro er w15 ⟨rfl, f15⟩
        obtain ⟨SB, hSB⟩ : ∃ s : ByteArray, s = ⟨lx.toArray⟩ := ⟨_, rfl⟩
        have hc1 := new_string HNEW.out f15
        have hc2 : (convert 26 9 (.slice ax lx.length cx)).run Try.prog w15 = .ok (.string ⟨lx.toArray⟩) w15 := (SX.out.fr (FRX.out.trans f15 (fun _ _ h => h)) (fun _ _ h => h)).string 26 5 9 Try.underlying26 Try.underlying5 Try.underlying9
        rw [← hSB] at hc1 hc2
        have F15 := Lib.hid (F14.out.trans f15 (fun _ _ h => h))
        clear f15 hSB d0 d1 d2 d3 k0 k1 k2 k3
        dsimp only
        go_wp2_with fail
        go_roundg (4 - (i + 1))
        case measure => omega
        case rel => exact ⟨i + 1, by omega, rfl, by congr 1, F15⟩

/-- The law at its arguments. -/
theorem any_all {W : World} (t : KN) (vn : Value) (hn : NShows W t vn) (v1 : Value) (l1 : List Int) (w1 : SeesL W v1 (l1.map (Value.int .i64))) (wf1 : ∀ n ∈ l1, (Lit.int .i64 n).wf = true) (v2 : Value) (l2 : List Int) (w2 : SeesL W v2 (l2.map (Value.int .u8))) (wf2 : ∀ n ∈ l2, (Lit.int .u8 n).wf = true) (at_ : Int) (h0 : 0 ≤ at_) (h1 : at_ ≤ 65535) (by_ : Int) (h2 : 0 ≤ by_) (h3 : by_ ≤ 255) :
    Calls Try.prog 3 #[vn, v1, v2, .int .u16 at_, .int .u8 by_] W fun e w' => e = .returned (.bool true) ∧ Fr (fun _ => False) W w' :=
  any_walk t vn v1 v2 l1 _ at_ by_ W hn w1 wf1 (sees_u8 w2 wf2) h0 h1 h2 h3
end
section

end
end Go.Proofs.Ytplipjijaaejlaa
