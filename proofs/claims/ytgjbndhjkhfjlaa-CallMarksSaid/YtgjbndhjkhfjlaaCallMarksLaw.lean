/-
  CallMarks: for every call of small numbers, every place and every byte the law returns true, and its arguments read as before.
-/
import Derived.Test.YtgjbndhjkhfjlaaCallArg
import Derived.Test.YtgjbndhjkhfjlaaCallMath
import Derived.Test.YtgjbndhjkhfjlaaCrcMixes
import Derived.Test.YtgjbndhjkhfjlaaTwo
import Derived.Deep.RegionWith
import Derived.Deep.Cut
import Derived.Deep.CutRange
import Derived.BigRegion
namespace Go.Proofs.Ytgjbndhjkhfjlaa
open Go.RowKit
set_option linter.unusedSimpArgs false
set_option linter.unusedVariables false

set_option maxRecDepth 100000 in
set_option maxHeartbeats 16000000 in
theorem marks_any (s : Sc) (v : Value) (at_ : Int) (h0 : 0 ≤ at_) (h1 : at_ ≤ 65535) (by_ : Int) (b0 : 0 ≤ by_) (b1 : by_ ≤ 255) (w : World) (hv : ScV w s v) :
    Calls Try.prog 5 #[v, .int .u16 at_, .int .u8 by_] w fun e w' => e = .returned (.bool true) ∧ Fr (fun _ => False) w w' := by
  obtain ⟨t, n, p, l⟩ := s
  obtain ⟨a, c, rfl, hs, ht0, ht1, hn0, hn1, hp0, hp1⟩ := hv
  simp only at *
  go_enter Try.func5, Try.ntmps5
  go_wp2_with fail
  have q0 := heap_alloc_new w (Obj.cells #[.int .u16 t, .int .u16 n, .int .u16 p, .slice a l.length c] 25 (0, 0))
  have f0 : Fr (fun _ => False) w (w.alloc (Obj.cells #[.int .u16 t, .int .u16 n, .int .u16 p, .slice a l.length c] 25 (0, 0))) := (Fr.refl _ _).alloc _
  generalize w.alloc (Obj.cells #[.int .u16 t, .int .u16 n, .int .u16 p, .slice a l.length c] 25 (0, 0)) = w0 at *
  generalize hg0 : w.heap.size = g0 at *
  refine (cawake_any _).mono ?_
  rintro e w1 ⟨rfl, f1⟩
  have q1 := crow_kept q0 f1 (fun h => h)
  have F1 := f0.trans0 f1
  clear q0 f0 f1
  obtain ⟨hb0, hb1, hb2, hb3⟩ := cell4 q1
  by_cases hl1 : l.length < 1
  · have hl1' : decide ((l.length : Int) < 1) = true := by simp; omega
    have HL := Lib.hid hl1; clear hl1
    go_wp2_with fail
    go_ret
    exact ⟨rfl, F1⟩
  by_cases hl2 : 100 < l.length
  · have hl1' : decide ((l.length : Int) < 1) = false := by simp; omega
    have hl2' : decide ((100 : Int) < (l.length : Int)) = true := by simp; omega
    have HL := Lib.hid hl1; clear hl1 hl2
    go_wp2_with fail
    go_ret
    exact ⟨rfl, F1⟩
  have hl1' : decide ((l.length : Int) < 1) = false := by simp; omega
  have hl2' : decide ((100 : Int) < (l.length : Int)) = false := by simp; omega
  have HG0 := Lib.hid hg0; clear hg0
  have HF1 := Lib.hid F1; clear F1
  have HQ1 := Lib.hid q1; clear q1
  go_upto_region 5 with fail
  clear hb0 hb1 hb2 hb3
  refine wp_region_links (by kernel_rfl) [some 22, some 23, some 24, some 25, some 7, some 8, none, none] rfl (by decide) (by intro d hd; simp at hd ⊢; omega)
    (fun st wx => (PX 32 32 #[.int .u16 0, .int .u16 0, .int .i64 0, .slice none 0 0] #[.int .u16 0, .int .u16 0, .int .i64 0, .slice none 0 0] #[.int .u16 t, .int .u16 n, .int .i64 p, .slice a l.length c] #[.int .u16 t, .int .u16 n, .int .i64 p, .slice a l.length c] 4 5 6 7 w1) st wx)
    [.free (.agg #[.int .u16 t, .int .u16 n, .int .u16 p, .slice a l.length c]), .link (some (.agg #[.int .u16 t, .int .u16 n, .int .i64 p, .slice a l.length c])), .free (.agg #[.int .u16 t, .int .u16 n, .int .u16 p, .slice a l.length c]), .link (some (.agg #[.int .u16 t, .int .u16 n, .int .i64 p, .slice a l.length c])), .link none, .link none, .link none, .link none]
    (by kernel_rfl) ?h05 ?step5 ?fin5
  case h05 => exact PX.start
  case step5 =>
    intro vals
    simp only [frOfU, fillU, List.setIfInBounds_toArray, List.set_cons_succ, List.set_cons_zero]
    repeat' (first | exact AllOps.nil | refine AllOps.cons ?_ ?_)
    all_goals
      intro st wx hS he hu hn K hK
      simp only [Act.put, List.setIfInBounds_toArray, List.set_cons_succ, List.set_cons_zero, List.getD_cons_zero, List.getD_cons_succ] at hK
      simp only [List.mem_cons, List.not_mem_nil, or_false, forall_eq_or_imp, forall_eq, Region.binds, forall_const, qmode_gc, Bool.false_eq_true, false_imp_iff, List.getD_cons_zero, List.getD_cons_succ, OpSort.val, OpSort.isLink, Option.some.injEq, forall_eq', reduceCtorEq, implies_true, true_and, and_true] at he
      obtain ⟨c0, c1, c2, c3⟩ := cell4 (crow_kept HQ1.out hS.fr (fun h => h))
      have HSX := Lib.hid hS
      clear hS
    all_goals first | (clear hu hn; (try simp only [he] at hK ⊢); go_simp; exact hK) | skip
    · clear hu hn
      simp only [he] at hK ⊢
      clear he
      go_simp
      go_at_call 7
      refine (small_any t n p a l.length c wx hp0 hp1).mono ?_
      rintro er wa ⟨rfl, fra⟩
      exact hK _ _ (fun _ h => by cases h; rfl) (HSX.out.call 1 _ fra (by decide) (by decide) (by decide) (by decide))
    · clear hu hn
      simp only [he] at hK ⊢
      clear he
      go_simp
      go_at_call 7
      refine (small_any t n p a l.length c wx hp0 hp1).mono ?_
      rintro er wa ⟨rfl, fra⟩
      exact hK _ _ (fun _ h => by cases h; rfl) (HSX.out.call 3 _ fra (by decide) (by decide) (by decide) (by decide))
    · have hs1 := Lib.hid (hu 6 (by simp) (by kernel_rfl)).2
      clear hu hn he
      go_simp
      exact hK _ _ (fun _ h => by cases h) (HSX.out.alloc1 hs1.out (by decide) (by decide) (by decide))
    · have hs1 := Lib.hid (hu 7 (by simp) (by kernel_rfl)).2
      clear hu hn he
      go_simp
      exact hK _ _ (fun _ h => by cases h) (HSX.out.alloc2 hs1.out (by decide) (by decide) (by decide))
    · have hst : st 4 = some (vals 4) := by first | exact he.1 | exact he.2.1 | exact he.2.2.1 | exact he.2.2.2.1 | exact he.2.2.2.2.1 | exact he.2.2.2.2.2.1 | exact he.2.2.2.2.2.2.1 | exact he.2.2.2.2.2.2.2.1 | exact he.2.2.2.2.2.2.2.2.1 | exact he.2.2.2.2.2.2.2.2.2.1 | exact he.2.2.2.2.2.2.2.2.2.2.1 | exact he.2.2.2.2.2.2.2.2.2.2.2.1
      obtain ⟨g1, e1, hc1⟩ := HSX.out.at1 hn hst
      rw [e1] at hst
      have HST := Lib.hid hst
      have HC1 := Lib.hid hc1
      have z0 := qfree hc1 0
      have d0 := qrow hc1 0 _ rfl
      have z1 := qfree hc1 1
      have d1 := qrow hc1 1 _ rfl
      have z2 := qfree hc1 2
      have d2 := qrow hc1 2 _ rfl
      have z3 := qfree hc1 3
      have d3 := qrow hc1 3 _ rfl
      clear hu hn hc1 hst
      simp only [e1, he] at hK ⊢
      clear he e1
      go_simp
      exact hK undef _ (fun _ h => by cases h) (HSX.out.store1 HST.out undef (by decide) (by decide) (by decide) (cst4 HC1.out) (cfr4 _ _ _ _ (Fr.refl _ _) (fun _ => rfl)))
    · have hst : st 5 = some (vals 5) := by first | exact he.1 | exact he.2.1 | exact he.2.2.1 | exact he.2.2.2.1 | exact he.2.2.2.2.1 | exact he.2.2.2.2.2.1 | exact he.2.2.2.2.2.2.1 | exact he.2.2.2.2.2.2.2.1 | exact he.2.2.2.2.2.2.2.2.1 | exact he.2.2.2.2.2.2.2.2.2.1 | exact he.2.2.2.2.2.2.2.2.2.2.1 | exact he.2.2.2.2.2.2.2.2.2.2.2.1
      obtain ⟨g1, e1, hc1⟩ := HSX.out.at2 hn hst
      rw [e1] at hst
      have HST := Lib.hid hst
      have HC1 := Lib.hid hc1
      have z0 := qfree hc1 0
      have d0 := qrow hc1 0 _ rfl
      have z1 := qfree hc1 1
      have d1 := qrow hc1 1 _ rfl
      have z2 := qfree hc1 2
      have d2 := qrow hc1 2 _ rfl
      have z3 := qfree hc1 3
      have d3 := qrow hc1 3 _ rfl
      clear hu hn hc1 hst
      simp only [e1, he] at hK ⊢
      clear he e1
      go_simp
      exact hK undef _ (fun _ h => by cases h) (HSX.out.store2 HST.out undef (by decide) (by decide) (by decide) (cst4 HC1.out) (cfr4 _ _ _ _ (Fr.refl _ _) (fun _ => rfl)))
  case fin5 =>
  intro vals w2 hS hV
  have hT := PX.fin hS rfl rfl rfl rfl
  have v0 := hV 0 _ (by decide) rfl
  have v1 := hV 1 _ (by decide) rfl
  have v2 := hV 2 _ (by decide) rfl
  have v3 := hV 3 _ (by decide) rfl
  obtain ⟨g1, g2, x4, x5, hne, hg1, hg2, f2, qa, qb⟩ := hT
  clear hS hV
  simp only [frOfU, fillU, List.setIfInBounds_toArray, List.set_cons_succ, List.set_cons_zero]
  simp only [Nat.reduceAdd, v0, v1, v2, v3, x4, x5]
  clear v0 v1 v2 v3 x4 x5
  have HF2 := Lib.hid (HF1.out.trans0 f2)
  have q0 := crow_kept HQ1.out f2 (fun h => h)
  have hs2 := hs.fr HF2.out
  have hl0 : 0 < l.length := by omega
  have hlm : l.length ≤ 100 := by omega
  have Hl0 := Lib.hid hl0
  have Hlm := Lib.hid hlm
  clear hl1 hl2 hl0 hlm
  obtain ⟨c0, c1, c2, c3⟩ := cell4 q0
  have e3 := crow qb 3 _ rfl
  have z3 := free4 qb 3
  have hz2 : g2 < w2.heap.size := (Array.getElem?_eq_some_iff.1 qb).1
  have hz1 : g1 < w2.heap.size := (Array.getElem?_eq_some_iff.1 qa).1
  have hz0 : g0 < w2.heap.size := (Array.getElem?_eq_some_iff.1 q0).1
  have HQ := Lib.hid (And.intro q0 (And.intro qa qb))
  have HS2 := Lib.hid hs2
  have HN := Lib.hid hne
  have HS0 := Lib.hid hs
  clear q0 qa qb hs2 hs f2 hne
  have hw1 := HF1.out.size
  rw [HG0.out] at hw1
  have Hk := Lib.hid (And.intro hg1 (And.intro hg2 hw1))
  clear hg1 hg2 hw1
  obtain ⟨i0, hi, hy0, hy1, hy2⟩ := info_parts Try.infoU8
  go_wp2_with (at_builtin; refine wpList_append_sep rfl (.tmp 26) (.tmp 28) 23 23 rfl 0 5 i0 (.int .u8 0) 1 1 Try.underlying23 _ Try.underlying23 (.inr ⟨_, rfl⟩) hi hy0 hy1 hy2 rfl (by decide) (.slice (some ⟨w2.heap.size, 0, none⟩) 0 0) 0 [] rfl ?own _ l.length (l.map bv) rfl (lenOf_slice _ _ _) (by simp) ?c1 ?c2 (bv_one _) ?b1 ?b2 (Nat.zero_le _) ?grow)
  case own => exact World.ownsRow_made w2 #[] 0 (Nat.zero_le _) (by unfold maxLen; omega) rfl
  case c1 => exact (HS2.out.1.fr ((Fr.refl (fun _ => False) w2).alloc _) (fun _ _ h => h)).first
  case c2 => exact (HS2.out.1.fr ((Fr.refl (fun _ => False) w2).alloc _) (fun _ _ h => h)).drew.first
  case b1 => have := Hlm.out; unfold maxLen; omega
  case b2 => have := Hlm.out; omega
  case grow =>
    intro v' w3 hown hg hv
    have f3 : Fr (fun _ => False) w2 w3 := ((Fr.refl _ _).alloc (.cells #[] 5)).trans (Fr.of_grown hg) (fun i hi e => by simp [Value.ownBlock] at e; omega)
    have ho3 : Own w3 v' l := hown
    obtain ⟨ad, cd, rfl⟩ := slice_of_own hown
    obtain ⟨gd, rfl⟩ : ∃ gd, ad = some ⟨gd, 0, none⟩ := by
      rcases ho3.2 with ⟨e, _⟩ | ⟨g, cap, cur, e, _⟩
      · have := Hl0.out; simp at e; omega
      · simp at e; exact ⟨g, e.1⟩
    have hgd : w2.heap.size ≤ gd := by
      rcases hv with e | e
      · simp [Value.ownBlock] at e; omega
      · simp [Value.ownBlock] at e; omega
    have q3 := crow_kept HQ.out.1 f3 (fun h => h)
    have qa3 := crow_kept HQ.out.2.1 f3 (fun h => h)
    have qb3 := crow_kept HQ.out.2.2 f3 (fun h => h)
    clear hown hg hv c0 c1 c2 c3 e3 z3
    have e3 := crow qb3 3 _ rfl
    have z3 := free4 qb3 3
    have n1 : g2 ≠ gd := by omega
    have n2 : gd ≠ g2 := by omega
    have n3 : g1 ≠ gd := by omega
    have n4 : g0 ≠ gd := by omega
    have s4 : Fr (fun k => k = g2) w3 (w3.setCell ⟨g2, 3, none⟩ (.slice (some ⟨gd, 0, none⟩) l.length cd)) := (Fr.refl (fun k => k = g2) w3).setCell (p := ⟨g2, 3, none⟩) (fun _ => rfl) _
    have hk := Hk.out
    have k1 : g1 ≠ g2 := HN.out
    have k0 : g0 ≠ g2 := by have := (Array.getElem?_eq_some_iff.1 HQ1.out).1; omega
    have ho4 := ho3.fr s4 (fun k hk e => by simp [Value.ownBlock] at hk; omega)
    have q4 := crow_kept q3 s4 k0
    have qa4 := crow_kept qa3 s4 k1
    have qb4 : (w3.setCell ⟨g2, 3, none⟩ (.slice (some ⟨gd, 0, none⟩) l.length cd)).heap[g2]? = some (.cells #[.int .u16 t, .int .u16 n, .int .i64 p, .slice (some ⟨gd, 0, none⟩) l.length cd] 32 (0, 0)) := by
      rw [heap_setCell_same w3 g2 3 _ _ _ qb3]; rfl
    have hs3 := HS2.out.fr f3
    have fr4 : Fr (fun _ => False) w (w3.setCell ⟨g2, 3, none⟩ (.slice (some ⟨gd, 0, none⟩) l.length cd)) := (HF2.out.trans0 f3).trans s4 (fun i hi e => by have := HG0.out; omega)
    have hs4 := HS0.out.fr fr4
    have HA := Lib.hid (And.intro ho4 (And.intro q4 (And.intro qa4 (And.intro qb4 (And.intro hs4 fr4)))))
    clear ho4 q4 qa4 qb4 hs4 fr4 s4 ho3 q3 qa3 qb3 hs3 f3 hk
    go_upto_region 7 with fail
    obtain ⟨w4, hw4⟩ : ∃ w4, w4 = w3.setCell ⟨g2, 3, none⟩ (.slice (some ⟨gd, 0, none⟩) l.length cd) := ⟨_, rfl⟩
    rw [← hw4] at HA ⊢
    clear hw4 e3 z3
    obtain ⟨ho4, q4, qa4, qb4, hs4, fr4⟩ := HA.out
    obtain ⟨B, hB⟩ : ∃ B : UInt8, (B.toNat : Int) = by_ := ⟨UInt8.ofNat by_.toNat, by rw [UInt8.toNat_ofNat']; omega⟩
    subst hB
    obtain ⟨i, hi1, hi2⟩ : ∃ i : Nat, at_ % (l.length : Int) = i ∧ i < l.length := by
      have := Hl0.out
      refine ⟨(at_ % (l.length : Int)).toNat, ?_, ?_⟩
      · rw [Int.toNat_of_nonneg (Int.emod_nonneg _ (by omega))]
      · have := Int.emod_lt_of_pos at_ (show 0 < (l.length : Int) by omega)
        have := Int.emod_nonneg at_ (show (l.length : Int) ≠ 0 by omega)
        omega
    have hi3 : at_.tmod (l.length : Int) = i := by rw [Int.tmod_eq_emod_of_nonneg h0]; exact hi1
    have hc := own_at ho4 i hi2
    have hz := own_frozen ho4 i
    rw [Nat.zero_add] at hc
    unfold bv at hc
    have hS := own_set ho4 i (l.getD i 0 ^^^ B)
    generalize hd : l.getD i 0 = d at *
    have hx : Value.int .u8 (bits .xor .u8 (d.toNat : Int) (B.toNat : Int)) = bv (d ^^^ B) := by
      rw [xor_u8 _ _ (UInt8.toNat_lt _) (UInt8.toNat_lt _)]; unfold bv; rw [UInt8.toNat_xor]
    have HX := Lib.hid hx; clear hx
    have HS := Lib.hid hS; clear hS
    have HD := Lib.hid hd; clear hd
    have e3 := crow qb4 3 _ rfl
    have z3 := free4 qb4 3
    have hi4 : (i : Int) < (l.length : Int) := by omega
    clear ho4 q4 qa4 qb4 hs4 fr4
    go_region
    rw [HX.out]
    have s5 : Fr (fun k => k = gd) w4 (w4.setCell ⟨gd, i, none⟩ (bv (d ^^^ B))) := (Fr.refl (fun k => k = gd) w4).setCell (p := ⟨gd, i, none⟩) (fun _ => rfl) _
    have hgw : w.heap.size ≤ gd := Nat.le_trans HF2.out.size hgd
    have fr5 : Fr (fun _ => False) w (w4.setCell ⟨gd, i, none⟩ (bv (d ^^^ B))) := HA.out.2.2.2.2.2.trans s5 (fun i hi e => by omega)
    have q5 := crow_kept HA.out.2.1 s5 n4
    have qa5 := crow_kept HA.out.2.2.1 s5 n3
    have qb5 := crow_kept HA.out.2.2.2.1 s5 n1
    have so5 := HS.out.sees
    have hgl := HS.out.lt gd rfl
    generalize w4.setCell ⟨gd, i, none⟩ (bv (d ^^^ B)) = w5 at *
    have fr5d : Fr (fun _ => False) w w5.drew := fr5.drew
    have hd5 : Hid (w5.drew.heap.size = w5.heap.size) := Lib.hid rfl
    replace q5 : w5.drew.heap[g0]? = _ := q5
    replace qa5 : w5.drew.heap[g1]? = _ := qa5
    replace qb5 : w5.drew.heap[g2]? = _ := qb5
    replace so5 : Sees w5.drew _ _ := so5
    replace hgl : gd < w5.drew.heap.size := hgl
    clear fr5 HS HX HA s5 hd5
    generalize w5.drew = w6 at *
    obtain ⟨N, rfl⟩ : ∃ N : Nat, n = (N : Int) := ⟨n.toNat, by omega⟩
    have hbl := UInt8.toNat_lt B
    have hbx : bits .xor .u16 (N : Int) (B.toNat : Int) = ((N ^^^ B.toNat : Nat) : Int) :=
      bits_xor_nat .u16 16 (by decide) (fun n h0 h1 => by rw [IntKind.wrap_u16]; omega) N B.toNat (by omega) (by omega)
    have hNB : N ^^^ B.toNat < 65536 := Nat.xor_lt_two_pow (n := 16) (by omega) (by omega)
    have HBX := Lib.hid hbx; clear hbx
    have HQ6 := Lib.hid (And.intro q5 (And.intro qa5 qb5))
    have HR := Lib.hid (And.intro so5 (And.intro hgl fr5d))
    obtain ⟨ca0, ca1, ca2, ca3⟩ := cell4 qa5
    clear q5 qa5 qb5 so5 hgl fr5d hc hz e3 z3 hz0 hz1 hz2 hgw hgd n1 n2 n3 n4 hi1 hi3 hi4 HQ HS2 HF1 HQ1 hl1' hl2' hi hy0 hy1 hy2 HF2 Hk
    go_upto_region 10 with fail
    simp only [HBX.out]
    have q7 := heap_alloc_new w6 (Obj.cells #[.int .u16 t, .int .u16 ((N ^^^ B.toNat : Nat) : Int), .int .i64 p, .slice a l.length c] 32 (0, 0))
    have f7 : Fr (fun _ => False) w6 (w6.alloc (Obj.cells #[.int .u16 t, .int .u16 ((N ^^^ B.toNat : Nat) : Int), .int .i64 p, .slice a l.length c] 32 (0, 0))) := (Fr.refl _ _).alloc _
    have q70 := crow_kept HQ6.out.1 f7 (fun h => h)
    have q7a := crow_kept HQ6.out.2.1 f7 (fun h => h)
    have q7b := crow_kept HQ6.out.2.2 f7 (fun h => h)
    have hw7 := HR.out.2.2.trans0 f7
    have hs7 := HS0.out.fr hw7
    have hd7 := HR.out.1.fr f7 (fun _ _ h => h)
    have ho7 := Nat.lt_of_lt_of_le HR.out.2.1 f7.size
    clear f7 ca0 ca1 ca2 ca3
    generalize w6.alloc (Obj.cells #[.int .u16 t, .int .u16 ((N ^^^ B.toNat : Nat) : Int), .int .i64 p, .slice a l.length c] 32 (0, 0)) = w7 at *
    generalize w6.heap.size = g3 at *
    have HB := Lib.hid (And.intro q70 (And.intro q7a (And.intro q7b q7)))
    have HW7 := Lib.hid hw7
    have hmb := mark_byte t N p l i hi2 B
    rw [HD.out] at hmb
    have hmn := mark_num t p N l B
    have hz : ((B.toNat : Int) == 0) = decide (B = 0) := by
      rw [Bool.eq_iff_iff]
      simp [← UInt8.toNat_inj]
    have hlen := Hlm.out
    have m0 : ∀ W, Fr (fun _ => False) w7 W → Calls Try.prog 23 #[.agg #[.int .u16 t, .int .u16 (N : Int), .int .i64 p, .slice a l.length c]] W fun e w' => e = .returned (.int .u32 (Crc.sum (callB t N p l))) ∧ Fr (fun _ => False) W w' := fun W hW =>
      mark_any t N p (.slice a l.length c) l W ht0 ht1 hn0 hn1 (by unfold okN; simp; omega) (hs7.fr hW).1 (hs7.fr hW).2 (by omega)
    have m1 : ∀ W, Fr (fun _ => False) w7 W → Calls Try.prog 23 #[.agg #[.int .u16 t, .int .u16 (N : Int), .int .i64 p, .slice (some ⟨gd, 0, none⟩) l.length cd]] W fun e w' => e = .returned (.int .u32 (Crc.sum (callB t N p (l.set i (d ^^^ B))))) ∧ Fr (fun _ => False) W w' := fun W hW =>
      mark_any t N p (.slice (some ⟨gd, 0, none⟩) l.length cd) (l.set i (d ^^^ B)) W ht0 ht1 hn0 hn1 (by unfold okN; simp; omega) (hd7.fr hW (fun _ _ h => h)) (.inr (fun k hk => by simp [Value.ownBlock] at hk; have := hW.size; omega)) (by rw [List.length_set]; omega)
    have m2 : ∀ W, Fr (fun _ => False) w7 W → Calls Try.prog 23 #[.agg #[.int .u16 t, .int .u16 ((N ^^^ B.toNat : Nat) : Int), .int .i64 p, .slice a l.length c]] W fun e w' => e = .returned (.int .u32 (Crc.sum (callB t ((N ^^^ B.toNat : Nat) : Int) p l))) ∧ Fr (fun _ => False) W w' := fun W hW =>
      mark_any t ((N ^^^ B.toNat : Nat) : Int) p (.slice a l.length c) l W ht0 ht1 (by omega) (by omega) (by unfold okN; simp; omega) (hs7.fr hW).1 (hs7.fr hW).2 (by omega)
    have e1 : ((Crc.sum (callB t N p l) : Int) == (Crc.sum (callB t N p (l.set i (d ^^^ B))) : Int)) = decide (B = 0) := by
      rw [← hmb, Bool.eq_iff_iff]; simp only [beq_iff_eq, decide_eq_true_eq]; exact Int.ofNat_inj
    have e2 : ((Crc.sum (callB t N p l) : Int) == (Crc.sum (callB t ((N ^^^ B.toNat : Nat) : Int) p l) : Int)) = decide (B = 0) := by
      rw [← hmn, Bool.eq_iff_iff]; simp only [beq_iff_eq, decide_eq_true_eq]; exact Int.ofNat_inj
    generalize hX0 : (Crc.sum (callB t N p l) : Int) = M0 at *
    generalize hX1 : (Crc.sum (callB t N p (l.set i (d ^^^ B))) : Int) = M1 at *
    generalize hX2 : (Crc.sum (callB t ((N ^^^ B.toNat : Nat) : Int) p l) : Int) = M2 at *
    clear hX0 hX1 hX2 hmb hmn q7 q70 q7a q7b hw7 hs7 hd7 ho7 hlen HR HQ6 HBX HS0 HD hNB hbl hi2 Hl0 Hlm HN HG0
    have HM := Lib.hid (And.intro m0 (And.intro m1 m2))
    clear m0 m1 m2
    generalize hX4 : N ^^^ B.toNat = NX at *
    clear hX4
    cases hbeta : decide (B = 0)
    · rw [hbeta] at e1 e2 hz
      clear hbeta
      refine wp_region_told (by kernel_rfl) (fun a b => Fr (fun _ => False) a b) (fun w => Fr.refl _ w) (fun _ _ _ h k => h.trans k (fun _ _ h => h)) [53, 54, 55, 56, 57, 58, 59, 60, 61, 62, 63, 64, 65, 66, 67, 68, 69, 70, 71, 72, 73, 74, 75, 76, 77, 78, 6] rfl (by decide) (by intro d hd; simp at hd ⊢; omega)
          (fun i v _ => v = [(.agg #[.int .u16 t, .int .u16 (N : Int), .int .i64 p, .slice a l.length c]), .int .u32 M0, (.agg #[.int .u16 t, .int .u16 (N : Int), .int .i64 p, .slice (some ⟨gd, 0, none⟩) l.length cd]), .int .u32 M1, .bool false, .int .u8 B.toNat, .bool false, .bool true, .bool true, (.agg #[.int .u16 t, .int .u16 (N : Int), .int .i64 p, .slice a l.length c]), .int .u32 M0, (.agg #[.int .u16 t, .int .u16 (NX : Int), .int .i64 p, .slice a l.length c]), .int .u32 M2, .bool false, .int .u8 B.toNat, .bool false, .bool true, .bool true, .bool true, (.agg #[.int .u16 t, .int .u16 (N : Int), .int .i64 p, .slice a l.length c]), .int .u32 M0, (.agg #[.int .u16 t, .int .u16 (N : Int), .int .u16 p, .slice a l.length c]), (.agg #[.int .u16 t, .int .u16 (N : Int), .int .i64 p, .slice a l.length c]), .int .u32 M0, .bool true, .bool true, .bool true].getD i undef)
          (fun _ _ _ _ _ h => h) (by kernel_rfl) ?stepfalse ?finfalse
      case stepfalse =>
          intro vals
          simp only [frOf, fill, List.setIfInBounds_toArray, List.set_cons_succ, List.set_cons_zero]
          repeat' (first | exact AllOps.nil | refine AllOps.cons ?_ ?_)
          all_goals
            intro wx hle he K hK
            simp only [Act.put, List.setIfInBounds_toArray, List.set_cons_succ, List.set_cons_zero, List.getD_cons_zero, List.getD_cons_succ] at hK
            simp only [List.mem_cons, List.not_mem_nil, or_false, forall_eq_or_imp, forall_eq, Region.binds, forall_const, false_imp_iff, List.getD_cons_zero, List.getD_cons_succ] at he
            try simp only [he] at hK ⊢
            have hl5 := Fr.trans (Fr.drew (Fr.refl (fun _ => False) w7)) hle (fun _ _ h => h)
            have hl8 := Lib.hid hl5
            obtain ⟨ca0, ca1, ca2, ca3⟩ := cell4 (crow_kept HB.out.1 hl5 (fun h => h))
            obtain ⟨cb0, cb1, cb2, cb3⟩ := cell4 (crow_kept HB.out.2.1 hl5 (fun h => h))
            obtain ⟨cc0, cc1, cc2, cc3⟩ := cell4 (crow_kept HB.out.2.2.1 hl5 (fun h => h))
            obtain ⟨cd0, cd1, cd2, cd3⟩ := cell4 (crow_kept HB.out.2.2.2 hl5 (fun h => h))
            clear hl5 hle he
            try go_simp
          all_goals first
              | exact hK _ _ (Fr.refl _ _) rfl
              | skip
          · go_at_call 23; refine (HM.out.1 _ hl8.out).mono ?_; rintro e1 wa ⟨rfl, fa⟩; exact hK _ _ fa rfl
          · go_at_call 23; refine (HM.out.2.1 _ hl8.out).mono ?_; rintro e1 wa ⟨rfl, fa⟩; exact hK _ _ fa rfl
          · go_at_call 23; refine (HM.out.1 _ hl8.out).mono ?_; rintro e1 wa ⟨rfl, fa⟩; exact hK _ _ fa rfl
          · go_at_call 23; refine (HM.out.2.2 _ hl8.out).mono ?_; rintro e1 wa ⟨rfl, fa⟩; exact hK _ _ fa rfl
          · go_at_call 23; refine (HM.out.1 _ hl8.out).mono ?_; rintro e1 wa ⟨rfl, fa⟩; exact hK _ _ fa rfl
          · go_at_call 7; refine (small_any t N p a l.length c _ hp0 hp1).mono ?_; rintro e1 wa ⟨rfl, fa⟩; exact hK _ _ fa rfl
          · go_at_call 23; refine (HM.out.1 _ hl8.out).mono ?_; rintro e1 wa ⟨rfl, fa⟩; exact hK _ _ fa rfl
      case finfalse =>
          intro vals w' hle hV
          have h9 : vals 26 = .bool true := hV 26 (by decide)
          clear hV
          have hfin := HW7.out.trans (Fr.trans (Fr.drew (Fr.refl (fun _ => False) w7)) hle (fun _ _ h => h)) (fun _ _ h => h)
          simp only [frOf, fill, List.setIfInBounds_toArray, List.set_cons_succ, List.set_cons_zero, Nat.reduceAdd]
          go_wp2_with fail
          go_ret
          exact ⟨by first | rfl | rw [h9], hfin⟩
    · rw [hbeta] at e1 e2 hz
      clear hbeta
      obtain rfl : M1 = M0 := by have := eq_of_beq e1; exact this.symm
      obtain rfl : M2 = M1 := by have := eq_of_beq e2; exact this.symm
      clear e1 e2
      refine wp_region_told (by kernel_rfl) (fun a b => Fr (fun _ => False) a b) (fun w => Fr.refl _ w) (fun _ _ _ h k => h.trans k (fun _ _ h => h)) [53, 54, 55, 56, 57, 58, 59, 60, 61, 62, 63, 64, 65, 66, 67, 68, 69, 70, 71, 72, 73, 74, 75, 76, 77, 78, 6] rfl (by decide) (by intro d hd; simp at hd ⊢; omega)
          (fun i v _ => v = [(.agg #[.int .u16 t, .int .u16 (N : Int), .int .i64 p, .slice a l.length c]), .int .u32 M2, (.agg #[.int .u16 t, .int .u16 (N : Int), .int .i64 p, .slice (some ⟨gd, 0, none⟩) l.length cd]), .int .u32 M2, .bool true, .int .u8 B.toNat, .bool true, .bool true, .bool true, (.agg #[.int .u16 t, .int .u16 (N : Int), .int .i64 p, .slice a l.length c]), .int .u32 M2, (.agg #[.int .u16 t, .int .u16 (NX : Int), .int .i64 p, .slice a l.length c]), .int .u32 M2, .bool true, .int .u8 B.toNat, .bool true, .bool true, .bool true, .bool true, (.agg #[.int .u16 t, .int .u16 (N : Int), .int .i64 p, .slice a l.length c]), .int .u32 M2, (.agg #[.int .u16 t, .int .u16 (N : Int), .int .u16 p, .slice a l.length c]), (.agg #[.int .u16 t, .int .u16 (N : Int), .int .i64 p, .slice a l.length c]), .int .u32 M2, .bool true, .bool true, .bool true].getD i undef)
          (fun _ _ _ _ _ h => h) (by kernel_rfl) ?steptrue ?fintrue
      case steptrue =>
          intro vals
          simp only [frOf, fill, List.setIfInBounds_toArray, List.set_cons_succ, List.set_cons_zero]
          repeat' (first | exact AllOps.nil | refine AllOps.cons ?_ ?_)
          all_goals
            intro wx hle he K hK
            simp only [Act.put, List.setIfInBounds_toArray, List.set_cons_succ, List.set_cons_zero, List.getD_cons_zero, List.getD_cons_succ] at hK
            simp only [List.mem_cons, List.not_mem_nil, or_false, forall_eq_or_imp, forall_eq, Region.binds, forall_const, false_imp_iff, List.getD_cons_zero, List.getD_cons_succ] at he
            try simp only [he] at hK ⊢
            have hl5 := Fr.trans (Fr.drew (Fr.refl (fun _ => False) w7)) hle (fun _ _ h => h)
            have hl8 := Lib.hid hl5
            obtain ⟨ca0, ca1, ca2, ca3⟩ := cell4 (crow_kept HB.out.1 hl5 (fun h => h))
            obtain ⟨cb0, cb1, cb2, cb3⟩ := cell4 (crow_kept HB.out.2.1 hl5 (fun h => h))
            obtain ⟨cc0, cc1, cc2, cc3⟩ := cell4 (crow_kept HB.out.2.2.1 hl5 (fun h => h))
            obtain ⟨cd0, cd1, cd2, cd3⟩ := cell4 (crow_kept HB.out.2.2.2 hl5 (fun h => h))
            clear hl5 hle he
            try go_simp
          all_goals first
              | exact hK _ _ (Fr.refl _ _) rfl
              | skip
          · go_at_call 23; refine (HM.out.1 _ hl8.out).mono ?_; rintro e1 wa ⟨rfl, fa⟩; exact hK _ _ fa rfl
          · go_at_call 23; refine (HM.out.2.1 _ hl8.out).mono ?_; rintro e1 wa ⟨rfl, fa⟩; exact hK _ _ fa rfl
          · go_at_call 23; refine (HM.out.1 _ hl8.out).mono ?_; rintro e1 wa ⟨rfl, fa⟩; exact hK _ _ fa rfl
          · go_at_call 23; refine (HM.out.2.2 _ hl8.out).mono ?_; rintro e1 wa ⟨rfl, fa⟩; exact hK _ _ fa rfl
          · go_at_call 23; refine (HM.out.1 _ hl8.out).mono ?_; rintro e1 wa ⟨rfl, fa⟩; exact hK _ _ fa rfl
          · go_at_call 7; refine (small_any t N p a l.length c _ hp0 hp1).mono ?_; rintro e1 wa ⟨rfl, fa⟩; exact hK _ _ fa rfl
          · go_at_call 23; refine (HM.out.1 _ hl8.out).mono ?_; rintro e1 wa ⟨rfl, fa⟩; exact hK _ _ fa rfl
      case fintrue =>
          intro vals w' hle hV
          have h9 : vals 26 = .bool true := hV 26 (by decide)
          clear hV
          have hfin := HW7.out.trans (Fr.trans (Fr.drew (Fr.refl (fun _ => False) w7)) hle (fun _ _ h => h)) (fun _ _ h => h)
          simp only [frOf, fill, List.setIfInBounds_toArray, List.set_cons_succ, List.set_cons_zero, Nat.reduceAdd]
          go_wp2_with fail
          go_ret
          exact ⟨by first | rfl | rw [h9], hfin⟩
/-- In the form that the statement's lift takes. -/
theorem marks_all {w : World} (s : Sc) (v : Value) (hv : ScV w s v) (at_ : Int) (h0 : 0 ≤ at_) (h1 : at_ ≤ 65535) (by_ : Int) (b0 : 0 ≤ by_) (b1 : by_ ≤ 255) :
    Calls Try.prog 5 #[v, .int .u16 at_, .int .u8 by_] w fun e w' => e = .returned (.bool true) ∧ Fr (fun _ => False) w w' := marks_any s v at_ h0 h1 by_ b0 b1 w hv
end Go.Proofs.Ytgjbndhjkhfjlaa
