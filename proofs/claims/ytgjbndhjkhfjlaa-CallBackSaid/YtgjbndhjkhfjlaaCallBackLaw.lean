/-
  CallBack: for every call and answer of small numbers, and every bytes the law returns true, and its arguments read as before.
-/
import Derived.Test.YtgjbndhjkhfjlaaCallArg
import Derived.Test.YtgjbndhjkhfjlaaCallWant
import Derived.Test.YtgjbndhjkhfjlaaRefSum
import Derived.Test.YtgjbndhjkhfjlaaRegion
import Derived.Deep.Cut
import Derived.Deep.CutRange
import Derived.Deep.CutBlock
import Derived.BigRegion
namespace Go.Proofs.Ytgjbndhjkhfjlaa
open Go.RowKit
set_option linter.unusedSimpArgs false
set_option linter.unusedVariables false

set_option maxRecDepth 100000 in
set_option maxHeartbeats 16000000 in
theorem cback_any (s : Sc) (v : Value) (x : Sa) (u : Value) (mv : Value) (M : List UInt8) (w : World) (hv : ScV w s v) (hu : SaV w x u) (hM : SeesO w mv M) :
    Calls Try.prog 3 #[v, u, mv] w fun e w' => e = .returned (.bool true) ∧ Fr (fun _ => False) w w' := by
  obtain ⟨t, n, p, l⟩ := s
  obtain ⟨er, ra, m⟩ := x
  obtain ⟨a, c, rfl, hs, ht0, ht1, hn0, hn1, hp0, hp1⟩ := hv
  obtain ⟨b, d, rfl, hm, he0, he1, hr0, hr1⟩ := hu
  obtain ⟨am, cm, rfl, hmn⟩ := hM.1.shape
  clear hmn
  simp only at *
  go_enter Try.func3, Try.ntmps3
  go_wp2_with fail
  have q0 := heap_alloc_new w (Obj.cells #[.int .u16 t, .int .u16 n, .int .u16 p, .slice a l.length c] 25 (0, 0))
  have q1 := new_two w (Obj.cells #[.int .u16 t, .int .u16 n, .int .u16 p, .slice a l.length c] 25 (0, 0)) (Obj.cells #[.int .u16 er, .int .u16 ra, .slice b m.length d] 27 (0, 0))
  have f0 : Fr (fun _ => False) w (w.alloc (Obj.cells #[.int .u16 t, .int .u16 n, .int .u16 p, .slice a l.length c] 25 (0, 0))) := (Fr.refl _ _).alloc _
  have f0' := (Fr.refl (fun _ => False) (w.alloc (Obj.cells #[.int .u16 t, .int .u16 n, .int .u16 p, .slice a l.length c] 25 (0, 0)))).alloc (Obj.cells #[.int .u16 er, .int .u16 ra, .slice b m.length d] 27 (0, 0))
  have q0 := crow_kept q0 f0' (fun h => h)
  have f1 := f0.trans0 f0'
  clear f0 f0'
  generalize (w.alloc (Obj.cells #[.int .u16 t, .int .u16 n, .int .u16 p, .slice a l.length c] 25 (0, 0))).alloc (Obj.cells #[.int .u16 er, .int .u16 ra, .slice b m.length d] 27 (0, 0)) = w1 at *
  generalize hg1 : w.heap.size + 1 = g1 at *
  generalize hg0 : w.heap.size = g0 at *
  have HG := Lib.hid (And.intro hg0 hg1)
  clear hg0 hg1
  refine (cawake_any _).mono ?_
  rintro e w2 ⟨rfl, f2⟩
  have HQ2 := Lib.hid (And.intro (crow_kept q0 f2 (fun h => h)) (crow_kept q1 f2 (fun h => h)))
  have HF2 := Lib.hid (f1.trans0 f2)
  clear f1 f2 q0 q1
  have HS := Lib.hid (And.intro hs (And.intro hm hM))
  clear hs hm hM
  obtain ⟨ca0, ca1, ca2, ca3⟩ := cell4 HQ2.out.1
  obtain ⟨cb0, cb1, cb2⟩ := cell3 HQ2.out.2
  by_cases hl1 : 100 < l.length
  · have hl1' : decide ((100 : Int) < (l.length : Int)) = true := by simp; omega
    clear hl1
    go_wp2_with fail
    go_ret
    exact ⟨rfl, HF2.out⟩
  have hl1' : decide ((100 : Int) < (l.length : Int)) = false := by simp; omega
  have Hl1 := Lib.hid hl1
  clear hl1
  by_cases hl2 : 100 < m.length
  · have hl2' : decide ((100 : Int) < (m.length : Int)) = true := by simp; omega
    clear hl2
    go_wp2_with fail
    go_ret
    exact ⟨rfl, HF2.out⟩
  have hl2' : decide ((100 : Int) < (m.length : Int)) = false := by simp; omega
  have Hl2 := Lib.hid hl2
  clear hl2
  by_cases hl3 : 20 < M.length
  · have hl3' : decide ((20 : Int) < (M.length : Int)) = true := by simp; omega
    clear hl3
    go_wp2_with fail
    go_ret
    exact ⟨rfl, HF2.out⟩
  have hl3' : decide ((20 : Int) < (M.length : Int)) = false := by simp; omega
  have Hl3 := Lib.hid hl3
  clear hl3
  go_upto_region 5 with fail
  clear ca0 ca1 ca2 ca3 cb0 cb1 cb2 hl1' hl2' hl3'
  refine wp_region_links (by kernel_rfl) [some 33, some 34, some 35, some 36, some 7, some 8, none, none] rfl (by decide) (by intro d hd; simp at hd ⊢; omega)
    (fun st wx => (PX 32 36 #[.int .u16 0, .int .u16 0, .int .i64 0, .slice none 0 0] #[.int .i64 0, .int .i64 0, .slice none 0 0] #[.int .u16 t, .int .u16 n, .int .i64 p, .slice a l.length c] #[.int .i64 er, .int .i64 ra, .slice b m.length d] 4 5 6 7 w2) st wx)
    [.free (.agg #[.int .u16 t, .int .u16 n, .int .u16 p, .slice a l.length c]), .link (some (.agg #[.int .u16 t, .int .u16 n, .int .i64 p, .slice a l.length c])), .free (.agg #[.int .u16 er, .int .u16 ra, .slice b m.length d]), .link (some (.agg #[.int .i64 er, .int .i64 ra, .slice b m.length d])), .link none, .link none, .link none, .link none]
    (by kernel_rfl) ?h05 ?step5 ?fin5
  case h05 => exact PX.start
  case step5 =>
    intro vals
    simp only [frOfU, fillU, List.setIfInBounds_toArray, List.set_cons_succ, List.set_cons_zero]
    repeat' (first | exact AllOps.nil | refine AllOps.cons ?_ ?_)
    all_goals
      intro st wx hS he hu hn K hK
      simp only [Act.put, List.setIfInBounds_toArray, List.set_cons_succ, List.set_cons_zero, List.getD_cons_zero, List.getD_cons_succ] at hK
      simp only [List.mem_cons, List.not_mem_nil, or_false, forall_eq_or_imp, forall_eq, Region.binds, forall_const, qmode_gc, Bool.false_eq_true, false_imp_iff, List.getD_cons_zero, List.getD_cons_succ, OpSort.val, OpSort.isLink, Option.some.injEq, forall_eq', reduceCtorEq, implies_true, true_and, and_true] at he
      obtain ⟨c0, c1, c2, c3⟩ := cell4 (crow_kept HQ2.out.1 hS.fr (fun h => h))
      obtain ⟨d0, d1, d2⟩ := cell3 (crow_kept HQ2.out.2 hS.fr (fun h => h))
      have HSX := Lib.hid hS
      clear hS
    all_goals first | (clear hu hn; (try simp only [he] at hK ⊢); go_simp; exact hK) | skip
    · clear hu hn
      simp only [he] at hK ⊢
      clear he
      go_simp
      go_at_call 7
      refine (small_any t n p a l.length c wx hp0 hp1).mono ?_
      rintro er wa ⟨rfl, fra⟩
      exact hK _ _ (fun _ h => by cases h; rfl) (HSX.out.call 1 _ fra (by decide) (by decide) (by decide) (by decide))
    · clear hu hn
      simp only [he] at hK ⊢
      clear he
      go_simp
      go_at_call 8
      refine (reply_any er ra b m.length d wx he0 he1 hr0 hr1).mono ?_
      rintro er wa ⟨rfl, fra⟩
      exact hK _ _ (fun _ h => by cases h; rfl) (HSX.out.call 3 _ fra (by decide) (by decide) (by decide) (by decide))
    · have hs1 := Lib.hid (hu 6 (by simp) (by kernel_rfl)).2
      clear hu hn he
      go_simp
      exact hK _ _ (fun _ h => by cases h) (HSX.out.alloc1 hs1.out (by decide) (by decide) (by decide))
    · have hs1 := Lib.hid (hu 7 (by simp) (by kernel_rfl)).2
      clear hu hn he
      go_simp
      exact hK _ _ (fun _ h => by cases h) (HSX.out.alloc2 hs1.out (by decide) (by decide) (by decide))
    · have hst : st 4 = some (vals 4) := by first | exact he.1 | exact he.2.1 | exact he.2.2.1 | exact he.2.2.2.1 | exact he.2.2.2.2.1 | exact he.2.2.2.2.2.1 | exact he.2.2.2.2.2.2.1 | exact he.2.2.2.2.2.2.2.1 | exact he.2.2.2.2.2.2.2.2.1 | exact he.2.2.2.2.2.2.2.2.2.1 | exact he.2.2.2.2.2.2.2.2.2.2.1 | exact he.2.2.2.2.2.2.2.2.2.2.2.1
      obtain ⟨g1, e1, hc1⟩ := HSX.out.at1 hn hst
      rw [e1] at hst
      have HST := Lib.hid hst
      have HC1 := Lib.hid hc1
      have z0 := qfree hc1 0
      have d0 := qrow hc1 0 _ rfl
      have z1 := qfree hc1 1
      have d1 := qrow hc1 1 _ rfl
      have z2 := qfree hc1 2
      have d2 := qrow hc1 2 _ rfl
      have z3 := qfree hc1 3
      have d3 := qrow hc1 3 _ rfl
      clear hu hn hc1 hst
      simp only [e1, he] at hK ⊢
      clear he e1
      go_simp
      exact hK undef _ (fun _ h => by cases h) (HSX.out.store1 HST.out undef (by decide) (by decide) (by decide) (cst4 HC1.out) (cfr4 _ _ _ _ (Fr.refl _ _) (fun _ => rfl)))
    · have hst : st 5 = some (vals 5) := by first | exact he.1 | exact he.2.1 | exact he.2.2.1 | exact he.2.2.2.1 | exact he.2.2.2.2.1 | exact he.2.2.2.2.2.1 | exact he.2.2.2.2.2.2.1 | exact he.2.2.2.2.2.2.2.1 | exact he.2.2.2.2.2.2.2.2.1 | exact he.2.2.2.2.2.2.2.2.2.1 | exact he.2.2.2.2.2.2.2.2.2.2.1 | exact he.2.2.2.2.2.2.2.2.2.2.2.1
      obtain ⟨g1, e1, hc1⟩ := HSX.out.at2 hn hst
      rw [e1] at hst
      have HST := Lib.hid hst
      have HC1 := Lib.hid hc1
      have z0 := qfree hc1 0
      have d0 := qrow hc1 0 _ rfl
      have z1 := qfree hc1 1
      have d1 := qrow hc1 1 _ rfl
      have z2 := qfree hc1 2
      have d2 := qrow hc1 2 _ rfl
      clear hu hn hc1 hst
      simp only [e1, he] at hK ⊢
      clear he e1
      go_simp
      exact hK undef _ (fun _ h => by cases h) (HSX.out.store2 HST.out undef (by decide) (by decide) (by decide) (cst3 HC1.out) (cfr3 _ _ _ (Fr.refl _ _) (fun _ => rfl)))
  case fin5 =>
  intro vals w3 hS hV
  have hT := PX.fin hS rfl rfl rfl rfl
  have v0 := hV 0 _ (by decide) rfl
  have v1 := hV 1 _ (by decide) rfl
  have v2 := hV 2 _ (by decide) rfl
  have v3 := hV 3 _ (by decide) rfl
  obtain ⟨g2, g3, x4, x5, hne, hg2, hg3, f3, qc, qa⟩ := hT
  clear hS hV
  simp only [frOfU, fillU, List.setIfInBounds_toArray, List.set_cons_succ, List.set_cons_zero]
  simp only [Nat.reduceAdd, v0, v1, v2, v3, x4, x5]
  clear v0 v1 v2 v3 x4 x5
  have HF3 := Lib.hid (HF2.out.trans0 f3)
  have HQ3 := Lib.hid (And.intro (crow_kept HQ2.out.1 f3 (fun h => h)) (And.intro (crow_kept HQ2.out.2 f3 (fun h => h)) (And.intro qc qa)))
  clear qc qa f3 HQ2
  have HNE := Lib.hid hne
  clear hne
  have hz2 := Lib.hid hg2; clear hg2
  have hz3 := Lib.hid hg3; clear hg3
  go_upto_region 7 with fail
  have hW := wr_new w3
  have f4 : Fr (fun _ => False) w3 (w3.alloc (Obj.cells #[.slice none 0 0] 40 (0, 0))) := (Fr.refl _ _).alloc _
  have hlt0 : g0 < w3.heap.size := (Array.getElem?_eq_some_iff.1 HQ3.out.1).1
  have hlt1 : g1 < w3.heap.size := (Array.getElem?_eq_some_iff.1 HQ3.out.2.1).1
  have hlt2 : g2 < w3.heap.size := (Array.getElem?_eq_some_iff.1 HQ3.out.2.2.1).1
  have hlt3 : g3 < w3.heap.size := (Array.getElem?_eq_some_iff.1 HQ3.out.2.2.2).1
  have HQ4 := Lib.hid (And.intro (crow_kept HQ3.out.1 f4 (fun h => h)) (And.intro (crow_kept HQ3.out.2.1 f4 (fun h => h)) (And.intro (crow_kept HQ3.out.2.2.1 f4 (fun h => h)) (crow_kept HQ3.out.2.2.2 f4 (fun h => h)))))
  have HF4 := Lib.hid (HF3.out.trans0 f4)
  have hs4 : (w3.alloc (Obj.cells #[.slice none 0 0] 40 (0, 0))).heap.size = w3.heap.size + 1 := World.size_alloc _ _
  have hw3 := HF3.out.size
  clear f4 HQ3
  generalize w3.alloc (Obj.cells #[.slice none 0 0] 40 (0, 0)) = w4 at *
  generalize w3.heap.size = gw at *
  have HL := Lib.hid (And.intro hlt0 (And.intro hlt1 (And.intro hlt2 (And.intro hlt3 (And.intro hs4 hw3)))))
  have hww := hW
  have HW4 := Lib.hid hW
  clear hlt0 hlt1 hlt2 hlt3 hs4 hw3 hww hW
  obtain ⟨ca0, ca1, ca2, ca3⟩ := cell4 HQ4.out.2.2.1
  go_wp2_with fail
  have hpk : okN p = true := by unfold okN; simp; omega
  have hek : okN er = true := by unfold okN; simp; omega
  have hrk : okN ra = true := by unfold okN; simp; omega
  have HK := Lib.hid (And.intro hpk (And.intro hek hrk))
  have hol : l = [] ∨ ((Value.slice a l.length c).ownBlock ≠ some gw ∧ ∀ k, (Value.slice a l.length c).ownBlock = some k → (Value.slice none 0 0).ownBlock ≠ some k) :=
    HS.out.1.2.imp id (fun h => ⟨fun e => by have := h _ e; have := HL.out.2.2.2.2.2; omega, fun k _ e => by simp [Value.ownBlock] at e⟩)
  refine (cput_any t n p (.slice a l.length c) l gw _ [] _ ht0 ht1 hn0 hn1 hpk (HS.out.1.fr HF4.out).1 (by have := Hl1.out; omega) HW4.out (by simp) hol).mono ?_
  rintro e w5 ⟨rfl, u5, W5, f5, v5⟩
  clear hpk hek hrk hol
  rw [List.nil_append] at W5
  have n5 : ∀ k, k < gw → ¬ (k = gw ∨ (Value.slice none 0 0).ownBlock = some k) := by
    rintro k hk (e | e)
    · omega
    · simp [Value.ownBlock] at e
  have HQ5 := Lib.hid (And.intro (crow_kept HQ4.out.1 f5 (n5 _ HL.out.1)) (And.intro (crow_kept HQ4.out.2.1 f5 (n5 _ HL.out.2.1)) (And.intro (crow_kept HQ4.out.2.2.1 f5 (n5 _ HL.out.2.2.1)) (crow_kept HQ4.out.2.2.2 f5 (n5 _ HL.out.2.2.2.1)))))
  have HF5 := Lib.hid (HF4.out.trans f5 (fun k hk e => (n5 k (by have := HL.out.2.2.2.2.2; omega) e).elim))
  have v5' : ∀ k, u5.ownBlock = some k → gw < k := by
    intro k hk
    rcases v5 with e | e
    · rw [e] at hk; simp [Value.ownBlock] at hk
    · have := e k hk; have := HL.out.2.2.2.2.1; omega
  have HV5 := Lib.hid v5'
  have hsz5 := Lib.hid f5.size
  clear f5 v5 v5' n5 HQ4 ca0 ca1 ca2 ca3 HW4
  obtain ⟨ca0, ca1, ca2⟩ := cell3 HQ5.out.2.2.2
  have hcl := Lib.hid (callB_length t n p l)
  obtain ⟨B1, hB1⟩ : ∃ B1, B1 = callB t n p l := ⟨_, rfl⟩
  rw [← hB1] at W5
  have HB1 := Lib.hid hB1
  clear hB1
  go_wp2_with fail
  refine (len_any gw u5 _ _ W5).mono ?_
  rintro e w6 ⟨rfl, rfl⟩
  go_wp2_with fail
  have hol : m = [] ∨ ((Value.slice b m.length d).ownBlock ≠ some gw ∧ ∀ k, (Value.slice b m.length d).ownBlock = some k → u5.ownBlock ≠ some k) :=
    HS.out.2.1.2.imp id (fun h => ⟨fun e => by have := h _ e; have := HL.out.2.2.2.2.2; omega, fun k hk e => by have := HV5.out k e; have := h k hk; have := HL.out.2.2.2.2.2; omega⟩)
  refine (aput_any er ra (.slice b m.length d) m gw u5 B1 _ HK.out.2.1 HK.out.2.2 (HS.out.2.1.fr HF5.out).1 (by have := Hl2.out; omega) W5 (by have := Hl1.out; rw [HB1.out, hcl.out]; omega) hol).mono ?_
  rintro e w7 ⟨rfl, u7, W7, f7, v7⟩
  have n7 : ∀ k, k < gw → ¬ (k = gw ∨ u5.ownBlock = some k) := by
    rintro k hk (e | e)
    · omega
    · have := HV5.out k e; omega
  have HQ7 := Lib.hid (And.intro (crow_kept HQ5.out.1 f7 (n7 _ HL.out.1)) (And.intro (crow_kept HQ5.out.2.1 f7 (n7 _ HL.out.2.1)) (And.intro (crow_kept HQ5.out.2.2.1 f7 (n7 _ HL.out.2.2.1)) (crow_kept HQ5.out.2.2.2 f7 (n7 _ HL.out.2.2.2.1)))))
  have HF7 := Lib.hid (HF5.out.trans f7 (fun k hk e => (n7 k (by have := HL.out.2.2.2.2.2; omega) e).elim))
  clear f7 v7 n7 HQ5 hol ca0 ca1 ca2 W5
  have HW7 := Lib.hid W7
  clear W7
  go_upto_region 10 with fail
  have hwr : ∀ z : Int, 0 ≤ z → z ≤ 65535 → IntKind.i64.wrap z = z := fun z h0 h1 => IntWalk.i64_in _ (by omega)
  have HWW := Lib.hid (And.intro (hwr t ht0 ht1) (And.intro (hwr n hn0 hn1) (And.intro (hwr p hp0 hp1) (And.intro (hwr er he0 he1) (hwr ra hr0 hr1)))))
  clear hwr
  refine wp_region_chain (by kernel_rfl) [some 47, some 48, some 49, some 50, some 51, some 52, some 53, some 54, some 55, some 11] rfl (by decide) (by intro d hd; simp at hd ⊢; omega)
    [3, 7, 8, 9] (fun cvs wx => (WA w7 (be2 t.toNat) (be2 n.toNat)) cvs wx)
    [.free (.pointer (some ⟨g0, 0, none⟩)), .free (.int .u16 t), .free (.int .i64 t), .link none, .free (.pointer (some ⟨g0, 1, none⟩)), .free (.int .u16 n), .free (.int .i64 n), .link none, .link none, .link none]
    (by kernel_rfl) (by kernel_rfl) ?h010 ?step10 ?fin10
  case h010 => exact (Fr.refl _ _).drew
  case step10 =>
    intro vals
    simp only [frOfU, fillU, List.setIfInBounds_toArray, List.set_cons_succ, List.set_cons_zero]
    repeat' (first | exact AllOps.nil | refine AllOps.cons ?_ ?_)
    all_goals
      intro cvs wx hS he hu hlim K hK
      simp only [Act.put, List.setIfInBounds_toArray, List.set_cons_succ, List.set_cons_zero, List.getD_cons_zero, List.getD_cons_succ] at hK
      simp only [List.mem_cons, List.not_mem_nil, or_false, forall_eq_or_imp, forall_eq, Region.binds, forall_const, qmode_gc, Bool.false_eq_true, false_imp_iff, List.getD_cons_zero, List.getD_cons_succ, OpSort.val, Option.some.injEq, forall_eq', reduceCtorEq, implies_true, true_and, and_true] at he
      have hfr := WA.fr hS
      obtain ⟨ww0, ww1, ww2, ww3, ww4⟩ := HWW.out
      obtain ⟨c0, c1, c2, c3⟩ := cell4 (crow_kept HQ7.out.1 hfr (fun h => h))
      obtain ⟨d0, d1, d2⟩ := cell3 (crow_kept HQ7.out.2.1 hfr (fun h => h))
      have HSX := Lib.hid hS
      clear hS hfr
    all_goals first | (clear hlim hu; (try simp only [he] at hK ⊢); go_simp; exact hK) | skip
    · clear ww0 ww1 ww2 ww3 ww4
      obtain rfl := hlim (0 : Nat) rfl
      have h1 : Fr (fun _ => False) w7 wx := HSX.out
      clear hlim hu HSX
      simp only [he] at hK ⊢
      go_simp
      have H1 := Lib.hid h1
      clear h1
      go_at_call 12
      refine (refword_any t ht0 ht1 wx).mono ?_
      rintro er wa ⟨v', rfl, hm⟩
      exact hK _ _ (fun _ h => by cases h) (Made.base H1.out hm)
    · clear ww0 ww1 ww2 ww3 ww4
      obtain rfl := hlim (1 : Nat) rfl
      have h1 : Made (vals 3) (be2 t.toNat) w7 wx := HSX.out
      clear hlim hu HSX
      simp only [he] at hK ⊢
      go_simp
      have H1 := Lib.hid h1
      clear h1
      go_at_call 12
      refine (refword_any n hn0 hn1 wx).mono ?_
      rintro er wa ⟨v', rfl, hm⟩
      exact hK _ _ (fun _ h => by cases h) ⟨wx, H1.out, hm⟩
    · clear ww0 ww1 ww2 ww3 ww4
      obtain rfl := hlim (2 : Nat) rfl
      obtain ⟨wm, h1, h2⟩ : ∃ wm, Made (vals 3) (be2 t.toNat) w7 wm ∧ Made (vals 7) (be2 n.toNat) wm wx := HSX.out
      clear hlim hu HSX
      try simp only [he] at hK ⊢
      rw [if_pos (by rfl)]
      refine opWp_made (.tmp 50) (.tmp 54) rfl (vals 3) rfl (vals 7) rfl (be2 t.toNat) (be2 n.toNat) h1 h2 (by simp [be2_length]) ?_
      intro v' w' hm
      exact hK _ _ (fun _ h => by cases h) hm
    · clear ww0 ww1 ww2 ww3 ww4
      obtain rfl := hlim (3 : Nat) rfl
      have h1 : Made (vals 8) (be2 t.toNat ++ be2 n.toNat) w7 wx := HSX.out
      have H1 := Lib.hid h1
      clear hlim hu HSX h1
      (try simp only [he] at hK ⊢)
      go_simp
      exact hK _ _ (fun _ h => by cases h) H1.out
  case fin10 =>
  intro vals w8 hS hV
  have v0 := hV 0 _ (by decide) rfl
  have v1 := hV 1 _ (by decide) rfl
  have v2 := hV 2 _ (by decide) rfl
  have v4 := hV 4 _ (by decide) rfl
  have v5 := hV 5 _ (by decide) rfl
  have v6 := hV 6 _ (by decide) rfl
  have h8 : Made (vals 9) (be2 t.toNat ++ be2 n.toNat) w7 w8 := hS
  clear hS hV
  simp only [frOfU, fillU, List.setIfInBounds_toArray, List.set_cons_succ, List.set_cons_zero]
  simp only [Nat.reduceAdd, v0, v1, v2, v4, v5, v6]
  clear v0 v1 v2 v4 v5 v6
  generalize vals 9 = u8 at *
  generalize vals 8 = y8 at *
  generalize vals 7 = y7 at *
  generalize vals 3 = y3 at *
  have hL8 : (be2 t.toNat ++ be2 n.toNat).length = 4 := by simp [be2_length]
  obtain ⟨L8, hl8⟩ : ∃ L8, L8 = be2 t.toNat ++ be2 n.toNat := ⟨_, rfl⟩
  rw [← hl8] at h8 hL8
  have HU8 := Lib.hid h8
  have HL8 := Lib.hid hL8
  have HLL8 := Lib.hid hl8
  clear h8 hL8 hl8
  go_upto_region 11 with fail
  refine wp_region_chain (by kernel_rfl) [some 56, some 57, some 58, some 59, some 60, some 61, some 62, some 63, some 64, some 65, some 66, some 11] rfl (by decide) (by intro d hd; simp at hd ⊢; omega)
    [4, 5, 9, 10, 11] (fun cvs wx => (WB w7 u8 L8 (be2 p.toNat) (txt l)) cvs wx)
    [.free u8, .free (.pointer (some ⟨g0, 2, none⟩)), .free (.int .u16 p), .free (.int .i64 p), .link none, .link none, .free (.pointer (some ⟨g0, 3, none⟩)), .free (.slice a l.length c), .free (.string ⟨l.toArray⟩), .link none, .link none, .link none]
    (by kernel_rfl) (by kernel_rfl) ?h011 ?step11 ?fin11
  case h011 => exact HU8.out.plain (Fr.refl _ _).drew
  case step11 =>
    intro vals
    simp only [frOfU, fillU, List.setIfInBounds_toArray, List.set_cons_succ, List.set_cons_zero]
    repeat' (first | exact AllOps.nil | refine AllOps.cons ?_ ?_)
    all_goals
      intro cvs wx hS he hu hlim K hK
      simp only [Act.put, List.setIfInBounds_toArray, List.set_cons_succ, List.set_cons_zero, List.getD_cons_zero, List.getD_cons_succ] at hK
      simp only [List.mem_cons, List.not_mem_nil, or_false, forall_eq_or_imp, forall_eq, Region.binds, forall_const, qmode_gc, Bool.false_eq_true, false_imp_iff, List.getD_cons_zero, List.getD_cons_succ, OpSort.val, Option.some.injEq, forall_eq', reduceCtorEq, implies_true, true_and, and_true] at he
      have hfr := WB.fr hS
      obtain ⟨ww0, ww1, ww2, ww3, ww4⟩ := HWW.out
      obtain ⟨c0, c1, c2, c3⟩ := cell4 (crow_kept HQ7.out.1 hfr (fun h => h))
      obtain ⟨d0, d1, d2⟩ := cell3 (crow_kept HQ7.out.2.1 hfr (fun h => h))
      have hcv : (convert 23 9 (.slice a l.length c)).run Try.prog wx = .ok (.string ⟨l.toArray⟩) wx := (HS.out.1.fr (HF7.out.trans0 hfr)).1.string _ _ _ Try.underlying23 Try.underlying5 Try.underlying9
      have HSX := Lib.hid hS
      clear hS hfr
    all_goals first | (clear hlim hu; (try simp only [he] at hK ⊢); go_simp; exact hK) | skip
    · have h11 : vals 11 = u8 := hu 11 (by simp) (by kernel_rfl)
      clear hlim hu he ww0 ww1 ww2 ww3 ww4
      simp only [Nat.reduceAdd, h11] at hK ⊢
      go_simp
      exact hK
    · clear ww0 ww1 ww2 ww3 ww4
      obtain rfl := hlim (0 : Nat) rfl
      have h1 : Made u8 L8 w7 wx := HSX.out
      clear hlim hu HSX
      simp only [he] at hK ⊢
      go_simp
      have H1 := Lib.hid h1
      clear h1
      go_at_call 12
      refine (refword_any p hp0 hp1 wx).mono ?_
      rintro er wa ⟨v', rfl, hm⟩
      exact hK _ _ (fun _ h => by cases h) ⟨wx, H1.out, hm⟩
    · clear ww0 ww1 ww2 ww3 ww4
      obtain rfl := hlim (1 : Nat) rfl
      obtain ⟨wm, h1, h2⟩ : ∃ wm, Made u8 L8 w7 wm ∧ Made (vals 4) (be2 p.toNat) wm wx := HSX.out
      clear hlim hu HSX
      try simp only [he] at hK ⊢
      rw [if_pos (by rfl)]
      refine opWp_made (.tmp 56) (.tmp 60) rfl (u8) rfl (vals 4) rfl (L8) (be2 p.toNat) h1 h2 (by rw [HL8.out]; simp [be2_length]) ?_
      intro v' w' hm
      exact hK _ _ (fun _ h => by cases h) hm
    · clear ww0 ww1 ww2 ww3 ww4
      obtain rfl := hlim (2 : Nat) rfl
      have h1 : Made (vals 5) (L8 ++ be2 p.toNat) w7 wx := HSX.out
      clear hlim hu HSX
      simp only [he] at hK ⊢
      go_simp
      have H1 := Lib.hid h1
      clear h1
      go_at_call 13
      refine (reftext_any ⟨l.toArray⟩ (by have := Hl1.out; show l.length ≤ 65535; omega) wx).mono ?_
      rintro er wa ⟨v', rfl, hm⟩
      exact hK _ _ (fun _ h => by cases h) ⟨wx, H1.out, hm⟩
    · clear ww0 ww1 ww2 ww3 ww4
      obtain rfl := hlim (3 : Nat) rfl
      obtain ⟨wm, h1, h2⟩ : ∃ wm, Made (vals 5) (L8 ++ be2 p.toNat) w7 wm ∧ Made (vals 9) (txt l) wm wx := HSX.out
      clear hlim hu HSX
      try simp only [he] at hK ⊢
      rw [if_pos (by rfl)]
      refine opWp_made (.tmp 61) (.tmp 65) rfl (vals 5) rfl (vals 9) rfl (L8 ++ be2 p.toNat) (txt l) h1 h2 (by have := Hl1.out; rw [List.length_append, HL8.out, txt_length]; simp [be2_length]; omega) ?_
      intro v' w' hm
      exact hK _ _ (fun _ h => by cases h) hm
    · clear ww0 ww1 ww2 ww3 ww4
      obtain rfl := hlim (4 : Nat) rfl
      have h1 : Made (vals 10) (L8 ++ be2 p.toNat ++ txt l) w7 wx := HSX.out
      have H1 := Lib.hid h1
      clear hlim hu HSX h1
      (try simp only [he] at hK ⊢)
      go_simp
      exact hK _ _ (fun _ h => by cases h) H1.out
  case fin11 =>
  intro vals w9 hS hV
  have h9 : Made (vals 11) (L8 ++ be2 p.toNat ++ txt l) w7 w9 := hS
  clear hS
  have v0 := hV 0 _ (by decide) rfl
  have v1 := hV 1 _ (by decide) rfl
  have v2 := hV 2 _ (by decide) rfl
  have v3 := hV 3 _ (by decide) rfl
  have v6 := hV 6 _ (by decide) rfl
  have v7 := hV 7 _ (by decide) rfl
  have v8 := hV 8 _ (by decide) rfl
  clear hV
  simp only [frOfU, fillU, List.setIfInBounds_toArray, List.set_cons_succ, List.set_cons_zero]
  simp only [Nat.reduceAdd, v0, v1, v2, v3, v6, v7, v8]
  clear v0 v1 v2 v3 v6 v7 v8
  have h9' : Made (vals 11) B1 w7 w9 := by
    rw [HB1.out]
    rw [HLL8.out] at h9
    exact h9
  clear h9
  generalize vals 11 = u9 at *
  generalize vals 10 = y10 at *
  generalize vals 9 = y9 at *
  generalize vals 5 = y5 at *
  generalize vals 4 = y4 at *
  have HU9 := Lib.hid h9'
  clear h9' HU8 HL8 HLL8
  go_wp2_with fail
  have hlB : B1.length ≤ 109 := by have := Hl1.out; rw [HB1.out, hcl.out]; omega
  have HlB := Lib.hid hlB
  refine (refsum_any u9 B1 _ HU9.out.1.sees (by omega)).mono ?_
  rintro e w10 ⟨rfl, f10⟩
  have H10 := Lib.hid f10
  obtain ⟨a9, c9, e9⟩ := slice_of_own HU9.out.1
  have hmk := Lib.hid (show (Crc.sum B1 : Int) = (Crc.sum B1 : Int) from rfl)
  subst e9
  clear f10 hlB
  generalize hsum : (Crc.sum B1 : Int) = SUM at *
  have HSUM := Lib.hid hsum
  clear hsum hmk
  go_upto_region 15 with fail
  have f10 := H10.out
  generalize hu9 : Value.slice a9 B1.length c9 = u9 at *
  have He9 := Lib.hid hu9
  clear hu9
  refine wp_region_chain (by kernel_rfl) [some 73, some 74, some 75, some 76, some 77, some 78, some 79, some 80, some 81, some 82, some 83, some 11] rfl (by decide) (by intro d hd; simp at hd ⊢; omega)
    [4, 5, 9, 10, 11] (fun cvs wx => (WB w7 u9 B1 (be2 er.toNat) (be2 ra.toNat)) cvs wx)
    [.free u9, .free (.pointer (some ⟨g1, 0, none⟩)), .free (.int .u16 er), .free (.int .i64 er), .link none, .link none, .free (.pointer (some ⟨g1, 1, none⟩)), .free (.int .u16 ra), .free (.int .i64 ra), .link none, .link none, .link none]
    (by kernel_rfl) (by kernel_rfl) ?h015 ?step15 ?fin15
  case h015 => exact HU9.out.plain (f10.drew)
  case step15 =>
    intro vals
    simp only [frOfU, fillU, List.setIfInBounds_toArray, List.set_cons_succ, List.set_cons_zero]
    repeat' (first | exact AllOps.nil | refine AllOps.cons ?_ ?_)
    all_goals
      intro cvs wx hS he hu hlim K hK
      simp only [Act.put, List.setIfInBounds_toArray, List.set_cons_succ, List.set_cons_zero, List.getD_cons_zero, List.getD_cons_succ] at hK
      simp only [List.mem_cons, List.not_mem_nil, or_false, forall_eq_or_imp, forall_eq, Region.binds, forall_const, qmode_gc, Bool.false_eq_true, false_imp_iff, List.getD_cons_zero, List.getD_cons_succ, OpSort.val, Option.some.injEq, forall_eq', reduceCtorEq, implies_true, true_and, and_true] at he
      have hfr := WB.fr hS
      obtain ⟨ww0, ww1, ww2, ww3, ww4⟩ := HWW.out
      obtain ⟨c0, c1, c2, c3⟩ := cell4 (crow_kept HQ7.out.1 hfr (fun h => h))
      obtain ⟨d0, d1, d2⟩ := cell3 (crow_kept HQ7.out.2.1 hfr (fun h => h))
      have HSX := Lib.hid hS
      clear hS hfr
    all_goals first | (clear hlim hu; (try simp only [he] at hK ⊢); go_simp; exact hK) | skip
    · have h11 : vals 11 = u9 := hu 11 (by simp) (by kernel_rfl)
      clear hlim hu he ww0 ww1 ww2 ww3 ww4
      simp only [Nat.reduceAdd, h11] at hK ⊢
      go_simp
      exact hK
    · clear ww0 ww1 ww2 ww3 ww4
      obtain rfl := hlim (0 : Nat) rfl
      have h1 : Made u9 B1 w7 wx := HSX.out
      clear hlim hu HSX
      simp only [he] at hK ⊢
      go_simp
      have H1 := Lib.hid h1
      clear h1
      go_at_call 12
      refine (refword_any er he0 he1 wx).mono ?_
      rintro er wa ⟨v', rfl, hm⟩
      exact hK _ _ (fun _ h => by cases h) ⟨wx, H1.out, hm⟩
    · clear ww0 ww1 ww2 ww3 ww4
      obtain rfl := hlim (1 : Nat) rfl
      obtain ⟨wm, h1, h2⟩ : ∃ wm, Made u9 B1 w7 wm ∧ Made (vals 4) (be2 er.toNat) wm wx := HSX.out
      clear hlim hu HSX
      try simp only [he] at hK ⊢
      rw [if_pos (by rfl)]
      refine opWp_made (.tmp 73) (.tmp 77) rfl (u9) rfl (vals 4) rfl (B1) (be2 er.toNat) h1 h2 (by have := Hl1.out; rw [HB1.out, hcl.out]; simp [be2_length]; omega) ?_
      intro v' w' hm
      exact hK _ _ (fun _ h => by cases h) hm
    · clear ww0 ww1 ww2 ww3 ww4
      obtain rfl := hlim (2 : Nat) rfl
      have h1 : Made (vals 5) (B1 ++ be2 er.toNat) w7 wx := HSX.out
      clear hlim hu HSX
      simp only [he] at hK ⊢
      go_simp
      have H1 := Lib.hid h1
      clear h1
      go_at_call 12
      refine (refword_any ra hr0 hr1 wx).mono ?_
      rintro er wa ⟨v', rfl, hm⟩
      exact hK _ _ (fun _ h => by cases h) ⟨wx, H1.out, hm⟩
    · clear ww0 ww1 ww2 ww3 ww4
      obtain rfl := hlim (3 : Nat) rfl
      obtain ⟨wm, h1, h2⟩ : ∃ wm, Made (vals 5) (B1 ++ be2 er.toNat) w7 wm ∧ Made (vals 9) (be2 ra.toNat) wm wx := HSX.out
      clear hlim hu HSX
      try simp only [he] at hK ⊢
      rw [if_pos (by rfl)]
      refine opWp_made (.tmp 78) (.tmp 82) rfl (vals 5) rfl (vals 9) rfl (B1 ++ be2 er.toNat) (be2 ra.toNat) h1 h2 (by have := Hl1.out; rw [List.length_append, HB1.out, hcl.out]; simp [be2_length]; omega) ?_
      intro v' w' hm
      exact hK _ _ (fun _ h => by cases h) hm
    · clear ww0 ww1 ww2 ww3 ww4
      obtain rfl := hlim (4 : Nat) rfl
      have h1 : Made (vals 10) (B1 ++ be2 er.toNat ++ be2 ra.toNat) w7 wx := HSX.out
      have H1 := Lib.hid h1
      clear hlim hu HSX h1
      (try simp only [he] at hK ⊢)
      go_simp
      exact hK _ _ (fun _ h => by cases h) H1.out
  case fin15 =>
  intro vals w11 hS hV
  have h11 : Made (vals 11) (B1 ++ be2 er.toNat ++ be2 ra.toNat) w7 w11 := hS
  clear hS
  have v0 := hV 0 _ (by decide) rfl
  have v1 := hV 1 _ (by decide) rfl
  have v2 := hV 2 _ (by decide) rfl
  have v3 := hV 3 _ (by decide) rfl
  have v6 := hV 6 _ (by decide) rfl
  have v7 := hV 7 _ (by decide) rfl
  have v8 := hV 8 _ (by decide) rfl
  clear hV
  simp only [frOfU, fillU, List.setIfInBounds_toArray, List.set_cons_succ, List.set_cons_zero]
  simp only [Nat.reduceAdd, v0, v1, v2, v3, v6, v7, v8]
  clear v0 v1 v2 v3 v6 v7 v8
  generalize vals 11 = u11 at *
  generalize vals 10 = z10 at *
  generalize vals 9 = z9 at *
  generalize vals 5 = z5 at *
  generalize vals 4 = z4 at *
  obtain ⟨L11, hL11⟩ : ∃ L11, L11 = B1 ++ be2 er.toNat ++ be2 ra.toNat := ⟨_, rfl⟩
  rw [← hL11] at h11
  have HU11 := Lib.hid h11
  have HL11 := Lib.hid hL11
  clear h11 f10 hL11
  obtain ⟨d0, d1, d2⟩ := cell3 (crow_kept HQ7.out.2.1 HU11.out.2.1 (fun h => h))
  have hcv : (convert 23 9 (.slice b m.length d)).run Try.prog w11 = .ok (.string ⟨m.toArray⟩) w11 := (HS.out.2.1.fr (HF7.out.trans0 HU11.out.2.1)).1.string _ _ _ Try.underlying23 Try.underlying5 Try.underlying9
  go_wp2_with fail
  refine (reftext_any ⟨m.toArray⟩ (by have := Hl2.out; show m.length ≤ 65535; omega) w11).mono ?_
  rintro e w12 ⟨q12, rfl, m12⟩
  clear hcv d0 d1 d2
  have h12 : Made q12 (txt m) w11 w12 := m12
  have HM12 := Lib.hid h12
  clear m12 h12
  obtain ⟨i0, hi, hy0, hy1, hy2⟩ := info_parts Try.infoU8
  have hown := Lib.hid (HU11.out.1.fr HM12.out.2.1 (fun _ _ h => h))
  obtain ⟨a12, c12, e12⟩ := slice_of_own HM12.out.1
  subst e12
  go_wp2_with (at_builtin; refine wpList_append_sep rfl (.tmp 84) (.tmp 88) 23 23 rfl 0 5 i0 (.int .u8 0) 1 1 Try.underlying23 _ Try.underlying23 (.inr ⟨_, rfl⟩) hi hy0 hy1 hy2 rfl (by decide) u11 _ _ rfl hown.out _ (txt m).length ((txt m).map bv) rfl (lenOf_slice _ _ _) (by simp) HM12.out.1.sees.first (HM12.out.1.sees.drew).first (bv_one _) ?b1 ?b2 (Nat.zero_le _) ?grow)
  case b1 => have := Hl2.out; have := HlB.out; rw [HL11.out, List.length_append, List.length_append, txt_length]; simp only [be2_length]; unfold maxLen; omega
  case b2 => have := Hl2.out; have := HlB.out; rw [HL11.out, List.length_append, List.length_append, txt_length]; simp only [be2_length]; omega
  case grow =>
    intro u13 w13 ho hg hv
    have h13 : Made u13 (B1 ++ ansB er ra m) w7 w13 := by
      have := Made.append HU11.out HM12.out.2.1 rfl ho hg hv
      rw [HL11.out] at this
      unfold ansB
      simpa only [List.append_assoc] using this
    have HU13 := Lib.hid h13
    clear ho hg hv h13
    obtain ⟨BB, hBB⟩ : ∃ BB, BB = B1 ++ ansB er ra m := ⟨_, rfl⟩
    have hlen : BB.length ≤ 220 := by have := Hl2.out; have := HlB.out; rw [hBB, List.length_append, ansB_length]; omega
    have HBB := Lib.hid hBB
    have HLB := Lib.hid hlen
    have hu13 := HU13.out
    rw [← hBB] at hu13
    have HV13 := Lib.hid hu13
    have hw13 := HW7.out.fr HV13.out.2.1 (fun h => h) (fun _ _ h => h)
    rw [← hBB] at hw13
    have HW13 := Lib.hid hw13
    clear hBB hlen hu13 HU13 hw13 HW7
    go_wp2_with fail
    refine (bytes_any gw u7 BB _ HW13.out (by have := HLB.out; omega)).mono ?_
    rintro e w14 ⟨x14, rfl, hx14, f14, k14⟩
    have HX14 := Lib.hid hx14
    have HF14 := Lib.hid f14
    have HK14 := Lib.hid k14
    have hm14 := Lib.hid (HS.out.2.2.fr (((HF7.out.trans0 HV13.out.2.1)).trans0 f14))
    clear hx14 f14 k14
    go_wp2_with (at_builtin; refine wpList_append_sep rfl (.tmp 91) (.tmp 92) 23 23 rfl 0 5 i0 (.int .u8 0) 1 1 Try.underlying23 _ Try.underlying23 (.inr ⟨_, rfl⟩) hi hy0 hy1 hy2 rfl (by decide) x14 _ _ rfl HX14.out _ M.length (M.map bv) rfl (lenOf_slice _ _ _) (by simp) hm14.out.1.first (hm14.out.1.drew).first (bv_one _) ?b3 ?b4 (Nat.zero_le _) ?grow2)
    case b3 => have := HLB.out; have := Hl3.out; unfold maxLen; omega
    case b4 => have := HLB.out; have := Hl3.out; omega
    case grow2 =>
      intro x15 w15 ho hg hv
      have ho15 : Own w15 x15 (BB ++ M) := by unfold Own; rw [List.length_append, List.map_append]; exact ho
      have f15 : Fr (fun _ => False) w13 w15 := HF14.out.trans (Fr.of_grown hg) (fun i hi e => by have := HK14.out i e.symm; omega)
      have H15 := Lib.hid ho15
      have HF15 := Lib.hid f15
      clear ho hg hv ho15 f15
      go_wp2_with fail
      refine (read_any x15 (BB ++ M) w15 H15.out.sees (by have := HLB.out; have := Hl3.out; rw [List.length_append]; omega)).mono ?_
      rintro e w16 ⟨gr, x16, rfl, R16, f16, hgr, hx16⟩
      have HF16 := Lib.hid (HF15.out.trans0 f16)
      have HR16 := Lib.hid R16
      have HG16 := Lib.hid (And.intro hgr hx16)
      clear f16 R16 hgr hx16 H15 HX14 HF14 HK14 hm14
      go_wp2_with fail
      have hBM : BB ++ M = callB t n p l ++ (ansB er ra m ++ M) := by rw [HBB.out, HB1.out, List.append_assoc]
      have hT1 := takeS_call t n p l (ansB er ra m ++ M) ht0 ht1 hn0 hn1 hp0 hp1 (by have := Hl1.out; omega)
      have hT2 := takeAS_ans er ra m M he0 he1 hr0 hr1 (by have := Hl2.out; omega)
      have ht := take_any gr x16 (BB ++ M) 0 w16 HR16.out
      rw [hBM, hT1] at ht
      refine ht.mono ?_
      rintro e w17 ⟨y17, rfl, hR17, hy17⟩
      obtain ⟨v17, rfl, hv17, k17, hk17⟩ : ∃ v', y17 = cv t n p v' ∧ Sees w17 v' l ∧ ∃ g, v'.ownBlock = some g ∧ w16.heap.size ≤ g ∧ g < w17.heap.size := by
        rcases hy17 with ⟨_, v', e, h2, h3⟩ | ⟨h1, _⟩
        · refine ⟨v', ?_, h2, h3⟩
          rw [e]
          simp only [Int.toNat_of_nonneg ht0, Int.toNat_of_nonneg hn0, Int.toNat_of_nonneg hp0]
        · exact absurd rfl h1
      obtain ⟨x17, R17, f17, o17⟩ := hR17
      clear ht hy17 hT1 hBM
      obtain ⟨al, cl, rfl, hnl⟩ := hv17.shape
      clear hnl
      unfold cv
      have hgr13 := HG16.out.1
      have HV17 := Lib.hid (And.intro hv17 hk17)
      have HR17 := Lib.hid R17
      have HF17 := Lib.hid f17
      clear hv17 hk17 R17 f17 o17
      go_wp2_with fail
      have ht := takeA_any gr x17 (ansB er ra m ++ M) 0 w17 HR17.out
      rw [hT2] at ht
      refine ht.mono ?_
      rintro e w18 ⟨y18, rfl, hR18, hy18⟩
      obtain ⟨v18, rfl, hv18, k18, hk18⟩ : ∃ v', y18 = av er ra v' ∧ Sees w18 v' m ∧ ∃ g, v'.ownBlock = some g ∧ w17.heap.size ≤ g ∧ g < w18.heap.size := by
        rcases hy18 with ⟨_, v', e, h2, h3⟩ | ⟨h1, _⟩
        · refine ⟨v', ?_, h2, h3⟩
          rw [e]
          simp only [Int.toNat_of_nonneg he0, Int.toNat_of_nonneg hr0]
        · exact absurd rfl h1
      obtain ⟨x18, R18, f18, o18⟩ := hR18
      clear ht hy18 hT2
      obtain ⟨an, cn, rfl, hnl⟩ := hv18.shape
      clear hnl
      unfold av
      have HV18 := Lib.hid (And.intro hv18 hk18)
      have HR18 := Lib.hid R18
      have HF18 := Lib.hid f18
      clear hv18 hk18 R18 f18 o18 hgr13
      go_upto_region 19 with fail
      have HBBM := Lib.hid HBB.out
      have q20 := crow_kept (heap_alloc_new w18 (Obj.cells #[.int .u16 t, .int .u16 n, .int .i64 p, .slice al l.length cl] 32 (0, 0))) ((Fr.refl (fun _ => False) (w18.alloc (Obj.cells #[.int .u16 t, .int .u16 n, .int .i64 p, .slice al l.length cl] 32 (0, 0)))).alloc (Obj.cells #[.int .i64 er, .int .i64 ra, .slice an m.length cn] 36 (0, 0))) (fun h => h)
      have q21 := new_two w18 (Obj.cells #[.int .u16 t, .int .u16 n, .int .i64 p, .slice al l.length cl] 32 (0, 0)) (Obj.cells #[.int .i64 er, .int .i64 ra, .slice an m.length cn] 36 (0, 0))
      have f19 : Fr (fun _ => False) w18 ((w18.alloc (Obj.cells #[.int .u16 t, .int .u16 n, .int .i64 p, .slice al l.length cl] 32 (0, 0))).alloc (Obj.cells #[.int .i64 er, .int .i64 ra, .slice an m.length cn] 36 (0, 0))) := ((Fr.refl _ _).alloc _).alloc _
      generalize (w18.alloc (Obj.cells #[.int .u16 t, .int .u16 n, .int .i64 p, .slice al l.length cl] 32 (0, 0))).alloc (Obj.cells #[.int .i64 er, .int .i64 ra, .slice an m.length cn] 36 (0, 0)) = w19 at *
      generalize w18.heap.size + 1 = g5 at *
      generalize w18.heap.size = g4 at *
      have f16 : Fr (fun k => k = gr) w16 w19 := (HF17.out.trans HF18.out (fun _ _ h => h)).trans f19 (fun _ _ h => h.elim)
      have f13 : Fr (fun k => k = gr) w13 w19 := (HF16.out.mono (fun _ _ h => h.elim)).trans f16 (fun _ _ h => h)
      have f07 : Fr (fun k => k = gr) w7 w19 := (HV13.out.2.1.mono (fun _ _ h => h.elim)).trans f13 (fun _ _ h => h)
      have hgr : w13.heap.size ≤ gr := Nat.le_trans HF15.out.size HG16.out.1
      have hgr7 : w7.heap.size ≤ gr := Nat.le_trans HV13.out.2.1.size hgr
      have hgr0 : w.heap.size ≤ gr := Nat.le_trans HF7.out.size hgr7
      have fw : Fr (fun _ => False) w w19 := (HF7.out.mono (fun _ _ h => h.elim)).trans f07 (fun i hi e => by omega)
      have q2 := crow_kept HQ7.out.2.2.1 f07 (fun e => by have := (Array.getElem?_eq_some_iff.1 HQ7.out.2.2.1).1; omega)
      have q3 := crow_kept HQ7.out.2.2.2 f07 (fun e => by have := (Array.getElem?_eq_some_iff.1 HQ7.out.2.2.2).1; omega)
      have hW19 := HW13.out.fr f13 (fun e => by have := HW13.out.lt.1; omega) (fun k hk e => by have := HW13.out.lt.2 k hk; omega)
      have hU19 := HV13.out.1.sees.fr f13 (fun k hk e => by have := HV13.out.1.lt k hk; omega)
      have hR19 := HR18.out.fr f19 (fun h => h) (fun _ _ h => h)
      have hgl := HR16.out.lt
      have hl19 : Sees w19 (.slice al l.length cl) l := HV17.out.1.fr ((HF18.out).trans f19 (fun _ _ h => h.elim)) (fun k hk e => by
        obtain ⟨e1, e2, e3⟩ := HV17.out.2
        rw [hk] at e1
        cases e1
        omega)
      have hm19 := HV18.out.1.fr f19 (fun _ _ h => h)
      have ha19 := HS.out.1.fr fw
      have hb19 := HS.out.2.1.fr fw
      have HB := Lib.hid (And.intro q2 (And.intro q3 (And.intro q20 q21)))
      have HFW := Lib.hid fw
      have c1 : ∀ W, Fr (fun _ => False) w19 W → Calls Try.prog 16 #[.pointer (some ⟨gw, 0, none⟩)] W fun e w' => ∃ v', e = .returned v' ∧ Fr (fun _ => False) W w' ∧ readsAs ⟨BB.toArray⟩ v' w' := fun W hW =>
        (bytes_str gw u7 BB W w19 hW19 hW (by have := HLB.out; omega)).mono (fun _ _ ⟨v', e1, e2, _, _, e5⟩ => ⟨v', e1, e2, e5⟩)
      have c2 : ∀ W, Fr (fun _ => False) w19 W → Calls Try.prog 19 #[(.agg #[.int .u16 t, .int .u16 n, .int .i64 p, .slice a l.length c]), (.agg #[.int .u16 t, .int .u16 n, .int .i64 p, .slice al l.length cl])] W fun e w' => e = .returned (.bool true) ∧ Fr (fun _ => False) W w' := fun W hW => by
        have := csame_any t n p t n p (.slice a l.length c) (.slice al l.length cl) l l W (ha19.fr hW).1 (hl19.fr hW (fun _ _ h => h))
        rw [show decide (t = t ∧ n = n ∧ p = p ∧ l = l) = true by simp] at this
        exact this
      have c3 : ∀ W, Fr (fun _ => False) w19 W → Calls Try.prog 20 #[(.agg #[.int .i64 er, .int .i64 ra, .slice b m.length d]), (.agg #[.int .i64 er, .int .i64 ra, .slice an m.length cn])] W fun e w' => e = .returned (.bool true) ∧ Fr (fun _ => False) W w' := fun W hW => by
        have := alike_any er ra er ra (.slice b m.length d) (.slice an m.length cn) m m W (hb19.fr hW).1 (hm19.fr hW (fun _ _ h => h))
        rw [show decide (er = er ∧ ra = ra ∧ m = m) = true by simp] at this
        exact this
      have c4 : ∀ W, Fr (fun _ => False) w19 W → Calls Try.prog 21 #[.pointer (some ⟨gr, 0, none⟩)] W fun e w' => e = .returned (.int .i64 0) ∧ W = w' := fun W hW =>
        err_any gr x18 M 0 W (hR19.fr hW (fun h => h) (fun _ _ h => h))
      have c5 : ∀ W, Fr (fun _ => False) w19 W → Calls Try.prog 22 #[.pointer (some ⟨gr, 0, none⟩)] W fun e w' => e = .returned (.int .i64 M.length) ∧ W = w' := fun W hW =>
        left_any gr x18 M 0 W (hR19.fr hW (fun h => h) (fun _ _ h => h))
      have c6 : ∀ W, Fr (fun _ => False) w19 W → Calls Try.prog 23 #[(.agg #[.int .u16 t, .int .u16 n, .int .i64 p, .slice a l.length c])] W fun e w' => e = .returned (.int .u32 SUM) ∧ Fr (fun _ => False) W w' := fun W hW => by
        have := mark_any t n p (.slice a l.length c) l W ht0 ht1 hn0 hn1 HK.out.1 (ha19.fr hW).1 (ha19.fr hW).2 (by have := Hl1.out; omega)
        rw [← HB1.out, HSUM.out] at this
        exact this
      have c7 : ∀ W, Calls Try.prog 24 #[(.agg #[.int .u16 t, .int .u16 n, .int .i64 p, .slice a l.length c])] W fun e w' => e = .returned (.int .i64 0) ∧ Fr (fun _ => False) W w' := fun W => by
        have := ccheck_any t n p a l.length c W
        rw [cchk_ok HK.out.1 (by have := Hl1.out; omega)] at this
        exact this
      have c8 : ∀ W, Calls Try.prog 25 #[(.agg #[.int .i64 er, .int .i64 ra, .slice b m.length d])] W fun e w' => e = .returned (.int .i64 0) ∧ Fr (fun _ => False) W w' := fun W => by
        have := acheck_any er ra b m.length d W
        rw [achk_ok HK.out.2.1 HK.out.2.2 (by have := Hl2.out; omega)] at this
        exact this
      have cu : readsAs ⟨BB.toArray⟩ u13 w19 := fun W hW => (hU19.fr hW (fun _ _ h => h)).string _ _ _ Try.underlying23 Try.underlying5 Try.underlying9
      have HC := Lib.hid (And.intro c1 (And.intro c2 (And.intro c3 (And.intro c4 (And.intro c5 (And.intro c6 (And.intro c7 (And.intro c8 cu))))))))
      clear c1 c2 c3 c4 c5 c6 c7 c8 cu q2 q3 q20 q21 f19 f16 f13 f07 hgr hgr7 hgr0 fw hW19 hU19 hR19 hgl hl19 hm19 ha19 hb19 HR16 HR17 HR18 HF17 HF18 HV17 HV18 HV13 HW13 HF16 HG16 HF15 hown HM12 HU11 HL11
      obtain ⟨SS, hSS⟩ : ∃ SS : ByteArray, SS = ⟨BB.toArray⟩ := ⟨_, rfl⟩
      rw [← hSS] at HC
      clear hSS
      refine wp_region_told (by kernel_rfl) (fun a b => Fr (fun _ => False) a b) (fun w => Fr.refl _ w) (fun _ _ _ h k => h.trans k (fun _ _ h => h)) [99, 100, 101, 102, 103, 104, 105, 106, 107, 108, 109, 110, 111, 112, 113, 114, 115, 116, 117, 118, 119, 120, 121, 122, 123, 124, 125, 126, 127, 128, 129, 130, 131, 132, 133, 134, 135, 136, 137, 138, 139, 140, 141, 142, 6] rfl (by decide) (by intro d hd; simp at hd ⊢; omega)
          (oneV 1 (readsAs SS) [.pointer (some ⟨gw, 0, none⟩), undef, .string SS, u13, .string SS, .bool true, .bool true, (.agg #[.int .u16 t, .int .u16 n, .int .i64 p, .slice a l.length c]), (.agg #[.int .u16 t, .int .u16 n, .int .i64 p, .slice al l.length cl]), .bool true, .bool true, .bool true, (.agg #[.int .i64 er, .int .i64 ra, .slice b m.length d]), (.agg #[.int .i64 er, .int .i64 ra, .slice an m.length cn]), .bool true, .bool true, .bool true, .pointer (some ⟨gr, 0, none⟩), .int .i64 0, .bool true, .bool true, .bool true, .pointer (some ⟨gr, 0, none⟩), .int .i64 M.length, .slice am M.length cm, .int .i64 M.length, .bool true, .bool true, .bool true, (.agg #[.int .u16 t, .int .u16 n, .int .i64 p, .slice a l.length c]), .int .u32 SUM, .int .u32 SUM, .bool true, .bool true, .bool true, (.agg #[.int .u16 t, .int .u16 n, .int .i64 p, .slice a l.length c]), .int .i64 0, .bool true, .bool true, .bool true, (.agg #[.int .i64 er, .int .i64 ra, .slice b m.length d]), .int .i64 0, .bool true, .bool true, .bool true])
          (oneV_reads _ _ _) (by kernel_rfl) ?stepQ ?finQ
      case stepQ =>
          intro vals
          simp only [frOf, fill, List.setIfInBounds_toArray, List.set_cons_succ, List.set_cons_zero]
          repeat' (first | exact AllOps.nil | refine AllOps.cons ?_ ?_)
          all_goals
            intro wx hle he K' hK
            simp only [Act.put, List.setIfInBounds_toArray, List.set_cons_succ, List.set_cons_zero] at hK
            simp only [List.mem_cons, List.not_mem_nil, or_false, forall_eq_or_imp, forall_eq, Region.binds, forall_const, false_imp_iff, oneV, List.getD_cons_zero, List.getD_cons_succ, ne_eq, not_true_eq_false, not_false_eq_true, reduceCtorEq, true_and, and_true, Nat.reduceEqDiff, Nat.zero_ne_one] at he
            try simp only [he] at hK ⊢
            have hl5 := Fr.trans (Fr.drew (Fr.refl (fun _ => False) w19)) hle (fun _ _ h => h)
            have hl8 := Lib.hid hl5
            have hcu := HC.out.2.2.2.2.2.2.2.2 _ hl5
            try have hi1 := he _ (Fr.refl _ wx)
            try have hi2 := he.1 _ (Fr.refl _ wx)
            obtain ⟨ca0, ca1, ca2, ca3⟩ := cell4 (crow_kept HB.out.1 hl5 (fun h => h))
            obtain ⟨cb0, cb1, cb2⟩ := cell3 (crow_kept HB.out.2.1 hl5 (fun h => h))
            obtain ⟨cc0, cc1, cc2, cc3⟩ := cell4 (crow_kept HB.out.2.2.1 hl5 (fun h => h))
            obtain ⟨cd0, cd1, cd2⟩ := cell3 (crow_kept HB.out.2.2.2 hl5 (fun h => h))
            clear hl5 hle he
            try go_simp
          all_goals first
            | exact hK _ _ (Fr.refl _ _) ⟨fun h => absurd h (by decide), fun _ => rfl⟩
            | skip
          · go_at_call 16; refine (HC.out.1 _ hl8.out).mono ?_; rintro e1 wa ⟨va, rfl, fa, da⟩; exact hK _ _ fa ⟨fun _ => da, fun h => absurd rfl h⟩
          · go_at_call 19; refine (HC.out.2.1 _ hl8.out).mono ?_; rintro e1 wa ⟨rfl, fa⟩; exact hK _ _ fa ⟨fun h => absurd h (by decide), fun _ => rfl⟩
          · go_at_call 20; refine (HC.out.2.2.1 _ hl8.out).mono ?_; rintro e1 wa ⟨rfl, fa⟩; exact hK _ _ fa ⟨fun h => absurd h (by decide), fun _ => rfl⟩
          · go_at_call 21; refine (HC.out.2.2.2.1 _ hl8.out).mono ?_; rintro e1 wa ⟨rfl, rfl⟩; exact hK _ _ (Fr.refl _ _) ⟨fun h => absurd h (by decide), fun _ => rfl⟩
          · go_at_call 22; refine (HC.out.2.2.2.2.1 _ hl8.out).mono ?_; rintro e1 wa ⟨rfl, rfl⟩; exact hK _ _ (Fr.refl _ _) ⟨fun h => absurd h (by decide), fun _ => rfl⟩
          · go_at_call 23; refine (HC.out.2.2.2.2.2.1 _ hl8.out).mono ?_; rintro e1 wa ⟨rfl, fa⟩; exact hK _ _ fa ⟨fun h => absurd h (by decide), fun _ => rfl⟩
          · go_at_call 24; refine (HC.out.2.2.2.2.2.2.1 _).mono ?_; rintro e1 wa ⟨rfl, fa⟩; exact hK _ _ fa ⟨fun h => absurd h (by decide), fun _ => rfl⟩
          · go_at_call 25; refine (HC.out.2.2.2.2.2.2.2.1 _).mono ?_; rintro e1 wa ⟨rfl, fa⟩; exact hK _ _ fa ⟨fun h => absurd h (by decide), fun _ => rfl⟩
      case finQ =>
          intro vals w' hle hV
          have h9 : vals 44 = .bool true := (hV 44 (by decide)).2 (by decide)
          clear hV
          have hfin := HFW.out.trans (Fr.trans (Fr.drew (Fr.refl (fun _ => False) w19)) hle (fun _ _ h => h)) (fun _ _ h => h)
          simp only [frOf, fill, List.setIfInBounds_toArray, List.set_cons_succ, List.set_cons_zero, Nat.reduceAdd]
          go_wp2_with fail
          go_ret
          exact ⟨by first | rfl | rw [h9], hfin⟩

/-- In the form that the statement's lift takes. -/
theorem cback_all {w : World} (s : Sc) (v : Value) (hv : ScV w s v) (x : Sa) (u : Value) (hu : SaV w x u) (mv : Value) (la : List Int) (ha : SeesL w mv (la.map (Value.int .u8))) (fa : ∀ n ∈ la, (Lit.int .u8 n).wf = true) :
    Calls Try.prog 3 #[v, u, mv] w fun e w' => e = .returned (.bool true) ∧ Fr (fun _ => False) w w' := cback_any s v x u mv _ w hv hu (seesO_u8 ha fa)
end Go.Proofs.Ytgjbndhjkhfjlaa
