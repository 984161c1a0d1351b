/-
  What ChOnce rests on, part 8: Chair4, Chair5, ChMath.
-/
import Derived.Test.YtcjfinabffpgkaaS07
set_option linter.unusedVariables false
set_option linter.unusedSimpArgs false
set_option maxHeartbeats 64000000
namespace Go.Proofs.Ytcjfinabffpgkaa
open Go.RowKit
open Go.Lib (hid)
section
set_option maxRecDepth 100000

theorem cst15e {w : World} {b : Nat} {x0 x1 x2 x3 x4 x5 x6 x7 x8 x9 x10 x11 x12 x13 x14 y5 y6 y7 y8 y9 y10 : Value} {t : TypeId} (h : w.heap[b]? = some (.cells #[x0, x1, x2, x3, x4, x5, x6, x7, x8, x9, x10, x11, x12, x13, x14] t (0, 0))) :
    ((((((w.setCell ⟨b, 5, none⟩ y5).setCell ⟨b, 6, none⟩ y6).setCell ⟨b, 7, none⟩ y7).setCell ⟨b, 8, none⟩ y8).setCell ⟨b, 9, none⟩ y9).setCell ⟨b, 10, none⟩ y10).heap[b]? = some (.cells #[x0, x1, x2, x3, x4, y5, y6, y7, y8, y9, y10, x11, x12, x13, x14] t (0, 0)) ∧ Fr (fun k => k = b) w ((((((w.setCell ⟨b, 5, none⟩ y5).setCell ⟨b, 6, none⟩ y6).setCell ⟨b, 7, none⟩ y7).setCell ⟨b, 8, none⟩ y8).setCell ⟨b, 9, none⟩ y9).setCell ⟨b, 10, none⟩ y10) := by
  have h1 : (w.setCell ⟨b, 5, none⟩ y5).heap[b]? = some (.cells #[x0, x1, x2, x3, x4, y5, x6, x7, x8, x9, x10, x11, x12, x13, x14] t (0, 0)) := by rw [heap_setCell_same _ b 5 _ t y5 h]; rfl
  have h2 : ((w.setCell ⟨b, 5, none⟩ y5).setCell ⟨b, 6, none⟩ y6).heap[b]? = some (.cells #[x0, x1, x2, x3, x4, y5, y6, x7, x8, x9, x10, x11, x12, x13, x14] t (0, 0)) := by rw [heap_setCell_same _ b 6 _ t y6 h1]; rfl
  have h3 : (((w.setCell ⟨b, 5, none⟩ y5).setCell ⟨b, 6, none⟩ y6).setCell ⟨b, 7, none⟩ y7).heap[b]? = some (.cells #[x0, x1, x2, x3, x4, y5, y6, y7, x8, x9, x10, x11, x12, x13, x14] t (0, 0)) := by rw [heap_setCell_same _ b 7 _ t y7 h2]; rfl
  have h4 : ((((w.setCell ⟨b, 5, none⟩ y5).setCell ⟨b, 6, none⟩ y6).setCell ⟨b, 7, none⟩ y7).setCell ⟨b, 8, none⟩ y8).heap[b]? = some (.cells #[x0, x1, x2, x3, x4, y5, y6, y7, y8, x9, x10, x11, x12, x13, x14] t (0, 0)) := by rw [heap_setCell_same _ b 8 _ t y8 h3]; rfl
  have h5 : (((((w.setCell ⟨b, 5, none⟩ y5).setCell ⟨b, 6, none⟩ y6).setCell ⟨b, 7, none⟩ y7).setCell ⟨b, 8, none⟩ y8).setCell ⟨b, 9, none⟩ y9).heap[b]? = some (.cells #[x0, x1, x2, x3, x4, y5, y6, y7, y8, y9, x10, x11, x12, x13, x14] t (0, 0)) := by rw [heap_setCell_same _ b 9 _ t y9 h4]; rfl
  have h6 : ((((((w.setCell ⟨b, 5, none⟩ y5).setCell ⟨b, 6, none⟩ y6).setCell ⟨b, 7, none⟩ y7).setCell ⟨b, 8, none⟩ y8).setCell ⟨b, 9, none⟩ y9).setCell ⟨b, 10, none⟩ y10).heap[b]? = some (.cells #[x0, x1, x2, x3, x4, y5, y6, y7, y8, y9, y10, x11, x12, x13, x14] t (0, 0)) := by rw [heap_setCell_same _ b 10 _ t y10 h5]; rfl
  exact ⟨h6, (Fr.setCell (S := fun k => k = b) (Fr.setCell (S := fun k => k = b) (Fr.setCell (S := fun k => k = b) (Fr.setCell (S := fun k => k = b) (Fr.setCell (S := fun k => k = b) (Fr.setCell (S := fun k => k = b) (Fr.refl (fun k => k = b) w) (p := ⟨b, 5, none⟩) (fun _ => rfl) _) (p := ⟨b, 6, none⟩) (fun _ => rfl) _) (p := ⟨b, 7, none⟩) (fun _ => rfl) _) (p := ⟨b, 8, none⟩) (fun _ => rfl) _) (p := ⟨b, 9, none⟩) (fun _ => rfl) _) (p := ⟨b, 10, none⟩) (fun _ => rfl) _)⟩

theorem cst15g {w : World} {b : Nat} {x0 x1 x2 x3 x4 x5 x6 x7 x8 x9 x10 x11 x12 x13 x14 y11 y12 : Value} {t : TypeId} (h : w.heap[b]? = some (.cells #[x0, x1, x2, x3, x4, x5, x6, x7, x8, x9, x10, x11, x12, x13, x14] t (0, 0))) :
    ((w.setCell ⟨b, 11, none⟩ y11).setCell ⟨b, 12, none⟩ y12).heap[b]? = some (.cells #[x0, x1, x2, x3, x4, x5, x6, x7, x8, x9, x10, y11, y12, x13, x14] t (0, 0)) ∧ Fr (fun k => k = b) w ((w.setCell ⟨b, 11, none⟩ y11).setCell ⟨b, 12, none⟩ y12) := by
  have h1 : (w.setCell ⟨b, 11, none⟩ y11).heap[b]? = some (.cells #[x0, x1, x2, x3, x4, x5, x6, x7, x8, x9, x10, y11, x12, x13, x14] t (0, 0)) := by rw [heap_setCell_same _ b 11 _ t y11 h]; rfl
  have h2 : ((w.setCell ⟨b, 11, none⟩ y11).setCell ⟨b, 12, none⟩ y12).heap[b]? = some (.cells #[x0, x1, x2, x3, x4, x5, x6, x7, x8, x9, x10, y11, y12, x13, x14] t (0, 0)) := by rw [heap_setCell_same _ b 12 _ t y12 h1]; rfl
  exact ⟨h2, (Fr.setCell (S := fun k => k = b) (Fr.setCell (S := fun k => k = b) (Fr.refl (fun k => k = b) w) (p := ⟨b, 11, none⟩) (fun _ => rfl) _) (p := ⟨b, 12, none⟩) (fun _ => rfl) _)⟩

theorem cst15r {w : World} {b : Nat} {x0 x1 x2 x3 x4 x5 x6 x7 x8 x9 x10 x11 x12 x13 x14 y13 : Value} {t : TypeId} (h : w.heap[b]? = some (.cells #[x0, x1, x2, x3, x4, x5, x6, x7, x8, x9, x10, x11, x12, x13, x14] t (0, 0))) :
    (w.setCell ⟨b, 13, none⟩ y13).heap[b]? = some (.cells #[x0, x1, x2, x3, x4, x5, x6, x7, x8, x9, x10, x11, x12, y13, x14] t (0, 0)) ∧ Fr (fun k => k = b) w (w.setCell ⟨b, 13, none⟩ y13) := by
  have h1 : (w.setCell ⟨b, 13, none⟩ y13).heap[b]? = some (.cells #[x0, x1, x2, x3, x4, x5, x6, x7, x8, x9, x10, x11, x12, y13, x14] t (0, 0)) := by rw [heap_setCell_same _ b 13 _ t y13 h]; rfl
  exact ⟨h1, (Fr.setCell (S := fun k => k = b) (Fr.refl (fun k => k = b) w) (p := ⟨b, 13, none⟩) (fun _ => rfl) _)⟩


theorem chpromised_no (b B : Nat) (ms : List Int) (ma : Option Addr) (mc : Nat) (st : ChN) (hv : Value) (n r m wr wn : Int) (y : En) (v' u' : Value) (s : Bool) (w : World) (h : ChS w b B ms ma mc st hv) (hy : ES w y v' u') (he : expB ms st 1 n r m = false) :
    Calls Try.prog 13 #[.pointer (some ⟨b, 0, none⟩), .int .i64 n, ball r m, ball wr wn, y.val v' u', .bool s] w fun e w' => e = .returned (.bool false) ∧ Fr (fun _ => False) w w' := by
  obtain ⟨hy1, hy2⟩ := hy
  obtain ⟨a1, c1, hv1, hn1⟩ := hy1.shape
  obtain ⟨a2, c2, hv2, hn2⟩ := hy2.shape
  subst hv1 hv2
  clear hn1 hn2
  have HY := Lib.hid (show ES w y (.slice a1 y.l.length c1) (.slice a2 y.m.length c2) from ⟨hy1, hy2⟩)
  clear hy1 hy2
  obtain ⟨n1, hn1⟩ : ∃ n1, n1 = y.l.length := ⟨_, rfl⟩
  obtain ⟨n2, hn2⟩ : ∃ n2, n2 = y.m.length := ⟨_, rfl⟩
  rw [← hn1, ← hn2]
  have HN := Lib.hid (And.intro hn1 hn2)
  clear hn1 hn2
  have f0 : Fr (fun _ => False) w (((w.alloc (oBa r m)).alloc (oBa wr wn)).alloc (oEn y.k y.t y.n y.p (.slice a1 n1 c1) (.slice a2 n2 c2))) := (((Fr.refl _ _).alloc _).alloc _).alloc _
  have q0 : (((w.alloc (oBa r m)).alloc (oBa wr wn)).alloc (oEn y.k y.t y.n y.p (.slice a1 n1 c1) (.slice a2 n2 c2))).heap[w.heap.size]? = some (oBa r m) := crow_kept (heap_alloc_new w _) (((Fr.refl (fun _ => False) _).alloc _).alloc _) (fun h => h)
  have q1 : (((w.alloc (oBa r m)).alloc (oBa wr wn)).alloc (oEn y.k y.t y.n y.p (.slice a1 n1 c1) (.slice a2 n2 c2))).heap[w.heap.size + 1]? = some (oBa wr wn) := crow_kept (new_two w _ _) ((Fr.refl (fun _ => False) _).alloc _) (fun h => h)
  have q2 : (((w.alloc (oBa r m)).alloc (oBa wr wn)).alloc (oEn y.k y.t y.n y.p (.slice a1 n1 c1) (.slice a2 n2 c2))).heap[w.heap.size + 1 + 1]? = some (oEn y.k y.t y.n y.p (.slice a1 n1 c1) (.slice a2 n2 c2)) := by
    have := heap_alloc_new ((w.alloc (oBa r m)).alloc (oBa wr wn)) (oEn y.k y.t y.n y.p (.slice a1 n1 c1) (.slice a2 n2 c2))
    rw [World.size_alloc, World.size_alloc] at this
    exact this
  have Q0 := Lib.hid (And.intro (h.fr0 f0) (And.intro q0 (And.intro q1 q2)))
  have F0 := Lib.hid f0
  have HE := Lib.hid he
  clear h f0 he q0 q1 q2 HY
  go_enter Try.func13, Try.ntmps13
  go_upto_region 1 with fail
  generalize ((w.alloc (oBa r m)).alloc (oBa wr wn)).alloc (oEn y.k y.t y.n y.p (.slice a1 n1 c1) (.slice a2 n2 c2)) = w0 at *
  obtain ⟨b0, b1⟩ := ba_cells Q0.out.2.1
  go_wp2_with fail
  refine (expectsS b B ms ma mc st hv 1 n r m _ Q0.out.1).mono ?_
  rintro e1 wa ⟨rfl, fa⟩
  rw [HE.out]
  have F1 := Lib.hid (F0.out.trans fa (fun _ _ h => h))
  clear fa b0 b1
  go_wp2_with fail
  go_ret
  exact ⟨rfl, F1.out⟩

/-- One of two values. -/
def pickB (c : Bool) (x y : Value) : Value := if c = true then x else y
theorem pickB_t (x y : Value) : pickB true x y = x := rfl
theorem pickB_f (x y : Value) : pickB false x y = y := rfl

/-- What is reported, in the chair's block. -/
theorem report_x (st : ChN) (wr wn : Int) (y : En) (s : Bool) : ((st.report wr wn y s).ph = st.ph ∧ (st.report wr wn y s).h = st.h) ∧ (st.report wr wn y s).br = st.br ∧ (st.report wr wn y s).bn = st.bn := by
  unfold ChN.report
  split <;> exact ⟨⟨rfl, rfl⟩, rfl, rfl⟩

/-- The region that notes a report: what has been done. -/
def RpS (b : Nat) (mv : Value) (st : ChN) (v u hv : Value) (wr wn : Int) (y : En) (v' u' : Value) (w4 : World) : List Value → World → Prop
  | [], wx => Fr (fun k => k = b) w4 wx ∧ wx.heap[b]? = some (st.obj mv v u hv)
  | [_], wx => Fr (fun k => k = b) w4 wx ∧ wx.heap[b]? = some (ChN.obj { st with x := y } mv v' u' hv)
  | [_, _], wx => Fr (fun k => k = b) w4 wx ∧ wx.heap[b]? = some (ChN.obj { st with x := y, gr := wr, gn := wn } mv v' u' hv)
  | [_, _, _], wx => Fr (fun k => k = b) w4 wx ∧ wx.heap[b]? = some (ChN.obj { st with x := y, gr := wr, gn := wn, rep := true } mv v' u' hv)
  | _, _ => False
theorem RpS.fr {b : Nat} {mv : Value} {st : ChN} {v u hv : Value} {wr wn : Int} {y : En} {v' u' : Value} {w4 wx : World} : ∀ {c : List Value}, RpS b mv st v u hv wr wn y v' u' w4 c wx → Fr (fun k => k = b) w4 wx
  | [], h => h.1
  | [_], h => h.1
  | [_, _], h => h.1
  | [_, _, _], h => h.1
  | _ :: _ :: _ :: _ :: _, h => h.elim

theorem chpromised_yes (b B : Nat) (ms : List Int) (ma : Option Addr) (mc : Nat) (st : ChN) (hv : Value) (n r m wr wn : Int) (y : En) (v' u' : Value) (s : Bool) (w : World) (h : ChS w b B ms ma mc st hv) (hy : ES w y v' u') (ha : AwayS (ChF b hv) y v' u') (hsm : EnSmall y) (he : expB ms st 1 n r m = true) :
    Calls Try.prog 13 #[.pointer (some ⟨b, 0, none⟩), .int .i64 n, ball r m, ball wr wn, y.val v' u', .bool s] w fun e w' =>
      e = .returned (.bool ((st.report wr wn y s).enough ms n)) ∧ Fr (ChF b hv) w w' ∧ ∃ hv', ChS w' b B ms ma mc ((st.report wr wn y s).hear ms n) hv' ∧ NewH w hv hv' ∧ ∀ v u, w.heap[b]? = some (st.obj (.slice ma ms.length mc) v u hv) → w'.heap[b]? = some (((st.report wr wn y s).hear ms n).obj (.slice ma ms.length mc) (pickB (s && (!st.rep || blt st.gr st.gn wr wn)) v' v) (pickB (s && (!st.rep || blt st.gr st.gn wr wn)) u' u) hv') := by
  obtain ⟨hy1, hy2⟩ := hy
  obtain ⟨a1, c1, hv1, hn1⟩ := hy1.shape
  obtain ⟨a2, c2, hv2, hn2⟩ := hy2.shape
  subst hv1 hv2
  clear hn1 hn2
  have HY := Lib.hid (show ES w y (.slice a1 y.l.length c1) (.slice a2 y.m.length c2) from ⟨hy1, hy2⟩)
  clear hy1 hy2
  obtain ⟨n1, hn1⟩ : ∃ n1, n1 = y.l.length := ⟨_, rfl⟩
  obtain ⟨n2, hn2⟩ : ∃ n2, n2 = y.m.length := ⟨_, rfl⟩
  rw [← hn1, ← hn2]
  have HN := Lib.hid (And.intro hn1 hn2)
  clear hn1 hn2
  have f0 : Fr (fun _ => False) w (((w.alloc (oBa r m)).alloc (oBa wr wn)).alloc (oEn y.k y.t y.n y.p (.slice a1 n1 c1) (.slice a2 n2 c2))) := (((Fr.refl _ _).alloc _).alloc _).alloc _
  have q0 : (((w.alloc (oBa r m)).alloc (oBa wr wn)).alloc (oEn y.k y.t y.n y.p (.slice a1 n1 c1) (.slice a2 n2 c2))).heap[w.heap.size]? = some (oBa r m) := crow_kept (heap_alloc_new w _) (((Fr.refl (fun _ => False) _).alloc _).alloc _) (fun h => h)
  have q1 : (((w.alloc (oBa r m)).alloc (oBa wr wn)).alloc (oEn y.k y.t y.n y.p (.slice a1 n1 c1) (.slice a2 n2 c2))).heap[w.heap.size + 1]? = some (oBa wr wn) := crow_kept (new_two w _ _) ((Fr.refl (fun _ => False) _).alloc _) (fun h => h)
  have q2 : (((w.alloc (oBa r m)).alloc (oBa wr wn)).alloc (oEn y.k y.t y.n y.p (.slice a1 n1 c1) (.slice a2 n2 c2))).heap[w.heap.size + 1 + 1]? = some (oEn y.k y.t y.n y.p (.slice a1 n1 c1) (.slice a2 n2 c2)) := by
    have := heap_alloc_new ((w.alloc (oBa r m)).alloc (oBa wr wn)) (oEn y.k y.t y.n y.p (.slice a1 n1 c1) (.slice a2 n2 c2))
    rw [World.size_alloc, World.size_alloc] at this
    exact this
  have Q0 := Lib.hid (And.intro (h.fr0 f0) (And.intro q0 (And.intro q1 q2)))
  have F0 := Lib.hid f0
  have HE := Lib.hid he
  have HX := Lib.hid (expB_ph he)
  have HA := Lib.hid ha
  have HSM := Lib.hid hsm
  have HLT := Lib.hid h.lt
  have HY0 := Lib.hid (HY.out.fr f0)
  clear h f0 he q0 q1 q2 HY ha hsm
  go_enter Try.func13, Try.ntmps13
  go_upto_region 1 with fail
  generalize ((w.alloc (oBa r m)).alloc (oBa wr wn)).alloc (oEn y.k y.t y.n y.p (.slice a1 n1 c1) (.slice a2 n2 c2)) = w0 at *
  obtain ⟨b0, b1⟩ := ba_cells Q0.out.2.1
  go_wp2_with fail
  refine (expectsS b B ms ma mc st hv 1 n r m _ Q0.out.1).mono ?_
  rintro e1 w1 ⟨rfl, fa⟩
  rw [HE.out]
  have F1 := Lib.hid (F0.out.trans fa (fun _ _ h => h))
  have Q1 := Lib.hid (And.intro (Q0.out.1.fr0 fa) (And.intro (crow_kept Q0.out.2.1 fa (fun h => h)) (And.intro (crow_kept Q0.out.2.2.1 fa (fun h => h)) (crow_kept Q0.out.2.2.2 fa (fun h => h)))))
  have HY1 := Lib.hid (HY0.out.fr fa)
  clear fa b0 b1 Q0 F0 HY0 HE
  obtain ⟨v, u, hrow, hes, haw⟩ := Q1.out.1.row
  have R1 := Lib.hid (And.intro hrow (And.intro hes haw))
  clear hrow hes haw
  obtain ⟨C, hC⟩ : ∃ C, C = (s && (!st.rep || blt st.gr st.gn wr wn)) := ⟨_, rfl⟩
  have HC := Lib.hid hC
  clear hC
  generalize hg0 : w.heap.size = g0 at *
  generalize hg1 : g0 + 1 = g1 at *
  generalize hg2 : g1 + 1 = g2 at *
  have HG := Lib.hid (show g0 < w1.heap.size ∧ g1 < w1.heap.size ∧ g2 < w1.heap.size ∧ b < g0 ∧ g0 < g1 ∧ g1 < g2 from ⟨lt_of Q1.out.2.1, lt_of Q1.out.2.2.1, lt_of Q1.out.2.2.2, by have := HLT.out; omega, by omega, by omega⟩)
  go_upto_region 3 with fail
  go_cut [33] from 18 to 33 (fun c wx => c = .bool C ∧ Fr (fun _ => False) w1 wx)
  case first =>
    generalize hrep : st.rep = rep at *
    generalize hL : blt st.gr st.gn wr wn = L at *
    have HL2 := Lib.hid hL
    clear hL
    cases s with
    | false =>
      refine wp_region_told (by kernel_rfl) (fun a b => Fr (fun _ => False) a b) (fun w => Fr.refl _ w) (fun _ _ _ h k => h.trans k (fun _ _ h => h)) [18, 19, 20, 21, 22, 23, 24, 25, 26, 27, 28, 29, 30, 31, 32, 33] rfl (by decide) (by intro d hd; simp at hd ⊢; omega)
        (fun i v _ => v = ([.bool false, .bool false, undef, undef, undef, undef, undef, undef, undef, undef, undef, undef, undef, undef, undef, .bool false] : List Value).getD i undef)
        (fun _ _ _ _ _ h => h) (by kernel_rfl) ?stepca ?finca
      case stepca =>
        intro vals
        simp only [frOf, fill, List.setIfInBounds_toArray, List.set_cons_succ, List.set_cons_zero]
        repeat' (first | exact AllOps.nil | refine AllOps.cons ?_ ?_)
        all_goals
          intro wx hle he K' hK
          simp only [Act.put, List.setIfInBounds_toArray, List.set_cons_succ, List.set_cons_zero, List.getD_cons_zero, List.getD_cons_succ] at hK
          simp only [List.mem_cons, List.not_mem_nil, or_false, forall_eq_or_imp, forall_eq, Region.binds, forall_const, false_imp_iff, List.getD_cons_zero, List.getD_cons_succ] at he
          try simp only [he] at hK ⊢
          have hl5 := Fr.trans (Fr.drew (Fr.refl (fun _ => False) w1)) hle (fun _ _ h => h)
          have hl8 := Lib.hid hl5
          have HL := Lib.hid hl5
          obtain ⟨c0, c1, c2, c3, c4, c5, c6, c7, c8, c9, c10, c11, c12, c13, c14⟩ := ch_cells (crow_kept R1.out.1 hl5 (fun h => h))
          obtain ⟨b0, b1⟩ := ba_cells (crow_kept Q1.out.2.2.1 hl5 (fun h => h))
          clear c0 c1 c2 c3 c4 c5 c6 c7 c8 c9 c10 c14
          clear hl5 hle he
          try go_simp
        all_goals first
          | exact hK _ _ (Fr.refl _ _) rfl
          | skip
      case finca =>
        intro vals w' hle hV
        have h9 : vals 15 = .bool false := hV 15 (by decide)
        clear hV
        have hfin := Fr.trans (Fr.drew (Fr.refl (fun _ => False) w1)) hle (fun _ _ h => h)
        clear hle
        simp only [frOf, fill, List.setIfInBounds_toArray, List.set_cons_succ, List.set_cons_zero, Nat.reduceAdd]
        go_wp2_with fail
        go_meet
        exact ⟨by rw [h9, HC.out]; rfl, hfin⟩

    | true =>
      cases rep with
      | false =>
        refine wp_region_told (by kernel_rfl) (fun a b => Fr (fun _ => False) a b) (fun w => Fr.refl _ w) (fun _ _ _ h k => h.trans k (fun _ _ h => h)) [18, 19, 20, 21, 22, 23, 24, 25, 26, 27, 28, 29, 30, 31, 32, 33] rfl (by decide) (by intro d hd; simp at hd ⊢; omega)
          (fun i v _ => v = ([.bool true, .bool true, .pointer (some ⟨b, 0, none⟩), .pointer (some ⟨b, 0, none⟩), .pointer (some ⟨b, 13, none⟩), .bool false, .bool true, .bool true, undef, undef, undef, undef, undef, undef, .bool true, .bool true] : List Value).getD i undef)
          (fun _ _ _ _ _ h => h) (by kernel_rfl) ?stepcb ?fincb
        case stepcb =>
          intro vals
          simp only [frOf, fill, List.setIfInBounds_toArray, List.set_cons_succ, List.set_cons_zero]
          repeat' (first | exact AllOps.nil | refine AllOps.cons ?_ ?_)
          all_goals
            intro wx hle he K' hK
            simp only [Act.put, List.setIfInBounds_toArray, List.set_cons_succ, List.set_cons_zero, List.getD_cons_zero, List.getD_cons_succ] at hK
            simp only [List.mem_cons, List.not_mem_nil, or_false, forall_eq_or_imp, forall_eq, Region.binds, forall_const, false_imp_iff, List.getD_cons_zero, List.getD_cons_succ] at he
            try simp only [he] at hK ⊢
            have hl5 := Fr.trans (Fr.drew (Fr.refl (fun _ => False) w1)) hle (fun _ _ h => h)
            have hl8 := Lib.hid hl5
            have HL := Lib.hid hl5
            obtain ⟨c0, c1, c2, c3, c4, c5, c6, c7, c8, c9, c10, c11, c12, c13, c14⟩ := ch_cells (crow_kept R1.out.1 hl5 (fun h => h))
            obtain ⟨b0, b1⟩ := ba_cells (crow_kept Q1.out.2.2.1 hl5 (fun h => h))
            clear c0 c1 c2 c3 c4 c5 c6 c7 c8 c9 c10 c14
            clear hl5 hle he
            try go_simp
          all_goals first
            | exact hK _ _ (Fr.refl _ _) rfl
            | skip
        case fincb =>
          intro vals w' hle hV
          have h9 : vals 15 = .bool true := hV 15 (by decide)
          clear hV
          have hfin := Fr.trans (Fr.drew (Fr.refl (fun _ => False) w1)) hle (fun _ _ h => h)
          clear hle
          simp only [frOf, fill, List.setIfInBounds_toArray, List.set_cons_succ, List.set_cons_zero, Nat.reduceAdd]
          go_wp2_with fail
          go_meet
          exact ⟨by rw [h9, HC.out]; rfl, hfin⟩

      | true =>
        refine wp_region_told (by kernel_rfl) (fun a b => Fr (fun _ => False) a b) (fun w => Fr.refl _ w) (fun _ _ _ h k => h.trans k (fun _ _ h => h)) [18, 19, 20, 21, 22, 23, 24, 25, 26, 27, 28, 29, 30, 31, 32, 33] rfl (by decide) (by intro d hd; simp at hd ⊢; omega)
          (fun i v _ => v = ([.bool true, .bool true, .pointer (some ⟨b, 0, none⟩), .pointer (some ⟨b, 0, none⟩), .pointer (some ⟨b, 13, none⟩), .bool true, .bool false, .bool false, .pointer (some ⟨b, 0, none⟩), .pointer (some ⟨b, 0, none⟩), .pointer (some ⟨b, 11, none⟩), ball st.gr st.gn, ball wr wn, .bool L, .bool L, .bool L] : List Value).getD i undef)
          (fun _ _ _ _ _ h => h) (by kernel_rfl) ?stepcc ?fincc
        case stepcc =>
          intro vals
          simp only [frOf, fill, List.setIfInBounds_toArray, List.set_cons_succ, List.set_cons_zero]
          repeat' (first | exact AllOps.nil | refine AllOps.cons ?_ ?_)
          all_goals
            intro wx hle he K' hK
            simp only [Act.put, List.setIfInBounds_toArray, List.set_cons_succ, List.set_cons_zero, List.getD_cons_zero, List.getD_cons_succ] at hK
            simp only [List.mem_cons, List.not_mem_nil, or_false, forall_eq_or_imp, forall_eq, Region.binds, forall_const, false_imp_iff, List.getD_cons_zero, List.getD_cons_succ] at he
            try simp only [he] at hK ⊢
            have hl5 := Fr.trans (Fr.drew (Fr.refl (fun _ => False) w1)) hle (fun _ _ h => h)
            have hl8 := Lib.hid hl5
            have HL := Lib.hid hl5
            obtain ⟨c0, c1, c2, c3, c4, c5, c6, c7, c8, c9, c10, c11, c12, c13, c14⟩ := ch_cells (crow_kept R1.out.1 hl5 (fun h => h))
            obtain ⟨b0, b1⟩ := ba_cells (crow_kept Q1.out.2.2.1 hl5 (fun h => h))
            clear c0 c1 c2 c3 c4 c5 c6 c7 c8 c9 c10 c14
            clear hl5 hle he
            try go_simp
          all_goals first
            | exact hK _ _ (Fr.refl _ _) rfl
            | skip
          · go_at_call 8; refine (less_any st.gr st.gn wr wn _).mono ?_; rintro e1 wa ⟨rfl, fa⟩; rw [HL2.out]; exact hK _ _ fa rfl
        case fincc =>
          intro vals w' hle hV
          have h9 : vals 15 = .bool L := hV 15 (by decide)
          clear hV
          have hfin := Fr.trans (Fr.drew (Fr.refl (fun _ => False) w1)) hle (fun _ _ h => h)
          clear hle
          simp only [frOf, fill, List.setIfInBounds_toArray, List.set_cons_succ, List.set_cons_zero, Nat.reduceAdd]
          go_wp2_with fail
          go_meet
          exact ⟨by rw [h9, HC.out]; rfl, hfin⟩

  case rest =>
    obtain ⟨rfl, hwx⟩ := hcut
    have hsz := hwx.size
    have Q2 := Lib.hid (And.intro (Q1.out.1.fr0 hwx) (And.intro (crow_kept Q1.out.2.1 hwx (fun h => h)) (And.intro (crow_kept Q1.out.2.2.1 hwx (fun h => h)) (crow_kept Q1.out.2.2.2 hwx (fun h => h)))))
    have R2 := Lib.hid (And.intro (crow_kept R1.out.1 hwx (fun h => h)) (And.intro (R1.out.2.1.fr hwx) R1.out.2.2))
    have F2 := Lib.hid (F1.out.trans hwx (fun _ _ h => h))
    have HY2 := Lib.hid (HY1.out.fr hwx)
    clear hwx Q1 F1 HY1 R1
    subst hg0
    cases C with
    | false =>
      have HREP : Hid (st.report wr wn y s = st) := Lib.hid (by unfold ChN.report; rw [if_neg (by rw [← HC.out]; decide)])
      have F3 := Lib.hid (F2.out.mono (T := ChF b hv) (fun _ _ h => h.elim))
      have HS3 := Lib.hid Q2.out.1
      go_wp2_with fail
      refine (chhearS b B ms ma mc st hv n _ HS3.out HX.out.2.2.1 HX.out.2.2.2 (by have := HX.out.1; omega)).mono ?_
      rintro e3 w6 ⟨rfl, f6, hv2, g1, g2⟩
      have H6 := Lib.hid (And.intro f6 (And.intro g1 g2))
      clear f6 g1 g2
      go_wp2_with fail
      go_ret
      rw [HREP.out]
      exact ⟨rfl, (F3.out.trans H6.out.1 (fun k hk h => h)), hv2, H6.out.2.1, fun k hk => (H6.out.2.2.1 k hk).imp id (fun h => Nat.le_trans F3.out.size h), fun v1 u1 h' => by rw [← HC.out, pickB_f, pickB_f]; exact H6.out.2.2.2 v1 u1 (crow_kept h' F2.out (fun h => h))⟩

    | true =>
      have HREP : Hid (st.report wr wn y s = { st with x := y, gr := wr, gn := wn, rep := true }) := Lib.hid (by unfold ChN.report; rw [if_pos (by rw [← HC.out])])
      go_upto_region 4 with fail
      refine wp_region_chain (by kernel_rfl) [some 34, some 35, some 36, some 37, some 38, some 39, some 40, none, some 41, some 42, none, some 43, some 44, none] rfl (by decide) (by intro d hd; simp at hd ⊢; omega)
        [7, 10, 13] (fun cvs wx => RpS b (.slice ma ms.length mc) st v u hv wr wn y (.slice a1 n1 c1) (.slice a2 n2 c2) wc cvs wx)
        [.free (.pointer (some ⟨b, 0, none⟩)), .free (.pointer (some ⟨b, 0, none⟩)), .free (.pointer (some ⟨b, 0, none⟩)), .free (ev y.k y.t y.n y.p (.slice a1 n1 c1) (.slice a2 n2 c2)), .free (ball wr wn), .free (.pointer (some ⟨b, 0, none⟩)), .free (.pointer (some ⟨b, 5, none⟩)), .link none, .free (.pointer (some ⟨b, 0, none⟩)), .free (.pointer (some ⟨b, 11, none⟩)), .link none, .free (.pointer (some ⟨b, 0, none⟩)), .free (.pointer (some ⟨b, 13, none⟩)), .link none]
        (by kernel_rfl) (by kernel_rfl) ?hr ?stepr ?finr
      case hr => exact ⟨(Fr.refl _ _).drew, R2.out.1⟩
      case stepr =>
        intro vals
        simp only [frOfU, fillU, List.setIfInBounds_toArray, List.set_cons_succ, List.set_cons_zero]
        repeat' (first | exact AllOps.nil | refine AllOps.cons ?_ ?_)
        all_goals
          intro cvs wx hS he hu hlim Kc hK
          simp only [Act.put, List.setIfInBounds_toArray, List.set_cons_succ, List.set_cons_zero, List.getD_cons_zero, List.getD_cons_succ] at hK
          simp only [List.mem_cons, List.not_mem_nil, or_false, forall_eq_or_imp, forall_eq, Region.binds, forall_const, qmode_gc, Bool.false_eq_true, false_imp_iff, List.getD_cons_zero, List.getD_cons_succ, OpSort.val, Option.some.injEq, forall_eq', reduceCtorEq, implies_true, true_and, and_true] at he
          have hl5 := RpS.fr hS
          obtain ⟨b0, b1⟩ := ba_cells (crow_kept Q2.out.2.2.1 hl5 (by have := HG.out; omega))
          obtain ⟨d00, d01, d02, d03, d04, d05⟩ := en_cells (crow_kept Q2.out.2.2.2 hl5 (by have := HG.out; omega))
          clear hl5
          have HSX := Lib.hid hS
          clear hS
        all_goals first | (clear hlim hu; (try simp only [he] at hK ⊢); go_simp; exact hK) | skip
        · obtain rfl := hlim (0 : Nat) rfl
          obtain ⟨h1, h2⟩ : RpS b (.slice ma ms.length mc) st v u hv wr wn y (.slice a1 n1 c1) (.slice a2 n2 c2) wc [] wx := HSX.out
          obtain ⟨e0, e1, e2, e3, e4, e5, e6, e7, e8, e9, e10, e11, e12, e13, e14⟩ := ch_cells h2
          obtain ⟨z0, z1, z2, z3, z4, z5, z6, z7, z8, z9, z10, z11, z12, z13, z14⟩ := vfree15 h2
          obtain ⟨g1', g2'⟩ := cst15e (y5 := .int .u8 y.k) (y6 := .int .u16 y.t) (y7 := .int .u16 y.n) (y8 := .int .i64 y.p) (y9 := .slice a1 n1 c1) (y10 := .slice a2 n2 c2) h2
          have R := Lib.hid (show RpS b (.slice ma ms.length mc) st v u hv wr wn y (.slice a1 n1 c1) (.slice a2 n2 c2) wc [undef] _ from ⟨h1.trans g2' (fun _ _ h => h), g1'⟩)
          clear hlim hu HSX h1 h2 g1' g2' e0 e1 e2 e3 e4 e11 e12 e13 e14 z0 z1 z2 z3 z4 z11 z12 z13 z14
          simp only [he] at hK ⊢
          clear he
          go_simp
          exact hK undef _ (fun _ h => by cases h) R.out
        · obtain rfl := hlim (1 : Nat) rfl
          obtain ⟨h1, h2⟩ : RpS b (.slice ma ms.length mc) st v u hv wr wn y (.slice a1 n1 c1) (.slice a2 n2 c2) wc [vals 7] wx := HSX.out
          obtain ⟨e0, e1, e2, e3, e4, e5, e6, e7, e8, e9, e10, e11, e12, e13, e14⟩ := ch_cells h2
          obtain ⟨z0, z1, z2, z3, z4, z5, z6, z7, z8, z9, z10, z11, z12, z13, z14⟩ := vfree15 h2
          obtain ⟨g1', g2'⟩ := cst15g (y11 := .int .i64 wr) (y12 := .int .i64 wn) h2
          have R := Lib.hid (show RpS b (.slice ma ms.length mc) st v u hv wr wn y (.slice a1 n1 c1) (.slice a2 n2 c2) wc [vals 7, undef] _ from ⟨h1.trans g2' (fun _ _ h => h), g1'⟩)
          clear hlim hu HSX h1 h2 g1' g2' e0 e1 e2 e3 e4 e5 e6 e7 e8 e9 e10 e13 e14 z0 z1 z2 z3 z4 z5 z6 z7 z8 z9 z10 z13 z14
          simp only [he] at hK ⊢
          clear he
          go_simp
          exact hK undef _ (fun _ h => by cases h) R.out
        · obtain rfl := hlim (2 : Nat) rfl
          obtain ⟨h1, h2⟩ : RpS b (.slice ma ms.length mc) st v u hv wr wn y (.slice a1 n1 c1) (.slice a2 n2 c2) wc [vals 7, vals 10] wx := HSX.out
          obtain ⟨e0, e1, e2, e3, e4, e5, e6, e7, e8, e9, e10, e11, e12, e13, e14⟩ := ch_cells h2
          obtain ⟨z0, z1, z2, z3, z4, z5, z6, z7, z8, z9, z10, z11, z12, z13, z14⟩ := vfree15 h2
          obtain ⟨g1', g2'⟩ := cst15r (y13 := .bool true) h2
          have R := Lib.hid (show RpS b (.slice ma ms.length mc) st v u hv wr wn y (.slice a1 n1 c1) (.slice a2 n2 c2) wc [vals 7, vals 10, undef] _ from ⟨h1.trans g2' (fun _ _ h => h), g1'⟩)
          clear hlim hu HSX h1 h2 g1' g2' e0 e1 e2 e3 e4 e5 e6 e7 e8 e9 e10 e11 e12 e14 z0 z1 z2 z3 z4 z5 z6 z7 z8 z9 z10 z11 z12 z14
          simp only [he] at hK ⊢
          clear he
          go_simp
          exact hK undef _ (fun _ h => by cases h) R.out
      case finr =>
        intro vals w5 hS hV
        have v0 := hV 0 _ (by decide) rfl
        have v1 := hV 1 _ (by decide) rfl
        have v2 := hV 2 _ (by decide) rfl
        have v3 := hV 3 _ (by decide) rfl
        have v4 := hV 4 _ (by decide) rfl
        have v5 := hV 5 _ (by decide) rfl
        have v6 := hV 6 _ (by decide) rfl
        have v8 := hV 8 _ (by decide) rfl
        have v9 := hV 9 _ (by decide) rfl
        have v11 := hV 11 _ (by decide) rfl
        have v12 := hV 12 _ (by decide) rfl
        clear hV
        simp only [frOfU, fillU, List.setIfInBounds_toArray, List.set_cons_succ, List.set_cons_zero]
        simp only [Nat.reduceAdd, v0, v1, v2, v3, v4, v5, v6, v8, v9, v11, v12]
        clear v0 v1 v2 v3 v4 v5 v6 v8 v9 v11 v12
        obtain ⟨h1, h2⟩ : RpS b (.slice ma ms.length mc) st v u hv wr wn y (.slice a1 n1 c1) (.slice a2 n2 c2) wc [vals 7, vals 10, vals 13] w5 := hS
        have F3 := Lib.hid ((F2.out.mono (T := ChF b hv) (fun _ _ h => h.elim)).trans h1 (fun _ _ h => .inl h))
        have hES : ES w5 y (.slice a1 n1 c1) (.slice a2 n2 c2) := by rw [HN.out.1, HN.out.2]; exact HY2.out.keepS (HA.out.mono (fun _ h => .inl h)) h1
        have hAW : AwayS (ChF b hv) y (.slice a1 n1 c1) (.slice a2 n2 c2) := by rw [HN.out.1, HN.out.2]; exact HA.out
        have HS3 : Hid (ChS w5 b B ms ma mc { st with x := y, gr := wr, gn := wn, rep := true } hv) := Lib.hid ⟨⟨_, _, h2, hES, hAW⟩, HSM.out, oi_fr Q2.out.1.own h1 (fun k hk e => oi_ne Q2.out.1.own R2.out.1 (by decide) (by rw [hk, e])), Nat.le_trans Q2.out.1.base h1.size, Q2.out.1.ph0, Q2.out.1.ph1, Q2.out.1.nd, Q2.out.1.sub, Q2.out.1.view.keep h1 (.inr (fun k hk e => (Q2.out.1.vb k hk).2 e)), Q2.out.1.vb, Q2.out.1.few⟩
        have HR2 := Lib.hid h2
        clear h1 h2 hES hAW
        go_wp2_with fail
        refine (chhearS b B ms ma mc { st with x := y, gr := wr, gn := wn, rep := true } hv n _ HS3.out HX.out.2.2.1 HX.out.2.2.2 (by have := HX.out.1; show st.ph ≤ 2; omega)).mono ?_
        rintro e3 w6 ⟨rfl, f6, hv2, g1, g2⟩
        have H6 := Lib.hid (And.intro f6 (And.intro g1 g2))
        clear f6 g1 g2
        go_wp2_with fail
        go_ret
        rw [HREP.out]
        exact ⟨rfl, (F3.out.trans H6.out.1 (fun k hk h => h)), hv2, H6.out.2.1, fun k hk => (H6.out.2.2.1 k hk).imp id (fun h => Nat.le_trans F3.out.size h), fun v1 u1 h' => by rw [← HC.out, pickB_t, pickB_t]; exact H6.out.2.2.2 _ _ HR2.out⟩
end
section
set_option maxRecDepth 100000

theorem chres_ct {P : Program} {fn : Func} {p u : Tmp} {ty : TypeId} (h : fn.results = #[.cell p ty, .tmp u]) (tmps : Array Value) (w : World) (g : Nat) (t : TypeId) (cs : Array Value) (fr : Nat × Nat) (d : TypeDesc)
    (hp : tmps.getD p undef = .pointer (some ⟨g, 0, none⟩)) (hg : w.heap[g]? = some (.cells cs t fr))
    (hu : P.underlying ty = some d) (hd : (match d with | .struct _ | .array _ _ => true | _ => false) = true) (hi : (P.info? ty).map (·.size) = some cs.size) :
    (results fn tmps).run P w = .ok (.tuple #[.agg cs, tmps.getD u undef]) w := by
  have hp' : tmps[p]?.getD undef = .pointer (some ⟨g, 0, none⟩) := by simpa using hp
  have h1 := run_loadVar_row w g t ty cs fr d hg hu hd hi
  simp [results, h, hp', asAddr, h1, Result.andThen]

theorem chapart_any (x : En) (v u : Value) (w : World) (h : ES w x v u) (hl : x.l.length ≤ 4000) (hm : x.m.length ≤ 1000) :
    Calls Try.prog 23 #[x.val v u] w fun e w' => ∃ v' u', e = .returned (x.val v' u') ∧ ES w' x v' u' ∧ Fr (fun _ => False) w w' ∧ (∀ k, v'.ownBlock = some k → w.heap.size ≤ k) ∧ (∀ k, u'.ownBlock = some k → w.heap.size ≤ k) := by
  obtain ⟨h1, g1⟩ := h
  obtain ⟨b, d, hu, k1⟩ := g1.shape
  subst hu
  have H1 := Lib.hid h1
  have G1 := Lib.hid k1
  have HL := Lib.hid hl
  have HM := Lib.hid hm
  clear h1 g1 k1 hl hm
  have q0 := heap_alloc_new w (x.obj v (.slice b x.m.length d))
  have f0 : Fr (fun _ => False) w (w.alloc (x.obj v (.slice b x.m.length d))) := (Fr.refl _ _).alloc _
  have hz : (w.alloc (x.obj v (.slice b x.m.length d))).heap.size = w.heap.size + 1 := by simp
  have q1 := heap_alloc_new (w.alloc (x.obj v (.slice b x.m.length d))) (oEn 0 0 0 0 nilS nilS)
  have f1 : Fr (fun _ => False) (w.alloc (x.obj v (.slice b x.m.length d))) ((w.alloc (x.obj v (.slice b x.m.length d))).alloc (oEn 0 0 0 0 nilS nilS)) := (Fr.refl _ _).alloc _
  rw [hz] at q1
  have Q := Lib.hid (And.intro (crow_kept q0 f1 (fun h => h)) q1)
  have F := Lib.hid (f0.trans f1 (fun _ _ h => h))
  clear q0 q1 f0 f1 hz
  go_enter Try.func23, Try.ntmps23
  go_upto_region 1 with fail
  generalize (w.alloc (x.obj v (.slice b x.m.length d))).alloc (oEn 0 0 0 0 nilS nilS) = w0 at *
  obtain ⟨c00, c01, c02, c03, c04, c05⟩ := en_cells Q.out.1
  have hlt : w.heap.size + 1 < w0.heap.size := (Array.getElem?_eq_some_iff.1 Q.out.2).1
  go_wp2_with fail
  refine (clone_any v x.l w0 (H1.out.fr F.out (fun _ _ h => h)) (by have := HL.out; omega)).mono ?_
  rintro e w1 ⟨v', rfl, ho, f1, hge⟩
  have Q1 := Lib.hid (And.intro (crow_kept Q.out.1 f1 (fun h => h)) (crow_kept Q.out.2 f1 (fun h => h)))
  have F1 := Lib.hid (F.out.trans f1 (fun _ _ h => h))
  have HO := Lib.hid ho.sees
  have HG := Lib.hid hge
  have hs1 := f1.size
  clear f1 ho hge c00 c01 c02 c03 c04 c05
  obtain ⟨a', c', hv', hnn⟩ := HO.out.shape
  subst hv'
  clear hnn
  obtain ⟨c00, c01, c02, c03, c04, c05⟩ := en_cells Q1.out.1
  obtain ⟨z00, z01, z02, z03, z04, z05⟩ := vfree6 Q1.out.1
  go_upto_region 2 with fail
  have q2 : (w1.setCell ⟨w.heap.size, 4, none⟩ (.slice a' x.l.length c')).heap[w.heap.size]? = some (x.obj (.slice a' x.l.length c') (.slice b x.m.length d)) := by
    rw [heap_setCell_same w1 w.heap.size 4 _ _ _ Q1.out.1]; rfl
  have f2 : Fr (fun k => k = w.heap.size) w1 (w1.setCell ⟨w.heap.size, 4, none⟩ (.slice a' x.l.length c')) := (Fr.refl (fun k => k = w.heap.size) w1).setCell (p := ⟨w.heap.size, 4, none⟩) (fun _ => rfl) _
  generalize w1.setCell ⟨w.heap.size, 4, none⟩ (.slice a' x.l.length c') = w2 at *
  have Q2 := Lib.hid (And.intro q2 (crow_kept Q1.out.2 f2 (by omega)))
  have F2 := Lib.hid (F1.out.trans f2 (fun k hk e => by omega))
  have HO2 := Lib.hid (HO.out.keep f2 (.inr fun k hk e => by have := HG.out k hk; omega))
  have hs2 := f2.size
  clear q2 f2 Q1 c00 c01 c02 c03 c04 c05 z00 z01 z02 z03 z04 z05 F1 HO
  obtain ⟨c00, c01, c02, c03, c04, c05⟩ := en_cells Q2.out.1
  go_wp2_with fail
  refine (lclone_any x.m b d w2 (G1.out.fr F2.out) HM.out).mono ?_
  rintro e w3 ⟨u', rfl, ho, f3⟩
  obtain ⟨b', d', hu'⟩ := slice_of_own ho
  subst hu'
  have Q3 := Lib.hid (And.intro (crow_kept Q2.out.1 f3 (fun h => h)) (crow_kept Q2.out.2 f3 (fun h => h)))
  have F3 := Lib.hid (F2.out.trans f3 (fun _ _ h => h))
  have HO3 := Lib.hid (HO2.out.fr f3 (fun _ _ h => h))
  have HU := Lib.hid ho
  have hs3 := f3.size
  clear f3 ho Q2 F2 HO2 c00 c01 c02 c03 c04 c05
  obtain ⟨c00, c01, c02, c03, c04, c05⟩ := en_cells Q3.out.1
  obtain ⟨z00, z01, z02, z03, z04, z05⟩ := vfree6 Q3.out.1
  go_upto_region 3 with fail
  have q4 : (w3.setCell ⟨w.heap.size, 5, none⟩ (.slice b' x.m.length d')).heap[w.heap.size]? = some (x.obj (.slice a' x.l.length c') (.slice b' x.m.length d')) := by
    rw [heap_setCell_same w3 w.heap.size 5 _ _ _ Q3.out.1]; rfl
  have f4 : Fr (fun k => k = w.heap.size) w3 (w3.setCell ⟨w.heap.size, 5, none⟩ (.slice b' x.m.length d')) := (Fr.refl (fun k => k = w.heap.size) w3).setCell (p := ⟨w.heap.size, 5, none⟩) (fun _ => rfl) _
  generalize w3.setCell ⟨w.heap.size, 5, none⟩ (.slice b' x.m.length d') = w4 at *
  have Q4 := Lib.hid (And.intro q4 (crow_kept Q3.out.2 f4 (by omega)))
  have F4 := Lib.hid (F3.out.trans f4 (fun k hk e => by omega))
  have HO4 := Lib.hid (HO3.out.keep f4 (.inr fun k hk e => by have := HG.out k hk; omega))
  have HU4 := Lib.hid (HU.out.si.keep f4 (.inr fun k hk e => by have := oi_le HU.out k hk; omega))
  have hs4 := f4.size
  clear q4 f4 Q3 c00 c01 c02 c03 c04 c05 z00 z01 z02 z03 z04 z05 F3 HO3
  obtain ⟨c00, c01, c02, c03, c04, c05⟩ := en_cells Q4.out.1
  obtain ⟨z00, z01, z02, z03, z04, z05⟩ := vfree6 Q4.out.2
  obtain ⟨d00, d01, d02, d03, d04, d05⟩ := en_cells Q4.out.2
  go_wp2_with fail
  have hq := cst6 (y0 := .int .u8 x.k) (y1 := .int .u16 x.t) (y2 := .int .u16 x.n) (y3 := .int .i64 x.p) (y4 := .slice a' x.l.length c') (y5 := .slice b' x.m.length d') Q4.out.2
  have hf := cfr6 (.int .u8 x.k) (.int .u16 x.t) (.int .u16 x.n) (.int .i64 x.p) (.slice a' x.l.length c') (.slice b' x.m.length d') (b := w.heap.size + 1) F4.out (fun h => absurd h (by omega))
  have hf1 := cfr6 (.int .u8 x.k) (.int .u16 x.t) (.int .u16 x.n) (.int .i64 x.p) (.slice a' x.l.length c') (.slice b' x.m.length d') (b := w.heap.size + 1) (S := fun k => k = w.heap.size + 1) (Fr.refl _ w4) (fun _ => rfl)
  refine bodyPost_ret (results_cell_row rfl _ _ (w.heap.size + 1) 47 _ _ _ rfl hq Try.underlying47 rfl (by kernel_rfl)) rfl ?_
  exact ⟨_, _, rfl, ⟨HO4.out.keep hf1 (.inr fun k hk e => by have := HG.out k hk; omega), HU4.out.keep hf1 (.inr fun k hk e => by have := oi_le HU.out k hk; omega)⟩, hf, fun k hk => by have := HG.out k hk; omega, fun k hk => by have := oi_le HU.out k hk; omega⟩

/-- A chair that is new. -/
def ChN.new : ChN := ⟨0, 0, 0, En.zero, 0, 0, false, []⟩

theorem chnewS (B : Nat) (ms : List Int) (ma : Option Addr) (mc : Nat) (w : World) (hm : SI w (.slice ma ms.length mc) ms) (hb : ∀ k, (Value.slice ma ms.length mc).ownBlock = some k → k < B) (hB : B ≤ w.heap.size) (hf : ms.length ≤ 16) :
    Calls Try.prog 6 #[.agg #[.int .i64 0, .slice ma ms.length mc]] w fun e w' => ∃ g, e = .returned (.pointer (some ⟨g, 0, none⟩)) ∧ w.heap.size ≤ g ∧ Fr (fun _ => False) w w' ∧ ChS w' g B ms ma mc .new nilS := by
  refine (chnew_any ma ms.length mc w).mono ?_
  rintro e w' ⟨g, rfl, hg, f, hr⟩
  refine ⟨g, rfl, hg, f, ⟨nilS, nilS, hr, es_zero _, .inl rfl, .inl rfl⟩, ⟨by decide, by decide⟩, World.ownsRow_nil _ _ _ _, Nat.le_trans hB f.size, by decide, by decide, List.nodup_nil, (fun n h => by cases h), hm.fr f, fun k hk => ⟨hb k hk, ?_⟩, hf⟩
  have := hb k hk
  omega

theorem chopenS (b B : Nat) (ms : List Int) (ma : Option Addr) (mc : Nat) (st : ChN) (hv : Value) (r m : Int) (y : En) (v' u' : Value) (w : World) (h : ChS w b B ms ma mc st hv) (hy : ES w y v' u') (ha : AwayS (fun k => k = b) y v' u') (hsm : EnSmall y) :
    Calls Try.prog 10 #[.pointer (some ⟨b, 0, none⟩), ball r m, y.val v' u'] w fun e w' =>
      e = .returned (.tuple #[]) ∧ Fr (fun k => k = b) w w' ∧ ChS w' b B ms ma mc (.open r m y) nilS := by
  obtain ⟨v, u, h1, h2, h3⟩ := h.row
  refine (chopen_any b ma ms.length mc st v u hv r m y v' u' w h1 hy).mono ?_
  rintro e w' ⟨rfl, f, hr⟩
  refine ⟨rfl, f, ⟨v', u', hr, hy.keepS ha f, ha.mono (fun k hk => ?_)⟩, hsm, World.ownsRow_nil _ _ _ _, Nat.le_trans h.base f.size, (by show (0 : Int) ≤ 1; decide), (by show (1 : Int) ≤ 3; decide), List.nodup_nil, (fun n h => by cases h), h.view.keep f (.inr (fun k hk e => (h.vb k hk).2 e)), h.vb, h.few⟩
  rcases hk with hk | hk
  · exact hk
  · cases hk

/-- The lists of an entry are new. -/
def FreshE (w : World) (v u : Value) : Prop := (∀ k, v.ownBlock = some k → w.heap.size ≤ k) ∧ (∀ k, u.ownBlock = some k → w.heap.size ≤ k)

theorem chentry_any (b B : Nat) (ms : List Int) (ma : Option Addr) (mc : Nat) (st : ChN) (hv : Value) (w : World) (h : ChS w b B ms ma mc st hv) (hp : st.ph = 2 ∨ st.ph = 3) :
    Calls Try.prog 14 #[.pointer (some ⟨b, 0, none⟩)] w fun e w' => ∃ v' u', e = .returned (.tuple #[st.x.val v' u', .bool true]) ∧ ES w' st.x v' u' ∧ Fr (fun _ => False) w w' ∧ FreshE w v' u' := by
  obtain ⟨v, u, h1, h2, h3⟩ := h.row
  have hlt := h.lt
  have hsm := h.small
  have f0 : Fr (fun _ => False) w (w.alloc (oEn 0 0 0 0 nilS nilS)) := (Fr.refl _ _).alloc _
  have Q0 := Lib.hid (And.intro (crow_kept h1 f0 (fun h => h)) (heap_alloc_new w (oEn 0 0 0 0 nilS nilS)))
  have F0 := Lib.hid f0
  have X0 := Lib.hid (h2.fr f0)
  have HSM := Lib.hid hsm
  clear h1 h2 h3 h f0 hsm
  go_enter Try.func14, Try.ntmps14
  go_upto_region 1 with fail
  generalize w.alloc (oEn 0 0 0 0 nilS nilS) = w0 at *
  generalize hgb : w.heap.size = gb at *
  have Hw := Lib.hid hgb
  clear hgb
  rcases hp with hp | hp
  · have hq1 : (st.ph == 2) = true := by simp [hp]
    have hq2 : (st.ph != 2) = false := by simp [hp]
    have hdn : decide (st.ph = 2) = true := by simp [hp]
    clear hp
    go_wp2_with fail
    refine (chphase_any b _ st v u hv _ Q0.out.1).mono ?_
    rintro e1 wa ⟨rfl, rfl⟩
    obtain ⟨c0, c1, c2, c3, c4, c5, c6, c7, c8, c9, c10, c11, c12, c13, c14⟩ := ch_cells Q0.out.1
    clear c0 c1 c2 c3 c4 c11 c12 c13 c14
    go_wp2_with fail
    refine (chapart_any st.x v u _ X0.out HSM.out.1 HSM.out.2).mono ?_
    rintro e1 w2 ⟨v', u', rfl, hes, f2, hg1, hg2⟩
    obtain ⟨a1, k1, hv1, hn1⟩ := hes.1.shape
    obtain ⟨a2, k2, hv2, hn2⟩ := hes.2.shape
    subst hv1 hv2
    have F2 := Lib.hid (F0.out.trans f2 (fun _ _ h => h))
    have Q2 := Lib.hid (crow_kept Q0.out.2 f2 (fun h => h))
    have X2 := Lib.hid (And.intro hes (And.intro hg1 hg2))
    have HS0 := Lib.hid F0.out.size
    clear f2 hes hg1 hg2 hn1 hn2 c5 c6 c7 c8 c9 c10
    obtain ⟨z00, z01, z02, z03, z04, z05⟩ := vfree6 Q2.out
    obtain ⟨d00, d01, d02, d03, d04, d05⟩ := en_cells Q2.out
    have hlt2 := lt_of Q2.out
    go_wp2_with fail
    have hq := cst6 (y0 := .int .u8 st.x.k) (y1 := .int .u16 st.x.t) (y2 := .int .u16 st.x.n) (y3 := .int .i64 st.x.p) (y4 := .slice a1 st.x.l.length k1) (y5 := .slice a2 st.x.m.length k2) Q2.out
    have hf := cfr6 (.int .u8 st.x.k) (.int .u16 st.x.t) (.int .u16 st.x.n) (.int .i64 st.x.p) (.slice a1 st.x.l.length k1) (.slice a2 st.x.m.length k2) (b := gb) (S := fun k => k = gb) (Fr.refl _ w2) (fun _ => rfl)
    refine bodyPost_ret (chres_ct rfl _ _ gb 47 _ _ _ rfl hq Try.underlying47 rfl (by kernel_rfl)) rfl ?_
    refine ⟨_, _, rfl, X2.out.1.keepS ⟨.inr (fun k hk e => ?_), .inr (fun k hk e => ?_)⟩ hf, F2.out.trans hf (fun k hk e => ?_), fun k hk => ?_, fun k hk => ?_⟩
    · have := X2.out.2.1 k hk; have := lt_of Q0.out.2; omega
    · have := X2.out.2.2 k hk; have := lt_of Q0.out.2; omega
    · have := Hw.out; omega
    · have := X2.out.2.1 k hk; have := HS0.out; omega
    · have := X2.out.2.2 k hk; have := HS0.out; omega

  · have hq1 : (st.ph == 2) = false := by simp [hp]
    have hq2 : (st.ph != 2) = true := by simp [hp]
    have hq3 : (st.ph == 3) = true := by simp [hp]
    have hq4 : (st.ph != 3) = false := by simp [hp]
    have hdn : decide (st.ph = 2) = false := by simp [hp]
    have hdn3 : decide (st.ph = 3) = true := by simp [hp]
    clear hp
    go_wp2_with fail
    refine (chphase_any b _ st v u hv _ Q0.out.1).mono ?_
    rintro e1 wa ⟨rfl, rfl⟩
    go_wp2_with fail
    refine (chphase_any b _ st v u hv _ Q0.out.1).mono ?_
    rintro e1 wa ⟨rfl, rfl⟩
    obtain ⟨c0, c1, c2, c3, c4, c5, c6, c7, c8, c9, c10, c11, c12, c13, c14⟩ := ch_cells Q0.out.1
    clear c0 c1 c2 c3 c4 c11 c12 c13 c14
    go_wp2_with fail
    refine (chapart_any st.x v u _ X0.out HSM.out.1 HSM.out.2).mono ?_
    rintro e1 w2 ⟨v', u', rfl, hes, f2, hg1, hg2⟩
    obtain ⟨a1, k1, hv1, hn1⟩ := hes.1.shape
    obtain ⟨a2, k2, hv2, hn2⟩ := hes.2.shape
    subst hv1 hv2
    have F2 := Lib.hid (F0.out.trans f2 (fun _ _ h => h))
    have Q2 := Lib.hid (crow_kept Q0.out.2 f2 (fun h => h))
    have X2 := Lib.hid (And.intro hes (And.intro hg1 hg2))
    have HS0 := Lib.hid F0.out.size
    clear f2 hes hg1 hg2 hn1 hn2 c5 c6 c7 c8 c9 c10
    obtain ⟨z00, z01, z02, z03, z04, z05⟩ := vfree6 Q2.out
    obtain ⟨d00, d01, d02, d03, d04, d05⟩ := en_cells Q2.out
    have hlt2 := lt_of Q2.out
    go_wp2_with fail
    have hq := cst6 (y0 := .int .u8 st.x.k) (y1 := .int .u16 st.x.t) (y2 := .int .u16 st.x.n) (y3 := .int .i64 st.x.p) (y4 := .slice a1 st.x.l.length k1) (y5 := .slice a2 st.x.m.length k2) Q2.out
    have hf := cfr6 (.int .u8 st.x.k) (.int .u16 st.x.t) (.int .u16 st.x.n) (.int .i64 st.x.p) (.slice a1 st.x.l.length k1) (.slice a2 st.x.m.length k2) (b := gb) (S := fun k => k = gb) (Fr.refl _ w2) (fun _ => rfl)
    refine bodyPost_ret (chres_ct rfl _ _ gb 47 _ _ _ rfl hq Try.underlying47 rfl (by kernel_rfl)) rfl ?_
    refine ⟨_, _, rfl, X2.out.1.keepS ⟨.inr (fun k hk e => ?_), .inr (fun k hk e => ?_)⟩ hf, F2.out.trans hf (fun k hk e => ?_), fun k hk => ?_, fun k hk => ?_⟩
    · have := X2.out.2.1 k hk; have := lt_of Q0.out.2; omega
    · have := X2.out.2.2 k hk; have := lt_of Q0.out.2; omega
    · have := Hw.out; omega
    · have := X2.out.2.1 k hk; have := HS0.out; omega
    · have := X2.out.2.2 k hk; have := HS0.out; omega

theorem chawake_any (w : World) : Calls Try.prog 4 #[] w fun e w' => e = .returned (.bool true) ∧ Fr (fun _ => False) w w' := by
  go_enter Try.func4, Try.ntmps4
  have h3 := oi_one w 3
  have f0 : Fr (fun _ => False) w (w.alloc (.cells #[.int .i64 3] 3)) := (Fr.refl _ _).alloc _
  go_wp2_with fail
  have hsz : w.heap.size < (w.alloc (.cells #[.int .i64 3] 3)).heap.size := by simp
  generalize w.alloc (.cells #[.int .i64 3] 3) = w0 at *
  have S0 := Lib.hid h3.si
  have F0 := Lib.hid f0
  clear h3 f0
  refine (chnewS (w.heap.size + 1) [3] (some ⟨w.heap.size, 0, none⟩) 1 w0 S0.out (fun k hk => by simp [Value.ownBlock] at hk; omega) hsz (by decide)).mono ?_
  rintro e1 w1 ⟨g, rfl, hg, f1, hc⟩
  have F1 := Lib.hid (F0.out.trans f1 (fun _ _ h => h))
  have C1 := Lib.hid hc
  have HG := Lib.hid (show w.heap.size ≤ g by have := F0.out.size; omega)
  clear f1 hc hg S0 F0
  go_wp2_with fail
  refine (chopenS g (w.heap.size + 1) [3] (some ⟨w.heap.size, 0, none⟩) 1 .new nilS 1 3 .zero nilS nilS w1 C1.out (es_zero _) ⟨.inl rfl, .inl rfl⟩ ⟨by decide, by decide⟩).mono ?_
  rintro e1 w2 ⟨rfl, f2, hc⟩
  have F2 := Lib.hid (F1.out.trans f2 (fun k hk e => by have := HG.out; omega))
  have C2 := Lib.hid hc
  clear f2 hc F1 C1
  go_wp2_with fail
  refine (chpromised_yes g (w.heap.size + 1) [3] (some ⟨w.heap.size, 0, none⟩) 1 _ nilS 3 1 3 0 0 .zero nilS nilS false w2 C2.out (es_zero _) ⟨.inl rfl, .inl rfl⟩ ⟨by decide, by decide⟩ (by decide)).mono ?_
  rintro e1 w3 ⟨rfl, f3, hv', hc, hn⟩
  have F3 := Lib.hid (F2.out.trans f3 (fun k hk e => by
    rcases e with e | e
    · have := HG.out; omega
    · cases e))
  have C3 := Lib.hid hc
  clear f3 hc F2 C2
  have he : ((ChN.open 1 3 En.zero).report 0 0 En.zero false).enough [3] 3 = true := by decide
  rw [he]
  clear he
  go_wp2_with fail
  obtain ⟨v, u, h1, _⟩ := C3.out.row
  refine (chphase_any g _ _ v u hv' _ h1).mono ?_
  rintro e1 wa ⟨rfl, rfl⟩
  have hph : (((ChN.open 1 3 En.zero).report 0 0 En.zero false).hear [3] 3).ph = 2 := by decide
  rw [hph]
  clear hph h1
  go_wp2_with fail
  go_ret
  exact ⟨rfl, F3.out⟩
end
section
set_option maxRecDepth 100000

theorem bits63 (m : Nat) (h : m < 65536) : bits .and .u16 (m : Int) 63 = ((m % 64 : Nat) : Int) := by
  have := Go.u16_and_nat m 63 h (by omega)
  rw [show ((63 : Nat) : Int) = 63 from rfl] at this
  rw [this, show (63 : Nat) = 2 ^ 6 - 1 from rfl, Nat.and_two_pow_sub_one_eq_mod]

/-- The members of a law's bits. -/
def mem6 (m : Nat) : List Int := bitsL (m % 64)

theorem mem6_len (m : Nat) : 1 ≤ (mem6 m).length ∧ (mem6 m).length ≤ 16 := bitsL_len _ (by omega)
theorem mem6_range (m : Nat) (x : Int) (h : x ∈ mem6 m) : 0 ≤ x ∧ x ≤ 5 := by
  obtain ⟨i, hi, rfl, hb⟩ := mem_bitsL_range _ x h
  refine ⟨by omega, ?_⟩
  by_cases h6 : i < 6
  · omega
  · exfalso
    have hlt : nz (m % 64) < 2 ^ i := by
      have h1 : nz (m % 64) < 64 := by unfold nz; split <;> omega
      have h2 : (2 : Nat) ^ 6 ≤ 2 ^ i := Nat.pow_le_pow_right (by omega) (by omega)
      omega
    rw [Nat.testBit_lt_two_pow hlt] at hb
    cases hb
theorem mem6_nd (m : Nat) : (mem6 m).Nodup := by
  unfold mem6 bitsL
  exact (memP_sorted _ _).imp (fun h => by omega)

theorem inC_take (ms : List Int) (hn : ms.Nodup) (k : Nat) (hk : k ≤ ms.length) : inC ms (ms.take k) = k := by
  unfold inC
  conv => lhs; rw [← List.take_append_drop k ms]
  rw [List.countP_append]
  have h1 : (ms.take k).countP (fun x => decide (x ∈ (ms.take k ++ ms.drop k).take k)) = k := by
    rw [List.take_append_drop]
    rw [List.countP_eq_length.2 (fun a ha => by simpa using ha), List.length_take]
    omega
  have h2 : (ms.drop k).countP (fun x => decide (x ∈ (ms.take k ++ ms.drop k).take k)) = 0 := by
    rw [List.take_append_drop]
    rw [List.countP_eq_zero]
    intro a ha
    have hd : (ms.take k ++ ms.drop k).Nodup := by rw [List.take_append_drop]; exact hn
    have := (List.nodup_append.1 hd).2.2
    simp only [decide_eq_true_eq]
    intro h
    exact this a h a ha rfl
  omega

/-- ChairLate's chair, where k members were heard. -/
def ltN (x : En) (ms : List Int) (k : Nat) : ChN := ⟨1, 7, 2, x, 0, 0, false, ms.take k⟩

theorem ltN_zero (x : En) (ms : List Int) : ChN.open 7 2 x = ltN x ms 0 := rfl
theorem ltN_exp (x : En) (ms : List Int) (hn : ms.Nodup) (k : Nat) (hk : k < ms.length) : expB ms (ltN x ms k) 1 ms[k] 7 2 = true := by
  unfold expB ltN
  have h1 : ms[k] ∈ ms := List.getElem_mem hk
  have h2 : ms[k] ∉ ms.take k := by
    intro h
    obtain ⟨i, hi, e⟩ := List.getElem_of_mem h
    rw [List.getElem_take] at e
    rw [List.length_take] at hi
    have := (List.getElem_inj hn).1 e
    omega
  simp [h1, h2, beq2]
theorem ltN_rep (x : En) (ms : List Int) (k : Nat) : (ltN x ms k).report 0 0 En.zero false = ltN x ms k := rfl
theorem ltN_enough (x : En) (ms : List Int) (hn : ms.Nodup) (k : Nat) (hk : k < ms.length) : (ltN x ms k).enough ms ms[k] = decide ((ms.length : Int) < 2 * ((k + 1 : Nat) : Int)) := by
  unfold ChN.enough ltN
  show decide ((ms.length : Int) < 2 * ((inC ms (ms.take k ++ [ms[k]]) : Nat) : Int)) = _
  rw [← List.take_succ_eq_append_getElem hk, inC_take ms hn (k + 1) (by omega)]
theorem ltN_hear_no (x : En) (ms : List Int) (hn : ms.Nodup) (k : Nat) (hk : k < ms.length) (h : ¬ (ms.length : Int) < 2 * ((k + 1 : Nat) : Int)) : (ltN x ms k).hear ms ms[k] = ltN x ms (k + 1) := by
  have he := ltN_enough x ms hn k hk
  unfold ChN.enough at he
  unfold ChN.hear
  rw [decide_eq_decide] at he
  rw [if_neg (fun h' => h (he.1 h'))]
  unfold ltN
  rw [List.take_succ_eq_append_getElem hk]
theorem ltN_hear_yes (x : En) (ms : List Int) (hn : ms.Nodup) (k : Nat) (hk : k < ms.length) (h : (ms.length : Int) < 2 * ((k + 1 : Nat) : Int)) : ((ltN x ms k).hear ms ms[k]).ph = 2 ∧ ((ltN x ms k).hear ms ms[k]).x = x := by
  have he := ltN_enough x ms hn k hk
  unfold ChN.enough at he
  unfold ChN.hear
  rw [decide_eq_decide] at he
  rw [if_pos (he.2 h)]
  exact ⟨rfl, rfl⟩

/-- What it doesn't record. -/
theorem ltN_old (x : En) (ms : List Int) (k : Nat) (p n r m : Int) (h : r < 7) : expB ms (ltN x ms k) p n r m = false := by
  unfold expB ltN beq2
  have : (7 == r) = false := by simp; omega
  simp [this]
theorem ltN_acc (x : En) (ms : List Int) (k : Nat) (n r m : Int) : expB ms (ltN x ms k) 2 n r m = false := by
  unfold expB ltN
  simp
theorem ltN_heard (x : En) (ms : List Int) (n r m : Int) (h : ms[0]? = some n) : expB ms (ltN x ms 1) 1 n r m = false := by
  cases ms with
  | nil => cases h
  | cons a t =>
    cases h
    unfold expB ltN
    simp
theorem ltN_other (x : En) (ms : List Int) (k : Nat) (n r m : Int) (h : n ∉ ms) : expB ms (ltN x ms k) 1 n r m = false := by
  unfold expB ltN
  simp [h]
end
end Go.Proofs.Ytcjfinabffpgkaa
