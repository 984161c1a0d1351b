/-
  A chair that hears of promises: Promised.
-/
import Derived.Test.YtcjijafmfomohaaChair3
namespace Go.Proofs.Ytcjijafmfomohaa
open Go.RowKit
set_option maxRecDepth 100000

theorem cst15e {w : World} {b : Nat} {x0 x1 x2 x3 x4 x5 x6 x7 x8 x9 x10 x11 x12 x13 x14 y5 y6 y7 y8 y9 y10 : Value} {t : TypeId} (h : w.heap[b]? = some (.cells #[x0, x1, x2, x3, x4, x5, x6, x7, x8, x9, x10, x11, x12, x13, x14] t (0, 0))) :
    ((((((w.setCell ⟨b, 5, none⟩ y5).setCell ⟨b, 6, none⟩ y6).setCell ⟨b, 7, none⟩ y7).setCell ⟨b, 8, none⟩ y8).setCell ⟨b, 9, none⟩ y9).setCell ⟨b, 10, none⟩ y10).heap[b]? = some (.cells #[x0, x1, x2, x3, x4, y5, y6, y7, y8, y9, y10, x11, x12, x13, x14] t (0, 0)) ∧ Fr (fun k => k = b) w ((((((w.setCell ⟨b, 5, none⟩ y5).setCell ⟨b, 6, none⟩ y6).setCell ⟨b, 7, none⟩ y7).setCell ⟨b, 8, none⟩ y8).setCell ⟨b, 9, none⟩ y9).setCell ⟨b, 10, none⟩ y10) := by
  have h1 : (w.setCell ⟨b, 5, none⟩ y5).heap[b]? = some (.cells #[x0, x1, x2, x3, x4, y5, x6, x7, x8, x9, x10, x11, x12, x13, x14] t (0, 0)) := by rw [heap_setCell_same _ b 5 _ t y5 h]; rfl
  have h2 : ((w.setCell ⟨b, 5, none⟩ y5).setCell ⟨b, 6, none⟩ y6).heap[b]? = some (.cells #[x0, x1, x2, x3, x4, y5, y6, x7, x8, x9, x10, x11, x12, x13, x14] t (0, 0)) := by rw [heap_setCell_same _ b 6 _ t y6 h1]; rfl
  have h3 : (((w.setCell ⟨b, 5, none⟩ y5).setCell ⟨b, 6, none⟩ y6).setCell ⟨b, 7, none⟩ y7).heap[b]? = some (.cells #[x0, x1, x2, x3, x4, y5, y6, y7, x8, x9, x10, x11, x12, x13, x14] t (0, 0)) := by rw [heap_setCell_same _ b 7 _ t y7 h2]; rfl
  have h4 : ((((w.setCell ⟨b, 5, none⟩ y5).setCell ⟨b, 6, none⟩ y6).setCell ⟨b, 7, none⟩ y7).setCell ⟨b, 8, none⟩ y8).heap[b]? = some (.cells #[x0, x1, x2, x3, x4, y5, y6, y7, y8, x9, x10, x11, x12, x13, x14] t (0, 0)) := by rw [heap_setCell_same _ b 8 _ t y8 h3]; rfl
  have h5 : (((((w.setCell ⟨b, 5, none⟩ y5).setCell ⟨b, 6, none⟩ y6).setCell ⟨b, 7, none⟩ y7).setCell ⟨b, 8, none⟩ y8).setCell ⟨b, 9, none⟩ y9).heap[b]? = some (.cells #[x0, x1, x2, x3, x4, y5, y6, y7, y8, y9, x10, x11, x12, x13, x14] t (0, 0)) := by rw [heap_setCell_same _ b 9 _ t y9 h4]; rfl
  have h6 : ((((((w.setCell ⟨b, 5, none⟩ y5).setCell ⟨b, 6, none⟩ y6).setCell ⟨b, 7, none⟩ y7).setCell ⟨b, 8, none⟩ y8).setCell ⟨b, 9, none⟩ y9).setCell ⟨b, 10, none⟩ y10).heap[b]? = some (.cells #[x0, x1, x2, x3, x4, y5, y6, y7, y8, y9, y10, x11, x12, x13, x14] t (0, 0)) := by rw [heap_setCell_same _ b 10 _ t y10 h5]; rfl
  exact ⟨h6, (Fr.setCell (S := fun k => k = b) (Fr.setCell (S := fun k => k = b) (Fr.setCell (S := fun k => k = b) (Fr.setCell (S := fun k => k = b) (Fr.setCell (S := fun k => k = b) (Fr.setCell (S := fun k => k = b) (Fr.refl (fun k => k = b) w) (p := ⟨b, 5, none⟩) (fun _ => rfl) _) (p := ⟨b, 6, none⟩) (fun _ => rfl) _) (p := ⟨b, 7, none⟩) (fun _ => rfl) _) (p := ⟨b, 8, none⟩) (fun _ => rfl) _) (p := ⟨b, 9, none⟩) (fun _ => rfl) _) (p := ⟨b, 10, none⟩) (fun _ => rfl) _)⟩

theorem cst15g {w : World} {b : Nat} {x0 x1 x2 x3 x4 x5 x6 x7 x8 x9 x10 x11 x12 x13 x14 y11 y12 : Value} {t : TypeId} (h : w.heap[b]? = some (.cells #[x0, x1, x2, x3, x4, x5, x6, x7, x8, x9, x10, x11, x12, x13, x14] t (0, 0))) :
    ((w.setCell ⟨b, 11, none⟩ y11).setCell ⟨b, 12, none⟩ y12).heap[b]? = some (.cells #[x0, x1, x2, x3, x4, x5, x6, x7, x8, x9, x10, y11, y12, x13, x14] t (0, 0)) ∧ Fr (fun k => k = b) w ((w.setCell ⟨b, 11, none⟩ y11).setCell ⟨b, 12, none⟩ y12) := by
  have h1 : (w.setCell ⟨b, 11, none⟩ y11).heap[b]? = some (.cells #[x0, x1, x2, x3, x4, x5, x6, x7, x8, x9, x10, y11, x12, x13, x14] t (0, 0)) := by rw [heap_setCell_same _ b 11 _ t y11 h]; rfl
  have h2 : ((w.setCell ⟨b, 11, none⟩ y11).setCell ⟨b, 12, none⟩ y12).heap[b]? = some (.cells #[x0, x1, x2, x3, x4, x5, x6, x7, x8, x9, x10, y11, y12, x13, x14] t (0, 0)) := by rw [heap_setCell_same _ b 12 _ t y12 h1]; rfl
  exact ⟨h2, (Fr.setCell (S := fun k => k = b) (Fr.setCell (S := fun k => k = b) (Fr.refl (fun k => k = b) w) (p := ⟨b, 11, none⟩) (fun _ => rfl) _) (p := ⟨b, 12, none⟩) (fun _ => rfl) _)⟩

theorem cst15r {w : World} {b : Nat} {x0 x1 x2 x3 x4 x5 x6 x7 x8 x9 x10 x11 x12 x13 x14 y13 : Value} {t : TypeId} (h : w.heap[b]? = some (.cells #[x0, x1, x2, x3, x4, x5, x6, x7, x8, x9, x10, x11, x12, x13, x14] t (0, 0))) :
    (w.setCell ⟨b, 13, none⟩ y13).heap[b]? = some (.cells #[x0, x1, x2, x3, x4, x5, x6, x7, x8, x9, x10, x11, x12, y13, x14] t (0, 0)) ∧ Fr (fun k => k = b) w (w.setCell ⟨b, 13, none⟩ y13) := by
  have h1 : (w.setCell ⟨b, 13, none⟩ y13).heap[b]? = some (.cells #[x0, x1, x2, x3, x4, x5, x6, x7, x8, x9, x10, x11, x12, y13, x14] t (0, 0)) := by rw [heap_setCell_same _ b 13 _ t y13 h]; rfl
  exact ⟨h1, (Fr.setCell (S := fun k => k = b) (Fr.refl (fun k => k = b) w) (p := ⟨b, 13, none⟩) (fun _ => rfl) _)⟩


set_option maxHeartbeats 8000000 in
theorem chpromised_no (b B : Nat) (ms : List Int) (ma : Option Addr) (mc : Nat) (st : ChN) (hv : Value) (n r m wr wn : Int) (y : En) (v' u' : Value) (s : Bool) (w : World) (h : ChS w b B ms ma mc st hv) (hy : ES w y v' u') (he : expB ms st 1 n r m = false) :
    Calls Try.prog 14 #[.pointer (some ⟨b, 0, none⟩), .int .i64 n, ball r m, ball wr wn, y.val v' u', .bool s] w fun e w' => e = .returned (.bool false) ∧ Fr (fun _ => False) w w' := by
  obtain ⟨hy1, hy2⟩ := hy
  obtain ⟨a1, c1, hv1, hn1⟩ := hy1.shape
  obtain ⟨a2, c2, hv2, hn2⟩ := hy2.shape
  subst hv1 hv2
  clear hn1 hn2
  have HY := Lib.hid (show ES w y (.slice a1 y.l.length c1) (.slice a2 y.m.length c2) from ⟨hy1, hy2⟩)
  clear hy1 hy2
  obtain ⟨n1, hn1⟩ : ∃ n1, n1 = y.l.length := ⟨_, rfl⟩
  obtain ⟨n2, hn2⟩ : ∃ n2, n2 = y.m.length := ⟨_, rfl⟩
  rw [← hn1, ← hn2]
  have HN := Lib.hid (And.intro hn1 hn2)
  clear hn1 hn2
  have f0 : Fr (fun _ => False) w (((w.alloc (oBa r m)).alloc (oBa wr wn)).alloc (oEn y.k y.t y.n y.p (.slice a1 n1 c1) (.slice a2 n2 c2))) := (((Fr.refl _ _).alloc _).alloc _).alloc _
  have q0 : (((w.alloc (oBa r m)).alloc (oBa wr wn)).alloc (oEn y.k y.t y.n y.p (.slice a1 n1 c1) (.slice a2 n2 c2))).heap[w.heap.size]? = some (oBa r m) := crow_kept (heap_alloc_new w _) (((Fr.refl (fun _ => False) _).alloc _).alloc _) (fun h => h)
  have q1 : (((w.alloc (oBa r m)).alloc (oBa wr wn)).alloc (oEn y.k y.t y.n y.p (.slice a1 n1 c1) (.slice a2 n2 c2))).heap[w.heap.size + 1]? = some (oBa wr wn) := crow_kept (new_two w _ _) ((Fr.refl (fun _ => False) _).alloc _) (fun h => h)
  have q2 : (((w.alloc (oBa r m)).alloc (oBa wr wn)).alloc (oEn y.k y.t y.n y.p (.slice a1 n1 c1) (.slice a2 n2 c2))).heap[w.heap.size + 1 + 1]? = some (oEn y.k y.t y.n y.p (.slice a1 n1 c1) (.slice a2 n2 c2)) := by
    have := heap_alloc_new ((w.alloc (oBa r m)).alloc (oBa wr wn)) (oEn y.k y.t y.n y.p (.slice a1 n1 c1) (.slice a2 n2 c2))
    rw [World.size_alloc, World.size_alloc] at this
    exact this
  have Q0 := Lib.hid (And.intro (h.fr0 f0) (And.intro q0 (And.intro q1 q2)))
  have F0 := Lib.hid f0
  have HE := Lib.hid he
  clear h f0 he q0 q1 q2 HY
  go_enter Try.func14, Try.ntmps14
  go_upto_region 1 with fail
  generalize ((w.alloc (oBa r m)).alloc (oBa wr wn)).alloc (oEn y.k y.t y.n y.p (.slice a1 n1 c1) (.slice a2 n2 c2)) = w0 at *
  obtain ⟨b0, b1⟩ := ba_cells Q0.out.2.1
  go_wp2_with fail
  refine (expectsS b B ms ma mc st hv 1 n r m _ Q0.out.1).mono ?_
  rintro e1 wa ⟨rfl, fa⟩
  rw [HE.out]
  have F1 := Lib.hid (F0.out.trans fa (fun _ _ h => h))
  clear fa b0 b1
  go_wp2_with fail
  go_ret
  exact ⟨rfl, F1.out⟩

/-- What is reported, in the chair's block. -/
theorem report_x (st : ChN) (wr wn : Int) (y : En) (s : Bool) : ((st.report wr wn y s).ph = st.ph ∧ (st.report wr wn y s).h = st.h) ∧ (st.report wr wn y s).br = st.br ∧ (st.report wr wn y s).bn = st.bn := by
  unfold ChN.report
  split <;> exact ⟨⟨rfl, rfl⟩, rfl, rfl⟩

/-- The region that notes a report: what has been done. -/
def RpS (b : Nat) (mv : Value) (st : ChN) (v u hv : Value) (wr wn : Int) (y : En) (v' u' : Value) (w4 : World) : List Value → World → Prop
  | [], wx => Fr (fun k => k = b) w4 wx ∧ wx.heap[b]? = some (st.obj mv v u hv)
  | [_], wx => Fr (fun k => k = b) w4 wx ∧ wx.heap[b]? = some (ChN.obj { st with x := y } mv v' u' hv)
  | [_, _], wx => Fr (fun k => k = b) w4 wx ∧ wx.heap[b]? = some (ChN.obj { st with x := y, gr := wr, gn := wn } mv v' u' hv)
  | [_, _, _], wx => Fr (fun k => k = b) w4 wx ∧ wx.heap[b]? = some (ChN.obj { st with x := y, gr := wr, gn := wn, rep := true } mv v' u' hv)
  | _, _ => False
theorem RpS.fr {b : Nat} {mv : Value} {st : ChN} {v u hv : Value} {wr wn : Int} {y : En} {v' u' : Value} {w4 wx : World} : ∀ {c : List Value}, RpS b mv st v u hv wr wn y v' u' w4 c wx → Fr (fun k => k = b) w4 wx
  | [], h => h.1
  | [_], h => h.1
  | [_, _], h => h.1
  | [_, _, _], h => h.1
  | _ :: _ :: _ :: _ :: _, h => h.elim

set_option maxHeartbeats 16000000 in
theorem chpromised_yes (b B : Nat) (ms : List Int) (ma : Option Addr) (mc : Nat) (st : ChN) (hv : Value) (n r m wr wn : Int) (y : En) (v' u' : Value) (s : Bool) (w : World) (h : ChS w b B ms ma mc st hv) (hy : ES w y v' u') (ha : AwayS (ChF b hv) y v' u') (hsm : EnSmall y) (he : expB ms st 1 n r m = true) :
    Calls Try.prog 14 #[.pointer (some ⟨b, 0, none⟩), .int .i64 n, ball r m, ball wr wn, y.val v' u', .bool s] w fun e w' =>
      e = .returned (.bool ((st.report wr wn y s).enough ms n)) ∧ Fr (ChF b hv) w w' ∧ ∃ hv', ChS w' b B ms ma mc ((st.report wr wn y s).hear ms n) hv' ∧ NewH w hv hv' := by
  obtain ⟨hy1, hy2⟩ := hy
  obtain ⟨a1, c1, hv1, hn1⟩ := hy1.shape
  obtain ⟨a2, c2, hv2, hn2⟩ := hy2.shape
  subst hv1 hv2
  clear hn1 hn2
  have HY := Lib.hid (show ES w y (.slice a1 y.l.length c1) (.slice a2 y.m.length c2) from ⟨hy1, hy2⟩)
  clear hy1 hy2
  obtain ⟨n1, hn1⟩ : ∃ n1, n1 = y.l.length := ⟨_, rfl⟩
  obtain ⟨n2, hn2⟩ : ∃ n2, n2 = y.m.length := ⟨_, rfl⟩
  rw [← hn1, ← hn2]
  have HN := Lib.hid (And.intro hn1 hn2)
  clear hn1 hn2
  have f0 : Fr (fun _ => False) w (((w.alloc (oBa r m)).alloc (oBa wr wn)).alloc (oEn y.k y.t y.n y.p (.slice a1 n1 c1) (.slice a2 n2 c2))) := (((Fr.refl _ _).alloc _).alloc _).alloc _
  have q0 : (((w.alloc (oBa r m)).alloc (oBa wr wn)).alloc (oEn y.k y.t y.n y.p (.slice a1 n1 c1) (.slice a2 n2 c2))).heap[w.heap.size]? = some (oBa r m) := crow_kept (heap_alloc_new w _) (((Fr.refl (fun _ => False) _).alloc _).alloc _) (fun h => h)
  have q1 : (((w.alloc (oBa r m)).alloc (oBa wr wn)).alloc (oEn y.k y.t y.n y.p (.slice a1 n1 c1) (.slice a2 n2 c2))).heap[w.heap.size + 1]? = some (oBa wr wn) := crow_kept (new_two w _ _) ((Fr.refl (fun _ => False) _).alloc _) (fun h => h)
  have q2 : (((w.alloc (oBa r m)).alloc (oBa wr wn)).alloc (oEn y.k y.t y.n y.p (.slice a1 n1 c1) (.slice a2 n2 c2))).heap[w.heap.size + 1 + 1]? = some (oEn y.k y.t y.n y.p (.slice a1 n1 c1) (.slice a2 n2 c2)) := by
    have := heap_alloc_new ((w.alloc (oBa r m)).alloc (oBa wr wn)) (oEn y.k y.t y.n y.p (.slice a1 n1 c1) (.slice a2 n2 c2))
    rw [World.size_alloc, World.size_alloc] at this
    exact this
  have Q0 := Lib.hid (And.intro (h.fr0 f0) (And.intro q0 (And.intro q1 q2)))
  have F0 := Lib.hid f0
  have HE := Lib.hid he
  have HX := Lib.hid (expB_ph he)
  have HA := Lib.hid ha
  have HSM := Lib.hid hsm
  have HLT := Lib.hid h.lt
  have HY0 := Lib.hid (HY.out.fr f0)
  clear h f0 he q0 q1 q2 HY ha hsm
  go_enter Try.func14, Try.ntmps14
  go_upto_region 1 with fail
  generalize ((w.alloc (oBa r m)).alloc (oBa wr wn)).alloc (oEn y.k y.t y.n y.p (.slice a1 n1 c1) (.slice a2 n2 c2)) = w0 at *
  obtain ⟨b0, b1⟩ := ba_cells Q0.out.2.1
  go_wp2_with fail
  refine (expectsS b B ms ma mc st hv 1 n r m _ Q0.out.1).mono ?_
  rintro e1 w1 ⟨rfl, fa⟩
  rw [HE.out]
  have F1 := Lib.hid (F0.out.trans fa (fun _ _ h => h))
  have Q1 := Lib.hid (And.intro (Q0.out.1.fr0 fa) (And.intro (crow_kept Q0.out.2.1 fa (fun h => h)) (And.intro (crow_kept Q0.out.2.2.1 fa (fun h => h)) (crow_kept Q0.out.2.2.2 fa (fun h => h)))))
  have HY1 := Lib.hid (HY0.out.fr fa)
  clear fa b0 b1 Q0 F0 HY0 HE
  obtain ⟨v, u, hrow, hes, haw⟩ := Q1.out.1.row
  have R1 := Lib.hid (And.intro hrow (And.intro hes haw))
  clear hrow hes haw
  obtain ⟨C, hC⟩ : ∃ C, C = (s && (!st.rep || blt st.gr st.gn wr wn)) := ⟨_, rfl⟩
  have HC := Lib.hid hC
  clear hC
  generalize hg0 : w.heap.size = g0 at *
  generalize hg1 : g0 + 1 = g1 at *
  generalize hg2 : g1 + 1 = g2 at *
  have HG := Lib.hid (show g0 < w1.heap.size ∧ g1 < w1.heap.size ∧ g2 < w1.heap.size ∧ b < g0 ∧ g0 < g1 ∧ g1 < g2 from ⟨lt_of Q1.out.2.1, lt_of Q1.out.2.2.1, lt_of Q1.out.2.2.2, by have := HLT.out; omega, by omega, by omega⟩)
  go_upto_region 3 with fail
  go_cut [33] from 18 to 33 (fun c wx => c = .bool C ∧ Fr (fun _ => False) w1 wx)
  case first =>
    generalize hrep : st.rep = rep at *
    generalize hL : blt st.gr st.gn wr wn = L at *
    have HL2 := Lib.hid hL
    clear hL
    cases s with
    | false =>
      refine wp_region_told (by kernel_rfl) (fun a b => Fr (fun _ => False) a b) (fun w => Fr.refl _ w) (fun _ _ _ h k => h.trans k (fun _ _ h => h)) [18, 19, 20, 21, 22, 23, 24, 25, 26, 27, 28, 29, 30, 31, 32, 33] rfl (by decide) (by intro d hd; simp at hd ⊢; omega)
        (fun i v _ => v = ([.bool false, .bool false, undef, undef, undef, undef, undef, undef, undef, undef, undef, undef, undef, undef, undef, .bool false] : List Value).getD i undef)
        (fun _ _ _ _ _ h => h) (by kernel_rfl) ?stepca ?finca
      case stepca =>
        intro vals
        simp only [frOf, fill, List.setIfInBounds_toArray, List.set_cons_succ, List.set_cons_zero]
        repeat' (first | exact AllOps.nil | refine AllOps.cons ?_ ?_)
        all_goals
          intro wx hle he K' hK
          simp only [Act.put, List.setIfInBounds_toArray, List.set_cons_succ, List.set_cons_zero, List.getD_cons_zero, List.getD_cons_succ] at hK
          simp only [List.mem_cons, List.not_mem_nil, or_false, forall_eq_or_imp, forall_eq, Region.binds, forall_const, false_imp_iff, List.getD_cons_zero, List.getD_cons_succ] at he
          try simp only [he] at hK ⊢
          have hl5 := Fr.trans (Fr.drew (Fr.refl (fun _ => False) w1)) hle (fun _ _ h => h)
          have hl8 := Lib.hid hl5
          have HL := Lib.hid hl5
          obtain ⟨c0, c1, c2, c3, c4, c5, c6, c7, c8, c9, c10, c11, c12, c13, c14⟩ := ch_cells (crow_kept R1.out.1 hl5 (fun h => h))
          obtain ⟨b0, b1⟩ := ba_cells (crow_kept Q1.out.2.2.1 hl5 (fun h => h))
          clear c0 c1 c2 c3 c4 c5 c6 c7 c8 c9 c10 c14
          clear hl5 hle he
          try go_simp
        all_goals first
          | exact hK _ _ (Fr.refl _ _) rfl
          | skip
      case finca =>
        intro vals w' hle hV
        have h9 : vals 15 = .bool false := hV 15 (by decide)
        clear hV
        have hfin := Fr.trans (Fr.drew (Fr.refl (fun _ => False) w1)) hle (fun _ _ h => h)
        clear hle
        simp only [frOf, fill, List.setIfInBounds_toArray, List.set_cons_succ, List.set_cons_zero, Nat.reduceAdd]
        go_wp2_with fail
        go_meet
        exact ⟨by rw [h9, HC.out]; rfl, hfin⟩

    | true =>
      cases rep with
      | false =>
        refine wp_region_told (by kernel_rfl) (fun a b => Fr (fun _ => False) a b) (fun w => Fr.refl _ w) (fun _ _ _ h k => h.trans k (fun _ _ h => h)) [18, 19, 20, 21, 22, 23, 24, 25, 26, 27, 28, 29, 30, 31, 32, 33] rfl (by decide) (by intro d hd; simp at hd ⊢; omega)
          (fun i v _ => v = ([.bool true, .bool true, .pointer (some ⟨b, 0, none⟩), .pointer (some ⟨b, 0, none⟩), .pointer (some ⟨b, 13, none⟩), .bool false, .bool true, .bool true, undef, undef, undef, undef, undef, undef, .bool true, .bool true] : List Value).getD i undef)
          (fun _ _ _ _ _ h => h) (by kernel_rfl) ?stepcb ?fincb
        case stepcb =>
          intro vals
          simp only [frOf, fill, List.setIfInBounds_toArray, List.set_cons_succ, List.set_cons_zero]
          repeat' (first | exact AllOps.nil | refine AllOps.cons ?_ ?_)
          all_goals
            intro wx hle he K' hK
            simp only [Act.put, List.setIfInBounds_toArray, List.set_cons_succ, List.set_cons_zero, List.getD_cons_zero, List.getD_cons_succ] at hK
            simp only [List.mem_cons, List.not_mem_nil, or_false, forall_eq_or_imp, forall_eq, Region.binds, forall_const, false_imp_iff, List.getD_cons_zero, List.getD_cons_succ] at he
            try simp only [he] at hK ⊢
            have hl5 := Fr.trans (Fr.drew (Fr.refl (fun _ => False) w1)) hle (fun _ _ h => h)
            have hl8 := Lib.hid hl5
            have HL := Lib.hid hl5
            obtain ⟨c0, c1, c2, c3, c4, c5, c6, c7, c8, c9, c10, c11, c12, c13, c14⟩ := ch_cells (crow_kept R1.out.1 hl5 (fun h => h))
            obtain ⟨b0, b1⟩ := ba_cells (crow_kept Q1.out.2.2.1 hl5 (fun h => h))
            clear c0 c1 c2 c3 c4 c5 c6 c7 c8 c9 c10 c14
            clear hl5 hle he
            try go_simp
          all_goals first
            | exact hK _ _ (Fr.refl _ _) rfl
            | skip
        case fincb =>
          intro vals w' hle hV
          have h9 : vals 15 = .bool true := hV 15 (by decide)
          clear hV
          have hfin := Fr.trans (Fr.drew (Fr.refl (fun _ => False) w1)) hle (fun _ _ h => h)
          clear hle
          simp only [frOf, fill, List.setIfInBounds_toArray, List.set_cons_succ, List.set_cons_zero, Nat.reduceAdd]
          go_wp2_with fail
          go_meet
          exact ⟨by rw [h9, HC.out]; rfl, hfin⟩

      | true =>
        refine wp_region_told (by kernel_rfl) (fun a b => Fr (fun _ => False) a b) (fun w => Fr.refl _ w) (fun _ _ _ h k => h.trans k (fun _ _ h => h)) [18, 19, 20, 21, 22, 23, 24, 25, 26, 27, 28, 29, 30, 31, 32, 33] rfl (by decide) (by intro d hd; simp at hd ⊢; omega)
          (fun i v _ => v = ([.bool true, .bool true, .pointer (some ⟨b, 0, none⟩), .pointer (some ⟨b, 0, none⟩), .pointer (some ⟨b, 13, none⟩), .bool true, .bool false, .bool false, .pointer (some ⟨b, 0, none⟩), .pointer (some ⟨b, 0, none⟩), .pointer (some ⟨b, 11, none⟩), ball st.gr st.gn, ball wr wn, .bool L, .bool L, .bool L] : List Value).getD i undef)
          (fun _ _ _ _ _ h => h) (by kernel_rfl) ?stepcc ?fincc
        case stepcc =>
          intro vals
          simp only [frOf, fill, List.setIfInBounds_toArray, List.set_cons_succ, List.set_cons_zero]
          repeat' (first | exact AllOps.nil | refine AllOps.cons ?_ ?_)
          all_goals
            intro wx hle he K' hK
            simp only [Act.put, List.setIfInBounds_toArray, List.set_cons_succ, List.set_cons_zero, List.getD_cons_zero, List.getD_cons_succ] at hK
            simp only [List.mem_cons, List.not_mem_nil, or_false, forall_eq_or_imp, forall_eq, Region.binds, forall_const, false_imp_iff, List.getD_cons_zero, List.getD_cons_succ] at he
            try simp only [he] at hK ⊢
            have hl5 := Fr.trans (Fr.drew (Fr.refl (fun _ => False) w1)) hle (fun _ _ h => h)
            have hl8 := Lib.hid hl5
            have HL := Lib.hid hl5
            obtain ⟨c0, c1, c2, c3, c4, c5, c6, c7, c8, c9, c10, c11, c12, c13, c14⟩ := ch_cells (crow_kept R1.out.1 hl5 (fun h => h))
            obtain ⟨b0, b1⟩ := ba_cells (crow_kept Q1.out.2.2.1 hl5 (fun h => h))
            clear c0 c1 c2 c3 c4 c5 c6 c7 c8 c9 c10 c14
            clear hl5 hle he
            try go_simp
          all_goals first
            | exact hK _ _ (Fr.refl _ _) rfl
            | skip
          · go_at_call 9; refine (less_any st.gr st.gn wr wn _).mono ?_; rintro e1 wa ⟨rfl, fa⟩; rw [HL2.out]; exact hK _ _ fa rfl
        case fincc =>
          intro vals w' hle hV
          have h9 : vals 15 = .bool L := hV 15 (by decide)
          clear hV
          have hfin := Fr.trans (Fr.drew (Fr.refl (fun _ => False) w1)) hle (fun _ _ h => h)
          clear hle
          simp only [frOf, fill, List.setIfInBounds_toArray, List.set_cons_succ, List.set_cons_zero, Nat.reduceAdd]
          go_wp2_with fail
          go_meet
          exact ⟨by rw [h9, HC.out]; rfl, hfin⟩

  case rest =>
    obtain ⟨rfl, hwx⟩ := hcut
    have hsz := hwx.size
    have Q2 := Lib.hid (And.intro (Q1.out.1.fr0 hwx) (And.intro (crow_kept Q1.out.2.1 hwx (fun h => h)) (And.intro (crow_kept Q1.out.2.2.1 hwx (fun h => h)) (crow_kept Q1.out.2.2.2 hwx (fun h => h)))))
    have R2 := Lib.hid (And.intro (crow_kept R1.out.1 hwx (fun h => h)) (And.intro (R1.out.2.1.fr hwx) R1.out.2.2))
    have F2 := Lib.hid (F1.out.trans hwx (fun _ _ h => h))
    have HY2 := Lib.hid (HY1.out.fr hwx)
    clear hwx Q1 F1 HY1 R1
    subst hg0
    cases C with
    | false =>
      have HREP : Hid (st.report wr wn y s = st) := Lib.hid (by unfold ChN.report; rw [if_neg (by rw [← HC.out]; decide)])
      have F3 := Lib.hid (F2.out.mono (T := ChF b hv) (fun _ _ h => h.elim))
      have HS3 := Lib.hid Q2.out.1
      go_wp2_with fail
      refine (chhearS b B ms ma mc st hv n _ HS3.out HX.out.2.2.1 HX.out.2.2.2 (by have := HX.out.1; omega)).mono ?_
      rintro e3 w6 ⟨rfl, f6, hv2, g1, g2⟩
      have H6 := Lib.hid (And.intro f6 (And.intro g1 g2))
      clear f6 g1 g2
      go_wp2_with fail
      go_ret
      rw [HREP.out]
      exact ⟨rfl, (F3.out.trans H6.out.1 (fun k hk h => h)), hv2, H6.out.2.1, fun k hk => (H6.out.2.2 k hk).imp id (fun h => Nat.le_trans F3.out.size h)⟩

    | true =>
      have HREP : Hid (st.report wr wn y s = { st with x := y, gr := wr, gn := wn, rep := true }) := Lib.hid (by unfold ChN.report; rw [if_pos (by rw [← HC.out])])
      go_upto_region 4 with fail
      refine wp_region_chain (by kernel_rfl) [some 34, some 35, some 36, some 37, some 38, some 39, some 40, none, some 41, some 42, none, some 43, some 44, none] rfl (by decide) (by intro d hd; simp at hd ⊢; omega)
        [7, 10, 13] (fun cvs wx => RpS b (.slice ma ms.length mc) st v u hv wr wn y (.slice a1 n1 c1) (.slice a2 n2 c2) wc cvs wx)
        [.free (.pointer (some ⟨b, 0, none⟩)), .free (.pointer (some ⟨b, 0, none⟩)), .free (.pointer (some ⟨b, 0, none⟩)), .free (ev y.k y.t y.n y.p (.slice a1 n1 c1) (.slice a2 n2 c2)), .free (ball wr wn), .free (.pointer (some ⟨b, 0, none⟩)), .free (.pointer (some ⟨b, 5, none⟩)), .link none, .free (.pointer (some ⟨b, 0, none⟩)), .free (.pointer (some ⟨b, 11, none⟩)), .link none, .free (.pointer (some ⟨b, 0, none⟩)), .free (.pointer (some ⟨b, 13, none⟩)), .link none]
        (by kernel_rfl) (by kernel_rfl) ?hr ?stepr ?finr
      case hr => exact ⟨(Fr.refl _ _).drew, R2.out.1⟩
      case stepr =>
        intro vals
        simp only [frOfU, fillU, List.setIfInBounds_toArray, List.set_cons_succ, List.set_cons_zero]
        repeat' (first | exact AllOps.nil | refine AllOps.cons ?_ ?_)
        all_goals
          intro cvs wx hS he hu hlim Kc hK
          simp only [Act.put, List.setIfInBounds_toArray, List.set_cons_succ, List.set_cons_zero, List.getD_cons_zero, List.getD_cons_succ] at hK
          simp only [List.mem_cons, List.not_mem_nil, or_false, forall_eq_or_imp, forall_eq, Region.binds, forall_const, qmode_gc, Bool.false_eq_true, false_imp_iff, List.getD_cons_zero, List.getD_cons_succ, OpSort.val, Option.some.injEq, forall_eq', reduceCtorEq, implies_true, true_and, and_true] at he
          have hl5 := RpS.fr hS
          obtain ⟨b0, b1⟩ := ba_cells (crow_kept Q2.out.2.2.1 hl5 (by have := HG.out; omega))
          obtain ⟨d00, d01, d02, d03, d04, d05⟩ := en_cells (crow_kept Q2.out.2.2.2 hl5 (by have := HG.out; omega))
          clear hl5
          have HSX := Lib.hid hS
          clear hS
        all_goals first | (clear hlim hu; (try simp only [he] at hK ⊢); go_simp; exact hK) | skip
        · obtain rfl := hlim (0 : Nat) rfl
          obtain ⟨h1, h2⟩ : RpS b (.slice ma ms.length mc) st v u hv wr wn y (.slice a1 n1 c1) (.slice a2 n2 c2) wc [] wx := HSX.out
          obtain ⟨e0, e1, e2, e3, e4, e5, e6, e7, e8, e9, e10, e11, e12, e13, e14⟩ := ch_cells h2
          obtain ⟨z0, z1, z2, z3, z4, z5, z6, z7, z8, z9, z10, z11, z12, z13, z14⟩ := vfree15 h2
          obtain ⟨g1', g2'⟩ := cst15e (y5 := .int .u8 y.k) (y6 := .int .u16 y.t) (y7 := .int .u16 y.n) (y8 := .int .i64 y.p) (y9 := .slice a1 n1 c1) (y10 := .slice a2 n2 c2) h2
          have R := Lib.hid (show RpS b (.slice ma ms.length mc) st v u hv wr wn y (.slice a1 n1 c1) (.slice a2 n2 c2) wc [undef] _ from ⟨h1.trans g2' (fun _ _ h => h), g1'⟩)
          clear hlim hu HSX h1 h2 g1' g2' e0 e1 e2 e3 e4 e11 e12 e13 e14 z0 z1 z2 z3 z4 z11 z12 z13 z14
          simp only [he] at hK ⊢
          clear he
          go_simp
          exact hK undef _ (fun _ h => by cases h) R.out
        · obtain rfl := hlim (1 : Nat) rfl
          obtain ⟨h1, h2⟩ : RpS b (.slice ma ms.length mc) st v u hv wr wn y (.slice a1 n1 c1) (.slice a2 n2 c2) wc [vals 7] wx := HSX.out
          obtain ⟨e0, e1, e2, e3, e4, e5, e6, e7, e8, e9, e10, e11, e12, e13, e14⟩ := ch_cells h2
          obtain ⟨z0, z1, z2, z3, z4, z5, z6, z7, z8, z9, z10, z11, z12, z13, z14⟩ := vfree15 h2
          obtain ⟨g1', g2'⟩ := cst15g (y11 := .int .i64 wr) (y12 := .int .i64 wn) h2
          have R := Lib.hid (show RpS b (.slice ma ms.length mc) st v u hv wr wn y (.slice a1 n1 c1) (.slice a2 n2 c2) wc [vals 7, undef] _ from ⟨h1.trans g2' (fun _ _ h => h), g1'⟩)
          clear hlim hu HSX h1 h2 g1' g2' e0 e1 e2 e3 e4 e5 e6 e7 e8 e9 e10 e13 e14 z0 z1 z2 z3 z4 z5 z6 z7 z8 z9 z10 z13 z14
          simp only [he] at hK ⊢
          clear he
          go_simp
          exact hK undef _ (fun _ h => by cases h) R.out
        · obtain rfl := hlim (2 : Nat) rfl
          obtain ⟨h1, h2⟩ : RpS b (.slice ma ms.length mc) st v u hv wr wn y (.slice a1 n1 c1) (.slice a2 n2 c2) wc [vals 7, vals 10] wx := HSX.out
          obtain ⟨e0, e1, e2, e3, e4, e5, e6, e7, e8, e9, e10, e11, e12, e13, e14⟩ := ch_cells h2
          obtain ⟨z0, z1, z2, z3, z4, z5, z6, z7, z8, z9, z10, z11, z12, z13, z14⟩ := vfree15 h2
          obtain ⟨g1', g2'⟩ := cst15r (y13 := .bool true) h2
          have R := Lib.hid (show RpS b (.slice ma ms.length mc) st v u hv wr wn y (.slice a1 n1 c1) (.slice a2 n2 c2) wc [vals 7, vals 10, undef] _ from ⟨h1.trans g2' (fun _ _ h => h), g1'⟩)
          clear hlim hu HSX h1 h2 g1' g2' e0 e1 e2 e3 e4 e5 e6 e7 e8 e9 e10 e11 e12 e14 z0 z1 z2 z3 z4 z5 z6 z7 z8 z9 z10 z11 z12 z14
          simp only [he] at hK ⊢
          clear he
          go_simp
          exact hK undef _ (fun _ h => by cases h) R.out
      case finr =>
        intro vals w5 hS hV
        have v0 := hV 0 _ (by decide) rfl
        have v1 := hV 1 _ (by decide) rfl
        have v2 := hV 2 _ (by decide) rfl
        have v3 := hV 3 _ (by decide) rfl
        have v4 := hV 4 _ (by decide) rfl
        have v5 := hV 5 _ (by decide) rfl
        have v6 := hV 6 _ (by decide) rfl
        have v8 := hV 8 _ (by decide) rfl
        have v9 := hV 9 _ (by decide) rfl
        have v11 := hV 11 _ (by decide) rfl
        have v12 := hV 12 _ (by decide) rfl
        clear hV
        simp only [frOfU, fillU, List.setIfInBounds_toArray, List.set_cons_succ, List.set_cons_zero]
        simp only [Nat.reduceAdd, v0, v1, v2, v3, v4, v5, v6, v8, v9, v11, v12]
        clear v0 v1 v2 v3 v4 v5 v6 v8 v9 v11 v12
        obtain ⟨h1, h2⟩ : RpS b (.slice ma ms.length mc) st v u hv wr wn y (.slice a1 n1 c1) (.slice a2 n2 c2) wc [vals 7, vals 10, vals 13] w5 := hS
        have F3 := Lib.hid ((F2.out.mono (T := ChF b hv) (fun _ _ h => h.elim)).trans h1 (fun _ _ h => .inl h))
        have hES : ES w5 y (.slice a1 n1 c1) (.slice a2 n2 c2) := by rw [HN.out.1, HN.out.2]; exact HY2.out.keepS (HA.out.mono (fun _ h => .inl h)) h1
        have hAW : AwayS (ChF b hv) y (.slice a1 n1 c1) (.slice a2 n2 c2) := by rw [HN.out.1, HN.out.2]; exact HA.out
        have HS3 : Hid (ChS w5 b B ms ma mc { st with x := y, gr := wr, gn := wn, rep := true } hv) := Lib.hid ⟨⟨_, _, h2, hES, hAW⟩, HSM.out, oi_fr Q2.out.1.own h1 (fun k hk e => oi_ne Q2.out.1.own R2.out.1 (by decide) (by rw [hk, e])), Nat.le_trans Q2.out.1.base h1.size, Q2.out.1.ph0, Q2.out.1.ph1, Q2.out.1.nd, Q2.out.1.sub, Q2.out.1.view.keep h1 (.inr (fun k hk e => (Q2.out.1.vb k hk).2 e)), Q2.out.1.vb, Q2.out.1.few⟩
        clear h1 h2 hES hAW
        go_wp2_with fail
        refine (chhearS b B ms ma mc { st with x := y, gr := wr, gn := wn, rep := true } hv n _ HS3.out HX.out.2.2.1 HX.out.2.2.2 (by have := HX.out.1; show st.ph ≤ 2; omega)).mono ?_
        rintro e3 w6 ⟨rfl, f6, hv2, g1, g2⟩
        have H6 := Lib.hid (And.intro f6 (And.intro g1 g2))
        clear f6 g1 g2
        go_wp2_with fail
        go_ret
        rw [HREP.out]
        exact ⟨rfl, (F3.out.trans H6.out.1 (fun k hk h => h)), hv2, H6.out.2.1, fun k hk => (H6.out.2.2 k hk).imp id (fun h => Nat.le_trans F3.out.size h)⟩


end Go.Proofs.Ytcjijafmfomohaa
