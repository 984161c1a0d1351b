/-
  A chair that is opened; a member that is heard.
-/
import Derived.Test.YtcjijafmfomohaaChair
namespace Go.Proofs.Ytcjijafmfomohaa
open Go.RowKit
set_option maxRecDepth 100000

theorem cst15 {w : World} {b : Nat} {x0 x1 x2 x3 x4 x5 x6 x7 x8 x9 x10 x11 x12 x13 x14 y0 y1 y2 y3 y4 y5 y6 y7 y8 y9 y10 y11 y12 y13 y14 : Value} {t : TypeId} (h : w.heap[b]? = some (.cells #[x0, x1, x2, x3, x4, x5, x6, x7, x8, x9, x10, x11, x12, x13, x14] t (0, 0))) :
    (((((((((((((((w.setCell ⟨b, 0, none⟩ y0).setCell ⟨b, 1, none⟩ y1).setCell ⟨b, 2, none⟩ y2).setCell ⟨b, 3, none⟩ y3).setCell ⟨b, 4, none⟩ y4).setCell ⟨b, 5, none⟩ y5).setCell ⟨b, 6, none⟩ y6).setCell ⟨b, 7, none⟩ y7).setCell ⟨b, 8, none⟩ y8).setCell ⟨b, 9, none⟩ y9).setCell ⟨b, 10, none⟩ y10).setCell ⟨b, 11, none⟩ y11).setCell ⟨b, 12, none⟩ y12).setCell ⟨b, 13, none⟩ y13).setCell ⟨b, 14, none⟩ y14).heap[b]? = some (.cells #[y0, y1, y2, y3, y4, y5, y6, y7, y8, y9, y10, y11, y12, y13, y14] t (0, 0)) := by
  have h1 : (w.setCell ⟨b, 0, none⟩ y0).heap[b]? = some (.cells #[y0, x1, x2, x3, x4, x5, x6, x7, x8, x9, x10, x11, x12, x13, x14] t (0, 0)) := by rw [heap_setCell_same _ b 0 _ t y0 h]; rfl
  have h2 : ((w.setCell ⟨b, 0, none⟩ y0).setCell ⟨b, 1, none⟩ y1).heap[b]? = some (.cells #[y0, y1, x2, x3, x4, x5, x6, x7, x8, x9, x10, x11, x12, x13, x14] t (0, 0)) := by rw [heap_setCell_same _ b 1 _ t y1 h1]; rfl
  have h3 : (((w.setCell ⟨b, 0, none⟩ y0).setCell ⟨b, 1, none⟩ y1).setCell ⟨b, 2, none⟩ y2).heap[b]? = some (.cells #[y0, y1, y2, x3, x4, x5, x6, x7, x8, x9, x10, x11, x12, x13, x14] t (0, 0)) := by rw [heap_setCell_same _ b 2 _ t y2 h2]; rfl
  have h4 : ((((w.setCell ⟨b, 0, none⟩ y0).setCell ⟨b, 1, none⟩ y1).setCell ⟨b, 2, none⟩ y2).setCell ⟨b, 3, none⟩ y3).heap[b]? = some (.cells #[y0, y1, y2, y3, x4, x5, x6, x7, x8, x9, x10, x11, x12, x13, x14] t (0, 0)) := by rw [heap_setCell_same _ b 3 _ t y3 h3]; rfl
  have h5 : (((((w.setCell ⟨b, 0, none⟩ y0).setCell ⟨b, 1, none⟩ y1).setCell ⟨b, 2, none⟩ y2).setCell ⟨b, 3, none⟩ y3).setCell ⟨b, 4, none⟩ y4).heap[b]? = some (.cells #[y0, y1, y2, y3, y4, x5, x6, x7, x8, x9, x10, x11, x12, x13, x14] t (0, 0)) := by rw [heap_setCell_same _ b 4 _ t y4 h4]; rfl
  have h6 : ((((((w.setCell ⟨b, 0, none⟩ y0).setCell ⟨b, 1, none⟩ y1).setCell ⟨b, 2, none⟩ y2).setCell ⟨b, 3, none⟩ y3).setCell ⟨b, 4, none⟩ y4).setCell ⟨b, 5, none⟩ y5).heap[b]? = some (.cells #[y0, y1, y2, y3, y4, y5, x6, x7, x8, x9, x10, x11, x12, x13, x14] t (0, 0)) := by rw [heap_setCell_same _ b 5 _ t y5 h5]; rfl
  have h7 : (((((((w.setCell ⟨b, 0, none⟩ y0).setCell ⟨b, 1, none⟩ y1).setCell ⟨b, 2, none⟩ y2).setCell ⟨b, 3, none⟩ y3).setCell ⟨b, 4, none⟩ y4).setCell ⟨b, 5, none⟩ y5).setCell ⟨b, 6, none⟩ y6).heap[b]? = some (.cells #[y0, y1, y2, y3, y4, y5, y6, x7, x8, x9, x10, x11, x12, x13, x14] t (0, 0)) := by rw [heap_setCell_same _ b 6 _ t y6 h6]; rfl
  have h8 : ((((((((w.setCell ⟨b, 0, none⟩ y0).setCell ⟨b, 1, none⟩ y1).setCell ⟨b, 2, none⟩ y2).setCell ⟨b, 3, none⟩ y3).setCell ⟨b, 4, none⟩ y4).setCell ⟨b, 5, none⟩ y5).setCell ⟨b, 6, none⟩ y6).setCell ⟨b, 7, none⟩ y7).heap[b]? = some (.cells #[y0, y1, y2, y3, y4, y5, y6, y7, x8, x9, x10, x11, x12, x13, x14] t (0, 0)) := by rw [heap_setCell_same _ b 7 _ t y7 h7]; rfl
  have h9 : (((((((((w.setCell ⟨b, 0, none⟩ y0).setCell ⟨b, 1, none⟩ y1).setCell ⟨b, 2, none⟩ y2).setCell ⟨b, 3, none⟩ y3).setCell ⟨b, 4, none⟩ y4).setCell ⟨b, 5, none⟩ y5).setCell ⟨b, 6, none⟩ y6).setCell ⟨b, 7, none⟩ y7).setCell ⟨b, 8, none⟩ y8).heap[b]? = some (.cells #[y0, y1, y2, y3, y4, y5, y6, y7, y8, x9, x10, x11, x12, x13, x14] t (0, 0)) := by rw [heap_setCell_same _ b 8 _ t y8 h8]; rfl
  have h10 : ((((((((((w.setCell ⟨b, 0, none⟩ y0).setCell ⟨b, 1, none⟩ y1).setCell ⟨b, 2, none⟩ y2).setCell ⟨b, 3, none⟩ y3).setCell ⟨b, 4, none⟩ y4).setCell ⟨b, 5, none⟩ y5).setCell ⟨b, 6, none⟩ y6).setCell ⟨b, 7, none⟩ y7).setCell ⟨b, 8, none⟩ y8).setCell ⟨b, 9, none⟩ y9).heap[b]? = some (.cells #[y0, y1, y2, y3, y4, y5, y6, y7, y8, y9, x10, x11, x12, x13, x14] t (0, 0)) := by rw [heap_setCell_same _ b 9 _ t y9 h9]; rfl
  have h11 : (((((((((((w.setCell ⟨b, 0, none⟩ y0).setCell ⟨b, 1, none⟩ y1).setCell ⟨b, 2, none⟩ y2).setCell ⟨b, 3, none⟩ y3).setCell ⟨b, 4, none⟩ y4).setCell ⟨b, 5, none⟩ y5).setCell ⟨b, 6, none⟩ y6).setCell ⟨b, 7, none⟩ y7).setCell ⟨b, 8, none⟩ y8).setCell ⟨b, 9, none⟩ y9).setCell ⟨b, 10, none⟩ y10).heap[b]? = some (.cells #[y0, y1, y2, y3, y4, y5, y6, y7, y8, y9, y10, x11, x12, x13, x14] t (0, 0)) := by rw [heap_setCell_same _ b 10 _ t y10 h10]; rfl
  have h12 : ((((((((((((w.setCell ⟨b, 0, none⟩ y0).setCell ⟨b, 1, none⟩ y1).setCell ⟨b, 2, none⟩ y2).setCell ⟨b, 3, none⟩ y3).setCell ⟨b, 4, none⟩ y4).setCell ⟨b, 5, none⟩ y5).setCell ⟨b, 6, none⟩ y6).setCell ⟨b, 7, none⟩ y7).setCell ⟨b, 8, none⟩ y8).setCell ⟨b, 9, none⟩ y9).setCell ⟨b, 10, none⟩ y10).setCell ⟨b, 11, none⟩ y11).heap[b]? = some (.cells #[y0, y1, y2, y3, y4, y5, y6, y7, y8, y9, y10, y11, x12, x13, x14] t (0, 0)) := by rw [heap_setCell_same _ b 11 _ t y11 h11]; rfl
  have h13 : (((((((((((((w.setCell ⟨b, 0, none⟩ y0).setCell ⟨b, 1, none⟩ y1).setCell ⟨b, 2, none⟩ y2).setCell ⟨b, 3, none⟩ y3).setCell ⟨b, 4, none⟩ y4).setCell ⟨b, 5, none⟩ y5).setCell ⟨b, 6, none⟩ y6).setCell ⟨b, 7, none⟩ y7).setCell ⟨b, 8, none⟩ y8).setCell ⟨b, 9, none⟩ y9).setCell ⟨b, 10, none⟩ y10).setCell ⟨b, 11, none⟩ y11).setCell ⟨b, 12, none⟩ y12).heap[b]? = some (.cells #[y0, y1, y2, y3, y4, y5, y6, y7, y8, y9, y10, y11, y12, x13, x14] t (0, 0)) := by rw [heap_setCell_same _ b 12 _ t y12 h12]; rfl
  have h14 : ((((((((((((((w.setCell ⟨b, 0, none⟩ y0).setCell ⟨b, 1, none⟩ y1).setCell ⟨b, 2, none⟩ y2).setCell ⟨b, 3, none⟩ y3).setCell ⟨b, 4, none⟩ y4).setCell ⟨b, 5, none⟩ y5).setCell ⟨b, 6, none⟩ y6).setCell ⟨b, 7, none⟩ y7).setCell ⟨b, 8, none⟩ y8).setCell ⟨b, 9, none⟩ y9).setCell ⟨b, 10, none⟩ y10).setCell ⟨b, 11, none⟩ y11).setCell ⟨b, 12, none⟩ y12).setCell ⟨b, 13, none⟩ y13).heap[b]? = some (.cells #[y0, y1, y2, y3, y4, y5, y6, y7, y8, y9, y10, y11, y12, y13, x14] t (0, 0)) := by rw [heap_setCell_same _ b 13 _ t y13 h13]; rfl
  rw [heap_setCell_same _ b 14 _ t y14 h14]; rfl
theorem cfr15 {w : World} {b : Nat} (y0 y1 y2 y3 y4 y5 y6 y7 y8 y9 y10 y11 y12 y13 y14 : Value) {S : Nat → Prop} {w0 : World} (f : Fr S w0 w) (hb : b < w0.heap.size → S b) :
    Fr S w0 (((((((((((((((w.setCell ⟨b, 0, none⟩ y0).setCell ⟨b, 1, none⟩ y1).setCell ⟨b, 2, none⟩ y2).setCell ⟨b, 3, none⟩ y3).setCell ⟨b, 4, none⟩ y4).setCell ⟨b, 5, none⟩ y5).setCell ⟨b, 6, none⟩ y6).setCell ⟨b, 7, none⟩ y7).setCell ⟨b, 8, none⟩ y8).setCell ⟨b, 9, none⟩ y9).setCell ⟨b, 10, none⟩ y10).setCell ⟨b, 11, none⟩ y11).setCell ⟨b, 12, none⟩ y12).setCell ⟨b, 13, none⟩ y13).setCell ⟨b, 14, none⟩ y14) :=
  (((((((((((((((f.setCell (p := ⟨b, 0, none⟩) hb _).setCell (p := ⟨b, 1, none⟩) hb _).setCell (p := ⟨b, 2, none⟩) hb _).setCell (p := ⟨b, 3, none⟩) hb _).setCell (p := ⟨b, 4, none⟩) hb _).setCell (p := ⟨b, 5, none⟩) hb _).setCell (p := ⟨b, 6, none⟩) hb _).setCell (p := ⟨b, 7, none⟩) hb _).setCell (p := ⟨b, 8, none⟩) hb _).setCell (p := ⟨b, 9, none⟩) hb _).setCell (p := ⟨b, 10, none⟩) hb _).setCell (p := ⟨b, 11, none⟩) hb _).setCell (p := ⟨b, 12, none⟩) hb _).setCell (p := ⟨b, 13, none⟩) hb _).setCell (p := ⟨b, 14, none⟩) hb _)

theorem vfree15 {w : World} {g : Nat} {cs : Array Value} {t : TypeId} (h : w.heap[g]? = some (.cells cs t (0, 0))) :
    w.frozen? ⟨g, 0, none⟩ = false ∧ w.frozen? ⟨g, 1, none⟩ = false ∧ w.frozen? ⟨g, 2, none⟩ = false ∧ w.frozen? ⟨g, 3, none⟩ = false ∧ w.frozen? ⟨g, 4, none⟩ = false ∧ w.frozen? ⟨g, 5, none⟩ = false ∧ w.frozen? ⟨g, 6, none⟩ = false ∧ w.frozen? ⟨g, 7, none⟩ = false ∧
    w.frozen? ⟨g, 8, none⟩ = false ∧ w.frozen? ⟨g, 9, none⟩ = false ∧ w.frozen? ⟨g, 10, none⟩ = false ∧ w.frozen? ⟨g, 11, none⟩ = false ∧ w.frozen? ⟨g, 12, none⟩ = false ∧ w.frozen? ⟨g, 13, none⟩ = false ∧ w.frozen? ⟨g, 14, none⟩ = false :=
  ⟨vfree h 0, vfree h 1, vfree h 2, vfree h 3, vfree h 4, vfree h 5, vfree h 6, vfree h 7, vfree h 8, vfree h 9, vfree h 10, vfree h 11, vfree h 12, vfree h 13, vfree h 14⟩

/-- A chair that was opened. -/
def ChN.open (r m : Int) (y : En) : ChN := ⟨1, r, m, y, 0, 0, false, []⟩

/-- The region that opens: what has been done. -/
def OpS (b : Nat) (o o' : Obj) (w4 : World) : List Value → World → Prop
  | [], wx => Fr (fun _ => False) w4 wx
  | [_], wx => Fr (fun k => k = b) w4 wx ∧ wx.heap[b]? = some o'
  | _, _ => False
theorem OpS.fr {b : Nat} {cs : Array Value} {T : TypeId} {fr : Nat × Nat} {o' : Obj} {w4 wx : World} (ho : w4.heap[b]? = some (.cells cs T fr)) : ∀ {c : List Value}, OpS b (.cells cs T fr) o' w4 c wx → Fr (fun k => k = b) w4 wx ∧ (wx.heap[b]? = some (.cells cs T fr) ∨ wx.heap[b]? = some o')
  | [], h => ⟨Fr.mono h (fun _ _ h => h.elim), .inl (crow_kept ho h (fun h => h))⟩
  | [_], ⟨h, h'⟩ => ⟨h, .inr h'⟩
  | _ :: _ :: _, h => h.elim

set_option maxHeartbeats 8000000 in
theorem chopen_any (b : Nat) (ma : Option Addr) (mn mc : Nat) (st : ChN) (v u hv : Value) (r m : Int) (y : En) (v' u' : Value) (w : World) (h : w.heap[b]? = some (st.obj (.slice ma mn mc) v u hv)) (hy : ES w y v' u') :
    Calls Try.prog 11 #[.pointer (some ⟨b, 0, none⟩), ball r m, y.val v' u'] w fun e w' =>
      e = .returned (.tuple #[]) ∧ Fr (fun k => k = b) w w' ∧ w'.heap[b]? = some ((ChN.open r m y).obj (.slice ma mn mc) v' u' nilS) := by
  obtain ⟨hy1, hy2⟩ := hy
  obtain ⟨a1, c1, hv1, hn1⟩ := hy1.shape
  obtain ⟨a2, c2, hv2, hn2⟩ := hy2.shape
  subst hv1 hv2
  clear hy1 hy2 hn1 hn2
  generalize y.l.length = n1
  generalize y.m.length = n2
  have hl : b < w.heap.size := (Array.getElem?_eq_some_iff.1 h).1
  have f0 : Fr (fun _ => False) w ((w.alloc (oBa r m)).alloc (oEn y.k y.t y.n y.p (.slice a1 n1 c1) (.slice a2 n2 c2))) := ((Fr.refl _ _).alloc _).alloc _
  have q1 : ((w.alloc (oBa r m)).alloc (oEn y.k y.t y.n y.p (.slice a1 n1 c1) (.slice a2 n2 c2))).heap[w.heap.size]? = some (oBa r m) := crow_kept (heap_alloc_new w _) ((Fr.refl (fun _ => False) _).alloc _) (fun h => h)
  have q2 := new_two w (oBa r m) (oEn y.k y.t y.n y.p (.slice a1 n1 c1) (.slice a2 n2 c2))
  have Q0 := Lib.hid (And.intro (crow_kept h f0 (fun h => h)) (And.intro q1 q2))
  have F0 := Lib.hid f0
  clear h f0 q1 q2
  go_enter Try.func11, Try.ntmps11
  go_upto_region 2 with fail
  generalize (w.alloc (oBa r m)).alloc (oEn y.k y.t y.n y.p (.slice a1 n1 c1) (.slice a2 n2 c2)) = w0 at *
  have HL := Lib.hid hl
  refine wp_region_chain (by kernel_rfl) [some 8, some 9, some 10, some 11, some 12, some 13, some 14, some 15, some 16, none] rfl (by decide) (by intro d hd; simp at hd ⊢; omega)
    [9] (fun cvs wx => OpS b (st.obj (.slice ma mn mc) v u hv) (oCh (.slice ma mn mc) 1 r m y.k y.t y.n y.p (.slice a1 n1 c1) (.slice a2 n2 c2) 0 0 false nilS) w0 cvs wx)
    [.free (.pointer (some ⟨b, 0, none⟩)), .free (.pointer (some ⟨b, 0, none⟩)), .free (.pointer (some ⟨b, 0, none⟩)), .free (.pointer (some ⟨b, 0, none⟩)), .free (.agg #[.int .i64 0, .slice ma mn mc]), .free (ball r m), .free (ev y.k y.t y.n y.p (.slice a1 n1 c1) (.slice a2 n2 c2)), .free (.agg #[.int .i64 0, .slice ma mn mc, .int .u8 1, .int .i64 r, .int .i64 m, .int .u8 y.k, .int .u16 y.t, .int .u16 y.n, .int .i64 y.p, .slice a1 n1 c1, .slice a2 n2 c2, .int .i64 0, .int .i64 0, .bool false, nilS]), .free (.pointer (some ⟨b, 0, none⟩)), .link none]
    (by kernel_rfl) (by kernel_rfl) ?ho ?stepo ?fino
  case ho => exact (Fr.refl _ _).drew
  case stepo =>
    intro vals
    simp only [frOfU, fillU, List.setIfInBounds_toArray, List.set_cons_succ, List.set_cons_zero]
    repeat' (first | exact AllOps.nil | refine AllOps.cons ?_ ?_)
    all_goals
      intro cvs wx hS he hu hlim Kc hK
      simp only [Act.put, List.setIfInBounds_toArray, List.set_cons_succ, List.set_cons_zero, List.getD_cons_zero, List.getD_cons_succ] at hK
      simp only [List.mem_cons, List.not_mem_nil, or_false, forall_eq_or_imp, forall_eq, Region.binds, forall_const, qmode_gc, Bool.false_eq_true, false_imp_iff, List.getD_cons_zero, List.getD_cons_succ, OpSort.val, Option.some.injEq, forall_eq', reduceCtorEq, implies_true, true_and, and_true] at he
      obtain ⟨hl5, hl6⟩ := OpS.fr Q0.out.1 hS
      have c0 : wx.cell? ⟨b, 0, none⟩ = some (.int .i64 0) := by rcases hl6 with h | h <;> exact (ch_cells h).1
      have c1x : wx.cell? ⟨b, 1, none⟩ = some (.slice ma mn mc) := by rcases hl6 with h | h <;> exact (ch_cells h).2.1
      obtain ⟨b00, b01⟩ := ba_cells (crow_kept Q0.out.2.1 hl5 (by omega))
      obtain ⟨d00, d01, d02, d03, d04, d05⟩ := en_cells (crow_kept Q0.out.2.2 hl5 (by omega))
      clear hl5 hl6
      have HSX := Lib.hid hS
      clear hS
    all_goals first | (clear hlim hu; (try simp only [he] at hK ⊢); go_simp; exact hK) | skip
    · obtain rfl := hlim (0 : Nat) rfl
      have h1 : Fr (fun _ => False) w0 wx := HSX.out
      have h2 := crow_kept Q0.out.1 h1 (fun h => h)
      obtain ⟨e0, e1, e2, e3, e4, e5, e6, e7, e8, e9, e10, e11, e12, e13, e14⟩ := ch_cells h2
      obtain ⟨z0, z1, z2, z3, z4, z5, z6, z7, z8, z9, z10, z11, z12, z13, z14⟩ := vfree15 h2
      have R := Lib.hid (And.intro h1 h2)
      clear hlim hu HSX h1 h2 c0 c1x
      simp only [he] at hK ⊢
      clear he
      go_simp
      refine hK undef _ (fun _ h => by cases h) ?_
      exact ⟨cfr15 _ _ _ _ _ _ _ _ _ _ _ _ _ _ _ (R.out.1.mono (fun _ _ h => h.elim)) (fun _ => rfl), cst15 R.out.2⟩
  case fino =>
    intro vals w5 hS hV
    have v0 := hV 0 _ (by decide) rfl
    have v1 := hV 1 _ (by decide) rfl
    have v2 := hV 2 _ (by decide) rfl
    have v3 := hV 3 _ (by decide) rfl
    have v4 := hV 4 _ (by decide) rfl
    have v5 := hV 5 _ (by decide) rfl
    have v6 := hV 6 _ (by decide) rfl
    have v7 := hV 7 _ (by decide) rfl
    have v8 := hV 8 _ (by decide) rfl
    clear hV
    simp only [frOfU, fillU, List.setIfInBounds_toArray, List.set_cons_succ, List.set_cons_zero]
    simp only [Nat.reduceAdd, v0, v1, v2, v3, v4, v5, v6, v7, v8]
    clear v0 v1 v2 v3 v4 v5 v6 v7 v8
    obtain ⟨g1, g2⟩ : OpS b (st.obj (.slice ma mn mc) v u hv) (oCh (.slice ma mn mc) 1 r m y.k y.t y.n y.p (.slice a1 n1 c1) (.slice a2 n2 c2) 0 0 false nilS) w0 [vals 9] w5 := hS
    have H5 := Lib.hid (And.intro g1 g2)
    clear g1 g2
    go_wp2_with fail
    go_returns
    exact ⟨rfl, (F0.out.mono (fun _ _ h => h.elim)).trans H5.out.1 (fun _ _ h => h), H5.out.2⟩

/-- A member that is heard. -/
def ChN.hear (ms : List Int) (st : ChN) (n : Int) : ChN := if (ms.length : Int) < 2 * (inC ms (st.h ++ [n]) : Int) then { st with ph := st.ph + 1, h := [] } else { st with h := st.h ++ [n] }
def ChN.enough (ms : List Int) (st : ChN) (n : Int) : Bool := decide ((ms.length : Int) < 2 * (inC ms (st.h ++ [n]) : Int))

theorem oi_ne {w : World} {B : Nat} {v : Value} {l : List Int} {b : Nat} {cs : Array Value} {T : TypeId} {fr : Nat × Nat} (h : OI w B v l) (hb : w.heap[b]? = some (.cells cs T fr)) (hT : T ≠ 3) : v.ownBlock ≠ some b := by
  rcases h.2 with hn | ⟨g, cap, cur, rfl, hbb, hgg, rest⟩
  · rw [hn.1]; simp [Value.ownBlock]
  · intro e
    simp [Value.ownBlock] at e
    subst e
    rw [hgg] at hb
    simp at hb
    exact hT hb.2.1.symm

theorem sic_of {w : World} {a : Option Addr} {c : Nat} {l : List Int} (h : SI w (.slice a l.length c) l) : SIc w a c l := by
  obtain ⟨a', c', e, hs⟩ := h.shape
  cases e
  exact hs

/-- What a chair owns in memory. -/
abbrev ChF (b : Nat) (hv : Value) : Nat → Prop := fun k => k = b ∨ hv.ownBlock = some k

set_option maxHeartbeats 8000000 in
theorem chhear_any (b B : Nat) (ms : List Int) (ma : Option Addr) (mc : Nat) (st : ChN) (v u hv : Value) (n : Int) (w : World) (h : w.heap[b]? = some (st.obj (.slice ma ms.length mc) v u hv))
    (hm : SI w (.slice ma ms.length mc) ms) (hml : ms.length ≤ 1000) (hhl : st.h.length ≤ 900) (ho : OI w B hv st.h) (hB : B ≤ w.heap.size) (hmB : ∀ k, (Value.slice ma ms.length mc).ownBlock = some k → k < B ∧ k ≠ b) (hp0 : 0 ≤ st.ph) (hp1 : st.ph ≤ 3) :
    Calls Try.prog 23 #[.pointer (some ⟨b, 0, none⟩), .int .i64 n] w fun e w' =>
      e = .returned (.bool (st.enough ms n)) ∧ Fr (ChF b hv) w w' ∧ ∃ hv', w'.heap[b]? = some ((st.hear ms n).obj (.slice ma ms.length mc) v u hv') ∧ OI w' B hv' (st.hear ms n).h ∧ (∀ k, hv'.ownBlock = some k → hv.ownBlock = some k ∨ w.heap.size ≤ k) := by
  obtain ⟨i0, hi, hz0, hz1, hz2⟩ := info_parts Try.infoInt
  have hl : b < w.heap.size := (Array.getElem?_eq_some_iff.1 h).1
  have hne := oi_ne ho h (by decide)
  obtain ⟨c0, c1, c2, c3, c4, c5, c6, c7, c8, c9, c10, c11, c12, c13, c14⟩ := ch_cells h
  clear c0 c1 c2 c3 c4 c5 c6 c7 c8 c9 c10 c11 c12 c13
  have Q0 := Lib.hid (And.intro h (And.intro ho hm))
  have HNE := Lib.hid hne
  have HB := Lib.hid hB
  have HHL := Lib.hid hhl
  have HMB := Lib.hid hmB
  unfold ChN.enough ChN.hear
  obtain ⟨M, hM⟩ : ∃ M, M = decide ((ms.length : Int) < 2 * (inC ms (st.h ++ [n]) : Int)) := ⟨_, rfl⟩
  have hM2 : ((ms.length : Int) < 2 * (inC ms (st.h ++ [n]) : Int)) ↔ M = true := by rw [hM]; simp
  simp only [hM2, Bool.decide_eq_true]
  have HM := Lib.hid hM
  clear h ho hm hne hhl hB hmB hM hM2
  go_enter Try.func23, Try.ntmps23
  go_wp2_with (at_builtin; refine wpList_append_sep rfl (.tmp 9) (.tmp 11) 31 31 rfl B 3 i0 (.int .i64 0) 1 8 Try.underlying31 _ Try.underlying31 (.inr ⟨_, rfl⟩) hi hz0 hz1 hz2 rfl (by decide) hv st.h.length (st.h.map (Value.int .i64)) rfl ?own (.slice (some ⟨w.heap.size, 0, none⟩) 1 1) 1 [.int .i64 n] rfl (fun _ => lenOf_slice _ _ _ _) rfl ?c1 ?c2 ?one ?b1 ?b2 ?base ?grow)
  case own => exact World.ownsRow.alloc Q0.out.2.1 _
  case c1 => exact first_row (heap_alloc_new _ _) 1 1 rfl
  case c2 => exact first_row (by exact heap_alloc_new _ _) 1 1 rfl
  case one => intro u hu; simp at hu; subst hu; rfl
  case b1 => have := HHL.out; unfold maxLen; omega
  case b2 => have := HHL.out; omega
  case base => have := HB.out; simp; omega
  case grow =>
    intro hv1 w1 hown hg hvv
    have hsz := hg.size
    have f1 : Fr (fun k => hv.ownBlock = some k) w w1 := (((Fr.refl _ _).alloc _).trans (Fr.of_grown hg) (fun i _ e => e.symm))
    have hq1 := crow_kept Q0.out.1 f1 (fun e => HNE.out e)
    have hm1 : SI w1 (.slice ma ms.length mc) ms := Q0.out.2.2.keep f1 (.inr (fun k hk e => by
      have h1 := (HMB.out k hk).1
      have h2 := oi_le Q0.out.2.1 k e
      omega))
    have hn1 : ∀ k, hv1.ownBlock = some k → hv.ownBlock = some k ∨ w.heap.size ≤ k := by
      intro k hk
      rcases hvv with e | e
      · rw [e] at hk; exact .inl hk
      · rw [e] at hk
        simp at hk
        right; omega
    have ho1 : OI w1 B hv1 (st.h ++ [n]) := oi_snoc hown rfl
    have hl1 : (st.h ++ [n]).length ≤ 1000 := by have := HHL.out; simp; omega
    obtain ⟨hh, hhe⟩ : ∃ hh, hh = st.h ++ [n] := ⟨_, rfl⟩
    rw [← hhe] at hl1 ho1
    have HM1 : Hid (M = decide ((ms.length : Int) < 2 * (inC ms hh : Int))) := Lib.hid (by rw [hhe]; exact HM.out)
    have HL1 := Lib.hid hl1
    have HHE := Lib.hid hhe
    clear hhe
    have hb1 : hv1.ownBlock ≠ some b := oi_ne ho1 hq1 (by decide)
    have Q1 := Lib.hid (And.intro hq1 (And.intro ho1 (And.intro hm1 (And.intro f1 (And.intro hn1 hb1)))))
    obtain ⟨c0, c1, c2, c3, c4, c5, c6, c7, c8, c9, c10, c11, c12, c13, c14'⟩ := ch_cells hq1
    have z14 := vfree hq1 14
    obtain ⟨a1, k1, hv1e, hv1s⟩ := ho1.si.shape
    subst hv1e
    clear c0 c1 c2 c3 c4 c5 c6 c7 c8 c9 c10 c11 c12 c13 hown hg hvv f1 hq1 hm1 hn1 ho1 hl1 hb1 hsz c14 Q0
    go_upto_region 2 with fail
    have hq2 : (w1.setCell ⟨b, 14, none⟩ (.slice a1 hh.length k1)).heap[b]? = some (oCh (.slice ma ms.length mc) st.ph st.br st.bn st.x.k st.x.t st.x.n st.x.p v u st.gr st.gn st.rep (.slice a1 hh.length k1)) := by
      rw [heap_setCell_same w1 b 14 _ _ _ Q1.out.1]; rfl
    have fs : Fr (fun k => k = b) w1 (w1.setCell ⟨b, 14, none⟩ (.slice a1 hh.length k1)) := Fr.setCell (S := fun k => k = b) (Fr.refl _ _) (p := ⟨b, 14, none⟩) (fun _ => rfl) _
    have f2 : Fr (ChF b hv) w (w1.setCell ⟨b, 14, none⟩ (.slice a1 hh.length k1)) := (Q1.out.2.2.2.1.mono (fun _ _ h => .inr h)).trans fs (fun _ _ h => .inl h)
    have ho2 := oi_fr Q1.out.2.1 fs (fun k hk e => Q1.out.2.2.2.2.2 (by rw [hk, e]))
    have hmb : (Value.slice ma ms.length mc).ownBlock ≠ some b := fun e => (HMB.out b e).2 rfl
    have hm2 : SI (w1.setCell ⟨b, 14, none⟩ (.slice a1 hh.length k1)) (.slice ma ms.length mc) ms := Q1.out.2.2.1.keep fs (.inr (fun k hk e => hmb (by rw [hk, e])))
    have hn2 := Q1.out.2.2.2.2.1
    generalize w1.setCell ⟨b, 14, none⟩ (.slice a1 hh.length k1) = w2 at *
    have Q2 := Lib.hid (And.intro hq2 (And.intro ho2 (And.intro hm2 (And.intro f2 hn2))))
    have HMC := Lib.hid (sic_of hm2)
    have HHC := Lib.hid (sic_of ho2.si)
    clear hq2 fs f2 ho2 hmb hm2 hn2 Q1 z14 c14'
    refine wp_region_told (by kernel_rfl) (fun a b => Fr (fun _ => False) a b) (fun w => Fr.refl _ w) (fun _ _ _ h k => h.trans k (fun _ _ h => h)) [15, 16, 17, 18, 19, 20, 21, 22, 23, 24] rfl (by decide) (by intro d hd; simp at hd ⊢; omega)
      (fun i v _ => v = ([.pointer (some ⟨b, 0, none⟩), .pointer (some ⟨b, 0, none⟩), .pointer (some ⟨b, 0, none⟩), .agg #[.int .i64 0, .slice ma ms.length mc], .pointer (some ⟨b, 0, none⟩), .pointer (some ⟨b, 0, none⟩), .pointer (some ⟨b, 14, none⟩), .slice a1 hh.length k1, .bool M, .bool (!M)] : List Value).getD i undef)
      (fun _ _ _ _ _ h => h) (by kernel_rfl) ?step1 ?fin1
    case step1 =>
      intro vals
      simp only [frOf, fill, List.setIfInBounds_toArray, List.set_cons_succ, List.set_cons_zero]
      repeat' (first | exact AllOps.nil | refine AllOps.cons ?_ ?_)
      all_goals
        intro wx hle he K' hK
        simp only [Act.put, List.setIfInBounds_toArray, List.set_cons_succ, List.set_cons_zero, List.getD_cons_zero, List.getD_cons_succ] at hK
        simp only [List.mem_cons, List.not_mem_nil, or_false, forall_eq_or_imp, forall_eq, Region.binds, forall_const, false_imp_iff, List.getD_cons_zero, List.getD_cons_succ] at he
        try simp only [he] at hK ⊢
        have hl5 := Fr.trans (Fr.drew (Fr.refl (fun _ => False) w2)) hle (fun _ _ h => h)
        have HL := Lib.hid hl5
        obtain ⟨c0, c1, c2, c3, c4, c5, c6, c7, c8, c9, c10, c11, c12, c13, c14⟩ := ch_cells (crow_kept Q2.out.1 hl5 (fun h => h))
        clear hl5 hle he c2 c3 c4 c5 c6 c7 c8 c9 c10 c11 c12 c13
        try go_simp
      all_goals first
        | exact hK _ _ (Fr.refl _ _) rfl
        | skip
      · go_at_call 31; refine (most_any 0 ms hh ma a1 mc k1 _ (HMC.out.fr HL.out) (HHC.out.fr HL.out) hml HL1.out).mono ?_; rintro e1 wa ⟨rfl, fa⟩; rw [← HM1.out]; exact hK _ _ fa rfl
    case fin1 =>
      intro vals w' hle hV
      have h9 : vals 9 = .bool (!M) := hV 9 (by decide)
      clear hV
      have hw := Fr.trans (Fr.drew (Fr.refl (fun _ => False) w2)) hle (fun _ _ h => h)
      have F3 := Lib.hid (Q2.out.2.2.2.1.trans hw (fun _ _ h => h.elim))
      have Q3 := Lib.hid (And.intro (crow_kept Q2.out.1 hw (fun h => h)) (And.intro (oi_fr Q2.out.2.1 hw (fun _ _ h => h)) Q2.out.2.2.2.2))
      clear hle hw Q2
      simp only [frOf, fill, List.setIfInBounds_toArray, List.set_cons_succ, List.set_cons_zero, Nat.reduceAdd]
      simp only [h9]
      clear h9
      cases M with
      | false =>
        simp only [Bool.not_false]
        go_wp2_with fail
        go_ret
        exact ⟨rfl, F3.out, _, Q3.out.1, HHE.out ▸ Q3.out.2.1, Q3.out.2.2⟩
      | true =>
        simp only [Bool.not_true]
        obtain ⟨c0, c1, c2, c3, c4, c5, c6, c7, c8, c9, c10, c11, c12, c13, c14⟩ := ch_cells Q3.out.1
        have z2 := vfree Q3.out.1 2
        have z14 := vfree Q3.out.1 14
        clear c0 c1 c3 c4 c5 c6 c7 c8 c9 c10 c11 c12 c13
        go_wp2_with fail
        go_ret
        have g1 : (w'.setCell ⟨b, 2, none⟩ (.int .u8 (st.ph + 1))).heap[b]? = some (oCh (.slice ma ms.length mc) (st.ph + 1) st.br st.bn st.x.k st.x.t st.x.n st.x.p v u st.gr st.gn st.rep (.slice a1 hh.length k1)) := by
          rw [heap_setCell_same w' b 2 _ _ _ Q3.out.1]; rfl
        refine ⟨rfl, (F3.out.setCell (p := ⟨b, 2, none⟩) (fun _ => .inl rfl) _).setCell (p := ⟨b, 14, none⟩) (fun _ => .inl rfl) _, nilS, ?_, World.ownsRow_nil _ _ _ _, fun k hk => by cases hk⟩
        rw [heap_setCell_same _ b 14 _ _ _ g1]; rfl

end Go.Proofs.Ytcjijafmfomohaa
