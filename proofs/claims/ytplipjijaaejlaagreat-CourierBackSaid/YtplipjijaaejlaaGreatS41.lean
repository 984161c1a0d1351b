/-
  CouBack, part 41 of what it rests on: ValTurn2, ValTwo, CouOneB.
-/
import Derived.Test.YtplipjijaaejlaaGreatS40
import Derived.Test.YtplipjijaaejlaaGreatS37
import Derived.Test.YtplipjijaaejlaaGreatS33
set_option linter.unusedVariables false
set_option linter.unusedSimpArgs false
set_option maxHeartbeats 64000000
namespace Go.Proofs.YtplipjijaaejlaaGreat
open Go.RowKit
open Go.Lib (hid)
section
attribute [local go_sem] run_store_float

/-- The part itself: there is no way down any more. -/
def LeafAt (wh : Nat) : Prop := ∀ (T : VT) (R : Nat → Prop) (v pv : Value) (w : World) (path : List UInt8) (x : Int) (f : Nat) (s : Txt), VShows R w T v → Sees w pv path → path.length ≤ 1000 →
  -9223372036854775808 ≤ x → x ≤ 9223372036854775807 → f < 18446744073709551616 → s.length ≤ maxLen → szV T ≤ 50000 → (path = [] ∨ ∃ N F S ov, T = .mk N F S 0 ov) →
  Calls Tryz.prog 8 #[v, pv, .int .u8 (wh : Nat), .int .i64 x, .float .f64 f, sv s] w fun e w' => ∃ v', e = .returned v' ∧ VShows (fun k => R k ∨ w.heap.size ≤ k) w' (leafE wh x f s T) v' ∧ Fr (fun _ => False) w w'

theorem turn_all (wh : Nat) (hwh : wh ≤ 255) (hleaf : LeafAt wh) (T : VT) : TurnAt wh T := by
  induction T with
  | nil => exact fun _ _ _ _ _ _ _ _ h => h.elim
  | mk N F S c ov ih =>
    intro R v pv w path x f s h1 h2 h3 h4 h5 h6 h7 h8
    by_cases hc : path = [] ∨ c = 0
    · have e : turnE wh x f s (.mk N F S c ov) path = leafE wh x f s (.mk N F S c ov) := by rw [turnE, if_pos hc]
      rw [e]
      exact hleaf _ R v pv w path x f s h1 h2 h3 h4 h5 h6 h7 h8 (hc.imp_right (fun h => ⟨N, F, S, ov, by rw [h]⟩))
    · cases path with
      | nil => exact absurd (.inl rfl) hc
      | cons p rest => exact turn_in wh N F S c ov ih (by omega) hwh R v pv w p rest x f s h1 h2 h3 h4 h5 h6 h7 h8

set_option maxRecDepth 100000 in
theorem turn_float (wh : Nat) (hwh : wh ≤ 255) (hk : wh % 5 = 1) : LeafAt wh := by
  intro T R v pv w path x f s hvs hpv hpl hx0 hx1 hf hsl hsz hend
  have HVS := Lib.hid (VShows.mono (S := fun k => R k ∧ k < w.heap.size) (fun k hk h => ⟨h, hk⟩) _ _ hvs)
  obtain ⟨N, F, S, c, ov, va, cap, rfl, rfl, hVB, hVK⟩ := vshows_open HVS.out
  obtain ⟨pa, pc, rfl, _⟩ := hpv.shape
  obtain ⟨pl, hpl'⟩ : ∃ pl, path.length = pl := ⟨_, rfl⟩
  have hend' : pl = 0 ∨ c = 0 := by
    rcases hend with h | ⟨_, _, _, _, e⟩
    · left; rw [← hpl', h]; rfl
    · cases e; exact .inr rfl
  rw [hpl'] at hpl ⊢
  have HB := Lib.hid hVB
  have HVK := Lib.hid hVK
  have HSZ := Lib.hid hsz
  have HXF := Lib.hid (And.intro hx0 (And.intro hx1 (And.intro hf hsl)))
  obtain ⟨wz, hwz⟩ : ∃ wz : Int, (wh : Int) = wz := ⟨_, rfl⟩
  rw [hwz]
  have t0 : (wz % 5 == 0) = false := by simp; omega
  have t1 : (wz % 5 == 1) = true := by simp; omega
  have HK := Lib.hid hk
  have wz0 : 0 ≤ wz := by omega
  have wz1 : wz ≤ 255 := by omega
  have hc5 : c ≤ 50000 := by
    have h := hsz
    rw [szV] at h
    have hall : ∀ j, j ≤ ((List.range j).map fun i => szV (ov i)).sum := fun j => by
      induction j with
      | zero => simp
      | succ j ih => rw [List.range_succ, List.map_append, List.sum_append]; have := szV_pos (ov j); simp; omega
    have := hall c
    omega
  unfold sv
  obtain ⟨w1, hw1⟩ : ∃ w1, w1 = (w.alloc (.cells #[.int .i64 N, .float .f64 F, .string ⟨S.toArray⟩, .slice va c cap] 39)).alloc (.cells #[.int .i64 0, .float .f64 0, .string ⟨#[]⟩, .slice none 0 0] 39) := ⟨_, rfl⟩
  have f1 : Fr (fun _ => False) w w1 := by rw [hw1]; exact ((Fr.refl _ _).alloc _).alloc _
  have q1 : w1.heap[w.heap.size]? = some (.cells #[.int .i64 N, .float .f64 F, .string ⟨S.toArray⟩, .slice va c cap] 39 (0, 0)) := by rw [hw1]; exact heap_alloc_first _ _ _
  have p1 : w1.heap[w.heap.size + 1]? = some (.cells #[.int .i64 0, .float .f64 0, .string ⟨#[]⟩, .slice none 0 0] 39 (0, 0)) := by rw [hw1]; exact heap_alloc_two _ _ _
  go_enter Tryz.func8, Tryz.ntmps8
  go_upto_region 1 with fail
  rw [← hw1]
  obtain ⟨rb, hrb⟩ : ∃ rb, w.heap.size + 1 = rb := ⟨_, rfl⟩
  rw [hrb] at p1 ⊢
  have HRB := Lib.hid hrb
  obtain ⟨c0, c1, c2, c3⟩ := cell_of_four q1
  have z0 : w1.frozen? ⟨w.heap.size, 0, none⟩ = false := by simp [World.frozen?, q1]
  have z1 : w1.frozen? ⟨w.heap.size, 1, none⟩ = false := by simp [World.frozen?, q1]
  have z2 : w1.frozen? ⟨w.heap.size, 2, none⟩ = false := by simp [World.frozen?, q1]
  have z3 : w1.frozen? ⟨w.heap.size, 3, none⟩ = false := by simp [World.frozen?, q1]
  have H1 := Lib.hid (And.intro f1 (And.intro q1 p1))
  clear hw1 f1 q1 p1 hrb hvs hpv hpl' hend hVB hVK hsz hx0 hx1 hf hsl hwz hk
  by_cases h0 : pl = 0
  · have hp1 : ¬ (0 : Int) < (pl : Int) := by omega
    clear h0 hend'
    go_upto_region 17 with fail
    obtain ⟨w2, hw2⟩ : ∃ w2, w2 = w1.setCell ⟨w.heap.size, 1, none⟩ (.float .f64 f) := ⟨_, rfl⟩
    rw [← hw2]
    have f2 : Fr (fun k => k = w.heap.size) w1 w2 := by rw [hw2]; exact Fr.set1 (Fr.refl _ _) _ _
    have q2 : w2.heap[w.heap.size]? = some (.cells #[.int .i64 N, .float .f64 f, .string ⟨S.toArray⟩, .slice va c cap] 39 (0, 0)) := by rw [hw2]; exact setCell_row 1 _ H1.out.2.1
    have hvr : w.heap.size < rb := by have := HRB.out; omega
    have p2 := box_kept H1.out.2.2 f2 (fun h => by omega)
    obtain ⟨d0, d1, d2, d3⟩ := cell_of_four q2
    obtain ⟨b0, b1, b2, b3⟩ := cell_of_four p2
    have u0 : w2.frozen? ⟨rb, 0, none⟩ = false := by simp [World.frozen?, p2]
    have u1 : w2.frozen? ⟨rb, 1, none⟩ = false := by simp [World.frozen?, p2]
    have u2 : w2.frozen? ⟨rb, 2, none⟩ = false := by simp [World.frozen?, p2]
    have u3 : w2.frozen? ⟨rb, 3, none⟩ = false := by simp [World.frozen?, p2]
    have H2 := Lib.hid (And.intro (H1.out.1.trans f2 (fun i hi h => by omega)) p2)
    clear hw2 f2 q2 p2 c0 c1 c2 c3 z0 z1 z2 z3
    go_wp2
    refine bodyPost_ret (results_cell_row rfl _ _ rb 39 _ _ _ rfl (store_four H2.out.2) Tryz.underlying39 rfl (by kernel_rfl)) rfl ?_
    have fs : Fr (fun k => k = rb) w2 ((((w2.setCell ⟨rb, 0, none⟩ (.int .i64 N)).setCell ⟨rb, 1, none⟩ (.float .f64 f)).setCell ⟨rb, 2, none⟩ (.string ⟨S.toArray⟩)).setCell ⟨rb, 3, none⟩ (.slice va c cap)) := fr_four _ _ _ _ (Fr.refl _ _) (fun _ => rfl)
    refine ⟨_, rfl, ?_, H2.out.1.trans fs (fun i hi h => by omega)⟩
    have e : leafE wh x f s (.mk N F S c ov) = .mk N f S c ov := by unfold leafE; rw [HK.out]; simp
    rw [e]
    have hb := HB.out
    have hx := HXF.out
    refine VShows.mono (fun k _ (h : R k ∧ k < w.heap.size) => .inl h.1) _ _ (vshows_mk (s := S) (by unfold VB at hb ⊢; omega) ((HVK.out.fr H2.out.1 (fun _ _ h => h)).fr fs (fun k hk e => by omega)))

  · have hp1 : (0 : Int) < (pl : Int) := by omega
    have hc0 : c = 0 := by omega
    have hp2 : ¬ (0 : Int) < (c : Int) := by omega
    clear h0 hend' hc0
    go_upto_region 17 with fail
    obtain ⟨w2, hw2⟩ : ∃ w2, w2 = w1.setCell ⟨w.heap.size, 1, none⟩ (.float .f64 f) := ⟨_, rfl⟩
    rw [← hw2]
    have f2 : Fr (fun k => k = w.heap.size) w1 w2 := by rw [hw2]; exact Fr.set1 (Fr.refl _ _) _ _
    have q2 : w2.heap[w.heap.size]? = some (.cells #[.int .i64 N, .float .f64 f, .string ⟨S.toArray⟩, .slice va c cap] 39 (0, 0)) := by rw [hw2]; exact setCell_row 1 _ H1.out.2.1
    have hvr : w.heap.size < rb := by have := HRB.out; omega
    have p2 := box_kept H1.out.2.2 f2 (fun h => by omega)
    obtain ⟨d0, d1, d2, d3⟩ := cell_of_four q2
    obtain ⟨b0, b1, b2, b3⟩ := cell_of_four p2
    have u0 : w2.frozen? ⟨rb, 0, none⟩ = false := by simp [World.frozen?, p2]
    have u1 : w2.frozen? ⟨rb, 1, none⟩ = false := by simp [World.frozen?, p2]
    have u2 : w2.frozen? ⟨rb, 2, none⟩ = false := by simp [World.frozen?, p2]
    have u3 : w2.frozen? ⟨rb, 3, none⟩ = false := by simp [World.frozen?, p2]
    have H2 := Lib.hid (And.intro (H1.out.1.trans f2 (fun i hi h => by omega)) p2)
    clear hw2 f2 q2 p2 c0 c1 c2 c3 z0 z1 z2 z3
    go_wp2
    refine bodyPost_ret (results_cell_row rfl _ _ rb 39 _ _ _ rfl (store_four H2.out.2) Tryz.underlying39 rfl (by kernel_rfl)) rfl ?_
    have fs : Fr (fun k => k = rb) w2 ((((w2.setCell ⟨rb, 0, none⟩ (.int .i64 N)).setCell ⟨rb, 1, none⟩ (.float .f64 f)).setCell ⟨rb, 2, none⟩ (.string ⟨S.toArray⟩)).setCell ⟨rb, 3, none⟩ (.slice va c cap)) := fr_four _ _ _ _ (Fr.refl _ _) (fun _ => rfl)
    refine ⟨_, rfl, ?_, H2.out.1.trans fs (fun i hi h => by omega)⟩
    have e : leafE wh x f s (.mk N F S c ov) = .mk N f S c ov := by unfold leafE; rw [HK.out]; simp
    rw [e]
    have hb := HB.out
    have hx := HXF.out
    refine VShows.mono (fun k _ (h : R k ∧ k < w.heap.size) => .inl h.1) _ _ (vshows_mk (s := S) (by unfold VB at hb ⊢; omega) ((HVK.out.fr H2.out.1 (fun _ _ h => h)).fr fs (fun k hk e => by omega)))
end
section
attribute [local go_sem] run_store_float

def zero4 : Array Value := #[.int .i64 0, .float .f64 0, .string ⟨#[]⟩, .slice none 0 0]

def vptr (g : Nat) : Value := .pointer (some ⟨g, 0, none⟩)

theorem vptr_inj {g g' : Nat} (h : vptr g = vptr g') : g = g' := by unfold vptr at h; simpa using h

/-- Off the two blocks. -/
def VClear (st : Nat → Option Value) : Nat → Prop := fun k => st 8 ≠ some (vptr k) ∧ st 9 ≠ some (vptr k)

def vupd (st : Nat → Option Value) (i : Nat) (v : Value) : Nat → Option Value := fun j => if j = i then some v else st j

/-- Ahead of the stores. -/
structure VPhA (w : World) (X Y : VT) (st : Nat → Option Value) (wx : World) : Prop where
  fr : Fr (fun _ => False) w wx
  t3 : ∀ v, st 3 = some v → VShows (VClear st) wx X v
  t7 : ∀ v, st 7 = some v → VShows (VClear st) wx Y v
  p8 : ∀ v, st 8 = some v → ∃ g, v = vptr g ∧ w.heap.size ≤ g ∧ wx.heap[g]? = some (.cells zero4 39 (0, 0))
  p9 : ∀ v, st 9 = some v → ∃ g, v = vptr g ∧ w.heap.size ≤ g ∧ wx.heap[g]? = some (.cells zero4 39 (0, 0))
  ne : ∀ v, st 8 = some v → st 9 ≠ some v

/-- Two values in two blocks, all else off them. -/
def VTwoIn (w : World) (X Y : VT) (g8 g9 : Nat) (wx : World) : Prop :=
  Fr (fun _ => False) w wx ∧ g8 ≠ g9 ∧ w.heap.size ≤ g8 ∧ w.heap.size ≤ g9 ∧
  (∃ cs, wx.heap[g8]? = some (.cells cs 39 (0, 0)) ∧ VShows (fun k => k ≠ g8 ∧ k ≠ g9) wx X (.agg cs)) ∧
  (∃ cs, wx.heap[g9]? = some (.cells cs 39 (0, 0)) ∧ VShows (fun k => k ≠ g8 ∧ k ≠ g9) wx Y (.agg cs))

/-- Between the stores. -/
def VPhB (w : World) (X Y : VT) (st : Nat → Option Value) (wx : World) : Prop :=
  ∃ g8 g9 v7, st 8 = some (vptr g8) ∧ st 9 = some (vptr g9) ∧ st 7 = some v7 ∧ Fr (fun _ => False) w wx ∧ g8 ≠ g9 ∧ w.heap.size ≤ g8 ∧ w.heap.size ≤ g9 ∧
  (∃ cs, wx.heap[g8]? = some (.cells cs 39 (0, 0)) ∧ VShows (fun k => k ≠ g8 ∧ k ≠ g9) wx X (.agg cs)) ∧
  wx.heap[g9]? = some (.cells zero4 39 (0, 0)) ∧ VShows (fun k => k ≠ g8 ∧ k ≠ g9) wx Y v7

def VTwoS (w : World) (X Y : VT) (st : Nat → Option Value) (wx : World) : Prop := match st 10, st 11 with
  | none, none => VPhA w X Y st wx
  | some _, none => VPhB w X Y st wx
  | _, some _ => ∃ g8 g9, st 8 = some (vptr g8) ∧ st 9 = some (vptr g9) ∧ VTwoIn w X Y g8 g9 wx

theorem VTwoS.a {w : World} {X Y : VT} {st : Nat → Option Value} {wx : World} (h : VTwoS w X Y st wx) (h10 : st 10 = none) (h11 : st 11 = none) : VPhA w X Y st wx := by
  unfold VTwoS at h; rw [h10, h11] at h; exact h

theorem VPhA.two {w : World} {X Y : VT} {st : Nat → Option Value} {wx : World} (h : VPhA w X Y st wx) (h10 : st 10 = none) (h11 : st 11 = none) : VTwoS w X Y st wx := by
  unfold VTwoS; rw [h10, h11]; exact h

theorem VTwoS.fr {w : World} {X Y : VT} {st : Nat → Option Value} {wx : World} (h : VTwoS w X Y st wx) : Fr (fun _ => False) w wx := by
  unfold VTwoS at h
  split at h
  · exact h.fr
  · obtain ⟨_, _, _, _, _, _, hf, _⟩ := h; exact hf
  · obtain ⟨_, _, _, _, hf, _⟩ := h; exact hf

theorem VPhA.later {w wx wy : World} {X Y : VT} {st : Nat → Option Value} (h : VPhA w X Y st wx) (f : Fr (fun _ => False) wx wy) : VPhA w X Y st wy where
  fr := h.fr.trans f (fun _ _ h => h)
  t3 v hv := VShows.fr f (fun _ _ h => h) _ _ (h.t3 v hv)
  t7 v hv := VShows.fr f (fun _ _ h => h) _ _ (h.t7 v hv)
  p8 v hv := by obtain ⟨g, e, hg, hc⟩ := h.p8 v hv; exact ⟨g, e, hg, box_kept hc f (fun h => h)⟩
  p9 v hv := by obtain ⟨g, e, hg, hc⟩ := h.p9 v hv; exact ⟨g, e, hg, box_kept hc f (fun h => h)⟩
  ne := h.ne

theorem VPhA.new {w wx wy : World} {X Y T : VT} {st : Nat → Option Value} (h : VPhA w X Y st wx) {v : Value} (ht : VShows (fun k => k < w.heap.size ∨ wx.heap.size ≤ k) wy T v) : VShows (VClear st) wy T v := by
  refine VShows.mono (fun k _ hk => ⟨fun e => ?_, fun e => ?_⟩) _ _ ht
  · obtain ⟨g, eg, hg, hc⟩ := h.p8 _ e
    have := vptr_inj eg
    have := lt_of_block hc
    omega
  · obtain ⟨g, eg, hg, hc⟩ := h.p9 _ e
    have := vptr_inj eg
    have := lt_of_block hc
    omega

theorem VPhA.call3 {w wx wy : World} {X Y : VT} {st : Nat → Option Value} (h : VPhA w X Y st wx) (f : Fr (fun _ => False) wx wy) {v : Value} (ht : VShows (fun k => k < w.heap.size ∨ wx.heap.size ≤ k) wy X v) : VPhA w X Y (vupd st 3 v) wy :=
  have hl := h.later f
  { fr := hl.fr, t3 := fun u hu => by (have e : v = u := by simpa [vupd] using hu); subst e; exact h.new ht, t7 := hl.t7, p8 := hl.p8, p9 := hl.p9, ne := hl.ne }

theorem VPhA.call7 {w wx wy : World} {X Y : VT} {st : Nat → Option Value} (h : VPhA w X Y st wx) (f : Fr (fun _ => False) wx wy) {v : Value} (ht : VShows (fun k => k < w.heap.size ∨ wx.heap.size ≤ k) wy Y v) : VPhA w X Y (vupd st 7 v) wy :=
  have hl := h.later f
  { fr := hl.fr, t3 := hl.t3, t7 := fun u hu => by (have e : v = u := by simpa [vupd] using hu); subst e; exact h.new ht, p8 := hl.p8, p9 := hl.p9, ne := hl.ne }

theorem vclear_new {wx : World} {st : Nat → Option Value} {T : VT} {v : Value} (i : Nat) (h : VShows (VClear st) wx T v) : VShows (VClear (vupd st i (vptr wx.heap.size))) (wx.alloc (.cells zero4 39)) T v := by
  have h1 := VShows.fr ((Fr.refl (fun _ => False) wx).alloc (.cells zero4 39)) (fun _ _ h => h) _ _ (VShows.mono (S := fun k => VClear st k ∧ k < wx.heap.size) (fun k hk h => ⟨h, hk⟩) _ _ h)
  refine VShows.mono (fun k _ hk => ⟨fun e => ?_, fun e => ?_⟩) _ _ h1
  · unfold vupd at e
    split at e
    · have := vptr_inj (Option.some.inj e); omega
    · exact hk.1.1 e
  · unfold vupd at e
    split at e
    · have := vptr_inj (Option.some.inj e); omega
    · exact hk.1.2 e

theorem VPhA.alloc8 {w wx : World} {X Y : VT} {st : Nat → Option Value} (h : VPhA w X Y st wx) : VPhA w X Y (vupd st 8 (vptr wx.heap.size)) (wx.alloc (.cells zero4 39)) :=
  have hl := h.later ((Fr.refl (fun _ => False) wx).alloc (.cells zero4 39))
  { fr := hl.fr, t3 := fun u hu => vclear_new 8 (h.t3 u hu), t7 := fun u hu => vclear_new 8 (h.t7 u hu),
    p8 := fun u hu => by (have e : vptr wx.heap.size = u := by simpa [vupd] using hu); subst e; exact ⟨_, rfl, h.fr.size, heap_alloc_new _ _⟩,
    p9 := hl.p9,
    ne := fun u hu e => by
      have e1 : vptr wx.heap.size = u := by simpa [vupd] using hu
      subst e1
      obtain ⟨g, eg, _, hc⟩ := h.p9 _ e
      have := vptr_inj eg
      have := lt_of_block hc
      omega }

theorem VPhA.alloc9 {w wx : World} {X Y : VT} {st : Nat → Option Value} (h : VPhA w X Y st wx) : VPhA w X Y (vupd st 9 (vptr wx.heap.size)) (wx.alloc (.cells zero4 39)) :=
  have hl := h.later ((Fr.refl (fun _ => False) wx).alloc (.cells zero4 39))
  { fr := hl.fr, t3 := fun u hu => vclear_new 9 (h.t3 u hu), t7 := fun u hu => vclear_new 9 (h.t7 u hu),
    p8 := hl.p8,
    p9 := fun u hu => by (have e : vptr wx.heap.size = u := by simpa [vupd] using hu); subst e; exact ⟨_, rfl, h.fr.size, heap_alloc_new _ _⟩,
    ne := fun u hu e => by
      have e1 : vptr wx.heap.size = u := by simpa [vupd] using e
      subst e1
      obtain ⟨g, eg, _, hc⟩ := h.p8 _ hu
      have := vptr_inj eg
      have := lt_of_block hc
      omega }

theorem VPhA.store10 {w wx wy : World} {X Y : VT} {st : Nat → Option Value} (h : VPhA w X Y st wx) {v3 v7 u : Value} {g8 g9 : Nat} {cs : Array Value} (h3 : st 3 = some v3) (h7 : st 7 = some v7) (h8 : st 8 = some (vptr g8)) (h9 : st 9 = some (vptr g9)) (h11 : st 11 = none) (hv : v3 = .agg cs)
    (hy : wy.heap[g8]? = some (.cells cs 39 (0, 0))) (f : Fr (fun k => k = g8) wx wy) : VTwoS w X Y (vupd st 10 u) wy := by
  unfold VTwoS
  rw [show vupd st 10 u 10 = some u from rfl, show vupd st 10 u 11 = st 11 from rfl, h11]
  obtain ⟨g, e, hg8, hc8⟩ := h.p8 _ h8
  obtain rfl := vptr_inj e
  obtain ⟨g', e', hg9, hc9⟩ := h.p9 _ h9
  obtain rfl := vptr_inj e'
  have hne : g8 ≠ g9 := fun e => h.ne _ h8 (by rw [h9, e])
  have key : ∀ T v, VShows (VClear st) wx T v → VShows (fun k => k ≠ g8 ∧ k ≠ g9) wy T v := fun T v hv =>
    VShows.fr f (fun k hk e => hk.1 e) _ _ (VShows.mono (S := fun k => k ≠ g8 ∧ k ≠ g9) (fun k _ hk => ⟨fun e => hk.1 (by rw [e]; exact h8), fun e => hk.2 (by rw [e]; exact h9)⟩) _ _ hv)
  exact ⟨g8, g9, v7, h8, h9, h7, h.fr.trans f (fun i hi e => by omega), hne, hg8, hg9, ⟨cs, hy, hv ▸ key _ _ (h.t3 _ h3)⟩, box_kept hc9 f (fun e => hne e.symm), key _ _ (h.t7 _ h7)⟩

theorem VPhB.store11 {w wx wy : World} {X Y : VT} {st : Nat → Option Value} (h : VPhB w X Y st wx) {v7 u : Value} {g9 : Nat} {cs : Array Value} (h7 : st 7 = some v7) (h9 : st 9 = some (vptr g9)) (hv : v7 = .agg cs)
    (hy : wy.heap[g9]? = some (.cells cs 39 (0, 0))) (f : Fr (fun k => k = g9) wx wy) : VTwoS w X Y (vupd st 11 u) wy := by
  obtain ⟨g8, g, v, h8, h9', h7', hf, hne, hg8, hg9, ⟨cs8, hc8, ht8⟩, hc9, ht9⟩ := h
  obtain rfl := vptr_inj (Option.some.inj (h9'.symm.trans h9))
  obtain rfl := Option.some.inj (h7'.symm.trans h7)
  have e : VTwoS w X Y (vupd st 11 u) wy = ∃ g8 g9, vupd st 11 u 8 = some (vptr g8) ∧ vupd st 11 u 9 = some (vptr g9) ∧ VTwoIn w X Y g8 g9 wy := by
    unfold VTwoS
    rw [show vupd st 11 u 11 = some u from rfl]
    split <;> simp_all
  rw [e]
  exact ⟨g8, g, h8, h9, hf.trans f (fun i hi e => by omega), hne, hg8, hg9, ⟨cs8, box_kept hc8 f hne, VShows.fr f (fun k hk e => hk.2 e) _ _ ht8⟩, ⟨cs, hy, hv ▸ VShows.fr f (fun k hk e => hk.2 e) _ _ ht9⟩⟩
end
section
def WOff (st : Nat → Option Value) : Nat → Prop := fun k => st 6 ≠ some (vptr k)

/-- Ahead of the store. -/
structure WOneA (w : World) (TT : Nat → VT) (vb : Nat) (st : Nat → Option Value) (wx : World) : Prop where
  fr : Fr (fun _ => False) w wx
  f6 : ∀ v, st 4 = some v → ∃ fa, fa < 18446744073709551616 ∧ v = .float .f64 fa
  t8 : ∀ v, st 5 = some v → ∃ fa, fa < 18446744073709551616 ∧ VShows (fun k => WOff st k ∧ k ≠ vb) wx (TT fa) v
  p9 : ∀ v, st 6 = some v → ∃ g, v = vptr g ∧ w.heap.size ≤ g ∧ wx.heap[g]? = some (.cells zero4 39 (0, 0))

/-- A value in its box. -/
def WOneIn (w : World) (TT : Nat → VT) (vb : Nat) (g : Nat) (wx : World) : Prop :=
  Fr (fun _ => False) w wx ∧ w.heap.size ≤ g ∧ ∃ cs fa, fa < 18446744073709551616 ∧ wx.heap[g]? = some (.cells cs 39 (0, 0)) ∧ VShows (fun k => k ≠ g ∧ k ≠ vb) wx (TT fa) (.agg cs)

def WOneS (w : World) (TT : Nat → VT) (vb : Nat) (st : Nat → Option Value) (wx : World) : Prop := match st 7 with
  | none => WOneA w TT vb st wx
  | some _ => ∃ g, st 6 = some (vptr g) ∧ WOneIn w TT vb g wx

theorem WOneS.a {w : World} {TT : Nat → VT} {vb : Nat} {st : Nat → Option Value} {wx : World} (h : WOneS w TT vb st wx) (h10 : st 7 = none) : WOneA w TT vb st wx := by
  unfold WOneS at h; rw [h10] at h; exact h

theorem WOneA.one {w : World} {TT : Nat → VT} {vb : Nat} {st : Nat → Option Value} {wx : World} (h : WOneA w TT vb st wx) (h10 : st 7 = none) : WOneS w TT vb st wx := by
  unfold WOneS; rw [h10]; exact h

theorem WOneS.fr {w : World} {TT : Nat → VT} {vb : Nat} {st : Nat → Option Value} {wx : World} (h : WOneS w TT vb st wx) : Fr (fun _ => False) w wx := by
  unfold WOneS at h
  split at h
  · exact h.fr
  · obtain ⟨_, _, hf, _⟩ := h; exact hf

theorem WOneA.later {w wx wy : World} {TT : Nat → VT} {vb : Nat} {st : Nat → Option Value} (h : WOneA w TT vb st wx) (f : Fr (fun _ => False) wx wy) : WOneA w TT vb st wy where
  fr := h.fr.trans f (fun _ _ h => h)
  f6 := h.f6
  t8 v hv := by obtain ⟨fa, h1, h2⟩ := h.t8 v hv; exact ⟨fa, h1, VShows.fr f (fun _ _ h => h) _ _ h2⟩
  p9 v hv := by obtain ⟨g, e, hg, hc⟩ := h.p9 v hv; exact ⟨g, e, hg, box_kept hc f (fun h => h)⟩

theorem WOneA.call4 {w wx : World} {TT : Nat → VT} {vb : Nat} {st : Nat → Option Value} (h : WOneA w TT vb st wx) {fa : Nat} (hfa : fa < 18446744073709551616) : WOneA w TT vb (vupd st 4 (.float .f64 fa)) wx :=
  { fr := h.fr, f6 := fun u hu => by (have e : Value.float .f64 fa = u := by simpa [vupd] using hu); subst e; exact ⟨fa, hfa, rfl⟩, t8 := h.t8, p9 := h.p9 }

theorem WOneA.call5 {w wx wy : World} {TT : Nat → VT} {vb : Nat} {st : Nat → Option Value} (h : WOneA w TT vb st wx) (f : Fr (fun _ => False) wx wy) {fa : Nat} (hfa : fa < 18446744073709551616) {v : Value} (ht : VShows (fun k => (k < w.heap.size ∨ wx.heap.size ≤ k) ∧ k ≠ vb) wy (TT fa) v) : WOneA w TT vb (vupd st 5 v) wy :=
  have hl := h.later f
  { fr := hl.fr, f6 := hl.f6, t8 := fun u hu => by
      have e : v = u := by simpa [vupd] using hu
      subst e
      refine ⟨fa, hfa, VShows.mono (fun k _ hk => ?_) _ _ ht⟩
      refine ⟨?_, hk.2⟩
      replace hk := hk.1
      intro e
      obtain ⟨g, eg, hg, hc⟩ := h.p9 _ e
      have := vptr_inj eg
      have := lt_of_block hc
      omega
    p9 := hl.p9 }

theorem WOneA.alloc6 {w wx : World} {TT : Nat → VT} {vb : Nat} {st : Nat → Option Value} (h : WOneA w TT vb st wx) : WOneA w TT vb (vupd st 6 (vptr wx.heap.size)) (wx.alloc (.cells zero4 39)) :=
  have f : Fr (fun _ => False) wx (wx.alloc (.cells zero4 39)) := (Fr.refl (fun _ => False) wx).alloc (.cells zero4 39)
  { fr := h.fr.trans f (fun _ _ h => h), f6 := h.f6,
    t8 := fun u hu => by
      obtain ⟨fa, h1, h2⟩ := h.t8 u hu
      refine ⟨fa, h1, VShows.mono (fun k _ hk => ?_) _ _ (VShows.fr f (fun _ _ h => h) _ _ (VShows.mono (S := fun k => k < wx.heap.size ∧ k ≠ vb) (fun k hk h => ⟨hk, h.2⟩) _ _ h2))⟩
      refine ⟨?_, hk.2⟩
      replace hk := hk.1
      intro e
      have := vptr_inj (Option.some.inj (show some (vptr wx.heap.size) = some (vptr k) from e))
      omega
    p9 := fun u hu => by (have e : vptr wx.heap.size = u := by simpa [vupd] using hu); subst e; exact ⟨_, rfl, h.fr.size, heap_alloc_new _ _⟩ }

theorem WOneA.store7 {w wx wy : World} {TT : Nat → VT} {vb : Nat} {st : Nat → Option Value} (h : WOneA w TT vb st wx) {v8 u : Value} {g : Nat} {cs : Array Value} (h8 : st 5 = some v8) (h9 : st 6 = some (vptr g)) (hv : v8 = .agg cs)
    (hy : wy.heap[g]? = some (.cells cs 39 (0, 0))) (f : Fr (fun k => k = g) wx wy) : WOneS w TT vb (vupd st 7 u) wy := by
  unfold WOneS
  rw [show vupd st 7 u 7 = some u from rfl]
  obtain ⟨g', e, hg, hc⟩ := h.p9 _ h9
  obtain rfl := vptr_inj e
  obtain ⟨fa, hfa, ht⟩ := h.t8 _ h8
  subst hv
  refine ⟨g, h9, h.fr.trans f (fun i hi e => by omega), hg, cs, fa, hfa, hy, VShows.fr f (fun k hk e => hk.1 e) _ _ (VShows.mono (S := fun k => k ≠ g ∧ k ≠ vb) (fun k _ hk => ⟨fun e => ?_, hk.2⟩) _ _ ht)⟩
  exact hk.1 (by rw [e]; exact h9)
end
end Go.Proofs.YtplipjijaaejlaaGreat
