/-
  Two blocks laid with known cells in a region that draws its order ('x, y := f(), g()' where what f and g answer is known): what holds while this goes on. a1, a2: the new blocks; s1, s2: the stores.
-/
import Derived.Test.YtojfabhbkdddpaaRegionL
namespace Go.Proofs.Ytojfabhbkdddpaa
open Go.RowKit

theorem qmode_gc : (Region.Mode.any == Region.Mode.gc) = false := rfl

def qptr (g : Nat) : Value := .pointer (some ⟨g, 0, none⟩)
theorem qptr_inj {g g' : Nat} (h : qptr g = qptr g') : g = g' := by unfold qptr at h; simpa using h
def qupd (st : Nat → Option Value) (i : Nat) (v : Value) : Nat → Option Value := fun j => if j = i then some v else st j
theorem qupd_at (st : Nat → Option Value) (i : Nat) (v : Value) : qupd st i v i = some v := by unfold qupd; rw [if_pos rfl]
theorem qupd_ne (st : Nat → Option Value) (i j : Nat) (v : Value) (h : j ≠ i) : qupd st i v j = st j := by unfold qupd; rw [if_neg h]

/-- Two blocks made since w, of these cells. -/
def Two (w : World) (x y : Value) (cx cy : Array Value) (tx ty : TypeId) (wx : World) : Prop :=
  ∃ g1 g2, x = .pointer (some ⟨g1, 0, none⟩) ∧ y = .pointer (some ⟨g2, 0, none⟩) ∧ g1 ≠ g2 ∧ w.heap.size ≤ g1 ∧ w.heap.size ≤ g2 ∧ Fr (fun _ => False) w wx ∧ wx.heap[g1]? = some (.cells cx tx (0, 0)) ∧ wx.heap[g2]? = some (.cells cy ty (0, 0))

structure PX (tx ty : TypeId) (zx zy cx cy : Array Value) (a1 a2 s1 s2 : Nat) (w : World) (st : Nat → Option Value) (wx : World) : Prop where
  fr : Fr (fun _ => False) w wx
  p1 : ∀ v, st a1 = some v → ∃ g, v = qptr g ∧ w.heap.size ≤ g ∧ wx.heap[g]? = some (.cells (if (st s1).isNone then zx else cx) tx (0, 0))
  p2 : ∀ v, st a2 = some v → ∃ g, v = qptr g ∧ w.heap.size ≤ g ∧ wx.heap[g]? = some (.cells (if (st s2).isNone then zy else cy) ty (0, 0))
  ne : ∀ v, st a1 = some v → st a2 ≠ some v

theorem kept_box {S : Nat → Prop} {w0 w1 : World} {b : Nat} {o : Obj} (h : w0.heap[b]? = some o) (f : Fr S w0 w1) (hb : ¬ S b) : w1.heap[b]? = some o := by
  rw [f.block b (Array.getElem?_eq_some_iff.1 h).1 hb]; exact h

theorem qfree {w : World} {b : Nat} {cs : Array Value} {t : TypeId} (h : w.heap[b]? = some (.cells cs t (0, 0))) (i : Nat) : w.frozen? ⟨b, i, none⟩ = false := by
  simp [World.frozen?, h]
theorem qrow {w : World} {b : Nat} {cs : Array Value} {t : TypeId} (h : w.heap[b]? = some (.cells cs t (0, 0))) (i : Nat) (u : Value) (hu : cs[i]? = some u) : w.cell? ⟨b, i, none⟩ = some u := by
  simp only [World.cell?, h]
  simpa using hu

section
variable {tx ty : TypeId} {zx zy cx cy : Array Value} {a1 a2 s1 s2 : Nat} {w wx wy : World} {st : Nat → Option Value}

theorem PX.start : PX tx ty zx zy cx cy a1 a2 s1 s2 w (fun _ => none) w.drew :=
  ⟨(Fr.refl _ _).drew, fun v h => (by cases h), fun v h => (by cases h), fun v h => (by cases h)⟩

theorem PX.call (h : PX tx ty zx zy cx cy a1 a2 s1 s2 w st wx) (i : Nat) (v : Value) (f : Fr (fun _ => False) wx wy) (h1 : i ≠ a1) (h2 : i ≠ a2) (h3 : i ≠ s1) (h4 : i ≠ s2) : PX tx ty zx zy cx cy a1 a2 s1 s2 w (qupd st i v) wy := by
  refine ⟨h.fr.trans f (fun _ _ h => h), fun u hu => ?_, fun u hu => ?_, fun u hu => ?_⟩
  · rw [qupd_ne _ _ _ _ h1.symm] at hu
    obtain ⟨g, e, hg, hc⟩ := h.p1 u hu
    exact ⟨g, e, hg, by rw [qupd_ne _ _ _ _ h3.symm]; exact kept_box hc f (fun h => h)⟩
  · rw [qupd_ne _ _ _ _ h2.symm] at hu
    obtain ⟨g, e, hg, hc⟩ := h.p2 u hu
    exact ⟨g, e, hg, by rw [qupd_ne _ _ _ _ h4.symm]; exact kept_box hc f (fun h => h)⟩
  · rw [qupd_ne _ _ _ _ h1.symm] at hu
    rw [qupd_ne _ _ _ _ h2.symm]
    exact h.ne u hu

theorem PX.alloc1 (h : PX tx ty zx zy cx cy a1 a2 s1 s2 w st wx) (h0 : st s1 = none) (h2 : a1 ≠ a2) (h3 : a1 ≠ s1) (h4 : a1 ≠ s2) : PX tx ty zx zy cx cy a1 a2 s1 s2 w (qupd st a1 (.pointer (some ⟨wx.heap.size, 0, none⟩))) (wx.alloc (.cells zx tx)) := by
  have f : Fr (fun _ => False) wx (wx.alloc (.cells zx tx)) := (Fr.refl _ _).alloc _
  refine ⟨h.fr.trans f (fun _ _ h => h), fun u hu => ?_, fun u hu => ?_, fun u hu => ?_⟩
  · rw [qupd_at] at hu
    cases hu
    refine ⟨_, rfl, h.fr.size, ?_⟩
    rw [qupd_ne _ _ _ _ h3.symm, h0]
    exact heap_alloc_new wx _
  · rw [qupd_ne _ _ _ _ h2.symm] at hu
    obtain ⟨g, e, hg, hc⟩ := h.p2 u hu
    exact ⟨g, e, hg, by rw [qupd_ne _ _ _ _ h4.symm]; exact kept_box hc f (fun h => h)⟩
  · rw [qupd_at] at hu
    cases hu
    rw [qupd_ne _ _ _ _ h2.symm]
    intro hu
    obtain ⟨g, e, hg, hc⟩ := h.p2 _ hu
    have := qptr_inj e
    have := (Array.getElem?_eq_some_iff.1 hc).1
    omega

theorem PX.alloc2 (h : PX tx ty zx zy cx cy a1 a2 s1 s2 w st wx) (h0 : st s2 = none) (h2 : a1 ≠ a2) (h3 : a2 ≠ s1) (h4 : a2 ≠ s2) : PX tx ty zx zy cx cy a1 a2 s1 s2 w (qupd st a2 (.pointer (some ⟨wx.heap.size, 0, none⟩))) (wx.alloc (.cells zy ty)) := by
  have f : Fr (fun _ => False) wx (wx.alloc (.cells zy ty)) := (Fr.refl _ _).alloc _
  refine ⟨h.fr.trans f (fun _ _ h => h), fun u hu => ?_, fun u hu => ?_, fun u hu => ?_⟩
  · rw [qupd_ne _ _ _ _ h2] at hu
    obtain ⟨g, e, hg, hc⟩ := h.p1 u hu
    exact ⟨g, e, hg, by rw [qupd_ne _ _ _ _ h3.symm]; exact kept_box hc f (fun h => h)⟩
  · rw [qupd_at] at hu
    cases hu
    refine ⟨_, rfl, h.fr.size, ?_⟩
    rw [qupd_ne _ _ _ _ h4.symm, h0]
    exact heap_alloc_new wx _
  · rw [qupd_ne _ _ _ _ h2] at hu
    rw [qupd_at]
    intro hv
    cases hv
    obtain ⟨g, e, hg, hc⟩ := h.p1 _ hu
    have := qptr_inj e
    have := (Array.getElem?_eq_some_iff.1 hc).1
    omega

theorem PX.at1 (h : PX tx ty zx zy cx cy a1 a2 s1 s2 w st wx) (h0 : st s1 = none) {v : Value} (hv : st a1 = some v) : ∃ g, v = .pointer (some ⟨g, 0, none⟩) ∧ wx.heap[g]? = some (.cells zx tx (0, 0)) := by
  obtain ⟨g, e, _, hc⟩ := h.p1 v hv
  rw [h0] at hc
  exact ⟨g, e, hc⟩
theorem PX.at2 (h : PX tx ty zx zy cx cy a1 a2 s1 s2 w st wx) (h0 : st s2 = none) {v : Value} (hv : st a2 = some v) : ∃ g, v = .pointer (some ⟨g, 0, none⟩) ∧ wx.heap[g]? = some (.cells zy ty (0, 0)) := by
  obtain ⟨g, e, _, hc⟩ := h.p2 v hv
  rw [h0] at hc
  exact ⟨g, e, hc⟩

theorem PX.store1 (h : PX tx ty zx zy cx cy a1 a2 s1 s2 w st wx) {g : Nat} (hv : st a1 = some (.pointer (some ⟨g, 0, none⟩))) (u : Value) (h1 : s1 ≠ a1) (h2 : s1 ≠ a2) (h3 : s1 ≠ s2)
    (hy : wy.heap[g]? = some (.cells cx tx (0, 0))) (f : Fr (fun k => k = g) wx wy) : PX tx ty zx zy cx cy a1 a2 s1 s2 w (qupd st s1 u) wy := by
  obtain ⟨g', e, hg, _⟩ := h.p1 _ hv
  obtain rfl := qptr_inj (g := g) e
  refine ⟨h.fr.trans f (fun i hi e => by omega), fun x hx => ?_, fun x hx => ?_, fun x hx => ?_⟩
  · rw [qupd_ne _ _ _ _ h1.symm, hv] at hx
    cases hx
    refine ⟨g, rfl, hg, ?_⟩
    rw [qupd_at]
    exact hy
  · rw [qupd_ne _ _ _ _ h2.symm] at hx
    obtain ⟨g', e, hg', hc⟩ := h.p2 x hx
    refine ⟨g', e, hg', ?_⟩
    rw [qupd_ne _ _ _ _ h3.symm]
    refine kept_box hc f (fun e' => h.ne _ hv ?_)
    rw [hx, e, e']
    rfl
  · rw [qupd_ne _ _ _ _ h1.symm] at hx
    rw [qupd_ne _ _ _ _ h2.symm]
    exact h.ne x hx

theorem PX.store2 (h : PX tx ty zx zy cx cy a1 a2 s1 s2 w st wx) {g : Nat} (hv : st a2 = some (.pointer (some ⟨g, 0, none⟩))) (u : Value) (h1 : s2 ≠ a1) (h2 : s2 ≠ a2) (h3 : s2 ≠ s1)
    (hy : wy.heap[g]? = some (.cells cy ty (0, 0))) (f : Fr (fun k => k = g) wx wy) : PX tx ty zx zy cx cy a1 a2 s1 s2 w (qupd st s2 u) wy := by
  obtain ⟨g', e, hg, _⟩ := h.p2 _ hv
  obtain rfl := qptr_inj (g := g) e
  refine ⟨h.fr.trans f (fun i hi e => by omega), fun x hx => ?_, fun x hx => ?_, fun x hx => ?_⟩
  · rw [qupd_ne _ _ _ _ h1.symm] at hx
    obtain ⟨g', e, hg', hc⟩ := h.p1 x hx
    refine ⟨g', e, hg', ?_⟩
    rw [qupd_ne _ _ _ _ h3.symm]
    refine kept_box hc f (fun e' => h.ne _ hx ?_)
    rw [hv, e, e']
    rfl
  · rw [qupd_ne _ _ _ _ h2.symm, hv] at hx
    cases hx
    refine ⟨g, rfl, hg, ?_⟩
    rw [qupd_at]
    exact hy
  · rw [qupd_ne _ _ _ _ h1.symm] at hx
    rw [qupd_ne _ _ _ _ h2.symm]
    exact h.ne x hx

theorem PX.fin (h : PX tx ty zx zy cx cy a1 a2 s1 s2 w st wx) {x y u v : Value} (e1 : st a1 = some x) (e2 : st a2 = some y) (e3 : st s1 = some u) (e4 : st s2 = some v) : Two w x y cx cy tx ty wx := by
  obtain ⟨g1, e, hg1, hc1⟩ := h.p1 _ e1
  obtain ⟨g2, e', hg2, hc2⟩ := h.p2 _ e2
  rw [e3] at hc1
  rw [e4] at hc2
  refine ⟨g1, g2, e, e', fun hh => h.ne _ e1 (by rw [e2, e, e', hh]), hg1, hg2, h.fr, hc1, hc2⟩
end
end Go.Proofs.Ytojfabhbkdddpaa
