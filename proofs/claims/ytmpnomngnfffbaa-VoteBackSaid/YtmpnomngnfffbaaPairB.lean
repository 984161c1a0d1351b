/-
  Two things made side by side by calls, each laid in a block of its own ('x, y := f(), g()'): what holds while this goes on, whatever the order. i1, i2: the calls; i3: a third link that makes memory (a row handed to a call); a1, a2: the new blocks; s1, s2: the stores.
-/
import Derived.Test.YtmpnomngnfffbaaRegionL
import Derived.Test.YtmpnomngnfffbaaRegionC
import Derived.Test.YtmpnomngnfffbaaCallPut
namespace Go.Proofs.Ytmpnomngnfffbaa
open Go.RowKit
set_option linter.unusedVariables false

theorem pmode_gc : (Region.Mode.any == Region.Mode.gc) = false := rfl

/-- What a value shows, in memory of R. -/
structure Seen where
  sh : (Nat → Prop) → World → Value → Prop
  fr : ∀ {R S : Nat → Prop} {w w' : World} {v : Value}, Fr S w w' → (∀ k, R k → ¬ S k) → sh R w v → sh R w' v
  mono : ∀ {R S : Nat → Prop} {w : World} {v : Value}, (∀ k, k < w.heap.size → R k → S k) → sh R w v → sh S w v

def pptr (g : Nat) : Value := .pointer (some ⟨g, 0, none⟩)

theorem pptr_inj {g g' : Nat} (h : pptr g = pptr g') : g = g' := by unfold pptr at h; simpa using h

def pupd (st : Nat → Option Value) (i : Nat) (v : Value) : Nat → Option Value := fun j => if j = i then some v else st j

theorem pupd_at (st : Nat → Option Value) (i : Nat) (v : Value) : pupd st i v i = some v := by unfold pupd; rw [if_pos rfl]

theorem pupd_ne (st : Nat → Option Value) (i j : Nat) (v : Value) (h : j ≠ i) : pupd st i v j = st j := by unfold pupd; rw [if_neg h]

def POff (a1 a2 : Nat) (st : Nat → Option Value) : Nat → Prop := fun k => st a1 ≠ some (pptr k) ∧ st a2 ≠ some (pptr k)

structure PDif (i1 i2 i3 a1 a2 : Nat) : Prop where
  d12 : i1 ≠ i2
  d13 : i1 ≠ i3
  d23 : i2 ≠ i3
  d1a : i1 ≠ a1
  d1b : i1 ≠ a2
  d2a : i2 ≠ a1
  d2b : i2 ≠ a2
  d3a : i3 ≠ a1
  d3b : i3 ≠ a2
  dab : a1 ≠ a2

/-- Ahead of the stores. -/
structure PA (X Y Z : Seen) (tx ty : TypeId) (zx zy : Array Value) (i1 i2 i3 a1 a2 : Nat) (w : World) (st : Nat → Option Value) (wx : World) : Prop where
  fr : Fr (fun _ => False) w wx
  c1 : ∀ v, st i1 = some v → X.sh (POff a1 a2 st) wx v
  c2 : ∀ v, st i2 = some v → Y.sh (POff a1 a2 st) wx v
  c3 : ∀ v, st i3 = some v → Z.sh (POff a1 a2 st) wx v
  p1 : ∀ v, st a1 = some v → ∃ g, v = pptr g ∧ w.heap.size ≤ g ∧ wx.heap[g]? = some (.cells zx tx (0, 0))
  p2 : ∀ v, st a2 = some v → ∃ g, v = pptr g ∧ w.heap.size ≤ g ∧ wx.heap[g]? = some (.cells zy ty (0, 0))
  ne : ∀ v, st a1 = some v → st a2 ≠ some v

/-- Two things in two blocks, all else off them. -/
def PIn (X Y : Seen) (tx ty : TypeId) (w : World) (g1 g2 : Nat) (wx : World) : Prop :=
  Fr (fun _ => False) w wx ∧ g1 ≠ g2 ∧ w.heap.size ≤ g1 ∧ w.heap.size ≤ g2 ∧
  (∃ cs, wx.heap[g1]? = some (.cells cs tx (0, 0)) ∧ X.sh (fun k => k ≠ g1 ∧ k ≠ g2) wx (.agg cs)) ∧
  (∃ cs, wx.heap[g2]? = some (.cells cs ty (0, 0)) ∧ Y.sh (fun k => k ≠ g1 ∧ k ≠ g2) wx (.agg cs))

/-- Between the stores. -/
def PB (X Y : Seen) (tx ty : TypeId) (zy : Array Value) (i2 a1 a2 : Nat) (w : World) (st : Nat → Option Value) (wx : World) : Prop :=
  ∃ g1 g2 v2, st a1 = some (pptr g1) ∧ st a2 = some (pptr g2) ∧ st i2 = some v2 ∧ Fr (fun _ => False) w wx ∧ g1 ≠ g2 ∧ w.heap.size ≤ g1 ∧ w.heap.size ≤ g2 ∧
  (∃ cs, wx.heap[g1]? = some (.cells cs tx (0, 0)) ∧ X.sh (fun k => k ≠ g1 ∧ k ≠ g2) wx (.agg cs)) ∧
  wx.heap[g2]? = some (.cells zy ty (0, 0)) ∧ Y.sh (fun k => k ≠ g1 ∧ k ≠ g2) wx v2

def PS (X Y Z : Seen) (tx ty : TypeId) (zx zy : Array Value) (i1 i2 i3 a1 a2 s1 s2 : Nat) (w : World) (st : Nat → Option Value) (wx : World) : Prop := match st s1, st s2 with
  | none, none => PA X Y Z tx ty zx zy i1 i2 i3 a1 a2 w st wx
  | some _, none => PB X Y tx ty zy i2 a1 a2 w st wx
  | _, some _ => ∃ g1 g2 v2, st a1 = some (pptr g1) ∧ st a2 = some (pptr g2) ∧ st i2 = some v2 ∧ PIn X Y tx ty w g1 g2 wx

section
variable {X Y Z : Seen} {tx ty : TypeId} {zx zy : Array Value} {i1 i2 i3 a1 a2 s1 s2 : Nat} {w wx wy : World} {st : Nat → Option Value}

theorem PS.a (h : PS X Y Z tx ty zx zy i1 i2 i3 a1 a2 s1 s2 w st wx) (h1 : st s1 = none) (h2 : st s2 = none) : PA X Y Z tx ty zx zy i1 i2 i3 a1 a2 w st wx := by
  unfold PS at h; rw [h1, h2] at h; exact h

theorem PS.b {u : Value} (h : PS X Y Z tx ty zx zy i1 i2 i3 a1 a2 s1 s2 w st wx) (h1 : st s1 = some u) (h2 : st s2 = none) : PB X Y tx ty zy i2 a1 a2 w st wx := by
  unfold PS at h; rw [h1, h2] at h; exact h

theorem PA.ps (h : PA X Y Z tx ty zx zy i1 i2 i3 a1 a2 w st wx) (h1 : st s1 = none) (h2 : st s2 = none) : PS X Y Z tx ty zx zy i1 i2 i3 a1 a2 s1 s2 w st wx := by
  unfold PS; rw [h1, h2]; exact h

theorem PS.fr (h : PS X Y Z tx ty zx zy i1 i2 i3 a1 a2 s1 s2 w st wx) : Fr (fun _ => False) w wx := by
  unfold PS at h
  split at h
  · exact h.fr
  · obtain ⟨_, _, _, _, _, _, hf, _⟩ := h; exact hf
  · obtain ⟨_, _, _, _, _, _, hf, _⟩ := h; exact hf

/-- Ahead of the second call nothing is stored. -/
theorem PS.early (h : PS X Y Z tx ty zx zy i1 i2 i3 a1 a2 s1 s2 w st wx) (h2 : st i2 = none) : st s1 = none ∧ st s2 = none := by
  unfold PS at h
  split at h
  · rename_i e1 e2
    exact ⟨e1, e2⟩
  · obtain ⟨_, _, _, _, _, e, _⟩ := h
    rw [h2] at e
    cases e
  · obtain ⟨_, _, _, _, _, e, _⟩ := h
    rw [h2] at e
    cases e

theorem PA.later (h : PA X Y Z tx ty zx zy i1 i2 i3 a1 a2 w st wx) (f : Fr (fun _ => False) wx wy) : PA X Y Z tx ty zx zy i1 i2 i3 a1 a2 w st wy where
  fr := h.fr.trans f (fun _ _ h => h)
  c1 v hv := X.fr f (fun _ _ h => h) (h.c1 v hv)
  c2 v hv := Y.fr f (fun _ _ h => h) (h.c2 v hv)
  c3 v hv := Z.fr f (fun _ _ h => h) (h.c3 v hv)
  p1 v hv := by obtain ⟨g, e, hg, hc⟩ := h.p1 v hv; exact ⟨g, e, hg, crow_kept hc f (fun h => h)⟩
  p2 v hv := by obtain ⟨g, e, hg, hc⟩ := h.p2 v hv; exact ⟨g, e, hg, crow_kept hc f (fun h => h)⟩
  ne := h.ne

theorem PA.new {S : Seen} (h : PA X Y Z tx ty zx zy i1 i2 i3 a1 a2 w st wx) {v : Value} (ht : S.sh (fun k => k < w.heap.size ∨ wx.heap.size ≤ k) wy v) : S.sh (POff a1 a2 st) wy v := by
  refine S.mono (fun k _ hk => ⟨fun e => ?_, fun e => ?_⟩) ht
  · obtain ⟨g, eg, hg, hc⟩ := h.p1 _ e
    have := pptr_inj eg
    have := lt_of_block hc
    omega
  · obtain ⟨g, eg, hg, hc⟩ := h.p2 _ e
    have := pptr_inj eg
    have := lt_of_block hc
    omega

theorem poff_upd (i : Nat) (v : Value) (h1 : i ≠ a1) (h2 : i ≠ a2) : POff a1 a2 (pupd st i v) = POff a1 a2 st := by
  unfold POff
  rw [pupd_ne _ _ _ _ h1.symm, pupd_ne _ _ _ _ h2.symm]

theorem PA.call1 (h : PA X Y Z tx ty zx zy i1 i2 i3 a1 a2 w st wx) (d : PDif i1 i2 i3 a1 a2) (f : Fr (fun _ => False) wx wy) {v : Value} (ht : X.sh (fun k => k < w.heap.size ∨ wx.heap.size ≤ k) wy v) : PA X Y Z tx ty zx zy i1 i2 i3 a1 a2 w (pupd st i1 v) wy := by
  have hl := h.later f
  refine ⟨hl.fr, fun u hu => ?_, fun u hu => ?_, fun u hu => ?_, fun u hu => ?_, fun u hu => ?_, fun u hu => ?_⟩
  · rw [pupd_at] at hu; cases hu; rw [poff_upd _ _ d.d1a d.d1b]; exact h.new ht
  · rw [pupd_ne _ _ _ _ d.d12.symm] at hu; rw [poff_upd _ _ d.d1a d.d1b]; exact hl.c2 u hu
  · rw [pupd_ne _ _ _ _ d.d13.symm] at hu; rw [poff_upd _ _ d.d1a d.d1b]; exact hl.c3 u hu
  · rw [pupd_ne _ _ _ _ d.d1a.symm] at hu; exact hl.p1 u hu
  · rw [pupd_ne _ _ _ _ d.d1b.symm] at hu; exact hl.p2 u hu
  · rw [pupd_ne _ _ _ _ d.d1a.symm] at hu; rw [pupd_ne _ _ _ _ d.d1b.symm]; exact hl.ne u hu

theorem PA.call2 (h : PA X Y Z tx ty zx zy i1 i2 i3 a1 a2 w st wx) (d : PDif i1 i2 i3 a1 a2) (f : Fr (fun _ => False) wx wy) {v : Value} (ht : Y.sh (fun k => k < w.heap.size ∨ wx.heap.size ≤ k) wy v) : PA X Y Z tx ty zx zy i1 i2 i3 a1 a2 w (pupd st i2 v) wy := by
  have hl := h.later f
  refine ⟨hl.fr, fun u hu => ?_, fun u hu => ?_, fun u hu => ?_, fun u hu => ?_, fun u hu => ?_, fun u hu => ?_⟩
  · rw [pupd_ne _ _ _ _ d.d12] at hu; rw [poff_upd _ _ d.d2a d.d2b]; exact hl.c1 u hu
  · rw [pupd_at] at hu; cases hu; rw [poff_upd _ _ d.d2a d.d2b]; exact h.new ht
  · rw [pupd_ne _ _ _ _ d.d23.symm] at hu; rw [poff_upd _ _ d.d2a d.d2b]; exact hl.c3 u hu
  · rw [pupd_ne _ _ _ _ d.d2a.symm] at hu; exact hl.p1 u hu
  · rw [pupd_ne _ _ _ _ d.d2b.symm] at hu; exact hl.p2 u hu
  · rw [pupd_ne _ _ _ _ d.d2a.symm] at hu; rw [pupd_ne _ _ _ _ d.d2b.symm]; exact hl.ne u hu

theorem PA.call3 (h : PA X Y Z tx ty zx zy i1 i2 i3 a1 a2 w st wx) (d : PDif i1 i2 i3 a1 a2) (f : Fr (fun _ => False) wx wy) {v : Value} (ht : Z.sh (fun k => k < w.heap.size ∨ wx.heap.size ≤ k) wy v) : PA X Y Z tx ty zx zy i1 i2 i3 a1 a2 w (pupd st i3 v) wy := by
  have hl := h.later f
  refine ⟨hl.fr, fun u hu => ?_, fun u hu => ?_, fun u hu => ?_, fun u hu => ?_, fun u hu => ?_, fun u hu => ?_⟩
  · rw [pupd_ne _ _ _ _ d.d13] at hu; rw [poff_upd _ _ d.d3a d.d3b]; exact hl.c1 u hu
  · rw [pupd_ne _ _ _ _ d.d23] at hu; rw [poff_upd _ _ d.d3a d.d3b]; exact hl.c2 u hu
  · rw [pupd_at] at hu; cases hu; rw [poff_upd _ _ d.d3a d.d3b]; exact h.new ht
  · rw [pupd_ne _ _ _ _ d.d3a.symm] at hu; exact hl.p1 u hu
  · rw [pupd_ne _ _ _ _ d.d3b.symm] at hu; exact hl.p2 u hu
  · rw [pupd_ne _ _ _ _ d.d3a.symm] at hu; rw [pupd_ne _ _ _ _ d.d3b.symm]; exact hl.ne u hu

theorem poff_new (S : Seen) {v : Value} (i : Nat) (cs : Array Value) (t : TypeId) (h : S.sh (POff a1 a2 st) wx v) : S.sh (POff a1 a2 (pupd st i (pptr wx.heap.size))) (wx.alloc (.cells cs t)) v := by
  have h1 := S.fr ((Fr.refl (fun _ => False) wx).alloc (.cells cs t)) (fun _ _ h => h) (S.mono (S := fun k => POff a1 a2 st k ∧ k < wx.heap.size) (fun k hk h => ⟨h, hk⟩) h)
  refine S.mono (fun k _ hk => ⟨fun e => ?_, fun e => ?_⟩) h1
  · unfold pupd at e
    split at e
    · have := pptr_inj (Option.some.inj e); omega
    · exact hk.1.1 e
  · unfold pupd at e
    split at e
    · have := pptr_inj (Option.some.inj e); omega
    · exact hk.1.2 e

theorem PA.alloc1 (h : PA X Y Z tx ty zx zy i1 i2 i3 a1 a2 w st wx) (d : PDif i1 i2 i3 a1 a2) : PA X Y Z tx ty zx zy i1 i2 i3 a1 a2 w (pupd st a1 (pptr wx.heap.size)) (wx.alloc (.cells zx tx)) := by
  have hl := h.later ((Fr.refl (fun _ => False) wx).alloc (.cells zx tx))
  refine ⟨hl.fr, fun u hu => ?_, fun u hu => ?_, fun u hu => ?_, fun u hu => ?_, fun u hu => ?_, fun u hu => ?_⟩
  · rw [pupd_ne _ _ _ _ d.d1a] at hu; exact poff_new X a1 _ _ (h.c1 u hu)
  · rw [pupd_ne _ _ _ _ d.d2a] at hu; exact poff_new Y a1 _ _ (h.c2 u hu)
  · rw [pupd_ne _ _ _ _ d.d3a] at hu; exact poff_new Z a1 _ _ (h.c3 u hu)
  · rw [pupd_at] at hu; cases hu; exact ⟨_, rfl, h.fr.size, heap_alloc_new _ _⟩
  · rw [pupd_ne _ _ _ _ d.dab.symm] at hu; exact hl.p2 u hu
  · rw [pupd_at] at hu; cases hu
    rw [pupd_ne _ _ _ _ d.dab.symm]
    intro e
    obtain ⟨g, eg, _, hc⟩ := h.p2 _ e
    have := pptr_inj eg
    have := lt_of_block hc
    omega

theorem PA.alloc2 (h : PA X Y Z tx ty zx zy i1 i2 i3 a1 a2 w st wx) (d : PDif i1 i2 i3 a1 a2) : PA X Y Z tx ty zx zy i1 i2 i3 a1 a2 w (pupd st a2 (pptr wx.heap.size)) (wx.alloc (.cells zy ty)) := by
  have hl := h.later ((Fr.refl (fun _ => False) wx).alloc (.cells zy ty))
  refine ⟨hl.fr, fun u hu => ?_, fun u hu => ?_, fun u hu => ?_, fun u hu => ?_, fun u hu => ?_, fun u hu => ?_⟩
  · rw [pupd_ne _ _ _ _ d.d1b] at hu; exact poff_new X a2 _ _ (h.c1 u hu)
  · rw [pupd_ne _ _ _ _ d.d2b] at hu; exact poff_new Y a2 _ _ (h.c2 u hu)
  · rw [pupd_ne _ _ _ _ d.d3b] at hu; exact poff_new Z a2 _ _ (h.c3 u hu)
  · rw [pupd_ne _ _ _ _ d.dab] at hu; exact hl.p1 u hu
  · rw [pupd_at] at hu; cases hu; exact ⟨_, rfl, h.fr.size, heap_alloc_new _ _⟩
  · rw [pupd_ne _ _ _ _ d.dab] at hu
    rw [pupd_at]
    intro e
    cases e
    obtain ⟨g, eg, _, hc⟩ := h.p1 _ hu
    have := pptr_inj eg
    have := lt_of_block hc
    omega

theorem PA.store1 (h : PA X Y Z tx ty zx zy i1 i2 i3 a1 a2 w st wx) {v1 v2 u : Value} {g1 g2 : Nat} {cs : Array Value} (h1 : st i1 = some v1) (h2 : st i2 = some v2) (ha : st a1 = some (pptr g1)) (hb : st a2 = some (pptr g2)) (hs : s2 ≠ s1) (hs2 : st s2 = none)
    (n1 : a1 ≠ s1) (n2 : a2 ≠ s1) (n3 : i2 ≠ s1) (hv : v1 = .agg cs)
    (hy : wy.heap[g1]? = some (.cells cs tx (0, 0))) (f : Fr (fun k => k = g1) wx wy) : PS X Y Z tx ty zx zy i1 i2 i3 a1 a2 s1 s2 w (pupd st s1 u) wy := by
  unfold PS
  rw [pupd_at, pupd_ne _ _ _ _ hs, hs2]
  obtain ⟨g, e, hg1, hc1⟩ := h.p1 _ ha
  obtain rfl := pptr_inj e
  obtain ⟨g', e', hg2, hc2⟩ := h.p2 _ hb
  obtain rfl := pptr_inj e'
  have hne : g1 ≠ g2 := fun e => h.ne _ ha (by rw [hb, e])
  have key : ∀ (S : Seen) v, S.sh (POff a1 a2 st) wx v → S.sh (fun k => k ≠ g1 ∧ k ≠ g2) wy v := fun S v hv =>
    S.fr f (fun k hk e => hk.1 e) (S.mono (S := fun k => k ≠ g1 ∧ k ≠ g2) (fun k _ hk => ⟨fun e => hk.1 (by rw [e]; exact ha), fun e => hk.2 (by rw [e]; exact hb)⟩) hv)
  exact ⟨g1, g2, v2, by rw [pupd_ne _ _ _ _ n1]; exact ha, by rw [pupd_ne _ _ _ _ n2]; exact hb, by rw [pupd_ne _ _ _ _ n3]; exact h2, h.fr.trans f (fun i hi e => by omega), hne, hg1, hg2, ⟨cs, hy, hv ▸ key X _ (h.c1 _ h1)⟩, crow_kept hc2 f (fun e => hne e.symm), key Y _ (h.c2 _ h2)⟩

theorem PB.store2 (h : PB X Y tx ty zy i2 a1 a2 w st wx) {v2 u : Value} {g2 : Nat} {cs : Array Value} (h2 : st i2 = some v2) (hb : st a2 = some (pptr g2)) (n1 : a1 ≠ s2) (n2 : a2 ≠ s2) (n3 : i2 ≠ s2) (hv : v2 = .agg cs)
    (hy : wy.heap[g2]? = some (.cells cs ty (0, 0))) (f : Fr (fun k => k = g2) wx wy) : PS X Y Z tx ty zx zy i1 i2 i3 a1 a2 s1 s2 w (pupd st s2 u) wy := by
  obtain ⟨g1, g, v, ha', hb', h2', hf, hne, hg1, hg2, ⟨cs1, hc1, ht1⟩, hc2, ht2⟩ := h
  obtain rfl := pptr_inj (Option.some.inj (hb'.symm.trans hb))
  obtain rfl := Option.some.inj (h2'.symm.trans h2)
  have e : PS X Y Z tx ty zx zy i1 i2 i3 a1 a2 s1 s2 w (pupd st s2 u) wy = ∃ g1 g2 v2, pupd st s2 u a1 = some (pptr g1) ∧ pupd st s2 u a2 = some (pptr g2) ∧ pupd st s2 u i2 = some v2 ∧ PIn X Y tx ty w g1 g2 wy := by
    unfold PS
    rw [pupd_at]
    split <;> simp_all
  rw [e]
  exact ⟨g1, g, _, by rw [pupd_ne _ _ _ _ n1]; exact ha', by rw [pupd_ne _ _ _ _ n2]; exact hb', by rw [pupd_ne _ _ _ _ n3]; exact h2', hf.trans f (fun i hi e => by omega), hne, hg1, hg2, ⟨cs1, crow_kept hc1 f hne, X.fr f (fun k hk e => hk.2 e) ht1⟩, ⟨cs, hy, hv ▸ Y.fr f (fun k hk e => hk.2 e) ht2⟩⟩

end

end Go.Proofs.Ytmpnomngnfffbaa
