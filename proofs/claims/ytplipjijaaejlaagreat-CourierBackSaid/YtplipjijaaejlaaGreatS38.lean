/-
  CouBack, part 38 of what it rests on: Pair, CouLib, CouApartLaw, KindSmallArg.
-/
import Derived.Test.YtplipjijaaejlaaGreatS37
import Derived.Test.YtplipjijaaejlaaGreatS12
import Derived.Test.YtplipjijaaejlaaGreatS10
import Derived.Test.YtplipjijaaejlaaGreatS33
import Derived.OpenShut
import Derived.Deep.Cut
import Derived.Deep.CutRange
import Derived.Test.YtplipjijaaejlaaGreatS29
set_option linter.unusedVariables false
set_option linter.unusedSimpArgs false
set_option maxHeartbeats 64000000
namespace Go.Proofs.YtplipjijaaejlaaGreat
open Go.RowKit
open Go.Lib (hid)
section
/-- What a value shows, in memory of R. -/
structure Seen where
  sh : (Nat → Prop) → World → Value → Prop
  fr : ∀ {R S : Nat → Prop} {w w' : World} {v : Value}, Fr S w w' → (∀ k, R k → ¬ S k) → sh R w v → sh R w' v
  mono : ∀ {R S : Nat → Prop} {w : World} {v : Value}, (∀ k, k < w.heap.size → R k → S k) → sh R w v → sh S w v

def pptr (g : Nat) : Value := .pointer (some ⟨g, 0, none⟩)

theorem pptr_inj {g g' : Nat} (h : pptr g = pptr g') : g = g' := by unfold pptr at h; simpa using h

def pupd (st : Nat → Option Value) (i : Nat) (v : Value) : Nat → Option Value := fun j => if j = i then some v else st j

theorem pupd_at (st : Nat → Option Value) (i : Nat) (v : Value) : pupd st i v i = some v := by unfold pupd; rw [if_pos rfl]

theorem pupd_ne (st : Nat → Option Value) (i j : Nat) (v : Value) (h : j ≠ i) : pupd st i v j = st j := by unfold pupd; rw [if_neg h]

def POff (a1 a2 : Nat) (st : Nat → Option Value) : Nat → Prop := fun k => st a1 ≠ some (pptr k) ∧ st a2 ≠ some (pptr k)

structure PDif (i1 i2 i3 a1 a2 : Nat) : Prop where
  d12 : i1 ≠ i2
  d13 : i1 ≠ i3
  d23 : i2 ≠ i3
  d1a : i1 ≠ a1
  d1b : i1 ≠ a2
  d2a : i2 ≠ a1
  d2b : i2 ≠ a2
  d3a : i3 ≠ a1
  d3b : i3 ≠ a2
  dab : a1 ≠ a2

/-- Ahead of the stores. -/
structure PA (X Y Z : Seen) (tx ty : TypeId) (zx zy : Array Value) (i1 i2 i3 a1 a2 : Nat) (w : World) (st : Nat → Option Value) (wx : World) : Prop where
  fr : Fr (fun _ => False) w wx
  c1 : ∀ v, st i1 = some v → X.sh (POff a1 a2 st) wx v
  c2 : ∀ v, st i2 = some v → Y.sh (POff a1 a2 st) wx v
  c3 : ∀ v, st i3 = some v → Z.sh (POff a1 a2 st) wx v
  p1 : ∀ v, st a1 = some v → ∃ g, v = pptr g ∧ w.heap.size ≤ g ∧ wx.heap[g]? = some (.cells zx tx (0, 0))
  p2 : ∀ v, st a2 = some v → ∃ g, v = pptr g ∧ w.heap.size ≤ g ∧ wx.heap[g]? = some (.cells zy ty (0, 0))
  ne : ∀ v, st a1 = some v → st a2 ≠ some v

/-- Two things in two blocks, all else off them. -/
def PIn (X Y : Seen) (tx ty : TypeId) (w : World) (g1 g2 : Nat) (wx : World) : Prop :=
  Fr (fun _ => False) w wx ∧ g1 ≠ g2 ∧ w.heap.size ≤ g1 ∧ w.heap.size ≤ g2 ∧
  (∃ cs, wx.heap[g1]? = some (.cells cs tx (0, 0)) ∧ X.sh (fun k => k ≠ g1 ∧ k ≠ g2) wx (.agg cs)) ∧
  (∃ cs, wx.heap[g2]? = some (.cells cs ty (0, 0)) ∧ Y.sh (fun k => k ≠ g1 ∧ k ≠ g2) wx (.agg cs))

/-- Between the stores. -/
def PB (X Y : Seen) (tx ty : TypeId) (zy : Array Value) (i2 a1 a2 : Nat) (w : World) (st : Nat → Option Value) (wx : World) : Prop :=
  ∃ g1 g2 v2, st a1 = some (pptr g1) ∧ st a2 = some (pptr g2) ∧ st i2 = some v2 ∧ Fr (fun _ => False) w wx ∧ g1 ≠ g2 ∧ w.heap.size ≤ g1 ∧ w.heap.size ≤ g2 ∧
  (∃ cs, wx.heap[g1]? = some (.cells cs tx (0, 0)) ∧ X.sh (fun k => k ≠ g1 ∧ k ≠ g2) wx (.agg cs)) ∧
  wx.heap[g2]? = some (.cells zy ty (0, 0)) ∧ Y.sh (fun k => k ≠ g1 ∧ k ≠ g2) wx v2

def PS (X Y Z : Seen) (tx ty : TypeId) (zx zy : Array Value) (i1 i2 i3 a1 a2 s1 s2 : Nat) (w : World) (st : Nat → Option Value) (wx : World) : Prop := match st s1, st s2 with
  | none, none => PA X Y Z tx ty zx zy i1 i2 i3 a1 a2 w st wx
  | some _, none => PB X Y tx ty zy i2 a1 a2 w st wx
  | _, some _ => ∃ g1 g2 v2, st a1 = some (pptr g1) ∧ st a2 = some (pptr g2) ∧ st i2 = some v2 ∧ PIn X Y tx ty w g1 g2 wx

section
variable {X Y Z : Seen} {tx ty : TypeId} {zx zy : Array Value} {i1 i2 i3 a1 a2 s1 s2 : Nat} {w wx wy : World} {st : Nat → Option Value}

theorem PS.a (h : PS X Y Z tx ty zx zy i1 i2 i3 a1 a2 s1 s2 w st wx) (h1 : st s1 = none) (h2 : st s2 = none) : PA X Y Z tx ty zx zy i1 i2 i3 a1 a2 w st wx := by
  unfold PS at h; rw [h1, h2] at h; exact h

theorem PS.b {u : Value} (h : PS X Y Z tx ty zx zy i1 i2 i3 a1 a2 s1 s2 w st wx) (h1 : st s1 = some u) (h2 : st s2 = none) : PB X Y tx ty zy i2 a1 a2 w st wx := by
  unfold PS at h; rw [h1, h2] at h; exact h

theorem PA.ps (h : PA X Y Z tx ty zx zy i1 i2 i3 a1 a2 w st wx) (h1 : st s1 = none) (h2 : st s2 = none) : PS X Y Z tx ty zx zy i1 i2 i3 a1 a2 s1 s2 w st wx := by
  unfold PS; rw [h1, h2]; exact h

theorem PS.fr (h : PS X Y Z tx ty zx zy i1 i2 i3 a1 a2 s1 s2 w st wx) : Fr (fun _ => False) w wx := by
  unfold PS at h
  split at h
  · exact h.fr
  · obtain ⟨_, _, _, _, _, _, hf, _⟩ := h; exact hf
  · obtain ⟨_, _, _, _, _, _, hf, _⟩ := h; exact hf

/-- Ahead of the second call nothing is stored. -/
theorem PS.early (h : PS X Y Z tx ty zx zy i1 i2 i3 a1 a2 s1 s2 w st wx) (h2 : st i2 = none) : st s1 = none ∧ st s2 = none := by
  unfold PS at h
  split at h
  · rename_i e1 e2
    exact ⟨e1, e2⟩
  · obtain ⟨_, _, _, _, _, e, _⟩ := h
    rw [h2] at e
    cases e
  · obtain ⟨_, _, _, _, _, e, _⟩ := h
    rw [h2] at e
    cases e

theorem PA.later (h : PA X Y Z tx ty zx zy i1 i2 i3 a1 a2 w st wx) (f : Fr (fun _ => False) wx wy) : PA X Y Z tx ty zx zy i1 i2 i3 a1 a2 w st wy where
  fr := h.fr.trans f (fun _ _ h => h)
  c1 v hv := X.fr f (fun _ _ h => h) (h.c1 v hv)
  c2 v hv := Y.fr f (fun _ _ h => h) (h.c2 v hv)
  c3 v hv := Z.fr f (fun _ _ h => h) (h.c3 v hv)
  p1 v hv := by obtain ⟨g, e, hg, hc⟩ := h.p1 v hv; exact ⟨g, e, hg, box_kept hc f (fun h => h)⟩
  p2 v hv := by obtain ⟨g, e, hg, hc⟩ := h.p2 v hv; exact ⟨g, e, hg, box_kept hc f (fun h => h)⟩
  ne := h.ne

theorem PA.new {S : Seen} (h : PA X Y Z tx ty zx zy i1 i2 i3 a1 a2 w st wx) {v : Value} (ht : S.sh (fun k => k < w.heap.size ∨ wx.heap.size ≤ k) wy v) : S.sh (POff a1 a2 st) wy v := by
  refine S.mono (fun k _ hk => ⟨fun e => ?_, fun e => ?_⟩) ht
  · obtain ⟨g, eg, hg, hc⟩ := h.p1 _ e
    have := pptr_inj eg
    have := lt_of_block hc
    omega
  · obtain ⟨g, eg, hg, hc⟩ := h.p2 _ e
    have := pptr_inj eg
    have := lt_of_block hc
    omega

theorem poff_upd (i : Nat) (v : Value) (h1 : i ≠ a1) (h2 : i ≠ a2) : POff a1 a2 (pupd st i v) = POff a1 a2 st := by
  unfold POff
  rw [pupd_ne _ _ _ _ h1.symm, pupd_ne _ _ _ _ h2.symm]

theorem PA.call1 (h : PA X Y Z tx ty zx zy i1 i2 i3 a1 a2 w st wx) (d : PDif i1 i2 i3 a1 a2) (f : Fr (fun _ => False) wx wy) {v : Value} (ht : X.sh (fun k => k < w.heap.size ∨ wx.heap.size ≤ k) wy v) : PA X Y Z tx ty zx zy i1 i2 i3 a1 a2 w (pupd st i1 v) wy := by
  have hl := h.later f
  refine ⟨hl.fr, fun u hu => ?_, fun u hu => ?_, fun u hu => ?_, fun u hu => ?_, fun u hu => ?_, fun u hu => ?_⟩
  · rw [pupd_at] at hu; cases hu; rw [poff_upd _ _ d.d1a d.d1b]; exact h.new ht
  · rw [pupd_ne _ _ _ _ d.d12.symm] at hu; rw [poff_upd _ _ d.d1a d.d1b]; exact hl.c2 u hu
  · rw [pupd_ne _ _ _ _ d.d13.symm] at hu; rw [poff_upd _ _ d.d1a d.d1b]; exact hl.c3 u hu
  · rw [pupd_ne _ _ _ _ d.d1a.symm] at hu; exact hl.p1 u hu
  · rw [pupd_ne _ _ _ _ d.d1b.symm] at hu; exact hl.p2 u hu
  · rw [pupd_ne _ _ _ _ d.d1a.symm] at hu; rw [pupd_ne _ _ _ _ d.d1b.symm]; exact hl.ne u hu

theorem PA.call2 (h : PA X Y Z tx ty zx zy i1 i2 i3 a1 a2 w st wx) (d : PDif i1 i2 i3 a1 a2) (f : Fr (fun _ => False) wx wy) {v : Value} (ht : Y.sh (fun k => k < w.heap.size ∨ wx.heap.size ≤ k) wy v) : PA X Y Z tx ty zx zy i1 i2 i3 a1 a2 w (pupd st i2 v) wy := by
  have hl := h.later f
  refine ⟨hl.fr, fun u hu => ?_, fun u hu => ?_, fun u hu => ?_, fun u hu => ?_, fun u hu => ?_, fun u hu => ?_⟩
  · rw [pupd_ne _ _ _ _ d.d12] at hu; rw [poff_upd _ _ d.d2a d.d2b]; exact hl.c1 u hu
  · rw [pupd_at] at hu; cases hu; rw [poff_upd _ _ d.d2a d.d2b]; exact h.new ht
  · rw [pupd_ne _ _ _ _ d.d23.symm] at hu; rw [poff_upd _ _ d.d2a d.d2b]; exact hl.c3 u hu
  · rw [pupd_ne _ _ _ _ d.d2a.symm] at hu; exact hl.p1 u hu
  · rw [pupd_ne _ _ _ _ d.d2b.symm] at hu; exact hl.p2 u hu
  · rw [pupd_ne _ _ _ _ d.d2a.symm] at hu; rw [pupd_ne _ _ _ _ d.d2b.symm]; exact hl.ne u hu

theorem PA.call3 (h : PA X Y Z tx ty zx zy i1 i2 i3 a1 a2 w st wx) (d : PDif i1 i2 i3 a1 a2) (f : Fr (fun _ => False) wx wy) {v : Value} (ht : Z.sh (fun k => k < w.heap.size ∨ wx.heap.size ≤ k) wy v) : PA X Y Z tx ty zx zy i1 i2 i3 a1 a2 w (pupd st i3 v) wy := by
  have hl := h.later f
  refine ⟨hl.fr, fun u hu => ?_, fun u hu => ?_, fun u hu => ?_, fun u hu => ?_, fun u hu => ?_, fun u hu => ?_⟩
  · rw [pupd_ne _ _ _ _ d.d13] at hu; rw [poff_upd _ _ d.d3a d.d3b]; exact hl.c1 u hu
  · rw [pupd_ne _ _ _ _ d.d23] at hu; rw [poff_upd _ _ d.d3a d.d3b]; exact hl.c2 u hu
  · rw [pupd_at] at hu; cases hu; rw [poff_upd _ _ d.d3a d.d3b]; exact h.new ht
  · rw [pupd_ne _ _ _ _ d.d3a.symm] at hu; exact hl.p1 u hu
  · rw [pupd_ne _ _ _ _ d.d3b.symm] at hu; exact hl.p2 u hu
  · rw [pupd_ne _ _ _ _ d.d3a.symm] at hu; rw [pupd_ne _ _ _ _ d.d3b.symm]; exact hl.ne u hu

theorem poff_new (S : Seen) {v : Value} (i : Nat) (cs : Array Value) (t : TypeId) (h : S.sh (POff a1 a2 st) wx v) : S.sh (POff a1 a2 (pupd st i (pptr wx.heap.size))) (wx.alloc (.cells cs t)) v := by
  have h1 := S.fr ((Fr.refl (fun _ => False) wx).alloc (.cells cs t)) (fun _ _ h => h) (S.mono (S := fun k => POff a1 a2 st k ∧ k < wx.heap.size) (fun k hk h => ⟨h, hk⟩) h)
  refine S.mono (fun k _ hk => ⟨fun e => ?_, fun e => ?_⟩) h1
  · unfold pupd at e
    split at e
    · have := pptr_inj (Option.some.inj e); omega
    · exact hk.1.1 e
  · unfold pupd at e
    split at e
    · have := pptr_inj (Option.some.inj e); omega
    · exact hk.1.2 e

theorem PA.alloc1 (h : PA X Y Z tx ty zx zy i1 i2 i3 a1 a2 w st wx) (d : PDif i1 i2 i3 a1 a2) : PA X Y Z tx ty zx zy i1 i2 i3 a1 a2 w (pupd st a1 (pptr wx.heap.size)) (wx.alloc (.cells zx tx)) := by
  have hl := h.later ((Fr.refl (fun _ => False) wx).alloc (.cells zx tx))
  refine ⟨hl.fr, fun u hu => ?_, fun u hu => ?_, fun u hu => ?_, fun u hu => ?_, fun u hu => ?_, fun u hu => ?_⟩
  · rw [pupd_ne _ _ _ _ d.d1a] at hu; exact poff_new X a1 _ _ (h.c1 u hu)
  · rw [pupd_ne _ _ _ _ d.d2a] at hu; exact poff_new Y a1 _ _ (h.c2 u hu)
  · rw [pupd_ne _ _ _ _ d.d3a] at hu; exact poff_new Z a1 _ _ (h.c3 u hu)
  · rw [pupd_at] at hu; cases hu; exact ⟨_, rfl, h.fr.size, heap_alloc_new _ _⟩
  · rw [pupd_ne _ _ _ _ d.dab.symm] at hu; exact hl.p2 u hu
  · rw [pupd_at] at hu; cases hu
    rw [pupd_ne _ _ _ _ d.dab.symm]
    intro e
    obtain ⟨g, eg, _, hc⟩ := h.p2 _ e
    have := pptr_inj eg
    have := lt_of_block hc
    omega

theorem PA.alloc2 (h : PA X Y Z tx ty zx zy i1 i2 i3 a1 a2 w st wx) (d : PDif i1 i2 i3 a1 a2) : PA X Y Z tx ty zx zy i1 i2 i3 a1 a2 w (pupd st a2 (pptr wx.heap.size)) (wx.alloc (.cells zy ty)) := by
  have hl := h.later ((Fr.refl (fun _ => False) wx).alloc (.cells zy ty))
  refine ⟨hl.fr, fun u hu => ?_, fun u hu => ?_, fun u hu => ?_, fun u hu => ?_, fun u hu => ?_, fun u hu => ?_⟩
  · rw [pupd_ne _ _ _ _ d.d1b] at hu; exact poff_new X a2 _ _ (h.c1 u hu)
  · rw [pupd_ne _ _ _ _ d.d2b] at hu; exact poff_new Y a2 _ _ (h.c2 u hu)
  · rw [pupd_ne _ _ _ _ d.d3b] at hu; exact poff_new Z a2 _ _ (h.c3 u hu)
  · rw [pupd_ne _ _ _ _ d.dab] at hu; exact hl.p1 u hu
  · rw [pupd_at] at hu; cases hu; exact ⟨_, rfl, h.fr.size, heap_alloc_new _ _⟩
  · rw [pupd_ne _ _ _ _ d.dab] at hu
    rw [pupd_at]
    intro e
    cases e
    obtain ⟨g, eg, _, hc⟩ := h.p1 _ hu
    have := pptr_inj eg
    have := lt_of_block hc
    omega

theorem PA.store1 (h : PA X Y Z tx ty zx zy i1 i2 i3 a1 a2 w st wx) {v1 v2 u : Value} {g1 g2 : Nat} {cs : Array Value} (h1 : st i1 = some v1) (h2 : st i2 = some v2) (ha : st a1 = some (pptr g1)) (hb : st a2 = some (pptr g2)) (hs : s2 ≠ s1) (hs2 : st s2 = none)
    (n1 : a1 ≠ s1) (n2 : a2 ≠ s1) (n3 : i2 ≠ s1) (hv : v1 = .agg cs)
    (hy : wy.heap[g1]? = some (.cells cs tx (0, 0))) (f : Fr (fun k => k = g1) wx wy) : PS X Y Z tx ty zx zy i1 i2 i3 a1 a2 s1 s2 w (pupd st s1 u) wy := by
  unfold PS
  rw [pupd_at, pupd_ne _ _ _ _ hs, hs2]
  obtain ⟨g, e, hg1, hc1⟩ := h.p1 _ ha
  obtain rfl := pptr_inj e
  obtain ⟨g', e', hg2, hc2⟩ := h.p2 _ hb
  obtain rfl := pptr_inj e'
  have hne : g1 ≠ g2 := fun e => h.ne _ ha (by rw [hb, e])
  have key : ∀ (S : Seen) v, S.sh (POff a1 a2 st) wx v → S.sh (fun k => k ≠ g1 ∧ k ≠ g2) wy v := fun S v hv =>
    S.fr f (fun k hk e => hk.1 e) (S.mono (S := fun k => k ≠ g1 ∧ k ≠ g2) (fun k _ hk => ⟨fun e => hk.1 (by rw [e]; exact ha), fun e => hk.2 (by rw [e]; exact hb)⟩) hv)
  exact ⟨g1, g2, v2, by rw [pupd_ne _ _ _ _ n1]; exact ha, by rw [pupd_ne _ _ _ _ n2]; exact hb, by rw [pupd_ne _ _ _ _ n3]; exact h2, h.fr.trans f (fun i hi e => by omega), hne, hg1, hg2, ⟨cs, hy, hv ▸ key X _ (h.c1 _ h1)⟩, box_kept hc2 f (fun e => hne e.symm), key Y _ (h.c2 _ h2)⟩

theorem PB.store2 (h : PB X Y tx ty zy i2 a1 a2 w st wx) {v2 u : Value} {g2 : Nat} {cs : Array Value} (h2 : st i2 = some v2) (hb : st a2 = some (pptr g2)) (n1 : a1 ≠ s2) (n2 : a2 ≠ s2) (n3 : i2 ≠ s2) (hv : v2 = .agg cs)
    (hy : wy.heap[g2]? = some (.cells cs ty (0, 0))) (f : Fr (fun k => k = g2) wx wy) : PS X Y Z tx ty zx zy i1 i2 i3 a1 a2 s1 s2 w (pupd st s2 u) wy := by
  obtain ⟨g1, g, v, ha', hb', h2', hf, hne, hg1, hg2, ⟨cs1, hc1, ht1⟩, hc2, ht2⟩ := h
  obtain rfl := pptr_inj (Option.some.inj (hb'.symm.trans hb))
  obtain rfl := Option.some.inj (h2'.symm.trans h2)
  have e : PS X Y Z tx ty zx zy i1 i2 i3 a1 a2 s1 s2 w (pupd st s2 u) wy = ∃ g1 g2 v2, pupd st s2 u a1 = some (pptr g1) ∧ pupd st s2 u a2 = some (pptr g2) ∧ pupd st s2 u i2 = some v2 ∧ PIn X Y tx ty w g1 g2 wy := by
    unfold PS
    rw [pupd_at]
    split <;> simp_all
  rw [e]
  exact ⟨g1, g, _, by rw [pupd_ne _ _ _ _ n1]; exact ha', by rw [pupd_ne _ _ _ _ n2]; exact hb', by rw [pupd_ne _ _ _ _ n3]; exact h2', hf.trans f (fun i hi e => by omega), hne, hg1, hg2, ⟨cs1, box_kept hc1 f hne, X.fr f (fun k hk e => hk.2 e) ht1⟩, ⟨cs, hy, hv ▸ Y.fr f (fun k hk e => hk.2 e) ht2⟩⟩

end
end
section
attribute [local go_sem] run_store_float
set_option maxRecDepth 100000

def seenT (T : KT) : Seen := ⟨fun R w v => Shows R w T v, fun f h h1 => Shows.fr f h _ _ h1, fun h h1 => Shows.mono h _ _ h1⟩
def seenV (T : VT) : Seen := ⟨fun R w v => VShows R w T v, fun f h h1 => VShows.fr f h _ _ h1, fun h h1 => VShows.mono h _ _ h1⟩
def seenN (l : List Int) : Seen := ⟨fun R w v => Nums R w l v, fun f h h1 => h1.fr f h, fun h h1 => h1.mono h⟩

theorem shows_lit8 {R : Nat → Prop} {w : World} {T : KT} {v : Value} (h : (seenT T).sh R w v) : ∃ (k : Nat) (m : Int) (a : Option Addr) (n c : Nat) (a' : Option Addr) (n' c' : Nat), v = .agg #[.int .u8 k, .int .i64 m, .slice a n c, .slice a' n' c'] := Shows.four h
theorem vshows_lit6 {R : Nat → Prop} {w : World} {T : VT} {v : Value} (h : (seenV T).sh R w v) : ∃ (n : Int) (f : Nat) (s : ByteArray) (a : Option Addr) (c cap : Nat), v = .agg #[.int .i64 n, .float .f64 f, .string s, .slice a c cap] := VShows.lit h

def zeroK4 : Array Value := #[.int .u8 0, .int .i64 0, .slice none 0 0, .slice none 0 0]
def zeroV4 : Array Value := #[.int .i64 0, .float .f64 0, .string ⟨#[]⟩, .slice none 0 0]

/-- A slice of numbers that came in. -/
theorem cnums_of {w : World} {v : Value} {l : List Int} (h : SeesL w v (l.map (Value.int .i64))) (hb : ∀ n ∈ l, (Lit.int .i64 n).wf = true) (hl : l.length ≤ 1000) : Nums (fun _ => True) w l v := by
  refine ⟨hl, fun x hx => ⟨(bounds_i64 (hb x hx)).1, (bounds_i64 (hb x hx)).2⟩, ?_⟩
  rcases h with ⟨h, a, c, rfl⟩ | ⟨g, off, cap, rfl, hle, hc⟩
  · left
    have : l = [] := by cases l with | nil => rfl | cons _ _ => simp at h
    exact ⟨this, a, c, rfl⟩
  · right
    refine ⟨g, off, cap, trivial, by simp, by simpa using hle, fun j x hj => hc j _ ?_⟩
    rw [List.getElem?_map, hj]; rfl

theorem cslice {w : World} {v : Value} {xs : List Value} (h : SeesL w v xs) : ∃ a c, v = .slice a xs.length c := by
  rcases h with ⟨rfl, a, c, rfl⟩ | ⟨g, off, cap, rfl, hle, hc⟩
  · exact ⟨a, c, rfl⟩
  · exact ⟨_, cap, rfl⟩

/-- What is built has words in bounds. -/
theorem vbs_shows {R : Nat → Prop} {w : World} (T : VT) : ∀ v, VShows R w T v → VBs T := by
  induction T with
  | nil => exact fun _ h => h.elim
  | mk n f s c of ih =>
    rintro v ⟨vo, rfl, hb, ho⟩
    refine ⟨hb.2.2.1, fun i hi => ?_⟩
    rcases ho with ⟨rfl, _⟩ | ⟨g, off, cap, hg, rfl, hle, hc⟩
    · omega
    · obtain ⟨x0, x1, x2, x3, c0, c1, c2, c3, hx⟩ := hc i hi
      exact ih i _ hx

/-- string(v) of bytes that were made. -/
theorem new_string {P : List UInt8} {w w' W : World} {v : Value} (h : NewB w w' v P) (f : Fr (fun _ => False) w' W) : (convert 26 9 v).run Tryz.prog W = .ok (.string ⟨P.toArray⟩) W :=
  ((h.1.fr f (fun _ _ h => h)).sees).string 26 5 9 Tryz.underlying26 Tryz.underlying5 Tryz.underlying9

theorem new_slice {P : List UInt8} {w w' : World} {v : Value} (h : NewB w w' v P) : ∃ a c, v = .slice a P.length c := slice_of_own h.1

/-- A list of Bools, of the law's own. -/
def awT : KT := .mk 5 5 [] 1 (fun _ => .mk 0 0 [] 0 (fun _ => .nil))
def awV : VT := .mk 0 0 [] 2 (fun i => if i = 0 then vnum 1 else vnum 0)

theorem aw_good : goodE awT := by
  refine ⟨⟨by omega, by decide +kernel⟩, fun i _ => ⟨⟨by omega, by decide +kernel⟩, fun i hi => by omega⟩⟩
theorem aw_err : putErr awT awV = 0 := by decide +kernel
theorem aw_enc : encE awT awV = [0, 2, 0, 1, 0, 0] := by decide +kernel
end
section
attribute [local go_sem] run_store_float
set_option maxRecDepth 100000

theorem cawake_any (w : World) : Calls Tryz.prog 4 #[] w fun e w' => e = .returned (.bool true) ∧ Fr (fun _ => False) w w' := by
  obtain ⟨oA, hoA⟩ : ∃ o, o = Obj.cells #[.int .u8 0, .int .i64 0, .slice none 0 0, .slice none 0 0] 34 (0, 0) := ⟨_, rfl⟩
  obtain ⟨oB, hoB⟩ : ∃ o, o = Obj.cells #[.int .u8 5, .int .i64 5, .slice none 0 0, .slice (some ⟨w.heap.size, 0, none⟩) 1 1] 34 (0, 0) := ⟨_, rfl⟩
  obtain ⟨oC, hoC⟩ : ∃ o, o = Obj.cells #[.int .i64 1, .float .f64 0, .string ⟨#[]⟩, .slice none 0 0, .int .i64 0, .float .f64 0, .string ⟨#[]⟩, .slice none 0 0] 39 (0, 0) := ⟨_, rfl⟩
  obtain ⟨w1, hw1⟩ : ∃ w1, w1 = ((w.alloc oA).alloc oB).alloc oC := ⟨_, rfl⟩
  have f1 : Fr (fun _ => False) w w1 := by rw [hw1]; exact (((Fr.refl _ _).alloc _).alloc _).alloc _
  have fB : Fr (fun _ => False) ((w.alloc oA).alloc oB) w1 := by rw [hw1]; exact (Fr.refl _ _).alloc _
  have hA : w1.heap[w.heap.size]? = some oA := box_kept (heap_alloc_first w oA oB) fB (fun h => h)
  have hB : w1.heap[w.heap.size + 1]? = some oB := box_kept (heap_alloc_two w oA oB) fB (fun h => h)
  have hC : w1.heap[w.heap.size + 1 + 1]? = some oC := by
    have h := heap_alloc_new ((w.alloc oA).alloc oB) oC
    rw [show ((w.alloc oA).alloc oB).heap.size = w.heap.size + 1 + 1 by simp] at h
    rw [hw1]; exact h
  rw [hoA] at hA
  rw [hoB] at hB
  rw [hoC] at hC
  have hsh : Shows (fun _ => True) w1 awT (.agg #[.int .u8 5, .int .i64 5, .slice none 0 0, .slice (some ⟨w.heap.size, 0, none⟩) 1 1]) := by
    refine ⟨_, _, rfl, by omega, by omega, ⟨by simp, by simp, .inl ⟨rfl, _, _, rfl⟩⟩, .inr ⟨_, 0, 1, trivial, rfl, by omega, fun i hi => ?_⟩⟩
    obtain rfl : i = 0 := by omega
    exact ⟨_, _, _, _, cells_row hA 0 _ rfl, cells_row hA 1 _ rfl, cells_row hA 2 _ rfl, cells_row hA 3 _ rfl, ⟨_, _, rfl, by omega, by omega, ⟨by simp, by simp, .inl ⟨rfl, _, _, rfl⟩⟩, .inl ⟨rfl, _, _, rfl⟩⟩⟩
  have hvs : VShows (fun _ => True) w1 awV (.agg #[.int .i64 0, .float .f64 0, .string ⟨#[]⟩, .slice (some ⟨w.heap.size + 1 + 1, 0, none⟩) 2 2]) := by
    refine ⟨_, rfl, ⟨by omega, by omega, by omega, by simp, by omega⟩, .inr ⟨_, 0, 2, trivial, rfl, by omega, fun i hi => ?_⟩⟩
    have hv : ∀ x : Int, -9223372036854775808 ≤ x → x ≤ 9223372036854775807 → VShows (fun _ => True) w1 (vnum x) (.agg #[.int .i64 x, .float .f64 0, .string ⟨#[]⟩, .slice none 0 0]) := fun x h1 h2 => ⟨_, rfl, ⟨h1, h2, by omega, by simp, by omega⟩, .inl ⟨rfl, _, _, rfl⟩⟩
    rcases (by omega : i = 0 ∨ i = 1) with rfl | rfl
    · exact ⟨_, _, _, _, cells_row hC 0 _ rfl, cells_row hC 1 _ rfl, cells_row hC 2 _ rfl, cells_row hC 3 _ rfl, hv 1 (by omega) (by omega)⟩
    · exact ⟨_, _, _, _, cells_row hC 4 _ rfl, cells_row hC 5 _ rfl, cells_row hC 6 _ rfl, cells_row hC 7 _ rfl, hv 0 (by omega) (by omega)⟩
  have HS := Lib.hid (And.intro hsh hvs)
  have F1 := Lib.hid f1
  have HW1 := Lib.hid hw1
  have HO := Lib.hid (And.intro hoA (And.intro hoB hoC))
  clear hsh hvs hA hB hC f1 fB hw1 hoA hoB hoC
  go_enter Tryz.func4, Tryz.ntmps4
  go_wp2_with fail
  rw [show (((w.alloc (Obj.cells #[.int .u8 0, .int .i64 0, .slice none 0 0, .slice none 0 0] 34)).alloc (Obj.cells #[.int .u8 5, .int .i64 5, .slice none 0 0, .slice (some ⟨w.heap.size, 0, none⟩) 1 1] 34)).alloc (Obj.cells #[.int .i64 1, .float .f64 0, .string ⟨#[]⟩, .slice none 0 0, .int .i64 0, .float .f64 0, .string ⟨#[]⟩, .slice none 0 0] 39)) = w1 from by rw [HW1.out, HO.out.1, HO.out.2.1, HO.out.2.2]]
  refine (Put_any (fun _ => True) awT awV _ _ w1 HS.out.1 HS.out.2 aw_good (by decide +kernel)).mono ?_
  rintro e w2 ⟨pv, rfl, hb, f2⟩
  rw [aw_err] at hb ⊢
  rw [if_pos rfl, aw_enc] at hb
  obtain ⟨a, c, rfl⟩ := new_slice hb
  have hstr := new_string hb (Fr.refl _ _)
  obtain ⟨X, hX⟩ : ∃ X : ByteArray, X = ⟨[0, 2, 0, 1, 0, 0].toArray⟩ := ⟨_, rfl⟩
  rw [← hX] at hstr
  have hxx : (X.toList == [0, 2, 0, 1, 0, 0]) = true := by
    rw [hX, Lib.toList_data]
    rfl
  clear hX
  simp only [List.length_cons, List.length_nil, Nat.zero_add, Nat.reduceAdd] at hstr ⊢
  have F2 := Lib.hid (F1.out.trans f2 (fun _ _ h => h))
  clear hb f2
  go_wp2_with fail
  go_ret
  exact ⟨rfl, F2.out⟩

/-- Put, of a type and a value built for it. -/
theorem cput_any (R : Nat → Prop) (t : KT) (T : VT) (v vv : Value) (w : World) (hsh : Shows R w t v) (hvs : VShows R w T vv) (hg : goodE t) (his : isVal t T = true) (hsz : szV T ≤ 100000) :
    Calls Tryz.prog 14 #[v, vv] w fun e w' => ∃ pv, e = .returned (.tuple #[pv, .int .i64 (if (encE t T).length ≤ 4000 then 0 else 6)]) ∧ NewB w w' pv (if (encE t T).length ≤ 4000 then encE t T else []) ∧ Fr (fun _ => False) w w' := by
  refine (Put_any R t T v vv w hsh hvs hg hsz).mono ?_
  rintro e w1 ⟨pv, rfl, hb, f⟩
  have he : putErr t T = if (encE t T).length ≤ 4000 then 0 else 6 := by unfold putErr; rw [if_pos his]
  rw [he] at hb
  refine ⟨pv, ?_, ?_, f⟩
  · rw [he]
    split <;> rfl
  · by_cases h : (encE t T).length ≤ 4000
    · rw [if_pos h] at hb ⊢
      rw [if_pos rfl] at hb
      exact hb
    · rw [if_neg h] at hb ⊢
      rw [if_neg (by omega)] at hb
      exact hb
end
section
structure KSP where
  takes : KN
  answers : KN
  collate : Nat
  timeout : Nat

structure KS where
  number : Nat
  aliases : List KN
  faults : Nat
  procs : List KSP

/-- The slice v shows these nodes. -/
def Nodes (w : World) (l : List KN) (v : Value) : Prop :=
  l.length ≤ maxLen ∧
  ((l = [] ∧ ∃ a c, v = .slice a 0 c) ∨
   ∃ g off cap, v = .slice (some ⟨g, off, none⟩) l.length cap ∧ l.length ≤ cap ∧ ∀ i x, l[i]? = some x → ∃ x0 x1 x2,
      w.cell? ⟨g, off + i * 3, none⟩ = some x0 ∧ w.cell? ⟨g, off + i * 3 + 1, none⟩ = some x1 ∧ w.cell? ⟨g, off + i * 3 + 2, none⟩ = some x2 ∧ NShows w x (.agg #[x0, x1, x2]))

/-- The slice v shows these procedures. -/
def SProcs (w : World) (l : List KSP) (v : Value) : Prop :=
  l.length ≤ maxLen ∧ (∀ p ∈ l, p.collate ≤ 255 ∧ p.timeout ≤ 65535) ∧
  ((l = [] ∧ ∃ a c, v = .slice a 0 c) ∨
   ∃ g off cap, v = .slice (some ⟨g, off, none⟩) l.length cap ∧ l.length ≤ cap ∧ ∀ i p, l[i]? = some p → ∃ x0 x1 x2 y0 y1 y2,
      (∀ j u, [x0, x1, x2, y0, y1, y2, .int .u8 p.collate, .int .u16 p.timeout][j]? = some u → w.cell? ⟨g, off + i * 8 + j, none⟩ = some u) ∧
      NShows w p.takes (.agg #[x0, x1, x2]) ∧ NShows w p.answers (.agg #[y0, y1, y2]))

/-- The value v shows the argument s. -/
def SShows (w : World) (s : KS) (v : Value) : Prop :=
  ∃ av pv, v = .agg #[.int .u16 s.number, av, .int .u8 s.faults, pv] ∧ s.number ≤ 65535 ∧ s.faults ≤ 255 ∧ Nodes w s.aliases av ∧ SProcs w s.procs pv

theorem Nodes.fr {w w' : World} {l : List KN} {v : Value} (h : Nodes w l v) (hf : Fr (fun _ => False) w w') : Nodes w' l v := by
  obtain ⟨h1, h2 | ⟨g, off, cap, rfl, hle, hc⟩⟩ := h
  · exact ⟨h1, .inl h2⟩
  · refine ⟨h1, .inr ⟨g, off, cap, rfl, hle, fun i x hi => ?_⟩⟩
    obtain ⟨x0, x1, x2, c0, c1, c2, hx⟩ := hc i x hi
    exact ⟨x0, x1, x2, cell_fr (R := fun _ => True) hf (fun _ _ h => h) trivial c0, cell_fr (R := fun _ => True) hf (fun _ _ h => h) trivial c1, cell_fr (R := fun _ => True) hf (fun _ _ h => h) trivial c2, NShows.fr hf _ _ hx⟩

theorem SProcs.fr {w w' : World} {l : List KSP} {v : Value} (h : SProcs w l v) (hf : Fr (fun _ => False) w w') : SProcs w' l v := by
  obtain ⟨h0, h1, h2 | ⟨g, off, cap, rfl, hle, hc⟩⟩ := h
  · exact ⟨h0, h1, .inl h2⟩
  · refine ⟨h0, h1, .inr ⟨g, off, cap, rfl, hle, fun i x hi => ?_⟩⟩
    obtain ⟨x0, x1, x2, y0, y1, y2, c, hx, hy⟩ := hc i x hi
    exact ⟨x0, x1, x2, y0, y1, y2, fun j u hj => cell_fr (R := fun _ => True) hf (fun _ _ h => h) trivial (c j u hj), NShows.fr hf _ _ hx, NShows.fr hf _ _ hy⟩

theorem SShows.fr {w w' : World} {s : KS} {v : Value} (h : SShows w s v) (hf : Fr (fun _ => False) w w') : SShows w' s v := by
  obtain ⟨av, pv, e, h1, h2, h3, h4⟩ := h
  exact ⟨av, pv, e, h1, h2, h3.fr hf, h4.fr hf⟩

theorem Nodes.shape {w : World} {l : List KN} {v : Value} (h : Nodes w l v) : ∃ a c, v = .slice a l.length c ∧ (l.length = 0 ∨ l.length ≤ c ∧ ∃ g off, a = some ⟨g, off, none⟩ ∧ ∀ i x, l[i]? = some x → ∃ x0 x1 x2,
      w.cell? ⟨g, off + i * 3, none⟩ = some x0 ∧ w.cell? ⟨g, off + i * 3 + 1, none⟩ = some x1 ∧ w.cell? ⟨g, off + i * 3 + 2, none⟩ = some x2 ∧ NShows w x (.agg #[x0, x1, x2])) := by
  obtain ⟨h1, ⟨rfl, a, c, rfl⟩ | ⟨g, off, cap, rfl, hle, hc⟩⟩ := h
  · exact ⟨a, c, rfl, .inl rfl⟩
  · exact ⟨_, cap, rfl, .inr ⟨hle, g, off, rfl, hc⟩⟩

theorem SProcs.shape {w : World} {l : List KSP} {v : Value} (h : SProcs w l v) : ∃ a c, v = .slice a l.length c ∧ (l.length = 0 ∨ l.length ≤ c ∧ ∃ g off, a = some ⟨g, off, none⟩ ∧ ∀ i p, l[i]? = some p → ∃ x0 x1 x2 y0 y1 y2,
      (∀ j u, [x0, x1, x2, y0, y1, y2, .int .u8 p.collate, .int .u16 p.timeout][j]? = some u → w.cell? ⟨g, off + i * 8 + j, none⟩ = some u) ∧
      NShows w p.takes (.agg #[x0, x1, x2]) ∧ NShows w p.answers (.agg #[y0, y1, y2])) := by
  obtain ⟨h0, h1, ⟨rfl, a, c, rfl⟩ | ⟨g, off, cap, rfl, hle, hc⟩⟩ := h
  · exact ⟨a, c, rfl, .inl rfl⟩
  · exact ⟨_, cap, rfl, .inr ⟨hle, g, off, rfl, hc⟩⟩

/-- Is it small? -/
def smallE (s : KS) : Bool := s.aliases.all (fun a => lightE a 3) && s.procs.all (fun p => lightE p.takes 3 && lightE p.answers 3) && decide (s.aliases.length ≤ 10) && decide (s.procs.length ≤ 10)

theorem all_take {α : Type} (f : α → Bool) (l : List α) (h : ∀ (i : Nat) (x : α), l[i]? = some x → f x = true) : l.all f = true := by
  rw [List.all_eq_true]
  intro x hx
  obtain ⟨i, hi, rfl⟩ := List.getElem_of_mem hx
  exact h i _ (List.getElem?_eq_getElem hi)

theorem all_not {α : Type} (f : α → Bool) (l : List α) (i : Nat) (x : α) (hx : l[i]? = some x) (h : f x = false) : l.all f = false := by
  rw [List.all_eq_false]
  exact ⟨x, List.mem_of_getElem? hx, by simpa using h⟩
end
end Go.Proofs.YtplipjijaaejlaaGreat
