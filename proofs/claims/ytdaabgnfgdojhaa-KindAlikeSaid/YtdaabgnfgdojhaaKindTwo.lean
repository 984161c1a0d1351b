/-
  Two tables made side by side, each laid in a block of its own: what holds while this goes on, whatever the order.
-/
import Derived.Test.YtdaabgnfgdojhaaKindTable
import Derived.Test.YtdaabgnfgdojhaaKindTabMath
import Derived.Test.YtdaabgnfgdojhaaRegionL
namespace Go.Proofs.Ytdaabgnfgdojhaa
open Go.RowKit
set_option linter.unusedSimpArgs false
set_option linter.unusedVariables false

def zero6 : Array Value := #[.string ⟨#[]⟩, .int .i64 0, .int .i64 0, .slice none 0 0, .slice none 0 0, .slice none 0 0]

def ptr (g : Nat) : Value := .pointer (some ⟨g, 0, none⟩)

/-- New memory, off the two blocks. -/
def Clear (w : World) (st : Nat → Option Value) : Nat → Prop := fun k => w.heap.size < k ∧ st 4 ≠ some (ptr k) ∧ st 5 ≠ some (ptr k)

/-- Ahead of the stores. -/
structure PhA (w : World) (T : KTab) (st : Nat → Option Value) (wx : World) : Prop where
  fr : Fr (fun _ => False) w wx
  t1 : ∀ v, st 1 = some v → Tabled (Clear w st) wx T v
  t3 : ∀ v, st 3 = some v → Tabled (Clear w st) wx T v
  p4 : ∀ v, st 4 = some v → ∃ g, v = ptr g ∧ w.heap.size < g ∧ wx.heap[g]? = some (.cells zero6 32 (0, 0))
  p5 : ∀ v, st 5 = some v → ∃ g, v = ptr g ∧ w.heap.size < g ∧ wx.heap[g]? = some (.cells zero6 32 (0, 0))
  ne : ∀ v, st 4 = some v → st 5 ≠ some v

/-- Two tables in two blocks, all else off them. -/
def TwoIn (w : World) (T U : KTab) (g5 g6 : Nat) (wx : World) : Prop :=
  Fr (fun _ => False) w wx ∧ g5 ≠ g6 ∧ w.heap.size < g5 ∧ w.heap.size < g6 ∧
  (∃ cs, wx.heap[g5]? = some (.cells cs 32 (0, 0)) ∧ Tabled (fun k => w.heap.size < k ∧ k ≠ g5 ∧ k ≠ g6) wx T (.agg cs)) ∧
  (∃ cs, wx.heap[g6]? = some (.cells cs 32 (0, 0)) ∧ Tabled (fun k => w.heap.size < k ∧ k ≠ g5 ∧ k ≠ g6) wx U (.agg cs))

/-- Between the stores. -/
def PhB (w : World) (T : KTab) (st : Nat → Option Value) (wx : World) : Prop :=
  ∃ g5 g6 v3, st 4 = some (ptr g5) ∧ st 5 = some (ptr g6) ∧ st 3 = some v3 ∧ Fr (fun _ => False) w wx ∧ g5 ≠ g6 ∧ w.heap.size < g5 ∧ w.heap.size < g6 ∧
  (∃ cs, wx.heap[g5]? = some (.cells cs 32 (0, 0)) ∧ Tabled (fun k => w.heap.size < k ∧ k ≠ g5 ∧ k ≠ g6) wx T (.agg cs)) ∧
  wx.heap[g6]? = some (.cells zero6 32 (0, 0)) ∧ Tabled (fun k => w.heap.size < k ∧ k ≠ g5 ∧ k ≠ g6) wx T v3

def TwoS (w : World) (T : KTab) (st : Nat → Option Value) (wx : World) : Prop := match st 6, st 7 with
  | none, none => PhA w T st wx
  | some _, none => PhB w T st wx
  | _, some _ => ∃ g5 g6, st 4 = some (ptr g5) ∧ st 5 = some (ptr g6) ∧ TwoIn w T T g5 g6 wx

def upd (st : Nat → Option Value) (i : Nat) (v : Value) : Nat → Option Value := fun j => if j = i then some v else st j

theorem TwoS.a {w : World} {T : KTab} {st : Nat → Option Value} {wx : World} (h : TwoS w T st wx) (h6 : st 6 = none) (h7 : st 7 = none) : PhA w T st wx := by
  unfold TwoS at h; rw [h6, h7] at h; exact h

theorem PhA.two {w : World} {T : KTab} {st : Nat → Option Value} {wx : World} (h : PhA w T st wx) (h6 : st 6 = none) (h7 : st 7 = none) : TwoS w T st wx := by
  unfold TwoS; rw [h6, h7]; exact h

theorem PhA.later {w wx wy : World} {T : KTab} {st : Nat → Option Value} (h : PhA w T st wx) (f : Fr (fun _ => False) wx wy) : PhA w T st wy where
  fr := h.fr.trans f (fun _ _ h => h)
  t1 v hv := (h.t1 v hv).fr f (fun _ _ h => h)
  t3 v hv := (h.t3 v hv).fr f (fun _ _ h => h)
  p4 v hv := by obtain ⟨g, e, hg, hc⟩ := h.p4 v hv; exact ⟨g, e, hg, box_kept hc f (fun h => h)⟩
  p5 v hv := by obtain ⟨g, e, hg, hc⟩ := h.p5 v hv; exact ⟨g, e, hg, box_kept hc f (fun h => h)⟩
  ne := h.ne

theorem ptr_inj {g g' : Nat} (h : ptr g = ptr g') : g = g' := by unfold ptr at h; simpa using h

theorem PhA.new {w wx wy : World} {T : KTab} {st : Nat → Option Value} (h : PhA w T st wx) {v : Value} (ht : Tabled (fun k => wx.heap.size ≤ k) wy T v) (hs : w.heap.size < wx.heap.size) : Tabled (Clear w st) wy T v := by
  refine ht.mono fun k _ hk => ⟨by omega, fun e => ?_, fun e => ?_⟩
  · obtain ⟨g, eg, _, hc⟩ := h.p4 _ e
    have := ptr_inj eg
    have := lt_of_block hc
    omega
  · obtain ⟨g, eg, _, hc⟩ := h.p5 _ e
    have := ptr_inj eg
    have := lt_of_block hc
    omega

theorem PhA.call1 {w wx wy : World} {T : KTab} {st : Nat → Option Value} (h : PhA w T st wx) (f : Fr (fun _ => False) wx wy) {v : Value} (ht : Tabled (fun k => wx.heap.size ≤ k) wy T v) (hs : w.heap.size < wx.heap.size) : PhA w T (upd st 1 v) wy :=
  have hl := h.later f
  { fr := hl.fr, t1 := fun u hu => by (have e : v = u := by simpa [upd] using hu); subst e; exact h.new ht hs, t3 := hl.t3, p4 := hl.p4, p5 := hl.p5, ne := hl.ne }

theorem PhA.call3 {w wx wy : World} {T : KTab} {st : Nat → Option Value} (h : PhA w T st wx) (f : Fr (fun _ => False) wx wy) {v : Value} (ht : Tabled (fun k => wx.heap.size ≤ k) wy T v) (hs : w.heap.size < wx.heap.size) : PhA w T (upd st 3 v) wy :=
  have hl := h.later f
  { fr := hl.fr, t1 := hl.t1, t3 := fun u hu => by (have e : v = u := by simpa [upd] using hu); subst e; exact h.new ht hs, p4 := hl.p4, p5 := hl.p5, ne := hl.ne }

theorem clear_new {w wx : World} {st : Nat → Option Value} {T : KTab} {v : Value} (i : Nat) (h : Tabled (Clear w st) wx T v) : Tabled (Clear w (upd st i (ptr wx.heap.size))) (wx.alloc (.cells zero6 32)) T v := by
  have h1 := (h.mono (S := fun k => Clear w st k ∧ k < wx.heap.size) (fun k hk h => ⟨h, hk⟩)).fr ((Fr.refl (fun _ => False) wx).alloc (.cells zero6 32)) (fun _ _ h => h)
  refine h1.mono fun k _ hk => ⟨hk.1.1, fun e => ?_, fun e => ?_⟩
  · unfold upd at e
    split at e
    · have := ptr_inj (Option.some.inj e); omega
    · exact hk.1.2.1 e
  · unfold upd at e
    split at e
    · have := ptr_inj (Option.some.inj e); omega
    · exact hk.1.2.2 e

theorem PhA.alloc4 {w wx : World} {T : KTab} {st : Nat → Option Value} (h : PhA w T st wx) (hs : w.heap.size < wx.heap.size) : PhA w T (upd st 4 (ptr wx.heap.size)) (wx.alloc (.cells zero6 32)) :=
  have hl := h.later ((Fr.refl (fun _ => False) wx).alloc (.cells zero6 32))
  { fr := hl.fr, t1 := fun u hu => clear_new 4 (h.t1 u hu), t3 := fun u hu => clear_new 4 (h.t3 u hu),
    p4 := fun u hu => by (have e : ptr wx.heap.size = u := by simpa [upd] using hu); subst e; exact ⟨_, rfl, hs, heap_alloc_new _ _⟩,
    p5 := hl.p5,
    ne := fun u hu e => by
      have e1 : ptr wx.heap.size = u := by simpa [upd] using hu
      subst e1
      obtain ⟨g, eg, _, hc⟩ := h.p5 _ e
      have := ptr_inj eg
      have := lt_of_block hc
      omega }

theorem PhA.alloc5 {w wx : World} {T : KTab} {st : Nat → Option Value} (h : PhA w T st wx) (hs : w.heap.size < wx.heap.size) : PhA w T (upd st 5 (ptr wx.heap.size)) (wx.alloc (.cells zero6 32)) :=
  have hl := h.later ((Fr.refl (fun _ => False) wx).alloc (.cells zero6 32))
  { fr := hl.fr, t1 := fun u hu => clear_new 5 (h.t1 u hu), t3 := fun u hu => clear_new 5 (h.t3 u hu),
    p4 := hl.p4,
    p5 := fun u hu => by (have e : ptr wx.heap.size = u := by simpa [upd] using hu); subst e; exact ⟨_, rfl, hs, heap_alloc_new _ _⟩,
    ne := fun u hu e => by
      have e1 : ptr wx.heap.size = u := by simpa [upd] using e
      subst e1
      obtain ⟨g, eg, _, hc⟩ := h.p4 _ hu
      have := ptr_inj eg
      have := lt_of_block hc
      omega }

/-- A table's value is six cells. -/
theorem Tabled.six {R : Nat → Prop} {w : World} {T : KTab} {v : Value} (h : Tabled R w T v) : ∃ (na : ByteArray) (n m : Int) (a : Option Addr) (k c : Nat) (a' : Option Addr) (k' c' : Nat) (a'' : Option Addr) (k'' c'' : Nat),
    v = .agg #[.string na, .int .i64 n, .int .i64 m, .slice a k c, .slice a' k' c', .slice a'' k'' c''] := by
  obtain ⟨tv, fv, pv, rfl, _, h1, h2, h3⟩ := h
  obtain ⟨a, c, rfl, _⟩ := h1.shape
  obtain ⟨a', c', rfl, _⟩ := h2.shape
  obtain ⟨a'', c'', rfl, _⟩ := h3.shape
  exact ⟨_, _, _, _, _, _, _, _, _, _, _, _, rfl⟩

theorem PhA.store6 {w wx wy : World} {T : KTab} {st : Nat → Option Value} (h : PhA w T st wx) {v1 v3 u : Value} {g5 g6 : Nat} {cs : Array Value} (h1 : st 1 = some v1) (h3 : st 3 = some v3) (h4 : st 4 = some (ptr g5)) (h5 : st 5 = some (ptr g6)) (h7 : st 7 = none) (hv : v1 = .agg cs)
    (hy : wy.heap[g5]? = some (.cells cs 32 (0, 0))) (f : Fr (fun k => k = g5) wx wy) : TwoS w T (upd st 6 u) wy := by
  unfold TwoS
  rw [show upd st 6 u 6 = some u from rfl, show upd st 6 u 7 = st 7 from rfl, h7]
  obtain ⟨g, e, hg5, hc5⟩ := h.p4 _ h4
  obtain rfl := ptr_inj e
  obtain ⟨g', e', hg6, hc6⟩ := h.p5 _ h5
  obtain rfl := ptr_inj e'
  have hne : g5 ≠ g6 := fun e => h.ne _ h4 (by rw [h5, e])
  have key : ∀ v, Tabled (Clear w st) wx T v → Tabled (fun k => w.heap.size < k ∧ k ≠ g5 ∧ k ≠ g6) wy T v := fun v hv =>
    (hv.mono (S := fun k => w.heap.size < k ∧ k ≠ g5 ∧ k ≠ g6) (fun k _ hk => ⟨hk.1, fun e => hk.2.1 (by rw [e]; exact h4), fun e => hk.2.2 (by rw [e]; exact h5)⟩)).fr f (fun k hk e => hk.2.1 e)
  exact ⟨g5, g6, v3, h4, h5, h3, h.fr.trans f (fun i hi e => by omega), hne, hg5, hg6, ⟨cs, hy, hv ▸ key _ (h.t1 _ h1)⟩, box_kept hc6 f (fun e => hne e.symm), key _ (h.t3 _ h3)⟩

theorem PhB.store7 {w wx wy : World} {T : KTab} {st : Nat → Option Value} (h : PhB w T st wx) {v3 u : Value} {g6 : Nat} {cs : Array Value} (h3 : st 3 = some v3) (h5 : st 5 = some (ptr g6)) (hv : v3 = .agg cs)
    (hy : wy.heap[g6]? = some (.cells cs 32 (0, 0))) (f : Fr (fun k => k = g6) wx wy) : TwoS w T (upd st 7 u) wy := by
  obtain ⟨g5, g, v, h4, h5', h3', hf, hne, hg5, hg6, ⟨cs5, hc5, ht5⟩, hc6, ht6⟩ := h
  obtain rfl := ptr_inj (Option.some.inj (h5'.symm.trans h5))
  obtain rfl := Option.some.inj (h3'.symm.trans h3)
  have e : TwoS w T (upd st 7 u) wy = ∃ g5 g6, upd st 7 u 4 = some (ptr g5) ∧ upd st 7 u 5 = some (ptr g6) ∧ TwoIn w T T g5 g6 wy := by
    unfold TwoS
    rw [show upd st 7 u 7 = some u from rfl]
    split <;> simp_all
  rw [e]
  exact ⟨g5, g, h4, h5, hf.trans f (fun i hi e => by omega), hne, hg5, hg6, ⟨cs5, box_kept hc5 f hne, ht5.fr f (fun k hk e => hk.2.2 e)⟩, ⟨cs, hy, hv ▸ ht6.fr f (fun k hk e => hk.2.2 e)⟩⟩

end Go.Proofs.Ytdaabgnfgdojhaa
