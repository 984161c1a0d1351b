/-
  'w, ok := v.Next(Members(bits))' in a region that draws its order: what holds while it goes on. And: a told region whose values are known, or slices that show known integers, or views of them.
-/
import Derived.Test.YtlcdmaehedhipaaTrNext
import Derived.Test.YtlcdmaehedhipaaRegionL
namespace Go.Proofs.Ytlcdmaehedhipaa
open Go.RowKit
set_option maxRecDepth 100000

/-- What an operation leaves: a value; a slice that shows these; a view of these. -/
inductive VS where
  | is (v : Value)
  | si (l : List Int)
  | vw (n : Int) (l : List Int)
def VS.holds : VS → Value → World → Prop
  | .is u, v, _ => v = u
  | .si l, v, w => SI w v l
  | .vw n l, v, w => ∃ a c, v = .agg #[.int .i64 n, .slice a l.length c] ∧ SIc w a c l
def vsV (L : List VS) (i : Nat) (v : Value) (w : World) : Prop := (L.getD i (.is undef)).holds v w
theorem vsV_mono (L : List VS) : ∀ i v w w', Fr (fun _ => False) w w' → vsV L i v w → vsV L i v w' := by
  intro i v w w' f h
  unfold vsV at *
  cases hL : L.getD i (.is undef) with
  | is u => rw [hL] at h; exact h
  | si l => rw [hL] at h; exact SI.fr h f
  | vw n l =>
    rw [hL] at h
    obtain ⟨a, c, h1, h2⟩ := h
    exact ⟨a, c, h1, h2.fr f⟩

abbrev TV (y : Int) (x : List Int) (B : Bool) (p : Option Addr) (k : Nat) : Value := .tuple #[.agg #[.int .i64 y, .slice p x.length k], .bool B]
abbrev UV (y : Int) (x : List Int) (p : Option Addr) (k : Nat) : Value := .agg #[.int .i64 y, .slice p x.length k]
abbrev lptr (g : Nat) : Value := .pointer (some ⟨g, 0, none⟩)
theorem lptr_inj {g g' : Nat} (h : lptr g = lptr g') : g = g' := by unfold lptr at h; simpa using h

/-- A slice that shows x, off the new block. -/
def SIo (N : Nat) (st : Nat → Option Value) (wx : World) (p : Option Addr) (k : Nat) (x : List Int) : Prop :=
  SIc wx p k x ∧ (∀ g, st 7 = some (lptr g) → x ≠ [] → ∀ a, p = some a → a.block ≠ g) ∧ (x ≠ [] → ∀ a, p = some a → N ≤ a.block)

theorem SIo.fr {N : Nat} {st st' : Nat → Option Value} {wx wy : World} {p : Option Addr} {k : Nat} {x : List Int} (h : SIo N st wx p k x) (f : Fr (fun _ => False) wx wy) (h7 : st' 7 = st 7) : SIo N st' wy p k x :=
  ⟨h.1.fr f, fun g hg => h.2.1 g (h7 ▸ hg), h.2.2⟩

structure NX (wb : World) (m x : List Int) (y : Int) (B : Bool) (st : Nat → Option Value) (wx : World) : Prop where
  fr : Fr (fun _ => False) wb wx
  ord : st 8 ≠ none → st 2 ≠ none ∧ st 3 ≠ none ∧ st 4 ≠ none ∧ st 5 ≠ none ∧ st 7 ≠ none
  ord2 : (st 3 ≠ none → st 2 ≠ none) ∧ (st 5 ≠ none → st 4 ≠ none)
  sh : ∀ v, (st 3 = some v ∨ st 4 = some v) → ∃ p k, v = TV y x B p k ∧ (st 8 = none → SIo wb.heap.size st wx p k x)
  c2 : st 8 = none → ∀ v, st 2 = some v → SI wx v m
  c5 : st 8 = none → ∀ v, st 5 = some v → ∃ p k, v = UV y x p k ∧ SIo wb.heap.size st wx p k x
  c7 : st 8 = none → ∀ v, st 7 = some v → ∃ g, v = lptr g ∧ wb.heap.size ≤ g ∧ wx.heap[g]? = some (oVw 0 none 0 0)
  c8 : st 8 ≠ none → ∃ g p k, st 7 = some (lptr g) ∧ wb.heap.size ≤ g ∧ wx.heap[g]? = some (oVw y p x.length k) ∧ SIc wx p k x ∧ (x ≠ [] → ∀ a, p = some a → wb.heap.size ≤ a.block)

def nupd (st : Nat → Option Value) (i : Nat) (v : Value) : Nat → Option Value := fun j => if j = i then some v else st j
theorem nupd_at (st : Nat → Option Value) (i : Nat) (v : Value) : nupd st i v i = some v := by unfold nupd; rw [if_pos rfl]
theorem nupd_ne (st : Nat → Option Value) (i j : Nat) (v : Value) (h : j ≠ i) : nupd st i v j = st j := by unfold nupd; rw [if_neg h]

section
variable {wb wx wy : World} {m x : List Int} {y : Int} {B : Bool} {st : Nat → Option Value}

theorem NX.start : NX wb m x y B (fun _ => none) wb.drew :=
  ⟨(Fr.refl _ _).drew, fun h => absurd rfl h, ⟨fun h => absurd rfl h, fun h => absurd rfl h⟩, fun v h => (by rcases h with h | h <;> cases h), fun _ v h => (by cases h), fun _ v h => (by cases h), fun _ v h => (by cases h), fun h => absurd rfl h⟩

theorem NX.early (h : NX wb m x y B st wx) (i : Nat) (hi : i = 2 ∨ i = 3 ∨ i = 4 ∨ i = 5 ∨ i = 7) (h0 : st i = none) : st 8 = none := by
  cases h8 : st 8 with
  | none => rfl
  | some v =>
    have := h.ord (by rw [h8]; simp)
    rcases hi with rfl | rfl | rfl | rfl | rfl <;> simp [h0] at this

theorem NX.two (h : NX wb m x y B st wx) (h0 : st 2 = none) {v : Value} (f : Fr (fun _ => False) wx wy) (hv : SI wy v m) : NX wb m x y B (nupd st 2 v) wy := by
  have h8 := h.early 2 (by simp) h0
  have k8 : nupd st 2 v 8 = none := by rw [nupd_ne _ _ _ _ (by omega)]; exact h8
  refine ⟨h.fr.trans f (fun _ _ h => h), fun k => absurd k8 k, ?_, fun u hu => ?_, fun _ u hu => ?_, fun _ u hu => ?_, fun _ u hu => ?_, fun k => absurd k8 k⟩
  · exact ⟨fun _ => by rw [nupd_at]; simp, by rw [nupd_ne _ _ _ _ (by omega), nupd_ne _ _ _ _ (by omega)]; exact h.ord2.2⟩
  · rw [nupd_ne _ _ _ _ (by omega), nupd_ne _ _ _ _ (by omega)] at hu
    obtain ⟨p, k, e, hs⟩ := h.sh u hu
    exact ⟨p, k, e, fun _ => (hs h8).fr f (nupd_ne _ _ _ _ (by omega))⟩
  · rw [nupd_at] at hu; cases hu; exact hv
  · rw [nupd_ne _ _ _ _ (by omega)] at hu
    obtain ⟨p, k, e, hs⟩ := h.c5 h8 u hu
    exact ⟨p, k, e, hs.fr f (nupd_ne _ _ _ _ (by omega))⟩
  · rw [nupd_ne _ _ _ _ (by omega)] at hu
    obtain ⟨g, e, hg, hc⟩ := h.c7 h8 u hu
    exact ⟨g, e, hg, lblock_kept hc f (fun h => h)⟩

theorem NX.three (h : NX wb m x y B st wx) (h0 : st 3 = none) (h2 : st 2 ≠ none) {p : Option Addr} {k : Nat} (f : Fr (fun _ => False) wx wy) (hv : SIn wx wy p k x) : NX wb m x y B (nupd st 3 (TV y x B p k)) wy := by
  have h8 := h.early 3 (by simp) h0
  have k8 : nupd st 3 (TV y x B p k) 8 = none := by rw [nupd_ne _ _ _ _ (by omega)]; exact h8
  refine ⟨h.fr.trans f (fun _ _ h => h), fun k => absurd k8 k, ?_, fun u hu => ?_, fun _ u hu => ?_, fun _ u hu => ?_, fun _ u hu => ?_, fun k => absurd k8 k⟩
  · exact ⟨fun _ => by rw [nupd_ne _ _ _ _ (by omega)]; exact h2, by rw [nupd_ne _ _ _ _ (by omega), nupd_ne _ _ _ _ (by omega)]; exact h.ord2.2⟩
  · rw [nupd_at, nupd_ne _ _ _ _ (by omega)] at hu
    rcases hu with hu | hu
    · cases hu
      refine ⟨p, k, rfl, fun _ => ⟨hv.1, fun g hg hx a ha => ?_, fun hx a ha => Nat.le_trans h.fr.size (hv.2 hx a ha)⟩⟩
      rw [nupd_ne _ _ _ _ (by omega)] at hg
      obtain ⟨g', e, _, hc⟩ := h.c7 h8 _ hg
      have e' := lptr_inj e
      have h1 := (Array.getElem?_eq_some_iff.1 hc).1
      have h2 := hv.2 hx a ha
      omega
    · obtain ⟨p, k, e, hs⟩ := h.sh u (.inr hu)
      exact ⟨p, k, e, fun _ => (hs h8).fr f (nupd_ne _ _ _ _ (by omega))⟩
  · rw [nupd_ne _ _ _ _ (by omega)] at hu; exact SI.fr (h.c2 h8 u hu) f
  · rw [nupd_ne _ _ _ _ (by omega)] at hu
    obtain ⟨p, k, e, hs⟩ := h.c5 h8 u hu
    exact ⟨p, k, e, hs.fr f (nupd_ne _ _ _ _ (by omega))⟩
  · rw [nupd_ne _ _ _ _ (by omega)] at hu
    obtain ⟨g, e, hg, hc⟩ := h.c7 h8 u hu
    exact ⟨g, e, hg, lblock_kept hc f (fun h => h)⟩

theorem NX.four (h : NX wb m x y B st wx) (h0 : st 4 = none) {v : Value} (hv : st 3 = some v) : NX wb m x y B (nupd st 4 v) wx := by
  have h8 := h.early 4 (by simp) h0
  have k8 : nupd st 4 v 8 = none := by rw [nupd_ne _ _ _ _ (by omega)]; exact h8
  refine ⟨h.fr, fun k => absurd k8 k, ?_, fun u hu => ?_, fun _ u hu => ?_, fun _ u hu => ?_, fun _ u hu => ?_, fun k => absurd k8 k⟩
  · exact ⟨by rw [nupd_ne _ _ _ _ (by omega), nupd_ne _ _ _ _ (by omega)]; exact h.ord2.1, fun _ => by rw [nupd_at]; simp⟩
  · rw [nupd_at, nupd_ne _ _ _ _ (by omega)] at hu
    have hu' : st 3 = some u := by rcases hu with hu | hu; exact hu; cases hu; exact hv
    obtain ⟨p, k, e, hs⟩ := h.sh u (.inl hu')
    exact ⟨p, k, e, fun _ => (hs h8).fr (Fr.refl _ _) (nupd_ne _ _ _ _ (by omega))⟩
  · rw [nupd_ne _ _ _ _ (by omega)] at hu; exact h.c2 h8 u hu
  · rw [nupd_ne _ _ _ _ (by omega)] at hu
    obtain ⟨p, k, e, hs⟩ := h.c5 h8 u hu
    exact ⟨p, k, e, hs.fr (Fr.refl _ _) (nupd_ne _ _ _ _ (by omega))⟩
  · rw [nupd_ne _ _ _ _ (by omega)] at hu; exact h.c7 h8 u hu

theorem NX.five (h : NX wb m x y B st wx) (h0 : st 5 = none) {p : Option Addr} {k : Nat} (hv : st 4 = some (TV y x B p k)) : NX wb m x y B (nupd st 5 (UV y x p k)) wx := by
  have h8 := h.early 5 (by simp) h0
  have k8 : nupd st 5 (UV y x p k) 8 = none := by rw [nupd_ne _ _ _ _ (by omega)]; exact h8
  refine ⟨h.fr, fun k => absurd k8 k, ?_, fun u hu => ?_, fun _ u hu => ?_, fun _ u hu => ?_, fun _ u hu => ?_, fun k => absurd k8 k⟩
  · exact ⟨by rw [nupd_ne _ _ _ _ (by omega), nupd_ne _ _ _ _ (by omega)]; exact h.ord2.1, fun _ => by rw [nupd_ne _ _ _ _ (by omega), hv]; simp⟩
  · rw [nupd_ne _ _ _ _ (by omega), nupd_ne _ _ _ _ (by omega)] at hu
    obtain ⟨p, k, e, hs⟩ := h.sh u hu
    exact ⟨p, k, e, fun _ => (hs h8).fr (Fr.refl _ _) (nupd_ne _ _ _ _ (by omega))⟩
  · rw [nupd_ne _ _ _ _ (by omega)] at hu; exact h.c2 h8 u hu
  · rw [nupd_at] at hu
    cases hu
    obtain ⟨p', k', e, hs⟩ := h.sh _ (.inr hv)
    simp only [TV, Value.tuple.injEq, Array.mk.injEq, List.cons.injEq, Value.agg.injEq, Value.slice.injEq, true_and, and_true] at e
    obtain ⟨rfl, rfl⟩ := e
    exact ⟨p, k, rfl, (hs h8).fr (Fr.refl _ _) (nupd_ne _ _ _ _ (by omega))⟩
  · rw [nupd_ne _ _ _ _ (by omega)] at hu; exact h.c7 h8 u hu

theorem NX.seven (h : NX wb m x y B st wx) (h0 : st 7 = none) : NX wb m x y B (nupd st 7 (lptr wx.heap.size)) (wx.alloc (oVw 0 none 0 0)) := by
  have h8 := h.early 7 (by simp) h0
  have k8 : nupd st 7 (lptr wx.heap.size) 8 = none := by rw [nupd_ne _ _ _ _ (by omega)]; exact h8
  have f : Fr (fun _ => False) wx (wx.alloc (oVw 0 none 0 0)) := (Fr.refl _ _).alloc _
  have off : ∀ p k, SIo wb.heap.size st wx p k x → SIo wb.heap.size (nupd st 7 (lptr wx.heap.size)) (wx.alloc (oVw 0 none 0 0)) p k x := by
    intro p k hs
    refine ⟨hs.1.fr f, fun g hg hx a ha => ?_, hs.2.2⟩
    rw [nupd_at] at hg
    have e := lptr_inj (Option.some.inj hg)
    obtain ⟨_, g', off, hp, hcell⟩ := hs.1 (List.length_pos_iff.2 hx)
    have := World.block_lt_of_cell? _ _ (hcell 0 (List.length_pos_iff.2 hx))
    rw [hp] at ha
    cases ha
    simp at this ⊢
    omega
  refine ⟨h.fr.alloc _, fun k => absurd k8 k, ?_, fun u hu => ?_, fun _ u hu => ?_, fun _ u hu => ?_, fun _ u hu => ?_, fun k => absurd k8 k⟩
  · exact ⟨by rw [nupd_ne _ _ _ _ (by omega), nupd_ne _ _ _ _ (by omega)]; exact h.ord2.1, by rw [nupd_ne _ _ _ _ (by omega), nupd_ne _ _ _ _ (by omega)]; exact h.ord2.2⟩
  · rw [nupd_ne _ _ _ _ (by omega), nupd_ne _ _ _ _ (by omega)] at hu
    obtain ⟨p, k, e, hs⟩ := h.sh u hu
    exact ⟨p, k, e, fun _ => off p k (hs h8)⟩
  · rw [nupd_ne _ _ _ _ (by omega)] at hu; exact SI.fr (h.c2 h8 u hu) f
  · rw [nupd_ne _ _ _ _ (by omega)] at hu
    obtain ⟨p, k, e, hs⟩ := h.c5 h8 u hu
    exact ⟨p, k, e, off p k hs⟩
  · rw [nupd_at] at hu
    cases hu
    exact ⟨_, rfl, h.fr.size, heap_alloc_new _ _⟩

theorem sic_off {w w' : World} {p : Option Addr} {k g : Nat} {x : List Int} (h : SIc w p k x) (f : Fr (fun k => k = g) w w') (ho : x ≠ [] → ∀ a, p = some a → a.block ≠ g) : SIc w' p k x := fun h0 => by
  obtain ⟨h1, b, off, h2, h3⟩ := h h0
  have hb := ho (List.length_pos_iff.1 h0) _ h2
  refine ⟨h1, b, off, h2, fun j hj => ?_⟩
  rw [← h3 j hj]
  exact f.cell (World.block_lt_of_cell? w _ (h3 j hj)) hb

theorem NX.eight (h : NX wb m x y B st wx) (h0 : st 8 = none) {g : Nat} {p : Option Addr} {k : Nat} {u : Value} (h3 : st 3 ≠ none) (h7 : st 7 = some (lptr g)) (h5 : st 5 = some (UV y x p k))
    (f : Fr (fun k => k = g) wx wy) (hg : wy.heap[g]? = some (oVw y p x.length k)) : NX wb m x y B (nupd st 8 u) wy := by
  have k8 : nupd st 8 u 8 ≠ none := by rw [nupd_at]; simp
  obtain ⟨g', e, hgb, hgc⟩ := h.c7 h0 _ h7
  have e' := lptr_inj e
  subst e'
  obtain ⟨p', k', e5, hs⟩ := h.c5 h0 _ h5
  simp only [UV, Value.agg.injEq, Array.mk.injEq, List.cons.injEq, Value.slice.injEq, true_and, and_true] at e5
  obtain ⟨rfl, rfl⟩ := e5
  have h2 := h.ord2.1 h3
  have h4 := h.ord2.2 (by rw [h5]; simp)
  refine ⟨h.fr.trans f (fun i hi e => by omega), fun _ => ?_, ?_, fun v hv => ?_, fun k => absurd k k8, fun k => absurd k k8, fun k => absurd k k8, fun _ => ?_⟩
  · repeat rw [nupd_ne _ _ _ _ (by omega)]
    exact ⟨h2, h3, h4, by rw [h5]; simp, by rw [h7]; simp⟩
  · exact ⟨by rw [nupd_ne _ _ _ _ (by omega), nupd_ne _ _ _ _ (by omega)]; exact h.ord2.1, by rw [nupd_ne _ _ _ _ (by omega), nupd_ne _ _ _ _ (by omega)]; exact h.ord2.2⟩
  · rw [nupd_ne _ _ _ _ (by omega), nupd_ne _ _ _ _ (by omega)] at hv
    obtain ⟨p, k, e, _⟩ := h.sh v hv
    exact ⟨p, k, e, fun k => absurd k k8⟩
  · refine ⟨g, p, k, by rw [nupd_ne _ _ _ _ (by omega)]; exact h7, hgb, hg, sic_off hs.1 f (fun hx a ha => hs.2.1 g h7 hx a ha), hs.2.2⟩

end
end Go.Proofs.Ytlcdmaehedhipaa
