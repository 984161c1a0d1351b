/-
  slices.Insert of one integer: at the end; where there is room; where there is none.
-/
import Derived.Test.YtlcdmaehedhipaaTrIns
namespace Go.Proofs.Ytlcdmaehedhipaa
open Go.RowKit
set_option maxRecDepth 100000
set_option linter.unusedSimpArgs false
set_option linter.unusedVariables false

/-- With x ahead of the one at i. -/
def insL (l : List Int) (i : Nat) (x : Int) : List Int := l.take i ++ x :: l.drop i
theorem insL_length (l : List Int) (i : Nat) (x : Int) (hi : i ≤ l.length) : (insL l i x).length = l.length + 1 := by
  unfold insL; simp; omega
theorem insL_at (l : List Int) (i : Nat) (x : Int) (hi : i ≤ l.length) (j : Nat) : (insL l i x)[j]? = if j < i then l[j]? else if j = i then some x else l[j - 1]? := by
  unfold insL
  by_cases h : j < i
  · rw [if_pos h, List.getElem?_append_left (by simp; omega), List.getElem?_take, if_pos h]
  · rw [if_neg h, List.getElem?_append_right (by simp; omega)]
    simp only [List.length_take, Nat.min_eq_left hi]
    by_cases h2 : j = i
    · rw [if_pos h2]
      subst h2
      simp
    · rw [if_neg h2]
      obtain ⟨q, rfl⟩ : ∃ q, j = i + q + 1 := ⟨j - i - 1, by omega⟩
      have e : i + q + 1 - i = q + 1 := by omega
      rw [e, List.getElem?_cons_succ, List.getElem?_drop]
      rfl

theorem si_row2 {w : World} {g cap : Nat} {cur : Array Value} {l : List Int} (h : Row w g cap cur) (hl : l.length ≤ cap) (hc : ∀ j, j < l.length → cur[j]? = (l[j]?).map (Value.int .i64)) : SI w (.slice (some ⟨g, 0, none⟩) l.length cap) l :=
  si_row h hl (fun j hj => by rw [hc j hj, List.getElem?_eq_getElem hj]; rfl)

theorem overlaps_apart (w : World) (gv g k lb cb : Nat) (x : Int) (cap : Nat) (cur : Array Value) (hv : w.heap[gv]? = some (oInt x)) (hr : Row w g cap cur) (hne : gv ≠ g) (hc : 0 < cap) :
    (callFunc 30 #[.slice (some ⟨gv, 0, none⟩) 1 1, .slice (some ⟨g, k, none⟩) lb cb]).run Try.prog w = .ok (.value (.bool false)) w := by
  have hs1 : w.shape? gv = some (3, 1) := by simp [World.shape?, hv]
  have hs2 : w.shape? g = some (3, cap) := by simp [World.shape?, hr.1, hr.2.1]
  rw [run_callFunc_extern Try.func30 (by kernel_rfl) (by kernel_rfl) (by kernel_rfl) (e := Extern.SlicesOverlaps.overlaps #[24, 24] #[4]) (by kernel_rfl),
    Lib.run_overlaps_apart w 24 4 3 Try.underlying24 1 sizeInt ⟨gv, 0, none⟩ ⟨g, k, none⟩ 1 1 lb cb hne 3 3 1 cap hs1 hs2 (by omega) (by simp [World.frozen?, hv]) (by simp [World.frozen?, hv])]
  rfl

/-- The road where there is room. -/
theorem ins_shift (g cap i gv : Nat) (x : Int) (l : List Int) (cur : Array Value) (w : World) (hr : Row w g cap cur) (hle : l.length + 1 ≤ cap) (hc : ∀ j, (hj : j < l.length) → cur[j]? = some (.int .i64 l[j])) (hi : i < l.length) (hv : w.heap[gv]? = some (oInt x)) (hne : gv ≠ g) (ty ty' : TypeId) :
    ∃ w1 w2, (Builtin.copy_ #[24, 24] ty #[.slice (some ⟨g, i + 1, none⟩) (l.length + 1 - (i + 1)) (cap - (i + 1)), .slice (some ⟨g, i, none⟩) (l.length + 1 - i) (cap - i)]).run Try.prog w.drew = .ok (goInt ((l.length - i : Nat) : Int)) w1 ∧
      (Builtin.copy_ #[24, 24] ty' #[.slice (some ⟨g, i, none⟩) (l.length + 1 - i) (cap - i), .slice (some ⟨gv, 0, none⟩) 1 1]).run Try.prog w1 = .ok (goInt 1) w2 ∧ Fr (fun k => k = g) w w2 ∧ SI w2 (.slice (some ⟨g, 0, none⟩) (l.length + 1) cap) (insL l i x) := by
  have hl : (l.drop i).length = l.length - i := List.length_drop
  obtain ⟨w1, e1, f1, cur1, r1, a1, b1, c1⟩ := copy_part w.drew ty g (i + 1) cap (l.length + 1 - (i + 1)) (cap - (i + 1)) cur hr ⟨g, i, none⟩ (l.length + 1 - i) (cap - i) (l.drop i) (by rw [hl]; simp only [Nat.min_def]; split <;> omega)
    (fun j hj => by rw [addr_add, cell_of_row w.drew g (i + j) cur _ (0, 0) hr.1, hc (i + j) (by rw [hl] at hj; omega), List.getElem_drop]) (by rw [hl]; omega)
  rw [hl] at e1 c1
  obtain ⟨w2, e2, f2, cur2, r2, a2, b2, c2⟩ := copy_part w1 ty' g i cap (l.length + 1 - i) (cap - i) cur1 r1 ⟨gv, 0, none⟩ 1 1 [x] (by simp only [Nat.min_def, List.length_cons, List.length_nil]; split <;> omega)
    (fun j hj => by
      simp at hj
      subst hj
      rw [addr_add]
      exact int_cell (lblock_kept (w0 := w.drew) hv f1 hne)) (by simp; omega)
  simp only [List.length_cons, List.length_nil, Nat.zero_add] at e2 c2
  refine ⟨w1, w2, e1, e2, (Fr.trans (Fr.drew (Fr.refl (fun k => k = g) w)) f1 (fun _ _ h => h)).trans f2 (fun _ _ h => h), ?_⟩
  have := si_row2 (l := insL l i x) r2 (by rw [insL_length l i x (by omega)]; exact hle) (fun j hj => by
    rw [insL_length l i x (by omega)] at hj
    rw [insL_at l i x (by omega)]
    by_cases h1 : j < i
    · rw [if_pos h1, a2 j h1, a1 j (by omega), hc j (by omega), List.getElem?_eq_getElem (by omega)]; rfl
    · rw [if_neg h1]
      by_cases h2 : j = i
      · subst h2
        rw [if_pos rfl]
        exact b2 0 (by simp)
      · rw [if_neg h2, c2 j (by omega)]
        obtain ⟨q, rfl⟩ : ∃ q, j = i + 1 + q := ⟨j - i - 1, by omega⟩
        rw [b1 q (by rw [hl]; omega), List.getElem_drop, show i + 1 + q - 1 = i + q by omega, List.getElem?_eq_getElem (by omega)]
        rfl)
  rw [insL_length l i x (by omega)] at this
  exact this

/-- The road where there is none. -/
theorem ins_grow (g cap i gv : Nat) (x : Int) (l : List Int) (cur : Array Value) (w : World) (hr : Row w g cap cur) (hle : l.length ≤ cap) (hno : cap < l.length + 1) (hs : l.length ≤ 900) (hc : ∀ j, (hj : j < l.length) → cur[j]? = some (.int .i64 l[j])) (hi : i < l.length) (hv : w.heap[gv]? = some (oInt x)) (ty ty' ty2 : TypeId) :
    ∃ C w0 w1 w2, l.length + 1 ≤ C ∧ (Builtin.append_ #[24, 3] ty2 #[.slice (some ⟨g, 0, none⟩) i cap, .int .i64 (l.length + 1 - i : Nat)]).run Try.prog w = .ok (.slice (some ⟨w.heap.size, 0, none⟩) (l.length + 1) C) w0 ∧
      (Builtin.copy_ #[24, 24] ty #[.slice (some ⟨w.heap.size, i, none⟩) (l.length + 1 - i) (C - i), .slice (some ⟨gv, 0, none⟩) 1 1]).run Try.prog w0 = .ok (goInt 1) w1 ∧
      (Builtin.copy_ #[24, 24] ty' #[.slice (some ⟨w.heap.size, i + 1, none⟩) (l.length + 1 - (i + 1)) (C - (i + 1)), .slice (some ⟨g, i, none⟩) (l.length - i) (cap - i)]).run Try.prog w1.drew = .ok (goInt ((l.length - i : Nat) : Int)) w2 ∧
      Fr (fun _ => False) w w2 ∧ SI w2 (.slice (some ⟨w.heap.size, 0, none⟩) (l.length + 1) C) (insL l i x) := by
  have hgw : g < w.heap.size := (Array.getElem?_eq_some_iff.1 hr.1).1
  have hvw : gv < w.heap.size := (Array.getElem?_eq_some_iff.1 hv).1
  obtain ⟨C, w0, e0, f0, hC, cur0, r0, a0⟩ := grow_zeros w ty2 g cap i (l.length + 1 - i) cur hr (by omega) (by omega) (by omega) (by omega)
  rw [show i + (l.length + 1 - i) = l.length + 1 by omega] at e0 hC
  obtain ⟨w1, e1, f1, cur1, r1, a1, b1, c1⟩ := copy_part w0 ty w.heap.size i C (l.length + 1 - i) (C - i) cur0 r0 ⟨gv, 0, none⟩ 1 1 [x] (by simp only [Nat.min_def, List.length_cons, List.length_nil]; split <;> omega)
    (fun j hj => by
      simp at hj
      subst hj
      rw [addr_add]
      exact int_cell (lblock_kept hv f0 (fun h => h))) (by simp; omega)
  simp only [List.length_cons, List.length_nil, Nat.zero_add] at e1 c1
  have hl : (l.drop i).length = l.length - i := List.length_drop
  have hr1 : w1.drew.heap[g]? = some (.cells cur 3 (0, 0)) := lblock_kept (S := fun b => b = w.heap.size) (w1 := w1) (lblock_kept hr.1 f0 (fun h => h)) f1 (by show ¬ g = w.heap.size; omega)
  obtain ⟨w2, e2, f2, cur2, r2, a2, b2, c2⟩ := copy_part w1.drew ty' w.heap.size (i + 1) C (l.length + 1 - (i + 1)) (C - (i + 1)) cur1 r1 ⟨g, i, none⟩ (l.length - i) (cap - i) (l.drop i) (by rw [hl]; simp only [Nat.min_def]; split <;> omega)
    (fun j hj => by rw [addr_add, cell_of_row w1.drew g (i + j) cur _ (0, 0) hr1, hc (i + j) (by rw [hl] at hj; omega), List.getElem_drop]) (by rw [hl]; omega)
  rw [hl] at e2 c2
  refine ⟨C, w0, w1, w2, hC, e0, e1, e2, (f0.trans f1 (fun k hk e => by omega)).trans (Fr.trans (Fr.drew (Fr.refl (fun k => k = w.heap.size) w1)) f2 (fun _ _ h => h)) (fun k hk e => by omega), ?_⟩
  have := si_row2 (l := insL l i x) r2 (by rw [insL_length l i x (by omega)]; exact hC) (fun j hj => by
    rw [insL_length l i x (by omega)] at hj
    rw [insL_at l i x (by omega)]
    by_cases h1 : j < i
    · rw [if_pos h1, a2 j (by omega), a1 j h1, a0 j h1, hc j (by omega), List.getElem?_eq_getElem (by omega)]; rfl
    · rw [if_neg h1]
      by_cases h2 : j = i
      · subst h2
        rw [if_pos rfl, a2 j (by omega)]
        exact b1 0 (by simp)
      · rw [if_neg h2]
        obtain ⟨q, rfl⟩ : ∃ q, j = i + 1 + q := ⟨j - i - 1, by omega⟩
        rw [b2 q (by rw [hl]; omega), List.getElem_drop, show i + 1 + q - 1 = i + q by omega, List.getElem?_eq_getElem (by omega)]
        rfl)
  rw [insL_length l i x (by omega)] at this
  exact this

end Go.Proofs.Ytlcdmaehedhipaa
