/-
  KindAlike: two tables, the second one's lists in rows of their own; what is turned.
-/
import Derived.Test.YtdaabgnfgdojhaaKindTwo
import Derived.Test.YtdaabgnfgdojhaaKindAlike3
import Derived.Test.YtdaabgnfgdojhaaKindAwake
import Derived.Test.YtdaabgnfgdojhaaKindCells
namespace Go.Proofs.Ytdaabgnfgdojhaa
open Go.RowKit
set_option linter.unusedSimpArgs false
set_option linter.unusedVariables false

/-- The two tables, the second one's lists in rows of their own. -/
def Low (w : World) (g5 g6 N : Nat) : Nat → Prop := fun k => (w.heap.size < k ∧ k ≠ g5 ∧ k ≠ g6) ∧ k < N

def UState (w : World) (T : KTab) (g5 g6 N : Nat) (tv fv pv : Value) (wx : World) : Prop :=
  Fr (fun _ => False) w wx ∧ g5 ≠ g6 ∧ w.heap.size < g5 ∧ w.heap.size < g6 ∧ g6 < N ∧
  (∃ cs, wx.heap[g5]? = some (.cells cs 32 (0, 0)) ∧ Tabled (Low w g5 g6 N) wx T (.agg cs) ∧ g5 < N) ∧
  wx.heap[g6]? = some (.cells #[sv T.name, .int .i64 T.number, .int .i64 T.version, tv, fv, pv] 32 (0, 0)) ∧
  CpRow alShown 49 5 N (Low w g5 g6 N) wx tv T.types ∧ Faults (Low w g5 g6 N) wx T.faults fv ∧ CpRow prShown 41 12 N (Low w g5 g6 N) wx pv T.procs ∧ T.name.length ≤ 999 ∧
  ((∀ k, tv.ownBlock = some k → pv.ownBlock ≠ some k) ∧ (∀ x ∈ T.types, x.1.length ≤ 1000) ∧ (∀ p ∈ T.procs, p.name.length ≤ 1000 ∧ p.collate ≤ 255) ∧ (∀ x ∈ T.faults, x.1.length ≤ 1000))

theorem CpRow.monoR {α : Type} {D : Shown α} {e : TypeId} {size N : Nat} {R S : Nat → Prop} {w : World} {v : Value} {l : List α} (h : CpRow D e size N R w v l) (hS : ∀ k, R k → S k) : CpRow D e size N S w v l := by
  obtain ⟨cs, h1, h2⟩ := h
  refine ⟨cs, h1, fun i x hx => ?_⟩
  obtain ⟨xs, a, b, hd⟩ := h2 i x hx
  exact ⟨xs, a, b, D.mono hd (fun k _ h => hS k h)⟩

theorem CpRow.aliases {N : Nat} {R : Nat → Prop} {w : World} {v : Value} {l : List (Txt × KT)} (h : CpRow alShown 49 5 N R w v l) (h1 : l.length ≤ 1000) (h2 : ∀ x ∈ l, x.1.length ≤ 1000) (P : Nat → Prop) (hP : ∀ k, R k → P k) (hN : ∀ k, N ≤ k → P k) : Aliases P w l v := by
  refine ⟨h1, h2, ?_⟩
  rcases h.cells with ⟨h3, a, c, h4⟩ | ⟨g, cap, cur, hgN, rfl, hle, hg, hc⟩
  · exact .inl ⟨h3, a, c, h4⟩
  · refine .inr ⟨g, 0, cap, hN g hgN, rfl, hle, fun i x hi => ?_⟩
    obtain ⟨xs, _, hc, x0, x1, x2, x3, rfl, hx⟩ := hc i x hi
    have key := fun (j : Nat) (u : Value) (hu : [sv x.1, x0, x1, x2, x3][j]? = some u) => (cell_of_row w g (i * 5 + j) _ _ _ hg).trans (hc j u hu)
    simp only [Nat.zero_add]
    exact ⟨x0, x1, x2, x3, key 0 _ rfl, key 1 _ rfl, key 2 _ rfl, key 3 _ rfl, key 4 _ rfl, Shows.mono (fun k _ h => hP k h) _ _ hx⟩

theorem CpRow.procs {N : Nat} {R : Nat → Prop} {w : World} {v : Value} {l : List KProc} (h : CpRow prShown 41 12 N R w v l) (h1 : l.length ≤ 1000) (h2 : ∀ p ∈ l, p.name.length ≤ 1000 ∧ p.collate ≤ 255) (P : Nat → Prop) (hP : ∀ k, R k → P k) (hN : ∀ k, N ≤ k → P k) : Procs P w l v := by
  refine ⟨h1, h2, ?_⟩
  rcases h.cells with ⟨h3, a, c, h4⟩ | ⟨g, cap, cur, hgN, rfl, hle, hg, hc⟩
  · exact .inl ⟨h3, a, c, h4⟩
  · refine .inr ⟨g, 0, cap, hN g hgN, rfl, hle, fun i x hi => ?_⟩
    obtain ⟨xs, _, hc, x0, x1, x2, x3, y0, y1, y2, y3, rfl, hx, hy⟩ := hc i x hi
    refine ⟨x0, x1, x2, x3, y0, y1, y2, y3, fun j u hu => ?_, Shows.mono (fun k _ h => hP k h) _ _ hx, Shows.mono (fun k _ h => hP k h) _ _ hy⟩
    simp only [Nat.zero_add]
    exact (cell_of_row w g (i * 12 + j) _ _ _ hg).trans (hc j u hu)

theorem CpRow.push {α : Type} {D : Shown α} {e : TypeId} {size N : Nat} {R : Nat → Prop} {w w' : World} {v v' : Value} {l : List α} {x : α} {cs news : List Value} (hl : cs.length = l.length * size) (hN : ∀ k, R k → k < N) (hb : ∀ k, v.ownBlock = some k → N ≤ k)
    (hc : ∀ (i : Nat) (x : α), l[i]? = some x → ∃ xs : List Value, xs.length = size ∧ (∀ (j : Nat) (u : Value), xs[j]? = some u → cs[i * size + j]? = some u) ∧ D.sh R w x xs)
    (ho : w'.ownsRow N e size v' (l.length + 1) (cs ++ news)) (f : Fr (fun k => v.ownBlock = some k) w w') (hx : D.sh R w x news) (hn : news.length = size) : CpRow D e size N R w' v' (l ++ [x]) := by
  have hS : ∀ k, R k → ¬ v.ownBlock = some k := fun k hk e => by have := hN k hk; have := hb k e; omega
  refine ⟨cs ++ news, by rw [List.length_append]; exact ho, fun i y hi => ?_⟩
  by_cases hlt : i < l.length
  · rw [List.getElem?_append_left hlt] at hi
    obtain ⟨xs, a, b, hy⟩ := hc i y hi
    refine ⟨xs, a, fun j u hu => ?_, D.fr hy f hS⟩
    have := b j u hu
    rw [List.getElem?_append_left (List.getElem?_eq_some_iff.1 this).1]
    exact this
  · have hi' := (List.getElem?_eq_some_iff.1 hi).1
    obtain rfl : i = l.length := by simp at hi'; omega
    rw [List.getElem?_append_right (Nat.le_refl _)] at hi
    simp at hi
    subst hi
    refine ⟨news, hn, fun j u hu => ?_, D.fr hx f hS⟩
    rw [List.getElem?_append_right (by omega), show l.length * size + j - cs.length = j by omega]
    exact hu

theorem set_items {α : Type} {D : Shown α} {R : Nat → Prop} {w W : World} {size m : Nat} {cur : Array Value} {l : List α} {x' : α} {y : Value} {xs0 : List Value} (hm : m < size) (hcur : m < cur.size)
    (hc : ∀ (i : Nat) (x : α), l[i]? = some x → ∃ xs : List Value, xs.length = size ∧ (∀ (j : Nat) (u : Value), xs[j]? = some u → cur[i * size + j]? = some u) ∧ D.sh R w x xs)
    (h0 : xs0.length = size) (h1 : ∀ (j : Nat) (u : Value), xs0[j]? = some u → cur[j]? = some u) (hd : D.sh R W x' (xs0.set m y)) (hW : ∀ x xs, D.sh R w x xs → D.sh R W x xs) :
    ∀ (i : Nat) (x : α), (l.set 0 x')[i]? = some x → ∃ xs : List Value, xs.length = size ∧ (∀ (j : Nat) (u : Value), xs[j]? = some u → (cur.setIfInBounds m y)[i * size + j]? = some u) ∧ D.sh R W x xs := by
  intro i x hx
  by_cases hi : i = 0
  · subst hi
    cases l with
    | nil => simp at hx
    | cons a l =>
      simp at hx
      subst hx
      refine ⟨xs0.set m y, by simpa using h0, fun j u hu => ?_, hd⟩
      rw [Nat.zero_mul, Nat.zero_add, Array.getElem?_setIfInBounds]
      by_cases hj : m = j
      · subst hj
        rw [if_pos rfl, if_pos hcur]
        rw [List.getElem?_set_self (by omega)] at hu
        exact hu
      · rw [if_neg hj]
        rw [List.getElem?_set_ne hj] at hu
        exact h1 j u hu
  · rw [List.getElem?_set_ne (Ne.symm hi)] at hx
    obtain ⟨xs, a, b, c⟩ := hc i x hx
    refine ⟨xs, a, fun j u hu => ?_, hW _ _ c⟩
    rw [Array.getElem?_setIfInBounds, if_neg]
    · exact b j u hu
    · have : 1 * size ≤ i * size := Nat.mul_le_mul_right _ (by omega)
      omega

theorem procs_of_items {N : Nat} {R : Nat → Prop} {W : World} {g cap : Nat} {cur : Array Value} {l : List KProc} (h1 : l.length ≤ 1000) (h2 : ∀ p ∈ l, p.name.length ≤ 1000 ∧ p.collate ≤ 255) (P : Nat → Prop) (hP : ∀ k, R k → P k) (hg : P g) (hle : l.length ≤ cap) (hh : W.heap[g]? = some (.cells cur 41 (0, 0)))
    (hc : ∀ (i : Nat) (x : KProc), l[i]? = some x → ∃ xs : List Value, xs.length = 12 ∧ (∀ (j : Nat) (u : Value), xs[j]? = some u → cur[i * 12 + j]? = some u) ∧ prShown.sh R W x xs) : Procs P W l (.slice (some ⟨g, 0, none⟩) l.length cap) := by
  refine ⟨h1, h2, .inr ⟨g, 0, cap, hg, rfl, hle, fun i x hi => ?_⟩⟩
  obtain ⟨xs, _, hc, x0, x1, x2, x3, y0, y1, y2, y3, rfl, hx, hy⟩ := hc i x hi
  refine ⟨x0, x1, x2, x3, y0, y1, y2, y3, fun j u hu => ?_, Shows.mono (fun k _ h => hP k h) _ _ hx, Shows.mono (fun k _ h => hP k h) _ _ hy⟩
  simp only [Nat.zero_add]
  exact (cell_of_row W g (i * 12 + j) _ _ _ hh).trans (hc j u hu)

theorem aliases_of_items {N : Nat} {R : Nat → Prop} {W : World} {g cap : Nat} {cur : Array Value} {l : List (Txt × KT)} (h1 : l.length ≤ 1000) (h2 : ∀ x ∈ l, x.1.length ≤ 1000) (P : Nat → Prop) (hP : ∀ k, R k → P k) (hg : P g) (hle : l.length ≤ cap) (hh : W.heap[g]? = some (.cells cur 49 (0, 0)))
    (hc : ∀ (i : Nat) (x : Txt × KT), l[i]? = some x → ∃ xs : List Value, xs.length = 5 ∧ (∀ (j : Nat) (u : Value), xs[j]? = some u → cur[i * 5 + j]? = some u) ∧ alShown.sh R W x xs) : Aliases P W l (.slice (some ⟨g, 0, none⟩) l.length cap) := by
  refine ⟨h1, h2, .inr ⟨g, 0, cap, hg, rfl, hle, fun i x hi => ?_⟩⟩
  obtain ⟨xs, _, hc, x0, x1, x2, x3, rfl, hx⟩ := hc i x hi
  have key := fun (j : Nat) (u : Value) (hu : [sv x.1, x0, x1, x2, x3][j]? = some u) => (cell_of_row W g (i * 5 + j) _ _ _ hh).trans (hc j u hu)
  simp only [Nat.zero_add]
  exact ⟨x0, x1, x2, x3, key 0 _ rfl, key 1 _ rfl, key 2 _ rfl, key 3 _ rfl, key 4 _ rfl, Shows.mono (fun k _ h => hP k h) _ _ hx⟩

theorem tableE_times (s : KS) : ∀ p ∈ (tableE s).procs, 0 ≤ p.timeout ∧ p.timeout ≤ 1000 ∧ p.collate ≤ 2 := by
  intro x hx
  obtain ⟨i, hi, rfl⟩ := List.mem_map.1 hx
  refine ⟨Int.natCast_nonneg _, ?_, Nat.le_of_lt_succ (Nat.mod_lt _ (by decide))⟩
  have : 1 + (s.procs.getD i ⟨.nil, .nil, 0, 0⟩).timeout % 1000 ≤ 1000 := by have := Nat.mod_lt (s.procs.getD i ⟨.nil, .nil, 0, 0⟩).timeout (show 0 < 1000 by decide); omega
  exact Int.ofNat_le.2 this

end Go.Proofs.Ytdaabgnfgdojhaa
