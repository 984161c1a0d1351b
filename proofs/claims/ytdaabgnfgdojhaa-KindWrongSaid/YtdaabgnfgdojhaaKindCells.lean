/-
  The cells of a row that is shown, as one list; an append of them all onto an empty row of its own.
-/
import Derived.Test.YtdaabgnfgdojhaaKindTabE
namespace Go.Proofs.Ytdaabgnfgdojhaa
open Go.RowKit
set_option linter.unusedVariables false

theorem flat_get {α : Type} (f : Nat → List α) (k : Nat) : ∀ n, (∀ i, i < n → (f i).length = k) → ((List.range n).flatMap f).length = n * k ∧ ∀ i, i < n → ∀ j, j < k → ((List.range n).flatMap f)[i * k + j]? = (f i)[j]? := by
  intro n
  induction n with
  | zero => exact fun _ => ⟨by simp, fun i hi => by omega⟩
  | succ n ih =>
    intro h
    obtain ⟨h1, h2⟩ := ih (fun i hi => h i (by omega))
    rw [List.range_succ, List.flatMap_append, List.flatMap_singleton]
    have hn := h n (by omega)
    refine ⟨by rw [List.length_append, h1, hn, Nat.succ_mul], fun i hi j hj => ?_⟩
    by_cases e : i = n
    · subst e
      rw [List.getElem?_append_right (by rw [h1]; omega), h1, Nat.add_sub_cancel_left]
    · have : i * k + j < n * k := by
        have : (i + 1) * k ≤ n * k := Nat.mul_le_mul_right _ (by omega)
        rw [Nat.succ_mul] at this
        omega
      rw [List.getElem?_append_left (by rw [h1]; exact this)]
      exact h2 i (by omega) j hj

theorem row_cells {α : Type} (D : Shown α) {R : Nat → Prop} {w : World} {size : Nat} (hs : 0 < size) (l : List α) (g off : Nat)
    (hc : ∀ (i : Nat) (x : α), l[i]? = some x → ∃ xs : List Value, xs.length = size ∧ (∀ (j : Nat) (u : Value), xs[j]? = some u → w.cell? ⟨g, off + i * size + j, none⟩ = some u) ∧ D.sh R w x xs) :
    ∃ cs : List Value, cs.length = l.length * size ∧ (∀ (m : Nat) (u : Value), cs[m]? = some u → w.cell? ⟨g, off + m, none⟩ = some u) ∧
      (∀ (i : Nat) (x : α), l[i]? = some x → ∃ xs : List Value, xs.length = size ∧ (∀ (j : Nat) (u : Value), xs[j]? = some u → cs[i * size + j]? = some u) ∧ D.sh R w x xs) ∧
      ∀ u ∈ cs, ∃ (i : Nat) (x : α) (xs : List Value), l[i]? = some x ∧ D.sh R w x xs ∧ u ∈ xs := by
  have ch : ∀ i : Nat, ∃ xs : List Value, ∀ x, l[i]? = some x → xs.length = size ∧ (∀ (j : Nat) (u : Value), xs[j]? = some u → w.cell? ⟨g, off + i * size + j, none⟩ = some u) ∧ D.sh R w x xs := by
    intro i
    cases hx : l[i]? with
    | none => exact ⟨[], fun x h => by cases h⟩
    | some x =>
      obtain ⟨xs, h⟩ := hc i x hx
      exact ⟨xs, fun y hy => by cases hy; exact h⟩
  obtain ⟨f, hf⟩ := Classical.axiomOfChoice ch
  have hlen : ∀ i, i < l.length → (f i).length = size := fun i hi => (hf i _ (List.getElem?_eq_getElem hi)).1
  obtain ⟨h1, h2⟩ := flat_get f size l.length hlen
  refine ⟨(List.range l.length).flatMap f, h1, fun m u hu => ?_, fun i x hx => ?_, fun u hu => ?_⟩
  · have hm := (List.getElem?_eq_some_iff.1 hu).1
    rw [h1] at hm
    have hi : m / size < l.length := (Nat.div_lt_iff_lt_mul hs).2 hm
    have hj : m % size < size := Nat.mod_lt _ hs
    have e : m / size * size + m % size = m := by rw [Nat.mul_comm]; exact Nat.div_add_mod m size
    have h3 := h2 _ hi _ hj
    rw [e, hu] at h3
    have h4 := (hf _ _ (List.getElem?_eq_getElem hi)).2.1 _ u h3.symm
    rw [Nat.add_assoc, e] at h4
    exact h4
  · have hi := (List.getElem?_eq_some_iff.1 hx).1
    obtain ⟨a, b, c⟩ := hf i x hx
    refine ⟨f i, a, fun j u hu => ?_, c⟩
    have hj := (List.getElem?_eq_some_iff.1 hu).1
    rw [a] at hj
    rw [h2 i hi j hj]
    exact hu
  · obtain ⟨i, hi, hu⟩ := List.mem_flatMap.1 hu
    have hi := List.mem_range.1 hi
    exact ⟨i, _, f i, List.getElem?_eq_getElem hi, (hf i _ (List.getElem?_eq_getElem hi)).2.2, hu⟩

/-- A slice that shows items: its cells as a list, and what the append reads. -/
theorem items_first {α : Type} (D : Shown α) {R : Nat → Prop} {w : World} {size : Nat} (hs : 0 < size) (l : List α) (v : Value)
    (h : (l = [] ∧ ∃ a c, v = .slice a 0 c) ∨ ∃ g off cap, R g ∧ v = .slice (some ⟨g, off, none⟩) l.length cap ∧ ∀ (i : Nat) (x : α), l[i]? = some x → ∃ xs : List Value, xs.length = size ∧ (∀ (j : Nat) (u : Value), xs[j]? = some u → w.cell? ⟨g, off + i * size + j, none⟩ = some u) ∧ D.sh R w x xs)
    (hone : ∀ x xs, D.sh R w x xs → ∀ u ∈ xs, u.oneCell' = true) :
    ∃ (a : Option Addr) (c : Nat) (cs : List Value), v = .slice a l.length c ∧ cs.length = l.length * size ∧ (∀ u ∈ cs, u.oneCell' = true) ∧
      (∀ w' : World, (∀ g o u, R g → w.cell? ⟨g, o, none⟩ = some u → w'.cell? ⟨g, o, none⟩ = some u) → (Builtin.firstCells size l.length v).run Try.prog w' = .ok cs.toArray w') ∧
      ∀ (i : Nat) (x : α), l[i]? = some x → ∃ xs : List Value, xs.length = size ∧ (∀ (j : Nat) (u : Value), xs[j]? = some u → cs[i * size + j]? = some u) ∧ D.sh R w x xs := by
  rcases h with ⟨rfl, a, c, rfl⟩ | ⟨g, off, cap, hR, rfl, hc⟩
  · refine ⟨a, c, [], rfl, by simp, by simp, fun w' _ => ?_, by simp⟩
    cases a with
    | none => simp [Builtin.firstCells]
    | some a =>
      obtain ⟨g, o, sp⟩ := a
      have := run_firstCells_some (P := Try.prog) w' size 0 ⟨g, o, sp⟩ 0 c [] (by simp) (by simp)
      simpa using this
  · obtain ⟨cs, h1, h2, h3, h4⟩ := row_cells D hs l g off hc
    refine ⟨_, cap, cs, rfl, h1, fun u hu => ?_, fun w' hw => ?_, h3⟩
    · obtain ⟨i, x, xs, _, h5, h6⟩ := h4 u hu
      exact hone x xs h5 u h6
    · refine run_firstCells_some (P := Try.prog) w' size l.length ⟨g, off, none⟩ l.length cap cs h1 (fun j u hj => ?_)
      have := hw _ _ _ hR (h2 j u hj)
      have e : (⟨g, off, none⟩ : Addr).add j = ⟨g, off + j, none⟩ := by unfold Addr.add; split <;> simp_all
      rw [e]
      exact this

/-- What an append of such cells onto an empty row leaves. -/
theorem ItRow.of_cells {α : Type} {D : Shown α} {e : TypeId} {size B : Nat} {R S : Nat → Prop} {w w' : World} {v' : Value} {l : List α} {cs : List Value} (ho : w'.ownsRow B e size v' l.length cs) (f : Fr S w w') (hS : ∀ k, R k → ¬ S k) (hv : ∀ k, R k → v'.ownBlock ≠ some k) (hR : ∀ k, R k → B ≤ k)
    (hc : ∀ (i : Nat) (x : α), l[i]? = some x → ∃ xs : List Value, xs.length = size ∧ (∀ (j : Nat) (u : Value), xs[j]? = some u → cs[i * size + j]? = some u) ∧ D.sh R w x xs) : ItRow D e size B (fun _ => False) w' v' l := by
  refine ⟨cs, ho, fun _ _ h => h, fun i x hx => ?_⟩
  obtain ⟨xs, a, b, hd⟩ := hc i x hx
  exact ⟨xs, a, b, D.mono (D.fr hd f hS) (fun k _ h => ⟨hR k h, fun h => h, hv k h⟩)⟩

/-- A row that is owned alone, whose items lie elsewhere. -/
def CpRow {α : Type} (D : Shown α) (e : TypeId) (size N : Nat) (R : Nat → Prop) (w : World) (v : Value) (l : List α) : Prop :=
  ∃ cs : List Value, w.ownsRow N e size v l.length cs ∧ ∀ (i : Nat) (x : α), l[i]? = some x → ∃ xs : List Value, xs.length = size ∧ (∀ (j : Nat) (u : Value), xs[j]? = some u → cs[i * size + j]? = some u) ∧ D.sh R w x xs

theorem CpRow.fr {α : Type} {D : Shown α} {e : TypeId} {size N : Nat} {R S : Nat → Prop} {w w' : World} {v : Value} {l : List α} (h : CpRow D e size N R w v l) (f : Fr S w w') (hS : ∀ k, R k → ¬ S k) (hv : ∀ k, v.ownBlock = some k → ¬ S k) : CpRow D e size N R w' v l := by
  obtain ⟨cs, h1, h2⟩ := h
  refine ⟨cs, ownsRow_fr h1 f hv, fun i x hx => ?_⟩
  obtain ⟨xs, a, b, hd⟩ := h2 i x hx
  exact ⟨xs, a, b, D.fr hd f hS⟩

theorem CpRow.slice {α : Type} {D : Shown α} {e : TypeId} {size N : Nat} {R : Nat → Prop} {w : World} {v : Value} {l : List α} (h : CpRow D e size N R w v l) : ∃ a c, v = .slice a l.length c := by
  obtain ⟨cs, h1, _⟩ := h
  exact slice_of_own h1

theorem CpRow.own {α : Type} {D : Shown α} {e : TypeId} {size N : Nat} {R : Nat → Prop} {w : World} {v : Value} {l : List α} (h : CpRow D e size N R w v l) (k : Nat) (hk : v.ownBlock = some k) : N ≤ k ∧ k < w.heap.size := by
  obtain ⟨cs, h1, _⟩ := h
  exact World.ownsRow.lt h1 k hk

/-- The row's cells in memory. -/
theorem CpRow.cells {α : Type} {D : Shown α} {e : TypeId} {size N : Nat} {R : Nat → Prop} {w : World} {v : Value} {l : List α} (h : CpRow D e size N R w v l) : (l = [] ∧ ∃ a c, v = .slice a 0 c) ∨
    ∃ g cap cur, N ≤ g ∧ v = .slice (some ⟨g, 0, none⟩) l.length cap ∧ l.length ≤ cap ∧ w.heap[g]? = some (.cells cur e (0, 0)) ∧ ∀ (i : Nat) (x : α), l[i]? = some x → ∃ xs : List Value, xs.length = size ∧ (∀ (j : Nat) (u : Value), xs[j]? = some u → cur[i * size + j]? = some u) ∧ D.sh R w x xs := by
  obtain ⟨cs, h1, h2⟩ := h
  have hh := h1
  rcases hh.2 with ⟨rfl, hz⟩ | ⟨g, cap, cur, rfl, hb, hgg, hle, _⟩
  · exact .inl ⟨List.eq_nil_of_length_eq_zero hz, none, 0, rfl⟩
  · refine .inr ⟨g, cap, cur, hb, rfl, hle, hgg, fun i x hx => ?_⟩
    obtain ⟨xs, a, b, hd⟩ := h2 i x hx
    refine ⟨xs, a, fun j u hu => ?_, hd⟩
    have := World.ownsRow.cells (g := g) h1 rfl (i * size + j) u (b j u hu)
    rw [plain_add, cell_of_row w g _ _ _ _ hgg] at this
    exact this

theorem alShown_one {R : Nat → Prop} {w : World} (x : Txt × KT) (xs : List Value) (h : alShown.sh R w x xs) : ∀ u ∈ xs, u.oneCell' = true := by
  obtain ⟨x0, x1, x2, x3, rfl, h⟩ := h
  obtain ⟨k, m, a, n, c, a', n', c', rfl, rfl, rfl, rfl⟩ := h.cells
  intro u hu
  simp at hu
  rcases hu with rfl | rfl | rfl | rfl | rfl <;> rfl

theorem ftShown_one {R : Nat → Prop} {w : World} (x : Txt × Int) (xs : List Value) (h : ftShown.sh R w x xs) : ∀ u ∈ xs, u.oneCell' = true := by
  have e : xs = [sv x.1, .int .i64 x.2] := h
  subst e
  intro u hu
  simp at hu
  rcases hu with rfl | rfl <;> rfl

theorem prShown_one {R : Nat → Prop} {w : World} (p : KProc) (xs : List Value) (h : prShown.sh R w p xs) : ∀ u ∈ xs, u.oneCell' = true := by
  obtain ⟨x0, x1, x2, x3, y0, y1, y2, y3, rfl, h, h'⟩ := h
  obtain ⟨k, m, a, n, c, a', n', c', rfl, rfl, rfl, rfl⟩ := h.cells
  obtain ⟨k2, m2, b, n2, c2, b', n2', c2', rfl, rfl, rfl, rfl⟩ := h'.cells
  intro u hu
  simp only [procCells, List.mem_cons, List.not_mem_nil, or_false] at hu
  rcases hu with rfl | rfl | rfl | rfl | rfl | rfl | rfl | rfl | rfl | rfl | rfl | rfl <;> rfl

theorem Aliases.items {R : Nat → Prop} {w : World} {l : List (Txt × KT)} {v : Value} (h : Aliases R w l v) : (l = [] ∧ ∃ a c, v = .slice a 0 c) ∨ ∃ g off cap, R g ∧ v = .slice (some ⟨g, off, none⟩) l.length cap ∧ ∀ (i : Nat) (x : Txt × KT), l[i]? = some x → ∃ xs : List Value, xs.length = 5 ∧ (∀ (j : Nat) (u : Value), xs[j]? = some u → w.cell? ⟨g, off + i * 5 + j, none⟩ = some u) ∧ alShown.sh R w x xs := by
  obtain ⟨_, _, h | ⟨g, off, cap, hR, rfl, _, hc⟩⟩ := h
  · exact .inl h
  · refine .inr ⟨g, off, cap, hR, rfl, fun i x hx => ?_⟩
    obtain ⟨x0, x1, x2, x3, c, c0, c1, c2, c3, hs⟩ := hc i x hx
    refine ⟨[sv x.1, x0, x1, x2, x3], rfl, fun j u hu => ?_, x0, x1, x2, x3, rfl, hs⟩
    have hj := (List.getElem?_eq_some_iff.1 hu).1
    simp at hj
    rcases (by omega : j = 0 ∨ j = 1 ∨ j = 2 ∨ j = 3 ∨ j = 4) with rfl | rfl | rfl | rfl | rfl <;> simp at hu <;> subst hu <;> assumption

theorem Procs.items {R : Nat → Prop} {w : World} {l : List KProc} {v : Value} (h : Procs R w l v) : (l = [] ∧ ∃ a c, v = .slice a 0 c) ∨ ∃ g off cap, R g ∧ v = .slice (some ⟨g, off, none⟩) l.length cap ∧ ∀ (i : Nat) (x : KProc), l[i]? = some x → ∃ xs : List Value, xs.length = 12 ∧ (∀ (j : Nat) (u : Value), xs[j]? = some u → w.cell? ⟨g, off + i * 12 + j, none⟩ = some u) ∧ prShown.sh R w x xs := by
  obtain ⟨_, _, h | ⟨g, off, cap, hR, rfl, _, hc⟩⟩ := h
  · exact .inl h
  · refine .inr ⟨g, off, cap, hR, rfl, fun i x hx => ?_⟩
    obtain ⟨x0, x1, x2, x3, y0, y1, y2, y3, c, hs, hs'⟩ := hc i x hx
    exact ⟨procCells x x0 x1 x2 x3 y0 y1 y2 y3, rfl, c, x0, x1, x2, x3, y0, y1, y2, y3, rfl, hs, hs'⟩

theorem Faults.items {R : Nat → Prop} {w : World} {l : List (Txt × Int)} {v : Value} (h : Faults R w l v) : (l = [] ∧ ∃ a c, v = .slice a 0 c) ∨ ∃ g off cap, R g ∧ v = .slice (some ⟨g, off, none⟩) l.length cap ∧ ∀ (i : Nat) (x : Txt × Int), l[i]? = some x → ∃ xs : List Value, xs.length = 2 ∧ (∀ (j : Nat) (u : Value), xs[j]? = some u → w.cell? ⟨g, off + i * 2 + j, none⟩ = some u) ∧ ftShown.sh R w x xs := by
  obtain ⟨_, _, h | ⟨g, off, cap, hR, rfl, _, hc⟩⟩ := h
  · exact .inl h
  · refine .inr ⟨g, off, cap, hR, rfl, fun i x hx => ?_⟩
    obtain ⟨c0, c1⟩ := hc i x hx
    refine ⟨[sv x.1, .int .i64 x.2], rfl, fun j u hu => ?_, rfl⟩
    have hj := (List.getElem?_eq_some_iff.1 hu).1
    simp at hj
    rcases (by omega : j = 0 ∨ j = 1) with rfl | rfl <;> simp at hu <;> subst hu <;> assumption

end Go.Proofs.Ytdaabgnfgdojhaa
