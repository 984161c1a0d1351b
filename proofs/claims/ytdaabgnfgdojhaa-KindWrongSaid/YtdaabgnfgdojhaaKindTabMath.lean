/-
  Facts on the laws' table, pure: its types are small; each is the same as itself.
-/
import Derived.Test.YtdaabgnfgdojhaaKindTabE
import Derived.Test.YtdaabgnfgdojhaaKindAlike2
namespace Go.Proofs.Ytdaabgnfgdojhaa
open Go.RowKit
set_option linter.unusedVariables false

/-- A node that is one, all the way down. -/
def okN : KN → Prop
  | .nil => False
  | .mk _ _ c of => ∀ i, i < c → okN (of i)

theorem NShows.ok {w : World} (t : KN) : ∀ v, NShows w t v → okN t := by
  induction t with
  | nil => exact fun _ h => h.elim
  | mk k n c of ih =>
    rintro v ⟨vo, _, _, _, _, ho⟩
    intro i hi
    rcases ho with ⟨h, _⟩ | ⟨g, off, cap, _, _, hc⟩
    · omega
    · obtain ⟨x0, x1, x2, _, _, _, hx⟩ := hc i hi
      exact ih i _ hx

/-- A type that is one, all the way down. -/
def okT : KT → Prop
  | .nil => False
  | .mk _ _ _ n of => ∀ i, i < n → okT (of i)

theorem sameE_refl (t : KT) : okT t → sameE t t = true := by
  induction t with
  | nil => exact fun h => h.elim
  | mk k m ns n of ih =>
    intro h
    simp only [sameE, decide_true, Bool.true_and, List.all_eq_true]
    exact fun i hi => ih i (h i (List.mem_range.1 hi))

theorem okT_mk {known : List Txt} {k n : Nat} {sub : Nat → KT} (h : ∀ i, okT (sub i)) : okT (mkE known k n sub) := by
  unfold mkE
  split
  · intro i hi; omega
  · split
    · exact fun i _ => h 0
    · split
      · exact fun i _ => h i
      · split
        · intro i hi; omega
        · split
          · intro i hi; omega
          · intro i hi; omega

theorem okT_type (known : List Txt) (t : KN) : ∀ d, okN t → okT (typeE known t d) := by
  induction t with
  | nil => exact fun _ h => h.elim
  | mk kd n c of ih =>
    intro d h
    rw [typeE_mk]
    refine okT_mk fun i => ?_
    unfold subE
    split
    · intro j hj; omega
    · exact ih _ _ (h _ (Nat.mod_lt _ (by omega)))

theorem sum_le (f : Nat → Nat) (b : Nat) (h : ∀ i, f i ≤ b) (n : Nat) : ((List.range n).map f).sum ≤ n * b := by
  induction n with
  | zero => simp
  | succ n ih =>
    rw [List.range_succ, List.map_append, List.sum_append, Nat.succ_mul]
    have := h n
    simp
    omega

theorem sz_type (known : List Txt) (t : KN) : ∀ d, sz (typeE known t d) ≤ 4 ^ d := by
  induction t with
  | nil => exact fun d => Nat.one_le_pow _ _ (by omega)
  | mk kd n c of ih =>
    intro d
    rw [typeE_mk]
    have hp : 1 ≤ 4 ^ d := Nat.one_le_pow _ _ (by omega)
    have hs : ∀ i, sz (subE known c of d i) ≤ 4 ^ (d - 1) := by
      intro i
      unfold subE
      split
      · have : 1 ≤ 4 ^ (d - 1) := Nat.one_le_pow _ _ (by omega)
        simpa [sz] using this
      · exact ih _ _
    by_cases hd : d ≤ 1
    · have hk : kindE kd d known ≠ 5 ∧ ¬ (kindE kd d known = 6 ∨ kindE kd d known = 8) := by
        unfold kindE
        split <;> omega
      unfold mkE
      rw [if_neg hk.1, if_neg hk.2]
      split
      · simpa [sz] using hp
      · split
        · simpa [sz] using hp
        · split <;> simpa [sz] using hp
    · obtain ⟨e, rfl⟩ : ∃ e, d = e + 1 := ⟨d - 1, by omega⟩
      rw [Nat.add_sub_cancel] at hs
      have hq : 1 ≤ 4 ^ e := Nat.one_le_pow _ _ (by omega)
      have h4 : 4 ^ (e + 1) = 4 * 4 ^ e := by rw [Nat.pow_succ, Nat.mul_comm]
      rw [h4] at hp ⊢
      unfold mkE
      split
      · simpa [sz] using hp
      · split
        · have := hs 0
          simp [sz]
          omega
        · split
          · have h1 := sum_le (fun i => sz (subE known c of (e + 1) i)) _ hs (1 + n % 3)
            have h2 : (1 + n % 3) * 4 ^ e ≤ 3 * 4 ^ e := Nat.mul_le_mul_right _ (by omega)
            simp only [sz]
            omega
          · split
            · simpa [sz] using hp
            · split <;> simpa [sz] using hp

/-- An argument all of whose nodes are ones. -/
def okS (s : KS) : Prop := (∀ x ∈ s.aliases, okN x) ∧ ∀ p ∈ s.procs, okN p.takes ∧ okN p.answers

theorem SShows.ok {w : World} {s : KS} {v : Value} (h : SShows w s v) : okS s := by
  obtain ⟨av, pv, _, _, _, ha, hp⟩ := h
  constructor
  · intro x hx
    obtain ⟨i, hi, rfl⟩ := List.getElem_of_mem hx
    obtain ⟨_, ⟨h0, _⟩ | ⟨g, off, cap, _, _, hc⟩⟩ := ha
    · rw [h0] at hi; simp at hi
    · obtain ⟨x0, x1, x2, _, _, _, hx⟩ := hc i _ (List.getElem?_eq_getElem hi)
      exact NShows.ok _ _ hx
  · intro p hp'
    obtain ⟨i, hi, rfl⟩ := List.getElem_of_mem hp'
    obtain ⟨_, _, ⟨h0, _⟩ | ⟨g, off, cap, _, _, hc⟩⟩ := hp
    · rw [h0] at hi; simp at hi
    · obtain ⟨x0, x1, x2, y0, y1, y2, _, hx, hy⟩ := hc i _ (List.getElem?_eq_getElem hi)
      exact ⟨NShows.ok _ _ hx, NShows.ok _ _ hy⟩

theorem tableE_types {s : KS} (h : okS s) : ∀ x ∈ (tableE s).types, okT x.2 ∧ sz x.2 ≤ 64 := by
  intro x hx
  obtain ⟨i, hi, rfl⟩ := List.mem_map.1 hx
  have hi' : i < s.aliases.length := by have := List.mem_range.1 hi; omega
  have hm : s.aliases.getD i .nil ∈ s.aliases := by
    rw [List.getD_eq_getElem?_getD, List.getElem?_eq_getElem hi']
    exact List.getElem_mem hi'
  exact ⟨okT_type _ _ _ (h.1 _ hm), sz_type _ _ 3⟩

theorem tableE_procs {s : KS} (h : okS s) : ∀ p ∈ (tableE s).procs, (okT p.takes ∧ okT p.answers) ∧ sz p.takes ≤ 64 ∧ sz p.answers ≤ 64 := by
  intro x hx
  obtain ⟨i, hi, rfl⟩ := List.mem_map.1 hx
  have hi' : i < s.procs.length := by have := List.mem_range.1 hi; omega
  have hm : s.procs.getD i ⟨.nil, .nil, 0, 0⟩ ∈ s.procs := by
    rw [List.getD_eq_getElem?_getD, List.getElem?_eq_getElem hi']
    exact List.getElem_mem hi'
  exact ⟨⟨okT_type _ _ _ (h.2 _ hm).1, okT_type _ _ _ (h.2 _ hm).2⟩, sz_type _ _ 3, sz_type _ _ 3⟩

theorem eqBy_refl {α : Type} (f : α → α → Bool) (d : α) (l : List α) (h : ∀ x ∈ l, f x x = true) : eqBy f d l l = true := by
  refine eqBy_all f d l l rfl fun i hi => h _ ?_
  rw [List.getD_eq_getElem?_getD, List.getElem?_eq_getElem hi]
  exact List.getElem_mem hi

theorem alikeE_refl (t : KTab) (h1 : ∀ x ∈ t.types, okT x.2) (h2 : ∀ p ∈ t.procs, okT p.takes ∧ okT p.answers) : alikeE t t = true := by
  unfold alikeE
  rw [eqBy_refl sameA _ _ (fun x hx => by unfold sameA; rw [sameE_refl _ (h1 x hx)]; simp),
    eqBy_refl sameF _ _ (fun x hx => by unfold sameF; simp),
    eqBy_refl sameP _ _ (fun x hx => by unfold sameP; rw [sameE_refl _ (h2 x hx).1, sameE_refl _ (h2 x hx).2]; simp)]
  simp

/-- Tables that differ in a name, a number, how many of a list, or at one place of a list. -/
theorem alikeE_name {t u : KTab} (h : t.name ≠ u.name) : alikeE t u = false := by unfold alikeE; rw [decide_eq_false h]; rfl
theorem alikeE_number {t u : KTab} (h : t.number ≠ u.number) : alikeE t u = false := by unfold alikeE; rw [decide_eq_false h]; simp
theorem alikeE_version {t u : KTab} (h : t.version ≠ u.version) : alikeE t u = false := by unfold alikeE; rw [decide_eq_false h]; simp
theorem alikeE_types {t u : KTab} (h : eqBy sameA ([], .nil) t.types u.types = false) : alikeE t u = false := by unfold alikeE; rw [h]; simp
theorem alikeE_faults {t u : KTab} (h : eqBy sameF ([], 0) t.faults u.faults = false) : alikeE t u = false := by unfold alikeE; rw [h]; simp
theorem alikeE_procs {t u : KTab} (h : eqBy sameP noProc t.procs u.procs = false) : alikeE t u = false := by unfold alikeE; rw [h]; simp

end Go.Proofs.Ytdaabgnfgdojhaa
