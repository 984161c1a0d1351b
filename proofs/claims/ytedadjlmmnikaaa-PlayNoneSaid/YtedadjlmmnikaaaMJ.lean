/-
  package prog, pure: instructions as plain data; what Check and Fuel answer; two programs one behind the other.
-/
import Derived.Test.YtedadjlmmnikaaaMA
import Derived.RowKit
import Derived.LoopN
import Derived.Deep.LoopGhost
import Derived.Deep.CutRange
import Derived.Deep.CutBlock
import Derived.IntWalk
import Derived.BigRegion
import Derived.Deep.QuietTactic
import Derived.BigQuiet
import Derived.Laws.CopyRow
import Derived.Laws.IdiomCopy
import Derived.Laws.Rows
import Derived.Laws.Tables
import Derived.Laws.ResultCell
import Derived.Laws.Pointers
set_option linter.unusedSimpArgs false
set_option linter.unusedVariables false
namespace Go.Proofs.Ytedadjlmmnikaaa

structure Ins where
  op : Nat
  dst : Nat
  a : Nat
  b : Nat
  n : Int

/-- Its numbers fit their kinds. -/
structure Ins.Fits (x : Ins) : Prop where
  op : x.op ≤ 255
  dst : x.dst ≤ 255
  a : x.a ≤ 255
  b : x.b ≤ 255
  lo : -32768 ≤ x.n
  hi : x.n ≤ 32767

/-- What a Loop adds. -/
def Ins.turns (x : Ins) : Int := if x.op = 9 then (x.b : Int) * (max x.n 1 - 1) else 0

def fuelE (l : List Ins) : Int := l.length + (l.map Ins.turns).sum

/-- Is i in the body of the Loop at j, and what is behind it? -/
def bodyAt (l : List Ins) (i j : Nat) : Option Nat :=
  match l[j]? with
  | some x => if x.op = 9 ∧ i < j + 1 + x.b then some (j + 1 + x.b) else none
  | none => none

def bodyE (l : List Ins) (i : Nat) : Option Nat := (List.range i).findSome? (bodyAt l i)

def regsE (x : Ins) : Bool := decide (x.dst < 16) && (decide (x.a < 16) && (decide (x.op = 9) || decide (x.b < 16)))

def loopE (l : List Ins) (i : Nat) (x : Ins) : Bool :=
  !(bodyE l i).isSome && (decide (0 < x.b) && (decide (i + x.b < l.length) && (decide (1 ≤ x.n) && decide (x.n ≤ 8))))

def skipE (l : List Ins) (i : Nat) (x : Ins) : Bool :=
  if x.n < 1 ∨ (l.length : Int) < i + 1 + x.n then false
  else match bodyE l i with
    | some e => decide ((i : Int) + 1 + x.n ≤ e)
    | none => !(bodyE l (i + 1 + x.n.toNat)).isSome

def insE (l : List Ins) (i : Nat) (x : Ins) : Nat :=
  if 12 ≤ x.op then 5
  else if regsE x = false then 2
  else if (x.op = 9 ∧ loopE l i x = false) ∨ (x.op = 8 ∧ skipE l i x = false) then 4
  else if x.op = 10 ∧ x.n < 0 then 2 else 0

/-- The first error of an instruction from place i on. -/
def pfirstE (l : List Ins) : Nat → List Ins → Nat
  | _, [] => 0
  | i, x :: r => if insE l i x ≠ 0 then insE l i x else pfirstE l (i + 1) r

def pcheckE (l : List Ins) : Nat :=
  if 24 < l.length then 7
  else if pfirstE l 0 l ≠ 0 then pfirstE l 0 l
  else if 200 < fuelE l then 6 else 0

theorem findSome_range {f : Nat → Option Nat} : ∀ (n j : Nat) (e : Nat), j < n → (∀ k, k < j → f k = none) → f j = some e → (List.range n).findSome? f = some e := by
  intro n
  induction n with
  | zero => intro j e h; omega
  | succ n ih =>
    intro j e hj hk hf
    rw [List.range_succ, List.findSome?_append]
    by_cases h : j < n
    · rw [ih j e h hk hf]; rfl
    · obtain rfl : j = n := by omega
      have : (List.range j).findSome? f = none := by
        rw [List.findSome?_eq_none_iff]
        intro x hx
        exact hk x (List.mem_range.1 hx)
      rw [this]
      simp [hf]

theorem findSome_none {f : Nat → Option Nat} (n : Nat) (hk : ∀ k, k < n → f k = none) : (List.range n).findSome? f = none := by
  rw [List.findSome?_eq_none_iff]
  intro x hx
  exact hk x (List.mem_range.1 hx)

theorem findSome_congr {f g : Nat → Option Nat} (n : Nat) (h : ∀ k, k < n → f k = g k) : (List.range n).findSome? f = (List.range n).findSome? g := by
  induction n with
  | zero => rfl
  | succ n ih =>
    rw [List.range_succ, List.findSome?_append, List.findSome?_append, ih (fun k hk => h k (by omega))]
    simp [h n (by omega)]

theorem body_lt {l : List Ins} {i e : Nat} (h : bodyE l i = some e) : i < e := by
  unfold bodyE at h
  obtain ⟨j, _, hj⟩ := List.exists_of_findSome?_eq_some h
  unfold bodyAt at hj
  split at hj
  · split at hj
    · cases hj; omega
    · cases hj
  · cases hj

theorem pfirstE_zero (l : List Ins) : ∀ (r : List Ins) (i : Nat), pfirstE l i r = 0 ↔ ∀ k x, r[k]? = some x → insE l (i + k) x = 0
  | [], i => by simp [pfirstE]
  | x :: r, i => by
    have ih := pfirstE_zero l r (i + 1)
    unfold pfirstE
    by_cases h : insE l i x = 0
    · rw [if_neg (by simpa using h), ih]
      constructor
      · intro g k y hy
        cases k with
        | zero => simp at hy; subst hy; exact h
        | succ k => have := g k y (by simpa using hy); rw [show i + (k + 1) = i + 1 + k by omega]; exact this
      · intro g k y hy
        have := g (k + 1) y (by simpa using hy)
        rw [show i + (k + 1) = i + 1 + k by omega] at this
        exact this
    · rw [if_pos h]
      constructor
      · intro g; exact absurd g h
      · intro g; exact absurd (g 0 x rfl) h

theorem checkE_zero (l : List Ins) : pcheckE l = 0 ↔ l.length ≤ 24 ∧ (∀ i x, l[i]? = some x → insE l i x = 0) ∧ fuelE l ≤ 200 := by
  have h := pfirstE_zero l l 0
  simp only [Nat.zero_add] at h
  unfold pcheckE
  rw [← h]
  split
  · constructor
    · intro g; cases g
    · intro g; omega
  · split
    · rename_i h1 h2
      constructor
      · intro g; exact absurd g h2
      · intro g; exact absurd g.2.1 h2
    · rename_i h1 h2
      split
      · constructor
        · intro g; cases g
        · intro g; omega
      · constructor
        · intro _; exact ⟨by omega, by simpa using h2, by omega⟩
        · intro _; rfl

/-- Where no instruction has an error of its own. -/
theorem checkE_good (l : List Ins) (hl : l.length ≤ 24) (h : ∀ i x, l[i]? = some x → insE l i x = 0) : pcheckE l = if 200 < fuelE l then 6 else 0 := by
  have h0 := (pfirstE_zero l l 0).2 (by simpa using h)
  unfold pcheckE
  rw [if_neg (by omega), if_neg (by simp [h0])]

theorem bodyAt_left (p q : List Ins) (i j : Nat) (hj : j < p.length) : bodyAt (p ++ q) i j = bodyAt p i j := by
  unfold bodyAt
  rw [List.getElem?_append_left hj]

theorem body_left (p q : List Ins) (i : Nat) (hi : i ≤ p.length) : bodyE (p ++ q) i = bodyE p i :=
  findSome_congr i (fun k hk => bodyAt_left p q i k (by omega))

/-- What may be in the first program may be in both. -/
theorem ins_left (p q : List Ins) (i : Nat) (x : Ins) (hi : i < p.length) (h : insE p i x = 0) : insE (p ++ q) i x = 0 := by
  unfold insE at h ⊢
  split at h
  · cases h
  · rename_i h1
    rw [if_neg h1]
    split at h
    · cases h
    · rename_i h2
      rw [if_neg h2]
      split at h
      · cases h
      · rename_i h3
        have h4 : ¬ ((x.op = 9 ∧ loopE (p ++ q) i x = false) ∨ (x.op = 8 ∧ skipE (p ++ q) i x = false)) := by
          intro g
          refine h3 ?_
          rcases g with ⟨g1, g2⟩ | ⟨g1, g2⟩
          · refine .inl ⟨g1, ?_⟩
            unfold loopE at g2 ⊢
            rw [body_left p q i (by omega), List.length_append] at g2
            cases hb : (!(bodyE p i).isSome && (decide (0 < x.b) && (decide (i + x.b < p.length) && (decide (1 ≤ x.n) && decide (x.n ≤ 8)))))
            · rfl
            · simp only [Bool.and_eq_true, decide_eq_true_eq] at hb
              rw [hb.1] at g2
              simp at g2
              have := g2 hb.2.1 (by omega) hb.2.2.2.1
              omega
          · refine .inr ⟨g1, ?_⟩
            unfold skipE at g2 ⊢
            by_cases c : x.n < 1 ∨ (p.length : Int) < i + 1 + x.n
            · rw [if_pos c]
            · rw [if_neg c]
              rw [if_neg (by rw [List.length_append]; omega), body_left p q i (by omega), body_left p q (i + 1 + x.n.toNat) (by omega)] at g2
              exact g2
        rw [if_neg h4]
        exact h

theorem bodyAt_right (p q : List Ins) (i j : Nat) : bodyAt (p ++ q) (p.length + i) (p.length + j) = (bodyAt q i j).map (p.length + ·) := by
  unfold bodyAt
  rw [List.getElem?_append_right (by omega), show p.length + j - p.length = j by omega]
  cases q[j]? with
  | none => rfl
  | some x =>
    simp only
    by_cases c : x.op = 9 ∧ i < j + 1 + x.b
    · rw [if_pos c, if_pos (by omega)]; simp; omega
    · rw [if_neg c, if_neg (by omega)]; rfl

theorem findSome_add {f : Nat → Option Nat} (m n : Nat) (h : ∀ k, k < m → f k = none) : (List.range (m + n)).findSome? f = (List.range n).findSome? (fun k => f (m + k)) := by
  induction n with
  | zero => rw [Nat.add_zero, findSome_none m h]; rfl
  | succ n ih =>
    rw [← Nat.add_assoc, List.range_succ, List.findSome?_append, ih, List.range_succ, List.findSome?_append]
    simp

theorem findSome_map {f : Nat → Option Nat} (g : Nat → Nat) (n : Nat) : (List.range n).findSome? (fun k => (f k).map g) = ((List.range n).findSome? f).map g := by
  induction n with
  | zero => rfl
  | succ n ih =>
    rw [List.range_succ, List.findSome?_append, List.findSome?_append, ih]
    cases (List.range n).findSome? f with
    | none => simp
    | some e => rfl

/-- Every Loop of a program without errors ends within it. -/
theorem loop_ends (p : List Ins) (h : ∀ i x, p[i]? = some x → insE p i x = 0) (j : Nat) (x : Ins) (hx : p[j]? = some x) (h9 : x.op = 9) : j + 1 + x.b ≤ p.length := by
  have h1 := h j x hx
  unfold insE at h1
  rw [if_neg (by omega)] at h1
  split at h1
  · cases h1
  · split at h1
    · cases h1
    · rename_i h3
      have : loopE p j x = true := by
        cases hb : loopE p j x
        · exact absurd (.inl ⟨h9, hb⟩) h3
        · rfl
      unfold loopE at this
      simp only [Bool.and_eq_true, decide_eq_true_eq] at this
      omega

theorem body_right (p q : List Ins) (h : ∀ i x, p[i]? = some x → insE p i x = 0) (i : Nat) : bodyE (p ++ q) (p.length + i) = (bodyE q i).map (p.length + ·) := by
  unfold bodyE
  rw [findSome_add]
  · rw [← findSome_map]
    exact findSome_congr i (fun k _ => bodyAt_right p q i k)
  · intro k hk
    rw [bodyAt_left p q _ k hk]
    unfold bodyAt
    cases hx : p[k]? with
    | none => rfl
    | some x =>
      simp only
      rw [if_neg]
      rintro ⟨h9, h2⟩
      have := loop_ends p h k x hx h9
      omega

theorem ins_right (p q : List Ins) (hp : ∀ i x, p[i]? = some x → insE p i x = 0) (i : Nat) (x : Ins) (h : insE q i x = 0) : insE (p ++ q) (p.length + i) x = 0 := by
  unfold insE at h ⊢
  split at h
  · cases h
  · rename_i h1
    rw [if_neg h1]
    split at h
    · cases h
    · rename_i h2
      rw [if_neg h2]
      split at h
      · cases h
      · rename_i h3
        have h4 : ¬ ((x.op = 9 ∧ loopE (p ++ q) (p.length + i) x = false) ∨ (x.op = 8 ∧ skipE (p ++ q) (p.length + i) x = false)) := by
          intro g
          refine h3 ?_
          rcases g with ⟨g1, g2⟩ | ⟨g1, g2⟩
          · refine .inl ⟨g1, ?_⟩
            unfold loopE at g2 ⊢
            rw [body_right p q hp, List.length_append, Option.isSome_map, show decide (p.length + i + x.b < p.length + q.length) = decide (i + x.b < q.length) by rw [decide_eq_decide]; omega] at g2
            exact g2
          · refine .inr ⟨g1, ?_⟩
            unfold skipE at g2 ⊢
            by_cases c : x.n < 1 ∨ (q.length : Int) < i + 1 + x.n
            · rw [if_pos c]
            · rw [if_neg c]
              rw [if_neg (by rw [List.length_append]; omega), body_right p q hp, show p.length + i + 1 + x.n.toNat = p.length + (i + 1 + x.n.toNat) by omega, body_right p q hp] at g2
              cases hb : bodyE q i with
              | none => rw [hb] at g2; simpa using g2
              | some e =>
                rw [hb] at g2
                simp only [Option.map_some] at g2
                simp at g2 ⊢
                omega
        rw [if_neg h4]
        exact h

theorem fuel_append (p q : List Ins) : fuelE (p ++ q) = fuelE p + fuelE q := by
  unfold fuelE
  rw [List.map_append, List.sum_append, List.length_append]
  omega

/-- Two programs that may be, one behind the other. -/
theorem check_join (p q : List Ins) (hp : pcheckE p = 0) (hq : pcheckE q = 0) (hl : p.length + q.length ≤ 24) : pcheckE (p ++ q) = if 200 < fuelE (p ++ q) then 6 else 0 := by
  have h1 := (checkE_zero p).1 hp
  have h2 := (checkE_zero q).1 hq
  refine checkE_good _ (by rw [List.length_append]; exact hl) (fun i x hx => ?_)
  by_cases hi : i < p.length
  · rw [List.getElem?_append_left hi] at hx
    exact ins_left p q i x hi (h1.2.1 i x hx)
  · rw [List.getElem?_append_right (by omega)] at hx
    have := ins_right p q h1.2.1 (i - p.length) x (h2.2.1 _ x hx)
    rwa [show p.length + (i - p.length) = i by omega] at this

/-- A program that may be, and moves behind it. -/
theorem check_more (p q : List Ins) (hp : pcheckE p = 0) (hq : ∀ x ∈ q, x.op = 2 ∧ x.dst < 16 ∧ x.a < 16 ∧ x.b < 16) :
    pcheckE (p ++ q) = if 24 < (p ++ q).length then 7 else if 200 < fuelE (p ++ q) then 6 else 0 := by
  by_cases hl : 24 < (p ++ q).length
  · unfold pcheckE
    rw [if_pos hl, if_pos hl]
  rw [if_neg hl]
  have h1 := (checkE_zero p).1 hp
  refine checkE_good _ (by omega) (fun i x hx => ?_)
  by_cases hi : i < p.length
  · rw [List.getElem?_append_left hi] at hx
    exact ins_left p q i x hi (h1.2.1 i x hx)
  · rw [List.getElem?_append_right (by omega)] at hx
    obtain ⟨a, b, c, d⟩ := hq x (List.mem_of_getElem? hx)
    unfold insE regsE
    simp [a, b, c, d]

/-- What the laws' Program makes, ahead of its repairs. -/
structure Pre (x : Ins) : Prop where
  fits : x.Fits
  op : x.op < 12
  dst : x.dst < 16
  a : x.a < 16
  b : x.op = 9 ∨ x.b < 16
  n : x.op = 10 → 0 ≤ x.n

theorem pre_check (l : List Ins) (hl : l.length ≤ 16) (h : ∀ x ∈ l, Pre x) (h8 : ∀ x ∈ l, x.op ≠ 8 ∧ x.op ≠ 9) : pcheckE l = 0 := by
  rw [checkE_zero]
  refine ⟨by omega, fun i x hx => ?_, ?_⟩
  · have hm := List.mem_of_getElem? hx
    have p := h x hm
    have := h8 x hm
    have hr : regsE x = true := by
      unfold regsE
      simp [p.dst, p.a]
      exact p.b
    have ho := p.op
    have hn := p.n
    unfold insE
    rw [if_neg (by omega), hr, if_neg (by simp), if_neg (by rintro (⟨a, _⟩ | ⟨a, _⟩) <;> omega), if_neg]
    rintro ⟨a, b⟩
    have := hn a
    omega
  · unfold fuelE
    have : (l.map Ins.turns).sum = 0 := by
      clear hl h
      induction l with
      | nil => rfl
      | cons x r ih =>
        rw [List.map_cons, List.sum_cons, ih (fun y hy => h8 y (List.mem_cons_of_mem _ hy))]
        unfold Ins.turns
        rw [if_neg (h8 x List.mem_cons_self).2]
        rfl
    omega

theorem turns_bounds (x : Ins) (h : x.Fits) : 0 ≤ x.turns ∧ x.turns ≤ 8355330 := by
  unfold Ins.turns
  obtain ⟨_, _, _, hb, hlo, hhi⟩ := h
  split
  · have h1 : (0 : Int) ≤ max x.n 1 - 1 := by omega
    have h2 : max x.n 1 - 1 ≤ 32766 := by omega
    have h3 : (x.b : Int) ≤ 255 := by omega
    have h4 := Int.mul_le_mul h3 h2 h1 (by omega)
    have h5 := Int.mul_nonneg (Int.natCast_nonneg x.b) h1
    omega
  · omega

theorem sum_bounds (l : List Ins) (h : ∀ x ∈ l, x.Fits) : 0 ≤ (l.map Ins.turns).sum ∧ (l.map Ins.turns).sum ≤ 8355330 * l.length := by
  induction l with
  | nil => simp
  | cons x r ih =>
    have h1 := turns_bounds x (h x List.mem_cons_self)
    have h2 := ih (fun y hy => h y (List.mem_cons_of_mem _ hy))
    rw [List.map_cons, List.sum_cons, List.length_cons]
    omega

end Go.Proofs.Ytedadjlmmnikaaa

/-
  package prog: instructions in memory.
-/
namespace Go.Proofs.Ytedadjlmmnikaaa
open Go.RowKit
set_option linter.unusedVariables false

theorem lt_of_block {w : World} {b : Nat} {o : Obj} (h : w.heap[b]? = some o) : b < w.heap.size := (Array.getElem?_eq_some_iff.1 h).1

theorem pbox_kept {S : Nat → Prop} {w0 w1 : World} {b : Nat} {o : Obj} (h : w0.heap[b]? = some o) (f : Fr S w0 w1) (hb : ¬ S b) : w1.heap[b]? = some o := by
  rw [f.block b (lt_of_block h) hb]; exact h

theorem pcells_row {w : World} {b : Nat} {cs : Array Value} {t : TypeId} (h : w.heap[b]? = some (.cells cs t (0, 0))) (i : Nat) (u : Value) (hu : cs[i]? = some u) : w.cell? ⟨b, i, none⟩ = some u := by
  rw [cell_of_row w b i cs t (0, 0) h]; exact hu

theorem cell_fr0 {w w' : World} (hf : Fr (fun _ => False) w w') {g o : Nat} {u : Value} (h : w.cell? ⟨g, o, none⟩ = some u) : w'.cell? ⟨g, o, none⟩ = some u := by
  rw [← h]; exact hf.cell (World.block_lt_of_cell? w _ h) (fun h => h)

theorem pplain_add (g o j : Nat) : (⟨g, o, none⟩ : Addr).add j = ⟨g, o + j, none⟩ := by unfold Addr.add; split <;> simp_all

theorem Fr.pdrewN {S : Nat → Prop} {a b : World} (h : Fr S a b) (n : Nat) : Fr S a (b.drewN n) := ⟨h.os, h.tape, h.output, h.size, h.block⟩

/-- An instruction's cells. -/
def insC (x : Ins) : List Value := [.int .u8 x.op, .int .u8 x.dst, .int .u8 x.a, .int .u8 x.b, .int .i16 x.n]

/-- The block g shows these instructions. -/
def PAt (w : World) (g : Nat) (l : List Ins) : Prop :=
  ∀ i x, l[i]? = some x → x.Fits ∧ w.cell? ⟨g, i * 5, none⟩ = some (.int .u8 x.op) ∧ w.cell? ⟨g, i * 5 + 1, none⟩ = some (.int .u8 x.dst) ∧ w.cell? ⟨g, i * 5 + 2, none⟩ = some (.int .u8 x.a) ∧
    w.cell? ⟨g, i * 5 + 3, none⟩ = some (.int .u8 x.b) ∧ w.cell? ⟨g, i * 5 + 4, none⟩ = some (.int .i16 x.n)

/-- The slice v shows these instructions. -/
def PSees (w : World) (v : Value) (l : List Ins) : Prop :=
  (l = [] ∧ ∃ a c, v = .slice a 0 c) ∨ ∃ g cap, v = .slice (some ⟨g, 0, none⟩) l.length cap ∧ l.length ≤ cap ∧ PAt w g l

theorem PAt.lt {w : World} {g : Nat} {l : List Ins} (h : PAt w g l) (hl : l ≠ []) : g < w.heap.size := by
  cases l with
  | nil => exact absurd rfl hl
  | cons x l => exact World.block_lt_of_cell? w _ (h 0 x rfl).2.1

theorem PAt.fr {S : Nat → Prop} {w w' : World} {g : Nat} {l : List Ins} (h : PAt w g l) (hf : Fr S w w') (hS : ¬ S g) : PAt w' g l := by
  intro i x hx
  obtain ⟨h0, h1, h2, h3, h4, h5⟩ := h i x hx
  have hg : g < w.heap.size := World.block_lt_of_cell? w _ h1
  exact ⟨h0, by rw [hf.cell hg hS]; exact h1, by rw [hf.cell hg hS]; exact h2, by rw [hf.cell hg hS]; exact h3, by rw [hf.cell hg hS]; exact h4, by rw [hf.cell hg hS]; exact h5⟩

theorem PAt.take {w : World} {g : Nat} {l : List Ins} (h : PAt w g l) (n : Nat) : PAt w g (l.take n) := by
  intro i x hx
  refine h i x ?_
  rw [List.getElem?_take] at hx
  split at hx
  · exact hx
  · cases hx

theorem PSees.fr {S : Nat → Prop} {w w' : World} {v : Value} {l : List Ins} (h : PSees w v l) (hf : Fr S w w') (hS : ∀ k, v.ownBlock = some k → ¬ S k) : PSees w' v l := by
  rcases h with h | ⟨g, cap, rfl, hle, hc⟩
  · exact .inl h
  · exact .inr ⟨g, cap, rfl, hle, hc.fr hf (hS g rfl)⟩

theorem PSees.shape {w : World} {v : Value} {l : List Ins} (h : PSees w v l) : ∃ a c, v = .slice a l.length c ∧ (l = [] ∨ ∃ g, a = some ⟨g, 0, none⟩ ∧ l.length ≤ c ∧ PAt w g l) := by
  rcases h with ⟨rfl, a, c, rfl⟩ | ⟨g, cap, rfl, hle, hc⟩
  · exact ⟨a, c, rfl, .inl rfl⟩
  · exact ⟨_, cap, rfl, .inr ⟨g, rfl, hle, hc⟩⟩

theorem flat_at (l : List Ins) : ∀ (i j : Nat), j < 5 → (l.flatMap insC)[i * 5 + j]? = (l[i]?).bind (fun x => (insC x)[j]?) := by
  induction l with
  | nil => simp
  | cons x l ih =>
    intro i j hj
    rw [List.flatMap_cons]
    cases i with
    | zero => rw [List.getElem?_append_left (by simp [insC]; omega)]; simp
    | succ i =>
      rw [List.getElem?_append_right (by simp [insC]; omega), show (i + 1) * 5 + j - (insC x).length = i * 5 + j by simp [insC]; omega, ih i j hj]
      simp

theorem flat_length (l : List Ins) : (l.flatMap insC).length = l.length * 5 := by
  induction l with
  | nil => rfl
  | cons x l ih => rw [List.flatMap_cons, List.length_append, ih]; simp [insC]; omega

theorem flat_one (l : List Ins) : ∀ u ∈ l.flatMap insC, u.oneCell' = true := by
  intro u hu
  obtain ⟨x, _, hx⟩ := List.mem_flatMap.1 hu
  simp [insC] at hx
  rcases hx with rfl | rfl | rfl | rfl | rfl <;> rfl

theorem PAt.flat {w : World} {g : Nat} {l : List Ins} (h : PAt w g l) (j : Nat) (u : Value) (hj : (l.flatMap insC)[j]? = some u) : w.cell? ⟨g, j, none⟩ = some u := by
  have e : j = j / 5 * 5 + j % 5 := by omega
  rw [e, flat_at l _ _ (by omega)] at hj
  obtain ⟨x, hx, hu⟩ := Option.bind_eq_some_iff.1 hj
  obtain ⟨_, h1, h2, h3, h4, h5⟩ := h _ x hx
  rw [e]
  have : j % 5 = 0 ∨ j % 5 = 1 ∨ j % 5 = 2 ∨ j % 5 = 3 ∨ j % 5 = 4 := by omega
  rcases this with c | c | c | c | c <;> rw [c] at hu ⊢ <;> simp [insC] at hu <;> subst hu <;> assumption

theorem PSees.first {P : Program} {w : World} {v : Value} {l : List Ins} (h : PSees w v l) : (Builtin.firstCells 5 l.length v).run P w = .ok (l.flatMap insC).toArray w := by
  rcases h with ⟨rfl, a, c, rfl⟩ | ⟨g, cap, rfl, hle, hc⟩
  · cases a with
    | none => simp [Builtin.firstCells]
    | some a => exact run_firstCells_some (P := P) w 5 0 a 0 c [] rfl (by simp)
  · refine run_firstCells_some (P := P) w 5 l.length ⟨g, 0, none⟩ l.length cap (l.flatMap insC) (flat_length l) ?_
    intro j u hj
    rw [pplain_add, Nat.zero_add]
    exact hc.flat j u hj

/-- The slice v owns a row of instructions alone. -/
def POwn (w : World) (v : Value) (l : List Ins) : Prop := w.ownsRow 0 84 5 v l.length (l.flatMap insC)

theorem Try.infoIns : (Try.prog.info? 84).map (fun i => (i.zero, i.size, i.bytes)) = some (some (.agg #[.int .u8 0, .int .u8 0, .int .u8 0, .int .u8 0, .int .i16 0]), 5, 6) := by kernel_rfl

theorem POwn.nil (w : World) : POwn w (.slice none 0 0) [] := World.ownsRow_nil w 0 84 5

theorem POwn.fr {S : Nat → Prop} {w w' : World} {v : Value} {l : List Ins} (h : POwn w v l) (hf : Fr S w w') (hS : ∀ k, v.ownBlock = some k → ¬ S k) : POwn w' v l := by
  refine ⟨h.1, ?_⟩
  rcases h.2 with hn | ⟨g, cap, cur, rfl, hb, hgg, rest⟩
  · exact .inl hn
  · refine .inr ⟨g, cap, cur, rfl, hb, ?_, rest⟩
    rw [hf.block g (Array.getElem?_eq_some_iff.1 hgg).1 (hS g rfl)]
    exact hgg

theorem POwn.lt {w : World} {v : Value} {l : List Ins} (h : POwn w v l) : ∀ k, v.ownBlock = some k → k < w.heap.size := fun k hk => (World.ownsRow.lt h k hk).2

theorem POwn.sees {w : World} {v : Value} {l : List Ins} (h : POwn w v l) (hf : ∀ x ∈ l, x.Fits) : PSees w v l := by
  obtain ⟨_, h2⟩ := h
  rcases h2 with ⟨rfl, h0⟩ | ⟨g, cap, cur, rfl, _, hg, hn, _, hs, ht⟩
  · exact .inl ⟨List.eq_nil_of_length_eq_zero h0, none, 0, rfl⟩
  · refine .inr ⟨g, cap, rfl, hn, fun i x hx => ?_⟩
    have hi := (List.getElem?_eq_some_iff.1 hx).1
    have key : ∀ j u, j < 5 → (insC x)[j]? = some u → w.cell? ⟨g, i * 5 + j, none⟩ = some u := by
      intro j u hj hu
      rw [cell_of_row w g (i * 5 + j) cur _ (0, 0) hg]
      have e : (cur.toList.take (l.length * 5))[i * 5 + j]? = (l.flatMap insC)[i * 5 + j]? := by rw [ht]
      rw [List.getElem?_take, if_pos (by omega), flat_at l i j hj, hx] at e
      rw [← Array.getElem?_toList, e]
      exact hu
    exact ⟨hf x (List.mem_of_getElem? hx), key 0 _ (by omega) rfl, key 1 _ (by omega) rfl, key 2 _ (by omega) rfl, key 3 _ (by omega) rfl, key 4 _ (by omega) rfl⟩

/-- An append of instructions onto a row that is owned alone. -/
theorem wpList_append_ins {w : World} {ops : Array Oper} {rest : List Oper} {o : Oper} {a : Act} {Q : Exit → Act → World → Prop} (hgd : o.guard = none) (s x : Operand)
    (ho : o.op = .call { callee := .builtin .append, args := #[s, x], argTypes := #[38, 38] })
    (v : Value) (acc : List Ins) (hs : a.eval s = v) (hown : POwn w v acc) (u : Value) (news : List Ins) (hx : a.eval x = u) (hu : PSees w u news) (hl : acc.length + news.length ≤ 4000)
    (h : ∀ v' w', POwn w' v' (acc ++ news) → w.grownBy w' v.ownBlock → (v'.ownBlock = v.ownBlock ∨ v'.ownBlock = some w.heap.size) → wpList Try.prog ops Q rest (a.put o.dst v') w') : wpList Try.prog ops Q (o :: rest) a w := by
  obtain ⟨i0, hi, hz0, hz1, hz2⟩ := info_parts Try.infoIns
  obtain ⟨ua, uc, rfl, _⟩ := hu.shape
  refine wpList_append_sep (P := Try.prog) hgd s x 38 38 ho 0 84 i0 (.agg #[.int .u8 0, .int .u8 0, .int .u8 0, .int .u8 0, .int .i16 0]) 5 6 Try.underlying38 _ Try.underlying38 (.inr ⟨_, rfl⟩) hi hz0 hz1 hz2 rfl (by decide)
    v acc.length _ hs hown _ news.length (news.flatMap insC) hx (fun w => lenOf_slice _ _ _ _) (flat_length _) hu.first (hu.fr (w' := w.drew) (S := fun _ => False) ((Fr.refl _ w).drew) (fun _ _ h => h)).first (flat_one news) (by unfold maxLen; omega) (by omega) (Nat.zero_le _) ?_
  intro v' w' h1 h2 h3
  refine h v' w' ?_ h2 h3
  unfold POwn
  rw [List.flatMap_append, List.length_append]
  exact h1

/-- Made by a call, from a world on. -/
def PTold (w w' : World) (v : Value) (l : List Ins) : Prop := POwn w' v l ∧ Fr (fun _ => False) w w' ∧ ∀ k, v.ownBlock = some k → w.heap.size ≤ k

theorem PTold.append {w wr w' w3 : World} {v v' : Value} {acc news : List Ins} (h : PTold w wr v acc) (f : Fr (fun _ => False) wr w') (hown' : POwn w3 v' (acc ++ news)) (hg : w'.grownBy w3 v.ownBlock)
    {n : Nat} (hc : v'.ownBlock = v.ownBlock ∨ v'.ownBlock = some n) (hn : wr.heap.size ≤ n) : PTold w w3 v' (acc ++ news) := by
  have F := h.2.1.trans f (fun _ _ h => h)
  refine ⟨hown', F.trans (Fr.of_grown hg) (fun i hi e => by have := h.2.2 i e.symm; omega), ?_⟩
  intro k hk
  rcases hc with e | e
  · exact h.2.2 k (e ▸ hk)
  · rw [e] at hk; cases hk; exact Nat.le_trans h.2.1.size hn

theorem new_two (w : World) (o1 o2 : Obj) : ((w.alloc o1).alloc o2).heap[w.heap.size + 1]? = some o2 := by
  have := heap_alloc_new (w.alloc o1) o2
  rwa [World.size_alloc] at this

theorem new_three (w : World) (o1 o2 o3 : Obj) : (((w.alloc o1).alloc o2).alloc o3).heap[w.heap.size + 1 + 1]? = some o3 := by
  have := new_two (w.alloc o1) o2 o3
  rwa [World.size_alloc] at this

theorem PTold.fr {w wr w' : World} {v : Value} {l : List Ins} (h : PTold w wr v l) (f : Fr (fun _ => False) wr w') : PTold w w' v l :=
  ⟨h.1.fr f (fun _ _ h => h), h.2.1.trans f (fun _ _ h => h), h.2.2⟩

theorem psetCell_row {w : World} {b : Nat} {cs : Array Value} {t : TypeId} {f : Nat × Nat} (i : Nat) (y : Value) (h : w.heap[b]? = some (.cells cs t f)) :
    (w.setCell ⟨b, i, none⟩ y).heap[b]? = some (.cells (cs.setIfInBounds i y) t f) := by
  unfold World.setCell
  simp only [Array.getElem?_modify, if_true, h, Option.map_some]
  simp

/-- A store of an instruction, cell by cell. -/
def setIns (w : World) (g i : Nat) (x : Ins) : World :=
  ((((w.setCell ⟨g, i * 5, none⟩ (.int .u8 x.op)).setCell ⟨g, i * 5 + 1, none⟩ (.int .u8 x.dst)).setCell ⟨g, i * 5 + 2, none⟩ (.int .u8 x.a)).setCell ⟨g, i * 5 + 3, none⟩ (.int .u8 x.b)).setCell ⟨g, i * 5 + 4, none⟩ (.int .i16 x.n)

theorem setIns_row {w : World} {g : Nat} {cs : Array Value} {t : TypeId} {f : Nat × Nat} (i : Nat) (x : Ins) (h : w.heap[g]? = some (.cells cs t f)) :
    (setIns w g i x).heap[g]? = some (.cells (((((cs.setIfInBounds (i * 5) (.int .u8 x.op)).setIfInBounds (i * 5 + 1) (.int .u8 x.dst)).setIfInBounds (i * 5 + 2) (.int .u8 x.a)).setIfInBounds (i * 5 + 3) (.int .u8 x.b)).setIfInBounds (i * 5 + 4) (.int .i16 x.n)) t f) :=
  psetCell_row _ _ (psetCell_row _ _ (psetCell_row _ _ (psetCell_row _ _ (psetCell_row _ _ h))))

theorem setIns_fr {w0 w : World} {g i : Nat} {x : Ins} {S : Nat → Prop} (h : Fr S w0 w) (hg : g < w0.heap.size → S g) : Fr S w0 (setIns w g i x) :=
  ((((h.setCell (p := ⟨g, i * 5, none⟩) hg _).setCell (p := ⟨g, i * 5 + 1, none⟩) hg _).setCell (p := ⟨g, i * 5 + 2, none⟩) hg _).setCell (p := ⟨g, i * 5 + 3, none⟩) hg _).setCell (p := ⟨g, i * 5 + 4, none⟩) hg _

theorem POwn.set {w : World} {g n cap : Nat} {l : List Ins} (h : POwn w (.slice (some ⟨g, 0, none⟩) n cap) l) (i : Nat) (hi : i < l.length) (x : Ins) : POwn (setIns w g i x) (.slice (some ⟨g, 0, none⟩) n cap) (l.set i x) := by
  obtain ⟨h1, h2⟩ := h
  rcases h2 with ⟨e, _⟩ | ⟨g', cap', cur, e, hb, hg, hn, hm, hs, ht⟩
  · cases e
  · simp at e
    obtain ⟨rfl, e1, rfl⟩ := e
    refine ⟨by rw [flat_length], .inr ⟨g, cap, _, by rw [List.length_set, e1], hb, setIns_row i x hg, by rw [List.length_set]; exact hn, hm, by simp [hs], ?_⟩⟩
    refine List.ext_getElem? fun k => ?_
    have hc : (cur.toList.take (l.length * 5))[k]? = (l.flatMap insC)[k]? := by rw [ht]
    have ek : k = k / 5 * 5 + k % 5 := by omega
    by_cases hk : k < l.length * 5
    · rw [List.getElem?_take, if_pos (by rw [List.length_set]; exact hk)]
      rw [List.getElem?_take, if_pos hk] at hc
      rw [ek, flat_at _ _ _ (by omega), ← ek, List.getElem?_set]
      rw [ek, flat_at _ _ _ (by omega), ← ek] at hc
      have hcur : k < cur.size := by rw [hs]; omega
      simp only [Array.getElem?_toList, Array.getElem?_setIfInBounds] at hc ⊢
      have five : k % 5 = 0 ∨ k % 5 = 1 ∨ k % 5 = 2 ∨ k % 5 = 3 ∨ k % 5 = 4 := by omega
      by_cases hq : i = k / 5
      · subst hq
        rw [if_pos rfl, if_pos hi]
        rcases five with c | c | c | c | c
        · rw [if_neg (by omega), if_neg (by omega), if_neg (by omega), if_neg (by omega), if_pos (by omega), if_pos (by omega), c]; rfl
        · rw [if_neg (by omega), if_neg (by omega), if_neg (by omega), if_pos (by omega), if_pos (by simp only [Array.size_setIfInBounds]; omega), c]; rfl
        · rw [if_neg (by omega), if_neg (by omega), if_pos (by omega), if_pos (by simp only [Array.size_setIfInBounds]; omega), c]; rfl
        · rw [if_neg (by omega), if_pos (by omega), if_pos (by simp only [Array.size_setIfInBounds]; omega), c]; rfl
        · rw [if_pos (by omega), if_pos (by simp only [Array.size_setIfInBounds]; omega), c]; rfl
      · rw [if_neg hq, if_neg (by omega), if_neg (by omega), if_neg (by omega), if_neg (by omega), if_neg (by omega)]
        exact hc
    · rw [List.getElem?_eq_none (by rw [List.length_take, List.length_set]; omega), List.getElem?_eq_none (by rw [flat_length, List.length_set]; omega)]

theorem PTold.set {w wr : World} {g n cap : Nat} {l : List Ins} (h : PTold w wr (.slice (some ⟨g, 0, none⟩) n cap) l) (i : Nat) (hi : i < l.length) (x : Ins) : PTold w (setIns wr g i x) (.slice (some ⟨g, 0, none⟩) n cap) (l.set i x) :=
  ⟨h.1.set i hi x, setIns_fr h.2.1 (fun hg => by have := h.2.2 g rfl; omega), h.2.2⟩

end Go.Proofs.Ytedadjlmmnikaaa

/-
  package play, pure: what a program does to the registers.
-/
namespace Go.Proofs.Ytedadjlmmnikaaa
open Go.RowKit

def upd (r : Nat → Int) (d : Nat) (v : Int) : Nat → Int := fun k => if k = d then v else r k

/-- What comes of a program: it was stopped, or not, and the registers; or an error, and what was raised. -/
inductive Out where
  | ok (stop : Bool) (r : Nat → Int)
  | bad (e : Nat) (n : Int)

/-- What an instruction that neither jumps nor ends makes of the registers. -/
def opE (s : Int) (x : Ins) (r : Nat → Int) : Option Int :=
  if x.op = 1 then some x.n
  else if x.op = 2 then some (r x.a)
  else if x.op = 3 then some (wrap64 (r x.a + r x.b))
  else if x.op = 4 then some (wrap64 (r x.a - r x.b))
  else if x.op = 5 then some (wrap64 (r x.a * r x.b))
  else if x.op = 6 then (if r x.b = 0 then none else some (wrap64 ((r x.a).tdiv (r x.b))))
  else if x.op = 7 then some (if r x.a < r x.b then 1 else 0)
  else some s

def stepsE (rep : List Ins → Nat → (Nat → Int) → Out) (s : Int) : List Ins → Nat → (Nat → Int) → Out
  | [], _, r => .ok false r
  | _ :: l, k + 1, r => stepsE rep s l k r
  | x :: l, 0, r =>
    if x.op = 0 then .ok true r
    else if x.op = 8 then stepsE rep s l (if r x.a = 0 then x.n.toNat else 0) r
    else if x.op = 9 then match rep (l.take x.b) x.n.toNat r with
      | .ok true r' => .ok true r'
      | .ok false r' => stepsE rep s l x.b r'
      | .bad e n => .bad e n
    else if x.op = 10 then (if r x.a = 0 then stepsE rep s l 0 r else .bad 16 x.n)
    else match opE s x r with
      | some v => stepsE rep s l 0 (upd r x.dst v)
      | none => .bad 14 0

def repE (f : (Nat → Int) → Out) : Nat → (Nat → Int) → Out
  | 0, r => .ok false r
  | n + 1, r => match f r with
    | .ok false r' => repE f n r'
    | .ok true r' => .ok true r'
    | .bad e n => .bad e n

/-- A program with bodies nested d deep. -/
def runE (s : Int) : Nat → List Ins → (Nat → Int) → Out
  | 0, l, r => stepsE (fun _ _ r => .ok false r) s l 0 r
  | d + 1, l, r => stepsE (fun b n r => repE (runE s d b) n r) s l 0 r

def repD (s : Int) : Nat → List Ins → Nat → (Nat → Int) → Out
  | 0 => fun _ _ r => .ok false r
  | d + 1 => fun b n r => repE (runE s d b) n r

theorem runE_steps (s : Int) (d : Nat) (l : List Ins) (r : Nat → Int) : runE s d l r = stepsE (repD s d) s l 0 r := by
  cases d <;> rfl

theorem steps_skip (rep : List Ins → Nat → (Nat → Int) → Out) (s : Int) : ∀ (l : List Ins) (k : Nat) (r : Nat → Int), stepsE rep s l k r = stepsE rep s (l.drop k) 0 r
  | [], k, r => by simp [stepsE]
  | _ :: _, 0, r => rfl
  | _ :: l, k + 1, r => by rw [stepsE, steps_skip rep s l k r]; rfl

/-- One instruction, at a place. -/
theorem steps_at (rep : List Ins → Nat → (Nat → Int) → Out) (s : Int) (l : List Ins) (j : Nat) (x : Ins) (r : Nat → Int) (hx : l[j]? = some x) :
    stepsE rep s (l.drop j) 0 r =
    if x.op = 0 then .ok true r
    else if x.op = 8 then stepsE rep s (l.drop (j + 1 + (if r x.a = 0 then x.n.toNat else 0))) 0 r
    else if x.op = 9 then match rep ((l.drop (j + 1)).take x.b) x.n.toNat r with
      | .ok true r' => .ok true r'
      | .ok false r' => stepsE rep s (l.drop (j + 1 + x.b)) 0 r'
      | .bad e n => .bad e n
    else if x.op = 10 then (if r x.a = 0 then stepsE rep s (l.drop (j + 1)) 0 r else .bad 16 x.n)
    else match opE s x r with
      | some v => stepsE rep s (l.drop (j + 1)) 0 (upd r x.dst v)
      | none => .bad 14 0 := by
  have hj := List.getElem?_eq_some_iff.1 hx
  rw [List.drop_eq_getElem_cons hj.1, hj.2, stepsE]
  simp only [steps_skip rep s (l.drop (j + 1)) (if r x.a = 0 then x.n.toNat else 0), steps_skip rep s (l.drop (j + 1)) x.b, List.drop_drop]

/-- What the execution relies on. -/
def Well : Nat → List Ins → Prop
  | 0, l => ∀ (i : Nat) (x : Ins), l[i]? = some x → x.Fits ∧ x.dst < 16 ∧ x.a < 16 ∧ (x.op ≠ 9 → x.b < 16) ∧ (x.op = 8 → 0 ≤ x.n) ∧ x.op ≠ 9
  | d + 1, l => ∀ (i : Nat) (x : Ins), l[i]? = some x → x.Fits ∧ x.dst < 16 ∧ x.a < 16 ∧ (x.op ≠ 9 → x.b < 16) ∧ (x.op = 8 → 0 ≤ x.n) ∧ (x.op = 9 → (i + 1 + x.b ≤ l.length ∧ 0 < x.b) ∧ Well d ((l.drop (i + 1)).take x.b))

theorem Well.one {d : Nat} {l : List Ins} (h : Well d l) {i : Nat} {x : Ins} (hx : l[i]? = some x) : x.Fits ∧ x.dst < 16 ∧ x.a < 16 ∧ (x.op ≠ 9 → x.b < 16) ∧ (x.op = 8 → 0 ≤ x.n) := by
  cases d with
  | zero => obtain ⟨a, b, c, d, e, _⟩ := h i x hx; exact ⟨a, b, c, d, e⟩
  | succ d => obtain ⟨a, b, c, d, e, _⟩ := h i x hx; exact ⟨a, b, c, d, e⟩

/-- A program that may be: its loops are in no loop. -/
theorem well_check (l : List Ins) (hf : ∀ x ∈ l, x.Fits) (h : pcheckE l = 0) : Well 1 l := by
  have h1 := ((checkE_zero l).1 h).2.1
  have key : ∀ (i : Nat) (x : Ins), l[i]? = some x → x.Fits ∧ x.dst < 16 ∧ x.a < 16 ∧ (x.op ≠ 9 → x.b < 16) ∧ (x.op = 8 → 0 ≤ x.n) := by
    intro i x hx
    have h2 := h1 i x hx
    unfold insE at h2
    split at h2
    · cases h2
    · split at h2
      · cases h2
      · rename_i h3
        split at h2
        · cases h2
        · rename_i h4
          have hr : regsE x = true := by simpa using h3
          unfold regsE at hr
          simp at hr
          refine ⟨hf x (List.mem_of_getElem? hx), hr.1, hr.2.1, fun h9 => (hr.2.2.resolve_left h9), fun h8 => ?_⟩
          by_cases hn : x.n < 1
          · refine absurd (.inr ⟨h8, ?_⟩) h4
            unfold skipE
            rw [if_pos (.inl hn)]
          · omega
  intro i x hx
  obtain ⟨k1, k2, k3, k4, k5⟩ := key i x hx
  refine ⟨k1, k2, k3, k4, k5, fun h9 => ?_⟩
  have he := loop_ends l h1 i x hx h9
  have hb0 : 0 < x.b := by
    have h2 := h1 i x hx
    unfold insE at h2
    rw [if_neg (by omega)] at h2
    split at h2
    · cases h2
    · split at h2
      · cases h2
      · rename_i h4
        cases hb : loopE l i x
        · exact absurd (.inl ⟨h9, hb⟩) h4
        · unfold loopE at hb
          simp only [Bool.and_eq_true, decide_eq_true_eq] at hb
          exact hb.2.1
  refine ⟨⟨he, hb0⟩, fun j y hy => ?_⟩
  rw [List.getElem?_take] at hy
  split at hy
  · rename_i hj
    rw [List.getElem?_drop] at hy
    obtain ⟨m1, m2, m3, m4, m5⟩ := key _ y hy
    refine ⟨m1, m2, m3, m4, m5, fun hy9 => ?_⟩
    have h2 := h1 _ y hy
    unfold insE at h2
    rw [if_neg (by omega)] at h2
    split at h2
    · cases h2
    · split at h2
      · cases h2
      · rename_i h4
        have hl : loopE l (i + 1 + j) y = true := by
          cases hb : loopE l (i + 1 + j) y
          · exact absurd (.inl ⟨hy9, hb⟩) h4
          · rfl
        unfold loopE at hl
        simp only [Bool.and_eq_true, Bool.not_eq_true'] at hl
        have hn : bodyE l (i + 1 + j) ≠ none := by
          intro hb
          unfold bodyE at hb
          rw [List.findSome?_eq_none_iff] at hb
          have := hb i (List.mem_range.2 (by omega))
          unfold bodyAt at this
          rw [hx] at this
          simp only at this
          rw [if_pos ⟨h9, by omega⟩] at this
          cases this
        cases hb : bodyE l (i + 1 + j) with
        | none => exact hn hb
        | some e => rw [hb] at hl; simp at hl
  · cases hy

/-- The sum of numbers, wrapped around. -/
def sumE (l : List Int) : Int := l.foldl (fun t n => wrap64 (t + n)) 0

end Go.Proofs.Ytedadjlmmnikaaa

/-
  package play: the machine, and a program's part, in memory; sum, truth, quotient, result.
-/
namespace Go.Proofs.Ytedadjlmmnikaaa
open Go.RowKit
set_option linter.unusedVariables false

/-- What play panics with. -/
def failV (e : Nat) (n : Int) : Ending := .panicked [{ v := .iface 97 (.agg #[.int .i64 e, .int .i64 n]), recovered := false }]

/-- A part of a program. -/
def PSub (B : Nat → Prop) (w : World) (v : Value) (l : List Ins) : Prop :=
  l.length ≤ 100 ∧ ((l = [] ∧ ∃ a c, v = .slice a 0 c) ∨ ∃ g o cap, B g ∧ v = .slice (some ⟨g, o, none⟩) l.length cap ∧ l.length ≤ cap ∧
    ∀ (i : Nat) (x : Ins), l[i]? = some x → w.cell? ⟨g, o + i * 5, none⟩ = some (.int .u8 x.op) ∧ w.cell? ⟨g, o + i * 5 + 1, none⟩ = some (.int .u8 x.dst) ∧ w.cell? ⟨g, o + i * 5 + 2, none⟩ = some (.int .u8 x.a) ∧
      w.cell? ⟨g, o + i * 5 + 3, none⟩ = some (.int .u8 x.b) ∧ w.cell? ⟨g, o + i * 5 + 4, none⟩ = some (.int .i16 x.n))

theorem PSub.fr {B S : Nat → Prop} {w w' : World} {v : Value} {l : List Ins} (h : PSub B w v l) (f : Fr S w w') (hS : ∀ k, B k → ¬ S k) : PSub B w' v l := by
  obtain ⟨h0, h | ⟨g, o, cap, hB, rfl, hle, hc⟩⟩ := h
  · exact ⟨h0, .inl h⟩
  · refine ⟨h0, .inr ⟨g, o, cap, hB, rfl, hle, fun i x hx => ?_⟩⟩
    obtain ⟨h1, h2, h3, h4, h5⟩ := hc i x hx
    have hg : g < w.heap.size := World.block_lt_of_cell? w _ h1
    exact ⟨by rw [f.cell hg (hS g hB)]; exact h1, by rw [f.cell hg (hS g hB)]; exact h2, by rw [f.cell hg (hS g hB)]; exact h3, by rw [f.cell hg (hS g hB)]; exact h4, by rw [f.cell hg (hS g hB)]; exact h5⟩

theorem PSees.sub {w : World} {v : Value} {l : List Ins} (h : PSees w v l) (hl : l.length ≤ 100) {B : Nat → Prop} (hB : ∀ k, v.ownBlock = some k → B k) : PSub B w v l := by
  rcases h with h | ⟨g, cap, rfl, hle, hc⟩
  · exact ⟨hl, .inl h⟩
  · refine ⟨hl, .inr ⟨g, 0, cap, hB g rfl, rfl, hle, fun i x hx => ?_⟩⟩
    obtain ⟨_, h1, h2, h3, h4, h5⟩ := hc i x hx
    rw [Nat.zero_add]
    exact ⟨h1, h2, h3, h4, h5⟩

/-- The registers' cells, and the numbers'. -/
def regC (r : Nat → Int) (nv : Value) : Array Value :=
  #[.int .i64 (r 0), .int .i64 (r 1), .int .i64 (r 2), .int .i64 (r 3), .int .i64 (r 4), .int .i64 (r 5), .int .i64 (r 6), .int .i64 (r 7), .int .i64 (r 8), .int .i64 (r 9), .int .i64 (r 10), .int .i64 (r 11), .int .i64 (r 12), .int .i64 (r 13), .int .i64 (r 14), .int .i64 (r 15), nv]

theorem regC_at (r : Nat → Int) (nv : Value) (k : Nat) (hk : k < 16) : (regC r nv)[k]? = some (.int .i64 (r k)) := by
  unfold regC
  have : k = 0 ∨ k = 1 ∨ k = 2 ∨ k = 3 ∨ k = 4 ∨ k = 5 ∨ k = 6 ∨ k = 7 ∨ k = 8 ∨ k = 9 ∨ k = 10 ∨ k = 11 ∨ k = 12 ∨ k = 13 ∨ k = 14 ∨ k = 15 := by omega
  rcases this with rfl | rfl | rfl | rfl | rfl | rfl | rfl | rfl | rfl | rfl | rfl | rfl | rfl | rfl | rfl | rfl <;> rfl

theorem regC_set (r : Nat → Int) (nv : Value) (k : Nat) (hk : k < 16) (y : Int) : (regC r nv).setIfInBounds k (.int .i64 y) = regC (upd r k y) nv := by
  have : k = 0 ∨ k = 1 ∨ k = 2 ∨ k = 3 ∨ k = 4 ∨ k = 5 ∨ k = 6 ∨ k = 7 ∨ k = 8 ∨ k = 9 ∨ k = 10 ∨ k = 11 ∨ k = 12 ∨ k = 13 ∨ k = 14 ∨ k = 15 := by omega
  rcases this with rfl | rfl | rfl | rfl | rfl | rfl | rfl | rfl | rfl | rfl | rfl | rfl | rfl | rfl | rfl | rfl <;> rfl

/-- The block g holds the machine. -/
def MAt (w : World) (g : Nat) (r : Nat → Int) (nv : Value) : Prop := w.heap[g]? = some (.cells (regC r nv) 101 (0, 0))

theorem MAt.cell {w : World} {g : Nat} {r : Nat → Int} {nv : Value} (h : MAt w g r nv) (k : Nat) (hk : k < 16) : w.cell? ⟨g, k, none⟩ = some (.int .i64 (r k)) := by
  rw [cell_of_row w g k _ _ _ h, regC_at r nv k hk]

theorem MAt.nums {w : World} {g : Nat} {r : Nat → Int} {nv : Value} (h : MAt w g r nv) : w.cell? ⟨g, 16, none⟩ = some nv := by
  rw [cell_of_row w g 16 _ _ _ h]; rfl

theorem MAt.frozen {w : World} {g : Nat} {r : Nat → Int} {nv : Value} (h : MAt w g r nv) (k : Nat) : w.frozen? ⟨g, k, none⟩ = false := by
  have h' : w.heap[g]? = some (.cells (regC r nv) 101 (0, 0)) := h
  simp [World.frozen?, h']

theorem MAt.set {w : World} {g : Nat} {r : Nat → Int} {nv : Value} (h : MAt w g r nv) (k : Nat) (hk : k < 16) (y : Int) : MAt (w.setCell ⟨g, k, none⟩ (.int .i64 y)) g (upd r k y) nv := by
  unfold MAt
  rw [psetCell_row k _ h, regC_set r nv k hk]

theorem MAt.fr {S : Nat → Prop} {w w' : World} {g : Nat} {r : Nat → Int} {nv : Value} (h : MAt w g r nv) (f : Fr S w w') (hS : ¬ S g) : MAt w' g r nv := pbox_kept h f hS

/-- The slice v shows these numbers. -/
def NumsAt (B : Nat → Prop) (w : World) (l : List Int) (v : Value) : Prop :=
  l.length ≤ 1000 ∧ ((l = [] ∧ ∃ a c, v = .slice a 0 c) ∨
   ∃ g off cap, B g ∧ v = .slice (some ⟨g, off, none⟩) l.length cap ∧ l.length ≤ cap ∧ ∀ (j : Nat) (x : Int), l[j]? = some x → w.cell? ⟨g, off + j, none⟩ = some (.int .i64 x))

theorem NumsAt.fr {B S : Nat → Prop} {w w' : World} {l : List Int} {v : Value} (h : NumsAt B w l v) (f : Fr S w w') (hS : ∀ k, B k → ¬ S k) : NumsAt B w' l v := by
  obtain ⟨h0, h | ⟨g, o, cap, hB, rfl, hle, hc⟩⟩ := h
  · exact ⟨h0, .inl h⟩
  · refine ⟨h0, .inr ⟨g, o, cap, hB, rfl, hle, fun i x hx => ?_⟩⟩
    have h1 := hc i x hx
    have hg : g < w.heap.size := World.block_lt_of_cell? w _ h1
    rw [f.cell hg (hS g hB)]
    exact h1

theorem NumsAt.shape {B : Nat → Prop} {w : World} {v : Value} {l : List Int} (h : NumsAt B w l v) : ∃ a c, v = .slice a l.length c ∧ (l = [] ∨ ∃ g o, a = some ⟨g, o, none⟩ ∧ l.length ≤ c ∧ B g ∧ ∀ (j : Nat) (x : Int), l[j]? = some x → w.cell? ⟨g, o + j, none⟩ = some (.int .i64 x)) := by
  obtain ⟨_, ⟨rfl, a, c, rfl⟩ | ⟨g, o, cap, hB, rfl, hle, hc⟩⟩ := h
  · exact ⟨a, c, rfl, .inl rfl⟩
  · exact ⟨_, cap, rfl, .inr ⟨g, o, rfl, hle, hB, hc⟩⟩

theorem sumE_take (l : List Int) (j : Nat) (x : Int) (hx : l[j]? = some x) : sumE (l.take (j + 1)) = wrap64 (sumE (l.take j) + x) := by
  unfold sumE
  rw [List.take_add_one, hx, List.foldl_append]
  rfl

set_option maxRecDepth 100000 in
set_option maxHeartbeats 4000000 in
theorem psum_any (B : Nat → Prop) (l : List Int) (v : Value) (w : World) (h : NumsAt B w l v) :
    Calls Try.prog 69 #[v] w fun e w' => e = .returned (.int .i64 (sumE l)) ∧ w = w' := by
  have hl := h.1
  obtain ⟨a, cap, rfl, hs⟩ := h.shape
  have Hs := Lib.hid hs
  clear h hs
  go_enter Try.func69, Try.ntmps69
  go_wp2
  go_loopg [3, 5, 8] l.length (fun G u3 u5 u8 wr => ∃ (j : Nat) (s : Int), j ≤ l.length ∧ G = l.length - j ∧ u8 = .int .i64 j ∧ u3 = .int .i64 s ∧ Hid (s = sumE (l.take j) ∧ w = wr))
  case atStart => exact ⟨0, 0, Nat.zero_le _, rfl, rfl, rfl, Lib.hid ⟨rfl, rfl⟩⟩
  case round =>
    obtain ⟨j, s, hj, rfl, rfl, rfl, HI⟩ := hrel
    obtain ⟨hs, hw⟩ := HI.out
    subst hw
    by_cases hlt : j < l.length
    · rcases Hs.out with rfl | ⟨g, o, rfl, hcap, _, hat⟩
      · simp at hlt
      obtain ⟨x, hx⟩ : ∃ x, l[j]? = some x := ⟨_, List.getElem?_eq_getElem hlt⟩
      have c0 := hat j x hx
      have HT := Lib.hid (sumE_take l j x hx)
      have HS := Lib.hid hs
      clear hx hat hs HI
      go_wp2
      go_roundg (l.length - (j + 1))
      case measure => omega
      case rel => exact ⟨j + 1, wrap64 (s + x), by omega, rfl, by go_num, rfl, Lib.hid ⟨by rw [HT.out, HS.out], rfl⟩⟩
    · obtain rfl : j = l.length := by omega
      have HS := Lib.hid (show s = sumE l by rw [hs, List.take_length])
      clear hs HI
      go_wp2
      go_ret
      rw [HS.out]
      exact ⟨rfl, rfl⟩

theorem truth_any (b : Bool) (w : World) : Calls Try.prog 68 #[.bool b] w fun e w' => e = .returned (.int .i64 (if b = true then 1 else 0)) ∧ w = w' := by
  cases b
  all_goals
    go_enter Try.func68, Try.ntmps68
    go_wp2
    go_ret
    exact ⟨rfl, rfl⟩

theorem quo_zero (a : Int) (w : World) : Calls Try.prog 67 #[.int .i64 a, .int .i64 0] w fun e w' => e = failV 14 0 ∧ w = w' := by
  go_enter Try.func67, Try.ntmps67
  go_wp2
  exact ⟨rfl, rfl, rfl⟩

theorem quo_some (a b : Int) (hb : ¬ b = 0) (w : World) : Calls Try.prog 67 #[.int .i64 a, .int .i64 b] w fun e w' => e = .returned (.int .i64 (wrap64 (a.tdiv b))) ∧ w = w' := by
  go_enter Try.func67, Try.ntmps67
  go_wp2
  go_ret
  exact ⟨rfl, rfl⟩

end Go.Proofs.Ytedadjlmmnikaaa

/-
  package play: load: the state and the numbers in the registers.
-/
namespace Go.Proofs.Ytedadjlmmnikaaa
open Go.RowKit
set_option linter.unusedVariables false
set_option linter.unusedSimpArgs false

theorem Fr.setRow {S : Nat → Prop} {w w' : World} (h : Fr S w w') {g : Nat} (hg : g < w.heap.size → S g) (cs : Array Value) : Fr S w (w'.setRow g cs) :=
  ⟨h.os, h.tape, h.output, by have := h.size; simp [World.setRow]; omega, fun b hb hs => (setRow_other _ _ _ _ (by rintro rfl; exact hs (hg hb))).trans (h.block b hb hs)⟩

/-- A state, as a value. -/
def stC (s : Nat → Int) : Array Value := #[.int .i64 (s 0), .int .i64 (s 1), .int .i64 (s 2), .int .i64 (s 3), .int .i64 (s 4), .int .i64 (s 5), .int .i64 (s 6), .int .i64 (s 7)]

def loadE (s : Nat → Int) (ns : List Int) (k : Nat) : Int := if k < 8 then s k else if k < 8 + ns.length then ns.getD (k - 8) 0 else 0

theorem load_state (s : Nat → Int) (nv : Value) : ((regC (fun _ => 0) nv).toList.take 0 ++ (stC s).toList ++ (regC (fun _ => 0) nv).toList.drop (0 + (stC s).toList.length)).toArray = regC (loadE s []) nv := rfl

theorem load_nums (s : Nat → Int) (nv : Value) (ns : List Int) :
    ((regC (loadE s []) nv).toList.take 8 ++ (ns.take 8).map (Value.int .i64) ++ (regC (loadE s []) nv).toList.drop (8 + ((ns.take 8).map (Value.int .i64)).length)).toArray = regC (loadE s ns) nv := by
  match ns with
  | [] => rfl
  | [a] => rfl
  | [a, b] => rfl
  | [a, b, c] => rfl
  | [a, b, c, d] => rfl
  | [a, b, c, d, e] => rfl
  | [a, b, c, d, e, f] => rfl
  | [a, b, c, d, e, f, g] => rfl
  | a :: b :: c :: d :: e :: f :: g :: h :: r =>
    have key : ∀ k, k < 16 → loadE s (a :: b :: c :: d :: e :: f :: g :: h :: r) k = loadE s [a, b, c, d, e, f, g, h] k := by
      intro k hk
      unfold loadE
      by_cases h8 : k < 8
      · rw [if_pos h8, if_pos h8]
      · rw [if_neg h8, if_neg h8, if_pos (by simp; omega), if_pos (by simp; omega)]
        have : k = 8 ∨ k = 9 ∨ k = 10 ∨ k = 11 ∨ k = 12 ∨ k = 13 ∨ k = 14 ∨ k = 15 := by omega
        rcases this with rfl | rfl | rfl | rfl | rfl | rfl | rfl | rfl <;> rfl
    unfold regC
    simp only [key 0 (by decide), key 1 (by decide), key 2 (by decide), key 3 (by decide), key 4 (by decide), key 5 (by decide), key 6 (by decide), key 7 (by decide), key 8 (by decide), key 9 (by decide), key 10 (by decide), key 11 (by decide), key 12 (by decide), key 13 (by decide), key 14 (by decide), key 15 (by decide)]
    rfl

theorem NumsAt.below {B : Nat → Prop} {w : World} {l : List Int} {v : Value} (h : NumsAt B w l v) : NumsAt (fun k => B k ∧ k < w.heap.size) w l v := by
  obtain ⟨h0, h | ⟨g, o, cap, hB, rfl, hle, hc⟩⟩ := h
  · exact ⟨h0, .inl h⟩
  · cases l with
    | nil => exact ⟨h0, .inl ⟨rfl, _, _, rfl⟩⟩
    | cons x l => exact ⟨h0, .inr ⟨g, o, cap, ⟨hB, World.block_lt_of_cell? w _ (hc 0 x rfl)⟩, rfl, hle, hc⟩⟩

/-- What is done to what is new. -/
theorem Fr.new {S T : Nat → Prop} {w w1 w2 : World} (h : Fr S w w1) (hT : ∀ k, T k → w.heap.size ≤ k) (f : Fr T w1 w2) : Fr S w w2 :=
  ⟨f.os.trans h.os, f.tape.trans h.tape, f.output.trans h.output, Nat.le_trans h.size f.size, fun b hb hs => (f.block b (Nat.lt_of_lt_of_le hb h.size) (fun t => by have := hT b t; omega)).trans (h.block b hb hs)⟩

theorem Try.infoInt64 : (Try.prog.info? 2).map (·.size) = some 1 := by kernel_rfl

/-- The state copied into the registers. -/
theorem copy_state (w : World) (g sb : Nat) (ty : TypeId) (s : Nat → Int) (nv : Value) (hm : MAt w g (fun _ => 0) nv) (hs : w.heap[sb]? = some (.cells (stC s) 27 (0, 0))) :
    (Builtin.copy_ #[28, 28] ty #[.slice (some ⟨g, 0, none⟩) 8 16, .slice (some ⟨sb, 0, none⟩) 8 8]).run Try.prog w = .ok (.int .i64 8) (w.setRow g (regC (loadE s []) nv)) := by
  have := run_copy_row (P := Try.prog) w 28 28 ty 2 g 0 8 16 ⟨sb, 0, none⟩ 8 8 (regC (fun _ => 0) nv) 101 (stC s).toList Try.underlying28 Try.infoInt64 hm rfl
    (by
      intro j v hj
      rw [pplain_add, Nat.zero_add, cell_of_row w sb j _ _ _ hs]
      simpa using hj) (by simp [stC, regC]) (by simp [stC, Value.oneCell'])
  rw [load_state s nv] at this
  exact this

theorem copy_nums (B : Nat → Prop) (w : World) (g : Nat) (ty : TypeId) (s : Nat → Int) (nv : Value) (ns : List Int) (hm : MAt w g (loadE s []) nv) (hn : NumsAt B w ns nv) :
    ∃ n w', (Builtin.copy_ #[28, 28] ty #[.slice (some ⟨g, 8, none⟩) 8 8, nv]).run Try.prog w = .ok n w' ∧ MAt w' g (loadE s ns) nv ∧ Fr (fun k => k = g) w w' := by
  obtain ⟨hl, ⟨rfl, a, c, rfl⟩ | ⟨b, o, cap, hB, rfl, hle, hc⟩⟩ := hn
  · exact ⟨_, w, run_copy_none (P := Try.prog) w 28 28 ty 2 _ a 8 8 0 c Try.underlying28 Try.infoInt64 rfl, hm, Fr.refl _ _⟩
  · have hlen : ((ns.take 8).map (Value.int .i64)).length = Nat.min ns.length 8 := by
      rw [List.length_map, List.length_take]
      exact Nat.min_comm _ _
    have := run_copy_row (P := Try.prog) w 28 28 ty 2 g 8 8 8 ⟨b, o, none⟩ ns.length cap (regC (loadE s []) (.slice (some ⟨b, o, none⟩) ns.length cap)) 101 ((ns.take 8).map (Value.int .i64)) Try.underlying28 Try.infoInt64 hm hlen
      (by
        intro j v hj
        rw [pplain_add]
        simp only [List.getElem?_map, Option.map_eq_some_iff, List.getElem?_take] at hj
        obtain ⟨x, hx, rfl⟩ := hj
        split at hx
        · exact hc j x hx
        · cases hx) (by rw [hlen]; have : Nat.min ns.length 8 ≤ 8 := Nat.min_le_right _ _; simp [regC]; omega) (by
        intro v hv
        obtain ⟨x, _, rfl⟩ := List.mem_map.1 hv
        rfl)
    rw [load_nums] at this
    exact ⟨_, _, this, setRow_heap w g _ _ _ _ hm, Fr.setRow (S := fun k => k = g) (Fr.refl _ _) (fun _ => rfl) _⟩

set_option maxRecDepth 100000 in
set_option maxHeartbeats 4000000 in
theorem load_any (B : Nat → Prop) (s : Nat → Int) (ns : List Int) (nv : Value) (w : World) (hn : NumsAt B w ns nv) :
    Calls Try.prog 34 #[.agg (stC s), nv] w fun e w' => e = .returned (.agg (regC (loadE s ns) nv)) ∧ Fr (fun _ => False) w w' := by
  obtain ⟨na, nc, rfl, hx⟩ := hn.shape
  clear hx
  have HN := Lib.hid hn
  obtain ⟨w0, hw0⟩ : ∃ w0, w0 = ((w.alloc (.cells (stC s) 27)).alloc (.cells (regC (fun _ => 0) (.slice none 0 0)) 101)).alloc (.cells (regC (fun _ => 0) (.slice na ns.length nc)) 101) := ⟨_, rfl⟩
  have f0 : Fr (fun _ => False) w w0 := by rw [hw0]; exact (((Fr.refl _ _).alloc _).alloc _).alloc _
  have q0 : w0.heap[w.heap.size]? = some (.cells (stC s) 27 (0, 0)) := by
    rw [hw0]; exact pbox_kept (pbox_kept (heap_alloc_new _ _) ((Fr.refl (fun _ => False) _).alloc _) (fun h => h)) ((Fr.refl (fun _ => False) _).alloc _) (fun h => h)
  have q1 : w0.heap[w.heap.size + 1]? = some (.cells (regC (fun _ => 0) (.slice none 0 0)) 101 (0, 0)) := by
    rw [hw0]; exact pbox_kept (new_two _ _ _) ((Fr.refl (fun _ => False) _).alloc _) (fun h => h)
  have m1 : MAt w0 (w.heap.size + 1 + 1) (fun _ => 0) (.slice na ns.length nc) := by
    rw [hw0]; exact new_three _ _ _ _
  have Q := Lib.hid (And.intro f0 (And.intro q0 (And.intro q1 m1)))
  have HW : Hid (w0.heap.size = w.heap.size + 1 + 1 + 1) := Lib.hid (by rw [hw0]; simp)
  clear hn f0 q0 q1 m1
  simp only [stC, regC] at hw0
  simp only [stC]
  go_enter Try.func34, Try.ntmps34
  go_wp2_with fail
  rw [← hw0]
  clear hw0
  generalize hg0 : w.heap.size = g0 at *
  have G0 := Lib.hid hg0
  clear hg0
  refine wp_region_chain (by kernel_rfl) [some 8, some 9, some 10, some 11] rfl (by decide) (by intro d hd; simp at hd ⊢; omega)
    [3] (fun cvs wx => match cvs with
      | [] => Fr (fun _ => False) w0 wx
      | _ => Fr (fun k => k = g0 + 1 + 1) w0 wx ∧ MAt wx (g0 + 1 + 1) (loadE s []) (.slice na ns.length nc))
    [.free (.pointer (some ⟨g0 + 1 + 1, 0, none⟩)), .free (.slice (some ⟨g0 + 1 + 1, 0, none⟩) 8 16), .free (.slice (some ⟨g0, 0, none⟩) 8 8), .link none]
    (by kernel_rfl) (by kernel_rfl) ?h0 ?step ?fin
  case h0 => exact (Fr.refl _ _).drew
  case step =>
    intro vals
    simp only [frOfU, fillU, List.setIfInBounds_toArray, List.set_cons_succ, List.set_cons_zero]
    repeat' (first | exact AllOps.nil | refine AllOps.cons ?_ ?_)
    all_goals
      intro cvs wx hS he hu hlim K hK
      clear hu
      simp only [Act.put, List.setIfInBounds_toArray, List.set_cons_succ, List.set_cons_zero, List.getD_cons_zero, List.getD_cons_succ] at hK
      simp only [List.mem_cons, List.not_mem_nil, or_false, forall_eq_or_imp, forall_eq, Region.binds, forall_const, false_imp_iff, List.getD_cons_zero, List.getD_cons_succ, OpSort.val, Option.some.injEq, forall_eq', reduceCtorEq, implies_true, true_and, and_true] at he
      have HSX := Lib.hid hS
      clear hS
    all_goals first | (clear hlim; (try simp only [he] at hK ⊢); go_simp; exact hK) | skip
    · obtain rfl := hlim (0 : Nat) rfl
      have h1 : Fr (fun _ => False) w0 wx := HSX.out
      have hc := copy_state wx (g0 + 1 + 1) g0 3 s _ (Q.out.2.2.2.fr h1 (fun h => h)) (pbox_kept Q.out.2.1 h1 (fun h => h))
      have H1 := Lib.hid h1
      clear h1 hlim HSX
      simp only [he] at hK ⊢
      go_simp
      exact hK _ _ (fun _ h => by cases h) ⟨Fr.setRow (S := fun k => k = g0 + 1 + 1) (H1.out.mono (fun _ _ h => h.elim)) (fun _ => rfl) _, setRow_heap _ _ _ _ _ _ (Q.out.2.2.2.fr H1.out (fun h => h))⟩
  case fin =>
    intro vals w1 hS hV
    clear hV
    simp only [List.map_cons, List.map_nil] at hS
    have HF := Lib.hid hS
    obtain ⟨cn, w2, hc, m2, f2⟩ := copy_nums (fun k => B k ∧ k < w.heap.size) w1 (g0 + 1 + 1) 3 s _ ns hS.2 ((HN.out.below.fr Q.out.1 (fun _ _ h => h)).fr hS.1 (fun k hk h => by have := hk.2; have := G0.out; omega))
    clear hS
    have M2 := Lib.hid (And.intro m2 f2)
    clear m2 f2
    simp only [frOfU, fillU, List.setIfInBounds_toArray, List.set_cons_succ, List.set_cons_zero]
    go_wp2_with (first
      | refine wpList_load_row rfl 101 (.tmp 5) rfl (g0 + 1 + 1) rfl 101 _ (0, 0) _ M2.out.1 Try.underlying101 rfl (by kernel_rfl) ?_
      | refine wpList_store_row rfl 101 (.tmp 4) (.tmp 16) rfl (g0 + 1) (regC (loadE s ns) (.slice na ns.length nc)) rfl rfl 101 (regC (fun _ => 0) (.slice none 0 0)) ?hg ?hi ?hold ?h1 ?go)
    case hg => exact pbox_kept (pbox_kept Q.out.2.2.1 HF.out.1 (by omega)) M2.out.2 (by omega)
    case hi => kernel_rfl
    case hold => rfl
    case h1 => simp [regC, Value.oneCell']
    case go =>
      have q2 : w2.heap[g0 + 1]? = some (.cells (regC (fun _ => 0) (.slice none 0 0)) 101 (0, 0)) := pbox_kept (pbox_kept Q.out.2.2.1 HF.out.1 (by omega)) M2.out.2 (by omega)
      refine bodyPost_ret (results_cell_row rfl _ _ (g0 + 1) 101 _ _ _ rfl (setRow_heap _ _ _ _ _ _ q2) Try.underlying101 rfl (by kernel_rfl)) rfl ?_
      refine ⟨rfl, ?_⟩
      have hg := G0.out
      exact (((Q.out.1.new (fun k hk => by omega) HF.out.1).new (fun k hk => by omega) M2.out.2)).setRow (fun h => by omega) _

end Go.Proofs.Ytedadjlmmnikaaa

/-
  package play: the deferred closure that recovers.
-/
namespace Go.Proofs.Ytedadjlmmnikaaa
open Go.RowKit
set_option linter.unusedVariables false
set_option linter.unusedSimpArgs false

theorem assert_nil (w : World) : (Instr.typeAssert Value.nilIface 20 97 true).run Try.prog w = .ok (.tuple #[.agg #[.int .i64 0, .int .i64 0], .bool false]) w := by kernel_rfl

theorem assert_some (e n : Int) (w : World) : (Instr.typeAssert (.iface 97 (.agg #[.int .i64 e, .int .i64 n])) 20 97 true).run Try.prog w = .ok (.tuple #[.agg #[.int .i64 e, .int .i64 n], .bool true]) w := by kernel_rfl

set_option maxRecDepth 100000 in
set_option maxHeartbeats 4000000 in
theorem catch_idle (sb ob vb : Nat) (w : World) :
    CallsD Try.prog 32 #[.pointer (some ⟨sb, 0, none⟩), .pointer (some ⟨ob, 0, none⟩), .pointer (some ⟨vb, 0, none⟩)] .returning w fun e u' w' => e = .returned (.tuple #[]) ∧ u' = .returning ∧ w' = w.alloc (.cells #[.int .i64 0, .int .i64 0] 97) := by
  refine callsD_of_wpS Try.func32 rfl fun c₀ cs hu => ?_
  have ht : (#[.pointer (some ⟨sb, 0, none⟩), .pointer (some ⟨ob, 0, none⟩), .pointer (some ⟨vb, 0, none⟩)] ++ Array.replicate 14 undef : Array Value) = #[.pointer (some ⟨sb, 0, none⟩), .pointer (some ⟨ob, 0, none⟩), .pointer (some ⟨vb, 0, none⟩), undef, undef, undef, undef, undef, undef, undef, undef, undef, undef, undef, undef, undef, undef] := rfl
  rw [Try.ntmps32]
  simp only [List.size_toArray, List.length_cons, List.length_nil, Nat.reduceAdd, Nat.reduceSub, ht]
  have hta := assert_nil
  refine wpS_recover_first (v := .nilIface) (cs' := c₀ :: cs) rfl rfl (.inr ⟨by simp [recoverD, hu], rfl, rfl⟩) (fun a w h => by obtain ⟨u', h1, _⟩ := h; cases h1) ?_
  go_wp2
  refine wpS_of_wp ?_
  go_wp2
  refine ⟨rfl, .returning, ?_, .tuple #[], ?_, rfl, rfl, rfl⟩
  · cases c₀; simp_all
  · simp [results, Try.results32]

/-- An outcome that is an error. -/
def outC (e : Nat) (n : Int) : Array Value := #[.int .i64 e, .int .i64 n, .int .i64 0, .float .f64 0, .string ⟨#[]⟩, .slice none 0 0]

/-- What has been stored. -/
def CaS (w0 : World) (ob vb : Nat) (s : Nat → Int) (e : Nat) (n : Int) : List Value → World → Prop
  | [], wx => Fr (fun _ => False) w0 wx
  | [_], wx => Fr (fun k => k = ob) w0 wx ∧ wx.heap[ob]? = some (.cells (stC s) 27 (0, 0))
  | _, wx => Fr (fun k => k = ob ∨ k = vb) w0 wx ∧ wx.heap[ob]? = some (.cells (stC s) 27 (0, 0)) ∧ wx.heap[vb]? = some (.cells (outC e n) 65 (0, 0))

theorem CaS.fr {w0 : World} {ob vb : Nat} {s : Nat → Int} {e : Nat} {n : Int} {l : List Value} {wx : World} (h : CaS w0 ob vb s e n l wx) : Fr (fun k => k = ob ∨ k = vb) w0 wx := by
  match l, h with
  | [], h => exact h.mono (fun _ _ h => h.elim)
  | [_], h => exact h.1.mono (fun _ _ h => .inl h)
  | _ :: _ :: _, h => exact h.1

set_option maxRecDepth 100000 in
set_option maxHeartbeats 4000000 in
theorem catch_fail (sb ob vb : Nat) (e : Nat) (n : Int) (s : Nat → Int) (oldO oldV : Array Value) (w : World) (h1 : sb ≠ ob) (h2 : sb ≠ vb) (h3 : ob ≠ vb) (hs : w.heap[sb]? = some (.cells (stC s) 27 (0, 0)))
    (ho : w.heap[ob]? = some (.cells oldO 27 (0, 0))) (hoz : oldO.size = 8) (hv : w.heap[vb]? = some (.cells oldV 65 (0, 0))) (hvz : oldV.size = 6) :
    CallsD Try.prog 32 #[.pointer (some ⟨sb, 0, none⟩), .pointer (some ⟨ob, 0, none⟩), .pointer (some ⟨vb, 0, none⟩)] (.panicking [{ v := .iface 97 (.agg #[.int .i64 e, .int .i64 n]), recovered := false }]) w fun e1 u' w' =>
      e1 = .returned (.tuple #[]) ∧ u' = .panicking [{ v := .iface 97 (.agg #[.int .i64 e, .int .i64 n]), recovered := true }] ∧
      w'.heap[ob]? = some (.cells (stC s) 27 (0, 0)) ∧ w'.heap[vb]? = some (.cells (outC e n) 65 (0, 0)) ∧ Fr (fun k => k = ob ∨ k = vb) w w' := by
  obtain ⟨w0, hw0⟩ : ∃ w0, w0 = w.alloc (.cells #[.int .i64 e, .int .i64 n] 97) := ⟨_, rfl⟩
  have f0 : Fr (fun _ => False) w w0 := by rw [hw0]; exact (Fr.refl _ _).alloc _
  have q0 : w0.heap[w.heap.size]? = some (.cells #[.int .i64 e, .int .i64 n] 97 (0, 0)) := by rw [hw0]; exact heap_alloc_new _ _
  have hs0 := pbox_kept hs f0 (fun h => h)
  have ho0 := pbox_kept ho f0 (fun h => h)
  have hv0 := pbox_kept hv f0 (fun h => h)
  have l1 := lt_of_block ho
  have l2 := lt_of_block hv
  have Q := Lib.hid (And.intro f0 (And.intro q0 (And.intro hs0 (And.intro ho0 (And.intro hv0 (And.intro hoz (And.intro hvz (And.intro h1 (And.intro h2 (And.intro h3 (And.intro l1 l2)))))))))))
  clear f0 q0 hs0 ho0 hv0 hs ho hv hoz hvz h1 h2 h3 l1 l2
  refine callsD_of_wpS Try.func32 rfl fun c₀ cs hu => ?_
  have ht : (#[.pointer (some ⟨sb, 0, none⟩), .pointer (some ⟨ob, 0, none⟩), .pointer (some ⟨vb, 0, none⟩)] ++ Array.replicate 14 undef : Array Value) = #[.pointer (some ⟨sb, 0, none⟩), .pointer (some ⟨ob, 0, none⟩), .pointer (some ⟨vb, 0, none⟩), undef, undef, undef, undef, undef, undef, undef, undef, undef, undef, undef, undef, undef, undef] := rfl
  rw [Try.ntmps32]
  simp only [List.size_toArray, List.length_cons, List.length_nil, Nat.reduceAdd, Nat.reduceSub, ht]
  clear ht
  have hta := assert_some e n
  refine wpS_recover_first (v := .iface 97 (.agg #[.int .i64 e, .int .i64 n])) (cs' := { c₀ with mode := .panicking [{ v := .iface 97 (.agg #[.int .i64 e, .int .i64 n]), recovered := true }] } :: cs) rfl rfl (.inl (by simp [recoverD, hu])) (fun a w h => by obtain ⟨u', h1, _⟩ := h; cases h1) ?_
  go_wp2
  refine wpS_of_wp ?_
  go_wp2
  rw [← hw0]
  clear hw0
  generalize hg0 : w.heap.size = g0 at *
  have G0 := Lib.hid hg0
  clear hg0
  have is : (Try.prog.info? 27).map (·.size) = some 8 := by kernel_rfl
  have io : (Try.prog.info? 65).map (·.size) = some 6 := by kernel_rfl
  have I := Lib.hid (And.intro is io)
  clear is io
  refine wp_region_chain (by kernel_rfl) [some 11, some 12, some 13, some 14, some 15, some 16, none, none] rfl (by decide) (by intro d hd; simp at hd ⊢; omega)
    [6, 7] (CaS w0 ob vb s e n)
    [.free (.agg (stC s)), .free (.pointer (some ⟨g0, 0, none⟩)), .free (.int .i64 e), .free (.pointer (some ⟨g0, 1, none⟩)), .free (.int .i64 n), .free (.agg (outC e n)), .link none, .link none]
    (by kernel_rfl) (by kernel_rfl) ?h0 ?step ?fin
  case h0 => exact (Fr.refl _ _).drew
  case step =>
    intro vals
    simp only [frOfU, fillU, List.setIfInBounds_toArray, List.set_cons_succ, List.set_cons_zero]
    repeat' (first | exact AllOps.nil | refine AllOps.cons ?_ ?_)
    all_goals
      intro cvs wx hS he hu hlim K hK
      clear hu
      simp only [Act.put, List.setIfInBounds_toArray, List.set_cons_succ, List.set_cons_zero, List.getD_cons_zero, List.getD_cons_succ, stC, outC] at hK
      simp only [List.mem_cons, List.not_mem_nil, or_false, forall_eq_or_imp, forall_eq, Region.binds, forall_const, false_imp_iff, List.getD_cons_zero, List.getD_cons_succ, OpSort.val, Option.some.injEq, forall_eq', reduceCtorEq, implies_true, true_and, and_true, stC, outC] at he
      have lg : g0 ≠ ob ∧ g0 ≠ vb := by have := Q.out.2.2.2.2.2.2.2.2.2.2; have := G0.out; omega
      have q := pbox_kept Q.out.2.1 hS.fr (fun h => by rcases h with h | h; exact lg.1 h; exact lg.2 h)
      have k0 := pcells_row q 0 _ rfl
      have k1 := pcells_row q 1 _ rfl
      have qs := pbox_kept Q.out.2.2.1 hS.fr (fun h => by rcases h with h | h; exact Q.out.2.2.2.2.2.2.2.1 h; exact Q.out.2.2.2.2.2.2.2.2.1 h)
      have s0 := pcells_row qs 0 _ rfl
      have s1 := pcells_row qs 1 _ rfl
      have s2 := pcells_row qs 2 _ rfl
      have s3 := pcells_row qs 3 _ rfl
      have s4 := pcells_row qs 4 _ rfl
      have s5 := pcells_row qs 5 _ rfl
      have s6 := pcells_row qs 6 _ rfl
      have s7 := pcells_row qs 7 _ rfl
      clear q qs lg
      have HSX := Lib.hid hS
      clear hS
    all_goals first | (clear hlim; (try simp only [he] at hK ⊢); go_simp; exact hK) | skip
    · obtain rfl := hlim (0 : Nat) rfl
      have h1 : Fr (fun _ => False) w0 wx := HSX.out
      clear hlim HSX
      simp only [he] at hK ⊢
      simp only [Region.wanted, if_true]
      refine wp_store_row 27 (.tmp 1) (.tmp 11) rfl ob (stC s) rfl rfl 27 oldO (pbox_kept Q.out.2.2.2.1 h1 (fun h => h)) I.out.1 Q.out.2.2.2.2.2.1 (by simp [stC, Value.oneCell']) ?_
      exact hK undef _ (fun _ h => by cases h) ⟨Fr.setRow (S := fun k => k = ob) (h1.mono (fun _ _ h => h.elim)) (fun _ => rfl) _, setRow_heap _ _ _ _ _ _ (pbox_kept Q.out.2.2.2.1 h1 (fun h => h))⟩
    · obtain rfl := hlim (1 : Nat) rfl
      have h1 : Fr (fun k => k = ob) w0 wx ∧ wx.heap[ob]? = some (.cells (stC s) 27 (0, 0)) := HSX.out
      clear hlim HSX
      have q1 : wx.heap[vb]? = some (.cells oldV 65 (0, 0)) := pbox_kept Q.out.2.2.2.2.1 h1.1 (fun h => Q.out.2.2.2.2.2.2.2.2.2.1 h.symm)
      simp only [he] at hK ⊢
      simp only [Region.wanted, if_true]
      refine wp_store_row 65 (.tmp 2) (.tmp 16) rfl vb (outC e n) rfl rfl 65 oldV q1 I.out.2 Q.out.2.2.2.2.2.2.1 (by simp [outC, Value.oneCell']) ?_
      exact hK undef _ (fun _ h => by cases h) ⟨Fr.setRow (S := fun k => k = ob ∨ k = vb) (h1.1.mono (fun _ _ h => .inl h)) (fun _ => .inr rfl) _, (setRow_other _ _ _ _ (fun h => Q.out.2.2.2.2.2.2.2.2.2.1 h)).trans h1.2, setRow_heap _ _ _ _ _ _ q1⟩
  case fin =>
    intro vals w' hS hV
    clear hV
    simp only [List.map_cons, List.map_nil] at hS
    have HF := Lib.hid hS
    clear hS
    simp only [frOfU, fillU, List.setIfInBounds_toArray, List.set_cons_succ, List.set_cons_zero]
    go_wp2
    refine ⟨rfl, _, rfl, .tuple #[], ?_, rfl, rfl, HF.out.2.1, HF.out.2.2, (Q.out.1.mono (fun _ _ h => h.elim)).trans HF.out.1 (fun _ _ h => h)⟩
    simp [results, Try.results32]

end Go.Proofs.Ytedadjlmmnikaaa

/-
  package play: what an instruction makes of the registers (result).
-/
namespace Go.Proofs.Ytedadjlmmnikaaa
open Go.RowKit
set_option linter.unusedVariables false

/-- Where result's copy of the instruction lies. -/
def insO (x : Ins) : Obj := .cells #[.int .u8 x.op, .int .u8 x.dst, .int .u8 x.a, .int .u8 x.b, .int .i16 x.n] 84

def insV (x : Ins) : Value := .agg #[.int .u8 x.op, .int .u8 x.dst, .int .u8 x.a, .int .u8 x.b, .int .i16 x.n]

set_option maxRecDepth 100000 in
set_option maxHeartbeats 4000000 in
theorem result_any (B : Nat → Prop) (x : Ins) (g : Nat) (r : Nat → Int) (nv : Value) (l : List Int) (w : World) (hf : x.Fits) (ha : x.a < 16) (hb : x.b < 16) (h0 : x.op ≠ 0) (hm : MAt w g r nv) (hn : NumsAt B w l nv) :
    Calls Try.prog 48 #[.pointer (some ⟨g, 0, none⟩), insV x] w fun e w' =>
      (match opE (sumE l) x r with
      | some v => e = .returned (.int .i64 v)
      | none => e = failV 14 0) ∧ ∃ n, w' = (w.alloc (insO x)).drewN n := by
  obtain ⟨op, dst, a, b, n⟩ := x
  simp only at ha hb h0
  have hg : g < w.heap.size := lt_of_block hm
  have hgn : g ≠ w.heap.size := by omega
  have c1 := hm.cell a ha
  have c2 := hm.cell b hb
  have c3 := hm.nums
  have q := heap_alloc_new w (insO ⟨op, dst, a, b, n⟩)
  have k0 := pcells_row q 0 _ rfl
  have k1 := pcells_row q 1 _ rfl
  have k2 := pcells_row q 2 _ rfl
  have k3 := pcells_row q 3 _ rfl
  have k4 := pcells_row q 4 _ rfl
  have hN : Hid (∀ k, Calls Try.prog 69 #[nv] ((w.alloc (insO ⟨op, dst, a, b, n⟩)).drewN k) fun e w' => e = .returned (.int .i64 (sumE l)) ∧ (w.alloc (insO ⟨op, dst, a, b, n⟩)).drewN k = w') := Lib.hid (fun k => psum_any B l nv _ (hn.fr ((((Fr.refl (fun _ => False) w).alloc (insO ⟨op, dst, a, b, n⟩))).pdrewN k) (fun _ _ h => h)))
  have hlo := hf.lo
  have hhi := hf.hi
  simp only [insO, insV] at k0 k1 k2 k3 k4 hN ⊢
  clear hm q hn hf
  generalize hra : r a = A at c1
  generalize hrb : r b = Bv at c2
  have Hra := Lib.hid hra
  have Hrb := Lib.hid hrb
  have ia : (a : Int) < 16 := by omega
  have ib : (b : Int) < 16 := by omega
  clear hra hrb
  by_cases e1 : op = 1
  · subst e1
    have E : Hid (opE (sumE l) ⟨1, dst, a, b, n⟩ r = some n) := Lib.hid (by simp [opE])
    rw [E.out]
    simp only
    go_enter Try.func48, Try.ntmps48
    go_wp2
    go_quiet (fail)
    go_wp2
    go_ret
    exact ⟨rfl, nq, rfl⟩
  by_cases e2 : op = 2
  · subst e2
    have E : Hid (opE (sumE l) ⟨2, dst, a, b, n⟩ r = some A) := Lib.hid (by simp [opE, Hra.out])
    rw [E.out]
    simp only
    go_enter Try.func48, Try.ntmps48
    go_wp2
    go_quiet (fail)
    go_wp2
    go_ret
    exact ⟨rfl, nq, rfl⟩
  by_cases e3 : op = 3
  · subst e3
    have E : Hid (opE (sumE l) ⟨3, dst, a, b, n⟩ r = some (wrap64 (A + Bv))) := Lib.hid (by simp [opE, Hra.out, Hrb.out])
    rw [E.out]
    simp only
    go_enter Try.func48, Try.ntmps48
    go_wp2
    go_quiet (fail)
    go_wp2
    go_ret
    exact ⟨rfl, nq, rfl⟩
  by_cases e4 : op = 4
  · subst e4
    have E : Hid (opE (sumE l) ⟨4, dst, a, b, n⟩ r = some (wrap64 (A - Bv))) := Lib.hid (by simp [opE, Hra.out, Hrb.out])
    rw [E.out]
    simp only
    go_enter Try.func48, Try.ntmps48
    go_wp2
    go_quiet (fail)
    go_wp2
    go_ret
    exact ⟨rfl, nq, rfl⟩
  by_cases e5 : op = 5
  · subst e5
    have E : Hid (opE (sumE l) ⟨5, dst, a, b, n⟩ r = some (wrap64 (A * Bv))) := Lib.hid (by simp [opE, Hra.out, Hrb.out])
    rw [E.out]
    simp only
    go_enter Try.func48, Try.ntmps48
    go_wp2
    go_quiet (fail)
    go_wp2
    go_ret
    exact ⟨rfl, nq, rfl⟩
  by_cases e6 : op = 6
  · subst e6
    by_cases eB : Bv = 0
    · subst eB
      have E : Hid (opE (sumE l) ⟨6, dst, a, b, n⟩ r = none) := Lib.hid (by simp [opE, Hrb.out])
      rw [E.out]
      simp only
      go_enter Try.func48, Try.ntmps48
      go_wp2
      go_quiet (fail)
      go_wp2_with fail
      refine (quo_zero A _).mono ?_
      rintro e w1 ⟨rfl, rfl⟩
      simp only [failV]
      go_wp2
      exact ⟨rfl, rfl, nq, rfl⟩
    · have E : Hid (opE (sumE l) ⟨6, dst, a, b, n⟩ r = some (wrap64 (A.tdiv Bv))) := Lib.hid (by simp [opE, Hra.out, Hrb.out, eB])
      rw [E.out]
      simp only
      have HB := Lib.hid eB
      clear eB
      go_enter Try.func48, Try.ntmps48
      go_wp2
      go_quiet (fail)
      go_wp2_with fail
      refine (quo_some A Bv HB.out _).mono ?_
      rintro e w1 ⟨rfl, rfl⟩
      go_wp2
      go_ret
      exact ⟨rfl, nq, rfl⟩
  by_cases e7 : op = 7
  · subst e7
    by_cases hlt : A < Bv
    · have E : Hid (opE (sumE l) ⟨7, dst, a, b, n⟩ r = some 1) := Lib.hid (by simp [opE, Hra.out, Hrb.out]; omega)
      rw [E.out]
      simp only
      go_enter Try.func48, Try.ntmps48
      go_wp2
      go_quiet (fail)
      go_wp2_with fail
      refine (truth_any true _).mono ?_
      rintro e w1 ⟨rfl, rfl⟩
      go_wp2
      go_ret
      exact ⟨rfl, nq, rfl⟩
    · have hd : decide (A < Bv) = false := by simpa using hlt
      have E : Hid (opE (sumE l) ⟨7, dst, a, b, n⟩ r = some 0) := Lib.hid (by simp [opE, Hra.out, Hrb.out]; omega)
      rw [E.out]
      simp only
      go_enter Try.func48, Try.ntmps48
      go_wp2
      go_quiet (fail)
      go_wp2_with fail
      refine (truth_any false _).mono ?_
      rintro e w1 ⟨rfl, rfl⟩
      go_wp2
      go_ret
      exact ⟨rfl, nq, rfl⟩
  have f1 : ((op : Int) == 1) = false := by simp; omega
  have f2 : ((op : Int) == 2) = false := by simp; omega
  have f3 : ((op : Int) == 3) = false := by simp; omega
  have f4 : ((op : Int) == 4) = false := by simp; omega
  have f5 : ((op : Int) == 5) = false := by simp; omega
  have f6 : ((op : Int) == 6) = false := by simp; omega
  have f7 : ((op : Int) == 7) = false := by simp; omega
  have E : Hid (opE (sumE l) ⟨op, dst, a, b, n⟩ r = some (sumE l)) := Lib.hid (by simp [opE, e1, e2, e3, e4, e5, e6, e7])
  rw [E.out]
  simp only
  clear e1 e2 e3 e4 e5 e6 e7
  go_enter Try.func48, Try.ntmps48
  go_wp2
  go_quiet (fail)
  go_wp2_with fail
  refine (hN.out _).mono ?_
  rintro e w1 ⟨rfl, rfl⟩
  go_wp2
  go_ret
  exact ⟨rfl, nq, rfl⟩

end Go.Proofs.Ytedadjlmmnikaaa

/-
  package play: execute and repeat.
-/
namespace Go.Proofs.Ytedadjlmmnikaaa
open Go.RowKit
set_option linter.unusedVariables false

/-- How an execution ends. -/
def OutPost (o : Out) (g : Nat) (nv : Value) (w : World) (e : Ending) (w' : World) : Prop :=
  match o with
  | .ok b r => e = .returned (.bool b) ∧ MAt w' g r nv ∧ Fr (fun k => k = g) w w'
  | .bad en n => e = failV en n ∧ Fr (fun k => k = g) w w'

def ExecAt (d : Nat) : Prop := ∀ (B : Nat → Prop) (l : List Ins) (v : Value) (g : Nat) (r : Nat → Int) (nv : Value) (ns : List Int) (w : World), Well d l → (∀ k, B k → k ≠ g) → PSub B w v l → MAt w g r nv → NumsAt B w ns nv →
  Calls Try.prog 35 #[.pointer (some ⟨g, 0, none⟩), v] w (OutPost (runE (sumE ns) d l r) g nv w)

set_option maxRecDepth 100000 in
set_option maxHeartbeats 4000000 in
theorem repeat_any (d : Nat) (hd : ExecAt d) (B : Nat → Prop) (l : List Ins) (v : Value) (g : Nat) (r : Nat → Int) (nv : Value) (ns : List Int) (n : Int) (w : World) (hn : -32768 ≤ n ∧ n ≤ 32767) (hw : Well d l) (hB : ∀ k, B k → k ≠ g) (hp : PSub B w v l) (hm : MAt w g r nv) (hs : NumsAt B w ns nv) :
    Calls Try.prog 47 #[.pointer (some ⟨g, 0, none⟩), v, .int .i64 n] w (OutPost (repE (runE (sumE ns) d l) n.toNat r) g nv w) := by
  have HP := Lib.hid hp
  have HS := Lib.hid hs
  have HM := Lib.hid hm
  have HW := Lib.hid hw
  have HB := Lib.hid hB
  have HD := Lib.hid hd
  generalize hO : repE (runE (sumE ns) d l) n.toNat r = O
  have HO := Lib.hid hO
  clear hd hw hp hm hs hB hO
  go_enter Try.func47, Try.ntmps47
  go_wp2
  go_loopg [8] n.toNat (fun G u8 wr => ∃ (j : Nat) (r' : Nat → Int), j ≤ n.toNat ∧ G = n.toNat - j ∧ u8 = .int .i64 j ∧ Hid (O = repE (runE (sumE ns) d l) (n.toNat - j) r' ∧ MAt wr g r' nv ∧ Fr (fun k => k = g) w wr))
  case atStart => exact ⟨0, r, Nat.zero_le _, rfl, rfl, Lib.hid ⟨HO.out.symm, HM.out, Fr.refl _ _⟩⟩
  case round =>
    obtain ⟨j, r', hj, rfl, rfl, HI⟩ := hrel
    by_cases hlt : (j : Int) < n
    · have HC := Lib.hid (HD.out B l v g r' nv ns wr HW.out HB.out (HP.out.fr HI.out.2.2 HB.out) HI.out.2.1 (HS.out.fr HI.out.2.2 HB.out))
      have HN := Lib.hid (show O = match runE (sumE ns) d l r' with
          | .ok false r2 => repE (runE (sumE ns) d l) (n.toNat - (j + 1)) r2
          | .ok true r2 => .ok true r2
          | .bad e m => .bad e m by
        rw [HI.out.1, show n.toNat - j = n.toNat - (j + 1) + 1 by omega, repE]
        try rfl)
      cases ho : runE (sumE ns) d l r' with
      | bad e m =>
        rw [ho] at HC HN
        clear ho
        have HC2 : Hid (Calls Try.prog 35 #[.pointer (some ⟨g, 0, none⟩), v] wr fun e1 w1 => e1 = failV e m ∧ Fr (fun k => k = g) wr w1) := Lib.hid HC.out
        have HE := Lib.hid (show O = .bad e m from HN.out)
        clear HC HN
        go_wp2_with fail
        refine HC2.out.mono ?_
        rintro e1 w1 ⟨rfl, f1⟩
        simp only [failV]
        go_wp2
        rw [HE.out]
        exact ⟨rfl, rfl, HI.out.2.2.trans f1 (fun _ _ h => h)⟩
      | ok b r2 =>
        rw [ho] at HC HN
        clear ho
        have HC2 : Hid (Calls Try.prog 35 #[.pointer (some ⟨g, 0, none⟩), v] wr fun e1 w1 => e1 = .returned (.bool b) ∧ MAt w1 g r2 nv ∧ Fr (fun k => k = g) wr w1) := Lib.hid HC.out
        clear HC
        cases b with
        | true =>
          have HE := Lib.hid (show O = .ok true r2 from HN.out)
          clear HN
          go_wp2_with fail
          refine HC2.out.mono ?_
          rintro e1 w1 ⟨rfl, m1, f1⟩
          have M1 := Lib.hid m1
          clear m1
          go_wp2
          go_ret
          rw [HE.out]
          exact ⟨rfl, M1.out, HI.out.2.2.trans f1 (fun _ _ h => h)⟩
        | false =>
          have HE := Lib.hid (show O = repE (runE (sumE ns) d l) (n.toNat - (j + 1)) r2 from HN.out)
          clear HN
          go_wp2_with fail
          refine HC2.out.mono ?_
          rintro e1 w1 ⟨rfl, m1, f1⟩
          have M1 := Lib.hid m1
          clear m1
          go_wp2
          go_roundg (n.toNat - (j + 1))
          case measure => omega
          case rel => exact ⟨j + 1, r2, by omega, rfl, by go_num, Lib.hid ⟨HE.out, M1.out, HI.out.2.2.trans f1 (fun _ _ h => h)⟩⟩
    · have HE := Lib.hid (show O = .ok false r' by rw [HI.out.1, show n.toNat - j = 0 by omega, repE])
      go_wp2
      go_ret
      rw [HE.out]
      exact ⟨rfl, HI.out.2.1, HI.out.2.2⟩

end Go.Proofs.Ytedadjlmmnikaaa

/-
  package play: execute.
-/
namespace Go.Proofs.Ytedadjlmmnikaaa
open Go.RowKit
set_option linter.unusedVariables false
set_option linter.unusedSimpArgs false

theorem Well.loop {d : Nat} {l : List Ins} (h : Well d l) {i : Nat} {x : Ins} (hx : l[i]? = some x) (h9 : x.op = 9) : ∃ d', d = d' + 1 ∧ (i + 1 + x.b ≤ l.length ∧ 0 < x.b) ∧ Well d' ((l.drop (i + 1)).take x.b) := by
  cases d with
  | zero => exact absurd h9 (h i x hx).2.2.2.2.2
  | succ d => exact ⟨d, rfl, (h i x hx).2.2.2.2.2 h9⟩

theorem five_of {w : World} {b : Nat} {x0 x1 x2 x3 x4 : Value} {t : TypeId} (h : w.heap[b]? = some (.cells #[x0, x1, x2, x3, x4] t (0, 0))) :
    w.cell? ⟨b, 0, none⟩ = some x0 ∧ w.cell? ⟨b, 1, none⟩ = some x1 ∧ w.cell? ⟨b, 2, none⟩ = some x2 ∧ w.cell? ⟨b, 3, none⟩ = some x3 ∧ w.cell? ⟨b, 4, none⟩ = some x4 :=
  ⟨pcells_row h 0 _ rfl, pcells_row h 1 _ rfl, pcells_row h 2 _ rfl, pcells_row h 3 _ rfl, pcells_row h 4 _ rfl⟩

/-- A part of a part of a program. -/
theorem PSub.part {B : Nat → Prop} {w : World} {pg o vc j b : Nat} {l : List Ins} (h : PSub B w (.slice (some ⟨pg, o, none⟩) l.length vc) l) (hl : j + 1 + b ≤ l.length) :
    PSub B w (.slice (some ⟨pg, o + (j + 1) * 5, none⟩) b (vc - (j + 1))) ((l.drop (j + 1)).take b) := by
  obtain ⟨h0, ⟨rfl, _⟩ | ⟨g, o', cap, hB, e, hle, hc⟩⟩ := h
  · simp at hl
  · simp only [Value.slice.injEq, Option.some.injEq, Addr.mk.injEq] at e
    obtain ⟨⟨rfl, rfl, _⟩, _, rfl⟩ := e
    have hlen : ((l.drop (j + 1)).take b).length = b := by rw [List.length_take, List.length_drop]; omega
    refine ⟨by omega, .inr ⟨pg, o + (j + 1) * 5, vc - (j + 1), hB, by rw [hlen], by rw [hlen]; omega, fun i x hx => ?_⟩⟩
    rw [List.getElem?_take] at hx
    split at hx
    · rw [List.getElem?_drop] at hx
      obtain ⟨c0, c1, c2, c3, c4⟩ := hc _ x hx
      have e : o + (j + 1) * 5 + i * 5 = o + (j + 1 + i) * 5 := by omega
      rw [e]
      exact ⟨c0, c1, c2, c3, c4⟩
    · cases hx

theorem slice_prog (pg o n vc j b : Nat) (h : j + 1 + b ≤ vc) (hb : 0 < b) (w : World) :
    (Instr.slice 38 (.slice (some ⟨pg, o, none⟩) n vc) (some (.int .i64 ((j : Int) + 1))) (some (.int .i64 ((j : Int) + 1 + b))) none).run Try.prog w = .ok (.slice (some ⟨pg, o + (j + 1) * 5, none⟩) b (vc - (j + 1))) w := by
  have e1 : ((j : Int) + 1).toNat = j + 1 := by omega
  have e2 : ((j : Int) + 1 + b).toNat = j + 1 + b := by omega
  have h1 : (0 : Int) ≤ (j : Int) + 1 := by omega
  have h2 : (j : Int) + 1 ≤ (j : Int) + 1 + b := by omega
  have h3 : (j : Int) + 1 + b ≤ vc := by omega
  have h4 : ¬ vc = j + 1 := by omega
  simp [go_sem, Try.underlying38, Try.underlying84, e1, e2, h1, h2, h3, h4]

/-- In the region that executes one instruction: what holds of memory. -/
def ExS (w0 : World) (g : Nat) (r : Nat → Int) (nv : Value) : List Value → World → Prop
  | [], wx => Fr (fun _ => False) w0 wx
  | [_], wx => Fr (fun _ => False) w0 wx
  | _, wx => Fr (fun k => k = g) w0 wx ∧ MAt wx g r nv

theorem ExS.fr {w0 : World} {g : Nat} {r : Nat → Int} {nv : Value} {cvs : List Value} {wx : World} (h : ExS w0 g r nv cvs wx) : Fr (fun k => k = g) w0 wx := by
  match cvs, h with
  | [], h => exact h.mono (fun _ _ h => h.elim)
  | [_], h => exact h.mono (fun _ _ h => h.elim)
  | _ :: _ :: _, h => exact h.1

/-- .. one that fails. -/
def FaS (w0 : World) : List Value → World → Prop
  | [], wx => Fr (fun _ => False) w0 wx
  | _, _ => False

theorem FaS.fr {w0 : World} {cvs : List Value} {wx : World} {g : Nat} (h : FaS w0 cvs wx) : Fr (fun k => k = g) w0 wx := by
  match cvs, h with
  | [], h => exact h.mono (fun _ _ h => h.elim)
  | _ :: _, h => exact h.elim

/-- In the region that executes a loop. -/
def LoS (w0 : World) (g : Nat) (r : Nat → Int) (nv : Value) : List Value → World → Prop
  | [], wx => Fr (fun _ => False) w0 wx
  | _, wx => Fr (fun k => k = g) w0 wx ∧ MAt wx g r nv

theorem LoS.fr {w0 : World} {g : Nat} {r : Nat → Int} {nv : Value} {cvs : List Value} {wx : World} (h : LoS w0 g r nv cvs wx) : Fr (fun k => k = g) w0 wx := by
  match cvs, h with
  | [], h => exact h.mono (fun _ _ h => h.elim)
  | _ :: _, h => exact h.1

set_option maxRecDepth 100000 in
set_option maxHeartbeats 4000000 in
theorem exec_step (d : Nat) (hd : ∀ d', d = d' + 1 → ExecAt d') : ExecAt d := by
  intro B l v g r nv ns w hw hB hp hm hs
  have HP := Lib.hid hp
  have HS := Lib.hid hs
  have HM := Lib.hid hm
  have HW := Lib.hid hw
  have HB := Lib.hid hB
  have HD := Lib.hid hd
  rw [runE_steps]
  generalize hO : stepsE (repD (sumE ns) d) (sumE ns) l 0 r = O
  have HO := Lib.hid hO
  have hl100 := hp.1
  have hsh : ∃ a c, v = .slice a l.length c := by
    obtain ⟨_, ⟨rfl, a, c, rfl⟩ | ⟨g, o, cap, hB, rfl, hle, hc⟩⟩ := hp
    · exact ⟨a, c, rfl⟩
    · exact ⟨_, cap, rfl⟩
  obtain ⟨va, vc, rfl⟩ := hsh
  clear hd hw hp hm hs hB hO
  go_enter Try.func35, Try.ntmps35
  go_wp2
  go_loopg [5] l.length (fun G u5 wr => ∃ (j : Nat) (r' : Nat → Int), j ≤ 100000 ∧ G = l.length - j ∧ u5 = .int .i64 j ∧ Hid (O = stepsE (repD (sumE ns) d) (sumE ns) (l.drop j) 0 r' ∧ MAt wr g r' nv ∧ Fr (fun k => k = g) w wr))
  case atStart => exact ⟨0, r, Nat.zero_le _, rfl, rfl, Lib.hid ⟨HO.out.symm, HM.out, Fr.refl _ _⟩⟩
  case round =>
    obtain ⟨j, r', hj, rfl, rfl, HI⟩ := hrel
    by_cases hlt : j < l.length
    · obtain ⟨x, hx⟩ : ∃ x, l[j]? = some x := ⟨_, List.getElem?_eq_getElem hlt⟩
      obtain ⟨_, ⟨rfl, _⟩ | ⟨pg, o, cap, hBg, e, hle, hc⟩⟩ := HP.out
      · simp at hlt
      simp only [Value.slice.injEq] at e
      obtain ⟨rfl, _, rfl⟩ := e
      have hgp : pg ≠ g := HB.out _ hBg
      obtain ⟨c0, c1, c2, c3, c4⟩ := hc j x hx
      have hpw : pg < w.heap.size := World.block_lt_of_cell? w _ c0
      obtain ⟨hf, hdst, ha, hbn, h8n⟩ := HW.out.one hx
      have c0 : wr.cell? ⟨pg, o + j * 5, none⟩ = some (.int .u8 x.op) := by rw [HI.out.2.2.cell hpw hgp]; exact c0
      have c1 : wr.cell? ⟨pg, o + j * 5 + 1, none⟩ = some (.int .u8 x.dst) := by rw [HI.out.2.2.cell hpw hgp]; exact c1
      have c2 : wr.cell? ⟨pg, o + j * 5 + 2, none⟩ = some (.int .u8 x.a) := by rw [HI.out.2.2.cell hpw hgp]; exact c2
      have c3 : wr.cell? ⟨pg, o + j * 5 + 3, none⟩ = some (.int .u8 x.b) := by rw [HI.out.2.2.cell hpw hgp]; exact c3
      have c4 : wr.cell? ⟨pg, o + j * 5 + 4, none⟩ = some (.int .i16 x.n) := by rw [HI.out.2.2.cell hpw hgp]; exact c4
      have hpr : pg < wr.heap.size := World.block_lt_of_cell? wr _ c0
      have HX := Lib.hid hx
      have HA := Lib.hid (steps_at (repD (sumE ns) d) (sumE ns) l j x r' hx)
      have hgr : g < wr.heap.size := lt_of_block HI.out.2.1
      have hgn : g ≠ wr.heap.size := by omega
      have hra := HI.out.2.1.cell x.a ha
      have hlo := hf.lo
      have hhi := hf.hi
      have Hhf := Lib.hid hf
      have hbx := hf.b
      have Hbn := Lib.hid hbn
      have H8n := Lib.hid h8n
      have Hle := Lib.hid hle
      clear hx hc hBg hle hf hbn h8n
      obtain ⟨op, dst, a, b, n⟩ := x
      simp only at *
      generalize hRa : r' a = A at hra
      have HRa := Lib.hid hRa
      clear hRa
      by_cases e0 : op = 0
      · subst e0
        have HE := Lib.hid (show O = .ok true r' by rw [HI.out.1, HA.out, if_pos rfl])
        go_wp2
        go_ret
        rw [HE.out]
        exact ⟨rfl, HI.out.2.1.fr ((Fr.refl (fun _ => False) _).alloc _) (fun h => h), HI.out.2.2.alloc _⟩
      by_cases e8 : op = 8
      · subst e8
        have hn0 : 0 ≤ n := H8n.out rfl
        by_cases hA : A = 0
        · subst hA
          have HE := Lib.hid (show O = stepsE (repD (sumE ns) d) (sumE ns) (l.drop (j + 1 + n.toNat)) 0 r' by
            rw [HI.out.1, HA.out, if_neg (by omega), if_pos rfl, HRa.out, if_pos rfl])
          go_wp2
          go_quiet (fail)
          go_wp2
          go_roundg (l.length - (j + 1 + n.toNat))
          case measure => omega
          case rel => exact ⟨j + 1 + n.toNat, r', by omega, rfl, by go_num, Lib.hid ⟨HE.out, HI.out.2.1.fr (S := fun _ => False) (((Fr.refl _ _).alloc _).pdrewN _) (fun h => h), (HI.out.2.2.alloc _).pdrewN _⟩⟩
        · have HE := Lib.hid (show O = stepsE (repD (sumE ns) d) (sumE ns) (l.drop (j + 1)) 0 r' by
            rw [HI.out.1, HA.out, if_neg (by omega), if_pos rfl, HRa.out, if_neg hA])
          have hA' : (A == 0) = false := by simpa using hA
          clear hA
          go_wp2
          go_quiet (fail)
          go_wp2
          go_roundg (l.length - (j + 1))
          case measure => omega
          case rel => exact ⟨j + 1, r', by omega, rfl, by go_num, Lib.hid ⟨HE.out, HI.out.2.1.fr (S := fun _ => False) (((Fr.refl _ _).alloc _).pdrewN _) (fun h => h), (HI.out.2.2.alloc _).pdrewN _⟩⟩
      by_cases e9 : op = 9
      · subst e9
        obtain ⟨d', rfl, ⟨hend, hb0⟩, hwell⟩ := HW.out.loop HX.out rfl
        simp only at hend hwell hb0
        have hjv : j + 1 + b ≤ vc := by have := Hle.out; omega
        obtain ⟨w0, hw0⟩ : ∃ w0, w0 = wr.alloc (.cells #[.int .u8 9, .int .u8 dst, .int .u8 a, .int .u8 b, .int .i16 n] 84) := ⟨_, rfl⟩
        have F0 : Hid (Fr (fun _ => False) wr w0 ∧ w0.heap[wr.heap.size]? = some (.cells #[.int .u8 9, .int .u8 dst, .int .u8 a, .int .u8 b, .int .i16 n] 84 (0, 0))) := Lib.hid (by rw [hw0]; exact ⟨(Fr.refl _ _).alloc _, heap_alloc_new _ _⟩)
        have HC := Lib.hid (fun wx (f : Fr (fun _ => False) w0 wx) => repeat_any d' (HD.out d' rfl) B ((l.drop (j + 1)).take b) (.slice (some ⟨pg, o + (j + 1) * 5, none⟩) b (vc - (j + 1))) g r' nv ns n wx ⟨hlo, hhi⟩ hwell HB.out
          ((HP.out.part hend).fr ((HI.out.2.2.trans F0.out.1 (fun _ _ h => h.elim)).trans f (fun _ _ h => h.elim)) HB.out) (HI.out.2.1.fr (F0.out.1.trans f (fun _ _ h => h)) (fun h => h)) (HS.out.fr ((HI.out.2.2.trans F0.out.1 (fun _ _ h => h.elim)).trans f (fun _ _ h => h.elim)) HB.out))
        have HQ := Lib.hid (fun (wx : World) (f : Fr (fun k => k = g) w0 wx) => pbox_kept F0.out.2 f (fun h => hgn h.symm))
        have HN := Lib.hid (show O = match repE (runE (sumE ns) d' ((l.drop (j + 1)).take b)) n.toNat r' with
            | .ok true r2 => .ok true r2
            | .ok false r2 => stepsE (repD (sumE ns) (d' + 1)) (sumE ns) (l.drop (j + 1 + b)) 0 r2
            | .bad e m => .bad e m by
          rw [HI.out.1, HA.out, if_neg (by omega), if_neg (by omega), if_pos rfl]
          try rfl)
        generalize hbx : wr.heap.size = bx at *
        have Hbx := Lib.hid hbx
        have hvc : (j : Int) + 1 + b ≤ vc := by omega
        have hjl : (j : Int) ≤ 100 := by omega
        have Hend := Lib.hid hend
        clear hbx hwell hend
        generalize hR : repE (runE (sumE ns) d' ((l.drop (j + 1)).take b)) n.toNat r' = R at *
        have HR := Lib.hid hR
        clear hR
        cases R with
        | bad e m =>
          have HE := Lib.hid (show O = .bad e m from HN.out)
          have HC2 : Hid (∀ wx, Fr (fun _ => False) w0 wx → Calls Try.prog 47 #[.pointer (some ⟨g, 0, none⟩), .slice (some ⟨pg, o + (j + 1) * 5, none⟩) b (vc - (j + 1)), .int .i64 n] wx fun e1 w1 => e1 = failV e m ∧ Fr (fun k => k = g) wx w1) := Lib.hid (fun wx f => HC.out wx f)
          clear HC HN
          go_wp2
          rw [← hw0, Hbx.out]
          clear hw0
          have sl := slice_prog pg o l.length vc j b hjv hb0
          have B1 : -9223372036854775808 ≤ (j : Int) + 1 ∧ (j : Int) + 1 ≤ 9223372036854775807 := by omega
          have B2 : -9223372036854775808 ≤ (j : Int) + 1 + b ∧ (j : Int) + 1 + b ≤ 9223372036854775807 := by omega
          have B3 : -9223372036854775808 ≤ n ∧ n ≤ 9223372036854775807 := by omega
          have d1 : IntKind.i64.wrap ((j : Int) + 1) = (j : Int) + 1 := IntWalk.i64_in _ B1
          have d2 : IntKind.i64.wrap ((j : Int) + 1 + b) = (j : Int) + 1 + b := IntWalk.i64_in _ B2
          have d3 : IntKind.i64.wrap n = n := IntWalk.i64_in _ B3
          have d4 : wrap64 ((j : Int) + 1) = (j : Int) + 1 := IntWalk.wrap64_in _ B1
          have d5 : wrap64 ((j : Int) + 1 + b) = (j : Int) + 1 + b := IntWalk.wrap64_in _ B2
          refine wp_region_chain (by kernel_rfl) [some 51, some 52, some 53, some 54, some 55, some 56, some 57, some 58, some 59, some 60, some 61, some 62, some 63] rfl (by decide) (by intro d hd; simp at hd ⊢; omega)
            [12] (FaS w0)
            [.free (.pointer (some ⟨g, 0, none⟩)), .free (.slice (some ⟨pg, o, none⟩) l.length vc), .free (.int .i64 j), .free (.int .i64 (j + 1)), .free (.int .i64 j), .free (.int .i64 (j + 1)), .free (.int .i64 b), .free (.int .i64 (j + 1 + b)), .free (.slice (some ⟨pg, o + (j + 1) * 5, none⟩) b (vc - (j + 1))), .free (.pointer (some ⟨bx, 4, none⟩)), .free (.int .i16 n), .free (.int .i64 n), .link none]
            (by kernel_rfl) (by kernel_rfl) ?h0 ?step ?fin
          case h0 => exact (Fr.refl _ _).drew
          case step =>
            intro vals
            simp only [frOfU, fillU, List.setIfInBounds_toArray, List.set_cons_succ, List.set_cons_zero]
            repeat' (first | exact AllOps.nil | refine AllOps.cons ?_ ?_)
            all_goals
              intro cvs wx hS he hu hlim K hK
              clear hu
              simp only [Act.put, List.setIfInBounds_toArray, List.set_cons_succ, List.set_cons_zero, List.getD_cons_zero, List.getD_cons_succ] at hK
              simp only [List.mem_cons, List.not_mem_nil, or_false, forall_eq_or_imp, forall_eq, Region.binds, forall_const, false_imp_iff, List.getD_cons_zero, List.getD_cons_succ, OpSort.val, Option.some.injEq, forall_eq', reduceCtorEq, implies_true, true_and, and_true] at he
              obtain ⟨k0, k1, k2, k3, k4⟩ := five_of (HQ.out wx hS.fr)
              have HSX := Lib.hid hS
              clear hS
            all_goals first | (clear hlim; (try simp only [he] at hK ⊢); go_simp; exact hK) | skip
            · obtain rfl := hlim (0 : Nat) rfl
              have h1 : Fr (fun _ => False) w0 wx := HSX.out
              have H1 := Lib.hid h1
              clear h1 hlim HSX hK
              simp only [he]
              go_simp
              go_at_call 47
              refine (HC2.out wx H1.out).mono ?_
              rintro e1 wa ⟨rfl, f1⟩
              simp only [failV]
              rw [HE.out]
              exact ⟨rfl, rfl, ((HI.out.2.2.trans F0.out.1 (fun _ _ h => h.elim)).trans H1.out (fun _ _ h => h.elim)).trans f1 (fun _ _ h => h)⟩
          case fin =>
            intro vals w' hS hV
            exact hS.elim
        | ok bb r2 =>
          have HC2 : Hid (∀ wx, Fr (fun _ => False) w0 wx → Calls Try.prog 47 #[.pointer (some ⟨g, 0, none⟩), .slice (some ⟨pg, o + (j + 1) * 5, none⟩) b (vc - (j + 1)), .int .i64 n] wx fun e1 w1 => e1 = .returned (.bool bb) ∧ MAt w1 g r2 nv ∧ Fr (fun k => k = g) wx w1) := Lib.hid (fun wx f => HC.out wx f)
          clear HC
          go_wp2
          rw [← hw0, Hbx.out]
          clear hw0
          have sl := slice_prog pg o l.length vc j b hjv hb0
          have B1 : -9223372036854775808 ≤ (j : Int) + 1 ∧ (j : Int) + 1 ≤ 9223372036854775807 := by omega
          have B2 : -9223372036854775808 ≤ (j : Int) + 1 + b ∧ (j : Int) + 1 + b ≤ 9223372036854775807 := by omega
          have B3 : -9223372036854775808 ≤ n ∧ n ≤ 9223372036854775807 := by omega
          have d1 : IntKind.i64.wrap ((j : Int) + 1) = (j : Int) + 1 := IntWalk.i64_in _ B1
          have d2 : IntKind.i64.wrap ((j : Int) + 1 + b) = (j : Int) + 1 + b := IntWalk.i64_in _ B2
          have d3 : IntKind.i64.wrap n = n := IntWalk.i64_in _ B3
          have d4 : wrap64 ((j : Int) + 1) = (j : Int) + 1 := IntWalk.wrap64_in _ B1
          have d5 : wrap64 ((j : Int) + 1 + b) = (j : Int) + 1 + b := IntWalk.wrap64_in _ B2
          refine wp_region_chain (by kernel_rfl) [some 51, some 52, some 53, some 54, some 55, some 56, some 57, some 58, some 59, some 60, some 61, some 62, some 63] rfl (by decide) (by intro d hd; simp at hd ⊢; omega)
            [12] (LoS w0 g r2 nv)
            [.free (.pointer (some ⟨g, 0, none⟩)), .free (.slice (some ⟨pg, o, none⟩) l.length vc), .free (.int .i64 j), .free (.int .i64 (j + 1)), .free (.int .i64 j), .free (.int .i64 (j + 1)), .free (.int .i64 b), .free (.int .i64 (j + 1 + b)), .free (.slice (some ⟨pg, o + (j + 1) * 5, none⟩) b (vc - (j + 1))), .free (.pointer (some ⟨bx, 4, none⟩)), .free (.int .i16 n), .free (.int .i64 n), .link (some (.bool bb))]
            (by kernel_rfl) (by kernel_rfl) ?h0 ?step ?fin
          case h0 => exact (Fr.refl _ _).drew
          case step =>
            intro vals
            simp only [frOfU, fillU, List.setIfInBounds_toArray, List.set_cons_succ, List.set_cons_zero]
            repeat' (first | exact AllOps.nil | refine AllOps.cons ?_ ?_)
            all_goals
              intro cvs wx hS he hu hlim K hK
              clear hu
              simp only [Act.put, List.setIfInBounds_toArray, List.set_cons_succ, List.set_cons_zero, List.getD_cons_zero, List.getD_cons_succ] at hK
              simp only [List.mem_cons, List.not_mem_nil, or_false, forall_eq_or_imp, forall_eq, Region.binds, forall_const, false_imp_iff, List.getD_cons_zero, List.getD_cons_succ, OpSort.val, Option.some.injEq, forall_eq', reduceCtorEq, implies_true, true_and, and_true] at he
              obtain ⟨k0, k1, k2, k3, k4⟩ := five_of (HQ.out wx hS.fr)
              have HSX := Lib.hid hS
              clear hS
            all_goals first | (clear hlim; (try simp only [he] at hK ⊢); go_simp; exact hK) | skip
            · obtain rfl := hlim (0 : Nat) rfl
              have h1 : Fr (fun _ => False) w0 wx := HSX.out
              have H1 := Lib.hid h1
              clear h1 hlim HSX
              simp only [he] at hK ⊢
              go_simp
              go_at_call 47
              refine (HC2.out wx H1.out).mono ?_
              rintro e1 wa ⟨rfl, m1, f1⟩
              exact hK _ _ (fun _ h => by cases h; rfl) ⟨(H1.out.mono (fun _ _ h => h.elim)).trans f1 (fun _ _ h => h), m1⟩
          case fin =>
            intro vals w' hS hV
            have h12 : vals 12 = .bool bb := hV 12 _ (by decide) rfl
            simp only [List.map_cons, List.map_nil] at hS
            have HF := Lib.hid hS
            clear hS hV d1 d2 d3 d4 d5
            simp only [frOfU, fillU, List.setIfInBounds_toArray, List.set_cons_succ, List.set_cons_zero, h12]
            clear h12
            cases bb with
            | true =>
              have HE := Lib.hid (show O = .ok true r2 from HN.out)
              clear HN
              go_wp2
              go_ret
              rw [HE.out]
              exact ⟨rfl, HF.out.2, (HI.out.2.2.trans F0.out.1 (fun _ _ h => h.elim)).trans HF.out.1 (fun _ _ h => h)⟩
            | false =>
              have HE := Lib.hid (show O = stepsE (repD (sumE ns) (d' + 1)) (sumE ns) (l.drop (j + 1 + b)) 0 r2 from HN.out)
              clear HN
              go_wp2
              go_roundg (l.length - (j + 1 + b))
              case measure => omega
              case rel => exact ⟨j + 1 + b, r2, by omega, rfl, by go_num, Lib.hid ⟨HE.out, HF.out.2, (HI.out.2.2.trans F0.out.1 (fun _ _ h => h.elim)).trans HF.out.1 (fun _ _ h => h)⟩⟩
      by_cases e10 : op = 10
      · subst e10
        by_cases hA : A = 0
        · subst hA
          have HE := Lib.hid (show O = stepsE (repD (sumE ns) d) (sumE ns) (l.drop (j + 1)) 0 r' by
            rw [HI.out.1, HA.out, if_neg (by omega), if_neg (by omega), if_neg (by omega), if_pos rfl, HRa.out, if_pos rfl])
          go_wp2
          go_quiet (fail)
          go_wp2
          go_roundg (l.length - (j + 1))
          case measure => omega
          case rel => exact ⟨j + 1, r', by omega, rfl, by go_num, Lib.hid ⟨HE.out, HI.out.2.1.fr (S := fun _ => False) (((Fr.refl _ _).alloc _).pdrewN _) (fun h => h), (HI.out.2.2.alloc _).pdrewN _⟩⟩
        · have HE := Lib.hid (show O = .bad 16 n by
            rw [HI.out.1, HA.out, if_neg (by omega), if_neg (by omega), if_neg (by omega), if_pos rfl, HRa.out, if_neg hA])
          have hA' : (A == 0) = false := by simpa using hA
          have hA2 : (A != 0) = true := by simpa using hA
          clear hA
          go_wp2
          go_quiet (fail)
          go_wp2
          rw [HE.out]
          exact ⟨rfl, rfl, (HI.out.2.2.alloc _).pdrewN _⟩
      have n0 : ((op : Int) == 0) = false := by simp; omega
      have n8 : ((op : Int) == 8) = false := by simp; omega
      have n9 : ((op : Int) == 9) = false := by simp; omega
      have n10 : ((op : Int) == 10) = false := by simp; omega
      obtain ⟨w0, hw0⟩ : ∃ w0, w0 = wr.alloc (insO ⟨op, dst, a, b, n⟩) := ⟨_, rfl⟩
      have F0 : Hid (Fr (fun _ => False) wr w0 ∧ w0.heap[wr.heap.size]? = some (.cells #[.int .u8 op, .int .u8 dst, .int .u8 a, .int .u8 b, .int .i16 n] 84 (0, 0))) := Lib.hid (by rw [hw0]; exact ⟨(Fr.refl _ _).alloc _, heap_alloc_new _ _⟩)
      have HC := Lib.hid (fun wx (f : Fr (fun _ => False) w0 wx) => result_any B ⟨op, dst, a, b, n⟩ g r' nv ns wx Hhf.out ha (Hbn.out e9) e0 (HI.out.2.1.fr (F0.out.1.trans f (fun _ _ h => h)) (fun h => h)) (HS.out.fr ((HI.out.2.2.trans F0.out.1 (fun _ _ h => h.elim)).trans f (fun _ _ h => h.elim)) HB.out))
      have HQ := Lib.hid (fun (wx : World) (f : Fr (fun k => k = g) w0 wx) => pbox_kept F0.out.2 f (fun h => hgn h.symm))
      generalize hbx : wr.heap.size = bx at *
      have Hbx := Lib.hid hbx
      clear hbx
      simp only [insO] at hw0
      have di : (dst : Int) < 16 := by omega
      have di0 : ¬ (16 : Nat) ≤ dst := by omega
      cases ho : opE (sumE ns) ⟨op, dst, a, b, n⟩ r' with
      | none =>
        have HE := Lib.hid (show O = .bad 14 0 by
          rw [HI.out.1, HA.out, if_neg e0, if_neg e8, if_neg e9, if_neg e10, ho])
        rw [ho] at HC
        clear e0 e8 e9 e10 ho
        go_wp2
        rw [← hw0, Hbx.out]
        clear hw0
        refine wp_region_chain (by kernel_rfl) [some 20, some 21, some 22, some 23, some 24, some 25, some 26, some 27, some 28, none] rfl (by decide) (by intro d hd; simp at hd ⊢; omega)
          [5, 9] (FaS w0)
          [.free (.pointer (some ⟨g, 0, none⟩)), .free (.pointer (some ⟨bx, 1, none⟩)), .free (.int .u8 dst), .free (.pointer (some ⟨g, 0, none⟩)), .free (insV ⟨op, dst, a, b, n⟩), .link none, .free (.pointer (some ⟨g, 0, none⟩)), .free (.pointer (some ⟨g, 0, none⟩)), .free (.pointer (some ⟨g, dst, none⟩)), .link none]
          (by kernel_rfl) (by kernel_rfl) ?h0 ?step ?fin
        case h0 => exact (Fr.refl _ _).drew
        case step =>
          intro vals
          simp only [frOfU, fillU, List.setIfInBounds_toArray, List.set_cons_succ, List.set_cons_zero]
          repeat' (first | exact AllOps.nil | refine AllOps.cons ?_ ?_)
          all_goals
            intro cvs wx hS he hu hlim K hK
            clear hu
            simp only [Act.put, List.setIfInBounds_toArray, List.set_cons_succ, List.set_cons_zero, List.getD_cons_zero, List.getD_cons_succ, insV] at hK
            simp only [List.mem_cons, List.not_mem_nil, or_false, forall_eq_or_imp, forall_eq, Region.binds, forall_const, false_imp_iff, List.getD_cons_zero, List.getD_cons_succ, OpSort.val, Option.some.injEq, forall_eq', reduceCtorEq, implies_true, true_and, and_true, insV] at he
            obtain ⟨k0, k1, k2, k3, k4⟩ := five_of (HQ.out wx hS.fr)
            have HSX := Lib.hid hS
            clear hS
          all_goals first | (clear hlim; (try simp only [he] at hK ⊢); go_simp; exact hK) | skip
          · obtain rfl := hlim (0 : Nat) rfl
            have h1 : Fr (fun _ => False) w0 wx := HSX.out
            have H1 := Lib.hid h1
            clear h1 hlim HSX hK
            simp only [he]
            go_simp
            go_at_call 48
            refine (HC.out wx H1.out).mono ?_
            rintro e1 wa ⟨rfl, nq, rfl⟩
            simp only [failV]
            rw [HE.out]
            exact ⟨rfl, rfl, (((HI.out.2.2.trans F0.out.1 (fun _ _ h => h.elim)).trans H1.out (fun _ _ h => h.elim)).alloc _).pdrewN _⟩
          · obtain rfl := hlim (1 : Nat) rfl
            exact HSX.out.elim
        case fin =>
          intro vals w' hS hV
          exact hS.elim
      | some y =>
        have HE := Lib.hid (show O = stepsE (repD (sumE ns) d) (sumE ns) (l.drop (j + 1)) 0 (upd r' dst y) by
          rw [HI.out.1, HA.out, if_neg e0, if_neg e8, if_neg e9, if_neg e10, ho])
        rw [ho] at HC
        clear e0 e8 e9 e10 ho
        go_wp2
        rw [← hw0, Hbx.out]
        clear hw0
        refine wp_region_chain (by kernel_rfl) [some 20, some 21, some 22, some 23, some 24, some 25, some 26, some 27, some 28, none] rfl (by decide) (by intro d hd; simp at hd ⊢; omega)
          [5, 9] (ExS w0 g (upd r' dst y) nv)
          [.free (.pointer (some ⟨g, 0, none⟩)), .free (.pointer (some ⟨bx, 1, none⟩)), .free (.int .u8 dst), .free (.pointer (some ⟨g, 0, none⟩)), .free (insV ⟨op, dst, a, b, n⟩), .link (some (.int .i64 y)), .free (.pointer (some ⟨g, 0, none⟩)), .free (.pointer (some ⟨g, 0, none⟩)), .free (.pointer (some ⟨g, dst, none⟩)), .link none]
          (by kernel_rfl) (by kernel_rfl) ?h0 ?step ?fin
        case h0 => exact (Fr.refl _ _).drew
        case step =>
          intro vals
          simp only [frOfU, fillU, List.setIfInBounds_toArray, List.set_cons_succ, List.set_cons_zero]
          repeat' (first | exact AllOps.nil | refine AllOps.cons ?_ ?_)
          all_goals
            intro cvs wx hS he hu hlim K hK
            clear hu
            simp only [Act.put, List.setIfInBounds_toArray, List.set_cons_succ, List.set_cons_zero, List.getD_cons_zero, List.getD_cons_succ, insV] at hK
            simp only [List.mem_cons, List.not_mem_nil, or_false, forall_eq_or_imp, forall_eq, Region.binds, forall_const, false_imp_iff, List.getD_cons_zero, List.getD_cons_succ, OpSort.val, Option.some.injEq, forall_eq', reduceCtorEq, implies_true, true_and, and_true, insV] at he
            obtain ⟨k0, k1, k2, k3, k4⟩ := five_of (HQ.out wx hS.fr)
            have HSX := Lib.hid hS
            clear hS
          all_goals first | (clear hlim; (try simp only [he] at hK ⊢); go_simp; exact hK) | skip
          · obtain rfl := hlim (0 : Nat) rfl
            have h1 : Fr (fun _ => False) w0 wx := HSX.out
            have H1 := Lib.hid h1
            clear h1 hlim HSX
            simp only [he] at hK ⊢
            go_simp
            go_at_call 48
            refine (HC.out wx H1.out).mono ?_
            rintro e1 wa ⟨rfl, nq, rfl⟩
            exact hK _ _ (fun _ h => by cases h; rfl) ((H1.out.alloc _).pdrewN _)
          · obtain rfl := hlim (1 : Nat) rfl
            have h1 : Fr (fun _ => False) w0 wx := HSX.out
            have M : MAt wx g r' nv := HI.out.2.1.fr (F0.out.1.trans h1 (fun _ _ h => h)) (fun h => h)
            have M1 := M.cell dst hdst
            have M2 := M.frozen dst
            have H1 := Lib.hid (And.intro h1 M)
            clear h1 M hlim HSX
            simp only [he] at hK ⊢
            go_simp
            exact hK undef _ (fun _ h => by cases h) ⟨Fr.setCell (S := fun k => k = g) (p := ⟨g, dst, none⟩) (H1.out.1.mono (fun _ _ h => h.elim)) (fun _ => rfl) _, H1.out.2.set dst hdst y⟩
        case fin =>
          intro vals w' hS hV
          clear hV
          simp only [List.map_cons, List.map_nil] at hS
          have HF := Lib.hid hS
          clear hS
          simp only [frOfU, fillU, List.setIfInBounds_toArray, List.set_cons_succ, List.set_cons_zero]
          go_wp2
          go_roundg (l.length - (j + 1))
          case measure => omega
          case rel => exact ⟨j + 1, upd r' dst y, by omega, rfl, by go_num, Lib.hid ⟨HE.out, HF.out.2, (HI.out.2.2.trans F0.out.1 (fun _ _ h => h.elim)).trans HF.out.1 (fun _ _ h => h)⟩⟩
    · have HE := Lib.hid (show O = .ok false r' by rw [HI.out.1, List.drop_eq_nil_of_le (by omega)]; rfl)
      go_wp2
      go_ret
      rw [HE.out]
      exact ⟨rfl, HI.out.2.1, HI.out.2.2⟩

theorem exec_any (d : Nat) : ExecAt d := by
  induction d with
  | zero => exact exec_step 0 (fun d' h => by omega)
  | succ d ih => exact exec_step (d + 1) (fun d' h => by obtain rfl : d' = d := by omega
                                                         exact ih)

end Go.Proofs.Ytedadjlmmnikaaa
