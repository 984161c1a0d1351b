/-
  package prog, pure: instructions as plain data; what Check and Fuel answer; two programs one behind the other.
-/
namespace Go.Proofs.Ytjifeopiaghmbaa

structure Ins where
  op : Nat
  dst : Nat
  a : Nat
  b : Nat
  n : Int

/-- Its numbers fit their kinds. -/
structure Ins.Fits (x : Ins) : Prop where
  op : x.op ≤ 255
  dst : x.dst ≤ 255
  a : x.a ≤ 255
  b : x.b ≤ 255
  lo : -32768 ≤ x.n
  hi : x.n ≤ 32767

/-- What a Loop adds. -/
def Ins.turns (x : Ins) : Int := if x.op = 9 then (x.b : Int) * (max x.n 1 - 1) else 0

def fuelE (l : List Ins) : Int := l.length + (l.map Ins.turns).sum

/-- Is i in the body of the Loop at j, and what is behind it? -/
def bodyAt (l : List Ins) (i j : Nat) : Option Nat :=
  match l[j]? with
  | some x => if x.op = 9 ∧ i < j + 1 + x.b then some (j + 1 + x.b) else none
  | none => none

def bodyE (l : List Ins) (i : Nat) : Option Nat := (List.range i).findSome? (bodyAt l i)

def regsE (x : Ins) : Bool := decide (x.dst < 16) && (decide (x.a < 16) && (decide (x.op = 9) || decide (x.b < 16)))

def loopE (l : List Ins) (i : Nat) (x : Ins) : Bool :=
  !(bodyE l i).isSome && (decide (0 < x.b) && (decide (i + x.b < l.length) && (decide (1 ≤ x.n) && decide (x.n ≤ 8))))

def skipE (l : List Ins) (i : Nat) (x : Ins) : Bool :=
  if x.n < 1 ∨ (l.length : Int) < i + 1 + x.n then false
  else match bodyE l i with
    | some e => decide ((i : Int) + 1 + x.n ≤ e)
    | none => !(bodyE l (i + 1 + x.n.toNat)).isSome

def insE (l : List Ins) (i : Nat) (x : Ins) : Nat :=
  if 12 ≤ x.op then 5
  else if regsE x = false then 2
  else if (x.op = 9 ∧ loopE l i x = false) ∨ (x.op = 8 ∧ skipE l i x = false) then 4
  else if x.op = 10 ∧ x.n < 0 then 2 else 0

/-- The first error of an instruction from place i on. -/
def firstE (l : List Ins) : Nat → List Ins → Nat
  | _, [] => 0
  | i, x :: r => if insE l i x ≠ 0 then insE l i x else firstE l (i + 1) r

def checkE (l : List Ins) : Nat :=
  if 24 < l.length then 7
  else if firstE l 0 l ≠ 0 then firstE l 0 l
  else if 200 < fuelE l then 6 else 0

theorem findSome_range {f : Nat → Option Nat} : ∀ (n j : Nat) (e : Nat), j < n → (∀ k, k < j → f k = none) → f j = some e → (List.range n).findSome? f = some e := by
  intro n
  induction n with
  | zero => intro j e h; omega
  | succ n ih =>
    intro j e hj hk hf
    rw [List.range_succ, List.findSome?_append]
    by_cases h : j < n
    · rw [ih j e h hk hf]; rfl
    · obtain rfl : j = n := by omega
      have : (List.range j).findSome? f = none := by
        rw [List.findSome?_eq_none_iff]
        intro x hx
        exact hk x (List.mem_range.1 hx)
      rw [this]
      simp [hf]

theorem findSome_none {f : Nat → Option Nat} (n : Nat) (hk : ∀ k, k < n → f k = none) : (List.range n).findSome? f = none := by
  rw [List.findSome?_eq_none_iff]
  intro x hx
  exact hk x (List.mem_range.1 hx)

theorem findSome_congr {f g : Nat → Option Nat} (n : Nat) (h : ∀ k, k < n → f k = g k) : (List.range n).findSome? f = (List.range n).findSome? g := by
  induction n with
  | zero => rfl
  | succ n ih =>
    rw [List.range_succ, List.findSome?_append, List.findSome?_append, ih (fun k hk => h k (by omega))]
    simp [h n (by omega)]

theorem body_lt {l : List Ins} {i e : Nat} (h : bodyE l i = some e) : i < e := by
  unfold bodyE at h
  obtain ⟨j, _, hj⟩ := List.exists_of_findSome?_eq_some h
  unfold bodyAt at hj
  split at hj
  · split at hj
    · cases hj; omega
    · cases hj
  · cases hj

theorem firstE_zero (l : List Ins) : ∀ (r : List Ins) (i : Nat), firstE l i r = 0 ↔ ∀ k x, r[k]? = some x → insE l (i + k) x = 0
  | [], i => by simp [firstE]
  | x :: r, i => by
    have ih := firstE_zero l r (i + 1)
    unfold firstE
    by_cases h : insE l i x = 0
    · rw [if_neg (by simpa using h), ih]
      constructor
      · intro g k y hy
        cases k with
        | zero => simp at hy; subst hy; exact h
        | succ k => have := g k y (by simpa using hy); rw [show i + (k + 1) = i + 1 + k by omega]; exact this
      · intro g k y hy
        have := g (k + 1) y (by simpa using hy)
        rw [show i + (k + 1) = i + 1 + k by omega] at this
        exact this
    · rw [if_pos h]
      constructor
      · intro g; exact absurd g h
      · intro g; exact absurd (g 0 x rfl) h

theorem checkE_zero (l : List Ins) : checkE l = 0 ↔ l.length ≤ 24 ∧ (∀ i x, l[i]? = some x → insE l i x = 0) ∧ fuelE l ≤ 200 := by
  have h := firstE_zero l l 0
  simp only [Nat.zero_add] at h
  unfold checkE
  rw [← h]
  split
  · constructor
    · intro g; cases g
    · intro g; omega
  · split
    · rename_i h1 h2
      constructor
      · intro g; exact absurd g h2
      · intro g; exact absurd g.2.1 h2
    · rename_i h1 h2
      split
      · constructor
        · intro g; cases g
        · intro g; omega
      · constructor
        · intro _; exact ⟨by omega, by simpa using h2, by omega⟩
        · intro _; rfl

/-- Where no instruction has an error of its own. -/
theorem checkE_good (l : List Ins) (hl : l.length ≤ 24) (h : ∀ i x, l[i]? = some x → insE l i x = 0) : checkE l = if 200 < fuelE l then 6 else 0 := by
  have h0 := (firstE_zero l l 0).2 (by simpa using h)
  unfold checkE
  rw [if_neg (by omega), if_neg (by simp [h0])]

theorem bodyAt_left (p q : List Ins) (i j : Nat) (hj : j < p.length) : bodyAt (p ++ q) i j = bodyAt p i j := by
  unfold bodyAt
  rw [List.getElem?_append_left hj]

theorem body_left (p q : List Ins) (i : Nat) (hi : i ≤ p.length) : bodyE (p ++ q) i = bodyE p i :=
  findSome_congr i (fun k hk => bodyAt_left p q i k (by omega))

/-- What may be in the first program may be in both. -/
theorem ins_left (p q : List Ins) (i : Nat) (x : Ins) (hi : i < p.length) (h : insE p i x = 0) : insE (p ++ q) i x = 0 := by
  unfold insE at h ⊢
  split at h
  · cases h
  · rename_i h1
    rw [if_neg h1]
    split at h
    · cases h
    · rename_i h2
      rw [if_neg h2]
      split at h
      · cases h
      · rename_i h3
        have h4 : ¬ ((x.op = 9 ∧ loopE (p ++ q) i x = false) ∨ (x.op = 8 ∧ skipE (p ++ q) i x = false)) := by
          intro g
          refine h3 ?_
          rcases g with ⟨g1, g2⟩ | ⟨g1, g2⟩
          · refine .inl ⟨g1, ?_⟩
            unfold loopE at g2 ⊢
            rw [body_left p q i (by omega), List.length_append] at g2
            cases hb : (!(bodyE p i).isSome && (decide (0 < x.b) && (decide (i + x.b < p.length) && (decide (1 ≤ x.n) && decide (x.n ≤ 8)))))
            · rfl
            · simp only [Bool.and_eq_true, decide_eq_true_eq] at hb
              rw [hb.1] at g2
              simp at g2
              have := g2 hb.2.1 (by omega) hb.2.2.2.1
              omega
          · refine .inr ⟨g1, ?_⟩
            unfold skipE at g2 ⊢
            by_cases c : x.n < 1 ∨ (p.length : Int) < i + 1 + x.n
            · rw [if_pos c]
            · rw [if_neg c]
              rw [if_neg (by rw [List.length_append]; omega), body_left p q i (by omega), body_left p q (i + 1 + x.n.toNat) (by omega)] at g2
              exact g2
        rw [if_neg h4]
        exact h

theorem bodyAt_right (p q : List Ins) (i j : Nat) : bodyAt (p ++ q) (p.length + i) (p.length + j) = (bodyAt q i j).map (p.length + ·) := by
  unfold bodyAt
  rw [List.getElem?_append_right (by omega), show p.length + j - p.length = j by omega]
  cases q[j]? with
  | none => rfl
  | some x =>
    simp only
    by_cases c : x.op = 9 ∧ i < j + 1 + x.b
    · rw [if_pos c, if_pos (by omega)]; simp; omega
    · rw [if_neg c, if_neg (by omega)]; rfl

theorem findSome_add {f : Nat → Option Nat} (m n : Nat) (h : ∀ k, k < m → f k = none) : (List.range (m + n)).findSome? f = (List.range n).findSome? (fun k => f (m + k)) := by
  induction n with
  | zero => rw [Nat.add_zero, findSome_none m h]; rfl
  | succ n ih =>
    rw [← Nat.add_assoc, List.range_succ, List.findSome?_append, ih, List.range_succ, List.findSome?_append]
    simp

theorem findSome_map {f : Nat → Option Nat} (g : Nat → Nat) (n : Nat) : (List.range n).findSome? (fun k => (f k).map g) = ((List.range n).findSome? f).map g := by
  induction n with
  | zero => rfl
  | succ n ih =>
    rw [List.range_succ, List.findSome?_append, List.findSome?_append, ih]
    cases (List.range n).findSome? f with
    | none => simp
    | some e => rfl

/-- Every Loop of a program without errors ends within it. -/
theorem loop_ends (p : List Ins) (h : ∀ i x, p[i]? = some x → insE p i x = 0) (j : Nat) (x : Ins) (hx : p[j]? = some x) (h9 : x.op = 9) : j + 1 + x.b ≤ p.length := by
  have h1 := h j x hx
  unfold insE at h1
  rw [if_neg (by omega)] at h1
  split at h1
  · cases h1
  · split at h1
    · cases h1
    · rename_i h3
      have : loopE p j x = true := by
        cases hb : loopE p j x
        · exact absurd (.inl ⟨h9, hb⟩) h3
        · rfl
      unfold loopE at this
      simp only [Bool.and_eq_true, decide_eq_true_eq] at this
      omega

theorem body_right (p q : List Ins) (h : ∀ i x, p[i]? = some x → insE p i x = 0) (i : Nat) : bodyE (p ++ q) (p.length + i) = (bodyE q i).map (p.length + ·) := by
  unfold bodyE
  rw [findSome_add]
  · rw [← findSome_map]
    exact findSome_congr i (fun k _ => bodyAt_right p q i k)
  · intro k hk
    rw [bodyAt_left p q _ k hk]
    unfold bodyAt
    cases hx : p[k]? with
    | none => rfl
    | some x =>
      simp only
      rw [if_neg]
      rintro ⟨h9, h2⟩
      have := loop_ends p h k x hx h9
      omega

theorem ins_right (p q : List Ins) (hp : ∀ i x, p[i]? = some x → insE p i x = 0) (i : Nat) (x : Ins) (h : insE q i x = 0) : insE (p ++ q) (p.length + i) x = 0 := by
  unfold insE at h ⊢
  split at h
  · cases h
  · rename_i h1
    rw [if_neg h1]
    split at h
    · cases h
    · rename_i h2
      rw [if_neg h2]
      split at h
      · cases h
      · rename_i h3
        have h4 : ¬ ((x.op = 9 ∧ loopE (p ++ q) (p.length + i) x = false) ∨ (x.op = 8 ∧ skipE (p ++ q) (p.length + i) x = false)) := by
          intro g
          refine h3 ?_
          rcases g with ⟨g1, g2⟩ | ⟨g1, g2⟩
          · refine .inl ⟨g1, ?_⟩
            unfold loopE at g2 ⊢
            rw [body_right p q hp, List.length_append, Option.isSome_map, show decide (p.length + i + x.b < p.length + q.length) = decide (i + x.b < q.length) by rw [decide_eq_decide]; omega] at g2
            exact g2
          · refine .inr ⟨g1, ?_⟩
            unfold skipE at g2 ⊢
            by_cases c : x.n < 1 ∨ (q.length : Int) < i + 1 + x.n
            · rw [if_pos c]
            · rw [if_neg c]
              rw [if_neg (by rw [List.length_append]; omega), body_right p q hp, show p.length + i + 1 + x.n.toNat = p.length + (i + 1 + x.n.toNat) by omega, body_right p q hp] at g2
              cases hb : bodyE q i with
              | none => rw [hb] at g2; simpa using g2
              | some e =>
                rw [hb] at g2
                simp only [Option.map_some] at g2
                simp at g2 ⊢
                omega
        rw [if_neg h4]
        exact h

theorem fuel_append (p q : List Ins) : fuelE (p ++ q) = fuelE p + fuelE q := by
  unfold fuelE
  rw [List.map_append, List.sum_append, List.length_append]
  omega

/-- Two programs that may be, one behind the other. -/
theorem check_join (p q : List Ins) (hp : checkE p = 0) (hq : checkE q = 0) (hl : p.length + q.length ≤ 24) : checkE (p ++ q) = if 200 < fuelE (p ++ q) then 6 else 0 := by
  have h1 := (checkE_zero p).1 hp
  have h2 := (checkE_zero q).1 hq
  refine checkE_good _ (by rw [List.length_append]; exact hl) (fun i x hx => ?_)
  by_cases hi : i < p.length
  · rw [List.getElem?_append_left hi] at hx
    exact ins_left p q i x hi (h1.2.1 i x hx)
  · rw [List.getElem?_append_right (by omega)] at hx
    have := ins_right p q h1.2.1 (i - p.length) x (h2.2.1 _ x hx)
    rwa [show p.length + (i - p.length) = i by omega] at this

/-- A program that may be, and moves behind it. -/
theorem check_more (p q : List Ins) (hp : checkE p = 0) (hq : ∀ x ∈ q, x.op = 2 ∧ x.dst < 16 ∧ x.a < 16 ∧ x.b < 16) :
    checkE (p ++ q) = if 24 < (p ++ q).length then 7 else if 200 < fuelE (p ++ q) then 6 else 0 := by
  by_cases hl : 24 < (p ++ q).length
  · unfold checkE
    rw [if_pos hl, if_pos hl]
  rw [if_neg hl]
  have h1 := (checkE_zero p).1 hp
  refine checkE_good _ (by omega) (fun i x hx => ?_)
  by_cases hi : i < p.length
  · rw [List.getElem?_append_left hi] at hx
    exact ins_left p q i x hi (h1.2.1 i x hx)
  · rw [List.getElem?_append_right (by omega)] at hx
    obtain ⟨a, b, c, d⟩ := hq x (List.mem_of_getElem? hx)
    unfold insE regsE
    simp [a, b, c, d]

/-- What the laws' Program makes, ahead of its repairs. -/
structure Pre (x : Ins) : Prop where
  fits : x.Fits
  op : x.op < 12
  dst : x.dst < 16
  a : x.a < 16
  b : x.op = 9 ∨ x.b < 16
  n : x.op = 10 → 0 ≤ x.n

theorem pre_check (l : List Ins) (hl : l.length ≤ 16) (h : ∀ x ∈ l, Pre x) (h8 : ∀ x ∈ l, x.op ≠ 8 ∧ x.op ≠ 9) : checkE l = 0 := by
  rw [checkE_zero]
  refine ⟨by omega, fun i x hx => ?_, ?_⟩
  · have hm := List.mem_of_getElem? hx
    have p := h x hm
    have := h8 x hm
    have hr : regsE x = true := by
      unfold regsE
      simp [p.dst, p.a]
      exact p.b
    have ho := p.op
    have hn := p.n
    unfold insE
    rw [if_neg (by omega), hr, if_neg (by simp), if_neg (by rintro (⟨a, _⟩ | ⟨a, _⟩) <;> omega), if_neg]
    rintro ⟨a, b⟩
    have := hn a
    omega
  · unfold fuelE
    have : (l.map Ins.turns).sum = 0 := by
      clear hl h
      induction l with
      | nil => rfl
      | cons x r ih =>
        rw [List.map_cons, List.sum_cons, ih (fun y hy => h8 y (List.mem_cons_of_mem _ hy))]
        unfold Ins.turns
        rw [if_neg (h8 x List.mem_cons_self).2]
        rfl
    omega

theorem turns_bounds (x : Ins) (h : x.Fits) : 0 ≤ x.turns ∧ x.turns ≤ 8355330 := by
  unfold Ins.turns
  obtain ⟨_, _, _, hb, hlo, hhi⟩ := h
  split
  · have h1 : (0 : Int) ≤ max x.n 1 - 1 := by omega
    have h2 : max x.n 1 - 1 ≤ 32766 := by omega
    have h3 : (x.b : Int) ≤ 255 := by omega
    have h4 := Int.mul_le_mul h3 h2 h1 (by omega)
    have h5 := Int.mul_nonneg (Int.natCast_nonneg x.b) h1
    omega
  · omega

theorem sum_bounds (l : List Ins) (h : ∀ x ∈ l, x.Fits) : 0 ≤ (l.map Ins.turns).sum ∧ (l.map Ins.turns).sum ≤ 8355330 * l.length := by
  induction l with
  | nil => simp
  | cons x r ih =>
    have h1 := turns_bounds x (h x List.mem_cons_self)
    have h2 := ih (fun y hy => h y (List.mem_cons_of_mem _ hy))
    rw [List.map_cons, List.sum_cons, List.length_cons]
    omega

end Go.Proofs.Ytjifeopiaghmbaa
