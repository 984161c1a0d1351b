/-
  Types as plain trees; a type's value in memory; whether it is right.
-/
import Derived.Test.YtdaabgnfgdojhaaKindNaming
namespace Go.Proofs.Ytdaabgnfgdojhaa
open Go.RowKit

/-- A type: its kind, its greatest length, its names, how many types it consists of, and which ('nil' stands for those that there aren't). -/
inductive KT where
  | nil
  | mk (k : Nat) (m : Int) (ns : List Txt) (n : Nat) (of : Nat → KT)

/-- The slice v shows the texts l, in memory of R. -/
def Texts (R : Nat → Prop) (w : World) (l : List Txt) (v : Value) : Prop :=
  l.length ≤ 1000 ∧ (∀ s ∈ l, s.length ≤ 1000) ∧
  ((l = [] ∧ ∃ a c, v = .slice a 0 c) ∨
   ∃ g off cap, R g ∧ v = .slice (some ⟨g, off, none⟩) l.length cap ∧ l.length ≤ cap ∧ ∀ j s, l[j]? = some s → w.cell? ⟨g, off + j, none⟩ = some (sv s))

/-- The value v shows the type t, in memory of R. -/
def Shows (R : Nat → Prop) (w : World) : KT → Value → Prop
  | .nil, _ => False
  | .mk k m ns n of, v => ∃ vn vo, v = .agg #[.int .u8 k, .int .i64 m, vn, vo] ∧ k ≤ 255 ∧ n ≤ 1000 ∧ Texts R w ns vn ∧
    ((n = 0 ∧ ∃ a c, vo = .slice a 0 c) ∨
     ∃ g off cap, R g ∧ vo = .slice (some ⟨g, off, none⟩) n cap ∧ n ≤ cap ∧ ∀ i, i < n → ∃ x0 x1 x2 x3,
      w.cell? ⟨g, off + i * 4, none⟩ = some x0 ∧ w.cell? ⟨g, off + i * 4 + 1, none⟩ = some x1 ∧ w.cell? ⟨g, off + i * 4 + 2, none⟩ = some x2 ∧ w.cell? ⟨g, off + i * 4 + 3, none⟩ = some x3 ∧
      Shows R w (of i) (.agg #[x0, x1, x2, x3]))

/-- The slice v shows these aliases. -/
def Aliases (R : Nat → Prop) (w : World) (l : List (Txt × KT)) (v : Value) : Prop :=
  l.length ≤ 1000 ∧ (∀ x ∈ l, x.1.length ≤ 1000) ∧
  ((l = [] ∧ ∃ a c, v = .slice a 0 c) ∨
   ∃ g off cap, R g ∧ v = .slice (some ⟨g, off, none⟩) l.length cap ∧ l.length ≤ cap ∧ ∀ i x, l[i]? = some x → ∃ x0 x1 x2 x3,
    w.cell? ⟨g, off + i * 5, none⟩ = some (sv x.1) ∧ w.cell? ⟨g, off + i * 5 + 1, none⟩ = some x0 ∧ w.cell? ⟨g, off + i * 5 + 2, none⟩ = some x1 ∧ w.cell? ⟨g, off + i * 5 + 3, none⟩ = some x2 ∧ w.cell? ⟨g, off + i * 5 + 4, none⟩ = some x3 ∧
    Shows R w x.2 (.agg #[x0, x1, x2, x3]))

theorem cell_fr {R S : Nat → Prop} {w w' : World} (hf : Fr S w w') (hS : ∀ k, R k → ¬ S k) {g o : Nat} {u : Value} (hR : R g) (h : w.cell? ⟨g, o, none⟩ = some u) : w'.cell? ⟨g, o, none⟩ = some u := by
  rw [← h]; exact hf.cell (World.block_lt_of_cell? w _ h) (hS g hR)

theorem Texts.fr {R S : Nat → Prop} {w w' : World} {l : List Txt} {v : Value} (h : Texts R w l v) (hf : Fr S w w') (hS : ∀ k, R k → ¬ S k) : Texts R w' l v := by
  obtain ⟨h1, h2, h3 | ⟨g, off, cap, hg, rfl, hle, hc⟩⟩ := h
  · exact ⟨h1, h2, .inl h3⟩
  · exact ⟨h1, h2, .inr ⟨g, off, cap, hg, rfl, hle, fun j s hj => cell_fr hf hS hg (hc j s hj)⟩⟩

theorem Texts.mono {R S : Nat → Prop} {w : World} {l : List Txt} {v : Value} (h : Texts R w l v) (hS : ∀ k, k < w.heap.size → R k → S k) : Texts S w l v := by
  obtain ⟨h1, h2, h3 | ⟨g, off, cap, hg, rfl, hle, hc⟩⟩ := h
  · exact ⟨h1, h2, .inl h3⟩
  · cases l with
    | nil => exact ⟨h1, h2, .inl ⟨rfl, _, _, rfl⟩⟩
    | cons x l => exact ⟨h1, h2, .inr ⟨g, off, cap, hS g (World.block_lt_of_cell? w _ (hc 0 x rfl)) hg, rfl, hle, hc⟩⟩

theorem Texts.seesL {R : Nat → Prop} {w : World} {l : List Txt} {v : Value} (h : Texts R w l v) : SeesL w v (l.map sv) := by
  obtain ⟨h1, h2, ⟨rfl, a, c, rfl⟩ | ⟨g, off, cap, hg, rfl, hle, hc⟩⟩ := h
  · exact .inl ⟨rfl, a, c, rfl⟩
  · refine .inr ⟨g, off, cap, by simp, by simpa using hle, fun j u hj => ?_⟩
    rw [List.getElem?_map] at hj
    cases hx : l[j]? with
    | none => rw [hx] at hj; cases hj
    | some x => rw [hx] at hj; cases hj; exact hc j x hx

theorem Shows.fr {R S : Nat → Prop} {w w' : World} (hf : Fr S w w') (hS : ∀ k, R k → ¬ S k) (t : KT) : ∀ v, Shows R w t v → Shows R w' t v := by
  induction t with
  | nil => exact fun _ h => h.elim
  | mk k m ns n of ih =>
    rintro v ⟨vn, vo, rfl, hk, hn, ht, ho⟩
    refine ⟨vn, vo, rfl, hk, hn, ht.fr hf hS, ?_⟩
    rcases ho with h | ⟨g, off, cap, hg, rfl, hle, hc⟩
    · exact .inl h
    · refine .inr ⟨g, off, cap, hg, rfl, hle, fun i hi => ?_⟩
      obtain ⟨x0, x1, x2, x3, c0, c1, c2, c3, hx⟩ := hc i hi
      exact ⟨x0, x1, x2, x3, cell_fr hf hS hg c0, cell_fr hf hS hg c1, cell_fr hf hS hg c2, cell_fr hf hS hg c3, ih i _ hx⟩

theorem Shows.mono {R S : Nat → Prop} {w : World} (hS : ∀ k, k < w.heap.size → R k → S k) (t : KT) : ∀ v, Shows R w t v → Shows S w t v := by
  induction t with
  | nil => exact fun _ h => h.elim
  | mk k m ns n of ih =>
    rintro v ⟨vn, vo, rfl, hk, hn, ht, ho⟩
    refine ⟨vn, vo, rfl, hk, hn, ht.mono hS, ?_⟩
    rcases ho with h | ⟨g, off, cap, hg, rfl, hle, hc⟩
    · exact .inl h
    · cases n with
      | zero => exact .inl ⟨rfl, _, _, rfl⟩
      | succ n =>
        refine .inr ⟨g, off, cap, ?_, rfl, hle, fun i hi => ?_⟩
        · obtain ⟨x0, x1, x2, x3, c0, _⟩ := hc 0 (by omega)
          exact hS g (World.block_lt_of_cell? w _ c0) hg
        · obtain ⟨x0, x1, x2, x3, c0, c1, c2, c3, hx⟩ := hc i hi
          exact ⟨x0, x1, x2, x3, c0, c1, c2, c3, ih i _ hx⟩

theorem Aliases.fr {R S : Nat → Prop} {w w' : World} {l : List (Txt × KT)} {v : Value} (h : Aliases R w l v) (hf : Fr S w w') (hS : ∀ k, R k → ¬ S k) : Aliases R w' l v := by
  obtain ⟨h1, h2, h3 | ⟨g, off, cap, hg, rfl, hle, hc⟩⟩ := h
  · exact ⟨h1, h2, .inl h3⟩
  · refine ⟨h1, h2, .inr ⟨g, off, cap, hg, rfl, hle, fun i x hi => ?_⟩⟩
    obtain ⟨x0, x1, x2, x3, c, c0, c1, c2, c3, hx⟩ := hc i x hi
    exact ⟨x0, x1, x2, x3, cell_fr hf hS hg c, cell_fr hf hS hg c0, cell_fr hf hS hg c1, cell_fr hf hS hg c2, cell_fr hf hS hg c3, Shows.fr hf hS _ _ hx⟩

theorem Aliases.mono {R S : Nat → Prop} {w : World} {l : List (Txt × KT)} {v : Value} (h : Aliases R w l v) (hS : ∀ k, k < w.heap.size → R k → S k) : Aliases S w l v := by
  obtain ⟨h1, h2, h3 | ⟨g, off, cap, hg, rfl, hle, hc⟩⟩ := h
  · exact ⟨h1, h2, .inl h3⟩
  · cases l with
    | nil => exact ⟨h1, h2, .inl ⟨rfl, _, _, rfl⟩⟩
    | cons x l =>
      refine ⟨h1, h2, .inr ⟨g, off, cap, ?_, rfl, hle, fun i y hi => ?_⟩⟩
      · obtain ⟨x0, x1, x2, x3, c, _⟩ := hc 0 x rfl
        exact hS g (World.block_lt_of_cell? w _ c) hg
      · obtain ⟨x0, x1, x2, x3, c, c0, c1, c2, c3, hx⟩ := hc i y hi
        exact ⟨x0, x1, x2, x3, c, c0, c1, c2, c3, Shows.mono hS _ _ hx⟩

/-- The shape of a slice of texts, of types, of aliases. -/
theorem Texts.shape {R : Nat → Prop} {w : World} {l : List Txt} {v : Value} (h : Texts R w l v) : ∃ a c, v = .slice a l.length c ∧ (l.length = 0 ∨ l.length ≤ c ∧ ∃ g off, R g ∧ a = some ⟨g, off, none⟩ ∧ ∀ j s, l[j]? = some s → w.cell? ⟨g, off + j, none⟩ = some (sv s)) := by
  obtain ⟨h1, h2, ⟨rfl, a, c, rfl⟩ | ⟨g, off, cap, hg, rfl, hle, hc⟩⟩ := h
  · exact ⟨a, c, rfl, .inl rfl⟩
  · exact ⟨_, cap, rfl, .inr ⟨hle, g, off, hg, rfl, hc⟩⟩

theorem Aliases.shape {R : Nat → Prop} {w : World} {l : List (Txt × KT)} {v : Value} (h : Aliases R w l v) : ∃ a c, v = .slice a l.length c ∧ (l.length = 0 ∨ l.length ≤ c ∧ ∃ g off, R g ∧ a = some ⟨g, off, none⟩ ∧ ∀ i x, l[i]? = some x → ∃ x0 x1 x2 x3,
    w.cell? ⟨g, off + i * 5, none⟩ = some (sv x.1) ∧ w.cell? ⟨g, off + i * 5 + 1, none⟩ = some x0 ∧ w.cell? ⟨g, off + i * 5 + 2, none⟩ = some x1 ∧ w.cell? ⟨g, off + i * 5 + 3, none⟩ = some x2 ∧ w.cell? ⟨g, off + i * 5 + 4, none⟩ = some x3 ∧
    Shows R w x.2 (.agg #[x0, x1, x2, x3])) := by
  obtain ⟨h1, h2, ⟨rfl, a, c, rfl⟩ | ⟨g, off, cap, hg, rfl, hle, hc⟩⟩ := h
  · exact ⟨a, c, rfl, .inl rfl⟩
  · exact ⟨_, cap, rfl, .inr ⟨hle, g, off, hg, rfl, hc⟩⟩

/-- The cells of a type's value. -/
theorem Shows.cells {R : Nat → Prop} {w : World} {t : KT} {x0 x1 x2 x3 : Value} (h : Shows R w t (.agg #[x0, x1, x2, x3])) :
    ∃ (k : Nat) (m : Int) (a : Option Addr) (n c : Nat) (a' : Option Addr) (n' c' : Nat), x0 = .int .u8 k ∧ x1 = .int .i64 m ∧ x2 = .slice a n c ∧ x3 = .slice a' n' c' := by
  cases t with
  | nil => exact h.elim
  | mk k m ns n of =>
    obtain ⟨vn, vo, e, _, _, ht, ho⟩ := h
    simp at e
    obtain ⟨rfl, rfl, rfl, rfl⟩ := e
    obtain ⟨a, c, rfl, _⟩ := ht.shape
    rcases ho with ⟨_, a', c', rfl⟩ | ⟨g, off, cap, _, rfl, _⟩
    · exact ⟨k, m, a, _, c, a', _, c', rfl, rfl, rfl, rfl⟩
    · exact ⟨k, m, a, _, c, _, _, cap, rfl, rfl, rfl, rfl⟩

theorem Shows.four {R : Nat → Prop} {w : World} {t : KT} {v : Value} (h : Shows R w t v) :
    ∃ (k : Nat) (m : Int) (a : Option Addr) (n c : Nat) (a' : Option Addr) (n' c' : Nat), v = .agg #[.int .u8 k, .int .i64 m, .slice a n c, .slice a' n' c'] := by
  obtain ⟨x0, x1, x2, x3, rfl⟩ : ∃ x0 x1 x2 x3, v = .agg #[x0, x1, x2, x3] := by
    cases t with
    | nil => exact h.elim
    | mk k m ns n of =>
      obtain ⟨vn, vo, e, _⟩ := h
      exact ⟨_, _, _, _, e⟩
  obtain ⟨k, m, a, n, c, a', n', c', rfl, rfl, rfl, rfl⟩ := h.cells
  exact ⟨k, m, a, n, c, a', n', c', rfl⟩

/-- The first aliases of some. -/
theorem Aliases.take {R : Nat → Prop} {w : World} {l : List (Txt × KT)} {a : Option Addr} {n c : Nat} (h : Aliases R w l (.slice a n c)) (i : Nat) (hi : i ≤ l.length) : Aliases R w (l.take i) (.slice a i c) := by
  obtain ⟨h1, h2, h3⟩ := h
  refine ⟨by rw [List.length_take]; omega, fun x hx => h2 x (List.mem_of_mem_take hx), ?_⟩
  rcases h3 with ⟨rfl, a', c', e⟩ | ⟨g, off, cap, hg, e, hle, hc⟩
  · cases e
    simp at hi
    subst hi
    exact .inl ⟨rfl, _, _, rfl⟩
  · cases e
    have e1 : (l.take i).length = i := by rw [List.length_take]; omega
    refine .inr ⟨g, off, _, hg, by rw [e1], by omega, fun j x hj => hc j x ?_⟩
    rw [List.getElem?_take] at hj
    split at hj
    · exact hj
    · cases hj

/-- A greatest length if, and only if, it needs one? -/
def sizedB (k : Nat) (m : Int) : Bool := if k = 4 ∨ k = 5 then decide (1 ≤ m ∧ m ≤ 60) else decide (m = 0)

/-- As many names and types as the kind asks for? -/
def formedB (k nn n : Nat) : Bool :=
  if k = 5 then decide (nn = 0 ∧ n = 1) else if k = 6 ∨ k = 8 then decide (n = nn) else if k = 7 then decide (n = 0) else if k = 9 then decide (nn = 1 ∧ n = 0) else decide (nn = 0 ∧ n = 0)

/-- The first error of names, behind those of bef. -/
def namesE (bef : List Txt) : List Txt → Nat
  | [] => 0
  | s :: r => if nameE bef s = 0 then namesE (bef ++ [s]) r else nameE bef s

def checkNamesE (ns : List Txt) : Nat := if ns.length < 1 ∨ 12 < ns.length then 7 else namesE [] ns

/-- The first error of n that are asked in order. -/
def firstE (f : Nat → Nat) : Nat → Nat
  | 0 => 0
  | n + 1 => if firstE f n = 0 then f n else firstE f n

theorem firstE_stop (f : Nat → Nat) (n k : Nat) (hk : k < n) (h0 : firstE f k = 0) (h : f k ≠ 0) : firstE f n = f k := by
  induction n with
  | zero => omega
  | succ n ih =>
    unfold firstE
    by_cases e : k = n
    · subst e; rw [if_pos h0]
    · have := ih (by omega)
      rw [if_neg (by rw [this]; exact h)]
      exact this

theorem firstE_step (f : Nat → Nat) (k : Nat) (h0 : firstE f k = 0) (h : f k = 0) : firstE f (k + 1) = 0 := by
  unfold firstE; rw [if_pos h0]; exact h

/-- The index of the alias for which a type of these names stands, or -1. -/
def standsN (known : List (Txt × KT)) (ns : List Txt) : Int := match ns with
  | [s] => firstAt (fun x => decide (x.1 = s)) known
  | _ => -1

/-- The first error of a type, where these aliases are known. -/
def rightE (known : List (Txt × KT)) : KT → Nat → Nat
  | .nil, _ => 0
  | .mk k m ns n of, lv =>
    if 10 ≤ k ∨ lv = 0 then 5
    else if !sizedB k m then 2
    else if !formedB k ns.length n then 4
    else
      let e := if k = 6 ∨ k = 7 ∨ k = 8 then checkNamesE ns else if k = 9 then (if standsN known ns < 0 then 10 else 0) else 0
      if e = 0 then firstE (fun i => rightE known (of i) (lv - 1)) n else e

end Go.Proofs.Ytdaabgnfgdojhaa
