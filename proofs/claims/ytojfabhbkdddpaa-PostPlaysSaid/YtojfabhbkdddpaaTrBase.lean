/-
  Slices that show integers: searched, compared, their members counted.
-/
import Derived.Test.YtojfabhbkdddpaaOpen
import Derived.Deep.Cut
import Derived.Deep.CutRange
import Derived.Deep.CutBlock
import Derived.Deep.LoopGhost
namespace Go.Proofs.Ytojfabhbkdddpaa
open Go.RowKit
set_option maxRecDepth 100000

abbrev iv (n : Int) : Value := .int .i64 n

/-- The slice value v shows the integers l. -/
def SI (w : World) (v : Value) (l : List Int) : Prop := SeesL w v (l.map (Value.int .i64))

/-- Of a slice that shows l: where its elements lie. -/
def SIc (w : World) (a : Option Addr) (c : Nat) (l : List Int) : Prop :=
  0 < l.length → l.length ≤ c ∧ ∃ g off, a = some ⟨g, off, none⟩ ∧ ∀ j, (hj : j < l.length) → w.cell? ⟨g, off + j, none⟩ = some (.int .i64 l[j])

theorem SI.shape {w : World} {v : Value} {l : List Int} (h : SI w v l) : ∃ a c, v = .slice a l.length c ∧ SIc w a c l := by
  rcases h with ⟨h, a, c, rfl⟩ | ⟨g, off, cap, rfl, hle, hc⟩
  · have : l = [] := by simpa using h
    subst this
    exact ⟨a, c, rfl, fun h => absurd h (by simp)⟩
  · rw [List.length_map] at *
    exact ⟨_, cap, rfl, fun _ => ⟨hle, g, off, rfl, fun j hj => hc j _ (by rw [List.getElem?_map, List.getElem?_eq_getElem hj]; rfl)⟩⟩

theorem SI.fr {w w' : World} {v : Value} {l : List Int} (h : SI w v l) (hf : Fr (fun _ => False) w w') : SI w' v l := h.fr0 hf

theorem SIc.fr {w w' : World} {a : Option Addr} {c : Nat} {l : List Int} (h : SIc w a c l) (hf : Fr (fun _ => False) w w') : SIc w' a c l := fun h0 => by
  obtain ⟨h1, g, off, h2, h3⟩ := h h0
  refine ⟨h1, g, off, h2, fun j hj => ?_⟩
  rw [← h3 j hj]
  exact hf.cell (World.block_lt_of_cell? w _ (h3 j hj)) (fun h => h)

theorem SIc.sees {w : World} {a : Option Addr} {c : Nat} {l : List Int} (h : SIc w a c l) : SI w (.slice a l.length c) l := by
  by_cases h0 : 0 < l.length
  · obtain ⟨h1, g, off, rfl, h3⟩ := h h0
    refine .inr ⟨g, off, c, by simp, by simpa using h1, fun j u hu => ?_⟩
    rw [List.getElem?_map] at hu
    obtain ⟨x, hx, rfl⟩ := Option.map_eq_some_iff.1 hu
    obtain ⟨hj, rfl⟩ := List.getElem?_eq_some_iff.1 hx
    exact h3 j hj
  · have : l = [] := List.eq_nil_of_length_eq_zero (by omega)
    subst this
    exact .inl ⟨rfl, a, c, rfl⟩

theorem lret_bool {a b : Bool} (h : a = b) : Ending.returned (.bool a) = .returned (.bool b) := by rw [h]
theorem lret_int {a b : Int} (h : a = b) : Ending.returned (.int .i64 a) = .returned (.int .i64 b) := by rw [h]

theorem int_list_ext (l m : List Int) (hl : l.length = m.length) (h : ∀ j, (hj : j < l.length) → l[j] = m[j]'(hl ▸ hj)) : l = m :=
  List.ext_getElem hl (fun i h1 _ => h i h1)

end Go.Proofs.Ytojfabhbkdddpaa
