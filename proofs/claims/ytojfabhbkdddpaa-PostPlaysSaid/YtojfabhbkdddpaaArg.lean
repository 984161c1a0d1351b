/-
  Arguments that are slices of structs, opened: general. (Out of XKindArg.)
-/
import Derived.Test.YtojfabhbkdddpaaOpen
import Derived.ProofKit
import Derived.OpenShut
import Derived.Deep.Slices
namespace Go.Proofs.Ytojfabhbkdddpaa
open Go.ChangeShapes Go.WideShapes Go.ChangeAt Go.RowKit

theorem spot_none {w : World} {a : Addr} {m : Nat} {cs : List Value} (h : w.cells? 0 a m = some cs) (hm : 0 < m) : a.spot = none := by
  obtain ⟨_, hl, h1⟩ := World.cells?_some h
  have h2 := h1 0 hm
  have e0 : a.add 0 = a := by simp [Addr.add]
  obtain ⟨v, hv⟩ : ∃ v, cs[0]? = some v := ⟨_, List.getElem?_eq_getElem (by omega)⟩
  rw [e0, hv] at h2
  have := addr_plain h2
  obtain ⟨b, o, s⟩ := a
  simp at this
  exact this

theorem cell_at {w : World} {b o : Nat} {m k : Nat} {cs : List Value} (h : w.cells? 0 ((⟨b, o, none⟩ : Addr).add k) m = some cs) (i : Nat) (v : Value) (hv : cs[i]? = some v) (hi : i < m) : w.cell? ⟨b, o + k + i, none⟩ = some v := by
  have h1 := (World.cells?_some h).2.2 i hi
  rw [hv] at h1
  have e : ((⟨b, o, none⟩ : Addr).add k).add i = ⟨b, o + k + i, none⟩ := by
    unfold Addr.add
    split <;> split <;> simp_all
  rw [e] at h1
  exact h1

section
variable {H : Type} (enc : TypeId × Value → H) (w : World)

/-- A slice of whatever: each element reads by a smaller fuel. -/
theorem slice_each {t e : TypeId} {fuel m : Nat} {cs : List Value} {x : DataW H × List MemPlace} (ht : Try.prog.underlying t = some (.slice e)) (hm : Try.prog.cellsOf e = m) (h0 : 0 < m) (h : DataW.trod enc Try.prog w 0 (fun _ => true) true fuel t cs = some x) :
    (∃ a, cs = [.slice a 0 0]) ∨ ∃ a len cap n, n < fuel ∧ cs = [.slice a len cap] ∧ len ≤ cap ∧ cap ≤ maxLen ∧ (len = 0 ∨ ∃ b o, a = some ⟨b, o, none⟩ ∧ ∀ i, i < len → ∃ cs' y, DataW.trod enc Try.prog w 0 (fun _ => true) true n e cs' = some y ∧
      ∀ j v, cs'[j]? = some v → j < m → w.cell? ⟨b, o + i * m + j, none⟩ = some v) := by
  rcases DataW.trod_slice ht h with ⟨rfl, _⟩ | ⟨a, len, cap, elems, rest, n, rfl, rfl, _, hb, hl, hc, hlen, hel, _, _⟩
  · exact .inl ⟨_, rfl⟩
  · refine .inr ⟨some a, len, cap, n, by omega, rfl, hl, hc, ?_⟩
    by_cases hz : len = 0
    · exact .inl hz
    right
    have each : ∀ i, i < len → ∃ cs' y, w.cells? 0 (a.add (i * m)) m = some cs' ∧ DataW.trod enc Try.prog w 0 (fun _ => true) true n e cs' = some y := by
      intro i hi
      have h1 := hel i hi
      rw [List.getElem?_eq_getElem (by omega), hm] at h1
      obtain ⟨cs', h2, h3⟩ := Option.bind_eq_some_iff.1 h1
      exact ⟨cs', _, h2, h3⟩
    obtain ⟨b, o, s⟩ := a
    obtain ⟨cs0, _, hc0, _⟩ := each 0 (by omega)
    have e0 : ((⟨b, o, s⟩ : Addr).add (0 * m)) = ⟨b, o, s⟩ := by simp [Addr.add]
    rw [e0] at hc0
    have hs := spot_none hc0 h0
    simp at hs
    subst hs
    refine ⟨b, o, rfl, fun i hi => ?_⟩
    obtain ⟨cs', y, h2, h3⟩ := each i hi
    exact ⟨cs', y, h3, fun j v hv hj => cell_at h2 j v hv hj⟩


theorem int_reads {fuel : Nat} {cs : List Value} {x : DataW H × List MemPlace} {t : TypeId} {k : IntKind} (ht : Try.prog.underlying t = some (.int k)) (h : DataW.trod enc Try.prog w 0 (fun _ => true) true fuel t cs = some x) : ∃ n : Int, (Lit.int k n).wf = true ∧ cs = [.int k n] := by
  obtain ⟨n, rfl, _, hw⟩ := DataW.trod_int ht h
  exact ⟨n, hw, rfl⟩

theorem bool_reads {fuel : Nat} {cs : List Value} {x : DataW H × List MemPlace} {t : TypeId} (ht : Try.prog.underlying t = some .bool) (h : DataW.trod enc Try.prog w 0 (fun _ => true) true fuel t cs = some x) : ∃ b : Bool, cs = [.bool b] := by
  obtain ⟨n, rfl, _⟩ := DataW.trod_bool ht h
  exact ⟨n, rfl⟩

end

end Go.Proofs.Ytojfabhbkdddpaa
