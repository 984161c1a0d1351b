/-
  Arguments that are slices of integers or of texts, opened: what the walk is told of them.
-/
import Derived.Test.YtojfabhbkdddpaaGen
import Derived.ProofKit
import Derived.OpenShut
import Derived.SliceStrings
namespace Go.Proofs.Ytojfabhbkdddpaa
open Go.RowKit Go.WideShapes Go.ChangeShapes

/-- The slice value v shows the values xs. -/
def SeesL (w : World) (v : Value) (xs : List Value) : Prop :=
  (xs = [] ∧ ∃ a c, v = .slice a 0 c) ∨
  ∃ g off cap, v = .slice (some ⟨g, off, none⟩) xs.length cap ∧ xs.length ≤ cap ∧ ∀ j u, xs[j]? = some u → w.cell? ⟨g, off + j, none⟩ = some u

theorem SeesL.old {w : World} {v : Value} {xs : List Value} (h : SeesL w v xs) : xs = [] ∨ ∀ k, v.ownBlock = some k → k < w.heap.size := by
  rcases h with ⟨h, _⟩ | ⟨g, off, cap, rfl, hle, hc⟩
  · exact .inl h
  · cases xs with
    | nil => exact .inl rfl
    | cons x xs =>
      right
      intro k hk
      simp [Value.ownBlock] at hk
      subst hk
      exact World.block_lt_of_cell? w _ (hc 0 x rfl)

theorem SeesL.fr0 {w w' : World} {v : Value} {xs : List Value} (h : SeesL w v xs) (hf : Fr (fun _ => False) w w') : SeesL w' v xs := by
  rcases h with h | ⟨g, off, cap, rfl, hle, hc⟩
  · exact .inl h
  · refine .inr ⟨g, off, cap, rfl, hle, fun j u hj => ?_⟩
    have h1 := hc j u hj
    rw [← h1]
    exact hf.cell (World.block_lt_of_cell? w _ h1) (fun h => h)

theorem addr_plain {w : World} {a : Addr} {u : Value} (h : w.cell? a = some u) : a = ⟨a.block, a.off, none⟩ := by
  obtain ⟨b, o, s⟩ := a
  cases s with
  | none => rfl
  | some s =>
    exfalso
    unfold World.cell? at h
    split at h
    · simp at h
    · cases h

theorem seesL_of {w : World} {a : Addr} {cap : Nat} {xs : List Value} (hle : xs.length ≤ cap) (hc : ∀ j u, xs[j]? = some u → w.cell? (a.add j) = some u) : SeesL w (.slice (some a) xs.length cap) xs := by
  cases xs with
  | nil => exact .inl ⟨rfl, _, _, rfl⟩
  | cons x xs =>
    have h0 := hc 0 x rfl
    have e0 : a.add 0 = a := by simp [Addr.add]
    rw [e0] at h0
    obtain ⟨b, o, s⟩ := a
    have e := addr_plain h0
    simp at e
    subst e
    refine .inr ⟨b, o, cap, rfl, hle, fun j u hj => ?_⟩
    have h1 := hc j u hj
    have e1 : (⟨b, o, none⟩ : Addr).add j = ⟨b, o + j, none⟩ := by unfold Addr.add; split <;> simp_all
    rw [e1] at h1
    exact h1

section
variable {P : Program} {H : Type} {enc : TypeId × Value → H} {W : World}

theorem sees_ints {t e : TypeId} {k : IntKind} {v : Value} {d : DataW H} {p : List MemPlace} {base : Nat} (ht : P.underlying t = some (.slice e)) (he : P.underlying e = some (.int k)) (hc : P.cellsOf e = 1)
    (hval : Value.okWide P W .any base t v) (hd : DataW.Trod enc P W 0 (fun _ => true) true t v d p) :
    ∃ l : List Int, SeesL W v (l.map (Value.int k)) ∧ ∀ n ∈ l, (Lit.int k n).wf = true := by
  obtain ⟨a, len, cap, rfl⟩ := okWide_slice ht hval
  obtain ⟨fuel, hf⟩ := hd
  rcases open_ints ht he hc hf with ⟨hcs, _⟩ | ⟨x, l, c, zs, hcs, _, hl, hm, hz, _, hcell, hwz⟩
  · simp [Value.cells] at hcs
    obtain ⟨rfl, rfl, rfl⟩ := hcs
    exact ⟨[], .inl ⟨rfl, _, _, rfl⟩, by simp⟩
  · simp [Value.cells] at hcs
    obtain ⟨rfl, rfl, rfl⟩ := hcs
    have hz' : zs.length = cap := by simpa using hz
    refine ⟨zs.take len, ?_, fun n hn => hwz n (List.mem_of_mem_take hn)⟩
    have hlen : ((zs.take len).map (Value.int k)).length = len := by simp; omega
    have := seesL_of (w := W) (a := x) (cap := cap) (xs := (zs.take len).map (Value.int k)) (by rw [hlen]; exact hl) (by
      intro j u hj
      have hjl : j < len := by have := (List.getElem?_eq_some_iff.1 hj).1; rw [hlen] at this; exact this
      rw [hcell j (by omega), ← hj]
      simp [List.getD, hjl, show j < zs.length by omega])
    rw [hlen] at this
    exact this

theorem sees_strs {t e : TypeId} {v : Value} {d : DataW H} {p : List MemPlace} {base : Nat} (ht : P.underlying t = some (.slice e)) (he : P.underlying e = some .string) (hc : P.cellsOf e = 1)
    (hval : Value.okWide P W .any base t v) (hd : DataW.Trod enc P W 0 (fun _ => true) true t v d p) :
    ∃ l : List ByteArray, SeesL W v (l.map Value.string) ∧ ∀ s ∈ l, s.size ≤ maxLen := by
  obtain ⟨a, len, cap, rfl⟩ := okWide_slice ht hval
  obtain ⟨fuel, hf⟩ := hd
  rcases open_strings ht he hc hf with ⟨hcs, _⟩ | ⟨x, l, c, zs, hcs, _, hl, hm, hz, _, hcell, hwz⟩
  · simp [Value.cells] at hcs
    obtain ⟨rfl, rfl, rfl⟩ := hcs
    exact ⟨[], .inl ⟨rfl, _, _, rfl⟩, by simp⟩
  · simp [Value.cells] at hcs
    obtain ⟨rfl, rfl, rfl⟩ := hcs
    have hz' : zs.length = cap := by simpa using hz
    refine ⟨zs.take len, ?_, fun n hn => hwz n (List.mem_of_mem_take hn)⟩
    have hlen : ((zs.take len).map Value.string).length = len := by simp; omega
    have := seesL_of (w := W) (a := x) (cap := cap) (xs := (zs.take len).map Value.string) (by rw [hlen]; exact hl) (by
      intro j u hj
      have hjl : j < len := by have := (List.getElem?_eq_some_iff.1 hj).1; rw [hlen] at this; exact this
      rw [hcell j (by omega), ← hj]
      simp [List.getD, hjl, show j < zs.length by omega])
    rw [hlen] at this
    exact this
end

/-- A slice of bytes that came in, as a list of bytes. -/
theorem sees_u8 {w : World} {v : Value} {l : List Int} (h : SeesL w v (l.map (Value.int .u8))) (hw : ∀ n ∈ l, (Lit.int .u8 n).wf = true) : Sees w v (l.map fun n => UInt8.ofNat n.toNat) := by
  rcases h with ⟨h, a, c, rfl⟩ | ⟨g, off, cap, rfl, hle, hc⟩
  · left
    have : l = [] := by cases l with | nil => rfl | cons _ _ => simp at h
    subst this
    exact ⟨rfl, a, c, rfl⟩
  · right
    refine ⟨g, off, cap, by simp, by simpa using hle, fun j hj => ?_⟩
    simp at hj
    have hb := bounds_u8 (hw _ (List.getElem_mem hj))
    rw [hc j (.int .u8 l[j]) (by simp [hj])]
    have := bv_of l[j] hb.1 hb.2
    simp [List.getD, hj, this]

end Go.Proofs.Ytojfabhbkdddpaa
