/-
  A row of calls' numbers that is owned alone and begins anywhere in its block: append, the first one, all but the first.
-/
import Derived.Test.YtefijimijmjahaaCacheApi
namespace Go.Proofs.Ytefijimijmjahaa
open Go.RowKit
set_option maxRecDepth 100000

/-- The slice value v owns a row of these numbers alone, from some cell of its block on. -/
def OwnW (w : World) (v : Value) (L : List IdN) : Prop :=
  (L = [] ∧ v = .slice none 0 0) ∨ ∃ g off cap cur, v = .slice (some ⟨g, off, none⟩) L.length cap ∧ w.heap[g]? = some (.cells cur 36 (0, 0)) ∧ L.length ≤ cap ∧ cap ≤ maxLen ∧ off + cap * 2 ≤ cur.size ∧ (cur.toList.drop off).take (L.length * 2) = idCells L

theorem OwnW.lt {w : World} {v : Value} {L : List IdN} (h : OwnW w v L) : ∀ k, v.ownBlock = some k → k < w.heap.size := by
  intro k hk
  rcases h with ⟨_, rfl⟩ | ⟨g, off, cap, cur, rfl, hg, _⟩
  · cases hk
  · simp [Value.ownBlock] at hk
    subst hk
    exact (Array.getElem?_eq_some_iff.1 hg).1

theorem OwnW.fr {S : Nat → Prop} {w w' : World} {v : Value} {L : List IdN} (h : OwnW w v L) (f : Fr S w w') (hS : ∀ k, v.ownBlock = some k → ¬ S k) : OwnW w' v L := by
  have hlt := h.lt
  rcases h with h | ⟨g, off, cap, cur, rfl, hg, r⟩
  · exact .inl h
  · refine .inr ⟨g, off, cap, cur, rfl, ?_, r⟩
    rw [f.block g (hlt g rfl) (hS g rfl)]
    exact hg

theorem OwnW.shape {w : World} {v : Value} {L : List IdN} (h : OwnW w v L) : ∃ a c, v = .slice a L.length c := by
  rcases h with ⟨rfl, rfl⟩ | ⟨g, off, cap, cur, rfl, _⟩
  · exact ⟨_, _, rfl⟩
  · exact ⟨_, _, rfl⟩

/-- The first number, and what is left. -/
theorem OwnW.cons {w : World} {v : Value} {x : IdN} {L : List IdN} (h : OwnW w v (x :: L)) : ∃ g off cap, v = .slice (some ⟨g, off, none⟩) (L.length + 1) cap ∧ L.length + 1 ≤ cap ∧ w.cell? ⟨g, off, none⟩ = some (.int .u16 x.1) ∧ w.cell? ⟨g, off + 1, none⟩ = some (.int .u16 x.2) ∧
    OwnW w (.slice (some ⟨g, if cap = 1 then off else off + 2, none⟩) L.length (cap - 1)) L := by
  rcases h with ⟨h, _⟩ | ⟨g, off, cap, cur, rfl, hg, hle, hmx, hsz, htk⟩
  · cases h
  have hlen := idCells_length L
  have hat : ∀ i, i < (L.length + 1) * 2 → cur[off + i]? = (idCells (x :: L))[i]? := by
    intro i hi
    rw [← htk, List.getElem?_take, if_pos (by simpa using hi), List.getElem?_drop, Array.getElem?_toList]
  refine ⟨g, off, cap, rfl, hle, ?_, ?_, ?_⟩
  · rw [cell_of_row w g off cur _ (0, 0) hg]
    have := hat 0 (by omega)
    simpa [idCells_cons] using this
  · rw [cell_of_row w g (off + 1) cur _ (0, 0) hg]
    have := hat 1 (by omega)
    simpa [idCells_cons] using this
  · refine .inr ⟨g, _, cap - 1, cur, rfl, hg, by simp at hle; omega, by omega, ?_, ?_⟩
    · have h1 : 1 ≤ cap := by simp at hle; omega
      split <;> omega
    · by_cases hc : cap = 1
      · have h0 : L.length = 0 := by simp at hle; omega
        have : L = [] := List.eq_nil_of_length_eq_zero h0
        subst this
        simp [idCells]
      · rw [if_neg hc]
        apply List.ext_getElem?
        intro i
        by_cases hi : i < L.length * 2
        · rw [List.getElem?_take, if_pos hi, List.getElem?_drop, Array.getElem?_toList]
          have := hat (i + 2) (by omega)
          rw [show off + 2 + i = off + (i + 2) by omega, this, idCells_cons]
          rfl
        · rw [List.getElem?_take, if_neg hi, List.getElem?_eq_none (by omega)]

/-- Append of one number. -/
theorem run_append_win (w : World) (ty : TypeId) (v : Value) (L : List IdN) (h : OwnW w v L) (hn : L.length ≤ 100000) (g1 : Nat) (x : IdN) (hrow : w.heap[g1]? = some (oId x)) :
    ∃ v' w', (Builtin.append_ #[28, 28] ty #[v, .slice (some ⟨g1, 0, none⟩) 1 1]).run Try.prog w = .ok v' w' ∧ OwnW w' v' (L ++ [x]) ∧ w.grownBy w' v.ownBlock ∧ (v'.ownBlock = v.ownBlock ∨ v'.ownBlock = some w.heap.size) := by
  obtain ⟨i0, hi, hz0, hz1, hz2⟩ := info_parts Try.infoId
  rcases h with ⟨rfl, rfl⟩ | ⟨g, off, cap, cur, rfl, hg, hle, hmx, hsz, htk⟩
  · obtain ⟨v', w', hr, k2, k3, k4⟩ := run_append_sep (P := Try.prog) w 0 28 28 ty 36 i0 (.agg #[.int .u16 0, .int .u16 0]) 2 4 Try.underlying28 _ Try.underlying28 (.inr ⟨_, rfl⟩) hi hz0 hz1 hz2 rfl (by decide) (.slice none 0 0) 0 []
      (World.ownsRow_nil _ _ _ _) (.slice (some ⟨g1, 0, none⟩) 1 1) 1 (idCells [x]) (fun w => lenOf_slice _ _ _ w) rfl (fc2 w hrow) (fc2 w.drew hrow) (idCells_one _) (by unfold maxLen; omega) (by omega) (Nat.zero_le _)
    refine ⟨v', w', hr, ?_, k3, k4⟩
    rcases k2.2 with ⟨_, h0⟩ | ⟨g, cap, cur, rfl, _, hg, hle, hmx, hsz, htk⟩
    · omega
    · exact .inr ⟨g, 0, cap, cur, rfl, hg, hle, hmx, by omega, by simpa using htk⟩
  · have hlen := idCells_length L
    by_cases hroom : L.length + 1 ≤ cap
    · have hr := run_append_room (P := Try.prog) w 28 28 ty 36 i0 2 Try.underlying28 _ Try.underlying28 (.inr ⟨_, rfl⟩) hi hz1 g off L.length cap cur hg hsz (.slice (some ⟨g1, 0, none⟩) 1 1) 1 (idCells [x]) (fun w => lenOf_slice _ _ _ w) rfl (fc2 w hrow) (idCells_one _) hroom
      refine ⟨_, _, hr, .inr ⟨g, off, cap, _, by simp, setRow_heap w g cur _ _ _ hg, by simp; omega, hmx, ?_, ?_⟩, ?_, .inl rfl⟩
      · simp [idCells]
        omega
      · rw [idCells_append, ← htk]
        apply List.ext_getElem?
        intro i
        simp only [List.length_append, List.length_cons, List.length_nil]
        by_cases hi : i < (L.length + (0 + 1)) * 2
        · rw [List.getElem?_take, if_pos hi, List.getElem?_drop, List.append_assoc]
          by_cases h1 : i < L.length * 2
          · rw [List.getElem?_append_left (by simp; omega), List.getElem?_take, if_pos (by omega), List.getElem?_append_left (by simp; omega), List.getElem?_take, if_pos h1, List.getElem?_drop]
          · rw [List.getElem?_append_right (by simp; omega), List.getElem?_append_left (by simp [idCells]; omega), List.getElem?_append_right (by simp; omega)]
            congr 1
            simp
            omega
        · rw [List.getElem?_take, if_neg hi, List.getElem?_eq_none (by simp [idCells]; omega)]
      · exact ⟨rfl, rfl, rfl, by simp [World.setRow], fun k hk hne => setRow_other _ _ _ _ (fun e => hne (by subst e; rfl))⟩
    · have holds : ∀ j u, (idCells L)[j]? = some u → w.cell? ((⟨g, off, none⟩ : Addr).add j) = some u := by
        intro j u hj
        have hjl : j < L.length * 2 := by rw [← hlen]; exact (List.getElem?_eq_some_iff.1 hj).1
        have hplain : (⟨g, off, none⟩ : Addr).add j = ⟨g, off + j, none⟩ := by unfold Addr.add; split <;> simp_all
        rw [hplain, cell_of_row w g (off + j) cur _ (0, 0) hg, ← hj, ← htk, List.getElem?_take, if_pos hjl, List.getElem?_drop, Array.getElem?_toList]
      have hn63 : ¬ (9223372036854775807 < ((L.length : Int) + (1 : Int))) := by omega
      have hn48 : ¬ (281474976710656 < Builtin.nextslicecap (L.length + 1) cap * i0.bytes) := by have := growslice_fits (need := L.length + 1) (old := cap) (bytes := i0.bytes) (by omega) (by rw [hz2]; omega); omega
      have hfo := run_firstCells_some (P := Try.prog) w.drew 2 L.length ⟨g, off, none⟩ L.length cap (idCells L) hlen (by simpa using holds)
      have hc' := fc2 w.drew hrow
      have hge := grownCap_ge w (L.length + 1) cap 36
      have hcm : grownCap w (L.length + 1) cap 36 ≤ maxLen := grownCap_le_maxLen w (L.length + 1) cap 36 (by unfold maxLen; omega)
      refine ⟨.slice (some ⟨w.heap.size, 0, none⟩) (L.length + 1) (grownCap w (L.length + 1) cap 36), w.drew.alloc (.cells ((idCells L).toArray ++ (idCells [x]).toArray ++ Builtin.zeroCells (Value.agg #[.int .u16 0, .int .u16 0]).cells (grownCap w (L.length + 1) cap 36 - (L.length + 1))) 36), ?_, .inr ⟨w.heap.size, 0, _, _, by simp, heap_alloc_new w.drew _, by simpa using hge, hcm, ?_, ?_⟩, ⟨rfl, rfl, rfl, by simp, fun k hk _ => Below.heap_alloc w.drew _ k hk⟩, .inr rfl⟩
      · have hl1 := lenOf_slice (P := Try.prog) (some ⟨g1, 0, none⟩) 1 1 w
        simp [Builtin.append_, run_underlying Try.underlying28, sizeOf, typeInfo, zeroValue, hi, hz0, hz1, hl1, hroom, hn63, hn48, Question.forced, hc', hfo, newRow, grownCap]
        congr 2
        apply Array.ext'
        simp [List.append_assoc]
      · simp only [Array.size_append, List.size_toArray, size_zeroCells, hlen, idCells_length, List.length_cons, List.length_nil]
        have : (Value.agg #[.int .u16 0, .int .u16 0]).cells.size = 2 := rfl
        rw [this]
        omega
      · simp only [Array.toList_append, List.drop_zero, List.length_append, List.length_cons, List.length_nil]
        rw [idCells_append, List.take_append_of_le_length (by simp [idCells_length]; omega), List.take_of_length_le (by simp [idCells_length]; omega)]
end Go.Proofs.Ytefijimijmjahaa
