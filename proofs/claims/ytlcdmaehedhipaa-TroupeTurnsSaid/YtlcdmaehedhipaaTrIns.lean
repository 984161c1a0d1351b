/-
  slices.Insert of one integer into a row that is owned alone.
-/
import Derived.Test.YtlcdmaehedhipaaTrDel
import Derived.Lib.Overlaps
import Derived.Lib.AppendZerosOnto
namespace Go.Proofs.Ytlcdmaehedhipaa
open Go.RowKit
set_option maxRecDepth 100000

theorem lslice_some (g o n c i : Nat) (h1 : i ≤ n) : ∃ v, ∀ w, (Instr.slice 24 (.slice (some ⟨g, o, none⟩) n c) (some (.int .i64 i)) none none).run Try.prog w = .ok v w := by
  refine ⟨.slice (if c = i then some ⟨g, o, none⟩ else some ((⟨g, o, none⟩ : Addr).add i)) (n - i) (c - i), fun w => ?_⟩
  have hs := sizeInt w
  simp [Instr.slice, Instr.sliceBounds, Instr.sliceBound, run_underlying Try.underlying24, asIntOf, hs, h1, Result.andThen]

theorem wpList_copy_eq {P : Program} {w : World} {ops : Array Oper} {rest : List Oper} {o : Oper} {a : Act} {Q : Exit → Act → World → Prop} (hgd : o.guard = none) (d s : Operand) (t t' : TypeId)
    (ho : o.op = .call { callee := .builtin .copy, args := #[d, s], argTypes := #[t, t'] }) (x y : Value) (hd : a.eval d = x) (hs : a.eval s = y) {v' : Value} {w' : World}
    (hr : (Builtin.copy_ #[t, t'] o.type #[x, y]).run P w = .ok v' w') (h : wpList P ops Q rest (a.put o.dst v') w') : wpList P ops Q (o :: rest) a w := by
  refine wpList_plain hgd fun _ hK => ?_
  unfold Oper.wp execOp
  simp only [ho, resolve, invoke, builtin, Sem.run_bind, Sem.run_pure, Result.andThen_ok, List.map_toArray, List.map_cons, List.map_nil, hd, hs, hr]
  exact hK _ _ h

theorem wpList_append_eq {P : Program} {w : World} {ops : Array Oper} {rest : List Oper} {o : Oper} {a : Act} {Q : Exit → Act → World → Prop} (hgd : o.guard = none) (d s : Operand) (t t' : TypeId)
    (ho : o.op = .call { callee := .builtin .append, args := #[d, s], argTypes := #[t, t'] }) (x y : Value) (hd : a.eval d = x) (hs : a.eval s = y) {v' : Value} {w' : World}
    (hr : (Builtin.append_ #[t, t'] o.type #[x, y]).run P w = .ok v' w') (h : wpList P ops Q rest (a.put o.dst v') w') : wpList P ops Q (o :: rest) a w := by
  refine wpList_plain hgd fun _ hK => ?_
  unfold Oper.wp execOp
  simp only [ho, resolve, invoke, builtin, Sem.run_bind, Sem.run_pure, Result.andThen_ok, List.map_toArray, List.map_cons, List.map_nil, hd, hs, hr]
  exact hK _ _ h

theorem sizeInt' : (Try.prog.info? 3).map (·.size) = some 1 := by
  obtain ⟨i0, hi, hz0, hz1, hz2⟩ := info_parts Try.infoInt
  rw [hi, Option.map_some, hz1]

/-- A part of a row overwritten by 'copy'. -/
theorem copy_part (w : World) (ty : TypeId) (g o cap dLen dCap : Nat) (cur : Array Value) (h : Row w g cap cur) (a : Addr) (sLen sCap : Nat) (cs : List Int) (hn : cs.length = Nat.min sLen dLen)
    (hsrc : ∀ j, (hj : j < cs.length) → w.cell? (a.add j) = some (.int .i64 cs[j])) (hfit : o + cs.length ≤ cap) :
    ∃ w', (Builtin.copy_ #[24, 24] ty #[.slice (some ⟨g, o, none⟩) dLen dCap, .slice (some a) sLen sCap]).run Try.prog w = .ok (goInt cs.length) w' ∧ Fr (fun b => b = g) w w' ∧
      ∃ cur', Row w' g cap cur' ∧ (∀ j, j < o → cur'[j]? = cur[j]?) ∧ (∀ j, (hj : j < cs.length) → cur'[o + j]? = some (.int .i64 cs[j])) ∧ (∀ j, o + cs.length ≤ j → cur'[j]? = cur[j]?) := by
  have hs := h.2.1
  have hl : (cs.map (Value.int .i64)).length = cs.length := by simp
  have hr := run_copy_row (P := Try.prog) w 24 24 ty 3 g o dLen dCap a sLen sCap cur 3 (cs.map (Value.int .i64)) Try.underlying24 sizeInt' h.1 (by rw [hl]; exact hn)
    (fun j v hj => by
      rw [List.getElem?_map] at hj
      obtain ⟨x, hx, rfl⟩ := Option.map_eq_some_iff.1 hj
      obtain ⟨hjl, rfl⟩ := List.getElem?_eq_some_iff.1 hx
      exact hsrc j hjl) (by rw [hl]; omega) (iv_one cs)
  rw [hl] at hr
  refine ⟨_, hr, lfr_setRow (S := fun b => b = g) (Fr.refl _ _) (fun _ => rfl) _, _, ⟨setRow_heap w g cur _ 3 (0, 0) h.1, ?_, h.2.2⟩, fun j hj => ?_, fun j hj => ?_, fun j hj => ?_⟩
  · simp only [List.size_toArray, List.length_append, List.length_take, List.length_drop, hl, Array.length_toList]
    omega
  · rw [List.append_assoc]
    simp only [List.getElem?_toArray]
    rw [List.getElem?_append_left (by simp; omega), List.getElem?_take, if_pos hj, Array.getElem?_toList]
  · rw [List.append_assoc]
    simp only [List.getElem?_toArray]
    rw [List.getElem?_append_right (by simp; omega), List.getElem?_append_left (by simp; omega)]
    simp only [List.length_take, Array.length_toList, List.getElem?_map]
    rw [show o + j - min o cur.size = j by omega, List.getElem?_eq_getElem hj]
    rfl
  · simp only [List.getElem?_toArray]
    rw [List.getElem?_append_right (by simp; omega), List.getElem?_drop, Array.getElem?_toList]
    simp only [List.length_append, List.length_take, Array.length_toList, hl]
    congr 1
    omega

/-- 'append(s[:i], make([]int, k)...)' where there is no room: a new row. -/
theorem grow_zeros (w : World) (ty : TypeId) (g cap i k : Nat) (cur : Array Value) (h : Row w g cap cur) (hi : i ≤ cap) (hk : 0 < k) (hno : cap < i + k) (hb : i + k ≤ 1000) :
    ∃ C w', (Builtin.append_ #[24, 3] ty #[.slice (some ⟨g, 0, none⟩) i cap, .int .i64 k]).run Try.prog w = .ok (.slice (some ⟨w.heap.size, 0, none⟩) (i + k) C) w' ∧ Fr (fun _ => False) w w' ∧ i + k ≤ C ∧
      ∃ cur', Row w' w.heap.size C cur' ∧ ∀ j, j < i → cur'[j]? = cur[j]? := by
  obtain ⟨i0, hi0, hz0, hz1, hz2⟩ := info_parts Try.infoInt
  have hs := h.2.1
  have hold : (Builtin.firstCells i0.size i (.slice (some ⟨g, 0, none⟩) i cap)).run Try.prog w.drew = .ok (cur.toList.take i).toArray w.drew := by
    rw [hz1]
    refine run_firstCells_some (P := Try.prog) w.drew 1 i ⟨g, 0, none⟩ i cap (cur.toList.take i) (by simp; omega) ?_
    intro j v hj
    rw [addr_add, Nat.zero_add, cell_of_row w.drew g j cur _ (0, 0) h.1]
    rw [List.getElem?_take] at hj
    split at hj
    · rw [← Array.getElem?_toList]; exact hj
    · cases hj
  have hge := grownCap_ge w (i + k) cap 3
  have hle := grownCap_le_maxLen w (i + k) cap 3 (by unfold maxLen; omega)
  have hr := Lib.run_append_grow_zeros (P := Try.prog) w 24 3 ty 3 i0 (.int .i64 0) .i64 .i64 Try.underlying24 Try.underlying3 hi0 hz0 (some ⟨g, 0, none⟩) i cap (cur.toList.take i) hold k hk (by rw [hz1]; omega) hno (by omega)
    (by rw [hz2]; omega) (by rw [hz2]; have := growslice_fits (need := i + k) (old := cap) (bytes := 8) (by omega) (by omega); omega)
  refine ⟨_, _, hr, ((Fr.refl _ _).drew).alloc _, hge, _, ⟨heap_alloc_new w.drew _, ?_, hle⟩, fun j hj => ?_⟩
  · simp only [Array.size_append, List.size_toArray, List.length_take, Array.length_toList, size_zeroCells, Value.cells]
    simp
    omega
  · rw [Array.append_assoc, Array.getElem?_append_left (by simp; omega)]
    simp [hj]

end Go.Proofs.Ytlcdmaehedhipaa
