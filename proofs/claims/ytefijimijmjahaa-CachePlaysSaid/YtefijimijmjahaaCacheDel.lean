/-
  slices.Delete of the first of a row of calls' numbers.
-/
import Derived.Test.YtefijimijmjahaaIdRow
namespace Go.Proofs.Ytefijimijmjahaa
open Go.RowKit
set_option maxRecDepth 100000

theorem zeroId : ∀ w, (zeroValue 36).run Try.prog w = .ok (.agg #[.int .u16 0, .int .u16 0]) w := fun w => by kernel_rfl

set_option maxHeartbeats 4000000 in
theorem delete1_any (g cap : Nat) (x : IdN) (r : List IdN) (w : World) (hown : w.ownsRow 0 36 2 (.slice (some ⟨g, 0, none⟩) (r.length + 1) cap) (r.length + 1) (idCells (x :: r))) :
    Calls Try.prog 20 #[.slice (some ⟨g, 0, none⟩) (r.length + 1) cap, .int .i64 0, .int .i64 1] w fun e w' => e = .returned (.slice (some ⟨g, 0, none⟩) r.length cap) ∧
      w'.ownsRow 0 36 2 (.slice (some ⟨g, 0, none⟩) r.length cap) r.length (idCells r) ∧ Fr (fun k => k = g) w w' := by
  obtain ⟨i0, hi, hz0, hz1, hz2⟩ := info_parts Try.infoId
  obtain ⟨_, h | ⟨g', cap', cur, e1, _, hg, hle, hmx, hcs, htk⟩⟩ := hown
  · cases h.1
  simp at e1
  obtain ⟨rfl, rfl⟩ := e1
  have hlen : (idCells (x :: r)).length = (r.length + 1) * 2 := idCells_length (x :: r)
  have hlr := idCells_length r
  have hcur : cur.size = cap * 2 := hcs
  have s1 : ∀ w, (Instr.slice 28 (.slice (some ⟨g, 0, none⟩) (r.length + 1) cap) (some (.int .i64 0)) (some (.int .i64 1)) (some (.int .i64 (r.length + 1 : Nat)))).run Try.prog w = .ok (.slice (some ⟨g, 0, none⟩) 1 (r.length + 1)) w := fun w => slice_01 w _ _ _ hle (by omega)
  have s2 : ∀ w, (Instr.slice 28 (.slice (some ⟨g, 0, none⟩) (r.length + 1) cap) none (some (.int .i64 0)) none).run Try.prog w = .ok (.slice (some ⟨g, 0, none⟩) 0 cap) w := fun w => slice_to0 w _ _ _
  obtain ⟨q, hq⟩ : ∃ q, q = if cap = 1 then 0 else 0 + 2 := ⟨_, rfl⟩
  have s3 : ∀ w, (Instr.slice 28 (.slice (some ⟨g, 0, none⟩) (r.length + 1) cap) (some (.int .i64 1)) none none).run Try.prog w = .ok (.slice (some ⟨g, q, none⟩) r.length (cap - 1)) w := fun w => by rw [hq]; exact slice_from1 w _ _ _ _ hle (by omega)
  have s4 : ∀ w, (Instr.slice 28 (.slice (some ⟨g, 0, none⟩) r.length cap) (some (.int .i64 r.length)) (some (.int .i64 (r.length + 1 : Nat))) none).run Try.prog w = .ok (.slice (some ⟨g, r.length * 2, none⟩) 1 (cap - r.length)) w := fun w => slice_last w _ _ _ hle
  have hfc : (Builtin.firstCells 2 r.length (.slice (some ⟨g, q, none⟩) r.length (cap - 1))).run Try.prog w.drew = .ok (idCells r).toArray w.drew := by
    refine run_firstCells_some (P := Try.prog) w.drew 2 r.length ⟨g, q, none⟩ r.length (cap - 1) (idCells r) hlr ?_
    intro j v hj
    have hjl : j < r.length * 2 := by rw [← hlr]; exact (List.getElem?_eq_some_iff.1 hj).1
    have hq2 : q = 2 := by
      rw [hq, if_neg (by omega)]
    have hplain : (⟨g, q, none⟩ : Addr).add j = ⟨g, 2 + j, none⟩ := by unfold Addr.add; split <;> simp_all
    rw [hplain, cell_of_row w.drew g (2 + j) cur _ (0, 0) hg, ← Array.getElem?_toList]
    have h2 : (cur.toList.take ((r.length + 1) * 2))[2 + j]? = (idCells (x :: r))[2 + j]? := by rw [htk]
    rw [List.getElem?_take, if_pos (by omega)] at h2
    rw [h2, idCells_cons, show 2 + j = j + 1 + 1 by omega, List.getElem?_cons_succ, List.getElem?_cons_succ, hj]
  have hld : (loadCellsFrom ⟨g, q, none⟩ 0 (r.length * 2) #[]).run Try.prog w.drew = .ok (idCells r).toArray w.drew := by simpa [Builtin.firstCells, loadCells] using hfc
  have hst : (storeCells ⟨g, 0, none⟩ (idCells r)).run Try.prog w.drew = .ok () (w.drew.setRow g (cur.toList.take (0 + 0 * 2) ++ idCells r ++ cur.toList.drop (0 + 0 * 2 + (idCells r).length)).toArray) := by
    have := run_storeCells_at Try.prog g 0 36 (idCells r) 0 cur w.drew hg (by omega) (idCells_one r)
    simpa using this
  have hg1 := setRow_heap w.drew g cur (cur.toList.take (0 + 0 * 2) ++ idCells r ++ cur.toList.drop (0 + 0 * 2 + (idCells r).length)).toArray 36 (0, 0) hg
  have f1 : Fr (fun k => k = g) w (w.drew.setRow g (cur.toList.take (0 + 0 * 2) ++ idCells r ++ cur.toList.drop (0 + 0 * 2 + (idCells r).length)).toArray) := Fr.setRow0 (S := fun k => k = g) (Fr.refl (fun k => k = g) w).drew (fun _ => rfl) _
  generalize w.drew.setRow g (cur.toList.take (0 + 0 * 2) ++ idCells r ++ cur.toList.drop (0 + 0 * 2 + (idCells r).length)).toArray = w1 at *
  obtain ⟨w2, hcl, cs, hg2, hsz2, htk2, f2⟩ : ∃ w2, (Builtin.clear_ #[28] 0 #[.slice (some ⟨g, r.length * 2, none⟩) 1 (cap - r.length)]).run Try.prog w1 = .ok (.tuple #[]) w2 ∧ ∃ cs : Array Value, w2.heap[g]? = some (.cells cs 36 (0, 0)) ∧ cs.size = cap * 2 ∧
      cs.toList.take (r.length * 2) = idCells r ∧ Fr (fun k => k = g) w w2 := by
    have hzs : (Builtin.zeroCells (Value.agg #[.int .u16 0, .int .u16 0]).cells 1).toList = [.int .u16 0, .int .u16 0] := by kernel_rfl
    have hcl := run_clear_row (P := Try.prog) w1 28 36 0 _ _ Try.underlying28 zeroId 1 (by omega) hzs (by simp [Value.oneCell']) g (r.length * 2) (cap - r.length) _ hg1 (by simp; omega)
    refine ⟨_, hcl, _, setRow_heap w1 g _ _ 36 (0, 0) hg1, ?_, ?_, Fr.setRow0 (S := fun k => k = g) f1 (fun _ => rfl) _⟩
    · simp
      omega
    · rw [List.append_assoc, List.take_append_of_le_length (by simp; omega), List.take_take, Nat.min_self]
      simp [← hlr]
  have HC := Lib.hid hcs; clear hcs
  have HT := Lib.hid htk; clear htk
  have HG := Lib.hid hg; clear hg
  have HG1 := Lib.hid hg1; clear hg1
  have HG2 := Lib.hid hg2; clear hg2
  have HS2 := Lib.hid hsz2; clear hsz2
  have HT2 := Lib.hid htk2; clear htk2
  have F2 := Lib.hid f2; clear f2
  have F1 := Lib.hid f1; clear f1
  clear hq hfc hlen
  have HCU := Lib.hid hcur; clear hcur
  have HLR := Lib.hid hlr; clear hlr
  go_enter Try.func20, Try.ntmps20
  go_wp2_with fail
  go_region
  go_wp2_with fail
  go_ret
  exact ⟨rfl, ⟨HLR.out, .inr ⟨g, cap, _, rfl, Nat.zero_le _, HG2.out, by omega, hmx, HS2.out, HT2.out⟩⟩, F2.out⟩
end Go.Proofs.Ytefijimijmjahaa
