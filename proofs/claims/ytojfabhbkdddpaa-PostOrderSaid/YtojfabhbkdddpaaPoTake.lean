/-
  Post: slices.Delete of one flight; Take.
-/
import Derived.Test.YtojfabhbkdddpaaPoAdd
import Derived.BigRegion
namespace Go.Proofs.Ytojfabhbkdddpaa
open Go.RowKit
set_option maxRecDepth 100000
set_option linter.unusedSimpArgs false
set_option linter.unusedVariables false

theorem zeroFl : ∀ w, (zeroValue 37).run Try.prog w = .ok (.agg #[.int .i64 0, .slice none 0 0, .bool false]) w := fun w => by kernel_rfl

theorem sliceD1 (w : World) (g n c i : Nat) (h : n ≤ c) (hi : i < n) : (Instr.slice 25 (.slice (some ⟨g, 0, none⟩) n c) (some (.int .i64 i)) (some (.int .i64 ((i : Int) + 1))) (some (.int .i64 n))).run Try.prog w = .ok (.slice (some ⟨g, i * 3, none⟩) 1 (n - i)) w := by
  have hs : (sizeOf 37).run Try.prog w = .ok 3 w := by kernel_rfl
  have e0 : (⟨g, 0, none⟩ : Addr).add (i * 3) = ⟨g, i * 3, none⟩ := by unfold Addr.add; split <;> simp
  have e1 : (0 : Int) ≤ (i : Int) + 1 ∧ (i : Int) + 1 ≤ (n : Int) := by omega
  have e2 : ¬ n = i := by omega
  have e3 : ((i : Int) + 1).toNat = i + 1 := by omega
  have e4 : i + 1 - i = 1 := by omega
  have e5 : i ≤ i + 1 := by omega
  simp [Instr.slice, Instr.sliceBounds, Instr.sliceBound, run_underlying Try.underlying25, asIntOf, hs, e0, e1, e2, e3, e4, e5, h, Result.andThen]

theorem sliceD2 (w : World) (g n c i : Nat) (h : n ≤ c) (hi : i < n) : (Instr.slice 25 (.slice (some ⟨g, 0, none⟩) n c) none (some (.int .i64 i)) none).run Try.prog w = .ok (.slice (some ⟨g, 0, none⟩) i c) w := by
  have hs : (sizeOf 37).run Try.prog w = .ok 3 w := by kernel_rfl
  have e0 : (⟨g, 0, none⟩ : Addr).add 0 = ⟨g, 0, none⟩ := by simp [Addr.add]
  have e1 : i ≤ c := by omega
  have e2 : ¬ c = 0 := by omega
  simp [Instr.slice, Instr.sliceBounds, Instr.sliceBound, run_underlying Try.underlying25, asIntOf, hs, e0, e1, e2, Result.andThen]

theorem sliceD3 (w : World) (g n c i : Nat) (h : n ≤ c) (hi : i < n) : (Instr.slice 25 (.slice (some ⟨g, 0, none⟩) n c) (some (.int .i64 ((i : Int) + 1))) none none).run Try.prog w = .ok (.slice (some ⟨g, if c = i + 1 then 0 else (i + 1) * 3, none⟩) (n - (i + 1)) (c - (i + 1))) w := by
  have hs : (sizeOf 37).run Try.prog w = .ok 3 w := by kernel_rfl
  have e1 : (0 : Int) ≤ (i : Int) + 1 ∧ (i : Int) + 1 ≤ (n : Int) := by omega
  have e3 : ((i : Int) + 1).toNat = i + 1 := by omega
  have e0 : (⟨g, 0, none⟩ : Addr).add ((i + 1) * 3) = ⟨g, (i + 1) * 3, none⟩ := by
    unfold Addr.add
    split
    · omega
    · simp
  by_cases hc : c = i + 1
  · subst hc
    simp [Instr.slice, Instr.sliceBounds, Instr.sliceBound, run_underlying Try.underlying25, asIntOf, hs, e0, e1, e3, Result.andThen]
  · simp [Instr.slice, Instr.sliceBounds, Instr.sliceBound, run_underlying Try.underlying25, asIntOf, hs, e0, e1, e3, hc, Result.andThen]

theorem sliceD4 (w : World) (g n c : Nat) (h : n + 1 ≤ c) : (Instr.slice 25 (.slice (some ⟨g, 0, none⟩) n c) (some (.int .i64 n)) (some (.int .i64 (n + 1 : Nat))) none).run Try.prog w = .ok (.slice (some ⟨g, n * 3, none⟩) 1 (c - n)) w := by
  have hs : (sizeOf 37).run Try.prog w = .ok 3 w := by kernel_rfl
  have e1 : (0 : Int) ≤ (n : Int) + 1 ∧ (n : Int) + 1 ≤ (c : Int) := by omega
  have e2 : (⟨g, 0, none⟩ : Addr).add (n * 3) = ⟨g, n * 3, none⟩ := by unfold Addr.add; split <;> simp
  have e4 : ¬ c = n := by omega
  have e5 : n + 1 - n = 1 := by omega
  have e6 : n ≤ n + 1 := by omega
  simp [Instr.slice, Instr.sliceBounds, Instr.sliceBound, run_underlying Try.underlying25, asIntOf, hs, e1, e2, e4, e5, e6, Result.andThen]

theorem flat_one {L : List Fl} (h : ∀ x ∈ L, x.v.oneCell' = true) : ∀ u ∈ L.flatMap Fl.cells, u.oneCell' = true := by
  intro u hu
  obtain ⟨x, hx, hm⟩ := List.mem_flatMap.1 hu
  exact fl_one x (h x hx) u hm

set_option maxHeartbeats 4000000 in
theorem delete_any (g cap m i : Nat) (L : List Fl) (w : World) (hL : L.length = m + 1) (hm : m ≤ 400) (hi : i < m + 1) (B : Nat) (hone : ∀ x ∈ L, x.v.oneCell' = true) (hown : FlOwn w B (.slice (some ⟨g, 0, none⟩) (m + 1) cap) L) :
    Calls Try.prog 15 #[.slice (some ⟨g, 0, none⟩) (m + 1) cap, .int .i64 i, .int .i64 ((i : Int) + 1)] w fun e w' => e = .returned (.slice (some ⟨g, 0, none⟩) m cap) ∧
      FlOwn w' B (.slice (some ⟨g, 0, none⟩) m cap) (L.eraseIdx i) ∧ Fr (fun k => k = g) w w' := by
  obtain ⟨i0, hif, hz0, hz1, hz2⟩ := info_parts Try.infoFl
  have hown : w.ownsRow B 37 3 (.slice (some ⟨g, 0, none⟩) (m + 1) cap) (m + 1) (L.flatMap Fl.cells) := by rw [← hL]; rw [FlOwn, hL] at hown; rw [hL]; exact hown
  obtain ⟨_, h | ⟨g', cap', cur, e1, hBg, hg, hle, hmx, hcs, htk⟩⟩ := hown
  · cases h.1
  simp at e1
  obtain ⟨rfl, rfl⟩ := e1
  have hlen := fl_length L
  rw [hL] at hlen
  have hcur : cur.size = cap * 3 := hcs
  have hld : (L.drop (i + 1)).length = m - i := by rw [List.length_drop]; omega
  have hlr := fl_length (L.drop (i + 1))
  rw [hld] at hlr
  obtain ⟨X, hX⟩ : ∃ X, X = (L.drop (i + 1)).flatMap Fl.cells := ⟨_, rfl⟩
  rw [← hX] at hlr
  have hXone : ∀ u ∈ X, u.oneCell' = true := by
    rw [hX]
    exact flat_one (fun x hx => hone x (List.mem_of_mem_drop hx))
  have s1 : ∀ w, (Instr.slice 25 (.slice (some ⟨g, 0, none⟩) (m + 1) cap) (some (.int .i64 i)) (some (.int .i64 ((i : Int) + 1))) (some (.int .i64 (m + 1 : Nat)))).run Try.prog w = .ok (.slice (some ⟨g, i * 3, none⟩) 1 (m + 1 - i)) w := fun w => sliceD1 w _ _ _ _ hle hi
  have s2 : ∀ w, (Instr.slice 25 (.slice (some ⟨g, 0, none⟩) (m + 1) cap) none (some (.int .i64 i)) none).run Try.prog w = .ok (.slice (some ⟨g, 0, none⟩) i cap) w := fun w => sliceD2 w _ _ _ _ hle hi
  obtain ⟨q, hq⟩ : ∃ q, q = if cap = i + 1 then 0 else (i + 1) * 3 := ⟨_, rfl⟩
  obtain ⟨r, hr⟩ : ∃ r, r = m - i := ⟨_, rfl⟩
  have hir : i + r = m := by omega
  rw [← hr] at hlr
  have s3 : ∀ w, (Instr.slice 25 (.slice (some ⟨g, 0, none⟩) (m + 1) cap) (some (.int .i64 ((i : Int) + 1))) none none).run Try.prog w = .ok (.slice (some ⟨g, q, none⟩) r (cap - (i + 1))) w := fun w => by
    have := sliceD3 w g (m + 1) cap i hle hi
    rw [show m + 1 - (i + 1) = r by omega, ← hq] at this
    exact this
  have s4 : ∀ w, (Instr.slice 25 (.slice (some ⟨g, 0, none⟩) m cap) (some (.int .i64 m)) (some (.int .i64 (m + 1 : Nat))) none).run Try.prog w = .ok (.slice (some ⟨g, m * 3, none⟩) 1 (cap - m)) w := fun w => sliceD4 w _ _ _ hle
  have hcell : ∀ j, j < (m + 1) * 3 → cur[j]? = (L.flatMap Fl.cells)[j]? := by
    intro j hj
    rw [← htk, List.getElem?_take, if_pos hj, Array.getElem?_toList]
  have hfc : ∀ W : World, W.heap[g]? = some (.cells cur 37 (0, 0)) → (Builtin.firstCells 3 r (.slice (some ⟨g, q, none⟩) r (cap - (i + 1)))).run Try.prog W = .ok X.toArray W := by
    intro W hW
    refine run_firstCells_some (P := Try.prog) W 3 r ⟨g, q, none⟩ r (cap - (i + 1)) X hlr ?_
    intro j v hj
    have hjl : j < r * 3 := by rw [← hlr]; exact (List.getElem?_eq_some_iff.1 hj).1
    have hq2 : q = (i + 1) * 3 := by
      rw [hq, if_neg (by omega)]
    have hplain : (⟨g, q, none⟩ : Addr).add j = ⟨g, (i + 1) * 3 + j, none⟩ := by unfold Addr.add; split <;> simp_all
    rw [hplain, cell_of_row W g ((i + 1) * 3 + j) cur _ (0, 0) hW, hcell _ (by omega), ← hj, hX, ← flat_drop Fl.cells 3 Fl.len, List.getElem?_drop]
    congr 1
    omega
  have hldc : (loadCellsFrom ⟨g, q, none⟩ 0 (r * 3) #[]).run Try.prog w.drew = .ok X.toArray w.drew := by simpa [Builtin.firstCells, loadCells] using hfc w.drew hg
  have hst : (storeCells ⟨g, i * 3, none⟩ X).run Try.prog w.drew = .ok () (w.drew.setRow g (cur.toList.take (i * 3) ++ X ++ cur.toList.drop (i * 3 + X.length)).toArray) := by
    have := run_storeCells_at Try.prog g (i * 3) 37 X 0 cur w.drew hg (by omega) hXone
    simpa using this
  have hap : ∀ ty, (Builtin.append_ #[25, 25] ty #[.slice (some ⟨g, 0, none⟩) i cap, .slice (some ⟨g, q, none⟩) r (cap - (i + 1))]).run Try.prog w.drew = .ok (.slice (some ⟨g, 0, none⟩) m cap) (w.drew.setRow g (cur.toList.take (i * 3) ++ X ++ cur.toList.drop (i * 3 + X.length)).toArray) := by
    intro ty
    have := run_append_room (P := Try.prog) w.drew 25 25 ty 37 i0 3 Try.underlying25 _ Try.underlying25 (.inr ⟨_, rfl⟩) hif hz1 g 0 i cap cur hg (by omega) (.slice (some ⟨g, q, none⟩) r (cap - (i + 1))) r X (fun w => lenOf_slice _ _ _ w) hlr (hfc w.drew hg) hXone (by omega)
    rw [hir] at this
    simpa using this
  have hg1 := setRow_heap w.drew g cur (cur.toList.take (i * 3) ++ X ++ cur.toList.drop (i * 3 + X.length)).toArray 37 (0, 0) hg
  have f1 : Fr (fun k => k = g) w (w.drew.setRow g (cur.toList.take (i * 3) ++ X ++ cur.toList.drop (i * 3 + X.length)).toArray) := Fr.setRow0 (S := fun k => k = g) (Fr.refl (fun k => k = g) w).drew (fun _ => rfl) _
  obtain ⟨w1, hw1⟩ : ∃ w1, w1 = w.drew.setRow g (cur.toList.take (i * 3) ++ X ++ cur.toList.drop (i * 3 + X.length)).toArray := ⟨_, rfl⟩
  rw [← hw1] at hap hg1 f1 hst
  clear hw1
  obtain ⟨w2, hcl, cs, hg2, hsz2, htk2, f2⟩ : ∃ w2, (∀ ty, (Builtin.clear_ #[25] ty #[.slice (some ⟨g, m * 3, none⟩) 1 (cap - m)]).run Try.prog w1 = .ok (.tuple #[]) w2) ∧ ∃ cs : Array Value, w2.heap[g]? = some (.cells cs 37 (0, 0)) ∧ cs.size = cap * 3 ∧
      cs.toList.take (m * 3) = (L.eraseIdx i).flatMap Fl.cells ∧ Fr (fun k => k = g) w w2 := by
    have hzs : (Builtin.zeroCells (Value.agg #[.int .i64 0, .slice none 0 0, .bool false]).cells 1).toList = [.int .i64 0, .slice none 0 0, .bool false] := by kernel_rfl
    have hcl := fun ty => run_clear_row (P := Try.prog) w1 25 37 ty _ _ Try.underlying25 zeroFl 1 (by omega) hzs (by simp [Value.oneCell']) g (m * 3) (cap - m) _ hg1 (by simp; omega)
    refine ⟨_, hcl, _, setRow_heap w1 g _ _ 37 (0, 0) hg1, ?_, ?_, Fr.setRow0 (S := fun k => k = g) f1 (fun _ => rfl) _⟩
    · simp
      omega
    · have e3 : (cur.toList.take (i * 3)) = (L.take i).flatMap Fl.cells := by
        rw [← flat_take Fl.cells 3 Fl.len, ← htk, List.take_take]
        congr 1
        omega
      have e4 : (L.eraseIdx i).flatMap Fl.cells = cur.toList.take (i * 3) ++ X := by
        rw [List.eraseIdx_eq_take_drop_succ, List.flatMap_append, e3, hX]
      have e5 : (cur.toList.take (i * 3) ++ X).length = m * 3 := by
        rw [List.length_append, List.length_take, hlr, Array.length_toList]
        omega
      rw [e4, List.append_assoc, List.take_append_of_le_length (by simp; omega), List.take_take, Nat.min_self]
      simp only [List.toList_toArray]
      rw [List.take_append_of_le_length (by omega), List.take_of_length_le (by omega)]
  have hne : ¬ ((i : Int) = (i : Int) + 1) := by omega
  have hEL : (L.eraseIdx i).length = m := by rw [List.length_eraseIdx, if_pos (by omega)]; omega
  have HC := Lib.hid hcs; clear hcs
  have HT := Lib.hid htk; clear htk
  have HG := Lib.hid hg; clear hg
  have HG1 := Lib.hid hg1; clear hg1
  have HG2 := Lib.hid hg2; clear hg2
  have HS2 := Lib.hid hsz2; clear hsz2
  have HT2 := Lib.hid htk2; clear htk2
  have F2 := Lib.hid f2; clear f2
  have F1 := Lib.hid f1; clear f1
  have HEL := Lib.hid hEL; clear hEL
  clear hq hfc hlen hX hld hcell hone hXone hif hz0 hz1 hz2
  have HCU := Lib.hid hcur; clear hcur
  have HLR := Lib.hid hlr; clear hlr
  have HL := Lib.hid hL; clear hL
  have HI := Lib.hid hir; clear hir hr
  have cl := hcl 0
  clear hap hcl
  have hroom : m ≤ cap := by omega
  have hir := HI.out
  go_enter Try.func15, Try.ntmps15
  go_wp2_with fail
  go_region
  go_wp2_with fail
  go_ret
  refine ⟨rfl, ?_, F2.out⟩
  unfold FlOwn
  rw [HEL.out]
  refine ⟨by rw [fl_length, HEL.out], .inr ⟨g, cap, _, rfl, hBg, HG2.out, by omega, hmx, HS2.out, HT2.out⟩⟩

/-- What a post is behind a flight that is taken. -/
def takeP (R : List PF) (i : Int) : List PF := if hasB i R.length then R.eraseIdx i.toNat else R

section
variable {w : World} {B b : Nat} {v : Value} {L : List Fl}

set_option maxHeartbeats 4000000 in
theorem take_none (p : Value) (i : Int) (w : World) (hn : Calls Try.prog 13 #[p, .int .i64 i] (w.alloc (oFl 0 nilS false)) fun e w' => e = .returned (.tuple #[flv 0 nilS false, .bool false]) ∧ Fr (fun _ => False) (w.alloc (oFl 0 nilS false)) w') :
    Calls Try.prog 9 #[p, .int .i64 i] w fun e w' => e = .returned (.tuple #[flv 0 nilS false, .bool false]) ∧ Fr (fun _ => False) w w' := by
  have q0 := heap_alloc_new w (oFl 0 nilS false)
  have f0 : Fr (fun _ => False) w (w.alloc (oFl 0 nilS false)) := (Fr.refl _ _).alloc _
  unfold flv at hn
  go_enter Try.func9, Try.ntmps9
  go_wp2_with fail
  generalize w.alloc (oFl 0 nilS false) = w0 at *
  generalize hg : w.heap.size = g at *
  have HG := Lib.hid hg; clear hg
  refine hn.mono ?_
  rintro e w1 ⟨rfl, f1⟩
  have q1 := crow_kept q0 f1 (fun h => h)
  have q2 := heap_alloc_new w1 (oFl 0 nilS false)
  have hgx : g ≠ w1.heap.size := by have := vt_lt q1; omega
  obtain ⟨c0, c1, c2⟩ := cell3 q1
  have z0 := vfree q1
  have hglt := vt_lt q1
  go_wp2_with fail
  refine bodyPost_ret (results_cell_tmp_row rfl _ _ g 37 #[.int .i64 0, nilS, .bool false] (0, 0) _ rfl ?hq Try.underlying37 rfl (by kernel_rfl)) rfl ?_
  case hq =>
    rw [Below.heap_alloc _ _ _ (by simpa using hglt)]
    exact cst3 q1
  exact ⟨rfl, (cfr3 (b := g) _ _ _ (f0.trans f1 (fun _ _ h => h)) (fun h => by have := HG.out; omega)).alloc _⟩

theorem take_nil (i : Int) (w : World) : Calls Try.prog 9 #[nilP, .int .i64 i] w fun e w' => e = .returned (.tuple #[flv 0 nilS false, .bool false]) ∧ Fr (fun _ => False) w w' :=
  take_none nilP i w (look_nil i _)

set_option maxHeartbeats 4000000 in
theorem take_some (h : PostIn w B b v L) (i m : Nat) (hm : L.length = m + 1) (hi : i < L.length) : Calls Try.prog 9 #[ptr b, .int .i64 i] w fun e w' => ∃ u, e = .returned (.tuple #[flv L[i].t u L[i].s, .bool true]) ∧ Sees w' u L[i].l ∧
    (∀ k, u.ownBlock = some k → w.heap.size ≤ k) ∧ ∃ v' L', PNew w w' B b v L v' L' ∧ (∀ k, u.ownBlock = some k → ¬ Pb b v' L' k) ∧ L' = L.eraseIdx i := by
  have q0 := heap_alloc_new w (oFl 0 nilS false)
  have f0 : Fr (fun _ => False) w (w.alloc (oFl 0 nilS false)) := (Fr.refl _ _).alloc _
  have hl := look_some (h.fr0 f0) i hi
  obtain ⟨x, hx⟩ : ∃ x, x = L[i] := ⟨_, rfl⟩
  rw [← hx] at hl ⊢
  clear hx
  have h0 := h.fr0 f0
  have H := Lib.hid h
  have hblt := (h.lt b (.inl rfl)).2
  obtain ⟨gr, cap, rfl, hle, _⟩ := h.at hi
  have hgr := (h.lt gr (.inr (.inl rfl))).2
  have hgb := (h.rowNe (k := gr) rfl).1
  have hap : ∀ y ∈ L, ∀ k, y.v.ownBlock = some k → k ≠ gr ∧ k ≠ b ∧ k < w.heap.size := fun y hy k hk => ⟨fun e => (h.rowNe (k := gr) rfl).2 y hy (by rw [hk, e]), h.bytesNe hy hk, (h.lt k (.inr (.inr ⟨y, hy, hk⟩))).2⟩
  have HAP := Lib.hid hap
  have hone : ∀ y ∈ L, y.v.oneCell' = true := fun y hy => by
    obtain ⟨a, c, e⟩ := slice_of_own (h.own y hy).1
    rw [e]; rfl
  have HONE := Lib.hid hone
  clear hone hap h
  unfold flv at hl
  go_enter Try.func9, Try.ntmps9
  go_wp2_with fail
  generalize w.alloc (oFl 0 nilS false) = w0 at *
  generalize hg : w.heap.size = g at *
  have HG := Lib.hid hg; clear hg
  refine hl.mono ?_
  clear hl
  rintro e w1 ⟨u, rfl, hmd⟩
  have q1 := crow_kept q0 hmd.2.1 (fun h => h)
  have h1 := h0.fr0 hmd.2.1
  obtain ⟨ua, uc, rfl⟩ := slice_of_own hmd.1
  have HU := Lib.hid (And.intro hmd (And.intro f0 (vt_lt q0)))
  have q2 := heap_alloc_new w1 (oFl x.t (.slice ua x.l.length uc) x.s)
  have q3 : (w1.alloc (oFl x.t (.slice ua x.l.length uc) x.s)).heap[g]? = some (oFl 0 nilS false) := by
    rw [Below.heap_alloc _ _ _ (vt_lt q1)]; exact q1
  have f2 : Fr (fun _ => False) w1 (w1.alloc (oFl x.t (.slice ua x.l.length uc) x.s)) := (Fr.refl _ _).alloc _
  have h2 := h1.fr0 f2
  have HF := Lib.hid (And.intro (hmd.1.fr f2 (fun _ _ h => h)) ((f0.trans hmd.2.1 (fun _ _ h => h)).trans f2 (fun _ _ h => h)))
  have hsz := hmd.2.1.size
  have hs0 := f0.size
  have hgx : g < w1.heap.size := vt_lt q1
  have hc := h2.cell
  have hw1i : IntKind.i64.wrap ((i : Int) + 1) = (i : Int) + 1 := by
    have := h2.many
    rw [IntKind.wrap_i64]
    omega
  clear q0 q1 hmd f0 f2 h0 h1
  have hrow : FlOwn (w1.alloc (oFl x.t (.slice ua x.l.length uc) x.s)) B (.slice (some ⟨gr, 0, none⟩) (m + 1) cap) L := by rw [← hm]; exact h2.row
  rw [hm] at hc
  have hm400 : m ≤ 400 := by have := h2.many; omega
  have HL := Lib.hid (And.intro hm (And.intro hm400 h2))
  clear hm hm400 h2
  go_wp2_with fail
  generalize hX : w1.heap.size = X at *
  generalize w1.alloc (oFl x.t (.slice ua x.l.length uc) x.s) = w2 at *
  refine (delete_any gr cap m i L w2 HL.out.1 HL.out.2.1 (by have := HL.out.1; omega) B HONE.out hrow).mono ?_
  rintro e w3 ⟨rfl, hrow3, f3⟩
  have q23 := crow_kept q2 f3 (by omega)
  have q33 := crow_kept q3 f3 (by omega)
  have hb3 := crow_kept HL.out.2.2.here f3 (fun e => hgb e.symm)
  obtain ⟨a0, a1, a2⟩ := cell3 q23
  obtain ⟨b0, b1, b2⟩ := cell3 q33
  have za := vfree q23
  have zb := vfree q33
  have zc := vfree hb3
  have hcb := crow hb3 0 _ rfl
  have hbX : b ≠ X := by omega
  have hbg : b ≠ g := by omega
  have hXg : X ≠ g := by omega
  have R3 := Lib.hid (And.intro hrow3 (And.intro f3 (And.intro q23 (And.intro q33 hb3))))
  clear hrow3 f3 q23 q33 hb3 hrow q2 q3 hc
  go_wp2_with fail
  refine bodyPost_ret (results_cell_tmp_row rfl _ _ g 37 #[.int .i64 x.t, .slice ua x.l.length uc, .bool x.s] (0, 0) _ rfl ?hq Try.underlying37 rfl (by kernel_rfl)) rfl ?_
  case hq => exact cst3 (by rw [Below.heap_setCell _ _ _ _ (fun e => hbg e.symm)]; exact R3.out.2.2.2.1)
  obtain ⟨hrow3, f3, q23, q33, hb3⟩ := R3.out
  have fA : Fr (fun k => k = b) w3 (w3.setCell ⟨b, 0, none⟩ (.slice (some ⟨gr, 0, none⟩) m cap)) := (Fr.refl (fun k => k = b) w3).set1 0 _
  have fB := cfr3 (b := g) (.int .i64 x.t) (.slice ua x.l.length uc) (.bool x.s) (Fr.refl (fun k => k = g) (w3.setCell ⟨b, 0, none⟩ (.slice (some ⟨gr, 0, none⟩) m cap))) (fun _ => rfl)
  have hbz : (w3.setCell ⟨b, 0, none⟩ (.slice (some ⟨gr, 0, none⟩) m cap)).heap[b]? = some (.cells #[.slice (some ⟨gr, 0, none⟩) m cap] 27 (0, 0)) := by rw [heap_setCell_same w3 b 0 _ _ _ hb3]; rfl
  have fAB : Fr (fun k => k = b ∨ k = g) w3 _ := fA.comp fB (fun _ h => .inl h) (fun _ h => .inr h)
  have hku : ∀ k, (Value.slice ua x.l.length uc).ownBlock = some k → g < k ∧ k < X := fun k hk => by
    have a1 := HU.out.1.2.2 k hk
    have a2 := HU.out.1.1.lt k hk
    have a3 := HU.out.2.2
    omega
  obtain ⟨hLm, hm4, hin⟩ := HL.out
  have hEL : (L.eraseIdx i).length = m := by rw [List.length_eraseIdx, if_pos (by omega)]; omega
  refine ⟨_, rfl, ?_, fun k hk => by have := hku k hk; have := HG.out; omega, .slice (some ⟨gr, 0, none⟩) m cap, L.eraseIdx i, ⟨⟨?_, hin.bB, ?_, fun y hy => ?_, ?_, by omega⟩, ?_, fun k hk => ?_⟩, fun k hk hp => ?_, rfl⟩
  · refine ((HF.out.1.fr f3 (fun k hk e => ?_)).fr fAB (fun k hk e => ?_)).sees
    · have := hku k hk; omega
    · have := hku k hk; omega
  · exact crow_kept hbz fB (fun e => hbg e)
  · exact ownsRow_fr hrow3 fAB (fun k hk e => by
      simp [Value.ownBlock] at hk
      omega)
  · have hyL := List.mem_of_mem_eraseIdx hy
    obtain ⟨k1, k2, k3⟩ := hin.own y hyL
    refine ⟨(k1.fr f3 (fun k hk e => (HAP.out y hyL k hk).1 e)).fr fAB (fun k hk e => ?_), k2, k3⟩
    have := HAP.out y hyL k hk
    omega
  · exact hin.ap.sublist (List.eraseIdx_sublist ..)
  · refine ((HF.out.2.mono (fun _ _ h => h.elim)).trans f3 (fun k hk e => ?_)).trans fAB (fun k hk e => ?_)
    · exact .inr (.inl (by rw [e]; rfl))
    · rcases e with e | e
      · exact .inl e
      · have := HG.out; omega
  · rcases hk with rfl | hk | ⟨y, hy, hk⟩
    · exact .inl (.inl rfl)
    · exact .inl (.inr (.inl hk))
    · exact .inl (.inr (.inr ⟨y, List.mem_of_mem_eraseIdx hy, hk⟩))
  · have a1 := hku k hk
    rcases hp with rfl | hk | ⟨y, hy, hk⟩
    · omega
    · simp [Value.ownBlock] at hk
      omega
    · have := HAP.out y (List.mem_of_mem_eraseIdx hy) k hk
      omega

theorem take_any (h : PostIn w B b v L) (i : Int) : Calls Try.prog 9 #[ptr b, .int .i64 i] w fun e w' => ∃ u, e = .returned (.tuple #[flv (lookP (L.map Fl.p) i).1 u (lookP (L.map Fl.p) i).2.2, .bool (hasB i L.length)]) ∧ Sees w' u (lookP (L.map Fl.p) i).2.1 ∧
    (∀ k, u.ownBlock = some k → w.heap.size ≤ k) ∧ ∃ v' L', PNew w w' B b v L v' L' ∧ (∀ k, u.ownBlock = some k → ¬ Pb b v' L' k) ∧ L'.map Fl.p = takeP (L.map Fl.p) i := by
  have hl : (L.map Fl.p).length = L.length := List.length_map ..
  cases hb : hasB i L.length with
  | true =>
    obtain ⟨j, rfl, hj, e⟩ := lookP_in hl hb
    have hj' : j < L.length := by omega
    rw [e, List.getElem_map]
    refine (take_some h j (L.length - 1) (by omega) hj').mono ?_
    rintro e w1 ⟨u, rfl, h1, h2, v', L', h3, h4, rfl⟩
    refine ⟨u, rfl, h1, h2, v', _, h3, h4, ?_⟩
    unfold takeP
    rw [hl, hb, if_pos rfl, List.eraseIdx_eq_take_drop_succ, List.eraseIdx_eq_take_drop_succ, List.map_append, List.map_take, List.map_drop]
    rfl
  | false =>
    rw [lookP_out hl hb]
    refine (take_none (ptr b) i w (look_out (h.fr0 ((Fr.refl (fun _ => False) w).alloc (oFl 0 nilS false))) i hb)).mono ?_
    rintro e w1 ⟨rfl, f⟩
    refine ⟨nilS, rfl, .inl ⟨rfl, none, 0, rfl⟩, (fun k hk => (by cases hk)), v, L, PNew.same h f, (fun k hk => (by cases hk)), ?_⟩
    unfold takeP
    rw [hl, hb]
    rfl
end
end Go.Proofs.Ytojfabhbkdddpaa
