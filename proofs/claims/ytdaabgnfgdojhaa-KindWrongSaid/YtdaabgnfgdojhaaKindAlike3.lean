/-
  package kind: Alike.
-/
import Derived.Test.YtdaabgnfgdojhaaKindAlike2
namespace Go.Proofs.Ytdaabgnfgdojhaa
open Go.RowKit

set_option maxRecDepth 100000 in
set_option maxHeartbeats 16000000 in
theorem alike_any (R : Nat → Prop) (t u : KTab) (v1 v2 : Value) (w : World) (h1 : Tabled R w t v1) (h2 : Tabled R w u v2) (hs : ∀ x ∈ t.types, sz x.2 ≤ 100000) (hp : ∀ x ∈ t.procs, sz x.takes ≤ 100000 ∧ sz x.answers ≤ 100000) :
    Calls Try.prog 17 #[v1, v2] w fun e w' => e = .returned (.bool (alikeE t u)) ∧ Fr (fun _ => False) w w' := by
  obtain ⟨tv, fv, pv, rfl, _, hal, hfl, hpl⟩ := h1
  obtain ⟨uv, gv, qv, rfl, _, hbl, hgl, hql⟩ := h2
  have H := Lib.hid (And.intro hal (And.intro hbl (And.intro hfl (And.intro hgl (And.intro hpl hql)))))
  obtain ⟨ta, tc, rfl, _⟩ := hal.shape
  obtain ⟨fa, fc, rfl, _⟩ := hfl.shape
  obtain ⟨pa, pc, rfl, _⟩ := hpl.shape
  obtain ⟨ub, uc, rfl, _⟩ := hbl.shape
  obtain ⟨gb, gc, rfl, _⟩ := hgl.shape
  obtain ⟨qb, qc, rfl, _⟩ := hql.shape
  clear hal hbl hfl hgl hpl hql
  unfold sv
  obtain ⟨w2, hw2⟩ : ∃ w2, w2 = (w.alloc (.cells #[.string ⟨t.name.toArray⟩, .int .i64 t.number, .int .i64 t.version, .slice ta t.types.length tc, .slice fa t.faults.length fc, .slice pa t.procs.length pc] 32)).alloc (.cells #[.string ⟨u.name.toArray⟩, .int .i64 u.number, .int .i64 u.version, .slice ub u.types.length uc, .slice gb u.faults.length gc, .slice qb u.procs.length qc] 32) := ⟨_, rfl⟩
  have f2 : Fr (fun _ => False) w w2 := by rw [hw2]; exact ((Fr.refl _ _).alloc _).alloc _
  have g2 : w2.heap[w.heap.size]? = some (.cells #[.string ⟨t.name.toArray⟩, .int .i64 t.number, .int .i64 t.version, .slice ta t.types.length tc, .slice fa t.faults.length fc, .slice pa t.procs.length pc] 32 (0, 0)) := by rw [hw2]; exact heap_alloc_first _ _ _
  have g3 : w2.heap[w.heap.size + 1]? = some (.cells #[.string ⟨u.name.toArray⟩, .int .i64 u.number, .int .i64 u.version, .slice ub u.types.length uc, .slice gb u.faults.length gc, .slice qb u.procs.length qc] 32 (0, 0)) := by rw [hw2]; exact heap_alloc_two _ _ _
  have G := Lib.hid (And.intro f2 (And.intro g2 g3))
  have ht1 := equalAliases R t.types u.types _ _ w2 (H.out.1.fr f2 (fun _ _ h => h)) (H.out.2.1.fr f2 (fun _ _ h => h)) hs
  have HF := Lib.hid (fun (w3 : World) (f3 : Fr (fun _ => False) w2 w3) => equalFaults R t.faults u.faults _ _ w3 (H.out.2.2.1.fr (f2.trans f3 (fun _ _ h => h)) (fun _ _ h => h)) (H.out.2.2.2.1.fr (f2.trans f3 (fun _ _ h => h)) (fun _ _ h => h)))
  have HPR := Lib.hid (fun (w3 : World) (f3 : Fr (fun _ => False) w2 w3) => equalProcs R t.procs u.procs _ _ w3 (H.out.2.2.2.2.1.fr (f2.trans f3 (fun _ _ h => h)) (fun _ _ h => h)) (H.out.2.2.2.2.2.fr (f2.trans f3 (fun _ _ h => h)) (fun _ _ h => h)) hp)
  rw [hw2] at ht1
  clear f2 g2 g3 hs hp
  by_cases e1 : t.name = u.name
  case neg =>
    have b1 : (t.name == u.name) = false := by simpa using e1
    have E : Hid (alikeE t u = false) := Lib.hid (by unfold alikeE; rw [decide_eq_false e1]; rfl)
    clear e1 ht1
    go_enter Try.func17, Try.ntmps17
    go_wp2
    go_ret
    rw [E.out, ← hw2]
    exact ⟨rfl, G.out.1⟩
  have b1 : (t.name == u.name) = true := by simpa using e1
  have E1 := Lib.hid e1
  clear e1
  by_cases e2 : t.number = u.number
  case neg =>
    have b2 : (t.number == u.number) = false := by simpa using e2
    have E : Hid (alikeE t u = false) := Lib.hid (by unfold alikeE; rw [decide_eq_false e2]; simp)
    clear e2 ht1
    go_enter Try.func17, Try.ntmps17
    go_wp2
    go_ret
    rw [E.out, ← hw2]
    exact ⟨rfl, G.out.1⟩
  have b2 : (t.number == u.number) = true := by simpa using e2
  have E2 := Lib.hid e2
  clear e2
  by_cases e3 : t.version = u.version
  case neg =>
    have b3 : (t.version == u.version) = false := by simpa using e3
    have E : Hid (alikeE t u = false) := Lib.hid (by unfold alikeE; rw [decide_eq_false e3]; simp)
    clear e3 ht1
    go_enter Try.func17, Try.ntmps17
    go_wp2
    go_ret
    rw [E.out, ← hw2]
    exact ⟨rfl, G.out.1⟩
  have b3 : (t.version == u.version) = true := by simpa using e3
  have E3 := Lib.hid e3
  clear e3
  have HW2 := Lib.hid hw2
  clear hw2
  cases e4 : eqBy sameA ([], .nil) t.types u.types with
  | false =>
    rw [e4] at ht1
    have E : Hid (alikeE t u = false) := Lib.hid (by unfold alikeE; rw [e4]; simp)
    clear e4
    go_enter Try.func17, Try.ntmps17
    go_wp2_with fail
    refine ht1.mono ?_
    rintro e w3 ⟨rfl, f3⟩
    rw [← HW2.out] at f3
    have F3 := Lib.hid f3
    clear f3 ht1
    go_wp2
    go_ret
    rw [E.out]
    exact ⟨rfl, G.out.1.trans F3.out (fun _ _ h => h)⟩
  | true =>
    rw [e4] at ht1
    have E4 := Lib.hid e4
    clear e4
    go_enter Try.func17, Try.ntmps17
    go_wp2_with fail
    refine ht1.mono ?_
    rintro e w3 ⟨rfl, f3⟩
    rw [← HW2.out] at f3
    have k2 := box_kept G.out.2.1 f3 (fun h => h)
    have k3 := box_kept G.out.2.2 f3 (fun h => h)
    have a4 := cells_row k2 4 _ rfl
    have c4 := cells_row k3 4 _ rfl
    have hf := HF.out w3 f3
    have F3 := Lib.hid (And.intro f3 (And.intro k2 k3))
    clear f3 ht1 k2 k3
    cases e5 : eqBy sameF ([], 0) t.faults u.faults with
    | false =>
      rw [e5] at hf
      have E : Hid (alikeE t u = false) := Lib.hid (by unfold alikeE; rw [e5]; simp)
      clear e5
      go_wp2_with fail
      refine hf.mono ?_
      rintro e w4 ⟨rfl, f4⟩
      have F4 := Lib.hid f4
      clear f4 hf
      go_wp2
      go_ret
      rw [E.out]
      exact ⟨rfl, (G.out.1.trans F3.out.1 (fun _ _ h => h)).trans F4.out (fun _ _ h => h)⟩
    | true =>
      rw [e5] at hf
      have E5 := Lib.hid e5
      clear e5
      go_wp2_with fail
      refine hf.mono ?_
      rintro e w4 ⟨rfl, f4⟩
      have k2 := box_kept F3.out.2.1 f4 (fun h => h)
      have k3 := box_kept F3.out.2.2 f4 (fun h => h)
      have a5 := cells_row k2 5 _ rfl
      have c5 := cells_row k3 5 _ rfl
      have hpr := HPR.out w4 (F3.out.1.trans f4 (fun _ _ h => h))
      have F4 := Lib.hid f4
      clear f4 hf k2 k3 a4 c4
      have hlast : alikeE t u = eqBy sameP noProc t.procs u.procs := by
        unfold alikeE; rw [decide_eq_true E1.out, decide_eq_true E2.out, decide_eq_true E3.out, E4.out, E5.out]; rfl
      have HLast := Lib.hid hlast
      clear hlast
      obtain ⟨B, hB⟩ : ∃ B, B = eqBy sameP noProc t.procs u.procs := ⟨_, rfl⟩
      rw [← hB] at hpr
      have HB := Lib.hid hB
      clear hB
      cases B <;>
      (go_wp2_with fail
       refine hpr.mono ?_
       rintro e w5 ⟨rfl, f5⟩
       have F5 := Lib.hid f5
       clear f5 hpr
       go_wp2
       go_ret
       rw [HLast.out, ← HB.out]
       exact ⟨rfl, ((G.out.1.trans F3.out.1 (fun _ _ h => h)).trans F4.out (fun _ _ h => h)).trans F5.out (fun _ _ h => h)⟩)

end Go.Proofs.Ytdaabgnfgdojhaa
