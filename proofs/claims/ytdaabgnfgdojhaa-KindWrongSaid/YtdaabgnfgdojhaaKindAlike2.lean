/-
  package kind: whether two lists of procedures, two interfaces are the same.
-/
import Derived.Test.YtdaabgnfgdojhaaKindAlike
import Derived.Test.YtdaabgnfgdojhaaKindProcs
namespace Go.Proofs.Ytdaabgnfgdojhaa
open Go.RowKit

/-- Are two procedures the same? -/
def sameP (p q : KProc) : Bool := decide (p.name = q.name) && decide (p.number = q.number) && sameE p.takes q.takes && sameE p.answers q.answers && decide (p.collate = q.collate) && decide (p.timeout = q.timeout)

set_option maxRecDepth 100000 in
set_option maxHeartbeats 16000000 in
theorem proc_same {R : Nat → Prop} (p q : KProc) {x0 x1 x2 x3 y0 y1 y2 y3 z0 z1 z2 z3 v0 v1 v2 v3 : Value} {w : World} (hx : Shows R w p.takes (.agg #[x0, x1, x2, x3])) (hy : Shows R w p.answers (.agg #[y0, y1, y2, y3])) (hz : Shows R w q.takes (.agg #[z0, z1, z2, z3])) (hv : Shows R w q.answers (.agg #[v0, v1, v2, v3])) (hs1 : sz p.takes ≤ 100000) (hs2 : sz p.answers ≤ 100000) :
    Calls Try.prog 42 #[.agg #[sv p.name, .int .i64 p.number, x0, x1, x2, x3, y0, y1, y2, y3, .int .u8 p.collate, .int .i64 p.timeout], .agg #[sv q.name, .int .i64 q.number, z0, z1, z2, z3, v0, v1, v2, v3, .int .u8 q.collate, .int .i64 q.timeout]] w fun e w' => e = .returned (.bool (sameP p q)) ∧ Fr (fun _ => False) w w' := by
  have H := Lib.hid (And.intro hx (And.intro hy (And.intro hz hv)))
  obtain ⟨pk, pm, pa, pn, pc, pa2, pn2, pc2, rfl, rfl, rfl, rfl⟩ := hx.cells
  obtain ⟨rk, rm, ra, rn, rc, ra2, rn2, rc2, rfl, rfl, rfl, rfl⟩ := hy.cells
  obtain ⟨qk, qm, qa, qn, qc, qa2, qn2, qc2, rfl, rfl, rfl, rfl⟩ := hz.cells
  obtain ⟨sk, sm, sa, sn, sc, sa2, sn2, sc2, rfl, rfl, rfl, rfl⟩ := hv.cells
  clear hx hy hz hv
  unfold sv
  obtain ⟨w2, hw2⟩ : ∃ w2, w2 = (w.alloc (.cells #[.string ⟨p.name.toArray⟩, .int .i64 p.number, .int .u8 pk, .int .i64 pm, .slice pa pn pc, .slice pa2 pn2 pc2, .int .u8 rk, .int .i64 rm, .slice ra rn rc, .slice ra2 rn2 rc2, .int .u8 p.collate, .int .i64 p.timeout] 41)).alloc (.cells #[.string ⟨q.name.toArray⟩, .int .i64 q.number, .int .u8 qk, .int .i64 qm, .slice qa qn qc, .slice qa2 qn2 qc2, .int .u8 sk, .int .i64 sm, .slice sa sn sc, .slice sa2 sn2 sc2, .int .u8 q.collate, .int .i64 q.timeout] 41) := ⟨_, rfl⟩
  have f2 : Fr (fun _ => False) w w2 := by rw [hw2]; exact ((Fr.refl _ _).alloc _).alloc _
  have g2 : w2.heap[w.heap.size]? = some (.cells #[.string ⟨p.name.toArray⟩, .int .i64 p.number, .int .u8 pk, .int .i64 pm, .slice pa pn pc, .slice pa2 pn2 pc2, .int .u8 rk, .int .i64 rm, .slice ra rn rc, .slice ra2 rn2 rc2, .int .u8 p.collate, .int .i64 p.timeout] 41 (0, 0)) := by rw [hw2]; exact heap_alloc_first _ _ _
  have g3 : w2.heap[w.heap.size + 1]? = some (.cells #[.string ⟨q.name.toArray⟩, .int .i64 q.number, .int .u8 qk, .int .i64 qm, .slice qa qn qc, .slice qa2 qn2 qc2, .int .u8 sk, .int .i64 sm, .slice sa sn sc, .slice sa2 sn2 sc2, .int .u8 q.collate, .int .i64 q.timeout] 41 (0, 0)) := by rw [hw2]; exact heap_alloc_two _ _ _
  have G := Lib.hid (And.intro f2 (And.intro g2 g3))
  have hsm := same_any R p.takes q.takes _ _ w2 (Shows.fr f2 (fun _ _ h => h) _ _ H.out.1) (Shows.fr f2 (fun _ _ h => h) _ _ H.out.2.2.1) hs1
  have hsn : ∀ w3, Fr (fun _ => False) w2 w3 → Calls Try.prog 22 #[.agg #[.int .u8 rk, .int .i64 rm, .slice ra rn rc, .slice ra2 rn2 rc2], .agg #[.int .u8 sk, .int .i64 sm, .slice sa sn sc, .slice sa2 sn2 sc2]] w3 fun e w' => e = .returned (.bool (sameE p.answers q.answers)) ∧ Fr (fun _ => False) w3 w' := fun w3 f3 =>
    same_any R p.answers q.answers _ _ w3 (Shows.fr (f2.trans f3 (fun _ _ h => h)) (fun _ _ h => h) _ _ H.out.2.1) (Shows.fr (f2.trans f3 (fun _ _ h => h)) (fun _ _ h => h) _ _ H.out.2.2.2) hs2
  have HSN := Lib.hid hsn
  rw [hw2] at hsm
  clear f2 g2 g3 hsn
  by_cases e1 : p.name = q.name
  case neg =>
    have b1 : (p.name == q.name) = false := by simpa using e1
    have E : Hid (sameP p q = false) := Lib.hid (by unfold sameP; rw [decide_eq_false e1]; rfl)
    clear e1 hsm
    go_enter Try.func42, Try.ntmps42
    go_wp2
    go_ret
    rw [E.out, ← hw2]
    exact ⟨rfl, G.out.1⟩
  have b1 : (p.name == q.name) = true := by simpa using e1
  have E1 := Lib.hid e1
  clear e1
  by_cases e2 : p.number = q.number
  case neg =>
    have b2 : (p.number == q.number) = false := by simpa using e2
    have E : Hid (sameP p q = false) := Lib.hid (by unfold sameP; rw [decide_eq_false e2]; simp)
    clear e2 hsm
    go_enter Try.func42, Try.ntmps42
    go_wp2
    go_ret
    rw [E.out, ← hw2]
    exact ⟨rfl, G.out.1⟩
  have b2 : (p.number == q.number) = true := by simpa using e2
  have E2 := Lib.hid e2
  clear e2
  have HW2 := Lib.hid hw2
  clear hw2
  cases e3 : sameE p.takes q.takes with
  | false =>
    rw [e3] at hsm
    have E : Hid (sameP p q = false) := Lib.hid (by unfold sameP; rw [e3]; simp)
    clear e3
    go_enter Try.func42, Try.ntmps42
    go_wp2_with fail
    refine hsm.mono ?_
    rintro e w3 ⟨rfl, f3⟩
    rw [← HW2.out] at f3
    have F3 := Lib.hid f3
    clear f3 hsm
    go_wp2
    go_ret
    rw [E.out]
    exact ⟨rfl, G.out.1.trans F3.out (fun _ _ h => h)⟩
  | true =>
    rw [e3] at hsm
    have E3 := Lib.hid e3
    clear e3
    go_enter Try.func42, Try.ntmps42
    go_wp2_with fail
    refine hsm.mono ?_
    rintro e w3 ⟨rfl, f3⟩
    rw [← HW2.out] at f3
    have k2 := box_kept G.out.2.1 f3 (fun h => h)
    have k3 := box_kept G.out.2.2 f3 (fun h => h)
    have a6 := cells_row k2 6 _ rfl
    have a7 := cells_row k2 7 _ rfl
    have a8 := cells_row k2 8 _ rfl
    have a9 := cells_row k2 9 _ rfl
    have c6 := cells_row k3 6 _ rfl
    have c7 := cells_row k3 7 _ rfl
    have c8 := cells_row k3 8 _ rfl
    have c9 := cells_row k3 9 _ rfl
    have hs4 := HSN.out w3 f3
    have F3 := Lib.hid (And.intro f3 (And.intro k2 k3))
    clear f3 hsm k2 k3
    cases e4 : sameE p.answers q.answers with
    | false =>
      rw [e4] at hs4
      have E : Hid (sameP p q = false) := Lib.hid (by unfold sameP; rw [e4]; simp)
      clear e4
      go_wp2_with fail
      refine hs4.mono ?_
      rintro e w4 ⟨rfl, f4⟩
      have F4 := Lib.hid f4
      clear f4 hs4
      go_wp2
      go_ret
      rw [E.out]
      exact ⟨rfl, (G.out.1.trans F3.out.1 (fun _ _ h => h)).trans F4.out (fun _ _ h => h)⟩
    | true =>
      rw [e4] at hs4
      have E4 := Lib.hid e4
      clear e4
      go_wp2_with fail
      refine hs4.mono ?_
      rintro e w4 ⟨rfl, f4⟩
      have k2 := box_kept F3.out.2.1 f4 (fun h => h)
      have k3 := box_kept F3.out.2.2 f4 (fun h => h)
      have a10 := cells_row k2 10 _ rfl
      have a11 := cells_row k2 11 _ rfl
      have c10 := cells_row k3 10 _ rfl
      have c11 := cells_row k3 11 _ rfl
      have F4 := Lib.hid f4
      clear f4 hs4 k2 k3 a6 a7 a8 a9 c6 c7 c8 c9
      have hlast : sameP p q = (decide (p.collate = q.collate) && decide (p.timeout = q.timeout)) := by
        unfold sameP; rw [decide_eq_true E1.out, decide_eq_true E2.out, E3.out, E4.out]; rfl
      have HLast := Lib.hid hlast
      clear hlast
      have three : ((p.collate : Int) == (q.collate : Int)) = true ∧ (p.timeout == q.timeout) = true ∧ Hid (sameP p q = true) ∨ ((p.collate : Int) == (q.collate : Int)) = true ∧ (p.timeout == q.timeout) = false ∧ Hid (sameP p q = false) ∨ ((p.collate : Int) == (q.collate : Int)) = false ∧ Hid (sameP p q = false) := by
        by_cases h1 : p.collate = q.collate
        · by_cases h2 : p.timeout = q.timeout
          · exact .inl ⟨by simp [h1], by simp [h2], Lib.hid (by rw [HLast.out, decide_eq_true h1, decide_eq_true h2]; rfl)⟩
          · exact .inr (.inl ⟨by simp [h1], by simpa using h2, Lib.hid (by rw [HLast.out, decide_eq_false h2]; simp)⟩)
        · exact .inr (.inr ⟨by simp; omega, Lib.hid (by rw [HLast.out, decide_eq_false h1]; rfl)⟩)
      rcases three with ⟨g1, g2, HB⟩ | ⟨g1, g2, HB⟩ | ⟨g1, HB⟩ <;>
      (go_wp2
       go_ret
       rw [HB.out]
       exact ⟨rfl, (G.out.1.trans F3.out.1 (fun _ _ h => h)).trans F4.out (fun _ _ h => h)⟩)

set_option maxRecDepth 100000 in
set_option maxHeartbeats 8000000 in
theorem equalProcs (R : Nat → Prop) (l1 l2 : List KProc) (v1 v2 : Value) (w : World) (h1 : Procs R w l1 v1) (h2 : Procs R w l2 v2) (hs : ∀ x ∈ l1, sz x.takes ≤ 100000 ∧ sz x.answers ≤ 100000) :
    Calls Try.prog 41 #[v1, v2, .func (.func 42) #[] #[]] w fun e w' => e = .returned (.bool (eqBy sameP noProc l1 l2)) ∧ Fr (fun _ => False) w w' := by
  have q1 : l1.length ≤ 1000 := h1.1
  have q2 : l2.length ≤ 1000 := h2.1
  have HS := Lib.hid hs
  obtain ⟨a1, c1, rfl, s1⟩ := h1.shape
  obtain ⟨a2, c2, rfl, s2⟩ := h2.shape
  have S1 := Lib.hid s1
  have S2 := Lib.hid s2
  clear s1 s2 h1 h2 hs
  by_cases hl : l1.length = l2.length
  · have HL := Lib.hid hl
    clear hl
    obtain ⟨n, hn⟩ : ∃ n, n = l1.length := ⟨_, rfl⟩
    have HN := Lib.hid hn
    rw [← HL.out, ← hn]
    clear hn
    have hn1 : n ≤ 1000 := by rw [HN.out]; exact q1
    clear q1 q2
    go_enter Try.func41, Try.ntmps41
    go_wp2
    go_loopg [7, 8, 9, 17] n (fun G u7 u8 u9 u17 wr => ∃ k : Nat, k ≤ n ∧ G = n - k ∧ u17 = .int .i64 k ∧ Hid ((∀ j, j < k → sameP (l1.getD j noProc) (l2.getD j noProc) = true) ∧ Fr (fun _ => False) w wr))
    case atStart => exact ⟨0, Nat.zero_le _, rfl, by go_num, Lib.hid ⟨fun j hj => by omega, Fr.refl _ _⟩⟩
    case round =>
      obtain ⟨k, hk, rfl, rfl, HI⟩ := hrel
      by_cases hlt : k < n
      · obtain ⟨p, hd1⟩ : ∃ d, l1[k]? = some d := ⟨_, List.getElem?_eq_getElem (by rw [← HN.out]; exact hlt)⟩
        obtain ⟨q, hd2⟩ : ∃ d, l2[k]? = some d := ⟨_, List.getElem?_eq_getElem (by rw [← HL.out, ← HN.out]; exact hlt)⟩
        rcases S1.out with hz | ⟨hc1, g1, o1, _, rfl, e1⟩
        · have := HN.out; omega
        rcases S2.out with hz | ⟨hc2, g2, o2, _, rfl, e2⟩
        · have := HN.out; have := HL.out; omega
        obtain ⟨x0, x1, x2, x3, y0, y1, y2, y3, p', hx, hy⟩ := e1 k _ hd1
        obtain ⟨z0, z1, z2, z3, v0, v1, v2, v3, q', hz, hv⟩ := e2 k _ hd2
        have p' : ∀ i u, (procCells p x0 x1 x2 x3 y0 y1 y2 y3)[i]? = some u → wr.cell? ⟨g1, o1 + k * 12 + i, none⟩ = some u := fun i u hi => cell_fr (R := fun _ => True) HI.out.2 (fun _ _ h => h) trivial (p' i u hi)
        have q' : ∀ i u, (procCells q z0 z1 z2 z3 v0 v1 v2 v3)[i]? = some u → wr.cell? ⟨g2, o2 + k * 12 + i, none⟩ = some u := fun i u hi => cell_fr (R := fun _ => True) HI.out.2 (fun _ _ h => h) trivial (q' i u hi)
        obtain ⟨p0, p1, p2, p3, p4, p5, p6, p7, p8, p9, p10, p11⟩ := proc_cells p'
        obtain ⟨q0, q1, q2, q3, q4, q5, q6, q7, q8, q9, q10, q11⟩ := proc_cells q'
        obtain ⟨pk, pm, pa, pn, pc, pa2, pn2, pc2, rfl, rfl, rfl, rfl⟩ := hx.cells
        obtain ⟨rk, rm, ra, rn, rc, ra2, rn2, rc2, rfl, rfl, rfl, rfl⟩ := hy.cells
        obtain ⟨qk, qm, qa, qn, qc, qa2, qn2, qc2, rfl, rfl, rfl, rfl⟩ := hz.cells
        obtain ⟨sk, sm, sa, sn, sc, sa2, sn2, sc2, rfl, rfl, rfl, rfl⟩ := hv.cells
        have fb : Fr (fun _ => False) w ((wr.alloc (.cells #[sv p.name, .int .i64 p.number, .int .u8 pk, .int .i64 pm, .slice pa pn pc, .slice pa2 pn2 pc2, .int .u8 rk, .int .i64 rm, .slice ra rn rc, .slice ra2 rn2 rc2, .int .u8 p.collate, .int .i64 p.timeout] 41)).alloc (.cells #[sv q.name, .int .i64 q.number, .int .u8 qk, .int .i64 qm, .slice qa qn qc, .slice qa2 qn2 qc2, .int .u8 sk, .int .i64 sm, .slice sa sn sc, .slice sa2 sn2 sc2, .int .u8 q.collate, .int .i64 q.timeout] 41)) := (HI.out.2.alloc _).alloc _
        have hfn := proc_same p q (Shows.fr fb (fun _ _ h => h) _ _ hx) (Shows.fr fb (fun _ _ h => h) _ _ hy) (Shows.fr fb (fun _ _ h => h) _ _ hz) (Shows.fr fb (fun _ _ h => h) _ _ hv) (HS.out _ (List.mem_of_getElem? hd1)).1 (HS.out _ (List.mem_of_getElem? hd1)).2
        have ng0 : g2 < wr.heap.size := World.block_lt_of_cell? wr _ q0
        have ng1 : g2 ≠ wr.heap.size := by omega
        have hgd1 : l1.getD k noProc = p := by rw [List.getD_eq_getElem?_getD, hd1]; rfl
        have hgd2 : l2.getD k noProc = q := by rw [List.getD_eq_getElem?_getD, hd2]; rfl
        have HG := Lib.hid (And.intro hgd1 hgd2)
        have FB := Lib.hid fb
        clear e1 e2 hx hy hz hv hd1 hd2 hgd1 hgd2 fb hc1 hc2 p' q'
        unfold sv at *
        have i1 : (k : Int) < (n : Int) := by omega
        have i0 : (0 : Int) ≤ (k : Int) := by omega
        cases hB : sameP p q with
        | true =>
          rw [hB] at hfn
          have HB := Lib.hid hB
          clear hB
          go_wp2_with fail
          refine hfn.mono ?_
          rintro e w5 ⟨rfl, f5⟩
          have F5 := Lib.hid f5
          clear f5 hfn
          go_wp2
          go_roundg (n - (k + 1))
          case measure => omega
          case rel => exact ⟨k + 1, by omega, rfl, by go_num, Lib.hid ⟨fun j hj => by
            by_cases h : j < k
            · exact HI.out.1 j h
            · obtain rfl : j = k := by omega
              rw [HG.out.1, HG.out.2]; exact HB.out, FB.out.trans F5.out (fun _ _ h => h)⟩⟩
        | false =>
          rw [hB] at hfn
          have HB := Lib.hid hB
          clear hB
          go_wp2_with fail
          refine hfn.mono ?_
          rintro e w5 ⟨rfl, f5⟩
          have F5 := Lib.hid f5
          clear f5 hfn
          go_wp2
          go_ret
          exact ⟨ret_bool (eqBy_stop sameP _ l1 l2 k (by rw [← HN.out]; exact hlt) (by rw [HG.out.1, HG.out.2]; exact HB.out)).symm, FB.out.trans F5.out (fun _ _ h => h)⟩
      · obtain rfl : k = n := by omega
        go_wp2
        go_ret
        exact ⟨ret_bool (eqBy_all sameP _ l1 l2 HL.out (by rw [← HN.out]; exact HI.out.1)).symm, HI.out.2⟩
  · have b1 : ((l1.length : Int) == (l2.length : Int)) = false := by simp; omega
    have b2 : ((l1.length : Int) != (l2.length : Int)) = true := by unfold bne; rw [b1]; rfl
    have HL := Lib.hid hl
    clear hl
    go_enter Try.func41, Try.ntmps41
    go_wp2
    go_ret
    exact ⟨ret_bool (eqBy_len sameP _ l1 l2 HL.out).symm, Fr.refl _ _⟩

/-- ARE TWO INTERFACES THE SAME? -/
def alikeE (t u : KTab) : Bool := decide (t.name = u.name) && decide (t.number = u.number) && decide (t.version = u.version) && eqBy sameA ([], .nil) t.types u.types && eqBy sameF ([], 0) t.faults u.faults && eqBy sameP noProc t.procs u.procs

end Go.Proofs.Ytdaabgnfgdojhaa
