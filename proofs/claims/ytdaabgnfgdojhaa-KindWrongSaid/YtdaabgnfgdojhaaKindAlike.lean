/-
  package kind: whether two lists of aliases are the same.
-/
import Derived.Test.YtdaabgnfgdojhaaKindSame
namespace Go.Proofs.Ytdaabgnfgdojhaa
open Go.RowKit

/-- Are two aliases the same? -/
def sameA (x y : Txt × KT) : Bool := decide (x.1 = y.1) && sameE x.2 y.2

/-- Are two lists, each to each? -/
def eqBy {α : Type} (f : α → α → Bool) (d : α) (l m : List α) : Bool := decide (l.length = m.length) && (List.range l.length).all fun i => f (l.getD i d) (m.getD i d)

theorem eqBy_len {α : Type} (f : α → α → Bool) (d : α) (l m : List α) (h : l.length ≠ m.length) : eqBy f d l m = false := by
  unfold eqBy; rw [decide_eq_false h]; rfl

theorem eqBy_stop {α : Type} (f : α → α → Bool) (d : α) (l m : List α) (i : Nat) (hi : i < l.length) (h : f (l.getD i d) (m.getD i d) = false) : eqBy f d l m = false := by
  unfold eqBy
  have : (List.range l.length).all (fun i => f (l.getD i d) (m.getD i d)) = false := by
    rw [List.all_eq_false]
    exact ⟨i, List.mem_range.2 hi, by simpa using h⟩
  rw [this, Bool.and_false]

theorem eqBy_all {α : Type} (f : α → α → Bool) (d : α) (l m : List α) (hl : l.length = m.length) (h : ∀ i, i < l.length → f (l.getD i d) (m.getD i d) = true) : eqBy f d l m = true := by
  unfold eqBy
  rw [decide_eq_true hl, Bool.true_and, List.all_eq_true]
  exact fun i hi => h i (List.mem_range.1 hi)

set_option maxRecDepth 100000 in
set_option maxHeartbeats 8000000 in
theorem alias_same {R : Nat → Prop} {t1 t2 : KT} {x0 x1 x2 x3 y0 y1 y2 y3 : Value} {w : World} (d1 d2 : Txt) (hx : Shows R w t1 (.agg #[x0, x1, x2, x3])) (hy : Shows R w t2 (.agg #[y0, y1, y2, y3])) (hs : sz t1 ≤ 100000) :
    Calls Try.prog 39 #[.agg #[sv d1, x0, x1, x2, x3], .agg #[sv d2, y0, y1, y2, y3]] w fun e w' => e = .returned (.bool (sameA (d1, t1) (d2, t2))) ∧ Fr (fun _ => False) w w' := by
  have HX := Lib.hid hx
  have HY := Lib.hid hy
  obtain ⟨pk, pm, pa, pn, pc, pa2, pn2, pc2, rfl, rfl, rfl, rfl⟩ := hx.cells
  obtain ⟨qk, qm, qa, qn, qc, qa2, qn2, qc2, rfl, rfl, rfl, rfl⟩ := hy.cells
  clear hx hy
  have f2 : Fr (fun _ => False) w ((w.alloc (.cells #[sv d1, .int .u8 pk, .int .i64 pm, .slice pa pn pc, .slice pa2 pn2 pc2] 49)).alloc (.cells #[sv d2, .int .u8 qk, .int .i64 qm, .slice qa qn qc, .slice qa2 qn2 qc2] 49)) := ((Fr.refl _ _).alloc _).alloc _
  have hsm := same_any R t1 t2 _ _ _ (Shows.fr f2 (fun _ _ h => h) _ _ HX.out) (Shows.fr f2 (fun _ _ h => h) _ _ HY.out) hs
  have F2 := Lib.hid f2
  clear f2
  unfold sv at *
  by_cases he : d1 = d2
  · have b1 : (d1 == d2) = true := by simpa using he
    have E : Hid (sameA (d1, t1) (d2, t2) = sameE t1 t2) := Lib.hid (by unfold sameA; rw [decide_eq_true he]; rfl)
    clear he
    obtain ⟨B, hB⟩ : ∃ B, B = sameE t1 t2 := ⟨_, rfl⟩
    rw [← hB] at hsm E
    clear hB
    cases B <;>
    (go_enter Try.func39, Try.ntmps39
     go_wp2_with fail
     refine hsm.mono ?_
     rintro e w' ⟨rfl, f3⟩
     have F3 := Lib.hid f3
     clear f3 hsm
     go_wp2
     go_ret
     rw [E.out]
     exact ⟨rfl, F2.out.trans F3.out (fun _ _ h => h)⟩)
  · have b1 : (d1 == d2) = false := by simpa using he
    have E : Hid (sameA (d1, t1) (d2, t2) = false) := Lib.hid (by unfold sameA; rw [decide_eq_false he]; rfl)
    clear he hsm
    go_enter Try.func39, Try.ntmps39
    go_wp2
    go_ret
    rw [E.out]
    exact ⟨rfl, F2.out⟩

set_option maxRecDepth 100000 in
set_option maxHeartbeats 8000000 in
theorem equalAliases (R : Nat → Prop) (l1 l2 : List (Txt × KT)) (v1 v2 : Value) (w : World) (h1 : Aliases R w l1 v1) (h2 : Aliases R w l2 v2) (hs : ∀ x ∈ l1, sz x.2 ≤ 100000) :
    Calls Try.prog 38 #[v1, v2, .func (.func 39) #[] #[]] w fun e w' => e = .returned (.bool (eqBy sameA ([], .nil) l1 l2)) ∧ Fr (fun _ => False) w w' := by
  have q1 : l1.length ≤ 1000 := h1.1
  have q2 : l2.length ≤ 1000 := h2.1
  have HS := Lib.hid hs
  obtain ⟨a1, c1, rfl, s1⟩ := h1.shape
  obtain ⟨a2, c2, rfl, s2⟩ := h2.shape
  have S1 := Lib.hid s1
  have S2 := Lib.hid s2
  clear s1 s2 h1 h2 hs
  by_cases hl : l1.length = l2.length
  · have HL := Lib.hid hl
    clear hl
    obtain ⟨n, hn⟩ : ∃ n, n = l1.length := ⟨_, rfl⟩
    have HN := Lib.hid hn
    rw [← HL.out, ← hn]
    clear hn
    have hn1 : n ≤ 1000 := by rw [HN.out]; exact q1
    clear q1 q2
    go_enter Try.func38, Try.ntmps38
    go_wp2
    go_loopg [7, 8, 9, 17] n (fun G u7 u8 u9 u17 wr => ∃ k : Nat, k ≤ n ∧ G = n - k ∧ u17 = .int .i64 k ∧ Hid ((∀ j, j < k → sameA (l1.getD j ([], .nil)) (l2.getD j ([], .nil)) = true) ∧ Fr (fun _ => False) w wr))
    case atStart => exact ⟨0, Nat.zero_le _, rfl, by go_num, Lib.hid ⟨fun j hj => by omega, Fr.refl _ _⟩⟩
    case round =>
      obtain ⟨k, hk, rfl, rfl, HI⟩ := hrel
      by_cases hlt : k < n
      · obtain ⟨d1, t1, hd1⟩ : ∃ d t, l1[k]? = some (d, t) := ⟨_, _, List.getElem?_eq_getElem (by rw [← HN.out]; exact hlt)⟩
        obtain ⟨d2, t2, hd2⟩ : ∃ d t, l2[k]? = some (d, t) := ⟨_, _, List.getElem?_eq_getElem (by rw [← HL.out, ← HN.out]; exact hlt)⟩
        rcases S1.out with hz | ⟨hc1, g1, o1, _, rfl, e1⟩
        · have := HN.out; omega
        rcases S2.out with hz | ⟨hc2, g2, o2, _, rfl, e2⟩
        · have := HN.out; have := HL.out; omega
        obtain ⟨x0, x1, x2, x3, p, p0, p1, p2, p3, hx⟩ := e1 k _ hd1
        obtain ⟨y0, y1, y2, y3, q, q0, q1, q2, q3, hy⟩ := e2 k _ hd2
        have up : ∀ {gg o : Nat} {u : Value}, w.cell? ⟨gg, o, none⟩ = some u → wr.cell? ⟨gg, o, none⟩ = some u := fun h => cell_fr (R := fun _ => True) HI.out.2 (fun _ _ h => h) trivial h
        have p := up p
        have p0 := up p0
        have p1 := up p1
        have p2 := up p2
        have p3 := up p3
        have q := up q
        have q0 := up q0
        have q1 := up q1
        have q2 := up q2
        have q3 := up q3
        obtain ⟨pk, pm, pa, pn, pc, pa2, pn2, pc2, rfl, rfl, rfl, rfl⟩ := hx.cells
        obtain ⟨qk, qm, qa, qn, qc, qa2, qn2, qc2, rfl, rfl, rfl, rfl⟩ := hy.cells
        have fb : Fr (fun _ => False) w ((wr.alloc (.cells #[sv d1, .int .u8 pk, .int .i64 pm, .slice pa pn pc, .slice pa2 pn2 pc2] 49)).alloc (.cells #[sv d2, .int .u8 qk, .int .i64 qm, .slice qa qn qc, .slice qa2 qn2 qc2] 49)) := (HI.out.2.alloc _).alloc _
        have hfn := alias_same d1 d2 (Shows.fr fb (fun _ _ h => h) _ _ hx) (Shows.fr fb (fun _ _ h => h) _ _ hy) (HS.out _ (List.mem_of_getElem? hd1))
        have ng0 : g2 < wr.heap.size := World.block_lt_of_cell? wr _ q
        have ng1 : g2 ≠ wr.heap.size := by omega
        have hgd1 : l1.getD k ([], .nil) = (d1, t1) := by rw [List.getD_eq_getElem?_getD, hd1]; rfl
        have hgd2 : l2.getD k ([], .nil) = (d2, t2) := by rw [List.getD_eq_getElem?_getD, hd2]; rfl
        have HG := Lib.hid (And.intro hgd1 hgd2)
        have FB := Lib.hid fb
        clear up e1 e2 hx hy hd1 hd2 hgd1 hgd2 fb hc1 hc2
        unfold sv at *
        have i1 : (k : Int) < (n : Int) := by omega
        have i0 : (0 : Int) ≤ (k : Int) := by omega
        cases hB : sameA (d1, t1) (d2, t2) with
        | true =>
          rw [hB] at hfn
          have HB := Lib.hid hB
          clear hB
          go_wp2_with fail
          refine hfn.mono ?_
          rintro e w5 ⟨rfl, f5⟩
          have F5 := Lib.hid f5
          clear f5 hfn
          go_wp2
          go_roundg (n - (k + 1))
          case measure => omega
          case rel => exact ⟨k + 1, by omega, rfl, by go_num, Lib.hid ⟨fun j hj => by
            by_cases h : j < k
            · exact HI.out.1 j h
            · obtain rfl : j = k := by omega
              rw [HG.out.1, HG.out.2]; exact HB.out, FB.out.trans F5.out (fun _ _ h => h)⟩⟩
        | false =>
          rw [hB] at hfn
          have HB := Lib.hid hB
          clear hB
          go_wp2_with fail
          refine hfn.mono ?_
          rintro e w5 ⟨rfl, f5⟩
          have F5 := Lib.hid f5
          clear f5 hfn
          go_wp2
          go_ret
          exact ⟨ret_bool (eqBy_stop sameA _ l1 l2 k (by rw [← HN.out]; exact hlt) (by rw [HG.out.1, HG.out.2]; exact HB.out)).symm, FB.out.trans F5.out (fun _ _ h => h)⟩
      · obtain rfl : k = n := by omega
        go_wp2
        go_ret
        exact ⟨ret_bool (eqBy_all sameA _ l1 l2 HL.out (by rw [← HN.out]; exact HI.out.1)).symm, HI.out.2⟩
  · have b1 : ((l1.length : Int) == (l2.length : Int)) = false := by simp; omega
    have b2 : ((l1.length : Int) != (l2.length : Int)) = true := by unfold bne; rw [b1]; rfl
    have HL := Lib.hid hl
    clear hl
    go_enter Try.func38, Try.ntmps38
    go_wp2
    go_ret
    exact ⟨ret_bool (eqBy_len sameA _ l1 l2 HL.out).symm, Fr.refl _ _⟩

/-- Are two faults the same? -/
def sameF (x y : Txt × Int) : Bool := decide (x.1 = y.1) && decide (x.2 = y.2)

set_option maxRecDepth 100000 in
set_option maxHeartbeats 8000000 in
theorem equalFaults (R : Nat → Prop) (l1 l2 : List (Txt × Int)) (v1 v2 : Value) (w : World) (h1 : Faults R w l1 v1) (h2 : Faults R w l2 v2) :
    Calls Try.prog 40 #[v1, v2] w fun e w' => e = .returned (.bool (eqBy sameF ([], 0) l1 l2)) ∧ Fr (fun _ => False) w w' := by
  have q1 : l1.length ≤ 1000 := h1.1
  have q2 : l2.length ≤ 1000 := h2.1
  obtain ⟨a1, c1, rfl, s1⟩ := h1.shape
  obtain ⟨a2, c2, rfl, s2⟩ := h2.shape
  have S1 := Lib.hid s1
  have S2 := Lib.hid s2
  clear s1 s2 h1 h2
  by_cases hl : l1.length = l2.length
  · have HL := Lib.hid hl
    clear hl
    obtain ⟨n, hn⟩ : ∃ n, n = l1.length := ⟨_, rfl⟩
    have HN := Lib.hid hn
    rw [← HL.out, ← hn]
    clear hn
    have hn1 : n ≤ 1000 := by rw [HN.out]; exact q1
    clear q1 q2
    go_enter Try.func40, Try.ntmps40
    go_wp2
    go_loopg [5, 13] n (fun G u5 u13 wr => ∃ k : Nat, k ≤ n ∧ G = n - k ∧ u13 = .int .i64 k ∧ Hid ((∀ j, j < k → sameF (l1.getD j ([], 0)) (l2.getD j ([], 0)) = true) ∧ Fr (fun _ => False) w wr))
    case atStart => exact ⟨0, Nat.zero_le _, rfl, by go_num, Lib.hid ⟨fun j hj => by omega, Fr.refl _ _⟩⟩
    case round =>
      obtain ⟨k, hk, rfl, rfl, HI⟩ := hrel
      by_cases hlt : k < n
      · obtain ⟨d1, t1, hd1⟩ : ∃ d t, l1[k]? = some (d, t) := ⟨_, _, List.getElem?_eq_getElem (by rw [← HN.out]; exact hlt)⟩
        obtain ⟨d2, t2, hd2⟩ : ∃ d t, l2[k]? = some (d, t) := ⟨_, _, List.getElem?_eq_getElem (by rw [← HL.out, ← HN.out]; exact hlt)⟩
        rcases S1.out with hz | ⟨hc1, g1, o1, _, rfl, e1⟩
        · have := HN.out; omega
        rcases S2.out with hz | ⟨hc2, g2, o2, _, rfl, e2⟩
        · have := HN.out; have := HL.out; omega
        have p := cell_fr (R := fun _ => True) HI.out.2 (fun _ _ h => h) trivial (e1 k _ hd1).1
        have p0 := cell_fr (R := fun _ => True) HI.out.2 (fun _ _ h => h) trivial (e1 k _ hd1).2
        have q := cell_fr (R := fun _ => True) HI.out.2 (fun _ _ h => h) trivial (e2 k _ hd2).1
        have q0 := cell_fr (R := fun _ => True) HI.out.2 (fun _ _ h => h) trivial (e2 k _ hd2).2
        have hgd1 : l1.getD k ([], 0) = (d1, t1) := by rw [List.getD_eq_getElem?_getD, hd1]; rfl
        have hgd2 : l2.getD k ([], 0) = (d2, t2) := by rw [List.getD_eq_getElem?_getD, hd2]; rfl
        have HG := Lib.hid (And.intro hgd1 hgd2)
        clear e1 e2 hd1 hd2 hgd1 hgd2 hc1 hc2
        unfold sv at *
        simp only at p p0 q q0
        have i1 : (k : Int) < (n : Int) := by omega
        have i0 : (0 : Int) ≤ (k : Int) := by omega
        have three : (d1 == d2) = true ∧ (t1 == t2) = true ∧ Hid (sameF (d1, t1) (d2, t2) = true) ∨ (d1 == d2) = true ∧ (t1 == t2) = false ∧ Hid (sameF (d1, t1) (d2, t2) = false) ∨ (d1 == d2) = false ∧ Hid (sameF (d1, t1) (d2, t2) = false) := by
          by_cases e1 : d1 = d2 <;> by_cases e2 : t1 = t2 <;> simp [e1, e2, sameF, Lib.hid]
        rcases three with ⟨b1, b2, HB⟩ | ⟨b1, b2, HB⟩ | ⟨b1, HB⟩
        · go_wp2
          go_quiet (fail)
          go_wp2
          go_roundg (n - (k + 1))
          case measure => omega
          case rel => exact ⟨k + 1, by omega, rfl, by go_num, Lib.hid ⟨fun j hj => by
            by_cases h : j < k
            · exact HI.out.1 j h
            · obtain rfl : j = k := by omega
              rw [HG.out.1, HG.out.2]; exact HB.out, HI.out.2.drewN _⟩⟩
        · go_wp2
          go_quiet (fail)
          go_wp2
          go_ret
          exact ⟨ret_bool (eqBy_stop sameF _ l1 l2 k (by rw [← HN.out]; exact hlt) (by rw [HG.out.1, HG.out.2]; exact HB.out)).symm, HI.out.2.drewN _⟩
        · go_wp2
          go_quiet (fail)
          go_wp2
          go_ret
          exact ⟨ret_bool (eqBy_stop sameF _ l1 l2 k (by rw [← HN.out]; exact hlt) (by rw [HG.out.1, HG.out.2]; exact HB.out)).symm, HI.out.2.drewN _⟩
      · obtain rfl : k = n := by omega
        go_wp2
        go_ret
        exact ⟨ret_bool (eqBy_all sameF _ l1 l2 HL.out (by rw [← HN.out]; exact HI.out.1)).symm, HI.out.2⟩
  · have b1 : ((l1.length : Int) == (l2.length : Int)) = false := by simp; omega
    have b2 : ((l1.length : Int) != (l2.length : Int)) = true := by unfold bne; rw [b1]; rfl
    have HL := Lib.hid hl
    clear hl
    go_enter Try.func40, Try.ntmps40
    go_wp2
    go_ret
    exact ⟨ret_bool (eqBy_len sameF _ l1 l2 HL.out).symm, Fr.refl _ _⟩

end Go.Proofs.Ytdaabgnfgdojhaa
