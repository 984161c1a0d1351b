/-
  CouBack, part 18 of what it rests on: KindProcs.
-/
import Derived.Test.YtplipjijaaejlaaGreatS17
set_option linter.unusedVariables false
set_option linter.unusedSimpArgs false
set_option maxHeartbeats 64000000
namespace Go.Proofs.YtplipjijaaejlaaGreat
open Go.RowKit
open Go.Lib (hid)
section
/-- What Whole leaves. -/
def WholeOf (r : WR) (w : World) (e : Ending) (w' : World) : Prop :=
  ∃ tv, e = .returned (.tuple #[tv, .int .i64 (r.e : Nat)]) ∧ Fr (fun _ => False) w w' ∧ Shows (fun k => w.heap.size ≤ k) w' r.t tv

set_option maxRecDepth 100000 in
theorem tabWhole_any (R : Nat → Prop) (t : KTab) (x : KT) (v xv : Value) (w : World) (ht : Tabled R w t v) (hx : Shows R w x xv) :
    Calls Tryz.prog 95 #[v, xv] w (WholeOf (wholeE 20 t.types x 200) w) := by
  obtain ⟨tv, fv, pv, rfl, _, hal, hfl, hpl⟩ := ht
  obtain ⟨ta, tc, rfl, _⟩ := hal.shape
  obtain ⟨fa, fc, rfl, _⟩ := hfl.shape
  obtain ⟨pa, pc, rfl, _⟩ := hpl.shape
  obtain ⟨k, m, a, n, c, a', n', c', rfl⟩ := hx.four
  have HAL := Lib.hid (hal.mono (S := fun k => R k ∧ k < w.heap.size) (fun k hk h => ⟨h, hk⟩))
  have HX := Lib.hid (Shows.mono (S := fun k => R k ∧ k < w.heap.size) (fun k hk h => ⟨h, hk⟩) _ _ hx)
  clear hal hfl hpl hx
  unfold sv
  obtain ⟨w4, hw4⟩ : ∃ w4, w4 = (((w.alloc (.cells #[.string ⟨t.name.toArray⟩, .int .i64 t.number, .int .i64 t.version, .slice ta t.types.length tc, .slice fa t.faults.length fc, .slice pa t.procs.length pc] 130)).alloc (.cells #[.int .u8 k, .int .i64 m, .slice a n c, .slice a' n' c'] 34)).alloc (.cells #[.int .u8 0, .int .i64 0, .slice none 0 0, .slice none 0 0] 34)).alloc (.cells #[.int .i64 200] 3) := ⟨_, rfl⟩
  have f4 : Fr (fun _ => False) w w4 := by rw [hw4]; exact ((((Fr.refl _ _).alloc _).alloc _).alloc _).alloc _
  have s4 : w4.heap.size = w.heap.size + 4 := by rw [hw4]; simp
  have g6 : w4.heap[w.heap.size + 3]? = some (.cells #[.int .i64 200] 3 (0, 0)) := by
    have := heap_alloc_new (((w.alloc (.cells #[.string ⟨t.name.toArray⟩, .int .i64 t.number, .int .i64 t.version, .slice ta t.types.length tc, .slice fa t.faults.length fc, .slice pa t.procs.length pc] 130)).alloc (.cells #[.int .u8 k, .int .i64 m, .slice a n c, .slice a' n' c'] 34)).alloc (.cells #[.int .u8 0, .int .i64 0, .slice none 0 0, .slice none 0 0] 34)) (.cells #[.int .i64 200] 3)
    rw [← hw4] at this
    simpa using this
  have g4 : w4.heap[w.heap.size + 2]? = some (.cells #[.int .u8 0, .int .i64 0, .slice none 0 0, .slice none 0 0] 34 (0, 0)) := by
    rw [hw4, Below.heap_alloc _ _ _ (by simp)]
    have := heap_alloc_new ((w.alloc (.cells #[.string ⟨t.name.toArray⟩, .int .i64 t.number, .int .i64 t.version, .slice ta t.types.length tc, .slice fa t.faults.length fc, .slice pa t.procs.length pc] 130)).alloc (.cells #[.int .u8 k, .int .i64 m, .slice a n c, .slice a' n' c'] 34)) (.cells #[.int .u8 0, .int .i64 0, .slice none 0 0, .slice none 0 0] 34)
    simpa using this
  have hcall := whole_any 20 t.types x (fun k => R k ∧ k < w.heap.size) (.agg #[.int .u8 k, .int .i64 m, .slice a n c, .slice a' n' c']) (.slice ta t.types.length tc) 20 (w.heap.size + 3) 200 w4 rfl (by omega) (by omega) (fun h => by omega) (Shows.fr f4 (fun _ _ h => h) _ _ HX.out) (HAL.out.fr f4 (fun _ _ h => h)) g6
  have H4 := Lib.hid (And.intro f4 (And.intro s4 (And.intro g6 g4)))
  rw [hw4] at hcall
  clear f4 s4 g6 g4
  go_enter Tryz.func95, Tryz.ntmps95
  go_wp2_with fail
  refine hcall.mono ?_
  rintro e w5 ⟨tv, rfl, f5, g5, hs5, hl5⟩
  rw [← hw4] at f5 hs5
  obtain ⟨k2, m2, a2, n2, c2, a3, n3, c3, rfl⟩ := hs5.four
  have q4 := box_kept H4.out.2.2.2 f5 (by omega)
  obtain ⟨b0, b1, b2, b3⟩ := cell_of_four q4
  have z0 : w5.frozen? ⟨w.heap.size + 2, 0, none⟩ = false := by simp [World.frozen?, q4]
  have z1 : w5.frozen? ⟨w.heap.size + 2, 1, none⟩ = false := by simp [World.frozen?, q4]
  have z2 : w5.frozen? ⟨w.heap.size + 2, 2, none⟩ = false := by simp [World.frozen?, q4]
  have z3 : w5.frozen? ⟨w.heap.size + 2, 3, none⟩ = false := by simp [World.frozen?, q4]
  have H5 := Lib.hid (And.intro f5 (And.intro hs5 q4))
  clear f5 g5 hs5 hl5 q4 hcall hw4
  go_wp2
  refine bodyPost_ret (results_cell_tmp_row rfl _ _ (w.heap.size + 2) 34 _ _ _ rfl (store_four H5.out.2.2) Tryz.underlying34 rfl (by kernel_rfl)) rfl ?_
  have f6 := fr_four (w := w5) (b := w.heap.size + 2) (.int .u8 k2) (.int .i64 m2) (.slice a2 n2 c2) (.slice a3 n3 c3) (S := fun k => k = w.heap.size + 2) (Fr.refl _ _) (fun _ => rfl)
  refine ⟨_, rfl, ((H4.out.1.trans H5.out.1 (S := fun _ => False) (fun i hi h => by omega)).trans f6 (fun i hi h => by omega)), ?_⟩
  have := Shows.fr (R := fun k => w4.heap.size ≤ k) f6 (fun k hk h => by have := H4.out.2.1; omega) _ _ H5.out.2.1
  exact Shows.mono (fun k _ h => by have := H4.out.2.1; omega) _ _ this

theorem proc_cells {w : World} {g o : Nat} {p : KProc} {x0 x1 x2 x3 y0 y1 y2 y3 : Value} (h : ∀ j u, (procCells p x0 x1 x2 x3 y0 y1 y2 y3)[j]? = some u → w.cell? ⟨g, o + j, none⟩ = some u) :
    w.cell? ⟨g, o, none⟩ = some (sv p.name) ∧ w.cell? ⟨g, o + 1, none⟩ = some (.int .i64 p.number) ∧ w.cell? ⟨g, o + 2, none⟩ = some x0 ∧ w.cell? ⟨g, o + 3, none⟩ = some x1 ∧ w.cell? ⟨g, o + 4, none⟩ = some x2 ∧ w.cell? ⟨g, o + 5, none⟩ = some x3 ∧
    w.cell? ⟨g, o + 6, none⟩ = some y0 ∧ w.cell? ⟨g, o + 7, none⟩ = some y1 ∧ w.cell? ⟨g, o + 8, none⟩ = some y2 ∧ w.cell? ⟨g, o + 9, none⟩ = some y3 ∧ w.cell? ⟨g, o + 10, none⟩ = some (.int .u8 p.collate) ∧ w.cell? ⟨g, o + 11, none⟩ = some (.int .i64 p.timeout) :=
  ⟨h 0 _ rfl, h 1 _ rfl, h 2 _ rfl, h 3 _ rfl, h 4 _ rfl, h 5 _ rfl, h 6 _ rfl, h 7 _ rfl, h 8 _ rfl, h 9 _ rfl, h 10 _ rfl, h 11 _ rfl⟩

theorem proc_fn {R : Nat → Prop} {t1 t2 : KT} {x0 x1 x2 x3 y0 y1 y2 y3 : Value} {w : World} (b : Nat) (cs : Array Value) (n n' : Int) (d : Txt) (col : Nat) (tmo : Int) (hx : Shows R w t1 (.agg #[x0, x1, x2, x3])) (hy : Shows R w t2 (.agg #[y0, y1, y2, y3])) (hb : w.heap[b]? = some (.cells cs 153 (0, 0))) (hn : cs[1]? = some (.int .i64 n)) :
    Calls Tryz.prog 94 #[.agg #[sv d, .int .i64 n', x0, x1, x2, x3, y0, y1, y2, y3, .int .u8 col, .int .i64 tmo], .pointer (some ⟨b, 0, none⟩)] w fun e w' => e = .returned (.bool (decide (n' = n))) ∧ Fr (fun _ => False) w w' := by
  obtain ⟨pk, pm, pa', pn, pc', pa2, pn2, pc2, rfl, rfl, rfl, rfl⟩ := hx.cells
  obtain ⟨qk, qm, qa', qn, qc', qa2, qn2, qc2, rfl, rfl, rfl, rfl⟩ := hy.cells
  have c1 := cells_row hb 1 _ hn
  have hlt := lt_of_block hb
  have n1 : b ≠ w.heap.size := by omega
  clear hb hn hx hy
  unfold sv
  by_cases h : n' = n
  · subst h
    go_enter Tryz.func94, Tryz.ntmps94
    go_wp2
    go_ret
    exact ⟨ret_bool (by simp), (Fr.refl _ _).alloc _⟩
  · have h' : (n' == n) = false := by simpa using h
    go_enter Tryz.func94, Tryz.ntmps94
    go_wp2
    go_ret
    exact ⟨ret_bool (by simp [h]), (Fr.refl _ _).alloc _⟩

theorem index_proc (R : Nat → Prop) (l : List KProc) (v : Value) (b : Nat) (cs : Array Value) (n : Int) (w : World) (h : Procs R w l v) (hb : w.heap[b]? = some (.cells cs 153 (0, 0))) (hn : cs[1]? = some (.int .i64 n)) :
    Calls Tryz.prog 102 #[v, .func (.func 94) #[] #[.pointer (some ⟨b, 0, none⟩)]] w fun e w' => e = .returned (.int .i64 (firstAt (fun x => decide (x.number = n)) l)) ∧ Fr (fun _ => False) w w' := by
  have hl0 : l.length ≤ 1000 := h.1
  obtain ⟨a, cap, rfl, hs⟩ := h.shape
  have Hs := Lib.hid hs
  have Hb := Lib.hid hb
  clear hs h hb
  go_enter Tryz.func102, Tryz.ntmps102
  go_wp2
  go_loopg [5, 8] l.length (fun G u5 u8 wr => ∃ k : Nat, k ≤ l.length ∧ G = l.length - k ∧ u8 = .int .i64 k ∧ Hid ((∀ j, (hj : j < l.length) → j < k → l[j].number ≠ n) ∧ Fr (fun _ => False) w wr))
  case atStart => exact ⟨0, Nat.zero_le _, rfl, by go_num, Lib.hid ⟨fun j _ hj => by omega, Fr.refl _ _⟩⟩
  case round =>
    obtain ⟨k, hk, rfl, rfl, HI⟩ := hrel
    by_cases hlt : k < l.length
    · rcases Hs.out with hz | ⟨hcap, ga, oa, hg, rfl, hcell⟩
      · omega
      obtain ⟨d, hd⟩ : ∃ d, d = l[k] := ⟨_, rfl⟩
      obtain ⟨x0, x1, x2, x3, y0, y1, y2, y3, q, hx, hy⟩ := hcell k d (by rw [List.getElem?_eq_getElem hlt, hd])
      have q : ∀ j u, (procCells d x0 x1 x2 x3 y0 y1 y2 y3)[j]? = some u → wr.cell? ⟨ga, oa + k * 12 + j, none⟩ = some u := fun j u hj => cell_fr (R := fun _ => True) HI.out.2 (fun _ _ h => h) trivial (q j u hj)
      obtain ⟨p0, p1, p2, p3, p4, p5, p6, p7, p8, p9, p10, p11⟩ := proc_cells q
      have hx := Shows.fr HI.out.2 (fun _ _ h => h) _ _ (Shows.mono (S := fun _ => True) (fun _ _ _ => trivial) _ _ hx)
      have hy := Shows.fr HI.out.2 (fun _ _ h => h) _ _ (Shows.mono (S := fun _ => True) (fun _ _ _ => trivial) _ _ hy)
      clear hcell q
      have hfn := proc_fn b cs n d.number d.name d.collate d.timeout hx hy (box_kept Hb.out HI.out.2 (fun h => h)) hn
      obtain ⟨pk, pm, pa', pn, pc', pa2, pn2, pc2, rfl, rfl, rfl, rfl⟩ := hx.cells
      obtain ⟨qk, qm, qa', qn, qc', qa2, qn2, qc2, rfl, rfl, rfl, rfl⟩ := hy.cells
      clear hx hy
      have Hd := Lib.hid hd
      clear hd
      unfold sv at *
      by_cases he : d.number = n
      · have hb1 : decide (d.number = n) = true := by simpa using he
        rw [hb1] at hfn
        have He := Lib.hid he
        clear he hb1
        go_wp2_with fail
        refine hfn.mono ?_
        rintro e w1 ⟨rfl, f1⟩
        have f1 := Lib.hid f1
        go_wp2
        go_ret
        refine ⟨ret_int ?_, HI.out.2.trans f1.out (fun _ _ h => h)⟩
        exact (firstAt_found _ l k hlt (fun j hj hjk => by simpa using HI.out.1 j hj hjk) (by rw [← Hd.out]; simpa using He.out)).symm
      · have hb1 : decide (d.number = n) = false := by simpa using he
        rw [hb1] at hfn
        have He := Lib.hid he
        clear he hb1
        go_wp2_with fail
        refine hfn.mono ?_
        rintro e w1 ⟨rfl, f1⟩
        have f1 := Lib.hid f1
        go_wp2
        go_roundg (l.length - (k + 1))
        case measure => omega
        case rel => exact ⟨k + 1, by omega, rfl, by go_num, Lib.hid ⟨fun j hj' hj => by
          by_cases h : j < k
          · exact HI.out.1 j hj' h
          · obtain rfl : j = k := by omega
            rw [← Hd.out]; exact He.out, HI.out.2.trans f1.out (fun _ _ h => h)⟩⟩
    · obtain rfl : k = l.length := by omega
      go_wp2
      go_ret
      refine ⟨ret_int ?_, HI.out.2⟩
      exact (firstAt_none _ l (fun j hj => by simpa using HI.out.1 j hj hj)).symm

theorem contains_proc (R : Nat → Prop) (l : List KProc) (v : Value) (b : Nat) (cs : Array Value) (n : Int) (w : World) (h : Procs R w l v) (hb : w.heap[b]? = some (.cells cs 153 (0, 0))) (hn : cs[1]? = some (.int .i64 n)) :
    Calls Tryz.prog 93 #[v, .func (.func 94) #[] #[.pointer (some ⟨b, 0, none⟩)]] w fun e w' => e = .returned (.bool (l.any fun x => decide (x.number = n))) ∧ Fr (fun _ => False) w w' := by
  have hc := index_proc R l v b cs n w h hb hn
  clear h hb hn
  go_enter Tryz.func93, Tryz.ntmps93
  go_wp2_with fail
  refine hc.mono ?_
  rintro e w' ⟨rfl, f1⟩
  have f1 := Lib.hid f1
  clear hc
  go_wp2
  go_ret
  exact ⟨ret_bool (firstAt_ge _ _), f1.out⟩
end
end Go.Proofs.YtplipjijaaejlaaGreat
