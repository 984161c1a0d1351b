/-
  What ChOnce rests on, part 6: VotBallot, VotAwake, VotArg, VotVoter, VotBaEq.
-/
import Derived.Test.YtcjfinabffpgkaaS05
import Derived.Test.YtcjfinabffpgkaaS04
import Derived.Deep.Cut
import Derived.Deep.CutRange
import Derived.Deep.CutBlock
set_option linter.unusedVariables false
set_option linter.unusedSimpArgs false
set_option maxHeartbeats 64000000
namespace Go.Proofs.Ytcjfinabffpgkaa
open Go.RowKit
open Go.Lib (hid)
section
set_option maxRecDepth 100000

/-- The voter's block. -/
abbrev oVr (pr pn ar an k t n p : Int) (v u : Value) (s : Bool) : Obj :=
  Obj.cells #[.int .i64 pr, .int .i64 pn, .int .i64 ar, .int .i64 an, .int .u8 k, .int .u16 t, .int .u16 n, .int .i64 p, v, u, .bool s] 49 (0, 0)

/-- Whether a ballot is below another one. -/
def blt (r n r' n' : Int) : Bool := if r = r' then decide (n < n') else decide (r < r')

theorem less_any (r n r' n' : Int) (w : World) :
    Calls Try.prog 8 #[ball r n, ball r' n'] w fun e w' => e = .returned (.bool (blt r n r' n')) ∧ Fr (fun _ => False) w w' := by
  have hf : Fr (fun _ => False) w ((w.alloc (oBa r n)).alloc (oBa r' n')) := ((Fr.refl _ _).alloc _).alloc _
  have HF := Lib.hid hf
  clear hf
  unfold blt
  by_cases h : r = r'
  · subst h
    rw [if_pos rfl]
    go_enter Try.func8, Try.ntmps8
    go_wp2_with fail
    go_ret
    exact ⟨rfl, HF.out⟩
  · rw [if_neg h]
    have hz : decide (r = r') = false := by simp [h]
    go_enter Try.func8, Try.ntmps8
    go_wp2_with fail
    go_ret
    exact ⟨rfl, HF.out⟩

theorem blt_irrefl (r n : Int) : blt r n r n = false := by unfold blt; rw [if_pos rfl]; simp
theorem blt_iff (r n r' n' : Int) : blt r n r' n' = true ↔ (r < r' ∨ r = r' ∧ n < n') := by
  unfold blt
  by_cases h : r = r'
  · subst h; simp
  · rw [if_neg h]; simp [h]

theorem cst2 {w : World} {b : Nat} {x0 x1 y0 y1 : Value} {t : TypeId} (h : w.heap[b]? = some (.cells #[x0, x1] t (0, 0))) :
    ((w.setCell ⟨b, 0, none⟩ y0).setCell ⟨b, 1, none⟩ y1).heap[b]? = some (.cells #[y0, y1] t (0, 0)) := by
  have h0 : (w.setCell ⟨b, 0, none⟩ y0).heap[b]? = some (.cells #[y0, x1] t (0, 0)) := by rw [heap_setCell_same w b 0 _ t y0 h]; rfl
  rw [heap_setCell_same _ b 1 _ t y1 h0]; rfl
theorem cfr2 {w : World} {b : Nat} (y0 y1 : Value) {S : Nat → Prop} {w0 : World} (f : Fr S w0 w) (hb : b < w0.heap.size → S b) : Fr S w0 ((w.setCell ⟨b, 0, none⟩ y0).setCell ⟨b, 1, none⟩ y1) :=
  (f.setCell (p := ⟨b, 0, none⟩) hb _).setCell (p := ⟨b, 1, none⟩) hb _
theorem cst11 {w : World} {b : Nat} {x0 x1 x2 x3 x4 x5 x6 x7 x8 x9 x10 y0 y1 y2 y3 y4 y5 y6 y7 y8 y9 y10 : Value} {t : TypeId} (h : w.heap[b]? = some (.cells #[x0, x1, x2, x3, x4, x5, x6, x7, x8, x9, x10] t (0, 0))) :
    (((((((((((w.setCell ⟨b, 0, none⟩ y0).setCell ⟨b, 1, none⟩ y1).setCell ⟨b, 2, none⟩ y2).setCell ⟨b, 3, none⟩ y3).setCell ⟨b, 4, none⟩ y4).setCell ⟨b, 5, none⟩ y5).setCell ⟨b, 6, none⟩ y6).setCell ⟨b, 7, none⟩ y7).setCell ⟨b, 8, none⟩ y8).setCell ⟨b, 9, none⟩ y9).setCell ⟨b, 10, none⟩ y10).heap[b]? = some (.cells #[y0, y1, y2, y3, y4, y5, y6, y7, y8, y9, y10] t (0, 0)) := by
  have h0 : (w.setCell ⟨b, 0, none⟩ y0).heap[b]? = some (.cells #[y0, x1, x2, x3, x4, x5, x6, x7, x8, x9, x10] t (0, 0)) := by rw [heap_setCell_same _ b 0 _ t y0 h]; rfl
  have h1 : ((w.setCell ⟨b, 0, none⟩ y0).setCell ⟨b, 1, none⟩ y1).heap[b]? = some (.cells #[y0, y1, x2, x3, x4, x5, x6, x7, x8, x9, x10] t (0, 0)) := by rw [heap_setCell_same _ b 1 _ t y1 h0]; rfl
  have h2 : (((w.setCell ⟨b, 0, none⟩ y0).setCell ⟨b, 1, none⟩ y1).setCell ⟨b, 2, none⟩ y2).heap[b]? = some (.cells #[y0, y1, y2, x3, x4, x5, x6, x7, x8, x9, x10] t (0, 0)) := by rw [heap_setCell_same _ b 2 _ t y2 h1]; rfl
  have h3 : ((((w.setCell ⟨b, 0, none⟩ y0).setCell ⟨b, 1, none⟩ y1).setCell ⟨b, 2, none⟩ y2).setCell ⟨b, 3, none⟩ y3).heap[b]? = some (.cells #[y0, y1, y2, y3, x4, x5, x6, x7, x8, x9, x10] t (0, 0)) := by rw [heap_setCell_same _ b 3 _ t y3 h2]; rfl
  have h4 : (((((w.setCell ⟨b, 0, none⟩ y0).setCell ⟨b, 1, none⟩ y1).setCell ⟨b, 2, none⟩ y2).setCell ⟨b, 3, none⟩ y3).setCell ⟨b, 4, none⟩ y4).heap[b]? = some (.cells #[y0, y1, y2, y3, y4, x5, x6, x7, x8, x9, x10] t (0, 0)) := by rw [heap_setCell_same _ b 4 _ t y4 h3]; rfl
  have h5 : ((((((w.setCell ⟨b, 0, none⟩ y0).setCell ⟨b, 1, none⟩ y1).setCell ⟨b, 2, none⟩ y2).setCell ⟨b, 3, none⟩ y3).setCell ⟨b, 4, none⟩ y4).setCell ⟨b, 5, none⟩ y5).heap[b]? = some (.cells #[y0, y1, y2, y3, y4, y5, x6, x7, x8, x9, x10] t (0, 0)) := by rw [heap_setCell_same _ b 5 _ t y5 h4]; rfl
  have h6 : (((((((w.setCell ⟨b, 0, none⟩ y0).setCell ⟨b, 1, none⟩ y1).setCell ⟨b, 2, none⟩ y2).setCell ⟨b, 3, none⟩ y3).setCell ⟨b, 4, none⟩ y4).setCell ⟨b, 5, none⟩ y5).setCell ⟨b, 6, none⟩ y6).heap[b]? = some (.cells #[y0, y1, y2, y3, y4, y5, y6, x7, x8, x9, x10] t (0, 0)) := by rw [heap_setCell_same _ b 6 _ t y6 h5]; rfl
  have h7 : ((((((((w.setCell ⟨b, 0, none⟩ y0).setCell ⟨b, 1, none⟩ y1).setCell ⟨b, 2, none⟩ y2).setCell ⟨b, 3, none⟩ y3).setCell ⟨b, 4, none⟩ y4).setCell ⟨b, 5, none⟩ y5).setCell ⟨b, 6, none⟩ y6).setCell ⟨b, 7, none⟩ y7).heap[b]? = some (.cells #[y0, y1, y2, y3, y4, y5, y6, y7, x8, x9, x10] t (0, 0)) := by rw [heap_setCell_same _ b 7 _ t y7 h6]; rfl
  have h8 : (((((((((w.setCell ⟨b, 0, none⟩ y0).setCell ⟨b, 1, none⟩ y1).setCell ⟨b, 2, none⟩ y2).setCell ⟨b, 3, none⟩ y3).setCell ⟨b, 4, none⟩ y4).setCell ⟨b, 5, none⟩ y5).setCell ⟨b, 6, none⟩ y6).setCell ⟨b, 7, none⟩ y7).setCell ⟨b, 8, none⟩ y8).heap[b]? = some (.cells #[y0, y1, y2, y3, y4, y5, y6, y7, y8, x9, x10] t (0, 0)) := by rw [heap_setCell_same _ b 8 _ t y8 h7]; rfl
  have h9 : ((((((((((w.setCell ⟨b, 0, none⟩ y0).setCell ⟨b, 1, none⟩ y1).setCell ⟨b, 2, none⟩ y2).setCell ⟨b, 3, none⟩ y3).setCell ⟨b, 4, none⟩ y4).setCell ⟨b, 5, none⟩ y5).setCell ⟨b, 6, none⟩ y6).setCell ⟨b, 7, none⟩ y7).setCell ⟨b, 8, none⟩ y8).setCell ⟨b, 9, none⟩ y9).heap[b]? = some (.cells #[y0, y1, y2, y3, y4, y5, y6, y7, y8, y9, x10] t (0, 0)) := by rw [heap_setCell_same _ b 9 _ t y9 h8]; rfl
  rw [heap_setCell_same _ b 10 _ t y10 h9]; rfl
theorem cfr11 {w : World} {b : Nat} (y0 y1 y2 y3 y4 y5 y6 y7 y8 y9 y10 : Value) {S : Nat → Prop} {w0 : World} (f : Fr S w0 w) (hb : b < w0.heap.size → S b) :
    Fr S w0 (((((((((((w.setCell ⟨b, 0, none⟩ y0).setCell ⟨b, 1, none⟩ y1).setCell ⟨b, 2, none⟩ y2).setCell ⟨b, 3, none⟩ y3).setCell ⟨b, 4, none⟩ y4).setCell ⟨b, 5, none⟩ y5).setCell ⟨b, 6, none⟩ y6).setCell ⟨b, 7, none⟩ y7).setCell ⟨b, 8, none⟩ y8).setCell ⟨b, 9, none⟩ y9).setCell ⟨b, 10, none⟩ y10) :=
  (((((((((((f.setCell (p := ⟨b, 0, none⟩) hb _).setCell (p := ⟨b, 1, none⟩) hb _).setCell (p := ⟨b, 2, none⟩) hb _).setCell (p := ⟨b, 3, none⟩) hb _).setCell (p := ⟨b, 4, none⟩) hb _).setCell (p := ⟨b, 5, none⟩) hb _).setCell (p := ⟨b, 6, none⟩) hb _).setCell (p := ⟨b, 7, none⟩) hb _).setCell (p := ⟨b, 8, none⟩) hb _).setCell (p := ⟨b, 9, none⟩) hb _).setCell (p := ⟨b, 10, none⟩) hb _)

/-- A ballot stored, then an entry. -/
theorem stBE {w : World} {g h : Nat} {T T' : TypeId} {a0 a1 e0 e1 e2 e3 e4 e5 : Value} {r n k t n' p : Int} {v u : Value} (hne : g ≠ h) (hg : w.heap[g]? = some (.cells #[a0, a1] T (0, 0))) (hh : w.heap[h]? = some (.cells #[e0, e1, e2, e3, e4, e5] T' (0, 0))) :
    ((((((((w.setCell ⟨g, 0, none⟩ (.int .i64 r)).setCell ⟨g, 1, none⟩ (.int .i64 n)).setCell ⟨h, 0, none⟩ (.int .u8 k)).setCell ⟨h, 1, none⟩ (.int .u16 t)).setCell ⟨h, 2, none⟩ (.int .u16 n')).setCell ⟨h, 3, none⟩ (.int .i64 p)).setCell ⟨h, 4, none⟩ (v)).setCell ⟨h, 5, none⟩ (u)).heap[g]? = some (.cells #[.int .i64 r, .int .i64 n] T (0, 0)) ∧ ((((((((w.setCell ⟨g, 0, none⟩ (.int .i64 r)).setCell ⟨g, 1, none⟩ (.int .i64 n)).setCell ⟨h, 0, none⟩ (.int .u8 k)).setCell ⟨h, 1, none⟩ (.int .u16 t)).setCell ⟨h, 2, none⟩ (.int .u16 n')).setCell ⟨h, 3, none⟩ (.int .i64 p)).setCell ⟨h, 4, none⟩ (v)).setCell ⟨h, 5, none⟩ (u)).heap[h]? = some (.cells #[.int .u8 k, .int .u16 t, .int .u16 n', .int .i64 p, v, u] T' (0, 0)) ∧
    ∀ {S : Nat → Prop} {w0 : World}, Fr S w0 w → (g < w0.heap.size → S g) → (h < w0.heap.size → S h) → Fr S w0 ((((((((w.setCell ⟨g, 0, none⟩ (.int .i64 r)).setCell ⟨g, 1, none⟩ (.int .i64 n)).setCell ⟨h, 0, none⟩ (.int .u8 k)).setCell ⟨h, 1, none⟩ (.int .u16 t)).setCell ⟨h, 2, none⟩ (.int .u16 n')).setCell ⟨h, 3, none⟩ (.int .i64 p)).setCell ⟨h, 4, none⟩ (v)).setCell ⟨h, 5, none⟩ (u)) := by
  have q1 := cst2 (y0 := .int .i64 r) (y1 := .int .i64 n) hg
  have f1 := cfr2 (.int .i64 r) (.int .i64 n) (b := g) (S := fun k => k = g) (Fr.refl _ w) (fun _ => rfl)
  have q2 := crow_kept hh f1 (fun e => hne e.symm)
  have q3 := cst6 (y0 := .int .u8 k) (y1 := .int .u16 t) (y2 := .int .u16 n') (y3 := .int .i64 p) (y4 := v) (y5 := u) q2
  have f3 := cfr6 (.int .u8 k) (.int .u16 t) (.int .u16 n') (.int .i64 p) v u (b := h) (S := fun k => k = h) (Fr.refl _ ((w.setCell ⟨g, 0, none⟩ (.int .i64 r)).setCell ⟨g, 1, none⟩ (.int .i64 n))) (fun _ => rfl)
  exact ⟨crow_kept q1 f3 hne, q3, fun f hg' hh' => cfr6 _ _ _ _ _ _ (cfr2 _ _ f hg') hh'⟩

theorem ba_cells {w : World} {g : Nat} {r n : Int} {T : TypeId} (h : w.heap[g]? = some (Obj.cells #[.int .i64 r, .int .i64 n] T (0, 0))) : w.cell? ⟨g, 0, none⟩ = some (.int .i64 r) ∧ w.cell? ⟨g, 1, none⟩ = some (.int .i64 n) := by
  simp [World.cell?, h]

theorem vot_cells {w : World} {g : Nat} {pr pn ar an k t n p : Int} {v u : Value} {s : Bool} (h : w.heap[g]? = some (oVr pr pn ar an k t n p v u s)) :
    w.cell? ⟨g, 0, none⟩ = some (.int .i64 pr) ∧ w.cell? ⟨g, 1, none⟩ = some (.int .i64 pn) ∧ w.cell? ⟨g, 2, none⟩ = some (.int .i64 ar) ∧ w.cell? ⟨g, 3, none⟩ = some (.int .i64 an) ∧
    w.cell? ⟨g, 4, none⟩ = some (.int .u8 k) ∧ w.cell? ⟨g, 5, none⟩ = some (.int .u16 t) ∧ w.cell? ⟨g, 6, none⟩ = some (.int .u16 n) ∧ w.cell? ⟨g, 7, none⟩ = some (.int .i64 p) ∧ w.cell? ⟨g, 8, none⟩ = some v ∧ w.cell? ⟨g, 9, none⟩ = some u ∧ w.cell? ⟨g, 10, none⟩ = some (.bool s) := by
  simp [World.cell?, h]

theorem promised_nil (w : World) : Calls Try.prog 7 #[.pointer none] w fun e w' => e = .returned (ball 0 0) ∧ Fr (fun _ => False) w w' := by
  go_enter Try.func7, Try.ntmps7
  go_wp2_with fail
  refine bodyPost_ret (results_cell_row rfl _ _ w.heap.size 40 _ _ _ rfl (heap_alloc_new _ _) Try.underlying40 rfl (by kernel_rfl)) rfl ?_
  exact ⟨rfl, (Fr.refl _ _).alloc _⟩

theorem accept_nil (r n : Int) (w : World) : Calls Try.prog 15 #[.pointer none, ball r n, eZ] w fun e w' => e = .returned (.bool false) ∧ Fr (fun _ => False) w w' := by
  have f0 : Fr (fun _ => False) w ((w.alloc (oBa r n)).alloc (oEn 0 0 0 0 nilS nilS)) := ((Fr.refl _ _).alloc _).alloc _
  go_enter Try.func15, Try.ntmps15
  go_upto_region 1 with fail
  generalize (w.alloc (oBa r n)).alloc (oEn 0 0 0 0 nilS nilS) = w0 at *
  have F0 := Lib.hid f0
  clear f0
  refine wp_region_told (by kernel_rfl) (fun a b => Fr (fun _ => False) a b) (fun w => Fr.refl _ w) (fun _ _ _ h k => h.trans k (fun _ _ h => h)) [7, 8, 9, 10, 11, 12, 13, 14, 15, 16] rfl (by decide) (by intro d hd; simp at hd ⊢; omega)
    (fun i v _ => v = ([.pointer none, .bool true, .bool true, undef, undef, undef, undef, undef, undef, .bool true] : List Value).getD i undef)
    (fun _ _ _ _ _ h => h) (by kernel_rfl) ?step1 ?fin1
  case step1 =>
    intro vals
    simp only [frOf, fill, List.setIfInBounds_toArray, List.set_cons_succ, List.set_cons_zero]
    repeat' (first | exact AllOps.nil | refine AllOps.cons ?_ ?_)
    all_goals
      intro wx hle he K' hK
      simp only [Act.put, List.setIfInBounds_toArray, List.set_cons_succ, List.set_cons_zero, List.getD_cons_zero, List.getD_cons_succ] at hK
      simp only [List.mem_cons, List.not_mem_nil, or_false, forall_eq_or_imp, forall_eq, Region.binds, forall_const, false_imp_iff, List.getD_cons_zero, List.getD_cons_succ] at he
      try simp only [he] at hK ⊢
      have hl5 := Fr.trans (Fr.drew (Fr.refl (fun _ => False) w0)) hle (fun _ _ h => h)
      have hl8 := Lib.hid hl5
      clear hl5 hle he
      try go_simp
    all_goals first
      | exact hK _ _ (Fr.refl _ _) rfl
      | skip
  case fin1 =>
    intro vals w' hle hV
    have h9 : vals 9 = .bool true := hV 9 (by decide)
    clear hV
    have hfin := Lib.hid (F0.out.trans (Fr.trans (Fr.drew (Fr.refl (fun _ => False) w0)) hle (fun _ _ h => h)) (fun _ _ h => h))
    clear hle
    simp only [frOf, fill, List.setIfInBounds_toArray, List.set_cons_succ, List.set_cons_zero, Nat.reduceAdd]
    simp only [h9]
    clear h9
    go_wp2_with fail
    go_ret
    exact ⟨rfl, hfin.out⟩

theorem results_rrtt {P : Program} {fn : Func} {p q u x : Tmp} {ty tz : TypeId} (h : fn.results = #[.cell p ty, .cell q tz, .tmp u, .tmp x]) (tmps : Array Value) (w : World) (g : Nat) (t : TypeId) (cs : Array Value) (fr : Nat × Nat) (d : TypeDesc)
    (g' : Nat) (t' : TypeId) (cs' : Array Value) (fr' : Nat × Nat) (d' : TypeDesc)
    (hp : tmps.getD p undef = .pointer (some ⟨g, 0, none⟩)) (hg : w.heap[g]? = some (.cells cs t fr))
    (hq : tmps.getD q undef = .pointer (some ⟨g', 0, none⟩)) (hg' : w.heap[g']? = some (.cells cs' t' fr'))
    (hu : P.underlying ty = some d) (hd : (match d with | .struct _ | .array _ _ => true | _ => false) = true) (hi : (P.info? ty).map (·.size) = some cs.size)
    (hu' : P.underlying tz = some d') (hd' : (match d' with | .struct _ | .array _ _ => true | _ => false) = true) (hi' : (P.info? tz).map (·.size) = some cs'.size) :
    (results fn tmps).run P w = .ok (.tuple #[.agg cs, .agg cs', tmps.getD u undef, tmps.getD x undef]) w := by
  have hp' : tmps[p]?.getD undef = .pointer (some ⟨g, 0, none⟩) := by simpa using hp
  have hq' : tmps[q]?.getD undef = .pointer (some ⟨g', 0, none⟩) := by simpa using hq
  have h1 := run_loadVar_row w g t ty cs fr d hg hu hd hi
  have h2 := run_loadVar_row w g' t' tz cs' fr' d' hg' hu' hd' hi'
  simp [results, h, hp', hq', asAddr, h1, h2, Result.andThen]

theorem promise_nil (r n : Int) (w : World) : Calls Try.prog 12 #[.pointer none, ball r n] w fun e w' => e = .returned (.tuple #[ball 0 0, eZ, .bool false, .bool false]) ∧ Fr (fun _ => False) w w' := by
  have f0 : Fr (fun _ => False) w (((w.alloc (oBa r n)).alloc (oBa 0 0)).alloc (oEn 0 0 0 0 nilS nilS)) := (((Fr.refl _ _).alloc _).alloc _).alloc _
  have q1 : (((w.alloc (oBa r n)).alloc (oBa 0 0)).alloc (oEn 0 0 0 0 nilS nilS)).heap[w.heap.size + 1]? = some (oBa 0 0) := crow_kept (new_two w _ _) ((Fr.refl (fun _ => False) _).alloc _) (fun h => h)
  have q2 : (((w.alloc (oBa r n)).alloc (oBa 0 0)).alloc (oEn 0 0 0 0 nilS nilS)).heap[w.heap.size + 2]? = some (oEn 0 0 0 0 nilS nilS) := by
    have := heap_alloc_new ((w.alloc (oBa r n)).alloc (oBa 0 0)) (oEn 0 0 0 0 nilS nilS)
    rw [World.size_alloc, World.size_alloc] at this
    exact this
  go_enter Try.func12, Try.ntmps12
  go_upto_region 1 with fail
  generalize ((w.alloc (oBa r n)).alloc (oBa 0 0)).alloc (oEn 0 0 0 0 nilS nilS) = w0 at *
  have F0 := Lib.hid f0
  have Q0 := Lib.hid (And.intro q1 q2)
  clear f0 q1 q2
  refine wp_region_told (by kernel_rfl) (fun a b => Fr (fun _ => False) a b) (fun w => Fr.refl _ w) (fun _ _ _ h k => h.trans k (fun _ _ h => h)) [8, 9, 10, 11, 12, 13, 14, 15, 16, 17, 18] rfl (by decide) (by intro d hd; simp at hd ⊢; omega)
    (fun i v _ => v = ([.pointer none, .bool true, .bool true, undef, undef, undef, undef, undef, undef, undef, .bool true] : List Value).getD i undef)
    (fun _ _ _ _ _ h => h) (by kernel_rfl) ?step1 ?fin1
  case step1 =>
    intro vals
    simp only [frOf, fill, List.setIfInBounds_toArray, List.set_cons_succ, List.set_cons_zero]
    repeat' (first | exact AllOps.nil | refine AllOps.cons ?_ ?_)
    all_goals
      intro wx hle he K' hK
      simp only [Act.put, List.setIfInBounds_toArray, List.set_cons_succ, List.set_cons_zero, List.getD_cons_zero, List.getD_cons_succ] at hK
      simp only [List.mem_cons, List.not_mem_nil, or_false, forall_eq_or_imp, forall_eq, Region.binds, forall_const, false_imp_iff, List.getD_cons_zero, List.getD_cons_succ] at he
      try simp only [he] at hK ⊢
      have hl5 := Fr.trans (Fr.drew (Fr.refl (fun _ => False) w0)) hle (fun _ _ h => h)
      have hl8 := Lib.hid hl5
      clear hl5 hle he
      try go_simp
    all_goals first
      | exact hK _ _ (Fr.refl _ _) rfl
      | skip
  case fin1 =>
    intro vals w' hle hV
    have h9 : vals 10 = .bool true := hV 10 (by decide)
    clear hV
    have hw := Fr.trans (Fr.drew (Fr.refl (fun _ => False) w0)) hle (fun _ _ h => h)
    have hfin := Lib.hid (F0.out.trans hw (fun _ _ h => h))
    have Q1 := Lib.hid (And.intro (crow_kept Q0.out.1 hw (fun h => h)) (crow_kept Q0.out.2 hw (fun h => h)))
    clear hle hw Q0
    simp only [frOf, fill, List.setIfInBounds_toArray, List.set_cons_succ, List.set_cons_zero, Nat.reduceAdd]
    simp only [h9]
    clear h9
    obtain ⟨d00, d01, d02, d03, d04, d05⟩ := en_cells Q1.out.2
    obtain ⟨z00, z01, z02, z03, z04, z05⟩ := vfree6 Q1.out.2
    obtain ⟨b00, b01⟩ := ba_cells Q1.out.1
    have y00 := vfree Q1.out.1 0
    have y01 := vfree Q1.out.1 1
    go_wp2_with fail
    obtain ⟨hq1, hq2, hf⟩ := stBE (r := 0) (n := 0) (k := 0) (t := 0) (n' := 0) (p := 0) (v := nilS) (u := nilS) (by omega) Q1.out.1 Q1.out.2
    refine bodyPost_ret (results_rrtt rfl _ _ (w.heap.size + 1) 40 _ _ _ (w.heap.size + 1 + 1) 47 _ _ _ rfl hq1 rfl hq2 Try.underlying40 rfl (by kernel_rfl) Try.underlying47 rfl (by kernel_rfl)) rfl ?_
    exact ⟨rfl, hf hfin.out (by omega) (by omega)⟩

theorem promised_any (g : Nat) (pr pn ar an k t n p : Int) (v u : Value) (s : Bool) (w : World) (h : w.heap[g]? = some (oVr pr pn ar an k t n p v u s)) :
    Calls Try.prog 7 #[.pointer (some ⟨g, 0, none⟩)] w fun e w' => e = .returned (ball pr pn) ∧ Fr (fun _ => False) w w' := by
  have hl : g < w.heap.size := (Array.getElem?_eq_some_iff.1 h).1
  have hne : g ≠ w.heap.size := by omega
  have q1 := heap_alloc_new w (oBa 0 0)
  have f1 : Fr (fun _ => False) w (w.alloc (oBa 0 0)) := (Fr.refl _ _).alloc _
  have Q := Lib.hid (And.intro (crow_kept h f1 (fun h => h)) q1)
  have F := Lib.hid f1
  clear h q1 f1
  go_enter Try.func7, Try.ntmps7
  go_upto_region 1 with fail
  generalize w.alloc (oBa 0 0) = w0 at *
  obtain ⟨c0, c1, c2, c3, c4, c5, c6, c7, c8, c9, c10⟩ := vot_cells Q.out.1
  obtain ⟨b00, b01⟩ := ba_cells Q.out.2
  have y00 := vfree Q.out.2 0
  have y01 := vfree Q.out.2 1
  go_wp2_with fail
  have hq := cst2 (y0 := .int .i64 pr) (y1 := .int .i64 pn) Q.out.2
  have hf := cfr2 (.int .i64 pr) (.int .i64 pn) (b := w.heap.size) F.out (fun h => absurd h (by omega))
  refine bodyPost_ret (results_cell_row rfl _ _ w.heap.size 40 _ _ _ rfl hq Try.underlying40 rfl (by kernel_rfl)) rfl ?_
  exact ⟨rfl, hf⟩

/-- A vote: what is in the voter's block then. -/
def VotAfter (b : Nat) (pr pn ar an : Int) (x : En) (v u : Value) (s : Bool) (r n : Int) (y : En) (v' u' : Value) (w' : World) : Prop :=
  w'.heap[b]? = some (if blt r n pr pn then oVr pr pn ar an x.k x.t x.n x.p v u s else oVr r n r n y.k y.t y.n y.p v' u' true)

theorem accept_any (b : Nat) (pr pn ar an : Int) (x : En) (v u : Value) (s : Bool) (r n : Int) (y : En) (v' u' : Value) (w : World) (h : w.heap[b]? = some (oVr pr pn ar an x.k x.t x.n x.p v u s)) (hy : ES w y v' u') :
    Calls Try.prog 15 #[.pointer (some ⟨b, 0, none⟩), ball r n, y.val v' u'] w fun e w' =>
      e = .returned (.bool (!blt r n pr pn)) ∧ Fr (fun k => k = b) w w' ∧ VotAfter b pr pn ar an x v u s r n y v' u' w' := by
  obtain ⟨hy1, hy2⟩ := hy
  obtain ⟨a1, c1, hv1, hn1⟩ := hy1.shape
  obtain ⟨a2, c2, hv2, hn2⟩ := hy2.shape
  subst hv1 hv2
  clear hy1 hy2 hn1 hn2
  generalize y.l.length = n1
  generalize y.m.length = n2
  have hl : b < w.heap.size := (Array.getElem?_eq_some_iff.1 h).1
  have f0 : Fr (fun _ => False) w ((w.alloc (oBa r n)).alloc (oEn y.k y.t y.n y.p (.slice a1 n1 c1) (.slice a2 n2 c2))) := ((Fr.refl _ _).alloc _).alloc _
  have q1 : ((w.alloc (oBa r n)).alloc (oEn y.k y.t y.n y.p (.slice a1 n1 c1) (.slice a2 n2 c2))).heap[w.heap.size]? = some (oBa r n) := crow_kept (heap_alloc_new w _) ((Fr.refl (fun _ => False) _).alloc _) (fun h => h)
  have q2 := new_two w (oBa r n) (oEn y.k y.t y.n y.p (.slice a1 n1 c1) (.slice a2 n2 c2))
  have Q0 := Lib.hid (And.intro (crow_kept h f0 (fun h => h)) (And.intro q1 q2))
  have F0 := Lib.hid f0
  clear h f0 q1 q2
  obtain ⟨B, hB⟩ : ∃ B, B = blt r n pr pn := ⟨_, rfl⟩
  have HB := Lib.hid hB
  unfold VotAfter
  rw [← hB]
  clear hB
  go_enter Try.func15, Try.ntmps15
  go_upto_region 1 with fail
  generalize (w.alloc (oBa r n)).alloc (oEn y.k y.t y.n y.p (.slice a1 n1 c1) (.slice a2 n2 c2)) = w0 at *
  refine wp_region_told (by kernel_rfl) (fun a b => Fr (fun _ => False) a b) (fun w => Fr.refl _ w) (fun _ _ _ h k => h.trans k (fun _ _ h => h)) [7, 8, 9, 10, 11, 12, 13, 14, 15, 16] rfl (by decide) (by intro d hd; simp at hd ⊢; omega)
    (fun i v _ => v = ([.pointer (some ⟨b, 0, none⟩), .bool false, .bool false, ball r n, .pointer (some ⟨b, 0, none⟩), .pointer (some ⟨b, 0, none⟩), .pointer (some ⟨b, 0, none⟩), ball pr pn, .bool B, .bool B] : List Value).getD i undef)
    (fun _ _ _ _ _ h => h) (by kernel_rfl) ?step1 ?fin1
  case step1 =>
    intro vals
    simp only [frOf, fill, List.setIfInBounds_toArray, List.set_cons_succ, List.set_cons_zero]
    repeat' (first | exact AllOps.nil | refine AllOps.cons ?_ ?_)
    all_goals
      intro wx hle he K' hK
      simp only [Act.put, List.setIfInBounds_toArray, List.set_cons_succ, List.set_cons_zero, List.getD_cons_zero, List.getD_cons_succ] at hK
      simp only [List.mem_cons, List.not_mem_nil, or_false, forall_eq_or_imp, forall_eq, Region.binds, forall_const, false_imp_iff, List.getD_cons_zero, List.getD_cons_succ] at he
      try simp only [he] at hK ⊢
      have hl5 := Fr.trans (Fr.drew (Fr.refl (fun _ => False) w0)) hle (fun _ _ h => h)
      have hl8 := Lib.hid hl5
      obtain ⟨c0, c1, c2, c3, c4, c5, c6, c7, c8, c9, c10⟩ := vot_cells (crow_kept Q0.out.1 hl5 (fun h => h))
      obtain ⟨b0, b1⟩ := ba_cells (crow_kept Q0.out.2.1 hl5 (fun h => h))
      clear hl5 hle he
      try go_simp
    all_goals first
      | exact hK _ _ (Fr.refl _ _) rfl
      | skip
    · go_at_call 8; refine (less_any r n pr pn _).mono ?_; rintro e1 wa ⟨rfl, fa⟩; rw [← HB.out]; exact hK _ _ fa rfl
  case fin1 =>
    intro vals w' hle hV
    have h9 : vals 9 = .bool B := hV 9 (by decide)
    clear hV
    have hw := Fr.trans (Fr.drew (Fr.refl (fun _ => False) w0)) hle (fun _ _ h => h)
    have hfin := Lib.hid (F0.out.trans hw (fun _ _ h => h))
    have Q1 := Lib.hid (And.intro (crow_kept Q0.out.1 hw (fun h => h)) (And.intro (crow_kept Q0.out.2.1 hw (fun h => h)) (crow_kept Q0.out.2.2 hw (fun h => h))))
    clear hle hw Q0
    simp only [frOf, fill, List.setIfInBounds_toArray, List.set_cons_succ, List.set_cons_zero, Nat.reduceAdd]
    simp only [h9]
    clear h9
    cases B with
    | true =>
      go_wp2_with fail
      go_ret
      exact ⟨rfl, hfin.out.mono (fun _ _ h => h.elim), Q1.out.1⟩
    | false =>
      obtain ⟨c0, c1, c2, c3, c4, c5, c6, c7, c8, c9, c10⟩ := vot_cells Q1.out.1
      obtain ⟨z0, z1, z2, z3, z4, z5⟩ := vfree6 Q1.out.1
      have z6 := vfree Q1.out.1 6
      have z7 := vfree Q1.out.1 7
      have z8 := vfree Q1.out.1 8
      have z9 := vfree Q1.out.1 9
      have z10 := vfree Q1.out.1 10
      obtain ⟨b00, b01⟩ := ba_cells Q1.out.2.1
      obtain ⟨d00, d01, d02, d03, d04, d05⟩ := en_cells Q1.out.2.2
      go_wp2_with fail
      go_ret
      exact ⟨rfl, cfr11 _ _ _ _ _ _ _ _ _ _ _ (hfin.out.mono (fun _ _ h => h.elim)) (fun _ => rfl), cst11 Q1.out.1⟩

/-- The way of a promise's last region. -/
def PrS (x : En) (ar an : Int) (g h : Nat) (w4 : World) : List Value → World → Prop
  | [], wx => Fr (fun _ => False) w4 wx
  | [y], wx => ∃ v' u', y = x.val v' u' ∧ ES wx x v' u' ∧ (∀ k, v'.ownBlock = some k → w4.heap.size ≤ k) ∧ (∀ k, u'.ownBlock = some k → w4.heap.size ≤ k) ∧ Fr (fun _ => False) w4 wx
  | [y, _], wx => ∃ v' u', y = x.val v' u' ∧ ES wx x v' u' ∧ (∀ k, v'.ownBlock = some k → w4.heap.size ≤ k) ∧ (∀ k, u'.ownBlock = some k → w4.heap.size ≤ k) ∧ Fr (fun k => k = g) w4 wx ∧ wx.heap[g]? = some (oBa ar an)
  | [y, _, _], wx => ∃ v' u', y = x.val v' u' ∧ ES wx x v' u' ∧ (∀ k, v'.ownBlock = some k → w4.heap.size ≤ k) ∧ (∀ k, u'.ownBlock = some k → w4.heap.size ≤ k) ∧ Fr (fun k => k = g ∨ k = h) w4 wx ∧ wx.heap[g]? = some (oBa ar an) ∧ wx.heap[h]? = some (x.obj v' u')
  | _, _ => False

theorem PrS.fr {x : En} {ar an : Int} {g h : Nat} {w4 wx : World} : ∀ {c : List Value}, PrS x ar an g h w4 c wx → Fr (fun k => k = g ∨ k = h) w4 wx
  | [], h => Fr.mono h (fun _ _ h => h.elim)
  | [_], ⟨_, _, _, _, _, _, h⟩ => h.mono (fun _ _ h => h.elim)
  | [_, _], ⟨_, _, _, _, _, _, h, _⟩ => h.mono (fun _ _ h => .inl h)
  | [_, _, _], ⟨_, _, _, _, _, _, h, _⟩ => h
  | _ :: _ :: _ :: _ :: _, h => h.elim

theorem ES.keep2 {S : Nat → Prop} {w w' : World} {x : En} {v u : Value} (h : ES w x v u) (h1 : ∀ k, v.ownBlock = some k → ¬ S k) (h2 : ∀ k, u.ownBlock = some k → ¬ S k) (hf : Fr S w w') : ES w' x v u :=
  ⟨h.1.keep hf (.inr h1), h.2.keep hf (.inr h2)⟩

/-- What comes of a promise that is asked; B: whether it is made. -/
def PromOut (b N : Nat) (B : Bool) (pr pn ar an : Int) (x : En) (v u : Value) (s : Bool) (r n : Int) (e : Ending) (w' : World) : Prop :=
  (B = false → e = .returned (.tuple #[ball 0 0, eZ, .bool false, .bool false]) ∧ w'.heap[b]? = some (oVr pr pn ar an x.k x.t x.n x.p v u s)) ∧
  (B = true → (∃ v' u', e = .returned (.tuple #[ball ar an, x.val v' u', .bool s, .bool true]) ∧ ES w' x v' u' ∧ Away b x v' u' ∧ (∀ k, v'.ownBlock = some k → N ≤ k) ∧ (∀ k, u'.ownBlock = some k → N ≤ k)) ∧ w'.heap[b]? = some (oVr r n ar an x.k x.t x.n x.p v u s))

theorem promise_any (b : Nat) (pr pn ar an : Int) (x : En) (v u : Value) (s : Bool) (r n : Int) (w : World) (h : w.heap[b]? = some (oVr pr pn ar an x.k x.t x.n x.p v u s)) (hx : ES w x v u) (ha : Away b x v u) (hl : x.l.length ≤ 4000) (hm : x.m.length ≤ 1000) :
    Calls Try.prog 12 #[.pointer (some ⟨b, 0, none⟩), ball r n] w fun e w' =>
      Fr (fun k => k = b) w w' ∧ PromOut b w.heap.size (blt pr pn r n) pr pn ar an x v u s r n e w' := by
  have hlt : b < w.heap.size := (Array.getElem?_eq_some_iff.1 h).1
  have f0 : Fr (fun _ => False) w (((w.alloc (oBa r n)).alloc (oBa 0 0)).alloc (oEn 0 0 0 0 nilS nilS)) := (((Fr.refl _ _).alloc _).alloc _).alloc _
  have q0 : (((w.alloc (oBa r n)).alloc (oBa 0 0)).alloc (oEn 0 0 0 0 nilS nilS)).heap[w.heap.size]? = some (oBa r n) := crow_kept (heap_alloc_new w _) (((Fr.refl (fun _ => False) _).alloc _).alloc _) (fun h => h)
  have q1 : (((w.alloc (oBa r n)).alloc (oBa 0 0)).alloc (oEn 0 0 0 0 nilS nilS)).heap[w.heap.size + 1]? = some (oBa 0 0) := crow_kept (new_two w _ _) ((Fr.refl (fun _ => False) _).alloc _) (fun h => h)
  have q2 : (((w.alloc (oBa r n)).alloc (oBa 0 0)).alloc (oEn 0 0 0 0 nilS nilS)).heap[w.heap.size + 1 + 1]? = some (oEn 0 0 0 0 nilS nilS) := by
    have := heap_alloc_new ((w.alloc (oBa r n)).alloc (oBa 0 0)) (oEn 0 0 0 0 nilS nilS)
    rw [World.size_alloc, World.size_alloc] at this
    exact this
  have Q0 := Lib.hid (And.intro (crow_kept h f0 (fun h => h)) (And.intro q0 (And.intro q1 q2)))
  have F0 := Lib.hid f0
  have HX := Lib.hid (hx.fr f0)
  have HA := Lib.hid ha
  clear h f0 q0 q1 q2 hx ha
  obtain ⟨B, hB⟩ : ∃ B, B = blt pr pn r n := ⟨_, rfl⟩
  have HB := Lib.hid hB
  rw [← hB]
  clear hB
  go_enter Try.func12, Try.ntmps12
  go_upto_region 1 with fail
  generalize ((w.alloc (oBa r n)).alloc (oBa 0 0)).alloc (oEn 0 0 0 0 nilS nilS) = w0 at *
  refine wp_region_told (by kernel_rfl) (fun a b => Fr (fun _ => False) a b) (fun w => Fr.refl _ w) (fun _ _ _ h k => h.trans k (fun _ _ h => h)) [8, 9, 10, 11, 12, 13, 14, 15, 16, 17, 18] rfl (by decide) (by intro d hd; simp at hd ⊢; omega)
    (fun i v _ => v = ([.pointer (some ⟨b, 0, none⟩), .bool false, .bool false, .pointer (some ⟨b, 0, none⟩), .pointer (some ⟨b, 0, none⟩), .pointer (some ⟨b, 0, none⟩), ball pr pn, ball r n, .bool B, .bool (!B), .bool (!B)] : List Value).getD i undef)
    (fun _ _ _ _ _ h => h) (by kernel_rfl) ?step1 ?fin1
  case step1 =>
    intro vals
    simp only [frOf, fill, List.setIfInBounds_toArray, List.set_cons_succ, List.set_cons_zero]
    repeat' (first | exact AllOps.nil | refine AllOps.cons ?_ ?_)
    all_goals
      intro wx hle he K' hK
      simp only [Act.put, List.setIfInBounds_toArray, List.set_cons_succ, List.set_cons_zero, List.getD_cons_zero, List.getD_cons_succ] at hK
      simp only [List.mem_cons, List.not_mem_nil, or_false, forall_eq_or_imp, forall_eq, Region.binds, forall_const, false_imp_iff, List.getD_cons_zero, List.getD_cons_succ] at he
      try simp only [he] at hK ⊢
      have hl5 := Fr.trans (Fr.drew (Fr.refl (fun _ => False) w0)) hle (fun _ _ h => h)
      have hl8 := Lib.hid hl5
      obtain ⟨c0, c1, c2, c3, c4, c5, c6, c7, c8, c9, c10⟩ := vot_cells (crow_kept Q0.out.1 hl5 (fun h => h))
      obtain ⟨b0, b1⟩ := ba_cells (crow_kept Q0.out.2.1 hl5 (fun h => h))
      clear hl5 hle he
      try go_simp
    all_goals first
      | exact hK _ _ (Fr.refl _ _) rfl
      | skip
    · go_at_call 8; refine (less_any pr pn r n _).mono ?_; rintro e1 wa ⟨rfl, fa⟩; rw [← HB.out]; exact hK _ _ fa rfl
  case fin1 =>
    intro vals w' hle hV
    have h9 : vals 10 = .bool (!B) := hV 10 (by decide)
    clear hV
    have hw := Fr.trans (Fr.drew (Fr.refl (fun _ => False) w0)) hle (fun _ _ h => h)
    have F1 := Lib.hid (F0.out.trans hw (fun _ _ h => h))
    have Q1 := Lib.hid (And.intro (crow_kept Q0.out.1 hw (fun h => h)) (And.intro (crow_kept Q0.out.2.1 hw (fun h => h)) (And.intro (crow_kept Q0.out.2.2.1 hw (fun h => h)) (crow_kept Q0.out.2.2.2 hw (fun h => h)))))
    have X1 := Lib.hid (HX.out.fr hw)
    clear hle hw Q0
    simp only [frOf, fill, List.setIfInBounds_toArray, List.set_cons_succ, List.set_cons_zero, Nat.reduceAdd]
    simp only [h9]
    clear h9
    cases B with
    | false =>
      obtain ⟨d00, d01, d02, d03, d04, d05⟩ := en_cells Q1.out.2.2.2
      obtain ⟨z00, z01, z02, z03, z04, z05⟩ := vfree6 Q1.out.2.2.2
      obtain ⟨b00, b01⟩ := ba_cells Q1.out.2.2.1
      have y00 := vfree Q1.out.2.2.1 0
      have y01 := vfree Q1.out.2.2.1 1
      simp only [Bool.not_false]
      go_wp2_with fail
      obtain ⟨hq1, hq2, hf⟩ := stBE (r := 0) (n := 0) (k := 0) (t := 0) (n' := 0) (p := 0) (v := nilS) (u := nilS) (by omega) Q1.out.2.2.1 Q1.out.2.2.2
      have hb := crow_kept Q1.out.1 (hf (S := fun k => k = w.heap.size + 1 ∨ k = w.heap.size + 1 + 1) (Fr.refl _ w') (fun _ => .inl rfl) (fun _ => .inr rfl)) (by omega)
      refine bodyPost_ret (results_rrtt rfl _ _ (w.heap.size + 1) 40 _ _ _ (w.heap.size + 1 + 1) 47 _ _ _ rfl hq1 rfl hq2 Try.underlying40 rfl (by kernel_rfl) Try.underlying47 rfl (by kernel_rfl)) rfl ?_
      exact ⟨(hf F1.out (by omega) (by omega)).mono (fun _ _ h => h.elim), fun _ => ⟨rfl, hb⟩, fun h => by cases h⟩
    | true =>
      simp only [Bool.not_true]
      go_upto_region 3 with fail
      obtain ⟨c0, c1, c2, c3, c4, c5, c6, c7, c8, c9, c10⟩ := vot_cells Q1.out.1
      have z0 := vfree Q1.out.1 0
      have z1 := vfree Q1.out.1 1
      obtain ⟨b00, b01⟩ := ba_cells Q1.out.2.1
      go_upto_region 4 with fail
      have q4 : ((w'.setCell ⟨b, 0, none⟩ (.int .i64 r)).setCell ⟨b, 1, none⟩ (.int .i64 n)).heap[b]? = some (oVr r n ar an x.k x.t x.n x.p v u s) := by
        have h0 : (w'.setCell ⟨b, 0, none⟩ (.int .i64 r)).heap[b]? = some (oVr r pn ar an x.k x.t x.n x.p v u s) := by rw [heap_setCell_same w' b 0 _ _ _ Q1.out.1]; rfl
        rw [heap_setCell_same _ b 1 _ _ _ h0]; rfl
      have f4 := cfr2 (.int .i64 r) (.int .i64 n) (b := b) (S := fun k => k = b) (Fr.refl _ w') (fun _ => rfl)
      generalize (w'.setCell ⟨b, 0, none⟩ (.int .i64 r)).setCell ⟨b, 1, none⟩ (.int .i64 n) = w4 at *
      have Q4 := Lib.hid (And.intro q4 (And.intro (crow_kept Q1.out.2.2.1 f4 (by omega)) (crow_kept Q1.out.2.2.2 f4 (by omega))))
      have F4 := Lib.hid ((F1.out.mono (fun _ _ h => h.elim)).trans f4 (fun _ _ h => h))
      have X4 := Lib.hid (X1.out.keep HA.out f4)
      have hs4 : w.heap.size + 1 + 1 < w4.heap.size := (Array.getElem?_eq_some_iff.1 Q4.out.2.2).1
      clear q4 f4 c0 c1 c2 c3 c4 c5 c6 c7 c8 c9 c10 z0 z1 b00 b01 Q1 X1
      refine wp_region_chain (by kernel_rfl) [some 25, some 26, some 27, some 28, some 29, some 30, some 31, some 32, some 33, some 34, some 35, some 36, some 37, none, none, some 6, some 7] rfl (by decide) (by intro d hd; simp at hd ⊢; omega)
        [8, 13, 14] (fun cvs wx => PrS x ar an (w.heap.size + 1) (w.heap.size + 1 + 1) w4 cvs wx)
        [.free (.pointer (some ⟨b, 0, none⟩)), .free (.pointer (some ⟨b, 0, none⟩)), .free (.pointer (some ⟨b, 2, none⟩)), .free (ball ar an), .free (.pointer (some ⟨b, 0, none⟩)), .free (.pointer (some ⟨b, 0, none⟩)), .free (.pointer (some ⟨b, 4, none⟩)), .free (x.val v u), .link none, .free (.pointer (some ⟨b, 0, none⟩)), .free (.pointer (some ⟨b, 0, none⟩)), .free (.pointer (some ⟨b, 10, none⟩)), .free (.bool s), .link none, .link none, .free (.bool s), .free (.bool true)]
        (by kernel_rfl) (by kernel_rfl) ?h4 ?step4 ?fin4
      case h4 => exact (Fr.refl _ _).drew
      case step4 =>
        intro vals
        simp only [frOfU, fillU, List.setIfInBounds_toArray, List.set_cons_succ, List.set_cons_zero]
        repeat' (first | exact AllOps.nil | refine AllOps.cons ?_ ?_)
        all_goals
          intro cvs wx hS he hu hlim Kc hK
          simp only [Act.put, List.setIfInBounds_toArray, List.set_cons_succ, List.set_cons_zero, List.getD_cons_zero, List.getD_cons_succ] at hK
          simp only [List.mem_cons, List.not_mem_nil, or_false, forall_eq_or_imp, forall_eq, Region.binds, forall_const, qmode_gc, Bool.false_eq_true, false_imp_iff, List.getD_cons_zero, List.getD_cons_succ, OpSort.val, Option.some.injEq, forall_eq', reduceCtorEq, implies_true, true_and, and_true] at he
          have hl5 := PrS.fr hS
          obtain ⟨c0, c1, c2, c3, c4, c5, c6, c7, c8, c9, c10⟩ := vot_cells (crow_kept Q4.out.1 hl5 (by omega))
          clear hl5
          have HSX := Lib.hid hS
          clear hS
        all_goals first | (clear hlim hu; (try simp only [he] at hK ⊢); go_simp; exact hK) | skip
        · obtain rfl := hlim (0 : Nat) rfl
          have h1 : Fr (fun _ => False) w4 wx := HSX.out
          have H1 := Lib.hid h1
          clear hlim hu HSX h1
          simp only [he] at hK ⊢
          go_simp
          go_at_call 20
          refine (vapart_any x v u wx (X4.out.fr H1.out) hl hm).mono ?_
          rintro y wa ⟨v', u', rfl, he', hf', hg1, hg2⟩
          exact hK _ _ (fun _ h => by cases h) ⟨v', u', rfl, he', fun k hk => Nat.le_trans H1.out.size (hg1 k hk), fun k hk => Nat.le_trans H1.out.size (hg2 k hk), H1.out.trans hf' (fun _ _ h => h)⟩
        · obtain rfl := hlim (1 : Nat) rfl
          obtain ⟨v', u', hv8, he8, hg1, hg2, hf8⟩ : PrS x ar an (w.heap.size + 1) (w.heap.size + 1 + 1) w4 [vals 8] wx := HSX.out
          have q5 := crow_kept Q4.out.2.1 hf8 (fun h => h)
          obtain ⟨b0, b1⟩ := ba_cells q5
          have z0 := vfree q5 0
          have z1 := vfree q5 1
          have hq := cst2 (y0 := .int .i64 ar) (y1 := .int .i64 an) q5
          have hf := cfr2 (.int .i64 ar) (.int .i64 an) (b := (w.heap.size + 1)) (S := fun k => k = (w.heap.size + 1)) (Fr.refl _ wx) (fun _ => rfl)
          have R := Lib.hid (show PrS x ar an (w.heap.size + 1) (w.heap.size + 1 + 1) w4 [vals 8, undef] _ from ⟨v', u', hv8, he8.keep2 (fun k hk e => by have := hg1 k hk; omega) (fun k hk e => by have := hg2 k hk; omega) hf, hg1, hg2, (hf8.mono (fun _ _ h => h.elim)).trans hf (fun _ _ h => h), hq⟩)
          clear hlim hu HSX hg1 hg2 hf8 q5 hq hf he8 hv8
          simp only [he] at hK ⊢
          clear he
          go_simp
          exact hK _ _ (fun _ h => by cases h) R.out
        · obtain rfl := hlim (2 : Nat) rfl
          obtain ⟨v', u', hv8, he8, hg1, hg2, hf8, hb8⟩ : PrS x ar an (w.heap.size + 1) (w.heap.size + 1 + 1) w4 [vals 8, vals 13] wx := HSX.out
          obtain ⟨a1, k1, hv1, hn1⟩ := he8.1.shape
          obtain ⟨a2, k2, hv2, hn2⟩ := he8.2.shape
          subst hv1 hv2
          have q5 := crow_kept Q4.out.2.2 hf8 (by omega)
          obtain ⟨b0, b1, b2, b3, b4, b5⟩ := en_cells q5
          obtain ⟨z0, z1, z2, z3, z4, z5⟩ := vfree6 q5
          have hq := cst6 (y0 := .int .u8 x.k) (y1 := .int .u16 x.t) (y2 := .int .u16 x.n) (y3 := .int .i64 x.p) (y4 := .slice a1 x.l.length k1) (y5 := .slice a2 x.m.length k2) q5
          have hf := cfr6 (.int .u8 x.k) (.int .u16 x.t) (.int .u16 x.n) (.int .i64 x.p) (.slice a1 x.l.length k1) (.slice a2 x.m.length k2) (b := (w.heap.size + 1 + 1)) (S := fun k => k = (w.heap.size + 1 + 1)) (Fr.refl _ wx) (fun _ => rfl)
          have R := Lib.hid (show PrS x ar an (w.heap.size + 1) (w.heap.size + 1 + 1) w4 [vals 8, vals 13, undef] _ from ⟨_, _, hv8, he8.keep2 (fun k hk e => by have := hg1 k hk; omega) (fun k hk e => by have := hg2 k hk; omega) hf, hg1, hg2, (hf8.mono (fun _ _ h => .inl h)).trans hf (fun _ _ h => .inr h), crow_kept hb8 hf (by omega), hq⟩)
          clear hlim hu HSX hg1 hg2 hf8 q5 hq hf he8 hb8
          simp only [he, hv8] at hK ⊢
          clear he
          go_simp
          exact hK _ _ (fun _ h => by cases h) R.out
      case fin4 =>
        intro vals w5 hS hV
        have v0 := hV 0 _ (by decide) rfl
        have v1 := hV 1 _ (by decide) rfl
        have v2 := hV 2 _ (by decide) rfl
        have v3 := hV 3 _ (by decide) rfl
        have v4 := hV 4 _ (by decide) rfl
        have v5 := hV 5 _ (by decide) rfl
        have v6 := hV 6 _ (by decide) rfl
        have v7 := hV 7 _ (by decide) rfl
        have v9 := hV 9 _ (by decide) rfl
        have v10 := hV 10 _ (by decide) rfl
        have v11 := hV 11 _ (by decide) rfl
        have v12 := hV 12 _ (by decide) rfl
        have v15 := hV 15 _ (by decide) rfl
        have v16 := hV 16 _ (by decide) rfl
        clear hV
        simp only [frOfU, fillU, List.setIfInBounds_toArray, List.set_cons_succ, List.set_cons_zero]
        simp only [Nat.reduceAdd, v0, v1, v2, v3, v4, v5, v6, v7, v9, v10, v11, v12, v15, v16]
        clear v0 v1 v2 v3 v4 v5 v6 v7 v9 v10 v11 v12 v15 v16
        obtain ⟨v1, u1, e1, hes, hn1, hn2, hf5, hg5, hh5⟩ : PrS x ar an (w.heap.size + 1) (w.heap.size + 1 + 1) w4 [vals 8, vals 13, vals 14] w5 := hS
        have hfb := F4.out.trans hf5 (fun k hk e => by omega)
        have hb5 := crow_kept Q4.out.1 hf5 (by omega)
        generalize vals 8 = y8 at *
        generalize vals 13 = y13 at *
        generalize vals 14 = y14 at *
        subst e1
        have HE5 := Lib.hid hes
        have HNW := Lib.hid (show (∀ k, v1.ownBlock = some k → w.heap.size ≤ k) ∧ (∀ k, u1.ownBlock = some k → w.heap.size ≤ k) from ⟨fun k hk => by have := hn1 k hk; omega, fun k hk => by have := hn2 k hk; omega⟩)
        have HA5 : Hid (Away b x v1 u1) := Lib.hid ⟨.inr (fun e => by have := hn1 b e; omega), .inr (fun e => by have := hn2 b e; omega)⟩
        clear hn1 hn2
        have HF5 := Lib.hid hfb
        have HG5 := Lib.hid (And.intro hg5 (And.intro hh5 hb5))
        clear hes hfb hf5 hg5 hh5 hb5
        go_wp2_with fail
        refine bodyPost_ret (results_rrtt rfl _ _ (w.heap.size + 1) 40 _ _ _ (w.heap.size + 1 + 1) 47 _ _ _ rfl HG5.out.1 rfl HG5.out.2.1 Try.underlying40 rfl (by kernel_rfl) Try.underlying47 rfl (by kernel_rfl)) rfl ?_
        exact ⟨HF5.out, fun h => (by cases h), fun _ => ⟨⟨_, _, rfl, HE5.out, HA5.out, HNW.out⟩, HG5.out.2.2⟩⟩
end
section
set_option maxRecDepth 100000

theorem Fr.same {S : Nat → Prop} {w w' : World} (h : Fr S w w') (hs : ∀ k, S k → k < w.heap.size → w'.heap[k]? = w.heap[k]?) : Fr (fun _ => False) w w' :=
  ⟨h.os, h.tape, h.output, h.size, fun k hk _ => by
    by_cases hS : S k
    · exact hs k hS hk
    · exact h.block k hk hS⟩

theorem lt_of {w : World} {b : Nat} {o : Obj} (h : w.heap[b]? = some o) : b < w.heap.size := (Array.getElem?_eq_some_iff.1 h).1

/-- A lower vote leaves all as it was. -/
theorem accept_low (b : Nat) (pr pn ar an : Int) (x : En) (v u : Value) (s : Bool) (r n : Int) (y : En) (v' u' : Value) (w : World) (h : w.heap[b]? = some (oVr pr pn ar an x.k x.t x.n x.p v u s)) (hy : ES w y v' u') (hb : blt r n pr pn = true) :
    Calls Try.prog 15 #[.pointer (some ⟨b, 0, none⟩), ball r n, y.val v' u'] w fun e w' => e = .returned (.bool false) ∧ Fr (fun _ => False) w w' := by
  refine (accept_any b pr pn ar an x v u s r n y v' u' w h hy).mono ?_
  rintro e w' ⟨rfl, f, ha⟩
  unfold VotAfter at ha
  rw [if_pos hb] at ha
  refine ⟨by rw [hb]; rfl, f.same (fun k hk _ => ?_)⟩
  subst hk
  rw [ha, h]
end
section
open Go.ChangeShapes Go.WideShapes Go.ChangeAt Go.RowKit
set_option maxRecDepth 100000

structure BaN where
  r : Int
  n : Int
def BaV (_ : World) (x : BaN) (v : Value) : Prop := v = ball x.r x.n

abbrev Sm.sl (s : Sm) (a : Option Addr) (c : Nat) : Value := .slice a s.c.l.length c
def SmV (w : World) (s : Sm) (v : Value) : Prop := ∃ a c, v = smV s (s.sl a c) ∧ SeesO w (s.sl a c) s.c.l ∧ s.ok

theorem cellsOf_Ba : Try.prog.cellsOf 40 = 2 := by kernel_rfl
theorem cellsOf_int : Try.prog.cellsOf 3 = 1 := by kernel_rfl
theorem cellsOf_Sm : Try.prog.cellsOf 27 = 6 := by kernel_rfl

section
variable {H : Type} (enc : TypeId × Value → H) (w : World)

theorem ba_any {v : Value} {d : DataW H} {p : List MemPlace} {base : Nat} (hval : Value.okWide Try.prog w .any base 40 v)
    (h : DataW.Trod enc Try.prog w 0 (fun _ => true) true 40 v d p) : ∃ x, BaV w x v := by
  obtain ⟨cs, rfl, _⟩ := okWide_struct Try.underlying40 hval
  obtain ⟨fuel, hf⟩ := h
  obtain ⟨xs, n, rfl, _, hl, hlen, hf⟩ := DataW.trod_struct Try.underlying40 hf
  rw [cellsOf_Ba] at hl
  have hcs : (Value.agg cs).cells.toList = cs.toList := rfl
  rw [hcs] at hl hf
  obtain ⟨cs⟩ := cs
  match cs, hl with
  | [c0, c1], _ =>
  have f0 : DataW.trod enc Try.prog w 0 (fun _ => true) true n 3 (List.take (Try.prog.cellsOf 3) (List.drop 0 [c0, c1])) = xs[0]? := hf 0 _ rfl
  have f1 : DataW.trod enc Try.prog w 0 (fun _ => true) true n 3 (List.take (Try.prog.cellsOf 3) (List.drop 1 [c0, c1])) = xs[1]? := hf 1 _ rfl
  have hl5 : xs.length = 2 := hlen
  rw [List.getElem?_eq_getElem (by omega)] at f0 f1
  simp only [cellsOf_int, List.drop_zero, List.drop_succ_cons, List.take_succ_cons, List.take_zero] at f0 f1
  obtain ⟨k0, h0, e0⟩ := int_reads enc w Try.underlying3 f0
  obtain ⟨k1, h1, e1⟩ := int_reads enc w Try.underlying3 f1
  simp at e0 e1
  subst e0 e1
  exact ⟨⟨k0, k1⟩, rfl⟩

theorem sc_reads {fuel : Nat} {cs : List Value} {x : DataW H × List MemPlace} (h : DataW.trod enc Try.prog w 0 (fun _ => true) true fuel 25 cs = some x) :
    ∃ (s : Sc) (a : Option Addr) (c : Nat), cs = [.int .u16 s.t, .int .u16 s.n, .int .u16 s.p, .slice a s.l.length c] ∧ SeesO w (.slice a s.l.length c) s.l ∧ 0 ≤ s.t ∧ s.t ≤ 65535 ∧ 0 ≤ s.n ∧ s.n ≤ 65535 ∧ 0 ≤ s.p ∧ s.p ≤ 65535 := by
  obtain ⟨xs, n, rfl, _, hl, hlen, hf⟩ := DataW.trod_struct Try.underlying25 h
  rw [cellsOf_Sc] at hl
  match cs, hl with
  | [c0, c1, c2, c3], _ =>
  have f0 : DataW.trod enc Try.prog w 0 (fun _ => true) true n 22 (List.take (Try.prog.cellsOf 22) (List.drop 0 [c0, c1, c2, c3])) = xs[0]? := hf 0 _ rfl
  have f1 : DataW.trod enc Try.prog w 0 (fun _ => true) true n 22 (List.take (Try.prog.cellsOf 22) (List.drop 1 [c0, c1, c2, c3])) = xs[1]? := hf 1 _ rfl
  have f2 : DataW.trod enc Try.prog w 0 (fun _ => true) true n 22 (List.take (Try.prog.cellsOf 22) (List.drop 2 [c0, c1, c2, c3])) = xs[2]? := hf 2 _ rfl
  have f3 : DataW.trod enc Try.prog w 0 (fun _ => true) true n 23 (List.take (Try.prog.cellsOf 23) (List.drop 3 [c0, c1, c2, c3])) = xs[3]? := hf 3 _ rfl
  have hl5 : xs.length = 4 := hlen
  rw [List.getElem?_eq_getElem (by omega)] at f0 f1 f2 f3
  simp only [cellsOf_u16, cellsOf_u8s, List.drop_zero, List.drop_succ_cons, List.take_succ_cons, List.take_zero] at f0 f1 f2 f3
  obtain ⟨k0, h0, e0⟩ := int_reads enc w Try.underlying22 f0
  obtain ⟨k1, h1, e1⟩ := int_reads enc w Try.underlying22 f1
  obtain ⟨k2, h2, e2⟩ := int_reads enc w Try.underlying22 f2
  obtain ⟨l, a, c, e3, hs⟩ := u8s_reads enc w f3
  simp at e0 e1 e2 e3
  subst e0 e1 e2 e3
  have b0 := bounds_u16 h0
  have b1 := bounds_u16 h1
  have b2 := bounds_u16 h2
  exact ⟨⟨k0, k1, k2, l⟩, a, c, rfl, hs, b0.1, b0.2, b1.1, b1.2, b2.1, b2.2⟩

theorem sm_reads {fuel : Nat} {cs : List Value} {x : DataW H × List MemPlace} (h : DataW.trod enc Try.prog w 0 (fun _ => true) true fuel 27 cs = some x) :
    ∃ (s : Sm) (a : Option Addr) (c : Nat), cs = [.int .u8 s.kind, .int .u16 s.c.t, .int .u16 s.c.n, .int .u16 s.c.p, s.sl a c, .int .u16 s.mb] ∧ SeesO w (s.sl a c) s.c.l ∧ s.ok := by
  obtain ⟨xs, n, rfl, _, hl, hlen, hf⟩ := DataW.trod_struct Try.underlying27 h
  rw [cellsOf_Sm] at hl
  match cs, hl with
  | [c0, c1, c2, c3, c4, c5], _ =>
  have f0 : DataW.trod enc Try.prog w 0 (fun _ => true) true n 5 (List.take (Try.prog.cellsOf 5) (List.drop 0 [c0, c1, c2, c3, c4, c5])) = xs[0]? := hf 0 _ rfl
  have f1 : DataW.trod enc Try.prog w 0 (fun _ => true) true n 25 (List.take (Try.prog.cellsOf 25) (List.drop 1 [c0, c1, c2, c3, c4, c5])) = xs[1]? := hf 1 _ rfl
  have f2 : DataW.trod enc Try.prog w 0 (fun _ => true) true n 22 (List.take (Try.prog.cellsOf 22) (List.drop 5 [c0, c1, c2, c3, c4, c5])) = xs[2]? := hf 2 _ rfl
  have hl5 : xs.length = 3 := hlen
  rw [List.getElem?_eq_getElem (by omega)] at f0 f1 f2
  simp only [cellsOf_u8, cellsOf_Sc, cellsOf_u16, List.drop_zero, List.drop_succ_cons, List.take_succ_cons, List.take_zero] at f0 f1 f2
  obtain ⟨k0, h0, e0⟩ := int_reads enc w Try.underlying5 f0
  obtain ⟨s, a, c, e1, hs, p0, p1, p2, p3, p4, p5⟩ := sc_reads enc w f1
  obtain ⟨k2, h2, e2⟩ := int_reads enc w Try.underlying22 f2
  simp at e0 e1 e2
  obtain ⟨e10, e11, e12, e13⟩ := e1
  subst e0 e10 e11 e12 e13 e2
  have b0 := bounds_u8 h0
  have b2 := bounds_u16 h2
  obtain ⟨k, rfl⟩ : ∃ k : Nat, k2 = k := ⟨k2.toNat, by omega⟩
  exact ⟨⟨k0, s, k⟩, a, c, rfl, hs, ⟨b0.1, b0.2, p0, p1, p2, p3, p4, p5, by have := b2.2; show k < 65536; omega⟩⟩

theorem sm_any {v : Value} {d : DataW H} {p : List MemPlace} {base : Nat} (hval : Value.okWide Try.prog w .any base 27 v)
    (h : DataW.Trod enc Try.prog w 0 (fun _ => true) true 27 v d p) : ∃ x, SmV w x v := by
  obtain ⟨cs, rfl, _⟩ := okWide_struct Try.underlying27 hval
  obtain ⟨fuel, hf⟩ := h
  have hcs : (Value.agg cs).cells.toList = cs.toList := rfl
  rw [hcs] at hf
  obtain ⟨s, a, c, e, hs, hok⟩ := sm_reads enc w hf
  obtain ⟨cs⟩ := cs
  simp at e
  subst e
  exact ⟨s, a, c, rfl, hs, hok⟩

end
end
section
set_option maxRecDepth 100000

/-- What a voter holds. -/
structure VtN where
  pr : Int
  pn : Int
  ar : Int
  an : Int
  x : En
  s : Bool

def VtN.zero : VtN := ⟨0, 0, 0, 0, En.zero, false⟩
def VtN.accept (st : VtN) (r n : Int) (y : En) : VtN := if blt r n st.pr st.pn then st else ⟨r, n, r, n, y, true⟩
def VtN.promise (st : VtN) (r n : Int) : VtN := if blt st.pr st.pn r n then { st with pr := r, pn := n } else st

def EnSmall (x : En) : Prop := x.l.length ≤ 4000 ∧ x.m.length ≤ 1000

/-- The voter in block b. -/
def VtS (w : World) (b : Nat) (st : VtN) : Prop :=
  ∃ v u, w.heap[b]? = some (oVr st.pr st.pn st.ar st.an st.x.k st.x.t st.x.n st.x.p v u st.s) ∧ ES w st.x v u ∧ Away b st.x v u ∧ EnSmall st.x

theorem VtS.fr {w w' : World} {b : Nat} {st : VtN} (h : VtS w b st) (f : Fr (fun _ => False) w w') : VtS w' b st := by
  obtain ⟨v, u, h1, h2, h3, h4⟩ := h
  exact ⟨v, u, crow_kept h1 f (fun h => h), h2.fr f, h3, h4⟩

theorem VtS.lt {w : World} {b : Nat} {st : VtN} (h : VtS w b st) : b < w.heap.size := by
  obtain ⟨v, u, h1, _⟩ := h
  exact lt_of h1

theorem vts_new (w : World) : VtS (w.alloc (oVr 0 0 0 0 0 0 0 0 nilS nilS false)) w.heap.size VtN.zero :=
  ⟨nilS, nilS, heap_alloc_new w _, es_zero _, ⟨.inl rfl, .inl rfl⟩, by decide, by decide⟩

theorem acceptS (b : Nat) (st : VtN) (r n : Int) (y : En) (v' u' : Value) (w : World) (h : VtS w b st) (hy : ES w y v' u') (ha : Away b y v' u') (hsm : EnSmall y) :
    Calls Try.prog 15 #[.pointer (some ⟨b, 0, none⟩), ball r n, y.val v' u'] w fun e w' =>
      e = .returned (.bool (!blt r n st.pr st.pn)) ∧ Fr (fun k => k = b) w w' ∧ VtS w' b (st.accept r n y) := by
  obtain ⟨v, u, h1, h2, h3, h4⟩ := h
  refine (accept_any b st.pr st.pn st.ar st.an st.x v u st.s r n y v' u' w h1 hy).mono ?_
  rintro e w' ⟨rfl, f, hv⟩
  refine ⟨rfl, f, ?_⟩
  unfold VotAfter at hv
  unfold VtN.accept
  by_cases hb : blt r n st.pr st.pn = true
  · rw [if_pos hb] at hv ⊢
    exact ⟨v, u, hv, h2.keep h3 f, h3, h4⟩
  · rw [if_neg hb] at hv ⊢
    exact ⟨v', u', hv, hy.keep ha f, ha, hsm⟩

/-- What Promise returns. -/
def PromRet (b : Nat) (st : VtN) (r n : Int) (e : Ending) (w' : World) : Prop :=
  (blt st.pr st.pn r n = false → e = .returned (.tuple #[ball 0 0, eZ, .bool false, .bool false])) ∧
  (blt st.pr st.pn r n = true → ∃ v' u', e = .returned (.tuple #[ball st.ar st.an, st.x.val v' u', .bool st.s, .bool true]) ∧ ES w' st.x v' u' ∧ Away b st.x v' u')

theorem promiseS (b : Nat) (st : VtN) (r n : Int) (w : World) (h : VtS w b st) :
    Calls Try.prog 12 #[.pointer (some ⟨b, 0, none⟩), ball r n] w fun e w' =>
      PromRet b st r n e w' ∧ Fr (fun k => k = b) w w' ∧ VtS w' b (st.promise r n) := by
  obtain ⟨v, u, h1, h2, h3, h4⟩ := h
  refine (promise_any b st.pr st.pn st.ar st.an st.x v u st.s r n w h1 h2 h3 h4.1 h4.2).mono ?_
  rintro e w' ⟨f, hno, hyes⟩
  cases hb : blt st.pr st.pn r n with
  | false =>
    obtain ⟨rfl, hv⟩ := hno hb
    refine ⟨⟨fun _ => rfl, fun h => (by rw [hb] at h; cases h)⟩, f, ?_⟩
    unfold VtN.promise
    rw [if_neg (by rw [hb]; decide)]
    exact ⟨v, u, hv, h2.keep h3 f, h3, h4⟩
  | true =>
    obtain ⟨⟨v', u', rfl, he⟩, hv⟩ := hyes hb
    refine ⟨⟨fun h => (by rw [hb] at h; cases h), fun _ => ⟨v', u', rfl, he.1, he.2.1⟩⟩, f, ?_⟩
    unfold VtN.promise
    rw [if_pos hb]
    exact ⟨v, u, hv, h2.keep h3 f, h3, h4⟩

/-- What Promise returns; the lists are new. -/
def PromRetF (N b : Nat) (st : VtN) (r n : Int) (e : Ending) (w' : World) : Prop :=
  (blt st.pr st.pn r n = false → e = .returned (.tuple #[ball 0 0, eZ, .bool false, .bool false])) ∧
  (blt st.pr st.pn r n = true → ∃ v' u', e = .returned (.tuple #[ball st.ar st.an, st.x.val v' u', .bool st.s, .bool true]) ∧ ES w' st.x v' u' ∧ Away b st.x v' u' ∧ (∀ k, v'.ownBlock = some k → N ≤ k) ∧ (∀ k, u'.ownBlock = some k → N ≤ k))

/-- A promise; the entry's lists that are told are new. -/
theorem promiseF (b : Nat) (st : VtN) (r n : Int) (w : World) (h : VtS w b st) :
    Calls Try.prog 12 #[.pointer (some ⟨b, 0, none⟩), ball r n] w fun e w' =>
      PromRetF w.heap.size b st r n e w' ∧ Fr (fun k => k = b) w w' ∧ VtS w' b (st.promise r n) := by
  obtain ⟨v, u, h1, h2, h3, h4⟩ := h
  refine (promise_any b st.pr st.pn st.ar st.an st.x v u st.s r n w h1 h2 h3 h4.1 h4.2).mono ?_
  rintro e w' ⟨f, hno, hyes⟩
  cases hb : blt st.pr st.pn r n with
  | false =>
    obtain ⟨rfl, hv⟩ := hno hb
    refine ⟨⟨fun _ => rfl, fun h => (by rw [hb] at h; cases h)⟩, f, ?_⟩
    unfold VtN.promise
    rw [if_neg (by rw [hb]; decide)]
    exact ⟨v, u, hv, h2.keep h3 f, h3, h4⟩
  | true =>
    obtain ⟨⟨v', u', rfl, he⟩, hv⟩ := hyes hb
    refine ⟨⟨fun h => (by rw [hb] at h; cases h), fun _ => ⟨v', u', rfl, he⟩⟩, f, ?_⟩
    unfold VtN.promise
    rw [if_pos hb]
    exact ⟨v, u, hv, h2.keep h3 f, h3, h4⟩

theorem promisedS (b : Nat) (st : VtN) (w : World) (h : VtS w b st) :
    Calls Try.prog 7 #[.pointer (some ⟨b, 0, none⟩)] w fun e w' => e = .returned (ball st.pr st.pn) ∧ Fr (fun _ => False) w w' := by
  obtain ⟨v, u, h1, _⟩ := h
  exact promised_any b st.pr st.pn st.ar st.an st.x.k st.x.t st.x.n st.x.p v u st.s w h1

/-- What lies in memory below B only, or is empty. -/
def SmAt (B : Nat) (w : World) (s : Sm) (v : Value) : Prop := (∃ a c, v = s.sl a c) ∧ Sees w v s.c.l ∧ (s.c.l = [] ∨ ∀ k, v.ownBlock = some k → k < B) ∧ s.ok ∧ s.c.l.length ≤ 4000

theorem SmAt.keep {B : Nat} {S : Nat → Prop} {w w' : World} {s : Sm} {v : Value} (h : SmAt B w s v) (f : Fr S w w') (hS : ∀ k, S k → B ≤ k) : SmAt B w' s v :=
  ⟨h.1, h.2.1.keep f (h.2.2.1.imp id (fun h k hk hs => by have := h k hk; have := hS k hs; omega)), h.2.2.1, h.2.2.2⟩

/-- Small's Entry, away from a block that is newer than its argument's. -/
theorem sentryS (B : Nat) (s : Sm) (v : Value) (w : World) (h : SmAt B w s v) :
    Calls Try.prog 11 #[smV s v] w fun e w' =>
      ∃ v' u', e = .returned (s.en.val v' u') ∧ ES w' s.en v' u' ∧ Fr (fun _ => False) w w' ∧ (∀ b, B ≤ b → b < w.heap.size → Away b s.en v' u') ∧ EnSmall s.en := by
  obtain ⟨_, h2, h3, h4, h5⟩ := h
  refine (sentry_any s v w h4 h2).mono ?_
  rintro e w' ⟨y, rfl, v', u', rfl, he, f, hv, hu⟩
  refine ⟨v', u', rfl, he, f, fun b hb hlt => ⟨?_, ?_⟩, ?_⟩
  · rcases hv with e | e
    · subst e
      unfold Sm.en
      by_cases hk : s.kind % 3 = 1
      · rw [if_pos hk]
        exact h3.imp id (fun h hb2 => by have := h b hb2; omega)
      · rw [if_neg hk]
        left
        by_cases hk2 : s.kind % 3 = 2
        · rw [if_pos hk2]
        · rw [if_neg hk2]; rfl
    · subst e; exact .inr (by simp [Value.ownBlock])
  · exact .inr (fun hb2 => by have := hu b hb2; omega)
  · have hb := bitsL_len s.mb h4.m1
    unfold Sm.en EnSmall
    by_cases hk : s.kind % 3 = 1
    · rw [if_pos hk]; exact ⟨h5, by show (0 : Nat) ≤ 1000; omega⟩
    · rw [if_neg hk]
      by_cases hk2 : s.kind % 3 = 2
      · rw [if_pos hk2]; exact ⟨by show (0 : Nat) ≤ 4000; omega, by show (bitsL s.mb).length ≤ 1000; omega⟩
      · rw [if_neg hk2]; exact ⟨by decide, by decide⟩

theorem sm_small {B : Nat} {w : World} {s : Sm} {v : Value} (h : SmAt B w s v) : EnSmall s.en := by
  obtain ⟨_, _, _, h4, h5⟩ := h
  have hb := bitsL_len s.mb h4.m1
  unfold Sm.en EnSmall
  by_cases hk : s.kind % 3 = 1
  · rw [if_pos hk]; exact ⟨h5, by show (0 : Nat) ≤ 1000; omega⟩
  · rw [if_neg hk]
    by_cases hk2 : s.kind % 3 = 2
    · rw [if_pos hk2]; exact ⟨by show (0 : Nat) ≤ 4000; omega, by show (bitsL s.mb).length ≤ 1000; omega⟩
    · rw [if_neg hk2]; exact ⟨by decide, by decide⟩

/-- The region 'v.Accept(b, s.Entry())': what has been done. -/
def AcS (b : Nat) (st : VtN) (r n : Int) (s : Sm) (w4 : World) : List Value → World → Prop
  | [], wx => Fr (fun _ => False) w4 wx
  | [y], wx => ∃ v' u', y = s.en.val v' u' ∧ ES wx s.en v' u' ∧ Away b s.en v' u' ∧ EnSmall s.en ∧ Fr (fun _ => False) w4 wx
  | [_, z], wx => z = .bool (!blt r n st.pr st.pn) ∧ Fr (fun k => k = b) w4 wx ∧ VtS wx b (st.accept r n s.en)
  | _, _ => False

theorem AcS.fr {b : Nat} {st : VtN} {r n : Int} {s : Sm} {w4 wx : World} : ∀ {c : List Value}, AcS b st r n s w4 c wx → Fr (fun k => k = b) w4 wx
  | [], h => Fr.mono h (fun _ _ h => h.elim)
  | [_], ⟨_, _, _, _, _, _, h⟩ => h.mono (fun _ _ h => h.elim)
  | [_, _], ⟨_, h, _⟩ => h
  | _ :: _ :: _ :: _, h => h.elim

/-- Specs of values in a region: a known value; an entry. -/
inductive VE where
  | is (v : Value)
  | en (x : En)
def VE.holds : VE → Value → World → Prop
  | .is v, y, _ => y = v
  | .en x, y, w => ∃ v u, y = x.val v u ∧ ES w x v u
def veV (l : List VE) (i : Nat) (v : Value) (w : World) : Prop := (l.getD i (.is undef)).holds v w
theorem veV_mono (l : List VE) : ∀ i v w w', Fr (fun _ => False) w w' → veV l i v w → veV l i v w' := by
  intro i v w w' f h
  unfold veV at *
  cases hx : l.getD i (.is undef) with
  | is u => rw [hx] at h; exact h
  | en x =>
    rw [hx] at h
    obtain ⟨a, b, e, he⟩ := h
    exact ⟨a, b, e, he.fr f⟩
end
section
set_option maxRecDepth 100000

def beq2 (r n r' n' : Int) : Bool := r == r' && n == n'

theorem ba_equal (d : Nat) (r n r' n' : Int) (w : World) : (Op.equalIn (d + 2) 40 (ball r n) (ball r' n')).run Try.prog w = .ok (beq2 r n r' n') w := by
  rw [Op.equalIn]
  simp only [Sem.run_bind, run_underlying Try.underlying40, Result.andThen_ok]
  have pe : ∀ a b : Int, (Op.equalIn (d + 1) 3 (.int .i64 a) (.int .i64 b)).run Try.prog w = .ok (a == b) w := fun a b => run_equalIn_int w d _ .i64 .i64 _ _ Try.underlying3
  simp [part, isAgg, run_underlying Try.underlying3, pe, Sem.run_bind, Result.andThen_ok, List.forIn_cons, beq2]
  by_cases h : r = r' <;> by_cases h' : n = n' <;> simp [h, h']

theorem blt_trans {a b c d e f : Int} (h1 : blt a b c d = true) (h2 : blt c d e f = true) : blt a b e f = true := by
  rw [blt_iff] at *
  omega
theorem blt_total {a b c d : Int} (h : beq2 a b c d = false) : blt c d a b = !blt a b c d := by
  unfold beq2 at h
  unfold blt
  by_cases e : a = c
  · subst e
    rw [if_pos rfl, if_pos rfl]
    simp at h
    by_cases h2 : b < d
    · simp [h2]; omega
    · simp [h2]; omega
  · rw [if_neg e, if_neg (fun h => e h.symm)]
    by_cases h2 : a < c
    · simp [h2]; omega
    · simp [h2]; omega
theorem beq2_eq {a b c d : Int} (h : beq2 a b c d = true) : a = c ∧ b = d := by unfold beq2 at h; simpa using h
end
end Go.Proofs.Ytcjfinabffpgkaa
