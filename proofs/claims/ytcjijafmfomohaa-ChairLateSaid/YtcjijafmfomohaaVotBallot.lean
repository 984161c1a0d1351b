/-
  Ballots: which is below which; a voter in memory; nil voters.
-/
import Derived.Test.YtcjijafmfomohaaVotSmall
import Derived.Test.YtcjijafmfomohaaRegionC
import Derived.Test.YtcjijafmfomohaaTwo
namespace Go.Proofs.Ytcjijafmfomohaa
open Go.RowKit
set_option maxRecDepth 100000

/-- The voter's block. -/
abbrev oVr (pr pn ar an k t n p : Int) (v u : Value) (s : Bool) : Obj :=
  Obj.cells #[.int .i64 pr, .int .i64 pn, .int .i64 ar, .int .i64 an, .int .u8 k, .int .u16 t, .int .u16 n, .int .i64 p, v, u, .bool s] 49 (0, 0)

/-- Whether a ballot is below another one. -/
def blt (r n r' n' : Int) : Bool := if r = r' then decide (n < n') else decide (r < r')

set_option maxHeartbeats 4000000 in
theorem less_any (r n r' n' : Int) (w : World) :
    Calls Try.prog 9 #[ball r n, ball r' n'] w fun e w' => e = .returned (.bool (blt r n r' n')) ∧ Fr (fun _ => False) w w' := by
  have hf : Fr (fun _ => False) w ((w.alloc (oBa r n)).alloc (oBa r' n')) := ((Fr.refl _ _).alloc _).alloc _
  have HF := Lib.hid hf
  clear hf
  unfold blt
  by_cases h : r = r'
  · subst h
    rw [if_pos rfl]
    go_enter Try.func9, Try.ntmps9
    go_wp2_with fail
    go_ret
    exact ⟨rfl, HF.out⟩
  · rw [if_neg h]
    have hz : decide (r = r') = false := by simp [h]
    go_enter Try.func9, Try.ntmps9
    go_wp2_with fail
    go_ret
    exact ⟨rfl, HF.out⟩

theorem blt_irrefl (r n : Int) : blt r n r n = false := by unfold blt; rw [if_pos rfl]; simp
theorem blt_iff (r n r' n' : Int) : blt r n r' n' = true ↔ (r < r' ∨ r = r' ∧ n < n') := by
  unfold blt
  by_cases h : r = r'
  · subst h; simp
  · rw [if_neg h]; simp [h]

theorem cst2 {w : World} {b : Nat} {x0 x1 y0 y1 : Value} {t : TypeId} (h : w.heap[b]? = some (.cells #[x0, x1] t (0, 0))) :
    ((w.setCell ⟨b, 0, none⟩ y0).setCell ⟨b, 1, none⟩ y1).heap[b]? = some (.cells #[y0, y1] t (0, 0)) := by
  have h0 : (w.setCell ⟨b, 0, none⟩ y0).heap[b]? = some (.cells #[y0, x1] t (0, 0)) := by rw [heap_setCell_same w b 0 _ t y0 h]; rfl
  rw [heap_setCell_same _ b 1 _ t y1 h0]; rfl
theorem cfr2 {w : World} {b : Nat} (y0 y1 : Value) {S : Nat → Prop} {w0 : World} (f : Fr S w0 w) (hb : b < w0.heap.size → S b) : Fr S w0 ((w.setCell ⟨b, 0, none⟩ y0).setCell ⟨b, 1, none⟩ y1) :=
  (f.setCell (p := ⟨b, 0, none⟩) hb _).setCell (p := ⟨b, 1, none⟩) hb _
theorem cst11 {w : World} {b : Nat} {x0 x1 x2 x3 x4 x5 x6 x7 x8 x9 x10 y0 y1 y2 y3 y4 y5 y6 y7 y8 y9 y10 : Value} {t : TypeId} (h : w.heap[b]? = some (.cells #[x0, x1, x2, x3, x4, x5, x6, x7, x8, x9, x10] t (0, 0))) :
    (((((((((((w.setCell ⟨b, 0, none⟩ y0).setCell ⟨b, 1, none⟩ y1).setCell ⟨b, 2, none⟩ y2).setCell ⟨b, 3, none⟩ y3).setCell ⟨b, 4, none⟩ y4).setCell ⟨b, 5, none⟩ y5).setCell ⟨b, 6, none⟩ y6).setCell ⟨b, 7, none⟩ y7).setCell ⟨b, 8, none⟩ y8).setCell ⟨b, 9, none⟩ y9).setCell ⟨b, 10, none⟩ y10).heap[b]? = some (.cells #[y0, y1, y2, y3, y4, y5, y6, y7, y8, y9, y10] t (0, 0)) := by
  have h0 : (w.setCell ⟨b, 0, none⟩ y0).heap[b]? = some (.cells #[y0, x1, x2, x3, x4, x5, x6, x7, x8, x9, x10] t (0, 0)) := by rw [heap_setCell_same _ b 0 _ t y0 h]; rfl
  have h1 : ((w.setCell ⟨b, 0, none⟩ y0).setCell ⟨b, 1, none⟩ y1).heap[b]? = some (.cells #[y0, y1, x2, x3, x4, x5, x6, x7, x8, x9, x10] t (0, 0)) := by rw [heap_setCell_same _ b 1 _ t y1 h0]; rfl
  have h2 : (((w.setCell ⟨b, 0, none⟩ y0).setCell ⟨b, 1, none⟩ y1).setCell ⟨b, 2, none⟩ y2).heap[b]? = some (.cells #[y0, y1, y2, x3, x4, x5, x6, x7, x8, x9, x10] t (0, 0)) := by rw [heap_setCell_same _ b 2 _ t y2 h1]; rfl
  have h3 : ((((w.setCell ⟨b, 0, none⟩ y0).setCell ⟨b, 1, none⟩ y1).setCell ⟨b, 2, none⟩ y2).setCell ⟨b, 3, none⟩ y3).heap[b]? = some (.cells #[y0, y1, y2, y3, x4, x5, x6, x7, x8, x9, x10] t (0, 0)) := by rw [heap_setCell_same _ b 3 _ t y3 h2]; rfl
  have h4 : (((((w.setCell ⟨b, 0, none⟩ y0).setCell ⟨b, 1, none⟩ y1).setCell ⟨b, 2, none⟩ y2).setCell ⟨b, 3, none⟩ y3).setCell ⟨b, 4, none⟩ y4).heap[b]? = some (.cells #[y0, y1, y2, y3, y4, x5, x6, x7, x8, x9, x10] t (0, 0)) := by rw [heap_setCell_same _ b 4 _ t y4 h3]; rfl
  have h5 : ((((((w.setCell ⟨b, 0, none⟩ y0).setCell ⟨b, 1, none⟩ y1).setCell ⟨b, 2, none⟩ y2).setCell ⟨b, 3, none⟩ y3).setCell ⟨b, 4, none⟩ y4).setCell ⟨b, 5, none⟩ y5).heap[b]? = some (.cells #[y0, y1, y2, y3, y4, y5, x6, x7, x8, x9, x10] t (0, 0)) := by rw [heap_setCell_same _ b 5 _ t y5 h4]; rfl
  have h6 : (((((((w.setCell ⟨b, 0, none⟩ y0).setCell ⟨b, 1, none⟩ y1).setCell ⟨b, 2, none⟩ y2).setCell ⟨b, 3, none⟩ y3).setCell ⟨b, 4, none⟩ y4).setCell ⟨b, 5, none⟩ y5).setCell ⟨b, 6, none⟩ y6).heap[b]? = some (.cells #[y0, y1, y2, y3, y4, y5, y6, x7, x8, x9, x10] t (0, 0)) := by rw [heap_setCell_same _ b 6 _ t y6 h5]; rfl
  have h7 : ((((((((w.setCell ⟨b, 0, none⟩ y0).setCell ⟨b, 1, none⟩ y1).setCell ⟨b, 2, none⟩ y2).setCell ⟨b, 3, none⟩ y3).setCell ⟨b, 4, none⟩ y4).setCell ⟨b, 5, none⟩ y5).setCell ⟨b, 6, none⟩ y6).setCell ⟨b, 7, none⟩ y7).heap[b]? = some (.cells #[y0, y1, y2, y3, y4, y5, y6, y7, x8, x9, x10] t (0, 0)) := by rw [heap_setCell_same _ b 7 _ t y7 h6]; rfl
  have h8 : (((((((((w.setCell ⟨b, 0, none⟩ y0).setCell ⟨b, 1, none⟩ y1).setCell ⟨b, 2, none⟩ y2).setCell ⟨b, 3, none⟩ y3).setCell ⟨b, 4, none⟩ y4).setCell ⟨b, 5, none⟩ y5).setCell ⟨b, 6, none⟩ y6).setCell ⟨b, 7, none⟩ y7).setCell ⟨b, 8, none⟩ y8).heap[b]? = some (.cells #[y0, y1, y2, y3, y4, y5, y6, y7, y8, x9, x10] t (0, 0)) := by rw [heap_setCell_same _ b 8 _ t y8 h7]; rfl
  have h9 : ((((((((((w.setCell ⟨b, 0, none⟩ y0).setCell ⟨b, 1, none⟩ y1).setCell ⟨b, 2, none⟩ y2).setCell ⟨b, 3, none⟩ y3).setCell ⟨b, 4, none⟩ y4).setCell ⟨b, 5, none⟩ y5).setCell ⟨b, 6, none⟩ y6).setCell ⟨b, 7, none⟩ y7).setCell ⟨b, 8, none⟩ y8).setCell ⟨b, 9, none⟩ y9).heap[b]? = some (.cells #[y0, y1, y2, y3, y4, y5, y6, y7, y8, y9, x10] t (0, 0)) := by rw [heap_setCell_same _ b 9 _ t y9 h8]; rfl
  rw [heap_setCell_same _ b 10 _ t y10 h9]; rfl
theorem cfr11 {w : World} {b : Nat} (y0 y1 y2 y3 y4 y5 y6 y7 y8 y9 y10 : Value) {S : Nat → Prop} {w0 : World} (f : Fr S w0 w) (hb : b < w0.heap.size → S b) :
    Fr S w0 (((((((((((w.setCell ⟨b, 0, none⟩ y0).setCell ⟨b, 1, none⟩ y1).setCell ⟨b, 2, none⟩ y2).setCell ⟨b, 3, none⟩ y3).setCell ⟨b, 4, none⟩ y4).setCell ⟨b, 5, none⟩ y5).setCell ⟨b, 6, none⟩ y6).setCell ⟨b, 7, none⟩ y7).setCell ⟨b, 8, none⟩ y8).setCell ⟨b, 9, none⟩ y9).setCell ⟨b, 10, none⟩ y10) :=
  (((((((((((f.setCell (p := ⟨b, 0, none⟩) hb _).setCell (p := ⟨b, 1, none⟩) hb _).setCell (p := ⟨b, 2, none⟩) hb _).setCell (p := ⟨b, 3, none⟩) hb _).setCell (p := ⟨b, 4, none⟩) hb _).setCell (p := ⟨b, 5, none⟩) hb _).setCell (p := ⟨b, 6, none⟩) hb _).setCell (p := ⟨b, 7, none⟩) hb _).setCell (p := ⟨b, 8, none⟩) hb _).setCell (p := ⟨b, 9, none⟩) hb _).setCell (p := ⟨b, 10, none⟩) hb _)

/-- A ballot stored, then an entry. -/
theorem stBE {w : World} {g h : Nat} {T T' : TypeId} {a0 a1 e0 e1 e2 e3 e4 e5 : Value} {r n k t n' p : Int} {v u : Value} (hne : g ≠ h) (hg : w.heap[g]? = some (.cells #[a0, a1] T (0, 0))) (hh : w.heap[h]? = some (.cells #[e0, e1, e2, e3, e4, e5] T' (0, 0))) :
    ((((((((w.setCell ⟨g, 0, none⟩ (.int .i64 r)).setCell ⟨g, 1, none⟩ (.int .i64 n)).setCell ⟨h, 0, none⟩ (.int .u8 k)).setCell ⟨h, 1, none⟩ (.int .u16 t)).setCell ⟨h, 2, none⟩ (.int .u16 n')).setCell ⟨h, 3, none⟩ (.int .i64 p)).setCell ⟨h, 4, none⟩ (v)).setCell ⟨h, 5, none⟩ (u)).heap[g]? = some (.cells #[.int .i64 r, .int .i64 n] T (0, 0)) ∧ ((((((((w.setCell ⟨g, 0, none⟩ (.int .i64 r)).setCell ⟨g, 1, none⟩ (.int .i64 n)).setCell ⟨h, 0, none⟩ (.int .u8 k)).setCell ⟨h, 1, none⟩ (.int .u16 t)).setCell ⟨h, 2, none⟩ (.int .u16 n')).setCell ⟨h, 3, none⟩ (.int .i64 p)).setCell ⟨h, 4, none⟩ (v)).setCell ⟨h, 5, none⟩ (u)).heap[h]? = some (.cells #[.int .u8 k, .int .u16 t, .int .u16 n', .int .i64 p, v, u] T' (0, 0)) ∧
    ∀ {S : Nat → Prop} {w0 : World}, Fr S w0 w → (g < w0.heap.size → S g) → (h < w0.heap.size → S h) → Fr S w0 ((((((((w.setCell ⟨g, 0, none⟩ (.int .i64 r)).setCell ⟨g, 1, none⟩ (.int .i64 n)).setCell ⟨h, 0, none⟩ (.int .u8 k)).setCell ⟨h, 1, none⟩ (.int .u16 t)).setCell ⟨h, 2, none⟩ (.int .u16 n')).setCell ⟨h, 3, none⟩ (.int .i64 p)).setCell ⟨h, 4, none⟩ (v)).setCell ⟨h, 5, none⟩ (u)) := by
  have q1 := cst2 (y0 := .int .i64 r) (y1 := .int .i64 n) hg
  have f1 := cfr2 (.int .i64 r) (.int .i64 n) (b := g) (S := fun k => k = g) (Fr.refl _ w) (fun _ => rfl)
  have q2 := crow_kept hh f1 (fun e => hne e.symm)
  have q3 := cst6 (y0 := .int .u8 k) (y1 := .int .u16 t) (y2 := .int .u16 n') (y3 := .int .i64 p) (y4 := v) (y5 := u) q2
  have f3 := cfr6 (.int .u8 k) (.int .u16 t) (.int .u16 n') (.int .i64 p) v u (b := h) (S := fun k => k = h) (Fr.refl _ ((w.setCell ⟨g, 0, none⟩ (.int .i64 r)).setCell ⟨g, 1, none⟩ (.int .i64 n))) (fun _ => rfl)
  exact ⟨crow_kept q1 f3 hne, q3, fun f hg' hh' => cfr6 _ _ _ _ _ _ (cfr2 _ _ f hg') hh'⟩

theorem ba_cells {w : World} {g : Nat} {r n : Int} {T : TypeId} (h : w.heap[g]? = some (Obj.cells #[.int .i64 r, .int .i64 n] T (0, 0))) : w.cell? ⟨g, 0, none⟩ = some (.int .i64 r) ∧ w.cell? ⟨g, 1, none⟩ = some (.int .i64 n) := by
  simp [World.cell?, h]

theorem vot_cells {w : World} {g : Nat} {pr pn ar an k t n p : Int} {v u : Value} {s : Bool} (h : w.heap[g]? = some (oVr pr pn ar an k t n p v u s)) :
    w.cell? ⟨g, 0, none⟩ = some (.int .i64 pr) ∧ w.cell? ⟨g, 1, none⟩ = some (.int .i64 pn) ∧ w.cell? ⟨g, 2, none⟩ = some (.int .i64 ar) ∧ w.cell? ⟨g, 3, none⟩ = some (.int .i64 an) ∧
    w.cell? ⟨g, 4, none⟩ = some (.int .u8 k) ∧ w.cell? ⟨g, 5, none⟩ = some (.int .u16 t) ∧ w.cell? ⟨g, 6, none⟩ = some (.int .u16 n) ∧ w.cell? ⟨g, 7, none⟩ = some (.int .i64 p) ∧ w.cell? ⟨g, 8, none⟩ = some v ∧ w.cell? ⟨g, 9, none⟩ = some u ∧ w.cell? ⟨g, 10, none⟩ = some (.bool s) := by
  simp [World.cell?, h]

set_option maxHeartbeats 4000000 in
theorem promised_nil (w : World) : Calls Try.prog 8 #[.pointer none] w fun e w' => e = .returned (ball 0 0) ∧ Fr (fun _ => False) w w' := by
  go_enter Try.func8, Try.ntmps8
  go_wp2_with fail
  refine bodyPost_ret (results_cell_row rfl _ _ w.heap.size 40 _ _ _ rfl (heap_alloc_new _ _) Try.underlying40 rfl (by kernel_rfl)) rfl ?_
  exact ⟨rfl, (Fr.refl _ _).alloc _⟩

set_option maxHeartbeats 4000000 in
theorem accept_nil (r n : Int) (w : World) : Calls Try.prog 16 #[.pointer none, ball r n, eZ] w fun e w' => e = .returned (.bool false) ∧ Fr (fun _ => False) w w' := by
  have f0 : Fr (fun _ => False) w ((w.alloc (oBa r n)).alloc (oEn 0 0 0 0 nilS nilS)) := ((Fr.refl _ _).alloc _).alloc _
  go_enter Try.func16, Try.ntmps16
  go_upto_region 1 with fail
  generalize (w.alloc (oBa r n)).alloc (oEn 0 0 0 0 nilS nilS) = w0 at *
  have F0 := Lib.hid f0
  clear f0
  refine wp_region_told (by kernel_rfl) (fun a b => Fr (fun _ => False) a b) (fun w => Fr.refl _ w) (fun _ _ _ h k => h.trans k (fun _ _ h => h)) [7, 8, 9, 10, 11, 12, 13, 14, 15, 16] rfl (by decide) (by intro d hd; simp at hd ⊢; omega)
    (fun i v _ => v = ([.pointer none, .bool true, .bool true, undef, undef, undef, undef, undef, undef, .bool true] : List Value).getD i undef)
    (fun _ _ _ _ _ h => h) (by kernel_rfl) ?step1 ?fin1
  case step1 =>
    intro vals
    simp only [frOf, fill, List.setIfInBounds_toArray, List.set_cons_succ, List.set_cons_zero]
    repeat' (first | exact AllOps.nil | refine AllOps.cons ?_ ?_)
    all_goals
      intro wx hle he K' hK
      simp only [Act.put, List.setIfInBounds_toArray, List.set_cons_succ, List.set_cons_zero, List.getD_cons_zero, List.getD_cons_succ] at hK
      simp only [List.mem_cons, List.not_mem_nil, or_false, forall_eq_or_imp, forall_eq, Region.binds, forall_const, false_imp_iff, List.getD_cons_zero, List.getD_cons_succ] at he
      try simp only [he] at hK ⊢
      have hl5 := Fr.trans (Fr.drew (Fr.refl (fun _ => False) w0)) hle (fun _ _ h => h)
      have hl8 := Lib.hid hl5
      clear hl5 hle he
      try go_simp
    all_goals first
      | exact hK _ _ (Fr.refl _ _) rfl
      | skip
  case fin1 =>
    intro vals w' hle hV
    have h9 : vals 9 = .bool true := hV 9 (by decide)
    clear hV
    have hfin := Lib.hid (F0.out.trans (Fr.trans (Fr.drew (Fr.refl (fun _ => False) w0)) hle (fun _ _ h => h)) (fun _ _ h => h))
    clear hle
    simp only [frOf, fill, List.setIfInBounds_toArray, List.set_cons_succ, List.set_cons_zero, Nat.reduceAdd]
    simp only [h9]
    clear h9
    go_wp2_with fail
    go_ret
    exact ⟨rfl, hfin.out⟩

theorem results_rrtt {P : Program} {fn : Func} {p q u x : Tmp} {ty tz : TypeId} (h : fn.results = #[.cell p ty, .cell q tz, .tmp u, .tmp x]) (tmps : Array Value) (w : World) (g : Nat) (t : TypeId) (cs : Array Value) (fr : Nat × Nat) (d : TypeDesc)
    (g' : Nat) (t' : TypeId) (cs' : Array Value) (fr' : Nat × Nat) (d' : TypeDesc)
    (hp : tmps.getD p undef = .pointer (some ⟨g, 0, none⟩)) (hg : w.heap[g]? = some (.cells cs t fr))
    (hq : tmps.getD q undef = .pointer (some ⟨g', 0, none⟩)) (hg' : w.heap[g']? = some (.cells cs' t' fr'))
    (hu : P.underlying ty = some d) (hd : (match d with | .struct _ | .array _ _ => true | _ => false) = true) (hi : (P.info? ty).map (·.size) = some cs.size)
    (hu' : P.underlying tz = some d') (hd' : (match d' with | .struct _ | .array _ _ => true | _ => false) = true) (hi' : (P.info? tz).map (·.size) = some cs'.size) :
    (results fn tmps).run P w = .ok (.tuple #[.agg cs, .agg cs', tmps.getD u undef, tmps.getD x undef]) w := by
  have hp' : tmps[p]?.getD undef = .pointer (some ⟨g, 0, none⟩) := by simpa using hp
  have hq' : tmps[q]?.getD undef = .pointer (some ⟨g', 0, none⟩) := by simpa using hq
  have h1 := run_loadVar_row w g t ty cs fr d hg hu hd hi
  have h2 := run_loadVar_row w g' t' tz cs' fr' d' hg' hu' hd' hi'
  simp [results, h, hp', hq', asAddr, h1, h2, Result.andThen]

set_option maxHeartbeats 4000000 in
theorem promise_nil (r n : Int) (w : World) : Calls Try.prog 13 #[.pointer none, ball r n] w fun e w' => e = .returned (.tuple #[ball 0 0, eZ, .bool false, .bool false]) ∧ Fr (fun _ => False) w w' := by
  have f0 : Fr (fun _ => False) w (((w.alloc (oBa r n)).alloc (oBa 0 0)).alloc (oEn 0 0 0 0 nilS nilS)) := (((Fr.refl _ _).alloc _).alloc _).alloc _
  have q1 : (((w.alloc (oBa r n)).alloc (oBa 0 0)).alloc (oEn 0 0 0 0 nilS nilS)).heap[w.heap.size + 1]? = some (oBa 0 0) := crow_kept (new_two w _ _) ((Fr.refl (fun _ => False) _).alloc _) (fun h => h)
  have q2 : (((w.alloc (oBa r n)).alloc (oBa 0 0)).alloc (oEn 0 0 0 0 nilS nilS)).heap[w.heap.size + 2]? = some (oEn 0 0 0 0 nilS nilS) := by
    have := heap_alloc_new ((w.alloc (oBa r n)).alloc (oBa 0 0)) (oEn 0 0 0 0 nilS nilS)
    rw [World.size_alloc, World.size_alloc] at this
    exact this
  go_enter Try.func13, Try.ntmps13
  go_upto_region 1 with fail
  generalize ((w.alloc (oBa r n)).alloc (oBa 0 0)).alloc (oEn 0 0 0 0 nilS nilS) = w0 at *
  have F0 := Lib.hid f0
  have Q0 := Lib.hid (And.intro q1 q2)
  clear f0 q1 q2
  refine wp_region_told (by kernel_rfl) (fun a b => Fr (fun _ => False) a b) (fun w => Fr.refl _ w) (fun _ _ _ h k => h.trans k (fun _ _ h => h)) [8, 9, 10, 11, 12, 13, 14, 15, 16, 17, 18] rfl (by decide) (by intro d hd; simp at hd ⊢; omega)
    (fun i v _ => v = ([.pointer none, .bool true, .bool true, undef, undef, undef, undef, undef, undef, undef, .bool true] : List Value).getD i undef)
    (fun _ _ _ _ _ h => h) (by kernel_rfl) ?step1 ?fin1
  case step1 =>
    intro vals
    simp only [frOf, fill, List.setIfInBounds_toArray, List.set_cons_succ, List.set_cons_zero]
    repeat' (first | exact AllOps.nil | refine AllOps.cons ?_ ?_)
    all_goals
      intro wx hle he K' hK
      simp only [Act.put, List.setIfInBounds_toArray, List.set_cons_succ, List.set_cons_zero, List.getD_cons_zero, List.getD_cons_succ] at hK
      simp only [List.mem_cons, List.not_mem_nil, or_false, forall_eq_or_imp, forall_eq, Region.binds, forall_const, false_imp_iff, List.getD_cons_zero, List.getD_cons_succ] at he
      try simp only [he] at hK ⊢
      have hl5 := Fr.trans (Fr.drew (Fr.refl (fun _ => False) w0)) hle (fun _ _ h => h)
      have hl8 := Lib.hid hl5
      clear hl5 hle he
      try go_simp
    all_goals first
      | exact hK _ _ (Fr.refl _ _) rfl
      | skip
  case fin1 =>
    intro vals w' hle hV
    have h9 : vals 10 = .bool true := hV 10 (by decide)
    clear hV
    have hw := Fr.trans (Fr.drew (Fr.refl (fun _ => False) w0)) hle (fun _ _ h => h)
    have hfin := Lib.hid (F0.out.trans hw (fun _ _ h => h))
    have Q1 := Lib.hid (And.intro (crow_kept Q0.out.1 hw (fun h => h)) (crow_kept Q0.out.2 hw (fun h => h)))
    clear hle hw Q0
    simp only [frOf, fill, List.setIfInBounds_toArray, List.set_cons_succ, List.set_cons_zero, Nat.reduceAdd]
    simp only [h9]
    clear h9
    obtain ⟨d00, d01, d02, d03, d04, d05⟩ := en_cells Q1.out.2
    obtain ⟨z00, z01, z02, z03, z04, z05⟩ := vfree6 Q1.out.2
    obtain ⟨b00, b01⟩ := ba_cells Q1.out.1
    have y00 := vfree Q1.out.1 0
    have y01 := vfree Q1.out.1 1
    go_wp2_with fail
    obtain ⟨hq1, hq2, hf⟩ := stBE (r := 0) (n := 0) (k := 0) (t := 0) (n' := 0) (p := 0) (v := nilS) (u := nilS) (by omega) Q1.out.1 Q1.out.2
    refine bodyPost_ret (results_rrtt rfl _ _ (w.heap.size + 1) 40 _ _ _ (w.heap.size + 1 + 1) 47 _ _ _ rfl hq1 rfl hq2 Try.underlying40 rfl (by kernel_rfl) Try.underlying47 rfl (by kernel_rfl)) rfl ?_
    exact ⟨rfl, hf hfin.out (by omega) (by omega)⟩

set_option maxHeartbeats 4000000 in
theorem promised_any (g : Nat) (pr pn ar an k t n p : Int) (v u : Value) (s : Bool) (w : World) (h : w.heap[g]? = some (oVr pr pn ar an k t n p v u s)) :
    Calls Try.prog 8 #[.pointer (some ⟨g, 0, none⟩)] w fun e w' => e = .returned (ball pr pn) ∧ Fr (fun _ => False) w w' := by
  have hl : g < w.heap.size := (Array.getElem?_eq_some_iff.1 h).1
  have hne : g ≠ w.heap.size := by omega
  have q1 := heap_alloc_new w (oBa 0 0)
  have f1 : Fr (fun _ => False) w (w.alloc (oBa 0 0)) := (Fr.refl _ _).alloc _
  have Q := Lib.hid (And.intro (crow_kept h f1 (fun h => h)) q1)
  have F := Lib.hid f1
  clear h q1 f1
  go_enter Try.func8, Try.ntmps8
  go_upto_region 1 with fail
  generalize w.alloc (oBa 0 0) = w0 at *
  obtain ⟨c0, c1, c2, c3, c4, c5, c6, c7, c8, c9, c10⟩ := vot_cells Q.out.1
  obtain ⟨b00, b01⟩ := ba_cells Q.out.2
  have y00 := vfree Q.out.2 0
  have y01 := vfree Q.out.2 1
  go_wp2_with fail
  have hq := cst2 (y0 := .int .i64 pr) (y1 := .int .i64 pn) Q.out.2
  have hf := cfr2 (.int .i64 pr) (.int .i64 pn) (b := w.heap.size) F.out (fun h => absurd h (by omega))
  refine bodyPost_ret (results_cell_row rfl _ _ w.heap.size 40 _ _ _ rfl hq Try.underlying40 rfl (by kernel_rfl)) rfl ?_
  exact ⟨rfl, hf⟩

/-- A vote: what is in the voter's block then. -/
def VotAfter (b : Nat) (pr pn ar an : Int) (x : En) (v u : Value) (s : Bool) (r n : Int) (y : En) (v' u' : Value) (w' : World) : Prop :=
  w'.heap[b]? = some (if blt r n pr pn then oVr pr pn ar an x.k x.t x.n x.p v u s else oVr r n r n y.k y.t y.n y.p v' u' true)

set_option maxHeartbeats 8000000 in
theorem accept_any (b : Nat) (pr pn ar an : Int) (x : En) (v u : Value) (s : Bool) (r n : Int) (y : En) (v' u' : Value) (w : World) (h : w.heap[b]? = some (oVr pr pn ar an x.k x.t x.n x.p v u s)) (hy : ES w y v' u') :
    Calls Try.prog 16 #[.pointer (some ⟨b, 0, none⟩), ball r n, y.val v' u'] w fun e w' =>
      e = .returned (.bool (!blt r n pr pn)) ∧ Fr (fun k => k = b) w w' ∧ VotAfter b pr pn ar an x v u s r n y v' u' w' := by
  obtain ⟨hy1, hy2⟩ := hy
  obtain ⟨a1, c1, hv1, hn1⟩ := hy1.shape
  obtain ⟨a2, c2, hv2, hn2⟩ := hy2.shape
  subst hv1 hv2
  clear hy1 hy2 hn1 hn2
  generalize y.l.length = n1
  generalize y.m.length = n2
  have hl : b < w.heap.size := (Array.getElem?_eq_some_iff.1 h).1
  have f0 : Fr (fun _ => False) w ((w.alloc (oBa r n)).alloc (oEn y.k y.t y.n y.p (.slice a1 n1 c1) (.slice a2 n2 c2))) := ((Fr.refl _ _).alloc _).alloc _
  have q1 : ((w.alloc (oBa r n)).alloc (oEn y.k y.t y.n y.p (.slice a1 n1 c1) (.slice a2 n2 c2))).heap[w.heap.size]? = some (oBa r n) := crow_kept (heap_alloc_new w _) ((Fr.refl (fun _ => False) _).alloc _) (fun h => h)
  have q2 := new_two w (oBa r n) (oEn y.k y.t y.n y.p (.slice a1 n1 c1) (.slice a2 n2 c2))
  have Q0 := Lib.hid (And.intro (crow_kept h f0 (fun h => h)) (And.intro q1 q2))
  have F0 := Lib.hid f0
  clear h f0 q1 q2
  obtain ⟨B, hB⟩ : ∃ B, B = blt r n pr pn := ⟨_, rfl⟩
  have HB := Lib.hid hB
  unfold VotAfter
  rw [← hB]
  clear hB
  go_enter Try.func16, Try.ntmps16
  go_upto_region 1 with fail
  generalize (w.alloc (oBa r n)).alloc (oEn y.k y.t y.n y.p (.slice a1 n1 c1) (.slice a2 n2 c2)) = w0 at *
  refine wp_region_told (by kernel_rfl) (fun a b => Fr (fun _ => False) a b) (fun w => Fr.refl _ w) (fun _ _ _ h k => h.trans k (fun _ _ h => h)) [7, 8, 9, 10, 11, 12, 13, 14, 15, 16] rfl (by decide) (by intro d hd; simp at hd ⊢; omega)
    (fun i v _ => v = ([.pointer (some ⟨b, 0, none⟩), .bool false, .bool false, ball r n, .pointer (some ⟨b, 0, none⟩), .pointer (some ⟨b, 0, none⟩), .pointer (some ⟨b, 0, none⟩), ball pr pn, .bool B, .bool B] : List Value).getD i undef)
    (fun _ _ _ _ _ h => h) (by kernel_rfl) ?step1 ?fin1
  case step1 =>
    intro vals
    simp only [frOf, fill, List.setIfInBounds_toArray, List.set_cons_succ, List.set_cons_zero]
    repeat' (first | exact AllOps.nil | refine AllOps.cons ?_ ?_)
    all_goals
      intro wx hle he K' hK
      simp only [Act.put, List.setIfInBounds_toArray, List.set_cons_succ, List.set_cons_zero, List.getD_cons_zero, List.getD_cons_succ] at hK
      simp only [List.mem_cons, List.not_mem_nil, or_false, forall_eq_or_imp, forall_eq, Region.binds, forall_const, false_imp_iff, List.getD_cons_zero, List.getD_cons_succ] at he
      try simp only [he] at hK ⊢
      have hl5 := Fr.trans (Fr.drew (Fr.refl (fun _ => False) w0)) hle (fun _ _ h => h)
      have hl8 := Lib.hid hl5
      obtain ⟨c0, c1, c2, c3, c4, c5, c6, c7, c8, c9, c10⟩ := vot_cells (crow_kept Q0.out.1 hl5 (fun h => h))
      obtain ⟨b0, b1⟩ := ba_cells (crow_kept Q0.out.2.1 hl5 (fun h => h))
      clear hl5 hle he
      try go_simp
    all_goals first
      | exact hK _ _ (Fr.refl _ _) rfl
      | skip
    · go_at_call 9; refine (less_any r n pr pn _).mono ?_; rintro e1 wa ⟨rfl, fa⟩; rw [← HB.out]; exact hK _ _ fa rfl
  case fin1 =>
    intro vals w' hle hV
    have h9 : vals 9 = .bool B := hV 9 (by decide)
    clear hV
    have hw := Fr.trans (Fr.drew (Fr.refl (fun _ => False) w0)) hle (fun _ _ h => h)
    have hfin := Lib.hid (F0.out.trans hw (fun _ _ h => h))
    have Q1 := Lib.hid (And.intro (crow_kept Q0.out.1 hw (fun h => h)) (And.intro (crow_kept Q0.out.2.1 hw (fun h => h)) (crow_kept Q0.out.2.2 hw (fun h => h))))
    clear hle hw Q0
    simp only [frOf, fill, List.setIfInBounds_toArray, List.set_cons_succ, List.set_cons_zero, Nat.reduceAdd]
    simp only [h9]
    clear h9
    cases B with
    | true =>
      go_wp2_with fail
      go_ret
      exact ⟨rfl, hfin.out.mono (fun _ _ h => h.elim), Q1.out.1⟩
    | false =>
      obtain ⟨c0, c1, c2, c3, c4, c5, c6, c7, c8, c9, c10⟩ := vot_cells Q1.out.1
      obtain ⟨z0, z1, z2, z3, z4, z5⟩ := vfree6 Q1.out.1
      have z6 := vfree Q1.out.1 6
      have z7 := vfree Q1.out.1 7
      have z8 := vfree Q1.out.1 8
      have z9 := vfree Q1.out.1 9
      have z10 := vfree Q1.out.1 10
      obtain ⟨b00, b01⟩ := ba_cells Q1.out.2.1
      obtain ⟨d00, d01, d02, d03, d04, d05⟩ := en_cells Q1.out.2.2
      go_wp2_with fail
      go_ret
      exact ⟨rfl, cfr11 _ _ _ _ _ _ _ _ _ _ _ (hfin.out.mono (fun _ _ h => h.elim)) (fun _ => rfl), cst11 Q1.out.1⟩

/-- The way of a promise's last region. -/
def PrS (x : En) (ar an : Int) (g h : Nat) (w4 : World) : List Value → World → Prop
  | [], wx => Fr (fun _ => False) w4 wx
  | [y], wx => ∃ v' u', y = x.val v' u' ∧ ES wx x v' u' ∧ (∀ k, v'.ownBlock = some k → w4.heap.size ≤ k) ∧ (∀ k, u'.ownBlock = some k → w4.heap.size ≤ k) ∧ Fr (fun _ => False) w4 wx
  | [y, _], wx => ∃ v' u', y = x.val v' u' ∧ ES wx x v' u' ∧ (∀ k, v'.ownBlock = some k → w4.heap.size ≤ k) ∧ (∀ k, u'.ownBlock = some k → w4.heap.size ≤ k) ∧ Fr (fun k => k = g) w4 wx ∧ wx.heap[g]? = some (oBa ar an)
  | [y, _, _], wx => ∃ v' u', y = x.val v' u' ∧ ES wx x v' u' ∧ (∀ k, v'.ownBlock = some k → w4.heap.size ≤ k) ∧ (∀ k, u'.ownBlock = some k → w4.heap.size ≤ k) ∧ Fr (fun k => k = g ∨ k = h) w4 wx ∧ wx.heap[g]? = some (oBa ar an) ∧ wx.heap[h]? = some (x.obj v' u')
  | _, _ => False

theorem PrS.fr {x : En} {ar an : Int} {g h : Nat} {w4 wx : World} : ∀ {c : List Value}, PrS x ar an g h w4 c wx → Fr (fun k => k = g ∨ k = h) w4 wx
  | [], h => Fr.mono h (fun _ _ h => h.elim)
  | [_], ⟨_, _, _, _, _, _, h⟩ => h.mono (fun _ _ h => h.elim)
  | [_, _], ⟨_, _, _, _, _, _, h, _⟩ => h.mono (fun _ _ h => .inl h)
  | [_, _, _], ⟨_, _, _, _, _, _, h, _⟩ => h
  | _ :: _ :: _ :: _ :: _, h => h.elim

theorem ES.keep2 {S : Nat → Prop} {w w' : World} {x : En} {v u : Value} (h : ES w x v u) (h1 : ∀ k, v.ownBlock = some k → ¬ S k) (h2 : ∀ k, u.ownBlock = some k → ¬ S k) (hf : Fr S w w') : ES w' x v u :=
  ⟨h.1.keep hf (.inr h1), h.2.keep hf (.inr h2)⟩

/-- What comes of a promise that is asked; B: whether it is made. -/
def PromOut (b : Nat) (B : Bool) (pr pn ar an : Int) (x : En) (v u : Value) (s : Bool) (r n : Int) (e : Ending) (w' : World) : Prop :=
  (B = false → e = .returned (.tuple #[ball 0 0, eZ, .bool false, .bool false]) ∧ w'.heap[b]? = some (oVr pr pn ar an x.k x.t x.n x.p v u s)) ∧
  (B = true → (∃ v' u', e = .returned (.tuple #[ball ar an, x.val v' u', .bool s, .bool true]) ∧ ES w' x v' u' ∧ Away b x v' u') ∧ w'.heap[b]? = some (oVr r n ar an x.k x.t x.n x.p v u s))

set_option maxHeartbeats 8000000 in
theorem promise_any (b : Nat) (pr pn ar an : Int) (x : En) (v u : Value) (s : Bool) (r n : Int) (w : World) (h : w.heap[b]? = some (oVr pr pn ar an x.k x.t x.n x.p v u s)) (hx : ES w x v u) (ha : Away b x v u) (hl : x.l.length ≤ 4000) (hm : x.m.length ≤ 1000) :
    Calls Try.prog 13 #[.pointer (some ⟨b, 0, none⟩), ball r n] w fun e w' =>
      Fr (fun k => k = b) w w' ∧ PromOut b (blt pr pn r n) pr pn ar an x v u s r n e w' := by
  have hlt : b < w.heap.size := (Array.getElem?_eq_some_iff.1 h).1
  have f0 : Fr (fun _ => False) w (((w.alloc (oBa r n)).alloc (oBa 0 0)).alloc (oEn 0 0 0 0 nilS nilS)) := (((Fr.refl _ _).alloc _).alloc _).alloc _
  have q0 : (((w.alloc (oBa r n)).alloc (oBa 0 0)).alloc (oEn 0 0 0 0 nilS nilS)).heap[w.heap.size]? = some (oBa r n) := crow_kept (heap_alloc_new w _) (((Fr.refl (fun _ => False) _).alloc _).alloc _) (fun h => h)
  have q1 : (((w.alloc (oBa r n)).alloc (oBa 0 0)).alloc (oEn 0 0 0 0 nilS nilS)).heap[w.heap.size + 1]? = some (oBa 0 0) := crow_kept (new_two w _ _) ((Fr.refl (fun _ => False) _).alloc _) (fun h => h)
  have q2 : (((w.alloc (oBa r n)).alloc (oBa 0 0)).alloc (oEn 0 0 0 0 nilS nilS)).heap[w.heap.size + 1 + 1]? = some (oEn 0 0 0 0 nilS nilS) := by
    have := heap_alloc_new ((w.alloc (oBa r n)).alloc (oBa 0 0)) (oEn 0 0 0 0 nilS nilS)
    rw [World.size_alloc, World.size_alloc] at this
    exact this
  have Q0 := Lib.hid (And.intro (crow_kept h f0 (fun h => h)) (And.intro q0 (And.intro q1 q2)))
  have F0 := Lib.hid f0
  have HX := Lib.hid (hx.fr f0)
  have HA := Lib.hid ha
  clear h f0 q0 q1 q2 hx ha
  obtain ⟨B, hB⟩ : ∃ B, B = blt pr pn r n := ⟨_, rfl⟩
  have HB := Lib.hid hB
  rw [← hB]
  clear hB
  go_enter Try.func13, Try.ntmps13
  go_upto_region 1 with fail
  generalize ((w.alloc (oBa r n)).alloc (oBa 0 0)).alloc (oEn 0 0 0 0 nilS nilS) = w0 at *
  refine wp_region_told (by kernel_rfl) (fun a b => Fr (fun _ => False) a b) (fun w => Fr.refl _ w) (fun _ _ _ h k => h.trans k (fun _ _ h => h)) [8, 9, 10, 11, 12, 13, 14, 15, 16, 17, 18] rfl (by decide) (by intro d hd; simp at hd ⊢; omega)
    (fun i v _ => v = ([.pointer (some ⟨b, 0, none⟩), .bool false, .bool false, .pointer (some ⟨b, 0, none⟩), .pointer (some ⟨b, 0, none⟩), .pointer (some ⟨b, 0, none⟩), ball pr pn, ball r n, .bool B, .bool (!B), .bool (!B)] : List Value).getD i undef)
    (fun _ _ _ _ _ h => h) (by kernel_rfl) ?step1 ?fin1
  case step1 =>
    intro vals
    simp only [frOf, fill, List.setIfInBounds_toArray, List.set_cons_succ, List.set_cons_zero]
    repeat' (first | exact AllOps.nil | refine AllOps.cons ?_ ?_)
    all_goals
      intro wx hle he K' hK
      simp only [Act.put, List.setIfInBounds_toArray, List.set_cons_succ, List.set_cons_zero, List.getD_cons_zero, List.getD_cons_succ] at hK
      simp only [List.mem_cons, List.not_mem_nil, or_false, forall_eq_or_imp, forall_eq, Region.binds, forall_const, false_imp_iff, List.getD_cons_zero, List.getD_cons_succ] at he
      try simp only [he] at hK ⊢
      have hl5 := Fr.trans (Fr.drew (Fr.refl (fun _ => False) w0)) hle (fun _ _ h => h)
      have hl8 := Lib.hid hl5
      obtain ⟨c0, c1, c2, c3, c4, c5, c6, c7, c8, c9, c10⟩ := vot_cells (crow_kept Q0.out.1 hl5 (fun h => h))
      obtain ⟨b0, b1⟩ := ba_cells (crow_kept Q0.out.2.1 hl5 (fun h => h))
      clear hl5 hle he
      try go_simp
    all_goals first
      | exact hK _ _ (Fr.refl _ _) rfl
      | skip
    · go_at_call 9; refine (less_any pr pn r n _).mono ?_; rintro e1 wa ⟨rfl, fa⟩; rw [← HB.out]; exact hK _ _ fa rfl
  case fin1 =>
    intro vals w' hle hV
    have h9 : vals 10 = .bool (!B) := hV 10 (by decide)
    clear hV
    have hw := Fr.trans (Fr.drew (Fr.refl (fun _ => False) w0)) hle (fun _ _ h => h)
    have F1 := Lib.hid (F0.out.trans hw (fun _ _ h => h))
    have Q1 := Lib.hid (And.intro (crow_kept Q0.out.1 hw (fun h => h)) (And.intro (crow_kept Q0.out.2.1 hw (fun h => h)) (And.intro (crow_kept Q0.out.2.2.1 hw (fun h => h)) (crow_kept Q0.out.2.2.2 hw (fun h => h)))))
    have X1 := Lib.hid (HX.out.fr hw)
    clear hle hw Q0
    simp only [frOf, fill, List.setIfInBounds_toArray, List.set_cons_succ, List.set_cons_zero, Nat.reduceAdd]
    simp only [h9]
    clear h9
    cases B with
    | false =>
      obtain ⟨d00, d01, d02, d03, d04, d05⟩ := en_cells Q1.out.2.2.2
      obtain ⟨z00, z01, z02, z03, z04, z05⟩ := vfree6 Q1.out.2.2.2
      obtain ⟨b00, b01⟩ := ba_cells Q1.out.2.2.1
      have y00 := vfree Q1.out.2.2.1 0
      have y01 := vfree Q1.out.2.2.1 1
      simp only [Bool.not_false]
      go_wp2_with fail
      obtain ⟨hq1, hq2, hf⟩ := stBE (r := 0) (n := 0) (k := 0) (t := 0) (n' := 0) (p := 0) (v := nilS) (u := nilS) (by omega) Q1.out.2.2.1 Q1.out.2.2.2
      have hb := crow_kept Q1.out.1 (hf (S := fun k => k = w.heap.size + 1 ∨ k = w.heap.size + 1 + 1) (Fr.refl _ w') (fun _ => .inl rfl) (fun _ => .inr rfl)) (by omega)
      refine bodyPost_ret (results_rrtt rfl _ _ (w.heap.size + 1) 40 _ _ _ (w.heap.size + 1 + 1) 47 _ _ _ rfl hq1 rfl hq2 Try.underlying40 rfl (by kernel_rfl) Try.underlying47 rfl (by kernel_rfl)) rfl ?_
      exact ⟨(hf F1.out (by omega) (by omega)).mono (fun _ _ h => h.elim), fun _ => ⟨rfl, hb⟩, fun h => by cases h⟩
    | true =>
      simp only [Bool.not_true]
      go_upto_region 3 with fail
      obtain ⟨c0, c1, c2, c3, c4, c5, c6, c7, c8, c9, c10⟩ := vot_cells Q1.out.1
      have z0 := vfree Q1.out.1 0
      have z1 := vfree Q1.out.1 1
      obtain ⟨b00, b01⟩ := ba_cells Q1.out.2.1
      go_upto_region 4 with fail
      have q4 : ((w'.setCell ⟨b, 0, none⟩ (.int .i64 r)).setCell ⟨b, 1, none⟩ (.int .i64 n)).heap[b]? = some (oVr r n ar an x.k x.t x.n x.p v u s) := by
        have h0 : (w'.setCell ⟨b, 0, none⟩ (.int .i64 r)).heap[b]? = some (oVr r pn ar an x.k x.t x.n x.p v u s) := by rw [heap_setCell_same w' b 0 _ _ _ Q1.out.1]; rfl
        rw [heap_setCell_same _ b 1 _ _ _ h0]; rfl
      have f4 := cfr2 (.int .i64 r) (.int .i64 n) (b := b) (S := fun k => k = b) (Fr.refl _ w') (fun _ => rfl)
      generalize (w'.setCell ⟨b, 0, none⟩ (.int .i64 r)).setCell ⟨b, 1, none⟩ (.int .i64 n) = w4 at *
      have Q4 := Lib.hid (And.intro q4 (And.intro (crow_kept Q1.out.2.2.1 f4 (by omega)) (crow_kept Q1.out.2.2.2 f4 (by omega))))
      have F4 := Lib.hid ((F1.out.mono (fun _ _ h => h.elim)).trans f4 (fun _ _ h => h))
      have X4 := Lib.hid (X1.out.keep HA.out f4)
      have hs4 : w.heap.size + 1 + 1 < w4.heap.size := (Array.getElem?_eq_some_iff.1 Q4.out.2.2).1
      clear q4 f4 c0 c1 c2 c3 c4 c5 c6 c7 c8 c9 c10 z0 z1 b00 b01 Q1 X1
      refine wp_region_chain (by kernel_rfl) [some 25, some 26, some 27, some 28, some 29, some 30, some 31, some 32, some 33, some 34, some 35, some 36, some 37, none, none, some 6, some 7] rfl (by decide) (by intro d hd; simp at hd ⊢; omega)
        [8, 13, 14] (fun cvs wx => PrS x ar an (w.heap.size + 1) (w.heap.size + 1 + 1) w4 cvs wx)
        [.free (.pointer (some ⟨b, 0, none⟩)), .free (.pointer (some ⟨b, 0, none⟩)), .free (.pointer (some ⟨b, 2, none⟩)), .free (ball ar an), .free (.pointer (some ⟨b, 0, none⟩)), .free (.pointer (some ⟨b, 0, none⟩)), .free (.pointer (some ⟨b, 4, none⟩)), .free (x.val v u), .link none, .free (.pointer (some ⟨b, 0, none⟩)), .free (.pointer (some ⟨b, 0, none⟩)), .free (.pointer (some ⟨b, 10, none⟩)), .free (.bool s), .link none, .link none, .free (.bool s), .free (.bool true)]
        (by kernel_rfl) (by kernel_rfl) ?h4 ?step4 ?fin4
      case h4 => exact (Fr.refl _ _).drew
      case step4 =>
        intro vals
        simp only [frOfU, fillU, List.setIfInBounds_toArray, List.set_cons_succ, List.set_cons_zero]
        repeat' (first | exact AllOps.nil | refine AllOps.cons ?_ ?_)
        all_goals
          intro cvs wx hS he hu hlim Kc hK
          simp only [Act.put, List.setIfInBounds_toArray, List.set_cons_succ, List.set_cons_zero, List.getD_cons_zero, List.getD_cons_succ] at hK
          simp only [List.mem_cons, List.not_mem_nil, or_false, forall_eq_or_imp, forall_eq, Region.binds, forall_const, qmode_gc, Bool.false_eq_true, false_imp_iff, List.getD_cons_zero, List.getD_cons_succ, OpSort.val, Option.some.injEq, forall_eq', reduceCtorEq, implies_true, true_and, and_true] at he
          have hl5 := PrS.fr hS
          obtain ⟨c0, c1, c2, c3, c4, c5, c6, c7, c8, c9, c10⟩ := vot_cells (crow_kept Q4.out.1 hl5 (by omega))
          clear hl5
          have HSX := Lib.hid hS
          clear hS
        all_goals first | (clear hlim hu; (try simp only [he] at hK ⊢); go_simp; exact hK) | skip
        · obtain rfl := hlim (0 : Nat) rfl
          have h1 : Fr (fun _ => False) w4 wx := HSX.out
          have H1 := Lib.hid h1
          clear hlim hu HSX h1
          simp only [he] at hK ⊢
          go_simp
          go_at_call 21
          refine (vapart_any x v u wx (X4.out.fr H1.out) hl hm).mono ?_
          rintro y wa ⟨v', u', rfl, he', hf', hg1, hg2⟩
          exact hK _ _ (fun _ h => by cases h) ⟨v', u', rfl, he', fun k hk => Nat.le_trans H1.out.size (hg1 k hk), fun k hk => Nat.le_trans H1.out.size (hg2 k hk), H1.out.trans hf' (fun _ _ h => h)⟩
        · obtain rfl := hlim (1 : Nat) rfl
          obtain ⟨v', u', hv8, he8, hg1, hg2, hf8⟩ : PrS x ar an (w.heap.size + 1) (w.heap.size + 1 + 1) w4 [vals 8] wx := HSX.out
          have q5 := crow_kept Q4.out.2.1 hf8 (fun h => h)
          obtain ⟨b0, b1⟩ := ba_cells q5
          have z0 := vfree q5 0
          have z1 := vfree q5 1
          have hq := cst2 (y0 := .int .i64 ar) (y1 := .int .i64 an) q5
          have hf := cfr2 (.int .i64 ar) (.int .i64 an) (b := (w.heap.size + 1)) (S := fun k => k = (w.heap.size + 1)) (Fr.refl _ wx) (fun _ => rfl)
          have R := Lib.hid (show PrS x ar an (w.heap.size + 1) (w.heap.size + 1 + 1) w4 [vals 8, undef] _ from ⟨v', u', hv8, he8.keep2 (fun k hk e => by have := hg1 k hk; omega) (fun k hk e => by have := hg2 k hk; omega) hf, hg1, hg2, (hf8.mono (fun _ _ h => h.elim)).trans hf (fun _ _ h => h), hq⟩)
          clear hlim hu HSX hg1 hg2 hf8 q5 hq hf he8 hv8
          simp only [he] at hK ⊢
          clear he
          go_simp
          exact hK _ _ (fun _ h => by cases h) R.out
        · obtain rfl := hlim (2 : Nat) rfl
          obtain ⟨v', u', hv8, he8, hg1, hg2, hf8, hb8⟩ : PrS x ar an (w.heap.size + 1) (w.heap.size + 1 + 1) w4 [vals 8, vals 13] wx := HSX.out
          obtain ⟨a1, k1, hv1, hn1⟩ := he8.1.shape
          obtain ⟨a2, k2, hv2, hn2⟩ := he8.2.shape
          subst hv1 hv2
          have q5 := crow_kept Q4.out.2.2 hf8 (by omega)
          obtain ⟨b0, b1, b2, b3, b4, b5⟩ := en_cells q5
          obtain ⟨z0, z1, z2, z3, z4, z5⟩ := vfree6 q5
          have hq := cst6 (y0 := .int .u8 x.k) (y1 := .int .u16 x.t) (y2 := .int .u16 x.n) (y3 := .int .i64 x.p) (y4 := .slice a1 x.l.length k1) (y5 := .slice a2 x.m.length k2) q5
          have hf := cfr6 (.int .u8 x.k) (.int .u16 x.t) (.int .u16 x.n) (.int .i64 x.p) (.slice a1 x.l.length k1) (.slice a2 x.m.length k2) (b := (w.heap.size + 1 + 1)) (S := fun k => k = (w.heap.size + 1 + 1)) (Fr.refl _ wx) (fun _ => rfl)
          have R := Lib.hid (show PrS x ar an (w.heap.size + 1) (w.heap.size + 1 + 1) w4 [vals 8, vals 13, undef] _ from ⟨_, _, hv8, he8.keep2 (fun k hk e => by have := hg1 k hk; omega) (fun k hk e => by have := hg2 k hk; omega) hf, hg1, hg2, (hf8.mono (fun _ _ h => .inl h)).trans hf (fun _ _ h => .inr h), crow_kept hb8 hf (by omega), hq⟩)
          clear hlim hu HSX hg1 hg2 hf8 q5 hq hf he8 hb8
          simp only [he, hv8] at hK ⊢
          clear he
          go_simp
          exact hK _ _ (fun _ h => by cases h) R.out
      case fin4 =>
        intro vals w5 hS hV
        have v0 := hV 0 _ (by decide) rfl
        have v1 := hV 1 _ (by decide) rfl
        have v2 := hV 2 _ (by decide) rfl
        have v3 := hV 3 _ (by decide) rfl
        have v4 := hV 4 _ (by decide) rfl
        have v5 := hV 5 _ (by decide) rfl
        have v6 := hV 6 _ (by decide) rfl
        have v7 := hV 7 _ (by decide) rfl
        have v9 := hV 9 _ (by decide) rfl
        have v10 := hV 10 _ (by decide) rfl
        have v11 := hV 11 _ (by decide) rfl
        have v12 := hV 12 _ (by decide) rfl
        have v15 := hV 15 _ (by decide) rfl
        have v16 := hV 16 _ (by decide) rfl
        clear hV
        simp only [frOfU, fillU, List.setIfInBounds_toArray, List.set_cons_succ, List.set_cons_zero]
        simp only [Nat.reduceAdd, v0, v1, v2, v3, v4, v5, v6, v7, v9, v10, v11, v12, v15, v16]
        clear v0 v1 v2 v3 v4 v5 v6 v7 v9 v10 v11 v12 v15 v16
        obtain ⟨v1, u1, e1, hes, hn1, hn2, hf5, hg5, hh5⟩ : PrS x ar an (w.heap.size + 1) (w.heap.size + 1 + 1) w4 [vals 8, vals 13, vals 14] w5 := hS
        have hfb := F4.out.trans hf5 (fun k hk e => by omega)
        have hb5 := crow_kept Q4.out.1 hf5 (by omega)
        generalize vals 8 = y8 at *
        generalize vals 13 = y13 at *
        generalize vals 14 = y14 at *
        subst e1
        have HE5 := Lib.hid hes
        have HA5 : Hid (Away b x v1 u1) := Lib.hid ⟨.inr (fun e => by have := hn1 b e; omega), .inr (fun e => by have := hn2 b e; omega)⟩
        clear hn1 hn2
        have HF5 := Lib.hid hfb
        have HG5 := Lib.hid (And.intro hg5 (And.intro hh5 hb5))
        clear hes hfb hf5 hg5 hh5 hb5
        go_wp2_with fail
        refine bodyPost_ret (results_rrtt rfl _ _ (w.heap.size + 1) 40 _ _ _ (w.heap.size + 1 + 1) 47 _ _ _ rfl HG5.out.1 rfl HG5.out.2.1 Try.underlying40 rfl (by kernel_rfl) Try.underlying47 rfl (by kernel_rfl)) rfl ?_
        exact ⟨HF5.out, fun h => (by cases h), fun _ => ⟨⟨_, _, rfl, HE5.out, HA5.out⟩, HG5.out.2.2⟩⟩