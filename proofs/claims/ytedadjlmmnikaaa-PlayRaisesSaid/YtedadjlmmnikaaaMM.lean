/-
  The law PlayRaises, walked.
-/
import Derived.Test.YtedadjlmmnikaaaML
set_option linter.unusedSimpArgs false
set_option linter.unusedVariables false
namespace Go.Proofs.Ytedadjlmmnikaaa
open Go.RowKit
set_option linter.unusedVariables false
set_option linter.unusedSimpArgs false

/-- An outcome's cells, as far as the laws look at them. -/
def OLit (e : Nat) (n : Int) (v : Value) : Prop := ∃ zn zf zs za zc zcap, v = .agg #[.int .i64 e, .int .i64 n, .int .i64 zn, .float .f64 zf, .string zs, .slice za zc zcap]

theorem OShows.olit {R : Nat → Prop} {w : World} {o : OC} {v : Value} (h : OShows R w o v) : OLit o.e o.n v := by
  obtain ⟨x0, x1, x2, x3, rfl, hv⟩ := h
  obtain ⟨zn, zf, zs, za, zc, zcap, e4⟩ := hv.lit
  simp at e4
  obtain ⟨rfl, rfl, rfl, rfl⟩ := e4
  exact ⟨zn, zf, zs, za, zc, zcap, rfl⟩

def outIn (x : Int) : Prop := 0 ≤ x ∧ x ≤ 65535

theorem raise_play (s : Nat → Int) (k : Nat) (x : Int) (hk : k ≤ 255) :
    ∃ r v, playE (leafK 1) (leafK 0) [⟨10, 0, 8, 0, k⟩, ⟨1, 1, 0, 0, 7⟩] (numT x) s = (r, v) ∧
      ((¬ (0 ≤ x ∧ x ≤ 65535) ∧ stC r = stC s ∧ v.e = 17) ∨ ((0 ≤ x ∧ x ≤ 65535) ∧ x ≠ 0 ∧ stC r = stC s ∧ v.e = 16 ∧ v.n = k) ∨ (x = 0 ∧ stC r = stC (upd s 1 7) ∧ v.e = 0)) := by
  have hc : pcheckE [⟨10, 0, 8, 0, k⟩, ⟨1, 1, 0, 0, 7⟩] = 0 := by
    rw [checkE_zero]
    refine ⟨by simp, fun i y hy => ?_, by simp [fuelE, Ins.turns]⟩
    match i, hy with
    | 0, hy => cases hy; simp [insE, regsE]
    | 1, hy => cases hy; simp [insE, regsE]
    | i + 2, hy => simp at hy
  by_cases hx : 0 ≤ x ∧ x ≤ 65535
  · have hv : isVal (leafK 1) (numT x) = true := by rw [leaf_val1]; simpa using hx
    by_cases h0 : x = 0
    · subst h0
      have h2 : runE (sumE [0]) 1 [⟨10, 0, 8, 0, k⟩, ⟨1, 1, 0, 0, 7⟩] (loadE s [0]) = .ok false (upd (loadE s [0]) 1 7) := by
        simp [runE, stepsE, opE, loadE]
      exact ⟨_, _, playE_ok hc hv (leaf_flat 1 (by decide) 0) h2, .inr (.inr ⟨rfl, rfl, rfl⟩)⟩
    · have h2 : runE (sumE [x]) 1 [⟨10, 0, 8, 0, k⟩, ⟨1, 1, 0, 0, 7⟩] (loadE s [x]) = .bad 16 k := by
        simp [runE, stepsE, opE, loadE, h0]
      exact ⟨_, _, playE_bad hc hv (leaf_flat 1 (by decide) x) h2, .inr (.inl ⟨hx, h0, rfl, rfl, rfl⟩)⟩
  · exact ⟨_, _, playE_args hc (by rw [leaf_val1]; simpa using hx), .inl ⟨hx, rfl, rfl⟩⟩

theorem div_play (s : Nat → Int) (x : Int) :
    ∃ r v, playE (leafK 1) (leafK 0) [⟨6, 2, 3, 8, 0⟩] (numT x) s = (r, v) ∧
      ((¬ (0 ≤ x ∧ x ≤ 65535)) ∨ ((0 ≤ x ∧ x ≤ 65535) ∧ x ≠ 0 ∧ stC r = stC (upd s 2 (wrap64 ((s 3).tdiv x))) ∧ v.e = 0) ∨ (x = 0 ∧ stC r = stC s ∧ v.e = 14)) := by
  have hc : pcheckE [⟨6, 2, 3, 8, 0⟩] = 0 := by decide
  by_cases hx : 0 ≤ x ∧ x ≤ 65535
  · have hv : isVal (leafK 1) (numT x) = true := by rw [leaf_val1]; simpa using hx
    by_cases h0 : x = 0
    · subst h0
      have h2 : runE (sumE [0]) 1 [⟨6, 2, 3, 8, 0⟩] (loadE s [0]) = .bad 14 0 := by
        simp [runE, stepsE, opE, loadE]
      exact ⟨_, _, playE_bad hc hv (leaf_flat 1 (by decide) 0) h2, .inr (.inr ⟨rfl, rfl, rfl⟩)⟩
    · have h2 : runE (sumE [x]) 1 [⟨6, 2, 3, 8, 0⟩] (loadE s [x]) = .ok false (upd (loadE s [x]) 2 (wrap64 ((s 3).tdiv x))) := by
        simp [runE, stepsE, opE, loadE, h0]
      exact ⟨_, _, playE_ok hc hv (leaf_flat 1 (by decide) x) h2, .inr (.inl ⟨hx, h0, rfl, rfl⟩)⟩
  · exact ⟨_, _, playE_args hc (by rw [leaf_val1]; simpa using hx), .inl hx⟩

/-- Play of a body that takes a number, and a program in a block. -/
theorem play_small (p : List Ins) (hf : ∀ x ∈ p, x.Fits) (hl : p.length ≤ 100) (s : Nat → Int) (x : Int) (pv : Value) (w : World) (hp : PSees w pv p) (hs : ∀ k, k < 8 → -9223372036854775808 ≤ s k ∧ s k ≤ 9223372036854775807) (hx : -9223372036854775808 ≤ x ∧ x ≤ 9223372036854775807) :
    Calls Try.prog 17 #[.agg #[.int .u8 1, .int .i64 0, .slice none 0 0, .slice none 0 0, .int .u8 0, .int .i64 0, .slice none 0 0, .slice none 0 0, pv], .agg (stC s), .agg #[.int .i64 x, .float .f64 0, .string ⟨#[]⟩, .slice none 0 0]] w fun e w' =>
      ∃ ov, e = .returned (.tuple #[.agg (stC (playE (leafK 1) (leafK 0) p (numT x) s).1), ov]) ∧ OLit (playE (leafK 1) (leafK 0) p (numT x) s).2.e (playE (leafK 1) (leafK 0) p (numT x) s).2.n ov ∧ Fr (fun _ => False) w w' := by
  refine (Play_any (fun _ => True) (leafK 1) (leafK 0) p (numT x) s _ _ _ _ _ _ _ _ _ _ _ _ _ w hp hf hl (leaf_shows 1 (by decide) _ _) (leaf_shows 0 (by decide) _ _) (num_shows x hx _ _) (by simp [szV, numT]) (leaf_cost 0 (by decide)) leaf_build_val hs).mono ?_
  rintro e w' ⟨⟨ov, rfl, ho⟩, f⟩
  exact ⟨ov, rfl, ho.olit, f⟩


attribute [local go_sem] run_store_float

theorem stEq_of {s s' : Nat → Int} (h : stC s = stC s') : stEq s s' = true := by
  rw [stEq_iff]
  unfold stC at h
  simp at h
  intro i hi
  have : i = 0 ∨ i = 1 ∨ i = 2 ∨ i = 3 ∨ i = 4 ∨ i = 5 ∨ i = 6 ∨ i = 7 := by omega
  obtain ⟨h0, h1, h2, h3, h4, h5, h6, h7⟩ := h
  rcases this with rfl | rfl | rfl | rfl | rfl | rfl | rfl | rfl <;> assumption

theorem raise_ins (k : Nat) (hk : k ≤ 255) : ∀ x ∈ ([⟨10, 0, 8, 0, k⟩, ⟨1, 1, 0, 0, 7⟩] : List Ins), x.Fits := by
  intro x hx
  simp only [List.mem_cons, List.not_mem_nil, or_false] at hx
  rcases hx with rfl | rfl <;> constructor <;> simp <;> omega

theorem div_ins : ∀ x ∈ ([⟨6, 2, 3, 8, 0⟩] : List Ins), x.Fits := by
  intro x hx
  rw [List.mem_singleton.1 hx]
  exact ⟨by decide, by decide, by decide, by decide, by decide, by decide⟩

set_option maxRecDepth 100000 in
set_option maxHeartbeats 8000000 in
theorem raises_walk (s : Nat → Int) (n : Int) (k m : Nat) (w : World) (hs : ∀ k, k < 8 → -9223372036854775808 ≤ s k ∧ s k ≤ 9223372036854775807) (hn : -9223372036854775808 ≤ n ∧ n ≤ 9223372036854775807) (hk : k ≤ 255) (hm : m ≤ 255) :
    Calls Try.prog 8 #[.agg (stC s), .int .i64 n, .int .u8 k, .int .u8 m] w fun e w' => e = .returned (.bool true) ∧ Fr (fun _ => False) w w' := by
  have HH := Lib.hid (And.intro hs (And.intro hn (And.intro hk hm)))
  simp only [stC]
  go_enter Try.func8, Try.ntmps8
  go_wp2_with fail
  refine (pawake_any _).mono ?_
  rintro e w1 ⟨rfl, f1⟩
  have q1 := pbox_kept (heap_alloc_new w _) f1 (fun h => h)
  have F1 := Lib.hid (And.intro (((Fr.refl (fun _ => False) _).alloc _).trans f1 (fun _ _ h => h)) q1)
  clear f1 q1 hs hn hk hm
  obtain ⟨w2, hw2⟩ : ∃ w2, w2 = ((w1.alloc (.cells #[.int .u8 10, .int .u8 0, .int .u8 8, .int .u8 0, .int .i16 k, .int .u8 1, .int .u8 1, .int .u8 0, .int .u8 0, .int .i16 7] 84)).alloc (.cells #[.int .u8 1, .int .i64 0, .slice none 0 0, .slice none 0 0, .int .u8 0, .int .i64 0, .slice none 0 0, .slice none 0 0, .slice (some ⟨w1.heap.size, 0, none⟩) 2 2] 40)).alloc (.cells #[.int .i64 0, .int .i64 m, .int .i64 n] 2) := ⟨_, rfl⟩
  have F2 : Hid (Fr (fun _ => False) w1 w2 ∧ w2.heap[w1.heap.size]? = some (.cells #[.int .u8 10, .int .u8 0, .int .u8 8, .int .u8 0, .int .i16 k, .int .u8 1, .int .u8 1, .int .u8 0, .int .u8 0, .int .i16 7] 84 (0, 0)) ∧
      w2.heap[w1.heap.size + 1]? = some (.cells #[.int .u8 1, .int .i64 0, .slice none 0 0, .slice none 0 0, .int .u8 0, .int .i64 0, .slice none 0 0, .slice none 0 0, .slice (some ⟨w1.heap.size, 0, none⟩) 2 2] 40 (0, 0)) ∧
      w2.heap[w1.heap.size + 1 + 1]? = some (.cells #[.int .i64 0, .int .i64 m, .int .i64 n] 2 (0, 0))) := Lib.hid (by
    have f : ∀ (w : World) (o : Obj), Fr (fun _ => False) w (w.alloc o) := fun w o => (Fr.refl _ _).alloc _
    rw [hw2]
    exact ⟨((f _ _).alloc _).alloc _, pbox_kept (pbox_kept (heap_alloc_new _ _) (f _ _) (fun h => h)) (f _ _) (fun h => h), pbox_kept (new_two _ _ _) (f _ _) (fun h => h), new_three _ _ _ _⟩)
  have wk : IntKind.i16.wrap (k : Int) = k := by
    have := HH.out.2.2.1
    simp [IntKind.wrap, IntKind.bits, IntKind.signed]; omega
  have wm : wrap64 (m : Int) = m := IntWalk.wrap64_in _ (by have := HH.out.2.2.2; omega)
  go_wp2_with fail
  clear wk wm
  rw [← hw2]
  clear hw2
  generalize hg1 : w1.heap.size = g1 at *
  have G1 := Lib.hid hg1
  clear hg1
  generalize hg0 : w.heap.size = g0 at *
  have G0 := Lib.hid hg0
  clear hg0
  go_loopg [31] 3 (fun G u31 wr => ∃ (j : Nat), j ≤ 3 ∧ G = 3 - j ∧ u31 = .int .i64 j ∧ Hid (Fr (fun _ => False) w2 wr))
  case atStart => exact ⟨0, by omega, rfl, rfl, Lib.hid (Fr.refl _ _)⟩
  case round =>
    obtain ⟨j, hj, rfl, rfl, HI⟩ := hrel
    by_cases hlt : j < 3
    · obtain ⟨x, hxr, cx⟩ : ∃ x : Int, (-9223372036854775808 ≤ x ∧ x ≤ 9223372036854775807) ∧ wr.cell? ⟨g1 + 1 + 1, j, none⟩ = some (.int .i64 x) := by
        have q := pbox_kept F2.out.2.2.2 HI.out (fun h => h)
        have hh := HH.out
        have : j = 0 ∨ j = 1 ∨ j = 2 := by omega
        rcases this with rfl | rfl | rfl
        · exact ⟨0, by omega, pcells_row q 0 _ rfl⟩
        · exact ⟨m, by omega, pcells_row q 1 _ rfl⟩
        · exact ⟨n, hh.2.1, pcells_row q 2 _ rfl⟩
      obtain ⟨w3, hw3⟩ : ∃ w3, w3 = wr.alloc (.cells #[.int .i64 x, .float .f64 0, .string ⟨#[]⟩, .slice none 0 0] 44) := ⟨_, rfl⟩
      have F3 : Hid (Fr (fun _ => False) w2 w3 ∧ w3.heap[wr.heap.size]? = some (.cells #[.int .i64 x, .float .f64 0, .string ⟨#[]⟩, .slice none 0 0] 44 (0, 0))) := Lib.hid (by rw [hw3]; exact ⟨HI.out.alloc _, heap_alloc_new _ _⟩)
      have qb := pbox_kept F2.out.2.2.1 F3.out.1 (fun h => h)
      have b0 := pcells_row qb 0 _ rfl
      have b1 := pcells_row qb 1 _ rfl
      have b2 := pcells_row qb 2 _ rfl
      have b3 := pcells_row qb 3 _ rfl
      have b4 := pcells_row qb 4 _ rfl
      have b5 := pcells_row qb 5 _ rfl
      have b6 := pcells_row qb 6 _ rfl
      have b7 := pcells_row qb 7 _ rfl
      have b8 := pcells_row qb 8 _ rfl
      have qs := pbox_kept F1.out.2 (F2.out.1.trans F3.out.1 (fun _ _ h => h)) (fun h => h)
      have s0 := pcells_row qs 0 _ rfl
      have s1 := pcells_row qs 1 _ rfl
      have s2 := pcells_row qs 2 _ rfl
      have s3 := pcells_row qs 3 _ rfl
      have s4 := pcells_row qs 4 _ rfl
      have s5 := pcells_row qs 5 _ rfl
      have s6 := pcells_row qs 6 _ rfl
      have s7 := pcells_row qs 7 _ rfl
      have v0 := pcells_row F3.out.2 0 _ rfl
      have v1 := pcells_row F3.out.2 1 _ rfl
      have v2 := pcells_row F3.out.2 2 _ rfl
      have v3 := pcells_row F3.out.2 3 _ rfl
      have HP := Lib.hid (play_small [⟨10, 0, 8, 0, k⟩, ⟨1, 1, 0, 0, 7⟩] (raise_ins k HH.out.2.2.1) (by simp) s x _ w3 (sees_block (pbox_kept F2.out.2.1 F3.out.1 (fun h => h)) [⟨10, 0, 8, 0, k⟩, ⟨1, 1, 0, 0, 7⟩] (raise_ins k HH.out.2.2.1) rfl 2 2 rfl (by decide)) HH.out.1 hxr)
      obtain ⟨r, v, hrv, hcase⟩ := raise_play s k x HH.out.2.2.1
      obtain ⟨r', v', hrv', hcase'⟩ := div_play s x
      rw [hrv] at HP
      simp only at HP
      have HCase := Lib.hid hcase'
      have HDiv := Lib.hid hrv'
      have HX := Lib.hid hxr
      have heq1 : ∀ w, (Op.equalIn 10000 27 (.agg #[.int .i64 (r 0), .int .i64 (r 1), .int .i64 (r 2), .int .i64 (r 3), .int .i64 (r 4), .int .i64 (r 5), .int .i64 (r 6), .int .i64 (r 7)]) (.agg #[.int .i64 (s 0), .int .i64 (s 1), .int .i64 (s 2), .int .i64 (s 3), .int .i64 (s 4), .int .i64 (s 5), .int .i64 (s 6), .int .i64 (s 7)])).run Try.prog w = .ok (stEq r s) w := fun w => equal_states 9998 r s w
      have heq2 : ∀ w, (Op.equalIn 10000 27 (.agg #[.int .i64 (r 0), .int .i64 (r 1), .int .i64 (r 2), .int .i64 (r 3), .int .i64 (r 4), .int .i64 (r 5), .int .i64 (r 6), .int .i64 (r 7)]) (.agg #[.int .i64 (s 0), .int .i64 7, .int .i64 (s 2), .int .i64 (s 3), .int .i64 (s 4), .int .i64 (s 5), .int .i64 (s 6), .int .i64 (s 7)])).run Try.prog w = .ok (stEq r (upd s 1 7)) w := fun w => equal_states 9998 r (upd s 1 7) w
      have heq3 : ∀ w, (Op.equalIn 10000 27 (.agg #[.int .i64 (r' 0), .int .i64 (r' 1), .int .i64 (r' 2), .int .i64 (r' 3), .int .i64 (r' 4), .int .i64 (r' 5), .int .i64 (r' 6), .int .i64 (r' 7)]) (.agg #[.int .i64 (s 0), .int .i64 (s 1), .int .i64 (s 2), .int .i64 (s 3), .int .i64 (s 4), .int .i64 (s 5), .int .i64 (s 6), .int .i64 (s 7)])).run Try.prog w = .ok (stEq r' s) w := fun w => equal_states 9998 r' s w
      have hS1 := fun (wx : World) (fx : Fr (fun _ => False) w3 wx) => pbox_kept (pbox_kept F1.out.2 (F2.out.1.trans F3.out.1 (fun _ _ h => h)) (fun h => h)) fx (fun h => h)
      have HS1 := Lib.hid hS1
      have hV1 := fun (wx : World) (fx : Fr (fun _ => False) w3 wx) => pbox_kept F3.out.2 fx (fun h => h)
      have HV1 := Lib.hid hV1
      clear qb qs hrv hrv' hcase' hS1 hV1 hxr
      generalize hgr : wr.heap.size = gr at *
      have GR := Lib.hid hgr
      clear hgr
      have HC1 := Lib.hid hcase
      clear hcase
      simp only [stC] at HP
      go_upto_region 8 with fail
      rw [← hw3, GR.out]
      clear hw3
      go_wp2_with fail
      refine HP.out.mono ?_
      rintro e w4 ⟨ov, rfl, ⟨zn, zf, zs, za, zc, zcap, rfl⟩, f4⟩
      have F4 := Lib.hid f4
      clear f4 s0 s1 s2 s3 s4 s5 s6 s7 b0 b1 b2 b3 b4 b5 b6 b7 b8 v0 v1 v2 v3 HP
      obtain ⟨w5, hw5⟩ : ∃ w5, w5 = (w4.alloc (.cells #[.int .i64 (r 0), .int .i64 (r 1), .int .i64 (r 2), .int .i64 (r 3), .int .i64 (r 4), .int .i64 (r 5), .int .i64 (r 6), .int .i64 (r 7)] 27)).alloc (.cells #[.int .i64 v.e, .int .i64 v.n, .int .i64 zn, .float .f64 zf, .string zs, .slice za zc zcap] 65) := ⟨_, rfl⟩
      have F5 : Hid (Fr (fun _ => False) w4 w5 ∧ w5.heap[w4.heap.size]? = some (.cells #[.int .i64 (r 0), .int .i64 (r 1), .int .i64 (r 2), .int .i64 (r 3), .int .i64 (r 4), .int .i64 (r 5), .int .i64 (r 6), .int .i64 (r 7)] 27 (0, 0)) ∧ w5.heap[w4.heap.size + 1]? = some (.cells #[.int .i64 v.e, .int .i64 v.n, .int .i64 zn, .float .f64 zf, .string zs, .slice za zc zcap] 65 (0, 0))) := Lib.hid (by
        have f : ∀ (w : World) (o : Obj), Fr (fun _ => False) w (w.alloc o) := fun w o => (Fr.refl _ _).alloc _
        rw [hw5]
        exact ⟨(f _ _).alloc _, pbox_kept (heap_alloc_new _ _) (f _ _) (fun h => h), new_two _ _ _⟩)
      go_upto_region 9 with fail
      rw [← hw5]
      clear hw5
      generalize hg4 : w4.heap.size = g4 at *
      have G4 := Lib.hid hg4
      clear hg4
      have qs5 := HS1.out w5 (F4.out.trans F5.out.1 (fun _ _ h => h))
      have p0 := pcells_row (qs5) 0 _ rfl
      have p1 := pcells_row (qs5) 1 _ rfl
      have p2 := pcells_row (qs5) 2 _ rfl
      have p3 := pcells_row (qs5) 3 _ rfl
      have p4 := pcells_row (qs5) 4 _ rfl
      have p5 := pcells_row (qs5) 5 _ rfl
      have p6 := pcells_row (qs5) 6 _ rfl
      have p7 := pcells_row (qs5) 7 _ rfl
      clear qs5
      obtain ⟨w6, hw6⟩ : ∃ w6, w6 = w5.alloc (.cells #[.int .i64 (s 0), .int .i64 7, .int .i64 (s 2), .int .i64 (s 3), .int .i64 (s 4), .int .i64 (s 5), .int .i64 (s 6), .int .i64 (s 7)] 27) := ⟨_, rfl⟩
      have F6 : Hid (Fr (fun _ => False) w5 w6 ∧ w6.heap[w5.heap.size]? = some (.cells #[.int .i64 (s 0), .int .i64 7, .int .i64 (s 2), .int .i64 (s 3), .int .i64 (s 4), .int .i64 (s 5), .int .i64 (s 6), .int .i64 (s 7)] 27 (0, 0))) := Lib.hid (by rw [hw6]; exact ⟨(Fr.refl _ _).alloc _, heap_alloc_new _ _⟩)
      go_upto_block 2 with fail
      rw [← hw6]
      clear hw6 p0 p1 p2 p3 p4 p5 p6 p7
      generalize hg5 : w5.heap.size = g5 at *
      have G5 := Lib.hid hg5
      clear hg5
      have qs6 := HS1.out w6 ((F4.out.trans F5.out.1 (fun _ _ h => h)).trans F6.out.1 (fun _ _ h => h))
      have p0 := pcells_row (qs6) 0 _ rfl
      have p1 := pcells_row (qs6) 1 _ rfl
      have p2 := pcells_row (qs6) 2 _ rfl
      have p3 := pcells_row (qs6) 3 _ rfl
      have p4 := pcells_row (qs6) 4 _ rfl
      have p5 := pcells_row (qs6) 5 _ rfl
      have p6 := pcells_row (qs6) 6 _ rfl
      have p7 := pcells_row (qs6) 7 _ rfl
      have r0 := pcells_row (pbox_kept F5.out.2.1 F6.out.1 (fun h => h)) 0 _ rfl
      have r1 := pcells_row (pbox_kept F5.out.2.1 F6.out.1 (fun h => h)) 1 _ rfl
      have r2 := pcells_row (pbox_kept F5.out.2.1 F6.out.1 (fun h => h)) 2 _ rfl
      have r3 := pcells_row (pbox_kept F5.out.2.1 F6.out.1 (fun h => h)) 3 _ rfl
      have r4 := pcells_row (pbox_kept F5.out.2.1 F6.out.1 (fun h => h)) 4 _ rfl
      have r5 := pcells_row (pbox_kept F5.out.2.1 F6.out.1 (fun h => h)) 5 _ rfl
      have r6 := pcells_row (pbox_kept F5.out.2.1 F6.out.1 (fun h => h)) 6 _ rfl
      have r7 := pcells_row (pbox_kept F5.out.2.1 F6.out.1 (fun h => h)) 7 _ rfl
      have o0 := pcells_row (pbox_kept F5.out.2.2 F6.out.1 (fun h => h)) 0 _ rfl
      have o1 := pcells_row (pbox_kept F5.out.2.2 F6.out.1 (fun h => h)) 1 _ rfl
      have t0 := pcells_row (F6.out.2) 0 _ rfl
      have t1 := pcells_row (F6.out.2) 1 _ rfl
      have t2 := pcells_row (F6.out.2) 2 _ rfl
      have t3 := pcells_row (F6.out.2) 3 _ rfl
      have t4 := pcells_row (F6.out.2) 4 _ rfl
      have t5 := pcells_row (F6.out.2) 5 _ rfl
      have t6 := pcells_row (F6.out.2) 6 _ rfl
      have t7 := pcells_row (F6.out.2) 7 _ rfl
      clear qs6
      go_cut [46] from 47 to 87 (fun u wx => w6 = wx)
      case first =>
        rcases HC1.out with ⟨hx, hst, he⟩ | ⟨hx, h0, hst, he, hn1⟩ | ⟨h0, hst, he⟩
        · have hq : stEq r s = true := stEq_of hst
          have he' : ((v.e : Int) != 17) = false := by rw [he]; rfl
          clear he hst
          by_cases hneg : x < 0
          · clear hx
            go_wp2
            go_meet
            rfl
          · have hbig : 65535 < x := by omega
            clear hx
            go_wp2
            go_meet
            rfl
        · have hq : stEq r s = true := stEq_of hst
          have he' : ((v.e : Int) != 16) = false := by rw [he]; rfl
          obtain ⟨c0, hn', hc0⟩ : ∃ c0, (v.n != wrap64 (k : Int)) = c0 ∧ c0 = false := ⟨_, rfl, by rw [hn1, IntWalk.wrap64_in _ (by have := HH.out.2.2.1; omega)]; simp⟩
          have hx1 : decide (x < 0) = false := by simp; omega
          have hx2 : decide (65535 < x) = false := by simp; omega
          have hx3 : (x != 0) = true := by simpa using h0
          clear he hst hn1 hx h0
          go_wp2
          go_meet
          rfl
        · have hq : stEq r (upd s 1 7) = true := stEq_of hst
          have he' : ((v.e : Int) != 0) = false := by rw [he]; rfl
          have hx1 : decide (x < 0) = false := by simp; omega
          have hx2 : decide (65535 < x) = false := by simp; omega
          obtain ⟨b0, hx3, hb2⟩ : ∃ b0, (x != 0) = b0 ∧ b0 = false := ⟨_, rfl, by simpa using h0⟩
          clear he hst h0
          go_wp2
          go_meet
          rfl
      case rest =>
        subst hcut
        clear p0 r0 t0 p1 r1 t1 p2 r2 t2 p3 r3 t3 p4 r4 t4 p5 r5 t5 p6 r6 t6 p7 r7 t7 o0 o1
        obtain ⟨w7, hw7⟩ : ∃ w7, w7 = (w6.alloc (.cells #[.int .u8 6, .int .u8 2, .int .u8 3, .int .u8 8, .int .i16 0] 84)).alloc (.cells #[.int .u8 1, .int .i64 0, .slice none 0 0, .slice none 0 0, .int .u8 0, .int .i64 0, .slice none 0 0, .slice none 0 0, .slice (some ⟨w6.heap.size, 0, none⟩) 1 1] 40) := ⟨_, rfl⟩
        have F7 : Hid (Fr (fun _ => False) w6 w7 ∧ w7.heap[w6.heap.size]? = some (.cells #[.int .u8 6, .int .u8 2, .int .u8 3, .int .u8 8, .int .i16 0] 84 (0, 0)) ∧ w7.heap[w6.heap.size + 1]? = some (.cells #[.int .u8 1, .int .i64 0, .slice none 0 0, .slice none 0 0, .int .u8 0, .int .i64 0, .slice none 0 0, .slice none 0 0, .slice (some ⟨w6.heap.size, 0, none⟩) 1 1] 40 (0, 0))) := Lib.hid (by
          have f : ∀ (w : World) (o : Obj), Fr (fun _ => False) w (w.alloc o) := fun w o => (Fr.refl _ _).alloc _
          rw [hw7]
          exact ⟨(f _ _).alloc _, pbox_kept (heap_alloc_new _ _) (f _ _) (fun h => h), new_two _ _ _⟩)
        have F37 : Hid (Fr (fun _ => False) w3 w7) := Lib.hid (((F4.out.trans F5.out.1 (fun _ _ h => h)).trans F6.out.1 (fun _ _ h => h)).trans F7.out.1 (fun _ _ h => h))
        go_upto_region 20 with fail
        rw [← hw7]
        clear hw7
        generalize hg6 : w6.heap.size = g6 at *
        have G6 := Lib.hid hg6
        clear hg6
        have qs7 := HS1.out w7 F37.out
        have qv7 := HV1.out w7 F37.out
        have p0 := pcells_row (qs7) 0 _ rfl
        have p1 := pcells_row (qs7) 1 _ rfl
        have p2 := pcells_row (qs7) 2 _ rfl
        have p3 := pcells_row (qs7) 3 _ rfl
        have p4 := pcells_row (qs7) 4 _ rfl
        have p5 := pcells_row (qs7) 5 _ rfl
        have p6 := pcells_row (qs7) 6 _ rfl
        have p7 := pcells_row (qs7) 7 _ rfl
        have v0 := pcells_row (qv7) 0 _ rfl
        have v1 := pcells_row (qv7) 1 _ rfl
        have v2 := pcells_row (qv7) 2 _ rfl
        have v3 := pcells_row (qv7) 3 _ rfl
        have b0 := pcells_row (F7.out.2.2) 0 _ rfl
        have b1 := pcells_row (F7.out.2.2) 1 _ rfl
        have b2 := pcells_row (F7.out.2.2) 2 _ rfl
        have b3 := pcells_row (F7.out.2.2) 3 _ rfl
        have b4 := pcells_row (F7.out.2.2) 4 _ rfl
        have b5 := pcells_row (F7.out.2.2) 5 _ rfl
        have b6 := pcells_row (F7.out.2.2) 6 _ rfl
        have b7 := pcells_row (F7.out.2.2) 7 _ rfl
        have b8 := pcells_row (F7.out.2.2) 8 _ rfl
        have HP2 := Lib.hid (play_small [⟨6, 2, 3, 8, 0⟩] div_ins (by simp) s x _ w7 (sees_block F7.out.2.1 [⟨6, 2, 3, 8, 0⟩] div_ins rfl 1 1 rfl (by decide)) HH.out.1 HX.out)
        rw [HDiv.out] at HP2
        simp only [stC] at HP2
        clear qs7 qv7
        go_wp2_with fail
        refine HP2.out.mono ?_
        rintro e w8 ⟨ov2, rfl, ⟨yn, yf, ys, ya, yc, ycap, rfl⟩, f8⟩
        have f58 := (F6.out.1.trans F7.out.1 (fun _ _ h => h)).trans f8 (fun _ _ h => h)
        have F8 := Lib.hid (And.intro f8 (And.intro (pbox_kept F5.out.2.1 f58 (fun h => h)) (pbox_kept F5.out.2.2 f58 (fun h => h))))
        clear f8 f58 p0 p1 p2 p3 p4 p5 p6 p7 v0 v1 v2 v3 b0 b1 b2 b3 b4 b5 b6 b7 b8 HP2
        go_wp2_with (first
          | refine wpList_store_row rfl 27 (.tmp 13) (.tmp 97) rfl g4 #[.int .i64 (r' 0), .int .i64 (r' 1), .int .i64 (r' 2), .int .i64 (r' 3), .int .i64 (r' 4), .int .i64 (r' 5), .int .i64 (r' 6), .int .i64 (r' 7)] rfl rfl 27 #[.int .i64 (r 0), .int .i64 (r 1), .int .i64 (r 2), .int .i64 (r 3), .int .i64 (r 4), .int .i64 (r 5), .int .i64 (r 6), .int .i64 (r 7)] ?hg1 ?hi1 ?hold1 ?ha1 ?go1
          | refine wpList_store_row rfl 65 (.tmp 14) (.tmp 98) rfl (g4 + 1) #[.int .i64 v'.e, .int .i64 v'.n, .int .i64 yn, .float .f64 yf, .string ys, .slice ya yc ycap] rfl rfl 65 #[.int .i64 v.e, .int .i64 v.n, .int .i64 zn, .float .f64 zf, .string zs, .slice za zc zcap] ?hg2 ?hi2 ?hold2 ?ha2 ?go2)
        case hg1 => exact F8.out.2.1
        case hi1 => kernel_rfl
        case hold1 => rfl
        case ha1 => simp [Value.oneCell']
        case hg2 => exact (setRow_other _ _ _ _ (by omega)).trans F8.out.2.2
        case hi2 => kernel_rfl
        case hold2 => rfl
        case ha2 => simp [Value.oneCell']
        case go2 =>
          obtain ⟨w9, hw9⟩ : ∃ w9, w9 = (w8.setRow g4 #[.int .i64 (r' 0), .int .i64 (r' 1), .int .i64 (r' 2), .int .i64 (r' 3), .int .i64 (r' 4), .int .i64 (r' 5), .int .i64 (r' 6), .int .i64 (r' 7)]).setRow (g4 + 1) #[.int .i64 v'.e, .int .i64 v'.n, .int .i64 yn, .float .f64 yf, .string ys, .slice ya yc ycap] := ⟨_, rfl⟩
          have f9 : Fr (fun k => k = g4 ∨ k = g4 + 1) w8 w9 := by rw [hw9]; exact Fr.setRow (Fr.setRow (Fr.refl _ _) (fun _ => .inl rfl) _) (fun _ => .inr rfl) _
          have q9 : w9.heap[g4]? = some (.cells #[.int .i64 (r' 0), .int .i64 (r' 1), .int .i64 (r' 2), .int .i64 (r' 3), .int .i64 (r' 4), .int .i64 (r' 5), .int .i64 (r' 6), .int .i64 (r' 7)] 27 (0, 0)) := by rw [hw9]; exact (setRow_other _ _ _ _ (by omega)).trans (setRow_heap _ _ _ _ _ _ F8.out.2.1)
          have o9 : w9.heap[g4 + 1]? = some (.cells #[.int .i64 v'.e, .int .i64 v'.n, .int .i64 yn, .float .f64 yf, .string ys, .slice ya yc ycap] 65 (0, 0)) := by rw [hw9]; exact setRow_heap _ _ _ _ _ _ ((setRow_other _ _ _ _ (by omega)).trans F8.out.2.2)
          have hz := G0.out
          have hz4 := G4.out
          have hz1 := F1.out.1.size
          have hz2 := F2.out.1.size
          have hz3 := F3.out.1.size
          have hz5 := F4.out.size
          have hlt0 : g0 < w1.heap.size := lt_of_block F1.out.2
          have s9 := pbox_kept (HS1.out w8 (F37.out.trans F8.out.1 (fun _ _ h => h))) f9 (fun h => by omega)
          have F9 := Lib.hid f9
          have H4 := Lib.hid (show g4 = w4.heap.size from hz4.symm)
          clear f9 hz hz4 hz1 hz2 hz3 hz5 hlt0
          have p0 := pcells_row (s9) 0 _ rfl
          have p1 := pcells_row (s9) 1 _ rfl
          have p2 := pcells_row (s9) 2 _ rfl
          have p3 := pcells_row (s9) 3 _ rfl
          have p4 := pcells_row (s9) 4 _ rfl
          have p5 := pcells_row (s9) 5 _ rfl
          have p6 := pcells_row (s9) 6 _ rfl
          have p7 := pcells_row (s9) 7 _ rfl
          have r0 := pcells_row (q9) 0 _ rfl
          have r1 := pcells_row (q9) 1 _ rfl
          have r2 := pcells_row (q9) 2 _ rfl
          have r3 := pcells_row (q9) 3 _ rfl
          have r4 := pcells_row (q9) 4 _ rfl
          have r5 := pcells_row (q9) 5 _ rfl
          have r6 := pcells_row (q9) 6 _ rfl
          have r7 := pcells_row (q9) 7 _ rfl
          have o0 := pcells_row (o9) 0 _ rfl
          have o1 := pcells_row (o9) 1 _ rfl
          clear s9 q9 o9
          rw [← hw9]
          clear hw9
          go_wp2_with fail
          simp only [Act.put]
          go_cut [132] from 99 to 132 (fun u wx => u = .bool false ∧ Fr (fun _ => False) w9 wx)
          case first =>
            rcases HCase.out with hx | ⟨hx, h0, hst, he⟩ | ⟨h0, hst, he⟩
            · by_cases hneg : x < 0
              · have h1 : (x == 0) = false := by simp; omega
                have h2 : decide (0 < x) = false := by simp; omega
                clear hx
                go_quiet (fail)
                go_wp2
                go_meet
                exact ⟨rfl, (Fr.refl _ _).pdrewN _⟩
              · have h1 : (x == 0) = false := by simp; omega
                have h2 : decide (0 < x) = true := by simp; omega
                have h3 : decide (x ≤ 65535) = false := by simp; omega
                clear hx
                go_quiet (fail)
                go_wp2
                go_meet
                exact ⟨rfl, (Fr.refl _ _).pdrewN _⟩
            · have h1 : (x == 0) = false := by simpa using h0
              have h2 : decide (0 < x) = true := by simp; omega
              have h3 : decide (x ≤ 65535) = true := by simp; omega
              have hr2 : r' 2 = wrap64 ((s 3).tdiv x) := by
                unfold stC at hst
                simp at hst
                exact hst.2.2.1
              obtain ⟨c0, hc1, hc0⟩ : ∃ c0, (r' 2 != wrap64 ((s 3).tdiv x)) = c0 ∧ c0 = false := ⟨_, rfl, by rw [hr2]; simp⟩
              have he' : ((v'.e : Int) != 0) = false := by rw [he]; rfl
              clear hx hst he hr2
              go_quiet (fail)
              go_wp2
              go_meet
              exact ⟨rfl, (Fr.refl _ _).pdrewN _⟩
            · obtain ⟨b0, hb1, hb0⟩ : ∃ b0, (x == 0) = b0 ∧ b0 = true := ⟨_, rfl, by simpa using h0⟩
              have h2 : decide (0 < x) = false := by simp; omega
              have hq : stEq r' s = true := stEq_of hst
              have he' : ((v'.e : Int) != 14) = false := by rw [he]; rfl
              clear hst he h0
              go_quiet (fail)
              go_wp2
              go_meet
              exact ⟨rfl, (Fr.refl _ _).pdrewN _⟩
          case rest =>
            obtain ⟨rfl, hfx⟩ := hcut
            have HFX := Lib.hid hfx
            clear hfx p0 p1 p2 p3 p4 p5 p6 p7 r0 r1 r2 r3 r4 r5 r6 r7 o0 o1
            go_wp2
            go_roundg (3 - (j + 1))
            case measure => omega
            case rel =>
              refine ⟨j + 1, by omega, rfl, by go_num, Lib.hid ?_⟩
              have hlt4 : w2.heap.size ≤ g4 := by have := F3.out.1.size; have := F4.out.size; have := G4.out; omega
              exact (Fr.new (F3.out.1.trans (F37.out.trans F8.out.1 (fun _ _ h => h)) (fun _ _ h => h)) (fun k hk => by omega) F9.out).trans HFX.out (fun _ _ h => h)
    · obtain rfl : j = 3 := by omega
      go_wp2
      go_ret
      exact ⟨rfl, (F1.out.1.trans F2.out.1 (fun _ _ h => h)).trans HI.out (fun _ _ h => h)⟩

end Go.Proofs.Ytedadjlmmnikaaa

/-
  PlayRaises: whatever is handed in.
-/
namespace Go.Proofs.Ytedadjlmmnikaaa
open Go.RowKit

theorem raises_all {W : World} (s : Nat → Int) (vs : Value) (hs : StShows W s vs) (n : Int) (hn0 : -9223372036854775808 ≤ n) (hn1 : n ≤ 9223372036854775807) (k : Int) (hk0 : 0 ≤ k) (hk1 : k ≤ 255) (m : Int) (hm0 : 0 ≤ m) (hm1 : m ≤ 255) :
    Calls Try.prog 8 #[vs, .int .i64 n, .int .u8 k, .int .u8 m] W fun e w' => e = .returned (.bool true) ∧ Fr (fun _ => False) W w' := by
  obtain ⟨rfl, hin⟩ := hs
  have := raises_walk s n k.toNat m.toNat W hin ⟨hn0, hn1⟩ (by omega) (by omega)
  rwa [Int.toNat_of_nonneg hk0, Int.toNat_of_nonneg hm0] at this

end Go.Proofs.Ytedadjlmmnikaaa
