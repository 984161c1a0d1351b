/-
  LetAny, part 6 of what it rests on: VotEntry2, VotSmall, VotArg, Two, CallWant, VotMath, VotPut.
-/
import Derived.Test.YtjnbpgadgdjobaaS05
import Derived.Test.YtjnbpgadgdjobaaS03
import Derived.Deep.LoopGhost
set_option linter.unusedVariables false
set_option linter.unusedSimpArgs false
set_option maxHeartbeats 64000000
namespace Go.Proofs.Ytjnbpgadgdjobaa
open Go.RowKit
open Go.Lib (hid)
section
set_option maxRecDepth 100000

/-- The first error of an entry. -/
def En.chk (x : En) : Int :=
  if 3 ≤ x.k then 5
  else if (x.k ≠ 1 ∧ ¬ (x.t = 0 ∧ x.n = 0 ∧ x.p = 0 ∧ x.l = [])) ∨ (x.k ≠ 2 ∧ x.m ≠ []) then 4
  else if x.k = 1 then cchk x.p x.l.length
  else if x.k = 2 then chkM x.m else 0

theorem vcheck_any (x : En) (v u : Value) (w : World) (h1 : ES w x v u) (hs : x.m.length ≤ 1000) (hk0 : 0 ≤ x.k) (hk1 : x.k ≤ 255) :
    Calls Try.prog 31 #[x.val v u] w fun e w' => e = .returned (.int .i64 x.chk) ∧ Fr (fun _ => False) w w' := by
  obtain ⟨h1, g1⟩ := h1
  obtain ⟨b, d, hu', k1⟩ := g1.shape
  obtain ⟨a, c, hv, hnn⟩ := h1.shape
  subst hu' hv
  have H1 := Lib.hid h1
  have G1 := Lib.hid k1
  have HS := Lib.hid hs
  clear h1 g1 hnn k1 hs
  have q0 := heap_alloc_new w (x.obj (.slice a x.l.length c) (.slice b x.m.length d))
  have F := Lib.hid (show Fr (fun _ => False) w (w.alloc (x.obj (.slice a x.l.length c) (.slice b x.m.length d))) from (Fr.refl _ _).alloc _)
  have Q := Lib.hid q0
  clear q0
  obtain ⟨R, hR⟩ : ∃ R, R = x.chk := ⟨_, rfl⟩
  have HR := Lib.hid hR
  rw [← hR]
  clear hR
  go_enter Try.func31, Try.ntmps31
  go_upto_region 1 with fail
  generalize w.alloc (x.obj (.slice a x.l.length c) (.slice b x.m.length d)) = w0 at *
  obtain ⟨c00, c01, c02, c03, c04, c05⟩ := en_cells Q.out
  obtain ⟨k, hk⟩ : ∃ k, k = x.k := ⟨_, rfl⟩
  rw [← hk] at c00 hk0 hk1
  have HK := Lib.hid hk
  have HK2 := Lib.hid hk
  have hcase : 3 ≤ k ∨ k = 1 ∨ k = 2 ∨ k = 0 := by omega
  clear hk
  have hz : Sees w0 nilS [] := .inl ⟨rfl, _, _, rfl⟩
  rcases hcase with h | h | h | h
  · have hR : R = 5 := by rw [HR.out]; unfold En.chk; rw [if_pos (by rw [← HK.out]; exact h)]
    clear HR
    go_wp2_with fail
    go_ret
    rw [hR]
    exact ⟨rfl, F.out⟩
  · subst h
    have hR : R = if x.m = [] then cchk x.p x.l.length else 4 := by
      rw [HR.out]; unfold En.chk
      rw [← HK.out]
      by_cases hm : x.m = [] <;> simp [hm]
    clear HR HK
    by_cases hm : x.m = []
    · rw [if_pos hm] at hR
      have hl0 : x.m.length = 0 := by simp [hm]
      have HRR := Lib.hid hR
      clear hR hm
      go_wp2_with fail
      refine (ccheck_any x.t x.n x.p a x.l.length c w0).mono ?_
      rintro e w1 ⟨rfl, f1⟩
      have F1 := Lib.hid (F.out.trans f1 (fun _ _ h => h))
      clear f1
      go_wp2_with fail
      go_ret
      rw [HRR.out]
      exact ⟨rfl, F1.out⟩
    · rw [if_neg hm] at hR
      have hl0 : 0 < x.m.length := List.length_pos_iff.2 hm
      have HRR := Lib.hid hR
      clear hR hm
      go_wp2_with fail
      go_ret
      rw [HRR.out]
      exact ⟨rfl, F.out⟩
  · subst h
    have hR : R = if x.t = 0 ∧ x.n = 0 ∧ x.p = 0 ∧ x.l = [] then chkM x.m else 4 := by
      rw [HR.out]; unfold En.chk
      rw [← HK.out]
      by_cases hm : x.t = 0 ∧ x.n = 0 ∧ x.p = 0 ∧ x.l = [] <;> simp [hm]
    clear HR HK
    go_wp2_with fail
    refine (csame_any x.t x.n x.p 0 0 0 (.slice a x.l.length c) nilS x.l [] w0 (H1.out.fr F.out (fun _ _ h => h)) hz).mono ?_
    rintro e w1 ⟨rfl, f1⟩
    have F1 := Lib.hid (F.out.trans f1 (fun _ _ h => h))
    have Q1 := Lib.hid (crow_kept Q.out f1 (fun h => h))
    clear f1 c00 c01 c02 c03 c04 c05
    obtain ⟨c00, c01, c02, c03, c04, c05⟩ := en_cells Q1.out
    rw [← HK2.out] at c00
    by_cases hm : x.t = 0 ∧ x.n = 0 ∧ x.p = 0 ∧ x.l = []
    · rw [if_pos hm] at hR
      have HRR := Lib.hid hR
      rw [decide_eq_true hm]
      clear hR hm
      go_wp2_with fail
      refine (tmembers_any x.m b d w1 (G1.out.fr F1.out) HS.out).mono ?_
      rintro e w2 ⟨rfl, rfl⟩
      go_wp2_with fail
      go_ret
      rw [HRR.out]
      exact ⟨rfl, F1.out⟩
    · rw [if_neg hm] at hR
      have HRR := Lib.hid hR
      rw [decide_eq_false hm]
      clear hR hm
      go_wp2_with fail
      go_ret
      rw [HRR.out]
      exact ⟨rfl, F1.out⟩
  · subst h
    have hR : R = if (x.t = 0 ∧ x.n = 0 ∧ x.p = 0 ∧ x.l = []) ∧ x.m = [] then 0 else 4 := by
      rw [HR.out]; unfold En.chk
      rw [← HK.out]
      by_cases hm : x.t = 0 ∧ x.n = 0 ∧ x.p = 0 ∧ x.l = [] <;> by_cases hm' : x.m = [] <;> simp [hm, hm']
    clear HR HK
    go_wp2_with fail
    refine (csame_any x.t x.n x.p 0 0 0 (.slice a x.l.length c) nilS x.l [] w0 (H1.out.fr F.out (fun _ _ h => h)) hz).mono ?_
    rintro e w1 ⟨rfl, f1⟩
    have F1 := Lib.hid (F.out.trans f1 (fun _ _ h => h))
    have Q1 := Lib.hid (crow_kept Q.out f1 (fun h => h))
    clear f1 c00 c01 c02 c03 c04 c05
    obtain ⟨c00, c01, c02, c03, c04, c05⟩ := en_cells Q1.out
    rw [← HK2.out] at c00
    by_cases hm : x.t = 0 ∧ x.n = 0 ∧ x.p = 0 ∧ x.l = []
    · rw [decide_eq_true hm]
      by_cases hm' : x.m = []
      · rw [if_pos ⟨hm, hm'⟩] at hR
        have hl0 : x.m.length = 0 := by simp [hm']
        have HRR := Lib.hid hR
        clear hR hm hm'
        go_wp2_with fail
        go_ret
        rw [HRR.out]
        exact ⟨rfl, F1.out⟩
      · rw [if_neg (fun h => hm' h.2)] at hR
        have hl0 : 0 < x.m.length := List.length_pos_iff.2 hm'
        have HRR := Lib.hid hR
        clear hR hm hm'
        go_wp2_with fail
        go_ret
        rw [HRR.out]
        exact ⟨rfl, F1.out⟩
    · rw [if_neg (fun h => hm h.1)] at hR
      have HRR := Lib.hid hR
      rw [decide_eq_false hm]
      clear hR hm
      go_wp2_with fail
      go_ret
      rw [HRR.out]
      exact ⟨rfl, F1.out⟩
end
section
set_option maxRecDepth 100000

theorem cst6 {w : World} {b : Nat} {x0 x1 x2 x3 x4 x5 y0 y1 y2 y3 y4 y5 : Value} {t : TypeId} (h : w.heap[b]? = some (.cells #[x0, x1, x2, x3, x4, x5] t (0, 0))) :
    ((((((w.setCell ⟨b, 0, none⟩ y0).setCell ⟨b, 1, none⟩ y1).setCell ⟨b, 2, none⟩ y2).setCell ⟨b, 3, none⟩ y3).setCell ⟨b, 4, none⟩ y4).setCell ⟨b, 5, none⟩ y5).heap[b]? = some (.cells #[y0, y1, y2, y3, y4, y5] t (0, 0)) := by
  have h0 : (w.setCell ⟨b, 0, none⟩ y0).heap[b]? = some (.cells #[y0, x1, x2, x3, x4, x5] t (0, 0)) := by rw [heap_setCell_same w b 0 _ t y0 h]; rfl
  have h1 : ((w.setCell ⟨b, 0, none⟩ y0).setCell ⟨b, 1, none⟩ y1).heap[b]? = some (.cells #[y0, y1, x2, x3, x4, x5] t (0, 0)) := by rw [heap_setCell_same _ b 1 _ t y1 h0]; rfl
  have h2 : (((w.setCell ⟨b, 0, none⟩ y0).setCell ⟨b, 1, none⟩ y1).setCell ⟨b, 2, none⟩ y2).heap[b]? = some (.cells #[y0, y1, y2, x3, x4, x5] t (0, 0)) := by rw [heap_setCell_same _ b 2 _ t y2 h1]; rfl
  have h3 : ((((w.setCell ⟨b, 0, none⟩ y0).setCell ⟨b, 1, none⟩ y1).setCell ⟨b, 2, none⟩ y2).setCell ⟨b, 3, none⟩ y3).heap[b]? = some (.cells #[y0, y1, y2, y3, x4, x5] t (0, 0)) := by rw [heap_setCell_same _ b 3 _ t y3 h2]; rfl
  have h4 : (((((w.setCell ⟨b, 0, none⟩ y0).setCell ⟨b, 1, none⟩ y1).setCell ⟨b, 2, none⟩ y2).setCell ⟨b, 3, none⟩ y3).setCell ⟨b, 4, none⟩ y4).heap[b]? = some (.cells #[y0, y1, y2, y3, y4, x5] t (0, 0)) := by rw [heap_setCell_same _ b 4 _ t y4 h3]; rfl
  rw [heap_setCell_same _ b 5 _ t y5 h4]; rfl
theorem cfr6 {w : World} {b : Nat} (y0 y1 y2 y3 y4 y5 : Value) {S : Nat → Prop} {w0 : World} (f : Fr S w0 w) (hb : b < w0.heap.size → S b) :
    Fr S w0 ((((((w.setCell ⟨b, 0, none⟩ y0).setCell ⟨b, 1, none⟩ y1).setCell ⟨b, 2, none⟩ y2).setCell ⟨b, 3, none⟩ y3).setCell ⟨b, 4, none⟩ y4).setCell ⟨b, 5, none⟩ y5) :=
  (((((f.setCell (p := ⟨b, 0, none⟩) hb _).setCell (p := ⟨b, 1, none⟩) hb _).setCell (p := ⟨b, 2, none⟩) hb _).setCell (p := ⟨b, 3, none⟩) hb _).setCell (p := ⟨b, 4, none⟩) hb _).setCell (p := ⟨b, 5, none⟩) hb _

theorem SI.keep {S : Nat → Prop} {w w' : World} {v : Value} {l : List Int} (h : SI w v l) (hf : Fr S w w') (hS : l = [] ∨ ∀ k, v.ownBlock = some k → ¬ S k) : SI w' v l := by
  obtain ⟨a, c, rfl, hc⟩ := h.shape
  by_cases h0 : 0 < l.length
  · obtain ⟨h1, g, off, rfl, h3⟩ := hc h0
    have hg : ¬ S g := by
      rcases hS with e | e
      · subst e; simp at h0
      · exact e g rfl
    refine SIc.sees (fun _ => ⟨h1, g, off, rfl, fun j hj => ?_⟩)
    rw [← h3 j hj]
    exact hf.cell (World.block_lt_of_cell? w _ (h3 j hj)) hg
  · exact SIc.sees (fun h => absurd h h0)

theorem Sees.keep {S : Nat → Prop} {w w' : World} {v : Value} {l : List UInt8} (h : Sees w v l) (hf : Fr S w w') (hS : l = [] ∨ ∀ k, v.ownBlock = some k → ¬ S k) : Sees w' v l := by
  rcases hS with e | e
  · exact h.none e
  · exact h.fr hf e

/-- The slices of x are not in block b. -/
def Away (b : Nat) (x : En) (v u : Value) : Prop := (x.l = [] ∨ v.ownBlock ≠ some b) ∧ (x.m = [] ∨ u.ownBlock ≠ some b)

theorem ES.keep {b : Nat} {w w' : World} {x : En} {v u : Value} (h : ES w x v u) (ha : Away b x v u) (hf : Fr (fun k => k = b) w w') : ES w' x v u :=
  ⟨h.1.keep hf (ha.1.imp id (fun h k hk e => h (by rw [hk, e]))), h.2.keep hf (ha.2.imp id (fun h k hk e => h (by rw [hk, e])))⟩

theorem vfree {w : World} {g : Nat} {cs : Array Value} {t : TypeId} (h : w.heap[g]? = some (.cells cs t (0, 0))) (i : Nat) : w.frozen? ⟨g, i, none⟩ = false := by
  simp [World.frozen?, h]

theorem vfree6 {w : World} {g : Nat} {cs : Array Value} {t : TypeId} (h : w.heap[g]? = some (.cells cs t (0, 0))) :
    w.frozen? ⟨g, 0, none⟩ = false ∧ w.frozen? ⟨g, 1, none⟩ = false ∧ w.frozen? ⟨g, 2, none⟩ = false ∧ w.frozen? ⟨g, 3, none⟩ = false ∧ w.frozen? ⟨g, 4, none⟩ = false ∧ w.frozen? ⟨g, 5, none⟩ = false :=
  ⟨vfree h 0, vfree h 1, vfree h 2, vfree h 3, vfree h 4, vfree h 5⟩

theorem SI.nil (w : World) : SI w nilS [] := .inl ⟨rfl, _, _, rfl⟩

/-- An entry by small numbers. -/
structure Sm where
  kind : Int
  c : Sc
  mb : Nat

def Sm.en (s : Sm) : En := if s.kind % 3 = 1 then ⟨1, s.c.t, s.c.n, s.c.p, s.c.l, []⟩ else if s.kind % 3 = 2 then ⟨2, 0, 0, 0, [], bitsL s.mb⟩ else En.zero
abbrev smV (s : Sm) (v : Value) : Value := .agg #[.int .u8 s.kind, .int .u16 s.c.t, .int .u16 s.c.n, .int .u16 s.c.p, v, .int .u16 s.mb]
structure Sm.ok (s : Sm) : Prop where
  k0 : 0 ≤ s.kind
  k1 : s.kind ≤ 255
  t0 : 0 ≤ s.c.t
  t1 : s.c.t ≤ 65535
  n0 : 0 ≤ s.c.n
  n1 : s.c.n ≤ 65535
  p0 : 0 ≤ s.c.p
  p1 : s.c.p ≤ 65535
  m1 : s.mb < 65536

theorem sm_cells {w : World} {g : Nat} {k t n p mb : Int} {v : Value} {T : TypeId} (h : w.heap[g]? = some (Obj.cells #[.int .u8 k, .int .u16 t, .int .u16 n, .int .u16 p, v, .int .u16 mb] T (0, 0))) :
    w.cell? ⟨g, 0, none⟩ = some (.int .u8 k) ∧ w.cell? ⟨g, 1, none⟩ = some (.int .u16 t) ∧ w.cell? ⟨g, 2, none⟩ = some (.int .u16 n) ∧ w.cell? ⟨g, 3, none⟩ = some (.int .u16 p) ∧ w.cell? ⟨g, 4, none⟩ = some v ∧ w.cell? ⟨g, 5, none⟩ = some (.int .u16 mb) := by
  simp [World.cell?, h]

/-- What comes of Small's Entry. -/
def SmOut (s : Sm) (v : Value) (w w' : World) (y : Value) : Prop :=
  ∃ v' u', y = s.en.val v' u' ∧ ES w' s.en v' u' ∧ Fr (fun _ => False) w w' ∧ (v' = v ∨ v' = nilS) ∧ (∀ k, u'.ownBlock = some k → w.heap.size ≤ k)

theorem sentry_any (s : Sm) (v : Value) (w : World) (hk : s.ok) (hs : Sees w v s.c.l) :
    Calls Try.prog 20 #[smV s v] w fun e w' => ∃ y, e = .returned y ∧ SmOut s v w w' y := by
  obtain ⟨a, c, hv, hnn⟩ := hs.shape
  subst hv
  obtain ⟨k0, k1, t0, t1, n0, n1, p0, p1, m1⟩ := hk
  have HS := Lib.hid hs
  clear hs hnn
  have q0 := heap_alloc_new w (Obj.cells #[.int .u8 s.kind, .int .u16 s.c.t, .int .u16 s.c.n, .int .u16 s.c.p, .slice a s.c.l.length c, .int .u16 s.mb] 28 (0, 0))
  have f0 : Fr (fun _ => False) w (w.alloc (Obj.cells #[.int .u8 s.kind, .int .u16 s.c.t, .int .u16 s.c.n, .int .u16 s.c.p, .slice a s.c.l.length c, .int .u16 s.mb] 28 (0, 0))) := (Fr.refl _ _).alloc _
  have hz : (w.alloc (Obj.cells #[.int .u8 s.kind, .int .u16 s.c.t, .int .u16 s.c.n, .int .u16 s.c.p, .slice a s.c.l.length c, .int .u16 s.mb] 28 (0, 0))).heap.size = w.heap.size + 1 := by simp
  have q1 := heap_alloc_new (w.alloc (Obj.cells #[.int .u8 s.kind, .int .u16 s.c.t, .int .u16 s.c.n, .int .u16 s.c.p, .slice a s.c.l.length c, .int .u16 s.mb] 28 (0, 0))) (oEn 0 0 0 0 nilS nilS)
  have f1 : Fr (fun _ => False) (w.alloc (Obj.cells #[.int .u8 s.kind, .int .u16 s.c.t, .int .u16 s.c.n, .int .u16 s.c.p, .slice a s.c.l.length c, .int .u16 s.mb] 28 (0, 0))) ((w.alloc (Obj.cells #[.int .u8 s.kind, .int .u16 s.c.t, .int .u16 s.c.n, .int .u16 s.c.p, .slice a s.c.l.length c, .int .u16 s.mb] 28 (0, 0))).alloc (oEn 0 0 0 0 nilS nilS)) := (Fr.refl _ _).alloc _
  rw [hz] at q1
  have Q := Lib.hid (And.intro (crow_kept q0 f1 (fun h => h)) q1)
  have F := Lib.hid (f0.trans f1 (fun _ _ h => h))
  clear q0 q1 f0 f1 hz
  obtain ⟨X, hX⟩ : ∃ X, X = s.en := ⟨_, rfl⟩
  have HX := Lib.hid hX
  unfold SmOut
  rw [← hX]
  clear hX
  obtain ⟨r, hr⟩ : ∃ r, r = s.kind % 3 := ⟨_, rfl⟩
  have hwrap : IntKind.u8.wrap (s.kind % 3) = s.kind % 3 := by rw [IntKind.wrap_u8]; omega
  have hcase : r = 1 ∨ r = 2 ∨ r = 0 := by omega
  have hXr : X = if r = 1 then ⟨1, s.c.t, s.c.n, s.c.p, s.c.l, []⟩ else if r = 2 then ⟨2, 0, 0, 0, [], bitsL s.mb⟩ else En.zero := by rw [HX.out, hr]; rfl
  have HR := Lib.hid hXr
  clear hXr HX
  go_enter Try.func20, Try.ntmps20
  go_upto_region 1 with fail
  generalize (w.alloc (Obj.cells #[.int .u8 s.kind, .int .u16 s.c.t, .int .u16 s.c.n, .int .u16 s.c.p, .slice a s.c.l.length c, .int .u16 s.mb] 28 (0, 0))).alloc (oEn 0 0 0 0 nilS nilS) = w0 at *
  obtain ⟨c00, c01, c02, c03, c04, c05⟩ := sm_cells Q.out.1
  go_upto_region 2 with fail
  have hr2 : s.kind % 3 = r := hr.symm
  try rw [hr2]
  clear hr hr2 hwrap
  rcases hcase with h | h | h
  · subst h
    have hX : X = ⟨1, s.c.t, s.c.n, s.c.p, s.c.l, []⟩ := HR.out
    subst hX
    clear HR
    go_wp2_with fail
    refine (small_any s.c.t s.c.n s.c.p a s.c.l.length c w0 p0 p1).mono ?_
    rintro e w1 ⟨rfl, f1⟩
    unfold cv
    have Q1 := Lib.hid (crow_kept Q.out.2 f1 (fun h => h))
    have F1 := Lib.hid (F.out.trans f1 (fun _ _ h => h))
    clear f1
    obtain ⟨d00, d01, d02, d03, d04, d05⟩ := en_cells Q1.out
    obtain ⟨z00, z01, z02, z03, z04, z05⟩ := vfree6 Q1.out
    go_wp2_with fail
    have hq := cst6 (y0 := .int .u8 1) (y1 := .int .u16 s.c.t) (y2 := .int .u16 s.c.n) (y3 := .int .i64 s.c.p) (y4 := .slice a s.c.l.length c) (y5 := nilS) Q1.out
    have hf := cfr6 (.int .u8 1) (.int .u16 s.c.t) (.int .u16 s.c.n) (.int .i64 s.c.p) (.slice a s.c.l.length c) nilS (b := w.heap.size + 1) F1.out (fun h => absurd h (by omega))
    refine bodyPost_ret (results_cell_row rfl _ _ (w.heap.size + 1) 44 _ _ _ rfl hq Try.underlying44 rfl (by kernel_rfl)) rfl ?_
    exact ⟨_, rfl, _, _, rfl, ⟨HS.out.fr hf (fun _ _ h => h), SI.nil _⟩, hf, .inl rfl, fun k hk => by cases hk⟩
  · subst h
    have hX : X = ⟨2, 0, 0, 0, [], bitsL s.mb⟩ := HR.out
    subst hX
    clear HR
    go_wp2_with fail
    refine (lmembers_any s.mb m1 w0).mono ?_
    rintro e w1 ⟨u, rfl, ho, f1⟩
    have Q1 := Lib.hid (crow_kept Q.out.2 f1 (fun h => h))
    have F1 := Lib.hid (F.out.trans f1 (fun _ _ h => h))
    have HO := Lib.hid ho
    have hsz := F.out.size
    clear f1 ho
    obtain ⟨a1, c1, hu⟩ := slice_of_own HO.out
    subst hu
    obtain ⟨d00, d01, d02, d03, d04, d05⟩ := en_cells Q1.out
    obtain ⟨z00, z01, z02, z03, z04, z05⟩ := vfree6 Q1.out
    go_wp2_with fail
    have hq := cst6 (y0 := .int .u8 2) (y1 := .int .u16 0) (y2 := .int .u16 0) (y3 := .int .i64 0) (y4 := nilS) (y5 := .slice a1 (bitsL s.mb).length c1) Q1.out
    have hf := cfr6 (.int .u8 2) (.int .u16 0) (.int .u16 0) (.int .i64 0) nilS (.slice a1 (bitsL s.mb).length c1) (b := w.heap.size + 1) F1.out (fun h => absurd h (by omega))
    have hf1 := cfr6 (.int .u8 2) (.int .u16 0) (.int .u16 0) (.int .i64 0) nilS (.slice a1 (bitsL s.mb).length c1) (b := w.heap.size + 1) (S := fun k => k = w.heap.size + 1) (Fr.refl _ w1) (fun _ => rfl)
    refine bodyPost_ret (results_cell_row rfl _ _ (w.heap.size + 1) 44 _ _ _ rfl hq Try.underlying44 rfl (by kernel_rfl)) rfl ?_
    have hge := oi_le HO.out
    have hlt : w.heap.size + 1 < w0.heap.size := (Array.getElem?_eq_some_iff.1 Q.out.2).1
    exact ⟨_, rfl, _, _, rfl, ⟨.inl ⟨rfl, _, _, rfl⟩, HO.out.si.keep hf1 (.inr fun k hk e => by have := hge k hk; omega)⟩, hf, .inr rfl, fun k hk => by have := hge k hk; omega⟩
  · subst h
    have hX : X = En.zero := HR.out
    subst hX
    clear HR
    obtain ⟨d00, d01, d02, d03, d04, d05⟩ := en_cells Q.out.2
    obtain ⟨z00, z01, z02, z03, z04, z05⟩ := vfree6 Q.out.2
    go_wp2_with fail
    have hq := cst6 (y0 := .int .u8 0) (y1 := .int .u16 0) (y2 := .int .u16 0) (y3 := .int .i64 0) (y4 := nilS) (y5 := nilS) Q.out.2
    have hf := cfr6 (.int .u8 0) (.int .u16 0) (.int .u16 0) (.int .i64 0) nilS nilS (b := w.heap.size + 1) F.out (fun h => absurd h (by omega))
    refine bodyPost_ret (results_cell_row rfl _ _ (w.heap.size + 1) 44 _ _ _ rfl hq Try.underlying44 rfl (by kernel_rfl)) rfl ?_
    exact ⟨_, rfl, _, _, rfl, es_zero _, hf, .inr rfl, fun k hk => by cases hk⟩
end
section
open Go.ChangeShapes Go.WideShapes Go.ChangeAt Go.RowKit
set_option maxRecDepth 100000

structure BaN where
  r : Int
  n : Int
def BaV (_ : World) (x : BaN) (v : Value) : Prop := v = ball x.r x.n

abbrev Sm.sl (s : Sm) (a : Option Addr) (c : Nat) : Value := .slice a s.c.l.length c
def SmV (w : World) (s : Sm) (v : Value) : Prop := ∃ a c, v = smV s (s.sl a c) ∧ SeesO w (s.sl a c) s.c.l ∧ s.ok

theorem cellsOf_Ba : Try.prog.cellsOf 36 = 2 := by kernel_rfl
theorem cellsOf_int : Try.prog.cellsOf 3 = 1 := by kernel_rfl
theorem cellsOf_Sm : Try.prog.cellsOf 28 = 6 := by kernel_rfl

section
variable {H : Type} (enc : TypeId × Value → H) (w : World)

theorem ba_any {v : Value} {d : DataW H} {p : List MemPlace} {base : Nat} (hval : Value.okWide Try.prog w .any base 36 v)
    (h : DataW.Trod enc Try.prog w 0 (fun _ => true) true 36 v d p) : ∃ x, BaV w x v := by
  obtain ⟨cs, rfl, _⟩ := okWide_struct Try.underlying36 hval
  obtain ⟨fuel, hf⟩ := h
  obtain ⟨xs, n, rfl, _, hl, hlen, hf⟩ := DataW.trod_struct Try.underlying36 hf
  rw [cellsOf_Ba] at hl
  have hcs : (Value.agg cs).cells.toList = cs.toList := rfl
  rw [hcs] at hl hf
  obtain ⟨cs⟩ := cs
  match cs, hl with
  | [c0, c1], _ =>
  have f0 : DataW.trod enc Try.prog w 0 (fun _ => true) true n 3 (List.take (Try.prog.cellsOf 3) (List.drop 0 [c0, c1])) = xs[0]? := hf 0 _ rfl
  have f1 : DataW.trod enc Try.prog w 0 (fun _ => true) true n 3 (List.take (Try.prog.cellsOf 3) (List.drop 1 [c0, c1])) = xs[1]? := hf 1 _ rfl
  have hl5 : xs.length = 2 := hlen
  rw [List.getElem?_eq_getElem (by omega)] at f0 f1
  simp only [cellsOf_int, List.drop_zero, List.drop_succ_cons, List.take_succ_cons, List.take_zero] at f0 f1
  obtain ⟨k0, h0, e0⟩ := int_reads enc w Try.underlying3 f0
  obtain ⟨k1, h1, e1⟩ := int_reads enc w Try.underlying3 f1
  simp at e0 e1
  subst e0 e1
  exact ⟨⟨k0, k1⟩, rfl⟩

theorem sc_reads {fuel : Nat} {cs : List Value} {x : DataW H × List MemPlace} (h : DataW.trod enc Try.prog w 0 (fun _ => true) true fuel 26 cs = some x) :
    ∃ (s : Sc) (a : Option Addr) (c : Nat), cs = [.int .u16 s.t, .int .u16 s.n, .int .u16 s.p, .slice a s.l.length c] ∧ SeesO w (.slice a s.l.length c) s.l ∧ 0 ≤ s.t ∧ s.t ≤ 65535 ∧ 0 ≤ s.n ∧ s.n ≤ 65535 ∧ 0 ≤ s.p ∧ s.p ≤ 65535 := by
  obtain ⟨xs, n, rfl, _, hl, hlen, hf⟩ := DataW.trod_struct Try.underlying26 h
  rw [cellsOf_Sc] at hl
  match cs, hl with
  | [c0, c1, c2, c3], _ =>
  have f0 : DataW.trod enc Try.prog w 0 (fun _ => true) true n 23 (List.take (Try.prog.cellsOf 23) (List.drop 0 [c0, c1, c2, c3])) = xs[0]? := hf 0 _ rfl
  have f1 : DataW.trod enc Try.prog w 0 (fun _ => true) true n 23 (List.take (Try.prog.cellsOf 23) (List.drop 1 [c0, c1, c2, c3])) = xs[1]? := hf 1 _ rfl
  have f2 : DataW.trod enc Try.prog w 0 (fun _ => true) true n 23 (List.take (Try.prog.cellsOf 23) (List.drop 2 [c0, c1, c2, c3])) = xs[2]? := hf 2 _ rfl
  have f3 : DataW.trod enc Try.prog w 0 (fun _ => true) true n 24 (List.take (Try.prog.cellsOf 24) (List.drop 3 [c0, c1, c2, c3])) = xs[3]? := hf 3 _ rfl
  have hl5 : xs.length = 4 := hlen
  rw [List.getElem?_eq_getElem (by omega)] at f0 f1 f2 f3
  simp only [cellsOf_u16, cellsOf_u8s, List.drop_zero, List.drop_succ_cons, List.take_succ_cons, List.take_zero] at f0 f1 f2 f3
  obtain ⟨k0, h0, e0⟩ := int_reads enc w Try.underlying23 f0
  obtain ⟨k1, h1, e1⟩ := int_reads enc w Try.underlying23 f1
  obtain ⟨k2, h2, e2⟩ := int_reads enc w Try.underlying23 f2
  obtain ⟨l, a, c, e3, hs⟩ := u8s_reads enc w f3
  simp at e0 e1 e2 e3
  subst e0 e1 e2 e3
  have b0 := bounds_u16 h0
  have b1 := bounds_u16 h1
  have b2 := bounds_u16 h2
  exact ⟨⟨k0, k1, k2, l⟩, a, c, rfl, hs, b0.1, b0.2, b1.1, b1.2, b2.1, b2.2⟩

theorem sm_reads {fuel : Nat} {cs : List Value} {x : DataW H × List MemPlace} (h : DataW.trod enc Try.prog w 0 (fun _ => true) true fuel 28 cs = some x) :
    ∃ (s : Sm) (a : Option Addr) (c : Nat), cs = [.int .u8 s.kind, .int .u16 s.c.t, .int .u16 s.c.n, .int .u16 s.c.p, s.sl a c, .int .u16 s.mb] ∧ SeesO w (s.sl a c) s.c.l ∧ s.ok := by
  obtain ⟨xs, n, rfl, _, hl, hlen, hf⟩ := DataW.trod_struct Try.underlying28 h
  rw [cellsOf_Sm] at hl
  match cs, hl with
  | [c0, c1, c2, c3, c4, c5], _ =>
  have f0 : DataW.trod enc Try.prog w 0 (fun _ => true) true n 5 (List.take (Try.prog.cellsOf 5) (List.drop 0 [c0, c1, c2, c3, c4, c5])) = xs[0]? := hf 0 _ rfl
  have f1 : DataW.trod enc Try.prog w 0 (fun _ => true) true n 26 (List.take (Try.prog.cellsOf 26) (List.drop 1 [c0, c1, c2, c3, c4, c5])) = xs[1]? := hf 1 _ rfl
  have f2 : DataW.trod enc Try.prog w 0 (fun _ => true) true n 23 (List.take (Try.prog.cellsOf 23) (List.drop 5 [c0, c1, c2, c3, c4, c5])) = xs[2]? := hf 2 _ rfl
  have hl5 : xs.length = 3 := hlen
  rw [List.getElem?_eq_getElem (by omega)] at f0 f1 f2
  simp only [cellsOf_u8, cellsOf_Sc, cellsOf_u16, List.drop_zero, List.drop_succ_cons, List.take_succ_cons, List.take_zero] at f0 f1 f2
  obtain ⟨k0, h0, e0⟩ := int_reads enc w Try.underlying5 f0
  obtain ⟨s, a, c, e1, hs, p0, p1, p2, p3, p4, p5⟩ := sc_reads enc w f1
  obtain ⟨k2, h2, e2⟩ := int_reads enc w Try.underlying23 f2
  simp at e0 e1 e2
  obtain ⟨e10, e11, e12, e13⟩ := e1
  subst e0 e10 e11 e12 e13 e2
  have b0 := bounds_u8 h0
  have b2 := bounds_u16 h2
  obtain ⟨k, rfl⟩ : ∃ k : Nat, k2 = k := ⟨k2.toNat, by omega⟩
  exact ⟨⟨k0, s, k⟩, a, c, rfl, hs, ⟨b0.1, b0.2, p0, p1, p2, p3, p4, p5, by have := b2.2; show k < 65536; omega⟩⟩

theorem sm_any {v : Value} {d : DataW H} {p : List MemPlace} {base : Nat} (hval : Value.okWide Try.prog w .any base 28 v)
    (h : DataW.Trod enc Try.prog w 0 (fun _ => true) true 28 v d p) : ∃ x, SmV w x v := by
  obtain ⟨cs, rfl, _⟩ := okWide_struct Try.underlying28 hval
  obtain ⟨fuel, hf⟩ := h
  have hcs : (Value.agg cs).cells.toList = cs.toList := rfl
  rw [hcs] at hf
  obtain ⟨s, a, c, e, hs, hok⟩ := sm_reads enc w hf
  obtain ⟨cs⟩ := cs
  simp at e
  subst e
  exact ⟨s, a, c, rfl, hs, hok⟩

end
end
section
theorem qmode_gc : (Region.Mode.any == Region.Mode.gc) = false := rfl

def qptr (g : Nat) : Value := .pointer (some ⟨g, 0, none⟩)
theorem qptr_inj {g g' : Nat} (h : qptr g = qptr g') : g = g' := by unfold qptr at h; simpa using h
def qupd (st : Nat → Option Value) (i : Nat) (v : Value) : Nat → Option Value := fun j => if j = i then some v else st j
theorem qupd_at (st : Nat → Option Value) (i : Nat) (v : Value) : qupd st i v i = some v := by unfold qupd; rw [if_pos rfl]
theorem qupd_ne (st : Nat → Option Value) (i j : Nat) (v : Value) (h : j ≠ i) : qupd st i v j = st j := by unfold qupd; rw [if_neg h]

/-- Two blocks made since w, of these cells. -/
def Two (w : World) (x y : Value) (cx cy : Array Value) (tx ty : TypeId) (wx : World) : Prop :=
  ∃ g1 g2, x = .pointer (some ⟨g1, 0, none⟩) ∧ y = .pointer (some ⟨g2, 0, none⟩) ∧ g1 ≠ g2 ∧ w.heap.size ≤ g1 ∧ w.heap.size ≤ g2 ∧ Fr (fun _ => False) w wx ∧ wx.heap[g1]? = some (.cells cx tx (0, 0)) ∧ wx.heap[g2]? = some (.cells cy ty (0, 0))

structure PX (tx ty : TypeId) (zx zy cx cy : Array Value) (a1 a2 s1 s2 : Nat) (w : World) (st : Nat → Option Value) (wx : World) : Prop where
  fr : Fr (fun _ => False) w wx
  p1 : ∀ v, st a1 = some v → ∃ g, v = qptr g ∧ w.heap.size ≤ g ∧ wx.heap[g]? = some (.cells (if (st s1).isNone then zx else cx) tx (0, 0))
  p2 : ∀ v, st a2 = some v → ∃ g, v = qptr g ∧ w.heap.size ≤ g ∧ wx.heap[g]? = some (.cells (if (st s2).isNone then zy else cy) ty (0, 0))
  ne : ∀ v, st a1 = some v → st a2 ≠ some v

theorem kept_box {S : Nat → Prop} {w0 w1 : World} {b : Nat} {o : Obj} (h : w0.heap[b]? = some o) (f : Fr S w0 w1) (hb : ¬ S b) : w1.heap[b]? = some o := by
  rw [f.block b (Array.getElem?_eq_some_iff.1 h).1 hb]; exact h

theorem qfree {w : World} {b : Nat} {cs : Array Value} {t : TypeId} (h : w.heap[b]? = some (.cells cs t (0, 0))) (i : Nat) : w.frozen? ⟨b, i, none⟩ = false := by
  simp [World.frozen?, h]
theorem qrow {w : World} {b : Nat} {cs : Array Value} {t : TypeId} (h : w.heap[b]? = some (.cells cs t (0, 0))) (i : Nat) (u : Value) (hu : cs[i]? = some u) : w.cell? ⟨b, i, none⟩ = some u := by
  simp only [World.cell?, h]
  simpa using hu

section
variable {tx ty : TypeId} {zx zy cx cy : Array Value} {a1 a2 s1 s2 : Nat} {w wx wy : World} {st : Nat → Option Value}

theorem PX.start : PX tx ty zx zy cx cy a1 a2 s1 s2 w (fun _ => none) w.drew :=
  ⟨(Fr.refl _ _).drew, fun v h => (by cases h), fun v h => (by cases h), fun v h => (by cases h)⟩

theorem PX.call (h : PX tx ty zx zy cx cy a1 a2 s1 s2 w st wx) (i : Nat) (v : Value) (f : Fr (fun _ => False) wx wy) (h1 : i ≠ a1) (h2 : i ≠ a2) (h3 : i ≠ s1) (h4 : i ≠ s2) : PX tx ty zx zy cx cy a1 a2 s1 s2 w (qupd st i v) wy := by
  refine ⟨h.fr.trans f (fun _ _ h => h), fun u hu => ?_, fun u hu => ?_, fun u hu => ?_⟩
  · rw [qupd_ne _ _ _ _ h1.symm] at hu
    obtain ⟨g, e, hg, hc⟩ := h.p1 u hu
    exact ⟨g, e, hg, by rw [qupd_ne _ _ _ _ h3.symm]; exact kept_box hc f (fun h => h)⟩
  · rw [qupd_ne _ _ _ _ h2.symm] at hu
    obtain ⟨g, e, hg, hc⟩ := h.p2 u hu
    exact ⟨g, e, hg, by rw [qupd_ne _ _ _ _ h4.symm]; exact kept_box hc f (fun h => h)⟩
  · rw [qupd_ne _ _ _ _ h1.symm] at hu
    rw [qupd_ne _ _ _ _ h2.symm]
    exact h.ne u hu

theorem PX.alloc1 (h : PX tx ty zx zy cx cy a1 a2 s1 s2 w st wx) (h0 : st s1 = none) (h2 : a1 ≠ a2) (h3 : a1 ≠ s1) (h4 : a1 ≠ s2) : PX tx ty zx zy cx cy a1 a2 s1 s2 w (qupd st a1 (.pointer (some ⟨wx.heap.size, 0, none⟩))) (wx.alloc (.cells zx tx)) := by
  have f : Fr (fun _ => False) wx (wx.alloc (.cells zx tx)) := (Fr.refl _ _).alloc _
  refine ⟨h.fr.trans f (fun _ _ h => h), fun u hu => ?_, fun u hu => ?_, fun u hu => ?_⟩
  · rw [qupd_at] at hu
    cases hu
    refine ⟨_, rfl, h.fr.size, ?_⟩
    rw [qupd_ne _ _ _ _ h3.symm, h0]
    exact heap_alloc_new wx _
  · rw [qupd_ne _ _ _ _ h2.symm] at hu
    obtain ⟨g, e, hg, hc⟩ := h.p2 u hu
    exact ⟨g, e, hg, by rw [qupd_ne _ _ _ _ h4.symm]; exact kept_box hc f (fun h => h)⟩
  · rw [qupd_at] at hu
    cases hu
    rw [qupd_ne _ _ _ _ h2.symm]
    intro hu
    obtain ⟨g, e, hg, hc⟩ := h.p2 _ hu
    have := qptr_inj e
    have := (Array.getElem?_eq_some_iff.1 hc).1
    omega

theorem PX.alloc2 (h : PX tx ty zx zy cx cy a1 a2 s1 s2 w st wx) (h0 : st s2 = none) (h2 : a1 ≠ a2) (h3 : a2 ≠ s1) (h4 : a2 ≠ s2) : PX tx ty zx zy cx cy a1 a2 s1 s2 w (qupd st a2 (.pointer (some ⟨wx.heap.size, 0, none⟩))) (wx.alloc (.cells zy ty)) := by
  have f : Fr (fun _ => False) wx (wx.alloc (.cells zy ty)) := (Fr.refl _ _).alloc _
  refine ⟨h.fr.trans f (fun _ _ h => h), fun u hu => ?_, fun u hu => ?_, fun u hu => ?_⟩
  · rw [qupd_ne _ _ _ _ h2] at hu
    obtain ⟨g, e, hg, hc⟩ := h.p1 u hu
    exact ⟨g, e, hg, by rw [qupd_ne _ _ _ _ h3.symm]; exact kept_box hc f (fun h => h)⟩
  · rw [qupd_at] at hu
    cases hu
    refine ⟨_, rfl, h.fr.size, ?_⟩
    rw [qupd_ne _ _ _ _ h4.symm, h0]
    exact heap_alloc_new wx _
  · rw [qupd_ne _ _ _ _ h2] at hu
    rw [qupd_at]
    intro hv
    cases hv
    obtain ⟨g, e, hg, hc⟩ := h.p1 _ hu
    have := qptr_inj e
    have := (Array.getElem?_eq_some_iff.1 hc).1
    omega

theorem PX.at1 (h : PX tx ty zx zy cx cy a1 a2 s1 s2 w st wx) (h0 : st s1 = none) {v : Value} (hv : st a1 = some v) : ∃ g, v = .pointer (some ⟨g, 0, none⟩) ∧ wx.heap[g]? = some (.cells zx tx (0, 0)) := by
  obtain ⟨g, e, _, hc⟩ := h.p1 v hv
  rw [h0] at hc
  exact ⟨g, e, hc⟩
theorem PX.at2 (h : PX tx ty zx zy cx cy a1 a2 s1 s2 w st wx) (h0 : st s2 = none) {v : Value} (hv : st a2 = some v) : ∃ g, v = .pointer (some ⟨g, 0, none⟩) ∧ wx.heap[g]? = some (.cells zy ty (0, 0)) := by
  obtain ⟨g, e, _, hc⟩ := h.p2 v hv
  rw [h0] at hc
  exact ⟨g, e, hc⟩

theorem PX.store1 (h : PX tx ty zx zy cx cy a1 a2 s1 s2 w st wx) {g : Nat} (hv : st a1 = some (.pointer (some ⟨g, 0, none⟩))) (u : Value) (h1 : s1 ≠ a1) (h2 : s1 ≠ a2) (h3 : s1 ≠ s2)
    (hy : wy.heap[g]? = some (.cells cx tx (0, 0))) (f : Fr (fun k => k = g) wx wy) : PX tx ty zx zy cx cy a1 a2 s1 s2 w (qupd st s1 u) wy := by
  obtain ⟨g', e, hg, _⟩ := h.p1 _ hv
  obtain rfl := qptr_inj (g := g) e
  refine ⟨h.fr.trans f (fun i hi e => by omega), fun x hx => ?_, fun x hx => ?_, fun x hx => ?_⟩
  · rw [qupd_ne _ _ _ _ h1.symm, hv] at hx
    cases hx
    refine ⟨g, rfl, hg, ?_⟩
    rw [qupd_at]
    exact hy
  · rw [qupd_ne _ _ _ _ h2.symm] at hx
    obtain ⟨g', e, hg', hc⟩ := h.p2 x hx
    refine ⟨g', e, hg', ?_⟩
    rw [qupd_ne _ _ _ _ h3.symm]
    refine kept_box hc f (fun e' => h.ne _ hv ?_)
    rw [hx, e, e']
    rfl
  · rw [qupd_ne _ _ _ _ h1.symm] at hx
    rw [qupd_ne _ _ _ _ h2.symm]
    exact h.ne x hx

theorem PX.store2 (h : PX tx ty zx zy cx cy a1 a2 s1 s2 w st wx) {g : Nat} (hv : st a2 = some (.pointer (some ⟨g, 0, none⟩))) (u : Value) (h1 : s2 ≠ a1) (h2 : s2 ≠ a2) (h3 : s2 ≠ s1)
    (hy : wy.heap[g]? = some (.cells cy ty (0, 0))) (f : Fr (fun k => k = g) wx wy) : PX tx ty zx zy cx cy a1 a2 s1 s2 w (qupd st s2 u) wy := by
  obtain ⟨g', e, hg, _⟩ := h.p2 _ hv
  obtain rfl := qptr_inj (g := g) e
  refine ⟨h.fr.trans f (fun i hi e => by omega), fun x hx => ?_, fun x hx => ?_, fun x hx => ?_⟩
  · rw [qupd_ne _ _ _ _ h1.symm] at hx
    obtain ⟨g', e, hg', hc⟩ := h.p1 x hx
    refine ⟨g', e, hg', ?_⟩
    rw [qupd_ne _ _ _ _ h3.symm]
    refine kept_box hc f (fun e' => h.ne _ hx ?_)
    rw [hv, e, e']
    rfl
  · rw [qupd_ne _ _ _ _ h2.symm, hv] at hx
    cases hx
    refine ⟨g, rfl, hg, ?_⟩
    rw [qupd_at]
    exact hy
  · rw [qupd_ne _ _ _ _ h1.symm] at hx
    rw [qupd_ne _ _ _ _ h2.symm]
    exact h.ne x hx

theorem PX.fin (h : PX tx ty zx zy cx cy a1 a2 s1 s2 w st wx) {x y u v : Value} (e1 : st a1 = some x) (e2 : st a2 = some y) (e3 : st s1 = some u) (e4 : st s2 = some v) : Two w x y cx cy tx ty wx := by
  obtain ⟨g1, e, hg1, hc1⟩ := h.p1 _ e1
  obtain ⟨g2, e', hg2, hc2⟩ := h.p2 _ e2
  rw [e3] at hc1
  rw [e4] at hc2
  refine ⟨g1, g2, e, e', fun hh => h.ne _ e1 (by rw [e2, e, e', hh]), hg1, hg2, h.fr, hc1, hc2⟩
end
end
section
theorem Made.plain {v : Value} {L : List UInt8} {w w1 w2 : World} (h : Made v L w w1) (f : Fr (fun _ => False) w1 w2) : Made v L w w2 :=
  ⟨h.1.fr f (fun _ _ h => h), h.2.1.trans0 f, h.2.2⟩

theorem Made.base {v : Value} {L : List UInt8} {w w1 w2 : World} (f : Fr (fun _ => False) w w1) (h : Made v L w1 w2) : Made v L w w2 :=
  ⟨h.1, f.trans0 h.2.1, fun k hk => Nat.le_trans f.size (h.2.2 k hk)⟩

theorem opWp_made {w wb wm : World} {o : Oper} {a : Act} {K : Act → World → Prop} {Q : Exit → Act → World → Prop} (s x : Operand)
    (ho : o.op = .call { callee := .builtin .append, args := #[s, x], argTypes := #[24, 24] })
    (v : Value) (hs : a.eval s = v) (xv : Value) (hx : a.eval x = xv) (L l : List UInt8) (h1 : Made v L wb wm) (h2 : Made xv l wm w) (hlen : L.length + l.length ≤ 100000)
    (h : ∀ v' w', Made v' (L ++ l) wb w' → K (a.put o.dst v') w') : o.wp Try.prog a w K Q := by
  obtain ⟨i0, hi, hz0, hz1, hz2⟩ := info_parts Try.infoU8
  obtain ⟨ax, cx, e⟩ := slice_of_own h2.1
  have hown := h1.1.fr h2.2.1 (fun _ _ h => h)
  obtain ⟨v', w', hr, k2, k3, k4⟩ := run_append_sep (P := Try.prog) w 0 24 24 o.type 5 i0 (.int .u8 0) 1 1 Try.underlying24 _ Try.underlying24 (.inr ⟨_, rfl⟩) hi hz0 hz1 hz2 rfl (by decide) v L.length (L.map bv) hown xv l.length (l.map bv) (fun w => by rw [e]; exact lenOf_slice _ _ _ _) (by simp) h2.1.sees.first (h2.1.sees.drew).first (bv_one _) (by unfold maxLen; omega) (by omega) (Nat.zero_le _)
  unfold Oper.wp execOp
  simp only [ho, resolve, invoke, builtin, Sem.run_bind, Sem.run_pure, Result.andThen_ok, List.map_toArray, List.map_cons, List.map_nil, hs, hx, hr]
  exact h v' w' (Made.append h1 h2.2.1 rfl k2 k3 k4)

/-- 'append(f(), g()..)'. -/
def WA (wb : World) (q1 q2 : List UInt8) : List Value → World → Prop
  | [], wx => Fr (fun _ => False) wb wx
  | [v1], wx => Made v1 q1 wb wx
  | [v1, v2], wx => ∃ wm, Made v1 q1 wb wm ∧ Made v2 q2 wm wx
  | [_, _, v3], wx => Made v3 (q1 ++ q2) wb wx
  | [_, _, _, v4], wx => Made v4 (q1 ++ q2) wb wx
  | _, _ => False

/-- 'append(append(u, f()..), g()..)'. -/
def WB (wb : World) (u : Value) (L q1 q2 : List UInt8) : List Value → World → Prop
  | [], wx => Made u L wb wx
  | [v1], wx => ∃ wm, Made u L wb wm ∧ Made v1 q1 wm wx
  | [_, v2], wx => Made v2 (L ++ q1) wb wx
  | [_, v2, v3], wx => ∃ wm, Made v2 (L ++ q1) wb wm ∧ Made v3 q2 wm wx
  | [_, _, _, v4], wx => Made v4 (L ++ q1 ++ q2) wb wx
  | [_, _, _, _, v5], wx => Made v5 (L ++ q1 ++ q2) wb wx
  | _, _ => False

theorem WA.fr {wb wx : World} {q1 q2 : List UInt8} : ∀ {c : List Value}, WA wb q1 q2 c wx → Fr (fun _ => False) wb wx
  | [], h => h
  | [_], h => h.2.1
  | [_, _], ⟨_, h1, h2⟩ => h1.2.1.trans0 h2.2.1
  | [_, _, _], h => h.2.1
  | [_, _, _, _], h => h.2.1
  | _ :: _ :: _ :: _ :: _ :: _, h => h.elim

theorem WB.fr {wb wx : World} {u : Value} {L q1 q2 : List UInt8} : ∀ {c : List Value}, WB wb u L q1 q2 c wx → Fr (fun _ => False) wb wx
  | [], h => h.2.1
  | [_], ⟨_, h1, h2⟩ => h1.2.1.trans0 h2.2.1
  | [_, _], h => h.2.1
  | [_, _, _], ⟨_, h1, h2⟩ => h1.2.1.trans0 h2.2.1
  | [_, _, _, _], h => h.2.1
  | [_, _, _, _, _], h => h.2.1
  | _ :: _ :: _ :: _ :: _ :: _ :: _, h => h.elim

theorem takeS_call (t n p : Int) (l rest : List UInt8) (ht0 : 0 ≤ t) (ht1 : t ≤ 65535) (hn0 : 0 ≤ n) (hn1 : n ≤ 65535) (hp0 : 0 ≤ p) (hp1 : p ≤ 65535) (hl : l.length ≤ 4000) :
    takeS (callB t n p l ++ rest, 0) = ((t.toNat, n.toNat, p.toNat, l), (rest, 0)) := by
  unfold takeS callB
  simp only [List.append_assoc]
  rw [numS_be2 _ (by omega), numS_be2 _ (by omega), numS_be2 _ (by omega), textS_txt _ _ (by omega) _ (by omega)]

theorem takeAS_ans (e r : Int) (l rest : List UInt8) (he0 : 0 ≤ e) (he1 : e ≤ 65535) (hr0 : 0 ≤ r) (hr1 : r ≤ 65535) (hl : l.length ≤ 4000) :
    takeAS (ansB e r l ++ rest, 0) = ((e.toNat, r.toNat, l), (rest, 0)) := by
  unfold takeAS ansB
  simp only [List.append_assoc]
  rw [numS_be2 _ (by omega), numS_be2 _ (by omega), textS_txt _ _ (by omega) _ (by omega)]

/-- All values are known but one, of which something is known. -/
def oneV (k : Nat) (Pk : Value → World → Prop) (vs : List Value) (i : Nat) (v : Value) (wx : World) : Prop := (i = k → Pk v wx) ∧ (i ≠ k → v = vs.getD i undef)

/-- What is read as this text, in whatever later world. -/
def readsAs (s : ByteArray) (v : Value) (wx : World) : Prop := ∀ W, Fr (fun _ => False) wx W → (convert 24 9 v).run Try.prog W = .ok (.string s) W

theorem oneV_reads (k : Nat) (s : ByteArray) (vs : List Value) : ∀ i v w w', Fr (fun _ => False) w w' → oneV k (readsAs s) vs i v w → oneV k (readsAs s) vs i v w' :=
  fun _ _ _ _ f h => ⟨fun e W hW => h.1 e W (f.trans0 hW), h.2⟩
end
section
def memE : List Int → List UInt8
  | [] => []
  | x :: l => be2 x.toNat ++ memE l

theorem memE_append (a b : List Int) : memE (a ++ b) = memE a ++ memE b := by
  induction a with
  | nil => rfl
  | cons x l ih => rw [List.cons_append, memE, memE, ih, List.append_assoc]

theorem memE_step (m : List Int) (k : Nat) (hk : k < m.length) : memE (m.take (k + 1)) = memE (m.take k) ++ be2 m[k].toNat := by
  rw [List.take_succ_eq_append_getElem hk, memE_append]
  simp [memE]

theorem memE_length (m : List Int) : (memE m).length = 2 * m.length := by
  induction m with
  | nil => rfl
  | cons x l ih => rw [memE, List.length_append, ih, be2_length, List.length_cons]; omega

theorem be2_inj {a b : Nat} (ha : a < 65536) (hb : b < 65536) (h : be2 a = be2 b) : a = b := by
  have h1 := numS_be2 a ha [] 0
  have h2 := numS_be2 b hb [] 0
  rw [h, h2] at h1
  exact (congrArg Prod.fst h1).symm

theorem be2_app {a b : Nat} {p q : List UInt8} (ha : a < 65536) (hb : b < 65536) (h : be2 a ++ p = be2 b ++ q) : a = b ∧ p = q := by
  have := List.append_inj h (by rw [be2_length, be2_length])
  exact ⟨be2_inj ha hb this.1, this.2⟩

def In16 (m : List Int) : Prop := ∀ x ∈ m, 0 ≤ x ∧ x ≤ 65535

theorem memE_inj : ∀ (m m' : List Int), m.length = m'.length → In16 m → In16 m' → memE m = memE m' → m = m'
  | [], [], _, _, _, _ => rfl
  | [], _ :: _, h, _, _, _ => by simp at h
  | _ :: _, [], h, _, _, _ => by simp at h
  | x :: l, y :: l', h, h1, h2, he => by
    have hx := h1 x (by simp)
    have hy := h2 y (by simp)
    rw [memE, memE] at he
    obtain ⟨e1, e2⟩ := be2_app (by omega) (by omega) he
    rw [memE_inj l l' (by simpa using h) (fun z hz => h1 z (by simp [hz])) (fun z hz => h2 z (by simp [hz])) e2]
    congr 1
    omega

/-- An entry's bytes. -/
def entB (x : En) : List UInt8 := be2 x.k.toNat ++ (if x.k = 1 then callB x.t x.n x.p x.l else if x.k = 2 then be2 x.m.length ++ memE x.m else [])

/-- An entry that may be, of one of the three kinds. -/
structure EnOk (x : En) : Prop where
  k0 : 0 ≤ x.k
  k1 : x.k ≤ 2
  t0 : 0 ≤ x.t
  t1 : x.t ≤ 65535
  n0 : 0 ≤ x.n
  n1 : x.n ≤ 65535
  p0 : 0 ≤ x.p
  p1 : x.p ≤ 65535
  l1 : x.l.length ≤ 4000
  m1 : x.m.length ≤ 16
  mb : In16 x.m
  ck : x.chk = 0
  nc : x.k ≠ 1 → x.t = 0 ∧ x.n = 0 ∧ x.p = 0 ∧ x.l = []
  nm : x.k ≠ 2 → x.m = []

theorem bits_in16 (m : Nat) : In16 (bitsL m) := by
  intro x hx
  obtain ⟨i, h1, h2, _⟩ := mem_bitsL_range m x hx
  omega

theorem sm_ok {s : Sm} (h : s.ok) (hl : s.c.l.length ≤ 4000) : EnOk s.en := by
  have hb := bitsL_len s.mb h.m1
  have h0 := h.t0
  have h1 := h.t1
  have h2 := h.n0
  have h3 := h.n1
  have h4 := h.p0
  have h5 := h.p1
  unfold Sm.en
  by_cases hk : s.kind % 3 = 1
  · rw [if_pos hk]
    have hp : okN s.c.p = true := by unfold okN; simp [h4, h5]
    refine ⟨by show (0 : Int) ≤ 1; omega, by show (1 : Int) ≤ 2; omega, h0, h1, h2, h3, h4, h5, hl, Nat.zero_le _, (fun x hx => (by cases hx)), ?_, fun h => absurd rfl h, fun _ => rfl⟩
    unfold En.chk
    simp [cchk_ok hp hl]
  · rw [if_neg hk]
    by_cases hk2 : s.kind % 3 = 2
    · rw [if_pos hk2]
      refine ⟨by show (0 : Int) ≤ 2; omega, by show (2 : Int) ≤ 2; omega, Int.le_refl _, by show (0 : Int) ≤ 65535; decide, Int.le_refl _, by show (0 : Int) ≤ 65535; decide, Int.le_refl _, by show (0 : Int) ≤ 65535; decide, Nat.zero_le _, hb.2, bits_in16 _, ?_, fun _ => ⟨rfl, rfl, rfl, rfl⟩, fun h => absurd rfl h⟩
      unfold En.chk
      simp [bitsL_chk s.mb h.m1]
    · rw [if_neg hk2]
      exact ⟨by decide, by decide, by decide, by decide, by decide, by decide, by decide, by decide, by decide, by decide, (fun x hx => (by cases hx)), by decide, fun _ => ⟨rfl, rfl, rfl, rfl⟩, fun _ => rfl⟩

theorem entB_inj {x y : En} (hx : EnOk x) (hy : EnOk y) (h : entB x = entB y) : x = y := by
  obtain ⟨k0, k1, t0, t1, n0, n1, p0, p1, l1, m1, mb, ck, nc, nm⟩ := hx
  obtain ⟨k0', k1', t0', t1', n0', n1', p0', p1', l1', m1', mb', ck', nc', nm'⟩ := hy
  unfold entB at h
  obtain ⟨hk, hr⟩ := be2_app (by omega) (by omega) h
  have hk' : x.k = y.k := by omega
  rw [hk'] at hr nc nm
  cases x with
  | mk k t n p l m =>
  cases y with
  | mk k' t' n' p' l' m' =>
  simp only at *
  subst hk'
  by_cases h1 : k = 1
  · subst h1
    rw [if_pos rfl, if_pos rfl] at hr
    have e1 := takeS_call t n p l [] t0 t1 n0 n1 p0 p1 l1
    have e2 := takeS_call t' n' p' l' [] t0' t1' n0' n1' p0' p1' l1'
    rw [hr, e2] at e1
    simp only [Prod.mk.injEq] at e1
    have hm : m = [] := nm (by decide)
    have hm' : m' = [] := nm' (by decide)
    obtain ⟨⟨a1, a2, a3, a4⟩, _⟩ := e1
    subst hm hm' a4
    congr 1 <;> omega
  · rw [if_neg h1, if_neg h1] at hr
    obtain ⟨rfl, rfl, rfl, rfl⟩ := nc h1
    obtain ⟨rfl, rfl, rfl, rfl⟩ := nc' h1
    by_cases h2 : k = 2
    · subst h2
      rw [if_pos rfl, if_pos rfl] at hr
      obtain ⟨e1, e2⟩ := be2_app (by omega) (by omega) hr
      rw [memE_inj m m' e1 mb mb' e2]
    · rw [nm h2, nm' h2]

theorem entB_length {x : En} (h : EnOk x) : (entB x).length ≤ 5000 := by
  have h1 := h.l1
  have h2 := h.m1
  unfold entB
  rw [List.length_append, be2_length]
  by_cases hk : x.k = 1
  · rw [if_pos hk, callB_length]; omega
  · rw [if_neg hk]
    by_cases hk2 : x.k = 2
    · rw [if_pos hk2, List.length_append, be2_length, memE_length]; omega
    · rw [if_neg hk2]; simp
end
section
set_option maxRecDepth 100000

theorem SIc.keep {S : Nat → Prop} {w w' : World} {a : Option Addr} {c : Nat} {l : List Int} (h : SIc w a c l) (hf : Fr S w w') (hS : l = [] ∨ ∀ k, (Value.slice a l.length c).ownBlock = some k → ¬ S k) : SIc w' a c l := fun h0 => by
  obtain ⟨h1, g, off, rfl, h3⟩ := h h0
  have hg : ¬ S g := by
    rcases hS with e | e
    · subst e; simp at h0
    · exact e g rfl
  exact ⟨h1, g, off, rfl, fun j hj => by rw [← h3 j hj]; exact hf.cell (World.block_lt_of_cell? w _ (h3 j hj)) hg⟩

/-- A slice is not where a writer lies or writes. -/
def OffW (b : Nat) (v : Value) (s : Value) : Prop := s.ownBlock ≠ some b ∧ ∀ k, s.ownBlock = some k → v.ownBlock ≠ some k

theorem putMembers_any (b : Nat) (v : Value) (L : List UInt8) (m : List Int) (a : Option Addr) (c : Nat) (w : World) (hW : Wr w b v L) (hL : L.length ≤ 800000000) (hm : SIc w a c m) (hlen : m.length ≤ 16) (h16 : In16 m)
    (ho : m = [] ∨ OffW b v (.slice a m.length c)) :
    Calls Try.prog 74 #[.pointer (some ⟨b, 0, none⟩), .slice a m.length c] w fun e w' => e = .returned (.tuple #[]) ∧ Wrote b v (L ++ be2 m.length ++ memE m) w w' := by
  have HM := Lib.hid hm
  have H16 := Lib.hid h16
  have HO := Lib.hid ho
  have HL := Lib.hid hL
  clear hm h16 ho
  go_enter Try.func74, Try.ntmps74
  go_wp2_with fail
  refine (word_any b v L m.length (by omega) (by omega) w hW (by omega)).mono ?_
  rintro e w1 ⟨rfl, wr1⟩
  have W1 : Hid (Wrote b v (L ++ be2 m.length ++ memE (m.take 0)) w w1) := Lib.hid (by simpa [memE] using wr1)
  clear wr1 hW hL
  dsimp only
  go_upto_region 2 with fail
  go_loopg [13] m.length (fun gh u13 wr => ∃ k : Nat, k ≤ m.length ∧ gh = m.length - k ∧ u13 = .int .i64 k ∧ Hid (Wrote b v (L ++ be2 m.length ++ memE (m.take k)) w wr))
  case atStart => exact ⟨0, Nat.zero_le _, rfl, rfl, W1⟩
  case round =>
    obtain ⟨k, hk, rfl, rfl, HW⟩ := hrel
    by_cases hlt : k < m.length
    case neg =>
      obtain rfl : k = m.length := by omega
      have hfin := HW.out
      rw [List.take_length] at hfin
      have HF := Lib.hid hfin
      clear hfin
      go_wp2_with fail
      go_returns
      exact ⟨rfl, HF.out⟩
    obtain ⟨v1, hw1, f1, o1⟩ := HW.out
    have hmk : SIc wr a c m := HM.out.keep f1 (HO.out.imp id (fun h j hj e => by
      rcases e with e | e
      · exact h.1 (by rw [hj, e])
      · exact h.2 j hj e))
    obtain ⟨hcap, g, off, rfl, hcell⟩ := hmk (by omega)
    have ck := hcell k hlt
    obtain ⟨z, hz⟩ : ∃ z, z = m[k] := ⟨_, rfl⟩
    rw [← hz] at ck
    have hzb : 0 ≤ z ∧ z ≤ 65535 := by rw [hz]; exact H16.out _ (List.getElem_mem hlt)
    obtain ⟨hz0, hz1⟩ := hzb
    have HST : Hid (memE (m.take (k + 1)) = memE (m.take k) ++ be2 z.toNat) := Lib.hid (by rw [memE_step m k hlt, hz])
    have hLk : (L ++ be2 m.length ++ memE (m.take k)).length ≤ 1000000000 := by
      have := HL.out
      rw [List.length_append, List.length_append, be2_length, memE_length, List.length_take]
      omega
    obtain ⟨X, hX⟩ : ∃ X, X = L ++ be2 m.length ++ memE (m.take k) := ⟨_, rfl⟩
    rw [← hX] at hw1 hLk
    have HX := Lib.hid hX
    have HF1 := Lib.hid f1
    have HO1 := Lib.hid o1
    have HW1 := Lib.hid hw1
    have HLK := Lib.hid hLk
    clear hX f1 o1 hw1 hcell hz HW hmk hLk
    go_wp2_with fail
    refine (word_any b v1 X z (by omega) (by omega) wr HW1.out HLK.out).mono ?_
    rintro e w2 ⟨rfl, wr2⟩
    have W2 : Hid (Wrote b v (L ++ be2 m.length ++ memE (m.take (k + 1))) w w2) := Lib.hid (by
      rw [HST.out, ← List.append_assoc, ← HX.out]
      exact Wrote.trans HF1.out HO1.out wr2)
    clear wr2
    dsimp only
    go_wp2_with fail
    go_roundg (m.length - (k + 1))
    case measure => omega
    case rel => exact ⟨k + 1, by omega, rfl, by congr 1, W2⟩

theorem Wrote.later {b : Nat} {v : Value} {l : List UInt8} {w0 w w' : World} (f : Fr (fun _ => False) w0 w) (h : Wrote b v l w w') : Wrote b v l w0 w' := by
  obtain ⟨v', h1, h2, h3⟩ := h
  exact ⟨v', h1, (f.mono (fun _ _ h => h.elim)).trans h2 (fun _ _ h => h), h3.imp id (fun h k hk => Nat.le_trans f.size (h k hk))⟩

theorem sees_old {w : World} {v : Value} {l : List UInt8} (h : Sees w v l) (hl : l ≠ []) : ∀ k, v.ownBlock = some k → k < w.heap.size := by
  rcases h with ⟨e, _⟩ | ⟨g, off, cap, rfl, _, hc⟩
  · exact absurd e hl
  · intro k hk
    have h0 := hc 0 (List.length_pos_iff.2 hl)
    cases hk
    exact World.block_lt_of_cell? w _ h0

theorem sic_old {w : World} {a : Option Addr} {c : Nat} {l : List Int} (h : SIc w a c l) (hl : l ≠ []) : ∀ k, (Value.slice a l.length c).ownBlock = some k → k < w.heap.size := by
  have h0 := List.length_pos_iff.2 hl
  obtain ⟨_, g, off, rfl, hc⟩ := h h0
  intro k hk
  cases hk
  exact World.block_lt_of_cell? w _ (hc 0 h0)

theorem OffW.later {b n : Nat} {v v2 s : Value} (h : OffW b v s) (hs : ∀ k, s.ownBlock = some k → k < n) (h2 : v2.ownBlock = v.ownBlock ∨ ∀ k, v2.ownBlock = some k → n ≤ k) : OffW b v2 s :=
  ⟨h.1, fun k hk e => by
    rcases h2 with h2 | h2
    · exact h.2 k hk (by rw [← h2, e])
    · have := h2 k e; have := hs k hk; omega⟩

theorem vput_any (x : En) (v u : Value) (b : Nat) (wv : Value) (L : List UInt8) (w : World) (hx : EnOk x) (he : ES w x v u) (hW : Wr w b wv L) (hL : L.length ≤ 700000000) (h1 : x.l = [] ∨ OffW b wv v) (h2 : x.m = [] ∨ OffW b wv u) :
    Calls Try.prog 53 #[x.val v u, .pointer (some ⟨b, 0, none⟩)] w fun e w' => e = .returned (.tuple #[]) ∧ Wrote b wv (L ++ entB x) w w' := by
  obtain ⟨k0, k1, t0, t1, n0, n1, p0, p1, l1, m1, mb, ck, nc, nm⟩ := hx
  obtain ⟨a, c, hv, _⟩ := he.1.shape
  obtain ⟨a2, c2, hu, hc2⟩ := he.2.shape
  subst hv hu
  have HE := Lib.hid he
  have H1 := Lib.hid h1
  have H2 := Lib.hid h2
  have HC := Lib.hid hc2
  have MB := Lib.hid mb
  have CK := Lib.hid ck
  have HL := Lib.hid hL
  have HB : Hid (∀ Y, (if x.k = 1 then callB x.t x.n x.p x.l else if x.k = 2 then be2 x.m.length ++ memE x.m else []) = Y → L ++ entB x = L ++ be2 x.k.toNat ++ Y) := Lib.hid (by rintro Y rfl; unfold entB; rw [List.append_assoc])
  clear he h1 h2 hc2 mb ck nc nm hL
  have q0 := heap_alloc_new w (x.obj (.slice a x.l.length c) (.slice a2 x.m.length c2))
  have f0 : Fr (fun _ => False) w (w.alloc (x.obj (.slice a x.l.length c) (.slice a2 x.m.length c2))) := (Fr.refl _ _).alloc _
  go_enter Try.func53, Try.ntmps53
  go_upto_region 1 with fail
  generalize w.alloc (x.obj (.slice a x.l.length c) (.slice a2 x.m.length c2)) = w0 at *
  generalize hg0 : w.heap.size = g0 at *
  have HG : Hid (b < g0 ∧ (∀ k, wv.ownBlock = some k → k < g0) ∧ w.heap.size = g0) := Lib.hid ⟨by have := hW.lt.1; omega, fun k hk => by have := hW.lt.2 k hk; omega, hg0⟩
  clear hg0
  have Q0 := Lib.hid q0
  have F0 := Lib.hid f0
  have W0 := Lib.hid (hW.fr f0 (fun h => h) (fun _ _ h => h))
  clear q0 f0 hW
  obtain ⟨c00, c01, c02, c03, c04, c05⟩ := en_cells Q0.out
  go_wp2_with fail
  refine (vcheck_any x (.slice a x.l.length c) (.slice a2 x.m.length c2) w0 (HE.out.fr F0.out) (by omega) k0 (by omega)).mono ?_
  rintro e w1 ⟨rfl, f1⟩
  rw [CK.out]
  have Q1 := Lib.hid (crow_kept Q0.out f1 (fun h => h))
  have F1 := Lib.hid (F0.out.trans f1 (fun _ _ h => h))
  have W1 := Lib.hid (W0.out.fr f1 (fun h => h) (fun _ _ h => h))
  clear f1 Q0 F0 W0 c00 c01 c02 c03 c04 c05
  obtain ⟨c00, c01, c02, c03, c04, c05⟩ := en_cells Q1.out
  dsimp only
  go_wp2_with fail
  refine (word_any b wv L x.k k0 (by omega) w1 W1.out (by have := HL.out; omega)).mono ?_
  rintro e w2 ⟨rfl, v2, w2r, f2, o2⟩
  have Q2 := Lib.hid (crow_kept Q1.out f2 (fun e => by
    have hg := HG.out
    rcases e with e | e
    · omega
    · have := hg.2.1 _ e; omega))
  have hsz1 := F1.out.size
  have F2 := Lib.hid f2
  have O2 := Lib.hid o2
  have W2 := Lib.hid w2r
  have SV : Hid (Sees w2 (.slice a x.l.length c) x.l) := Lib.hid ((HE.out.1.fr F1.out (fun _ _ h => h)).keep f2 (H1.out.imp id (fun h j hj e => by
    rcases e with e | e
    · exact h.1 (by rw [hj, e])
    · exact h.2 j hj e)))
  have SU : Hid (SIc w2 a2 c2 x.m) := Lib.hid ((HC.out.fr F1.out).keep f2 (H2.out.imp id (fun h j hj e => by
    rcases e with e | e
    · exact h.1 (by rw [hj, e])
    · exact h.2 j hj e)))
  have OV : Hid (x.l = [] ∨ OffW b v2 (.slice a x.l.length c)) := Lib.hid (by
    by_cases hl : x.l = []
    · exact .inl hl
    · rcases H1.out with h | h
      · exact .inl h
      · exact .inr (h.later (fun k hk => Nat.lt_of_lt_of_le (sees_old HE.out.1 hl k hk) hsz1) O2.out))
  have OU : Hid (x.m = [] ∨ OffW b v2 (.slice a2 x.m.length c2)) := Lib.hid (by
    by_cases hl : x.m = []
    · exact .inl hl
    · rcases H2.out with h | h
      · exact .inl h
      · exact .inr (h.later (fun k hk => Nat.lt_of_lt_of_le (sic_old HC.out hl k hk) hsz1) O2.out))
  have HL2 : Hid ((L ++ be2 x.k.toNat).length ≤ 800000000) := Lib.hid (by rw [List.length_append, be2_length]; have := HL.out; omega)
  clear f2 o2 w2r Q1 c00 c01 c02 c03 c04 c05
  obtain ⟨c00, c01, c02, c03, c04, c05⟩ := en_cells Q2.out
  dsimp only
  rcases (show x.k = 0 ∨ x.k = 1 ∨ x.k = 2 by omega) with h | h | h
  · have HF : Hid (Wrote b wv (L ++ entB x) w w2) := Lib.hid (by
      rw [HB.out [] (by rw [if_neg (by omega), if_neg (by omega)]), List.append_nil]
      exact Wrote.later F1.out ⟨v2, W2.out, F2.out, O2.out⟩)
    rw [h] at c00
    clear h
    go_wp2_with fail
    go_returns
    exact ⟨rfl, HF.out⟩
  · have HF : Hid (∀ w', Wrote b v2 (L ++ be2 x.k.toNat ++ callB x.t x.n x.p x.l) w2 w' → Wrote b wv (L ++ entB x) w w') := Lib.hid (fun w' hw => by
      rw [HB.out _ (by rw [if_pos h])]
      exact Wrote.later F1.out (Wrote.trans F2.out O2.out hw))
    have hp : okN x.p = true := by unfold okN; simp [p0, p1]
    have HC2 := Lib.hid (cput_any x.t x.n x.p (.slice a x.l.length c) x.l b v2 _ w2 t0 t1 n0 n1 hp SV.out l1 W2.out HL2.out OV.out)
    rw [h] at c00
    clear h
    unfold cv at HC2
    go_wp2_with fail
    refine HC2.out.mono ?_
    rintro e w3 ⟨rfl, hw⟩
    have HW := Lib.hid (HF.out _ hw)
    clear hw
    dsimp only
    go_wp2_with fail
    go_returns
    exact ⟨rfl, HW.out⟩
  · have HF : Hid (∀ w', Wrote b v2 (L ++ be2 x.k.toNat ++ be2 x.m.length ++ memE x.m) w2 w' → Wrote b wv (L ++ entB x) w w') := Lib.hid (fun w' hw => by
      rw [HB.out _ (by rw [if_neg (by omega), if_pos h]), ← List.append_assoc]
      exact Wrote.later F1.out (Wrote.trans F2.out O2.out hw))
    have HC2 := Lib.hid (putMembers_any b v2 (L ++ be2 x.k.toNat) x.m a2 c2 w2 W2.out HL2.out SU.out m1 MB.out OU.out)
    rw [h] at c00
    clear h
    go_wp2_with fail
    refine HC2.out.mono ?_
    rintro e w3 ⟨rfl, hw⟩
    have HW := Lib.hid (HF.out _ hw)
    clear hw
    dsimp only
    go_wp2_with fail
    go_returns
    exact ⟨rfl, HW.out⟩
end
end Go.Proofs.Ytjnbpgadgdjobaa
