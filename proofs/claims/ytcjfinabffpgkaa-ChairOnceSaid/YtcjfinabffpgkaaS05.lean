/-
  What ChOnce rests on, part 5: VotSmall, Two.
-/
import Derived.Test.YtcjfinabffpgkaaS04
set_option linter.unusedVariables false
set_option linter.unusedSimpArgs false
set_option maxHeartbeats 64000000
namespace Go.Proofs.Ytcjfinabffpgkaa
open Go.RowKit
open Go.Lib (hid)
section
set_option maxRecDepth 100000

theorem cst6 {w : World} {b : Nat} {x0 x1 x2 x3 x4 x5 y0 y1 y2 y3 y4 y5 : Value} {t : TypeId} (h : w.heap[b]? = some (.cells #[x0, x1, x2, x3, x4, x5] t (0, 0))) :
    ((((((w.setCell ⟨b, 0, none⟩ y0).setCell ⟨b, 1, none⟩ y1).setCell ⟨b, 2, none⟩ y2).setCell ⟨b, 3, none⟩ y3).setCell ⟨b, 4, none⟩ y4).setCell ⟨b, 5, none⟩ y5).heap[b]? = some (.cells #[y0, y1, y2, y3, y4, y5] t (0, 0)) := by
  have h0 : (w.setCell ⟨b, 0, none⟩ y0).heap[b]? = some (.cells #[y0, x1, x2, x3, x4, x5] t (0, 0)) := by rw [heap_setCell_same w b 0 _ t y0 h]; rfl
  have h1 : ((w.setCell ⟨b, 0, none⟩ y0).setCell ⟨b, 1, none⟩ y1).heap[b]? = some (.cells #[y0, y1, x2, x3, x4, x5] t (0, 0)) := by rw [heap_setCell_same _ b 1 _ t y1 h0]; rfl
  have h2 : (((w.setCell ⟨b, 0, none⟩ y0).setCell ⟨b, 1, none⟩ y1).setCell ⟨b, 2, none⟩ y2).heap[b]? = some (.cells #[y0, y1, y2, x3, x4, x5] t (0, 0)) := by rw [heap_setCell_same _ b 2 _ t y2 h1]; rfl
  have h3 : ((((w.setCell ⟨b, 0, none⟩ y0).setCell ⟨b, 1, none⟩ y1).setCell ⟨b, 2, none⟩ y2).setCell ⟨b, 3, none⟩ y3).heap[b]? = some (.cells #[y0, y1, y2, y3, x4, x5] t (0, 0)) := by rw [heap_setCell_same _ b 3 _ t y3 h2]; rfl
  have h4 : (((((w.setCell ⟨b, 0, none⟩ y0).setCell ⟨b, 1, none⟩ y1).setCell ⟨b, 2, none⟩ y2).setCell ⟨b, 3, none⟩ y3).setCell ⟨b, 4, none⟩ y4).heap[b]? = some (.cells #[y0, y1, y2, y3, y4, x5] t (0, 0)) := by rw [heap_setCell_same _ b 4 _ t y4 h3]; rfl
  rw [heap_setCell_same _ b 5 _ t y5 h4]; rfl
theorem cfr6 {w : World} {b : Nat} (y0 y1 y2 y3 y4 y5 : Value) {S : Nat → Prop} {w0 : World} (f : Fr S w0 w) (hb : b < w0.heap.size → S b) :
    Fr S w0 ((((((w.setCell ⟨b, 0, none⟩ y0).setCell ⟨b, 1, none⟩ y1).setCell ⟨b, 2, none⟩ y2).setCell ⟨b, 3, none⟩ y3).setCell ⟨b, 4, none⟩ y4).setCell ⟨b, 5, none⟩ y5) :=
  (((((f.setCell (p := ⟨b, 0, none⟩) hb _).setCell (p := ⟨b, 1, none⟩) hb _).setCell (p := ⟨b, 2, none⟩) hb _).setCell (p := ⟨b, 3, none⟩) hb _).setCell (p := ⟨b, 4, none⟩) hb _).setCell (p := ⟨b, 5, none⟩) hb _

theorem SI.keep {S : Nat → Prop} {w w' : World} {v : Value} {l : List Int} (h : SI w v l) (hf : Fr S w w') (hS : l = [] ∨ ∀ k, v.ownBlock = some k → ¬ S k) : SI w' v l := by
  obtain ⟨a, c, rfl, hc⟩ := h.shape
  by_cases h0 : 0 < l.length
  · obtain ⟨h1, g, off, rfl, h3⟩ := hc h0
    have hg : ¬ S g := by
      rcases hS with e | e
      · subst e; simp at h0
      · exact e g rfl
    refine SIc.sees (fun _ => ⟨h1, g, off, rfl, fun j hj => ?_⟩)
    rw [← h3 j hj]
    exact hf.cell (World.block_lt_of_cell? w _ (h3 j hj)) hg
  · exact SIc.sees (fun h => absurd h h0)

theorem Sees.keep {S : Nat → Prop} {w w' : World} {v : Value} {l : List UInt8} (h : Sees w v l) (hf : Fr S w w') (hS : l = [] ∨ ∀ k, v.ownBlock = some k → ¬ S k) : Sees w' v l := by
  rcases hS with e | e
  · exact h.none e
  · exact h.fr hf e

/-- The slices of x are not in block b. -/
def Away (b : Nat) (x : En) (v u : Value) : Prop := (x.l = [] ∨ v.ownBlock ≠ some b) ∧ (x.m = [] ∨ u.ownBlock ≠ some b)

theorem ES.keep {b : Nat} {w w' : World} {x : En} {v u : Value} (h : ES w x v u) (ha : Away b x v u) (hf : Fr (fun k => k = b) w w') : ES w' x v u :=
  ⟨h.1.keep hf (ha.1.imp id (fun h k hk e => h (by rw [hk, e]))), h.2.keep hf (ha.2.imp id (fun h k hk e => h (by rw [hk, e])))⟩

theorem vfree {w : World} {g : Nat} {cs : Array Value} {t : TypeId} (h : w.heap[g]? = some (.cells cs t (0, 0))) (i : Nat) : w.frozen? ⟨g, i, none⟩ = false := by
  simp [World.frozen?, h]

theorem vfree6 {w : World} {g : Nat} {cs : Array Value} {t : TypeId} (h : w.heap[g]? = some (.cells cs t (0, 0))) :
    w.frozen? ⟨g, 0, none⟩ = false ∧ w.frozen? ⟨g, 1, none⟩ = false ∧ w.frozen? ⟨g, 2, none⟩ = false ∧ w.frozen? ⟨g, 3, none⟩ = false ∧ w.frozen? ⟨g, 4, none⟩ = false ∧ w.frozen? ⟨g, 5, none⟩ = false :=
  ⟨vfree h 0, vfree h 1, vfree h 2, vfree h 3, vfree h 4, vfree h 5⟩

theorem SI.nil (w : World) : SI w nilS [] := .inl ⟨rfl, _, _, rfl⟩

/-- An entry by small numbers. -/
structure Sm where
  kind : Int
  c : Sc
  mb : Nat

def Sm.en (s : Sm) : En := if s.kind % 3 = 1 then ⟨1, s.c.t, s.c.n, s.c.p, s.c.l, []⟩ else if s.kind % 3 = 2 then ⟨2, 0, 0, 0, [], bitsL s.mb⟩ else En.zero
abbrev smV (s : Sm) (v : Value) : Value := .agg #[.int .u8 s.kind, .int .u16 s.c.t, .int .u16 s.c.n, .int .u16 s.c.p, v, .int .u16 s.mb]
structure Sm.ok (s : Sm) : Prop where
  k0 : 0 ≤ s.kind
  k1 : s.kind ≤ 255
  t0 : 0 ≤ s.c.t
  t1 : s.c.t ≤ 65535
  n0 : 0 ≤ s.c.n
  n1 : s.c.n ≤ 65535
  p0 : 0 ≤ s.c.p
  p1 : s.c.p ≤ 65535
  m1 : s.mb < 65536

theorem sm_cells {w : World} {g : Nat} {k t n p mb : Int} {v : Value} {T : TypeId} (h : w.heap[g]? = some (Obj.cells #[.int .u8 k, .int .u16 t, .int .u16 n, .int .u16 p, v, .int .u16 mb] T (0, 0))) :
    w.cell? ⟨g, 0, none⟩ = some (.int .u8 k) ∧ w.cell? ⟨g, 1, none⟩ = some (.int .u16 t) ∧ w.cell? ⟨g, 2, none⟩ = some (.int .u16 n) ∧ w.cell? ⟨g, 3, none⟩ = some (.int .u16 p) ∧ w.cell? ⟨g, 4, none⟩ = some v ∧ w.cell? ⟨g, 5, none⟩ = some (.int .u16 mb) := by
  simp [World.cell?, h]

/-- What comes of Small's Entry. -/
def SmOut (s : Sm) (v : Value) (w w' : World) (y : Value) : Prop :=
  ∃ v' u', y = s.en.val v' u' ∧ ES w' s.en v' u' ∧ Fr (fun _ => False) w w' ∧ (v' = v ∨ v' = nilS) ∧ (∀ k, u'.ownBlock = some k → w.heap.size ≤ k)

theorem sentry_any (s : Sm) (v : Value) (w : World) (hk : s.ok) (hs : Sees w v s.c.l) :
    Calls Try.prog 11 #[smV s v] w fun e w' => ∃ y, e = .returned y ∧ SmOut s v w w' y := by
  obtain ⟨a, c, hv, hnn⟩ := hs.shape
  subst hv
  obtain ⟨k0, k1, t0, t1, n0, n1, p0, p1, m1⟩ := hk
  have HS := Lib.hid hs
  clear hs hnn
  have q0 := heap_alloc_new w (Obj.cells #[.int .u8 s.kind, .int .u16 s.c.t, .int .u16 s.c.n, .int .u16 s.c.p, .slice a s.c.l.length c, .int .u16 s.mb] 27 (0, 0))
  have f0 : Fr (fun _ => False) w (w.alloc (Obj.cells #[.int .u8 s.kind, .int .u16 s.c.t, .int .u16 s.c.n, .int .u16 s.c.p, .slice a s.c.l.length c, .int .u16 s.mb] 27 (0, 0))) := (Fr.refl _ _).alloc _
  have hz : (w.alloc (Obj.cells #[.int .u8 s.kind, .int .u16 s.c.t, .int .u16 s.c.n, .int .u16 s.c.p, .slice a s.c.l.length c, .int .u16 s.mb] 27 (0, 0))).heap.size = w.heap.size + 1 := by simp
  have q1 := heap_alloc_new (w.alloc (Obj.cells #[.int .u8 s.kind, .int .u16 s.c.t, .int .u16 s.c.n, .int .u16 s.c.p, .slice a s.c.l.length c, .int .u16 s.mb] 27 (0, 0))) (oEn 0 0 0 0 nilS nilS)
  have f1 : Fr (fun _ => False) (w.alloc (Obj.cells #[.int .u8 s.kind, .int .u16 s.c.t, .int .u16 s.c.n, .int .u16 s.c.p, .slice a s.c.l.length c, .int .u16 s.mb] 27 (0, 0))) ((w.alloc (Obj.cells #[.int .u8 s.kind, .int .u16 s.c.t, .int .u16 s.c.n, .int .u16 s.c.p, .slice a s.c.l.length c, .int .u16 s.mb] 27 (0, 0))).alloc (oEn 0 0 0 0 nilS nilS)) := (Fr.refl _ _).alloc _
  rw [hz] at q1
  have Q := Lib.hid (And.intro (crow_kept q0 f1 (fun h => h)) q1)
  have F := Lib.hid (f0.trans f1 (fun _ _ h => h))
  clear q0 q1 f0 f1 hz
  obtain ⟨X, hX⟩ : ∃ X, X = s.en := ⟨_, rfl⟩
  have HX := Lib.hid hX
  unfold SmOut
  rw [← hX]
  clear hX
  obtain ⟨r, hr⟩ : ∃ r, r = s.kind % 3 := ⟨_, rfl⟩
  have hwrap : IntKind.u8.wrap (s.kind % 3) = s.kind % 3 := by rw [IntKind.wrap_u8]; omega
  have hcase : r = 1 ∨ r = 2 ∨ r = 0 := by omega
  have hXr : X = if r = 1 then ⟨1, s.c.t, s.c.n, s.c.p, s.c.l, []⟩ else if r = 2 then ⟨2, 0, 0, 0, [], bitsL s.mb⟩ else En.zero := by rw [HX.out, hr]; rfl
  have HR := Lib.hid hXr
  clear hXr HX
  go_enter Try.func11, Try.ntmps11
  go_upto_region 1 with fail
  generalize (w.alloc (Obj.cells #[.int .u8 s.kind, .int .u16 s.c.t, .int .u16 s.c.n, .int .u16 s.c.p, .slice a s.c.l.length c, .int .u16 s.mb] 27 (0, 0))).alloc (oEn 0 0 0 0 nilS nilS) = w0 at *
  obtain ⟨c00, c01, c02, c03, c04, c05⟩ := sm_cells Q.out.1
  go_upto_region 2 with fail
  have hr2 : s.kind % 3 = r := hr.symm
  try rw [hr2]
  clear hr hr2 hwrap
  rcases hcase with h | h | h
  · subst h
    have hX : X = ⟨1, s.c.t, s.c.n, s.c.p, s.c.l, []⟩ := HR.out
    subst hX
    clear HR
    go_wp2_with fail
    refine (small_any s.c.t s.c.n s.c.p a s.c.l.length c w0 p0 p1).mono ?_
    rintro e w1 ⟨rfl, f1⟩
    unfold cv
    have Q1 := Lib.hid (crow_kept Q.out.2 f1 (fun h => h))
    have F1 := Lib.hid (F.out.trans f1 (fun _ _ h => h))
    clear f1
    obtain ⟨d00, d01, d02, d03, d04, d05⟩ := en_cells Q1.out
    obtain ⟨z00, z01, z02, z03, z04, z05⟩ := vfree6 Q1.out
    go_wp2_with fail
    have hq := cst6 (y0 := .int .u8 1) (y1 := .int .u16 s.c.t) (y2 := .int .u16 s.c.n) (y3 := .int .i64 s.c.p) (y4 := .slice a s.c.l.length c) (y5 := nilS) Q1.out
    have hf := cfr6 (.int .u8 1) (.int .u16 s.c.t) (.int .u16 s.c.n) (.int .i64 s.c.p) (.slice a s.c.l.length c) nilS (b := w.heap.size + 1) F1.out (fun h => absurd h (by omega))
    refine bodyPost_ret (results_cell_row rfl _ _ (w.heap.size + 1) 47 _ _ _ rfl hq Try.underlying47 rfl (by kernel_rfl)) rfl ?_
    exact ⟨_, rfl, _, _, rfl, ⟨HS.out.fr hf (fun _ _ h => h), SI.nil _⟩, hf, .inl rfl, fun k hk => by cases hk⟩
  · subst h
    have hX : X = ⟨2, 0, 0, 0, [], bitsL s.mb⟩ := HR.out
    subst hX
    clear HR
    go_wp2_with fail
    refine (lmembers_any s.mb m1 w0).mono ?_
    rintro e w1 ⟨u, rfl, ho, f1⟩
    have Q1 := Lib.hid (crow_kept Q.out.2 f1 (fun h => h))
    have F1 := Lib.hid (F.out.trans f1 (fun _ _ h => h))
    have HO := Lib.hid ho
    have hsz := F.out.size
    clear f1 ho
    obtain ⟨a1, c1, hu⟩ := slice_of_own HO.out
    subst hu
    obtain ⟨d00, d01, d02, d03, d04, d05⟩ := en_cells Q1.out
    obtain ⟨z00, z01, z02, z03, z04, z05⟩ := vfree6 Q1.out
    go_wp2_with fail
    have hq := cst6 (y0 := .int .u8 2) (y1 := .int .u16 0) (y2 := .int .u16 0) (y3 := .int .i64 0) (y4 := nilS) (y5 := .slice a1 (bitsL s.mb).length c1) Q1.out
    have hf := cfr6 (.int .u8 2) (.int .u16 0) (.int .u16 0) (.int .i64 0) nilS (.slice a1 (bitsL s.mb).length c1) (b := w.heap.size + 1) F1.out (fun h => absurd h (by omega))
    have hf1 := cfr6 (.int .u8 2) (.int .u16 0) (.int .u16 0) (.int .i64 0) nilS (.slice a1 (bitsL s.mb).length c1) (b := w.heap.size + 1) (S := fun k => k = w.heap.size + 1) (Fr.refl _ w1) (fun _ => rfl)
    refine bodyPost_ret (results_cell_row rfl _ _ (w.heap.size + 1) 47 _ _ _ rfl hq Try.underlying47 rfl (by kernel_rfl)) rfl ?_
    have hge := oi_le HO.out
    have hlt : w.heap.size + 1 < w0.heap.size := (Array.getElem?_eq_some_iff.1 Q.out.2).1
    exact ⟨_, rfl, _, _, rfl, ⟨.inl ⟨rfl, _, _, rfl⟩, HO.out.si.keep hf1 (.inr fun k hk e => by have := hge k hk; omega)⟩, hf, .inr rfl, fun k hk => by have := hge k hk; omega⟩
  · subst h
    have hX : X = En.zero := HR.out
    subst hX
    clear HR
    obtain ⟨d00, d01, d02, d03, d04, d05⟩ := en_cells Q.out.2
    obtain ⟨z00, z01, z02, z03, z04, z05⟩ := vfree6 Q.out.2
    go_wp2_with fail
    have hq := cst6 (y0 := .int .u8 0) (y1 := .int .u16 0) (y2 := .int .u16 0) (y3 := .int .i64 0) (y4 := nilS) (y5 := nilS) Q.out.2
    have hf := cfr6 (.int .u8 0) (.int .u16 0) (.int .u16 0) (.int .i64 0) nilS nilS (b := w.heap.size + 1) F.out (fun h => absurd h (by omega))
    refine bodyPost_ret (results_cell_row rfl _ _ (w.heap.size + 1) 47 _ _ _ rfl hq Try.underlying47 rfl (by kernel_rfl)) rfl ?_
    exact ⟨_, rfl, _, _, rfl, es_zero _, hf, .inr rfl, fun k hk => by cases hk⟩

theorem vapart_any (x : En) (v u : Value) (w : World) (h : ES w x v u) (hl : x.l.length ≤ 4000) (hm : x.m.length ≤ 1000) :
    Calls Try.prog 20 #[x.val v u] w fun e w' => ∃ v' u', e = .returned (x.val v' u') ∧ ES w' x v' u' ∧ Fr (fun _ => False) w w' ∧ (∀ k, v'.ownBlock = some k → w.heap.size ≤ k) ∧ (∀ k, u'.ownBlock = some k → w.heap.size ≤ k) := by
  obtain ⟨h1, g1⟩ := h
  obtain ⟨b, d, hu, k1⟩ := g1.shape
  subst hu
  have H1 := Lib.hid h1
  have G1 := Lib.hid k1
  have HL := Lib.hid hl
  have HM := Lib.hid hm
  clear h1 g1 k1 hl hm
  have q0 := heap_alloc_new w (x.obj v (.slice b x.m.length d))
  have f0 : Fr (fun _ => False) w (w.alloc (x.obj v (.slice b x.m.length d))) := (Fr.refl _ _).alloc _
  have hz : (w.alloc (x.obj v (.slice b x.m.length d))).heap.size = w.heap.size + 1 := by simp
  have q1 := heap_alloc_new (w.alloc (x.obj v (.slice b x.m.length d))) (oEn 0 0 0 0 nilS nilS)
  have f1 : Fr (fun _ => False) (w.alloc (x.obj v (.slice b x.m.length d))) ((w.alloc (x.obj v (.slice b x.m.length d))).alloc (oEn 0 0 0 0 nilS nilS)) := (Fr.refl _ _).alloc _
  rw [hz] at q1
  have Q := Lib.hid (And.intro (crow_kept q0 f1 (fun h => h)) q1)
  have F := Lib.hid (f0.trans f1 (fun _ _ h => h))
  clear q0 q1 f0 f1 hz
  go_enter Try.func20, Try.ntmps20
  go_upto_region 1 with fail
  generalize (w.alloc (x.obj v (.slice b x.m.length d))).alloc (oEn 0 0 0 0 nilS nilS) = w0 at *
  obtain ⟨c00, c01, c02, c03, c04, c05⟩ := en_cells Q.out.1
  have hlt : w.heap.size + 1 < w0.heap.size := (Array.getElem?_eq_some_iff.1 Q.out.2).1
  go_wp2_with fail
  refine (clone_any v x.l w0 (H1.out.fr F.out (fun _ _ h => h)) (by have := HL.out; omega)).mono ?_
  rintro e w1 ⟨v', rfl, ho, f1, hge⟩
  have Q1 := Lib.hid (And.intro (crow_kept Q.out.1 f1 (fun h => h)) (crow_kept Q.out.2 f1 (fun h => h)))
  have F1 := Lib.hid (F.out.trans f1 (fun _ _ h => h))
  have HO := Lib.hid ho.sees
  have HG := Lib.hid hge
  have hs1 := f1.size
  clear f1 ho hge c00 c01 c02 c03 c04 c05
  obtain ⟨a', c', hv', hnn⟩ := HO.out.shape
  subst hv'
  clear hnn
  obtain ⟨c00, c01, c02, c03, c04, c05⟩ := en_cells Q1.out.1
  obtain ⟨z00, z01, z02, z03, z04, z05⟩ := vfree6 Q1.out.1
  go_upto_region 2 with fail
  have q2 : (w1.setCell ⟨w.heap.size, 4, none⟩ (.slice a' x.l.length c')).heap[w.heap.size]? = some (x.obj (.slice a' x.l.length c') (.slice b x.m.length d)) := by
    rw [heap_setCell_same w1 w.heap.size 4 _ _ _ Q1.out.1]; rfl
  have f2 : Fr (fun k => k = w.heap.size) w1 (w1.setCell ⟨w.heap.size, 4, none⟩ (.slice a' x.l.length c')) := (Fr.refl (fun k => k = w.heap.size) w1).setCell (p := ⟨w.heap.size, 4, none⟩) (fun _ => rfl) _
  generalize w1.setCell ⟨w.heap.size, 4, none⟩ (.slice a' x.l.length c') = w2 at *
  have Q2 := Lib.hid (And.intro q2 (crow_kept Q1.out.2 f2 (by omega)))
  have F2 := Lib.hid (F1.out.trans f2 (fun k hk e => by omega))
  have HO2 := Lib.hid (HO.out.keep f2 (.inr fun k hk e => by have := HG.out k hk; omega))
  have hs2 := f2.size
  clear q2 f2 Q1 c00 c01 c02 c03 c04 c05 z00 z01 z02 z03 z04 z05 F1 HO
  obtain ⟨c00, c01, c02, c03, c04, c05⟩ := en_cells Q2.out.1
  go_wp2_with fail
  refine (lclone_any x.m b d w2 (G1.out.fr F2.out) HM.out).mono ?_
  rintro e w3 ⟨u', rfl, ho, f3⟩
  obtain ⟨b', d', hu'⟩ := slice_of_own ho
  subst hu'
  have Q3 := Lib.hid (And.intro (crow_kept Q2.out.1 f3 (fun h => h)) (crow_kept Q2.out.2 f3 (fun h => h)))
  have F3 := Lib.hid (F2.out.trans f3 (fun _ _ h => h))
  have HO3 := Lib.hid (HO2.out.fr f3 (fun _ _ h => h))
  have HU := Lib.hid ho
  have hs3 := f3.size
  clear f3 ho Q2 F2 HO2 c00 c01 c02 c03 c04 c05
  obtain ⟨c00, c01, c02, c03, c04, c05⟩ := en_cells Q3.out.1
  obtain ⟨z00, z01, z02, z03, z04, z05⟩ := vfree6 Q3.out.1
  go_upto_region 3 with fail
  have q4 : (w3.setCell ⟨w.heap.size, 5, none⟩ (.slice b' x.m.length d')).heap[w.heap.size]? = some (x.obj (.slice a' x.l.length c') (.slice b' x.m.length d')) := by
    rw [heap_setCell_same w3 w.heap.size 5 _ _ _ Q3.out.1]; rfl
  have f4 : Fr (fun k => k = w.heap.size) w3 (w3.setCell ⟨w.heap.size, 5, none⟩ (.slice b' x.m.length d')) := (Fr.refl (fun k => k = w.heap.size) w3).setCell (p := ⟨w.heap.size, 5, none⟩) (fun _ => rfl) _
  generalize w3.setCell ⟨w.heap.size, 5, none⟩ (.slice b' x.m.length d') = w4 at *
  have Q4 := Lib.hid (And.intro q4 (crow_kept Q3.out.2 f4 (by omega)))
  have F4 := Lib.hid (F3.out.trans f4 (fun k hk e => by omega))
  have HO4 := Lib.hid (HO3.out.keep f4 (.inr fun k hk e => by have := HG.out k hk; omega))
  have HU4 := Lib.hid (HU.out.si.keep f4 (.inr fun k hk e => by have := oi_le HU.out k hk; omega))
  have hs4 := f4.size
  clear q4 f4 Q3 c00 c01 c02 c03 c04 c05 z00 z01 z02 z03 z04 z05 F3 HO3
  obtain ⟨c00, c01, c02, c03, c04, c05⟩ := en_cells Q4.out.1
  obtain ⟨z00, z01, z02, z03, z04, z05⟩ := vfree6 Q4.out.2
  obtain ⟨d00, d01, d02, d03, d04, d05⟩ := en_cells Q4.out.2
  go_wp2_with fail
  have hq := cst6 (y0 := .int .u8 x.k) (y1 := .int .u16 x.t) (y2 := .int .u16 x.n) (y3 := .int .i64 x.p) (y4 := .slice a' x.l.length c') (y5 := .slice b' x.m.length d') Q4.out.2
  have hf := cfr6 (.int .u8 x.k) (.int .u16 x.t) (.int .u16 x.n) (.int .i64 x.p) (.slice a' x.l.length c') (.slice b' x.m.length d') (b := w.heap.size + 1) F4.out (fun h => absurd h (by omega))
  have hf1 := cfr6 (.int .u8 x.k) (.int .u16 x.t) (.int .u16 x.n) (.int .i64 x.p) (.slice a' x.l.length c') (.slice b' x.m.length d') (b := w.heap.size + 1) (S := fun k => k = w.heap.size + 1) (Fr.refl _ w4) (fun _ => rfl)
  refine bodyPost_ret (results_cell_row rfl _ _ (w.heap.size + 1) 47 _ _ _ rfl hq Try.underlying47 rfl (by kernel_rfl)) rfl ?_
  exact ⟨_, _, rfl, ⟨HO4.out.keep hf1 (.inr fun k hk e => by have := HG.out k hk; omega), HU4.out.keep hf1 (.inr fun k hk e => by have := oi_le HU.out k hk; omega)⟩, hf, fun k hk => by have := HG.out k hk; omega, fun k hk => by have := oi_le HU.out k hk; omega⟩
end
section
theorem qmode_gc : (Region.Mode.any == Region.Mode.gc) = false := rfl

def qptr (g : Nat) : Value := .pointer (some ⟨g, 0, none⟩)
theorem qptr_inj {g g' : Nat} (h : qptr g = qptr g') : g = g' := by unfold qptr at h; simpa using h
def qupd (st : Nat → Option Value) (i : Nat) (v : Value) : Nat → Option Value := fun j => if j = i then some v else st j
theorem qupd_at (st : Nat → Option Value) (i : Nat) (v : Value) : qupd st i v i = some v := by unfold qupd; rw [if_pos rfl]
theorem qupd_ne (st : Nat → Option Value) (i j : Nat) (v : Value) (h : j ≠ i) : qupd st i v j = st j := by unfold qupd; rw [if_neg h]

/-- Two blocks made since w, of these cells. -/
def Two (w : World) (x y : Value) (cx cy : Array Value) (tx ty : TypeId) (wx : World) : Prop :=
  ∃ g1 g2, x = .pointer (some ⟨g1, 0, none⟩) ∧ y = .pointer (some ⟨g2, 0, none⟩) ∧ g1 ≠ g2 ∧ w.heap.size ≤ g1 ∧ w.heap.size ≤ g2 ∧ Fr (fun _ => False) w wx ∧ wx.heap[g1]? = some (.cells cx tx (0, 0)) ∧ wx.heap[g2]? = some (.cells cy ty (0, 0))

structure PX (tx ty : TypeId) (zx zy cx cy : Array Value) (a1 a2 s1 s2 : Nat) (w : World) (st : Nat → Option Value) (wx : World) : Prop where
  fr : Fr (fun _ => False) w wx
  p1 : ∀ v, st a1 = some v → ∃ g, v = qptr g ∧ w.heap.size ≤ g ∧ wx.heap[g]? = some (.cells (if (st s1).isNone then zx else cx) tx (0, 0))
  p2 : ∀ v, st a2 = some v → ∃ g, v = qptr g ∧ w.heap.size ≤ g ∧ wx.heap[g]? = some (.cells (if (st s2).isNone then zy else cy) ty (0, 0))
  ne : ∀ v, st a1 = some v → st a2 ≠ some v

theorem kept_box {S : Nat → Prop} {w0 w1 : World} {b : Nat} {o : Obj} (h : w0.heap[b]? = some o) (f : Fr S w0 w1) (hb : ¬ S b) : w1.heap[b]? = some o := by
  rw [f.block b (Array.getElem?_eq_some_iff.1 h).1 hb]; exact h

theorem qfree {w : World} {b : Nat} {cs : Array Value} {t : TypeId} (h : w.heap[b]? = some (.cells cs t (0, 0))) (i : Nat) : w.frozen? ⟨b, i, none⟩ = false := by
  simp [World.frozen?, h]
theorem qrow {w : World} {b : Nat} {cs : Array Value} {t : TypeId} (h : w.heap[b]? = some (.cells cs t (0, 0))) (i : Nat) (u : Value) (hu : cs[i]? = some u) : w.cell? ⟨b, i, none⟩ = some u := by
  simp only [World.cell?, h]
  simpa using hu

section
variable {tx ty : TypeId} {zx zy cx cy : Array Value} {a1 a2 s1 s2 : Nat} {w wx wy : World} {st : Nat → Option Value}

theorem PX.start : PX tx ty zx zy cx cy a1 a2 s1 s2 w (fun _ => none) w.drew :=
  ⟨(Fr.refl _ _).drew, fun v h => (by cases h), fun v h => (by cases h), fun v h => (by cases h)⟩

theorem PX.call (h : PX tx ty zx zy cx cy a1 a2 s1 s2 w st wx) (i : Nat) (v : Value) (f : Fr (fun _ => False) wx wy) (h1 : i ≠ a1) (h2 : i ≠ a2) (h3 : i ≠ s1) (h4 : i ≠ s2) : PX tx ty zx zy cx cy a1 a2 s1 s2 w (qupd st i v) wy := by
  refine ⟨h.fr.trans f (fun _ _ h => h), fun u hu => ?_, fun u hu => ?_, fun u hu => ?_⟩
  · rw [qupd_ne _ _ _ _ h1.symm] at hu
    obtain ⟨g, e, hg, hc⟩ := h.p1 u hu
    exact ⟨g, e, hg, by rw [qupd_ne _ _ _ _ h3.symm]; exact kept_box hc f (fun h => h)⟩
  · rw [qupd_ne _ _ _ _ h2.symm] at hu
    obtain ⟨g, e, hg, hc⟩ := h.p2 u hu
    exact ⟨g, e, hg, by rw [qupd_ne _ _ _ _ h4.symm]; exact kept_box hc f (fun h => h)⟩
  · rw [qupd_ne _ _ _ _ h1.symm] at hu
    rw [qupd_ne _ _ _ _ h2.symm]
    exact h.ne u hu

theorem PX.alloc1 (h : PX tx ty zx zy cx cy a1 a2 s1 s2 w st wx) (h0 : st s1 = none) (h2 : a1 ≠ a2) (h3 : a1 ≠ s1) (h4 : a1 ≠ s2) : PX tx ty zx zy cx cy a1 a2 s1 s2 w (qupd st a1 (.pointer (some ⟨wx.heap.size, 0, none⟩))) (wx.alloc (.cells zx tx)) := by
  have f : Fr (fun _ => False) wx (wx.alloc (.cells zx tx)) := (Fr.refl _ _).alloc _
  refine ⟨h.fr.trans f (fun _ _ h => h), fun u hu => ?_, fun u hu => ?_, fun u hu => ?_⟩
  · rw [qupd_at] at hu
    cases hu
    refine ⟨_, rfl, h.fr.size, ?_⟩
    rw [qupd_ne _ _ _ _ h3.symm, h0]
    exact heap_alloc_new wx _
  · rw [qupd_ne _ _ _ _ h2.symm] at hu
    obtain ⟨g, e, hg, hc⟩ := h.p2 u hu
    exact ⟨g, e, hg, by rw [qupd_ne _ _ _ _ h4.symm]; exact kept_box hc f (fun h => h)⟩
  · rw [qupd_at] at hu
    cases hu
    rw [qupd_ne _ _ _ _ h2.symm]
    intro hu
    obtain ⟨g, e, hg, hc⟩ := h.p2 _ hu
    have := qptr_inj e
    have := (Array.getElem?_eq_some_iff.1 hc).1
    omega

theorem PX.alloc2 (h : PX tx ty zx zy cx cy a1 a2 s1 s2 w st wx) (h0 : st s2 = none) (h2 : a1 ≠ a2) (h3 : a2 ≠ s1) (h4 : a2 ≠ s2) : PX tx ty zx zy cx cy a1 a2 s1 s2 w (qupd st a2 (.pointer (some ⟨wx.heap.size, 0, none⟩))) (wx.alloc (.cells zy ty)) := by
  have f : Fr (fun _ => False) wx (wx.alloc (.cells zy ty)) := (Fr.refl _ _).alloc _
  refine ⟨h.fr.trans f (fun _ _ h => h), fun u hu => ?_, fun u hu => ?_, fun u hu => ?_⟩
  · rw [qupd_ne _ _ _ _ h2] at hu
    obtain ⟨g, e, hg, hc⟩ := h.p1 u hu
    exact ⟨g, e, hg, by rw [qupd_ne _ _ _ _ h3.symm]; exact kept_box hc f (fun h => h)⟩
  · rw [qupd_at] at hu
    cases hu
    refine ⟨_, rfl, h.fr.size, ?_⟩
    rw [qupd_ne _ _ _ _ h4.symm, h0]
    exact heap_alloc_new wx _
  · rw [qupd_ne _ _ _ _ h2] at hu
    rw [qupd_at]
    intro hv
    cases hv
    obtain ⟨g, e, hg, hc⟩ := h.p1 _ hu
    have := qptr_inj e
    have := (Array.getElem?_eq_some_iff.1 hc).1
    omega

theorem PX.at1 (h : PX tx ty zx zy cx cy a1 a2 s1 s2 w st wx) (h0 : st s1 = none) {v : Value} (hv : st a1 = some v) : ∃ g, v = .pointer (some ⟨g, 0, none⟩) ∧ wx.heap[g]? = some (.cells zx tx (0, 0)) := by
  obtain ⟨g, e, _, hc⟩ := h.p1 v hv
  rw [h0] at hc
  exact ⟨g, e, hc⟩
theorem PX.at2 (h : PX tx ty zx zy cx cy a1 a2 s1 s2 w st wx) (h0 : st s2 = none) {v : Value} (hv : st a2 = some v) : ∃ g, v = .pointer (some ⟨g, 0, none⟩) ∧ wx.heap[g]? = some (.cells zy ty (0, 0)) := by
  obtain ⟨g, e, _, hc⟩ := h.p2 v hv
  rw [h0] at hc
  exact ⟨g, e, hc⟩

theorem PX.store1 (h : PX tx ty zx zy cx cy a1 a2 s1 s2 w st wx) {g : Nat} (hv : st a1 = some (.pointer (some ⟨g, 0, none⟩))) (u : Value) (h1 : s1 ≠ a1) (h2 : s1 ≠ a2) (h3 : s1 ≠ s2)
    (hy : wy.heap[g]? = some (.cells cx tx (0, 0))) (f : Fr (fun k => k = g) wx wy) : PX tx ty zx zy cx cy a1 a2 s1 s2 w (qupd st s1 u) wy := by
  obtain ⟨g', e, hg, _⟩ := h.p1 _ hv
  obtain rfl := qptr_inj (g := g) e
  refine ⟨h.fr.trans f (fun i hi e => by omega), fun x hx => ?_, fun x hx => ?_, fun x hx => ?_⟩
  · rw [qupd_ne _ _ _ _ h1.symm, hv] at hx
    cases hx
    refine ⟨g, rfl, hg, ?_⟩
    rw [qupd_at]
    exact hy
  · rw [qupd_ne _ _ _ _ h2.symm] at hx
    obtain ⟨g', e, hg', hc⟩ := h.p2 x hx
    refine ⟨g', e, hg', ?_⟩
    rw [qupd_ne _ _ _ _ h3.symm]
    refine kept_box hc f (fun e' => h.ne _ hv ?_)
    rw [hx, e, e']
    rfl
  · rw [qupd_ne _ _ _ _ h1.symm] at hx
    rw [qupd_ne _ _ _ _ h2.symm]
    exact h.ne x hx

theorem PX.store2 (h : PX tx ty zx zy cx cy a1 a2 s1 s2 w st wx) {g : Nat} (hv : st a2 = some (.pointer (some ⟨g, 0, none⟩))) (u : Value) (h1 : s2 ≠ a1) (h2 : s2 ≠ a2) (h3 : s2 ≠ s1)
    (hy : wy.heap[g]? = some (.cells cy ty (0, 0))) (f : Fr (fun k => k = g) wx wy) : PX tx ty zx zy cx cy a1 a2 s1 s2 w (qupd st s2 u) wy := by
  obtain ⟨g', e, hg, _⟩ := h.p2 _ hv
  obtain rfl := qptr_inj (g := g) e
  refine ⟨h.fr.trans f (fun i hi e => by omega), fun x hx => ?_, fun x hx => ?_, fun x hx => ?_⟩
  · rw [qupd_ne _ _ _ _ h1.symm] at hx
    obtain ⟨g', e, hg', hc⟩ := h.p1 x hx
    refine ⟨g', e, hg', ?_⟩
    rw [qupd_ne _ _ _ _ h3.symm]
    refine kept_box hc f (fun e' => h.ne _ hx ?_)
    rw [hv, e, e']
    rfl
  · rw [qupd_ne _ _ _ _ h2.symm, hv] at hx
    cases hx
    refine ⟨g, rfl, hg, ?_⟩
    rw [qupd_at]
    exact hy
  · rw [qupd_ne _ _ _ _ h1.symm] at hx
    rw [qupd_ne _ _ _ _ h2.symm]
    exact h.ne x hx

theorem PX.fin (h : PX tx ty zx zy cx cy a1 a2 s1 s2 w st wx) {x y u v : Value} (e1 : st a1 = some x) (e2 : st a2 = some y) (e3 : st s1 = some u) (e4 : st s2 = some v) : Two w x y cx cy tx ty wx := by
  obtain ⟨g1, e, hg1, hc1⟩ := h.p1 _ e1
  obtain ⟨g2, e', hg2, hc2⟩ := h.p2 _ e2
  rw [e3] at hc1
  rw [e4] at hc2
  refine ⟨g1, g2, e, e', fun hh => h.ne _ e1 (by rw [e2, e, e', hh]), hg1, hg2, h.fr, hc1, hc2⟩
end
end
end Go.Proofs.Ytcjfinabffpgkaa
