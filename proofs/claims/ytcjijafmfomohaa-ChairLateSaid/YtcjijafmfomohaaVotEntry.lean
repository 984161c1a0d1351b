/-
  Entries: which are the same, which may be, entries of small numbers, entries with lists of their own.
-/
import Derived.Test.YtcjijafmfomohaaCallArg
import Derived.Test.YtcjijafmfomohaaTrBits
import Derived.Test.YtcjijafmfomohaaRegionL
namespace Go.Proofs.Ytcjijafmfomohaa
open Go.RowKit
set_option maxRecDepth 100000

/-- An entry, a ballot, a voter's block. -/
abbrev ev (k t n p : Int) (v u : Value) : Value := .agg #[.int .u8 k, .int .u16 t, .int .u16 n, .int .i64 p, v, u]
abbrev ball (r n : Int) : Value := .agg #[.int .i64 r, .int .i64 n]
abbrev oBa (r n : Int) : Obj := Obj.cells #[.int .i64 r, .int .i64 n] 40 (0, 0)
abbrev oEn (k t n p : Int) (v u : Value) : Obj := Obj.cells #[.int .u8 k, .int .u16 t, .int .u16 n, .int .i64 p, v, u] 47 (0, 0)
abbrev nilS : Value := .slice none 0 0
abbrev eZ : Value := ev 0 0 0 0 nilS nilS

structure En where
  k : Int
  t : Int
  n : Int
  p : Int
  l : List UInt8
  m : List Int

abbrev En.val (x : En) (v u : Value) : Value := ev x.k x.t x.n x.p v u
abbrev En.obj (x : En) (v u : Value) : Obj := oEn x.k x.t x.n x.p v u
def En.zero : En := ⟨0, 0, 0, 0, [], []⟩

def En.same (x y : En) : Bool := decide (x.k = y.k ∧ (x.t = y.t ∧ x.n = y.n ∧ x.p = y.p ∧ x.l = y.l) ∧ x.m = y.m)
theorem En.same_iff (x y : En) : x.same y = true ↔ x = y := by
  unfold En.same
  cases x; cases y
  simp [and_assoc]
theorem En.same_refl (x : En) : x.same x = true := (En.same_iff x x).2 rfl

/-- The value of x, of these two slices, shows x. -/
def ES (w : World) (x : En) (v u : Value) : Prop := Sees w v x.l ∧ SI w u x.m

theorem ES.fr {w w' : World} {x : En} {v u : Value} (h : ES w x v u) (hf : Fr (fun _ => False) w w') : ES w' x v u := ⟨h.1.fr hf (fun _ _ h => h), h.2.fr hf⟩

theorem es_zero (w : World) : ES w En.zero nilS nilS := ⟨.inl ⟨rfl, _, _, rfl⟩, .inl ⟨rfl, _, _, rfl⟩⟩

theorem en_cells {w : World} {g : Nat} {k t n p : Int} {v u : Value} {T : TypeId} (h : w.heap[g]? = some (Obj.cells #[.int .u8 k, .int .u16 t, .int .u16 n, .int .i64 p, v, u] T (0, 0))) :
    w.cell? ⟨g, 0, none⟩ = some (.int .u8 k) ∧ w.cell? ⟨g, 1, none⟩ = some (.int .u16 t) ∧ w.cell? ⟨g, 2, none⟩ = some (.int .u16 n) ∧ w.cell? ⟨g, 3, none⟩ = some (.int .i64 p) ∧ w.cell? ⟨g, 4, none⟩ = some v ∧ w.cell? ⟨g, 5, none⟩ = some u := by
  simp [World.cell?, h]

set_option maxHeartbeats 8000000 in
theorem vsame_any (x y : En) (v u v' u' : Value) (w : World) (h1 : ES w x v u) (h2 : ES w y v' u') (hs : x.m.length ≤ 1000) :
    Calls Try.prog 18 #[x.val v u, y.val v' u'] w fun e w' => e = .returned (.bool (x.same y)) ∧ Fr (fun _ => False) w w' := by
  obtain ⟨h1, g1⟩ := h1
  obtain ⟨h2, g2⟩ := h2
  have H1 := Lib.hid h1
  have H2 := Lib.hid h2
  obtain ⟨a, c, hu, k1⟩ := g1.shape
  obtain ⟨b, d, hu', k2⟩ := g2.shape
  subst hu hu'
  have G1 := Lib.hid k1
  have G2 := Lib.hid k2
  have HS := Lib.hid hs
  clear h1 h2 g1 g2 k1 k2 hs
  have q0 := heap_alloc_new w (x.obj v (.slice a x.m.length c))
  have q1 := heap_alloc_new (w.alloc (x.obj v (.slice a x.m.length c))) (y.obj v' (.slice b y.m.length d))
  have f0 : Fr (fun _ => False) w (w.alloc (x.obj v (.slice a x.m.length c))) := (Fr.refl _ _).alloc _
  have f1 : Fr (fun _ => False) (w.alloc (x.obj v (.slice a x.m.length c))) ((w.alloc (x.obj v (.slice a x.m.length c))).alloc (y.obj v' (.slice b y.m.length d))) := (Fr.refl _ _).alloc _
  have q0' := crow_kept q0 f1 (fun h => h)
  have hz : (w.alloc (x.obj v (.slice a x.m.length c))).heap.size = w.heap.size + 1 := by simp
  rw [hz] at q1
  have F := Lib.hid (f0.trans f1 (fun _ _ h => h))
  have Q := Lib.hid (And.intro q0' q1)
  clear q0 q1 q0' f0 f1 hz
  have HE : Hid (∀ B, (decide (x.k = y.k) && (decide (x.t = y.t ∧ x.n = y.n ∧ x.p = y.p ∧ x.l = y.l) && decide (x.m = y.m))) = B → Ending.returned (.bool B) = .returned (.bool (x.same y))) := Lib.hid (by
    rintro B rfl
    unfold En.same
    congr 2
    simp only [Bool.decide_and])
  go_enter Try.func18, Try.ntmps18
  go_upto_region 1 with fail
  generalize (w.alloc (x.obj v (.slice a x.m.length c))).alloc (y.obj v' (.slice b y.m.length d)) = w0 at *
  obtain ⟨c00, c01, c02, c03, c04, c05⟩ := en_cells Q.out.1
  obtain ⟨c10, c11, c12, c13, c14, c15⟩ := en_cells Q.out.2
  go_wp2_with fail
  case isTrue =>
    have HK : Hid (x.k = y.k) := Lib.hid (by first | assumption | omega)
    obtain ⟨B, hB⟩ : ∃ B, B = decide (x.t = y.t ∧ x.n = y.n ∧ x.p = y.p ∧ x.l = y.l) := ⟨_, rfl⟩
    have HB := Lib.hid hB
    refine (csame_any x.t x.n x.p y.t y.n y.p v v' x.l y.l w0 (H1.out.fr F.out (fun _ _ h => h)) (H2.out.fr F.out (fun _ _ h => h))).mono ?_
    rintro e w1 ⟨rfl, f1⟩
    rw [← hB]
    clear hB
    have Q1 := Lib.hid (And.intro (crow_kept Q.out.1 f1 (fun h => h)) (crow_kept Q.out.2 f1 (fun h => h)))
    have F1 := Lib.hid (F.out.trans f1 (fun _ _ h => h))
    clear f1 c00 c01 c02 c03 c04 c05 c10 c11 c12 c13 c14 c15
    obtain ⟨c00, c01, c02, c03, c04, c05⟩ := en_cells Q1.out.1
    obtain ⟨c10, c11, c12, c13, c14, c15⟩ := en_cells Q1.out.2
    cases B with
    | true =>
      go_wp2_with fail
      refine (lequal_any x.m y.m a b c d w1 (G1.out.fr F1.out) (G2.out.fr F1.out) HS.out).mono ?_
      rintro e w2 ⟨rfl, f2⟩
      have F2 := Lib.hid (F1.out.trans f2 (fun _ _ h => h))
      clear f2
      go_wp2_with fail
      go_ret
      exact ⟨HE.out _ (by rw [← HB.out, decide_eq_true HK.out]; rfl), F2.out⟩
    | false =>
      go_wp2_with fail
      go_ret
      exact ⟨HE.out _ (by rw [← HB.out]; simp), F1.out⟩
  all_goals
    go_ret
    refine ⟨HE.out _ ?_, F.out⟩
    have hk : ¬ x.k = y.k := by assumption
    simp [hk]
