/-
  LetAny, part 15 of what it rests on: LetAll, LetSame, LetAwake, LetArg, LetSpec.
-/
import Derived.Test.YtjnbpgadgdjobaaS14
import Derived.Test.YtjnbpgadgdjobaaS07
import Derived.Test.YtjnbpgadgdjobaaS13
import Derived.Test.YtjnbpgadgdjobaaS09
set_option linter.unusedVariables false
set_option linter.unusedSimpArgs false
set_option maxHeartbeats 64000000
namespace Go.Proofs.Ytjnbpgadgdjobaa
open Go.RowKit
open Go.Lib (hid)
section
set_option maxRecDepth 100000

def EnP (b : Nat) (w : World) (x : En) (v : Value) : Prop := ∃ a c a' c', v = x.val (.slice a x.l.length c) (.slice a' x.m.length c') ∧ ES w x (.slice a x.l.length c) (.slice a' x.m.length c') ∧ Away b x (.slice a x.l.length c) (.slice a' x.m.length c')
def SiP (b : Nat) (w : World) (l : List Int) (v : Value) : Prop := ∃ a c, v = .slice a l.length c ∧ SI w (.slice a l.length c) l ∧ (Value.slice a l.length c).ownBlock ≠ some b
def VwP (b : Nat) (w : World) (n : Int) (l : List Int) (v : Value) : Prop := ∃ a c, v = .agg #[.int .i64 n, .slice a l.length c] ∧ SI w (.slice a l.length c) l ∧ (Value.slice a l.length c).ownBlock ≠ some b
def LtP (b : Nat) (w : World) (x : Lt) (v : Value) : Prop := ∃ s, v = .agg (x.cs s) ∧ LS w x s ∧ Far b x s

theorem EnP.fr {b : Nat} {w w' : World} {x : En} {v : Value} (h : EnP b w x v) (f : Fr (fun k => k = b) w w') : EnP b w' x v := by
  obtain ⟨a, c, a', c', h1, h2, h3⟩ := h
  exact ⟨a, c, a', c', h1, h2.keep h3 f, h3⟩
theorem SiP.fr {b : Nat} {w w' : World} {l : List Int} {v : Value} (h : SiP b w l v) (f : Fr (fun k => k = b) w w') : SiP b w' l v := by
  obtain ⟨a, c, h1, h2, h3⟩ := h
  exact ⟨a, c, h1, h2.keep f (.inr fun k hk e => h3 (by rw [hk, e])), h3⟩
theorem VwP.fr {b : Nat} {w w' : World} {n : Int} {l : List Int} {v : Value} (h : VwP b w n l v) (f : Fr (fun k => k = b) w w') : VwP b w' n l v := by
  obtain ⟨a, c, h1, h2, h3⟩ := h
  exact ⟨a, c, h1, h2.keep f (.inr fun k hk e => h3 (by rw [hk, e])), h3⟩
theorem LtP.fr {b : Nat} {w w' : World} {x : Lt} {v : Value} (h : LtP b w x v) (f : Fr (fun k => k = b) w w') : LtP b w' x v := by
  obtain ⟨s, h1, h2, h3⟩ := h
  exact ⟨s, h1, h2.keepF f h3, h3⟩

/-- What the operations of All leave. -/
def AllL (g g2 : Nat) (y : S17) (L : Lt) (k8 f16 t16 nd16 ls16 : Int) (a1 a2 a3 : Option Addr) (m1 m2 m3 : Nat) : List (Value → World → Prop) :=
  [fun v _ => v = .pointer (some ⟨g, 0, none⟩), fun v _ => v = .int .u8 y.k, fun v _ => v = .int .u8 k8, fun v _ => v = .pointer (some ⟨g, 1, none⟩), fun v _ => v = .int .u8 y.f, fun v _ => v = .int .u8 f16, fun v _ => v = .int .i64 f16, fun v _ => v = .pointer (some ⟨g, 2, none⟩), fun v _ => v = .int .u8 y.t, fun v _ => v = .int .u8 t16, fun v _ => v = .int .i64 t16, fun v _ => v = .pointer (some ⟨g, 3, none⟩), fun v _ => v = .int .u32 y.p, fun v _ => v = .int .i64 y.p, fun v _ => v = .pointer (some ⟨g, 4, none⟩), fun v _ => v = .int .u32 y.r, fun v _ => v = .int .i64 y.r, fun v _ => v = .pointer (some ⟨g, 6, none⟩), fun v _ => v = .int .u8 y.nd, fun v _ => v = .int .u8 nd16, fun v _ => v = .int .i64 nd16, fun v _ => v = .agg #[.int .i64 y.r, .int .i64 nd16], fun v _ => v = .pointer (some ⟨g, 5, none⟩), fun v _ => v = .int .u32 y.bf, fun v _ => v = .int .i64 y.bf, fun v _ => v = .pointer (some ⟨g, 7, none⟩), fun v _ => v = .int .u8 y.ls, fun v _ => v = .int .u8 ls16, fun v _ => v = .int .i64 ls16, fun v _ => v = .agg #[.int .i64 y.bf, .int .i64 ls16], fun v _ => v = .pointer (some ⟨g, 8, none⟩), fun v _ => v = .bool y.some, fun v _ => v = .pointer (some ⟨g, 9, none⟩), fun v _ => v = smV y.e (.slice a1 y.e.c.l.length m1), fun v w => EnP g2 w y.e.en v, fun v _ => v = .pointer (some ⟨g, 19, none⟩), fun v _ => v = .int .u32 y.vw, fun v _ => v = .int .i64 y.vw, fun v _ => v = .pointer (some ⟨g, 20, none⟩), fun v _ => v = .int .u16 y.mb, fun v w => SiP g2 w (bitsL y.mb) v, fun v w => VwP g2 w y.vw (bitsL y.mb) v, fun v _ => v = .pointer (some ⟨g, 15, none⟩), fun v _ => v = .agg #[.int .u16 y.c.t, .int .u16 y.c.n, .int .u16 y.c.p, .slice a2 y.c.l.length m2], fun v _ => v = .agg #[.int .u16 y.c.t, .int .u16 y.c.n, .int .i64 y.c.p, .slice a2 y.c.l.length m2], fun v _ => v = .pointer (some ⟨g, 21, none⟩), fun v _ => v = .int .u16 y.tr, fun v _ => v = .pointer (some ⟨g, 22, none⟩), fun v _ => v = .int .u16 y.nm, fun v _ => v = .agg #[.int .u16 y.tr, .int .u16 y.nm], fun v _ => v = .pointer (some ⟨g, 23, none⟩), fun v _ => v = .agg #[.int .u16 y.a.e, .int .u16 y.a.r, .slice a3 y.a.l.length m3], fun v _ => v = .agg #[.int .i64 y.a.e, .int .i64 y.a.r, .slice a3 y.a.l.length m3], fun v w => LtP g2 w L v, fun _ w => ∃ s, w.heap[g2]? = some (oLt L s) ∧ LS w L s]

/-- Of two worlds: only block b may differ, and if it does, it is the last operation's. -/
def LeA (b : Nat) (wa wb : World) : Prop := Fr (fun k => k = b) wa wb

theorem AllL_mono (g g2 : Nat) (y : S17) (L : Lt) (k8 f16 t16 nd16 ls16 : Int) (a1 a2 a3 : Option Addr) (m1 m2 m3 : Nat) : ∀ (i : Nat) (v : Value) (w w' : World), i ≠ 54 → Fr (fun k => k = g2) w w' → (AllL g g2 y L k8 f16 t16 nd16 ls16 a1 a2 a3 m1 m2 m3).getD i (fun _ _ => True) v w → (AllL g g2 y L k8 f16 t16 nd16 ls16 a1 a2 a3 m1 m2 m3).getD i (fun _ _ => True) v w' := by
  intro i v w w' hi f
  match i with
  | 0 => exact id
  | 1 => exact id
  | 2 => exact id
  | 3 => exact id
  | 4 => exact id
  | 5 => exact id
  | 6 => exact id
  | 7 => exact id
  | 8 => exact id
  | 9 => exact id
  | 10 => exact id
  | 11 => exact id
  | 12 => exact id
  | 13 => exact id
  | 14 => exact id
  | 15 => exact id
  | 16 => exact id
  | 17 => exact id
  | 18 => exact id
  | 19 => exact id
  | 20 => exact id
  | 21 => exact id
  | 22 => exact id
  | 23 => exact id
  | 24 => exact id
  | 25 => exact id
  | 26 => exact id
  | 27 => exact id
  | 28 => exact id
  | 29 => exact id
  | 30 => exact id
  | 31 => exact id
  | 32 => exact id
  | 33 => exact id
  | 34 => exact fun h => EnP.fr h f
  | 35 => exact id
  | 36 => exact id
  | 37 => exact id
  | 38 => exact id
  | 39 => exact id
  | 40 => exact fun h => SiP.fr h f
  | 41 => exact fun h => VwP.fr h f
  | 42 => exact id
  | 43 => exact id
  | 44 => exact id
  | 45 => exact id
  | 46 => exact id
  | 47 => exact id
  | 48 => exact id
  | 49 => exact id
  | 50 => exact id
  | 51 => exact id
  | 52 => exact id
  | 53 => exact fun h => LtP.fr h f
  | 54 => exact absurd rfl hi
  | n + 55 => exact fun _ => trivial

theorem AllL_mono0 (g g2 : Nat) (y : S17) (L : Lt) (k8 f16 t16 nd16 ls16 : Int) (a1 a2 a3 : Option Addr) (m1 m2 m3 : Nat) : ∀ (i : Nat) (v : Value) (w w' : World), Fr (fun _ => False) w w' → (AllL g g2 y L k8 f16 t16 nd16 ls16 a1 a2 a3 m1 m2 m3).getD i (fun _ _ => True) v w → (AllL g g2 y L k8 f16 t16 nd16 ls16 a1 a2 a3 m1 m2 m3).getD i (fun _ _ => True) v w' := by
  intro i v w w' f
  by_cases hi : i = 54
  · subst hi
    rintro ⟨s, h1, h2⟩
    exact ⟨s, crow_kept h1 f (fun h => h), h2.fr f⟩
  · exact AllL_mono g g2 y L k8 f16 t16 nd16 ls16 a1 a2 a3 m1 m2 m3 i v w w' hi (f.mono (fun _ _ h => h.elim))

theorem s17_old {w w0 wx : World} {v : Value} {l : List UInt8} {g g2 : Nat} (h : SeesO w v l) (f : Fr (fun _ => False) w w0) (f2 : Fr (fun k => k = g2) w0 wx) (hG : g = w.heap.size ∧ g2 = w.heap.size + 1 ∧ g2 < w0.heap.size) : Sees wx v l := by
  rcases h.2 with e | e
  · exact h.1.none e
  · exact (h.1.fr f (fun _ _ h => h)).fr f2 (fun k hk e' => by have := e k hk; omega)
theorem s17_far {w w0 : World} {v : Value} {l : List UInt8} {g g2 : Nat} (h : SeesO w v l) (hG : g = w.heap.size ∧ g2 = w.heap.size + 1 ∧ g2 < w0.heap.size) : l = [] ∨ v.ownBlock ≠ some g2 := by
  rcases h.2 with e | e
  · exact .inl e
  · exact .inr (fun e' => by have := e _ e'; omega)
theorem en_nil {s : Sm} (h : s.c.l = []) : s.en.l = [] := by
  unfold Sm.en
  split
  · exact h
  · split <;> rfl
theorem en_p {w w0 wx wa : World} {s : Sm} {v v' u' : Value} {g g2 : Nat} (h : SeesO w v s.c.l) (hG : g = w.heap.size ∧ g2 = w.heap.size + 1 ∧ g2 < w0.heap.size) (hsz : w0.heap.size ≤ wx.heap.size) (hes : ES wa s.en v' u') (hv : v' = v ∨ v' = nilS) (hu : ∀ k, u'.ownBlock = some k → wx.heap.size ≤ k) : EnP g2 wa s.en (s.en.val v' u') := by
  obtain ⟨a, c, e1, -⟩ := hes.1.shape
  obtain ⟨a', c', e2, -⟩ := hes.2.shape
  subst e1 e2
  refine ⟨a, c, a', c', rfl, hes, ?_, .inr (fun e => by have := hu _ e; omega)⟩
  rcases hv with hv | hv
  · rcases h.2 with e | e
    · exact .inl (en_nil e)
    · exact .inr (fun e' => by rw [hv] at e'; have := e _ e'; omega)
  · exact .inr (fun e' => by rw [hv] at e'; cases e')
theorem si_p {w wa : World} {l : List Int} {v : Value} {g2 : Nat} (h : OI wa w.heap.size v l) (hg : g2 < w.heap.size) : SiP g2 wa l v := by
  have hs := h.si
  have hlt := fun k hk => (World.ownsRow.lt h k hk).1
  obtain ⟨a, c, e1, -⟩ := hs.shape
  subst e1
  exact ⟨a, c, rfl, hs, fun e => by have := hlt _ e; omega⟩

theorem sall_any (y : S17) (ve vc va : Value) (w : World) (hy : y.ok) (hs : S17S w y ve vc va) :
    Calls Try.prog 11 #[.agg (y.cs ve vc va)] w fun e w' => ∃ s', e = .returned (.agg (y.all.cs s')) ∧ LS w' y.all s' ∧ Fr (fun _ => False) w w' := by
  obtain ⟨a1, m1, e1, -⟩ := hs.e.1.shape
  obtain ⟨a2, m2, e2, -⟩ := hs.c.1.shape
  obtain ⟨a3, m3, e3, -⟩ := hs.a.1.shape
  subst e1 e2 e3
  have q0 := heap_alloc_new w (oS17 y (.slice a1 y.e.c.l.length m1) (.slice a2 y.c.l.length m2) (.slice a3 y.a.l.length m3))
  have q1 := new_two w (oS17 y (.slice a1 y.e.c.l.length m1) (.slice a2 y.c.l.length m2) (.slice a3 y.a.l.length m3)) (zLt 0 0 0)
  have f1 : Fr (fun _ => False) (w.alloc (oS17 y (.slice a1 y.e.c.l.length m1) (.slice a2 y.c.l.length m2) (.slice a3 y.a.l.length m3))) ((w.alloc (oS17 y (.slice a1 y.e.c.l.length m1) (.slice a2 y.c.l.length m2) (.slice a3 y.a.l.length m3))).alloc (zLt 0 0 0)) := (Fr.refl _ _).alloc _
  have f2 := ((Fr.refl (fun _ => False) w).alloc (oS17 y (.slice a1 y.e.c.l.length m1) (.slice a2 y.c.l.length m2) (.slice a3 y.a.l.length m3))).trans f1 (fun _ _ h => h)
  have Q := Lib.hid (And.intro (crow_kept q0 f1 (fun h => h)) q1)
  have F := Lib.hid f2
  have HS := Lib.hid hs
  have HY := Lib.hid hy
  clear q0 q1 f1 f2 hs hy
  obtain ⟨k8, hk8⟩ : ∃ n, n = y.k % 8 := ⟨_, rfl⟩
  obtain ⟨f16, hf16⟩ : ∃ n, n = y.f % 16 := ⟨_, rfl⟩
  obtain ⟨t16, ht16⟩ : ∃ n, n = y.t % 16 := ⟨_, rfl⟩
  obtain ⟨nd16, hnd16⟩ : ∃ n, n = y.nd % 16 := ⟨_, rfl⟩
  obtain ⟨ls16, hls16⟩ : ∃ n, n = y.ls % 16 := ⟨_, rfl⟩
  obtain ⟨L, hL⟩ : ∃ L, L = y.all := ⟨_, rfl⟩
  have HL := Lib.hid (hL.trans (y.all_of hk8 hf16 ht16 hnd16 hls16))
  rw [← hL]
  have W8 : Hid (((y.k.tmod 8 = k8 ∧ IntKind.u8.wrap k8 = k8) ∧ (y.f.tmod 16 = f16 ∧ IntKind.u8.wrap f16 = f16 ∧ IntKind.i64.wrap f16 = f16) ∧ (y.t.tmod 16 = t16 ∧ IntKind.u8.wrap t16 = t16 ∧ IntKind.i64.wrap t16 = t16)) ∧ (y.nd.tmod 16 = nd16 ∧ IntKind.u8.wrap nd16 = nd16 ∧ IntKind.i64.wrap nd16 = nd16) ∧ (y.ls.tmod 16 = ls16 ∧ IntKind.u8.wrap ls16 = ls16 ∧ IntKind.i64.wrap ls16 = ls16)) := Lib.hid (by
    obtain ⟨h1, h2, h3, -, -, -, h4, h5, -, -, -, -, -, -, -⟩ := HY.out
    have tm : ∀ (a b : Int), 0 ≤ a → a.tmod b = a % b := fun a b h => Int.tmod_eq_emod_of_nonneg h
    have u8 : ∀ z : Int, 0 ≤ z → z ≤ 255 → IntKind.u8.wrap z = z := fun z h1 h2 => by rw [IntKind.wrap_u8]; omega
    have i64 : ∀ z : Int, 0 ≤ z → z ≤ 255 → IntKind.i64.wrap z = z := fun z h1 h2 => by rw [IntKind.wrap_i64]; omega
    exact ⟨⟨⟨by rw [tm _ _ h1.1, hk8], u8 _ (by omega) (by omega)⟩, ⟨by rw [tm _ _ h2.1, hf16], u8 _ (by omega) (by omega), i64 _ (by omega) (by omega)⟩, ⟨by rw [tm _ _ h3.1, ht16], u8 _ (by omega) (by omega), i64 _ (by omega) (by omega)⟩⟩, ⟨by rw [tm _ _ h4.1, hnd16], u8 _ (by omega) (by omega), i64 _ (by omega) (by omega)⟩, ⟨by rw [tm _ _ h5.1, hls16], u8 _ (by omega) (by omega), i64 _ (by omega) (by omega)⟩⟩)
  have W64 : Hid (IntKind.i64.wrap y.p = y.p ∧ IntKind.i64.wrap y.r = y.r ∧ IntKind.i64.wrap y.bf = y.bf ∧ IntKind.i64.wrap y.vw = y.vw) := Lib.hid (by
    have i64 : ∀ z : Int, 0 ≤ z → z ≤ 4294967295 → IntKind.i64.wrap z = z := fun z h1 h2 => by rw [IntKind.wrap_i64]; omega
    exact ⟨i64 _ HY.out.p.1 HY.out.p.2, i64 _ HY.out.r.1 HY.out.r.2, i64 _ HY.out.bf.1 HY.out.bf.2, i64 _ HY.out.vw.1 HY.out.vw.2⟩)
  clear hk8 hf16 ht16 hnd16 hls16 hL
  go_enter Try.func11, Try.ntmps11
  go_upto_region 1 with fail
  generalize (w.alloc (oS17 y (.slice a1 y.e.c.l.length m1) (.slice a2 y.c.l.length m2) (.slice a3 y.a.l.length m3))).alloc (zLt 0 0 0) = w0 at *
  obtain ⟨g2, hg2⟩ : ∃ g, g = w.heap.size + 1 := ⟨_, rfl⟩
  rw [← hg2] at Q ⊢
  obtain ⟨g, hg⟩ : ∃ g, g = w.heap.size := ⟨_, rfl⟩
  rw [← hg] at Q ⊢
  have HG : Hid (g = w.heap.size ∧ g2 = w.heap.size + 1 ∧ g2 < w0.heap.size) := Lib.hid ⟨hg, hg2, vt_lt Q.out.2⟩
  clear hg hg2
  refine wp_region_toldU (by kernel_rfl) (fun a b => Fr (fun k => k = g2) a b) (fun w => Fr.refl _ w) (fun _ _ _ h k => h.trans k (fun _ _ h => h)) [some 3, some 4, some 5, some 6, some 7, some 8, some 9, some 10, some 11, some 12, some 13, some 14, some 15, some 16, some 17, some 18, some 19, some 20, some 21, some 22, some 23, some 24, some 25, some 26, some 27, some 28, some 29, some 30, some 31, some 32, some 33, some 34, some 35, some 36, some 37, some 38, some 39, some 40, some 41, some 42, some 43, some 44, some 45, some 46, some 47, some 48, some 49, some 50, some 51, some 52, some 53, some 54, some 55, some 56, none] rfl (by decide) (by intro d hd; simp at hd ⊢; omega)
    (fun i wx => i = 54 → wx.heap[g2]? = some (zLt 0 0 0))
    (fun i v wx => (AllL g g2 y L k8 f16 t16 nd16 ls16 a1 a2 a3 m1 m2 m3).getD i (fun _ _ => True) v wx)
    (by kernel_rfl) (fun _ _ _ => Q.out.2) ?step ?fin
  case step =>
    intro vals
    simp only [frOfU, fillU, List.setIfInBounds_toArray, List.set_cons_succ, List.set_cons_zero]
    repeat' (first | exact AllOps.nil | refine AllOps.cons ?_ ?_)
    all_goals
      intro wx hle he hu hn K' hK
      simp only [Act.put, List.setIfInBounds_toArray, List.set_cons_succ, List.set_cons_zero, AllL, List.getD_cons_zero, List.getD_cons_succ] at hK
      simp only [List.mem_cons, List.not_mem_nil, or_false, forall_eq_or_imp, forall_eq, Region.binds, forall_const, false_imp_iff, AllL, List.getD_cons_zero, List.getD_cons_succ] at he
      have hl5 := Fr.trans (Fr.drew (Fr.refl (fun k => k = g2) w0)) hle (fun _ _ h => h)
      have hqx := crow_kept Q.out.1 hl5 (by have := HG.out; omega)
      have hl8 := Lib.hid hl5
      have HU := Lib.hid hu
      clear hl5 hle hu hn
      obtain ⟨⟨c0, c1, c2, c3, c4, c5, c6, c7, c8⟩, ⟨c9, c10, c11, c12, c13, c14⟩, ⟨c15, c16, c17, c18⟩, c19, c20, c21, c22, c23, c24, c25⟩ := s17_cells hqx
      obtain ⟨⟨⟨x1, x2⟩, ⟨x3, x4, x5⟩, ⟨x6, x7, x8⟩⟩, ⟨x9, x10, x11⟩, ⟨x12, x13, x14⟩⟩ := W8.out
      obtain ⟨z1, z2, z3, z4⟩ := W64.out
      have HK := Lib.hid hK
      clear hqx
    all_goals first
      | ((try simp only [he] at hK ⊢); go_simp; exact hK _ _ (Fr.refl _ _) rfl (fun _ _ h => h) (fun _ _ _ h => h))
      | skip
    all_goals clear c0 c1 c2 c3 c4 c5 c6 c7 c8 c9 c10 c11 c12 c13 c14 c15 c16 c17 c18 c19 c20 c21 c22 c23 c24 c25
    · simp only [he] at hK ⊢
      go_simp
      go_at_call 20
      refine (sentry_any y.e (.slice a1 y.e.c.l.length m1) wx HY.out.e (s17_old HS.out.e F.out hl8.out HG.out)).mono ?_
      rintro er wa ⟨yv, rfl, v', u', rfl, hes, fra, hv, hu⟩
      exact hK _ _ (fra.mono (fun _ _ h => h.elim)) (en_p HS.out.e HG.out hl8.out.size hes hv hu) (fun j _ h e => crow_kept (h e) fra (fun h => h)) (fun j u _ h => AllL_mono0 g g2 y L k8 f16 t16 nd16 ls16 a1 a2 a3 m1 m2 m3 j u _ _ fra h)
    · simp only [he] at hK ⊢
      go_simp
      go_at_call 21
      refine (lmembers_any y.mb HY.out.mb wx).mono ?_
      rintro er wa ⟨v', rfl, hoi, fra⟩
      exact hK _ _ (fra.mono (fun _ _ h => h.elim)) (si_p hoi (by have := HG.out; have := hl8.out.size; omega)) (fun j _ h e => crow_kept (h e) fra (fun h => h)) (fun j u _ h => AllL_mono0 g g2 y L k8 f16 t16 nd16 ls16 a1 a2 a3 m1 m2 m3 j u _ _ fra h)
    · obtain ⟨e37, a4, m4, e40, h4, o4⟩ := he
      simp only [e37, e40] at hK ⊢
      go_simp
      exact hK _ _ (Fr.refl _ _) ⟨a4, m4, rfl, h4, o4⟩ (fun _ _ h => h) (fun _ _ _ h => h)
    · simp only [he] at hK ⊢
      go_simp
      go_at_call 22
      refine (small_any y.c.t y.c.n y.c.p a2 y.c.l.length m2 wx HY.out.c.2.2.1 HY.out.c.2.2.2).mono ?_
      rintro er wa ⟨rfl, fra⟩
      exact hK _ _ (fra.mono (fun _ _ h => h.elim)) rfl (fun j _ h e => crow_kept (h e) fra (fun h => h)) (fun j u _ h => AllL_mono0 g g2 y L k8 f16 t16 nd16 ls16 a1 a2 a3 m1 m2 m3 j u _ _ fra h)
    · simp only [he] at hK ⊢
      go_simp
      go_at_call 23
      refine (reply_any y.a.e y.a.r a3 y.a.l.length m3 wx HY.out.a.1.1 HY.out.a.1.2 HY.out.a.2.1 HY.out.a.2.2).mono ?_
      rintro er wa ⟨rfl, fra⟩
      exact hK _ _ (fra.mono (fun _ _ h => h.elim)) rfl (fun j _ h e => crow_kept (h e) fra (fun h => h)) (fun j u _ h => AllL_mono0 g g2 y L k8 f16 t16 nd16 ls16 a1 a2 a3 m1 m2 m3 j u _ _ fra h)
    · obtain ⟨e2, e6, e10, e13, e21, e29, e31, ⟨a4, m4, a5, m5, e34, hes, haw⟩, ⟨a6, m6, e41, hsi, hof⟩, e44, e49, e52⟩ := he
      simp only [e2, e6, e10, e13, e21, e29, e31, e34, e41, e44, e49, e52] at hK ⊢
      have HES := Lib.hid (And.intro hes (And.intro haw (And.intro hsi hof)))
      clear hes haw hsi hof e2 e6 e10 e13 e21 e29 e31 e34 e41 e44 e49 e52
      go_simp
      refine hK _ _ (Fr.refl _ _) ⟨⟨.slice a4 y.e.en.l.length m4, .slice a5 y.e.en.m.length m5, .slice a6 (bitsL y.mb).length m6, .slice a2 y.c.l.length m2, .slice a3 y.a.l.length m3⟩, ?_, ?_, ?_⟩ (fun _ _ h => h) (fun _ _ _ h => h)
      · rw [HL.out]; rfl
      · rw [HL.out]; exact ⟨HES.out.1, HES.out.2.2.1, s17_old HS.out.c F.out hl8.out HG.out, s17_old HS.out.a F.out hl8.out HG.out⟩
      · rw [HL.out]; exact ⟨HES.out.2.1.1, HES.out.2.1.2, .inr HES.out.2.2.2, s17_far HS.out.c HG.out, s17_far HS.out.a HG.out⟩
    · obtain ⟨⟨s', e53, hls, hfar⟩, -⟩ := he
      simp only [e53] at hK ⊢
      have q2 := HU.out rfl
      refine wanted_of rfl ?_
      have hq := setRow_heap _ _ _ (L.cs s') _ _ q2
      have hfr := Fr.letRow (S := fun k => k = g2) (Fr.refl _ wx) (g := g2) (fun _ => rfl) (L.cs s')
      exact wp_store_row 51 (.tmp 2) (.tmp 56) rfl g2 (L.cs s') rfl rfl 51 _ q2 (by kernel_rfl) rfl hls.one (hK undef _ hfr ⟨s', hq, hls.keepF hfr hfar⟩ (fun j hj _ e => absurd e hj) (fun j u hj h => AllL_mono g g2 y L k8 f16 t16 nd16 ls16 a1 a2 a3 m1 m2 m3 j u _ _ hj hfr h))
  case fin =>
    intro vals w2 hle hV
    obtain ⟨s', hq, hls⟩ := hV 54 (by decide)
    clear hV
    simp only [frOfU, fillU, List.setIfInBounds_toArray, List.set_cons_succ, List.set_cons_zero]
    have HQ := Lib.hid (And.intro hq hls)
    have F2 : Hid (Fr (fun _ => False) w w2) := Lib.hid (F.out.trans (Fr.trans (Fr.drew (Fr.refl (fun k => k = g2) w0)) hle (fun _ _ h => h)) (fun i hi e => by have := HG.out; omega))
    clear hq hls hle
    go_wp2_with fail
    refine bodyPost_ret (results_cell_row rfl _ _ g2 51 _ _ _ rfl HQ.out.1 Try.underlying51 rfl (by kernel_rfl)) rfl ?_
    exact ⟨s', rfl, HQ.out.2, F2.out⟩
end
section
set_option maxRecDepth 100000

def Lt.sameH (x y : Lt) : Bool := decide (x.k = y.k ∧ x.f = y.f ∧ x.t = y.t ∧ x.p = y.p ∧ (x.b1 = y.b1 ∧ x.b2 = y.b2) ∧ (x.w1 = y.w1 ∧ x.w2 = y.w2) ∧ x.s = y.s ∧ x.it = y.it ∧ x.iN = y.iN)
def Lt.same (x y : Lt) : Bool := x.sameH y && (x.e.same y.e && ((decide (x.vn = y.vn) && decide (x.vm = y.vm)) && (decide (x.ct = y.ct ∧ x.cn = y.cn ∧ x.cp = y.cp ∧ x.cl = y.cl) && decide (x.ae = y.ae ∧ x.ar = y.ar ∧ x.al = y.al))))

theorem Lt.same_iff (x y : Lt) : x.same y = true ↔ x = y := by
  unfold Lt.same Lt.sameH
  cases x; cases y
  simp only [Bool.and_eq_true, decide_eq_true_eq, En.same_iff, Lt.mk.injEq]
  constructor
  · rintro ⟨⟨h1, h2, h3, h4, ⟨h5, h6⟩, ⟨h7, h8⟩, h9, h10, h11⟩, h12, ⟨h13, h14⟩, ⟨h15, h16, h17, h18⟩, h19, h20, h21⟩
    exact ⟨h1, h2, h3, h4, h5, h6, h7, h8, h9, h12, h13, h14, h15, h16, h17, h18, h10, h11, h19, h20, h21⟩
  · rintro ⟨h1, h2, h3, h4, h5, h6, h7, h8, h9, h12, h13, h14, h15, h16, h17, h18, h10, h11, h19, h20, h21⟩
    exact ⟨⟨h1, h2, h3, h4, ⟨h5, h6⟩, ⟨h7, h8⟩, h9, h10, h11⟩, h12, ⟨h13, h14⟩, ⟨h15, h16, h17, h18⟩, h19, h20, h21⟩

theorem Lt.same_of (x y : Lt) {h a b c d : Bool} (eh : h = x.sameH y) (ea : a = x.e.same y.e) (eb : b = (decide (x.vn = y.vn) && decide (x.vm = y.vm))) (ec : c = decide (x.ct = y.ct ∧ x.cn = y.cn ∧ x.cp = y.cp ∧ x.cl = y.cl)) (ed : d = decide (x.ae = y.ae ∧ x.ar = y.ar ∧ x.al = y.al)) : x.same y = (h && (a && (b && (c && d)))) := by
  rw [eh, ea, eb, ec, ed]; rfl

theorem lsame_any (x y : Lt) (s r : Ls) (w : World) (hx : LS w x s) (hy : LS w y r) (h1 : x.e.m.length ≤ 1000) (h2 : x.vm.length ≤ 1000) :
    Calls Try.prog 15 #[.agg (x.cs s), .agg (y.cs r)] w fun e w' => e = .returned (.bool (x.same y)) ∧ Fr (fun _ => False) w w' := by
  have q0 := heap_alloc_new w (oLt x s)
  have q1 := new_two w (oLt x s) (oLt y r)
  have f1 : Fr (fun _ => False) (w.alloc (oLt x s)) ((w.alloc (oLt x s)).alloc (oLt y r)) := (Fr.refl _ _).alloc _
  have Q := Lib.hid (And.intro (crow_kept q0 f1 (fun h => h)) q1)
  have F := Lib.hid (((Fr.refl (fun _ => False) w).alloc (oLt x s)).trans f1 (fun _ _ h => h))
  have HX := Lib.hid (And.intro hx (And.intro hy (And.intro h1 h2)))
  clear q0 q1 f1 hx hy h1 h2
  obtain ⟨hd, ehd⟩ : ∃ b, b = x.sameH y := ⟨_, rfl⟩
  obtain ⟨ba, eba⟩ : ∃ b, b = x.e.same y.e := ⟨_, rfl⟩
  obtain ⟨bb, ebb⟩ : ∃ b, b = (decide (x.vn = y.vn) && decide (x.vm = y.vm)) := ⟨_, rfl⟩
  obtain ⟨bc, ebc⟩ : ∃ b, b = decide (x.ct = y.ct ∧ x.cn = y.cn ∧ x.cp = y.cp ∧ x.cl = y.cl) := ⟨_, rfl⟩
  obtain ⟨bd, ebd⟩ : ∃ b, b = decide (x.ae = y.ae ∧ x.ar = y.ar ∧ x.al = y.al) := ⟨_, rfl⟩
  have HS := Lib.hid (Lt.same_of x y ehd eba ebb ebc ebd)
  obtain ⟨R, hR⟩ : ∃ R, R = x.same y := ⟨_, rfl⟩
  rw [← hR] at HS ⊢
  clear hR
  have HA := Lib.hid (And.intro eba (And.intro ebb (And.intro ebc ebd)))
  have HH := Lib.hid ehd
  clear eba ebb ebc ebd ehd
  obtain ⟨x0, x1, x2, x3, x4, x5, x6, x7, x8⟩ := lt_cells Q.out.1
  obtain ⟨x9, x10, x11, x12, x13, x14⟩ := lt_cells2 Q.out.1
  obtain ⟨-, -, -, -, -, -, x21, x22, -, -, -⟩ := lt_cells3 Q.out.1
  obtain ⟨y0, y1, y2, y3, y4, y5, y6, y7, y8⟩ := lt_cells Q.out.2
  obtain ⟨y9, y10, y11, y12, y13, y14⟩ := lt_cells2 Q.out.2
  obtain ⟨-, -, -, -, -, -, y21, y22, -, -, -⟩ := lt_cells3 Q.out.2
  go_enter Try.func15, Try.ntmps15
  go_wp2_with fail
  · have hd1 : hd = true := by rw [HH.out]; unfold Lt.sameH; simp [*]
    subst hd1
    have FW := Lib.hid F.out
    clear x0 x1 x2 x3 x4 x5 x6 x7 x8 x9 x10 x11 x12 x13 x14 x21 x22 y0 y1 y2 y3 y4 y5 y6 y7 y8 y9 y10 y11 y12 y13 y14 y21 y22
    generalize (w.alloc (oLt x s)).alloc (oLt y r) = w0 at *
    refine (vsame_any x.e y.e s.ea s.em r.ea r.em w0 (HX.out.1.e.fr FW.out) (HX.out.2.1.e.fr FW.out) HX.out.2.2.1).mono ?_
    rintro e w1 ⟨rfl, f1⟩
    have Q1 := Lib.hid (And.intro (crow_kept Q.out.1 f1 (fun h => h)) (crow_kept Q.out.2 f1 (fun h => h)))
    have F1 := Lib.hid (FW.out.trans f1 (fun _ _ h => h))
    clear f1 F FW Q
    rw [← HA.out.1]
    dsimp only
    cases ba with
    | false =>
      go_wp2_with fail
      go_ret
      exact ⟨by rw [HS.out]; rfl, F1.out⟩
    | true =>
      obtain ⟨x15, x16, -, -, -, -, -, -, -, -, -⟩ := lt_cells3 Q1.out.1
      obtain ⟨y15, y16, -, -, -, -, -, -, -, -, -⟩ := lt_cells3 Q1.out.2
      obtain ⟨a, c, hva, hcm⟩ := (HX.out.1.v.fr F1.out).shape
      obtain ⟨b, d, hvb, hdm⟩ := (HX.out.2.1.v.fr F1.out).shape
      have HM := Lib.hid (And.intro hcm hdm)
      rw [hva] at x16
      rw [hvb] at y16
      clear hcm hdm hva hvb
      go_wp2_with fail
      refine (tsame_any x.vn y.vn x.vm y.vm a b c d w1 HM.out.1 HM.out.2 HX.out.2.2.2).mono ?_
      rintro e w2 ⟨rfl, f2⟩
      have Q2 := Lib.hid (And.intro (crow_kept Q1.out.1 f2 (fun h => h)) (crow_kept Q1.out.2 f2 (fun h => h)))
      have F2 := Lib.hid (F1.out.trans f2 (fun _ _ h => h))
      clear f2 F1 Q1 x15 x16 y15 y16 HM
      rw [← HA.out.2.1]
      dsimp only
      cases bb with
      | false =>
        go_wp2_with fail
        go_ret
        exact ⟨by rw [HS.out]; rfl, F2.out⟩
      | true =>
        obtain ⟨-, -, x17, x18, x19, x20, -, -, -, -, -⟩ := lt_cells3 Q2.out.1
        obtain ⟨-, -, y17, y18, y19, y20, -, -, -, -, -⟩ := lt_cells3 Q2.out.2
        go_wp2_with fail
        refine (csame_any x.ct x.cn x.cp y.ct y.cn y.cp s.ca r.ca x.cl y.cl w2 (HX.out.1.c.fr F2.out (fun _ _ h => h)) (HX.out.2.1.c.fr F2.out (fun _ _ h => h))).mono ?_
        rintro e w3 ⟨rfl, f3⟩
        have Q3 := Lib.hid (And.intro (crow_kept Q2.out.1 f3 (fun h => h)) (crow_kept Q2.out.2 f3 (fun h => h)))
        have F3 := Lib.hid (F2.out.trans f3 (fun _ _ h => h))
        clear f3 F2 Q2 x17 x18 x19 x20 y17 y18 y19 y20
        rw [← HA.out.2.2.1]
        dsimp only
        cases bc with
        | false =>
          go_wp2_with fail
          go_ret
          exact ⟨by rw [HS.out]; rfl, F3.out⟩
        | true =>
          obtain ⟨-, -, -, -, -, -, -, -, x23, x24, x25⟩ := lt_cells3 Q3.out.1
          obtain ⟨-, -, -, -, -, -, -, -, y23, y24, y25⟩ := lt_cells3 Q3.out.2
          go_wp2_with fail
          refine (alike_any x.ae x.ar y.ae y.ar s.aa r.aa x.al y.al w3 (HX.out.1.a.fr F3.out (fun _ _ h => h)) (HX.out.2.1.a.fr F3.out (fun _ _ h => h))).mono ?_
          rintro e w4 ⟨rfl, f4⟩
          have F4 := Lib.hid (F3.out.trans f4 (fun _ _ h => h))
          clear f4 F3 Q3 x23 x24 x25 y23 y24 y25
          rw [← HA.out.2.2.2]
          dsimp only
          go_wp2_with fail
          go_ret
          exact ⟨by rw [HS.out]; rfl, F4.out⟩
  all_goals
    go_ret
    have hd1 : hd = false := by rw [HH.out]; unfold Lt.sameH; simp [*]
    exact ⟨by rw [HS.out, hd1]; rfl, F.out⟩
end
section
set_option maxRecDepth 100000

theorem chk_only (x : Lt) : x.only.chk = x.chk := by
  have e := only_only x
  unfold Lt.chk
  rw [e]
  rfl

/-- A letter whose parts may be passes its check. -/
theorem chk_zero {x : Lt} (ok : LtOk x) : x.chk = 0 := by
  have hh := only_has x
  unfold Lt.chk
  rw [if_neg (by have := ok.k1; omega), if_pos]
  · have hv : x.only.chkV = 0 := by
      unfold Lt.chkV
      rw [hh]
      by_cases h : hasE x.k x.s 64 = true
      · obtain ⟨⟨e1, e2⟩, -⟩ := only_a h
        obtain ⟨⟨-, hv, hc, -⟩, -⟩ := ok.a h
        rw [if_pos h, e1, e2, if_pos (longN_iff.2 hv), hc]
      · rw [if_neg h]
    have he : x.only.e.chk = 0 := by
      by_cases h : hasE x.k x.s 16 = true
      · rw [only_e h]; exact (ok.e h).ck
      · have : x.only.e = En.zero := by unfold Lt.only Lt.mask; simp [h]
        rw [this]; rfl
    have hc : cchk x.only.cp x.only.cl.length = 0 := by
      by_cases h : hasE x.k x.s 32 = true
      · rw [(only_c h).1, (only_c h).2]; exact cchk_ok (ok.c h).2.1 (ok.c h).2.2
      · have h1 : x.only.cp = 0 := by unfold Lt.only Lt.mask; simp [h]
        have h2 : x.only.cl = [] := by unfold Lt.only Lt.mask; simp [h]
        rw [h1, h2]; rfl
    have ha : achk x.only.ae x.only.ar x.only.al.length = 0 := by
      by_cases h : hasE x.k x.s 64 = true
      · obtain ⟨-, e3, e4, e5⟩ := only_a h
        rw [e3, e4, e5]; exact achk_ok (ok.a h).2.1 (ok.a h).2.2.1 (ok.a h).2.2.2
      · have h1 : x.only.ae = 0 := by unfold Lt.only Lt.mask; simp [h]
        have h2 : x.only.ar = 0 := by unfold Lt.only Lt.mask; simp [h]
        have h3 : x.only.al = [] := by unfold Lt.only Lt.mask; simp [h]
        rw [h1, h2, h3]; rfl
    unfold Lt.errs
    rw [hv, he, hc, ha]
    rfl
  · unfold Lt.nums
    simp only [Bool.and_eq_true, nodeN_iff, longN_iff, rightN_iff]
    refine ⟨⟨ok.f0, ok.f1⟩, ⟨ok.t0, ok.t1⟩, ?_, ?_, ?_⟩
    · by_cases h : hasE x.k x.s 1 = true
      · rw [only_p h]; exact ok.p h
      · have h1 : x.only.p = 0 := by unfold Lt.only Lt.mask; simp [h]
        rw [h1]; exact ⟨by decide, by decide⟩
    · by_cases h : hasE x.k x.s 2 = true
      · rw [(only_b h).1, (only_b h).2]; exact ok.b h
      · have h1 : x.only.b1 = 0 := by unfold Lt.only Lt.mask; simp [h]
        have h2 : x.only.b2 = 0 := by unfold Lt.only Lt.mask; simp [h]
        rw [h1, h2]; exact ⟨⟨by decide, by decide⟩, by decide, by decide⟩
    · by_cases h : hasE x.k x.s 8 = true
      · rw [(only_w h).1, (only_w h).2]; exact ok.w h
      · have h1 : x.only.w1 = 0 := by unfold Lt.only Lt.mask; simp [h]
        have h2 : x.only.w2 = 0 := by unfold Lt.only Lt.mask; simp [h]
        rw [h1, h2]; exact ⟨⟨by decide, by decide⟩, by decide, by decide⟩

/-- Of a letter that may be, and has nothing else: its bytes are read as it is. -/
theorem takeL_ltB {x : Lt} (ok : LtOk x) (hx : x.only = x) : takeL (ltB x) = (x, 0) := by
  have h := rd_of x ok hx []
  rw [List.append_nil] at h
  rw [takeL_of (Y := x) (T := ([], 0)) (by rw [h]) (by rw [h])]
  rw [if_neg (by decide), if_neg (by rw [chk_zero ok]; decide)]

theorem only_ty {x : Lt} (h : LtTy x) : LtTy x.only := by
  obtain ⟨h1, h2, h3, h4, h5, h6, h7, h8, h9, h10⟩ := h
  refine ⟨h1, h2, ?_, ?_, ?_, ?_, ?_, ?_, ?_, ?_⟩
  all_goals
    unfold Lt.only Lt.mask
    simp only
    split
    all_goals first | assumption | (show (0 : Int) ≤ 0; decide) | (show (0 : Int) ≤ 255; decide) | (show (0 : Int) ≤ 0 ∧ (0 : Int) ≤ 65535; decide)

/-- A Small's letter, if its lists are short. -/
def S17.light (y : S17) : Prop := y.e.c.l.length ≤ 100 ∧ y.c.l.length ≤ 100 ∧ y.a.l.length ≤ 100

theorem bits_le (m : Nat) (h : m < 65536) : (bitsL m).length ≤ 16 := (chkM_ok (bitsL_chk m h)).2.1

theorem all_ty {y : S17} (h : y.ok) (hl : y.light) : LtT y.all := by
  obtain ⟨hk, hf, ht, hp, hr, hbf, hnd, hls, he, hc, hvw, hmb, htr, hnm, ha⟩ := h
  obtain ⟨l1, l2, l3⟩ := hl
  have en := sm_ok he (by omega)
  have hm := bits_le y.mb hmb
  refine ⟨⟨?_, ?_, ?_, ?_, ?_, en.k0, ?_⟩, ⟨?_, ?_, en.k0, ?_, ⟨en.t0, en.t1⟩, ⟨en.n0, en.n1⟩, hc.1, hc.2.1, htr, hnm⟩⟩
  · have := en.l1; show y.e.en.l.length ≤ _; omega
  · have := en.m1; show y.e.en.m.length ≤ _; omega
  · show (bitsL y.mb).length ≤ _; omega
  · show y.c.l.length ≤ _; omega
  · show y.a.l.length ≤ _; omega
  · have := en.k1; show y.e.en.k ≤ _; omega
  · show 0 ≤ y.k % 8; omega
  · show y.k % 8 ≤ 255; omega
  · have := en.k1; show y.e.en.k ≤ _; omega

theorem okN_of {n : Int} (h : 0 ≤ n ∧ n ≤ 65535) : okN n = true := by unfold okN; simp [h.1, h.2]

theorem all_ok {y : S17} (h : y.ok) (hl : y.light) : LtOk y.all := by
  obtain ⟨hk, hf, ht, hp, hr, hbf, hnd, hls, he, hc, hvw, hmb, htr, hnm, ha⟩ := h
  obtain ⟨l1, l2, l3⟩ := hl
  refine ⟨?_, ?_, ?_, ?_, ?_, ?_, fun _ => hp, fun _ => ⟨hr, ?_, ?_⟩, fun _ => ⟨hbf, ?_, ?_⟩, fun _ => sm_ok he (by omega), fun _ => ⟨⟨hc.1, hc.2.1⟩, okN_of hc.2.2, ?_⟩, fun _ => ⟨⟨⟨htr, hnm⟩, hvw, bitsL_chk y.mb hmb, bits_in16 _, bits_le _ hmb⟩, okN_of ha.1, okN_of ha.2, ?_⟩⟩
  · show 0 ≤ y.k % 8; omega
  · show y.k % 8 ≤ 7; omega
  · show 0 ≤ y.f % 16; omega
  · show y.f % 16 ≤ 15; omega
  · show 0 ≤ y.t % 16; omega
  · show y.t % 16 ≤ 15; omega
  · show 0 ≤ y.nd % 16; omega
  · show y.nd % 16 ≤ 15; omega
  · show 0 ≤ y.ls % 16; omega
  · show y.ls % 16 ≤ 15; omega
  · show y.c.l.length ≤ 4000; omega
  · show y.a.l.length ≤ 4000; omega

theorem only_ok {x : Lt} (ty : LtTy x) (h : LtOk x) : LtOk x.only := ok_of_chk (only_ty ty) (by rw [chk_only]; exact chk_zero h)

theorem sletter_any (y : S17) (ve vc va : Value) (w : World) (hy : y.ok) (hl : y.light) (hs : S17S w y ve vc va) :
    Calls Try.prog 9 #[.agg (y.cs ve vc va)] w fun e w' => ∃ s', e = .returned (.agg (y.all.only.cs s')) ∧ LS w' y.all.only s' ∧ Fr (fun _ => False) w w' ∧ s'.new w.heap.size := by
  have q0 := heap_alloc_new w (oS17 y ve vc va)
  have q1 := new_two w (oS17 y ve vc va) (zLt 0 0 0)
  have f1 : Fr (fun _ => False) (w.alloc (oS17 y ve vc va)) ((w.alloc (oS17 y ve vc va)).alloc (zLt 0 0 0)) := (Fr.refl _ _).alloc _
  have f2 := ((Fr.refl (fun _ => False) w).alloc (oS17 y ve vc va)).trans f1 (fun _ _ h => h)
  have Q := Lib.hid (And.intro (crow_kept q0 f1 (fun h => h)) q1)
  have F := Lib.hid f2
  have HS := Lib.hid (hs.fr f2)
  have HT := Lib.hid (all_ty hy hl)
  clear q0 q1 f1 f2 hs hl
  go_enter Try.func9, Try.ntmps9
  go_upto_region 1 with fail
  generalize (w.alloc (oS17 y ve vc va)).alloc (zLt 0 0 0) = w0 at *
  obtain ⟨g, hg⟩ : ∃ g, g = w.heap.size := ⟨_, rfl⟩
  rw [← hg] at Q ⊢
  have HG := Lib.hid hg
  clear hg
  go_wp2_with (refine load_lt rfl 32 (.tmp 1) rfl g (y.cs ve vc va) 32 (0, 0) rfl Q.out.1 _ Try.underlying32 rfl (by kernel_rfl) ?_)
  refine (sall_any y ve vc va w0 hy HS.out).mono ?_
  rintro e w1 ⟨s1, rfl, hl1, f1⟩
  have Q1 := Lib.hid (crow_kept Q.out.2 f1 (fun h => h))
  have F1 := Lib.hid (F.out.trans f1 (fun _ _ h => h))
  have L1 := Lib.hid hl1
  clear hl1 f1 Q F HS
  dsimp only
  go_wp2_with fail
  refine (only_any y.all s1 w1 L1.out HT.out.l.el HT.out.l.em HT.out.l.vm HT.out.l.cl HT.out.l.al).mono ?_
  rintro e w2 ⟨s2, rfl, hl2, f2, hn2⟩
  have Q2 := Lib.hid (crow_kept Q1.out f2 (fun h => h))
  have F2 := Lib.hid (F1.out.trans f2 (fun _ _ h => h))
  have L2 := Lib.hid (And.intro hl2 (hn2.le (show g + 1 + 1 ≤ w1.heap.size from vt_lt Q1.out)))
  clear hl2 f2 hn2 Q1 F1 L1
  dsimp only
  go_wp2_with (refine store_lt rfl 51 (.tmp 2) (.tmp 5) rfl (g + 1) (y.all.only.cs s2) rfl rfl 51 _ Q2.out (by kernel_rfl) rfl L2.out.1.one ?_)
  have hq := setRow_heap _ _ _ (y.all.only.cs s2) _ _ Q2.out
  have hfr := Fr.letRow (S := fun k => k = g + 1) (Fr.refl _ w2) (g := g + 1) (fun _ => rfl) (y.all.only.cs s2)
  generalize w2.setRow (g + 1) (y.all.only.cs s2) = wz at *
  refine bodyPost_ret (results_cell_row rfl _ _ (g + 1) 51 _ _ _ rfl hq Try.underlying51 rfl (by kernel_rfl)) rfl ?_
  exact ⟨s2, rfl, L2.out.1.off hfr L2.out.2, F2.out.trans hfr (fun i hi e => by have := HG.out; omega), L2.out.2.le (by have := HG.out; omega)⟩

/-- A whole row loaded, by an operation that is guarded. -/
theorem load_ltg {P : Program} {w : World} {ops : Array Oper} {rest : List Oper} {o : Oper} {a : Act} {Q : Exit → Act → World → Prop} (hw : Region.wanted o (yielded ops a.tmps) = true) (t : TypeId) (x : Operand) (ho : o.op = .load t x)
    (b : Nat) (cs : Array Value) (T : TypeId) (fr : Nat × Nat) (hx : a.eval x = .pointer (some ⟨b, 0, none⟩)) (hg : w.heap[b]? = some (.cells cs T fr)) (d : TypeDesc) (hu : P.underlying t = some d)
    (hd : (match d with | .struct _ | .array _ _ => true | _ => false) = true) (hi : (P.info? t).map (·.size) = some cs.size)
    (h : wpList P ops Q rest (a.put o.dst (.agg cs)) w) : wpList P ops Q (o :: rest) a w := by
  refine wpList_step fun K hK => ?_
  rw [if_pos hw]
  exact wp_load_row t x ho b hx T cs fr d hg hu hd hi (hK _ _ h)

theorem zero_ok : LtOk Lt.zero := ⟨by decide, by decide, by decide, by decide, by decide, by decide, fun _ => by decide, fun _ => by decide, fun _ => by decide, fun h => absurd h (by decide), fun h => absurd h (by decide), fun h => absurd h (by decide)⟩
theorem zero_ty : LtT Lt.zero := (ty_zero (k := 0) (f := 0) (t := 0) ⟨by decide, by decide⟩).lt
theorem zero_only : Lt.zero.only = Lt.zero := by rfl

theorem lawake_any (w : World) : Calls Try.prog 7 #[] w fun e w' => e = .returned (.bool true) ∧ Fr (fun _ => False) w w' := by
  have hz : ∀ W, LS W Lt.zero Ls.nil := fun W => LS.zero W 0 0 0
  go_enter Try.func7, Try.ntmps7
  go_wp2_with fail
  refine (lput_ok Lt.zero Ls.nil w (hz w) zero_ty.l zero_ty.t (chk_zero zero_ok)).mono ?_
  rintro e w1 ⟨v1, rfl, ho1, f1, hv1⟩
  have S1 := Lib.hid ho1.sees
  have F1 := Lib.hid f1
  have hlen : (ltB Lt.zero).length = 16 := by rfl
  obtain ⟨a1, c1, e1, -⟩ := ho1.sees.shape
  rw [hlen] at e1
  subst e1
  have HLN := Lib.hid hlen
  clear ho1 f1 hv1 hlen
  dsimp only
  go_wp2_with fail
  refine (ltake_any _ (ltB Lt.zero) w1 S1.out (by rw [HLN.out]; omega)).mono ?_
  rintro e w2 ⟨s2, rfl, hl2, f2⟩
  rw [takeL_ltB zero_ok zero_only] at hl2 ⊢
  have F2 := Lib.hid (F1.out.trans f2 (fun _ _ h => h))
  have L2 := Lib.hid hl2
  have hq2 := heap_alloc_new w2 (zLt 0 0 0)
  have HZ2 := Lib.hid hq2
  clear hl2 f2 hq2
  dsimp only
  go_upto_region 3 with (refine store_lt rfl 51 (.tmp 3) (.tmp 13) rfl w2.heap.size (Lt.zero.cs s2) rfl rfl 51 _ HZ2.out (by kernel_rfl) rfl L2.out.one ?_)
  have q3 := setRow_heap _ _ _ (Lt.zero.cs s2) _ _ HZ2.out
  have f3 : Fr (fun _ => False) w2 ((w2.alloc (zLt 0 0 0)).setRow w2.heap.size (Lt.zero.cs s2)) := Fr.letRow ((Fr.refl _ _).alloc _) (fun h => absurd h (by omega)) _
  generalize (w2.alloc (zLt 0 0 0)).setRow w2.heap.size (Lt.zero.cs s2) = w3 at *
  obtain ⟨g3, hg3⟩ : ∃ g, g = w2.heap.size := ⟨_, rfl⟩
  rw [← hg3] at q3 ⊢
  have Q3 := Lib.hid q3
  have F3 := Lib.hid (F2.out.trans f3 (fun _ _ h => h))
  have L3 := Lib.hid (L2.out.fr f3)
  clear q3 f3 hg3 HZ2 F2 L2
  go_wp2_with (refine load_ltg rfl 51 (.tmp 3) rfl g3 (Lt.zero.cs s2) 51 (0, 0) rfl Q3.out _ Try.underlying51 rfl (by kernel_rfl) ?_)
  refine (lsame_any Lt.zero Lt.zero s2 Ls.nil w3 L3.out (hz w3) (by decide) (by decide)).mono ?_
  rintro e w4 ⟨rfl, f4⟩
  rw [(Lt.same_iff _ _).2 rfl]
  have F4 := Lib.hid (F3.out.trans f4 (fun _ _ h => h))
  clear f4
  dsimp only
  go_wp2_with fail
  go_ret
  exact ⟨rfl, F4.out⟩
end
section
open Go.ChangeShapes Go.WideShapes Go.ChangeAt Go.RowKit
set_option maxRecDepth 100000

def S17V (w : World) (y : S17) (v : Value) : Prop := ∃ ve vc va, v = .agg (y.cs ve vc va) ∧ S17S w y ve vc va ∧ y.ok

theorem cellsOf_S17 : Try.prog.cellsOf 32 = 26 := by kernel_rfl
theorem cellsOf_u32 : Try.prog.cellsOf 22 = 1 := by kernel_rfl
theorem cellsOf_bool : Try.prog.cellsOf 4 = 1 := by kernel_rfl
section
variable {H : Type} (enc : TypeId × Value → H) (w : World)

theorem sa_reads {fuel : Nat} {cs : List Value} {x : DataW H × List MemPlace} (h : DataW.trod enc Try.prog w 0 (fun _ => true) true fuel 30 cs = some x) :
    ∃ (s : Sa) (a : Option Addr) (c : Nat), cs = [.int .u16 s.e, .int .u16 s.r, .slice a s.l.length c] ∧ SeesO w (.slice a s.l.length c) s.l ∧ (0 ≤ s.e ∧ s.e ≤ 65535) ∧ 0 ≤ s.r ∧ s.r ≤ 65535 := by
  obtain ⟨xs, n, rfl, _, hl, hlen, hf⟩ := DataW.trod_struct Try.underlying30 h
  rw [cellsOf_Sa] at hl
  match cs, hl with
  | [c0, c1, c2], _ =>
  have f0 : DataW.trod enc Try.prog w 0 (fun _ => true) true n 23 (List.take (Try.prog.cellsOf 23) (List.drop 0 [c0, c1, c2])) = xs[0]? := hf 0 _ rfl
  have f1 : DataW.trod enc Try.prog w 0 (fun _ => true) true n 23 (List.take (Try.prog.cellsOf 23) (List.drop 1 [c0, c1, c2])) = xs[1]? := hf 1 _ rfl
  have f2 : DataW.trod enc Try.prog w 0 (fun _ => true) true n 24 (List.take (Try.prog.cellsOf 24) (List.drop 2 [c0, c1, c2])) = xs[2]? := hf 2 _ rfl
  have hl5 : xs.length = 3 := hlen
  rw [List.getElem?_eq_getElem (by omega)] at f0 f1 f2
  simp only [cellsOf_u16, cellsOf_u8s, List.drop_zero, List.drop_succ_cons, List.take_succ_cons, List.take_zero] at f0 f1 f2
  obtain ⟨k0, h0, e0⟩ := int_reads enc w Try.underlying23 f0
  obtain ⟨k1, h1, e1⟩ := int_reads enc w Try.underlying23 f1
  obtain ⟨l, a, c, e2, hs⟩ := u8s_reads enc w f2
  simp at e0 e1 e2
  subst e0 e1 e2
  have b0 := bounds_u16 h0
  have b1 := bounds_u16 h1
  exact ⟨⟨k0, k1, l⟩, a, c, rfl, hs, b0, b1.1, b1.2⟩

theorem s17_any {v : Value} {d : DataW H} {p : List MemPlace} {base : Nat} (hval : Value.okWide Try.prog w .any base 32 v)
    (h : DataW.Trod enc Try.prog w 0 (fun _ => true) true 32 v d p) : ∃ y, S17V w y v := by
  obtain ⟨cs, rfl, _⟩ := okWide_struct Try.underlying32 hval
  obtain ⟨fuel, hf⟩ := h
  obtain ⟨xs, n, rfl, _, hl, hlen, hf⟩ := DataW.trod_struct Try.underlying32 hf
  rw [cellsOf_S17] at hl
  have hcs : (Value.agg cs).cells.toList = cs.toList := rfl
  rw [hcs] at hl hf
  obtain ⟨cs⟩ := cs
  match cs, hl with
  | [c0, c1, c2, c3, c4, c5, c6, c7, c8, c9, c10, c11, c12, c13, c14, c15, c16, c17, c18, c19, c20, c21, c22, c23, c24, c25], _ =>
  have f0 : DataW.trod enc Try.prog w 0 (fun _ => true) true n 5 (List.take (Try.prog.cellsOf 5) (List.drop 0 [c0, c1, c2, c3, c4, c5, c6, c7, c8, c9, c10, c11, c12, c13, c14, c15, c16, c17, c18, c19, c20, c21, c22, c23, c24, c25])) = xs[0]? := hf 0 _ rfl
  have f1 : DataW.trod enc Try.prog w 0 (fun _ => true) true n 5 (List.take (Try.prog.cellsOf 5) (List.drop 1 [c0, c1, c2, c3, c4, c5, c6, c7, c8, c9, c10, c11, c12, c13, c14, c15, c16, c17, c18, c19, c20, c21, c22, c23, c24, c25])) = xs[1]? := hf 1 _ rfl
  have f2 : DataW.trod enc Try.prog w 0 (fun _ => true) true n 5 (List.take (Try.prog.cellsOf 5) (List.drop 2 [c0, c1, c2, c3, c4, c5, c6, c7, c8, c9, c10, c11, c12, c13, c14, c15, c16, c17, c18, c19, c20, c21, c22, c23, c24, c25])) = xs[2]? := hf 2 _ rfl
  have f3 : DataW.trod enc Try.prog w 0 (fun _ => true) true n 22 (List.take (Try.prog.cellsOf 22) (List.drop 3 [c0, c1, c2, c3, c4, c5, c6, c7, c8, c9, c10, c11, c12, c13, c14, c15, c16, c17, c18, c19, c20, c21, c22, c23, c24, c25])) = xs[3]? := hf 3 _ rfl
  have f4 : DataW.trod enc Try.prog w 0 (fun _ => true) true n 22 (List.take (Try.prog.cellsOf 22) (List.drop 4 [c0, c1, c2, c3, c4, c5, c6, c7, c8, c9, c10, c11, c12, c13, c14, c15, c16, c17, c18, c19, c20, c21, c22, c23, c24, c25])) = xs[4]? := hf 4 _ rfl
  have f5 : DataW.trod enc Try.prog w 0 (fun _ => true) true n 22 (List.take (Try.prog.cellsOf 22) (List.drop 5 [c0, c1, c2, c3, c4, c5, c6, c7, c8, c9, c10, c11, c12, c13, c14, c15, c16, c17, c18, c19, c20, c21, c22, c23, c24, c25])) = xs[5]? := hf 5 _ rfl
  have f6 : DataW.trod enc Try.prog w 0 (fun _ => true) true n 5 (List.take (Try.prog.cellsOf 5) (List.drop 6 [c0, c1, c2, c3, c4, c5, c6, c7, c8, c9, c10, c11, c12, c13, c14, c15, c16, c17, c18, c19, c20, c21, c22, c23, c24, c25])) = xs[6]? := hf 6 _ rfl
  have f7 : DataW.trod enc Try.prog w 0 (fun _ => true) true n 5 (List.take (Try.prog.cellsOf 5) (List.drop 7 [c0, c1, c2, c3, c4, c5, c6, c7, c8, c9, c10, c11, c12, c13, c14, c15, c16, c17, c18, c19, c20, c21, c22, c23, c24, c25])) = xs[7]? := hf 7 _ rfl
  have f8 : DataW.trod enc Try.prog w 0 (fun _ => true) true n 4 (List.take (Try.prog.cellsOf 4) (List.drop 8 [c0, c1, c2, c3, c4, c5, c6, c7, c8, c9, c10, c11, c12, c13, c14, c15, c16, c17, c18, c19, c20, c21, c22, c23, c24, c25])) = xs[8]? := hf 8 _ rfl
  have f9 : DataW.trod enc Try.prog w 0 (fun _ => true) true n 28 (List.take (Try.prog.cellsOf 28) (List.drop 9 [c0, c1, c2, c3, c4, c5, c6, c7, c8, c9, c10, c11, c12, c13, c14, c15, c16, c17, c18, c19, c20, c21, c22, c23, c24, c25])) = xs[9]? := hf 9 _ rfl
  have f10 : DataW.trod enc Try.prog w 0 (fun _ => true) true n 26 (List.take (Try.prog.cellsOf 26) (List.drop 15 [c0, c1, c2, c3, c4, c5, c6, c7, c8, c9, c10, c11, c12, c13, c14, c15, c16, c17, c18, c19, c20, c21, c22, c23, c24, c25])) = xs[10]? := hf 10 _ rfl
  have f11 : DataW.trod enc Try.prog w 0 (fun _ => true) true n 22 (List.take (Try.prog.cellsOf 22) (List.drop 19 [c0, c1, c2, c3, c4, c5, c6, c7, c8, c9, c10, c11, c12, c13, c14, c15, c16, c17, c18, c19, c20, c21, c22, c23, c24, c25])) = xs[11]? := hf 11 _ rfl
  have f12 : DataW.trod enc Try.prog w 0 (fun _ => true) true n 23 (List.take (Try.prog.cellsOf 23) (List.drop 20 [c0, c1, c2, c3, c4, c5, c6, c7, c8, c9, c10, c11, c12, c13, c14, c15, c16, c17, c18, c19, c20, c21, c22, c23, c24, c25])) = xs[12]? := hf 12 _ rfl
  have f13 : DataW.trod enc Try.prog w 0 (fun _ => true) true n 23 (List.take (Try.prog.cellsOf 23) (List.drop 21 [c0, c1, c2, c3, c4, c5, c6, c7, c8, c9, c10, c11, c12, c13, c14, c15, c16, c17, c18, c19, c20, c21, c22, c23, c24, c25])) = xs[13]? := hf 13 _ rfl
  have f14 : DataW.trod enc Try.prog w 0 (fun _ => true) true n 23 (List.take (Try.prog.cellsOf 23) (List.drop 22 [c0, c1, c2, c3, c4, c5, c6, c7, c8, c9, c10, c11, c12, c13, c14, c15, c16, c17, c18, c19, c20, c21, c22, c23, c24, c25])) = xs[14]? := hf 14 _ rfl
  have f15 : DataW.trod enc Try.prog w 0 (fun _ => true) true n 30 (List.take (Try.prog.cellsOf 30) (List.drop 23 [c0, c1, c2, c3, c4, c5, c6, c7, c8, c9, c10, c11, c12, c13, c14, c15, c16, c17, c18, c19, c20, c21, c22, c23, c24, c25])) = xs[15]? := hf 15 _ rfl
  have hl5 : xs.length = 16 := hlen
  rw [List.getElem?_eq_getElem (by omega)] at f0 f1 f2 f3 f4 f5 f6 f7 f8 f9 f10 f11 f12 f13 f14 f15
  simp only [cellsOf_u8, cellsOf_u16, cellsOf_u32, cellsOf_bool, cellsOf_Sm, cellsOf_Sc, cellsOf_Sa, List.drop_zero, List.drop_succ_cons, List.take_succ_cons, List.take_zero] at f0 f1 f2 f3 f4 f5 f6 f7 f8 f9 f10 f11 f12 f13 f14 f15
  obtain ⟨k0, h0, e0⟩ := int_reads enc w Try.underlying5 f0
  have b0 := bounds_u8 h0
  obtain ⟨k1, h1, e1⟩ := int_reads enc w Try.underlying5 f1
  have b1 := bounds_u8 h1
  obtain ⟨k2, h2, e2⟩ := int_reads enc w Try.underlying5 f2
  have b2 := bounds_u8 h2
  obtain ⟨k3, h3, e3⟩ := int_reads enc w Try.underlying22 f3
  have b3 := bounds_u32 h3
  obtain ⟨k4, h4, e4⟩ := int_reads enc w Try.underlying22 f4
  have b4 := bounds_u32 h4
  obtain ⟨k5, h5, e5⟩ := int_reads enc w Try.underlying22 f5
  have b5 := bounds_u32 h5
  obtain ⟨k6, h6, e6⟩ := int_reads enc w Try.underlying5 f6
  have b6 := bounds_u8 h6
  obtain ⟨k7, h7, e7⟩ := int_reads enc w Try.underlying5 f7
  have b7 := bounds_u8 h7
  obtain ⟨k8, e8⟩ := bool_reads enc w Try.underlying4 f8
  obtain ⟨sm, a1, m1, e9, hs1, hok1⟩ := sm_reads enc w f9
  obtain ⟨sc, a2, m2, e10, hs2, p0, p1, p2, p3, p4, p5⟩ := sc_reads enc w f10
  obtain ⟨k11, h11, e11⟩ := int_reads enc w Try.underlying22 f11
  have b11 := bounds_u32 h11
  obtain ⟨k12, h12, e12⟩ := int_reads enc w Try.underlying23 f12
  have b12 := bounds_u16 h12
  obtain ⟨k13, h13, e13⟩ := int_reads enc w Try.underlying23 f13
  have b13 := bounds_u16 h13
  obtain ⟨k14, h14, e14⟩ := int_reads enc w Try.underlying23 f14
  have b14 := bounds_u16 h14
  obtain ⟨sa, a3, m3, e15, hs3, q1, q2⟩ := sa_reads enc w f15
  simp at e0 e1 e2 e3 e4 e5 e6 e7 e8 e9 e10 e11 e12 e13 e14 e15
  obtain ⟨e90, e91, e92, e93, e94, e95⟩ := e9
  obtain ⟨e100, e101, e102, e103⟩ := e10
  obtain ⟨e150, e151, e152⟩ := e15
  subst e0 e1 e2 e3 e4 e5 e6 e7 e8 e90 e91 e92 e93 e94 e95 e100 e101 e102 e103 e11 e12 e13 e14 e150 e151 e152
  obtain ⟨k, rfl⟩ : ∃ k : Nat, k12 = k := ⟨k12.toNat, by omega⟩
  exact ⟨⟨k0, k1, k2, k3, k4, k5, k6, k7, k8, sm, sc, k11, k, k13, k14, sa⟩, _, _, _, rfl, ⟨hs1, hs2, hs3⟩, ⟨b0, b1, b2, b3, b4, b5, b6, b7, hok1, ⟨⟨p0, p1⟩, ⟨p2, p3⟩, p4, p5⟩, b11, by have := b12.2; show k < 65536; omega, b13, b14, q1, q2⟩⟩
end
end
section
set_option maxRecDepth 100000

inductive LV where
  | is (v : Value)
  | by (l : List UInt8)
  | lt (x : Lt)
def LV.holds : LV → Value → World → Prop
  | .is u, v, _ => v = u
  | .by l, v, w => Sees w v l
  | .lt x, v, w => ∃ s, v = .agg (x.cs s) ∧ LS w x s
def lvV (L : List LV) (i : Nat) (v : Value) (w : World) : Prop := (L.getD i (.is undef)).holds v w
theorem lvV_mono (L : List LV) : ∀ i v w w', Fr (fun _ => False) w w' → lvV L i v w → lvV L i v w' := by
  intro i v w w' f h
  unfold lvV at *
  cases hL : L.getD i (.is undef) with
  | is u => rw [hL] at h; exact h
  | «by» l => rw [hL] at h; exact Sees.fr h f (fun _ _ h => h)
  | lt x =>
    rw [hL] at h
    obtain ⟨s, h1, h2⟩ := h
    exact ⟨s, h1, h2.fr f⟩

theorem wantedL {o : Oper} {y : Nat → Option Bool} {A B : Prop} (hg : Region.wanted o y = true) (h : A) : if Region.wanted o y = true then A else B := by
  rw [if_pos hg]; exact h

theorem ltP_only (x : Lt) (i : Nat) : ltP x.only i = ltP x i := by
  have hh := only_has x
  match i with
  | 0 => rfl
  | 1 =>
    simp only [ltP, hh]
    by_cases h : hasE x.k x.s 1 = true
    · rw [if_pos h, if_pos h, only_p h]
    · rw [if_neg h, if_neg h]
  | 2 =>
    simp only [ltP, hh]
    by_cases h : hasE x.k x.s 2 = true
    · rw [if_pos h, if_pos h, (only_b h).1, (only_b h).2]
    · rw [if_neg h, if_neg h]
  | 3 =>
    simp only [ltP, hh]
    by_cases h : hasE x.k x.s 4 = true
    · rw [if_pos h, if_pos h]
      unfold Lt.only Lt.mask
      simp [h]
    · rw [if_neg h, if_neg h]
  | 4 =>
    simp only [ltP, hh]
    by_cases h : hasE x.k x.s 8 = true
    · rw [if_pos h, if_pos h, (only_w h).1, (only_w h).2]
    · rw [if_neg h, if_neg h]
  | 5 =>
    simp only [ltP, hh]
    by_cases h : hasE x.k x.s 16 = true
    · rw [if_pos h, if_pos h, only_e h]
    · rw [if_neg h, if_neg h]
  | 6 =>
    simp only [ltP, hh]
    by_cases h : hasE x.k x.s 32 = true
    · rw [if_pos h, if_pos h]
      unfold Lt.only Lt.mask
      simp [h]
    · rw [if_neg h, if_neg h]
  | 7 =>
    simp only [ltP, hh]
    by_cases h : hasE x.k x.s 64 = true
    · rw [if_pos h, if_pos h]
      unfold Lt.only Lt.mask
      simp [h]
    · rw [if_neg h, if_neg h]
  | _ + 8 => rfl

theorem ltB_only (x : Lt) : ltB x.only = ltB x := by
  have : ∀ i, ltU x.only i = ltU x i := by
    intro i
    induction i with
    | zero => exact ltP_only x 0
    | succ i ih => unfold ltU; rw [ih, ltP_only]
  exact this 7

/-- The bytes of b as a string, at any later world. -/
theorem str_later {w : World} {v : Value} {l : List UInt8} (h : Sees w v l) : ∀ wx, Fr (fun _ => False) w wx → (convert 24 9 v).run Try.prog wx = .ok (.string ⟨l.toArray⟩) wx :=
  fun wx f => (h.fr f (fun _ _ h => h)).string _ _ _ Try.underlying24 Try.underlying5 Try.underlying9
end
end Go.Proofs.Ytjnbpgadgdjobaa
