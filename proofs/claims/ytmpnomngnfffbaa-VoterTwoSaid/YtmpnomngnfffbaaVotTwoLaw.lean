/-
  The law VoterTwo, walked.
-/
import Derived.Test.YtmpnomngnfffbaaVotVoter
import Derived.Test.YtmpnomngnfffbaaVotBaEq
import Derived.Test.YtmpnomngnfffbaaTwo
namespace Go.Proofs.Ytmpnomngnfffbaa
open Go.RowKit
set_option maxRecDepth 100000

abbrev oSm (s : Sm) (v : Value) : Obj := Obj.cells #[.int .u8 s.kind, .int .u16 s.c.t, .int .u16 s.c.n, .int .u16 s.c.p, v, .int .u16 s.mb] 27 (0, 0)

/-- The four arguments' boxes. -/
structure TwQ (g0 a0 a1 b0 b1 : Int) (ga gb gx gy : Nat) (x y : Sm) (vx vy : Value) (w : World) : Prop where
  qa : w.heap[ga]? = some (oBa a0 a1)
  qb : w.heap[gb]? = some (oBa b0 b1)
  qx : w.heap[gx]? = some (oSm x vx)
  qy : w.heap[gy]? = some (oSm y vy)

theorem TwQ.keep {S : Nat → Prop} {g0 a0 a1 b0 b1 : Int} {ga gb gx gy : Nat} {x y : Sm} {vx vy : Value} {w w' : World} (h : TwQ g0 a0 a1 b0 b1 ga gb gx gy x y vx vy w) (f : Fr S w w') (ha : ¬ S ga) (hb : ¬ S gb) (hx : ¬ S gx) (hy : ¬ S gy) : TwQ g0 a0 a1 b0 b1 ga gb gx gy x y vx vy w' :=
  ⟨crow_kept h.qa f ha, crow_kept h.qb f hb, crow_kept h.qx f hx, crow_kept h.qy f hy⟩

/-- What a promise told, laid in blocks g and g + 1. -/
structure TwE (bV g : Nat) (a0 a1 : Int) (x : En) (v u : Value) (w : World) : Prop where
  qb : w.heap[g]? = some (oBa a0 a1)
  qe : w.heap[g + 1]? = some (x.obj v u)
  es : ES w x v u
  aw : Away bV x v u
  lt : bV < g
theorem TwE.keep {bV g : Nat} {a0 a1 : Int} {x : En} {v u : Value} {w w' : World} (h : TwE bV g a0 a1 x v u w) (f : Fr (fun k => k = bV) w w') : TwE bV g a0 a1 x v u w' :=
  ⟨crow_kept h.qb f (by have := h.lt; omega), crow_kept h.qe f (by have := h.lt; omega), h.es.keep h.aw f, h.aw, h.lt⟩
theorem TwE.fr {bV g : Nat} {a0 a1 : Int} {x : En} {v u : Value} {w w' : World} (h : TwE bV g a0 a1 x v u w) (f : Fr (fun _ => False) w w') : TwE bV g a0 a1 x v u w' := h.keep (f.mono (fun _ _ h => h.elim))

/-- Two votes in one region. -/
def AcS2 (b : Nat) (st : VtN) (r n : Int) (s : Sm) (w4 : World) : List Value → World → Prop
  | [], wx => Fr (fun _ => False) w4 wx
  | [y], wx => ∃ v' u', y = s.en.val v' u' ∧ ES wx s.en v' u' ∧ Away b s.en v' u' ∧ EnSmall s.en ∧ Fr (fun _ => False) w4 wx
  | [_, _], wx => Fr (fun k => k = b) w4 wx ∧ VtS wx b st
  | [_, _, y], wx => (∃ v' u', y = s.en.val v' u' ∧ ES wx s.en v' u' ∧ Away b s.en v' u' ∧ EnSmall s.en) ∧ Fr (fun k => k = b) w4 wx ∧ VtS wx b st
  | [_, _, _, _], wx => Fr (fun k => k = b) w4 wx ∧ VtS wx b st
  | _, _ => False
theorem AcS2.fr {b : Nat} {st : VtN} {r n : Int} {s : Sm} {w4 wx : World} : ∀ {c : List Value}, AcS2 b st r n s w4 c wx → Fr (fun k => k = b) w4 wx
  | [], h => Fr.mono h (fun _ _ h => h.elim)
  | [_], ⟨_, _, _, _, _, _, h⟩ => h.mono (fun _ _ h => h.elim)
  | [_, _], ⟨h, _⟩ => h
  | [_, _, _], ⟨_, h, _⟩ => h
  | [_, _, _, _], ⟨h, _⟩ => h
  | _ :: _ :: _ :: _ :: _ :: _, h => h.elim

set_option maxHeartbeats 16000000 in
theorem two_law (a0 a1 b0 b1 : Int) (x y : Sm) (ax : Option Addr) (cx : Nat) (ay : Option Addr) (cy : Nat) (w : World) (hx : SeesO w (x.sl ax cx) x.c.l) (hxo : x.ok) (hy : SeesO w (y.sl ay cy) y.c.l) (hyo : y.ok) :
    Calls Try.prog 7 #[ball a0 a1, ball b0 b1, smV x (x.sl ax cx), smV y (y.sl ay cy)] w fun e w' => e = .returned (.bool true) ∧ Fr (fun _ => False) w w' := by
  have HX0 := Lib.hid hx
  have HY0 := Lib.hid hy
  have HXO := Lib.hid hxo
  have HYO := Lib.hid hyo
  clear hx hy hxo hyo
  have q0 := heap_alloc_new w (oBa a0 a1)
  have f0 : Fr (fun _ => False) w (w.alloc (oBa a0 a1)) := (Fr.refl _ _).alloc _
  obtain ⟨u0, hu0⟩ : ∃ u0, u0 = w.alloc (oBa a0 a1) := ⟨_, rfl⟩
  have q1 := heap_alloc_new u0 (oBa b0 b1)
  have f1 : Fr (fun _ => False) u0 (u0.alloc (oBa b0 b1)) := (Fr.refl _ _).alloc _
  obtain ⟨u1, hu1⟩ : ∃ u1, u1 = u0.alloc (oBa b0 b1) := ⟨_, rfl⟩
  have q2 := heap_alloc_new u1 (oSm x (x.sl ax cx))
  have f2 : Fr (fun _ => False) u1 (u1.alloc (oSm x (x.sl ax cx))) := (Fr.refl _ _).alloc _
  obtain ⟨u2, hu2⟩ : ∃ u2, u2 = u1.alloc (oSm x (x.sl ax cx)) := ⟨_, rfl⟩
  have q3 := heap_alloc_new u2 (oSm y (y.sl ay cy))
  have f3 : Fr (fun _ => False) u2 (u2.alloc (oSm y (y.sl ay cy))) := (Fr.refl _ _).alloc _
  obtain ⟨w0, hw0⟩ : ∃ w0, w0 = u2.alloc (oSm y (y.sl ay cy)) := ⟨_, rfl⟩
  rw [← hu0] at q0 f0
  rw [← hu1] at q1 f1
  rw [← hu2] at q2 f2
  rw [← hw0] at q3 f3
  have hz0 : u0.heap.size = w.heap.size + 1 := by rw [hu0]; simp
  have hz1 : u1.heap.size = w.heap.size + 1 + 1 := by rw [hu1, ← hz0]; simp
  have hz2 : u2.heap.size = w.heap.size + 1 + 1 + 1 := by rw [hu2, ← hz1]; simp
  have HW0 : Hid (((((w.alloc (oBa a0 a1)).alloc (oBa b0 b1)).alloc (oSm x (x.sl ax cx))).alloc (oSm y (y.sl ay cy))) = w0) := Lib.hid (by rw [hw0, hu2, hu1, hu0])
  rw [hz0] at q1
  rw [hz1] at q2
  rw [hz2] at q3
  obtain ⟨ga, hga⟩ : ∃ g, g = w.heap.size := ⟨_, rfl⟩
  obtain ⟨gb, hgb⟩ : ∃ g, g = ga + 1 := ⟨_, rfl⟩
  obtain ⟨gx, hgx⟩ : ∃ g, g = gb + 1 := ⟨_, rfl⟩
  obtain ⟨gy, hgy⟩ : ∃ g, g = gx + 1 := ⟨_, rfl⟩
  rw [← hga] at q0 q1 q2 q3
  rw [← hgb] at q1 q2 q3
  rw [← hgx] at q2 q3
  rw [← hgy] at q3
  have f12 := f1.trans (f2.trans f3 (fun _ _ h => h)) (fun _ _ h => h)
  have Q0 : Hid (TwQ 0 a0 a1 b0 b1 ga gb gx gy x y (x.sl ax cx) (y.sl ay cy) w0) := Lib.hid ⟨crow_kept q0 f12 (fun h => h), crow_kept q1 (f2.trans f3 (fun _ _ h => h)) (fun h => h), crow_kept q2 f3 (fun h => h), q3⟩
  have F0 := Lib.hid (f0.trans f12 (fun _ _ h => h))
  have HG : Hid ((ga = w.heap.size ∧ gb = ga + 1) ∧ gx = gb + 1 ∧ gy = gx + 1) := Lib.hid ⟨⟨hga, hgb⟩, hgx, hgy⟩
  clear q0 q1 q2 q3 f0 f1 f2 f3 f12 hu0 hu1 hu2 hw0 hz0 hz1 hz2 hga hgb hgx hgy
  go_enter Try.func7, Try.ntmps7
  go_upto_region 1 with fail
  rw [HW0.out]
  rw [← HG.out.1.1, ← HG.out.1.2, ← HG.out.2.1, ← HG.out.2.2]
  clear HW0 u0 u1 u2
  go_wp2_with fail
  refine (vtawake_any w0).mono ?_
  rintro e w1 ⟨rfl, f1⟩
  have Q1 := Lib.hid (Q0.out.keep f1 (fun h => h) (fun h => h) (fun h => h) (fun h => h))
  have F1 := Lib.hid (F0.out.trans f1 (fun _ _ h => h))
  clear f1 Q0 F0
  dsimp only
  obtain ⟨c00, c01, c02, c03, c04, c05⟩ := sm_cells Q1.out.qx
  obtain ⟨d00, d01, d02, d03, d04, d05⟩ := sm_cells Q1.out.qy
  obtain ⟨e00, e01⟩ := ba_cells Q1.out.qa
  obtain ⟨e10, e11⟩ := ba_cells Q1.out.qb
  by_cases hlx : x.c.l.length ≤ 50
  case neg =>
    have hl' : (50 : Int) < (x.c.l.length : Int) := by omega
    clear hlx
    go_wp2_with fail
    go_ret
    exact ⟨rfl, F1.out⟩
  have hlx' : ¬ (50 : Int) < (x.c.l.length : Int) := by omega
  by_cases hly : y.c.l.length ≤ 50
  case neg =>
    have hl' : (50 : Int) < (y.c.l.length : Int) := by omega
    clear hly
    go_wp2_with fail
    go_ret
    exact ⟨rfl, F1.out⟩
  have hly' : ¬ (50 : Int) < (y.c.l.length : Int) := by omega
  have SX0 : Hid (SmAt w.heap.size w x (x.sl ax cx)) := Lib.hid ⟨⟨ax, cx, rfl⟩, HX0.out.1, HX0.out.2, HXO.out, by omega⟩
  have SY0 : Hid (SmAt w.heap.size w y (y.sl ay cy)) := Lib.hid ⟨⟨ay, cy, rfl⟩, HY0.out.1, HY0.out.2, HYO.out, by omega⟩
  clear HX0 HY0 HXO HYO hlx hly
  go_wp2_with fail
  refine (less_any 0 0 a0 a1 w1).mono ?_
  rintro e w2 ⟨rfl, f2⟩
  have Q2 := Lib.hid (Q1.out.keep f2 (fun h => h) (fun h => h) (fun h => h) (fun h => h))
  have F2 := Lib.hid (F1.out.trans f2 (fun _ _ h => h))
  clear f2 Q1 F1 c00 c01 c02 c03 c04 c05 d00 d01 d02 d03 d04 d05 e00 e01 e10 e11
  dsimp only
  obtain ⟨e00, e01⟩ := ba_cells Q2.out.qa
  obtain ⟨e10, e11⟩ := ba_cells Q2.out.qb
  cases hA : blt 0 0 a0 a1 with
  | false =>
    go_wp2_with fail
    go_ret
    exact ⟨rfl, F2.out⟩
  | true =>
  have HA := Lib.hid hA
  clear hA
  go_wp2_with fail
  refine (less_any a0 a1 b0 b1 w2).mono ?_
  rintro e w3 ⟨rfl, f3⟩
  have Q3 := Lib.hid (Q2.out.keep f3 (fun h => h) (fun h => h) (fun h => h) (fun h => h))
  have F3 := Lib.hid (F2.out.trans f3 (fun _ _ h => h))
  clear f3 Q2 F2 e00 e01 e10 e11
  dsimp only
  cases hAB : blt a0 a1 b0 b1 with
  | false =>
    go_wp2_with fail
    go_ret
    exact ⟨rfl, F3.out⟩
  | true =>
  have HAB := Lib.hid hAB
  clear hAB
  go_upto_region 6 with fail
  have hv := vts_new w3
  have f4 : Fr (fun _ => False) w3 (w3.alloc (oVr 0 0 0 0 0 0 0 0 nilS nilS false)) := (Fr.refl _ _).alloc _
  generalize w3.alloc (oVr 0 0 0 0 0 0 0 0 nilS nilS false) = w4 at *
  obtain ⟨bV, hbV⟩ : ∃ b, b = w3.heap.size := ⟨_, rfl⟩
  rw [← hbV] at hv ⊢
  have hGV : gy < bV := by have := lt_of Q3.out.qy; omega
  have hg := HG.out
  have Q4 := Lib.hid (Q3.out.keep f4 (fun h => h) (fun h => h) (fun h => h) (fun h => h))
  have F4 := Lib.hid (F3.out.trans f4 (fun _ _ h => h))
  have V4 : Hid (VtS w4 bV ⟨0, 0, 0, 0, En.zero, false⟩) := Lib.hid hv
  clear hv f4 Q3 F3 hbV
  obtain ⟨e00, e01⟩ := ba_cells Q4.out.qa
  have hord : w.heap.size ≤ ga ∧ ga < gb ∧ gb < gx ∧ gx < gy := by omega
  have HORD := Lib.hid (And.intro hord hGV)
  clear hord hg hGV
  go_wp2_with fail
  refine (promiseS bV ⟨0, 0, 0, 0, En.zero, false⟩ a0 a1 w4 V4.out).mono ?_
  rintro e w5 ⟨⟨_, hret⟩, f5, hv5⟩
  obtain ⟨v5, u5, rfl, hes5, _⟩ := hret HA.out
  have Q5 := Lib.hid (Q4.out.keep f5 (by have := HORD.out; omega) (by have := HORD.out; omega) (by have := HORD.out; omega) (by have := HORD.out; omega))
  have F5 := Lib.hid (F4.out.trans f5 (fun k hk e => by have := HORD.out; omega))
  have hst1 : (⟨0, 0, 0, 0, En.zero, false⟩ : VtN).promise a0 a1 = ⟨a0, a1, 0, 0, En.zero, false⟩ := by unfold VtN.promise; rw [if_pos (by exact HA.out)]
  rw [hst1] at hv5
  obtain ⟨a5, k5, hv5', _⟩ := hes5.1.shape
  obtain ⟨b5, d5, hu5', _⟩ := hes5.2.shape
  subst hv5' hu5'
  have V5 := Lib.hid hv5
  clear hret f5 hv5 hst1 hes5 Q4 F4 V4 e00 e01
  dsimp only
  go_upto_region 7 with fail
  have f6 : Fr (fun _ => False) w5 ((w5.alloc (oBa 0 0)).alloc (En.zero.obj (.slice a5 En.zero.l.length k5) (.slice b5 En.zero.m.length d5))) := ((Fr.refl _ _).alloc _).alloc _
  have qe6 := new_two w5 (oBa 0 0) (En.zero.obj (.slice a5 En.zero.l.length k5) (.slice b5 En.zero.m.length d5))
  have qb6 : ((w5.alloc (oBa 0 0)).alloc (En.zero.obj (.slice a5 En.zero.l.length k5) (.slice b5 En.zero.m.length d5))).heap[w5.heap.size]? = some (oBa 0 0) := crow_kept (heap_alloc_new w5 _) ((Fr.refl (fun _ => False) _).alloc _) (fun h => h)
  generalize (w5.alloc (oBa 0 0)).alloc (En.zero.obj (.slice a5 En.zero.l.length k5) (.slice b5 En.zero.m.length d5)) = w6 at *
  obtain ⟨g10, hg10⟩ : ∃ g, g = w5.heap.size := ⟨_, rfl⟩
  rw [← hg10] at qe6 qb6 ⊢
  have Hg10 : Hid (bV < g10) := Lib.hid (by have := V5.out.lt; omega)
  have Q6 := Lib.hid (Q5.out.keep f6 (fun h => h) (fun h => h) (fun h => h) (fun h => h))
  have F6 := Lib.hid (F5.out.trans f6 (fun _ _ h => h))
  have V6 := Lib.hid (V5.out.fr f6)
  clear hg10 Q5 F5 V5
  clear qe6 qb6 f6
  have SX6 := SX0
  refine wp_region_chain (by kernel_rfl) [some 62, some 63, some 64, some 65, some 66, some 14] rfl (by decide) (by intro d hd; simp at hd ⊢; omega)
    [3, 4] (fun cvs wx => AcS bV (⟨a0, a1, 0, 0, En.zero, false⟩ : VtN) a0 a1 x w6 cvs wx)
    [.free (.pointer (some ⟨bV, 0, none⟩)), .free (ball a0 a1), .free (smV x (x.sl ax cx)), .link none, .link (some (.bool true)), .free (.bool true)]
    (by kernel_rfl) (by kernel_rfl) ?h7 ?step7 ?fin7
  case h7 => exact (Fr.refl _ _).drew
  case step7 =>
    intro vals
    simp only [frOfU, fillU, List.setIfInBounds_toArray, List.set_cons_succ, List.set_cons_zero]
    repeat' (first | exact AllOps.nil | refine AllOps.cons ?_ ?_)
    all_goals
      intro cvs wx hS he hu hlim Kc hK
      simp only [Act.put, List.setIfInBounds_toArray, List.set_cons_succ, List.set_cons_zero, List.getD_cons_zero, List.getD_cons_succ] at hK
      simp only [List.mem_cons, List.not_mem_nil, or_false, forall_eq_or_imp, forall_eq, Region.binds, forall_const, qmode_gc, Bool.false_eq_true, false_imp_iff, List.getD_cons_zero, List.getD_cons_succ, OpSort.val, Option.some.injEq, forall_eq', reduceCtorEq, implies_true, true_and, and_true] at he
      have hl5 := AcS.fr hS
      have qk := Q6.out.keep hl5 (by have := HORD.out; omega) (by have := HORD.out; omega) (by have := HORD.out; omega) (by have := HORD.out; omega)
      obtain ⟨c00, c01, c02, c03, c04, c05⟩ := sm_cells qk.qx
      obtain ⟨e00, e01⟩ := ba_cells qk.qa
      clear hl5 qk
      have HSX := Lib.hid hS
      clear hS
    all_goals first | (clear hlim hu; (try simp only [he] at hK ⊢); go_simp; exact hK) | skip
    · obtain rfl := hlim (0 : Nat) rfl
      have h1 : Fr (fun _ => False) w6 wx := HSX.out
      have H1 := Lib.hid h1
      have hbl : bV < wx.heap.size := Nat.lt_of_lt_of_le V6.out.lt h1.size
      have HBL := Lib.hid hbl
      clear hlim hu HSX h1 hbl
      simp only [he] at hK ⊢
      go_simp
      go_at_call 9
      refine (sentryS w.heap.size x (x.sl ax cx) wx (SX0.out.keep (F6.out.trans H1.out (fun _ _ h => h)) (fun _ h => h.elim))).mono ?_
      rintro er wa ⟨v', u', rfl, he', hf', haw, hsm⟩
      exact hK _ _ (fun _ h => by cases h) ⟨v', u', rfl, he', haw bV (by have := HORD.out; omega) HBL.out, hsm, H1.out.trans hf' (fun _ _ h => h)⟩
    · obtain rfl := hlim (1 : Nat) rfl
      obtain ⟨v', u', hv3, he3, haw, hsm, hf3⟩ : AcS bV (⟨a0, a1, 0, 0, En.zero, false⟩ : VtN) a0 a1 x w6 [vals 3] wx := HSX.out
      have HC := Lib.hid (acceptS bV (⟨a0, a1, 0, 0, En.zero, false⟩ : VtN) a0 a1 x.en v' u' wx (V6.out.fr hf3) he3 haw hsm)
      have HF3 := Lib.hid hf3
      clear hlim hu HSX he3 haw hsm hf3
      simp only [he, hv3] at hK ⊢
      clear he hv3
      go_simp
      go_at_call 20
      refine HC.out.mono ?_
      rintro er wa ⟨rfl, fa, hva⟩
      refine hK _ _ (fun _ h => by cases h; first | rfl | (congr 1; (show (!blt a0 a1 a0 a1) = true; rw [blt_irrefl]; rfl))) ⟨rfl, (HF3.out.mono (fun _ _ h => h.elim)).trans fa (fun _ _ h => h), hva⟩
  case fin7 =>
    intro vals w7 hS hV
    have v0 := hV 0 _ (by decide) rfl
    have v1 := hV 1 _ (by decide) rfl
    have v2 := hV 2 _ (by decide) rfl
    have v4 := hV 4 _ (by decide) rfl
    have v5 := hV 5 _ (by decide) rfl
    clear hV
    simp only [frOfU, fillU, List.setIfInBounds_toArray, List.set_cons_succ, List.set_cons_zero]
    simp only [Nat.reduceAdd, v0, v1, v2, v4, v5]
    clear v0 v1 v2 v4 v5
    obtain ⟨_, hf7, hv7⟩ : AcS bV (⟨a0, a1, 0, 0, En.zero, false⟩ : VtN) a0 a1 x w6 [vals 3, vals 4] w7 := hS
    generalize vals 3 = y3 at *
    have Q7 := Lib.hid (Q6.out.keep hf7 (by have := HORD.out; omega) (by have := HORD.out; omega) (by have := HORD.out; omega) (by have := HORD.out; omega))
    have F7 := Lib.hid (F6.out.trans hf7 (fun k hk e => by have := HORD.out; omega))
    have V7 : Hid (VtS w7 bV (⟨a0, a1, a0, a1, x.en, true⟩ : VtN)) := Lib.hid (by rw [← show (⟨a0, a1, 0, 0, En.zero, false⟩ : VtN).accept a0 a1 x.en = (⟨a0, a1, a0, a1, x.en, true⟩ : VtN) from by unfold VtN.accept; first | (rw [if_pos (by first | exact HAB.out | assumption)]) | (rw [if_neg (by rw [blt_irrefl]; decide)])]; exact hv7)
    clear hf7 hv7 Q6 F6 V6
    obtain ⟨e10, e11⟩ := ba_cells Q7.out.qb
    go_wp2_with fail
    refine (promiseS bV (⟨a0, a1, a0, a1, x.en, true⟩ : VtN) b0 b1 w7 V7.out).mono ?_
    rintro e w8 ⟨⟨_, hret⟩, f8, hv8⟩
    obtain ⟨v8, u8, rfl, hes8, ha8⟩ := hret HAB.out
    have Q8 := Lib.hid (Q7.out.keep f8 (by have := HORD.out; omega) (by have := HORD.out; omega) (by have := HORD.out; omega) (by have := HORD.out; omega))
    have F8 := Lib.hid (F7.out.trans f8 (fun k hk e => by have := HORD.out; omega))
    have hst1 : (⟨a0, a1, a0, a1, x.en, true⟩ : VtN).promise b0 b1 = (⟨b0, b1, a0, a1, x.en, true⟩ : VtN) := by unfold VtN.promise; rw [if_pos (by exact HAB.out)]
    rw [hst1] at hv8
    obtain ⟨a8, k8, hv8', _⟩ := hes8.1.shape
    obtain ⟨b8, d8, hu8', _⟩ := hes8.2.shape
    subst hv8' hu8'
    have V8 := Lib.hid hv8
    have HE8 := Lib.hid (And.intro hes8 ha8)
    clear hret f8 hv8 hst1 hes8 ha8 Q7 F7 V7 e10 e11
    dsimp only
    go_upto_region 9 with fail
    have f9 : Fr (fun _ => False) w8 ((w8.alloc (oBa a0 a1)).alloc (x.en.obj (.slice a8 x.en.l.length k8) (.slice b8 x.en.m.length d8))) := ((Fr.refl _ _).alloc _).alloc _
    have qe9 := new_two w8 (oBa a0 a1) (x.en.obj (.slice a8 x.en.l.length k8) (.slice b8 x.en.m.length d8))
    have qb9 : ((w8.alloc (oBa a0 a1)).alloc (x.en.obj (.slice a8 x.en.l.length k8) (.slice b8 x.en.m.length d8))).heap[w8.heap.size]? = some (oBa a0 a1) := crow_kept (heap_alloc_new w8 _) ((Fr.refl (fun _ => False) _).alloc _) (fun h => h)
    generalize (w8.alloc (oBa a0 a1)).alloc (x.en.obj (.slice a8 x.en.l.length k8) (.slice b8 x.en.m.length d8)) = w9 at *
    obtain ⟨g15, hg15⟩ : ∃ g, g = w8.heap.size := ⟨_, rfl⟩
    rw [← hg15] at qe9 qb9 ⊢
    have Hg15 : Hid (bV < g15) := Lib.hid (by have := V8.out.lt; omega)
    have Q9 := Lib.hid (Q8.out.keep f9 (fun h => h) (fun h => h) (fun h => h) (fun h => h))
    have F9 := Lib.hid (F8.out.trans f9 (fun _ _ h => h))
    have V9 := Lib.hid (V8.out.fr f9)
    clear hg15 Q8 F8 V8
    have E9 : Hid (TwE bV g15 a0 a1 x.en (.slice a8 x.en.l.length k8) (.slice b8 x.en.m.length d8) w9) := Lib.hid ⟨qb9, qe9, HE8.out.1.fr f9, HE8.out.2, Hg15.out⟩
    clear qe9 qb9 f9 HE8 Hg15
    refine wp_region_chain (by kernel_rfl) [some 75, some 76, some 77, some 78, some 79, some 19] rfl (by decide) (by intro d hd; simp at hd ⊢; omega)
      [3, 4] (fun cvs wx => AcS bV (⟨b0, b1, a0, a1, x.en, true⟩ : VtN) a0 a1 y w9 cvs wx)
      [.free (.pointer (some ⟨bV, 0, none⟩)), .free (ball a0 a1), .free (smV y (y.sl ay cy)), .link none, .link (some (.bool false)), .free (.bool false)]
      (by kernel_rfl) (by kernel_rfl) ?h9 ?step9 ?fin9
    case h9 => exact (Fr.refl _ _).drew
    case step9 =>
      intro vals
      simp only [frOfU, fillU, List.setIfInBounds_toArray, List.set_cons_succ, List.set_cons_zero]
      repeat' (first | exact AllOps.nil | refine AllOps.cons ?_ ?_)
      all_goals
        intro cvs wx hS he hu hlim Kc hK
        simp only [Act.put, List.setIfInBounds_toArray, List.set_cons_succ, List.set_cons_zero, List.getD_cons_zero, List.getD_cons_succ] at hK
        simp only [List.mem_cons, List.not_mem_nil, or_false, forall_eq_or_imp, forall_eq, Region.binds, forall_const, qmode_gc, Bool.false_eq_true, false_imp_iff, List.getD_cons_zero, List.getD_cons_succ, OpSort.val, Option.some.injEq, forall_eq', reduceCtorEq, implies_true, true_and, and_true] at he
        have hl5 := AcS.fr hS
        have qk := Q9.out.keep hl5 (by have := HORD.out; omega) (by have := HORD.out; omega) (by have := HORD.out; omega) (by have := HORD.out; omega)
        obtain ⟨c00, c01, c02, c03, c04, c05⟩ := sm_cells qk.qy
        obtain ⟨e00, e01⟩ := ba_cells qk.qa
        clear hl5 qk
        have HSX := Lib.hid hS
        clear hS
      all_goals first | (clear hlim hu; (try simp only [he] at hK ⊢); go_simp; exact hK) | skip
      · obtain rfl := hlim (0 : Nat) rfl
        have h1 : Fr (fun _ => False) w9 wx := HSX.out
        have H1 := Lib.hid h1
        have hbl : bV < wx.heap.size := Nat.lt_of_lt_of_le V9.out.lt h1.size
        have HBL := Lib.hid hbl
        clear hlim hu HSX h1 hbl
        simp only [he] at hK ⊢
        go_simp
        go_at_call 9
        refine (sentryS w.heap.size y (y.sl ay cy) wx (SY0.out.keep (F9.out.trans H1.out (fun _ _ h => h)) (fun _ h => h.elim))).mono ?_
        rintro er wa ⟨v', u', rfl, he', hf', haw, hsm⟩
        exact hK _ _ (fun _ h => by cases h) ⟨v', u', rfl, he', haw bV (by have := HORD.out; omega) HBL.out, hsm, H1.out.trans hf' (fun _ _ h => h)⟩
      · obtain rfl := hlim (1 : Nat) rfl
        obtain ⟨v', u', hv3, he3, haw, hsm, hf3⟩ : AcS bV (⟨b0, b1, a0, a1, x.en, true⟩ : VtN) a0 a1 y w9 [vals 3] wx := HSX.out
        have HC := Lib.hid (acceptS bV (⟨b0, b1, a0, a1, x.en, true⟩ : VtN) a0 a1 y.en v' u' wx (V9.out.fr hf3) he3 haw hsm)
        have HF3 := Lib.hid hf3
        clear hlim hu HSX he3 haw hsm hf3
        simp only [he, hv3] at hK ⊢
        clear he hv3
        go_simp
        go_at_call 20
        refine HC.out.mono ?_
        rintro er wa ⟨rfl, fa, hva⟩
        refine hK _ _ (fun _ h => by cases h; first | rfl | (congr 1; (show (!blt a0 a1 b0 b1) = false; rw [HAB.out]; rfl))) ⟨rfl, (HF3.out.mono (fun _ _ h => h.elim)).trans fa (fun _ _ h => h), hva⟩
    case fin9 =>
      intro vals w10 hS hV
      have v0 := hV 0 _ (by decide) rfl
      have v1 := hV 1 _ (by decide) rfl
      have v2 := hV 2 _ (by decide) rfl
      have v4 := hV 4 _ (by decide) rfl
      have v5 := hV 5 _ (by decide) rfl
      clear hV
      simp only [frOfU, fillU, List.setIfInBounds_toArray, List.set_cons_succ, List.set_cons_zero]
      simp only [Nat.reduceAdd, v0, v1, v2, v4, v5]
      clear v0 v1 v2 v4 v5
      obtain ⟨_, hf10, hv10⟩ : AcS bV (⟨b0, b1, a0, a1, x.en, true⟩ : VtN) a0 a1 y w9 [vals 3, vals 4] w10 := hS
      generalize vals 3 = y3 at *
      have Q10 := Lib.hid (Q9.out.keep hf10 (by have := HORD.out; omega) (by have := HORD.out; omega) (by have := HORD.out; omega) (by have := HORD.out; omega))
      have F10 := Lib.hid (F9.out.trans hf10 (fun k hk e => by have := HORD.out; omega))
      have V10 : Hid (VtS w10 bV (⟨b0, b1, a0, a1, x.en, true⟩ : VtN)) := Lib.hid (by rw [← show (⟨b0, b1, a0, a1, x.en, true⟩ : VtN).accept a0 a1 y.en = (⟨b0, b1, a0, a1, x.en, true⟩ : VtN) from by unfold VtN.accept; first | (rw [if_pos (by first | exact HAB.out | assumption)]) | (rw [if_neg (by rw [blt_irrefl]; decide)])]; exact hv10)
      have E10 := Lib.hid (E9.out.keep hf10)
      clear hf10 hv10 Q9 F9 V9 E9
      obtain ⟨e10, e11⟩ := ba_cells Q10.out.qb
      go_wp2_with fail
      refine (promiseS bV (⟨b0, b1, a0, a1, x.en, true⟩ : VtN) b0 b1 w10 V10.out).mono ?_
      rintro e w11 ⟨⟨hret, _⟩, f11, hv11⟩
      obtain rfl := hret (blt_irrefl b0 b1)
      have Q11 := Lib.hid (Q10.out.keep f11 (by have := HORD.out; omega) (by have := HORD.out; omega) (by have := HORD.out; omega) (by have := HORD.out; omega))
      have F11 := Lib.hid (F10.out.trans f11 (fun k hk e => by have := HORD.out; omega))
      have hst1 : (⟨b0, b1, a0, a1, x.en, true⟩ : VtN).promise b0 b1 = (⟨b0, b1, a0, a1, x.en, true⟩ : VtN) := by unfold VtN.promise; rw [if_neg (by rw [blt_irrefl]; decide)]
      rw [hst1] at hv11
      have V11 := Lib.hid hv11
      have E11 := Lib.hid (E10.out.keep f11)
      clear hret f11 hv11 hst1 Q10 F10 V10 E10 e10 e11
      dsimp only
      go_upto_region 11 with fail
      have f12 : Fr (fun _ => False) w11 ((w11.alloc (oBa 0 0)).alloc (oEn 0 0 0 0 nilS nilS)) := ((Fr.refl _ _).alloc _).alloc _
      have qe12 := new_two w11 (oBa 0 0) (oEn 0 0 0 0 nilS nilS)
      have qb12 : ((w11.alloc (oBa 0 0)).alloc (oEn 0 0 0 0 nilS nilS)).heap[w11.heap.size]? = some (oBa 0 0) := crow_kept (heap_alloc_new w11 _) ((Fr.refl (fun _ => False) _).alloc _) (fun h => h)
      generalize (w11.alloc (oBa 0 0)).alloc (oEn 0 0 0 0 nilS nilS) = w12 at *
      obtain ⟨g20, hg20⟩ : ∃ g, g = w11.heap.size := ⟨_, rfl⟩
      rw [← hg20] at qe12 qb12 ⊢
      have Hg20 : Hid (bV < g20) := Lib.hid (by have := V11.out.lt; omega)
      have Q12 := Lib.hid (Q11.out.keep f12 (fun h => h) (fun h => h) (fun h => h) (fun h => h))
      have F12 := Lib.hid (F11.out.trans f12 (fun _ _ h => h))
      have V12 := Lib.hid (V11.out.fr f12)
      clear hg20 Q11 F11 V11
      have E12 := Lib.hid (E11.out.fr f12)
      clear qe12 qb12 f12 Hg20 E11
      refine wp_region_chain (by kernel_rfl) [some 88, some 89, some 90, some 91, some 92, some 93, some 94, some 95, some 96, some 97, some 24, some 25] rfl (by decide) (by intro d hd; simp at hd ⊢; omega)
        [3, 4, 8, 9] (fun cvs wx => AcS2 bV (⟨b0, b1, b0, b1, y.en, true⟩ : VtN) b0 b1 y w12 cvs wx)
        [.free (.pointer (some ⟨bV, 0, none⟩)), .free (ball b0 b1), .free (smV y (y.sl ay cy)), .link none, .link (some (.bool true)), .free (.pointer (some ⟨bV, 0, none⟩)), .free (ball b0 b1), .free (smV y (y.sl ay cy)), .link none, .link (some (.bool true)), .free (.bool true), .free (.bool true)]
        (by kernel_rfl) (by kernel_rfl) ?h11 ?step11 ?fin11
      case h11 => exact (Fr.refl _ _).drew
      case step11 =>
        intro vals
        simp only [frOfU, fillU, List.setIfInBounds_toArray, List.set_cons_succ, List.set_cons_zero]
        repeat' (first | exact AllOps.nil | refine AllOps.cons ?_ ?_)
        all_goals
          intro cvs wx hS he hu hlim Kc hK
          simp only [Act.put, List.setIfInBounds_toArray, List.set_cons_succ, List.set_cons_zero, List.getD_cons_zero, List.getD_cons_succ] at hK
          simp only [List.mem_cons, List.not_mem_nil, or_false, forall_eq_or_imp, forall_eq, Region.binds, forall_const, qmode_gc, Bool.false_eq_true, false_imp_iff, List.getD_cons_zero, List.getD_cons_succ, OpSort.val, Option.some.injEq, forall_eq', reduceCtorEq, implies_true, true_and, and_true] at he
          have hl5 := AcS2.fr hS
          have qk := Q12.out.keep hl5 (by have := HORD.out; omega) (by have := HORD.out; omega) (by have := HORD.out; omega) (by have := HORD.out; omega)
          obtain ⟨c00, c01, c02, c03, c04, c05⟩ := sm_cells qk.qy
          obtain ⟨e00, e01⟩ := ba_cells qk.qb
          clear hl5 qk
          have HSX := Lib.hid hS
          clear hS
        all_goals first | (clear hlim hu; (try simp only [he] at hK ⊢); go_simp; exact hK) | skip
        · obtain rfl := hlim (0 : Nat) rfl
          have h1 : Fr (fun _ => False) w12 wx := HSX.out
          have H1 := Lib.hid h1
          have hbl : bV < wx.heap.size := Nat.lt_of_lt_of_le V12.out.lt h1.size
          have HBL := Lib.hid hbl
          clear hlim hu HSX h1 hbl
          simp only [he] at hK ⊢
          go_simp
          go_at_call 9
          refine (sentryS w.heap.size y (y.sl ay cy) wx (SY0.out.keep (F12.out.trans H1.out (fun _ _ h => h)) (fun _ h => h.elim))).mono ?_
          rintro er wa ⟨v', u', rfl, he', hf', haw, hsm⟩
          exact hK _ _ (fun _ h => by cases h) ⟨v', u', rfl, he', haw bV (by have := HORD.out; omega) HBL.out, hsm, H1.out.trans hf' (fun _ _ h => h)⟩
        · obtain rfl := hlim (1 : Nat) rfl
          obtain ⟨v', u', hv3, he3, haw, hsm, hf3⟩ : AcS2 bV (⟨b0, b1, b0, b1, y.en, true⟩ : VtN) b0 b1 y w12 [vals 3] wx := HSX.out
          have HC := Lib.hid (acceptS bV (⟨b0, b1, a0, a1, x.en, true⟩ : VtN) b0 b1 y.en v' u' wx (V12.out.fr hf3) he3 haw hsm)
          have HF3 := Lib.hid hf3
          clear hlim hu HSX he3 haw hsm hf3
          simp only [he, hv3] at hK ⊢
          clear he hv3
          go_simp
          go_at_call 20
          refine HC.out.mono ?_
          rintro er wa ⟨rfl, fa, hva⟩
          rw [show (⟨b0, b1, a0, a1, x.en, true⟩ : VtN).accept b0 b1 y.en = (⟨b0, b1, b0, b1, y.en, true⟩ : VtN) from by unfold VtN.accept; rw [if_neg (by rw [blt_irrefl]; decide)]] at hva
          refine hK _ _ (fun _ h => by cases h; first | rfl | (congr 1; show (!blt b0 b1 b0 b1) = true; rw [blt_irrefl]; rfl)) ⟨(HF3.out.mono (fun _ _ h => h.elim)).trans fa (fun _ _ h => h), hva⟩
        · obtain rfl := hlim (2 : Nat) rfl
          obtain ⟨hf3, hv3⟩ : AcS2 bV (⟨b0, b1, b0, b1, y.en, true⟩ : VtN) b0 b1 y w12 [vals 3, vals 4] wx := HSX.out
          have H1 := Lib.hid hf3
          have HV3 := Lib.hid hv3
          have hbl := hv3.lt
          have HBL := Lib.hid hbl
          clear hlim hu HSX hf3 hv3 hbl
          simp only [he] at hK ⊢
          go_simp
          go_at_call 9
          refine (sentryS w.heap.size y (y.sl ay cy) wx (SY0.out.keep ((F12.out.mono (fun _ _ h => h.elim)).trans H1.out (fun _ _ h => h)) (fun k hk => by have := HORD.out; omega))).mono ?_
          rintro er wa ⟨v', u', rfl, he', hf', haw, hsm⟩
          exact hK _ _ (fun _ h => by cases h) ⟨⟨v', u', rfl, he', haw bV (by have := HORD.out; omega) HBL.out, hsm⟩, H1.out.trans hf' (fun _ _ h => h.elim), HV3.out.fr hf'⟩
        · obtain rfl := hlim (3 : Nat) rfl
          obtain ⟨⟨v', u', hv3, he3, haw, hsm⟩, hf3, hvs⟩ : AcS2 bV (⟨b0, b1, b0, b1, y.en, true⟩ : VtN) b0 b1 y w12 [vals 3, vals 4, vals 8] wx := HSX.out
          have HC := Lib.hid (acceptS bV (⟨b0, b1, b0, b1, y.en, true⟩ : VtN) b0 b1 y.en v' u' wx hvs he3 haw hsm)
          clear hvs
          have HF3 := Lib.hid hf3
          clear hlim hu HSX he3 haw hsm hf3
          simp only [he, hv3] at hK ⊢
          clear he hv3
          go_simp
          go_at_call 20
          refine HC.out.mono ?_
          rintro er wa ⟨rfl, fa, hva⟩
          rw [show (⟨b0, b1, b0, b1, y.en, true⟩ : VtN).accept b0 b1 y.en = (⟨b0, b1, b0, b1, y.en, true⟩ : VtN) from by unfold VtN.accept; rw [if_neg (by rw [blt_irrefl]; decide)]] at hva
          refine hK _ _ (fun _ h => by cases h; first | rfl | (congr 1; show (!blt b0 b1 b0 b1) = true; rw [blt_irrefl]; rfl)) ⟨HF3.out.trans fa (fun _ _ h => h), hva⟩
      case fin11 =>
        intro vals w13 hS hV
        have v0 := hV 0 _ (by decide) rfl
        have v1 := hV 1 _ (by decide) rfl
        have v2 := hV 2 _ (by decide) rfl
        have v4 := hV 4 _ (by decide) rfl
        have v5 := hV 5 _ (by decide) rfl
        have v6 := hV 6 _ (by decide) rfl
        have v7 := hV 7 _ (by decide) rfl
        have v9 := hV 9 _ (by decide) rfl
        have v10 := hV 10 _ (by decide) rfl
        have v11 := hV 11 _ (by decide) rfl
        clear hV
        simp only [frOfU, fillU, List.setIfInBounds_toArray, List.set_cons_succ, List.set_cons_zero]
        simp only [Nat.reduceAdd, v0, v1, v2, v4, v5, v6, v7, v9, v10, v11]
        clear v0 v1 v2 v4 v5 v6 v7 v9 v10 v11
        obtain ⟨hf13, hv13⟩ : AcS2 bV (⟨b0, b1, b0, b1, y.en, true⟩ : VtN) b0 b1 y w12 [vals 3, vals 4, vals 8, vals 9] w13 := hS
        generalize vals 3 = y3 at *
        generalize vals 8 = y8 at *
        have Q13 := Lib.hid (Q12.out.keep hf13 (by have := HORD.out; omega) (by have := HORD.out; omega) (by have := HORD.out; omega) (by have := HORD.out; omega))
        have F13 := Lib.hid (F12.out.trans hf13 (fun k hk e => by have := HORD.out; omega))
        have V13 := Lib.hid hv13
        have E13 := Lib.hid (E12.out.keep hf13)
        clear hf13 hv13 Q12 F12 V12 E12
        go_upto_region 12 with fail
        have HSM : Hid (EnSmall x.en) := Lib.hid (sm_small SX0.out)
        refine wp_region_told (by kernel_rfl) (fun a b => Fr (fun _ => False) a b) (fun w => Fr.refl _ w) (fun _ _ _ h k => h.trans k (fun _ _ h => h)) [98, 99, 100, 101, 102, 103, 104, 105, 106, 107, 108, 109, 110, 111, 112, 113, 114, 115, 116, 117, 118, 119, 120, 121, 122, 123, 124, 125, 126, 127, 128, 129, 130, 131, 132, 133, 134, 135, 136, 137, 138, 8] rfl (by decide) (by intro d hd; simp at hd ⊢; omega)
          (veV [.is (.bool true), .is (.bool true), .is (.bool true), .is (.bool true), .is (.bool true), .is (.bool true), .is (.bool true), .is (.bool true), .is (.bool true), .is (.bool true), .is (.bool true), .is (ball a0 a1), .is (ball a0 a1), .is (.bool true), .is (.bool true), .is (.bool true), .en x.en, .is (smV x (x.sl ax cx)), .en x.en, .is (.bool true), .is (.bool true), .is (.bool true), .is (.bool false), .is (.bool true), .is (.bool true), .is (.bool true), .is (.bool false), .is (.bool true), .is (.bool true), .is (.bool true), .is (.bool true), .is (.bool true), .is (.bool true), .is (.bool true), .is (.bool true), .is (.bool true), .is (.pointer (some ⟨bV, 0, none⟩)), .is (ball b0 b1), .is (ball b0 b1), .is (.bool true), .is (.bool true), .is (.bool true)])
          (veV_mono _) (by kernel_rfl) ?step12 ?fin12
        case step12 =>
          intro vals
          simp only [frOf, fill, List.setIfInBounds_toArray, List.set_cons_succ, List.set_cons_zero]
          repeat' (first | exact AllOps.nil | refine AllOps.cons ?_ ?_)
          all_goals
            intro wx hle he K' hK
            simp only [Act.put, List.setIfInBounds_toArray, List.set_cons_succ, List.set_cons_zero, veV, VE.holds, List.getD_cons_zero, List.getD_cons_succ] at hK
            simp only [List.mem_cons, List.not_mem_nil, or_false, forall_eq_or_imp, forall_eq, Region.binds, forall_const, false_imp_iff, veV, VE.holds, List.getD_cons_zero, List.getD_cons_succ] at he
            have hl5 := Fr.trans (Fr.drew (Fr.refl (fun _ => False) w13)) hle (fun _ _ h => h)
            have hl8 := Lib.hid hl5
            have qk := Q13.out.keep hl5 (fun h => h) (fun h => h) (fun h => h) (fun h => h)
            have ek := E13.out.fr hl5
            have heq1 : ∀ W, (Op.equalIn 10000 57 (.agg #[.int .i64 a0, .int .i64 a1]) (.agg #[.int .i64 a0, .int .i64 a1])).run Try.prog W = .ok true W := fun W => by rw [ba_equal 9998 a0 a1 a0 a1 W]; simp [beq2]
            have heq2 : ∀ W, (Op.equalIn 10000 57 (.agg #[.int .i64 b0, .int .i64 b1]) (.agg #[.int .i64 b0, .int .i64 b1])).run Try.prog W = .ok true W := fun W => by rw [ba_equal 9998 b0 b1 b0 b1 W]; simp [beq2]
            obtain ⟨c00, c01, c02, c03, c04, c05⟩ := sm_cells qk.qx
            obtain ⟨e00, e01⟩ := ba_cells qk.qa
            obtain ⟨e10, e11⟩ := ba_cells qk.qb
            obtain ⟨e20, e21⟩ := ba_cells ek.qb
            obtain ⟨d00, d01, d02, d03, d04, d05⟩ := en_cells ek.qe
            have HES := Lib.hid ek.es
            clear qk ek
            clear hl5 hle
          all_goals first
            | (simp only [he] at hK ⊢; clear he; go_simp; exact hK _ _ (Fr.refl _ _) rfl)
            | (clear he; go_simp; exact hK _ _ (Fr.refl _ _) rfl)
            | skip
          · simp only [he] at hK ⊢
            clear he
            go_simp
            exact hK _ _ (Fr.refl _ _) ⟨_, _, rfl, HES.out⟩
          · simp only [he] at hK ⊢
            clear he
            go_simp
            go_at_call 9
            refine (sentryS w.heap.size x (x.sl ax cx) wx (SX0.out.keep (F13.out.trans hl8.out (fun _ _ h => h)) (fun _ h => h.elim))).mono ?_
            rintro er wa ⟨v', u', rfl, he', hf', _, _⟩
            exact hK _ _ hf' ⟨v', u', rfl, he'⟩
          · obtain ⟨⟨v1, u1, e1, h1⟩, ⟨v2, u2, e2, h2⟩, _, e3⟩ := he
            have HC := Lib.hid (vsame_any x.en x.en v1 u1 v2 u2 wx h1 h2 (by have := HSM.out; exact this.2))
            clear h1 h2
            simp only [e1, e2, e3] at hK ⊢
            clear e1 e2 e3
            go_simp
            go_at_call 16
            refine HC.out.mono ?_
            rintro er wa ⟨rfl, fa⟩
            exact hK _ _ fa (by rw [En.same_refl])
          · simp only [he] at hK ⊢
            clear he
            go_simp
            go_at_call 22
            refine (promisedS bV (⟨b0, b1, b0, b1, y.en, true⟩ : VtN) wx (V13.out.fr hl8.out)).mono ?_
            rintro er wa ⟨rfl, fa⟩
            exact hK _ _ fa rfl
        case fin12 =>
          intro vals' w' hle hV
          have h9 : vals' 41 = .bool true := hV 41 (by decide)
          clear hV
          have hfin := Lib.hid (F13.out.trans (Fr.trans (Fr.drew (Fr.refl (fun _ => False) w13)) hle (fun _ _ h => h)) (fun _ _ h => h))
          clear hle
          simp only [frOf, fill, List.setIfInBounds_toArray, List.set_cons_succ, List.set_cons_zero, Nat.reduceAdd]
          simp only [h9]
          clear h9
          go_wp2_with fail
          go_ret
          exact ⟨rfl, hfin.out⟩

/-- The law at its arguments. -/
theorem two_all (a : BaN) (va : Value) {w : World} (ha : BaV w a va) (b : BaN) (vb : Value) (hb : BaV w b vb) (x : Sm) (vx : Value) (hx : SmV w x vx) (y : Sm) (vy : Value) (hy : SmV w y vy) :
    Calls Try.prog 7 #[va, vb, vx, vy] w fun e w' => e = .returned (.bool true) ∧ Fr (fun _ => False) w w' := by
  unfold BaV at ha hb
  subst ha hb
  obtain ⟨ax, cx, rfl, hx, hxo⟩ := hx
  obtain ⟨ay, cy, rfl, hy, hyo⟩ := hy
  exact two_law a.r a.n b.r b.n x y ax cx ay cy w hx hxo hy hyo
