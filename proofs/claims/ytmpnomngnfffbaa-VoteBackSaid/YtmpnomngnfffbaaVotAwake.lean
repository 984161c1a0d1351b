/-
  The laws' Awake.
-/
import Derived.Test.YtmpnomngnfffbaaVotBallot
namespace Go.Proofs.Ytmpnomngnfffbaa
open Go.RowKit
set_option maxRecDepth 100000

theorem Fr.same {S : Nat → Prop} {w w' : World} (h : Fr S w w') (hs : ∀ k, S k → k < w.heap.size → w'.heap[k]? = w.heap[k]?) : Fr (fun _ => False) w w' :=
  ⟨h.os, h.tape, h.output, h.size, fun k hk _ => by
    by_cases hS : S k
    · exact hs k hS hk
    · exact h.block k hk hS⟩

theorem lt_of {w : World} {b : Nat} {o : Obj} (h : w.heap[b]? = some o) : b < w.heap.size := (Array.getElem?_eq_some_iff.1 h).1

/-- A lower vote leaves all as it was. -/
theorem accept_low (b : Nat) (pr pn ar an : Int) (x : En) (v u : Value) (s : Bool) (r n : Int) (y : En) (v' u' : Value) (w : World) (h : w.heap[b]? = some (oVr pr pn ar an x.k x.t x.n x.p v u s)) (hy : ES w y v' u') (hb : blt r n pr pn = true) :
    Calls Try.prog 20 #[.pointer (some ⟨b, 0, none⟩), ball r n, y.val v' u'] w fun e w' => e = .returned (.bool false) ∧ Fr (fun _ => False) w w' := by
  refine (accept_any b pr pn ar an x v u s r n y v' u' w h hy).mono ?_
  rintro e w' ⟨rfl, f, ha⟩
  unfold VotAfter at ha
  rw [if_pos hb] at ha
  refine ⟨by rw [hb]; rfl, f.same (fun k hk _ => ?_)⟩
  subst hk
  rw [ha, h]

set_option maxHeartbeats 8000000 in
theorem vtawake_any (w : World) : Calls Try.prog 8 #[] w fun e w' => e = .returned (.bool true) ∧ Fr (fun _ => False) w w' := by
  have hq := heap_alloc_new w (oVr 0 0 0 0 0 0 0 0 nilS nilS false)
  have f0 : Fr (fun _ => False) w (w.alloc (oVr 0 0 0 0 0 0 0 0 nilS nilS false)) := (Fr.refl _ _).alloc _
  obtain ⟨b, hb⟩ : ∃ b, b = w.heap.size := ⟨_, rfl⟩
  go_enter Try.func8, Try.ntmps8
  go_upto_region 2 with fail
  generalize w.alloc (oVr 0 0 0 0 0 0 0 0 nilS nilS false) = w0 at *
  rw [← hb] at hq ⊢
  have HQ := Lib.hid hq
  have F0 := Lib.hid f0
  have HB := Lib.hid hb
  clear hq f0 hb
  go_wp2_with fail
  refine (promise_any b 0 0 0 0 En.zero nilS nilS false 1 0 w0 HQ.out (es_zero _) ⟨.inl rfl, .inl rfl⟩ (by decide) (by decide)).mono ?_
  rintro e w1 ⟨f1, _, ho⟩
  obtain ⟨⟨v1, u1, rfl, he, _⟩, hq1⟩ := ho (by decide)
  obtain ⟨a1, k1, hv1, hn1⟩ := he.1.shape
  obtain ⟨a2, k2, hv2, hn2⟩ := he.2.shape
  subst hv1 hv2
  clear hn1 hn2 he ho
  have hb1 : w.heap.size ≤ b := by have := HB.out; omega
  have F1 := Lib.hid (F0.out.trans f1 (fun k hk e => by omega))
  have HQ1 := Lib.hid hq1
  clear f1 hq1
  go_upto_region 3 with fail
  have f2 : Fr (fun _ => False) w1 ((w1.alloc (oBa 0 0)).alloc (En.zero.obj (.slice a1 En.zero.l.length k1) (.slice a2 En.zero.m.length k2))) := ((Fr.refl _ _).alloc _).alloc _
  generalize (w1.alloc (oBa 0 0)).alloc (En.zero.obj (.slice a1 En.zero.l.length k1) (.slice a2 En.zero.m.length k2)) = w2 at *
  generalize hs1 : w1.heap.size = g1 at *
  generalize (Value.slice a1 En.zero.l.length k1) = v1 at *
  generalize (Value.slice a2 En.zero.m.length k2) = u1 at *
  clear hs1
  have HQ2 := Lib.hid (crow_kept HQ1.out f2 (fun h => h))
  have F2 := Lib.hid (F1.out.trans f2 (fun _ _ h => h))
  clear f2
  go_wp2_with fail
  refine (accept_low b 1 0 0 0 En.zero nilS nilS false 0 0 En.zero nilS nilS w2 HQ2.out (es_zero _) (by decide)).mono ?_
  rintro e w3 ⟨rfl, f3⟩
  have HQ3 := Lib.hid (crow_kept HQ2.out f3 (fun h => h))
  have F3 := Lib.hid (F2.out.trans f3 (fun _ _ h => h))
  clear f3
  go_wp2_with fail
  refine (promised_any b 1 0 0 0 0 0 0 0 nilS nilS false w3 HQ3.out).mono ?_
  rintro e w4 ⟨rfl, f4⟩
  have F4 := Lib.hid (F3.out.trans f4 (fun _ _ h => h))
  clear f4
  go_wp2_with fail
  go_ret
  exact ⟨rfl, F4.out⟩
