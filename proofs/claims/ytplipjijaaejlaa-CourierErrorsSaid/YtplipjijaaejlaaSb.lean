/-
  CouAny, part 2 of what it rests on: KindWell, Region, RegionU, KindWhole, KindWhole2, KindCheck.
-/
import Derived.Test.YtplipjijaaejlaaSa
import Derived.Deep.QuietTactic
import Derived.Laws.ResultCell
import Derived.IntWalk
import Derived.Deep.Cut
import Derived.Deep.CutRange
set_option linter.unusedVariables false
set_option linter.unusedSimpArgs false
set_option maxHeartbeats 32000000
namespace Go.Proofs.Ytplipjijaaejlaa
open Go.RowKit
open Go.Lib (hid)
section
theorem alloc_four (w : World) (x0 x1 x2 x3 : Value) (t : TypeId) : (w.alloc (.cells #[x0, x1, x2, x3] t)).heap[w.heap.size]? = some (.cells #[x0, x1, x2, x3] t (0, 0)) := heap_alloc_new w _

theorem box_kept {S : Nat → Prop} {w0 w1 : World} {b : Nat} {o : Obj} (h : w0.heap[b]? = some o) (f : Fr S w0 w1) (hb : ¬ S b) : w1.heap[b]? = some o := by
  rw [f.block b (lt_of_block h) hb]; exact h

theorem rightE_kind (known : List (Txt × KT)) (k : Nat) (m : Int) (ns : List Txt) (n : Nat) (of : Nat → KT) (lv : Nat) (h : 10 ≤ k ∨ lv = 0) : rightE known (.mk k m ns n of) lv = 5 := by
  unfold rightE; rw [if_pos h]

theorem rightE_size (known : List (Txt × KT)) (k : Nat) (m : Int) (ns : List Txt) (n : Nat) (of : Nat → KT) (lv : Nat) (h : ¬ (10 ≤ k ∨ lv = 0)) (h1 : sizedB k m = false) : rightE known (.mk k m ns n of) lv = 2 := by
  unfold rightE; rw [if_neg h, h1]; rfl

theorem rightE_form (known : List (Txt × KT)) (k : Nat) (m : Int) (ns : List Txt) (n : Nat) (of : Nat → KT) (lv : Nat) (h : ¬ (10 ≤ k ∨ lv = 0)) (h1 : sizedB k m = true) (h2 : formedB k ns.length n = false) : rightE known (.mk k m ns n of) lv = 4 := by
  unfold rightE; rw [if_neg h, h1, h2]; rfl

/-- The error of a type's own names. -/
def ownE (known : List (Txt × KT)) (k : Nat) (ns : List Txt) : Nat := if k = 6 ∨ k = 7 ∨ k = 8 then checkNamesE ns else if k = 9 then (if standsN known ns < 0 then 10 else 0) else 0

theorem rightE_own (known : List (Txt × KT)) (k : Nat) (m : Int) (ns : List Txt) (n : Nat) (of : Nat → KT) (lv : Nat) (h : ¬ (10 ≤ k ∨ lv = 0)) (h1 : sizedB k m = true) (h2 : formedB k ns.length n = true) : rightE known (.mk k m ns n of) lv = if ownE known k ns = 0 then firstE (fun i => rightE known (of i) (lv - 1)) n else ownE known k ns := by
  rw [rightE, if_neg h, h1, h2]; rfl

set_option maxRecDepth 100000 in
theorem right_any (known : List (Txt × KT)) (t : KT) : ∀ (R : Nat → Prop) (v kv : Value) (w : World) (lv : Nat) (lz : Int), lz = lv → lv ≤ 100 → Shows R w t v → Aliases R w known kv →
    Calls Try.prog 80 #[v, kv, .int .i64 lz] w fun e w' => e = .returned (.int .i64 (rightE known t lv)) ∧ Fr (fun _ => False) w w' := by
  induction t with
  | nil => exact fun _ _ _ _ _ _ _ _ h => h.elim
  | mk k m ns n of ih =>
  intro R v kv w lv lz hlz hlv hsh hka
  have hsh0 := Lib.hid hsh
  obtain ⟨vn, vo, rfl, hk255, hn, ht, ho⟩ := hsh
  have hl0 : ns.length ≤ 1000 := ht.1
  have Ht := Lib.hid ht
  obtain ⟨a, cap, rfl, hs⟩ := ht.shape
  obtain ⟨a', cap', rfl, hso⟩ : ∃ a' cap', vo = .slice a' n cap' ∧ (n = 0 ∨ n ≤ cap' ∧ ∃ g off, R g ∧ a' = some ⟨g, off, none⟩ ∧ ∀ i, i < n → ∃ x0 x1 x2 x3,
      w.cell? ⟨g, off + i * 4, none⟩ = some x0 ∧ w.cell? ⟨g, off + i * 4 + 1, none⟩ = some x1 ∧ w.cell? ⟨g, off + i * 4 + 2, none⟩ = some x2 ∧ w.cell? ⟨g, off + i * 4 + 3, none⟩ = some x3 ∧
      Shows R w (of i) (.agg #[x0, x1, x2, x3])) := by
    rcases ho with ⟨rfl, a', c', rfl⟩ | ⟨g, off, cap', hg, rfl, hle, hc⟩
    · exact ⟨a', c', rfl, .inl rfl⟩
    · exact ⟨_, cap', rfl, .inr ⟨hle, g, off, hg, rfl, hc⟩⟩
  have Hso := Lib.hid hso
  have Hka := Lib.hid hka
  clear ho hs ht hso hka
  by_cases h10 : 10 ≤ k
  · have h10' : (10 : Int) ≤ (k : Int) := by omega
    have e1 := Lib.hid (rightE_kind known k m ns n of lv (.inl h10))
    have hlz := Lib.hid hlz
    go_enter Try.func80, Try.ntmps80
    go_wp2
    go_ret
    exact ⟨by rw [e1.out]; rfl, (Fr.refl _ _).alloc _⟩
  have h10' : ¬ (10 : Int) ≤ (k : Int) := by omega
  have hk10 : k < 10 := by omega
  by_cases hl : lv = 0
  · have e1 := Lib.hid (rightE_kind known k m ns n of lv (.inr hl))
    obtain rfl : lz = 0 := by omega
    clear hlz hl
    go_enter Try.func80, Try.ntmps80
    go_wp2
    go_ret
    exact ⟨by rw [e1.out]; rfl, (Fr.refl _ _).alloc _⟩
  have hl' : (lz == 0) = false := by simp; omega
  have hz0 : 1 ≤ lz := by omega
  have hz1 : lz ≤ 100 := by omega
  have hdom : ¬ (10 ≤ k ∨ lv = 0) := by omega
  have Hdom := Lib.hid hdom
  have Hlz := Lib.hid hlz
  clear hlz hl hdom
  have hq := alloc_four w (.int .u8 k) (.int .i64 m) (.slice a ns.length cap) (.slice a' n cap') 34
  obtain ⟨c0, c1, c2, c3⟩ := cell_of_four hq
  have Hq := Lib.hid hq
  have hsz := sized_any k m hk10 (.slice a ns.length cap) (.slice a' n cap') (w.alloc (.cells #[.int .u8 k, .int .i64 m, .slice a ns.length cap, .slice a' n cap'] 34))
  clear hq
  have f0 : Hid (Fr (fun _ => False) w (w.alloc (.cells #[.int .u8 k, .int .i64 m, .slice a ns.length cap, .slice a' n cap'] 34))) := Lib.hid ((Fr.refl _ _).alloc _)
  by_cases hB : sizedB k m = true
  case neg =>
    have hB' : sizedB k m = false := eq_false_of_ne_true hB
    have e1 := Lib.hid (rightE_size known k m ns n of lv Hdom.out hB')
    rw [hB'] at hsz
    clear hB hB'
    go_enter Try.func80, Try.ntmps80
    go_wp2_with fail
    refine hsz.mono ?_
    rintro e w1 ⟨rfl, f1⟩
    have f1 := Lib.hid f1
    go_wp2
    go_ret
    exact ⟨by rw [e1.out]; rfl, f0.out.trans f1.out (fun _ _ h => h)⟩
  rw [hB] at hsz
  have HB := Lib.hid hB
  clear hB
  by_cases hF : formedB k ns.length n = true
  case neg =>
    have hF' : formedB k ns.length n = false := eq_false_of_ne_true hF
    have e1 := Lib.hid (rightE_form known k m ns n of lv Hdom.out HB.out hF')
    have HF := Lib.hid hF'
    clear hF hF'
    go_enter Try.func80, Try.ntmps80
    go_wp2_with fail
    refine hsz.mono ?_
    rintro e w1 ⟨rfl, f1⟩
    have q1 := box_kept Hq.out f1 (fun h => h)
    obtain ⟨d0, d1, d2, d3⟩ := cell_of_four q1
    have f1 := Lib.hid f1
    have q1 := Lib.hid q1
    go_wp2_with fail
    refine (formed_any k ns.length n m hk10 a a' cap cap' w1).mono ?_
    rintro e w2 ⟨rfl, f2⟩
    rw [HF.out]
    have f2 := Lib.hid f2
    go_wp2
    go_ret
    exact ⟨by rw [e1.out]; rfl, (f0.out.trans f1.out (fun _ _ h => h)).trans f2.out (fun _ _ h => h)⟩
  have eown := Lib.hid (rightE_own known k m ns n of lv Hdom.out HB.out hF)
  have HF := Lib.hid hF
  clear hF
  have hcases : k < 6 ∨ k = 6 ∨ k = 7 ∨ k = 8 ∨ k = 9 := by omega
  rcases hcases with hk6 | rfl | rfl | rfl | rfl
  · have i6 : ((k : Int) == 6) = false := by simp; omega
    have i7 : ((k : Int) == 7) = false := by simp; omega
    have i8 : ((k : Int) == 8) = false := by simp; omega
    have i9 : ((k : Int) == 9) = false := by simp; omega
    have HO : Hid (ownE known k ns = 0) := Lib.hid (by unfold ownE; rw [if_neg (by omega), if_neg (by omega)])
    go_enter Try.func80, Try.ntmps80
    go_wp2_with fail
    refine hsz.mono ?_
    rintro e w1 ⟨rfl, f1⟩
    have q1 := box_kept Hq.out f1 (fun h => h)
    obtain ⟨d0, d1, d2, d3⟩ := cell_of_four q1
    have f1 := Lib.hid f1
    have q1 := Lib.hid q1
    go_wp2_with fail
    refine (formed_any k ns.length n m (by omega) a a' cap cap' w1).mono ?_
    rintro e w2 ⟨rfl, f2⟩
    rw [HF.out]
    have q2 := box_kept q1.out f2 (fun h => h)
    obtain ⟨b0, b1, b2, b3⟩ := cell_of_four q2
    have f2 := Lib.hid f2
    have q2 := Lib.hid q2
    clear c0 c1 c2 c3 d0 d1 d2 d3
    have g3 : Hid (Fr (fun _ => False) w w2) := Lib.hid ((f0.out.trans f1.out (fun _ _ h => h)).trans f2.out (fun _ _ h => h))
    go_wp2_with fail
    go_loopg [9, 10, 48] n (fun G u9 u10 u48 wr => ∃ j : Nat, j ≤ n ∧ G = n - j ∧ u48 = .int .i64 j ∧ Hid (Fr (fun _ => False) w wr ∧ firstE (fun i => rightE known (of i) (lv - 1)) j = 0))
    case atStart => exact ⟨0, Nat.zero_le _, rfl, by go_num, Lib.hid ⟨g3.out, rfl⟩⟩
    case round =>
      obtain ⟨j, hj, rfl, rfl, HI⟩ := hrel
      by_cases hlt : j < n
      · rcases Hso.out with hz | ⟨hcap, g, off, hg, rfl, hcell⟩
        · omega
        obtain ⟨x0, x1, x2, x3, y0, y1, y2, y3, hx⟩ := hcell j hlt
        have y0 := cell_fr (R := fun _ => True) HI.out.1 (fun _ _ h => h) trivial y0
        have y1 := cell_fr (R := fun _ => True) HI.out.1 (fun _ _ h => h) trivial y1
        have y2 := cell_fr (R := fun _ => True) HI.out.1 (fun _ _ h => h) trivial y2
        have y3 := cell_fr (R := fun _ => True) HI.out.1 (fun _ _ h => h) trivial y3
        obtain ⟨pk, pm, pa, pn, pc, pa', pn', pc', rfl, rfl, rfl, rfl⟩ := hx.cells
        clear hcell
        have fx : Hid (Fr (fun _ => False) wr (wr.alloc (.cells #[.int .u8 pk, .int .i64 pm, .slice pa pn pc, .slice pa' pn' pc'] 34))) := Lib.hid ((Fr.refl _ _).alloc _)
        have hrec := ih j R (.agg #[.int .u8 pk, .int .i64 pm, .slice pa pn pc, .slice pa' pn' pc']) kv (wr.alloc (.cells #[.int .u8 pk, .int .i64 pm, .slice pa pn pc, .slice pa' pn' pc'] 34)) (lv - 1) (lz - 1) (by have := Hlz.out; omega) (by omega) (Shows.fr (HI.out.1.trans fx.out (fun _ _ h => h)) (fun _ _ h => h) _ _ hx) (Hka.out.fr (HI.out.1.trans fx.out (fun _ _ h => h)) (fun _ _ h => h))
        clear hx
        obtain ⟨E, hE⟩ : ∃ E, E = rightE known (of j) (lv - 1) := ⟨_, rfl⟩
        rw [← hE] at hrec
        have HE := Lib.hid hE
        clear hE
        by_cases he : E = 0
        · subst he
          go_wp2_with fail
          refine hrec.mono ?_
          rintro e w5 ⟨rfl, f5⟩
          have f5 := Lib.hid f5
          go_wp2
          go_roundg (n - (j + 1))
          case measure => omega
          case rel => exact ⟨j + 1, by omega, rfl, by go_num, Lib.hid ⟨(HI.out.1.trans fx.out (fun _ _ h => h)).trans f5.out (fun _ _ h => h), firstE_step _ _ HI.out.2 HE.out.symm⟩⟩
        · have he' : ¬ (E : Int) = 0 := by omega
          go_wp2_with fail
          refine hrec.mono ?_
          rintro e w5 ⟨rfl, f5⟩
          have f5 := Lib.hid f5
          go_wp2
          go_ret
          refine ⟨ret_nat ?_, (HI.out.1.trans fx.out (fun _ _ h => h)).trans f5.out (fun _ _ h => h)⟩
          rw [eown.out, if_pos HO.out, HE.out]
          exact (firstE_stop (fun i => rightE known (of i) (lv - 1)) n j hlt HI.out.2 (by rw [← HE.out]; exact he)).symm
      · obtain rfl : j = n := by omega
        go_wp2
        go_ret
        refine ⟨ret_nat (a := 0) ?_, HI.out.1⟩
        rw [eown.out, if_pos HO.out]
        exact HI.out.2.symm
  · have hown : ownE known 6 ns = checkNamesE ns := by unfold ownE; rw [if_pos (by omega)]
    have Hown := Lib.hid hown
    clear hown
    go_enter Try.func80, Try.ntmps80
    go_wp2_with fail
    refine hsz.mono ?_
    rintro e w1 ⟨rfl, f1⟩
    have q1 := box_kept Hq.out f1 (fun h => h)
    obtain ⟨d0, d1, d2, d3⟩ := cell_of_four q1
    have f1 := Lib.hid f1
    have q1 := Lib.hid q1
    go_wp2_with fail
    refine (formed_any 6 ns.length n m (by omega) a a' cap cap' w1).mono ?_
    rintro e w2 ⟨rfl, f2⟩
    rw [HF.out]
    have q2 := box_kept q1.out f2 (fun h => h)
    obtain ⟨b0, b1, b2, b3⟩ := cell_of_four q2
    have f2 := Lib.hid f2
    have q2 := Lib.hid q2
    clear c0 c1 c2 c3 d0 d1 d2 d3
    have hcn := checkNames_any R ns _ w2 (Ht.out.fr ((f0.out.trans f1.out (fun _ _ h => h)).trans f2.out (fun _ _ h => h)) (fun _ _ h => h))
    obtain ⟨E, hE⟩ : ∃ E, E = checkNamesE ns := ⟨_, rfl⟩
    rw [← hE] at hcn
    have HE := Lib.hid hE
    clear hE
    by_cases he : E = 0
    · subst he
      have HO : Hid (ownE known 6 ns = 0) := Lib.hid (Hown.out.trans HE.out.symm)
      go_wp2_with fail
      refine hcn.mono ?_
      rintro e w3 ⟨rfl, f3⟩
      have q3 := box_kept q2.out f3 (fun h => h)
      obtain ⟨a0, a1, a2, a3⟩ := cell_of_four q3
      have f3 := Lib.hid f3
      have q3 := Lib.hid q3
      clear b0 b1 b2 b3
      have g3 : Hid (Fr (fun _ => False) w w3) := Lib.hid (((f0.out.trans f1.out (fun _ _ h => h)).trans f2.out (fun _ _ h => h)).trans f3.out (fun _ _ h => h))
      go_wp2_with fail
      go_loopg [9, 10, 48] n (fun G u9 u10 u48 wr => ∃ j : Nat, j ≤ n ∧ G = n - j ∧ u48 = .int .i64 j ∧ Hid (Fr (fun _ => False) w wr ∧ firstE (fun i => rightE known (of i) (lv - 1)) j = 0))
      case atStart => exact ⟨0, Nat.zero_le _, rfl, by go_num, Lib.hid ⟨g3.out, rfl⟩⟩
      case round =>
        obtain ⟨j, hj, rfl, rfl, HI⟩ := hrel
        by_cases hlt : j < n
        · rcases Hso.out with hz | ⟨hcap, g, off, hg, rfl, hcell⟩
          · omega
          obtain ⟨x0, x1, x2, x3, y0, y1, y2, y3, hx⟩ := hcell j hlt
          have y0 := cell_fr (R := fun _ => True) HI.out.1 (fun _ _ h => h) trivial y0
          have y1 := cell_fr (R := fun _ => True) HI.out.1 (fun _ _ h => h) trivial y1
          have y2 := cell_fr (R := fun _ => True) HI.out.1 (fun _ _ h => h) trivial y2
          have y3 := cell_fr (R := fun _ => True) HI.out.1 (fun _ _ h => h) trivial y3
          obtain ⟨pk, pm, pa, pn, pc, pa', pn', pc', rfl, rfl, rfl, rfl⟩ := hx.cells
          clear hcell
          have fx : Hid (Fr (fun _ => False) wr (wr.alloc (.cells #[.int .u8 pk, .int .i64 pm, .slice pa pn pc, .slice pa' pn' pc'] 34))) := Lib.hid ((Fr.refl _ _).alloc _)
          have hrec := ih j R (.agg #[.int .u8 pk, .int .i64 pm, .slice pa pn pc, .slice pa' pn' pc']) kv (wr.alloc (.cells #[.int .u8 pk, .int .i64 pm, .slice pa pn pc, .slice pa' pn' pc'] 34)) (lv - 1) (lz - 1) (by have := Hlz.out; omega) (by omega) (Shows.fr (HI.out.1.trans fx.out (fun _ _ h => h)) (fun _ _ h => h) _ _ hx) (Hka.out.fr (HI.out.1.trans fx.out (fun _ _ h => h)) (fun _ _ h => h))
          clear hx
          obtain ⟨E, hE⟩ : ∃ E, E = rightE known (of j) (lv - 1) := ⟨_, rfl⟩
          rw [← hE] at hrec
          have HE := Lib.hid hE
          clear hE
          by_cases he : E = 0
          · subst he
            go_wp2_with fail
            refine hrec.mono ?_
            rintro e w5 ⟨rfl, f5⟩
            have f5 := Lib.hid f5
            go_wp2
            go_roundg (n - (j + 1))
            case measure => omega
            case rel => exact ⟨j + 1, by omega, rfl, by go_num, Lib.hid ⟨(HI.out.1.trans fx.out (fun _ _ h => h)).trans f5.out (fun _ _ h => h), firstE_step _ _ HI.out.2 HE.out.symm⟩⟩
          · have he' : ¬ (E : Int) = 0 := by omega
            go_wp2_with fail
            refine hrec.mono ?_
            rintro e w5 ⟨rfl, f5⟩
            have f5 := Lib.hid f5
            go_wp2
            go_ret
            refine ⟨ret_nat ?_, (HI.out.1.trans fx.out (fun _ _ h => h)).trans f5.out (fun _ _ h => h)⟩
            rw [eown.out, if_pos HO.out, HE.out]
            exact (firstE_stop (fun i => rightE known (of i) (lv - 1)) n j hlt HI.out.2 (by rw [← HE.out]; exact he)).symm
        · obtain rfl : j = n := by omega
          go_wp2
          go_ret
          refine ⟨ret_nat (a := 0) ?_, HI.out.1⟩
          rw [eown.out, if_pos HO.out]
          exact HI.out.2.symm
    · have he' : ¬ (E : Int) = 0 := by omega
      go_wp2_with fail
      refine hcn.mono ?_
      rintro e w3 ⟨rfl, f3⟩
      have f3 := Lib.hid f3
      go_wp2
      go_ret
      refine ⟨ret_nat ?_, ((f0.out.trans f1.out (fun _ _ h => h)).trans f2.out (fun _ _ h => h)).trans f3.out (fun _ _ h => h)⟩
      rw [eown.out, Hown.out, ← HE.out, if_neg he]
  · have hown : ownE known 7 ns = checkNamesE ns := by unfold ownE; rw [if_pos (by omega)]
    have Hown := Lib.hid hown
    clear hown
    go_enter Try.func80, Try.ntmps80
    go_wp2_with fail
    refine hsz.mono ?_
    rintro e w1 ⟨rfl, f1⟩
    have q1 := box_kept Hq.out f1 (fun h => h)
    obtain ⟨d0, d1, d2, d3⟩ := cell_of_four q1
    have f1 := Lib.hid f1
    have q1 := Lib.hid q1
    go_wp2_with fail
    refine (formed_any 7 ns.length n m (by omega) a a' cap cap' w1).mono ?_
    rintro e w2 ⟨rfl, f2⟩
    rw [HF.out]
    have q2 := box_kept q1.out f2 (fun h => h)
    obtain ⟨b0, b1, b2, b3⟩ := cell_of_four q2
    have f2 := Lib.hid f2
    have q2 := Lib.hid q2
    clear c0 c1 c2 c3 d0 d1 d2 d3
    have hcn := checkNames_any R ns _ w2 (Ht.out.fr ((f0.out.trans f1.out (fun _ _ h => h)).trans f2.out (fun _ _ h => h)) (fun _ _ h => h))
    obtain ⟨E, hE⟩ : ∃ E, E = checkNamesE ns := ⟨_, rfl⟩
    rw [← hE] at hcn
    have HE := Lib.hid hE
    clear hE
    by_cases he : E = 0
    · subst he
      have HO : Hid (ownE known 7 ns = 0) := Lib.hid (Hown.out.trans HE.out.symm)
      go_wp2_with fail
      refine hcn.mono ?_
      rintro e w3 ⟨rfl, f3⟩
      have q3 := box_kept q2.out f3 (fun h => h)
      obtain ⟨a0, a1, a2, a3⟩ := cell_of_four q3
      have f3 := Lib.hid f3
      have q3 := Lib.hid q3
      clear b0 b1 b2 b3
      have g3 : Hid (Fr (fun _ => False) w w3) := Lib.hid (((f0.out.trans f1.out (fun _ _ h => h)).trans f2.out (fun _ _ h => h)).trans f3.out (fun _ _ h => h))
      go_wp2_with fail
      go_loopg [9, 10, 48] n (fun G u9 u10 u48 wr => ∃ j : Nat, j ≤ n ∧ G = n - j ∧ u48 = .int .i64 j ∧ Hid (Fr (fun _ => False) w wr ∧ firstE (fun i => rightE known (of i) (lv - 1)) j = 0))
      case atStart => exact ⟨0, Nat.zero_le _, rfl, by go_num, Lib.hid ⟨g3.out, rfl⟩⟩
      case round =>
        obtain ⟨j, hj, rfl, rfl, HI⟩ := hrel
        by_cases hlt : j < n
        · rcases Hso.out with hz | ⟨hcap, g, off, hg, rfl, hcell⟩
          · omega
          obtain ⟨x0, x1, x2, x3, y0, y1, y2, y3, hx⟩ := hcell j hlt
          have y0 := cell_fr (R := fun _ => True) HI.out.1 (fun _ _ h => h) trivial y0
          have y1 := cell_fr (R := fun _ => True) HI.out.1 (fun _ _ h => h) trivial y1
          have y2 := cell_fr (R := fun _ => True) HI.out.1 (fun _ _ h => h) trivial y2
          have y3 := cell_fr (R := fun _ => True) HI.out.1 (fun _ _ h => h) trivial y3
          obtain ⟨pk, pm, pa, pn, pc, pa', pn', pc', rfl, rfl, rfl, rfl⟩ := hx.cells
          clear hcell
          have fx : Hid (Fr (fun _ => False) wr (wr.alloc (.cells #[.int .u8 pk, .int .i64 pm, .slice pa pn pc, .slice pa' pn' pc'] 34))) := Lib.hid ((Fr.refl _ _).alloc _)
          have hrec := ih j R (.agg #[.int .u8 pk, .int .i64 pm, .slice pa pn pc, .slice pa' pn' pc']) kv (wr.alloc (.cells #[.int .u8 pk, .int .i64 pm, .slice pa pn pc, .slice pa' pn' pc'] 34)) (lv - 1) (lz - 1) (by have := Hlz.out; omega) (by omega) (Shows.fr (HI.out.1.trans fx.out (fun _ _ h => h)) (fun _ _ h => h) _ _ hx) (Hka.out.fr (HI.out.1.trans fx.out (fun _ _ h => h)) (fun _ _ h => h))
          clear hx
          obtain ⟨E, hE⟩ : ∃ E, E = rightE known (of j) (lv - 1) := ⟨_, rfl⟩
          rw [← hE] at hrec
          have HE := Lib.hid hE
          clear hE
          by_cases he : E = 0
          · subst he
            go_wp2_with fail
            refine hrec.mono ?_
            rintro e w5 ⟨rfl, f5⟩
            have f5 := Lib.hid f5
            go_wp2
            go_roundg (n - (j + 1))
            case measure => omega
            case rel => exact ⟨j + 1, by omega, rfl, by go_num, Lib.hid ⟨(HI.out.1.trans fx.out (fun _ _ h => h)).trans f5.out (fun _ _ h => h), firstE_step _ _ HI.out.2 HE.out.symm⟩⟩
          · have he' : ¬ (E : Int) = 0 := by omega
            go_wp2_with fail
            refine hrec.mono ?_
            rintro e w5 ⟨rfl, f5⟩
            have f5 := Lib.hid f5
            go_wp2
            go_ret
            refine ⟨ret_nat ?_, (HI.out.1.trans fx.out (fun _ _ h => h)).trans f5.out (fun _ _ h => h)⟩
            rw [eown.out, if_pos HO.out, HE.out]
            exact (firstE_stop (fun i => rightE known (of i) (lv - 1)) n j hlt HI.out.2 (by rw [← HE.out]; exact he)).symm
        · obtain rfl : j = n := by omega
          go_wp2
          go_ret
          refine ⟨ret_nat (a := 0) ?_, HI.out.1⟩
          rw [eown.out, if_pos HO.out]
          exact HI.out.2.symm
    · have he' : ¬ (E : Int) = 0 := by omega
      go_wp2_with fail
      refine hcn.mono ?_
      rintro e w3 ⟨rfl, f3⟩
      have f3 := Lib.hid f3
      go_wp2
      go_ret
      refine ⟨ret_nat ?_, ((f0.out.trans f1.out (fun _ _ h => h)).trans f2.out (fun _ _ h => h)).trans f3.out (fun _ _ h => h)⟩
      rw [eown.out, Hown.out, ← HE.out, if_neg he]
  · have hown : ownE known 8 ns = checkNamesE ns := by unfold ownE; rw [if_pos (by omega)]
    have Hown := Lib.hid hown
    clear hown
    go_enter Try.func80, Try.ntmps80
    go_wp2_with fail
    refine hsz.mono ?_
    rintro e w1 ⟨rfl, f1⟩
    have q1 := box_kept Hq.out f1 (fun h => h)
    obtain ⟨d0, d1, d2, d3⟩ := cell_of_four q1
    have f1 := Lib.hid f1
    have q1 := Lib.hid q1
    go_wp2_with fail
    refine (formed_any 8 ns.length n m (by omega) a a' cap cap' w1).mono ?_
    rintro e w2 ⟨rfl, f2⟩
    rw [HF.out]
    have q2 := box_kept q1.out f2 (fun h => h)
    obtain ⟨b0, b1, b2, b3⟩ := cell_of_four q2
    have f2 := Lib.hid f2
    have q2 := Lib.hid q2
    clear c0 c1 c2 c3 d0 d1 d2 d3
    have hcn := checkNames_any R ns _ w2 (Ht.out.fr ((f0.out.trans f1.out (fun _ _ h => h)).trans f2.out (fun _ _ h => h)) (fun _ _ h => h))
    obtain ⟨E, hE⟩ : ∃ E, E = checkNamesE ns := ⟨_, rfl⟩
    rw [← hE] at hcn
    have HE := Lib.hid hE
    clear hE
    by_cases he : E = 0
    · subst he
      have HO : Hid (ownE known 8 ns = 0) := Lib.hid (Hown.out.trans HE.out.symm)
      go_wp2_with fail
      refine hcn.mono ?_
      rintro e w3 ⟨rfl, f3⟩
      have q3 := box_kept q2.out f3 (fun h => h)
      obtain ⟨a0, a1, a2, a3⟩ := cell_of_four q3
      have f3 := Lib.hid f3
      have q3 := Lib.hid q3
      clear b0 b1 b2 b3
      have g3 : Hid (Fr (fun _ => False) w w3) := Lib.hid (((f0.out.trans f1.out (fun _ _ h => h)).trans f2.out (fun _ _ h => h)).trans f3.out (fun _ _ h => h))
      go_wp2_with fail
      go_loopg [9, 10, 48] n (fun G u9 u10 u48 wr => ∃ j : Nat, j ≤ n ∧ G = n - j ∧ u48 = .int .i64 j ∧ Hid (Fr (fun _ => False) w wr ∧ firstE (fun i => rightE known (of i) (lv - 1)) j = 0))
      case atStart => exact ⟨0, Nat.zero_le _, rfl, by go_num, Lib.hid ⟨g3.out, rfl⟩⟩
      case round =>
        obtain ⟨j, hj, rfl, rfl, HI⟩ := hrel
        by_cases hlt : j < n
        · rcases Hso.out with hz | ⟨hcap, g, off, hg, rfl, hcell⟩
          · omega
          obtain ⟨x0, x1, x2, x3, y0, y1, y2, y3, hx⟩ := hcell j hlt
          have y0 := cell_fr (R := fun _ => True) HI.out.1 (fun _ _ h => h) trivial y0
          have y1 := cell_fr (R := fun _ => True) HI.out.1 (fun _ _ h => h) trivial y1
          have y2 := cell_fr (R := fun _ => True) HI.out.1 (fun _ _ h => h) trivial y2
          have y3 := cell_fr (R := fun _ => True) HI.out.1 (fun _ _ h => h) trivial y3
          obtain ⟨pk, pm, pa, pn, pc, pa', pn', pc', rfl, rfl, rfl, rfl⟩ := hx.cells
          clear hcell
          have fx : Hid (Fr (fun _ => False) wr (wr.alloc (.cells #[.int .u8 pk, .int .i64 pm, .slice pa pn pc, .slice pa' pn' pc'] 34))) := Lib.hid ((Fr.refl _ _).alloc _)
          have hrec := ih j R (.agg #[.int .u8 pk, .int .i64 pm, .slice pa pn pc, .slice pa' pn' pc']) kv (wr.alloc (.cells #[.int .u8 pk, .int .i64 pm, .slice pa pn pc, .slice pa' pn' pc'] 34)) (lv - 1) (lz - 1) (by have := Hlz.out; omega) (by omega) (Shows.fr (HI.out.1.trans fx.out (fun _ _ h => h)) (fun _ _ h => h) _ _ hx) (Hka.out.fr (HI.out.1.trans fx.out (fun _ _ h => h)) (fun _ _ h => h))
          clear hx
          obtain ⟨E, hE⟩ : ∃ E, E = rightE known (of j) (lv - 1) := ⟨_, rfl⟩
          rw [← hE] at hrec
          have HE := Lib.hid hE
          clear hE
          by_cases he : E = 0
          · subst he
            go_wp2_with fail
            refine hrec.mono ?_
            rintro e w5 ⟨rfl, f5⟩
            have f5 := Lib.hid f5
            go_wp2
            go_roundg (n - (j + 1))
            case measure => omega
            case rel => exact ⟨j + 1, by omega, rfl, by go_num, Lib.hid ⟨(HI.out.1.trans fx.out (fun _ _ h => h)).trans f5.out (fun _ _ h => h), firstE_step _ _ HI.out.2 HE.out.symm⟩⟩
          · have he' : ¬ (E : Int) = 0 := by omega
            go_wp2_with fail
            refine hrec.mono ?_
            rintro e w5 ⟨rfl, f5⟩
            have f5 := Lib.hid f5
            go_wp2
            go_ret
            refine ⟨ret_nat ?_, (HI.out.1.trans fx.out (fun _ _ h => h)).trans f5.out (fun _ _ h => h)⟩
            rw [eown.out, if_pos HO.out, HE.out]
            exact (firstE_stop (fun i => rightE known (of i) (lv - 1)) n j hlt HI.out.2 (by rw [← HE.out]; exact he)).symm
        · obtain rfl : j = n := by omega
          go_wp2
          go_ret
          refine ⟨ret_nat (a := 0) ?_, HI.out.1⟩
          rw [eown.out, if_pos HO.out]
          exact HI.out.2.symm
    · have he' : ¬ (E : Int) = 0 := by omega
      go_wp2_with fail
      refine hcn.mono ?_
      rintro e w3 ⟨rfl, f3⟩
      have f3 := Lib.hid f3
      go_wp2
      go_ret
      refine ⟨ret_nat ?_, ((f0.out.trans f1.out (fun _ _ h => h)).trans f2.out (fun _ _ h => h)).trans f3.out (fun _ _ h => h)⟩
      rw [eown.out, Hown.out, ← HE.out, if_neg he]
  · have hown : ownE known 9 ns = if standsN known ns < 0 then 10 else 0 := rfl
    have Hown := Lib.hid hown
    clear hown
    go_enter Try.func80, Try.ntmps80
    go_wp2_with fail
    refine hsz.mono ?_
    rintro e w1 ⟨rfl, f1⟩
    have q1 := box_kept Hq.out f1 (fun h => h)
    obtain ⟨d0, d1, d2, d3⟩ := cell_of_four q1
    have f1 := Lib.hid f1
    have q1 := Lib.hid q1
    go_wp2_with fail
    refine (formed_any 9 ns.length n m (by omega) a a' cap cap' w1).mono ?_
    rintro e w2 ⟨rfl, f2⟩
    rw [HF.out]
    have q2 := box_kept q1.out f2 (fun h => h)
    obtain ⟨b0, b1, b2, b3⟩ := cell_of_four q2
    have f2 := Lib.hid f2
    have q2 := Lib.hid q2
    clear c0 c1 c2 c3 d0 d1 d2 d3
    have hsf := stands_any R known (.mk 9 m ns n of) _ kv w2 (Shows.fr ((f0.out.trans f1.out (fun _ _ h => h)).trans f2.out (fun _ _ h => h)) (fun _ _ h => h) _ _ hsh0.out) (Hka.out.fr ((f0.out.trans f1.out (fun _ _ h => h)).trans f2.out (fun _ _ h => h)) (fun _ _ h => h))
    have hse : standsE known (.mk 9 m ns n of) = standsN known ns := rfl
    rw [hse] at hsf
    obtain ⟨E, hE⟩ : ∃ E, E = standsN known ns := ⟨_, rfl⟩
    rw [← hE] at hsf
    have HE := Lib.hid hE
    clear hE hse
    by_cases he : E < 0
    · go_wp2_with fail
      refine hsf.mono ?_
      rintro e w3 ⟨rfl, f3⟩
      have f3 := Lib.hid f3
      go_wp2
      go_ret
      refine ⟨ret_nat (a := 10) ?_, ((f0.out.trans f1.out (fun _ _ h => h)).trans f2.out (fun _ _ h => h)).trans f3.out (fun _ _ h => h)⟩
      rw [eown.out, Hown.out, ← HE.out, if_pos he]; rfl
    · have HO : Hid (ownE known 9 ns = 0) := Lib.hid (by rw [Hown.out, ← HE.out, if_neg he])
      go_wp2_with fail
      refine hsf.mono ?_
      rintro e w3 ⟨rfl, f3⟩
      have q3 := box_kept q2.out f3 (fun h => h)
      obtain ⟨a0, a1, a2, a3⟩ := cell_of_four q3
      have f3 := Lib.hid f3
      have q3 := Lib.hid q3
      clear b0 b1 b2 b3
      have g3 : Hid (Fr (fun _ => False) w w3) := Lib.hid (((f0.out.trans f1.out (fun _ _ h => h)).trans f2.out (fun _ _ h => h)).trans f3.out (fun _ _ h => h))
      go_wp2_with fail
      go_loopg [9, 10, 48] n (fun G u9 u10 u48 wr => ∃ j : Nat, j ≤ n ∧ G = n - j ∧ u48 = .int .i64 j ∧ Hid (Fr (fun _ => False) w wr ∧ firstE (fun i => rightE known (of i) (lv - 1)) j = 0))
      case atStart => exact ⟨0, Nat.zero_le _, rfl, by go_num, Lib.hid ⟨g3.out, rfl⟩⟩
      case round =>
        obtain ⟨j, hj, rfl, rfl, HI⟩ := hrel
        by_cases hlt : j < n
        · rcases Hso.out with hz | ⟨hcap, g, off, hg, rfl, hcell⟩
          · omega
          obtain ⟨x0, x1, x2, x3, y0, y1, y2, y3, hx⟩ := hcell j hlt
          have y0 := cell_fr (R := fun _ => True) HI.out.1 (fun _ _ h => h) trivial y0
          have y1 := cell_fr (R := fun _ => True) HI.out.1 (fun _ _ h => h) trivial y1
          have y2 := cell_fr (R := fun _ => True) HI.out.1 (fun _ _ h => h) trivial y2
          have y3 := cell_fr (R := fun _ => True) HI.out.1 (fun _ _ h => h) trivial y3
          obtain ⟨pk, pm, pa, pn, pc, pa', pn', pc', rfl, rfl, rfl, rfl⟩ := hx.cells
          clear hcell
          have fx : Hid (Fr (fun _ => False) wr (wr.alloc (.cells #[.int .u8 pk, .int .i64 pm, .slice pa pn pc, .slice pa' pn' pc'] 34))) := Lib.hid ((Fr.refl _ _).alloc _)
          have hrec := ih j R (.agg #[.int .u8 pk, .int .i64 pm, .slice pa pn pc, .slice pa' pn' pc']) kv (wr.alloc (.cells #[.int .u8 pk, .int .i64 pm, .slice pa pn pc, .slice pa' pn' pc'] 34)) (lv - 1) (lz - 1) (by have := Hlz.out; omega) (by omega) (Shows.fr (HI.out.1.trans fx.out (fun _ _ h => h)) (fun _ _ h => h) _ _ hx) (Hka.out.fr (HI.out.1.trans fx.out (fun _ _ h => h)) (fun _ _ h => h))
          clear hx
          obtain ⟨E, hE⟩ : ∃ E, E = rightE known (of j) (lv - 1) := ⟨_, rfl⟩
          rw [← hE] at hrec
          have HE := Lib.hid hE
          clear hE
          by_cases he : E = 0
          · subst he
            go_wp2_with fail
            refine hrec.mono ?_
            rintro e w5 ⟨rfl, f5⟩
            have f5 := Lib.hid f5
            go_wp2
            go_roundg (n - (j + 1))
            case measure => omega
            case rel => exact ⟨j + 1, by omega, rfl, by go_num, Lib.hid ⟨(HI.out.1.trans fx.out (fun _ _ h => h)).trans f5.out (fun _ _ h => h), firstE_step _ _ HI.out.2 HE.out.symm⟩⟩
          · have he' : ¬ (E : Int) = 0 := by omega
            go_wp2_with fail
            refine hrec.mono ?_
            rintro e w5 ⟨rfl, f5⟩
            have f5 := Lib.hid f5
            go_wp2
            go_ret
            refine ⟨ret_nat ?_, (HI.out.1.trans fx.out (fun _ _ h => h)).trans f5.out (fun _ _ h => h)⟩
            rw [eown.out, if_pos HO.out, HE.out]
            exact (firstE_stop (fun i => rightE known (of i) (lv - 1)) n j hlt HI.out.2 (by rw [← HE.out]; exact he)).symm
        · obtain rfl : j = n := by omega
          go_wp2
          go_ret
          refine ⟨ret_nat (a := 0) ?_, HI.out.1⟩
          rw [eown.out, if_pos HO.out]
          exact HI.out.2.symm
end
section
/-- Each edge that binds leads to an operation that stands before. -/
def edgesDown (ops : Array Oper) : Bool := ops.toList.zipIdx.all fun (o, i) => o.after.all fun e => !Region.binds .any e || decide (e.on < i)

theorem edgesDown_spec {ops : Array Oper} (h : edgesDown ops = true) {i : Nat} {o : Oper} (ho : ops[i]? = some o) {e : Edge} (he : e ∈ o.after) (hb : Region.binds .any e = true) : e.on < i := by
  unfold edgesDown at h
  rw [List.all_eq_true] at h
  have hi := (Array.getElem?_eq_some_iff.1 ho)
  obtain ⟨hlt, hoi⟩ := hi
  have hm : (o, i) ∈ ops.toList.zipIdx := by
    rw [List.mem_zipIdx_iff_getElem?]
    simp [ho]
  have h1 := h _ hm
  simp only [Array.all_eq_true'] at h1
  have h2 := h1 e he
  simp [hb] at h2
  exact h2

section
variable {P : Program} {ops : Array Oper} {Q : Exit → Act → World → Prop}

/-- What the walk keeps: the frame is 'fr vals', the world is a later one, and of each operation that was carried out its predicate holds. -/
structure RelInv (ops : Array Oper) (Le : World → World → Prop) (fr : (Nat → Value) → Act) (V : Nat → Value → World → Prop) (w0 : World) (listed : Array Bool) (vals : Nat → Value) (w : World) : Prop where
  le : Le w0 w
  all : ∀ i, i < ops.size → listed.getD i true = true → V i (vals i) w

def RelStep (P : Program) (ops : Array Oper) (Q : Exit → Act → World → Prop) (Le : World → World → Prop) (fr : (Nat → Value) → Act) (V : Nat → Value → World → Prop) (w0 : World) (i : Nat) (o : Oper) : Prop :=
  ∀ (vals : Nat → Value) (w : World), Le w0 w → (∀ e ∈ o.after.toList, Region.binds .any e = true → V e.on (vals e.on) w) →
    ∀ K : Act → World → Prop, (∀ v w', Le w w' → V i v w' → K ((fr vals).put o.dst v) w') →
    if Region.wanted o (yielded ops (fr vals).tmps) = true then o.wp P (fr vals) w K Q else K ((fr vals).put o.dst undef) w

theorem getD_set (l : Array Bool) (i j : Nat) (hi : i < l.size) : (l.setIfInBounds i true).getD j true = if j = i then true else l.getD j true := by
  rw [Array.getD_eq_getD_getElem?, Array.getD_eq_getD_getElem?, Array.getElem?_setIfInBounds]
  by_cases h : j = i
  · subst h
    simp [hi]
  · rw [if_neg h, if_neg (Ne.symm h)]

theorem wpAny_rel {Le : World → World → Prop} (htrans : ∀ a b c, Le a b → Le b c → Le a c) {fr : (Nat → Value) → Act}
    (hput : ∀ i o, ops[i]? = some o → ∀ vals v, (fr vals).put o.dst v = fr (fun j => if j = i then v else vals j))
    {V : Nat → Value → World → Prop} (mono : ∀ i v w w', Le w w' → V i v w → V i v w') {w0 : World} (hdown : edgesDown ops = true)
    (step : ∀ i o, ops[i]? = some o → RelStep P ops Q Le fr V w0 i o)
    (fin : ∀ vals w, Le w0 w → (∀ i, i < ops.size → V i (vals i) w) → Q .normal (fr vals) w) :
    ∀ (fuel : Nat) (listed : Array Bool) (vals : Nat → Value) (w : World), listed.size = ops.size → (listed.toList.filter (! ·)).length = fuel → RelInv ops Le fr V w0 listed vals w → wpAny P .any ops Q fuel listed (fr vals) w := by
  have done : ∀ (listed : Array Bool) (vals : Nat → Value) (w : World), listed.size = ops.size → RelInv ops Le fr V w0 listed vals w → Region.ready .any ops listed = [] → Q .normal (fr vals) w := by
    intro listed vals w hs hI hr
    refine fin vals w hI.le ?_
    have hall : ∀ n i, i < n → i < ops.size → listed.getD i true = true := by
      intro n
      induction n with
      | zero => intro i hi; omega
      | succ n ih =>
        intro i hi hio
        by_cases h : listed.getD i true = true
        · exact h
        · exfalso
          have hno : i ∉ Region.ready .any ops listed := by rw [hr]; exact List.not_mem_nil
          refine hno ?_
          unfold Region.ready
          rw [List.mem_filter]
          refine ⟨List.mem_range.2 hio, ?_⟩
          have ho : ops[i]? = some ops[i] := Array.getElem?_eq_getElem hio
          simp only [Bool.and_eq_true, ho, Option.map_some, Option.getD_some]
          refine ⟨by simpa using h, ?_⟩
          rw [Array.all_eq_true']
          intro e he
          by_cases hb : Region.binds .any e = true
          · have hlt := edgesDown_spec hdown ho he hb
            have h1 := ih e.on (by omega) (by omega)
            have h2 : e.on < listed.size := by omega
            rw [Array.getD_eq_getD_getElem?, Array.getElem?_eq_getElem h2, Option.getD_some] at h1
            simp [h2, h1]
          · simp [hb]
    intro i hi
    exact hI.all i hi (hall (i + 1) i (by omega) hi)
  intro fuel
  induction fuel with
  | zero =>
    intro listed vals w hs hf hI
    have hr : Region.ready .any ops listed = [] := by
      unfold Region.ready
      rw [List.filter_eq_nil_iff]
      intro i hi
      have hio := List.mem_range.1 hi
      have h0 : listed.toList.filter (! ·) = [] := List.eq_nil_of_length_eq_zero hf
      rw [List.filter_eq_nil_iff] at h0
      have hl : i < listed.size := by omega
      have h1 := h0 listed[i] (by simp)
      simp at h1
      simp [Array.getD, hl, h1]
    exact ⟨hr, done listed vals w hs hI hr⟩
  | succ fuel ih =>
    intro listed vals w hs hf hI
    refine ⟨fun hr => done listed vals w hs hI hr, ?_⟩
    intro i hi
    unfold Region.ready at hi
    rw [List.mem_filter] at hi
    obtain ⟨hio, hi2⟩ := hi
    have hio := List.mem_range.1 hio
    have ho : ops[i]? = some ops[i] := Array.getElem?_eq_getElem hio
    simp only [Bool.and_eq_true, ho, Option.map_some, Option.getD_some] at hi2
    obtain ⟨hn, ha⟩ := hi2
    have hil : i < listed.size := by omega
    have hnl : listed[i] = false := by simpa [Array.getD, hil] using hn
    have hcount : ((listed.setIfInBounds i true).toList.filter (! ·)).length = fuel := by
      have e : (listed.setIfInBounds i true).toList = listed.toList.set i true := by simp
      rw [e]
      have hd : listed.toList = listed.toList.take i ++ listed[i] :: listed.toList.drop (i + 1) := by
        have hl' : i < listed.toList.length := by simpa using hil
        have := (List.take_append_drop i listed.toList).symm
        rw [List.drop_eq_getElem_cons hl'] at this
        simpa using this
      have hset : listed.toList.set i true = listed.toList.take i ++ true :: listed.toList.drop (i + 1) := by
        rw [List.set_eq_take_append_cons_drop, if_pos (by simpa using hil)]
      rw [hset]
      rw [hd, hnl] at hf
      simp at hf ⊢
      omega
    have hnext : ∀ v w', Le w w' → V i v w' → wpAny P .any ops Q fuel (listed.setIfInBounds i true) ((fr vals).put ops[i].dst v) w' := by
      intro v w' hle hv
      rw [hput i _ ho]
      refine ih _ _ _ (by simpa using hs) hcount ⟨htrans _ _ _ hI.le hle, ?_⟩
      intro j hj hlj
      rw [getD_set _ _ _ hil] at hlj
      by_cases hji : j = i
      · subst hji; simpa using hv
      · rw [if_neg hji] at hlj
        simp only [if_neg hji]
        exact mono _ _ _ _ hle (hI.all j hj hlj)
    have hst := step i _ ho vals w hI.le (by
      intro e he hb
      rw [Array.all_eq_true'] at ha
      have h1 := ha e (by simpa using he)
      simp [hb] at h1
      have hlt := edgesDown_spec hdown ho (by simpa using he) hb
      refine hI.all e.on (by omega) ?_
      have h2 : e.on < listed.size := by omega
      simpa [Array.getD, h2] using h1) _ hnext
    unfold wpOp
    simp only [ho]
    split
    · rename_i hw
      rw [if_pos hw] at hst
      exact .inl hst
    · rename_i hw
      rw [if_neg hw] at hst
      exact hst

/-- THE REGION: whatever order is drawn. -/
theorem wp_region_rel {id : Nat} {a : Act} {w : World} (hm : P.follows .mixedOrders = true) (Le : World → World → Prop) (hrefl : ∀ w, Le w w) (htrans : ∀ a b c, Le a b → Le b c → Le a c)
    (fr : (Nat → Value) → Act) (vals : Nat → Value) (ha : a = fr vals)
    (hput : ∀ i o, ops[i]? = some o → ∀ vals v, (fr vals).put o.dst v = fr (fun j => if j = i then v else vals j))
    (V : Nat → Value → World → Prop) (mono : ∀ i v w w', Le w w' → V i v w → V i v w') (hdown : edgesDown ops = true)
    (step : ∀ i o, ops[i]? = some o → RelStep P ops Q Le fr V w.drew i o)
    (fin : ∀ vals w', Le w.drew w' → (∀ i, i < ops.size → V i (vals i) w') → Q .normal (fr vals) w') : (Code.region id ops true).wp P Q a w := by
  refine wp_region_any hm ?_
  subst ha
  refine wpAny_rel htrans hput mono hdown step fin _ _ vals _ (by simp) ?_ ⟨hrefl _, ?_⟩
  · simp
  · intro i hi hl
    exfalso
    simp [Array.getD, hi] at hl

/-- The temporaries with the values vals in the slots ds, from number k on. -/
def fill (vals : Nat → Value) : List Nat → Nat → Array Value → Array Value
  | [], _, t => t
  | d :: ds, k, t => fill vals ds (k + 1) (t.setIfInBounds d (vals k))

def frOf (a : Act) (ds : List Nat) (vals : Nat → Value) : Act := { a with tmps := fill vals ds 0 a.tmps }

theorem fill_size (vals : Nat → Value) : ∀ (ds : List Nat) (k : Nat) (t : Array Value), (fill vals ds k t).size = t.size
  | [], _, _ => rfl
  | d :: ds, k, t => by rw [fill, fill_size vals ds, Array.size_setIfInBounds]

theorem fill_other (vals : Nat → Value) : ∀ (ds : List Nat) (k : Nat) (t : Array Value) (x : Nat), x ∉ ds → (fill vals ds k t)[x]? = t[x]?
  | [], _, _, _, _ => rfl
  | d :: ds, k, t, x, h => by
    rw [List.mem_cons, not_or] at h
    rw [fill, fill_other vals ds (k + 1) _ x h.2, Array.getElem?_setIfInBounds, if_neg (Ne.symm h.1)]

theorem fill_at (vals : Nat → Value) : ∀ (ds : List Nat) (k : Nat) (t : Array Value), ds.Nodup → (∀ d ∈ ds, d < t.size) → ∀ j d, ds[j]? = some d → (fill vals ds k t)[d]? = some (vals (k + j))
  | [], _, _, _, _, j, d, h => by simp at h
  | d' :: ds, k, t, hn, hb, 0, d, h => by
    simp at h
    subst h
    rw [fill, fill_other vals ds (k + 1) _ _ (List.nodup_cons.1 hn).1, Array.getElem?_setIfInBounds, if_pos rfl, if_pos (hb _ (by simp)), Nat.add_zero]
  | d' :: ds, k, t, hn, hb, j + 1, d, h => by
    rw [fill, fill_at vals ds (k + 1) _ (List.nodup_cons.1 hn).2 (fun x hx => by rw [Array.size_setIfInBounds]; exact hb x (by simp [hx])) j d (by simpa using h)]
    congr 2
    omega

/-- Every operation of a list, with its number. -/
def AllOps (T : Nat → Oper → Prop) : List Oper → Nat → Prop
  | [], _ => True
  | o :: l, k => T k o ∧ AllOps T l (k + 1)
theorem AllOps.nil {T : Nat → Oper → Prop} {k : Nat} : AllOps T [] k := trivial
theorem AllOps.cons {T : Nat → Oper → Prop} {o : Oper} {l : List Oper} {k : Nat} (h : T k o) (hl : AllOps T l (k + 1)) : AllOps T (o :: l) k := ⟨h, hl⟩
theorem AllOps.get {T : Nat → Oper → Prop} : ∀ {l : List Oper} {k : Nat}, AllOps T l k → ∀ i o, l[i]? = some o → T (k + i) o
  | [], _, _, i, o, h => by simp at h
  | o' :: l, k, ⟨h0, _⟩, 0, o, h => by simp at h; subst h; exact h0
  | o' :: l, k, ⟨_, hl⟩, i + 1, o, h => by have := AllOps.get hl i o (by simpa using h); rwa [show k + 1 + i = k + (i + 1) by omega] at this

/-- One operation, from a frame: what stands behind it is a variable. -/
def RelOp (P : Program) (ops : Array Oper) (Q : Exit → Act → World → Prop) (Le : World → World → Prop) (V : Nat → Value → World → Prop) (w0 : World) (a : Act) (vals : Nat → Value) (i : Nat) (o : Oper) : Prop :=
  ∀ (w : World), Le w0 w → (∀ e ∈ o.after.toList, Region.binds .any e = true → V e.on (vals e.on) w) →
    ∀ K : Act → World → Prop, (∀ v w', Le w w' → V i v w' → K (a.put o.dst v) w') →
    if Region.wanted o (yielded ops a.tmps) = true then o.wp P a w K Q else K (a.put o.dst undef) w

/-- THE REGION AS THE WALK WANTS IT: the operations written out, their slots 'ds'; what each leaves ('V'); each operation, from whatever values the earlier ones left. -/
theorem wp_region_told {id : Nat} {l : List Oper} {a : Act} {w : World} (hm : P.follows .mixedOrders = true) (Le : World → World → Prop) (hrefl : ∀ w, Le w w) (htrans : ∀ a b c, Le a b → Le b c → Le a c)
    (ds : List Nat) (hds : l.map (·.dst) = ds.map some) (hnd : ds.Nodup) (hlt : ∀ d ∈ ds, d < a.tmps.size)
    (V : Nat → Value → World → Prop) (mono : ∀ i v w w', Le w w' → V i v w → V i v w') (hdown : edgesDown l.toArray = true)
    (step : ∀ vals : Nat → Value, AllOps (RelOp P l.toArray Q Le V w.drew (frOf a ds vals) vals) l 0)
    (fin : ∀ vals w', Le w.drew w' → (∀ i, i < l.length → V i (vals i) w') → Q .normal (frOf a ds vals) w') : (Code.region id l.toArray true).wp P Q a w := by
  have hdst : ∀ (i : Nat) (o : Oper), l[i]? = some o → ∃ d, ds[i]? = some d ∧ o.dst = some d := by
    intro i o ho
    have h1 : (l.map (·.dst))[i]? = some o.dst := by simp [ho]
    rw [hds] at h1
    simp only [List.getElem?_map, Option.map_eq_some_iff] at h1
    obtain ⟨d, h2, h3⟩ := h1
    exact ⟨d, h2, h3.symm⟩
  refine wp_region_rel hm Le hrefl htrans (frOf a ds) (fun j => (ds[j]?.bind (a.tmps[·]?)).getD undef) ?_ ?_ V mono hdown ?_ (by simpa using fin)
  · unfold frOf
    have : fill (fun j => (ds[j]?.bind (a.tmps[·]?)).getD undef) ds 0 a.tmps = a.tmps := by
      apply Array.ext_getElem?
      intro x
      by_cases hx : x ∈ ds
      · obtain ⟨j, hj, rfl⟩ := List.getElem_of_mem hx
        have hd := List.getElem?_eq_getElem hj
        rw [fill_at _ ds 0 a.tmps hnd hlt j _ hd, Nat.zero_add, hd]
        have hb := hlt ds[j] hx
        simp [Array.getElem?_eq_getElem hb]
      · exact fill_other _ _ _ _ _ hx
    rw [this]
  · intro i o ho vals v
    obtain ⟨d, h1, h2⟩ := hdst i o (by simpa using ho)
    rw [h2]
    unfold frOf Act.put
    simp only
    congr 1
    apply Array.ext_getElem?
    intro x
    have hd : d < a.tmps.size := hlt d (List.mem_of_getElem? h1)
    rw [Array.getElem?_setIfInBounds]
    by_cases hx : x ∈ ds
    · obtain ⟨j, hj, rfl⟩ := List.getElem_of_mem hx
      have hdj := List.getElem?_eq_getElem hj
      rw [fill_at _ ds 0 a.tmps hnd hlt j _ hdj, fill_at _ ds 0 a.tmps hnd hlt j _ hdj, Nat.zero_add]
      by_cases e : j = i
      · subst e
        rw [h1] at hdj
        simp only [Option.some.injEq] at hdj
        rw [if_pos hdj, if_pos (by rw [fill_size]; exact hd), if_pos rfl]
      · have hne : d ≠ ds[j] := by
          intro e2
          refine e ?_
          have hi : i < ds.length := (List.getElem?_eq_some_iff.1 h1).1
          have h3 : ds[i] = ds[j] := by rw [(List.getElem?_eq_some_iff.1 h1).2]; exact e2
          exact ((List.getElem_inj hnd).1 h3).symm
        rw [if_neg hne, if_neg e]
    · have hne : d ≠ x := fun e => hx (e ▸ List.mem_of_getElem? h1)
      rw [if_neg hne, fill_other _ _ _ _ _ hx, fill_other _ _ _ _ _ hx]
  · intro i o ho vals w' hle he K hK
    have := (step vals).get i o (by simpa using ho)
    rw [Nat.zero_add] at this
    exact this w' hle he K hK

end
end
section
section
variable {P : Program} {ops : Array Oper} {Q : Exit → Act → World → Prop}

/-- What the walk keeps: the frame is 'fr vals', the world is a later one, and of each operation that was carried out its predicate holds. -/
structure RelInvU (ops : Array Oper) (Le : World → World → Prop) (fr : (Nat → Value) → Act) (U : Nat → World → Prop) (V : Nat → Value → World → Prop) (w0 : World) (listed : Array Bool) (vals : Nat → Value) (w : World) : Prop where
  le : Le w0 w
  all : ∀ i, i < ops.size → listed.getD i true = true → V i (vals i) w
  rest : ∀ i, i < ops.size → listed.getD i true = false → U i w
  closed : ∀ i o, ops[i]? = some o → listed.getD i true = true → ∀ e ∈ o.after, Region.binds .any e = true → listed.getD e.on true = true

/-- Does operation j wait for operation i? -/
def waits (ops : Array Oper) (j i : Nat) : Bool := match ops[j]? with
  | some o => o.after.any fun e => Region.binds .any e && decide (e.on = i)
  | none => false

def RelStepU (P : Program) (ops : Array Oper) (Q : Exit → Act → World → Prop) (Le : World → World → Prop) (fr : (Nat → Value) → Act) (U : Nat → World → Prop) (V : Nat → Value → World → Prop) (w0 : World) (i : Nat) (o : Oper) : Prop :=
  ∀ (vals : Nat → Value) (w : World), Le w0 w → (∀ e ∈ o.after.toList, Region.binds .any e = true → V e.on (vals e.on) w) →
    U i w → (∀ j, waits ops j i = true → U j w) →
    ∀ K : Act → World → Prop, (∀ v w', Le w w' → V i v w' → (∀ j, j ≠ i → U j w → U j w') → (∀ j u, j ≠ i → V j u w → V j u w') → K ((fr vals).put o.dst v) w') →
    if Region.wanted o (yielded ops (fr vals).tmps) = true then o.wp P (fr vals) w K Q else K ((fr vals).put o.dst undef) w

theorem wpAny_relU {Le : World → World → Prop} (htrans : ∀ a b c, Le a b → Le b c → Le a c) {fr : (Nat → Value) → Act}
    (hput : ∀ i o, ops[i]? = some o → ∀ vals v, (fr vals).put o.dst v = fr (fun j => if j = i then v else vals j))
    {U : Nat → World → Prop} {V : Nat → Value → World → Prop} {w0 : World} (hdown : edgesDown ops = true)
    (step : ∀ i o, ops[i]? = some o → RelStepU P ops Q Le fr U V w0 i o)
    (fin : ∀ vals w, Le w0 w → (∀ i, i < ops.size → V i (vals i) w) → Q .normal (fr vals) w) :
    ∀ (fuel : Nat) (listed : Array Bool) (vals : Nat → Value) (w : World), listed.size = ops.size → (listed.toList.filter (! ·)).length = fuel → RelInvU ops Le fr U V w0 listed vals w → wpAny P .any ops Q fuel listed (fr vals) w := by
  have done : ∀ (listed : Array Bool) (vals : Nat → Value) (w : World), listed.size = ops.size → RelInvU ops Le fr U V w0 listed vals w → Region.ready .any ops listed = [] → Q .normal (fr vals) w := by
    intro listed vals w hs hI hr
    refine fin vals w hI.le ?_
    have hall : ∀ n i, i < n → i < ops.size → listed.getD i true = true := by
      intro n
      induction n with
      | zero => intro i hi; omega
      | succ n ih =>
        intro i hi hio
        by_cases h : listed.getD i true = true
        · exact h
        · exfalso
          have hno : i ∉ Region.ready .any ops listed := by rw [hr]; exact List.not_mem_nil
          refine hno ?_
          unfold Region.ready
          rw [List.mem_filter]
          refine ⟨List.mem_range.2 hio, ?_⟩
          have ho : ops[i]? = some ops[i] := Array.getElem?_eq_getElem hio
          simp only [Bool.and_eq_true, ho, Option.map_some, Option.getD_some]
          refine ⟨by simpa using h, ?_⟩
          rw [Array.all_eq_true']
          intro e he
          by_cases hb : Region.binds .any e = true
          · have hlt := edgesDown_spec hdown ho he hb
            have h1 := ih e.on (by omega) (by omega)
            have h2 : e.on < listed.size := by omega
            rw [Array.getD_eq_getD_getElem?, Array.getElem?_eq_getElem h2, Option.getD_some] at h1
            simp [h2, h1]
          · simp [hb]
    intro i hi
    exact hI.all i hi (hall (i + 1) i (by omega) hi)
  intro fuel
  induction fuel with
  | zero =>
    intro listed vals w hs hf hI
    have hr : Region.ready .any ops listed = [] := by
      unfold Region.ready
      rw [List.filter_eq_nil_iff]
      intro i hi
      have hio := List.mem_range.1 hi
      have h0 : listed.toList.filter (! ·) = [] := List.eq_nil_of_length_eq_zero hf
      rw [List.filter_eq_nil_iff] at h0
      have hl : i < listed.size := by omega
      have h1 := h0 listed[i] (by simp)
      simp at h1
      simp [Array.getD, hl, h1]
    exact ⟨hr, done listed vals w hs hI hr⟩
  | succ fuel ih =>
    intro listed vals w hs hf hI
    refine ⟨fun hr => done listed vals w hs hI hr, ?_⟩
    intro i hi
    unfold Region.ready at hi
    rw [List.mem_filter] at hi
    obtain ⟨hio, hi2⟩ := hi
    have hio := List.mem_range.1 hio
    have ho : ops[i]? = some ops[i] := Array.getElem?_eq_getElem hio
    simp only [Bool.and_eq_true, ho, Option.map_some, Option.getD_some] at hi2
    obtain ⟨hn, ha⟩ := hi2
    have hil : i < listed.size := by omega
    have hnl : listed[i] = false := by simpa [Array.getD, hil] using hn
    have hcount : ((listed.setIfInBounds i true).toList.filter (! ·)).length = fuel := by
      have e : (listed.setIfInBounds i true).toList = listed.toList.set i true := by simp
      rw [e]
      have hd : listed.toList = listed.toList.take i ++ listed[i] :: listed.toList.drop (i + 1) := by
        have hl' : i < listed.toList.length := by simpa using hil
        have := (List.take_append_drop i listed.toList).symm
        rw [List.drop_eq_getElem_cons hl'] at this
        simpa using this
      have hset : listed.toList.set i true = listed.toList.take i ++ true :: listed.toList.drop (i + 1) := by
        rw [List.set_eq_take_append_cons_drop, if_pos (by simpa using hil)]
      rw [hset]
      rw [hd, hnl] at hf
      simp at hf ⊢
      omega
    have hnd : ∀ e ∈ ops[i].after, Region.binds .any e = true → listed.getD e.on true = true := by
      intro e he hb
      rw [Array.all_eq_true'] at ha
      have h1 := ha e he
      simp [hb] at h1
      have hlt := edgesDown_spec hdown ho he hb
      have h2 : e.on < listed.size := by omega
      simpa [Array.getD, h2] using h1
    have hnext : ∀ v w', Le w w' → V i v w' → (∀ j, j ≠ i → U j w → U j w') → (∀ j u, j ≠ i → V j u w → V j u w') → wpAny P .any ops Q fuel (listed.setIfInBounds i true) ((fr vals).put ops[i].dst v) w' := by
      intro v w' hle hv hu hpres
      rw [hput i _ ho]
      refine ih _ _ _ (by simpa using hs) hcount ⟨htrans _ _ _ hI.le hle, ?_, ?_, ?_⟩
      · intro j hj hlj
        rw [getD_set _ _ _ hil] at hlj
        by_cases hji : j = i
        · subst hji; simpa using hv
        · rw [if_neg hji] at hlj
          simp only [if_neg hji]
          exact hpres j _ hji (hI.all j hj hlj)
      · intro j hj hlj
        rw [getD_set _ _ _ hil] at hlj
        by_cases hji : j = i
        · rw [if_pos hji] at hlj; cases hlj
        · rw [if_neg hji] at hlj
          exact hu j hji (hI.rest j hj hlj)
      · intro j o hjo hlj e he hb
        rw [getD_set _ _ _ hil] at hlj ⊢
        by_cases hei : e.on = i
        · rw [if_pos hei]
        · rw [if_neg hei]
          by_cases hji : j = i
          · subst hji
            rw [ho] at hjo
            cases hjo
            exact hnd e he hb
          · rw [if_neg hji] at hlj
            exact hI.closed j o hjo hlj e he hb
    have hst := step i _ ho vals w hI.le (by
      intro e he hb
      have hlt := edgesDown_spec hdown ho (by simpa using he) hb
      exact hI.all e.on (by omega) (hnd e (by simpa using he) hb)) (by
      refine hI.rest i hio ?_
      rw [Array.getD_eq_getD_getElem?, Array.getElem?_eq_getElem hil, hnl]; rfl) (by
      intro j hw
      unfold waits at hw
      cases hjo : ops[j]? with
      | none => rw [hjo] at hw; cases hw
      | some o =>
        rw [hjo] at hw
        simp only [Array.any_eq_true', Bool.and_eq_true, decide_eq_true_eq] at hw
        obtain ⟨e, he, hb, hei⟩ := hw
        have hjs : j < ops.size := (Array.getElem?_eq_some_iff.1 hjo).1
        cases hlj : listed.getD j true with
        | false => exact hI.rest j hjs hlj
        | true =>
          have := hI.closed j o hjo hlj e he hb
          rw [hei, Array.getD_eq_getD_getElem?, Array.getElem?_eq_getElem hil, hnl] at this
          cases this) _ hnext
    unfold wpOp
    simp only [ho]
    split
    · rename_i hw
      rw [if_pos hw] at hst
      exact .inl hst
    · rename_i hw
      rw [if_neg hw] at hst
      exact hst

/-- THE REGION: whatever order is drawn. -/
theorem wp_region_relU {id : Nat} {a : Act} {w : World} (hm : P.follows .mixedOrders = true) (Le : World → World → Prop) (hrefl : ∀ w, Le w w) (htrans : ∀ a b c, Le a b → Le b c → Le a c)
    (fr : (Nat → Value) → Act) (vals : Nat → Value) (ha : a = fr vals)
    (hput : ∀ i o, ops[i]? = some o → ∀ vals v, (fr vals).put o.dst v = fr (fun j => if j = i then v else vals j))
    (U : Nat → World → Prop) (V : Nat → Value → World → Prop) (hdown : edgesDown ops = true) (hU : ∀ i, i < ops.size → U i w.drew)
    (step : ∀ i o, ops[i]? = some o → RelStepU P ops Q Le fr U V w.drew i o)
    (fin : ∀ vals w', Le w.drew w' → (∀ i, i < ops.size → V i (vals i) w') → Q .normal (fr vals) w') : (Code.region id ops true).wp P Q a w := by
  refine wp_region_any hm ?_
  subst ha
  have hfalse : ∀ i, i < ops.size → ¬ (Array.replicate ops.size false).getD i true = true := by
    intro i hi h
    simp [Array.getD, hi] at h
  refine wpAny_relU (U := U) htrans hput hdown step fin _ _ vals _ (by simp) ?_ ⟨hrefl _, ?_, ?_, ?_⟩
  · simp
  · intro i hi hl
    exact absurd hl (hfalse i hi)
  · intro i hi _
    exact hU i hi
  · intro i o ho hl
    exact absurd hl (hfalse i (Array.getElem?_eq_some_iff.1 ho).1)

/-- The temporaries with the values vals in the slots ds (none: no slot), from number k on. -/
def fillU (vals : Nat → Value) : List (Option Nat) → Nat → Array Value → Array Value
  | [], _, t => t
  | none :: ds, k, t => fillU vals ds (k + 1) t
  | some d :: ds, k, t => fillU vals ds (k + 1) (t.setIfInBounds d (vals k))

def frOfU (a : Act) (ds : List (Option Nat)) (vals : Nat → Value) : Act := { a with tmps := fillU vals ds 0 a.tmps }

theorem fillU_size (vals : Nat → Value) : ∀ (ds : List (Option Nat)) (k : Nat) (t : Array Value), (fillU vals ds k t).size = t.size
  | [], _, _ => rfl
  | none :: ds, k, t => fillU_size vals ds _ _
  | some d :: ds, k, t => by rw [fillU, fillU_size vals ds, Array.size_setIfInBounds]

theorem fillU_other (vals : Nat → Value) : ∀ (ds : List (Option Nat)) (k : Nat) (t : Array Value) (x : Nat), some x ∉ ds → (fillU vals ds k t)[x]? = t[x]?
  | [], _, _, _, _ => rfl
  | none :: ds, k, t, x, h => by
    rw [List.mem_cons, not_or] at h
    exact fillU_other vals ds (k + 1) _ x h.2
  | some d :: ds, k, t, x, h => by
    rw [List.mem_cons, not_or] at h
    rw [fillU, fillU_other vals ds (k + 1) _ x h.2, Array.getElem?_setIfInBounds, if_neg (fun e => h.1 (by rw [e]))]

def noTwice : List (Option Nat) → Bool
  | [] => true
  | none :: ds => noTwice ds
  | some d :: ds => !ds.contains (some d) && noTwice ds

theorem fillU_at (vals : Nat → Value) : ∀ (ds : List (Option Nat)) (k : Nat) (t : Array Value), noTwice ds = true → (∀ d, some d ∈ ds → d < t.size) → ∀ j d, ds[j]? = some (some d) → (fillU vals ds k t)[d]? = some (vals (k + j))
  | [], _, _, _, _, j, d, h => by simp at h
  | none :: ds, k, t, hn, hb, 0, d, h => by simp at h
  | none :: ds, k, t, hn, hb, j + 1, d, h => by
    rw [fillU, fillU_at vals ds (k + 1) t hn (fun x hx => hb x (by simp [hx])) j d (by simpa using h)]
    congr 2
    omega
  | some d' :: ds, k, t, hn, hb, 0, d, h => by
    simp at h
    subst h
    simp only [noTwice, Bool.and_eq_true, Bool.not_eq_true', List.contains_eq_mem, decide_eq_false_iff_not] at hn
    rw [fillU, fillU_other vals ds (k + 1) _ _ hn.1, Array.getElem?_setIfInBounds, if_pos rfl, if_pos (hb _ (by simp)), Nat.add_zero]
  | some d' :: ds, k, t, hn, hb, j + 1, d, h => by
    simp only [noTwice, Bool.and_eq_true] at hn
    rw [fillU, fillU_at vals ds (k + 1) _ hn.2 (fun x hx => by rw [Array.size_setIfInBounds]; exact hb x (by simp [hx])) j d (by simpa using h)]
    congr 2
    omega

theorem noTwice_inj : ∀ {ds : List (Option Nat)}, noTwice ds = true → ∀ {i j d : Nat}, ds[i]? = some (some d) → ds[j]? = some (some d) → i = j
  | [], _, i, j, d, h, _ => by simp at h
  | none :: ds, hn, 0, j, d, h, _ => by simp at h
  | none :: ds, hn, i + 1, 0, d, _, h => by simp at h
  | none :: ds, hn, i + 1, j + 1, d, hi, hj => congrArg (· + 1) (noTwice_inj (ds := ds) (d := d) hn (by simpa using hi) (by simpa using hj))
  | some d' :: ds, hn, 0, 0, d, _, _ => rfl
  | some d' :: ds, hn, 0, j + 1, d, hi, hj => by
    simp at hi
    subst hi
    simp only [noTwice, Bool.and_eq_true, Bool.not_eq_true', List.contains_eq_mem, decide_eq_false_iff_not] at hn
    exact absurd (List.mem_of_getElem? (by simpa using hj)) hn.1
  | some d' :: ds, hn, i + 1, 0, d, hi, hj => by
    simp at hj
    subst hj
    simp only [noTwice, Bool.and_eq_true, Bool.not_eq_true', List.contains_eq_mem, decide_eq_false_iff_not] at hn
    exact absurd (List.mem_of_getElem? (by simpa using hi)) hn.1
  | some d' :: ds, hn, i + 1, j + 1, d, hi, hj => by
    simp only [noTwice, Bool.and_eq_true] at hn
    exact congrArg (· + 1) (noTwice_inj (ds := ds) (d := d) hn.2 (by simpa using hi) (by simpa using hj))

/-- One operation, from a frame: what stands behind it is a variable. -/
def RelOpU (P : Program) (ops : Array Oper) (Q : Exit → Act → World → Prop) (Le : World → World → Prop) (U : Nat → World → Prop) (V : Nat → Value → World → Prop) (w0 : World) (a : Act) (vals : Nat → Value) (i : Nat) (o : Oper) : Prop :=
  ∀ (w : World), Le w0 w → (∀ e ∈ o.after.toList, Region.binds .any e = true → V e.on (vals e.on) w) → U i w → (∀ j, waits ops j i = true → U j w) →
    ∀ K : Act → World → Prop, (∀ v w', Le w w' → V i v w' → (∀ j, j ≠ i → U j w → U j w') → (∀ j u, j ≠ i → V j u w → V j u w') → K (a.put o.dst v) w') →
    if Region.wanted o (yielded ops a.tmps) = true then o.wp P a w K Q else K (a.put o.dst undef) w

/-- THE REGION AS THE WALK WANTS IT: the operations written out, their slots 'ds'; what holds ahead of each ('U'), what each leaves ('V'); each operation, from whatever values the earlier ones left. -/
theorem wp_region_toldU {id : Nat} {l : List Oper} {a : Act} {w : World} (hm : P.follows .mixedOrders = true) (Le : World → World → Prop) (hrefl : ∀ w, Le w w) (htrans : ∀ a b c, Le a b → Le b c → Le a c)
    (ds : List (Option Nat)) (hds : l.map (·.dst) = ds) (hnd : noTwice ds = true) (hlt : ∀ d, some d ∈ ds → d < a.tmps.size)
    (U : Nat → World → Prop) (V : Nat → Value → World → Prop) (hdown : edgesDown l.toArray = true) (hU : ∀ i, i < l.length → U i w.drew)
    (step : ∀ vals : Nat → Value, AllOps (RelOpU P l.toArray Q Le U V w.drew (frOfU a ds vals) vals) l 0)
    (fin : ∀ vals w', Le w.drew w' → (∀ i, i < l.length → V i (vals i) w') → Q .normal (frOfU a ds vals) w') : (Code.region id l.toArray true).wp P Q a w := by
  have hdst : ∀ (i : Nat) (o : Oper), l[i]? = some o → ds[i]? = some o.dst := by
    intro i o ho
    rw [← hds]
    simp [ho]
  refine wp_region_relU hm Le hrefl htrans (frOfU a ds) (fun j => ((ds[j]?.bind fun x => x).bind (a.tmps[·]?)).getD undef) ?_ ?_ U V hdown (by simpa using hU) ?_ (by simpa using fin)
  · unfold frOfU
    have : fillU (fun j => ((ds[j]?.bind fun x => x).bind (a.tmps[·]?)).getD undef) ds 0 a.tmps = a.tmps := by
      apply Array.ext_getElem?
      intro x
      by_cases hx : some x ∈ ds
      · obtain ⟨j, hj, hjx⟩ := List.getElem_of_mem hx
        have hd : ds[j]? = some (some x) := by rw [List.getElem?_eq_getElem hj, hjx]
        rw [fillU_at _ ds 0 a.tmps hnd hlt j _ hd, Nat.zero_add, hd]
        have hb := hlt x hx
        simp [Array.getElem?_eq_getElem hb]
      · exact fillU_other _ _ _ _ _ hx
    rw [this]
  · intro i o ho vals v
    have h1 := hdst i o (by simpa using ho)
    unfold frOfU Act.put
    cases h2 : o.dst with
    | none =>
      rw [h2] at h1
      simp only
      congr 1
      apply Array.ext_getElem?
      intro x
      by_cases hx : some x ∈ ds
      · obtain ⟨j, hj, hjx⟩ := List.getElem_of_mem hx
        have hd : ds[j]? = some (some x) := by rw [List.getElem?_eq_getElem hj, hjx]
        rw [fillU_at _ ds 0 a.tmps hnd hlt j _ hd, fillU_at _ ds 0 a.tmps hnd hlt j _ hd, Nat.zero_add]
        have hne : j ≠ i := by
          intro e
          subst e
          rw [h1] at hd
          cases hd
        rw [if_neg hne]
      · rw [fillU_other _ _ _ _ _ hx, fillU_other _ _ _ _ _ hx]
    | some d =>
      rw [h2] at h1
      simp only
      congr 1
      apply Array.ext_getElem?
      intro x
      have hd : d < a.tmps.size := hlt d (List.mem_of_getElem? h1)
      rw [Array.getElem?_setIfInBounds]
      by_cases hx : some x ∈ ds
      · obtain ⟨j, hj, hjx⟩ := List.getElem_of_mem hx
        have hdj : ds[j]? = some (some x) := by rw [List.getElem?_eq_getElem hj, hjx]
        rw [fillU_at _ ds 0 a.tmps hnd hlt j _ hdj, fillU_at _ ds 0 a.tmps hnd hlt j _ hdj, Nat.zero_add]
        by_cases e : j = i
        · subst e
          rw [h1] at hdj
          simp only [Option.some.injEq] at hdj
          rw [if_pos hdj, if_pos (by rw [fillU_size]; exact hdj ▸ hd), if_pos rfl]
        · have hne : d ≠ x := by
            intro e2
            subst e2
            exact e (noTwice_inj hnd hdj h1)
          rw [if_neg hne, if_neg e]
      · have hne : d ≠ x := fun e => hx (e ▸ List.mem_of_getElem? h1)
        rw [if_neg hne, fillU_other _ _ _ _ _ hx, fillU_other _ _ _ _ _ hx]
  · intro i o ho vals w' hle he hu hw K hK
    have := (step vals).get i o (by simpa using ho)
    rw [Nat.zero_add] at this
    exact this w' hle he hu hw K hK

end
end
section
theorem results_cell_tmp_row {P : Program} {fn : Func} {p u : Tmp} {ty : TypeId} (h : fn.results = #[.cell p ty, .tmp u]) (tmps : Array Value) (w : World) (g : Nat) (t : TypeId) (cs : Array Value) (fr : Nat × Nat) (d : TypeDesc)
    (hp : tmps.getD p undef = .pointer (some ⟨g, 0, none⟩)) (hg : w.heap[g]? = some (.cells cs t fr))
    (hu : P.underlying ty = some d) (hd : (match d with | .struct _ | .array _ _ => true | _ => false) = true) (hi : (P.info? ty).map (·.size) = some cs.size) :
    (results fn tmps).run P w = .ok (.tuple #[.agg cs, tmps.getD u undef]) w := by
  rw [results_cell_tmp h]
  have hp' : tmps[p]?.getD undef = .pointer (some ⟨g, 0, none⟩) := by simpa using hp
  simp [hp', asAddr, run_loadVar_row w g t ty cs fr d hg hu hd hi, Result.andThen]

theorem zero_shows (R : Nat → Prop) (w : World) : Shows R w zeroT (.agg #[.int .u8 0, .int .i64 0, .slice none 0 0, .slice none 0 0]) :=
  ⟨_, _, rfl, by omega, by omega, ⟨by simp, by simp, .inl ⟨rfl, _, _, rfl⟩⟩, .inl ⟨rfl, _, _, rfl⟩⟩

/-- What a call of whole leaves: its answer; the count; the type in new memory. -/
def Wholed (r : WR) (lb : Nat) (w : World) (e : Ending) (w' : World) : Prop :=
  ∃ tv, e = .returned (.tuple #[tv, .int .i64 (r.e : Nat)]) ∧ Fr (fun k => k = lb) w w' ∧ w'.heap[lb]? = some (.cells #[.int .i64 (r.left : Nat)] 3 (0, 0)) ∧ Shows (fun k => w.heap.size ≤ k) w' r.t tv ∧ r.left ≤ 1000

theorem setCell_four {w : World} {b : Nat} {x0 x1 x2 x3 y : Value} {t : TypeId} (i : Nat) (h : w.heap[b]? = some (.cells #[x0, x1, x2, x3] t (0, 0))) :
    (w.setCell ⟨b, i, none⟩ y).heap[b]? = some (.cells (#[x0, x1, x2, x3].setIfInBounds i y) t (0, 0)) := by
  have hb := lt_of_block h
  unfold World.setCell
  simp only [Array.getElem?_modify, if_true, h, Option.map_some]
  simp

theorem store_four {w : World} {b : Nat} {x0 x1 x2 x3 y0 y1 y2 y3 : Value} {t : TypeId} (h : w.heap[b]? = some (.cells #[x0, x1, x2, x3] t (0, 0))) :
    ((((w.setCell ⟨b, 0, none⟩ y0).setCell ⟨b, 1, none⟩ y1).setCell ⟨b, 2, none⟩ y2).setCell ⟨b, 3, none⟩ y3).heap[b]? = some (.cells #[y0, y1, y2, y3] t (0, 0)) :=
  setCell_four 3 (setCell_four 2 (setCell_four 1 (setCell_four 0 h)))

theorem fr_four {w : World} {b : Nat} (y0 y1 y2 y3 : Value) {S : Nat → Prop} {w0 : World} (f : Fr S w0 w) (hb : b < w0.heap.size → S b) :
    Fr S w0 ((((w.setCell ⟨b, 0, none⟩ y0).setCell ⟨b, 1, none⟩ y1).setCell ⟨b, 2, none⟩ y2).setCell ⟨b, 3, none⟩ y3) :=
  (((f.setCell (p := ⟨b, 0, none⟩) hb _).setCell (p := ⟨b, 1, none⟩) hb _).setCell (p := ⟨b, 2, none⟩) hb _).setCell (p := ⟨b, 3, none⟩) hb _

theorem other_four (w : World) {b : Nat} (y0 y1 y2 y3 : Value) {g : Nat} (hg : g ≠ b) :
    ((((w.setCell ⟨b, 0, none⟩ y0).setCell ⟨b, 1, none⟩ y1).setCell ⟨b, 2, none⟩ y2).setCell ⟨b, 3, none⟩ y3).heap[g]? = w.heap[g]? := by
  rw [Below.heap_setCell _ _ _ _ (by simpa using hg), Below.heap_setCell _ _ _ _ (by simpa using hg), Below.heap_setCell _ _ _ _ (by simpa using hg), Below.heap_setCell _ _ _ _ (by simpa using hg)]

/-- What holds of every operation's value goes on to hold, if each saying does. -/
theorem pres_list {L : List (Value → World → Prop)} {w w' : World} (h : ∀ p ∈ L, ∀ u, p u w → p u w') : ∀ (j : Nat) (u : Value), L.getD j (fun _ _ => True) u w → L.getD j (fun _ _ => True) u w' := by
  intro j u hj
  by_cases hl : j < L.length
  · have e : L.getD j (fun _ _ => True) = L[j] := by simp [List.getD, hl]
    rw [e] at hj ⊢
    exact h _ (List.getElem_mem hl) u hj
  · have e : L.getD j (fun _ _ => True) = fun _ _ => True := by simp [List.getD, hl]
    rw [e]
    trivial

theorem wholed_zero {w w' : World} {e lb : Nat} {l : Nat} (f : Fr (fun k => k = lb) w w') (hb : w'.heap[lb]? = some (.cells #[.int .i64 l] 3 (0, 0))) (hl : l ≤ 1000) :
    Wholed ⟨e, zeroT, l⟩ lb w (.returned (.tuple #[.agg #[.int .u8 0, .int .i64 0, .slice none 0 0, .slice none 0 0], .int .i64 (e : Nat)])) w' :=
  ⟨_, rfl, f, hb, zero_shows _ _, hl⟩

theorem heap_alloc_two (w : World) (o o' : Obj) : ((w.alloc o).alloc o').heap[w.heap.size + 1]? = some o' := by
  have := heap_alloc_new (w.alloc o) o'
  simpa using this

set_option maxRecDepth 100000 in
theorem whole_zero (al : List (Txt × KT)) (t : KT) (R : Nat → Prop) (v av : Value) (lb l : Nat) (w : World) (hl : l ≤ 1000) (hsh : Shows R w t v) (hb : w.heap[lb]? = some (.cells #[.int .i64 l] 3 (0, 0))) :
    Calls Try.prog 93 #[v, av, .int .i64 0, .pointer (some ⟨lb, 0, none⟩)] w (Wholed (wholeE 0 al t l) lb w) := by
  obtain ⟨k, m, a, n, c, a', n', c', rfl⟩ := hsh.four
  have Hb := Lib.hid hb
  clear hsh hb
  go_enter Try.func93, Try.ntmps93
  go_wp2
  refine bodyPost_ret (results_cell_tmp_row rfl _ _ (w.heap.size + 1) 34 _ _ _ rfl (heap_alloc_two _ _ _) Try.underlying34 rfl (by kernel_rfl)) rfl ?_
  have f : Fr (fun k => k = lb) w ((w.alloc (.cells #[.int .u8 k, .int .i64 m, .slice a n c, .slice a' n' c'] 34)).alloc (.cells #[.int .u8 0, .int .i64 0, .slice none 0 0, .slice none 0 0] 34)) := ((Fr.refl _ _).alloc _).alloc _
  have hlb := lt_of_block Hb.out
  exact wholed_zero (e := 5) f (by rw [Below.heap_alloc _ _ _ (by simp; omega), Below.heap_alloc _ _ _ hlb]; exact Hb.out) hl

/-- The hypothesis of the induction on levels. -/
def WholeAt (lv : Nat) : Prop := ∀ (al : List (Txt × KT)) (t : KT) (R : Nat → Prop) (v av : Value) (lz : Int) (lb l : Nat) (w : World), lz = lv → lv ≤ 100 → l ≤ 1000 → ¬ R lb → Shows R w t v → Aliases R w al av → w.heap[lb]? = some (.cells #[.int .i64 l] 3 (0, 0)) →
    Calls Try.prog 93 #[v, av, .int .i64 lz, .pointer (some ⟨lb, 0, none⟩)] w (Wholed (wholeE lv al t l) lb w)

set_option maxRecDepth 100000 in
theorem whole_ref (lv : Nat) (ih : WholeAt lv) (al : List (Txt × KT)) (m : Int) (ns : List Txt) (n : Nat) (of : Nat → KT) (R : Nat → Prop) (v av : Value) (lz : Int) (lb l : Nat) (w : World) (hlz : lz = lv + 1) (hlv : lv ≤ 99) (hl : l ≤ 1000) (hR : ¬ R lb) (hsh : Shows R w (.mk 9 m ns n of) v) (hal : Aliases R w al av) (hb : w.heap[lb]? = some (.cells #[.int .i64 l] 3 (0, 0))) :
    Calls Try.prog 93 #[v, av, .int .i64 lz, .pointer (some ⟨lb, 0, none⟩)] w (Wholed (wholeE (lv + 1) al (.mk 9 m ns n of) l) lb w) := by
  have hlb := lt_of_block hb
  have hsh0 := Lib.hid hsh
  obtain ⟨k', m', a, nn, c, a', n', c', hv⟩ := hsh.four
  obtain ⟨rfl, rfl⟩ : 9 = k' ∧ m = m' := by
    obtain ⟨vn, vo, e, _⟩ := hsh
    rw [hv] at e
    simp at e
    omega
  subst hv
  have hl' : (lz == 0) = false := by simp; omega
  have hz0 : 1 ≤ lz := by omega
  have hz1 : lz ≤ 100 := by omega
  have Hlz := Lib.hid hlz
  have Hb := Lib.hid hb
  have Hal := Lib.hid hal
  clear hsh hlz hb hal
  have e9 : wholeE (lv + 1) al (.mk 9 m ns n of) l = if standsN al ns < 0 then ⟨10, zeroT, l⟩ else wholeE lv (al.take (standsN al ns).toNat) (al.getD (standsN al ns).toNat ([], .nil)).2 l := by
    simp only [wholeE, if_true]
  have E9 := Lib.hid e9
  clear e9
  obtain ⟨w0, hw0⟩ : ∃ w0, w0 = (w.alloc (.cells #[.int .u8 (9 : Nat), .int .i64 m, .slice a nn c, .slice a' n' c'] 34)).alloc (.cells #[.int .u8 0, .int .i64 0, .slice none 0 0, .slice none 0 0] 34) := ⟨_, rfl⟩
  have f0 : Hid (Fr (fun _ => False) w w0) := Lib.hid (by rw [hw0]; exact ((Fr.refl _ _).alloc _).alloc _)
  have q4 : Hid (w0.heap[w.heap.size]? = some (.cells #[.int .u8 (9 : Nat), .int .i64 m, .slice a nn c, .slice a' n' c'] 34 (0, 0))) := Lib.hid (by rw [hw0, Below.heap_alloc _ _ _ (by simp)]; exact heap_alloc_new _ _)
  have q8 : Hid (w0.heap[w.heap.size + 1]? = some (.cells #[.int .u8 0, .int .i64 0, .slice none 0 0, .slice none 0 0] 34 (0, 0))) := Lib.hid (by rw [hw0]; exact heap_alloc_two _ _ _)
  obtain ⟨c0, c1, c2, c3⟩ := cell_of_four q4.out
  have hsf := stands_any R al (.mk 9 m ns n of) _ av w0 (Shows.fr f0.out (fun _ _ h => h) _ _ hsh0.out) (Hal.out.fr f0.out (fun _ _ h => h))
  have hse : standsE al (.mk 9 m ns n of) = standsN al ns := rfl
  rw [hse] at hsf
  have hlt := Lib.hid (@standsN_lt al ns)
  obtain ⟨E, hE⟩ : ∃ E, E = standsN al ns := ⟨_, rfl⟩
  rw [← hE] at hsf
  have HE := Lib.hid hE
  clear hE hse
  by_cases he : E < 0
  · go_enter Try.func93, Try.ntmps93
    go_wp2_with fail
    rw [hw0] at hsf
    refine hsf.mono ?_
    rintro e w1 ⟨rfl, f1⟩
    rw [← hw0] at f1
    have q8' := box_kept q8.out f1 (fun h => h)
    obtain ⟨b0, b1, b2, b3⟩ := cell_of_four q8'
    have z0 : w1.frozen? ⟨w.heap.size + 1, 0, none⟩ = false := by simp [World.frozen?, q8']
    have z1 : w1.frozen? ⟨w.heap.size + 1, 1, none⟩ = false := by simp [World.frozen?, q8']
    have z2 : w1.frozen? ⟨w.heap.size + 1, 2, none⟩ = false := by simp [World.frozen?, q8']
    have z3 : w1.frozen? ⟨w.heap.size + 1, 3, none⟩ = false := by simp [World.frozen?, q8']
    have Q8 := Lib.hid q8'
    have F1 := Lib.hid f1
    clear q8' f1 hw0 hsf
    go_wp2
    refine bodyPost_ret (results_cell_tmp_row rfl _ _ (w.heap.size + 1) 34 _ _ _ rfl (store_four Q8.out) Try.underlying34 rfl (by kernel_rfl)) rfl ?_
    rw [E9.out, ← HE.out, if_pos he]
    have hk := box_kept Hb.out (f0.out.trans F1.out (fun _ _ h => h)) (fun h => h)
    exact wholed_zero (e := 10) (fr_four _ _ _ _ ((f0.out.trans F1.out (fun _ _ h => h)).mono (fun _ _ h => absurd h (fun h => h))) (fun h => absurd h (by omega))) (by rw [other_four _ _ _ _ _ (by omega)]; exact hk) hl
  · obtain ⟨i, rfl⟩ : ∃ i : Nat, E = i := ⟨E.toNat, by omega⟩
    have hi : i < al.length := by
      have := (hlt.out (by rw [← HE.out]; omega)).1
      rw [← HE.out] at this
      simpa using this
    have hal0 := Hal.out
    have hall : al.length ≤ 1000 := hal0.1
    obtain ⟨aa, ca, rfl, hsa⟩ := hal0.shape
    have halv := Lib.hid hal0
    clear hal0
    rcases hsa with hz | ⟨hcap, ga, oa, hg, rfl, hcell⟩
    · omega
    obtain ⟨nm, tt, htt⟩ : ∃ nm tt, al[i]? = some (nm, tt) := ⟨al[i].1, al[i].2, by rw [List.getElem?_eq_getElem hi]⟩
    obtain ⟨x0, x1, x2, x3, _, y0, y1, y2, y3, hx⟩ := hcell i _ htt
    obtain ⟨pk, pm, pa, pn, pc, pa', pn', pc', rfl, rfl, rfl, rfl⟩ := hx.cells
    have HX := Lib.hid hx
    have hgl : ga < w.heap.size := World.block_lt_of_cell? w _ y0
    have Y := Lib.hid (And.intro y0 (And.intro y1 (And.intro y2 y3)))
    have Htt := Lib.hid htt
    clear hx hcell htt y0 y1 y2 y3
    have hi' : (i : Int) < (al.length : Int) := by omega
    have hic : (i : Int) ≤ (ca : Int) := by omega
    have hiz : (0 : Int) ≤ (i : Int) := by omega
    have hwr : IntKind.i64.wrap (lz - 1) = lz - 1 := IntWalk.i64_in _ (by omega)
    go_enter Try.func93, Try.ntmps93
    go_wp2_with fail
    rw [hw0] at hsf
    refine hsf.mono ?_
    rintro e w1 ⟨rfl, f1⟩
    rw [← hw0] at f1
    have F1 := Lib.hid (f0.out.trans f1 (fun _ _ h => h))
    have Q8 := Lib.hid (box_kept q8.out f1 (fun h => h))
    have Bq := Lib.hid (box_kept Hb.out F1.out (fun h => h))
    clear f1 hw0 hsf c0 c1 c2 c3
    go_wp2_with fail
    obtain ⟨r, hr⟩ : ∃ r, r = wholeE lv (al.take i) tt l := ⟨_, rfl⟩
    have HR := Lib.hid hr
    have hcall := Lib.hid (fun wx lz' hz f hbx => ih (al.take i) tt (fun k => R k ∧ k < w.heap.size) _ (.slice (some ⟨ga, oa, none⟩) i ca) lz' lb l wx hz (by omega) hl (fun h => hR h.1)
      (Shows.fr (R := fun k => R k ∧ k < w.heap.size) (S := fun k => k = lb ∨ k = w.heap.size + 1) f (fun k hk h => by rcases h with h | h; exact hR (h ▸ hk.1); omega) _ _ (Shows.mono (fun k hk h => ⟨h, hk⟩) _ _ HX.out))
      (((Aliases.take halv.out i (by omega)).mono (fun k hk h => ⟨h, hk⟩)).fr (R := fun k => R k ∧ k < w.heap.size) (S := fun k => k = lb ∨ k = w.heap.size + 1) f (fun k hk h => by rcases h with h | h; exact hR (h ▸ hk.1); omega)) hbx)
    clear hr
    have HW1 : Hid (w.heap.size + 2 ≤ w1.drew.heap.size) := Lib.hid (by have := lt_of_block Q8.out; show _ ≤ w1.heap.size; omega)
    have HY := Lib.hid (fun (wx : World) (f : Fr (fun k => k = lb ∨ k = w.heap.size + 1) w1.drew wx) =>
      have fw : Fr (fun k => k = lb ∨ k = w.heap.size + 1) w wx := (F1.out.drew.mono (fun _ _ h => absurd h (fun h => h))).trans f (fun _ _ h => h)
      have up : ∀ {o : Nat} {u : Value}, w.cell? ⟨ga, o, none⟩ = some u → wx.cell? ⟨ga, o, none⟩ = some u := fun h => cell_fr (R := fun k => R k ∧ k < w.heap.size) fw (fun k hk h => by rcases h with h | h; exact hR (h ▸ hk.1); omega) ⟨hg, hgl⟩ h
      And.intro fw (And.intro (up Y.out.1) (And.intro (up Y.out.2.1) (And.intro (up Y.out.2.2.1) (up Y.out.2.2.2)))))
    refine wp_region_toldU (by kernel_rfl) (fun a b => Fr (fun k => k = lb ∨ k = w.heap.size + 1) a b) (fun w => Fr.refl _ w) (fun _ _ _ h k => h.trans k (fun _ _ h => h))
      [some 28, some 29, some 30, some 31, some 32, some 33, some 34, some 35, some 36, some 37, some 38, some 39, some 40, some 41, none, some 9] rfl (by decide) (by intro d hd; simp at hd ⊢; omega)
      (fun j wx => (j = 11 → wx.heap[lb]? = some (.cells #[.int .i64 l] 3 (0, 0))) ∧ (j = 14 → wx.heap[w.heap.size + 1]? = some (.cells #[.int .u8 0, .int .i64 0, .slice none 0 0, .slice none 0 0] 34 (0, 0))))
      (fun j v wx => ([fun v _ => v = .slice (some ⟨ga, oa, none⟩) al.length ca, fun v _ => v = .int .i64 i, fun v _ => v = .pointer (some ⟨ga, oa + i * 5, none⟩), fun v _ => v = .pointer (some ⟨ga, oa + i * 5 + 1, none⟩),
        fun v _ => v = .agg #[.int .u8 pk, .int .i64 pm, .slice pa pn pc, .slice pa' pn' pc'], fun v _ => v = .slice (some ⟨ga, oa, none⟩) al.length ca, fun v _ => v = .int .i64 i, fun v _ => v = .slice (some ⟨ga, oa, none⟩) i ca,
        fun v _ => v = .int .i64 lz, fun v _ => v = .int .i64 (lz - 1), fun v _ => v = .pointer (some ⟨lb, 0, none⟩),
        fun v wx => (∃ tv, v = .tuple #[tv, .int .i64 (r.e : Nat)] ∧ Shows (fun k => w.heap.size + 2 ≤ k) wx r.t tv) ∧ wx.heap[lb]? = some (.cells #[.int .i64 (r.left : Nat)] 3 (0, 0)) ∧ r.left ≤ 1000,
        fun v wx => Shows (fun k => w.heap.size + 2 ≤ k) wx r.t v, fun v _ => v = .int .i64 (r.e : Nat),
        fun _ wx => ∃ z0 z1 z2 z3, wx.heap[w.heap.size + 1]? = some (.cells #[z0, z1, z2, z3] 34 (0, 0)) ∧ Shows (fun k => w.heap.size + 2 ≤ k) wx r.t (.agg #[z0, z1, z2, z3]),
        fun v _ => v = .int .i64 (r.e : Nat)] : List (Value → World → Prop)).getD j (fun _ _ => True) v wx)
      (by kernel_rfl) ?u0 ?step ?fin
    case u0 => exact fun j _ => ⟨fun _ => Bq.out, fun _ => Q8.out⟩
    case step =>
      intro vals
      simp only [frOfU, fillU, List.setIfInBounds_toArray, List.set_cons_succ, List.set_cons_zero]
      repeat' (first | exact AllOps.nil | refine AllOps.cons ?_ ?_)
      all_goals
        intro wx hle he hu hw K hK
        clear hw
        simp only [Act.put, List.setIfInBounds_toArray, List.set_cons_succ, List.set_cons_zero, List.getD_cons_zero, List.getD_cons_succ] at hK
        simp only [List.mem_cons, List.not_mem_nil, or_false, forall_eq_or_imp, forall_eq, Region.binds, forall_const, false_imp_iff, List.getD_cons_zero, List.getD_cons_succ] at he
        obtain ⟨fw, y0, y1, y2, y3⟩ := HY.out wx hle
        have FW := Lib.hid fw
        have FW0 : w.heap.size + 2 ≤ wx.heap.size := Nat.le_trans HW1.out hle.size
        clear fw hle
      all_goals first | ((try simp only [he] at hK ⊢); go_simp; exact hK _ _ (Fr.refl _ _) rfl (fun _ _ h => h) (fun _ _ _ h => h)) | skip
      · obtain ⟨h4, h7, h9, h10⟩ := he
        simp only [h4, h7, h9, h10] at hK ⊢
        go_simp
        go_at_call 93
        have hbx := hu.1 rfl
        refine (hcall.out wx (lz - 1) (by have := Hlz.out; omega) FW.out hbx).mono ?_
        rintro e1 wa ⟨tv, rfl, fa, hla, hta, hle1⟩
        rw [← HR.out] at hla hta hle1 ⊢
        have hta' := Shows.mono (S := fun k => w.heap.size + 2 ≤ k) (fun k _ h => Nat.le_trans FW0 h) _ _ hta
        refine hK _ _ (fa.mono (fun _ _ h => .inl h)) ⟨⟨tv, rfl, hta'⟩, hla, hle1⟩ ?_ ?_
        · intro j hj h
          exact ⟨fun e => absurd e hj, fun e => by rw [fa.block _ (lt_of_block (h.2 e)) (by omega)]; exact h.2 e⟩
        · refine fun j u _ => pres_list ?_ j u
          have st : ∀ u, Shows (fun k => w.heap.size + 2 ≤ k) wx r.t u → Shows (fun k => w.heap.size + 2 ≤ k) wa r.t u := fun u h => Shows.fr (R := fun k => w.heap.size + 2 ≤ k) (S := fun k => k = lb) fa (fun k hk h => by omega) _ _ h
          simp only [List.mem_cons, List.not_mem_nil, or_false, forall_eq_or_imp, forall_eq, imp_self, implies_true, true_and, and_true]
          refine ⟨fun u h => ⟨?_, hla, hle1⟩, fun u h => st u h, fun u h => ?_⟩
          · obtain ⟨⟨tv', e', h'⟩, _⟩ := h
            exact ⟨tv', e', st _ h'⟩
          · obtain ⟨z0, z1, z2, z3, h1, h2⟩ := h
            exact ⟨z0, z1, z2, z3, by rw [fa.block _ (lt_of_block h1) (by omega)]; exact h1, st _ h2⟩
      · obtain ⟨⟨tv, hv, hs⟩, _, _⟩ := he
        simp only [hv] at hK ⊢
        go_simp
        exact hK _ _ (Fr.refl _ _) hs (fun _ _ h => h) (fun _ _ _ h => h)
      · obtain ⟨⟨tv, hv, hs⟩, _, _⟩ := he
        simp only [hv] at hK ⊢
        go_simp
        exact hK _ _ (Fr.refl _ _) rfl (fun _ _ h => h) (fun _ _ _ h => h)
      · have hs := he.1
        have hcl := he.2.1.2
        obtain ⟨k2, m2, a2, n2, c2, a3, n3, c3, h12⟩ := hs.four
        rw [h12] at hs
        clear he
        simp only [h12] at hK ⊢
        have h8 := hu.2 rfl
        obtain ⟨b0, b1, b2, b3⟩ := cell_of_four h8
        have z0 : wx.frozen? ⟨w.heap.size + 1, 0, none⟩ = false := by simp [World.frozen?, h8]
        have z1 : wx.frozen? ⟨w.heap.size + 1, 1, none⟩ = false := by simp [World.frozen?, h8]
        have z2 : wx.frozen? ⟨w.heap.size + 1, 2, none⟩ = false := by simp [World.frozen?, h8]
        have z3 : wx.frozen? ⟨w.heap.size + 1, 3, none⟩ = false := by simp [World.frozen?, h8]
        have H8 := Lib.hid h8
        clear h8 hu
        go_simp
        have f8 := fr_four (w := wx) (b := w.heap.size + 1) (.int .u8 k2) (.int .i64 m2) (.slice a2 n2 c2) (.slice a3 n3 c3) (S := fun k => k = w.heap.size + 1) (Fr.refl _ _) (fun _ => rfl)
        have st : ∀ u, Shows (fun k => w.heap.size + 2 ≤ k) wx r.t u → Shows (fun k => w.heap.size + 2 ≤ k) _ r.t u := fun u h => Shows.fr (R := fun k => w.heap.size + 2 ≤ k) (S := fun k => k = w.heap.size + 1) f8 (fun k hk h => by omega) _ _ h
        refine hK undef _ (f8.mono (fun _ _ h => .inr h)) ⟨_, _, _, _, store_four H8.out, st _ hs⟩ ?_ ?_
        · intro j hj h
          exact ⟨fun e => by rw [other_four _ _ _ _ _ (by omega)]; exact h.1 e, fun e => absurd e hj⟩
        · refine fun j u _ => pres_list ?_ j u
          simp only [List.mem_cons, List.not_mem_nil, or_false, forall_eq_or_imp, forall_eq, imp_self, implies_true, true_and, and_true]
          refine ⟨fun u h => ⟨?_, by rw [other_four _ _ _ _ _ (by omega)]; exact h.2.1, h.2.2⟩, fun u h => st u h, fun u h => ⟨_, _, _, _, store_four H8.out, st _ hs⟩⟩
          obtain ⟨⟨tv', e', h'⟩, _⟩ := h
          exact ⟨tv', e', st _ h'⟩
      · have h13 := he.1
        clear he
        go_simp
        simp only [h13] at hK ⊢
        exact hK _ _ (Fr.refl _ _) rfl (fun _ _ h => h) (fun _ _ _ h => h)
    case fin =>
      intro vals w' hle hV
      obtain ⟨z0, z1, z2, z3, h8, hs⟩ := hV 14 (by decide)
      have h15 := hV 15 (by decide)
      have hcl := (hV 11 (by decide)).2
      clear hV
      simp only [List.getD_cons_zero, List.getD_cons_succ] at h15 hcl
      have fw := (HY.out w' hle).1
      simp only [frOfU, fillU, List.setIfInBounds_toArray, List.set_cons_succ, List.set_cons_zero, h15]
      go_wp2
      refine bodyPost_ret (results_cell_tmp_row rfl _ _ (w.heap.size + 1) 34 _ _ _ rfl h8 Try.underlying34 rfl (by kernel_rfl)) rfl ?_
      have e1 : al.getD i ([], .nil) = (nm, tt) := by rw [List.getD_eq_getElem?_getD, Htt.out]; rfl
      have e2 : wholeE (lv + 1) al (.mk 9 m ns n of) l = r := by
        rw [E9.out, ← HE.out, if_neg (by omega), Int.toNat_natCast, e1, HR.out]
      rw [e2]
      exact ⟨_, rfl, ⟨fw.os, fw.tape, fw.output, fw.size, fun k hk hs => fw.block k hk (fun h => by rcases h with h | h; exact hs h; omega)⟩, hcl.1, Shows.mono (fun k _ h => Nat.le_trans (Nat.le_add_right _ _) h) _ _ hs, hcl.2⟩

/-- The slice pv owns a row of types alone, each in new memory of its own. -/
def TyRow (B : Nat) (w : World) (pv : Value) (ts : List KT) : Prop :=
  ∃ cs : List Value, w.ownsRow B 34 4 pv ts.length cs ∧ ∀ i t, ts[i]? = some t → ∃ x0 x1 x2 x3, cs[i * 4]? = some x0 ∧ cs[i * 4 + 1]? = some x1 ∧ cs[i * 4 + 2]? = some x2 ∧ cs[i * 4 + 3]? = some x3 ∧
    Shows (fun k => B ≤ k ∧ pv.ownBlock ≠ some k) w t (.agg #[x0, x1, x2, x3])

theorem TyRow.nil (B : Nat) (w : World) : TyRow B w (.slice none 0 0) [] := ⟨[], World.ownsRow_nil w B 34 4, by simp⟩

theorem TyRow.fr {B : Nat} {S : Nat → Prop} {w w' : World} {pv : Value} {ts : List KT} (h : TyRow B w pv ts) (f : Fr S w w') (hS : ∀ k, B ≤ k → ¬ S k) : TyRow B w' pv ts := by
  obtain ⟨cs, h1, h2⟩ := h
  refine ⟨cs, ownsRow_fr h1 f (fun k hk => hS k (World.ownsRow.lt h1 k hk).1), fun i t hi => ?_⟩
  obtain ⟨x0, x1, x2, x3, a0, a1, a2, a3, hx⟩ := h2 i t hi
  exact ⟨x0, x1, x2, x3, a0, a1, a2, a3, Shows.fr f (fun k hk => hS k hk.1) _ _ hx⟩

theorem TyRow.push {B : Nat} {w w1 w' : World} {pv pv' : Value} {ts : List KT} {t : KT} {cs : List Value} {y0 y1 y2 y3 : Value} {n : Nat} (h1 : ∀ i t, ts[i]? = some t → ∃ x0 x1 x2 x3, cs[i * 4]? = some x0 ∧ cs[i * 4 + 1]? = some x1 ∧ cs[i * 4 + 2]? = some x2 ∧ cs[i * 4 + 3]? = some x3 ∧
    Shows (fun k => B ≤ k ∧ pv.ownBlock ≠ some k) w t (.agg #[x0, x1, x2, x3])) (hl : cs.length = ts.length * 4) (hn : n = ts.length + 1) (ho : w'.ownsRow B 34 4 pv' n (cs ++ [y0, y1, y2, y3]))
    (f0 : Fr (fun _ => False) w w1) (hg : w1.grownBy w' pv.ownBlock) (hv : pv'.ownBlock = pv.ownBlock ∨ pv'.ownBlock = some w1.heap.size) (ht : Shows (fun k => B ≤ k ∧ pv.ownBlock ≠ some k) w t (.agg #[y0, y1, y2, y3])) : TyRow B w' pv' (ts ++ [t]) := by
  have key : ∀ (t : KT) (v : Value), Shows (fun k => B ≤ k ∧ pv.ownBlock ≠ some k) w t v → Shows (fun k => B ≤ k ∧ pv'.ownBlock ≠ some k) w' t v := by
    intro t v h
    have h1 := Shows.mono (S := fun k => (B ≤ k ∧ pv.ownBlock ≠ some k) ∧ k < w.heap.size) (fun k hk h => ⟨h, hk⟩) _ _ h
    have h2 := Shows.fr f0 (fun _ _ h => h) _ _ h1
    have h3 := Shows.fr (Fr.of_grown hg) (fun k hk e => hk.1.2 e.symm) _ _ h2
    refine Shows.mono (fun k _ h => ⟨h.1.1, fun e => ?_⟩) _ _ h3
    rcases hv with e' | e'
    · rw [e'] at e; exact h.1.2 e
    · rw [e'] at e; cases e; have := f0.size; omega
  refine ⟨cs ++ [y0, y1, y2, y3], by rw [List.length_append]; simpa [hn] using ho, fun i u hi => ?_⟩
  by_cases hlt : i < ts.length
  · rw [List.getElem?_append_left hlt] at hi
    obtain ⟨x0, x1, x2, x3, a0, a1, a2, a3, hx⟩ := h1 i u hi
    refine ⟨x0, x1, x2, x3, ?_, ?_, ?_, ?_, key _ _ hx⟩
    · rw [List.getElem?_append_left (by omega)]; exact a0
    · rw [List.getElem?_append_left (by omega)]; exact a1
    · rw [List.getElem?_append_left (by omega)]; exact a2
    · rw [List.getElem?_append_left (by omega)]; exact a3
  · have hi' := (List.getElem?_eq_some_iff.1 hi).1
    obtain rfl : i = ts.length := by simp at hi'; omega
    rw [List.getElem?_append_right (Nat.le_refl _)] at hi
    simp at hi
    subst hi
    refine ⟨y0, y1, y2, y3, ?_, ?_, ?_, ?_, key _ _ ht⟩
    · rw [List.getElem?_append_right (by omega), show ts.length * 4 - cs.length = 0 by omega]; rfl
    · rw [List.getElem?_append_right (by omega), show ts.length * 4 + 1 - cs.length = 1 by omega]; rfl
    · rw [List.getElem?_append_right (by omega), show ts.length * 4 + 2 - cs.length = 2 by omega]; rfl
    · rw [List.getElem?_append_right (by omega), show ts.length * 4 + 3 - cs.length = 3 by omega]; rfl

/-- A type over such a row. -/
theorem TyRow.shows {B : Nat} {w : World} {pv vn : Value} {ts : List KT} {k n : Nat} {m : Int} {ns : List Txt} (h : TyRow B w pv ts) (hn : ts.length = n) (hk : k ≤ 255) (hn1 : n ≤ 1000) (ht : Texts (fun k => B ≤ k) w ns vn) :
    Shows (fun k => B ≤ k) w (.mk k m ns n (fun i => ts.getD i .nil)) (.agg #[.int .u8 k, .int .i64 m, vn, pv]) := by
  subst hn
  obtain ⟨cs, h1, h2⟩ := h
  refine ⟨vn, pv, rfl, hk, hn1, ht, ?_⟩
  rcases h1.2 with ⟨rfl, h0⟩ | ⟨g, cap, cur, rfl, hb, hg, hle, _, hs, htk⟩
  · exact .inl ⟨h0, none, 0, rfl⟩
  · refine .inr ⟨g, 0, cap, hb, rfl, hle, fun i hi => ?_⟩
    obtain ⟨x0, x1, x2, x3, a0, a1, a2, a3, hx⟩ := h2 i ts[i] (List.getElem?_eq_getElem hi)
    have hplain : ∀ j, (⟨g, 0, none⟩ : Addr).add j = ⟨g, j, none⟩ := fun j => by unfold Addr.add; split <;> simp_all
    have hc := fun (j : Nat) (u : Value) (hu : cs[j]? = some u) => World.ownsRow.cells (g := g) h1 rfl j u hu
    simp only [hplain] at hc
    rw [Nat.zero_add]
    refine ⟨x0, x1, x2, x3, hc _ _ a0, hc _ _ a1, hc _ _ a2, hc _ _ a3, ?_⟩
    have e : ts.getD i .nil = ts[i] := by simp [List.getD, hi]
    show Shows _ w (ts.getD i .nil) _
    rw [e]
    exact Shows.mono (fun k _ h => h.1) _ _ hx

theorem Try.infoType : (Try.prog.info? 34).map (fun i => (i.zero, i.size, i.bytes)) = some (some (.agg #[.int .u8 0, .int .i64 0, .slice none 0 0, .slice none 0 0]), 4, 64) := by kernel_rfl
end
section
theorem first_one4 {P : Program} {w : World} {g : Nat} {y0 y1 y2 y3 : Value} {t : TypeId} {fr : Nat × Nat} (c : Nat) (h : w.heap[g]? = some (.cells #[y0, y1, y2, y3] t fr)) :
    (Builtin.firstCells 4 1 (.slice (some ⟨g, 0, none⟩) 1 c)).run P w = .ok #[y0, y1, y2, y3] w := by
  have := run_firstCells_some (P := P) w 4 1 ⟨g, 0, none⟩ 1 c [y0, y1, y2, y3] rfl (by
    intro j v hj
    have hplain : (⟨g, 0, none⟩ : Addr).add j = ⟨g, j, none⟩ := by unfold Addr.add; split <;> simp_all
    rw [hplain, cell_of_row w g j _ t fr h]
    simpa using hj)
  simpa using this

set_option maxRecDepth 100000 in
theorem whole_rest (lv : Nat) (ih : WholeAt lv) (al : List (Txt × KT)) (k : Nat) (m : Int) (ns : List Txt) (n : Nat) (of : Nat → KT) (R : Nat → Prop) (v av : Value) (lz : Int) (lb l : Nat) (w : World) (hk9 : k ≠ 9) (hlz : lz = lv + 1) (hlv : lv ≤ 99) (hl : l ≤ 1000) (hR : ¬ R lb) (hsh : Shows R w (.mk k m ns n of) v) (hal : Aliases R w al av) (hb : w.heap[lb]? = some (.cells #[.int .i64 l] 3 (0, 0))) :
    Calls Try.prog 93 #[v, av, .int .i64 lz, .pointer (some ⟨lb, 0, none⟩)] w (Wholed (wholeE (lv + 1) al (.mk k m ns n of) l) lb w) := by
  obtain ⟨i0, hi, hz0, hz1, hz2⟩ := info_parts Try.infoType
  have hlb := lt_of_block hb
  obtain ⟨vn, vo, rfl, hk255, hn, ht, ho⟩ := hsh
  have Ht := Lib.hid ht
  obtain ⟨a, c, rfl, _⟩ := ht.shape
  obtain ⟨a', c', rfl, hso⟩ : ∃ a' c', vo = .slice a' n c' ∧ (n = 0 ∨ n ≤ c' ∧ ∃ g off, R g ∧ a' = some ⟨g, off, none⟩ ∧ ∀ i, i < n → ∃ x0 x1 x2 x3,
      w.cell? ⟨g, off + i * 4, none⟩ = some x0 ∧ w.cell? ⟨g, off + i * 4 + 1, none⟩ = some x1 ∧ w.cell? ⟨g, off + i * 4 + 2, none⟩ = some x2 ∧ w.cell? ⟨g, off + i * 4 + 3, none⟩ = some x3 ∧
      Shows R w (of i) (.agg #[x0, x1, x2, x3])) := by
    rcases ho with ⟨rfl, a', c', rfl⟩ | ⟨g, off, cap', hg, rfl, hle, hc⟩
    · exact ⟨a', c', rfl, .inl rfl⟩
    · exact ⟨_, cap', rfl, .inr ⟨hle, g, off, hg, rfl, hc⟩⟩
  have Hso := Lib.hid hso
  clear ho ht hso
  have hl' : (lz == 0) = false := by simp; omega
  have h9' : ((k : Int) == 9) = false := by simp; omega
  have hz0' : 1 ≤ lz := by omega
  have hz1' : lz ≤ 100 := by omega
  have Hlz := Lib.hid hlz
  have Hb := Lib.hid hb
  have Hal := Lib.hid hal
  have HK9 := Lib.hid hk9
  clear hlz hb hal hk9
  obtain ⟨f, hf⟩ : ∃ f, f = fun i l => wholeE lv al (of i) l := ⟨_, rfl⟩
  have e9 : wholeE (lv + 1) al (.mk k m ns n of) l = if l = 0 then ⟨6, zeroT, l⟩ else
      if (wholeAll f n (l - 1)).e = 0 then ⟨0, .mk k m ns n (fun i => (wholeAll f n (l - 1)).ts.getD i .nil), (wholeAll f n (l - 1)).left⟩ else ⟨(wholeAll f n (l - 1)).e, zeroT, (wholeAll f n (l - 1)).left⟩ := by
    simp only [wholeE, if_neg HK9.out, hf]
  have E9 := Lib.hid e9
  have HF := Lib.hid hf
  clear e9 hf
  obtain ⟨w0, hw0⟩ : ∃ w0, w0 = (w.alloc (.cells #[.int .u8 k, .int .i64 m, .slice a ns.length c, .slice a' n c'] 34)).alloc (.cells #[.int .u8 0, .int .i64 0, .slice none 0 0, .slice none 0 0] 34) := ⟨_, rfl⟩
  have f0 : Hid (Fr (fun _ => False) w w0) := Lib.hid (by rw [hw0]; exact ((Fr.refl _ _).alloc _).alloc _)
  have q4 : Hid (w0.heap[w.heap.size]? = some (.cells #[.int .u8 k, .int .i64 m, .slice a ns.length c, .slice a' n c'] 34 (0, 0))) := Lib.hid (by rw [hw0, Below.heap_alloc _ _ _ (by simp)]; exact heap_alloc_new _ _)
  have q8 : Hid (w0.heap[w.heap.size + 1]? = some (.cells #[.int .u8 0, .int .i64 0, .slice none 0 0, .slice none 0 0] 34 (0, 0))) := Lib.hid (by rw [hw0]; exact heap_alloc_two _ _ _)
  have q0 : Hid (w0.heap[lb]? = some (.cells #[.int .i64 l] 3 (0, 0))) := Lib.hid (box_kept Hb.out f0.out (fun h => h))
  have s0 : Hid (w0.heap.size = w.heap.size + 2) := Lib.hid (by rw [hw0]; simp)
  have cl := cell_of_one Hb.out
  have zl := free_of_one Hb.out
  by_cases hl0 : l = 0
  · subst hl0
    go_enter Try.func93, Try.ntmps93
    go_wp2
    rw [← hw0]
    refine bodyPost_ret (results_cell_tmp_row rfl _ _ (w.heap.size + 1) 34 _ _ _ rfl q8.out Try.underlying34 rfl (by kernel_rfl)) rfl ?_
    simp only [E9.out, if_true]
    exact wholed_zero (e := 6) (f0.out.mono (fun _ _ h => absurd h (fun h => h))) q0.out hl
  · have hl0' : ((l : Int) == 0) = false := by simp; omega
    have hl1 : 1 ≤ l := by omega
    have HL0 := Lib.hid hl0
    clear hl0
    go_enter Try.func93, Try.ntmps93
    go_wp2
    obtain ⟨wz, hwz⟩ : ∃ wz, wz = w.setCell ⟨lb, 0, none⟩ (.int .i64 ((l : Int) - 1)) := ⟨_, rfl⟩
    have fz : Fr (fun k => k = lb) w wz := by
      rw [hwz]; exact Fr.setCell (p := ⟨lb, 0, none⟩) (Fr.refl (fun k => k = lb) w) (fun _ => rfl) _
    have sz : wz.heap.size = w.heap.size := by rw [hwz]; simp [World.setCell]
    have g0 : wz.heap[lb]? = some (.cells #[.int .i64 ((wholeAll f 0 (l - 1)).left : Nat)] 3 (0, 0)) := by
      rw [hwz, one_setCell Hb.out]
      show some (Obj.cells #[.int .i64 ((l : Int) - 1)] _ _) = some (Obj.cells #[.int .i64 ((l - 1 : Nat) : Int)] _ _)
      rw [show ((l - 1 : Nat) : Int) = (l : Int) - 1 by omega]
    rw [← hwz]
    obtain ⟨w2, hw2⟩ : ∃ w2, w2 = (wz.alloc (.cells #[.int .u8 k, .int .i64 m, .slice a ns.length c, .slice a' n c'] 34)).alloc (.cells #[.int .u8 0, .int .i64 0, .slice none 0 0, .slice none 0 0] 34) := ⟨_, rfl⟩
    rw [← hw2]
    have f2 : Fr (fun k => k = lb) w w2 := by rw [hw2]; exact (fz.alloc _).alloc _
    have g0 : w2.heap[lb]? = some (.cells #[.int .i64 ((wholeAll f 0 (l - 1)).left : Nat)] 3 (0, 0)) := by
      rw [hw2, Below.heap_alloc _ _ _ (by simp; omega), Below.heap_alloc _ _ _ (by omega)]; exact g0
    have g4 : w2.heap[w.heap.size]? = some (.cells #[.int .u8 k, .int .i64 m, .slice a ns.length c, .slice a' n c'] 34 (0, 0)) := by
      rw [hw2, Below.heap_alloc _ _ _ (by simp; omega), ← sz]; exact heap_alloc_new _ _
    have g8 : w2.heap[w.heap.size + 1]? = some (.cells #[.int .u8 0, .int .i64 0, .slice none 0 0, .slice none 0 0] 34 (0, 0)) := by
      rw [hw2, ← sz]; exact heap_alloc_two _ _ _
    have HSt := Lib.hid (And.intro f2 (And.intro g0 (And.intro g4 g8)))
    clear f2 g0 g4 g8 hw2 hw0 fz sz hwz
    go_loopg [13, 14, 15, 11, 55] n (fun G u13 u14 u15 u11 u55 wr => ∃ j : Nat, j ≤ n ∧ G = n - j ∧ u55 = .int .i64 j ∧ Hid ((Fr (fun k => k = lb) w wr ∧ wr.heap[lb]? = some (.cells #[.int .i64 ((wholeAll f j (l - 1)).left : Nat)] 3 (0, 0)) ∧
      wr.heap[w.heap.size]? = some (.cells #[.int .u8 k, .int .i64 m, .slice a ns.length c, .slice a' n c'] 34 (0, 0)) ∧ wr.heap[w.heap.size + 1]? = some (.cells #[.int .u8 0, .int .i64 0, .slice none 0 0, .slice none 0 0] 34 (0, 0))) ∧
      (wholeAll f j (l - 1)).e = 0 ∧ (wholeAll f j (l - 1)).ts.length = j ∧ (wholeAll f j (l - 1)).left ≤ 1000 ∧ TyRow (w.heap.size + 2) wr u11 (wholeAll f j (l - 1)).ts))
    case atStart => exact ⟨0, Nat.zero_le _, rfl, by go_num, Lib.hid ⟨HSt.out, rfl, rfl, (by show l - 1 ≤ 1000; omega), TyRow.nil _ _⟩⟩
    case round =>
      obtain ⟨j, hj, rfl, rfl, HI⟩ := hrel
      by_cases hlt : j < n
      · rcases Hso.out with hz | ⟨hcap, g, off, hg, rfl, hcell⟩
        · omega
        obtain ⟨x0, x1, x2, x3, y0, y1, y2, y3, hx⟩ := hcell j hlt
        have hgl : g < w.heap.size := World.block_lt_of_cell? w _ y0
        have nlb : ∀ k, R k → ¬ k = lb := fun k hk e => hR (e ▸ hk)
        have y0 := cell_fr HI.out.1.1 nlb hg y0
        have y1 := cell_fr HI.out.1.1 nlb hg y1
        have y2 := cell_fr HI.out.1.1 nlb hg y2
        have y3 := cell_fr HI.out.1.1 nlb hg y3
        obtain ⟨pk, pm, pa, pn, pc, pa', pn', pc', rfl, rfl, rfl, rfl⟩ := hx.cells
        have hws : w.heap.size + 2 ≤ wr.heap.size := by have := lt_of_block HI.out.1.2.2.2; omega
        have NLB := Lib.hid nlb
        clear hcell nlb
        have hwr : IntKind.i64.wrap (lz - 1) = lz - 1 := IntWalk.i64_in _ (by omega)
        obtain ⟨wb, hwb⟩ : ∃ wb, wb = wr.alloc (.cells #[.int .u8 pk, .int .i64 pm, .slice pa pn pc, .slice pa' pn' pc'] 34) := ⟨_, rfl⟩
        have fb : Fr (fun _ => False) wr wb := by rw [hwb]; exact (Fr.refl _ _).alloc _
        have fwb : Fr (fun k => k = lb) w wb := HI.out.1.1.trans fb (fun _ _ h => absurd h (fun h => h))
        have swb : wb.heap.size = wr.heap.size + 1 := by rw [hwb]; simp
        have hcall := ih al (of j) R (.agg #[.int .u8 pk, .int .i64 pm, .slice pa pn pc, .slice pa' pn' pc']) av (lz - 1) lb (wholeAll f j (l - 1)).left wb (by have := Hlz.out; omega) (by omega) HI.out.2.2.2.1 hR
          (Shows.fr fwb (fun k hk => NLB.out k hk) _ _ hx) (Hal.out.fr fwb (fun k hk => NLB.out k hk)) (box_kept HI.out.1.2.1 fb (fun h => h))
        obtain ⟨r, hr⟩ : ∃ r, r = f j (wholeAll f j (l - 1)).left := ⟨_, rfl⟩
        have hr' : wholeE lv al (of j) (wholeAll f j (l - 1)).left = r := by rw [hr, HF.out]
        rw [hr', hwb] at hcall
        have HR := Lib.hid hr
        have HB := Lib.hid (And.intro hwb (And.intro fb (And.intro fwb swb)))
        clear hx hr hr' hwb fb fwb swb
        obtain ⟨E, hE⟩ : ∃ E, E = r.e := ⟨_, rfl⟩
        have HE := Lib.hid hE
        rw [show Wholed r lb = fun w0 e w' => ∃ tv, e = .returned (.tuple #[tv, .int .i64 (E : Nat)]) ∧ Fr (fun k => k = lb) w0 w' ∧ w'.heap[lb]? = some (.cells #[.int .i64 (r.left : Nat)] 3 (0, 0)) ∧ Shows (fun k => w0.heap.size ≤ k) w' r.t tv ∧ r.left ≤ 1000 by rw [hE]; rfl] at hcall
        clear hE
        go_wp2_with fail
        refine hcall.mono ?_
        rintro e w3 ⟨tv, rfl, f3, g3, hs3, hl3⟩
        obtain ⟨k2, m2, a2, n2, c2, a3, n3, c3, rfl⟩ := hs3.four
        rw [← HB.out.1] at f3 hs3
        have h8 := box_kept (box_kept HI.out.1.2.2.2 HB.out.2.1 (fun h => h)) f3 (by omega)
        have h4 := box_kept (box_kept HI.out.1.2.2.1 HB.out.2.1 (fun h => h)) f3 (by omega)
        have hs3w : w.heap.size + 2 ≤ w3.heap.size := by have := f3.size; have := HB.out.2.2.2; omega
        go_upto_region 16 with fail
        obtain ⟨w4, hw4⟩ : ∃ w4, w4 = w3.alloc (.cells #[.int .u8 k2, .int .i64 m2, .slice a2 n2 c2, .slice a3 n3 c3] 34) := ⟨_, rfl⟩
        rw [← hw4]
        have f4 : Fr (fun _ => False) w3 w4 := by rw [hw4]; exact (Fr.refl _ _).alloc _
        have h8 := box_kept h8 f4 (fun h => h)
        have h4 := box_kept h4 f4 (fun h => h)
        have h14 : w4.heap[w3.heap.size]? = some (.cells #[.int .u8 k2, .int .i64 m2, .slice a2 n2 c2, .slice a3 n3 c3] 34 (0, 0)) := by rw [hw4]; exact heap_alloc_new _ _
        have hs4 : w4.heap.size = w3.heap.size + 1 := by rw [hw4]; simp
        have g3 := box_kept g3 f4 (fun h => h)
        have hs3 := Shows.fr (R := fun k => wb.heap.size ≤ k) f4 (fun _ _ h => h) _ _ hs3
        obtain ⟨b0, b1, b2, b3⟩ := cell_of_four h8
        obtain ⟨p0, p1, p2, p3⟩ := cell_of_four h14
        have z0 : w4.frozen? ⟨w.heap.size + 1, 0, none⟩ = false := by simp [World.frozen?, h8]
        have z1 : w4.frozen? ⟨w.heap.size + 1, 1, none⟩ = false := by simp [World.frozen?, h8]
        have z2 : w4.frozen? ⟨w.heap.size + 1, 2, none⟩ = false := by simp [World.frozen?, h8]
        have z3 : w4.frozen? ⟨w.heap.size + 1, 3, none⟩ = false := by simp [World.frozen?, h8]
        have H4 := Lib.hid (And.intro (HB.out.2.2.1.trans (f3.trans f4 (fun _ _ h => absurd h (fun h => h))) (fun _ _ h => h)) (And.intro (Fr.trans (S := fun k => k = lb) (HB.out.2.1.mono (fun _ _ h => absurd h (fun h => h))) (f3.trans f4 (fun _ _ h => absurd h (fun h => h))) (fun _ _ h => h)) (And.intro g3 (And.intro hs3 (And.intro hl3 (And.intro h8 h4))))))
        have hs4w : w.heap.size + 2 ≤ w4.heap.size := by omega
        clear f3 f4 g3 hs3 hl3 h8 h4 h14 hcall y0 y1 y2 y3 hw4 hs4
        by_cases he : E = 0
        · subst he
          obtain ⟨cs, hown, hts⟩ := TyRow.fr HI.out.2.2.2.2 H4.out.2.1 (fun k hk h => by omega)
          rw [HI.out.2.2.1] at hown
          have HO := Lib.hid hown
          have HTS := Lib.hid hts
          clear hown hts
          have hws4 : w.heap.size + 2 ≤ (w4.alloc (.cells #[.int .u8 k2, .int .i64 m2, .slice a2 n2 c2, .slice a3 n3 c3] 34)).heap.size := by simp; omega
          go_wp2_with (at_builtin; refine wpList_append_sep rfl (.tmp 72) (.tmp 74) 32 32 rfl (w.heap.size + 2) 34 i0 (.agg #[.int .u8 0, .int .i64 0, .slice none 0 0, .slice none 0 0]) 4 64 Try.underlying32 _ Try.underlying32 (.inr ⟨_, rfl⟩) hi hz0 hz1 hz2 rfl (by decide) u11 j cs rfl ?own _ 1 [.int .u8 k2, .int .i64 m2, .slice a2 n2 c2, .slice a3 n3 c3] rfl (lenOf_slice _ _ _) rfl ?c1 ?c2 ?one ?b1 ?b2 ?base ?grow)
          case own => exact World.ownsRow.alloc HO.out _
          case c1 => exact first_one4 1 (heap_alloc_new _ _)
          case c2 => exact first_one4 1 (by exact heap_alloc_new _ _)
          case one => intro u hu; simp at hu; rcases hu with rfl | rfl | rfl | rfl <;> rfl
          case b1 => unfold maxLen; omega
          case b2 => omega
          case base => exact hws4
          case grow =>
            intro v' w5 hown hg hv
            have HG := Lib.hid (And.intro hown (And.intro hg hv))
            clear hown hg hv
            go_wp2
            go_roundg (n - (j + 1))
            case measure => omega
            case rel =>
              have est := wholeAll_step f j (l - 1) HI.out.2.1 (by rw [← HR.out, ← HE.out])
              rw [← HR.out] at est
              have fo : Fr (fun k => w.heap.size + 2 ≤ k) w4 w5 := ((Fr.refl _ _).alloc _).trans (Fr.of_grown HG.out.2.1) (fun i _ e => (World.ownsRow.lt HO.out i e.symm).1)
              have lt11 : ∀ k, u11.ownBlock = some k → k < wr.heap.size := by
                obtain ⟨cs', h1, _⟩ := HI.out.2.2.2.2
                exact fun k hk => (World.ownsRow.lt h1 k hk).2
              have hst := Shows.mono (S := fun k => w.heap.size + 2 ≤ k ∧ u11.ownBlock ≠ some k) (fun k _ h => ⟨by have := HB.out.2.2.2; omega, fun e => by have := lt11 k e; have := HB.out.2.2.2; omega⟩) _ _ H4.out.2.2.2.1
              refine ⟨j + 1, by omega, rfl, by go_num, Lib.hid ⟨⟨H4.out.1.trans fo (fun i hi h => by omega), ?_, box_kept H4.out.2.2.2.2.2.2 fo (by omega), box_kept H4.out.2.2.2.2.2.1 fo (by omega)⟩, ?_, ?_, ?_, ?_⟩⟩
              · rw [est]; exact box_kept H4.out.2.2.1 fo (by omega)
              · rw [est]
              · rw [est]; simp [HI.out.2.2.1]
              · rw [est]; exact H4.out.2.2.2.2.1
              · rw [est]
                exact TyRow.push HTS.out (by rw [HO.out.1, HI.out.2.2.1]) (by rw [HI.out.2.2.1]) HG.out.1 ((Fr.refl _ _).alloc _) HG.out.2.1 (by simpa using HG.out.2.2) hst
        · have he' : ¬ (E : Int) = 0 := by omega
          go_wp2
          refine bodyPost_ret (results_cell_tmp_row rfl _ _ (w.heap.size + 1) 34 _ _ _ rfl (store_four H4.out.2.2.2.2.2.1) Try.underlying34 rfl (by kernel_rfl)) rfl ?_
          have est := wholeAll_stop f n j (l - 1) hlt HI.out.2.1 (by rw [← HR.out, ← HE.out]; exact he)
          rw [← HR.out] at est
          rw [E9.out, if_neg HL0.out, est, if_neg (by rw [← HE.out]; exact he), HE.out]
          exact wholed_zero (e := r.e) (fr_four _ _ _ _ H4.out.1 (fun h => by omega)) (by rw [other_four _ _ _ _ _ (by omega)]; exact H4.out.2.2.1) H4.out.2.2.2.2.1
      · obtain rfl : j = n := by omega
        have hws : w.heap.size + 2 ≤ wr.heap.size := by have := lt_of_block HI.out.1.2.2.2; omega
        have HWS := Lib.hid hws
        have nlb : ∀ k, R k → ¬ k = lb := fun k hk e => hR (e ▸ hk)
        have ht0 := (Ht.out.mono (S := fun k => R k ∧ k < w.heap.size) (fun k hk h => ⟨h, hk⟩)).fr HI.out.1.1 (fun k hk => nlb k hk.1)
        have HT0 := Lib.hid ht0
        have HQ := Lib.hid (fun (wx : World) (f : Fr (fun k => k = w.heap.size + 1) wr.drew wx) =>
          And.intro (box_kept (w0 := wr.drew) HI.out.1.2.2.1 f (by omega)) (copied_names _ ns _ wx (Texts.fr HT0.out (S := fun k => k = w.heap.size + 1) ⟨f.os, f.tape, f.output, f.size, f.block⟩ (fun k hk h => by omega))))
        obtain ⟨ua, un, uc, rfl⟩ : ∃ ua un uc, u11 = .slice ua un uc := by
          obtain ⟨_, hown, _⟩ := HI.out.2.2.2.2
          obtain ⟨ua, uc, e⟩ := slice_of_own hown
          exact ⟨ua, _, uc, e⟩
        have g8 := Lib.hid HI.out.1.2.2.2
        have glb := Lib.hid HI.out.1.2.1
        have HTY := Lib.hid HI.out.2.2.2.2
        clear nlb ht0 hws
        go_wp2_with fail
        refine wp_region_toldU (by kernel_rfl) (fun a b => Fr (fun k => k = w.heap.size + 1) a b) (fun w => Fr.refl _ w) (fun _ _ _ h k => h.trans k (fun _ _ h => h))
          [some 77, some 78, some 79, some 80, some 81, some 82, some 83, some 84, some 85, none, some 9] rfl (by decide) (by intro d hd; simp at hd ⊢; omega)
          (fun j wx => j = 9 → wx.heap[w.heap.size + 1]? = some (.cells #[.int .u8 0, .int .i64 0, .slice none 0 0, .slice none 0 0] 34 (0, 0)))
          (fun j v wx => ([fun v _ => v = .pointer (some ⟨w.heap.size, 0, none⟩), fun v _ => v = .int .u8 k, fun v _ => v = .pointer (some ⟨w.heap.size, 1, none⟩), fun v _ => v = .int .i64 m, fun v _ => v = .pointer (some ⟨w.heap.size, 2, none⟩), fun v _ => v = .slice a ns.length c,
            fun v wx => Texts (fun k => w.heap.size + 2 ≤ k) wx ns v, fun v _ => v = (.slice ua un uc),
            fun v wx => ∃ vn, v = .agg #[.int .u8 k, .int .i64 m, vn, (.slice ua un uc)] ∧ Texts (fun k => w.heap.size + 2 ≤ k) wx ns vn,
            fun _ wx => ∃ vn, wx.heap[w.heap.size + 1]? = some (.cells #[.int .u8 k, .int .i64 m, vn, (.slice ua un uc)] 34 (0, 0)) ∧ Texts (fun k => w.heap.size + 2 ≤ k) wx ns vn,
            fun v _ => v = .int .i64 0] : List (Value → World → Prop)).getD j (fun _ _ => True) v wx)
          (by kernel_rfl) ?u0 ?step ?fin
        case u0 => exact fun j _ _ => g8.out
        case step =>
          intro vals
          simp only [frOfU, fillU, List.setIfInBounds_toArray, List.set_cons_succ, List.set_cons_zero]
          repeat' (first | exact AllOps.nil | refine AllOps.cons ?_ ?_)
          all_goals
            intro wx hle he hu hw K hK
            clear hw
            simp only [Act.put, List.setIfInBounds_toArray, List.set_cons_succ, List.set_cons_zero, List.getD_cons_zero, List.getD_cons_succ] at hK
            simp only [List.mem_cons, List.not_mem_nil, or_false, forall_eq_or_imp, forall_eq, Region.binds, forall_const, false_imp_iff, List.getD_cons_zero, List.getD_cons_succ] at he
            obtain ⟨hq4, hcn⟩ := HQ.out wx hle
            obtain ⟨y0, y1, y2, y3⟩ := cell_of_four hq4
            have HCN := Lib.hid hcn
            have FW0 : w.heap.size + 2 ≤ wx.heap.size := Nat.le_trans HWS.out hle.size
            clear hle hq4 hcn
          all_goals first | ((try simp only [he] at hK ⊢); go_simp; exact hK _ _ (Fr.refl _ _) rfl (fun _ _ h => h) (fun _ _ _ h => h)) | skip
          · simp only [he] at hK ⊢
            go_simp
            go_at_call 96
            refine HCN.out.mono ?_
            rintro e1 wa ⟨vn, rfl, ht, fa⟩
            have ht' := Texts.mono ht (S := fun k => w.heap.size + 2 ≤ k) (fun k _ h => Nat.le_trans FW0 h)
            refine hK _ _ (fa.mono (fun _ _ h => absurd h (fun h => h))) ht' ?_ ?_
            · intro j hj h e
              have := h e
              rw [fa.block _ (lt_of_block this) (fun h => h)]; exact this
            · refine fun j u _ => pres_list ?_ j u
              have st : ∀ u, Texts (fun k => w.heap.size + 2 ≤ k) wx ns u → Texts (fun k => w.heap.size + 2 ≤ k) wa ns u := fun u h => h.fr fa (fun _ _ h => h)
              simp only [List.mem_cons, List.not_mem_nil, or_false, forall_eq_or_imp, forall_eq, imp_self, implies_true, true_and, and_true]
              refine ⟨fun u h => st u h, fun u h => ?_, fun u h => ?_⟩
              · obtain ⟨vn, e, h⟩ := h
                exact ⟨vn, e, st _ h⟩
              · obtain ⟨vn, e, h⟩ := h
                exact ⟨vn, by rw [fa.block _ (lt_of_block e) (fun h => h)]; exact e, st _ h⟩
          · obtain ⟨h1, h3, h6, h7⟩ := he
            obtain ⟨na, nc, e6, _⟩ := h6.shape
            rw [e6] at h6
            simp only [h1, h3, h7, e6] at hK ⊢
            go_simp
            exact hK _ _ (Fr.refl _ _) ⟨_, rfl, h6⟩ (fun _ _ h => h) (fun _ _ _ h => h)
          · obtain ⟨vn, h8v, htx⟩ := he.1
            obtain ⟨na, nc, rfl, _⟩ := htx.shape
            clear he
            simp only [h8v] at hK ⊢
            have h8 := hu rfl
            obtain ⟨b0, b1, b2, b3⟩ := cell_of_four h8
            have z0 : wx.frozen? ⟨w.heap.size + 1, 0, none⟩ = false := by simp [World.frozen?, h8]
            have z1 : wx.frozen? ⟨w.heap.size + 1, 1, none⟩ = false := by simp [World.frozen?, h8]
            have z2 : wx.frozen? ⟨w.heap.size + 1, 2, none⟩ = false := by simp [World.frozen?, h8]
            have z3 : wx.frozen? ⟨w.heap.size + 1, 3, none⟩ = false := by simp [World.frozen?, h8]
            have H8 := Lib.hid h8
            clear h8 hu
            go_simp
            have f8 := fr_four (w := wx) (b := w.heap.size + 1) (.int .u8 k) (.int .i64 m) (.slice na ns.length nc) (.slice ua un uc) (S := fun k => k = w.heap.size + 1) (Fr.refl _ _) (fun _ => rfl)
            have st : ∀ u, Texts (fun k => w.heap.size + 2 ≤ k) wx ns u → Texts (fun k => w.heap.size + 2 ≤ k) _ ns u := fun u h => h.fr f8 (fun k hk h => by omega)
            refine hK undef _ f8 ⟨_, store_four H8.out, st _ htx⟩ ?_ ?_
            · intro j hj h e
              exact absurd e hj
            · refine fun j u _ => pres_list ?_ j u
              simp only [List.mem_cons, List.not_mem_nil, or_false, forall_eq_or_imp, forall_eq, imp_self, implies_true, true_and, and_true]
              refine ⟨fun u h => st u h, fun u h => ?_, fun u h => ⟨_, store_four H8.out, st _ htx⟩⟩
              obtain ⟨vn, e, h⟩ := h
              exact ⟨vn, e, st _ h⟩
        case fin =>
          intro vals w' hle hV
          obtain ⟨vn, h8, htx⟩ := hV 9 (by decide)
          have h10 := hV 10 (by decide)
          clear hV
          simp only [List.getD_cons_zero, List.getD_cons_succ] at h10
          have fe : Fr (fun k => k = w.heap.size + 1) wr w' := ⟨hle.os, hle.tape, hle.output, hle.size, hle.block⟩
          simp only [frOfU, fillU, List.setIfInBounds_toArray, List.set_cons_succ, List.set_cons_zero, h10]
          go_wp2
          refine bodyPost_ret (results_cell_tmp_row rfl _ _ (w.heap.size + 1) 34 _ _ _ rfl h8 Try.underlying34 rfl (by kernel_rfl)) rfl ?_
          have e2 := E9.out
          rw [if_neg HL0.out, if_pos HI.out.2.1] at e2
          rw [e2]
          have hsh := TyRow.shows (m := m) (TyRow.fr HTY.out fe (fun k hk h => by omega)) HI.out.2.2.1 hk255 hn htx
          exact ⟨_, rfl, HI.out.1.1.trans fe (fun i hi h => by omega), box_kept glb.out fe (by omega), Shows.mono (fun k _ h => Nat.le_trans (Nat.le_add_right _ _) h) _ _ hsh, HI.out.2.2.2.1⟩

/-- EVERY TYPE, MADE WHOLE. -/
theorem whole_any (lv : Nat) : WholeAt lv := by
  induction lv with
  | zero =>
    intro al t R v av lz lb l w hlz _ hl hR hsh hal hb
    obtain rfl : lz = 0 := by simpa using hlz
    exact whole_zero al t R v av lb l w hl hsh hb
  | succ lv ih =>
    intro al t R v av lz lb l w hlz hlv hl hR hsh hal hb
    cases t with
    | nil => exact hsh.elim
    | mk k m ns n of =>
      by_cases hk : k = 9
      · subst hk
        exact whole_ref lv ih al m ns n of R v av lz lb l w (by omega) (by omega) hl hR hsh hal hb
      · exact whole_rest lv ih al k m ns n of R v av lz lb l w hk (by omega) (by omega) hl hR hsh hal hb
end
section
theorem validN_any (n : Int) (w : World) : Calls Try.prog 70 #[.int .i64 n] w fun e w' => e = .returned (.bool (validN n)) ∧ w = w' := by
  by_cases h0 : 0 ≤ n <;> by_cases h1 : n ≤ 65535 <;>
    (go_enter Try.func70, Try.ntmps70
     go_wp2
     go_ret
     exact ⟨ret_bool (by simp [validN, h0, h1]), rfl⟩)

theorem cells_row {w : World} {b : Nat} {cs : Array Value} {t : TypeId} (h : w.heap[b]? = some (.cells cs t (0, 0))) (i : Nat) (u : Value) (hu : cs[i]? = some u) : w.cell? ⟨b, i, none⟩ = some u := by
  rw [cell_of_row w b i cs t (0, 0) h]; exact hu

set_option maxRecDepth 100000 in
theorem checkTypes_any (R : Nat → Prop) (t : KTab) (v : Value) (b : Nat) (w : World) (ht : Tabled R w t v) (hR : ∀ k, R k → k < b) (hb : b < w.heap.size) (hN : Nm (fun k => k < b) w b []) :
    Calls Try.prog 72 #[v, namer b] w fun e w' => e = .returned (.int .i64 (firstE (aliasE t.types) t.types.length)) ∧ Fr (fun k => b ≤ k) w w' ∧ (firstE (aliasE t.types) t.types.length = 0 → Nm (fun k => k < b) w' b (t.types.map (·.1))) := by
  obtain ⟨tv, fv, pv, rfl, _, hal, hfl, hpl⟩ := ht
  obtain ⟨fa, fc, rfl, _⟩ := hfl.shape
  obtain ⟨pa, pc, rfl, _⟩ := hpl.shape
  have hall : t.types.length ≤ 1000 := hal.1
  have hnl := Lib.hid hal.2.1
  have Hal0 := Lib.hid hal
  obtain ⟨a, c, rfl, hs⟩ := hal.shape
  have Hal := Lib.hid hal
  have Hs := Lib.hid hs
  have HN := Lib.hid hN
  have HR := Lib.hid hR
  clear hal hs hN hR hfl hpl
  obtain ⟨w0, hw0⟩ : ∃ w0, w0 = w.alloc (.cells #[sv t.name, .int .i64 t.number, .int .i64 t.version, .slice a t.types.length c, .slice fa t.faults.length fc, .slice pa t.procs.length pc] 121) := ⟨_, rfl⟩
  have f0 : Hid (Fr (fun _ => False) w w0) := Lib.hid (by rw [hw0]; exact (Fr.refl _ _).alloc _)
  have q2 : Hid (w0.heap[w.heap.size]? = some (.cells #[sv t.name, .int .i64 t.number, .int .i64 t.version, .slice a t.types.length c, .slice fa t.faults.length fc, .slice pa t.procs.length pc] 121 (0, 0))) := Lib.hid (by rw [hw0]; exact heap_alloc_new _ _)
  have s0 : Hid (w0.heap.size = w.heap.size + 1) := Lib.hid (by rw [hw0]; simp)
  have c3 := cells_row q2.out 3 _ rfl
  unfold namer
  unfold sv at *
  go_enter Try.func72, Try.ntmps72
  go_wp2
  rw [← hw0]
  clear hw0 c3
  go_loopg [5, 6, 7, 8, 12] t.types.length (fun G u5 u6 u7 u8 u12 wr => ∃ j : Nat, j ≤ t.types.length ∧ G = t.types.length - j ∧ u12 = .int .i64 j ∧ Hid (firstE (aliasE t.types) j = 0 ∧ Fr (fun k => b ≤ k) w wr ∧
    wr.heap[w.heap.size]? = some (.cells #[.string ⟨t.name.toArray⟩, .int .i64 t.number, .int .i64 t.version, .slice a t.types.length c, .slice fa t.faults.length fc, .slice pa t.procs.length pc] 121 (0, 0)) ∧
    Nm (fun k => k < b ∨ k = w.heap.size) wr b ((t.types.take j).map (·.1))))
  case atStart => exact ⟨0, Nat.zero_le _, rfl, by go_num, Lib.hid ⟨rfl, f0.out.mono (fun _ _ h => absurd h (fun h => h)), q2.out, (HN.out.guard (Q := fun k => k < b ∨ k = w.heap.size) (fun k hk h => by omega)).fr f0.out (fun _ h => absurd h (fun h => h))⟩⟩
  case round =>
    obtain ⟨j, hj, rfl, rfl, HI⟩ := hrel
    by_cases hlt : j < t.types.length
    · rcases Hs.out with hz | ⟨hcap, g, off, hg, rfl, hcell⟩
      · omega
      obtain ⟨nm, tt, htt⟩ : ∃ nm tt, t.types[j]? = some (nm, tt) := ⟨t.types[j].1, t.types[j].2, by rw [List.getElem?_eq_getElem hlt]⟩
      obtain ⟨x0, x1, x2, x3, y, y0, y1, y2, y3, hx⟩ := hcell j _ htt
      have nb : ∀ k, R k → ¬ b ≤ k := fun k hk h => by have := HR.out k hk; omega
      have y := cell_fr HI.out.2.1 nb hg y
      have y0 := cell_fr HI.out.2.1 nb hg y0
      have y1 := cell_fr HI.out.2.1 nb hg y1
      have y2 := cell_fr HI.out.2.1 nb hg y2
      have y3 := cell_fr HI.out.2.1 nb hg y3
      have NB := Lib.hid nb
      obtain ⟨pk, pm, pa', pn, pc', pa2, pn2, pc2, rfl, rfl, rfl, rfl⟩ := hx.cells
      have HX := Lib.hid hx
      have hgd : t.types.getD j ([], .nil) = (nm, tt) := by rw [List.getD_eq_getElem?_getD, htt]; rfl
      have hnml : nm.length ≤ 1000 := hnl.out _ (List.mem_of_getElem? htt)
      have htk : (t.types.take (j + 1)).map (·.1) = (t.types.take j).map (·.1) ++ [nm] := by
        rw [List.take_add_one, htt]; simp
      have HGD := Lib.hid hgd
      have HTK := Lib.hid htk
      clear hcell nb hx htt hgd htk
      unfold sv at y
      -- the alias in its own box
      obtain ⟨wb, hwb⟩ : ∃ wb, wb = wr.alloc (.cells #[.string ⟨nm.toArray⟩, .int .u8 pk, .int .i64 pm, .slice pa' pn pc', .slice pa2 pn2 pc2] 116) := ⟨_, rfl⟩
      have fb : Fr (fun _ => False) wr wb := by rw [hwb]; exact (Fr.refl _ _).alloc _
      have qb : wb.heap[wr.heap.size]? = some (.cells #[.string ⟨nm.toArray⟩, .int .u8 pk, .int .i64 pm, .slice pa' pn pc', .slice pa2 pn2 pc2] 116 (0, 0)) := by rw [hwb]; exact heap_alloc_new _ _
      have sb : wb.heap.size = wr.heap.size + 1 := by rw [hwb]; simp
      have hwr : w.heap.size + 1 ≤ wr.heap.size := lt_of_block HI.out.2.2.1
      have hNb : Nm (fun k => (k < b ∨ k = w.heap.size) ∨ k = wr.heap.size) wb b ((t.types.take j).map (·.1)) :=
        (HI.out.2.2.2.guard (Q := fun k => (k < b ∨ k = w.heap.size) ∨ k = wr.heap.size) (fun k hk h => by rcases h with h | h; exact h; omega)).fr fb (fun _ h => absurd h (fun h => h))
      have hnx := name_next _ b ((t.types.take j).map (·.1)) nm wb hNb (fun k h => by omega) (by simp; omega) (by unfold maxLen; omega)
      unfold sv at hnx
      rw [hwb] at hnx
      have z0 := cells_row qb 0 _ rfl
      have HB := Lib.hid (And.intro hwb (And.intro fb (And.intro qb sb)))
      clear hwb fb qb sb hNb
      obtain ⟨E, hE⟩ : ∃ E, E = nameE ((t.types.take j).map (·.1)) nm := ⟨_, rfl⟩
      rw [← hE] at hnx
      have HE := Lib.hid hE
      clear hE
      go_wp2_with fail
      refine hnx.mono ?_
      rintro e w2 ⟨rfl, f2, N2⟩
      rw [← HB.out.1] at f2
      have HF2 := Lib.hid (And.intro f2 N2)
      clear f2 N2 hnx
      by_cases he : E = 0
      · subst he
        have N2 := HF2.out.2 (by first | trivial | rfl)
        have qt := box_kept (box_kept HI.out.2.2.1 HB.out.2.1 (fun h => h)) HF2.out.1 (by omega)
        have qa := box_kept HB.out.2.2.1 HF2.out.1 (by omega)
        have fw2 : Fr (fun k => b ≤ k) w w2 := (HI.out.2.1.trans HB.out.2.1 (fun _ _ h => absurd h (fun h => h))).trans HF2.out.1 (fun i hi h => by omega)
        have hsl : ∀ wx : World, Fr (fun _ => False) w2.drew wx → Calls Try.prog 80 #[.agg #[.int .u8 pk, .int .i64 pm, .slice pa' pn pc', .slice pa2 pn2 pc2], .slice (some ⟨g, off, none⟩) j c, .int .i64 5] wx fun e w' => e = .returned (.int .i64 (rightE (t.types.take j) tt 5)) ∧ Fr (fun _ => False) wx w' := fun wx fx =>
          have fwx : Fr (fun k => b ≤ k) w wx := ⟨fx.os.trans fw2.os, fx.tape.trans fw2.tape, fx.output.trans fw2.output, Nat.le_trans fw2.size fx.size, fun i hi hs => (fx.block i (Nat.lt_of_lt_of_le hi fw2.size) (fun h => h)).trans (fw2.block i hi hs)⟩
          right_any (t.types.take j) tt R _ _ wx 5 5 rfl (by omega) (Shows.fr fwx (fun k hk => NB.out k hk) _ _ HX.out) ((Aliases.take Hal0.out j (by omega)).fr fwx (fun k hk => NB.out k hk))
        have HSL := Lib.hid hsl
        have HQ := Lib.hid (And.intro qt (And.intro qa (And.intro fw2 N2)))
        obtain ⟨E2, hE2⟩ : ∃ E2, E2 = rightE (t.types.take j) tt 5 := ⟨_, rfl⟩
        have HE2 := Lib.hid hE2
        clear hsl qt qa fw2 N2 z0 hE2 y y0 y1 y2 y3
        have hjc : (j : Int) ≤ (c : Int) := by omega
        have hj0 : (0 : Int) ≤ (j : Int) := by omega
        have ea : aliasE t.types j = E2 := by unfold aliasE; rw [HGD.out]; rw [if_pos HE.out.symm, HE2.out]
        have EA := Lib.hid ea
        clear ea
        go_wp2_with fail
        refine wp_region_told (by kernel_rfl) (fun a b => Fr (fun _ => False) a b) (fun w => Fr.refl _ w) (fun _ _ _ h k => h.trans k (fun _ _ h => h))
          [24, 25, 26, 27, 28, 29, 30, 8] rfl (by decide) (by intro d hd; simp at hd ⊢; omega)
          (fun i v _ => v = [.pointer (some ⟨wr.heap.size, 1, none⟩), .agg #[.int .u8 pk, .int .i64 pm, .slice pa' pn pc', .slice pa2 pn2 pc2], .pointer (some ⟨w.heap.size, 3, none⟩), .slice (some ⟨g, off, none⟩) t.types.length c, .int .i64 j, .slice (some ⟨g, off, none⟩) j c, .int .i64 (E2 : Nat), .int .i64 (E2 : Nat)].getD i undef)
          (fun _ _ _ _ _ h => h) (by kernel_rfl) ?step ?fin
        case step =>
          intro vals
          simp only [frOf, fill, List.setIfInBounds_toArray, List.set_cons_succ, List.set_cons_zero]
          repeat' (first | exact AllOps.nil | refine AllOps.cons ?_ ?_)
          all_goals
            intro wx hle he K hK
            simp only [Act.put, List.setIfInBounds_toArray, List.set_cons_succ, List.set_cons_zero, List.getD_cons_zero, List.getD_cons_succ] at hK
            simp only [List.mem_cons, List.not_mem_nil, or_false, forall_eq_or_imp, forall_eq, Region.binds, forall_const, false_imp_iff, List.getD_cons_zero, List.getD_cons_succ] at he
            try simp only [he] at hK
            have hcall := HSL.out wx hle
            have fx : Fr (fun _ => False) w2 wx := ⟨hle.os, hle.tape, hle.output, hle.size, hle.block⟩
            have c3 := cells_row (box_kept HQ.out.1 fx (fun h => h)) 3 _ rfl
            have d1 := cells_row (box_kept HQ.out.2.1 fx (fun h => h)) 1 _ rfl
            have d2 := cells_row (box_kept HQ.out.2.1 fx (fun h => h)) 2 _ rfl
            have d3 := cells_row (box_kept HQ.out.2.1 fx (fun h => h)) 3 _ rfl
            have d4 := cells_row (box_kept HQ.out.2.1 fx (fun h => h)) 4 _ rfl
            clear hle fx
            try go_simp
            first
              | (go_at_call 80; refine hcall.mono ?_; rintro e1 wa ⟨rfl, fa⟩; rw [← HE2.out]; exact hK _ _ fa rfl)
              | exact hK _ _ (Fr.refl _ _) rfl
        case fin =>
          intro vals w' hle hV
          have h7 : vals 7 = .int .i64 (E2 : Nat) := hV 7 (by decide)
          clear hV
          have fx : Fr (fun _ => False) w2 w' := ⟨hle.os, hle.tape, hle.output, hle.size, hle.block⟩
          have HFX := Lib.hid fx
          clear hle fx
          simp only [frOf, fill, List.setIfInBounds_toArray, List.set_cons_succ, List.set_cons_zero, h7]
          by_cases he2 : E2 = 0
          · subst he2
            go_wp2
            go_roundg (t.types.length - (j + 1))
            case measure => omega
            case rel =>
              refine ⟨j + 1, by omega, rfl, by go_num, Lib.hid ⟨firstE_step _ _ HI.out.1 EA.out, HQ.out.2.2.1.trans HFX.out (fun _ _ h => absurd h (fun h => h)), box_kept HQ.out.1 HFX.out (fun h => h), ?_⟩⟩
              rw [HTK.out]
              exact (HQ.out.2.2.2.guard (Q := fun k => k < b ∨ k = w.heap.size) (fun k _ h => .inl h)).fr HFX.out (fun _ h => absurd h (fun h => h))
          · have he' : ¬ (E2 : Int) = 0 := by omega
            go_wp2
            go_ret
            have es : firstE (aliasE t.types) t.types.length = E2 := by rw [firstE_stop _ _ j hlt HI.out.1 (by rw [EA.out]; exact he2), EA.out]
            rw [es]
            exact ⟨rfl, HQ.out.2.2.1.trans HFX.out (fun _ _ h => absurd h (fun h => h)), fun h => absurd h he2⟩
      · have he' : ¬ (E : Int) = 0 := by omega
        go_wp2
        go_ret
        have ea : aliasE t.types j = E := by unfold aliasE; rw [HGD.out]; rw [if_neg (by rw [← HE.out]; exact he), HE.out]
        have es : firstE (aliasE t.types) t.types.length = E := by rw [firstE_stop _ _ j hlt HI.out.1 (by rw [ea]; exact he), ea]
        rw [es]
        refine ⟨rfl, (HI.out.2.1.trans HB.out.2.1 (fun _ _ h => absurd h (fun h => h))).trans HF2.out.1 (fun i hi h => by omega), fun h => absurd h he⟩
    · obtain rfl : j = t.types.length := by omega
      go_wp2
      go_ret
      rw [HI.out.1]
      refine ⟨rfl, HI.out.2.1, fun _ => ?_⟩
      have := HI.out.2.2.2
      rw [List.take_length] at this
      exact this.guard (fun k _ h => .inl h)
end
end Go.Proofs.Ytplipjijaaejlaa
