/-
  CouBack, part 6 of what it rests on: KindWell.
-/
import Derived.Test.YtplipjijaaejlaaGreatS05
set_option linter.unusedVariables false
set_option linter.unusedSimpArgs false
set_option maxHeartbeats 64000000
namespace Go.Proofs.YtplipjijaaejlaaGreat
open Go.RowKit
open Go.Lib (hid)
section
theorem alloc_four (w : World) (x0 x1 x2 x3 : Value) (t : TypeId) : (w.alloc (.cells #[x0, x1, x2, x3] t)).heap[w.heap.size]? = some (.cells #[x0, x1, x2, x3] t (0, 0)) := heap_alloc_new w _

theorem box_kept {S : Nat → Prop} {w0 w1 : World} {b : Nat} {o : Obj} (h : w0.heap[b]? = some o) (f : Fr S w0 w1) (hb : ¬ S b) : w1.heap[b]? = some o := by
  rw [f.block b (lt_of_block h) hb]; exact h

theorem rightE_kind (known : List (Txt × KT)) (k : Nat) (m : Int) (ns : List Txt) (n : Nat) (of : Nat → KT) (lv : Nat) (h : 10 ≤ k ∨ lv = 0) : rightE known (.mk k m ns n of) lv = 5 := by
  unfold rightE; rw [if_pos h]

theorem rightE_size (known : List (Txt × KT)) (k : Nat) (m : Int) (ns : List Txt) (n : Nat) (of : Nat → KT) (lv : Nat) (h : ¬ (10 ≤ k ∨ lv = 0)) (h1 : sizedB k m = false) : rightE known (.mk k m ns n of) lv = 2 := by
  unfold rightE; rw [if_neg h, h1]; rfl

theorem rightE_form (known : List (Txt × KT)) (k : Nat) (m : Int) (ns : List Txt) (n : Nat) (of : Nat → KT) (lv : Nat) (h : ¬ (10 ≤ k ∨ lv = 0)) (h1 : sizedB k m = true) (h2 : formedB k ns.length n = false) : rightE known (.mk k m ns n of) lv = 4 := by
  unfold rightE; rw [if_neg h, h1, h2]; rfl

/-- The error of a type's own names. -/
def ownE (known : List (Txt × KT)) (k : Nat) (ns : List Txt) : Nat := if k = 6 ∨ k = 7 ∨ k = 8 then checkNamesE ns else if k = 9 then (if standsN known ns < 0 then 10 else 0) else 0

theorem rightE_own (known : List (Txt × KT)) (k : Nat) (m : Int) (ns : List Txt) (n : Nat) (of : Nat → KT) (lv : Nat) (h : ¬ (10 ≤ k ∨ lv = 0)) (h1 : sizedB k m = true) (h2 : formedB k ns.length n = true) : rightE known (.mk k m ns n of) lv = if ownE known k ns = 0 then firstE (fun i => rightE known (of i) (lv - 1)) n else ownE known k ns := by
  rw [rightE, if_neg h, h1, h2]; rfl

set_option maxRecDepth 100000 in
theorem right_any (known : List (Txt × KT)) (t : KT) : ∀ (R : Nat → Prop) (v kv : Value) (w : World) (lv : Nat) (lz : Int), lz = lv → lv ≤ 100 → Shows R w t v → Aliases R w known kv →
    Calls Tryz.prog 90 #[v, kv, .int .i64 lz] w fun e w' => e = .returned (.int .i64 (rightE known t lv)) ∧ Fr (fun _ => False) w w' := by
  induction t with
  | nil => exact fun _ _ _ _ _ _ _ _ h => h.elim
  | mk k m ns n of ih =>
  intro R v kv w lv lz hlz hlv hsh hka
  have hsh0 := Lib.hid hsh
  obtain ⟨vn, vo, rfl, hk255, hn, ht, ho⟩ := hsh
  have hl0 : ns.length ≤ 1000 := ht.1
  have Ht := Lib.hid ht
  obtain ⟨a, cap, rfl, hs⟩ := ht.shape
  obtain ⟨a', cap', rfl, hso⟩ : ∃ a' cap', vo = .slice a' n cap' ∧ (n = 0 ∨ n ≤ cap' ∧ ∃ g off, R g ∧ a' = some ⟨g, off, none⟩ ∧ ∀ i, i < n → ∃ x0 x1 x2 x3,
      w.cell? ⟨g, off + i * 4, none⟩ = some x0 ∧ w.cell? ⟨g, off + i * 4 + 1, none⟩ = some x1 ∧ w.cell? ⟨g, off + i * 4 + 2, none⟩ = some x2 ∧ w.cell? ⟨g, off + i * 4 + 3, none⟩ = some x3 ∧
      Shows R w (of i) (.agg #[x0, x1, x2, x3])) := by
    rcases ho with ⟨rfl, a', c', rfl⟩ | ⟨g, off, cap', hg, rfl, hle, hc⟩
    · exact ⟨a', c', rfl, .inl rfl⟩
    · exact ⟨_, cap', rfl, .inr ⟨hle, g, off, hg, rfl, hc⟩⟩
  have Hso := Lib.hid hso
  have Hka := Lib.hid hka
  clear ho hs ht hso hka
  by_cases h10 : 10 ≤ k
  · have h10' : (10 : Int) ≤ (k : Int) := by omega
    have e1 := Lib.hid (rightE_kind known k m ns n of lv (.inl h10))
    have hlz := Lib.hid hlz
    go_enter Tryz.func90, Tryz.ntmps90
    go_wp2
    go_ret
    exact ⟨by rw [e1.out]; rfl, (Fr.refl _ _).alloc _⟩
  have h10' : ¬ (10 : Int) ≤ (k : Int) := by omega
  have hk10 : k < 10 := by omega
  by_cases hl : lv = 0
  · have e1 := Lib.hid (rightE_kind known k m ns n of lv (.inr hl))
    obtain rfl : lz = 0 := by omega
    clear hlz hl
    go_enter Tryz.func90, Tryz.ntmps90
    go_wp2
    go_ret
    exact ⟨by rw [e1.out]; rfl, (Fr.refl _ _).alloc _⟩
  have hl' : (lz == 0) = false := by simp; omega
  have hz0 : 1 ≤ lz := by omega
  have hz1 : lz ≤ 100 := by omega
  have hdom : ¬ (10 ≤ k ∨ lv = 0) := by omega
  have Hdom := Lib.hid hdom
  have Hlz := Lib.hid hlz
  clear hlz hl hdom
  have hq := alloc_four w (.int .u8 k) (.int .i64 m) (.slice a ns.length cap) (.slice a' n cap') 34
  obtain ⟨c0, c1, c2, c3⟩ := cell_of_four hq
  have Hq := Lib.hid hq
  have hsz := sized_any k m hk10 (.slice a ns.length cap) (.slice a' n cap') (w.alloc (.cells #[.int .u8 k, .int .i64 m, .slice a ns.length cap, .slice a' n cap'] 34))
  clear hq
  have f0 : Hid (Fr (fun _ => False) w (w.alloc (.cells #[.int .u8 k, .int .i64 m, .slice a ns.length cap, .slice a' n cap'] 34))) := Lib.hid ((Fr.refl _ _).alloc _)
  by_cases hB : sizedB k m = true
  case neg =>
    have hB' : sizedB k m = false := eq_false_of_ne_true hB
    have e1 := Lib.hid (rightE_size known k m ns n of lv Hdom.out hB')
    rw [hB'] at hsz
    clear hB hB'
    go_enter Tryz.func90, Tryz.ntmps90
    go_wp2_with fail
    refine hsz.mono ?_
    rintro e w1 ⟨rfl, f1⟩
    have f1 := Lib.hid f1
    go_wp2
    go_ret
    exact ⟨by rw [e1.out]; rfl, f0.out.trans f1.out (fun _ _ h => h)⟩
  rw [hB] at hsz
  have HB := Lib.hid hB
  clear hB
  by_cases hF : formedB k ns.length n = true
  case neg =>
    have hF' : formedB k ns.length n = false := eq_false_of_ne_true hF
    have e1 := Lib.hid (rightE_form known k m ns n of lv Hdom.out HB.out hF')
    have HF := Lib.hid hF'
    clear hF hF'
    go_enter Tryz.func90, Tryz.ntmps90
    go_wp2_with fail
    refine hsz.mono ?_
    rintro e w1 ⟨rfl, f1⟩
    have q1 := box_kept Hq.out f1 (fun h => h)
    obtain ⟨d0, d1, d2, d3⟩ := cell_of_four q1
    have f1 := Lib.hid f1
    have q1 := Lib.hid q1
    go_wp2_with fail
    refine (formed_any k ns.length n m hk10 a a' cap cap' w1).mono ?_
    rintro e w2 ⟨rfl, f2⟩
    rw [HF.out]
    have f2 := Lib.hid f2
    go_wp2
    go_ret
    exact ⟨by rw [e1.out]; rfl, (f0.out.trans f1.out (fun _ _ h => h)).trans f2.out (fun _ _ h => h)⟩
  have eown := Lib.hid (rightE_own known k m ns n of lv Hdom.out HB.out hF)
  have HF := Lib.hid hF
  clear hF
  have hcases : k < 6 ∨ k = 6 ∨ k = 7 ∨ k = 8 ∨ k = 9 := by omega
  rcases hcases with hk6 | rfl | rfl | rfl | rfl
  · have i6 : ((k : Int) == 6) = false := by simp; omega
    have i7 : ((k : Int) == 7) = false := by simp; omega
    have i8 : ((k : Int) == 8) = false := by simp; omega
    have i9 : ((k : Int) == 9) = false := by simp; omega
    have HO : Hid (ownE known k ns = 0) := Lib.hid (by unfold ownE; rw [if_neg (by omega), if_neg (by omega)])
    go_enter Tryz.func90, Tryz.ntmps90
    go_wp2_with fail
    refine hsz.mono ?_
    rintro e w1 ⟨rfl, f1⟩
    have q1 := box_kept Hq.out f1 (fun h => h)
    obtain ⟨d0, d1, d2, d3⟩ := cell_of_four q1
    have f1 := Lib.hid f1
    have q1 := Lib.hid q1
    go_wp2_with fail
    refine (formed_any k ns.length n m (by omega) a a' cap cap' w1).mono ?_
    rintro e w2 ⟨rfl, f2⟩
    rw [HF.out]
    have q2 := box_kept q1.out f2 (fun h => h)
    obtain ⟨b0, b1, b2, b3⟩ := cell_of_four q2
    have f2 := Lib.hid f2
    have q2 := Lib.hid q2
    clear c0 c1 c2 c3 d0 d1 d2 d3
    have g3 : Hid (Fr (fun _ => False) w w2) := Lib.hid ((f0.out.trans f1.out (fun _ _ h => h)).trans f2.out (fun _ _ h => h))
    go_wp2_with fail
    go_loopg [9, 10, 48] n (fun G u9 u10 u48 wr => ∃ j : Nat, j ≤ n ∧ G = n - j ∧ u48 = .int .i64 j ∧ Hid (Fr (fun _ => False) w wr ∧ firstE (fun i => rightE known (of i) (lv - 1)) j = 0))
    case atStart => exact ⟨0, Nat.zero_le _, rfl, by go_num, Lib.hid ⟨g3.out, rfl⟩⟩
    case round =>
      obtain ⟨j, hj, rfl, rfl, HI⟩ := hrel
      by_cases hlt : j < n
      · rcases Hso.out with hz | ⟨hcap, g, off, hg, rfl, hcell⟩
        · omega
        obtain ⟨x0, x1, x2, x3, y0, y1, y2, y3, hx⟩ := hcell j hlt
        have y0 := cell_fr (R := fun _ => True) HI.out.1 (fun _ _ h => h) trivial y0
        have y1 := cell_fr (R := fun _ => True) HI.out.1 (fun _ _ h => h) trivial y1
        have y2 := cell_fr (R := fun _ => True) HI.out.1 (fun _ _ h => h) trivial y2
        have y3 := cell_fr (R := fun _ => True) HI.out.1 (fun _ _ h => h) trivial y3
        obtain ⟨pk, pm, pa, pn, pc, pa', pn', pc', rfl, rfl, rfl, rfl⟩ := hx.cells
        clear hcell
        have fx : Hid (Fr (fun _ => False) wr (wr.alloc (.cells #[.int .u8 pk, .int .i64 pm, .slice pa pn pc, .slice pa' pn' pc'] 34))) := Lib.hid ((Fr.refl _ _).alloc _)
        have hrec := ih j R (.agg #[.int .u8 pk, .int .i64 pm, .slice pa pn pc, .slice pa' pn' pc']) kv (wr.alloc (.cells #[.int .u8 pk, .int .i64 pm, .slice pa pn pc, .slice pa' pn' pc'] 34)) (lv - 1) (lz - 1) (by have := Hlz.out; omega) (by omega) (Shows.fr (HI.out.1.trans fx.out (fun _ _ h => h)) (fun _ _ h => h) _ _ hx) (Hka.out.fr (HI.out.1.trans fx.out (fun _ _ h => h)) (fun _ _ h => h))
        clear hx
        obtain ⟨E, hE⟩ : ∃ E, E = rightE known (of j) (lv - 1) := ⟨_, rfl⟩
        rw [← hE] at hrec
        have HE := Lib.hid hE
        clear hE
        by_cases he : E = 0
        · subst he
          go_wp2_with fail
          refine hrec.mono ?_
          rintro e w5 ⟨rfl, f5⟩
          have f5 := Lib.hid f5
          go_wp2
          go_roundg (n - (j + 1))
          case measure => omega
          case rel => exact ⟨j + 1, by omega, rfl, by go_num, Lib.hid ⟨(HI.out.1.trans fx.out (fun _ _ h => h)).trans f5.out (fun _ _ h => h), firstE_step _ _ HI.out.2 HE.out.symm⟩⟩
        · have he' : ¬ (E : Int) = 0 := by omega
          go_wp2_with fail
          refine hrec.mono ?_
          rintro e w5 ⟨rfl, f5⟩
          have f5 := Lib.hid f5
          go_wp2
          go_ret
          refine ⟨ret_nat ?_, (HI.out.1.trans fx.out (fun _ _ h => h)).trans f5.out (fun _ _ h => h)⟩
          rw [eown.out, if_pos HO.out, HE.out]
          exact (firstE_stop (fun i => rightE known (of i) (lv - 1)) n j hlt HI.out.2 (by rw [← HE.out]; exact he)).symm
      · obtain rfl : j = n := by omega
        go_wp2
        go_ret
        refine ⟨ret_nat (a := 0) ?_, HI.out.1⟩
        rw [eown.out, if_pos HO.out]
        exact HI.out.2.symm
  · have hown : ownE known 6 ns = checkNamesE ns := by unfold ownE; rw [if_pos (by omega)]
    have Hown := Lib.hid hown
    clear hown
    go_enter Tryz.func90, Tryz.ntmps90
    go_wp2_with fail
    refine hsz.mono ?_
    rintro e w1 ⟨rfl, f1⟩
    have q1 := box_kept Hq.out f1 (fun h => h)
    obtain ⟨d0, d1, d2, d3⟩ := cell_of_four q1
    have f1 := Lib.hid f1
    have q1 := Lib.hid q1
    go_wp2_with fail
    refine (formed_any 6 ns.length n m (by omega) a a' cap cap' w1).mono ?_
    rintro e w2 ⟨rfl, f2⟩
    rw [HF.out]
    have q2 := box_kept q1.out f2 (fun h => h)
    obtain ⟨b0, b1, b2, b3⟩ := cell_of_four q2
    have f2 := Lib.hid f2
    have q2 := Lib.hid q2
    clear c0 c1 c2 c3 d0 d1 d2 d3
    have hcn := checkNames_any R ns _ w2 (Ht.out.fr ((f0.out.trans f1.out (fun _ _ h => h)).trans f2.out (fun _ _ h => h)) (fun _ _ h => h))
    obtain ⟨E, hE⟩ : ∃ E, E = checkNamesE ns := ⟨_, rfl⟩
    rw [← hE] at hcn
    have HE := Lib.hid hE
    clear hE
    by_cases he : E = 0
    · subst he
      have HO : Hid (ownE known 6 ns = 0) := Lib.hid (Hown.out.trans HE.out.symm)
      go_wp2_with fail
      refine hcn.mono ?_
      rintro e w3 ⟨rfl, f3⟩
      have q3 := box_kept q2.out f3 (fun h => h)
      obtain ⟨a0, a1, a2, a3⟩ := cell_of_four q3
      have f3 := Lib.hid f3
      have q3 := Lib.hid q3
      clear b0 b1 b2 b3
      have g3 : Hid (Fr (fun _ => False) w w3) := Lib.hid (((f0.out.trans f1.out (fun _ _ h => h)).trans f2.out (fun _ _ h => h)).trans f3.out (fun _ _ h => h))
      go_wp2_with fail
      go_loopg [9, 10, 48] n (fun G u9 u10 u48 wr => ∃ j : Nat, j ≤ n ∧ G = n - j ∧ u48 = .int .i64 j ∧ Hid (Fr (fun _ => False) w wr ∧ firstE (fun i => rightE known (of i) (lv - 1)) j = 0))
      case atStart => exact ⟨0, Nat.zero_le _, rfl, by go_num, Lib.hid ⟨g3.out, rfl⟩⟩
      case round =>
        obtain ⟨j, hj, rfl, rfl, HI⟩ := hrel
        by_cases hlt : j < n
        · rcases Hso.out with hz | ⟨hcap, g, off, hg, rfl, hcell⟩
          · omega
          obtain ⟨x0, x1, x2, x3, y0, y1, y2, y3, hx⟩ := hcell j hlt
          have y0 := cell_fr (R := fun _ => True) HI.out.1 (fun _ _ h => h) trivial y0
          have y1 := cell_fr (R := fun _ => True) HI.out.1 (fun _ _ h => h) trivial y1
          have y2 := cell_fr (R := fun _ => True) HI.out.1 (fun _ _ h => h) trivial y2
          have y3 := cell_fr (R := fun _ => True) HI.out.1 (fun _ _ h => h) trivial y3
          obtain ⟨pk, pm, pa, pn, pc, pa', pn', pc', rfl, rfl, rfl, rfl⟩ := hx.cells
          clear hcell
          have fx : Hid (Fr (fun _ => False) wr (wr.alloc (.cells #[.int .u8 pk, .int .i64 pm, .slice pa pn pc, .slice pa' pn' pc'] 34))) := Lib.hid ((Fr.refl _ _).alloc _)
          have hrec := ih j R (.agg #[.int .u8 pk, .int .i64 pm, .slice pa pn pc, .slice pa' pn' pc']) kv (wr.alloc (.cells #[.int .u8 pk, .int .i64 pm, .slice pa pn pc, .slice pa' pn' pc'] 34)) (lv - 1) (lz - 1) (by have := Hlz.out; omega) (by omega) (Shows.fr (HI.out.1.trans fx.out (fun _ _ h => h)) (fun _ _ h => h) _ _ hx) (Hka.out.fr (HI.out.1.trans fx.out (fun _ _ h => h)) (fun _ _ h => h))
          clear hx
          obtain ⟨E, hE⟩ : ∃ E, E = rightE known (of j) (lv - 1) := ⟨_, rfl⟩
          rw [← hE] at hrec
          have HE := Lib.hid hE
          clear hE
          by_cases he : E = 0
          · subst he
            go_wp2_with fail
            refine hrec.mono ?_
            rintro e w5 ⟨rfl, f5⟩
            have f5 := Lib.hid f5
            go_wp2
            go_roundg (n - (j + 1))
            case measure => omega
            case rel => exact ⟨j + 1, by omega, rfl, by go_num, Lib.hid ⟨(HI.out.1.trans fx.out (fun _ _ h => h)).trans f5.out (fun _ _ h => h), firstE_step _ _ HI.out.2 HE.out.symm⟩⟩
          · have he' : ¬ (E : Int) = 0 := by omega
            go_wp2_with fail
            refine hrec.mono ?_
            rintro e w5 ⟨rfl, f5⟩
            have f5 := Lib.hid f5
            go_wp2
            go_ret
            refine ⟨ret_nat ?_, (HI.out.1.trans fx.out (fun _ _ h => h)).trans f5.out (fun _ _ h => h)⟩
            rw [eown.out, if_pos HO.out, HE.out]
            exact (firstE_stop (fun i => rightE known (of i) (lv - 1)) n j hlt HI.out.2 (by rw [← HE.out]; exact he)).symm
        · obtain rfl : j = n := by omega
          go_wp2
          go_ret
          refine ⟨ret_nat (a := 0) ?_, HI.out.1⟩
          rw [eown.out, if_pos HO.out]
          exact HI.out.2.symm
    · have he' : ¬ (E : Int) = 0 := by omega
      go_wp2_with fail
      refine hcn.mono ?_
      rintro e w3 ⟨rfl, f3⟩
      have f3 := Lib.hid f3
      go_wp2
      go_ret
      refine ⟨ret_nat ?_, ((f0.out.trans f1.out (fun _ _ h => h)).trans f2.out (fun _ _ h => h)).trans f3.out (fun _ _ h => h)⟩
      rw [eown.out, Hown.out, ← HE.out, if_neg he]
  · have hown : ownE known 7 ns = checkNamesE ns := by unfold ownE; rw [if_pos (by omega)]
    have Hown := Lib.hid hown
    clear hown
    go_enter Tryz.func90, Tryz.ntmps90
    go_wp2_with fail
    refine hsz.mono ?_
    rintro e w1 ⟨rfl, f1⟩
    have q1 := box_kept Hq.out f1 (fun h => h)
    obtain ⟨d0, d1, d2, d3⟩ := cell_of_four q1
    have f1 := Lib.hid f1
    have q1 := Lib.hid q1
    go_wp2_with fail
    refine (formed_any 7 ns.length n m (by omega) a a' cap cap' w1).mono ?_
    rintro e w2 ⟨rfl, f2⟩
    rw [HF.out]
    have q2 := box_kept q1.out f2 (fun h => h)
    obtain ⟨b0, b1, b2, b3⟩ := cell_of_four q2
    have f2 := Lib.hid f2
    have q2 := Lib.hid q2
    clear c0 c1 c2 c3 d0 d1 d2 d3
    have hcn := checkNames_any R ns _ w2 (Ht.out.fr ((f0.out.trans f1.out (fun _ _ h => h)).trans f2.out (fun _ _ h => h)) (fun _ _ h => h))
    obtain ⟨E, hE⟩ : ∃ E, E = checkNamesE ns := ⟨_, rfl⟩
    rw [← hE] at hcn
    have HE := Lib.hid hE
    clear hE
    by_cases he : E = 0
    · subst he
      have HO : Hid (ownE known 7 ns = 0) := Lib.hid (Hown.out.trans HE.out.symm)
      go_wp2_with fail
      refine hcn.mono ?_
      rintro e w3 ⟨rfl, f3⟩
      have q3 := box_kept q2.out f3 (fun h => h)
      obtain ⟨a0, a1, a2, a3⟩ := cell_of_four q3
      have f3 := Lib.hid f3
      have q3 := Lib.hid q3
      clear b0 b1 b2 b3
      have g3 : Hid (Fr (fun _ => False) w w3) := Lib.hid (((f0.out.trans f1.out (fun _ _ h => h)).trans f2.out (fun _ _ h => h)).trans f3.out (fun _ _ h => h))
      go_wp2_with fail
      go_loopg [9, 10, 48] n (fun G u9 u10 u48 wr => ∃ j : Nat, j ≤ n ∧ G = n - j ∧ u48 = .int .i64 j ∧ Hid (Fr (fun _ => False) w wr ∧ firstE (fun i => rightE known (of i) (lv - 1)) j = 0))
      case atStart => exact ⟨0, Nat.zero_le _, rfl, by go_num, Lib.hid ⟨g3.out, rfl⟩⟩
      case round =>
        obtain ⟨j, hj, rfl, rfl, HI⟩ := hrel
        by_cases hlt : j < n
        · rcases Hso.out with hz | ⟨hcap, g, off, hg, rfl, hcell⟩
          · omega
          obtain ⟨x0, x1, x2, x3, y0, y1, y2, y3, hx⟩ := hcell j hlt
          have y0 := cell_fr (R := fun _ => True) HI.out.1 (fun _ _ h => h) trivial y0
          have y1 := cell_fr (R := fun _ => True) HI.out.1 (fun _ _ h => h) trivial y1
          have y2 := cell_fr (R := fun _ => True) HI.out.1 (fun _ _ h => h) trivial y2
          have y3 := cell_fr (R := fun _ => True) HI.out.1 (fun _ _ h => h) trivial y3
          obtain ⟨pk, pm, pa, pn, pc, pa', pn', pc', rfl, rfl, rfl, rfl⟩ := hx.cells
          clear hcell
          have fx : Hid (Fr (fun _ => False) wr (wr.alloc (.cells #[.int .u8 pk, .int .i64 pm, .slice pa pn pc, .slice pa' pn' pc'] 34))) := Lib.hid ((Fr.refl _ _).alloc _)
          have hrec := ih j R (.agg #[.int .u8 pk, .int .i64 pm, .slice pa pn pc, .slice pa' pn' pc']) kv (wr.alloc (.cells #[.int .u8 pk, .int .i64 pm, .slice pa pn pc, .slice pa' pn' pc'] 34)) (lv - 1) (lz - 1) (by have := Hlz.out; omega) (by omega) (Shows.fr (HI.out.1.trans fx.out (fun _ _ h => h)) (fun _ _ h => h) _ _ hx) (Hka.out.fr (HI.out.1.trans fx.out (fun _ _ h => h)) (fun _ _ h => h))
          clear hx
          obtain ⟨E, hE⟩ : ∃ E, E = rightE known (of j) (lv - 1) := ⟨_, rfl⟩
          rw [← hE] at hrec
          have HE := Lib.hid hE
          clear hE
          by_cases he : E = 0
          · subst he
            go_wp2_with fail
            refine hrec.mono ?_
            rintro e w5 ⟨rfl, f5⟩
            have f5 := Lib.hid f5
            go_wp2
            go_roundg (n - (j + 1))
            case measure => omega
            case rel => exact ⟨j + 1, by omega, rfl, by go_num, Lib.hid ⟨(HI.out.1.trans fx.out (fun _ _ h => h)).trans f5.out (fun _ _ h => h), firstE_step _ _ HI.out.2 HE.out.symm⟩⟩
          · have he' : ¬ (E : Int) = 0 := by omega
            go_wp2_with fail
            refine hrec.mono ?_
            rintro e w5 ⟨rfl, f5⟩
            have f5 := Lib.hid f5
            go_wp2
            go_ret
            refine ⟨ret_nat ?_, (HI.out.1.trans fx.out (fun _ _ h => h)).trans f5.out (fun _ _ h => h)⟩
            rw [eown.out, if_pos HO.out, HE.out]
            exact (firstE_stop (fun i => rightE known (of i) (lv - 1)) n j hlt HI.out.2 (by rw [← HE.out]; exact he)).symm
        · obtain rfl : j = n := by omega
          go_wp2
          go_ret
          refine ⟨ret_nat (a := 0) ?_, HI.out.1⟩
          rw [eown.out, if_pos HO.out]
          exact HI.out.2.symm
    · have he' : ¬ (E : Int) = 0 := by omega
      go_wp2_with fail
      refine hcn.mono ?_
      rintro e w3 ⟨rfl, f3⟩
      have f3 := Lib.hid f3
      go_wp2
      go_ret
      refine ⟨ret_nat ?_, ((f0.out.trans f1.out (fun _ _ h => h)).trans f2.out (fun _ _ h => h)).trans f3.out (fun _ _ h => h)⟩
      rw [eown.out, Hown.out, ← HE.out, if_neg he]
  · have hown : ownE known 8 ns = checkNamesE ns := by unfold ownE; rw [if_pos (by omega)]
    have Hown := Lib.hid hown
    clear hown
    go_enter Tryz.func90, Tryz.ntmps90
    go_wp2_with fail
    refine hsz.mono ?_
    rintro e w1 ⟨rfl, f1⟩
    have q1 := box_kept Hq.out f1 (fun h => h)
    obtain ⟨d0, d1, d2, d3⟩ := cell_of_four q1
    have f1 := Lib.hid f1
    have q1 := Lib.hid q1
    go_wp2_with fail
    refine (formed_any 8 ns.length n m (by omega) a a' cap cap' w1).mono ?_
    rintro e w2 ⟨rfl, f2⟩
    rw [HF.out]
    have q2 := box_kept q1.out f2 (fun h => h)
    obtain ⟨b0, b1, b2, b3⟩ := cell_of_four q2
    have f2 := Lib.hid f2
    have q2 := Lib.hid q2
    clear c0 c1 c2 c3 d0 d1 d2 d3
    have hcn := checkNames_any R ns _ w2 (Ht.out.fr ((f0.out.trans f1.out (fun _ _ h => h)).trans f2.out (fun _ _ h => h)) (fun _ _ h => h))
    obtain ⟨E, hE⟩ : ∃ E, E = checkNamesE ns := ⟨_, rfl⟩
    rw [← hE] at hcn
    have HE := Lib.hid hE
    clear hE
    by_cases he : E = 0
    · subst he
      have HO : Hid (ownE known 8 ns = 0) := Lib.hid (Hown.out.trans HE.out.symm)
      go_wp2_with fail
      refine hcn.mono ?_
      rintro e w3 ⟨rfl, f3⟩
      have q3 := box_kept q2.out f3 (fun h => h)
      obtain ⟨a0, a1, a2, a3⟩ := cell_of_four q3
      have f3 := Lib.hid f3
      have q3 := Lib.hid q3
      clear b0 b1 b2 b3
      have g3 : Hid (Fr (fun _ => False) w w3) := Lib.hid (((f0.out.trans f1.out (fun _ _ h => h)).trans f2.out (fun _ _ h => h)).trans f3.out (fun _ _ h => h))
      go_wp2_with fail
      go_loopg [9, 10, 48] n (fun G u9 u10 u48 wr => ∃ j : Nat, j ≤ n ∧ G = n - j ∧ u48 = .int .i64 j ∧ Hid (Fr (fun _ => False) w wr ∧ firstE (fun i => rightE known (of i) (lv - 1)) j = 0))
      case atStart => exact ⟨0, Nat.zero_le _, rfl, by go_num, Lib.hid ⟨g3.out, rfl⟩⟩
      case round =>
        obtain ⟨j, hj, rfl, rfl, HI⟩ := hrel
        by_cases hlt : j < n
        · rcases Hso.out with hz | ⟨hcap, g, off, hg, rfl, hcell⟩
          · omega
          obtain ⟨x0, x1, x2, x3, y0, y1, y2, y3, hx⟩ := hcell j hlt
          have y0 := cell_fr (R := fun _ => True) HI.out.1 (fun _ _ h => h) trivial y0
          have y1 := cell_fr (R := fun _ => True) HI.out.1 (fun _ _ h => h) trivial y1
          have y2 := cell_fr (R := fun _ => True) HI.out.1 (fun _ _ h => h) trivial y2
          have y3 := cell_fr (R := fun _ => True) HI.out.1 (fun _ _ h => h) trivial y3
          obtain ⟨pk, pm, pa, pn, pc, pa', pn', pc', rfl, rfl, rfl, rfl⟩ := hx.cells
          clear hcell
          have fx : Hid (Fr (fun _ => False) wr (wr.alloc (.cells #[.int .u8 pk, .int .i64 pm, .slice pa pn pc, .slice pa' pn' pc'] 34))) := Lib.hid ((Fr.refl _ _).alloc _)
          have hrec := ih j R (.agg #[.int .u8 pk, .int .i64 pm, .slice pa pn pc, .slice pa' pn' pc']) kv (wr.alloc (.cells #[.int .u8 pk, .int .i64 pm, .slice pa pn pc, .slice pa' pn' pc'] 34)) (lv - 1) (lz - 1) (by have := Hlz.out; omega) (by omega) (Shows.fr (HI.out.1.trans fx.out (fun _ _ h => h)) (fun _ _ h => h) _ _ hx) (Hka.out.fr (HI.out.1.trans fx.out (fun _ _ h => h)) (fun _ _ h => h))
          clear hx
          obtain ⟨E, hE⟩ : ∃ E, E = rightE known (of j) (lv - 1) := ⟨_, rfl⟩
          rw [← hE] at hrec
          have HE := Lib.hid hE
          clear hE
          by_cases he : E = 0
          · subst he
            go_wp2_with fail
            refine hrec.mono ?_
            rintro e w5 ⟨rfl, f5⟩
            have f5 := Lib.hid f5
            go_wp2
            go_roundg (n - (j + 1))
            case measure => omega
            case rel => exact ⟨j + 1, by omega, rfl, by go_num, Lib.hid ⟨(HI.out.1.trans fx.out (fun _ _ h => h)).trans f5.out (fun _ _ h => h), firstE_step _ _ HI.out.2 HE.out.symm⟩⟩
          · have he' : ¬ (E : Int) = 0 := by omega
            go_wp2_with fail
            refine hrec.mono ?_
            rintro e w5 ⟨rfl, f5⟩
            have f5 := Lib.hid f5
            go_wp2
            go_ret
            refine ⟨ret_nat ?_, (HI.out.1.trans fx.out (fun _ _ h => h)).trans f5.out (fun _ _ h => h)⟩
            rw [eown.out, if_pos HO.out, HE.out]
            exact (firstE_stop (fun i => rightE known (of i) (lv - 1)) n j hlt HI.out.2 (by rw [← HE.out]; exact he)).symm
        · obtain rfl : j = n := by omega
          go_wp2
          go_ret
          refine ⟨ret_nat (a := 0) ?_, HI.out.1⟩
          rw [eown.out, if_pos HO.out]
          exact HI.out.2.symm
    · have he' : ¬ (E : Int) = 0 := by omega
      go_wp2_with fail
      refine hcn.mono ?_
      rintro e w3 ⟨rfl, f3⟩
      have f3 := Lib.hid f3
      go_wp2
      go_ret
      refine ⟨ret_nat ?_, ((f0.out.trans f1.out (fun _ _ h => h)).trans f2.out (fun _ _ h => h)).trans f3.out (fun _ _ h => h)⟩
      rw [eown.out, Hown.out, ← HE.out, if_neg he]
  · have hown : ownE known 9 ns = if standsN known ns < 0 then 10 else 0 := rfl
    have Hown := Lib.hid hown
    clear hown
    go_enter Tryz.func90, Tryz.ntmps90
    go_wp2_with fail
    refine hsz.mono ?_
    rintro e w1 ⟨rfl, f1⟩
    have q1 := box_kept Hq.out f1 (fun h => h)
    obtain ⟨d0, d1, d2, d3⟩ := cell_of_four q1
    have f1 := Lib.hid f1
    have q1 := Lib.hid q1
    go_wp2_with fail
    refine (formed_any 9 ns.length n m (by omega) a a' cap cap' w1).mono ?_
    rintro e w2 ⟨rfl, f2⟩
    rw [HF.out]
    have q2 := box_kept q1.out f2 (fun h => h)
    obtain ⟨b0, b1, b2, b3⟩ := cell_of_four q2
    have f2 := Lib.hid f2
    have q2 := Lib.hid q2
    clear c0 c1 c2 c3 d0 d1 d2 d3
    have hsf := stands_any R known (.mk 9 m ns n of) _ kv w2 (Shows.fr ((f0.out.trans f1.out (fun _ _ h => h)).trans f2.out (fun _ _ h => h)) (fun _ _ h => h) _ _ hsh0.out) (Hka.out.fr ((f0.out.trans f1.out (fun _ _ h => h)).trans f2.out (fun _ _ h => h)) (fun _ _ h => h))
    have hse : standsE known (.mk 9 m ns n of) = standsN known ns := rfl
    rw [hse] at hsf
    obtain ⟨E, hE⟩ : ∃ E, E = standsN known ns := ⟨_, rfl⟩
    rw [← hE] at hsf
    have HE := Lib.hid hE
    clear hE hse
    by_cases he : E < 0
    · go_wp2_with fail
      refine hsf.mono ?_
      rintro e w3 ⟨rfl, f3⟩
      have f3 := Lib.hid f3
      go_wp2
      go_ret
      refine ⟨ret_nat (a := 10) ?_, ((f0.out.trans f1.out (fun _ _ h => h)).trans f2.out (fun _ _ h => h)).trans f3.out (fun _ _ h => h)⟩
      rw [eown.out, Hown.out, ← HE.out, if_pos he]; rfl
    · have HO : Hid (ownE known 9 ns = 0) := Lib.hid (by rw [Hown.out, ← HE.out, if_neg he])
      go_wp2_with fail
      refine hsf.mono ?_
      rintro e w3 ⟨rfl, f3⟩
      have q3 := box_kept q2.out f3 (fun h => h)
      obtain ⟨a0, a1, a2, a3⟩ := cell_of_four q3
      have f3 := Lib.hid f3
      have q3 := Lib.hid q3
      clear b0 b1 b2 b3
      have g3 : Hid (Fr (fun _ => False) w w3) := Lib.hid (((f0.out.trans f1.out (fun _ _ h => h)).trans f2.out (fun _ _ h => h)).trans f3.out (fun _ _ h => h))
      go_wp2_with fail
      go_loopg [9, 10, 48] n (fun G u9 u10 u48 wr => ∃ j : Nat, j ≤ n ∧ G = n - j ∧ u48 = .int .i64 j ∧ Hid (Fr (fun _ => False) w wr ∧ firstE (fun i => rightE known (of i) (lv - 1)) j = 0))
      case atStart => exact ⟨0, Nat.zero_le _, rfl, by go_num, Lib.hid ⟨g3.out, rfl⟩⟩
      case round =>
        obtain ⟨j, hj, rfl, rfl, HI⟩ := hrel
        by_cases hlt : j < n
        · rcases Hso.out with hz | ⟨hcap, g, off, hg, rfl, hcell⟩
          · omega
          obtain ⟨x0, x1, x2, x3, y0, y1, y2, y3, hx⟩ := hcell j hlt
          have y0 := cell_fr (R := fun _ => True) HI.out.1 (fun _ _ h => h) trivial y0
          have y1 := cell_fr (R := fun _ => True) HI.out.1 (fun _ _ h => h) trivial y1
          have y2 := cell_fr (R := fun _ => True) HI.out.1 (fun _ _ h => h) trivial y2
          have y3 := cell_fr (R := fun _ => True) HI.out.1 (fun _ _ h => h) trivial y3
          obtain ⟨pk, pm, pa, pn, pc, pa', pn', pc', rfl, rfl, rfl, rfl⟩ := hx.cells
          clear hcell
          have fx : Hid (Fr (fun _ => False) wr (wr.alloc (.cells #[.int .u8 pk, .int .i64 pm, .slice pa pn pc, .slice pa' pn' pc'] 34))) := Lib.hid ((Fr.refl _ _).alloc _)
          have hrec := ih j R (.agg #[.int .u8 pk, .int .i64 pm, .slice pa pn pc, .slice pa' pn' pc']) kv (wr.alloc (.cells #[.int .u8 pk, .int .i64 pm, .slice pa pn pc, .slice pa' pn' pc'] 34)) (lv - 1) (lz - 1) (by have := Hlz.out; omega) (by omega) (Shows.fr (HI.out.1.trans fx.out (fun _ _ h => h)) (fun _ _ h => h) _ _ hx) (Hka.out.fr (HI.out.1.trans fx.out (fun _ _ h => h)) (fun _ _ h => h))
          clear hx
          obtain ⟨E, hE⟩ : ∃ E, E = rightE known (of j) (lv - 1) := ⟨_, rfl⟩
          rw [← hE] at hrec
          have HE := Lib.hid hE
          clear hE
          by_cases he : E = 0
          · subst he
            go_wp2_with fail
            refine hrec.mono ?_
            rintro e w5 ⟨rfl, f5⟩
            have f5 := Lib.hid f5
            go_wp2
            go_roundg (n - (j + 1))
            case measure => omega
            case rel => exact ⟨j + 1, by omega, rfl, by go_num, Lib.hid ⟨(HI.out.1.trans fx.out (fun _ _ h => h)).trans f5.out (fun _ _ h => h), firstE_step _ _ HI.out.2 HE.out.symm⟩⟩
          · have he' : ¬ (E : Int) = 0 := by omega
            go_wp2_with fail
            refine hrec.mono ?_
            rintro e w5 ⟨rfl, f5⟩
            have f5 := Lib.hid f5
            go_wp2
            go_ret
            refine ⟨ret_nat ?_, (HI.out.1.trans fx.out (fun _ _ h => h)).trans f5.out (fun _ _ h => h)⟩
            rw [eown.out, if_pos HO.out, HE.out]
            exact (firstE_stop (fun i => rightE known (of i) (lv - 1)) n j hlt HI.out.2 (by rw [← HE.out]; exact he)).symm
        · obtain rfl : j = n := by omega
          go_wp2
          go_ret
          refine ⟨ret_nat (a := 0) ?_, HI.out.1⟩
          rw [eown.out, if_pos HO.out]
          exact HI.out.2.symm
end
end Go.Proofs.YtplipjijaaejlaaGreat
