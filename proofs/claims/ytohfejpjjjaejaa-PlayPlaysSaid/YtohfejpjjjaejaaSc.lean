/-
  PlayPlays, part 3 of what it rests on: KindWell, KindCopy, KindWhole, KindWhole2, KindCheck, KindLite, KindRow, Float, FloatOps.
-/
import Derived.Test.YtohfejpjjjaejaaSb
import Derived.Lib.Bytealg
import Derived.Lib.BufferWrite
import Derived.Lib.UnsafeStr
import Derived.Laws.MakeOwn
import Derived.Lib.SliceRun
import Derived.Deep.OwnRows
import Derived.Laws.ResultCell
import Derived.IntWalk
import Derived.Deep.Cut
import Derived.Deep.CutRange
import Derived.BigRegion
import Derived.Laws.FloatArith
set_option linter.unusedVariables false
set_option linter.unusedSimpArgs false
set_option maxHeartbeats 32000000
namespace Go.Proofs.Ytohfejpjjjaejaa
open Go.RowKit
open Go.Lib (hid)
section
theorem alloc_four (w : World) (x0 x1 x2 x3 : Value) (t : TypeId) : (w.alloc (.cells #[x0, x1, x2, x3] t)).heap[w.heap.size]? = some (.cells #[x0, x1, x2, x3] t (0, 0)) := heap_alloc_new w _

theorem box_kept {S : Nat -> Prop} {w0 w1 : World} {b : Nat} {o : Obj} (h : w0.heap[b]? = some o) (f : Fr S w0 w1) (hb : ¬ S b) : w1.heap[b]? = some o := by
 rw [f.block b (lt_of_block h) hb]; exact h

theorem rightE_kind (known : List (Txt × KT)) (k : Nat) (m : Int) (ns : List Txt) (n : Nat) (of : Nat -> KT) (lv : Nat) (h : 10 <= k \/ lv = 0) : rightE known (.mk k m ns n of) lv = 5 := by
 unfold rightE; rw [if_pos h]

theorem rightE_size (known : List (Txt × KT)) (k : Nat) (m : Int) (ns : List Txt) (n : Nat) (of : Nat -> KT) (lv : Nat) (h : ¬ (10 <= k \/ lv = 0)) (h1 : sizedB k m = false) : rightE known (.mk k m ns n of) lv = 2 := by
 unfold rightE; rw [if_neg h, h1]; rfl

theorem rightE_form (known : List (Txt × KT)) (k : Nat) (m : Int) (ns : List Txt) (n : Nat) (of : Nat -> KT) (lv : Nat) (h : ¬ (10 <= k \/ lv = 0)) (h1 : sizedB k m = true) (h2 : formedB k ns.length n = false) : rightE known (.mk k m ns n of) lv = 4 := by
 unfold rightE; rw [if_neg h, h1, h2]; rfl

def ownE (known : List (Txt × KT)) (k : Nat) (ns : List Txt) : Nat := if k = 6 \/ k = 7 \/ k = 8 then checkNamesE ns else if k = 9 then (if standsN known ns < 0 then 10 else 0) else 0

theorem rightE_own (known : List (Txt × KT)) (k : Nat) (m : Int) (ns : List Txt) (n : Nat) (of : Nat -> KT) (lv : Nat) (h : ¬ (10 <= k \/ lv = 0)) (h1 : sizedB k m = true) (h2 : formedB k ns.length n = true) : rightE known (.mk k m ns n of) lv = if ownE known k ns = 0 then firstE (fun i => rightE known (of i) (lv - 1)) n else ownE known k ns := by
 rw [rightE, if_neg h, h1, h2]; rfl

set_option maxRecDepth 100000 in
theorem right_any (known : List (Txt × KT)) (t : KT) : ∀ (R : Nat -> Prop) (v kv : Value) (w : World) (lv : Nat) (lz : Int), lz = lv -> lv <= 100 -> Shows R w t v -> Aliases R w known kv ->
  Calls Try.prog 80 #[v, kv, .int .i64 lz] w fun e w' => e = .returned (.int .i64 (rightE known t lv)) /\ Fr (fun _ => False) w w' := by
 induction t with
 | nil => exact fun _ _ _ _ _ _ _ _ h => h.elim
 | mk k m ns n of ih =>
 intro R v kv w lv lz hlz hlv hsh hka
 have hsh0 := hid hsh
 obtain ⟨vn, vo, rfl, hk255, hn, ht, ho⟩ := hsh
 have hl0 : ns.length <= 1000 := ht.1
 have Ht := hid ht
 obtain ⟨a, cap, rfl, hs⟩ := ht.shape
 obtain ⟨a', cap', rfl, hso⟩ : ∃ a' cap', vo = .slice a' n cap' /\ (n = 0 \/ n <= cap' /\ ∃ g off, R g /\ a' = some ⟨g, off, none⟩ /\ ∀ i, i < n -> ∃ x0 x1 x2 x3,
   w.cell? ⟨g, off + i * 4, none⟩ = some x0 /\ w.cell? ⟨g, off + i * 4 + 1, none⟩ = some x1 /\ w.cell? ⟨g, off + i * 4 + 2, none⟩ = some x2 /\ w.cell? ⟨g, off + i * 4 + 3, none⟩ = some x3 /\
   Shows R w (of i) (.agg #[x0, x1, x2, x3])) := by
  rcases ho with ⟨rfl, a', c', rfl⟩ | ⟨g, off, cap', hg, rfl, hle, hc⟩
  ·exact ⟨a', c', rfl, .inl rfl⟩
  ·exact ⟨_, cap', rfl, .inr ⟨hle, g, off, hg, rfl, hc⟩⟩
 have Hso := hid hso
 have Hka := hid hka
 clear ho hs ht hso hka
 by_cases h10 : 10 <= k
 ·have h10' : (10 : Int) <= (k : Int) := by omega
  have e1 := hid (rightE_kind known k m ns n of lv (.inl h10))
  have hlz := hid hlz
  go_enter Try.func80, Try.ntmps80
  go_wp2
  go_ret
  exact ⟨by rw [e1.out]; rfl, (Fr.refl _ _).alloc _⟩
 have h10' : ¬ (10 : Int) <= (k : Int) := by omega
 have hk10 : k < 10 := by omega
 by_cases hl : lv = 0
 ·have e1 := hid (rightE_kind known k m ns n of lv (.inr hl))
  obtain rfl : lz = 0 := by omega
  clear hlz hl
  go_enter Try.func80, Try.ntmps80
  go_wp2
  go_ret
  exact ⟨by rw [e1.out]; rfl, (Fr.refl _ _).alloc _⟩
 have hl' : (lz == 0) = false := by simp; omega
 have hz0 : 1 <= lz := by omega
 have hz1 : lz <= 100 := by omega
 have hdom : ¬ (10 <= k \/ lv = 0) := by omega
 have Hdom := hid hdom
 have Hlz := hid hlz
 clear hlz hl hdom
 have hq := alloc_four w (.int .u8 k) (.int .i64 m) (.slice a ns.length cap) (.slice a' n cap') 36
 obtain ⟨c0, c1, c2, c3⟩ := cell_of_four hq
 have Hq := hid hq
 have hsz := sized_any k m hk10 (.slice a ns.length cap) (.slice a' n cap') (w.alloc (.cells #[.int .u8 k, .int .i64 m, .slice a ns.length cap, .slice a' n cap'] 36))
 clear hq
 have f0 : Hid (Fr (fun _ => False) w (w.alloc (.cells #[.int .u8 k, .int .i64 m, .slice a ns.length cap, .slice a' n cap'] 36))) := hid ((Fr.refl _ _).alloc _)
 by_cases hB : sizedB k m = true
 case neg =>
  have hB' : sizedB k m = false := eq_false_of_ne_true hB
  have e1 := hid (rightE_size known k m ns n of lv Hdom.out hB')
  rw [hB'] at hsz
  clear hB hB'
  go_enter Try.func80, Try.ntmps80
  go_wp2_with fail
  refine hsz.mono ?_
  rintro e w1 ⟨rfl, f1⟩
  have f1 := hid f1
  go_wp2
  go_ret
  exact ⟨by rw [e1.out]; rfl, f0.out.trans f1.out fid2⟩
 rw [hB] at hsz
 have HB := hid hB
 clear hB
 by_cases hF : formedB k ns.length n = true
 case neg =>
  have hF' : formedB k ns.length n = false := eq_false_of_ne_true hF
  have e1 := hid (rightE_form known k m ns n of lv Hdom.out HB.out hF')
  have HF := hid hF'
  clear hF hF'
  go_enter Try.func80, Try.ntmps80
  go_wp2_with fail
  refine hsz.mono ?_
  rintro e w1 ⟨rfl, f1⟩
  have q1 := box_kept Hq.out f1 (fun h => h)
  obtain ⟨d0, d1, d2, d3⟩ := cell_of_four q1
  have f1 := hid f1
  have q1 := hid q1
  go_wp2_with fail
  refine (formed_any k ns.length n m hk10 a a' cap cap' w1).mono ?_
  rintro e w2 ⟨rfl, f2⟩
  rw [HF.out]
  have f2 := hid f2
  go_wp2
  go_ret
  exact ⟨by rw [e1.out]; rfl, (f0.out.trans f1.out fid2).trans f2.out fid2⟩
 have eown := hid (rightE_own known k m ns n of lv Hdom.out HB.out hF)
 have HF := hid hF
 clear hF
 have hcases : k < 6 \/ k = 6 \/ k = 7 \/ k = 8 \/ k = 9 := by omega
 rcases hcases with hk6 | rfl | rfl | rfl | rfl
 ·have i6 : ((k : Int) == 6) = false := by simp; omega
  have i7 : ((k : Int) == 7) = false := by simp; omega
  have i8 : ((k : Int) == 8) = false := by simp; omega
  have i9 : ((k : Int) == 9) = false := by simp; omega
  have HO : Hid (ownE known k ns = 0) := hid (by unfold ownE; rw [if_neg (by omega), if_neg (by omega)])
  go_enter Try.func80, Try.ntmps80
  go_wp2_with fail
  refine hsz.mono ?_
  rintro e w1 ⟨rfl, f1⟩
  have q1 := box_kept Hq.out f1 (fun h => h)
  obtain ⟨d0, d1, d2, d3⟩ := cell_of_four q1
  have f1 := hid f1
  have q1 := hid q1
  go_wp2_with fail
  refine (formed_any k ns.length n m (by omega) a a' cap cap' w1).mono ?_
  rintro e w2 ⟨rfl, f2⟩
  rw [HF.out]
  have q2 := box_kept q1.out f2 (fun h => h)
  obtain ⟨b0, b1, b2, b3⟩ := cell_of_four q2
  have f2 := hid f2
  have q2 := hid q2
  clear c0 c1 c2 c3 d0 d1 d2 d3
  have g3 : Hid (Fr (fun _ => False) w w2) := hid ((f0.out.trans f1.out fid2).trans f2.out fid2)
  go_wp2_with fail
  go_loopg [9, 10, 48] n (fun G u9 u10 u48 wr => ∃ j : Nat, j <= n /\ G = n - j /\ u48 = .int .i64 j /\ Hid (Fr (fun _ => False) w wr /\ firstE (fun i => rightE known (of i) (lv - 1)) j = 0))
  case atStart => exact ⟨0, Nat.zero_le _, rfl, by go_num, hid ⟨g3.out, rfl⟩⟩
  case round =>
   obtain ⟨j, hj, rfl, rfl, HI⟩ := hrel
   by_cases hlt : j < n
   ·rcases Hso.out with hz | ⟨hcap, g, off, hg, rfl, hcell⟩
    ·omega
    obtain ⟨x0, x1, x2, x3, y0, y1, y2, y3, hx⟩ := hcell j hlt
    have y0 := cell_fr (R := fun _ => True) HI.out.1 fid2 trivial y0
    have y1 := cell_fr (R := fun _ => True) HI.out.1 fid2 trivial y1
    have y2 := cell_fr (R := fun _ => True) HI.out.1 fid2 trivial y2
    have y3 := cell_fr (R := fun _ => True) HI.out.1 fid2 trivial y3
    obtain ⟨pk, pm, pa, pn, pc, pa', pn', pc', rfl, rfl, rfl, rfl⟩ := hx.cells
    clear hcell
    have fx : Hid (Fr (fun _ => False) wr (wr.alloc (.cells #[.int .u8 pk, .int .i64 pm, .slice pa pn pc, .slice pa' pn' pc'] 36))) := hid ((Fr.refl _ _).alloc _)
    have hrec := ih j R (.agg #[.int .u8 pk, .int .i64 pm, .slice pa pn pc, .slice pa' pn' pc']) kv (wr.alloc (.cells #[.int .u8 pk, .int .i64 pm, .slice pa pn pc, .slice pa' pn' pc'] 36)) (lv - 1) (lz - 1) (by have := Hlz.out; omega) (by omega) (Shows.fr (HI.out.1.trans fx.out fid2) fid2 _ _ hx) (Hka.out.fr (HI.out.1.trans fx.out fid2) fid2)
    clear hx
    obtain ⟨E, hE⟩ : ∃ E, E = rightE known (of j) (lv - 1) := ⟨_, rfl⟩
    rw [<- hE] at hrec
    have HE := hid hE
    clear hE
    by_cases he : E = 0
    ·subst he
     go_wp2_with fail
     refine hrec.mono ?_
     rintro e w5 ⟨rfl, f5⟩
     have f5 := hid f5
     go_wp2
     go_roundg (n - (j + 1))
     case measure => omega
     case rel => exact ⟨j + 1, by omega, rfl, by go_num, hid ⟨(HI.out.1.trans fx.out fid2).trans f5.out fid2, firstE_step _ _ HI.out.2 HE.out.symm⟩⟩
    ·have he' : ¬ (E : Int) = 0 := by omega
     go_wp2_with fail
     refine hrec.mono ?_
     rintro e w5 ⟨rfl, f5⟩
     have f5 := hid f5
     go_wp2
     go_ret
     refine ⟨ret_nat ?_, (HI.out.1.trans fx.out fid2).trans f5.out fid2⟩
     rw [eown.out, if_pos HO.out, HE.out]
     exact (firstE_stop (fun i => rightE known (of i) (lv - 1)) n j hlt HI.out.2 (by rw [<- HE.out]; exact he)).symm
   ·obtain rfl : j = n := by omega
    go_wp2
    go_ret
    refine ⟨ret_nat (a := 0) ?_, HI.out.1⟩
    rw [eown.out, if_pos HO.out]
    exact HI.out.2.symm
 ·have hown : ownE known 6 ns = checkNamesE ns := by unfold ownE; rw [if_pos (by omega)]
  have Hown := hid hown
  clear hown
  go_enter Try.func80, Try.ntmps80
  go_wp2_with fail
  refine hsz.mono ?_
  rintro e w1 ⟨rfl, f1⟩
  have q1 := box_kept Hq.out f1 (fun h => h)
  obtain ⟨d0, d1, d2, d3⟩ := cell_of_four q1
  have f1 := hid f1
  have q1 := hid q1
  go_wp2_with fail
  refine (formed_any 6 ns.length n m (by omega) a a' cap cap' w1).mono ?_
  rintro e w2 ⟨rfl, f2⟩
  rw [HF.out]
  have q2 := box_kept q1.out f2 (fun h => h)
  obtain ⟨b0, b1, b2, b3⟩ := cell_of_four q2
  have f2 := hid f2
  have q2 := hid q2
  clear c0 c1 c2 c3 d0 d1 d2 d3
  have hcn := checkNames_any R ns _ w2 (Ht.out.fr ((f0.out.trans f1.out fid2).trans f2.out fid2) fid2)
  obtain ⟨E, hE⟩ : ∃ E, E = checkNamesE ns := ⟨_, rfl⟩
  rw [<- hE] at hcn
  have HE := hid hE
  clear hE
  by_cases he : E = 0
  ·subst he
   have HO : Hid (ownE known 6 ns = 0) := hid (Hown.out.trans HE.out.symm)
   go_wp2_with fail
   refine hcn.mono ?_
   rintro e w3 ⟨rfl, f3⟩
   have q3 := box_kept q2.out f3 (fun h => h)
   obtain ⟨a0, a1, a2, a3⟩ := cell_of_four q3
   have f3 := hid f3
   have q3 := hid q3
   clear b0 b1 b2 b3
   have g3 : Hid (Fr (fun _ => False) w w3) := hid (((f0.out.trans f1.out fid2).trans f2.out fid2).trans f3.out fid2)
   go_wp2_with fail
   go_loopg [9, 10, 48] n (fun G u9 u10 u48 wr => ∃ j : Nat, j <= n /\ G = n - j /\ u48 = .int .i64 j /\ Hid (Fr (fun _ => False) w wr /\ firstE (fun i => rightE known (of i) (lv - 1)) j = 0))
   case atStart => exact ⟨0, Nat.zero_le _, rfl, by go_num, hid ⟨g3.out, rfl⟩⟩
   case round =>
    obtain ⟨j, hj, rfl, rfl, HI⟩ := hrel
    by_cases hlt : j < n
    ·rcases Hso.out with hz | ⟨hcap, g, off, hg, rfl, hcell⟩
     ·omega
     obtain ⟨x0, x1, x2, x3, y0, y1, y2, y3, hx⟩ := hcell j hlt
     have y0 := cell_fr (R := fun _ => True) HI.out.1 fid2 trivial y0
     have y1 := cell_fr (R := fun _ => True) HI.out.1 fid2 trivial y1
     have y2 := cell_fr (R := fun _ => True) HI.out.1 fid2 trivial y2
     have y3 := cell_fr (R := fun _ => True) HI.out.1 fid2 trivial y3
     obtain ⟨pk, pm, pa, pn, pc, pa', pn', pc', rfl, rfl, rfl, rfl⟩ := hx.cells
     clear hcell
     have fx : Hid (Fr (fun _ => False) wr (wr.alloc (.cells #[.int .u8 pk, .int .i64 pm, .slice pa pn pc, .slice pa' pn' pc'] 36))) := hid ((Fr.refl _ _).alloc _)
     have hrec := ih j R (.agg #[.int .u8 pk, .int .i64 pm, .slice pa pn pc, .slice pa' pn' pc']) kv (wr.alloc (.cells #[.int .u8 pk, .int .i64 pm, .slice pa pn pc, .slice pa' pn' pc'] 36)) (lv - 1) (lz - 1) (by have := Hlz.out; omega) (by omega) (Shows.fr (HI.out.1.trans fx.out fid2) fid2 _ _ hx) (Hka.out.fr (HI.out.1.trans fx.out fid2) fid2)
     clear hx
     obtain ⟨E, hE⟩ : ∃ E, E = rightE known (of j) (lv - 1) := ⟨_, rfl⟩
     rw [<- hE] at hrec
     have HE := hid hE
     clear hE
     by_cases he : E = 0
     ·subst he
      go_wp2_with fail
      refine hrec.mono ?_
      rintro e w5 ⟨rfl, f5⟩
      have f5 := hid f5
      go_wp2
      go_roundg (n - (j + 1))
      case measure => omega
      case rel => exact ⟨j + 1, by omega, rfl, by go_num, hid ⟨(HI.out.1.trans fx.out fid2).trans f5.out fid2, firstE_step _ _ HI.out.2 HE.out.symm⟩⟩
     ·have he' : ¬ (E : Int) = 0 := by omega
      go_wp2_with fail
      refine hrec.mono ?_
      rintro e w5 ⟨rfl, f5⟩
      have f5 := hid f5
      go_wp2
      go_ret
      refine ⟨ret_nat ?_, (HI.out.1.trans fx.out fid2).trans f5.out fid2⟩
      rw [eown.out, if_pos HO.out, HE.out]
      exact (firstE_stop (fun i => rightE known (of i) (lv - 1)) n j hlt HI.out.2 (by rw [<- HE.out]; exact he)).symm
    ·obtain rfl : j = n := by omega
     go_wp2
     go_ret
     refine ⟨ret_nat (a := 0) ?_, HI.out.1⟩
     rw [eown.out, if_pos HO.out]
     exact HI.out.2.symm
  ·have he' : ¬ (E : Int) = 0 := by omega
   go_wp2_with fail
   refine hcn.mono ?_
   rintro e w3 ⟨rfl, f3⟩
   have f3 := hid f3
   go_wp2
   go_ret
   refine ⟨ret_nat ?_, ((f0.out.trans f1.out fid2).trans f2.out fid2).trans f3.out fid2⟩
   rw [eown.out, Hown.out, <- HE.out, if_neg he]
 ·have hown : ownE known 7 ns = checkNamesE ns := by unfold ownE; rw [if_pos (by omega)]
  have Hown := hid hown
  clear hown
  go_enter Try.func80, Try.ntmps80
  go_wp2_with fail
  refine hsz.mono ?_
  rintro e w1 ⟨rfl, f1⟩
  have q1 := box_kept Hq.out f1 (fun h => h)
  obtain ⟨d0, d1, d2, d3⟩ := cell_of_four q1
  have f1 := hid f1
  have q1 := hid q1
  go_wp2_with fail
  refine (formed_any 7 ns.length n m (by omega) a a' cap cap' w1).mono ?_
  rintro e w2 ⟨rfl, f2⟩
  rw [HF.out]
  have q2 := box_kept q1.out f2 (fun h => h)
  obtain ⟨b0, b1, b2, b3⟩ := cell_of_four q2
  have f2 := hid f2
  have q2 := hid q2
  clear c0 c1 c2 c3 d0 d1 d2 d3
  have hcn := checkNames_any R ns _ w2 (Ht.out.fr ((f0.out.trans f1.out fid2).trans f2.out fid2) fid2)
  obtain ⟨E, hE⟩ : ∃ E, E = checkNamesE ns := ⟨_, rfl⟩
  rw [<- hE] at hcn
  have HE := hid hE
  clear hE
  by_cases he : E = 0
  ·subst he
   have HO : Hid (ownE known 7 ns = 0) := hid (Hown.out.trans HE.out.symm)
   go_wp2_with fail
   refine hcn.mono ?_
   rintro e w3 ⟨rfl, f3⟩
   have q3 := box_kept q2.out f3 (fun h => h)
   obtain ⟨a0, a1, a2, a3⟩ := cell_of_four q3
   have f3 := hid f3
   have q3 := hid q3
   clear b0 b1 b2 b3
   have g3 : Hid (Fr (fun _ => False) w w3) := hid (((f0.out.trans f1.out fid2).trans f2.out fid2).trans f3.out fid2)
   go_wp2_with fail
   go_loopg [9, 10, 48] n (fun G u9 u10 u48 wr => ∃ j : Nat, j <= n /\ G = n - j /\ u48 = .int .i64 j /\ Hid (Fr (fun _ => False) w wr /\ firstE (fun i => rightE known (of i) (lv - 1)) j = 0))
   case atStart => exact ⟨0, Nat.zero_le _, rfl, by go_num, hid ⟨g3.out, rfl⟩⟩
   case round =>
    obtain ⟨j, hj, rfl, rfl, HI⟩ := hrel
    by_cases hlt : j < n
    ·rcases Hso.out with hz | ⟨hcap, g, off, hg, rfl, hcell⟩
     ·omega
     obtain ⟨x0, x1, x2, x3, y0, y1, y2, y3, hx⟩ := hcell j hlt
     have y0 := cell_fr (R := fun _ => True) HI.out.1 fid2 trivial y0
     have y1 := cell_fr (R := fun _ => True) HI.out.1 fid2 trivial y1
     have y2 := cell_fr (R := fun _ => True) HI.out.1 fid2 trivial y2
     have y3 := cell_fr (R := fun _ => True) HI.out.1 fid2 trivial y3
     obtain ⟨pk, pm, pa, pn, pc, pa', pn', pc', rfl, rfl, rfl, rfl⟩ := hx.cells
     clear hcell
     have fx : Hid (Fr (fun _ => False) wr (wr.alloc (.cells #[.int .u8 pk, .int .i64 pm, .slice pa pn pc, .slice pa' pn' pc'] 36))) := hid ((Fr.refl _ _).alloc _)
     have hrec := ih j R (.agg #[.int .u8 pk, .int .i64 pm, .slice pa pn pc, .slice pa' pn' pc']) kv (wr.alloc (.cells #[.int .u8 pk, .int .i64 pm, .slice pa pn pc, .slice pa' pn' pc'] 36)) (lv - 1) (lz - 1) (by have := Hlz.out; omega) (by omega) (Shows.fr (HI.out.1.trans fx.out fid2) fid2 _ _ hx) (Hka.out.fr (HI.out.1.trans fx.out fid2) fid2)
     clear hx
     obtain ⟨E, hE⟩ : ∃ E, E = rightE known (of j) (lv - 1) := ⟨_, rfl⟩
     rw [<- hE] at hrec
     have HE := hid hE
     clear hE
     by_cases he : E = 0
     ·subst he
      go_wp2_with fail
      refine hrec.mono ?_
      rintro e w5 ⟨rfl, f5⟩
      have f5 := hid f5
      go_wp2
      go_roundg (n - (j + 1))
      case measure => omega
      case rel => exact ⟨j + 1, by omega, rfl, by go_num, hid ⟨(HI.out.1.trans fx.out fid2).trans f5.out fid2, firstE_step _ _ HI.out.2 HE.out.symm⟩⟩
     ·have he' : ¬ (E : Int) = 0 := by omega
      go_wp2_with fail
      refine hrec.mono ?_
      rintro e w5 ⟨rfl, f5⟩
      have f5 := hid f5
      go_wp2
      go_ret
      refine ⟨ret_nat ?_, (HI.out.1.trans fx.out fid2).trans f5.out fid2⟩
      rw [eown.out, if_pos HO.out, HE.out]
      exact (firstE_stop (fun i => rightE known (of i) (lv - 1)) n j hlt HI.out.2 (by rw [<- HE.out]; exact he)).symm
    ·obtain rfl : j = n := by omega
     go_wp2
     go_ret
     refine ⟨ret_nat (a := 0) ?_, HI.out.1⟩
     rw [eown.out, if_pos HO.out]
     exact HI.out.2.symm
  ·have he' : ¬ (E : Int) = 0 := by omega
   go_wp2_with fail
   refine hcn.mono ?_
   rintro e w3 ⟨rfl, f3⟩
   have f3 := hid f3
   go_wp2
   go_ret
   refine ⟨ret_nat ?_, ((f0.out.trans f1.out fid2).trans f2.out fid2).trans f3.out fid2⟩
   rw [eown.out, Hown.out, <- HE.out, if_neg he]
 ·have hown : ownE known 8 ns = checkNamesE ns := by unfold ownE; rw [if_pos (by omega)]
  have Hown := hid hown
  clear hown
  go_enter Try.func80, Try.ntmps80
  go_wp2_with fail
  refine hsz.mono ?_
  rintro e w1 ⟨rfl, f1⟩
  have q1 := box_kept Hq.out f1 (fun h => h)
  obtain ⟨d0, d1, d2, d3⟩ := cell_of_four q1
  have f1 := hid f1
  have q1 := hid q1
  go_wp2_with fail
  refine (formed_any 8 ns.length n m (by omega) a a' cap cap' w1).mono ?_
  rintro e w2 ⟨rfl, f2⟩
  rw [HF.out]
  have q2 := box_kept q1.out f2 (fun h => h)
  obtain ⟨b0, b1, b2, b3⟩ := cell_of_four q2
  have f2 := hid f2
  have q2 := hid q2
  clear c0 c1 c2 c3 d0 d1 d2 d3
  have hcn := checkNames_any R ns _ w2 (Ht.out.fr ((f0.out.trans f1.out fid2).trans f2.out fid2) fid2)
  obtain ⟨E, hE⟩ : ∃ E, E = checkNamesE ns := ⟨_, rfl⟩
  rw [<- hE] at hcn
  have HE := hid hE
  clear hE
  by_cases he : E = 0
  ·subst he
   have HO : Hid (ownE known 8 ns = 0) := hid (Hown.out.trans HE.out.symm)
   go_wp2_with fail
   refine hcn.mono ?_
   rintro e w3 ⟨rfl, f3⟩
   have q3 := box_kept q2.out f3 (fun h => h)
   obtain ⟨a0, a1, a2, a3⟩ := cell_of_four q3
   have f3 := hid f3
   have q3 := hid q3
   clear b0 b1 b2 b3
   have g3 : Hid (Fr (fun _ => False) w w3) := hid (((f0.out.trans f1.out fid2).trans f2.out fid2).trans f3.out fid2)
   go_wp2_with fail
   go_loopg [9, 10, 48] n (fun G u9 u10 u48 wr => ∃ j : Nat, j <= n /\ G = n - j /\ u48 = .int .i64 j /\ Hid (Fr (fun _ => False) w wr /\ firstE (fun i => rightE known (of i) (lv - 1)) j = 0))
   case atStart => exact ⟨0, Nat.zero_le _, rfl, by go_num, hid ⟨g3.out, rfl⟩⟩
   case round =>
    obtain ⟨j, hj, rfl, rfl, HI⟩ := hrel
    by_cases hlt : j < n
    ·rcases Hso.out with hz | ⟨hcap, g, off, hg, rfl, hcell⟩
     ·omega
     obtain ⟨x0, x1, x2, x3, y0, y1, y2, y3, hx⟩ := hcell j hlt
     have y0 := cell_fr (R := fun _ => True) HI.out.1 fid2 trivial y0
     have y1 := cell_fr (R := fun _ => True) HI.out.1 fid2 trivial y1
     have y2 := cell_fr (R := fun _ => True) HI.out.1 fid2 trivial y2
     have y3 := cell_fr (R := fun _ => True) HI.out.1 fid2 trivial y3
     obtain ⟨pk, pm, pa, pn, pc, pa', pn', pc', rfl, rfl, rfl, rfl⟩ := hx.cells
     clear hcell
     have fx : Hid (Fr (fun _ => False) wr (wr.alloc (.cells #[.int .u8 pk, .int .i64 pm, .slice pa pn pc, .slice pa' pn' pc'] 36))) := hid ((Fr.refl _ _).alloc _)
     have hrec := ih j R (.agg #[.int .u8 pk, .int .i64 pm, .slice pa pn pc, .slice pa' pn' pc']) kv (wr.alloc (.cells #[.int .u8 pk, .int .i64 pm, .slice pa pn pc, .slice pa' pn' pc'] 36)) (lv - 1) (lz - 1) (by have := Hlz.out; omega) (by omega) (Shows.fr (HI.out.1.trans fx.out fid2) fid2 _ _ hx) (Hka.out.fr (HI.out.1.trans fx.out fid2) fid2)
     clear hx
     obtain ⟨E, hE⟩ : ∃ E, E = rightE known (of j) (lv - 1) := ⟨_, rfl⟩
     rw [<- hE] at hrec
     have HE := hid hE
     clear hE
     by_cases he : E = 0
     ·subst he
      go_wp2_with fail
      refine hrec.mono ?_
      rintro e w5 ⟨rfl, f5⟩
      have f5 := hid f5
      go_wp2
      go_roundg (n - (j + 1))
      case measure => omega
      case rel => exact ⟨j + 1, by omega, rfl, by go_num, hid ⟨(HI.out.1.trans fx.out fid2).trans f5.out fid2, firstE_step _ _ HI.out.2 HE.out.symm⟩⟩
     ·have he' : ¬ (E : Int) = 0 := by omega
      go_wp2_with fail
      refine hrec.mono ?_
      rintro e w5 ⟨rfl, f5⟩
      have f5 := hid f5
      go_wp2
      go_ret
      refine ⟨ret_nat ?_, (HI.out.1.trans fx.out fid2).trans f5.out fid2⟩
      rw [eown.out, if_pos HO.out, HE.out]
      exact (firstE_stop (fun i => rightE known (of i) (lv - 1)) n j hlt HI.out.2 (by rw [<- HE.out]; exact he)).symm
    ·obtain rfl : j = n := by omega
     go_wp2
     go_ret
     refine ⟨ret_nat (a := 0) ?_, HI.out.1⟩
     rw [eown.out, if_pos HO.out]
     exact HI.out.2.symm
  ·have he' : ¬ (E : Int) = 0 := by omega
   go_wp2_with fail
   refine hcn.mono ?_
   rintro e w3 ⟨rfl, f3⟩
   have f3 := hid f3
   go_wp2
   go_ret
   refine ⟨ret_nat ?_, ((f0.out.trans f1.out fid2).trans f2.out fid2).trans f3.out fid2⟩
   rw [eown.out, Hown.out, <- HE.out, if_neg he]
 ·have hown : ownE known 9 ns = if standsN known ns < 0 then 10 else 0 := rfl
  have Hown := hid hown
  clear hown
  go_enter Try.func80, Try.ntmps80
  go_wp2_with fail
  refine hsz.mono ?_
  rintro e w1 ⟨rfl, f1⟩
  have q1 := box_kept Hq.out f1 (fun h => h)
  obtain ⟨d0, d1, d2, d3⟩ := cell_of_four q1
  have f1 := hid f1
  have q1 := hid q1
  go_wp2_with fail
  refine (formed_any 9 ns.length n m (by omega) a a' cap cap' w1).mono ?_
  rintro e w2 ⟨rfl, f2⟩
  rw [HF.out]
  have q2 := box_kept q1.out f2 (fun h => h)
  obtain ⟨b0, b1, b2, b3⟩ := cell_of_four q2
  have f2 := hid f2
  have q2 := hid q2
  clear c0 c1 c2 c3 d0 d1 d2 d3
  have hsf := stands_any R known (.mk 9 m ns n of) _ kv w2 (Shows.fr ((f0.out.trans f1.out fid2).trans f2.out fid2) fid2 _ _ hsh0.out) (Hka.out.fr ((f0.out.trans f1.out fid2).trans f2.out fid2) fid2)
  have hse : standsE known (.mk 9 m ns n of) = standsN known ns := rfl
  rw [hse] at hsf
  obtain ⟨E, hE⟩ : ∃ E, E = standsN known ns := ⟨_, rfl⟩
  rw [<- hE] at hsf
  have HE := hid hE
  clear hE hse
  by_cases he : E < 0
  ·go_wp2_with fail
   refine hsf.mono ?_
   rintro e w3 ⟨rfl, f3⟩
   have f3 := hid f3
   go_wp2
   go_ret
   refine ⟨ret_nat (a := 10) ?_, ((f0.out.trans f1.out fid2).trans f2.out fid2).trans f3.out fid2⟩
   rw [eown.out, Hown.out, <- HE.out, if_pos he]; rfl
  ·have HO : Hid (ownE known 9 ns = 0) := hid (by rw [Hown.out, <- HE.out, if_neg he])
   go_wp2_with fail
   refine hsf.mono ?_
   rintro e w3 ⟨rfl, f3⟩
   have q3 := box_kept q2.out f3 (fun h => h)
   obtain ⟨a0, a1, a2, a3⟩ := cell_of_four q3
   have f3 := hid f3
   have q3 := hid q3
   clear b0 b1 b2 b3
   have g3 : Hid (Fr (fun _ => False) w w3) := hid (((f0.out.trans f1.out fid2).trans f2.out fid2).trans f3.out fid2)
   go_wp2_with fail
   go_loopg [9, 10, 48] n (fun G u9 u10 u48 wr => ∃ j : Nat, j <= n /\ G = n - j /\ u48 = .int .i64 j /\ Hid (Fr (fun _ => False) w wr /\ firstE (fun i => rightE known (of i) (lv - 1)) j = 0))
   case atStart => exact ⟨0, Nat.zero_le _, rfl, by go_num, hid ⟨g3.out, rfl⟩⟩
   case round =>
    obtain ⟨j, hj, rfl, rfl, HI⟩ := hrel
    by_cases hlt : j < n
    ·rcases Hso.out with hz | ⟨hcap, g, off, hg, rfl, hcell⟩
     ·omega
     obtain ⟨x0, x1, x2, x3, y0, y1, y2, y3, hx⟩ := hcell j hlt
     have y0 := cell_fr (R := fun _ => True) HI.out.1 fid2 trivial y0
     have y1 := cell_fr (R := fun _ => True) HI.out.1 fid2 trivial y1
     have y2 := cell_fr (R := fun _ => True) HI.out.1 fid2 trivial y2
     have y3 := cell_fr (R := fun _ => True) HI.out.1 fid2 trivial y3
     obtain ⟨pk, pm, pa, pn, pc, pa', pn', pc', rfl, rfl, rfl, rfl⟩ := hx.cells
     clear hcell
     have fx : Hid (Fr (fun _ => False) wr (wr.alloc (.cells #[.int .u8 pk, .int .i64 pm, .slice pa pn pc, .slice pa' pn' pc'] 36))) := hid ((Fr.refl _ _).alloc _)
     have hrec := ih j R (.agg #[.int .u8 pk, .int .i64 pm, .slice pa pn pc, .slice pa' pn' pc']) kv (wr.alloc (.cells #[.int .u8 pk, .int .i64 pm, .slice pa pn pc, .slice pa' pn' pc'] 36)) (lv - 1) (lz - 1) (by have := Hlz.out; omega) (by omega) (Shows.fr (HI.out.1.trans fx.out fid2) fid2 _ _ hx) (Hka.out.fr (HI.out.1.trans fx.out fid2) fid2)
     clear hx
     obtain ⟨E, hE⟩ : ∃ E, E = rightE known (of j) (lv - 1) := ⟨_, rfl⟩
     rw [<- hE] at hrec
     have HE := hid hE
     clear hE
     by_cases he : E = 0
     ·subst he
      go_wp2_with fail
      refine hrec.mono ?_
      rintro e w5 ⟨rfl, f5⟩
      have f5 := hid f5
      go_wp2
      go_roundg (n - (j + 1))
      case measure => omega
      case rel => exact ⟨j + 1, by omega, rfl, by go_num, hid ⟨(HI.out.1.trans fx.out fid2).trans f5.out fid2, firstE_step _ _ HI.out.2 HE.out.symm⟩⟩
     ·have he' : ¬ (E : Int) = 0 := by omega
      go_wp2_with fail
      refine hrec.mono ?_
      rintro e w5 ⟨rfl, f5⟩
      have f5 := hid f5
      go_wp2
      go_ret
      refine ⟨ret_nat ?_, (HI.out.1.trans fx.out fid2).trans f5.out fid2⟩
      rw [eown.out, if_pos HO.out, HE.out]
      exact (firstE_stop (fun i => rightE known (of i) (lv - 1)) n j hlt HI.out.2 (by rw [<- HE.out]; exact he)).symm
    ·obtain rfl : j = n := by omega
     go_wp2
     go_ret
     refine ⟨ret_nat (a := 0) ?_, HI.out.1⟩
     rw [eown.out, if_pos HO.out]
     exact HI.out.2.symm
end
section
set_option maxRecDepth 100000

theorem Try.infoU8 : (Try.prog.info? 5).map (fun i => (i.zero, i.size, i.bytes)) = some (some (.int .u8 0), 1, 1) := by kernel_rfl

theorem clone_steps (s : ByteArray) (h0 : 0 < s.size) (hlim : s.size <= 281474976710656) (w : World) : ∃ (w0 w1 w2 : World),
  (Instr.makeSlice 140 (.int .i64 (s.size : Int)) (.int .i64 (s.size : Int))).run Try.prog w = .ok (.slice (some ⟨w.heap.size, 0, none⟩) s.size s.size) w0 /\
  (Builtin.copy_ #[140, 9] 3 #[.slice (some ⟨w.heap.size, 0, none⟩) s.size s.size, .string s]).run Try.prog w0 = .ok (goInt s.size) w1 /\
  (Builtin.unsafeString_ #[183, 3] 9 #[.pointer (some ⟨w.heap.size, 0, none⟩), .int .i64 (s.size : Int)]).run Try.prog w1 = .ok (.string s) w2 /\ Fr (fun _ => False) w w2 := by
 obtain ⟨i0, hi, hz0, hz1, hz2⟩ := info_parts Try.infoU8
 have hls : s.data.toList.length = s.size := rfl
 have hbl : (Lib.byteCells s.data.toList).length = s.size := (Lib.byteCells_length _).trans hls
 obtain ⟨w0, hw0⟩ : ∃ w0, w0 = w.alloc (.cells (madeCells (Value.int .u8 0).cells (s.size * 1)) 5) := ⟨_, rfl⟩
 have m := run_make (P := Try.prog) w 140 5 i0 (.int .u8 0) Try.underlying140 hi hz0 .i64 .i64 (s.size : Int) (s.size : Int) (Int.natCast_nonneg _) (Int.le_refl _) (by rw [hz2]; omega) (by omega)
 rw [Int.toNat_natCast, hz1, <- hw0] at m
 have g0 : w0.heap[w.heap.size]? = some (.cells (madeCells (Value.int .u8 0).cells (s.size * 1)) 5 (0, 0)) := by rw [hw0]; exact heap_alloc_new w _
 have k := Lib.run_copy_row_string (P := Try.prog) w0 140 9 3 5 w.heap.size 0 s.size s.size s _ 5 Try.underlying140 (by rw [hi]; exact congrArg some hz1) g0 (Nat.le_refl _) (by rw [size_madeCells]; omega)
 rw [List.take_zero, List.nil_append, List.drop_of_length_le (by rw [Array.length_toList, size_madeCells]; omega), List.append_nil] at k
 have g1 := setRow_heap w0 w.heap.size _ (Lib.byteCells s.data.toList).toArray 5 (0, 0) g0
 have u := Lib.run_unsafeString_row (P := Try.prog) (w0.setRow w.heap.size (Lib.byteCells s.data.toList).toArray) 183 3 9 5 Try.underlying183 (by unfold Program.cellsOf; rw [hi]; exact hz1) w.heap.size s.size (by unfold World.shape?; rw [g1]; simp [hbl]) s.data.toList
  (fun e => by rw [e] at hls; simp at hls; omega) (Nat.le_of_eq hls) (by omega) (fun j x hx => by
   have hplain : (⟨w.heap.size, 0, none⟩ : Addr).add j = ⟨w.heap.size, j, none⟩ := by unfold Addr.add; split <;> simp_all
   rw [hplain, cell_of_row _ w.heap.size j _ 5 (0, 0) g1]
   simp [Lib.byteCells, hx])
 refine ⟨w0, _, _, m, k, u, ?_⟩
 have f1 : Fr (fun _ => False) w (w0.setRow w.heap.size (Lib.byteCells s.data.toList).toArray) := by
  have f0 : Fr (fun _ => False) w w0 := by rw [hw0]; exact (Fr.refl _ _).alloc _
  exact ⟨f0.os, f0.tape, f0.output, by have := f0.size; simp; omega, fun b hb hs => (setRow_other _ _ _ _ (by omega)).trans (f0.block b hb hs)⟩
 have B : Below w.heap.size w _ := Lib.below_freeze (f1.below (Nat.le_refl _) fid2) (p := ⟨w.heap.size, 0, none⟩) (Nat.le_refl _) s.data.toList.length
 exact ⟨B.os, B.tape, B.output, B.size, fun b hb _ => B.block b hb⟩

theorem lit_clone (s : ByteArray) (w : World) (hlim : s.size <= 281474976710656) :
  Calls Try.prog 99 #[.string s] w fun e w' => e = .returned (.string s) /\ Fr (fun _ => False) w w' := by
 rcases Nat.eq_zero_or_pos s.size with h0 | h0
 ·obtain rfl : s = ⟨#[]⟩ := ByteArray.ext (Array.eq_empty_of_size_eq_zero h0)
  go_enter Try.func99, Try.ntmps99
  go_wp2
  go_ret
  exact ⟨rfl, Fr.refl _ _⟩
 ·obtain ⟨w0, w1, w2, m, k, u, f⟩ := clone_steps s h0 hlim w
  go_enter Try.func99, Try.ntmps99
  go_wp2
  go_ret
  exact ⟨rfl, f⟩

theorem clone_any (s : ByteArray) (w : World) (hlim : s.size <= 281474976710656) :
  Calls Try.prog 98 #[.string s] w fun e w' => e = .returned (.string s) /\ Fr (fun _ => False) w w' := by
 go_enter Try.func98, Try.ntmps98
 go_wp2_with fail
 refine (lit_clone _ _ hlim).mono ?_
 rintro e w' ⟨rfl, f1⟩
 go_wp2
 go_ret
 exact ⟨rfl, f1⟩

theorem SeesL.first {P : Program} {w : World} {v : Value} {xs : List Value} (h : SeesL w v xs) : (Builtin.firstCells 1 xs.length v).run P w = .ok xs.toArray w := by
 rcases h with ⟨rfl, a, c, rfl⟩ | ⟨g, off, cap, rfl, _, hc⟩
 ·cases a with
  | none => simp [Builtin.firstCells]
  | some a => exact run_firstCells_some (P := P) w 1 0 a 0 c [] rfl (by simp)
 ·refine run_firstCells_some (P := P) w 1 xs.length ⟨g, off, none⟩ xs.length cap xs (by simp) ?_
  intro j v hj
  have hplain : (⟨g, off, none⟩ : Addr).add j = ⟨g, off + j, none⟩ := by unfold Addr.add; split <;> simp_all
  rw [hplain, hc j v hj]

theorem SeesL.drew {w : World} {v : Value} {xs : List Value} (h : SeesL w v xs) : SeesL w.drew v xs := h

theorem empty_row (w : World) (base : Nat) (hb : base <= w.heap.size) (e : TypeId) (size : Nat) : (w.alloc (.cells #[] e)).ownsRow base e size (.slice (some ⟨w.heap.size, 0, none⟩) 0 0) 0 [] :=
 ⟨by simp, .inr ⟨w.heap.size, 0, #[], rfl, hb, heap_alloc_new w _, Nat.le_refl _, by unfold maxLen; omega, by simp, by simp⟩⟩

theorem sv_one (l : List Txt) : ∀ u ∈ l.map sv, u.oneCell' = true := by
 intro u hu
 obtain ⟨c, _, rfl⟩ := List.mem_map.1 hu
 rfl

def NewTexts (w w' : World) (l : List Txt) (v : Value) : Prop := Texts (fun k => w.heap.size <= k) w' l v /\ Fr (fun _ => False) w w'

theorem cloneTexts_any (R : Nat -> Prop) (l : List Txt) (v : Value) (w : World) (h : Texts R w l v) :
  Calls Try.prog 97 #[v] w fun e w' => ∃ v', e = .returned v' /\ w'.ownsRow w.heap.size 9 1 v' l.length (l.map sv) /\ Fr (fun _ => False) w w' := by
 obtain ⟨i0, hi, hz0, hz1, hz2⟩ := info_parts Try.infoStr
 have qT : ∀ (w : World) (a : Option Addr) (n c n' c' : Nat), (binOp .eql 33 (.slice a n c) (.slice none n' c')).run Try.prog w = .ok (.bool a.isNone) w := fun w a n c n' c' => Lib.run_eql_slice_nil w _ _ a n c n' c' Try.underlying33
 have hl0 : l.length <= 1000 := h.1
 have hL := h.seesL
 obtain ⟨a, c, rfl, hc⟩ := h.shape
 cases a with
 | none =>
  have hn : l = [] := by
   rcases hc with hz | ⟨_, g, off, _, e, _⟩
   ·exact List.eq_nil_of_length_eq_zero hz
   ·cases e
  subst hn
  go_enter Try.func97, Try.ntmps97
  go_wp2
  go_ret
  exact ⟨_, rfl, World.ownsRow_nil w _ 9 1, Fr.refl _ _⟩
 | some a =>
  go_enter Try.func97, Try.ntmps97
  have f0 : Fr (fun _ => False) w (w.alloc (.cells #[] 9)) := (Fr.refl _ _).alloc _
  have hS := hL.fr0 f0
  have hF : ∀ w' : World, SeesL w' (.slice (some a) l.length c) (l.map sv) -> (Builtin.firstCells 1 l.length (.slice (some a) l.length c)).run Try.prog w' = .ok (l.map sv).toArray w' := fun w' h => by
   have := h.first (P := Try.prog)
   rwa [List.length_map] at this
  have HF := hid hF
  have HS := hid hS
  have HF0 := hid f0
  clear hF hS hL hc h f0
  go_wp2_with (at_builtin; refine wpList_append_sep rfl (.tmp 5) (.tmp 6) 33 33 rfl w.heap.size 9 i0 (.string ⟨#[]⟩) 1 16 Try.underlying33 _ Try.underlying33 (.inr ⟨_, rfl⟩) hi hz0 hz1 hz2 rfl (by decide) (.slice (some ⟨w.heap.size, 0, none⟩) 0 0) 0 [] rfl ?own _ l.length (l.map sv) rfl (lenOf_slice _ _ _) ?len ?c1 ?c2 ?one ?b1 ?b2 ?base ?grow)
  case own => exact empty_row w _ (Nat.le_refl _) _ _
  case len => simp
  case c1 => exact HF.out _ HS.out
  case c2 => exact HF.out _ HS.out.drew
  case one => exact sv_one l
  case b1 => unfold maxLen; omega
  case b2 => omega
  case base => simp
  case grow =>
   intro v' w1 hown hg hv
   obtain ⟨a1, c1, rfl⟩ := slice_of_own hown
   have Ho := hid hown
   have Hg := hid hg
   clear hown hg hv
   go_wp2
   go_ret
   refine ⟨_, rfl, ?_, ?_⟩
   ·have := Ho.out
    simpa using this
   ·have := Fr.trans HF0.out (Fr.of_grown Hg.out) (S := fun _ => False) (fun i hi e => by simp [Value.ownBlock] at e; omega)
    exact this

theorem texts_own {w : World} {base : Nat} {l : List Txt} {v : Value} (h : w.ownsRow base 9 1 v l.length (l.map sv)) (h1 : l.length <= 1000) (h2 : ∀ s ∈ l, s.length <= 1000) : Texts (fun k => base <= k) w l v := by
 refine ⟨h1, h2, ?_⟩
 have hc := seesL_own h
 rcases h.2 with ⟨rfl, h0⟩ | ⟨g, cap, cur, rfl, hb, hg, hle, _, hs, ht⟩
 ·exact .inl ⟨List.eq_nil_of_length_eq_zero h0, none, 0, rfl⟩
 ·refine .inr ⟨g, 0, cap, hb, rfl, hle, fun j s hj => ?_⟩
  have := World.ownsRow.cells (g := g) h rfl j (sv s) (by rw [List.getElem?_map, hj]; rfl)
  have hplain : (⟨g, 0, none⟩ : Addr).add j = ⟨g, j, none⟩ := by unfold Addr.add; split <;> simp_all
  rw [hplain] at this
  rw [Nat.zero_add]
  exact this

theorem set_same (l : List Txt) (k : Nat) (hk : k < l.length) : (l.map sv).set k (sv l[k]) = l.map sv := by
 rw [<- List.map_set]
 congr 1
 exact List.set_getElem_self hk

theorem copied_names (R : Nat -> Prop) (l : List Txt) (v : Value) (w : World) (h : Texts R w l v) :
  Calls Try.prog 96 #[v] w fun e w' => ∃ v', e = .returned v' /\ NewTexts w w' l v' := by
 have hl0 : l.length <= 1000 := h.1
 have hs0 := hid h.2.1
 have hcl := cloneTexts_any R l v w h
 obtain ⟨a0, c0, rfl, _⟩ := h.shape
 clear h
 go_enter Try.func96, Try.ntmps96
 go_wp2_with fail
 refine hcl.mono ?_
 rintro e w1 ⟨v1, rfl, hO, f1⟩
 clear hcl
 obtain ⟨a, c, rfl⟩ := slice_of_own hO
 have HO := hid hO
 have F1 := hid f1
 clear hO f1
 go_wp2
 go_loopg [3, 4, 9] l.length (fun G u3 u4 u9 wr => ∃ k : Nat, k <= l.length /\ G = l.length - k /\ u9 = .int .i64 k /\ Hid (wr.ownsRow w.heap.size 9 1 (.slice a l.length c) l.length (l.map sv) /\ Fr (fun _ => False) w wr))
 case atStart => exact ⟨0, Nat.zero_le _, rfl, by go_num, hid ⟨HO.out, F1.out⟩⟩
 case round =>
  obtain ⟨k, hk, rfl, rfl, HI⟩ := hrel
  by_cases hlt : k < l.length
  ·obtain ⟨g, cap, rfl, hg, hle⟩ : ∃ g cap, a = some ⟨g, 0, none⟩ /\ w.heap.size <= g /\ l.length <= cap /\ c = cap := by
    rcases HI.out.1.2 with ⟨e, h0⟩ | ⟨g, cap, cur, e, hb, _, hn, _⟩
    ·omega
    ·cases e; exact ⟨g, c, rfl, hb, hn, rfl⟩
   obtain ⟨hle, rfl⟩ := hle
   have hplain : ∀ j, (⟨g, 0, none⟩ : Addr).add j = ⟨g, j, none⟩ := fun j => by unfold Addr.add; split <;> simp_all
   have hck := World.ownsRow.cells (g := g) HI.out.1 rfl k (sv l[k]) (by rw [List.getElem?_map, List.getElem?_eq_getElem hlt]; rfl)
   rw [hplain] at hck
   have PL := hid hplain
   clear hplain
   obtain ⟨d, hd⟩ : ∃ d, d = l[k] := ⟨_, rfl⟩
   rw [<- hd] at hck
   unfold sv at hck
   have hdl : d.length <= 1000 := hs0.out d (by rw [hd]; exact List.getElem_mem hlt)
   have Hd := hid hd
   clear hd
   go_wp2_with fail
   refine (clone_any ⟨d.toArray⟩ wr (by show d.toArray.size <= _; simp; omega)).mono ?_
   rintro e w2 ⟨rfl, f2⟩
   have hO2 := ownsRow_fr HI.out.1 f2 fid2
   have hck2 := World.ownsRow.cells (g := g) hO2 rfl k (sv l[k]) (by rw [List.getElem?_map, List.getElem?_eq_getElem hlt]; rfl)
   rw [PL.out, <- Hd.out] at hck2
   unfold sv at hck2
   have hfz := World.ownsRow.frozenAt hO2 k
   have HO2 := hid hO2
   have F2 := hid f2
   clear hO2 f2 hck
   go_wp2
   go_roundg (l.length - (k + 1))
   case measure => omega
   case rel =>
    refine ⟨k + 1, by omega, rfl, by go_num, hid ⟨?_, ?_⟩⟩
    ·have h1 := (World.ownsRow.stored HO2.out k (sv l[k])).1
     rw [set_same l k hlt, <- Hd.out] at h1
     exact h1
    ·exact Fr.setCell (p := ⟨g, k, none⟩) (HI.out.2.trans F2.out fid2) (fun h => absurd h (Nat.not_lt.2 hg)) _
  ·obtain rfl : k = l.length := by omega
   go_wp2
   go_ret
   exact ⟨_, rfl, texts_own HI.out.1 hl0 hs0.out, HI.out.2⟩
end
section
theorem results_cell_tmp_row {P : Program} {fn : Func} {p u : Tmp} {ty : TypeId} (h : fn.results = #[.cell p ty, .tmp u]) (tmps : Array Value) (w : World) (g : Nat) (t : TypeId) (cs : Array Value) (fr : Nat × Nat) (d : TypeDesc)
  (hp : tmps.getD p undef = .pointer (some ⟨g, 0, none⟩)) (hg : w.heap[g]? = some (.cells cs t fr))
  (hu : P.underlying ty = some d) (hd : (match d with | .struct _ | .array _ _ => true | _ => false) = true) (hi : (P.info? ty).map (·.size) = some cs.size) :
  (results fn tmps).run P w = .ok (.tuple #[.agg cs, tmps.getD u undef]) w := by
 rw [results_cell_tmp h]
 have hp' : tmps[p]?.getD undef = .pointer (some ⟨g, 0, none⟩) := by simpa using hp
 simp [hp', asAddr, run_loadVar_row w g t ty cs fr d hg hu hd hi, Result.andThen]

theorem zero_shows (R : Nat -> Prop) (w : World) : Shows R w zeroT (.agg #[.int .u8 0, .int .i64 0, .slice none 0 0, .slice none 0 0]) :=
 ⟨_, _, rfl, by omega, by omega, ⟨by simp, by simp, .inl ⟨rfl, _, _, rfl⟩⟩, .inl ⟨rfl, _, _, rfl⟩⟩

def Wholed (r : WR) (lb : Nat) (w : World) (e : Ending) (w' : World) : Prop :=
 ∃ tv, e = .returned (.tuple #[tv, .int .i64 (r.e : Nat)]) /\ Fr (fun k => k = lb) w w' /\ w'.heap[lb]? = some (.cells #[.int .i64 (r.left : Nat)] 3 (0, 0)) /\ Shows (fun k => w.heap.size <= k) w' r.t tv /\ r.left <= 1000

theorem setCell_four {w : World} {b : Nat} {x0 x1 x2 x3 y : Value} {t : TypeId} (i : Nat) (h : w.heap[b]? = some (.cells #[x0, x1, x2, x3] t (0, 0))) :
  (w.setCell ⟨b, i, none⟩ y).heap[b]? = some (.cells (#[x0, x1, x2, x3].setIfInBounds i y) t (0, 0)) := by
 have hb := lt_of_block h
 unfold World.setCell
 simp only [Array.getElem?_modify, if_true, h, Option.map_some]
 simp

theorem store_four {w : World} {b : Nat} {x0 x1 x2 x3 y0 y1 y2 y3 : Value} {t : TypeId} (h : w.heap[b]? = some (.cells #[x0, x1, x2, x3] t (0, 0))) :
  ((((w.setCell ⟨b, 0, none⟩ y0).setCell ⟨b, 1, none⟩ y1).setCell ⟨b, 2, none⟩ y2).setCell ⟨b, 3, none⟩ y3).heap[b]? = some (.cells #[y0, y1, y2, y3] t (0, 0)) :=
 setCell_four 3 (setCell_four 2 (setCell_four 1 (setCell_four 0 h)))

theorem fr_four {w : World} {b : Nat} (y0 y1 y2 y3 : Value) {S : Nat -> Prop} {w0 : World} (f : Fr S w0 w) (hb : b < w0.heap.size -> S b) :
  Fr S w0 ((((w.setCell ⟨b, 0, none⟩ y0).setCell ⟨b, 1, none⟩ y1).setCell ⟨b, 2, none⟩ y2).setCell ⟨b, 3, none⟩ y3) :=
 (((f.setCell (p := ⟨b, 0, none⟩) hb _).setCell (p := ⟨b, 1, none⟩) hb _).setCell (p := ⟨b, 2, none⟩) hb _).setCell (p := ⟨b, 3, none⟩) hb _

theorem other_four (w : World) {b : Nat} (y0 y1 y2 y3 : Value) {g : Nat} (hg : g ≠ b) :
  ((((w.setCell ⟨b, 0, none⟩ y0).setCell ⟨b, 1, none⟩ y1).setCell ⟨b, 2, none⟩ y2).setCell ⟨b, 3, none⟩ y3).heap[g]? = w.heap[g]? := by
 rw [Below.heap_setCell _ _ _ _ (by simpa using hg), Below.heap_setCell _ _ _ _ (by simpa using hg), Below.heap_setCell _ _ _ _ (by simpa using hg), Below.heap_setCell _ _ _ _ (by simpa using hg)]

theorem pres_list {L : List (Value -> World -> Prop)} {w w' : World} (h : ∀ p ∈ L, ∀ u, p u w -> p u w') : ∀ (j : Nat) (u : Value), L.getD j (fun _ _ => True) u w -> L.getD j (fun _ _ => True) u w' := by
 intro j u hj
 by_cases hl : j < L.length
 ·have e : L.getD j (fun _ _ => True) = L[j] := by simp [List.getD, hl]
  rw [e] at hj ⊢
  exact h _ (List.getElem_mem hl) u hj
 ·have e : L.getD j (fun _ _ => True) = fun _ _ => True := by simp [List.getD, hl]
  rw [e]
  trivial

theorem wholed_zero {w w' : World} {e lb : Nat} {l : Nat} (f : Fr (fun k => k = lb) w w') (hb : w'.heap[lb]? = some (.cells #[.int .i64 l] 3 (0, 0))) (hl : l <= 1000) :
  Wholed ⟨e, zeroT, l⟩ lb w (.returned (.tuple #[.agg #[.int .u8 0, .int .i64 0, .slice none 0 0, .slice none 0 0], .int .i64 (e : Nat)])) w' :=
 ⟨_, rfl, f, hb, zero_shows _ _, hl⟩

theorem heap_alloc_two (w : World) (o o' : Obj) : ((w.alloc o).alloc o').heap[w.heap.size + 1]? = some o' := by
 have := heap_alloc_new (w.alloc o) o'
 simpa using this

set_option maxRecDepth 100000 in
theorem whole_zero (al : List (Txt × KT)) (t : KT) (R : Nat -> Prop) (v av : Value) (lb l : Nat) (w : World) (hl : l <= 1000) (hsh : Shows R w t v) (hb : w.heap[lb]? = some (.cells #[.int .i64 l] 3 (0, 0))) :
  Calls Try.prog 93 #[v, av, .int .i64 0, .pointer (some ⟨lb, 0, none⟩)] w (Wholed (wholeE 0 al t l) lb w) := by
 obtain ⟨k, m, a, n, c, a', n', c', rfl⟩ := hsh.four
 have Hb := hid hb
 clear hsh hb
 go_enter Try.func93, Try.ntmps93
 go_wp2
 refine bodyPost_ret (results_cell_tmp_row rfl _ _ (w.heap.size + 1) 36 _ _ _ rfl (heap_alloc_two _ _ _) Try.underlying36 rfl (by kernel_rfl)) rfl ?_
 have f : Fr (fun k => k = lb) w ((w.alloc (.cells #[.int .u8 k, .int .i64 m, .slice a n c, .slice a' n' c'] 36)).alloc (.cells #[.int .u8 0, .int .i64 0, .slice none 0 0, .slice none 0 0] 36)) := ((Fr.refl _ _).alloc _).alloc _
 have hlb := lt_of_block Hb.out
 exact wholed_zero (e := 5) f (by rw [Below.heap_alloc _ _ _ (by simp; omega), Below.heap_alloc _ _ _ hlb]; exact Hb.out) hl

def WholeAt (lv : Nat) : Prop := ∀ (al : List (Txt × KT)) (t : KT) (R : Nat -> Prop) (v av : Value) (lz : Int) (lb l : Nat) (w : World), lz = lv -> lv <= 100 -> l <= 1000 -> ¬ R lb -> Shows R w t v -> Aliases R w al av -> w.heap[lb]? = some (.cells #[.int .i64 l] 3 (0, 0)) ->
  Calls Try.prog 93 #[v, av, .int .i64 lz, .pointer (some ⟨lb, 0, none⟩)] w (Wholed (wholeE lv al t l) lb w)

set_option maxRecDepth 100000 in
theorem whole_ref (lv : Nat) (ih : WholeAt lv) (al : List (Txt × KT)) (m : Int) (ns : List Txt) (n : Nat) (of : Nat -> KT) (R : Nat -> Prop) (v av : Value) (lz : Int) (lb l : Nat) (w : World) (hlz : lz = lv + 1) (hlv : lv <= 99) (hl : l <= 1000) (hR : ¬ R lb) (hsh : Shows R w (.mk 9 m ns n of) v) (hal : Aliases R w al av) (hb : w.heap[lb]? = some (.cells #[.int .i64 l] 3 (0, 0))) :
  Calls Try.prog 93 #[v, av, .int .i64 lz, .pointer (some ⟨lb, 0, none⟩)] w (Wholed (wholeE (lv + 1) al (.mk 9 m ns n of) l) lb w) := by
 have hlb := lt_of_block hb
 have hsh0 := hid hsh
 obtain ⟨k', m', a, nn, c, a', n', c', hv⟩ := hsh.four
 obtain ⟨rfl, rfl⟩ : 9 = k' /\ m = m' := by
  obtain ⟨vn, vo, e, _⟩ := hsh
  rw [hv] at e
  simp at e
  omega
 subst hv
 have hl' : (lz == 0) = false := by simp; omega
 have hz0 : 1 <= lz := by omega
 have hz1 : lz <= 100 := by omega
 have Hlz := hid hlz
 have Hb := hid hb
 have Hal := hid hal
 clear hsh hlz hb hal
 have e9 : wholeE (lv + 1) al (.mk 9 m ns n of) l = if standsN al ns < 0 then ⟨10, zeroT, l⟩ else wholeE lv (al.take (standsN al ns).toNat) (al.getD (standsN al ns).toNat ([], .nil)).2 l := by
  simp only [wholeE, if_true]
 have E9 := hid e9
 clear e9
 obtain ⟨w0, hw0⟩ : ∃ w0, w0 = (w.alloc (.cells #[.int .u8 (9 : Nat), .int .i64 m, .slice a nn c, .slice a' n' c'] 36)).alloc (.cells #[.int .u8 0, .int .i64 0, .slice none 0 0, .slice none 0 0] 36) := ⟨_, rfl⟩
 have f0 : Hid (Fr (fun _ => False) w w0) := hid (by rw [hw0]; exact ((Fr.refl _ _).alloc _).alloc _)
 have q4 : Hid (w0.heap[w.heap.size]? = some (.cells #[.int .u8 (9 : Nat), .int .i64 m, .slice a nn c, .slice a' n' c'] 36 (0, 0))) := hid (by rw [hw0, Below.heap_alloc _ _ _ (by simp)]; exact heap_alloc_new _ _)
 have q8 : Hid (w0.heap[w.heap.size + 1]? = some (.cells #[.int .u8 0, .int .i64 0, .slice none 0 0, .slice none 0 0] 36 (0, 0))) := hid (by rw [hw0]; exact heap_alloc_two _ _ _)
 obtain ⟨c0, c1, c2, c3⟩ := cell_of_four q4.out
 have hsf := stands_any R al (.mk 9 m ns n of) _ av w0 (Shows.fr f0.out fid2 _ _ hsh0.out) (Hal.out.fr f0.out fid2)
 have hse : standsE al (.mk 9 m ns n of) = standsN al ns := rfl
 rw [hse] at hsf
 have hlt := hid (@standsN_lt al ns)
 obtain ⟨E, hE⟩ : ∃ E, E = standsN al ns := ⟨_, rfl⟩
 rw [<- hE] at hsf
 have HE := hid hE
 clear hE hse
 by_cases he : E < 0
 ·go_enter Try.func93, Try.ntmps93
  go_wp2_with fail
  rw [hw0] at hsf
  refine hsf.mono ?_
  rintro e w1 ⟨rfl, f1⟩
  rw [<- hw0] at f1
  have q8' := box_kept q8.out f1 (fun h => h)
  obtain ⟨b0, b1, b2, b3⟩ := cell_of_four q8'
  have z0 : w1.frozen? ⟨w.heap.size + 1, 0, none⟩ = false := by simp [World.frozen?, q8']
  have z1 : w1.frozen? ⟨w.heap.size + 1, 1, none⟩ = false := by simp [World.frozen?, q8']
  have z2 : w1.frozen? ⟨w.heap.size + 1, 2, none⟩ = false := by simp [World.frozen?, q8']
  have z3 : w1.frozen? ⟨w.heap.size + 1, 3, none⟩ = false := by simp [World.frozen?, q8']
  have Q8 := hid q8'
  have F1 := hid f1
  clear q8' f1 hw0 hsf
  go_wp2
  refine bodyPost_ret (results_cell_tmp_row rfl _ _ (w.heap.size + 1) 36 _ _ _ rfl (store_four Q8.out) Try.underlying36 rfl (by kernel_rfl)) rfl ?_
  rw [E9.out, <- HE.out, if_pos he]
  have hk := box_kept Hb.out (f0.out.trans F1.out fid2) (fun h => h)
  exact wholed_zero (e := 10) (fr_four _ _ _ _ ((f0.out.trans F1.out fid2).mono (fun _ _ h => absurd h (fun h => h))) (fun h => absurd h (by omega))) (by rw [other_four _ _ _ _ _ (by omega)]; exact hk) hl
 ·obtain ⟨i, rfl⟩ : ∃ i : Nat, E = i := ⟨E.toNat, by omega⟩
  have hi : i < al.length := by
   have := (hlt.out (by rw [<- HE.out]; omega)).1
   rw [<- HE.out] at this
   simpa using this
  have hal0 := Hal.out
  have hall : al.length <= 1000 := hal0.1
  obtain ⟨aa, ca, rfl, hsa⟩ := hal0.shape
  have halv := hid hal0
  clear hal0
  rcases hsa with hz | ⟨hcap, ga, oa, hg, rfl, hcell⟩
  ·omega
  obtain ⟨nm, tt, htt⟩ : ∃ nm tt, al[i]? = some (nm, tt) := ⟨al[i].1, al[i].2, by rw [List.getElem?_eq_getElem hi]⟩
  obtain ⟨x0, x1, x2, x3, _, y0, y1, y2, y3, hx⟩ := hcell i _ htt
  obtain ⟨pk, pm, pa, pn, pc, pa', pn', pc', rfl, rfl, rfl, rfl⟩ := hx.cells
  have HX := hid hx
  have hgl : ga < w.heap.size := World.block_lt_of_cell? w _ y0
  have Y := hid (And.intro y0 (And.intro y1 (And.intro y2 y3)))
  have Htt := hid htt
  clear hx hcell htt y0 y1 y2 y3
  have hi' : (i : Int) < (al.length : Int) := by omega
  have hic : (i : Int) <= (ca : Int) := by omega
  have hiz : (0 : Int) <= (i : Int) := by omega
  have hwr : IntKind.i64.wrap (lz - 1) = lz - 1 := IntWalk.i64_in _ (by omega)
  go_enter Try.func93, Try.ntmps93
  go_wp2_with fail
  rw [hw0] at hsf
  refine hsf.mono ?_
  rintro e w1 ⟨rfl, f1⟩
  rw [<- hw0] at f1
  have F1 := hid (f0.out.trans f1 fid2)
  have Q8 := hid (box_kept q8.out f1 (fun h => h))
  have Bq := hid (box_kept Hb.out F1.out (fun h => h))
  clear f1 hw0 hsf c0 c1 c2 c3
  go_wp2_with fail
  obtain ⟨r, hr⟩ : ∃ r, r = wholeE lv (al.take i) tt l := ⟨_, rfl⟩
  have HR := hid hr
  have hcall := hid (fun wx lz' hz f hbx => ih (al.take i) tt (fun k => R k /\ k < w.heap.size) _ (.slice (some ⟨ga, oa, none⟩) i ca) lz' lb l wx hz (by omega) hl (fun h => hR h.1)
   (Shows.fr (R := fun k => R k /\ k < w.heap.size) (S := fun k => k = lb \/ k = w.heap.size + 1) f (fun k hk h => by rcases h with h | h; exact hR (h ▸ hk.1); omega) _ _ (Shows.mono (fun k hk h => ⟨h, hk⟩) _ _ HX.out))
   (((Aliases.take halv.out i (by omega)).mono (fun k hk h => ⟨h, hk⟩)).fr (R := fun k => R k /\ k < w.heap.size) (S := fun k => k = lb \/ k = w.heap.size + 1) f (fun k hk h => by rcases h with h | h; exact hR (h ▸ hk.1); omega)) hbx)
  clear hr
  have HW1 : Hid (w.heap.size + 2 <= w1.drew.heap.size) := hid (by have := lt_of_block Q8.out; show _ <= w1.heap.size; omega)
  have HY := hid (fun (wx : World) (f : Fr (fun k => k = lb \/ k = w.heap.size + 1) w1.drew wx) =>
   have fw : Fr (fun k => k = lb \/ k = w.heap.size + 1) w wx := (F1.out.drew.mono (fun _ _ h => absurd h (fun h => h))).trans f fid2
   have up : ∀ {o : Nat} {u : Value}, w.cell? ⟨ga, o, none⟩ = some u -> wx.cell? ⟨ga, o, none⟩ = some u := fun h => cell_fr (R := fun k => R k /\ k < w.heap.size) fw (fun k hk h => by rcases h with h | h; exact hR (h ▸ hk.1); omega) ⟨hg, hgl⟩ h
   And.intro fw (And.intro (up Y.out.1) (And.intro (up Y.out.2.1) (And.intro (up Y.out.2.2.1) (up Y.out.2.2.2)))))
  refine wp_region_toldU (by kernel_rfl) (fun a b => Fr (fun k => k = lb \/ k = w.heap.size + 1) a b) (fun w => Fr.refl _ w) (fun _ _ _ h k => h.trans k fid2)
   [some 28, some 29, some 30, some 31, some 32, some 33, some 34, some 35, some 36, some 37, some 38, some 39, some 40, some 41, none, some 9] rfl (by decide) (by intro d hd; simp at hd ⊢; omega)
   (fun j wx => (j = 11 -> wx.heap[lb]? = some (.cells #[.int .i64 l] 3 (0, 0))) /\ (j = 14 -> wx.heap[w.heap.size + 1]? = some (.cells #[.int .u8 0, .int .i64 0, .slice none 0 0, .slice none 0 0] 36 (0, 0))))
   (fun j v wx => ([fun v _ => v = .slice (some ⟨ga, oa, none⟩) al.length ca, fun v _ => v = .int .i64 i, fun v _ => v = .pointer (some ⟨ga, oa + i * 5, none⟩), fun v _ => v = .pointer (some ⟨ga, oa + i * 5 + 1, none⟩),
    fun v _ => v = .agg #[.int .u8 pk, .int .i64 pm, .slice pa pn pc, .slice pa' pn' pc'], fun v _ => v = .slice (some ⟨ga, oa, none⟩) al.length ca, fun v _ => v = .int .i64 i, fun v _ => v = .slice (some ⟨ga, oa, none⟩) i ca,
    fun v _ => v = .int .i64 lz, fun v _ => v = .int .i64 (lz - 1), fun v _ => v = .pointer (some ⟨lb, 0, none⟩),
    fun v wx => (∃ tv, v = .tuple #[tv, .int .i64 (r.e : Nat)] /\ Shows (fun k => w.heap.size + 2 <= k) wx r.t tv) /\ wx.heap[lb]? = some (.cells #[.int .i64 (r.left : Nat)] 3 (0, 0)) /\ r.left <= 1000,
    fun v wx => Shows (fun k => w.heap.size + 2 <= k) wx r.t v, fun v _ => v = .int .i64 (r.e : Nat),
    fun _ wx => ∃ z0 z1 z2 z3, wx.heap[w.heap.size + 1]? = some (.cells #[z0, z1, z2, z3] 36 (0, 0)) /\ Shows (fun k => w.heap.size + 2 <= k) wx r.t (.agg #[z0, z1, z2, z3]),
    fun v _ => v = .int .i64 (r.e : Nat)] : List (Value -> World -> Prop)).getD j (fun _ _ => True) v wx)
   (by kernel_rfl) ?u0 ?step ?fin
  case u0 => exact fun j _ => ⟨fun _ => Bq.out, fun _ => Q8.out⟩
  case step =>
   intro vals
   simp only [frOfU, fillU, zsl]
   repeat' (first | exact AllOps.nil | refine AllOps.cons ?_ ?_)
   all_goals
    intro wx hle he hu hw K hK
    clear hw
    simp only [Act.put, zsl, zgl] at hK
    simp only [zml, Region.binds, forall_const, false_imp_iff, zgl] at he
    obtain ⟨fw, y0, y1, y2, y3⟩ := HY.out wx hle
    have FW := hid fw
    have FW0 : w.heap.size + 2 <= wx.heap.size := Nat.le_trans HW1.out hle.size
    clear fw hle
   all_goals first | ((try simp only [he] at hK ⊢); go_simp; exact hK _ _ (Fr.refl _ _) rfl fid2 (fun _ _ _ h => h)) | skip
   ·obtain ⟨h4, h7, h9, h10⟩ := he
    simp only [h4, h7, h9, h10] at hK ⊢
    go_simp
    go_at_call 93
    have hbx := hu.1 rfl
    refine (hcall.out wx (lz - 1) (by have := Hlz.out; omega) FW.out hbx).mono ?_
    rintro e1 wa ⟨tv, rfl, fa, hla, hta, hle1⟩
    rw [<- HR.out] at hla hta hle1 ⊢
    have hta' := Shows.mono (S := fun k => w.heap.size + 2 <= k) (fun k _ h => Nat.le_trans FW0 h) _ _ hta
    refine hK _ _ (fa.mono (fun _ _ h => .inl h)) ⟨⟨tv, rfl, hta'⟩, hla, hle1⟩ ?_ ?_
    ·intro j hj h
     exact ⟨fun e => absurd e hj, fun e => by rw [fa.block _ (lt_of_block (h.2 e)) (by omega)]; exact h.2 e⟩
    ·refine fun j u _ => pres_list ?_ j u
     have st : ∀ u, Shows (fun k => w.heap.size + 2 <= k) wx r.t u -> Shows (fun k => w.heap.size + 2 <= k) wa r.t u := fun u h => Shows.fr (R := fun k => w.heap.size + 2 <= k) (S := fun k => k = lb) fa (fun k hk h => by omega) _ _ h
     simp only [zml, imp_self, implies_true, true_and, and_true]
     refine ⟨fun u h => ⟨?_, hla, hle1⟩, fun u h => st u h, fun u h => ?_⟩
     ·obtain ⟨⟨tv', e', h'⟩, _⟩ := h
      exact ⟨tv', e', st _ h'⟩
     ·obtain ⟨z0, z1, z2, z3, h1, h2⟩ := h
      exact ⟨z0, z1, z2, z3, by rw [fa.block _ (lt_of_block h1) (by omega)]; exact h1, st _ h2⟩
   ·obtain ⟨⟨tv, hv, hs⟩, _, _⟩ := he
    simp only [hv] at hK ⊢
    go_simp
    exact hK _ _ (Fr.refl _ _) hs fid2 (fun _ _ _ h => h)
   ·obtain ⟨⟨tv, hv, hs⟩, _, _⟩ := he
    simp only [hv] at hK ⊢
    go_simp
    exact hK _ _ (Fr.refl _ _) rfl fid2 (fun _ _ _ h => h)
   ·have hs := he.1
    have hcl := he.2.1.2
    obtain ⟨k2, m2, a2, n2, c2, a3, n3, c3, h12⟩ := hs.four
    rw [h12] at hs
    clear he
    simp only [h12] at hK ⊢
    have h8 := hu.2 rfl
    obtain ⟨b0, b1, b2, b3⟩ := cell_of_four h8
    have z0 : wx.frozen? ⟨w.heap.size + 1, 0, none⟩ = false := by simp [World.frozen?, h8]
    have z1 : wx.frozen? ⟨w.heap.size + 1, 1, none⟩ = false := by simp [World.frozen?, h8]
    have z2 : wx.frozen? ⟨w.heap.size + 1, 2, none⟩ = false := by simp [World.frozen?, h8]
    have z3 : wx.frozen? ⟨w.heap.size + 1, 3, none⟩ = false := by simp [World.frozen?, h8]
    have H8 := hid h8
    clear h8 hu
    go_simp
    have f8 := fr_four (w := wx) (b := w.heap.size + 1) (.int .u8 k2) (.int .i64 m2) (.slice a2 n2 c2) (.slice a3 n3 c3) (S := fun k => k = w.heap.size + 1) (Fr.refl _ _) (fun _ => rfl)
    have st : ∀ u, Shows (fun k => w.heap.size + 2 <= k) wx r.t u -> Shows (fun k => w.heap.size + 2 <= k) _ r.t u := fun u h => Shows.fr (R := fun k => w.heap.size + 2 <= k) (S := fun k => k = w.heap.size + 1) f8 (fun k hk h => by omega) _ _ h
    refine hK undef _ (f8.mono (fun _ _ h => .inr h)) ⟨_, _, _, _, store_four H8.out, st _ hs⟩ ?_ ?_
    ·intro j hj h
     exact ⟨fun e => by rw [other_four _ _ _ _ _ (by omega)]; exact h.1 e, fun e => absurd e hj⟩
    ·refine fun j u _ => pres_list ?_ j u
     simp only [zml, imp_self, implies_true, true_and, and_true]
     refine ⟨fun u h => ⟨?_, by rw [other_four _ _ _ _ _ (by omega)]; exact h.2.1, h.2.2⟩, fun u h => st u h, fun u h => ⟨_, _, _, _, store_four H8.out, st _ hs⟩⟩
     obtain ⟨⟨tv', e', h'⟩, _⟩ := h
     exact ⟨tv', e', st _ h'⟩
   ·have h13 := he.1
    clear he
    go_simp
    simp only [h13] at hK ⊢
    exact hK _ _ (Fr.refl _ _) rfl fid2 (fun _ _ _ h => h)
  case fin =>
   intro vals w' hle hV
   obtain ⟨z0, z1, z2, z3, h8, hs⟩ := hV 14 (by decide)
   have h15 := hV 15 (by decide)
   have hcl := (hV 11 (by decide)).2
   clear hV
   simp only [zgl] at h15 hcl
   have fw := (HY.out w' hle).1
   simp only [frOfU, fillU, zsl, h15]
   go_wp2
   refine bodyPost_ret (results_cell_tmp_row rfl _ _ (w.heap.size + 1) 36 _ _ _ rfl h8 Try.underlying36 rfl (by kernel_rfl)) rfl ?_
   have e1 : al.getD i ([], .nil) = (nm, tt) := by rw [List.getD_eq_getElem?_getD, Htt.out]; rfl
   have e2 : wholeE (lv + 1) al (.mk 9 m ns n of) l = r := by
    rw [E9.out, <- HE.out, if_neg (by omega), Int.toNat_natCast, e1, HR.out]
   rw [e2]
   exact ⟨_, rfl, ⟨fw.os, fw.tape, fw.output, fw.size, fun k hk hs => fw.block k hk (fun h => by rcases h with h | h; exact hs h; omega)⟩, hcl.1, Shows.mono (fun k _ h => Nat.le_trans (Nat.le_add_right _ _) h) _ _ hs, hcl.2⟩

def TyRow (B : Nat) (w : World) (pv : Value) (ts : List KT) : Prop :=
 ∃ cs : List Value, w.ownsRow B 36 4 pv ts.length cs /\ ∀ i t, ts[i]? = some t -> ∃ x0 x1 x2 x3, cs[i * 4]? = some x0 /\ cs[i * 4 + 1]? = some x1 /\ cs[i * 4 + 2]? = some x2 /\ cs[i * 4 + 3]? = some x3 /\
  Shows (fun k => B <= k /\ pv.ownBlock ≠ some k) w t (.agg #[x0, x1, x2, x3])

theorem TyRow.nil (B : Nat) (w : World) : TyRow B w (.slice none 0 0) [] := ⟨[], World.ownsRow_nil w B 36 4, by simp⟩

theorem TyRow.fr {B : Nat} {S : Nat -> Prop} {w w' : World} {pv : Value} {ts : List KT} (h : TyRow B w pv ts) (f : Fr S w w') (hS : ∀ k, B <= k -> ¬ S k) : TyRow B w' pv ts := by
 obtain ⟨cs, h1, h2⟩ := h
 refine ⟨cs, ownsRow_fr h1 f (fun k hk => hS k (World.ownsRow.lt h1 k hk).1), fun i t hi => ?_⟩
 obtain ⟨x0, x1, x2, x3, a0, a1, a2, a3, hx⟩ := h2 i t hi
 exact ⟨x0, x1, x2, x3, a0, a1, a2, a3, Shows.fr f (fun k hk => hS k hk.1) _ _ hx⟩

theorem TyRow.push {B : Nat} {w w1 w' : World} {pv pv' : Value} {ts : List KT} {t : KT} {cs : List Value} {y0 y1 y2 y3 : Value} {n : Nat} (h1 : ∀ i t, ts[i]? = some t -> ∃ x0 x1 x2 x3, cs[i * 4]? = some x0 /\ cs[i * 4 + 1]? = some x1 /\ cs[i * 4 + 2]? = some x2 /\ cs[i * 4 + 3]? = some x3 /\
  Shows (fun k => B <= k /\ pv.ownBlock ≠ some k) w t (.agg #[x0, x1, x2, x3])) (hl : cs.length = ts.length * 4) (hn : n = ts.length + 1) (ho : w'.ownsRow B 36 4 pv' n (cs ++ [y0, y1, y2, y3]))
  (f0 : Fr (fun _ => False) w w1) (hg : w1.grownBy w' pv.ownBlock) (hv : pv'.ownBlock = pv.ownBlock \/ pv'.ownBlock = some w1.heap.size) (ht : Shows (fun k => B <= k /\ pv.ownBlock ≠ some k) w t (.agg #[y0, y1, y2, y3])) : TyRow B w' pv' (ts ++ [t]) := by
 have key : ∀ (t : KT) (v : Value), Shows (fun k => B <= k /\ pv.ownBlock ≠ some k) w t v -> Shows (fun k => B <= k /\ pv'.ownBlock ≠ some k) w' t v := by
  intro t v h
  have h1 := Shows.mono (S := fun k => (B <= k /\ pv.ownBlock ≠ some k) /\ k < w.heap.size) (fun k hk h => ⟨h, hk⟩) _ _ h
  have h2 := Shows.fr f0 fid2 _ _ h1
  have h3 := Shows.fr (Fr.of_grown hg) (fun k hk e => hk.1.2 e.symm) _ _ h2
  refine Shows.mono (fun k _ h => ⟨h.1.1, fun e => ?_⟩) _ _ h3
  rcases hv with e' | e'
  ·rw [e'] at e; exact h.1.2 e
  ·rw [e'] at e; cases e; have := f0.size; omega
 refine ⟨cs ++ [y0, y1, y2, y3], by rw [List.length_append]; simpa [hn] using ho, fun i u hi => ?_⟩
 by_cases hlt : i < ts.length
 ·rw [List.getElem?_append_left hlt] at hi
  obtain ⟨x0, x1, x2, x3, a0, a1, a2, a3, hx⟩ := h1 i u hi
  refine ⟨x0, x1, x2, x3, ?_, ?_, ?_, ?_, key _ _ hx⟩
  ·rw [List.getElem?_append_left (by omega)]; exact a0
  ·rw [List.getElem?_append_left (by omega)]; exact a1
  ·rw [List.getElem?_append_left (by omega)]; exact a2
  ·rw [List.getElem?_append_left (by omega)]; exact a3
 ·have hi' := (List.getElem?_eq_some_iff.1 hi).1
  obtain rfl : i = ts.length := by simp at hi'; omega
  rw [List.getElem?_append_right (Nat.le_refl _)] at hi
  simp at hi
  subst hi
  refine ⟨y0, y1, y2, y3, ?_, ?_, ?_, ?_, key _ _ ht⟩
  ·rw [List.getElem?_append_right (by omega), show ts.length * 4 - cs.length = 0 by omega]; rfl
  ·rw [List.getElem?_append_right (by omega), show ts.length * 4 + 1 - cs.length = 1 by omega]; rfl
  ·rw [List.getElem?_append_right (by omega), show ts.length * 4 + 2 - cs.length = 2 by omega]; rfl
  ·rw [List.getElem?_append_right (by omega), show ts.length * 4 + 3 - cs.length = 3 by omega]; rfl

theorem TyRow.shows {B : Nat} {w : World} {pv vn : Value} {ts : List KT} {k n : Nat} {m : Int} {ns : List Txt} (h : TyRow B w pv ts) (hn : ts.length = n) (hk : k <= 255) (hn1 : n <= 1000) (ht : Texts (fun k => B <= k) w ns vn) :
  Shows (fun k => B <= k) w (.mk k m ns n (fun i => ts.getD i .nil)) (.agg #[.int .u8 k, .int .i64 m, vn, pv]) := by
 subst hn
 obtain ⟨cs, h1, h2⟩ := h
 refine ⟨vn, pv, rfl, hk, hn1, ht, ?_⟩
 rcases h1.2 with ⟨rfl, h0⟩ | ⟨g, cap, cur, rfl, hb, hg, hle, _, hs, htk⟩
 ·exact .inl ⟨h0, none, 0, rfl⟩
 ·refine .inr ⟨g, 0, cap, hb, rfl, hle, fun i hi => ?_⟩
  obtain ⟨x0, x1, x2, x3, a0, a1, a2, a3, hx⟩ := h2 i ts[i] (List.getElem?_eq_getElem hi)
  have hplain : ∀ j, (⟨g, 0, none⟩ : Addr).add j = ⟨g, j, none⟩ := fun j => by unfold Addr.add; split <;> simp_all
  have hc := fun (j : Nat) (u : Value) (hu : cs[j]? = some u) => World.ownsRow.cells (g := g) h1 rfl j u hu
  simp only [hplain] at hc
  rw [Nat.zero_add]
  refine ⟨x0, x1, x2, x3, hc _ _ a0, hc _ _ a1, hc _ _ a2, hc _ _ a3, ?_⟩
  have e : ts.getD i .nil = ts[i] := by simp [List.getD, hi]
  show Shows _ w (ts.getD i .nil) _
  rw [e]
  exact Shows.mono (fun k _ h => h.1) _ _ hx

theorem Try.infoType : (Try.prog.info? 36).map (fun i => (i.zero, i.size, i.bytes)) = some (some (.agg #[.int .u8 0, .int .i64 0, .slice none 0 0, .slice none 0 0]), 4, 64) := by kernel_rfl
end
section
theorem first_one4 {P : Program} {w : World} {g : Nat} {y0 y1 y2 y3 : Value} {t : TypeId} {fr : Nat × Nat} (c : Nat) (h : w.heap[g]? = some (.cells #[y0, y1, y2, y3] t fr)) :
  (Builtin.firstCells 4 1 (.slice (some ⟨g, 0, none⟩) 1 c)).run P w = .ok #[y0, y1, y2, y3] w := by
 have := run_firstCells_some (P := P) w 4 1 ⟨g, 0, none⟩ 1 c [y0, y1, y2, y3] rfl (by
  intro j v hj
  have hplain : (⟨g, 0, none⟩ : Addr).add j = ⟨g, j, none⟩ := by unfold Addr.add; split <;> simp_all
  rw [hplain, cell_of_row w g j _ t fr h]
  simpa using hj)
 simpa using this

set_option maxRecDepth 100000 in
theorem whole_rest (lv : Nat) (ih : WholeAt lv) (al : List (Txt × KT)) (k : Nat) (m : Int) (ns : List Txt) (n : Nat) (of : Nat -> KT) (R : Nat -> Prop) (v av : Value) (lz : Int) (lb l : Nat) (w : World) (hk9 : k ≠ 9) (hlz : lz = lv + 1) (hlv : lv <= 99) (hl : l <= 1000) (hR : ¬ R lb) (hsh : Shows R w (.mk k m ns n of) v) (hal : Aliases R w al av) (hb : w.heap[lb]? = some (.cells #[.int .i64 l] 3 (0, 0))) :
  Calls Try.prog 93 #[v, av, .int .i64 lz, .pointer (some ⟨lb, 0, none⟩)] w (Wholed (wholeE (lv + 1) al (.mk k m ns n of) l) lb w) := by
 obtain ⟨i0, hi, hz0, hz1, hz2⟩ := info_parts Try.infoType
 have hlb := lt_of_block hb
 obtain ⟨vn, vo, rfl, hk255, hn, ht, ho⟩ := hsh
 have Ht := hid ht
 obtain ⟨a, c, rfl, _⟩ := ht.shape
 obtain ⟨a', c', rfl, hso⟩ : ∃ a' c', vo = .slice a' n c' /\ (n = 0 \/ n <= c' /\ ∃ g off, R g /\ a' = some ⟨g, off, none⟩ /\ ∀ i, i < n -> ∃ x0 x1 x2 x3,
   w.cell? ⟨g, off + i * 4, none⟩ = some x0 /\ w.cell? ⟨g, off + i * 4 + 1, none⟩ = some x1 /\ w.cell? ⟨g, off + i * 4 + 2, none⟩ = some x2 /\ w.cell? ⟨g, off + i * 4 + 3, none⟩ = some x3 /\
   Shows R w (of i) (.agg #[x0, x1, x2, x3])) := by
  rcases ho with ⟨rfl, a', c', rfl⟩ | ⟨g, off, cap', hg, rfl, hle, hc⟩
  ·exact ⟨a', c', rfl, .inl rfl⟩
  ·exact ⟨_, cap', rfl, .inr ⟨hle, g, off, hg, rfl, hc⟩⟩
 have Hso := hid hso
 clear ho ht hso
 have hl' : (lz == 0) = false := by simp; omega
 have h9' : ((k : Int) == 9) = false := by simp; omega
 have hz0' : 1 <= lz := by omega
 have hz1' : lz <= 100 := by omega
 have Hlz := hid hlz
 have Hb := hid hb
 have Hal := hid hal
 have HK9 := hid hk9
 clear hlz hb hal hk9
 obtain ⟨f, hf⟩ : ∃ f, f = fun i l => wholeE lv al (of i) l := ⟨_, rfl⟩
 have e9 : wholeE (lv + 1) al (.mk k m ns n of) l = if l = 0 then ⟨6, zeroT, l⟩ else
   if (wholeAll f n (l - 1)).e = 0 then ⟨0, .mk k m ns n (fun i => (wholeAll f n (l - 1)).ts.getD i .nil), (wholeAll f n (l - 1)).left⟩ else ⟨(wholeAll f n (l - 1)).e, zeroT, (wholeAll f n (l - 1)).left⟩ := by
  simp only [wholeE, if_neg HK9.out, hf]
 have E9 := hid e9
 have HF := hid hf
 clear e9 hf
 obtain ⟨w0, hw0⟩ : ∃ w0, w0 = (w.alloc (.cells #[.int .u8 k, .int .i64 m, .slice a ns.length c, .slice a' n c'] 36)).alloc (.cells #[.int .u8 0, .int .i64 0, .slice none 0 0, .slice none 0 0] 36) := ⟨_, rfl⟩
 have f0 : Hid (Fr (fun _ => False) w w0) := hid (by rw [hw0]; exact ((Fr.refl _ _).alloc _).alloc _)
 have q4 : Hid (w0.heap[w.heap.size]? = some (.cells #[.int .u8 k, .int .i64 m, .slice a ns.length c, .slice a' n c'] 36 (0, 0))) := hid (by rw [hw0, Below.heap_alloc _ _ _ (by simp)]; exact heap_alloc_new _ _)
 have q8 : Hid (w0.heap[w.heap.size + 1]? = some (.cells #[.int .u8 0, .int .i64 0, .slice none 0 0, .slice none 0 0] 36 (0, 0))) := hid (by rw [hw0]; exact heap_alloc_two _ _ _)
 have q0 : Hid (w0.heap[lb]? = some (.cells #[.int .i64 l] 3 (0, 0))) := hid (box_kept Hb.out f0.out (fun h => h))
 have s0 : Hid (w0.heap.size = w.heap.size + 2) := hid (by rw [hw0]; simp)
 have cl := cell_of_one Hb.out
 have zl := free_of_one Hb.out
 by_cases hl0 : l = 0
 ·subst hl0
  go_enter Try.func93, Try.ntmps93
  go_wp2
  rw [<- hw0]
  refine bodyPost_ret (results_cell_tmp_row rfl _ _ (w.heap.size + 1) 36 _ _ _ rfl q8.out Try.underlying36 rfl (by kernel_rfl)) rfl ?_
  simp only [E9.out, if_true]
  exact wholed_zero (e := 6) (f0.out.mono (fun _ _ h => absurd h (fun h => h))) q0.out hl
 ·have hl0' : ((l : Int) == 0) = false := by simp; omega
  have hl1 : 1 <= l := by omega
  have HL0 := hid hl0
  clear hl0
  go_enter Try.func93, Try.ntmps93
  go_wp2
  obtain ⟨wz, hwz⟩ : ∃ wz, wz = w.setCell ⟨lb, 0, none⟩ (.int .i64 ((l : Int) - 1)) := ⟨_, rfl⟩
  have fz : Fr (fun k => k = lb) w wz := by
   rw [hwz]; exact Fr.setCell (p := ⟨lb, 0, none⟩) (Fr.refl (fun k => k = lb) w) (fun _ => rfl) _
  have sz : wz.heap.size = w.heap.size := by rw [hwz]; simp [World.setCell]
  have g0 : wz.heap[lb]? = some (.cells #[.int .i64 ((wholeAll f 0 (l - 1)).left : Nat)] 3 (0, 0)) := by
   rw [hwz, one_setCell Hb.out]
   show some (Obj.cells #[.int .i64 ((l : Int) - 1)] _ _) = some (Obj.cells #[.int .i64 ((l - 1 : Nat) : Int)] _ _)
   rw [show ((l - 1 : Nat) : Int) = (l : Int) - 1 by omega]
  rw [<- hwz]
  obtain ⟨w2, hw2⟩ : ∃ w2, w2 = (wz.alloc (.cells #[.int .u8 k, .int .i64 m, .slice a ns.length c, .slice a' n c'] 36)).alloc (.cells #[.int .u8 0, .int .i64 0, .slice none 0 0, .slice none 0 0] 36) := ⟨_, rfl⟩
  rw [<- hw2]
  have f2 : Fr (fun k => k = lb) w w2 := by rw [hw2]; exact (fz.alloc _).alloc _
  have g0 : w2.heap[lb]? = some (.cells #[.int .i64 ((wholeAll f 0 (l - 1)).left : Nat)] 3 (0, 0)) := by
   rw [hw2, Below.heap_alloc _ _ _ (by simp; omega), Below.heap_alloc _ _ _ (by omega)]; exact g0
  have g4 : w2.heap[w.heap.size]? = some (.cells #[.int .u8 k, .int .i64 m, .slice a ns.length c, .slice a' n c'] 36 (0, 0)) := by
   rw [hw2, Below.heap_alloc _ _ _ (by simp; omega), <- sz]; exact heap_alloc_new _ _
  have g8 : w2.heap[w.heap.size + 1]? = some (.cells #[.int .u8 0, .int .i64 0, .slice none 0 0, .slice none 0 0] 36 (0, 0)) := by
   rw [hw2, <- sz]; exact heap_alloc_two _ _ _
  have HSt := hid (And.intro f2 (And.intro g0 (And.intro g4 g8)))
  clear f2 g0 g4 g8 hw2 hw0 fz sz hwz
  go_loopg [13, 14, 15, 11, 55] n (fun G u13 u14 u15 u11 u55 wr => ∃ j : Nat, j <= n /\ G = n - j /\ u55 = .int .i64 j /\ Hid ((Fr (fun k => k = lb) w wr /\ wr.heap[lb]? = some (.cells #[.int .i64 ((wholeAll f j (l - 1)).left : Nat)] 3 (0, 0)) /\
   wr.heap[w.heap.size]? = some (.cells #[.int .u8 k, .int .i64 m, .slice a ns.length c, .slice a' n c'] 36 (0, 0)) /\ wr.heap[w.heap.size + 1]? = some (.cells #[.int .u8 0, .int .i64 0, .slice none 0 0, .slice none 0 0] 36 (0, 0))) /\
   (wholeAll f j (l - 1)).e = 0 /\ (wholeAll f j (l - 1)).ts.length = j /\ (wholeAll f j (l - 1)).left <= 1000 /\ TyRow (w.heap.size + 2) wr u11 (wholeAll f j (l - 1)).ts))
  case atStart => exact ⟨0, Nat.zero_le _, rfl, by go_num, hid ⟨HSt.out, rfl, rfl, (by show l - 1 <= 1000; omega), TyRow.nil _ _⟩⟩
  case round =>
   obtain ⟨j, hj, rfl, rfl, HI⟩ := hrel
   by_cases hlt : j < n
   ·rcases Hso.out with hz | ⟨hcap, g, off, hg, rfl, hcell⟩
    ·omega
    obtain ⟨x0, x1, x2, x3, y0, y1, y2, y3, hx⟩ := hcell j hlt
    have hgl : g < w.heap.size := World.block_lt_of_cell? w _ y0
    have nlb : ∀ k, R k -> ¬ k = lb := fun k hk e => hR (e ▸ hk)
    have y0 := cell_fr HI.out.1.1 nlb hg y0
    have y1 := cell_fr HI.out.1.1 nlb hg y1
    have y2 := cell_fr HI.out.1.1 nlb hg y2
    have y3 := cell_fr HI.out.1.1 nlb hg y3
    obtain ⟨pk, pm, pa, pn, pc, pa', pn', pc', rfl, rfl, rfl, rfl⟩ := hx.cells
    have hws : w.heap.size + 2 <= wr.heap.size := by have := lt_of_block HI.out.1.2.2.2; omega
    have NLB := hid nlb
    clear hcell nlb
    have hwr : IntKind.i64.wrap (lz - 1) = lz - 1 := IntWalk.i64_in _ (by omega)
    obtain ⟨wb, hwb⟩ : ∃ wb, wb = wr.alloc (.cells #[.int .u8 pk, .int .i64 pm, .slice pa pn pc, .slice pa' pn' pc'] 36) := ⟨_, rfl⟩
    have fb : Fr (fun _ => False) wr wb := by rw [hwb]; exact (Fr.refl _ _).alloc _
    have fwb : Fr (fun k => k = lb) w wb := HI.out.1.1.trans fb (fun _ _ h => absurd h (fun h => h))
    have swb : wb.heap.size = wr.heap.size + 1 := by rw [hwb]; simp
    have hcall := ih al (of j) R (.agg #[.int .u8 pk, .int .i64 pm, .slice pa pn pc, .slice pa' pn' pc']) av (lz - 1) lb (wholeAll f j (l - 1)).left wb (by have := Hlz.out; omega) (by omega) HI.out.2.2.2.1 hR
     (Shows.fr fwb (fun k hk => NLB.out k hk) _ _ hx) (Hal.out.fr fwb (fun k hk => NLB.out k hk)) (box_kept HI.out.1.2.1 fb (fun h => h))
    obtain ⟨r, hr⟩ : ∃ r, r = f j (wholeAll f j (l - 1)).left := ⟨_, rfl⟩
    have hr' : wholeE lv al (of j) (wholeAll f j (l - 1)).left = r := by rw [hr, HF.out]
    rw [hr', hwb] at hcall
    have HR := hid hr
    have HB := hid (And.intro hwb (And.intro fb (And.intro fwb swb)))
    clear hx hr hr' hwb fb fwb swb
    obtain ⟨E, hE⟩ : ∃ E, E = r.e := ⟨_, rfl⟩
    have HE := hid hE
    rw [show Wholed r lb = fun w0 e w' => ∃ tv, e = .returned (.tuple #[tv, .int .i64 (E : Nat)]) /\ Fr (fun k => k = lb) w0 w' /\ w'.heap[lb]? = some (.cells #[.int .i64 (r.left : Nat)] 3 (0, 0)) /\ Shows (fun k => w0.heap.size <= k) w' r.t tv /\ r.left <= 1000 by rw [hE]; rfl] at hcall
    clear hE
    go_wp2_with fail
    refine hcall.mono ?_
    rintro e w3 ⟨tv, rfl, f3, g3, hs3, hl3⟩
    obtain ⟨k2, m2, a2, n2, c2, a3, n3, c3, rfl⟩ := hs3.four
    rw [<- HB.out.1] at f3 hs3
    have h8 := box_kept (box_kept HI.out.1.2.2.2 HB.out.2.1 (fun h => h)) f3 (by omega)
    have h4 := box_kept (box_kept HI.out.1.2.2.1 HB.out.2.1 (fun h => h)) f3 (by omega)
    have hs3w : w.heap.size + 2 <= w3.heap.size := by have := f3.size; have := HB.out.2.2.2; omega
    go_upto_region 16 with fail
    obtain ⟨w4, hw4⟩ : ∃ w4, w4 = w3.alloc (.cells #[.int .u8 k2, .int .i64 m2, .slice a2 n2 c2, .slice a3 n3 c3] 36) := ⟨_, rfl⟩
    rw [<- hw4]
    have f4 : Fr (fun _ => False) w3 w4 := by rw [hw4]; exact (Fr.refl _ _).alloc _
    have h8 := box_kept h8 f4 (fun h => h)
    have h4 := box_kept h4 f4 (fun h => h)
    have h14 : w4.heap[w3.heap.size]? = some (.cells #[.int .u8 k2, .int .i64 m2, .slice a2 n2 c2, .slice a3 n3 c3] 36 (0, 0)) := by rw [hw4]; exact heap_alloc_new _ _
    have hs4 : w4.heap.size = w3.heap.size + 1 := by rw [hw4]; simp
    have g3 := box_kept g3 f4 (fun h => h)
    have hs3 := Shows.fr (R := fun k => wb.heap.size <= k) f4 fid2 _ _ hs3
    obtain ⟨b0, b1, b2, b3⟩ := cell_of_four h8
    obtain ⟨p0, p1, p2, p3⟩ := cell_of_four h14
    have z0 : w4.frozen? ⟨w.heap.size + 1, 0, none⟩ = false := by simp [World.frozen?, h8]
    have z1 : w4.frozen? ⟨w.heap.size + 1, 1, none⟩ = false := by simp [World.frozen?, h8]
    have z2 : w4.frozen? ⟨w.heap.size + 1, 2, none⟩ = false := by simp [World.frozen?, h8]
    have z3 : w4.frozen? ⟨w.heap.size + 1, 3, none⟩ = false := by simp [World.frozen?, h8]
    have H4 := hid (And.intro (HB.out.2.2.1.trans (f3.trans f4 (fun _ _ h => absurd h (fun h => h))) fid2) (And.intro (Fr.trans (S := fun k => k = lb) (HB.out.2.1.mono (fun _ _ h => absurd h (fun h => h))) (f3.trans f4 (fun _ _ h => absurd h (fun h => h))) fid2) (And.intro g3 (And.intro hs3 (And.intro hl3 (And.intro h8 h4))))))
    have hs4w : w.heap.size + 2 <= w4.heap.size := by omega
    clear f3 f4 g3 hs3 hl3 h8 h4 h14 hcall y0 y1 y2 y3 hw4 hs4
    by_cases he : E = 0
    ·subst he
     obtain ⟨cs, hown, hts⟩ := TyRow.fr HI.out.2.2.2.2 H4.out.2.1 (fun k hk h => by omega)
     rw [HI.out.2.2.1] at hown
     have HO := hid hown
     have HTS := hid hts
     clear hown hts
     have hws4 : w.heap.size + 2 <= (w4.alloc (.cells #[.int .u8 k2, .int .i64 m2, .slice a2 n2 c2, .slice a3 n3 c3] 36)).heap.size := by simp; omega
     go_wp2_with (at_builtin; refine wpList_append_sep rfl (.tmp 72) (.tmp 74) 34 34 rfl (w.heap.size + 2) 36 i0 (.agg #[.int .u8 0, .int .i64 0, .slice none 0 0, .slice none 0 0]) 4 64 Try.underlying34 _ Try.underlying34 (.inr ⟨_, rfl⟩) hi hz0 hz1 hz2 rfl (by decide) u11 j cs rfl ?own _ 1 [.int .u8 k2, .int .i64 m2, .slice a2 n2 c2, .slice a3 n3 c3] rfl (lenOf_slice _ _ _) rfl ?c1 ?c2 ?one ?b1 ?b2 ?base ?grow)
     case own => exact World.ownsRow.alloc HO.out _
     case c1 => exact first_one4 1 (heap_alloc_new _ _)
     case c2 => exact first_one4 1 (by exact heap_alloc_new _ _)
     case one => intro u hu; simp at hu; rcases hu with rfl | rfl | rfl | rfl <;> rfl
     case b1 => unfold maxLen; omega
     case b2 => omega
     case base => exact hws4
     case grow =>
      intro v' w5 hown hg hv
      have HG := hid (And.intro hown (And.intro hg hv))
      clear hown hg hv
      go_wp2
      go_roundg (n - (j + 1))
      case measure => omega
      case rel =>
       have est := wholeAll_step f j (l - 1) HI.out.2.1 (by rw [<- HR.out, <- HE.out])
       rw [<- HR.out] at est
       have fo : Fr (fun k => w.heap.size + 2 <= k) w4 w5 := ((Fr.refl _ _).alloc _).trans (Fr.of_grown HG.out.2.1) (fun i _ e => (World.ownsRow.lt HO.out i e.symm).1)
       have lt11 : ∀ k, u11.ownBlock = some k -> k < wr.heap.size := by
        obtain ⟨cs', h1, _⟩ := HI.out.2.2.2.2
        exact fun k hk => (World.ownsRow.lt h1 k hk).2
       have hst := Shows.mono (S := fun k => w.heap.size + 2 <= k /\ u11.ownBlock ≠ some k) (fun k _ h => ⟨by have := HB.out.2.2.2; omega, fun e => by have := lt11 k e; have := HB.out.2.2.2; omega⟩) _ _ H4.out.2.2.2.1
       refine ⟨j + 1, by omega, rfl, by go_num, hid ⟨⟨H4.out.1.trans fo (fun i hi h => by omega), ?_, box_kept H4.out.2.2.2.2.2.2 fo (by omega), box_kept H4.out.2.2.2.2.2.1 fo (by omega)⟩, ?_, ?_, ?_, ?_⟩⟩
       ·rw [est]; exact box_kept H4.out.2.2.1 fo (by omega)
       ·rw [est]
       ·rw [est]; simp [HI.out.2.2.1]
       ·rw [est]; exact H4.out.2.2.2.2.1
       ·rw [est]
        exact TyRow.push HTS.out (by rw [HO.out.1, HI.out.2.2.1]) (by rw [HI.out.2.2.1]) HG.out.1 ((Fr.refl _ _).alloc _) HG.out.2.1 (by simpa using HG.out.2.2) hst
    ·have he' : ¬ (E : Int) = 0 := by omega
     go_wp2
     refine bodyPost_ret (results_cell_tmp_row rfl _ _ (w.heap.size + 1) 36 _ _ _ rfl (store_four H4.out.2.2.2.2.2.1) Try.underlying36 rfl (by kernel_rfl)) rfl ?_
     have est := wholeAll_stop f n j (l - 1) hlt HI.out.2.1 (by rw [<- HR.out, <- HE.out]; exact he)
     rw [<- HR.out] at est
     rw [E9.out, if_neg HL0.out, est, if_neg (by rw [<- HE.out]; exact he), HE.out]
     exact wholed_zero (e := r.e) (fr_four _ _ _ _ H4.out.1 (fun h => by omega)) (by rw [other_four _ _ _ _ _ (by omega)]; exact H4.out.2.2.1) H4.out.2.2.2.2.1
   ·obtain rfl : j = n := by omega
    have hws : w.heap.size + 2 <= wr.heap.size := by have := lt_of_block HI.out.1.2.2.2; omega
    have HWS := hid hws
    have nlb : ∀ k, R k -> ¬ k = lb := fun k hk e => hR (e ▸ hk)
    have ht0 := (Ht.out.mono (S := fun k => R k /\ k < w.heap.size) (fun k hk h => ⟨h, hk⟩)).fr HI.out.1.1 (fun k hk => nlb k hk.1)
    have HT0 := hid ht0
    have HQ := hid (fun (wx : World) (f : Fr (fun k => k = w.heap.size + 1) wr.drew wx) =>
     And.intro (box_kept (w0 := wr.drew) HI.out.1.2.2.1 f (by omega)) (copied_names _ ns _ wx (Texts.fr HT0.out (S := fun k => k = w.heap.size + 1) ⟨f.os, f.tape, f.output, f.size, f.block⟩ (fun k hk h => by omega))))
    obtain ⟨ua, un, uc, rfl⟩ : ∃ ua un uc, u11 = .slice ua un uc := by
     obtain ⟨_, hown, _⟩ := HI.out.2.2.2.2
     obtain ⟨ua, uc, e⟩ := slice_of_own hown
     exact ⟨ua, _, uc, e⟩
    have g8 := hid HI.out.1.2.2.2
    have glb := hid HI.out.1.2.1
    have HTY := hid HI.out.2.2.2.2
    clear nlb ht0 hws
    go_wp2_with fail
    refine wp_region_toldU (by kernel_rfl) (fun a b => Fr (fun k => k = w.heap.size + 1) a b) (fun w => Fr.refl _ w) (fun _ _ _ h k => h.trans k fid2)
     [some 77, some 78, some 79, some 80, some 81, some 82, some 83, some 84, some 85, none, some 9] rfl (by decide) (by intro d hd; simp at hd ⊢; omega)
     (fun j wx => j = 9 -> wx.heap[w.heap.size + 1]? = some (.cells #[.int .u8 0, .int .i64 0, .slice none 0 0, .slice none 0 0] 36 (0, 0)))
     (fun j v wx => ([fun v _ => v = .pointer (some ⟨w.heap.size, 0, none⟩), fun v _ => v = .int .u8 k, fun v _ => v = .pointer (some ⟨w.heap.size, 1, none⟩), fun v _ => v = .int .i64 m, fun v _ => v = .pointer (some ⟨w.heap.size, 2, none⟩), fun v _ => v = .slice a ns.length c,
      fun v wx => Texts (fun k => w.heap.size + 2 <= k) wx ns v, fun v _ => v = (.slice ua un uc),
      fun v wx => ∃ vn, v = .agg #[.int .u8 k, .int .i64 m, vn, (.slice ua un uc)] /\ Texts (fun k => w.heap.size + 2 <= k) wx ns vn,
      fun _ wx => ∃ vn, wx.heap[w.heap.size + 1]? = some (.cells #[.int .u8 k, .int .i64 m, vn, (.slice ua un uc)] 36 (0, 0)) /\ Texts (fun k => w.heap.size + 2 <= k) wx ns vn,
      fun v _ => v = .int .i64 0] : List (Value -> World -> Prop)).getD j (fun _ _ => True) v wx)
     (by kernel_rfl) ?u0 ?step ?fin
    case u0 => exact fun j _ _ => g8.out
    case step =>
     intro vals
     simp only [frOfU, fillU, zsl]
     repeat' (first | exact AllOps.nil | refine AllOps.cons ?_ ?_)
     all_goals
      intro wx hle he hu hw K hK
      clear hw
      simp only [Act.put, zsl, zgl] at hK
      simp only [zml, Region.binds, forall_const, false_imp_iff, zgl] at he
      obtain ⟨hq4, hcn⟩ := HQ.out wx hle
      obtain ⟨y0, y1, y2, y3⟩ := cell_of_four hq4
      have HCN := hid hcn
      have FW0 : w.heap.size + 2 <= wx.heap.size := Nat.le_trans HWS.out hle.size
      clear hle hq4 hcn
     all_goals first | ((try simp only [he] at hK ⊢); go_simp; exact hK _ _ (Fr.refl _ _) rfl fid2 (fun _ _ _ h => h)) | skip
     ·simp only [he] at hK ⊢
      go_simp
      go_at_call 96
      refine HCN.out.mono ?_
      rintro e1 wa ⟨vn, rfl, ht, fa⟩
      have ht' := Texts.mono ht (S := fun k => w.heap.size + 2 <= k) (fun k _ h => Nat.le_trans FW0 h)
      refine hK _ _ (fa.mono (fun _ _ h => absurd h (fun h => h))) ht' ?_ ?_
      ·intro j hj h e
       have := h e
       rw [fa.block _ (lt_of_block this) (fun h => h)]; exact this
      ·refine fun j u _ => pres_list ?_ j u
       have st : ∀ u, Texts (fun k => w.heap.size + 2 <= k) wx ns u -> Texts (fun k => w.heap.size + 2 <= k) wa ns u := fun u h => h.fr fa fid2
       simp only [zml, imp_self, implies_true, true_and, and_true]
       refine ⟨fun u h => st u h, fun u h => ?_, fun u h => ?_⟩
       ·obtain ⟨vn, e, h⟩ := h
        exact ⟨vn, e, st _ h⟩
       ·obtain ⟨vn, e, h⟩ := h
        exact ⟨vn, by rw [fa.block _ (lt_of_block e) (fun h => h)]; exact e, st _ h⟩
     ·obtain ⟨h1, h3, h6, h7⟩ := he
      obtain ⟨na, nc, e6, _⟩ := h6.shape
      rw [e6] at h6
      simp only [h1, h3, h7, e6] at hK ⊢
      go_simp
      exact hK _ _ (Fr.refl _ _) ⟨_, rfl, h6⟩ fid2 (fun _ _ _ h => h)
     ·obtain ⟨vn, h8v, htx⟩ := he.1
      obtain ⟨na, nc, rfl, _⟩ := htx.shape
      clear he
      simp only [h8v] at hK ⊢
      have h8 := hu rfl
      obtain ⟨b0, b1, b2, b3⟩ := cell_of_four h8
      have z0 : wx.frozen? ⟨w.heap.size + 1, 0, none⟩ = false := by simp [World.frozen?, h8]
      have z1 : wx.frozen? ⟨w.heap.size + 1, 1, none⟩ = false := by simp [World.frozen?, h8]
      have z2 : wx.frozen? ⟨w.heap.size + 1, 2, none⟩ = false := by simp [World.frozen?, h8]
      have z3 : wx.frozen? ⟨w.heap.size + 1, 3, none⟩ = false := by simp [World.frozen?, h8]
      have H8 := hid h8
      clear h8 hu
      go_simp
      have f8 := fr_four (w := wx) (b := w.heap.size + 1) (.int .u8 k) (.int .i64 m) (.slice na ns.length nc) (.slice ua un uc) (S := fun k => k = w.heap.size + 1) (Fr.refl _ _) (fun _ => rfl)
      have st : ∀ u, Texts (fun k => w.heap.size + 2 <= k) wx ns u -> Texts (fun k => w.heap.size + 2 <= k) _ ns u := fun u h => h.fr f8 (fun k hk h => by omega)
      refine hK undef _ f8 ⟨_, store_four H8.out, st _ htx⟩ ?_ ?_
      ·intro j hj h e
       exact absurd e hj
      ·refine fun j u _ => pres_list ?_ j u
       simp only [zml, imp_self, implies_true, true_and, and_true]
       refine ⟨fun u h => st u h, fun u h => ?_, fun u h => ⟨_, store_four H8.out, st _ htx⟩⟩
       obtain ⟨vn, e, h⟩ := h
       exact ⟨vn, e, st _ h⟩
    case fin =>
     intro vals w' hle hV
     obtain ⟨vn, h8, htx⟩ := hV 9 (by decide)
     have h10 := hV 10 (by decide)
     clear hV
     simp only [zgl] at h10
     have fe : Fr (fun k => k = w.heap.size + 1) wr w' := ⟨hle.os, hle.tape, hle.output, hle.size, hle.block⟩
     simp only [frOfU, fillU, zsl, h10]
     go_wp2
     refine bodyPost_ret (results_cell_tmp_row rfl _ _ (w.heap.size + 1) 36 _ _ _ rfl h8 Try.underlying36 rfl (by kernel_rfl)) rfl ?_
     have e2 := E9.out
     rw [if_neg HL0.out, if_pos HI.out.2.1] at e2
     rw [e2]
     have hsh := TyRow.shows (m := m) (TyRow.fr HTY.out fe (fun k hk h => by omega)) HI.out.2.2.1 hk255 hn htx
     exact ⟨_, rfl, HI.out.1.1.trans fe (fun i hi h => by omega), box_kept glb.out fe (by omega), Shows.mono (fun k _ h => Nat.le_trans (Nat.le_add_right _ _) h) _ _ hsh, HI.out.2.2.2.1⟩

theorem whole_any (lv : Nat) : WholeAt lv := by
 induction lv with
 | zero =>
  intro al t R v av lz lb l w hlz _ hl hR hsh hal hb
  obtain rfl : lz = 0 := by simpa using hlz
  exact whole_zero al t R v av lb l w hl hsh hb
 | succ lv ih =>
  intro al t R v av lz lb l w hlz hlv hl hR hsh hal hb
  cases t with
  | nil => exact hsh.elim
  | mk k m ns n of =>
   by_cases hk : k = 9
   ·subst hk
    exact whole_ref lv ih al m ns n of R v av lz lb l w (by omega) (by omega) hl hR hsh hal hb
   ·exact whole_rest lv ih al k m ns n of R v av lz lb l w hk (by omega) (by omega) hl hR hsh hal hb
end
section
theorem validN_any (n : Int) (w : World) : Calls Try.prog 69 #[.int .i64 n] w fun e w' => e = .returned (.bool (validN n)) /\ w = w' := by
 by_cases h0 : 0 <= n <;> by_cases h1 : n <= 65535 <;>
  (
   go_enter Try.func69, Try.ntmps69
   go_wp2
   go_ret
   exact ⟨ret_bool (by simp [validN, h0, h1]), rfl⟩)

theorem cells_row {w : World} {b : Nat} {cs : Array Value} {t : TypeId} (h : w.heap[b]? = some (.cells cs t (0, 0))) (i : Nat) (u : Value) (hu : cs[i]? = some u) : w.cell? ⟨b, i, none⟩ = some u := by
 rw [cell_of_row w b i cs t (0, 0) h]; exact hu

set_option maxRecDepth 100000 in
theorem checkTypes_any (R : Nat -> Prop) (t : KTab) (v : Value) (b : Nat) (w : World) (ht : Tabled R w t v) (hR : ∀ k, R k -> k < b) (hb : b < w.heap.size) (hN : Nm (fun k => k < b) w b []) :
  Calls Try.prog 71 #[v, namer b] w fun e w' => e = .returned (.int .i64 (firstE (aliasE t.types) t.types.length)) /\ Fr (fun k => b <= k) w w' /\ (firstE (aliasE t.types) t.types.length = 0 -> Nm (fun k => k < b) w' b (t.types.map (·.1))) := by
 obtain ⟨tv, fv, pv, rfl, _, hal, hfl, hpl⟩ := ht
 obtain ⟨fa, fc, rfl, _⟩ := hfl.shape
 obtain ⟨pa, pc, rfl, _⟩ := hpl.shape
 have hall : t.types.length <= 1000 := hal.1
 have hnl := hid hal.2.1
 have Hal0 := hid hal
 obtain ⟨a, c, rfl, hs⟩ := hal.shape
 have Hal := hid hal
 have Hs := hid hs
 have HN := hid hN
 have HR := hid hR
 clear hal hs hN hR hfl hpl
 obtain ⟨w0, hw0⟩ : ∃ w0, w0 = w.alloc (.cells #[sv t.name, .int .i64 t.number, .int .i64 t.version, .slice a t.types.length c, .slice fa t.faults.length fc, .slice pa t.procs.length pc] 147) := ⟨_, rfl⟩
 have f0 : Hid (Fr (fun _ => False) w w0) := hid (by rw [hw0]; exact (Fr.refl _ _).alloc _)
 have q2 : Hid (w0.heap[w.heap.size]? = some (.cells #[sv t.name, .int .i64 t.number, .int .i64 t.version, .slice a t.types.length c, .slice fa t.faults.length fc, .slice pa t.procs.length pc] 147 (0, 0))) := hid (by rw [hw0]; exact heap_alloc_new _ _)
 have s0 : Hid (w0.heap.size = w.heap.size + 1) := hid (by rw [hw0]; simp)
 have c3 := cells_row q2.out 3 _ rfl
 unfold namer
 unfold sv at *
 go_enter Try.func71, Try.ntmps71
 go_wp2
 rw [<- hw0]
 clear hw0 c3
 go_loopg [5, 6, 7, 8, 12] t.types.length (fun G u5 u6 u7 u8 u12 wr => ∃ j : Nat, j <= t.types.length /\ G = t.types.length - j /\ u12 = .int .i64 j /\ Hid (firstE (aliasE t.types) j = 0 /\ Fr (fun k => b <= k) w wr /\
  wr.heap[w.heap.size]? = some (.cells #[.string ⟨t.name.toArray⟩, .int .i64 t.number, .int .i64 t.version, .slice a t.types.length c, .slice fa t.faults.length fc, .slice pa t.procs.length pc] 147 (0, 0)) /\
  Nm (fun k => k < b \/ k = w.heap.size) wr b ((t.types.take j).map (·.1))))
 case atStart => exact ⟨0, Nat.zero_le _, rfl, by go_num, hid ⟨rfl, f0.out.mono (fun _ _ h => absurd h (fun h => h)), q2.out, (HN.out.guard (Q := fun k => k < b \/ k = w.heap.size) (fun k hk h => by omega)).fr f0.out (fun _ h => absurd h (fun h => h))⟩⟩
 case round =>
  obtain ⟨j, hj, rfl, rfl, HI⟩ := hrel
  by_cases hlt : j < t.types.length
  ·rcases Hs.out with hz | ⟨hcap, g, off, hg, rfl, hcell⟩
   ·omega
   obtain ⟨nm, tt, htt⟩ : ∃ nm tt, t.types[j]? = some (nm, tt) := ⟨t.types[j].1, t.types[j].2, by rw [List.getElem?_eq_getElem hlt]⟩
   obtain ⟨x0, x1, x2, x3, y, y0, y1, y2, y3, hx⟩ := hcell j _ htt
   have nb : ∀ k, R k -> ¬ b <= k := fun k hk h => by have := HR.out k hk; omega
   have y := cell_fr HI.out.2.1 nb hg y
   have y0 := cell_fr HI.out.2.1 nb hg y0
   have y1 := cell_fr HI.out.2.1 nb hg y1
   have y2 := cell_fr HI.out.2.1 nb hg y2
   have y3 := cell_fr HI.out.2.1 nb hg y3
   have NB := hid nb
   obtain ⟨pk, pm, pa', pn, pc', pa2, pn2, pc2, rfl, rfl, rfl, rfl⟩ := hx.cells
   have HX := hid hx
   have hgd : t.types.getD j ([], .nil) = (nm, tt) := by rw [List.getD_eq_getElem?_getD, htt]; rfl
   have hnml : nm.length <= 1000 := hnl.out _ (List.mem_of_getElem? htt)
   have htk : (t.types.take (j + 1)).map (·.1) = (t.types.take j).map (·.1) ++ [nm] := by
    rw [List.take_add_one, htt]; simp
   have HGD := hid hgd
   have HTK := hid htk
   clear hcell nb hx htt hgd htk
   unfold sv at y
   -- the alias in its own box
   obtain ⟨wb, hwb⟩ : ∃ wb, wb = wr.alloc (.cells #[.string ⟨nm.toArray⟩, .int .u8 pk, .int .i64 pm, .slice pa' pn pc', .slice pa2 pn2 pc2] 142) := ⟨_, rfl⟩
   have fb : Fr (fun _ => False) wr wb := by rw [hwb]; exact (Fr.refl _ _).alloc _
   have qb : wb.heap[wr.heap.size]? = some (.cells #[.string ⟨nm.toArray⟩, .int .u8 pk, .int .i64 pm, .slice pa' pn pc', .slice pa2 pn2 pc2] 142 (0, 0)) := by rw [hwb]; exact heap_alloc_new _ _
   have sb : wb.heap.size = wr.heap.size + 1 := by rw [hwb]; simp
   have hwr : w.heap.size + 1 <= wr.heap.size := lt_of_block HI.out.2.2.1
   have hNb : Nm (fun k => (k < b \/ k = w.heap.size) \/ k = wr.heap.size) wb b ((t.types.take j).map (·.1)) :=
    (HI.out.2.2.2.guard (Q := fun k => (k < b \/ k = w.heap.size) \/ k = wr.heap.size) (fun k hk h => by rcases h with h | h; exact h; omega)).fr fb (fun _ h => absurd h (fun h => h))
   have hnx := name_next _ b ((t.types.take j).map (·.1)) nm wb hNb (fun k h => by omega) (by simp; omega) (by unfold maxLen; omega)
   unfold sv at hnx
   rw [hwb] at hnx
   have z0 := cells_row qb 0 _ rfl
   have HB := hid (And.intro hwb (And.intro fb (And.intro qb sb)))
   clear hwb fb qb sb hNb
   obtain ⟨E, hE⟩ : ∃ E, E = nameE ((t.types.take j).map (·.1)) nm := ⟨_, rfl⟩
   rw [<- hE] at hnx
   have HE := hid hE
   clear hE
   go_wp2_with fail
   refine hnx.mono ?_
   rintro e w2 ⟨rfl, f2, N2⟩
   rw [<- HB.out.1] at f2
   have HF2 := hid (And.intro f2 N2)
   clear f2 N2 hnx
   by_cases he : E = 0
   ·subst he
    have N2 := HF2.out.2 (by first | trivial | rfl)
    have qt := box_kept (box_kept HI.out.2.2.1 HB.out.2.1 (fun h => h)) HF2.out.1 (by omega)
    have qa := box_kept HB.out.2.2.1 HF2.out.1 (by omega)
    have fw2 : Fr (fun k => b <= k) w w2 := (HI.out.2.1.trans HB.out.2.1 (fun _ _ h => absurd h (fun h => h))).trans HF2.out.1 (fun i hi h => by omega)
    have hsl : ∀ wx : World, Fr (fun _ => False) w2.drew wx -> Calls Try.prog 80 #[.agg #[.int .u8 pk, .int .i64 pm, .slice pa' pn pc', .slice pa2 pn2 pc2], .slice (some ⟨g, off, none⟩) j c, .int .i64 5] wx fun e w' => e = .returned (.int .i64 (rightE (t.types.take j) tt 5)) /\ Fr (fun _ => False) wx w' := fun wx fx =>
     have fwx : Fr (fun k => b <= k) w wx := ⟨fx.os.trans fw2.os, fx.tape.trans fw2.tape, fx.output.trans fw2.output, Nat.le_trans fw2.size fx.size, fun i hi hs => (fx.block i (Nat.lt_of_lt_of_le hi fw2.size) (fun h => h)).trans (fw2.block i hi hs)⟩
     right_any (t.types.take j) tt R _ _ wx 5 5 rfl (by omega) (Shows.fr fwx (fun k hk => NB.out k hk) _ _ HX.out) ((Aliases.take Hal0.out j (by omega)).fr fwx (fun k hk => NB.out k hk))
    have HSL := hid hsl
    have HQ := hid (And.intro qt (And.intro qa (And.intro fw2 N2)))
    obtain ⟨E2, hE2⟩ : ∃ E2, E2 = rightE (t.types.take j) tt 5 := ⟨_, rfl⟩
    have HE2 := hid hE2
    clear hsl qt qa fw2 N2 z0 hE2 y y0 y1 y2 y3
    have hjc : (j : Int) <= (c : Int) := by omega
    have hj0 : (0 : Int) <= (j : Int) := by omega
    have ea : aliasE t.types j = E2 := by unfold aliasE; rw [HGD.out]; rw [if_pos HE.out.symm, HE2.out]
    have EA := hid ea
    clear ea
    go_wp2_with fail
    refine wp_region_told (by kernel_rfl) (fun a b => Fr (fun _ => False) a b) (fun w => Fr.refl _ w) (fun _ _ _ h k => h.trans k fid2)
     [24, 25, 26, 27, 28, 29, 30, 8] rfl (by decide) (by intro d hd; simp at hd ⊢; omega)
     (fun i v _ => v = [.pointer (some ⟨wr.heap.size, 1, none⟩), .agg #[.int .u8 pk, .int .i64 pm, .slice pa' pn pc', .slice pa2 pn2 pc2], .pointer (some ⟨w.heap.size, 3, none⟩), .slice (some ⟨g, off, none⟩) t.types.length c, .int .i64 j, .slice (some ⟨g, off, none⟩) j c, .int .i64 (E2 : Nat), .int .i64 (E2 : Nat)].getD i undef)
     (fun _ _ _ _ _ h => h) (by kernel_rfl) ?step ?fin
    case step =>
     intro vals
     simp only [frOf, fill, zsl]
     repeat' (first | exact AllOps.nil | refine AllOps.cons ?_ ?_)
     all_goals
      intro wx hle he K hK
      simp only [Act.put, zsl, zgl] at hK
      simp only [zml, Region.binds, forall_const, false_imp_iff, zgl] at he
      try simp only [he] at hK
      have hcall := HSL.out wx hle
      have fx : Fr (fun _ => False) w2 wx := ⟨hle.os, hle.tape, hle.output, hle.size, hle.block⟩
      have c3 := cells_row (box_kept HQ.out.1 fx (fun h => h)) 3 _ rfl
      have d1 := cells_row (box_kept HQ.out.2.1 fx (fun h => h)) 1 _ rfl
      have d2 := cells_row (box_kept HQ.out.2.1 fx (fun h => h)) 2 _ rfl
      have d3 := cells_row (box_kept HQ.out.2.1 fx (fun h => h)) 3 _ rfl
      have d4 := cells_row (box_kept HQ.out.2.1 fx (fun h => h)) 4 _ rfl
      clear hle fx
      try go_simp
      first
       | (go_at_call 80; refine hcall.mono ?_; rintro e1 wa ⟨rfl, fa⟩; rw [<- HE2.out]; exact hK _ _ fa rfl)
       | exact hK _ _ (Fr.refl _ _) rfl
    case fin =>
     intro vals w' hle hV
     have h7 : vals 7 = .int .i64 (E2 : Nat) := hV 7 (by decide)
     clear hV
     have fx : Fr (fun _ => False) w2 w' := ⟨hle.os, hle.tape, hle.output, hle.size, hle.block⟩
     have HFX := hid fx
     clear hle fx
     simp only [frOf, fill, zsl, h7]
     by_cases he2 : E2 = 0
     ·subst he2
      go_wp2
      go_roundg (t.types.length - (j + 1))
      case measure => omega
      case rel =>
       refine ⟨j + 1, by omega, rfl, by go_num, hid ⟨firstE_step _ _ HI.out.1 EA.out, HQ.out.2.2.1.trans HFX.out (fun _ _ h => absurd h (fun h => h)), box_kept HQ.out.1 HFX.out (fun h => h), ?_⟩⟩
       rw [HTK.out]
       exact (HQ.out.2.2.2.guard (Q := fun k => k < b \/ k = w.heap.size) (fun k _ h => .inl h)).fr HFX.out (fun _ h => absurd h (fun h => h))
     ·have he' : ¬ (E2 : Int) = 0 := by omega
      go_wp2
      go_ret
      have es : firstE (aliasE t.types) t.types.length = E2 := by rw [firstE_stop _ _ j hlt HI.out.1 (by rw [EA.out]; exact he2), EA.out]
      rw [es]
      exact ⟨rfl, HQ.out.2.2.1.trans HFX.out (fun _ _ h => absurd h (fun h => h)), fun h => absurd h he2⟩
   ·have he' : ¬ (E : Int) = 0 := by omega
    go_wp2
    go_ret
    have ea : aliasE t.types j = E := by unfold aliasE; rw [HGD.out]; rw [if_neg (by rw [<- HE.out]; exact he), HE.out]
    have es : firstE (aliasE t.types) t.types.length = E := by rw [firstE_stop _ _ j hlt HI.out.1 (by rw [ea]; exact he), ea]
    rw [es]
    refine ⟨rfl, (HI.out.2.1.trans HB.out.2.1 (fun _ _ h => absurd h (fun h => h))).trans HF2.out.1 (fun i hi h => by omega), fun h => absurd h he⟩
  ·obtain rfl : j = t.types.length := by omega
   go_wp2
   go_ret
   rw [HI.out.1]
   refine ⟨rfl, HI.out.2.1, fun _ => ?_⟩
   have := HI.out.2.2.2
   rw [List.take_length] at this
   exact this.guard (fun k _ h => .inl h)
end
section
theorem plain_add (g j : Nat) : (⟨g, 0, none⟩ : Addr).add j = ⟨g, j, none⟩ := by unfold Addr.add; split <;> simp_all

def sz : KT -> Nat
 | .nil => 1
 | .mk _ _ _ n of => 1 + ((List.range n).map fun i => sz (of i)).sum

theorem heap_alloc_first (w : World) (o o' : Obj) : ((w.alloc o).alloc o').heap[w.heap.size]? = some o := by
 rw [Below.heap_alloc _ _ _ (by simp)]; exact heap_alloc_new w o

theorem opWp_append {P : Program} {w : World} {o : Oper} {a : Act} {K : Act -> World -> Prop} {Q : Exit -> Act -> World -> Prop} (s x : Operand) (t u : TypeId)
  (ho : o.op = .call { callee := .builtin .append, args := #[s, x], argTypes := #[t, u] })
  (base : Nat) (e : TypeId) (i : TypeInfo) (z : Value) (size bytes : Nat) (ht : P.underlying t = some (.slice e)) (du : TypeDesc) (hu : P.underlying u = some du) (hud : du = .string \/ ∃ e', du = .slice e')
  (hi : P.info? e = some i) (hz : i.zero = some z)
  (hsize : i.size = size) (hby : i.bytes = bytes) (hzs : z.cells.size = size) (hsz : 0 < size)
  (v : Value) (n : Nat) (xs : List Value) (hs : a.eval s = v) (hown : w.ownsRow base e size v n xs)
  (xv : Value) (m : Nat) (news : List Value) (hx : a.eval x = xv) (hlen : ∀ w, (Builtin.lenOf xv).run P w = .ok m w) (hl : news.length = m * size)
  (hc : (Builtin.firstCells size m xv).run P w = .ok news.toArray w) (hc' : (Builtin.firstCells size m xv).run P w.drew = .ok news.toArray w.drew) (h1 : ∀ u ∈ news, u.oneCell' = true)
  (h63 : n + m <= maxLen) (hbytes : (n + m) * bytes <= 140737488355328) (hbase : base <= w.heap.size)
  (h : ∀ v' w', w'.ownsRow base e size v' (n + m) (xs ++ news) -> w.grownBy w' v.ownBlock -> (v'.ownBlock = v.ownBlock \/ v'.ownBlock = some w.heap.size) -> K (a.put o.dst v') w') : o.wp P a w K Q := by
 obtain ⟨v', w', hr, h2, h3, h4⟩ := run_append_sep (P := P) w base t u o.type e i z size bytes ht du hu hud hi hz hsize hby hzs hsz v n xs hown xv m news hlen hl hc hc' h1 h63 hbytes hbase
 unfold Oper.wp execOp
 simp only [ho, resolve, invoke, builtin, Sem.run_bind, Sem.run_pure, Result.andThen_ok, List.map_toArray, List.map_cons, List.map_nil, hs, hx, hr]
 exact h v' w' h2 h3 h4

theorem first_one8 {P : Program} {w : World} {g : Nat} {y0 y1 y2 y3 y4 y5 y6 y7 : Value} {t : TypeId} {fr : Nat × Nat} (c : Nat) (h : w.heap[g]? = some (.cells #[y0, y1, y2, y3, y4, y5, y6, y7] t fr)) :
  (Builtin.firstCells 8 1 (.slice (some ⟨g, 0, none⟩) 1 c)).run P w = .ok #[y0, y1, y2, y3, y4, y5, y6, y7] w := by
 have := run_firstCells_some (P := P) w 8 1 ⟨g, 0, none⟩ 1 c [y0, y1, y2, y3, y4, y5, y6, y7] rfl (by
  intro j v hj
  rw [plain_add, cell_of_row w g j _ t fr h]
  simpa using hj)
 simpa using this

theorem pres_but {L : List (Value -> World -> Prop)} {w w' : World} (k k' : Nat) {j : Nat} (hj : j ≠ k) (hj' : j ≠ k') (h : ∀ p ∈ (L.set k (fun _ _ => True)).set k' (fun _ _ => True), ∀ u, p u w -> p u w') : ∀ (u : Value), L.getD j (fun _ _ => True) u w -> L.getD j (fun _ _ => True) u w' := by
 intro u hu
 have e : L.getD j (fun _ _ => True) = ((L.set k (fun _ _ => True)).set k' (fun _ _ => True)).getD j (fun _ _ => True) := by
  rw [List.getD_eq_getElem?_getD, List.getD_eq_getElem?_getD, List.getElem?_set_ne (Ne.symm hj'), List.getElem?_set_ne (Ne.symm hj)]
 rw [e] at hu ⊢
 exact pres_list h j u hu

def Kids (R : Nat -> Prop) (w : World) (of : Nat -> KT) (a' : Option Addr) (n c' : Nat) : Prop :=
 n = 0 \/ n <= c' /\ ∃ g off, R g /\ a' = some ⟨g, off, none⟩ /\ ∀ i, i < n -> ∃ x0 x1 x2 x3,
   w.cell? ⟨g, off + i * 4, none⟩ = some x0 /\ w.cell? ⟨g, off + i * 4 + 1, none⟩ = some x1 /\ w.cell? ⟨g, off + i * 4 + 2, none⟩ = some x2 /\ w.cell? ⟨g, off + i * 4 + 3, none⟩ = some x3 /\
   Shows R w (of i) (.agg #[x0, x1, x2, x3])

theorem Kids.fr {R S : Nat -> Prop} {w w' : World} {of : Nat -> KT} {a' : Option Addr} {n c' : Nat} (h : Kids R w of a' n c') (hf : Fr S w w') (hS : ∀ k, R k -> ¬ S k) : Kids R w' of a' n c' := by
 rcases h with h | ⟨h1, g, off, hg, rfl, hc⟩
 ·exact .inl h
 ·refine .inr ⟨h1, g, off, hg, rfl, fun i hi => ?_⟩
  obtain ⟨x0, x1, x2, x3, c0, c1, c2, c3, hx⟩ := hc i hi
  exact ⟨x0, x1, x2, x3, cell_fr hf hS hg c0, cell_fr hf hS hg c1, cell_fr hf hS hg c2, cell_fr hf hS hg c3, Shows.fr hf hS _ _ hx⟩

theorem shows_open {R : Nat -> Prop} {w : World} {t : KT} {x0 x1 x2 x3 : Value} (h : Shows R w t (.agg #[x0, x1, x2, x3])) :
  ∃ (k : Nat) (m : Int) (ns : List Txt) (of : Nat -> KT) (a : Option Addr) (c : Nat) (a' : Option Addr) (n c' : Nat), t = .mk k m ns n of /\ x0 = .int .u8 k /\ x1 = .int .i64 m /\ x2 = .slice a ns.length c /\ x3 = .slice a' n c' /\ Texts R w ns (.slice a ns.length c) /\
   n <= 1000 /\ Kids R w of a' n c' := by
 cases t with
 | nil => exact h.elim
 | mk k m ns n of =>
  obtain ⟨vn, vo, e, _, hn, ht, ho⟩ := h
  simp at e
  obtain ⟨rfl, rfl, rfl, rfl⟩ := e
  obtain ⟨a, c, rfl, _⟩ := ht.shape
  rcases ho with ⟨rfl, a', c', rfl⟩ | ⟨g, off, cap, hg, rfl, hle, hc⟩
  ·exact ⟨k, m, ns, of, a, c, a', 0, c', rfl, rfl, rfl, rfl, rfl, ht, hn, .inl rfl⟩
  ·exact ⟨k, m, ns, of, a, c, _, n, cap, rfl, rfl, rfl, rfl, rfl, ht, hn, .inr ⟨hle, g, off, hg, rfl, hc⟩⟩
end
section
structure Shown (α : Type) where
 sh : (Nat -> Prop) -> World -> α -> List Value -> Prop
 fr : ∀ {R S : Nat -> Prop} {w w' : World} {x : α} {xs : List Value}, sh R w x xs -> Fr S w w' -> (∀ k, R k -> ¬ S k) -> sh R w' x xs
 mono : ∀ {R S : Nat -> Prop} {w : World} {x : α} {xs : List Value}, sh R w x xs -> (∀ k, k < w.heap.size -> R k -> S k) -> sh S w x xs

def ItRow {α : Type} (D : Shown α) (e : TypeId) (size B : Nat) (X : Nat -> Prop) (w : World) (pv : Value) (l : List α) : Prop :=
 ∃ cs : List Value, w.ownsRow B e size pv l.length cs /\ (∀ k, pv.ownBlock = some k -> ¬ X k) /\ ∀ (i : Nat) (x : α), l[i]? = some x -> ∃ xs : List Value, xs.length = size /\ (∀ (j : Nat) (u : Value), xs[j]? = some u -> cs[i * size + j]? = some u) /\
  D.sh (fun k => B <= k /\ ¬ X k /\ pv.ownBlock ≠ some k) w x xs

section
variable {α : Type} {D : Shown α} {e : TypeId} {size B : Nat} {X : Nat -> Prop} {w w' : World} {pv : Value} {l : List α}

theorem ItRow.nil (D : Shown α) (e : TypeId) (size B : Nat) (X : Nat -> Prop) (w : World) : ItRow D e size B X w (.slice none 0 0) [] := ⟨[], World.ownsRow_nil w B e size, by simp [Value.ownBlock], by simp⟩

theorem ItRow.fr {S : Nat -> Prop} (h : ItRow D e size B X w pv l) (f : Fr S w w') (hS : ∀ k, B <= k -> S k -> X k) : ItRow D e size B X w' pv l := by
 obtain ⟨cs, h1, h0, h2⟩ := h
 refine ⟨cs, ownsRow_fr h1 f (fun k hk hs => h0 k hk (hS k (World.ownsRow.lt h1 k hk).1 hs)), h0, fun i x hi => ?_⟩
 obtain ⟨xs, a, b, hx⟩ := h2 i x hi
 exact ⟨xs, a, b, D.fr hx f (fun k hk hs => hk.2.1 (hS k hk.1 hs))⟩

theorem ItRow.off {Y : Nat -> Prop} (h : ItRow D e size B X w pv l) (hY : ∀ k, k < w.heap.size -> Y k -> X k) : ItRow D e size B Y w pv l := by
 obtain ⟨cs, h1, h0, h2⟩ := h
 refine ⟨cs, h1, fun k hk hy => h0 k hk (hY k (World.ownsRow.lt h1 k hk).2 hy), fun i x hi => ?_⟩
 obtain ⟨xs, a, b, hx⟩ := h2 i x hi
 exact ⟨xs, a, b, D.mono hx (fun k hk h => ⟨h.1, fun hy => h.2.1 (hY k hk hy), h.2.2⟩)⟩

theorem ItRow.slice (h : ItRow D e size B X w pv l) : ∃ a c, pv = .slice a l.length c := by
 obtain ⟨cs, h1, _⟩ := h
 exact slice_of_own h1

theorem ItRow.own (h : ItRow D e size B X w pv l) (k : Nat) (hk : pv.ownBlock = some k) : B <= k /\ k < w.heap.size /\ ¬ X k := by
 obtain ⟨cs, h1, h0, _⟩ := h
 exact ⟨(World.ownsRow.lt h1 k hk).1, (World.ownsRow.lt h1 k hk).2, h0 k hk⟩

theorem ItRow.push {pv' : Value} {x : α} {news : List Value} (h : ItRow D e size B X w pv l) (hx : D.sh (fun k => B <= k /\ ¬ X k /\ pv.ownBlock ≠ some k) w x news) (hn : news.length = size)
  {cs : List Value} (hc : w.ownsRow B e size pv l.length cs) (ho : w'.ownsRow B e size pv' (l.length + 1) (cs ++ news)) (hg : w.grownBy w' pv.ownBlock) (hv : pv'.ownBlock = pv.ownBlock \/ pv'.ownBlock = some w.heap.size) (hX : ∀ k, X k -> k < w.heap.size) : ItRow D e size B X w' pv' (l ++ [x]) := by
 obtain ⟨cs', h1, h0, h2⟩ := h
 have hcs : cs' = cs := by
  have e1 := h1
  have e2 := hc
  have l1 := h1.1
  have l2 := hc.1
  by_cases hz : l.length = 0
  ·rw [hz, Nat.zero_mul] at l1 l2
   rw [List.eq_nil_of_length_eq_zero l1, List.eq_nil_of_length_eq_zero l2]
  ·rcases h1.2 with ⟨_, h0⟩ | ⟨g, cap, cur, rfl, hb, hgg, hle, _⟩
   ·exact absurd h0 hz
   ·refine List.ext_getElem? fun j => ?_
    by_cases hj : j < l.length * size
    ·have q1 := World.ownsRow.cells (g := g) h1 rfl j _ (List.getElem?_eq_getElem (by rw [l1]; exact hj))
     have q2 := World.ownsRow.cells (g := g) hc rfl j _ (List.getElem?_eq_getElem (by rw [l2]; exact hj))
     rw [q1] at q2
     rw [List.getElem?_eq_getElem (by rw [l1]; exact hj), List.getElem?_eq_getElem (by rw [l2]; exact hj)]
     exact q2
    ·rw [List.getElem?_eq_none (by rw [l1]; omega), List.getElem?_eq_none (by rw [l2]; omega)]
 subst hcs
 have key : ∀ (y : α) (ys : List Value), D.sh (fun k => B <= k /\ ¬ X k /\ pv.ownBlock ≠ some k) w y ys -> D.sh (fun k => B <= k /\ ¬ X k /\ pv'.ownBlock ≠ some k) w' y ys := by
  intro y ys h
  have h3 := D.fr (D.mono h (S := fun k => (B <= k /\ ¬ X k /\ pv.ownBlock ≠ some k) /\ k < w.heap.size) (fun k hk h => ⟨h, hk⟩)) (Fr.of_grown hg) (fun k hk e => hk.1.2.2 e.symm)
  refine D.mono h3 (fun k _ h => ⟨h.1.1, h.1.2.1, fun e => ?_⟩)
  rcases hv with e' | e'
  ·rw [e'] at e; exact h.1.2.2 e
  ·rw [e'] at e; cases e; exact absurd h.2 (Nat.lt_irrefl _)
 have l1 := h1.1
 refine ⟨cs' ++ news, by rw [List.length_append]; exact ho, ?_, fun i y hi => ?_⟩
 ·intro k hk hxk
  rcases hv with e' | e'
  ·rw [e'] at hk; exact h0 k hk hxk
  ·rw [e'] at hk; cases hk; exact absurd (hX _ hxk) (Nat.lt_irrefl _)
 by_cases hlt : i < l.length
 ·rw [List.getElem?_append_left hlt] at hi
  obtain ⟨xs, a, b, hy⟩ := h2 i y hi
  refine ⟨xs, a, fun j u hu => ?_, key _ _ hy⟩
  have := b j u hu
  rw [List.getElem?_append_left (List.getElem?_eq_some_iff.1 this).1]
  exact this
 ·have hi' := (List.getElem?_eq_some_iff.1 hi).1
  obtain rfl : i = l.length := by simp at hi'; omega
  rw [List.getElem?_append_right (Nat.le_refl _)] at hi
  simp at hi
  subst hi
  refine ⟨news, hn, fun j u hu => ?_, key _ _ hx⟩
  rw [List.getElem?_append_right (by omega), show l.length * size + j - cs'.length = j by omega]
  exact hu

theorem ItRow.cells (h : ItRow D e size B X w pv l) : (l = [] /\ ∃ a c, pv = .slice a 0 c) \/
  ∃ g cap, (B <= g /\ ¬ X g /\ g < w.heap.size) /\ pv = .slice (some ⟨g, 0, none⟩) l.length cap /\ l.length <= cap /\ ∀ (i : Nat) (x : α), l[i]? = some x -> ∃ xs : List Value, xs.length = size /\ (∀ (j : Nat) (u : Value), xs[j]? = some u -> w.cell? ⟨g, 0 + i * size + j, none⟩ = some u) /\
   D.sh (fun k => B <= k /\ ¬ X k /\ k < w.heap.size) w x xs := by
 obtain ⟨cs, h1, h0, h2⟩ := h
 rcases h1.2 with ⟨rfl, hz⟩ | ⟨g, cap, cur, rfl, hb, hgg, hle, _⟩
 ·exact .inl ⟨List.eq_nil_of_length_eq_zero hz, none, 0, rfl⟩
 ·refine .inr ⟨g, cap, ⟨hb, h0 g rfl, (World.ownsRow.lt h1 g rfl).2⟩, rfl, hle, fun i x hi => ?_⟩
  obtain ⟨xs, a, b, hx⟩ := h2 i x hi
  refine ⟨xs, a, fun j u hu => ?_, D.mono hx (fun k hk h => ⟨h.1, h.2.1, hk⟩)⟩
  have := World.ownsRow.cells (g := g) h1 rfl (i * size + j) u (b j u hu)
  rw [plain_add] at this
  rw [Nat.zero_add]
  exact this

theorem first_one {P : Program} {w : World} {g : Nat} {news : List Value} {t : TypeId} {fr : Nat × Nat} (c size : Nat) (hn : news.length = size) (h : w.heap[g]? = some (.cells news.toArray t fr)) :
  (Builtin.firstCells size 1 (.slice (some ⟨g, 0, none⟩) 1 c)).run P w = .ok news.toArray w := by
 have := run_firstCells_some (P := P) w size 1 ⟨g, 0, none⟩ 1 c news (by rw [hn, Nat.one_mul]) (by
  intro j v hj
  rw [plain_add, cell_of_row w g j _ t fr h]
  simpa using hj)
 simpa using this

theorem opWp_push {P : Program} {o : Oper} {a : Act} {K : Act -> World -> Prop} {Q : Exit -> Act -> World -> Prop} (s x : Operand) (t u : TypeId)
  (ho : o.op = .call { callee := .builtin .append, args := #[s, x], argTypes := #[t, u] })
  {z : Value} {bytes : Nat} (ht : P.underlying t = some (.slice e)) (hu : P.underlying u = some (.slice e))
  (hi : (P.info? e).map (fun i => (i.zero, i.size, i.bytes)) = some (some z, size, bytes)) (hzs : z.cells.size = size) (hsz : 0 < size)
  (hs : a.eval s = pv) (h : ItRow D e size B X w pv l) (gg : Nat) (hx : a.eval x = .slice (some ⟨gg, 0, none⟩) 1 1) {news : List Value} {tt : TypeId} {ff : Nat × Nat} (hgg : w.heap[gg]? = some (.cells news.toArray tt ff)) (hn : news.length = size) (h1 : ∀ u ∈ news, u.oneCell' = true)
  (hl : l.length <= 1000) (hb : bytes <= 1000) (hB : B <= w.heap.size) (hX : ∀ k, X k -> k < w.heap.size) (y : α) (hy : D.sh (fun k => B <= k /\ ¬ X k /\ pv.ownBlock ≠ some k) w y news)
  (hK : ∀ v' w', ItRow D e size B X w' v' (l ++ [y]) -> Fr (fun k => pv.ownBlock = some k) w w' -> (v'.ownBlock = pv.ownBlock \/ v'.ownBlock = some w.heap.size) -> K (a.put o.dst v') w') : o.wp P a w K Q := by
 obtain ⟨i0, hi0, hz0, hz1, hz2⟩ := info_parts hi
 have hr := h
 obtain ⟨cs, hown, _⟩ := hr
 refine opWp_append (P := P) s x t u ho B e i0 z size bytes ht _ hu (.inr ⟨_, rfl⟩) hi0 hz0 hz1 hz2 hzs hsz pv l.length cs hs hown (.slice (some ⟨gg, 0, none⟩) 1 1) 1 news hx (lenOf_slice _ _ _) (by omega) (first_one 1 size hn hgg) (first_one 1 size hn hgg) h1 (by unfold maxLen; omega) ?_ hB ?_
 ·have : (l.length + 1) * bytes <= 1001 * 1000 := Nat.mul_le_mul (by omega) hb
  omega
 ·intro v' w' ho' hg hv
  exact hK v' w' (h.push hy hn hown ho' hg hv hX) ((Fr.of_grown hg).mono (fun _ _ e => e.symm)) hv

end

theorem setCell_row {w : World} {b : Nat} {cs : Array Value} {t : TypeId} {f : Nat × Nat} (i : Nat) (y : Value) (h : w.heap[b]? = some (.cells cs t f)) :
  (w.setCell ⟨b, i, none⟩ y).heap[b]? = some (.cells (cs.setIfInBounds i y) t f) := by
 unfold World.setCell
 simp only [Array.getElem?_modify, if_true, h, Option.map_some]
 simp

def tyShown : Shown KT where
 sh R w t xs := ∃ x0 x1 x2 x3, xs = [x0, x1, x2, x3] /\ Shows R w t (.agg #[x0, x1, x2, x3])
 fr := by
  rintro R S w w' x xs ⟨x0, x1, x2, x3, rfl, h⟩ f hS
  exact ⟨x0, x1, x2, x3, rfl, Shows.fr f hS _ _ h⟩
 mono := by
  rintro R S w x xs ⟨x0, x1, x2, x3, rfl, h⟩ hS
  exact ⟨x0, x1, x2, x3, rfl, Shows.mono hS _ _ h⟩

def txShown : Shown Txt where
 sh _ _ t xs := xs = [sv t]
 fr := fun h _ _ => h
 mono := fun h _ => h

theorem ItRow.texts {B : Nat} {X : Nat -> Prop} {w : World} {pv : Value} {l : List Txt} (h : ItRow txShown 9 1 B X w pv l) (h1 : l.length <= 1000) (h2 : ∀ s ∈ l, s.length <= 1000) : Texts (fun k => B <= k /\ ¬ X k /\ k < w.heap.size) w l pv := by
 refine ⟨h1, h2, ?_⟩
 rcases h.cells with ⟨h3, a, c, h4⟩ | ⟨g, cap, hg, rfl, hle, hc⟩
 ·exact .inl ⟨h3, a, c, h4⟩
 ·refine .inr ⟨g, 0, cap, hg, rfl, hle, fun j s hj => ?_⟩
  obtain ⟨xs, _, hc, rfl⟩ := hc j s hj
  have := hc 0 _ rfl
  simpa using this

theorem ItRow.parts {B : Nat} {X : Nat -> Prop} {w : World} {pv vn : Value} {ts : List KT} {k n : Nat} {m : Int} {ns : List Txt} (h : ItRow tyShown 36 4 B X w pv ts) (hn : ts.length = n) (hk : k <= 255) (hn1 : n <= 1000) (ht : Texts (fun k => B <= k) w ns vn) (of : Nat -> KT) (hof : ∀ i x, ts[i]? = some x -> of i = x) :
  Shows (fun k => B <= k) w (.mk k m ns n of) (.agg #[.int .u8 k, .int .i64 m, vn, pv]) := by
 subst hn
 refine ⟨vn, pv, rfl, hk, hn1, ht, ?_⟩
 rcases h.cells with ⟨rfl, a, c, h4⟩ | ⟨g, cap, hg, rfl, hle, hc⟩
 ·exact .inl ⟨rfl, a, c, h4⟩
 ·refine .inr ⟨g, 0, cap, hg.1, rfl, hle, fun i hi => ?_⟩
  obtain ⟨xs, _, hc, x0, x1, x2, x3, rfl, hx⟩ := hc i ts[i] (List.getElem?_eq_getElem hi)
  refine ⟨x0, x1, x2, x3, hc 0 _ rfl, hc 1 _ rfl, hc 2 _ rfl, hc 3 _ rfl, ?_⟩
  rw [hof i _ (List.getElem?_eq_getElem hi)]
  exact Shows.mono (fun k _ h => h.1) _ _ hx
end
section
namespace Fl
open Ieee

theorem sw_eq : double.signWeight = 9223372036854775808 := by decide +kernel
theorem bin_eq : double.binade = 4503599627370496 := by decide +kernel
theorem inf_eq : double.infRung = 9218868437227405312 := by decide +kernel
theorem least_eq : double.leastPlace = -1074 := by decide +kernel
theorem frac_eq : double.fractionBits = 52 := rfl

def mag (r : Nat) : Nat := if r < 4503599627370496 then r else 4503599627370496 + r % 4503599627370496
def ex (r : Nat) : Nat := if r < 4503599627370496 then 0 else r / 4503599627370496 - 1
def V (r : Nat) : Nat := mag r * 2 ^ ex r
def neg (b : Nat) : Bool := b / 9223372036854775808 % 2 == 1
def rung (b : Nat) : Nat := b % 9223372036854775808
def isNaN (b : Nat) : Bool := decide (9218868437227405312 < rung b)
def key (b : Nat) : Int := if neg b then -(rung b : Int) else rung b

theorem nan_iff {b : Nat} : isNaN b = true ↔ 9218868437227405312 < rung b := by simp [isNaN]
theorem not_nan_iff {b : Nat} : isNaN b = false ↔ rung b <= 9218868437227405312 := by simp [isNaN]

theorem read_num {b : Nat} (h : rung b < 9218868437227405312) : double.read b = .number (neg b) (mag (rung b)) (-1074 + (ex (rung b) : Int)) := by
 have h' : b % 9223372036854775808 < 9218868437227405312 := h
 unfold Format.read
 simp only [sw_eq, bin_eq, inf_eq, least_eq, rung, neg, mag, ex]
 by_cases hs : b % 9223372036854775808 < 4503599627370496
 ·simp [hs]
 ·simp [hs, h']

theorem read_inf {b : Nat} (h : rung b = 9218868437227405312) : double.read b = .infinity (neg b) := by
 have h' : b % 9223372036854775808 = 9218868437227405312 := h
 unfold Format.read
 simp only [sw_eq, bin_eq, inf_eq, neg, h']
 simp

theorem read_nan {b : Nat} (h : isNaN b = true) : double.read b = .nan (neg b) (rung b - 9218868437227405312) := by
 have h' : 9218868437227405312 < b % 9223372036854775808 := nan_iff.1 h
 have h1 : ¬ b % 9223372036854775808 < 4503599627370496 := by omega
 have h2 : ¬ b % 9223372036854775808 < 9218868437227405312 := by omega
 have h3 : ¬ b % 9223372036854775808 = 9218868437227405312 := by omega
 unfold Format.read
 simp only [sw_eq, bin_eq, inf_eq, neg, rung]
 rw [if_neg h1, if_neg h2, if_neg h3]

theorem word_of (b : Nat) (hb : b < 18446744073709551616) : double.word (neg b) (rung b) = b := by
 unfold Format.word neg rung
 rw [sw_eq]
 by_cases h : b / 9223372036854775808 % 2 = 1
 ·simp only [h, beq_self_eq_true, if_true]; omega
 ·have h0 : (b / 9223372036854775808 % 2 == 1) = false := by simpa using h
  simp only [h0]; simp only [Bool.false_eq_true, if_false]; omega

theorem same_word {a b : Nat} (ha : a < 18446744073709551616) (hb : b < 18446744073709551616) (hn : neg a = neg b) (hr : rung a = rung b) : a = b := by
 rw [<- word_of a ha, <- word_of b hb, hn, hr]

theorem mag_ex (r : Nat) : r = ex r * 4503599627370496 + mag r := by
 unfold ex mag
 split <;> omega

theorem mag_zero {r : Nat} : mag r = 0 ↔ r = 0 := by
 unfold mag
 split <;> omega

theorem mag_lt (r : Nat) : mag r < 9007199254740992 := by
 unfold mag
 split <;> omega

theorem mag_ge {r : Nat} (h : 0 < ex r) : 4503599627370496 <= mag r := by
 unfold ex at h
 unfold mag
 split at h
 ·omega
 ·rename_i h'; rw [if_neg h']; omega

theorem V_succ (r : Nat) : V r < V (r + 1) := by
 unfold V
 by_cases h1 : r + 1 < 4503599627370496
 ·simp [mag, ex, h1, show r < 4503599627370496 by omega]
 ·by_cases h2 : r + 1 = 4503599627370496
  ·obtain rfl : r = 4503599627370495 := by omega
   decide +kernel
  ·have e0 : mag r = 4503599627370496 + r % 4503599627370496 := by unfold mag; rw [if_neg (by omega)]
   have e1 : mag (r + 1) = 4503599627370496 + (r + 1) % 4503599627370496 := by unfold mag; rw [if_neg (by omega)]
   have x0 : ex r = r / 4503599627370496 - 1 := by unfold ex; rw [if_neg (by omega)]
   have x1 : ex (r + 1) = (r + 1) / 4503599627370496 - 1 := by unfold ex; rw [if_neg (by omega)]
   by_cases h3 : r % 4503599627370496 + 1 = 4503599627370496
   ·have x2 : ex (r + 1) = ex r + 1 := by omega
    have m1 : mag (r + 1) = 4503599627370496 := by omega
    have m0 : mag r = 9007199254740991 := by omega
    rw [x2, m1, m0, Nat.pow_succ]
    have : 0 < 2 ^ ex r := Nat.two_pow_pos _
    omega
   ·have x2 : ex (r + 1) = ex r := by omega
    have m1 : mag (r + 1) = mag r + 1 := by omega
    rw [x2, m1, Nat.add_mul]
    have : 0 < 2 ^ ex r := Nat.two_pow_pos _
    omega

theorem V_lt {a b : Nat} (h : a < b) : V a < V b := by
 induction b with
 | zero => omega
 | succ n ih =>
  have := V_succ n
  by_cases e : a = n
  ·subst e; exact this
  ·have := ih (by omega); omega

theorem V_lt_iff {a b : Nat} : V a < V b ↔ a < b := by
 refine ⟨fun h => ?_, V_lt⟩
 rcases Nat.lt_trichotomy a b with h' | h' | h'
 ·exact h'
 ·subst h'; omega
 ·have := V_lt h'; omega

theorem V_zero : V 0 = 0 := by decide +kernel
theorem V_pos {r : Nat} : V r = 0 ↔ r = 0 := by
 refine ⟨fun h => ?_, fun h => by subst h; exact V_zero⟩
 rcases Nat.eq_zero_or_pos r with h' | h'
 ·exact h'
 ·have := V_lt h'; rw [V_zero] at this; omega

theorem signed_eq (s : Bool) (m u : Nat) : signed s m u = if s then -((m * 2 ^ u : Nat) : Int) else ((m * 2 ^ u : Nat) : Int) := by
 unfold signed
 rw [Nat.shiftLeft_eq]

theorem compare_int (x y x' y' : Int) (h : x < y ↔ x' < y') (h' : y < x ↔ y' < x') : compare x y = compare x' y' := by
 show compareOfLessAndEq x y = compareOfLessAndEq x' y'
 unfold compareOfLessAndEq
 by_cases h1 : x < y
 ·rw [if_pos h1, if_pos (h.1 h1)]
 ·rw [if_neg h1, if_neg (fun q => h1 (h.2 q))]
  by_cases h2 : x = y
  ·rw [if_pos h2, if_pos (by omega)]
  ·rw [if_neg h2, if_neg (by omega)]

theorem order_nan {a b : Nat} (h : isNaN a = true \/ isNaN b = true) : double.order a b = none := by
 unfold Format.order
 rcases h with h | h
 ·rw [read_nan h]; rfl
 ·rw [read_nan h]; cases double.read a <;> rfl

theorem order_num_num (s t : Bool) (m n : Nat) (i j : Int) : (Datum.number s m i).order (.number t n j) = some (compare (signed s m (i - min i j).toNat) (signed t n (j - min i j).toNat)) := rfl

theorem order_finite {a b : Nat} (ha : rung a < 9218868437227405312) (hb : rung b < 9218868437227405312) : double.order a b = some (compare (key a) (key b)) := by
 unfold Format.order
 rw [read_num ha, read_num hb, order_num_num]
 generalize hra : rung a = ra at *
 generalize hrb : rung b = rb at *
 congr 1
 have hd : ∃ d : Nat, d <= ex ra /\ d <= ex rb /\ (-1074 + (ex ra : Int) - min (-1074 + (ex ra : Int)) (-1074 + (ex rb : Int))).toNat = ex ra - d /\ (-1074 + (ex rb : Int) - min (-1074 + (ex ra : Int)) (-1074 + (ex rb : Int))).toNat = ex rb - d :=
  ⟨min (ex ra) (ex rb), by omega, by omega, by omega, by omega⟩
 obtain ⟨d, h1, h2, e1, e2⟩ := hd
 rw [e1, e2, signed_eq, signed_eq]
 have v1 : V ra = mag ra * 2 ^ (ex ra - d) * 2 ^ d := by
  unfold V; rw [Nat.mul_assoc, <- Nat.pow_add, Nat.sub_add_cancel h1]
 have v2 : V rb = mag rb * 2 ^ (ex rb - d) * 2 ^ d := by
  unfold V; rw [Nat.mul_assoc, <- Nat.pow_add, Nat.sub_add_cancel h2]
 generalize mag ra * 2 ^ (ex ra - d) = X at *
 generalize mag rb * 2 ^ (ex rb - d) = Y at *
 have hp : 0 < 2 ^ d := Nat.two_pow_pos _
 have c1 : X < Y ↔ ra < rb := by rw [<- @V_lt_iff ra rb, v1, v2]; exact (Nat.mul_lt_mul_right hp).symm
 have c2 : Y < X ↔ rb < ra := by rw [<- @V_lt_iff rb ra, v1, v2]; exact (Nat.mul_lt_mul_right hp).symm
 have z1 : X = 0 ↔ ra = 0 := by
  rw [<- @V_pos ra, v1, Nat.mul_eq_zero]; constructor
  ·exact Or.inl
  ·rintro (h | h); exact h; omega
 have z2 : Y = 0 ↔ rb = 0 := by
  rw [<- @V_pos rb, v2, Nat.mul_eq_zero]; constructor
  ·exact Or.inl
  ·rintro (h | h); exact h; omega
 unfold key
 rw [hra, hrb]
 refine compare_int _ _ _ _ ?_ ?_ <;> cases neg a <;> cases neg b <;> simp only [if_true, if_false, Bool.false_eq_true] <;> omega

theorem order_num {a b : Nat} (ha : isNaN a = false) (hb : isNaN b = false) : double.order a b = some (compare (key a) (key b)) := by
 have ha' := not_nan_iff.1 ha
 have hb' := not_nan_iff.1 hb
 by_cases h1 : rung a = 9218868437227405312
 ·by_cases h2 : rung b = 9218868437227405312
  ·unfold Format.order
   rw [read_inf h1, read_inf h2]
   unfold key
   rw [h1, h2]
   cases neg a <;> cases neg b <;> rfl
  ·have h2' : rung b < 9218868437227405312 := by omega
   unfold Format.order
   rw [read_inf h1, read_num h2']
   show some (if neg a then Ordering.lt else .gt) = _
   congr 1
   unfold key
   rw [h1]
   show _ = compareOfLessAndEq _ _
   unfold compareOfLessAndEq
   cases neg a <;> cases neg b <;> simp only [if_true, if_false, Bool.false_eq_true]
   ·rw [if_neg (by omega), if_neg (by omega)]
   ·rw [if_neg (by omega), if_neg (by omega)]
   ·rw [if_pos (by omega)]
   ·rw [if_pos (by omega)]
 ·have h1' : rung a < 9218868437227405312 := by omega
  by_cases h2 : rung b = 9218868437227405312
  ·unfold Format.order
   rw [read_num h1', read_inf h2]
   show some (if neg b then Ordering.gt else .lt) = _
   congr 1
   unfold key
   rw [h2]
   show _ = compareOfLessAndEq _ _
   unfold compareOfLessAndEq
   cases neg a <;> cases neg b <;> simp only [if_true, if_false, Bool.false_eq_true]
   ·rw [if_pos (by omega)]
   ·rw [if_neg (by omega), if_neg (by omega)]
   ·rw [if_pos (by omega)]
   ·rw [if_neg (by omega), if_neg (by omega)]
  ·exact order_finite h1' (by omega)

theorem compare_lt {x y : Int} : (some (compare x y) == some Ordering.lt) = decide (x < y) := by
 show (some (compareOfLessAndEq x y) == _) = _
 unfold compareOfLessAndEq
 by_cases h : x < y
 ·simp [h]
 ·by_cases h' : x = y <;> simp [h, h']
theorem compare_eq {x y : Int} : (some (compare x y) == some Ordering.eq) = decide (x = y) := by
 show (some (compareOfLessAndEq x y) == _) = _
 unfold compareOfLessAndEq
 by_cases h : x < y
 ·have : ¬ x = y := by omega
  simp [h, this]
 ·by_cases h' : x = y <;> simp [h, h']
theorem compare_gt {x y : Int} : (some (compare x y) == some Ordering.gt) = decide (y < x) := by
 show (some (compareOfLessAndEq x y) == _) = _
 unfold compareOfLessAndEq
 by_cases h : x < y
 ·have : ¬ y < x := by omega
  simp [h, this]
 ·by_cases h' : x = y
  ·subst h'; simp
  ·have : y < x := by omega
   simp [h, h', this]

theorem self_ne (b : Nat) : (double.order b b != some .eq) = isNaN b := by
 cases h : isNaN b
 ·rw [order_num h h]
  show (!_) = _
  rw [compare_eq]; simp
 ·rw [order_nan (.inl h)]; rfl

theorem log2_mul (m k : Nat) (h0 : m ≠ 0) : (m * 2 ^ k).log2 = m.log2 + k := by
 have h2k : 0 < 2 ^ k := Nat.two_pow_pos _
 have hne : m * 2 ^ k ≠ 0 := Nat.mul_ne_zero h0 (by omega)
 have a1 : 2 ^ m.log2 <= m := (Nat.le_log2 h0).1 (Nat.le_refl _)
 have a2 : m < 2 ^ (m.log2 + 1) := (Nat.log2_lt h0).1 (Nat.lt_succ_self _)
 apply Nat.le_antisymm
 ·have : (m * 2 ^ k).log2 < m.log2 + 1 + k := by
   rw [Nat.log2_lt hne, Nat.pow_add]
   exact Nat.mul_lt_mul_of_pos_right a2 h2k
  omega
 ·rw [Nat.le_log2 hne, Nat.pow_add]
  exact Nat.mul_le_mul_right _ a1

theorem cut_exact (s : Bool) (m k : Nat) (h0 : m ≠ 0) : Toward.even.cut s (m * 2 ^ k) k = m := by
 have h2k : 0 < 2 ^ k := Nat.two_pow_pos _
 unfold Toward.cut
 have g : 1 <<< min k ((m * 2 ^ k).log2 + 2) = 2 ^ k := by
  rw [log2_mul m k h0, Nat.min_eq_left (by omega), Nat.shiftLeft_eq, Nat.one_mul]
 simp only [g]
 rw [Nat.mul_div_cancel _ h2k, Nat.mul_mod_left]
 have e1 : decide (2 ^ k < 2 * 0) = false := by simp
 have e2 : (2 ^ k == 2 * 0) = false := by simp
 simp only [e1, e2]
 rfl

theorem nearest_zero (s : Bool) (place : Int) : double.nearest s 0 place = double.word s 0 := by
 unfold Format.nearest
 rw [if_pos rfl]

theorem nearest_last (s : Bool) (m : Nat) (place last : Int) (h0 : m ≠ 0) (hl : max (place + (m.log2 : Int) - 52) (-1074) = last) :
  double.nearest s m place = double.word s (min ((last + 1074).toNat * 4503599627370496 + Toward.even.cut s (m <<< (place - last).toNat) (last - place).toNat) 9218868437227405312) := by
 unfold Format.nearest
 rw [if_neg h0, bin_eq, inf_eq, least_eq, frac_eq]
 have hl' : max (place + (m.log2 : Int) - ((52 : Nat) : Int)) (-1074) = last := hl
 simp only [hl']
 rw [show last - -1074 = last + 1074 by omega]

theorem nearest_exact (s : Bool) (r k : Nat) (hr : r < 9218868437227405312) (place : Int) (hp : place = -1074 + (ex r : Int) - k) :
  double.nearest s (mag r * 2 ^ k) place = double.word s r := by
 have hme := mag_ex r
 by_cases h0 : mag r = 0
 ·have hr0 : r = 0 := mag_zero.1 h0
  rw [h0, Nat.zero_mul, nearest_zero, hr0]
 have h2k : 0 < 2 ^ k := Nat.two_pow_pos _
 have hne : mag r * 2 ^ k ≠ 0 := Nat.mul_ne_zero h0 (by omega)
 have hl52 : (mag r).log2 < 53 := by rw [Nat.log2_lt h0]; exact mag_lt r
 have hge : 0 < ex r -> 52 <= (mag r).log2 := by
  intro hx
  rw [Nat.le_log2 h0]; exact mag_ge hx
 have hlast : max (place + ((mag r * 2 ^ k).log2 : Int) - 52) (-1074) = -1074 + (ex r : Int) := by
  rw [log2_mul _ k h0, hp]
  omega
 rw [nearest_last s _ place _ hne hlast]
 have t1 : (place - (-1074 + (ex r : Int))).toNat = 0 := by omega
 have t2 : (-1074 + (ex r : Int) - place).toNat = k := by omega
 have t3 : (-1074 + (ex r : Int) + 1074).toNat = ex r := by omega
 rw [t1, t2, t3, Nat.shiftLeft_zero, cut_exact s _ k h0, <- hme, Nat.min_eq_left (by omega)]

end Fl
end
section
namespace Fl
open Ieee

def canon (b : Nat) : Nat := if isNaN b then 9221120237041090560 else b

def opp (b : Nat) : Nat := b ^^^ 9223372036854775808

theorem opp_neg (b : Nat) : neg (opp b) = !neg b := by
 have e : ∀ x : Nat, neg x = x.testBit 63 := by
  intro x
  unfold neg
  rw [Nat.testBit_eq_decide_div_mod_eq]
  show _ = decide (x / 9223372036854775808 % 2 = 1)
  by_cases h : x / 9223372036854775808 % 2 = 1 <;> simp [h]
 rw [e, e]
 unfold opp
 rw [Nat.testBit_xor, show Nat.testBit 9223372036854775808 63 = true by decide +kernel]
 simp
theorem opp_rung (b : Nat) : rung (opp b) = rung b := by
 unfold opp rung
 rw [show (9223372036854775808 : Nat) = 2 ^ 63 from rfl, Nat.xor_mod_two_pow, Nat.mod_self, Nat.xor_zero]
theorem opp_nan (b : Nat) : isNaN (opp b) = isNaN b := by unfold isNaN; rw [opp_rung]

theorem read_opp (b : Nat) : double.read (opp b) = (double.read b).opposite := by
 cases h : isNaN b
 ·have h' := not_nan_iff.1 h
  by_cases hi : rung b = 9218868437227405312
  ·rw [read_inf hi, read_inf (by rw [opp_rung]; exact hi), opp_neg]; rfl
  ·rw [read_num (b := b) (by omega), read_num (b := opp b) (by rw [opp_rung]; omega), opp_neg, opp_rung]; rfl
 ·rw [read_nan h, read_nan (b := opp b) (by rw [opp_nan]; exact h), opp_neg, opp_rung]; rfl

theorem sum_comm (x y : Datum) : x.sum y = y.sum x := by
 cases x with
 | nan s t => cases y <;> rfl
 | infinity s =>
  cases y with
  | nan => rfl
  | infinity t =>
   show (if s = t then some (Datum.infinity s) else none) = if t = s then some (Datum.infinity t) else none
   cases s <;> cases t <;> rfl
  | number => rfl
 | number s m i =>
  cases y with
  | nan => rfl
  | infinity t => rfl
  | number t n j =>
   unfold Datum.sum
   simp only [Int.min_comm j i, Int.add_comm (signed t n _), Bool.and_comm t s]

theorem product_comm (x y : Datum) : x.product y = y.product x := by
 cases x with
 | nan s t => cases y <;> rfl
 | infinity s =>
  cases y with
  | nan => rfl
  | infinity t => show some (Datum.infinity (s ^^ t)) = some (Datum.infinity (t ^^ s)); rw [Bool.xor_comm]
  | number t n j => rfl
 | number s m i =>
  cases y with
  | nan => rfl
  | infinity t => rfl
  | number t n j =>
   show some (Datum.number (s ^^ t) (m * n) (i + j)) = some (Datum.number (t ^^ s) (n * m) (j + i))
   rw [Bool.xor_comm, Nat.mul_comm, Int.add_comm]

theorem add_comm (a b : Nat) : double.add a b = double.add b a := by unfold Format.add; rw [sum_comm]
theorem mul_comm (a b : Nat) : double.mul a b = double.mul b a := by unfold Format.mul; rw [product_comm]

theorem write_number (s : Bool) (r k : Nat) (hr : r < 9218868437227405312) (m : Nat) (hm : m = mag r * 2 ^ k) (place : Int) (hp : place = -1074 + (ex r : Int) - k) :
  double.write (.number s m place) = double.word s r := by
 subst hm
 exact nearest_exact s r k hr place hp

theorem read_one : double.read 4607182418800017408 = .number false 4503599627370496 (-52) := by decide +kernel

theorem mul_one {a : Nat} (ha : a < 18446744073709551616) (h : isNaN a = false) : double.mul a 4607182418800017408 = some a := by
 have h' := not_nan_iff.1 h
 unfold Format.mul
 rw [read_one]
 by_cases hi : rung a = 9218868437227405312
 ·rw [read_inf hi]
  show some (double.word (neg a ^^ false) double.infRung) = some a
  rw [inf_eq, Bool.xor_false, <- hi, word_of a ha]
 ·have hr : rung a < 9218868437227405312 := by omega
  rw [read_num hr]
  show some (double.write (.number (neg a ^^ false) (mag (rung a) * 4503599627370496) (-1074 + (ex (rung a) : Int) + -52))) = some a
  rw [Bool.xor_false, write_number (neg a) (rung a) 52 hr _ rfl _ (by omega), word_of a ha]

def tr (b : Nat) : Int :=
 match (double.read b).toInt .zero with
 | some n => n
 | none => 0

theorem toInt_num (s : Bool) (m : Nat) (i : Int) : (Datum.number s m i).toInt .zero = some (signed s (Toward.zero.cut s (m <<< i.toNat) (-i).toNat) 0) := rfl
theorem cut_zero (s : Bool) (n d : Nat) : Toward.zero.cut s n d = n / (1 <<< min d (n.log2 + 2)) := rfl

theorem toInt_small {b : Nat} (h : rung b <= 4746794007248502784) : ∃ c : Nat, c < 9007199254740992 /\ (double.read b).toInt .zero = some (if neg b then -(c : Int) else c) /\ (double.read (opp b)).toInt .zero = some (if neg b then (c : Int) else -(c : Int)) := by
 have hx : ex (rung b) <= 1053 := by unfold ex; split <;> omega
 rw [read_opp, read_num (by omega)]
 refine ⟨Toward.zero.cut (neg b) (mag (rung b) <<< (-1074 + (ex (rung b) : Int)).toNat) (-(-1074 + (ex (rung b) : Int))).toNat, ?_, ?_, ?_⟩
 ·rw [cut_zero, show (-1074 + (ex (rung b) : Int)).toNat = 0 by omega, Nat.shiftLeft_zero]
  exact Nat.lt_of_le_of_lt (Nat.div_le_self _ _) (mag_lt _)
 ·rw [toInt_num, signed_eq]
  simp
 ·show (Datum.number (!neg b) _ _).toInt .zero = _
  rw [toInt_num, signed_eq, cut_zero, cut_zero]
  cases neg b <;> simp

theorem toInt_val {b : Nat} (h : rung b <= 4746794007248502784) : floatToIntVal .f64 b .i64 = some (tr b) := by
 obtain ⟨c, hc, e, _⟩ := toInt_small h
 unfold floatToIntVal tr
 have e' : (FloatKind.decode .f64 b).toInt .zero = some (if neg b then -(c : Int) else c) := e
 rw [e', e]
 have : IntKind.i64.min <= (if neg b then -(c : Int) else c) /\ (if neg b then -(c : Int) else c) <= IntKind.i64.max := by
  rw [show IntKind.i64.min = -9223372036854775808 from rfl, show IntKind.i64.max = 9223372036854775807 from rfl]
  cases neg b <;> simp <;> omega
 simp only [this, and_self, if_true]

def whole (b : Nat) : Int :=
 if isNaN b then 0
 else if 4746794007248502784 <= key b then 2147483648
 else if key b <= -4746794007248502784 then -2147483648
 else tr b

end Fl
end
end Go.Proofs.Ytohfejpjjjaejaa
