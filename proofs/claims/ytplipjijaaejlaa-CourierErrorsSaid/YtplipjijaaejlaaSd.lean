/-
  CouAny, part 4 of what it rests on: ValSame, ValHas, KindFaults, KindProcs, KindCheckProcs, KindCheckAll, ValAlone, ValRight, ValBuildE.
-/
import Derived.Test.YtplipjijaaejlaaSc
import Derived.BigRegion
import Derived.IntWalk
import Derived.Deep.Cut
import Derived.Deep.CutRange
import Derived.Deep.OwnRows
set_option linter.unusedVariables false
set_option linter.unusedSimpArgs false
set_option maxHeartbeats 32000000
namespace Go.Proofs.Ytplipjijaaejlaa
open Go.RowKit
open Go.Lib (hid)
section
attribute [local go_sem] run_store_float

theorem Try.infoPair : (Try.prog.info? 73).map (fun i => (i.zero, i.size, i.bytes)) = some (some (.agg #[.int .i64 0, .float .f64 0, .string ⟨#[]⟩, .slice none 0 0, .int .i64 0, .float .f64 0, .string ⟨#[]⟩, .slice none 0 0]), 8, 112) := by kernel_rfl

set_option maxRecDepth 100000 in
theorem vsame_any (R : Nat → Prop) (a b : VT) (va vb : Value) (w : World) (ha : VShows R w a va) (hb : VShows R w b vb) (hsz : szV a ≤ 100000) :
    Calls Try.prog 13 #[va, vb] w fun e w' => e = .returned (.bool (sameV a b)) ∧ Fr (fun _ => False) w w' := by
  have HA := Lib.hid (VShows.mono (S := fun k => R k ∧ k < w.heap.size) (fun k hk h => ⟨h, hk⟩) _ _ ha)
  have HB := Lib.hid (VShows.mono (S := fun k => R k ∧ k < w.heap.size) (fun k hk h => ⟨h, hk⟩) _ _ hb)
  obtain ⟨k1, m1, s1, a2, n2, c2, rfl⟩ := ha.lit
  obtain ⟨k3, m3, s3, a4, n4, c4, rfl⟩ := hb.lit
  clear ha hb
  have HSZ := Lib.hid hsz
  clear hsz
  go_enter Try.func13, Try.ntmps13
  go_wp2
  obtain ⟨w3, hw3⟩ : ∃ w3, w3 = ((w.alloc (.cells #[.int .i64 k1, .float .f64 m1, .string s1, .slice a2 n2 c2] 42)).alloc (.cells #[.int .i64 k3, .float .f64 m3, .string s3, .slice a4 n4 c4] 42)).alloc (.cells #[.int .i64 k1, .float .f64 m1, .string s1, .slice a2 n2 c2, .int .i64 k3, .float .f64 m3, .string s3, .slice a4 n4 c4] 73) := ⟨_, rfl⟩
  rw [← hw3]
  have f3 : Fr (fun _ => False) w w3 := by rw [hw3]; exact (((Fr.refl _ _).alloc _).alloc _).alloc _
  have g3 : w3.heap[w.heap.size + 2]? = some (.cells #[.int .i64 k1, .float .f64 m1, .string s1, .slice a2 n2 c2, .int .i64 k3, .float .f64 m3, .string s3, .slice a4 n4 c4] 73 (0, 0)) := by
    have := heap_alloc_new ((w.alloc (.cells #[.int .i64 k1, .float .f64 m1, .string s1, .slice a2 n2 c2] 42)).alloc (.cells #[.int .i64 k3, .float .f64 m3, .string s3, .slice a4 n4 c4] 42)) (.cells #[.int .i64 k1, .float .f64 m1, .string s1, .slice a2 n2 c2, .int .i64 k3, .float .f64 m3, .string s3, .slice a4 n4 c4] 73)
    rw [← hw3] at this
    simpa using this
  have hp3 : VPairRow (w.heap.size + 2) (fun k => R k ∧ k < w.heap.size) w3 (.slice (some ⟨w.heap.size + 2, 0, none⟩) 1 1) [(a, b)] := by
    refine ⟨_, ⟨rfl, .inr ⟨w.heap.size + 2, 1, _, rfl, Nat.le_refl _, g3, Nat.le_refl _, by unfold maxLen; omega, rfl, rfl⟩⟩, fun i p hi => ?_⟩
    have hi0 := (List.getElem?_eq_some_iff.1 hi).1
    obtain rfl : i = 0 := by simpa using hi0
    simp at hi
    subst hi
    exact ⟨_, _, _, _, _, _, _, _, fun j u hj => by simpa using hj, VShows.fr f3 (fun _ _ h => h) _ _ HA.out, VShows.fr f3 (fun _ _ h => h) _ _ HB.out⟩
  have H3 := Lib.hid (And.intro f3 hp3)
  clear hw3 f3 g3 hp3
  go_loopg [5, 6, 7, 8, 9] (szV a) (fun G u5 u6 u7 u8 u9 wr => ∃ (ps : List (VT × VT)) (ua : Option Addr) (n uc : Nat), G = szVs ps ∧ u5 = .slice ua n uc ∧ Hid (n = ps.length ∧ szVs ps ≤ 100000 ∧ VPairRow (w.heap.size + 2) (fun k => R k ∧ k < w.heap.size) wr (.slice ua n uc) ps ∧ Fr (fun _ => False) w wr ∧ ps.all (fun p => sameV p.1 p.2) = sameV a b))
  case atStart => exact ⟨[(a, b)], _, 1, 1, by simp [szVs], rfl, Lib.hid ⟨rfl, by simpa [szVs] using HSZ.out, H3.out.2, H3.out.1, by simp⟩⟩
  case round =>
    obtain ⟨ps, ua, n, uc, rfl, rfl, HI⟩ := hrel
    rcases List.eq_nil_or_concat ps with hps | ⟨qs, ⟨x, y⟩, hps⟩
    · obtain rfl : n = 0 := by rw [HI.out.1, hps]; rfl
      have HP := Lib.hid hps
      clear hps
      go_wp2
      go_ret
      refine ⟨ret_bool ?_, HI.out.2.2.2.1⟩
      rw [← HI.out.2.2.2.2, HP.out]
      rfl
    · rw [List.concat_eq_append] at hps
      obtain ⟨m, rfl⟩ : ∃ m, n = m + 1 := ⟨qs.length, by rw [HI.out.1, hps]; simp⟩
      have hm : m = qs.length := by have := HI.out.1; rw [hps] at this; simp at this; exact this
      have hrow := HI.out.2.2.1
      rw [hps] at hrow
      have HROW := Lib.hid hrow
      obtain ⟨cs, ho, hcs⟩ := hrow
      obtain ⟨x0, x1, x2, x3, y0, y1, y2, y3, q, hx, hy⟩ := hcs m (x, y) (by rw [List.getElem?_append_right (by omega), hm]; simp)
      obtain ⟨g, rfl, hgB⟩ : ∃ g, ua = some ⟨g, 0, none⟩ ∧ w.heap.size + 2 ≤ g := by
        rcases ho.2 with ⟨e, _⟩ | ⟨g, cap, cur, e, hb, _⟩
        · cases e
        · simp only [Value.slice.injEq] at e; obtain ⟨rfl, _, rfl⟩ := e; exact ⟨g, rfl, hb⟩
      have hmc : m + 1 ≤ uc := by
        rcases ho.2 with ⟨e, _⟩ | ⟨g, cap, cur, e, hb, hgg, hle, _⟩
        · cases e
        · simp only [Value.slice.injEq] at e; obtain ⟨_, h1, rfl⟩ := e; omega
      have hgl : g < wr.heap.size := (World.ownsRow.lt ho g rfl).2
      have hc := fun (j : Nat) (u : Value) (hu : [x0, x1, x2, x3, y0, y1, y2, y3][j]? = some u) => World.ownsRow.cells (g := g) ho rfl (m * 8 + j) u (q j u hu)
      simp only [plain_add] at hc
      obtain ⟨pk, pm, pns, pn2, pof, pa2, pc2, rfl, ex, htx, hox⟩ := vshows_open hx
      obtain ⟨qk, qm, qns, qn2, qof, qa2, qc2, rfl, ey, hty, hoy⟩ := vshows_open hy
      simp only [Value.agg.injEq, Array.mk.injEq, List.cons.injEq, and_true] at ex ey
      obtain ⟨rfl, rfl, rfl, rfl⟩ := ex
      obtain ⟨rfl, rfl, rfl, rfl⟩ := ey
      have r0 := hc 0 _ rfl
      have r1 := hc 1 _ rfl
      have r2 := hc 2 _ rfl
      have r3 := hc 3 _ rfl
      have r4 := hc 4 _ rfl
      have r5 := hc 5 _ rfl
      have r6 := hc 6 _ rfl
      have r7 := hc 7 _ rfl
      rw [Nat.add_zero] at r0
      unfold sv at r2 r6
      have HXY := Lib.hid (And.intro htx (And.intro hox (And.intro hty (And.intro hoy (And.intro hps hm)))))
      clear hc q hx hy hps hm ho hcs htx hox hty hoy
      have hm5 : m ≤ 100000 := by have := szVs_length ps; have := HI.out.2.1; have := HI.out.1; omega
      have hw1 : wrap64 (m : Int) = m := IntWalk.wrap64_in _ (by omega)
      have hw2 : IntKind.i64.wrap (m : Int) = m := IntWalk.i64_in _ (by omega)
      have i0 : (0 : Int) ≤ (m : Int) := by omega
      have i1 : (m : Int) < (m : Int) + 1 := by omega
      have i2 : m < m + 1 := by omega
      go_upto_region 4 with fail
      go_cut [7, 8] from 14 to 82 (fun s7 s8 wx => ∃ g7 g8, s7 = .pointer (some ⟨g7, 0, none⟩) ∧ s8 = .pointer (some ⟨g8, 0, none⟩) ∧ Hid (wx.heap[g7]? = some (.cells #[.int .i64 pk, .float .f64 pm, .string ⟨pns.toArray⟩, .slice pa2 pn2 pc2] 42 (0, 0)) ∧ wx.heap[g8]? = some (.cells #[.int .i64 qk, .float .f64 qm, .string ⟨qns.toArray⟩, .slice qa2 qn2 qc2] 42 (0, 0)) ∧ wr.heap.size ≤ g7 ∧ wr.heap.size ≤ g8 ∧ Fr (fun _ => False) wr wx))
      case first =>
        go_region
        all_goals go_wp2
        all_goals go_meet
        all_goals (case rel => first | exact ⟨_, _, rfl, rfl, Lib.hid ⟨heap_alloc_first _ _ _, heap_alloc_two _ _ _, by omega, by omega, (((Fr.refl _ _).alloc _).alloc _).drew⟩⟩ | exact ⟨_, _, rfl, rfl, Lib.hid ⟨heap_alloc_two _ _ _, heap_alloc_first _ _ _, by omega, by omega, (((Fr.refl _ _).alloc _).alloc _).drew⟩⟩)
      case rest =>
        obtain ⟨g7, g8, rfl, rfl, HC⟩ := hcut
        clear r0 r1 r2 r3 r4 r5 r6 r7
        obtain ⟨wo, rfl⟩ : ∃ wo : World, wo = wc := ⟨_, rfl⟩
        have FW := Lib.hid (HI.out.2.2.2.1.trans HC.out.2.2.2.2 (fun _ _ h => h))
        have u0 := cells_row HC.out.1 0 _ rfl
        have u1 := cells_row HC.out.1 1 _ rfl
        have u2 := cells_row HC.out.1 2 _ rfl
        have u3 := cells_row HC.out.1 3 _ rfl
        have t0 := cells_row HC.out.2.1 0 _ rfl
        have t1 := cells_row HC.out.2.1 1 _ rfl
        have t2 := cells_row HC.out.2.1 2 _ rfl
        have t3 := cells_row HC.out.2.1 3 _ rfl
        have i4 : (m : Int) ≤ (uc : Int) := by omega
        have hfalse : sameV (.mk pk pm pns pn2 pof) (.mk qk qm qns qn2 qof) = false → false = sameV a b := by
          intro h
          rw [← HI.out.2.2.2.2, HXY.out.2.2.2.2.1]
          simp [h]
        have HFA := Lib.hid hfalse
        clear hfalse
        by_cases e1 : pk = qk
        case neg =>
          have b1 : (pk == qk) = false := by simpa using e1
          have b2 : (pk != qk) = true := by unfold bne; rw [b1]; rfl
          have E1 := Lib.hid e1
          clear e1
          go_wp2
          go_ret
          exact ⟨ret_bool (HFA.out (by rw [sameV, decide_eq_false E1.out]; rfl)), FW.out⟩
        subst e1
        by_cases e2 : Fl.canon pm = Fl.canon qm
        case neg =>
          have E1 := Lib.hid e2
          clear e2
          go_wp2_with fail
          refine (realSame_ne pm qm _ E1.out).mono ?_
          rintro e w5 ⟨rfl, rfl⟩
          go_wp2
          go_ret
          exact ⟨ret_bool (HFA.out (by rw [sameV, decide_eq_false E1.out]; simp)), FW.out⟩
        have E2 := Lib.hid e2
        clear e2
        by_cases e3 : pns = qns
        case neg =>
          have b1 : (pns == qns) = false := by simpa using e3
          have b2 : (pns != qns) = true := by unfold bne; rw [b1]; rfl
          have E1 := Lib.hid e3
          clear e3
          go_wp2_with fail
          refine (realSame_eq pm qm _ E2.out).mono ?_
          rintro e w5 ⟨rfl, rfl⟩
          go_wp2
          go_ret
          exact ⟨ret_bool (HFA.out (by rw [sameV, decide_eq_false E1.out]; simp)), FW.out⟩
        subst e3
        by_cases e4 : pn2 = qn2
        case neg =>
          have b1 : ((pn2 : Int) == (qn2 : Int)) = false := by simp; omega
          have b2 : ((pn2 : Int) != (qn2 : Int)) = true := by unfold bne; rw [b1]; rfl
          have E1 := Lib.hid e4
          clear e4
          go_wp2_with fail
          refine (realSame_eq pm qm _ E2.out).mono ?_
          rintro e w5 ⟨rfl, rfl⟩
          go_wp2
          go_ret
          exact ⟨ret_bool (HFA.out (by rw [sameV, decide_eq_false E1.out]; simp)), FW.out⟩
        subst e4
        go_wp2_with fail
        refine (realSame_eq pm qm _ E2.out).mono ?_
        rintro e w5 ⟨rfl, rfl⟩
        have q7 := HC.out.1
        have q8 := HC.out.2.1
        have hrow5 := VPairRow.fr (VPairRow.pop HROW.out) HC.out.2.2.2.2 (fun _ _ h => h) (fun _ _ h => h)
        have H5 := Lib.hid (And.intro q7 (And.intro q8 (And.intro hrow5 FW.out)))
        have HKX := Lib.hid (VKids.fr HXY.out.2.1 HC.out.2.2.2.2 (fun _ _ h => h))
        have HKY := Lib.hid (VKids.fr HXY.out.2.2.2.1 HC.out.2.2.2.2 (fun _ _ h => h))
        have hg7 := HC.out.2.2.1
        have hg8 := HC.out.2.2.2.1
        obtain ⟨w5, rfl⟩ : ∃ w5 : World, w5 = wo := ⟨_, rfl⟩
        clear q7 q8 hrow5 u0 u1 t0 t1
        obtain ⟨i0', hi, hz0, hz1, hz2⟩ := info_parts Try.infoPair
        have hgg7 : g ≠ g7 := by omega
        have hgg8 : g ≠ g8 := by omega
        have hm5' : qs.length ≤ 100000 := by have := HXY.out.2.2.2.2.2; omega
        have hpn : szVs (qs ++ vparts pof qof pn2) + 1 ≤ 100000 ∧ szVs (qs ++ vparts pof qof pn2) + 1 = szVs ps := by
          have e1 := vparts_sz pk pm pns pn2 pof qof
          have e2 := HI.out.2.1
          rw [HXY.out.2.2.2.2.1, szVs_append] at e2
          rw [HXY.out.2.2.2.2.1, szVs_append, szVs_append]
          have e3 : szVs [(VT.mk pk pm pns pn2 pof, VT.mk pk qm pns pn2 qof)] = szV (.mk pk pm pns pn2 pof) := by simp [szVs]
          rw [e3] at e2 ⊢
          omega
        have HPN := Lib.hid hpn
        clear hpn
        go_wp2
        have k3 := u3
        have l3 := t3
        clear u2 u3 t2 t3
        go_loopg [5, 9, 65] pn2 (fun G u5 u9 u65 wr => ∃ (j : Nat) (ua : Option Addr) (n uc : Nat), j ≤ pn2 ∧ G = pn2 - j ∧ u65 = .int .i64 j ∧ u5 = .slice ua n uc ∧ Hid (n = (qs ++ vparts pof qof j).length ∧ VPairRow (w.heap.size + 2) (fun k => R k ∧ k < w.heap.size) wr (.slice ua n uc) (qs ++ vparts pof qof j) ∧ Fr (fun k => w.heap.size + 2 ≤ k) w5 wr ∧
          wr.heap[g7]? = some (.cells #[.int .i64 pk, .float .f64 pm, .string ⟨pns.toArray⟩, .slice pa2 pn2 pc2] 42 (0, 0)) ∧ wr.heap[g8]? = some (.cells #[.int .i64 pk, .float .f64 qm, .string ⟨pns.toArray⟩, .slice qa2 pn2 qc2] 42 (0, 0)) ∧ ∀ k, (Value.slice ua n uc).ownBlock = some k → k ≠ g7 ∧ k ≠ g8))
        case atStart => exact ⟨0, some ⟨g, 0, none⟩, m, uc, Nat.zero_le _, rfl, by go_num, rfl, Lib.hid ⟨by rw [HXY.out.2.2.2.2.2]; simp [vparts], by rw [HXY.out.2.2.2.2.2]; simpa [vparts] using H5.out.2.2.1, Fr.refl _ _, H5.out.1, H5.out.2.1, fun k hk => by simp [Value.ownBlock] at hk; omega⟩⟩
        case round =>
          obtain ⟨j, ua, n, uc', hj, rfl, rfl, rfl, HJ⟩ := hrel
          by_cases hlt : j < pn2
          · rcases VKids.fr HKX.out HJ.out.2.2.1 (fun k hk h => by omega) with hz | ⟨hcx, gx, ox, hgx, rfl, hcellx⟩
            · omega
            rcases VKids.fr HKY.out HJ.out.2.2.1 (fun k hk h => by omega) with hz | ⟨hcy, gy, oy, hgy, rfl, hcelly⟩
            · omega
            obtain ⟨x0, x1, x2, x3, p0, p1, p2, p3, hx⟩ := hcellx j hlt
            obtain ⟨y0, y1, y2, y3, q0, q1, q2, q3, hy⟩ := hcelly j hlt
            obtain ⟨zk, zm, zs, za2, zn2, zc2, ex⟩ := hx.lit
            simp only [Value.agg.injEq, Array.mk.injEq, List.cons.injEq, and_true] at ex
            obtain ⟨rfl, rfl, rfl, rfl⟩ := ex
            obtain ⟨yk, ym, ys, ya2, yn2, yc2, ey⟩ := hy.lit
            simp only [Value.agg.injEq, Array.mk.injEq, List.cons.injEq, and_true] at ey
            obtain ⟨rfl, rfl, rfl, rfl⟩ := ey
            obtain ⟨cs, ho, hcs⟩ := HJ.out.2.1
            rw [← HJ.out.1] at ho
            have hnb : n ≤ 100000 := by
              have e1 := szVs_length (qs ++ vparts pof qof j)
              have e2 := vparts_mono pof qof j pn2 (by omega)
              have e3 := HPN.out.1
              rw [szVs_append] at e1 e3
              have := HJ.out.1
              omega
            have hwsz : w.heap.size + 2 ≤ wr.heap.size := by have := lt_of_block HJ.out.2.2.2.1; have := HC.out.2.2.1; have := (World.ownsRow.lt (VPairRow_own HROW.out) g rfl); omega
            have HLT := Lib.hid (show j + 1 ≤ pn2 from hlt)
            have hj1 : j ≤ 100000 := by have := HXY.out.1.2.2.2.2; have := HLT.out; omega
            have jx : (j : Int) < (pn2 : Int) := by omega
            have j0 : (0 : Int) ≤ (j : Int) := by omega
            have HP := Lib.hid (And.intro p0 (And.intro p1 (And.intro p2 (And.intro p3 (And.intro q0 (And.intro q1 (And.intro q2 q3)))))))
            have HXX := Lib.hid (And.intro hx (And.intro hy (And.intro ho hcs)))
            have nown : ∀ k, (R k ∧ k < w.heap.size) → (Value.slice ua n uc').ownBlock ≠ some k := fun k hk e => by have := (World.ownsRow.lt ho k e).1; omega
            have HNO := Lib.hid nown
            clear p0 p1 p2 p3 q0 q1 q2 q3 hx hy ho hcs hcellx hcelly nown k3 l3
            have HQ := Lib.hid (fun (wx : World) (f : Fr (fun k => (Value.slice ua n uc').ownBlock = some k) wr.drew wx) =>
              have fw : Fr (fun k => (Value.slice ua n uc').ownBlock = some k) wr wx := ⟨f.os, f.tape, f.output, f.size, f.block⟩
              have up : ∀ {gg o : Nat} {u : Value}, (R gg ∧ gg < w.heap.size) → wr.cell? ⟨gg, o, none⟩ = some u → wx.cell? ⟨gg, o, none⟩ = some u := fun hgg h => cell_fr (R := fun k => R k ∧ k < w.heap.size) fw (fun k hk e => HNO.out k hk e) hgg h
              And.intro fw (And.intro (cells_row (box_kept HJ.out.2.2.2.1 fw (fun e => (HJ.out.2.2.2.2.2 _ e).1 rfl)) 3 _ rfl) (And.intro (cells_row (box_kept HJ.out.2.2.2.2.1 fw (fun e => (HJ.out.2.2.2.2.2 _ e).2 rfl)) 3 _ rfl)
                (And.intro (up hgx HP.out.1) (And.intro (up hgx HP.out.2.1) (And.intro (up hgx HP.out.2.2.1) (And.intro (up hgx HP.out.2.2.2.1) (And.intro (up hgy HP.out.2.2.2.2.1) (And.intro (up hgy HP.out.2.2.2.2.2.1) (And.intro (up hgy HP.out.2.2.2.2.2.2.1) (up hgy HP.out.2.2.2.2.2.2.2)))))))))))
            go_wp2_with fail
            refine wp_region_toldV (by kernel_rfl) (fun a b => Fr (fun k => (Value.slice ua n uc').ownBlock = some k) a b) (fun w => Fr.refl _ w) (fun _ _ _ h k => h.trans k (fun _ _ h => h))
              [some 68, some 69, some 70, some 71, some 72, some 73, some 74, some 75, some 76, some 77, some 78, some 79, some 80, some 81, some 5] rfl (by decide) (by intro d hd; simp at hd ⊢; omega)
              (fun i v wx => (i = 13 → wx.ownsRow (w.heap.size + 2) 73 8 (.slice ua n uc') n cs) ∧ (i = 14 → v = .slice ua n uc'))
              (fun i v wx => ([fun v _ => v = .slice ua n uc', fun v _ => v = .pointer (some ⟨g7, 3, none⟩), fun v _ => v = .slice (some ⟨gx, ox, none⟩) pn2 pc2, fun v _ => v = .int .i64 j, fun v _ => v = .pointer (some ⟨gx, ox + j * 4, none⟩), fun v _ => v = .agg #[.int .i64 zk, .float .f64 zm, .string zs, .slice za2 zn2 zc2],
                fun v _ => v = .pointer (some ⟨g8, 3, none⟩), fun v _ => v = .slice (some ⟨gy, oy, none⟩) pn2 qc2, fun v _ => v = .int .i64 j, fun v _ => v = .pointer (some ⟨gy, oy + j * 4, none⟩), fun v _ => v = .agg #[.int .i64 yk, .float .f64 ym, .string ys, .slice ya2 yn2 yc2],
                fun v _ => v = .agg #[.int .i64 zk, .float .f64 zm, .string zs, .slice za2 zn2 zc2, .int .i64 yk, .float .f64 ym, .string ys, .slice ya2 yn2 yc2],
                fun v wx => ∃ gg, v = .slice (some ⟨gg, 0, none⟩) 1 1 ∧ (Value.slice ua n uc').ownBlock ≠ some gg ∧ wx.heap[gg]? = some (.cells #[.int .i64 zk, .float .f64 zm, .string zs, .slice za2 zn2 zc2, .int .i64 yk, .float .f64 ym, .string ys, .slice ya2 yn2 yc2] 73 (0, 0)),
                fun v wx => ∃ ub uc2, v = .slice ub (n + 1) uc2 ∧ VPairRow (w.heap.size + 2) (fun k => R k ∧ k < w.heap.size) wx v (qs ++ vparts pof qof (j + 1)) ∧ (v.ownBlock = (Value.slice ua n uc').ownBlock ∨ ∃ k, v.ownBlock = some k ∧ wr.heap.size ≤ k),
                fun v wx => ∃ ub uc2, v = .slice ub (n + 1) uc2 ∧ VPairRow (w.heap.size + 2) (fun k => R k ∧ k < w.heap.size) wx v (qs ++ vparts pof qof (j + 1)) ∧ (v.ownBlock = (Value.slice ua n uc').ownBlock ∨ ∃ k, v.ownBlock = some k ∧ wr.heap.size ≤ k)] : List (Value → World → Prop)).getD i (fun _ _ => True) v wx)
              (by kernel_rfl) ?u0 ?step ?fin
            case u0 => exact fun i _ => ⟨fun _ => HXX.out.2.2.1, fun e => by subst e; rfl⟩
            case step =>
              intro vals
              simp only [frOfU, fillU, List.setIfInBounds_toArray, List.set_cons_succ, List.set_cons_zero]
              repeat' (first | exact AllOps.nil | refine AllOps.cons ?_ ?_)
              all_goals
                intro wx hle he hu hw K hK
                simp only [Act.put, List.setIfInBounds_toArray, List.set_cons_succ, List.set_cons_zero, List.getD_cons_zero, List.getD_cons_succ] at hK
                simp only [List.mem_cons, List.not_mem_nil, or_false, forall_eq_or_imp, forall_eq, Region.binds, forall_const, false_imp_iff, List.getD_cons_zero, List.getD_cons_succ] at he
                obtain ⟨fw, v7, v8, p0, p1, p2, p3, q0, q1, q2, q3⟩ := HQ.out wx hle
                have FW5 := Lib.hid fw
                clear fw hle
              · have h5 := (hw 14 (by kernel_rfl)).2 rfl
                clear hw
                simp only [h5] at hK ⊢
                go_simp
                exact hK _ _ (Fr.refl _ _) rfl (fun _ _ _ h => h) (fun _ _ _ _ h => h)
              all_goals clear hw
              all_goals first | ((try simp only [he] at hK ⊢); go_simp; exact hK _ _ (Fr.refl _ _) rfl (fun _ _ _ h => h) (fun _ _ _ _ h => h)) | skip
              · simp only [he] at hK ⊢
                go_simp
                have fa : Fr (fun _ => False) wx (wx.alloc (.cells #[.int .i64 zk, .float .f64 zm, .string zs, .slice za2 zn2 zc2, .int .i64 yk, .float .f64 ym, .string ys, .slice ya2 yn2 yc2] 73)) := (Fr.refl _ _).alloc _
                refine hK _ _ (fa.mono (fun _ _ h => absurd h (fun h => h))) ⟨wx.heap.size, rfl, ?_, heap_alloc_new _ _⟩ ?_ ?_
                · intro e
                  have h1 := (World.ownsRow.lt HXX.out.2.2.1 _ e).2
                  have h2 := FW5.out.size
                  omega
                · exact fun i u hi h => ⟨fun e => ownsRow_fr (h.1 e) fa (fun _ _ h => h), h.2⟩
                · refine fun i u hi _ => pres_list ?_ i u
                  simp only [List.mem_cons, List.not_mem_nil, or_false, forall_eq_or_imp, forall_eq, imp_self, implies_true, true_and]
                  refine ⟨fun u h => ?_, fun u h => ?_, fun u h => ?_⟩
                  · obtain ⟨gg, e1, e2, e3⟩ := h
                    exact ⟨gg, e1, e2, box_kept e3 fa (fun h => h)⟩
                  · obtain ⟨ub, uc2, e1, e2, e3⟩ := h
                    exact ⟨ub, uc2, e1, e2.fr fa (fun _ _ h => h) (fun _ _ h => h), e3⟩
                  · obtain ⟨ub, uc2, e1, e2, e3⟩ := h
                    exact ⟨ub, uc2, e1, e2.fr fa (fun _ _ h => h) (fun _ _ h => h), e3⟩
              · obtain ⟨h0, gg, h12, hgne, hgg⟩ := he
                have ho := hu.1 rfl
                rw [if_pos (by rfl)]
                refine opWp_append (.tmp 68) (.tmp 80) 74 74 rfl (w.heap.size + 2) 73 i0' (.agg #[.int .i64 0, .float .f64 0, .string ⟨#[]⟩, .slice none 0 0, .int .i64 0, .float .f64 0, .string ⟨#[]⟩, .slice none 0 0]) 8 112 Try.underlying74 _ Try.underlying74 (.inr ⟨_, rfl⟩) hi hz0 hz1 hz2 rfl (by decide) (.slice ua n uc') n cs h0 ho (.slice (some ⟨gg, 0, none⟩) 1 1) 1 [.int .i64 zk, .float .f64 zm, .string zs, .slice za2 zn2 zc2, .int .i64 yk, .float .f64 ym, .string ys, .slice ya2 yn2 yc2] h12 (lenOf_slice _ _ _) rfl (first_one8 1 hgg) (first_one8 1 (by exact hgg)) ?one (by unfold maxLen; omega) (by omega) (by have := FW5.out.size; omega) ?grow
                case one => intro u hu; simp at hu; rcases hu with rfl | rfl | rfl | rfl | rfl | rfl | rfl | rfl <;> rfl
                case grow =>
                  intro v' w6 hown hg hv
                  have f6 : Fr (fun k => (Value.slice ua n uc').ownBlock = some k) wx w6 := (Fr.of_grown hg).mono (fun _ _ e => e.symm)
                  obtain ⟨ub, uc2, e1⟩ := slice_of_own hown
                  have hpr : VPairRow (w.heap.size + 2) (fun k => R k ∧ k < w.heap.size) w6 v' (qs ++ vparts pof qof (j + 1)) := by
                    rw [vparts_succ, ← List.append_assoc]
                    exact VPairRow.push HXX.out.2.2.2 (by rw [HXX.out.2.2.1.1, HJ.out.1]) (by rw [HJ.out.1]) hown (FW5.out.trans f6 (fun _ _ h => h)) (fun k hk e => HNO.out k hk e) HXX.out.1 HXX.out.2.1
                  have hvv : v'.ownBlock = (Value.slice ua n uc').ownBlock ∨ ∃ k, v'.ownBlock = some k ∧ wr.heap.size ≤ k := by
                    rcases hv with h | h
                    · exact .inl h
                    · exact .inr ⟨_, h, FW5.out.size⟩
                  refine hK _ _ f6 ⟨ub, uc2, e1, hpr, hvv⟩ ?_ ?_
                  · exact fun i u hi h => ⟨fun e => absurd e hi, h.2⟩
                  · intro i u hi hwt
                    by_cases h14 : i = 14
                    · subst h14
                      exact absurd hwt (by decide +kernel)
                    · refine pres_but 14 13 h14 hi ?_ u
                      simp only [List.set_cons_succ, List.set_cons_zero, List.mem_cons, List.not_mem_nil, or_false, forall_eq_or_imp, forall_eq, imp_self, implies_true, true_and, and_true]
                      intro u h
                      obtain ⟨g1, e2, e3, e4⟩ := h
                      exact ⟨g1, e2, e3, box_kept e4 f6 e3⟩
              · have h13 := he.1
                clear he
                obtain ⟨ub, uc2, e13, hpr, hvv⟩ := h13
                rw [e13] at hpr hvv
                go_simp
                simp only [Nat.reduceAdd, Nat.zero_add, e13] at hK ⊢
                exact hK _ _ (Fr.refl _ _) ⟨ub, uc2, rfl, hpr, hvv⟩ (fun _ _ _ h => h) (fun _ _ _ _ h => h)
            case fin =>
              intro vals w' hle hV
              obtain ⟨ub, uc2, e14, hpr, hvv⟩ := hV 14 (by decide)
              clear hV
              obtain ⟨fw, _⟩ := HQ.out w' hle
              have HF := Lib.hid (And.intro fw (And.intro hpr hvv))
              clear hpr hvv hle fw
              simp only [frOfU, fillU, List.setIfInBounds_toArray, List.set_cons_succ, List.set_cons_zero]
              simp only [Nat.reduceAdd, e14]
              go_wp2
              go_roundg (pn2 - (j + 1))
              case measure => omega
              case rel =>
                have hpr := HF.out.2.1
                rw [e14] at hpr
                have hvv := HF.out.2.2
                rw [e14] at hvv
                have hfw : Fr (fun k => w.heap.size + 2 ≤ k) w5 w' := HJ.out.2.2.1.trans HF.out.1 (fun i hi e => (World.ownsRow.lt HXX.out.2.2.1 i e).1)
                exact ⟨j + 1, ub, n + 1, uc2, HLT.out, rfl, by go_num, rfl, Lib.hid ⟨by rw [vparts_succ, ← List.append_assoc, List.length_append, ← HJ.out.1]; rfl, hpr, hfw, box_kept HJ.out.2.2.2.1 HF.out.1 (fun e => (HJ.out.2.2.2.2.2 _ e).1 rfl), box_kept HJ.out.2.2.2.2.1 HF.out.1 (fun e => (HJ.out.2.2.2.2.2 _ e).2 rfl), fun k hk => by
                  rcases hvv with h | ⟨k', h, hk'⟩
                  · rw [h] at hk; exact HJ.out.2.2.2.2.2 k hk
                  · rw [h] at hk; cases hk
                    have h1 := lt_of_block HJ.out.2.2.2.1
                    have h2 := lt_of_block HJ.out.2.2.2.2.1
                    exact ⟨by omega, by omega⟩⟩⟩
          · obtain rfl : j = pn2 := by omega
            go_wp2
            go_roundg (szVs (qs ++ vparts pof qof j))
            case measure => have := HPN.out.2; omega
            case rel =>
              refine ⟨qs ++ vparts pof qof j, ua, n, uc', rfl, rfl, Lib.hid ⟨HJ.out.1, by have := HPN.out.1; omega, HJ.out.2.1, H5.out.2.2.2.trans HJ.out.2.2.1 (fun i hi h => by omega), ?_⟩⟩
              rw [← HI.out.2.2.2.2, HXY.out.2.2.2.2.1, List.all_append, List.all_append, ← sameV_parts pk pm qm pns j pof qof E2.out]
              simp
end
section
theorem within_any (n lo hi : Int) (w : World) : Calls Try.prog 52 #[.int .i64 n, .int .i64 lo, .int .i64 hi] w fun e w' => e = .returned (.bool (decide (lo ≤ n ∧ n ≤ hi))) ∧ w = w' := by
  by_cases h1 : lo ≤ n
  · by_cases h2 : n ≤ hi
    · go_enter Try.func52, Try.ntmps52
      go_wp2
      go_ret
      exact ⟨ret_bool (by simp; omega), rfl⟩
    · go_enter Try.func52, Try.ntmps52
      go_wp2
      go_ret
      exact ⟨ret_bool (by simp; omega), rfl⟩
  · go_enter Try.func52, Try.ntmps52
    go_wp2
    go_ret
    exact ⟨ret_bool (by simp; omega), rfl⟩

theorem within_told (n lo hi : Int) (B : Bool) (hB : decide (lo ≤ n ∧ n ≤ hi) = B) (w : World) : Calls Try.prog 52 #[.int .i64 n, .int .i64 lo, .int .i64 hi] w fun e w' => e = .returned (.bool B) ∧ w = w' := by
  rw [← hB]; exact within_any n lo hi w

theorem isIndex_any (n : Int) (len : Nat) (hl : len ≤ 100000) (w : World) : Calls Try.prog 53 #[.int .i64 n, .int .i64 (len : Nat)] w fun e w' => e = .returned (.bool (decide (0 ≤ n ∧ n ≤ (len : Int) - 1))) ∧ w = w' := by
  obtain ⟨B, hB⟩ : ∃ B, decide (0 ≤ n ∧ n ≤ (len : Int) - 1) = B := ⟨_, rfl⟩
  have hw := within_told n 0 ((len : Int) - 1) B hB w
  rw [hB]
  clear hB
  go_enter Try.func53, Try.ntmps53
  go_wp2_with fail
  refine hw.mono ?_
  rintro e w1 ⟨rfl, rfl⟩
  go_wp2
  go_ret
  exact ⟨rfl, rfl⟩

/-- Has a type values: no Ref in it, and not so many levels? -/
def hasE : KT → Nat → Bool
  | .nil, _ => false
  | .mk k _ _ n of, lv => if k = 9 ∨ lv = 0 then false else (List.range n).all (fun i => hasE (of i) (lv - 1))

set_option maxRecDepth 100000 in
theorem has_any (t : KT) : ∀ (R : Nat → Prop) (v : Value) (w : World) (lv : Nat) (lz : Int), lz = lv → lv ≤ 1000 → Shows R w t v →
    Calls Try.prog 24 #[v, .int .i64 lz] w fun e w' => e = .returned (.bool (hasE t lv)) ∧ Fr (fun _ => False) w w' := by
  induction t with
  | nil => exact fun _ _ _ _ _ _ _ h => h.elim
  | mk k m ns n of ih =>
  intro R v w lv lz hlz hlv hsh
  obtain ⟨vn, vo, rfl, hk, hn, ht, ho⟩ := hsh
  obtain ⟨a, c, rfl, _⟩ := ht.shape
  obtain ⟨a', c', rfl, hs⟩ : ∃ a' c', vo = .slice a' n c' ∧ Kids R w of a' n c' := by
    rcases ho with ⟨rfl, a', c', rfl⟩ | ⟨g, off, cap, hg, rfl, hle, hc⟩
    · exact ⟨a', c', rfl, .inl rfl⟩
    · exact ⟨_, cap, rfl, .inr ⟨hle, g, off, hg, rfl, hc⟩⟩
  have HS := Lib.hid hs
  have HLZ := Lib.hid hlz
  have lz0 : 0 ≤ lz := by omega
  have lz1 : lz ≤ 1000 := by omega
  clear ho hs hlz ht
  obtain ⟨w0, hw0⟩ : ∃ w0, w0 = w.alloc (.cells #[.int .u8 k, .int .i64 m, .slice a ns.length c, .slice a' n c'] 34) := ⟨_, rfl⟩
  have f0 : Fr (fun _ => False) w w0 := by rw [hw0]; exact (Fr.refl _ _).alloc _
  have q0 : w0.heap[w.heap.size]? = some (.cells #[.int .u8 k, .int .i64 m, .slice a ns.length c, .slice a' n c'] 34 (0, 0)) := by rw [hw0]; exact heap_alloc_new _ _
  have c0 := cells_row q0 0 _ rfl
  have c3 := cells_row q0 3 _ rfl
  have H0 := Lib.hid (And.intro f0 q0)
  by_cases h9 : k = 9
  · have E : Hid (hasE (.mk k m ns n of) lv = false) := Lib.hid (by rw [hasE, if_pos (.inl h9)])
    have e9 : ((k : Int) == 9) = true := by simp; omega
    clear h9 f0 q0
    go_enter Try.func24, Try.ntmps24
    go_upto_region 1 with fail
    rw [← hw0]
    clear hw0
    go_wp2
    go_ret
    rw [E.out]
    exact ⟨rfl, H0.out.1⟩
  have e9 : ((k : Int) == 9) = false := by simp; omega
  by_cases hl : lv = 0
  · have E : Hid (hasE (.mk k m ns n of) lv = false) := Lib.hid (by rw [hasE, if_pos (.inr hl)])
    have ez : (lz == 0) = true := by have := HLZ.out; simp; omega
    clear hl h9 f0 q0
    go_enter Try.func24, Try.ntmps24
    go_upto_region 1 with fail
    rw [← hw0]
    clear hw0
    go_wp2
    go_ret
    rw [E.out]
    exact ⟨rfl, H0.out.1⟩
  have ez : (lz == 0) = false := by have := HLZ.out; simp; omega
  have E : Hid (hasE (.mk k m ns n of) lv = (List.range n).all (fun i => hasE (of i) (lv - 1))) := Lib.hid (by rw [hasE, if_neg (by omega)])
  have HL := Lib.hid hl
  clear hl h9 f0 q0
  go_enter Try.func24, Try.ntmps24
  go_upto_region 1 with fail
  rw [← hw0]
  clear hw0
  go_wp2
  clear c0 c3 e9 ez
  go_loopg [6, 17] n (fun G u6 u17 wr => ∃ j : Nat, j ≤ n ∧ G = n - j ∧ u17 = .int .i64 j ∧ Hid (Fr (fun _ => False) w wr ∧ ∀ i, i < j → hasE (of i) (lv - 1) = true))
  case atStart => exact ⟨0, Nat.zero_le _, rfl, by go_num, Lib.hid ⟨H0.out.1, fun i hi => by omega⟩⟩
  case round =>
    obtain ⟨j, hj, rfl, rfl, HI⟩ := hrel
    by_cases hlt : j < n
    · rcases HS.out with hz | ⟨hcap, g, off, hg, rfl, hcell⟩
      · omega
      obtain ⟨x0, x1, x2, x3, y0, y1, y2, y3, hx⟩ := hcell j hlt
      have y0 := cell_fr HI.out.1 (fun _ _ h => h) hg y0
      have y1 := cell_fr HI.out.1 (fun _ _ h => h) hg y1
      have y2 := cell_fr HI.out.1 (fun _ _ h => h) hg y2
      have y3 := cell_fr HI.out.1 (fun _ _ h => h) hg y3
      obtain ⟨xk, xm, xa, xn, xc, xa', xn', xc', rfl, rfl, rfl, rfl⟩ := hx.cells
      have fb : Fr (fun _ => False) w (wr.alloc (.cells #[.int .u8 xk, .int .i64 xm, .slice xa xn xc, .slice xa' xn' xc'] 34)) := HI.out.1.alloc _
      have hrec := ih j R _ _ (lv - 1) (lz - 1) (by have := HLZ.out; have := HL.out; omega) (by omega) (Shows.fr fb (fun _ _ h => h) _ _ hx)
      have FB := Lib.hid fb
      have HLT := Lib.hid hlt
      clear hcell hx fb
      cases hB : hasE (of j) (lv - 1) with
      | true =>
        rw [hB] at hrec
        have HB := Lib.hid hB
        clear hB
        go_wp2_with fail
        refine hrec.mono ?_
        rintro e w5 ⟨rfl, f5⟩
        have F5 := Lib.hid f5
        clear f5 hrec
        go_wp2
        go_roundg (n - (j + 1))
        case measure => omega
        case rel => exact ⟨j + 1, by omega, rfl, by go_num, Lib.hid ⟨FB.out.trans F5.out (fun _ _ h => h), fun i hi => by
          by_cases h : i < j
          · exact HI.out.2 i h
          · obtain rfl : i = j := by omega
            exact HB.out⟩⟩
      | false =>
        rw [hB] at hrec
        have EF : Hid (hasE (.mk k m ns n of) lv = false) := Lib.hid (by
          rw [E.out, List.all_eq_false]
          exact ⟨j, List.mem_range.2 hlt, by simp [hB]⟩)
        clear hB
        go_wp2_with fail
        refine hrec.mono ?_
        rintro e w5 ⟨rfl, f5⟩
        have F5 := Lib.hid f5
        clear f5 hrec
        go_wp2
        go_ret
        rw [EF.out]
        exact ⟨rfl, FB.out.trans F5.out (fun _ _ h => h)⟩
    · obtain rfl : j = n := by omega
      have ET : Hid (hasE (.mk k m ns j of) lv = true) := Lib.hid (by
        rw [E.out, List.all_eq_true]
        exact fun i hi => HI.out.2 i (List.mem_range.1 hi))
      go_wp2
      go_ret
      rw [ET.out]
      exact ⟨rfl, HI.out.1⟩
end
section
theorem fault_fn (b : Nat) (x0 : Value) (n n' : Int) (d : Txt) (w : World) (hb : w.heap[b]? = some (.cells #[x0, .int .i64 n] 136 (0, 0))) :
    Calls Try.prog 82 #[.agg #[sv d, .int .i64 n'], .pointer (some ⟨b, 0, none⟩)] w fun e w' => e = .returned (.bool (decide (n' = n))) ∧ Fr (fun _ => False) w w' := by
  have c1 := cells_row hb 1 _ rfl
  have hlt := lt_of_block hb
  have n1 : b ≠ w.heap.size := by omega
  clear hb
  unfold sv
  by_cases h : n' = n
  · subst h
    go_enter Try.func82, Try.ntmps82
    go_wp2
    go_ret
    exact ⟨ret_bool (by simp), (Fr.refl _ _).alloc _⟩
  · have h' : (n' == n) = false := by simpa using h
    go_enter Try.func82, Try.ntmps82
    go_wp2
    go_ret
    exact ⟨ret_bool (by simp [h]), (Fr.refl _ _).alloc _⟩

theorem index_fault (R : Nat → Prop) (l : List (Txt × Int)) (v : Value) (b : Nat) (x0 : Value) (n : Int) (w : World) (h : Faults R w l v) (hb : w.heap[b]? = some (.cells #[x0, .int .i64 n] 136 (0, 0))) :
    Calls Try.prog 91 #[v, .func (.func 82) #[] #[.pointer (some ⟨b, 0, none⟩)]] w fun e w' => e = .returned (.int .i64 (firstAt (fun x => decide (x.2 = n)) l)) ∧ Fr (fun _ => False) w w' := by
  have hl0 : l.length ≤ 1000 := h.1
  obtain ⟨a, cap, rfl, hs⟩ := h.shape
  have Hs := Lib.hid hs
  have Hb := Lib.hid hb
  clear hs h hb
  go_enter Try.func91, Try.ntmps91
  go_wp2
  go_loopg [5, 8] l.length (fun G u5 u8 wr => ∃ k : Nat, k ≤ l.length ∧ G = l.length - k ∧ u8 = .int .i64 k ∧ Hid ((∀ j, (hj : j < l.length) → j < k → l[j].2 ≠ n) ∧ Fr (fun _ => False) w wr))
  case atStart => exact ⟨0, Nat.zero_le _, rfl, by go_num, Lib.hid ⟨fun j _ hj => by omega, Fr.refl _ _⟩⟩
  case round =>
    obtain ⟨k, hk, rfl, rfl, HI⟩ := hrel
    by_cases hlt : k < l.length
    · rcases Hs.out with hz | ⟨hcap, ga, oa, hg, rfl, hcell⟩
      · omega
      obtain ⟨d, hd⟩ : ∃ d, d = l[k] := ⟨_, rfl⟩
      obtain ⟨q, q0⟩ := hcell k d (by rw [List.getElem?_eq_getElem hlt, hd])
      have q := cell_fr (R := fun _ => True) HI.out.2 (fun _ _ h => h) trivial q
      have q0 := cell_fr (R := fun _ => True) HI.out.2 (fun _ _ h => h) trivial q0
      clear hcell
      have hfn := fault_fn b x0 n d.2 d.1 wr (box_kept Hb.out HI.out.2 (fun h => h))
      have Hd := Lib.hid hd
      clear hd
      unfold sv at *
      by_cases he : d.2 = n
      · have hb1 : decide (d.2 = n) = true := by simpa using he
        rw [hb1] at hfn
        have He := Lib.hid he
        clear he hb1
        go_wp2_with fail
        refine hfn.mono ?_
        rintro e w1 ⟨rfl, f1⟩
        have f1 := Lib.hid f1
        go_wp2
        go_ret
        refine ⟨ret_int ?_, HI.out.2.trans f1.out (fun _ _ h => h)⟩
        exact (firstAt_found _ l k hlt (fun j hj hjk => by simpa using HI.out.1 j hj hjk) (by rw [← Hd.out]; simpa using He.out)).symm
      · have hb1 : decide (d.2 = n) = false := by simpa using he
        rw [hb1] at hfn
        have He := Lib.hid he
        clear he hb1
        go_wp2_with fail
        refine hfn.mono ?_
        rintro e w1 ⟨rfl, f1⟩
        have f1 := Lib.hid f1
        go_wp2
        go_roundg (l.length - (k + 1))
        case measure => omega
        case rel => exact ⟨k + 1, by omega, rfl, by go_num, Lib.hid ⟨fun j hj' hj => by
          by_cases h : j < k
          · exact HI.out.1 j hj' h
          · obtain rfl : j = k := by omega
            rw [← Hd.out]; exact He.out, HI.out.2.trans f1.out (fun _ _ h => h)⟩⟩
    · obtain rfl : k = l.length := by omega
      go_wp2
      go_ret
      refine ⟨ret_int ?_, HI.out.2⟩
      exact (firstAt_none _ l (fun j hj => by simpa using HI.out.1 j hj hj)).symm

theorem contains_fault (R : Nat → Prop) (l : List (Txt × Int)) (v : Value) (b : Nat) (x0 : Value) (n : Int) (w : World) (h : Faults R w l v) (hb : w.heap[b]? = some (.cells #[x0, .int .i64 n] 136 (0, 0))) :
    Calls Try.prog 81 #[v, .func (.func 82) #[] #[.pointer (some ⟨b, 0, none⟩)]] w fun e w' => e = .returned (.bool (l.any fun x => decide (x.2 = n))) ∧ Fr (fun _ => False) w w' := by
  have hc := index_fault R l v b x0 n w h hb
  clear h hb
  go_enter Try.func81, Try.ntmps81
  go_wp2_with fail
  refine hc.mono ?_
  rintro e w' ⟨rfl, f1⟩
  have f1 := Lib.hid f1
  clear hc
  go_wp2
  go_ret
  exact ⟨ret_bool (firstAt_ge _ _), f1.out⟩

set_option maxRecDepth 100000 in
theorem checkFaults_any (R : Nat → Prop) (t : KTab) (bef : List Txt) (v : Value) (b : Nat) (w : World) (hbl : bef.length ≤ 10000) (ht : Tabled R w t v) (hR : ∀ k, R k → k < b) (hb : b < w.heap.size) (hN : Nm (fun k => k < b) w b bef) :
    Calls Try.prog 73 #[v, namer b] w fun e w' => e = .returned (.int .i64 (firstE (faultE bef t.faults) t.faults.length)) ∧ Fr (fun k => b ≤ k) w w' ∧ (firstE (faultE bef t.faults) t.faults.length = 0 → Nm (fun k => k < b) w' b (bef ++ t.faults.map (·.1))) := by
  obtain ⟨tv, fv, pv, rfl, _, hal, hfl, hpl⟩ := ht
  obtain ⟨ta, tc, rfl, _⟩ := hal.shape
  obtain ⟨pa, pc, rfl, _⟩ := hpl.shape
  have hall : t.faults.length ≤ 1000 := hfl.1
  have hnl := Lib.hid hfl.2.1
  have Hfl0 := Lib.hid hfl
  obtain ⟨a, c, rfl, hs⟩ := hfl.shape
  have Hfl := Lib.hid hfl
  have Hs := Lib.hid hs
  have HN := Lib.hid hN
  have HR := Lib.hid hR
  clear hal hs hN hR hfl hpl
  obtain ⟨w0, hw0⟩ : ∃ w0, w0 = w.alloc (.cells #[sv t.name, .int .i64 t.number, .int .i64 t.version, .slice ta t.types.length tc, .slice a t.faults.length c, .slice pa t.procs.length pc] 121) := ⟨_, rfl⟩
  have f0 : Hid (Fr (fun _ => False) w w0) := Lib.hid (by rw [hw0]; exact (Fr.refl _ _).alloc _)
  have q2 : Hid (w0.heap[w.heap.size]? = some (.cells #[sv t.name, .int .i64 t.number, .int .i64 t.version, .slice ta t.types.length tc, .slice a t.faults.length c, .slice pa t.procs.length pc] 121 (0, 0))) := Lib.hid (by rw [hw0]; exact heap_alloc_new _ _)
  have s0 : Hid (w0.heap.size = w.heap.size + 1) := Lib.hid (by rw [hw0]; simp)
  have c3 := cells_row q2.out 4 _ rfl
  unfold namer
  unfold sv at *
  go_enter Try.func73, Try.ntmps73
  go_wp2
  rw [← hw0]
  clear hw0 c3
  go_loopg [5, 6, 7, 11] t.faults.length (fun G u5 u6 u7 u11 wr => ∃ j : Nat, j ≤ t.faults.length ∧ G = t.faults.length - j ∧ u11 = .int .i64 j ∧ Hid (firstE (faultE bef t.faults) j = 0 ∧ Fr (fun k => b ≤ k) w wr ∧
    wr.heap[w.heap.size]? = some (.cells #[.string ⟨t.name.toArray⟩, .int .i64 t.number, .int .i64 t.version, .slice ta t.types.length tc, .slice a t.faults.length c, .slice pa t.procs.length pc] 121 (0, 0)) ∧
    Nm (fun k => k < b ∨ k = w.heap.size) wr b (bef ++ (t.faults.take j).map (·.1))))
  case atStart => exact ⟨0, Nat.zero_le _, rfl, by go_num, Lib.hid ⟨rfl, f0.out.mono (fun _ _ h => absurd h (fun h => h)), q2.out, by simpa using (HN.out.guard (Q := fun k => k < b ∨ k = w.heap.size) (fun k hk h => by omega)).fr f0.out (fun _ h => absurd h (fun h => h))⟩⟩
  case round =>
    obtain ⟨j, hj, rfl, rfl, HI⟩ := hrel
    by_cases hlt : j < t.faults.length
    · rcases Hs.out with hz | ⟨hcap, g, off, hg, rfl, hcell⟩
      · omega
      obtain ⟨nm, num, htt⟩ : ∃ nm num, t.faults[j]? = some (nm, num) := ⟨t.faults[j].1, t.faults[j].2, by rw [List.getElem?_eq_getElem hlt]⟩
      obtain ⟨y, y0⟩ := hcell j _ htt
      have nb : ∀ k, R k → ¬ b ≤ k := fun k hk h => by have := HR.out k hk; omega
      have y := cell_fr HI.out.2.1 nb hg y
      have y0 := cell_fr HI.out.2.1 nb hg y0
      have NB := Lib.hid nb
      have hgd : t.faults.getD j ([], 0) = (nm, num) := by rw [List.getD_eq_getElem?_getD, htt]; rfl
      have hnml : nm.length ≤ 1000 := hnl.out _ (List.mem_of_getElem? htt)
      have htk : bef ++ (t.faults.take (j + 1)).map (·.1) = bef ++ (t.faults.take j).map (·.1) ++ [nm] := by
        rw [List.take_add_one, htt]; simp
      have HGD := Lib.hid hgd
      have HTK := Lib.hid htk
      clear hcell nb htt hgd htk
      unfold sv at y
      simp only at y0
      obtain ⟨wb, hwb⟩ : ∃ wb, wb = wr.alloc (.cells #[.string ⟨nm.toArray⟩, .int .i64 num] 136) := ⟨_, rfl⟩
      have fb : Fr (fun _ => False) wr wb := by rw [hwb]; exact (Fr.refl _ _).alloc _
      have qb : wb.heap[wr.heap.size]? = some (.cells #[.string ⟨nm.toArray⟩, .int .i64 num] 136 (0, 0)) := by rw [hwb]; exact heap_alloc_new _ _
      have sb : wb.heap.size = wr.heap.size + 1 := by rw [hwb]; simp
      have hwr : w.heap.size + 1 ≤ wr.heap.size := lt_of_block HI.out.2.2.1
      have hNb : Nm (fun k => (k < b ∨ k = w.heap.size) ∨ k = wr.heap.size) wb b (bef ++ (t.faults.take j).map (·.1)) :=
        (HI.out.2.2.2.guard (Q := fun k => (k < b ∨ k = w.heap.size) ∨ k = wr.heap.size) (fun k hk h => by rcases h with h | h; exact h; omega)).fr fb (fun _ h => absurd h (fun h => h))
      have hnx := name_next _ b (bef ++ (t.faults.take j).map (·.1)) nm wb hNb (fun k h => by omega) (by simp; omega) (by unfold maxLen; omega)
      unfold sv at hnx
      rw [hwb] at hnx
      have HB := Lib.hid (And.intro hwb (And.intro fb (And.intro qb sb)))
      clear hwb fb qb sb hNb
      obtain ⟨E, hE⟩ : ∃ E, E = nameE (bef ++ (t.faults.take j).map (·.1)) nm := ⟨_, rfl⟩
      rw [← hE] at hnx
      have HE := Lib.hid hE
      clear hE
      go_wp2_with fail
      refine hnx.mono ?_
      rintro e w2 ⟨rfl, f2, N2⟩
      rw [← HB.out.1] at f2
      have HF2 := Lib.hid (And.intro f2 N2)
      clear f2 N2 hnx
      by_cases he : E = 0
      · subst he
        have N2 := HF2.out.2 (by first | trivial | rfl)
        have qt := box_kept (box_kept HI.out.2.2.1 HB.out.2.1 (fun h => h)) HF2.out.1 (by omega)
        have qa := box_kept HB.out.2.2.1 HF2.out.1 (by omega)
        have fw2 : Fr (fun k => b ≤ k) w w2 := (HI.out.2.1.trans HB.out.2.1 (fun _ _ h => absurd h (fun h => h))).trans HF2.out.1 (fun i hi h => by omega)
        have hcf := contains_fault R (t.faults.take j) (.slice (some ⟨g, off, none⟩) j c) wr.heap.size _ num w2 ((Faults.take Hfl0.out j (by omega)).fr fw2 (fun k hk => NB.out k hk)) qa
        have d1 := cells_row qa 1 _ rfl
        have c4 := cells_row qt 4 _ rfl
        have HQ := Lib.hid (And.intro qt (And.intro qa (And.intro fw2 N2)))
        obtain ⟨B, hB⟩ : ∃ B, B = (t.faults.take j).any (fun x => decide (x.2 = num)) := ⟨_, rfl⟩
        rw [← hB] at hcf
        have HBB := Lib.hid hB
        clear qt qa fw2 N2 hB y y0
        have hjc : (j : Int) ≤ (c : Int) := by omega
        have hj0 : (0 : Int) ≤ (j : Int) := by omega
        by_cases hv : validN num = true
        · have HV := Lib.hid hv
          clear hv
          cases B with
          | true =>
            have ea : faultE bef t.faults j = 9 := by unfold faultE; rw [HGD.out]; simp only [if_pos HE.out.symm, HV.out, ← HBB.out]; rfl
            have es : firstE (faultE bef t.faults) t.faults.length = 9 := by rw [firstE_stop _ _ j hlt HI.out.1 (by rw [ea]; decide), ea]
            have ES := Lib.hid es
            clear ea es
            go_wp2_with fail
            refine (validN_any num _).mono ?_
            rintro e w' ⟨rfl, rfl⟩
            rw [HV.out]
            go_wp2_with fail
            refine hcf.mono ?_
            rintro e w3 ⟨rfl, f3⟩
            have f3 := Lib.hid f3
            go_wp2
            go_ret
            rw [ES.out]
            exact ⟨rfl, HQ.out.2.2.1.trans f3.out (fun _ _ h => absurd h (fun h => h)), fun h => by cases h⟩
          | false =>
            have ea : faultE bef t.faults j = 0 := by unfold faultE; rw [HGD.out]; simp only [if_pos HE.out.symm, HV.out, ← HBB.out]; rfl
            have EA := Lib.hid ea
            clear ea
            go_wp2_with fail
            refine (validN_any num _).mono ?_
            rintro e w' ⟨rfl, rfl⟩
            rw [HV.out]
            go_wp2_with fail
            refine hcf.mono ?_
            rintro e w3 ⟨rfl, f3⟩
            have f3 := Lib.hid f3
            go_wp2
            go_roundg (t.faults.length - (j + 1))
            case measure => omega
            case rel =>
              refine ⟨j + 1, by omega, rfl, by go_num, Lib.hid ⟨firstE_step _ _ HI.out.1 EA.out, HQ.out.2.2.1.trans f3.out (fun _ _ h => absurd h (fun h => h)), box_kept HQ.out.1 f3.out (fun h => h), ?_⟩⟩
              rw [HTK.out]
              exact (HQ.out.2.2.2.guard (Q := fun k => k < b ∨ k = w.heap.size) (fun k _ h => .inl h)).fr f3.out (fun _ h => absurd h (fun h => h))
        · have hv' := eq_false_of_ne_true hv
          have HV := Lib.hid hv'
          clear hv hv'
          have ea : faultE bef t.faults j = 2 := by unfold faultE; rw [HGD.out]; simp only [if_pos HE.out.symm, HV.out]; rfl
          have es : firstE (faultE bef t.faults) t.faults.length = 2 := by rw [firstE_stop _ _ j hlt HI.out.1 (by rw [ea]; decide), ea]
          have ES := Lib.hid es
          clear ea es
          go_wp2_with fail
          refine (validN_any num _).mono ?_
          rintro e w' ⟨rfl, rfl⟩
          rw [HV.out]
          go_wp2
          go_ret
          rw [ES.out]
          exact ⟨rfl, HQ.out.2.2.1, fun h => by cases h⟩
      · have he' : ¬ (E : Int) = 0 := by omega
        go_wp2
        go_ret
        have ea : faultE bef t.faults j = E := by unfold faultE; rw [HGD.out]; rw [if_neg (by rw [← HE.out]; exact he), HE.out]
        have es : firstE (faultE bef t.faults) t.faults.length = E := by rw [firstE_stop _ _ j hlt HI.out.1 (by rw [ea]; exact he), ea]
        rw [es]
        refine ⟨rfl, (HI.out.2.1.trans HB.out.2.1 (fun _ _ h => absurd h (fun h => h))).trans HF2.out.1 (fun i hi h => by omega), fun h => absurd h he⟩
    · obtain rfl : j = t.faults.length := by omega
      go_wp2
      go_ret
      rw [HI.out.1]
      refine ⟨rfl, HI.out.2.1, fun _ => ?_⟩
      have := HI.out.2.2.2
      rw [List.take_length] at this
      exact this.guard (fun k _ h => .inl h)
end
section
/-- What Whole leaves. -/
def WholeOf (r : WR) (w : World) (e : Ending) (w' : World) : Prop :=
  ∃ tv, e = .returned (.tuple #[tv, .int .i64 (r.e : Nat)]) ∧ Fr (fun _ => False) w w' ∧ Shows (fun k => w.heap.size ≤ k) w' r.t tv

set_option maxRecDepth 100000 in
theorem tabWhole_any (R : Nat → Prop) (t : KTab) (x : KT) (v xv : Value) (w : World) (ht : Tabled R w t v) (hx : Shows R w x xv) :
    Calls Try.prog 85 #[v, xv] w (WholeOf (wholeE 20 t.types x 200) w) := by
  obtain ⟨tv, fv, pv, rfl, _, hal, hfl, hpl⟩ := ht
  obtain ⟨ta, tc, rfl, _⟩ := hal.shape
  obtain ⟨fa, fc, rfl, _⟩ := hfl.shape
  obtain ⟨pa, pc, rfl, _⟩ := hpl.shape
  obtain ⟨k, m, a, n, c, a', n', c', rfl⟩ := hx.four
  have HAL := Lib.hid (hal.mono (S := fun k => R k ∧ k < w.heap.size) (fun k hk h => ⟨h, hk⟩))
  have HX := Lib.hid (Shows.mono (S := fun k => R k ∧ k < w.heap.size) (fun k hk h => ⟨h, hk⟩) _ _ hx)
  clear hal hfl hpl hx
  unfold sv
  obtain ⟨w4, hw4⟩ : ∃ w4, w4 = (((w.alloc (.cells #[.string ⟨t.name.toArray⟩, .int .i64 t.number, .int .i64 t.version, .slice ta t.types.length tc, .slice fa t.faults.length fc, .slice pa t.procs.length pc] 121)).alloc (.cells #[.int .u8 k, .int .i64 m, .slice a n c, .slice a' n' c'] 34)).alloc (.cells #[.int .u8 0, .int .i64 0, .slice none 0 0, .slice none 0 0] 34)).alloc (.cells #[.int .i64 200] 3) := ⟨_, rfl⟩
  have f4 : Fr (fun _ => False) w w4 := by rw [hw4]; exact ((((Fr.refl _ _).alloc _).alloc _).alloc _).alloc _
  have s4 : w4.heap.size = w.heap.size + 4 := by rw [hw4]; simp
  have g6 : w4.heap[w.heap.size + 3]? = some (.cells #[.int .i64 200] 3 (0, 0)) := by
    have := heap_alloc_new (((w.alloc (.cells #[.string ⟨t.name.toArray⟩, .int .i64 t.number, .int .i64 t.version, .slice ta t.types.length tc, .slice fa t.faults.length fc, .slice pa t.procs.length pc] 121)).alloc (.cells #[.int .u8 k, .int .i64 m, .slice a n c, .slice a' n' c'] 34)).alloc (.cells #[.int .u8 0, .int .i64 0, .slice none 0 0, .slice none 0 0] 34)) (.cells #[.int .i64 200] 3)
    rw [← hw4] at this
    simpa using this
  have g4 : w4.heap[w.heap.size + 2]? = some (.cells #[.int .u8 0, .int .i64 0, .slice none 0 0, .slice none 0 0] 34 (0, 0)) := by
    rw [hw4, Below.heap_alloc _ _ _ (by simp)]
    have := heap_alloc_new ((w.alloc (.cells #[.string ⟨t.name.toArray⟩, .int .i64 t.number, .int .i64 t.version, .slice ta t.types.length tc, .slice fa t.faults.length fc, .slice pa t.procs.length pc] 121)).alloc (.cells #[.int .u8 k, .int .i64 m, .slice a n c, .slice a' n' c'] 34)) (.cells #[.int .u8 0, .int .i64 0, .slice none 0 0, .slice none 0 0] 34)
    simpa using this
  have hcall := whole_any 20 t.types x (fun k => R k ∧ k < w.heap.size) (.agg #[.int .u8 k, .int .i64 m, .slice a n c, .slice a' n' c']) (.slice ta t.types.length tc) 20 (w.heap.size + 3) 200 w4 rfl (by omega) (by omega) (fun h => by omega) (Shows.fr f4 (fun _ _ h => h) _ _ HX.out) (HAL.out.fr f4 (fun _ _ h => h)) g6
  have H4 := Lib.hid (And.intro f4 (And.intro s4 (And.intro g6 g4)))
  rw [hw4] at hcall
  clear f4 s4 g6 g4
  go_enter Try.func85, Try.ntmps85
  go_wp2_with fail
  refine hcall.mono ?_
  rintro e w5 ⟨tv, rfl, f5, g5, hs5, hl5⟩
  rw [← hw4] at f5 hs5
  obtain ⟨k2, m2, a2, n2, c2, a3, n3, c3, rfl⟩ := hs5.four
  have q4 := box_kept H4.out.2.2.2 f5 (by omega)
  obtain ⟨b0, b1, b2, b3⟩ := cell_of_four q4
  have z0 : w5.frozen? ⟨w.heap.size + 2, 0, none⟩ = false := by simp [World.frozen?, q4]
  have z1 : w5.frozen? ⟨w.heap.size + 2, 1, none⟩ = false := by simp [World.frozen?, q4]
  have z2 : w5.frozen? ⟨w.heap.size + 2, 2, none⟩ = false := by simp [World.frozen?, q4]
  have z3 : w5.frozen? ⟨w.heap.size + 2, 3, none⟩ = false := by simp [World.frozen?, q4]
  have H5 := Lib.hid (And.intro f5 (And.intro hs5 q4))
  clear f5 g5 hs5 hl5 q4 hcall hw4
  go_wp2
  refine bodyPost_ret (results_cell_tmp_row rfl _ _ (w.heap.size + 2) 34 _ _ _ rfl (store_four H5.out.2.2) Try.underlying34 rfl (by kernel_rfl)) rfl ?_
  have f6 := fr_four (w := w5) (b := w.heap.size + 2) (.int .u8 k2) (.int .i64 m2) (.slice a2 n2 c2) (.slice a3 n3 c3) (S := fun k => k = w.heap.size + 2) (Fr.refl _ _) (fun _ => rfl)
  refine ⟨_, rfl, ((H4.out.1.trans H5.out.1 (S := fun _ => False) (fun i hi h => by omega)).trans f6 (fun i hi h => by omega)), ?_⟩
  have := Shows.fr (R := fun k => w4.heap.size ≤ k) f6 (fun k hk h => by have := H4.out.2.1; omega) _ _ H5.out.2.1
  exact Shows.mono (fun k _ h => by have := H4.out.2.1; omega) _ _ this

theorem proc_cells {w : World} {g o : Nat} {p : KProc} {x0 x1 x2 x3 y0 y1 y2 y3 : Value} (h : ∀ j u, (procCells p x0 x1 x2 x3 y0 y1 y2 y3)[j]? = some u → w.cell? ⟨g, o + j, none⟩ = some u) :
    w.cell? ⟨g, o, none⟩ = some (sv p.name) ∧ w.cell? ⟨g, o + 1, none⟩ = some (.int .i64 p.number) ∧ w.cell? ⟨g, o + 2, none⟩ = some x0 ∧ w.cell? ⟨g, o + 3, none⟩ = some x1 ∧ w.cell? ⟨g, o + 4, none⟩ = some x2 ∧ w.cell? ⟨g, o + 5, none⟩ = some x3 ∧
    w.cell? ⟨g, o + 6, none⟩ = some y0 ∧ w.cell? ⟨g, o + 7, none⟩ = some y1 ∧ w.cell? ⟨g, o + 8, none⟩ = some y2 ∧ w.cell? ⟨g, o + 9, none⟩ = some y3 ∧ w.cell? ⟨g, o + 10, none⟩ = some (.int .u8 p.collate) ∧ w.cell? ⟨g, o + 11, none⟩ = some (.int .i64 p.timeout) :=
  ⟨h 0 _ rfl, h 1 _ rfl, h 2 _ rfl, h 3 _ rfl, h 4 _ rfl, h 5 _ rfl, h 6 _ rfl, h 7 _ rfl, h 8 _ rfl, h 9 _ rfl, h 10 _ rfl, h 11 _ rfl⟩

theorem proc_fn {R : Nat → Prop} {t1 t2 : KT} {x0 x1 x2 x3 y0 y1 y2 y3 : Value} {w : World} (b : Nat) (cs : Array Value) (n n' : Int) (d : Txt) (col : Nat) (tmo : Int) (hx : Shows R w t1 (.agg #[x0, x1, x2, x3])) (hy : Shows R w t2 (.agg #[y0, y1, y2, y3])) (hb : w.heap[b]? = some (.cells cs 141 (0, 0))) (hn : cs[1]? = some (.int .i64 n)) :
    Calls Try.prog 84 #[.agg #[sv d, .int .i64 n', x0, x1, x2, x3, y0, y1, y2, y3, .int .u8 col, .int .i64 tmo], .pointer (some ⟨b, 0, none⟩)] w fun e w' => e = .returned (.bool (decide (n' = n))) ∧ Fr (fun _ => False) w w' := by
  obtain ⟨pk, pm, pa', pn, pc', pa2, pn2, pc2, rfl, rfl, rfl, rfl⟩ := hx.cells
  obtain ⟨qk, qm, qa', qn, qc', qa2, qn2, qc2, rfl, rfl, rfl, rfl⟩ := hy.cells
  have c1 := cells_row hb 1 _ hn
  have hlt := lt_of_block hb
  have n1 : b ≠ w.heap.size := by omega
  clear hb hn hx hy
  unfold sv
  by_cases h : n' = n
  · subst h
    go_enter Try.func84, Try.ntmps84
    go_wp2
    go_ret
    exact ⟨ret_bool (by simp), (Fr.refl _ _).alloc _⟩
  · have h' : (n' == n) = false := by simpa using h
    go_enter Try.func84, Try.ntmps84
    go_wp2
    go_ret
    exact ⟨ret_bool (by simp [h]), (Fr.refl _ _).alloc _⟩

theorem index_proc (R : Nat → Prop) (l : List KProc) (v : Value) (b : Nat) (cs : Array Value) (n : Int) (w : World) (h : Procs R w l v) (hb : w.heap[b]? = some (.cells cs 141 (0, 0))) (hn : cs[1]? = some (.int .i64 n)) :
    Calls Try.prog 92 #[v, .func (.func 84) #[] #[.pointer (some ⟨b, 0, none⟩)]] w fun e w' => e = .returned (.int .i64 (firstAt (fun x => decide (x.number = n)) l)) ∧ Fr (fun _ => False) w w' := by
  have hl0 : l.length ≤ 1000 := h.1
  obtain ⟨a, cap, rfl, hs⟩ := h.shape
  have Hs := Lib.hid hs
  have Hb := Lib.hid hb
  clear hs h hb
  go_enter Try.func92, Try.ntmps92
  go_wp2
  go_loopg [5, 8] l.length (fun G u5 u8 wr => ∃ k : Nat, k ≤ l.length ∧ G = l.length - k ∧ u8 = .int .i64 k ∧ Hid ((∀ j, (hj : j < l.length) → j < k → l[j].number ≠ n) ∧ Fr (fun _ => False) w wr))
  case atStart => exact ⟨0, Nat.zero_le _, rfl, by go_num, Lib.hid ⟨fun j _ hj => by omega, Fr.refl _ _⟩⟩
  case round =>
    obtain ⟨k, hk, rfl, rfl, HI⟩ := hrel
    by_cases hlt : k < l.length
    · rcases Hs.out with hz | ⟨hcap, ga, oa, hg, rfl, hcell⟩
      · omega
      obtain ⟨d, hd⟩ : ∃ d, d = l[k] := ⟨_, rfl⟩
      obtain ⟨x0, x1, x2, x3, y0, y1, y2, y3, q, hx, hy⟩ := hcell k d (by rw [List.getElem?_eq_getElem hlt, hd])
      have q : ∀ j u, (procCells d x0 x1 x2 x3 y0 y1 y2 y3)[j]? = some u → wr.cell? ⟨ga, oa + k * 12 + j, none⟩ = some u := fun j u hj => cell_fr (R := fun _ => True) HI.out.2 (fun _ _ h => h) trivial (q j u hj)
      obtain ⟨p0, p1, p2, p3, p4, p5, p6, p7, p8, p9, p10, p11⟩ := proc_cells q
      have hx := Shows.fr HI.out.2 (fun _ _ h => h) _ _ (Shows.mono (S := fun _ => True) (fun _ _ _ => trivial) _ _ hx)
      have hy := Shows.fr HI.out.2 (fun _ _ h => h) _ _ (Shows.mono (S := fun _ => True) (fun _ _ _ => trivial) _ _ hy)
      clear hcell q
      have hfn := proc_fn b cs n d.number d.name d.collate d.timeout hx hy (box_kept Hb.out HI.out.2 (fun h => h)) hn
      obtain ⟨pk, pm, pa', pn, pc', pa2, pn2, pc2, rfl, rfl, rfl, rfl⟩ := hx.cells
      obtain ⟨qk, qm, qa', qn, qc', qa2, qn2, qc2, rfl, rfl, rfl, rfl⟩ := hy.cells
      clear hx hy
      have Hd := Lib.hid hd
      clear hd
      unfold sv at *
      by_cases he : d.number = n
      · have hb1 : decide (d.number = n) = true := by simpa using he
        rw [hb1] at hfn
        have He := Lib.hid he
        clear he hb1
        go_wp2_with fail
        refine hfn.mono ?_
        rintro e w1 ⟨rfl, f1⟩
        have f1 := Lib.hid f1
        go_wp2
        go_ret
        refine ⟨ret_int ?_, HI.out.2.trans f1.out (fun _ _ h => h)⟩
        exact (firstAt_found _ l k hlt (fun j hj hjk => by simpa using HI.out.1 j hj hjk) (by rw [← Hd.out]; simpa using He.out)).symm
      · have hb1 : decide (d.number = n) = false := by simpa using he
        rw [hb1] at hfn
        have He := Lib.hid he
        clear he hb1
        go_wp2_with fail
        refine hfn.mono ?_
        rintro e w1 ⟨rfl, f1⟩
        have f1 := Lib.hid f1
        go_wp2
        go_roundg (l.length - (k + 1))
        case measure => omega
        case rel => exact ⟨k + 1, by omega, rfl, by go_num, Lib.hid ⟨fun j hj' hj => by
          by_cases h : j < k
          · exact HI.out.1 j hj' h
          · obtain rfl : j = k := by omega
            rw [← Hd.out]; exact He.out, HI.out.2.trans f1.out (fun _ _ h => h)⟩⟩
    · obtain rfl : k = l.length := by omega
      go_wp2
      go_ret
      refine ⟨ret_int ?_, HI.out.2⟩
      exact (firstAt_none _ l (fun j hj => by simpa using HI.out.1 j hj hj)).symm

theorem contains_proc (R : Nat → Prop) (l : List KProc) (v : Value) (b : Nat) (cs : Array Value) (n : Int) (w : World) (h : Procs R w l v) (hb : w.heap[b]? = some (.cells cs 141 (0, 0))) (hn : cs[1]? = some (.int .i64 n)) :
    Calls Try.prog 83 #[v, .func (.func 84) #[] #[.pointer (some ⟨b, 0, none⟩)]] w fun e w' => e = .returned (.bool (l.any fun x => decide (x.number = n))) ∧ Fr (fun _ => False) w w' := by
  have hc := index_proc R l v b cs n w h hb hn
  clear h hb hn
  go_enter Try.func83, Try.ntmps83
  go_wp2_with fail
  refine hc.mono ?_
  rintro e w' ⟨rfl, f1⟩
  have f1 := Lib.hid f1
  clear hc
  go_wp2
  go_ret
  exact ⟨ret_bool (firstAt_ge _ _), f1.out⟩
end
section
set_option maxRecDepth 100000 in
theorem checkProcs_any (R : Nat → Prop) (t : KTab) (bef : List Txt) (v : Value) (b : Nat) (w : World) (hbl : bef.length ≤ 10000) (ht : Tabled R w t v) (hR : ∀ k, R k → k < b) (hb : b < w.heap.size) (hN : Nm (fun k => k < b) w b bef) :
    Calls Try.prog 74 #[v, namer b] w fun e w' => e = .returned (.int .i64 (firstE (procE bef t.types t.procs) t.procs.length)) ∧ Fr (fun k => b ≤ k) w w' := by
  have HT0 := Lib.hid ht
  obtain ⟨tv, fv, pv, rfl, _, hal, hfl, hpl⟩ := ht
  obtain ⟨ta, tc, rfl, _⟩ := hal.shape
  obtain ⟨fa, fc, rfl, _⟩ := hfl.shape
  have hall : t.procs.length ≤ 1000 := hpl.1
  have hnl := Lib.hid hpl.2.1
  have Hpl0 := Lib.hid hpl
  obtain ⟨a, c, rfl, hs⟩ := hpl.shape
  have Hpl := Lib.hid hpl
  have Hal := Lib.hid hal
  have Hs := Lib.hid hs
  have HN := Lib.hid hN
  have HR := Lib.hid hR
  clear hal hs hN hR hfl hpl
  obtain ⟨w0, hw0⟩ : ∃ w0, w0 = w.alloc (.cells #[sv t.name, .int .i64 t.number, .int .i64 t.version, .slice ta t.types.length tc, .slice fa t.faults.length fc, .slice a t.procs.length c] 121) := ⟨_, rfl⟩
  have f0 : Hid (Fr (fun _ => False) w w0) := Lib.hid (by rw [hw0]; exact (Fr.refl _ _).alloc _)
  have q2 : Hid (w0.heap[w.heap.size]? = some (.cells #[sv t.name, .int .i64 t.number, .int .i64 t.version, .slice ta t.types.length tc, .slice fa t.faults.length fc, .slice a t.procs.length c] 121 (0, 0))) := Lib.hid (by rw [hw0]; exact heap_alloc_new _ _)
  have c3 := cells_row q2.out 5 _ rfl
  have ix0 : ∀ (x0 x1 x2 x3 x4 x5 x6 x7 : Value) (w : World), (Instr.index 144 (.agg #[x0, x1, x2, x3, x4, x5, x6, x7]) (.int .i64 0)).run Try.prog w = .ok (.agg #[x0, x1, x2, x3]) w := fun _ _ _ _ _ _ _ _ _ => by kernel_rfl
  have ix1 : ∀ (x0 x1 x2 x3 x4 x5 x6 x7 : Value) (w : World), (Instr.index 144 (.agg #[x0, x1, x2, x3, x4, x5, x6, x7]) (.int .i64 1)).run Try.prog w = .ok (.agg #[x4, x5, x6, x7]) w := fun _ _ _ _ _ _ _ _ _ => by kernel_rfl
  unfold namer
  unfold sv at *
  go_enter Try.func74, Try.ntmps74
  go_wp2
  rw [← hw0]
  clear hw0 c3
  go_loopg [5, 6, 7, 9, 10, 11, 12, 16] t.procs.length (fun G u5 u6 u7 u9 u10 u11 u12 u16 wr => ∃ j : Nat, j ≤ t.procs.length ∧ G = t.procs.length - j ∧ u16 = .int .i64 j ∧ Hid (firstE (procE bef t.types t.procs) j = 0 ∧ Fr (fun k => b ≤ k) w wr ∧
    wr.heap[w.heap.size]? = some (.cells #[.string ⟨t.name.toArray⟩, .int .i64 t.number, .int .i64 t.version, .slice ta t.types.length tc, .slice fa t.faults.length fc, .slice a t.procs.length c] 121 (0, 0)) ∧
    Nm (fun k => k < b ∨ k = w.heap.size) wr b (bef ++ (t.procs.take j).map (·.name))))
  case atStart => exact ⟨0, Nat.zero_le _, rfl, by go_num, Lib.hid ⟨rfl, f0.out.mono (fun _ _ h => absurd h (fun h => h)), q2.out, by simpa using (HN.out.guard (Q := fun k => k < b ∨ k = w.heap.size) (fun k hk h => by omega)).fr f0.out (fun _ h => absurd h (fun h => h))⟩⟩
  case round =>
    obtain ⟨wo, rfl⟩ : ∃ wo : World, wo = wr := ⟨_, rfl⟩
    obtain ⟨j, hj, rfl, rfl, HI⟩ := hrel
    by_cases hlt : j < t.procs.length
    · rcases Hs.out with hz | ⟨hcap, g, off, hg, rfl, hcell⟩
      · omega
      obtain ⟨p, htt⟩ : ∃ p, t.procs[j]? = some p := ⟨t.procs[j], by rw [List.getElem?_eq_getElem hlt]⟩
      obtain ⟨x0, x1, x2, x3, y0, y1, y2, y3, q, hx, hy⟩ := hcell j _ htt
      have nb : ∀ k, R k → ¬ b ≤ k := fun k hk h => by have := HR.out k hk; omega
      have q : ∀ i u, (procCells p x0 x1 x2 x3 y0 y1 y2 y3)[i]? = some u → wo.cell? ⟨g, off + j * 12 + i, none⟩ = some u := fun i u hi => cell_fr HI.out.2.1 nb hg (q i u hi)
      obtain ⟨p0, p1, p2, p3, p4, p5, p6, p7, p8, p9, p10, p11⟩ := proc_cells q
      have NB := Lib.hid nb
      obtain ⟨pk, pm, pa, pn, pc, pa2, pn2, pc2, rfl, rfl, rfl, rfl⟩ := hx.cells
      obtain ⟨qk, qm, qa, qn, qc, qa2, qn2, qc2, rfl, rfl, rfl, rfl⟩ := hy.cells
      have HX := Lib.hid hx
      have HY := Lib.hid hy
      have hgd : t.procs.getD j noProc = p := by rw [List.getD_eq_getElem?_getD, htt]; rfl
      have hnml : p.name.length ≤ 1000 := (hnl.out _ (List.mem_of_getElem? htt)).1
      have htk : bef ++ (t.procs.take (j + 1)).map (·.name) = bef ++ (t.procs.take j).map (·.name) ++ [p.name] := by
        rw [List.take_add_one, htt]; simp
      have HGD := Lib.hid hgd
      have HTK := Lib.hid htk
      clear hcell nb htt hgd htk hx hy q
      unfold sv at p0
      obtain ⟨wb, hwb⟩ : ∃ wb, wb = wo.alloc (.cells #[.string ⟨p.name.toArray⟩, .int .i64 p.number, .int .u8 pk, .int .i64 pm, .slice pa pn pc, .slice pa2 pn2 pc2, .int .u8 qk, .int .i64 qm, .slice qa qn qc, .slice qa2 qn2 qc2, .int .u8 p.collate, .int .i64 p.timeout] 141) := ⟨_, rfl⟩
      have fb : Fr (fun _ => False) wo wb := by rw [hwb]; exact (Fr.refl _ _).alloc _
      have qb : wb.heap[wo.heap.size]? = some (.cells #[.string ⟨p.name.toArray⟩, .int .i64 p.number, .int .u8 pk, .int .i64 pm, .slice pa pn pc, .slice pa2 pn2 pc2, .int .u8 qk, .int .i64 qm, .slice qa qn qc, .slice qa2 qn2 qc2, .int .u8 p.collate, .int .i64 p.timeout] 141 (0, 0)) := by rw [hwb]; exact heap_alloc_new _ _
      have sb : wb.heap.size = wo.heap.size + 1 := by rw [hwb]; simp
      have hwr : w.heap.size + 1 ≤ wo.heap.size := lt_of_block HI.out.2.2.1
      have hNb : Nm (fun k => (k < b ∨ k = w.heap.size) ∨ k = wo.heap.size) wb b (bef ++ (t.procs.take j).map (·.name)) :=
        (HI.out.2.2.2.guard (Q := fun k => (k < b ∨ k = w.heap.size) ∨ k = wo.heap.size) (fun k hk h => by rcases h with h | h; exact h; omega)).fr fb (fun _ h => absurd h (fun h => h))
      have hnx := name_next _ b (bef ++ (t.procs.take j).map (·.name)) p.name wb hNb (fun k h => by omega) (by simp; omega) (by unfold maxLen; omega)
      unfold sv at hnx
      rw [hwb] at hnx
      have HB := Lib.hid (And.intro hwb (And.intro fb (And.intro qb sb)))
      clear hwb fb qb sb hNb
      obtain ⟨E, hE⟩ : ∃ E, E = nameE (bef ++ (t.procs.take j).map (·.name)) p.name := ⟨_, rfl⟩
      rw [← hE] at hnx
      have HE := Lib.hid hE
      clear hE
      go_wp2_with fail
      refine hnx.mono ?_
      rintro e w2 ⟨rfl, f2, N2⟩
      rw [← HB.out.1] at f2
      have HF2 := Lib.hid (And.intro f2 N2)
      clear f2 N2 hnx p0 p1 p2 p3 p4 p5 p6 p7 p8 p9 p10 p11
      by_cases he : E = 0
      · subst he
        have N2 := HF2.out.2 (by first | trivial | rfl)
        have qt := box_kept (box_kept HI.out.2.2.1 HB.out.2.1 (fun h => h)) HF2.out.1 (by omega)
        have qa := box_kept HB.out.2.2.1 HF2.out.1 (by omega)
        have fw2 : Fr (fun k => b ≤ k) w w2 := (HI.out.2.1.trans HB.out.2.1 (fun _ _ h => absurd h (fun h => h))).trans HF2.out.1 (fun i hi h => by omega)
        have d1 := cells_row qa 1 _ rfl
        have d10 := cells_row qa 10 _ rfl
        have d11 := cells_row qa 11 _ rfl
        have c5 := cells_row qt 5 _ rfl
        have hcp := contains_proc R (t.procs.take j) (.slice (some ⟨g, off, none⟩) j c) wo.heap.size _ p.number w2 ((Procs.take Hpl0.out j (by omega)).fr fw2 (fun k hk => NB.out k hk)) qa rfl
        have HQ := Lib.hid (And.intro qt (And.intro qa (And.intro fw2 N2)))
        obtain ⟨B, hB⟩ : ∃ B, B = (t.procs.take j).any (fun x => decide (x.number = p.number)) := ⟨_, rfl⟩
        rw [← hB] at hcp
        have HBB := Lib.hid hB
        have e0 : procE bef t.types t.procs j = procE1 t.types (t.procs.take j) p := by unfold procE; rw [HGD.out, if_pos HE.out.symm]
        have E0 := Lib.hid e0
        clear qt qa fw2 N2 hB e0
        have hjc : (j : Int) ≤ (c : Int) := by omega
        have hj0 : (0 : Int) ≤ (j : Int) := by omega
        by_cases hr : (!validN p.number || decide (p.timeout < 1) || decide (1000 < p.timeout) || decide (3 ≤ p.collate)) = true
        · have ea : procE bef t.types t.procs j = 2 := by rw [E0.out]; unfold procE1; rw [if_pos hr]
          have es : firstE (procE bef t.types t.procs) t.procs.length = 2 := by rw [firstE_stop _ _ j hlt HI.out.1 (by rw [ea]; decide), ea]
          have ES := Lib.hid es
          clear ea es
          have four : validN p.number = false ∨ validN p.number = true ∧ p.timeout < 1 ∨ validN p.number = true ∧ ¬ p.timeout < 1 ∧ 1000 < p.timeout ∨ validN p.number = true ∧ ¬ p.timeout < 1 ∧ ¬ 1000 < p.timeout ∧ (3 : Int) ≤ (p.collate : Int) := by
            simp at hr
            cases hv : validN p.number with
            | false => exact .inl rfl
            | true =>
              rw [hv] at hr
              simp at hr ⊢
              omega
          clear hr
          rcases four with hv | ⟨hv, h1⟩ | ⟨hv, h1, h2⟩ | ⟨hv, h1, h2, h3⟩ <;>
          (have HV := Lib.hid hv
           clear hv
           go_wp2_with fail
           refine (validN_any p.number _).mono ?_
           rintro e w' ⟨rfl, rfl⟩
           rw [HV.out]
           go_wp2
           go_ret
           rw [ES.out]
           exact ⟨rfl, HQ.out.2.2.1⟩)
        · have hr' := hr
          simp at hr'
          obtain ⟨⟨⟨hv, h1⟩, h2⟩, h3⟩ := hr'
          have h1' : ¬ p.timeout < 1 := by omega
          have h2' : ¬ 1000 < p.timeout := by omega
          have h3' : ¬ (3 : Int) ≤ (p.collate : Int) := by omega
          have HV := Lib.hid hv
          have HRR := Lib.hid hr
          clear hv h1 h2 h3 hr
          go_wp2_with fail
          refine (validN_any p.number _).mono ?_
          rintro e w' ⟨rfl, rfl⟩
          rw [HV.out]
          go_wp2_with fail
          refine hcp.mono ?_
          rintro e w3 ⟨rfl, f3⟩
          have f3 := Lib.hid f3
          have F3 := Lib.hid (HQ.out.2.2.1.trans f3.out (fun _ _ h => absurd h (fun h => h)))
          clear hcp
          cases hBv : B with
          | true =>
            have ea : procE bef t.types t.procs j = 9 := by rw [E0.out]; unfold procE1; rw [if_neg HRR.out, ← HBB.out, hBv]; rfl
            have es : firstE (procE bef t.types t.procs) t.procs.length = 9 := by rw [firstE_stop _ _ j hlt HI.out.1 (by rw [ea]; decide), ea]
            have ES := Lib.hid es
            clear ea es
            go_wp2
            go_ret
            rw [ES.out]
            exact ⟨rfl, F3.out⟩
          | false =>
            have ea : procE bef t.types t.procs j = if usedE t.types p.takes = 0 then usedE t.types p.answers else usedE t.types p.takes := by rw [E0.out]; unfold procE1; rw [if_neg HRR.out, ← HBB.out, hBv]; rfl
            have EA := Lib.hid ea
            clear ea hBv HBB
            have qa := box_kept HQ.out.2.1 f3.out (fun h => h)
            have qt := box_kept HQ.out.1 f3.out (fun h => h)
            have e2 := cells_row qa 2 _ rfl
            have e3 := cells_row qa 3 _ rfl
            have e4 := cells_row qa 4 _ rfl
            have e5 := cells_row qa 5 _ rfl
            have e6 := cells_row qa 6 _ rfl
            have e7 := cells_row qa 7 _ rfl
            have e8 := cells_row qa 8 _ rfl
            have e9 := cells_row qa 9 _ rfl
            have HQ3 := Lib.hid (And.intro qt qa)
            clear qt qa d1 d10 d11 c5
            go_wp2
            go_loopg [9, 10, 11, 12, 58] 2 (fun G u9 u10 u11 u12 u58 wr => ∃ i : Nat, i ≤ 2 ∧ G = 2 - i ∧ u58 = .int .i64 i ∧ Hid (Fr (fun _ => False) w3 wr ∧ (1 ≤ i → usedE t.types p.takes = 0) ∧ (2 ≤ i → usedE t.types p.answers = 0)))
            case atStart => exact ⟨0, by omega, rfl, by go_num, Lib.hid ⟨Fr.refl _ _, fun h => absurd h (by omega), fun h => absurd h (by omega)⟩⟩
            case round =>
              obtain ⟨i, hi, rfl, rfl, HJ⟩ := hrel
              obtain rfl | rfl | rfl : i = 0 ∨ i = 1 ∨ i = 2 := by omega
              · have qt := box_kept HQ3.out.1 HJ.out.1 (fun h => h)
                have n8 : w.heap.size < wr.heap.size := lt_of_block qt
                have n9 : w.heap.size ≠ wr.heap.size := by omega
                have c0 := cells_row qt 0 _ rfl
                have c1 := cells_row qt 1 _ rfl
                have c2 := cells_row qt 2 _ rfl
                have c3 := cells_row qt 3 _ rfl
                have c4 := cells_row qt 4 _ rfl
                have c5 := cells_row qt 5 _ rfl
                obtain ⟨wx, hwx⟩ : ∃ wx, wx = wr.alloc (.cells #[.int .u8 pk, .int .i64 pm, .slice pa pn pc, .slice pa2 pn2 pc2] 34) := ⟨_, rfl⟩
                have fx : Fr (fun _ => False) wr wx := by rw [hwx]; exact (Fr.refl _ _).alloc _
                have qx : wx.heap[wr.heap.size]? = some (.cells #[.int .u8 pk, .int .i64 pm, .slice pa pn pc, .slice pa2 pn2 pc2] 34 (0, 0)) := by rw [hwx]; exact heap_alloc_new _ _
                have fw : Fr (fun k => b ≤ k) w wx := (F3.out.trans HJ.out.1 (fun _ _ h => absurd h (fun h => h))).trans fx (fun _ _ h => absurd h (fun h => h))
                have hrt := right_any t.types p.takes R (.agg #[.int .u8 pk, .int .i64 pm, .slice pa pn pc, .slice pa2 pn2 pc2]) (.slice ta t.types.length tc) wx 5 5 rfl (by omega) (Shows.fr fw (fun k hk => NB.out k hk) _ _ HX.out) (Hal.out.fr fw (fun k hk => NB.out k hk))
                obtain ⟨E1, hE1⟩ : ∃ E1, E1 = rightE t.types p.takes 5 := ⟨_, rfl⟩
                rw [← hE1, hwx] at hrt
                have HE1 := Lib.hid hE1
                have HW := Lib.hid (And.intro hwx (And.intro fx (And.intro qx fw)))
                have QT := Lib.hid qt
                clear hE1 hwx fx qx fw qt
                go_wp2_with fail
                refine hrt.mono ?_
                rintro e w5 ⟨rfl, f5⟩
                rw [← HW.out.1] at f5
                have F5 := Lib.hid f5
                clear f5 hrt
                by_cases he1 : E1 = 0
                · subst he1
                  have fw5 : Fr (fun k => b ≤ k) w w5 := HW.out.2.2.2.trans F5.out (fun _ _ h => absurd h (fun h => h))
                  have qx := box_kept HW.out.2.2.1 F5.out (fun h => h)
                  have qt := box_kept (box_kept QT.out HW.out.2.1 (fun h => h)) F5.out (fun h => h)
                  have m0 := cells_row qx 0 _ rfl
                  have m1 := cells_row qx 1 _ rfl
                  have m2 := cells_row qx 2 _ rfl
                  have m3 := cells_row qx 3 _ rfl
                  have k0 := cells_row qt 0 _ rfl
                  have k1 := cells_row qt 1 _ rfl
                  have k2 := cells_row qt 2 _ rfl
                  have k3 := cells_row qt 3 _ rfl
                  have k4 := cells_row qt 4 _ rfl
                  have k5 := cells_row qt 5 _ rfl
                  have hwh := tabWhole_any R t p.takes _ (.agg #[.int .u8 pk, .int .i64 pm, .slice pa pn pc, .slice pa2 pn2 pc2]) w5 (HT0.out.fr fw5 (fun k hk => NB.out k hk)) (Shows.fr fw5 (fun k hk => NB.out k hk) _ _ HX.out)
                  have HX5 := Lib.hid fw5
                  obtain ⟨E2, hE2⟩ : ∃ E2, E2 = (wholeE 20 t.types p.takes 200).e := ⟨_, rfl⟩
                  have hue : usedE t.types p.takes = E2 := by unfold usedE; rw [if_pos HE1.out.symm, hE2]
                  have HUE := Lib.hid hue
                  have HE2 := Lib.hid hE2
                  clear fw5 qx qt c0 c1 c2 c3 c4 c5 hue hE2
                  go_wp2_with fail
                  refine hwh.mono ?_
                  rintro e w6 ⟨tv, rfl, f6, hs6⟩
                  rw [← HE2.out]
                  obtain ⟨k7, m7, a7, n7, c7, a8, n8, c8, rfl⟩ := hs6.four
                  have F6 := Lib.hid f6
                  clear f6 hs6 hwh m0 m1 m2 m3 k0 k1 k2 k3 k4 k5
                  have F7 := Lib.hid (HW.out.2.1.trans (F5.out.trans F6.out (fun _ _ h => h)) (fun _ _ h => h))
                  by_cases he2 : E2 = 0
                  · subst he2
                    go_wp2
                    go_roundg (2 - (0 + 1))
                    case measure => omega
                    case rel => exact ⟨0 + 1, by omega, rfl, by go_num, Lib.hid ⟨(HJ.out.1.trans F7.out (fun _ _ h => h)).alloc _, fun _ => HUE.out, fun h => absurd h (by omega)⟩⟩
                  · have he' : ¬ (E2 : Int) = 0 := by omega
                    go_wp2
                    go_ret
                    have ea : procE bef t.types t.procs j = E2 := by rw [EA.out, HUE.out, if_neg he2]
                    have es : firstE (procE bef t.types t.procs) t.procs.length = E2 := by rw [firstE_stop _ _ j hlt HI.out.1 (by rw [ea]; exact he2), ea]
                    rw [es]
                    exact ⟨rfl, (F3.out.trans (HJ.out.1.trans F7.out (fun _ _ h => h)) (fun _ _ h => absurd h (fun h => h))).alloc _⟩
                · have he' : ¬ (E1 : Int) = 0 := by omega
                  go_wp2
                  go_ret
                  have hue : usedE t.types p.takes = E1 := by unfold usedE; rw [← HE1.out, if_neg he1]
                  have ea : procE bef t.types t.procs j = E1 := by rw [EA.out, hue, if_neg he1]
                  have es : firstE (procE bef t.types t.procs) t.procs.length = E1 := by rw [firstE_stop _ _ j hlt HI.out.1 (by rw [ea]; exact he1), ea]
                  rw [es]
                  exact ⟨rfl, HW.out.2.2.2.trans F5.out (fun _ _ h => absurd h (fun h => h))⟩
              · have qt := box_kept HQ3.out.1 HJ.out.1 (fun h => h)
                have n8 : w.heap.size < wr.heap.size := lt_of_block qt
                have n9 : w.heap.size ≠ wr.heap.size := by omega
                have c0 := cells_row qt 0 _ rfl
                have c1 := cells_row qt 1 _ rfl
                have c2 := cells_row qt 2 _ rfl
                have c3 := cells_row qt 3 _ rfl
                have c4 := cells_row qt 4 _ rfl
                have c5 := cells_row qt 5 _ rfl
                obtain ⟨wx, hwx⟩ : ∃ wx, wx = wr.alloc (.cells #[.int .u8 qk, .int .i64 qm, .slice qa qn qc, .slice qa2 qn2 qc2] 34) := ⟨_, rfl⟩
                have fx : Fr (fun _ => False) wr wx := by rw [hwx]; exact (Fr.refl _ _).alloc _
                have qx : wx.heap[wr.heap.size]? = some (.cells #[.int .u8 qk, .int .i64 qm, .slice qa qn qc, .slice qa2 qn2 qc2] 34 (0, 0)) := by rw [hwx]; exact heap_alloc_new _ _
                have fw : Fr (fun k => b ≤ k) w wx := (F3.out.trans HJ.out.1 (fun _ _ h => absurd h (fun h => h))).trans fx (fun _ _ h => absurd h (fun h => h))
                have hrt := right_any t.types p.answers R (.agg #[.int .u8 qk, .int .i64 qm, .slice qa qn qc, .slice qa2 qn2 qc2]) (.slice ta t.types.length tc) wx 5 5 rfl (by omega) (Shows.fr fw (fun k hk => NB.out k hk) _ _ HY.out) (Hal.out.fr fw (fun k hk => NB.out k hk))
                obtain ⟨E1, hE1⟩ : ∃ E1, E1 = rightE t.types p.answers 5 := ⟨_, rfl⟩
                rw [← hE1, hwx] at hrt
                have HE1 := Lib.hid hE1
                have HW := Lib.hid (And.intro hwx (And.intro fx (And.intro qx fw)))
                have QT := Lib.hid qt
                clear hE1 hwx fx qx fw qt
                go_wp2_with fail
                refine hrt.mono ?_
                rintro e w5 ⟨rfl, f5⟩
                rw [← HW.out.1] at f5
                have F5 := Lib.hid f5
                clear f5 hrt
                by_cases he1 : E1 = 0
                · subst he1
                  have fw5 : Fr (fun k => b ≤ k) w w5 := HW.out.2.2.2.trans F5.out (fun _ _ h => absurd h (fun h => h))
                  have qx := box_kept HW.out.2.2.1 F5.out (fun h => h)
                  have qt := box_kept (box_kept QT.out HW.out.2.1 (fun h => h)) F5.out (fun h => h)
                  have m0 := cells_row qx 0 _ rfl
                  have m1 := cells_row qx 1 _ rfl
                  have m2 := cells_row qx 2 _ rfl
                  have m3 := cells_row qx 3 _ rfl
                  have k0 := cells_row qt 0 _ rfl
                  have k1 := cells_row qt 1 _ rfl
                  have k2 := cells_row qt 2 _ rfl
                  have k3 := cells_row qt 3 _ rfl
                  have k4 := cells_row qt 4 _ rfl
                  have k5 := cells_row qt 5 _ rfl
                  have hwh := tabWhole_any R t p.answers _ (.agg #[.int .u8 qk, .int .i64 qm, .slice qa qn qc, .slice qa2 qn2 qc2]) w5 (HT0.out.fr fw5 (fun k hk => NB.out k hk)) (Shows.fr fw5 (fun k hk => NB.out k hk) _ _ HY.out)
                  have HX5 := Lib.hid fw5
                  obtain ⟨E2, hE2⟩ : ∃ E2, E2 = (wholeE 20 t.types p.answers 200).e := ⟨_, rfl⟩
                  have hue : usedE t.types p.answers = E2 := by unfold usedE; rw [if_pos HE1.out.symm, hE2]
                  have HUE := Lib.hid hue
                  have HE2 := Lib.hid hE2
                  clear fw5 qx qt c0 c1 c2 c3 c4 c5 hue hE2
                  go_wp2_with fail
                  refine hwh.mono ?_
                  rintro e w6 ⟨tv, rfl, f6, hs6⟩
                  rw [← HE2.out]
                  obtain ⟨k7, m7, a7, n7, c7, a8, n8, c8, rfl⟩ := hs6.four
                  have F6 := Lib.hid f6
                  clear f6 hs6 hwh m0 m1 m2 m3 k0 k1 k2 k3 k4 k5
                  have F7 := Lib.hid (HW.out.2.1.trans (F5.out.trans F6.out (fun _ _ h => h)) (fun _ _ h => h))
                  by_cases he2 : E2 = 0
                  · subst he2
                    go_wp2
                    go_roundg (2 - (1 + 1))
                    case measure => omega
                    case rel => exact ⟨1 + 1, by omega, rfl, by go_num, Lib.hid ⟨(HJ.out.1.trans F7.out (fun _ _ h => h)).alloc _, fun _ => HJ.out.2.1 (by omega), fun _ => HUE.out⟩⟩
                  · have he' : ¬ (E2 : Int) = 0 := by omega
                    go_wp2
                    go_ret
                    have ea : procE bef t.types t.procs j = E2 := by rw [EA.out, if_pos (HJ.out.2.1 (by omega)), HUE.out]
                    have es : firstE (procE bef t.types t.procs) t.procs.length = E2 := by rw [firstE_stop _ _ j hlt HI.out.1 (by rw [ea]; exact he2), ea]
                    rw [es]
                    exact ⟨rfl, (F3.out.trans (HJ.out.1.trans F7.out (fun _ _ h => h)) (fun _ _ h => absurd h (fun h => h))).alloc _⟩
                · have he' : ¬ (E1 : Int) = 0 := by omega
                  go_wp2
                  go_ret
                  have hue : usedE t.types p.answers = E1 := by unfold usedE; rw [← HE1.out, if_neg he1]
                  have ea : procE bef t.types t.procs j = E1 := by rw [EA.out, if_pos (HJ.out.2.1 (by omega)), hue]
                  have es : firstE (procE bef t.types t.procs) t.procs.length = E1 := by rw [firstE_stop _ _ j hlt HI.out.1 (by rw [ea]; exact he1), ea]
                  rw [es]
                  exact ⟨rfl, HW.out.2.2.2.trans F5.out (fun _ _ h => absurd h (fun h => h))⟩
              · have ea : procE bef t.types t.procs j = 0 := by rw [EA.out, if_pos (HJ.out.2.1 (by omega))]; exact HJ.out.2.2 (by omega)
                have EA0 := Lib.hid ea
                clear ea
                go_wp2
                go_roundg (t.procs.length - (j + 1))
                case measure => omega
                case rel =>
                  refine ⟨j + 1, by omega, rfl, by go_num, Lib.hid ⟨firstE_step _ _ HI.out.1 EA0.out, F3.out.trans HJ.out.1 (fun _ _ h => absurd h (fun h => h)), box_kept HQ3.out.1 HJ.out.1 (fun h => h), ?_⟩⟩
                  rw [HTK.out]
                  exact (HQ.out.2.2.2.guard (Q := fun k => k < b ∨ k = w.heap.size) (fun k _ h => .inl h)).fr (f3.out.trans HJ.out.1 (fun _ _ h => h)) (fun _ h => absurd h (fun h => h))
      · have he' : ¬ (E : Int) = 0 := by omega
        go_wp2
        go_ret
        have ea : procE bef t.types t.procs j = E := by unfold procE; rw [HGD.out]; rw [if_neg (by rw [← HE.out]; exact he), HE.out]
        have es : firstE (procE bef t.types t.procs) t.procs.length = E := by rw [firstE_stop _ _ j hlt HI.out.1 (by rw [ea]; exact he), ea]
        rw [es]
        exact ⟨rfl, (HI.out.2.1.trans HB.out.2.1 (fun _ _ h => absurd h (fun h => h))).trans HF2.out.1 (fun i hi h => by omega)⟩
    · obtain rfl : j = t.procs.length := by omega
      go_wp2
      go_ret
      rw [HI.out.1]
      exact ⟨rfl, HI.out.2.1⟩
end
section
set_option maxRecDepth 100000 in
theorem check_any (R : Nat → Prop) (t : KTab) (v : Value) (w : World) (ht : Tabled R w t v) :
    Calls Try.prog 62 #[v] w fun e w' => e = .returned (.int .i64 (checkE t)) ∧ Fr (fun _ => False) w w' := by
  have HT := Lib.hid (ht.mono (S := fun k => R k ∧ k < w.heap.size) (fun k hk h => ⟨h, hk⟩))
  obtain ⟨tv, fv, pv, rfl, hnl, hal, hfl, hpl⟩ := ht
  have hall : t.types.length ≤ 1000 := hal.1
  have hfll : t.faults.length ≤ 1000 := hfl.1
  have hpll : t.procs.length ≤ 1000 := hpl.1
  obtain ⟨ta, tc, rfl, _⟩ := hal.shape
  obtain ⟨fa, fc, rfl, _⟩ := hfl.shape
  obtain ⟨pa, pc, rfl, _⟩ := hpl.shape
  clear hal hfl hpl
  have hnm : ∀ w, Calls Try.prog 69 #[.string ⟨t.name.toArray⟩] w fun e w' => e = .returned (.bool (named t.name)) ∧ w = w' := fun w => named_any ⟨t.name.toArray⟩ w (by show t.name.toArray.size ≤ maxLen; simp [maxLen]; omega)
  obtain ⟨w0, hw0⟩ : ∃ w0, w0 = w.alloc (.cells #[sv t.name, .int .i64 t.number, .int .i64 t.version, .slice ta t.types.length tc, .slice fa t.faults.length fc, .slice pa t.procs.length pc] 121) := ⟨_, rfl⟩
  have f0 : Hid (Fr (fun _ => False) w w0) := Lib.hid (by rw [hw0]; exact (Fr.refl _ _).alloc _)
  have q0 : w0.heap[w.heap.size]? = some (.cells #[sv t.name, .int .i64 t.number, .int .i64 t.version, .slice ta t.types.length tc, .slice fa t.faults.length fc, .slice pa t.procs.length pc] 121 (0, 0)) := by rw [hw0]; exact heap_alloc_new _ _
  have Q0 := Lib.hid q0
  have s0 : Hid (w0.heap.size = w.heap.size + 1) := Lib.hid (by rw [hw0]; simp)
  have c0 := cells_row q0 0 _ rfl
  have c1 := cells_row q0 1 _ rfl
  have c2 := cells_row q0 2 _ rfl
  have c3 := cells_row q0 3 _ rfl
  have c4 := cells_row q0 4 _ rfl
  have c5 := cells_row q0 5 _ rfl
  clear q0
  unfold sv at *
  by_cases h1 : named t.name = true
  case neg =>
    have h1' := eq_false_of_ne_true h1
    have ec : Hid (checkE t = 8) := Lib.hid (by unfold checkE; rw [h1']; rfl)
    have H1 := Lib.hid h1'
    clear h1 h1'
    go_enter Try.func62, Try.ntmps62
    go_wp2_with fail
    refine (hnm _).mono ?_
    rintro e w' ⟨rfl, rfl⟩
    rw [H1.out]
    go_wp2
    go_ret
    rw [ec.out, ← hw0]
    exact ⟨rfl, f0.out⟩
  have H1 := Lib.hid h1
  clear h1
  by_cases h2 : validN t.number = true
  case neg =>
    have h2' := eq_false_of_ne_true h2
    have ec : Hid (checkE t = 2) := Lib.hid (by unfold checkE; rw [H1.out, h2']; rfl)
    have H2 := Lib.hid h2'
    clear h2 h2'
    go_enter Try.func62, Try.ntmps62
    go_wp2_with fail
    refine (hnm _).mono ?_
    rintro e w' ⟨rfl, rfl⟩
    rw [H1.out]
    go_wp2_with fail
    refine (validN_any _ _).mono ?_
    rintro e w' ⟨rfl, rfl⟩
    rw [H2.out]
    go_wp2
    go_ret
    rw [ec.out, ← hw0]
    exact ⟨rfl, f0.out⟩
  have H2 := Lib.hid h2
  clear h2
  by_cases h3 : validN t.version = true
  case neg =>
    have h3' := eq_false_of_ne_true h3
    have ec : Hid (checkE t = 2) := Lib.hid (by unfold checkE; rw [H1.out, H2.out, h3']; rfl)
    have H3 := Lib.hid h3'
    clear h3 h3'
    go_enter Try.func62, Try.ntmps62
    go_wp2_with fail
    refine (hnm _).mono ?_
    rintro e w' ⟨rfl, rfl⟩
    rw [H1.out]
    go_wp2_with fail
    refine (validN_any _ _).mono ?_
    rintro e w' ⟨rfl, rfl⟩
    rw [H2.out]
    go_wp2_with fail
    refine (validN_any _ _).mono ?_
    rintro e w' ⟨rfl, rfl⟩
    rw [H3.out]
    go_wp2
    go_ret
    rw [ec.out, ← hw0]
    exact ⟨rfl, f0.out⟩
  have H3 := Lib.hid h3
  clear h3
  by_cases h4 : 16 < t.types.length ∨ 16 < t.faults.length ∨ 16 < t.procs.length
  · have ec : Hid (checkE t = 7) := Lib.hid (by unfold checkE; rw [H1.out, H2.out, H3.out, if_pos h4]; rfl)
    have three : (16 : Int) < (t.types.length : Int) ∨ ¬ (16 : Int) < (t.types.length : Int) ∧ (16 : Int) < (t.faults.length : Int) ∨ ¬ (16 : Int) < (t.types.length : Int) ∧ ¬ (16 : Int) < (t.faults.length : Int) ∧ (16 : Int) < (t.procs.length : Int) := by omega
    clear h4
    rcases three with a1 | ⟨a1, a2⟩ | ⟨a1, a2, a3⟩ <;>
    (go_enter Try.func62, Try.ntmps62
     go_wp2_with fail
     refine (hnm _).mono ?_
     rintro e w' ⟨rfl, rfl⟩
     rw [H1.out]
     go_wp2_with fail
     refine (validN_any _ _).mono ?_
     rintro e w' ⟨rfl, rfl⟩
     rw [H2.out]
     go_wp2_with fail
     refine (validN_any _ _).mono ?_
     rintro e w' ⟨rfl, rfl⟩
     rw [H3.out]
     go_wp2
     go_ret
     rw [ec.out, ← hw0]
     exact ⟨rfl, f0.out⟩)
  have a1 : ¬ (16 : Int) < (t.types.length : Int) := by omega
  have a2 : ¬ (16 : Int) < (t.faults.length : Int) := by omega
  have a3 : ¬ (16 : Int) < (t.procs.length : Int) := by omega
  have ec : Hid (checkE t = if firstE (aliasE t.types) t.types.length ≠ 0 then firstE (aliasE t.types) t.types.length
    else if firstE (faultE (t.types.map (·.1)) t.faults) t.faults.length ≠ 0 then firstE (faultE (t.types.map (·.1)) t.faults) t.faults.length
    else firstE (procE (t.types.map (·.1) ++ t.faults.map (·.1)) t.types t.procs) t.procs.length) := Lib.hid (by rw [checkE, H1.out, H2.out, H3.out, if_neg h4]; rfl)
  clear h4
  obtain ⟨E1, hE1⟩ : ∃ E, E = firstE (aliasE t.types) t.types.length := ⟨_, rfl⟩
  obtain ⟨E2, hE2⟩ : ∃ E, E = firstE (faultE (t.types.map (·.1)) t.faults) t.faults.length := ⟨_, rfl⟩
  obtain ⟨E3, hE3⟩ : ∃ E, E = firstE (procE (t.types.map (·.1) ++ t.faults.map (·.1)) t.types t.procs) t.procs.length := ⟨_, rfl⟩
  have HE := Lib.hid (And.intro hE1 (And.intro hE2 hE3))
  rw [← hE1, ← hE2, ← hE3] at ec
  clear hE1 hE2 hE3
  go_enter Try.func62, Try.ntmps62
  go_wp2_with fail
  refine (hnm _).mono ?_
  rintro e w' ⟨rfl, rfl⟩
  rw [H1.out]
  go_wp2_with fail
  refine (validN_any _ _).mono ?_
  rintro e w' ⟨rfl, rfl⟩
  rw [H2.out]
  go_wp2_with fail
  refine (validN_any _ _).mono ?_
  rintro e w' ⟨rfl, rfl⟩
  rw [H3.out]
  rw [← hw0]
  clear hw0
  go_wp2_with fail
  refine (naming_any _).mono ?_
  rintro e w1 ⟨rfl, f1, N1⟩
  have lt1 : w0.heap.size < w1.heap.size := by
    obtain ⟨⟨_, h, _⟩, _⟩ := N1
    exact lt_of_block h
  have q1 := box_kept Q0.out f1 (fun h => h)
  have c0 := cells_row q1 0 _ rfl
  have c1 := cells_row q1 1 _ rfl
  have c2 := cells_row q1 2 _ rfl
  have c3 := cells_row q1 3 _ rfl
  have c4 := cells_row q1 4 _ rfl
  have c5 := cells_row q1 5 _ rfl
  have hct := checkTypes_any (fun k => R k ∧ k < w.heap.size) t _ w0.heap.size w1 (HT.out.fr (f0.out.trans f1 (fun _ _ h => h)) (fun _ _ h => h)) (fun k hk => by have := s0.out; omega) lt1 N1
  rw [← HE.out.1] at hct
  have Q1 := Lib.hid (And.intro q1 f1)
  clear q1 f1 N1
  unfold namer at *
  go_wp2_with fail
  refine hct.mono ?_
  rintro e w2 ⟨rfl, f2, N2⟩
  have F2 := Lib.hid f2
  have HN2 := Lib.hid N2
  clear f2 N2 hct c0 c1 c2 c3 c4 c5
  by_cases h5 : E1 = 0
  case neg =>
    have h5' : ¬ (E1 : Int) = 0 := by omega
    go_wp2
    go_ret
    rw [ec.out, if_pos h5]
    exact ⟨rfl, (f0.out.trans Q1.out.2 (fun _ _ h => h)).trans F2.out (fun i hi h => by have := s0.out; omega)⟩
  subst h5
  have q2 := box_kept Q1.out.1 F2.out (by have := s0.out; omega)
  have c0 := cells_row q2 0 _ rfl
  have c1 := cells_row q2 1 _ rfl
  have c2 := cells_row q2 2 _ rfl
  have c3 := cells_row q2 3 _ rfl
  have c4 := cells_row q2 4 _ rfl
  have c5 := cells_row q2 5 _ rfl
  have lt2 : w0.heap.size < w2.heap.size := Nat.lt_of_lt_of_le lt1 F2.out.size
  have f02 : Fr (fun _ => False) w w2 := (f0.out.trans Q1.out.2 (fun _ _ h => h)).trans F2.out (fun i hi h => by have := s0.out; omega)
  have hcf := checkFaults_any (fun k => R k ∧ k < w.heap.size) t (t.types.map (·.1)) _ w0.heap.size w2 (by simp; omega) (HT.out.fr f02 (fun _ _ h => h)) (fun k hk => by have := s0.out; omega) lt2 (HN2.out (by first | trivial | rfl))
  rw [← HE.out.2.1] at hcf
  have Q2 := Lib.hid (And.intro q2 f02)
  clear q2 f02
  unfold namer at hcf
  go_wp2_with fail
  refine hcf.mono ?_
  rintro e w3 ⟨rfl, f3, N3⟩
  have F3 := Lib.hid f3
  have HN3 := Lib.hid N3
  clear f3 N3 hcf c0 c1 c2 c3 c4 c5
  by_cases h6 : E2 = 0
  case neg =>
    have h6' : ¬ (E2 : Int) = 0 := by omega
    go_wp2
    go_ret
    rw [ec.out, if_neg (by simp), if_pos h6]
    exact ⟨rfl, Q2.out.2.trans F3.out (fun i hi h => by have := s0.out; omega)⟩
  subst h6
  have q3 := box_kept Q2.out.1 F3.out (by have := s0.out; omega)
  have c0 := cells_row q3 0 _ rfl
  have c1 := cells_row q3 1 _ rfl
  have c2 := cells_row q3 2 _ rfl
  have c3 := cells_row q3 3 _ rfl
  have c4 := cells_row q3 4 _ rfl
  have c5 := cells_row q3 5 _ rfl
  have lt3 : w0.heap.size < w3.heap.size := Nat.lt_of_lt_of_le lt2 F3.out.size
  have f03 : Fr (fun _ => False) w w3 := Q2.out.2.trans F3.out (fun i hi h => by have := s0.out; omega)
  have hcp := checkProcs_any (fun k => R k ∧ k < w.heap.size) t (t.types.map (·.1) ++ t.faults.map (·.1)) _ w0.heap.size w3 (by simp; omega) (HT.out.fr f03 (fun _ _ h => h)) (fun k hk => by have := s0.out; omega) lt3 (HN3.out (by first | trivial | rfl))
  rw [← HE.out.2.2] at hcp
  have F03 := Lib.hid f03
  clear q3 f03
  unfold namer at hcp
  go_wp2_with fail
  refine hcp.mono ?_
  rintro e w4 ⟨rfl, f4⟩
  have F4 := Lib.hid f4
  clear f4 hcp
  go_wp2
  go_ret
  rw [ec.out, if_neg (by simp), if_neg (by simp)]
  exact ⟨rfl, F03.out.trans F4.out (fun i hi h => by have := s0.out; omega)⟩
end
section
def tZero : Array Value := #[.int .u8 0, .int .i64 0, .slice none 0 0, .slice none 0 0]

/-- make of n types. -/
theorem run_make4 (n : Nat) (hn : n ≤ 1000) (w : World) :
    (Instr.makeSlice 32 (.int .i64 (n : Int)) (.int .i64 (n : Int))).run Try.prog w = .ok (.slice (some ⟨w.heap.size, 0, none⟩) n n) (w.alloc (.cells (madeCells tZero (n * 4)) 34)) := by
  obtain ⟨i, hi, hz0, hz1, hz2⟩ := info_parts Try.infoType
  have hr := run_make (P := Try.prog) w 32 34 i _ Try.underlying32 hi hz0 .i64 .i64 n n (by omega) (Int.le_refl _) (by rw [hz2]; omega) (by omega)
  simp only [Int.toNat_natCast, hz1] at hr
  exact hr

theorem made_cell (n i j : Nat) (hi : i < n) (hj : j < 4) : (madeCells tZero (n * 4))[i * 4 + j]? = tZero[j]? := by
  have h4 : tZero.size = 4 := rfl
  have hlt : i * 4 + j < n * 4 := by omega
  have e : (i * 4 + j) % 4 = j := by omega
  rw [madeCells, h4, Array.getElem?_map, Array.getElem?_range, if_pos hlt]
  simp only [Option.map_some, e]
  rcases (by omega : j = 0 ∨ j = 1 ∨ j = 2 ∨ j = 3) with rfl | rfl | rfl | rfl <;> rfl

def aloneT (k : Nat) (m : Int) (ns : List Txt) (n : Nat) : KTab := ⟨[97], 0, 0, [([116], .mk k m ns n (fun _ => zeroT))], [], []⟩

/-- Would it be right if its parts were? -/
def aloneE : KT → Bool
  | .nil => false
  | .mk k m ns n _ => decide (n ≤ 12) && decide (checkE (aloneT k m ns n) = 0)

set_option maxRecDepth 100000 in
theorem alone_any (R : Nat → Prop) (t : KT) (v : Value) (w : World) (h : Shows R w t v) :
    Calls Try.prog 36 #[v] w fun e w' => e = .returned (.bool (aloneE t)) ∧ Fr (fun _ => False) w w' := by
  cases t with
  | nil => exact h.elim
  | mk k m ns n of =>
  obtain ⟨vn, vo, rfl, hk, hn, ht, ho⟩ := h
  obtain ⟨a, c, rfl, _⟩ := ht.shape
  obtain ⟨a', c', rfl⟩ : ∃ a' c', vo = .slice a' n c' := by
    rcases ho with ⟨rfl, a', c', rfl⟩ | ⟨g, off, cap, _, rfl, _⟩
    · exact ⟨a', c', rfl⟩
    · exact ⟨_, cap, rfl⟩
  clear ho
  have HT := Lib.hid ht
  clear ht
  by_cases h12 : 12 < n
  · have b : 12 < (n : Int) := by omega
    have E : Hid (aloneE (.mk k m ns n of) = false) := Lib.hid (by show (decide (n ≤ 12) && _) = false; rw [decide_eq_false (by omega)]; rfl)
    clear h12
    go_enter Try.func36, Try.ntmps36
    go_wp2
    go_ret
    rw [E.out]
    exact ⟨rfl, (Fr.refl _ _).alloc _⟩
  · have b : ¬ 12 < (n : Int) := by omega
    have E : Hid (aloneE (.mk k m ns n of) = decide (checkE (aloneT k m ns n) = 0)) := Lib.hid (by show (decide (n ≤ 12) && _) = _; rw [decide_eq_true (by omega)]; rfl)
    have mk := run_make4 n hn
    go_enter Try.func36, Try.ntmps36
    go_upto_region 3 with fail
    obtain ⟨w1, hw1⟩ : ∃ w1, w1 = w.alloc (.cells #[.int .u8 k, .int .i64 m, .slice a ns.length c, .slice a' n c'] 34) := ⟨_, rfl⟩
    rw [← hw1]
    have q1 : w1.heap[w.heap.size]? = some (.cells #[.int .u8 k, .int .i64 m, .slice a ns.length c, .slice a' n c'] 34 (0, 0)) := by rw [hw1]; exact heap_alloc_new _ _
    have f1 : Fr (fun _ => False) w w1 := by rw [hw1]; exact (Fr.refl _ _).alloc _
    have s1 : w.heap.size < w1.heap.size := lt_of_block q1
    have c3 := cells_row q1 3 _ rfl
    have z3 : w1.frozen? ⟨w.heap.size, 3, none⟩ = false := by simp [World.frozen?, q1]
    have n1 : w.heap.size ≠ w1.heap.size := by omega
    have n2 : w1.heap.size ≠ w.heap.size := by omega
    have Q1 := Lib.hid (And.intro q1 f1)
    clear hw1 q1 f1
    go_upto_region 4 with fail
    obtain ⟨w2, hw2⟩ : ∃ w2, w2 = (w1.setCell ⟨w.heap.size, 3, none⟩ (.slice (some ⟨w1.heap.size, 0, none⟩) n n)).alloc (.cells (madeCells tZero (n * 4)) 34) := ⟨_, rfl⟩
    rw [← hw2]
    have sz1 : (w1.setCell ⟨w.heap.size, 3, none⟩ (.slice (some ⟨w1.heap.size, 0, none⟩) n n)).heap.size = w1.heap.size := by simp [World.setCell]
    have f2 : Fr (fun k => k = w.heap.size) w1 w2 := by rw [hw2]; exact ((Fr.refl _ _).set1 _ _).alloc _
    have m2 : w2.heap[w1.heap.size]? = some (.cells (madeCells tZero (n * 4)) 34 (0, 0)) := by
      rw [hw2]
      have := heap_alloc_new (w1.setCell ⟨w.heap.size, 3, none⟩ (.slice (some ⟨w1.heap.size, 0, none⟩) n n)) (.cells (madeCells tZero (n * 4)) 34)
      rw [sz1] at this
      exact this
    have q2 : w2.heap[w.heap.size]? = some (.cells #[.int .u8 k, .int .i64 m, .slice a ns.length c, .slice (some ⟨w1.heap.size, 0, none⟩) n n] 34 (0, 0)) := by
      rw [hw2, Below.heap_alloc _ _ _ (by rw [sz1]; exact s1), setCell_row 3 _ Q1.out.1]
      rfl
    have F2 := Lib.hid (Q1.out.2.trans f2 (fun i hi h => by omega))
    have d0 := cells_row q2 0 _ rfl
    have d1 := cells_row q2 1 _ rfl
    have d2 := cells_row q2 2 _ rfl
    have d3 := cells_row q2 3 _ rfl
    have M2 := Lib.hid m2
    clear hw2 sz1 f2 m2 q2 c3 z3 n1 n2 mk
    obtain ⟨w4, hw4⟩ : ∃ w4, w4 = (w2.alloc (.cells #[.string ⟨#[116]⟩, .int .u8 k, .int .i64 m, .slice a ns.length c, .slice (some ⟨w1.heap.size, 0, none⟩) n n] 116)).alloc (.cells #[.string ⟨#[97]⟩, .int .i64 0, .int .i64 0, .slice (some ⟨w2.heap.size, 0, none⟩) 1 1, .slice none 0 0, .slice none 0 0] 121) := ⟨_, rfl⟩
    have f4 : Fr (fun _ => False) w2 w4 := by rw [hw4]; exact ((Fr.refl _ _).alloc _).alloc _
    have qa : w4.heap[w2.heap.size]? = some (.cells #[.string ⟨#[116]⟩, .int .u8 k, .int .i64 m, .slice a ns.length c, .slice (some ⟨w1.heap.size, 0, none⟩) n n] 116 (0, 0)) := by rw [hw4]; exact heap_alloc_first _ _ _
    have m4 := box_kept M2.out f4 (fun h => h)
    have ht4 := (HT.out.fr F2.out (fun _ _ h => h)).fr f4 (fun _ _ h => h)
    have htab : Tabled (fun _ => True) w4 (aloneT k m ns n) (.agg #[.string ⟨#[97]⟩, .int .i64 0, .int .i64 0, .slice (some ⟨w2.heap.size, 0, none⟩) 1 1, .slice none 0 0, .slice none 0 0]) := by
      refine ⟨_, _, _, rfl, by simp [aloneT], ⟨by simp [aloneT], by simp [aloneT], .inr ⟨w2.heap.size, 0, 1, trivial, rfl, Nat.le_refl _, fun i x hi => ?_⟩⟩, ⟨by simp [aloneT], by simp [aloneT], .inl ⟨rfl, _, _, rfl⟩⟩, ⟨by simp [aloneT], by simp [aloneT], .inl ⟨rfl, _, _, rfl⟩⟩⟩
      have hi0 := (List.getElem?_eq_some_iff.1 hi).1
      obtain rfl : i = 0 := by simpa [aloneT] using hi0
      simp [aloneT] at hi
      subst hi
      refine ⟨_, _, _, _, cells_row qa 0 _ rfl, cells_row qa 1 _ rfl, cells_row qa 2 _ rfl, cells_row qa 3 _ rfl, cells_row qa 4 _ rfl, _, _, rfl, hk, hn, ht4.mono (fun _ _ _ => trivial), .inr ⟨w1.heap.size, 0, n, trivial, rfl, Nat.le_refl _, fun i hi => ?_⟩⟩
      have hcell : ∀ j, j < 4 → w4.cell? ⟨w1.heap.size, 0 + i * 4 + j, none⟩ = tZero[j]? := fun j hj => by
        rw [cell_of_row w4 _ _ _ _ _ m4, Nat.zero_add, made_cell n i j hi hj]
      exact ⟨_, _, _, _, hcell 0 (by omega), hcell 1 (by omega), hcell 2 (by omega), hcell 3 (by omega), zero_shows _ _⟩
    have hck := check_any (fun _ => True) (aloneT k m ns n) _ w4 htab
    have F4 := Lib.hid (F2.out.trans f4 (fun _ _ h => h))
    have HW4 := Lib.hid hw4
    clear f4 qa m4 ht4 htab
    rw [hw4] at hck
    clear hw4
    go_wp2_with fail
    refine hck.mono ?_
    rintro e w5 ⟨rfl, f5⟩
    rw [← HW4.out] at f5
    have F5 := Lib.hid (F4.out.trans f5 (fun _ _ h => h))
    clear f5 hck d0 d1 d2 d3
    obtain ⟨E0, hE0⟩ : ∃ E0, E0 = checkE (aloneT k m ns n) := ⟨_, rfl⟩
    have EE := Lib.hid (E.out.trans (show _ = decide (E0 = 0) by rw [hE0]))
    rw [← hE0]
    clear hE0
    go_wp2
    go_ret
    refine ⟨ret_bool ?_, F5.out⟩
    rw [EE.out, Bool.eq_iff_iff]
    simp
end
section
/-- The parts in order, as long as all are right. -/
def surveyL (f : Nat → Nat → Bool × Nat) : Nat → Nat → Bool × Nat
  | 0, p => (true, p)
  | j + 1, p => if (surveyL f j p).1 then f j (surveyL f j p).2 else surveyL f j p

/-- Is it right, and how many types were begun by then? -/
def surveyE : KT → Nat → Nat → Bool × Nat
  | .nil, _, p => (false, p)
  | .mk k m ns n of, lv, p =>
    if 1048576 < p + 1 ∨ lv = 0 ∨ aloneE (.mk k m ns n of) = false then (false, p + 1)
    else surveyL (fun i => surveyE (of i) (lv - 1)) n (p + 1)

theorem surveyL_le (f : Nat → Nat → Bool × Nat) (h : ∀ i p, p ≤ 1048576 → (f i p).1 = true → (f i p).2 ≤ 1048576) (j p : Nat) (hp : p ≤ 1048576) : (surveyL f j p).1 = true → (surveyL f j p).2 ≤ 1048576 := by
  induction j with
  | zero => intro _; exact hp
  | succ j ih =>
    unfold surveyL
    split
    · intro h1
      exact h j _ (ih ‹_›) h1
    · intro h1
      exact ih h1

theorem surveyE_le (t : KT) : ∀ lv p, p ≤ 1048576 → (surveyE t lv p).1 = true → (surveyE t lv p).2 ≤ 1048576 := by
  induction t with
  | nil => intro lv p hp h; exact hp
  | mk k m ns n of ih =>
    intro lv p hp
    unfold surveyE
    split
    · intro h; cases h
    · exact surveyL_le _ (fun i q hq => ih i _ q hq) n (p + 1) (by omega)

theorem surveyL_stop (f : Nat → Nat → Bool × Nat) (n j p : Nat) (hj : j < n) (h : (surveyL f (j + 1) p).1 = false) : surveyL f n p = surveyL f (j + 1) p := by
  induction n with
  | zero => omega
  | succ n ih =>
    by_cases e : j = n
    · subst e; rfl
    · rw [surveyL, ih (by omega), h]
      rfl

set_option maxRecDepth 100000 in
theorem survey_any (t : KT) : ∀ (R : Nat → Prop) (v : Value) (w : World) (b lv : Nat) (lz : Int) (p : Nat), lz = lv → lv ≤ 1000 → p ≤ 1048576 → ¬ R b → Shows R w t v → w.heap[b]? = some (.cells #[.int .i64 (p : Nat)] 61 (0, 0)) →
    Calls Try.prog 18 #[.pointer (some ⟨b, 0, none⟩), v, .int .i64 lz] w fun e w' => e = .returned (.bool (surveyE t lv p).1) ∧ Fr (fun k => k = b) w w' ∧ w'.heap[b]? = some (.cells #[.int .i64 ((surveyE t lv p).2 : Nat)] 61 (0, 0)) := by
  induction t with
  | nil => exact fun _ _ _ _ _ _ _ _ _ _ _ h => h.elim
  | mk k m ns n of ih =>
  intro R v w b lv lz p hlz hlv hp hRb hsh hb
  have HSH := Lib.hid hsh
  obtain ⟨vn, vo, rfl, hk, hn, ht, ho⟩ := hsh
  obtain ⟨a, c, rfl, _⟩ := ht.shape
  obtain ⟨a', c', rfl, hs⟩ : ∃ a' c', vo = .slice a' n c' ∧ Kids R w of a' n c' := by
    rcases ho with ⟨rfl, a', c', rfl⟩ | ⟨g, off, cap, hg, rfl, hle, hc⟩
    · exact ⟨a', c', rfl, .inl rfl⟩
    · exact ⟨_, cap, rfl, .inr ⟨hle, g, off, hg, rfl, hc⟩⟩
  have HS := Lib.hid hs
  have HLZ := Lib.hid hlz
  have HB := Lib.hid hb
  have HRB := Lib.hid hRb
  have hbl : b < w.heap.size := lt_of_block hb
  have r0 := cells_row hb 0 _ rfl
  have z0 : w.frozen? ⟨b, 0, none⟩ = false := by simp [World.frozen?, hb]
  have n1 : b ≠ w.heap.size := by omega
  have n2 : w.heap.size ≠ b := by omega
  have lz0 : 0 ≤ lz := by omega
  have lz1 : lz ≤ 1000 := by omega
  clear ho hs hlz hb ht hRb
  go_enter Try.func18, Try.ntmps18
  go_upto_region 2 with fail
  obtain ⟨w1, hw1⟩ : ∃ w1, w1 = (w.setCell ⟨b, 0, none⟩ (.int .i64 ((p : Int) + 1))).alloc (.cells #[.int .u8 k, .int .i64 m, .slice a ns.length c, .slice a' n c'] 34) := ⟨_, rfl⟩
  rw [← hw1]
  have sz1 : (w.setCell ⟨b, 0, none⟩ (.int .i64 ((p : Int) + 1))).heap.size = w.heap.size := by simp [World.setCell]
  have f1 : Fr (fun k => k = b) w w1 := by rw [hw1]; exact ((Fr.refl _ _).set1 _ _).alloc _
  have q1 : w1.heap[w.heap.size]? = some (.cells #[.int .u8 k, .int .i64 m, .slice a ns.length c, .slice a' n c'] 34 (0, 0)) := by
    rw [hw1]
    have := heap_alloc_new (w.setCell ⟨b, 0, none⟩ (.int .i64 ((p : Int) + 1))) (.cells #[.int .u8 k, .int .i64 m, .slice a ns.length c, .slice a' n c'] 34)
    rw [sz1] at this
    exact this
  have b1 : w1.heap[b]? = some (.cells #[.int .i64 ((p + 1 : Nat) : Int)] 61 (0, 0)) := by
    rw [hw1, Below.heap_alloc _ _ _ (by rw [sz1]; exact hbl), setCell_row 0 _ HB.out]
    simp
  obtain ⟨q, hq⟩ : ∃ q : Nat, p + 1 = q := ⟨_, rfl⟩
  rw [hq] at b1
  have HQ := Lib.hid hq
  have HP := Lib.hid hp
  have r1 := cells_row b1 0 _ rfl
  have c3 := cells_row q1 3 _ rfl
  have c0 := cells_row q1 0 _ rfl
  have c1 := cells_row q1 1 _ rfl
  have c2 := cells_row q1 2 _ rfl
  have Q1 := Lib.hid (And.intro q1 (And.intro b1 f1))
  clear hw1 sz1 f1 q1 b1 r0 z0 n1 n2 hq hp
  by_cases h1 : 1048576 < q
  · have h1' : 1048576 < (q : Int) := by omega
    have E : Hid (surveyE (.mk k m ns n of) lv p = (false, q)) := Lib.hid (by rw [surveyE, HQ.out, if_pos (.inl h1)])
    clear h1
    go_wp2
    go_ret
    rw [E.out]
    exact ⟨rfl, Q1.out.2.2, Q1.out.2.1⟩
  have h1' : ¬ 1048576 < (q : Int) := by omega
  by_cases h2 : lv = 0
  · have h2' : lz = 0 := by have := HLZ.out; omega
    have E : Hid (surveyE (.mk k m ns n of) lv p = (false, q)) := Lib.hid (by rw [surveyE, HQ.out, if_pos (.inr (.inl h2))])
    clear h1 h2
    subst h2'
    go_wp2
    go_ret
    rw [E.out]
    exact ⟨rfl, Q1.out.2.2, Q1.out.2.1⟩
  have h2' : ¬ lz = 0 := by have := HLZ.out; omega
  have b2' : (lz == 0) = false := by simpa using h2'
  have H12 := Lib.hid (And.intro h1 h2)
  clear h1 h2
  have hal := alone_any R (.mk k m ns n of) _ w1 (Shows.fr Q1.out.2.2 (fun k hk e => HRB.out (by rw [← e]; exact hk)) _ _ HSH.out)
  cases hB : aloneE (.mk k m ns n of) with
  | false =>
    have E : Hid (surveyE (.mk k m ns n of) lv p = (false, q)) := Lib.hid (by rw [surveyE, HQ.out, if_pos (.inr (.inr hB))])
    rw [hB] at hal
    clear hB
    go_wp2_with fail
    refine hal.mono ?_
    rintro e w2 ⟨rfl, f2⟩
    have F2 := Lib.hid f2
    clear f2 hal
    go_wp2
    go_ret
    rw [E.out]
    exact ⟨rfl, Q1.out.2.2.trans F2.out (fun i _ h => h.elim), box_kept Q1.out.2.1 F2.out (fun h => h)⟩
  | true =>
    have E : Hid (surveyE (.mk k m ns n of) lv p = surveyL (fun i => surveyE (of i) (lv - 1)) n q) := Lib.hid (by rw [surveyE, HQ.out, if_neg (by rw [hB]; have := H12.out; simp; omega)])
    rw [hB] at hal
    clear hB
    go_wp2_with fail
    refine hal.mono ?_
    rintro e w2 ⟨rfl, f2⟩
    have q2 := box_kept Q1.out.1 f2 (fun h => h)
    have e3 := cells_row q2 3 _ rfl
    have F2 := Lib.hid (And.intro (Q1.out.2.2.trans f2 (fun i _ h => h.elim)) (And.intro q2 (box_kept Q1.out.2.1 f2 (fun h => h))))
    clear f2 hal q2 c0 c1 c2 c3 r1
    go_wp2
    clear e3
    obtain ⟨f, hf⟩ : ∃ f : Nat → Nat → Bool × Nat, f = (fun i => surveyE (of i) (lv - 1)) := ⟨_, rfl⟩
    have HF := Lib.hid hf
    have E2 : Hid (surveyE (.mk k m ns n of) lv p = surveyL f n q) := Lib.hid (by rw [E.out, hf])
    clear hf
    go_loopg [8, 33] n (fun G u8 u33 wr => ∃ j : Nat, j ≤ n ∧ G = n - j ∧ u33 = .int .i64 j ∧ Hid ((surveyL f j q).1 = true ∧ (surveyL f j q).2 ≤ 1048576 ∧ Fr (fun k => k = b) w wr ∧ wr.heap[b]? = some (.cells #[.int .i64 ((surveyL f j q).2 : Nat)] 61 (0, 0))))
    case atStart => exact ⟨0, Nat.zero_le _, rfl, by go_num, Lib.hid ⟨rfl, by have := H12.out; show q ≤ _; omega, F2.out.1, F2.out.2.2⟩⟩
    case round =>
      obtain ⟨j, hj, rfl, rfl, HI⟩ := hrel
      by_cases hlt : j < n
      · rcases HS.out with hz | ⟨hcap, g, off, hg, rfl, hcell⟩
        · omega
        have hgb : ∀ k, R k → ¬ k = b := fun k hk e => HRB.out (by rw [← e]; exact hk)
        obtain ⟨x0, x1, x2, x3, y0, y1, y2, y3, hx⟩ := hcell j hlt
        have y0 := cell_fr HI.out.2.2.1 hgb hg y0
        have y1 := cell_fr HI.out.2.2.1 hgb hg y1
        have y2 := cell_fr HI.out.2.2.1 hgb hg y2
        have y3 := cell_fr HI.out.2.2.1 hgb hg y3
        obtain ⟨xk, xm, xa, xn, xc, xa', xn', xc', rfl, rfl, rfl, rfl⟩ := hx.cells
        obtain ⟨wz, hwz⟩ : ∃ wz, wz = wr.alloc (.cells #[.int .u8 xk, .int .i64 xm, .slice xa xn xc, .slice xa' xn' xc'] 34) := ⟨_, rfl⟩
        have fz : Fr (fun k => k = b) wr wz := by rw [hwz]; exact (Fr.refl _ _).alloc _
        have bz : wz.heap[b]? = some (.cells #[.int .i64 ((surveyL f j q).2 : Nat)] 61 (0, 0)) := by
          rw [hwz, Below.heap_alloc _ _ _ (lt_of_block HI.out.2.2.2)]; exact HI.out.2.2.2
        have hxz := Shows.fr fz hgb _ _ (Shows.fr HI.out.2.2.1 hgb _ _ hx)
        have hrec := ih j R _ wz b (lv - 1) (lz - 1) ((surveyL f j q).2) (by have := HLZ.out; have := H12.out; omega) (by omega) HI.out.2.1 HRB.out hxz bz
        have e1 : surveyE (of j) (lv - 1) (surveyL f j q).2 = surveyL f (j + 1) q := by
          have h1 : f j (surveyL f j q).2 = surveyE (of j) (lv - 1) (surveyL f j q).2 := by rw [HF.out]
          rw [← h1, surveyL, if_pos HI.out.1]
        rw [e1] at hrec
        have hle : (surveyL f (j + 1) q).1 = true → (surveyL f (j + 1) q).2 ≤ 1048576 := surveyL_le f (by rw [HF.out]; exact fun i q hq => surveyE_le (of i) _ q hq) _ _ (by have := H12.out; omega)
        have HLE := Lib.hid hle
        have FZ := Lib.hid (HI.out.2.2.1.trans fz (fun _ _ h => h))
        have HLT := Lib.hid hlt
        rw [hwz] at hrec
        have HWZ := Lib.hid hwz
        clear hcell hx hxz bz fz hwz e1 hle
        cases hB : (surveyL f (j + 1) q).1 with
        | true =>
          rw [hB] at hrec
          have HB2 := Lib.hid hB
          clear hB
          go_wp2_with fail
          refine hrec.mono ?_
          rintro e w5 ⟨rfl, f5, b5⟩
          rw [← HWZ.out] at f5
          have F5 := Lib.hid (And.intro f5 b5)
          clear f5 b5 hrec
          go_wp2
          go_roundg (n - (j + 1))
          case measure => omega
          case rel => exact ⟨j + 1, by omega, rfl, by go_num, Lib.hid ⟨HB2.out, HLE.out HB2.out, FZ.out.trans F5.out.1 (fun _ _ h => h), F5.out.2⟩⟩
        | false =>
          have E3 : Hid (surveyE (.mk k m ns n of) lv p = surveyL f (j + 1) q) := Lib.hid (by rw [E2.out]; exact surveyL_stop f n j _ hlt hB)
          have HB2 := Lib.hid hB
          rw [hB] at hrec
          clear hB
          go_wp2_with fail
          refine hrec.mono ?_
          rintro e w5 ⟨rfl, f5, b5⟩
          rw [← HWZ.out] at f5
          have F5 := Lib.hid (And.intro f5 b5)
          clear f5 b5 hrec
          go_wp2
          go_ret
          rw [E3.out]
          exact ⟨ret_bool HB2.out.symm, FZ.out.trans F5.out.1 (fun _ _ h => h), F5.out.2⟩
      · obtain rfl : j = n := by omega
        go_wp2
        go_ret
        rw [E2.out]
        exact ⟨ret_bool HI.out.1.symm, HI.out.2.2.1, HI.out.2.2.2⟩
end
section
theorem firstE_zero (n : Nat) (f : Nat → Nat) (h : ∀ i, i < n → f i = 0) : firstE f n = 0 := by
  induction n with
  | zero => rfl
  | succ n ih => exact firstE_step f n (ih (fun i hi => h i (by omega))) (h n (by omega))

/-- Are a type's own kind, length and names right? -/
def ownOK (k : Nat) (m : Int) (ns : List Txt) (n : Nat) : Bool := decide (k ≤ 8) && sizedB k m && formedB k ns.length n && (if k = 6 ∨ k = 7 ∨ k = 8 then decide (checkNamesE ns = 0) else true)

theorem check_alone (k : Nat) (m : Int) (ns : List Txt) (n : Nat) : checkE (aloneT k m ns n) = rightE [] (.mk k m ns n (fun _ => zeroT)) 5 := by
  have h0 : aliasE (aloneT k m ns n).types 0 = rightE [] (.mk k m ns n (fun _ => zeroT)) 5 := by
    unfold aliasE aloneT
    simp only [List.take_zero, List.map_nil]
    have : nameE [] [116] = 0 := by kernel_rfl
    rw [show (([([116], KT.mk k m ns n (fun _ => zeroT))] : List (Txt × KT)).getD 0 ([], .nil)) = ([116], KT.mk k m ns n (fun _ => zeroT)) from rfl, if_pos this]
  have h1 : firstE (aliasE (aloneT k m ns n).types) (aloneT k m ns n).types.length = rightE [] (.mk k m ns n (fun _ => zeroT)) 5 := by
    show firstE (aliasE (aloneT k m ns n).types) 1 = _
    rw [firstE, if_pos (by rfl), h0]
  unfold checkE
  have n1 : named (aloneT k m ns n).name = true := by
    have : named [97] = true := by kernel_rfl
    exact this
  rw [n1, h1]
  have v1 : validN (aloneT k m ns n).number = true := rfl
  have v2 : validN (aloneT k m ns n).version = true := rfl
  rw [v1, v2]
  simp only [Bool.not_true, Bool.or_self, Bool.false_eq_true, if_false]
  rw [if_neg (by simp [aloneT])]
  split
  · rfl
  · rename_i h
    have h' : rightE [] (.mk k m ns n (fun _ => zeroT)) 5 = 0 := by simpa using h
    rw [h']
    rfl

theorem right_own (k : Nat) (m : Int) (ns : List Txt) (n : Nat) : decide (rightE [] (.mk k m ns n (fun _ => zeroT)) 5 = 0) = ownOK k m ns n := by
  have hz : firstE (fun _ => rightE [] zeroT 4) n = 0 := firstE_zero n _ (fun _ _ => by kernel_rfl)
  by_cases hk : 10 ≤ k
  · rw [rightE, if_pos (.inl hk)]
    unfold ownOK
    rw [decide_eq_false (by omega : ¬ k ≤ 8)]
    rfl
  · rw [rightE, if_neg (by omega)]
    unfold ownOK
    by_cases hs : sizedB k m = true
    · rw [hs]
      by_cases hf : formedB k ns.length n = true
      · rw [hf]
        simp only [Bool.not_true, Bool.false_eq_true, if_false, Bool.and_true]
        by_cases h9 : k = 9
        · subst h9
          have : (if standsN [] ns < 0 then 10 else 0) = 10 := by
            rw [if_pos]
            unfold standsN
            split
            · unfold firstAt; rw [if_neg (by simp)]; decide
            · decide
          simp [this]
        · by_cases h6 : k = 6 ∨ k = 7 ∨ k = 8
          · simp only [if_pos h6]
            rw [decide_eq_true (by omega : k ≤ 8), Bool.true_and]
            by_cases hc : checkNamesE ns = 0
            · rw [hc]; simp only [if_true]; rw [hz]; simp
            · simp [hc]
          · simp only [if_neg h6, if_neg h9]
            rw [decide_eq_true (by omega : k ≤ 8), if_pos trivial, hz]
            rfl
      · simp [hf]
    · simp [hs]

theorem alone_own (k : Nat) (m : Int) (ns : List Txt) (n : Nat) (of : Nat → KT) : aloneE (.mk k m ns n of) = (decide (n ≤ 12) && ownOK k m ns n) := by
  show (decide (n ≤ 12) && decide (checkE (aloneT k m ns n) = 0)) = _
  rw [check_alone, right_own]

/-- All types in it are right alone. -/
def goodE : KT → Prop
  | .nil => False
  | .mk k m ns n of => (n ≤ 12 ∧ ownOK k m ns n = true) ∧ ∀ i, i < n → goodE (of i)

theorem surveyL_good (f : Nat → Nat → Bool × Nat) (j p : Nat) : (surveyL f j p).1 = true → ∀ i, i < j → ∃ q, (f i q).1 = true := by
  induction j with
  | zero => intro _ i hi; omega
  | succ j ih =>
    unfold surveyL
    split
    · intro h i hi
      by_cases e : i = j
      · subst e; exact ⟨_, h⟩
      · exact ih ‹_› i (by omega)
    · intro h
      exact absurd h ‹_›

theorem survey_good (t : KT) : ∀ lv p, (surveyE t lv p).1 = true → goodE t := by
  induction t with
  | nil => intro lv p h; exact absurd h (by simp [surveyE])
  | mk k m ns n of ih =>
    intro lv p h
    unfold surveyE at h
    split at h
    · cases h
    · rename_i hc
      have ha : aloneE (.mk k m ns n of) = true := by
        cases hB : aloneE (.mk k m ns n of) with
        | true => rfl
        | false => exact absurd (.inr (.inr hB)) hc
      rw [alone_own, Bool.and_eq_true, decide_eq_true_eq] at ha
      refine ⟨ha, fun i hi => ?_⟩
      obtain ⟨q, hq⟩ := surveyL_good _ n _ h i hi
      exact ih i _ _ hq

/-- What a type that is right alone is like. -/
theorem own_facts {k : Nat} {m : Int} {ns : List Txt} {n : Nat} (h : ownOK k m ns n = true) : k ≤ 8 ∧ (k = 4 ∨ k = 5 → 1 ≤ m ∧ m ≤ 60) ∧ (k = 5 → n = 1) ∧ (k = 6 ∨ k = 8 → n = ns.length) ∧ (k = 6 ∨ k = 7 ∨ k = 8 → 1 ≤ ns.length ∧ ns.length ≤ 12) ∧ (¬ (k = 5 ∨ k = 6 ∨ k = 8) → n = 0) := by
  unfold ownOK at h
  simp only [Bool.and_eq_true, decide_eq_true_eq] at h
  obtain ⟨⟨⟨hk, hs⟩, hf⟩, hc⟩ := h
  unfold sizedB at hs
  unfold formedB at hf
  refine ⟨hk, fun h => ?_, fun h => ?_, fun h => ?_, fun h => ?_, fun h => ?_⟩
  · rw [if_pos h] at hs; simpa using hs
  · rw [if_pos h] at hf; simp at hf; exact hf.2
  · rw [if_neg (by omega), if_pos h] at hf; simpa using hf
  · rw [if_pos h] at hc
    simp only [decide_eq_true_eq] at hc
    unfold checkNamesE at hc
    by_cases hl : ns.length < 1 ∨ 12 < ns.length
    · rw [if_pos hl] at hc; cases hc
    · omega
  · rw [if_neg (by omega), if_neg (by omega)] at hf
    split at hf
    · simpa using hf
    · split at hf
      · simp at hf; exact hf.2
      · simp at hf; exact hf.2

/-- The next number. -/
def numE (l : List Int) (tk : Nat) : Int := if l = [] then 0 else l.getD (tk % l.length) 0

def nextE (l : List Int) (tk : Nat) : Nat := if l = [] then tk else tk + 1

/-- A value that is a number alone. -/
def vnum (x : Int) : VT := .mk x 0 [] 0 (fun _ => .nil)

/-- Thirty-two bits, with a sign. -/
def long32 (x : Int) : Int := if x < 2147483648 then x else x - 4294967296

/-- So many letters. -/
def lettersE (n : Nat) : Txt := (List.range n).map fun i => UInt8.ofNat (97 + i % 26)

/-- Parts that are built one behind the other. -/
def partsL (f : Nat → Nat × Nat → VT × (Nat × Nat)) : Nat → Nat × Nat → List VT × (Nat × Nat)
  | 0, s => ([], s)
  | j + 1, s => ((partsL f j s).1 ++ [(f j (partsL f j s).2).1], (f j (partsL f j s).2).2)

def listV (L : List VT) : VT := .mk 0 0 [] L.length (fun i => L.getD i .nil)

/-- WHAT IS BUILT, and how many numbers were taken and values begun by then. -/
def buildE (l : List Int) : KT → Nat × Nat → VT × (Nat × Nat)
  | .nil, s => (.nil, s)
  | .mk k m ns n of, s =>
    if k = 0 then (vnum (numE l s.1 % 2), nextE l s.1, s.2 + 1)
    else if k = 1 then (vnum (numE l s.1 % 65536), nextE l s.1, s.2 + 1)
    else if k = 2 then (vnum (long32 (numE l s.1 % 4294967296)), nextE l s.1, s.2 + 1)
    else if k = 3 then (.mk 0 (floatOfInt .f64 (numE l s.1)) [] 0 (fun _ => .nil), nextE l s.1, s.2 + 1)
    else if k = 4 then (.mk 0 0 (lettersE (numE l s.1 % (m + 1)).toNat) 0 (fun _ => .nil), nextE l s.1, s.2 + 1)
    else if k = 5 then
      if 100 < s.2 + 1 then (listV [], s.1, s.2 + 1)
      else
        let r := partsL (fun _ q => buildE l (of 0) q) (min (numE l s.1 % 4) m).toNat (nextE l s.1, s.2 + 1)
        (listV r.1, r.2)
    else if k = 6 then
      let r := partsL (fun i q => buildE l (of i) q) n (s.1, s.2 + 1)
      (listV r.1, r.2)
    else if k = 7 then (vnum (numE l s.1 % ns.length), nextE l s.1, s.2 + 1)
    else
      let r := buildE l (of (numE l s.1 % n).toNat) (nextE l s.1, s.2 + 1)
      (.mk (numE l s.1 % n) 0 [] 1 (fun _ => r.1), r.2)

theorem buildE_record (l : List Int) (m : Int) (ns : List Txt) (n : Nat) (of : Nat → KT) (s : Nat × Nat) : buildE l (.mk 6 m ns n of) s = (listV (partsL (fun i q => buildE l (of i) q) n (s.1, s.2 + 1)).1, (partsL (fun i q => buildE l (of i) q) n (s.1, s.2 + 1)).2) := by
  rw [buildE, if_neg (by decide), if_neg (by decide), if_neg (by decide), if_neg (by decide), if_neg (by decide), if_neg (by decide), if_pos rfl]

theorem buildE_none (l : List Int) (m : Int) (ns : List Txt) (n : Nat) (of : Nat → KT) (s : Nat × Nat) (h : 100 < s.2 + 1) : buildE l (.mk 5 m ns n of) s = (listV [], s.1, s.2 + 1) := by
  rw [buildE, if_neg (by decide), if_neg (by decide), if_neg (by decide), if_neg (by decide), if_neg (by decide), if_pos rfl, if_pos h]

theorem buildE_seq (l : List Int) (m : Int) (ns : List Txt) (n : Nat) (of : Nat → KT) (s : Nat × Nat) (h : ¬ 100 < s.2 + 1) : buildE l (.mk 5 m ns n of) s = (listV (partsL (fun _ q => buildE l (of 0) q) (min (numE l s.1 % 4) m).toNat (nextE l s.1, s.2 + 1)).1, (partsL (fun _ q => buildE l (of 0) q) (min (numE l s.1 % 4) m).toNat (nextE l s.1, s.2 + 1)).2) := by
  rw [buildE, if_neg (by decide), if_neg (by decide), if_neg (by decide), if_neg (by decide), if_neg (by decide), if_pos rfl, if_neg h]

theorem buildE_choice (l : List Int) (m : Int) (ns : List Txt) (n : Nat) (of : Nat → KT) (s : Nat × Nat) : buildE l (.mk 8 m ns n of) s = (.mk (numE l s.1 % n) 0 [] 1 (fun _ => (buildE l (of (numE l s.1 % n).toNat) (nextE l s.1, s.2 + 1)).1), (buildE l (of (numE l s.1 % n).toNat) (nextE l s.1, s.2 + 1)).2) := by
  rw [buildE, if_neg (by decide), if_neg (by decide), if_neg (by decide), if_neg (by decide), if_neg (by decide), if_neg (by decide), if_neg (by decide), if_neg (by decide)]

/-- How many values are built at most. -/
def costE : KT → Nat
  | .nil => 1
  | .mk k _ _ n of => 1 + (if k = 5 then 3 * costE (of 0) else ((List.range n).map fun i => costE (of i)).sum)

theorem partsL_length (f : Nat → Nat × Nat → VT × (Nat × Nat)) (j : Nat) (s : Nat × Nat) : (partsL f j s).1.length = j := by
  induction j with
  | zero => rfl
  | succ j ih => simp [partsL, ih]
end
end Go.Proofs.Ytplipjijaaejlaa
