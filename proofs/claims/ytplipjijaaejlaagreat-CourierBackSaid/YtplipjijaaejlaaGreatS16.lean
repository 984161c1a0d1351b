/-
  CouBack, part 16 of what it rests on: ValSame.
-/
import Derived.Test.YtplipjijaaejlaaGreatS15
import Derived.Test.YtplipjijaaejlaaGreatS11
import Derived.BigRegion
import Derived.IntWalk
import Derived.Deep.Cut
import Derived.Deep.CutRange
set_option linter.unusedVariables false
set_option linter.unusedSimpArgs false
set_option maxHeartbeats 64000000
namespace Go.Proofs.YtplipjijaaejlaaGreat
open Go.RowKit
open Go.Lib (hid)
section
attribute [local go_sem] run_store_float

theorem Tryz.infoPair : (Tryz.prog.info? 90).map (fun i => (i.zero, i.size, i.bytes)) = some (some (.agg #[.int .i64 0, .float .f64 0, .string ⟨#[]⟩, .slice none 0 0, .int .i64 0, .float .f64 0, .string ⟨#[]⟩, .slice none 0 0]), 8, 112) := by kernel_rfl

set_option maxRecDepth 100000 in
theorem vsame_any (R : Nat → Prop) (a b : VT) (va vb : Value) (w : World) (ha : VShows R w a va) (hb : VShows R w b vb) (hsz : szV a ≤ 100000) :
    Calls Tryz.prog 16 #[va, vb] w fun e w' => e = .returned (.bool (sameV a b)) ∧ Fr (fun _ => False) w w' := by
  have HA := Lib.hid (VShows.mono (S := fun k => R k ∧ k < w.heap.size) (fun k hk h => ⟨h, hk⟩) _ _ ha)
  have HB := Lib.hid (VShows.mono (S := fun k => R k ∧ k < w.heap.size) (fun k hk h => ⟨h, hk⟩) _ _ hb)
  obtain ⟨k1, m1, s1, a2, n2, c2, rfl⟩ := ha.lit
  obtain ⟨k3, m3, s3, a4, n4, c4, rfl⟩ := hb.lit
  clear ha hb
  have HSZ := Lib.hid hsz
  clear hsz
  go_enter Tryz.func16, Tryz.ntmps16
  go_wp2
  obtain ⟨w3, hw3⟩ : ∃ w3, w3 = ((w.alloc (.cells #[.int .i64 k1, .float .f64 m1, .string s1, .slice a2 n2 c2] 39)).alloc (.cells #[.int .i64 k3, .float .f64 m3, .string s3, .slice a4 n4 c4] 39)).alloc (.cells #[.int .i64 k1, .float .f64 m1, .string s1, .slice a2 n2 c2, .int .i64 k3, .float .f64 m3, .string s3, .slice a4 n4 c4] 90) := ⟨_, rfl⟩
  rw [← hw3]
  have f3 : Fr (fun _ => False) w w3 := by rw [hw3]; exact (((Fr.refl _ _).alloc _).alloc _).alloc _
  have g3 : w3.heap[w.heap.size + 2]? = some (.cells #[.int .i64 k1, .float .f64 m1, .string s1, .slice a2 n2 c2, .int .i64 k3, .float .f64 m3, .string s3, .slice a4 n4 c4] 90 (0, 0)) := by
    have := heap_alloc_new ((w.alloc (.cells #[.int .i64 k1, .float .f64 m1, .string s1, .slice a2 n2 c2] 39)).alloc (.cells #[.int .i64 k3, .float .f64 m3, .string s3, .slice a4 n4 c4] 39)) (.cells #[.int .i64 k1, .float .f64 m1, .string s1, .slice a2 n2 c2, .int .i64 k3, .float .f64 m3, .string s3, .slice a4 n4 c4] 90)
    rw [← hw3] at this
    simpa using this
  have hp3 : VPairRow (w.heap.size + 2) (fun k => R k ∧ k < w.heap.size) w3 (.slice (some ⟨w.heap.size + 2, 0, none⟩) 1 1) [(a, b)] := by
    refine ⟨_, ⟨rfl, .inr ⟨w.heap.size + 2, 1, _, rfl, Nat.le_refl _, g3, Nat.le_refl _, by unfold maxLen; omega, rfl, rfl⟩⟩, fun i p hi => ?_⟩
    have hi0 := (List.getElem?_eq_some_iff.1 hi).1
    obtain rfl : i = 0 := by simpa using hi0
    simp at hi
    subst hi
    exact ⟨_, _, _, _, _, _, _, _, fun j u hj => by simpa using hj, VShows.fr f3 (fun _ _ h => h) _ _ HA.out, VShows.fr f3 (fun _ _ h => h) _ _ HB.out⟩
  have H3 := Lib.hid (And.intro f3 hp3)
  clear hw3 f3 g3 hp3
  go_loopg [5, 6, 7, 8, 9] (szV a) (fun G u5 u6 u7 u8 u9 wr => ∃ (ps : List (VT × VT)) (ua : Option Addr) (n uc : Nat), G = szVs ps ∧ u5 = .slice ua n uc ∧ Hid (n = ps.length ∧ szVs ps ≤ 100000 ∧ VPairRow (w.heap.size + 2) (fun k => R k ∧ k < w.heap.size) wr (.slice ua n uc) ps ∧ Fr (fun _ => False) w wr ∧ ps.all (fun p => sameV p.1 p.2) = sameV a b))
  case atStart => exact ⟨[(a, b)], _, 1, 1, by simp [szVs], rfl, Lib.hid ⟨rfl, by simpa [szVs] using HSZ.out, H3.out.2, H3.out.1, by simp⟩⟩
  case round =>
    obtain ⟨ps, ua, n, uc, rfl, rfl, HI⟩ := hrel
    rcases List.eq_nil_or_concat ps with hps | ⟨qs, ⟨x, y⟩, hps⟩
    · obtain rfl : n = 0 := by rw [HI.out.1, hps]; rfl
      have HP := Lib.hid hps
      clear hps
      go_wp2
      go_ret
      refine ⟨ret_bool ?_, HI.out.2.2.2.1⟩
      rw [← HI.out.2.2.2.2, HP.out]
      rfl
    · rw [List.concat_eq_append] at hps
      obtain ⟨m, rfl⟩ : ∃ m, n = m + 1 := ⟨qs.length, by rw [HI.out.1, hps]; simp⟩
      have hm : m = qs.length := by have := HI.out.1; rw [hps] at this; simp at this; exact this
      have hrow := HI.out.2.2.1
      rw [hps] at hrow
      have HROW := Lib.hid hrow
      obtain ⟨cs, ho, hcs⟩ := hrow
      obtain ⟨x0, x1, x2, x3, y0, y1, y2, y3, q, hx, hy⟩ := hcs m (x, y) (by rw [List.getElem?_append_right (by omega), hm]; simp)
      obtain ⟨g, rfl, hgB⟩ : ∃ g, ua = some ⟨g, 0, none⟩ ∧ w.heap.size + 2 ≤ g := by
        rcases ho.2 with ⟨e, _⟩ | ⟨g, cap, cur, e, hb, _⟩
        · cases e
        · simp only [Value.slice.injEq] at e; obtain ⟨rfl, _, rfl⟩ := e; exact ⟨g, rfl, hb⟩
      have hmc : m + 1 ≤ uc := by
        rcases ho.2 with ⟨e, _⟩ | ⟨g, cap, cur, e, hb, hgg, hle, _⟩
        · cases e
        · simp only [Value.slice.injEq] at e; obtain ⟨_, h1, rfl⟩ := e; omega
      have hgl : g < wr.heap.size := (World.ownsRow.lt ho g rfl).2
      have hc := fun (j : Nat) (u : Value) (hu : [x0, x1, x2, x3, y0, y1, y2, y3][j]? = some u) => World.ownsRow.cells (g := g) ho rfl (m * 8 + j) u (q j u hu)
      simp only [plain_add] at hc
      obtain ⟨pk, pm, pns, pn2, pof, pa2, pc2, rfl, ex, htx, hox⟩ := vshows_open hx
      obtain ⟨qk, qm, qns, qn2, qof, qa2, qc2, rfl, ey, hty, hoy⟩ := vshows_open hy
      simp only [Value.agg.injEq, Array.mk.injEq, List.cons.injEq, and_true] at ex ey
      obtain ⟨rfl, rfl, rfl, rfl⟩ := ex
      obtain ⟨rfl, rfl, rfl, rfl⟩ := ey
      have r0 := hc 0 _ rfl
      have r1 := hc 1 _ rfl
      have r2 := hc 2 _ rfl
      have r3 := hc 3 _ rfl
      have r4 := hc 4 _ rfl
      have r5 := hc 5 _ rfl
      have r6 := hc 6 _ rfl
      have r7 := hc 7 _ rfl
      rw [Nat.add_zero] at r0
      unfold sv at r2 r6
      have HXY := Lib.hid (And.intro htx (And.intro hox (And.intro hty (And.intro hoy (And.intro hps hm)))))
      clear hc q hx hy hps hm ho hcs htx hox hty hoy
      have hm5 : m ≤ 100000 := by have := szVs_length ps; have := HI.out.2.1; have := HI.out.1; omega
      have hw1 : wrap64 (m : Int) = m := IntWalk.wrap64_in _ (by omega)
      have hw2 : IntKind.i64.wrap (m : Int) = m := IntWalk.i64_in _ (by omega)
      have i0 : (0 : Int) ≤ (m : Int) := by omega
      have i1 : (m : Int) < (m : Int) + 1 := by omega
      have i2 : m < m + 1 := by omega
      go_upto_region 4 with fail
      go_cut [7, 8] from 14 to 82 (fun s7 s8 wx => ∃ g7 g8, s7 = .pointer (some ⟨g7, 0, none⟩) ∧ s8 = .pointer (some ⟨g8, 0, none⟩) ∧ Hid (wx.heap[g7]? = some (.cells #[.int .i64 pk, .float .f64 pm, .string ⟨pns.toArray⟩, .slice pa2 pn2 pc2] 39 (0, 0)) ∧ wx.heap[g8]? = some (.cells #[.int .i64 qk, .float .f64 qm, .string ⟨qns.toArray⟩, .slice qa2 qn2 qc2] 39 (0, 0)) ∧ wr.heap.size ≤ g7 ∧ wr.heap.size ≤ g8 ∧ Fr (fun _ => False) wr wx))
      case first =>
        go_region
        all_goals go_wp2
        all_goals go_meet
        all_goals (case rel => first | exact ⟨_, _, rfl, rfl, Lib.hid ⟨heap_alloc_first _ _ _, heap_alloc_two _ _ _, by omega, by omega, (((Fr.refl _ _).alloc _).alloc _).drew⟩⟩ | exact ⟨_, _, rfl, rfl, Lib.hid ⟨heap_alloc_two _ _ _, heap_alloc_first _ _ _, by omega, by omega, (((Fr.refl _ _).alloc _).alloc _).drew⟩⟩)
      case rest =>
        obtain ⟨g7, g8, rfl, rfl, HC⟩ := hcut
        clear r0 r1 r2 r3 r4 r5 r6 r7
        obtain ⟨wo, rfl⟩ : ∃ wo : World, wo = wc := ⟨_, rfl⟩
        have FW := Lib.hid (HI.out.2.2.2.1.trans HC.out.2.2.2.2 (fun _ _ h => h))
        have u0 := cells_row HC.out.1 0 _ rfl
        have u1 := cells_row HC.out.1 1 _ rfl
        have u2 := cells_row HC.out.1 2 _ rfl
        have u3 := cells_row HC.out.1 3 _ rfl
        have t0 := cells_row HC.out.2.1 0 _ rfl
        have t1 := cells_row HC.out.2.1 1 _ rfl
        have t2 := cells_row HC.out.2.1 2 _ rfl
        have t3 := cells_row HC.out.2.1 3 _ rfl
        have i4 : (m : Int) ≤ (uc : Int) := by omega
        have hfalse : sameV (.mk pk pm pns pn2 pof) (.mk qk qm qns qn2 qof) = false → false = sameV a b := by
          intro h
          rw [← HI.out.2.2.2.2, HXY.out.2.2.2.2.1]
          simp [h]
        have HFA := Lib.hid hfalse
        clear hfalse
        by_cases e1 : pk = qk
        case neg =>
          have b1 : (pk == qk) = false := by simpa using e1
          have b2 : (pk != qk) = true := by unfold bne; rw [b1]; rfl
          have E1 := Lib.hid e1
          clear e1
          go_wp2
          go_ret
          exact ⟨ret_bool (HFA.out (by rw [sameV, decide_eq_false E1.out]; rfl)), FW.out⟩
        subst e1
        by_cases e2 : Fl.canon pm = Fl.canon qm
        case neg =>
          have E1 := Lib.hid e2
          clear e2
          go_wp2_with fail
          refine (realSame_ne pm qm _ E1.out).mono ?_
          rintro e w5 ⟨rfl, rfl⟩
          go_wp2
          go_ret
          exact ⟨ret_bool (HFA.out (by rw [sameV, decide_eq_false E1.out]; simp)), FW.out⟩
        have E2 := Lib.hid e2
        clear e2
        by_cases e3 : pns = qns
        case neg =>
          have b1 : (pns == qns) = false := by simpa using e3
          have b2 : (pns != qns) = true := by unfold bne; rw [b1]; rfl
          have E1 := Lib.hid e3
          clear e3
          go_wp2_with fail
          refine (realSame_eq pm qm _ E2.out).mono ?_
          rintro e w5 ⟨rfl, rfl⟩
          go_wp2
          go_ret
          exact ⟨ret_bool (HFA.out (by rw [sameV, decide_eq_false E1.out]; simp)), FW.out⟩
        subst e3
        by_cases e4 : pn2 = qn2
        case neg =>
          have b1 : ((pn2 : Int) == (qn2 : Int)) = false := by simp; omega
          have b2 : ((pn2 : Int) != (qn2 : Int)) = true := by unfold bne; rw [b1]; rfl
          have E1 := Lib.hid e4
          clear e4
          go_wp2_with fail
          refine (realSame_eq pm qm _ E2.out).mono ?_
          rintro e w5 ⟨rfl, rfl⟩
          go_wp2
          go_ret
          exact ⟨ret_bool (HFA.out (by rw [sameV, decide_eq_false E1.out]; simp)), FW.out⟩
        subst e4
        go_wp2_with fail
        refine (realSame_eq pm qm _ E2.out).mono ?_
        rintro e w5 ⟨rfl, rfl⟩
        have q7 := HC.out.1
        have q8 := HC.out.2.1
        have hrow5 := VPairRow.fr (VPairRow.pop HROW.out) HC.out.2.2.2.2 (fun _ _ h => h) (fun _ _ h => h)
        have H5 := Lib.hid (And.intro q7 (And.intro q8 (And.intro hrow5 FW.out)))
        have HKX := Lib.hid (VKids.fr HXY.out.2.1 HC.out.2.2.2.2 (fun _ _ h => h))
        have HKY := Lib.hid (VKids.fr HXY.out.2.2.2.1 HC.out.2.2.2.2 (fun _ _ h => h))
        have hg7 := HC.out.2.2.1
        have hg8 := HC.out.2.2.2.1
        obtain ⟨w5, rfl⟩ : ∃ w5 : World, w5 = wo := ⟨_, rfl⟩
        clear q7 q8 hrow5 u0 u1 t0 t1
        obtain ⟨i0', hi, hz0, hz1, hz2⟩ := info_parts Tryz.infoPair
        have hgg7 : g ≠ g7 := by omega
        have hgg8 : g ≠ g8 := by omega
        have hm5' : qs.length ≤ 100000 := by have := HXY.out.2.2.2.2.2; omega
        have hpn : szVs (qs ++ vparts pof qof pn2) + 1 ≤ 100000 ∧ szVs (qs ++ vparts pof qof pn2) + 1 = szVs ps := by
          have e1 := vparts_sz pk pm pns pn2 pof qof
          have e2 := HI.out.2.1
          rw [HXY.out.2.2.2.2.1, szVs_append] at e2
          rw [HXY.out.2.2.2.2.1, szVs_append, szVs_append]
          have e3 : szVs [(VT.mk pk pm pns pn2 pof, VT.mk pk qm pns pn2 qof)] = szV (.mk pk pm pns pn2 pof) := by simp [szVs]
          rw [e3] at e2 ⊢
          omega
        have HPN := Lib.hid hpn
        clear hpn
        go_wp2
        have k3 := u3
        have l3 := t3
        clear u2 u3 t2 t3
        go_loopg [5, 9, 65] pn2 (fun G u5 u9 u65 wr => ∃ (j : Nat) (ua : Option Addr) (n uc : Nat), j ≤ pn2 ∧ G = pn2 - j ∧ u65 = .int .i64 j ∧ u5 = .slice ua n uc ∧ Hid (n = (qs ++ vparts pof qof j).length ∧ VPairRow (w.heap.size + 2) (fun k => R k ∧ k < w.heap.size) wr (.slice ua n uc) (qs ++ vparts pof qof j) ∧ Fr (fun k => w.heap.size + 2 ≤ k) w5 wr ∧
          wr.heap[g7]? = some (.cells #[.int .i64 pk, .float .f64 pm, .string ⟨pns.toArray⟩, .slice pa2 pn2 pc2] 39 (0, 0)) ∧ wr.heap[g8]? = some (.cells #[.int .i64 pk, .float .f64 qm, .string ⟨pns.toArray⟩, .slice qa2 pn2 qc2] 39 (0, 0)) ∧ ∀ k, (Value.slice ua n uc).ownBlock = some k → k ≠ g7 ∧ k ≠ g8))
        case atStart => exact ⟨0, some ⟨g, 0, none⟩, m, uc, Nat.zero_le _, rfl, by go_num, rfl, Lib.hid ⟨by rw [HXY.out.2.2.2.2.2]; simp [vparts], by rw [HXY.out.2.2.2.2.2]; simpa [vparts] using H5.out.2.2.1, Fr.refl _ _, H5.out.1, H5.out.2.1, fun k hk => by simp [Value.ownBlock] at hk; omega⟩⟩
        case round =>
          obtain ⟨j, ua, n, uc', hj, rfl, rfl, rfl, HJ⟩ := hrel
          by_cases hlt : j < pn2
          · rcases VKids.fr HKX.out HJ.out.2.2.1 (fun k hk h => by omega) with hz | ⟨hcx, gx, ox, hgx, rfl, hcellx⟩
            · omega
            rcases VKids.fr HKY.out HJ.out.2.2.1 (fun k hk h => by omega) with hz | ⟨hcy, gy, oy, hgy, rfl, hcelly⟩
            · omega
            obtain ⟨x0, x1, x2, x3, p0, p1, p2, p3, hx⟩ := hcellx j hlt
            obtain ⟨y0, y1, y2, y3, q0, q1, q2, q3, hy⟩ := hcelly j hlt
            obtain ⟨zk, zm, zs, za2, zn2, zc2, ex⟩ := hx.lit
            simp only [Value.agg.injEq, Array.mk.injEq, List.cons.injEq, and_true] at ex
            obtain ⟨rfl, rfl, rfl, rfl⟩ := ex
            obtain ⟨yk, ym, ys, ya2, yn2, yc2, ey⟩ := hy.lit
            simp only [Value.agg.injEq, Array.mk.injEq, List.cons.injEq, and_true] at ey
            obtain ⟨rfl, rfl, rfl, rfl⟩ := ey
            obtain ⟨cs, ho, hcs⟩ := HJ.out.2.1
            rw [← HJ.out.1] at ho
            have hnb : n ≤ 100000 := by
              have e1 := szVs_length (qs ++ vparts pof qof j)
              have e2 := vparts_mono pof qof j pn2 (by omega)
              have e3 := HPN.out.1
              rw [szVs_append] at e1 e3
              have := HJ.out.1
              omega
            have hwsz : w.heap.size + 2 ≤ wr.heap.size := by have := lt_of_block HJ.out.2.2.2.1; have := HC.out.2.2.1; have := (World.ownsRow.lt (VPairRow_own HROW.out) g rfl); omega
            have HLT := Lib.hid (show j + 1 ≤ pn2 from hlt)
            have hj1 : j ≤ 100000 := by have := HXY.out.1.2.2.2.2; have := HLT.out; omega
            have jx : (j : Int) < (pn2 : Int) := by omega
            have j0 : (0 : Int) ≤ (j : Int) := by omega
            have HP := Lib.hid (And.intro p0 (And.intro p1 (And.intro p2 (And.intro p3 (And.intro q0 (And.intro q1 (And.intro q2 q3)))))))
            have HXX := Lib.hid (And.intro hx (And.intro hy (And.intro ho hcs)))
            have nown : ∀ k, (R k ∧ k < w.heap.size) → (Value.slice ua n uc').ownBlock ≠ some k := fun k hk e => by have := (World.ownsRow.lt ho k e).1; omega
            have HNO := Lib.hid nown
            clear p0 p1 p2 p3 q0 q1 q2 q3 hx hy ho hcs hcellx hcelly nown k3 l3
            have HQ := Lib.hid (fun (wx : World) (f : Fr (fun k => (Value.slice ua n uc').ownBlock = some k) wr.drew wx) =>
              have fw : Fr (fun k => (Value.slice ua n uc').ownBlock = some k) wr wx := ⟨f.os, f.tape, f.output, f.size, f.block⟩
              have up : ∀ {gg o : Nat} {u : Value}, (R gg ∧ gg < w.heap.size) → wr.cell? ⟨gg, o, none⟩ = some u → wx.cell? ⟨gg, o, none⟩ = some u := fun hgg h => cell_fr (R := fun k => R k ∧ k < w.heap.size) fw (fun k hk e => HNO.out k hk e) hgg h
              And.intro fw (And.intro (cells_row (box_kept HJ.out.2.2.2.1 fw (fun e => (HJ.out.2.2.2.2.2 _ e).1 rfl)) 3 _ rfl) (And.intro (cells_row (box_kept HJ.out.2.2.2.2.1 fw (fun e => (HJ.out.2.2.2.2.2 _ e).2 rfl)) 3 _ rfl)
                (And.intro (up hgx HP.out.1) (And.intro (up hgx HP.out.2.1) (And.intro (up hgx HP.out.2.2.1) (And.intro (up hgx HP.out.2.2.2.1) (And.intro (up hgy HP.out.2.2.2.2.1) (And.intro (up hgy HP.out.2.2.2.2.2.1) (And.intro (up hgy HP.out.2.2.2.2.2.2.1) (up hgy HP.out.2.2.2.2.2.2.2)))))))))))
            go_wp2_with fail
            refine wp_region_toldV (by kernel_rfl) (fun a b => Fr (fun k => (Value.slice ua n uc').ownBlock = some k) a b) (fun w => Fr.refl _ w) (fun _ _ _ h k => h.trans k (fun _ _ h => h))
              [some 68, some 69, some 70, some 71, some 72, some 73, some 74, some 75, some 76, some 77, some 78, some 79, some 80, some 81, some 5] rfl (by decide) (by intro d hd; simp at hd ⊢; omega)
              (fun i v wx => (i = 13 → wx.ownsRow (w.heap.size + 2) 90 8 (.slice ua n uc') n cs) ∧ (i = 14 → v = .slice ua n uc'))
              (fun i v wx => ([fun v _ => v = .slice ua n uc', fun v _ => v = .pointer (some ⟨g7, 3, none⟩), fun v _ => v = .slice (some ⟨gx, ox, none⟩) pn2 pc2, fun v _ => v = .int .i64 j, fun v _ => v = .pointer (some ⟨gx, ox + j * 4, none⟩), fun v _ => v = .agg #[.int .i64 zk, .float .f64 zm, .string zs, .slice za2 zn2 zc2],
                fun v _ => v = .pointer (some ⟨g8, 3, none⟩), fun v _ => v = .slice (some ⟨gy, oy, none⟩) pn2 qc2, fun v _ => v = .int .i64 j, fun v _ => v = .pointer (some ⟨gy, oy + j * 4, none⟩), fun v _ => v = .agg #[.int .i64 yk, .float .f64 ym, .string ys, .slice ya2 yn2 yc2],
                fun v _ => v = .agg #[.int .i64 zk, .float .f64 zm, .string zs, .slice za2 zn2 zc2, .int .i64 yk, .float .f64 ym, .string ys, .slice ya2 yn2 yc2],
                fun v wx => ∃ gg, v = .slice (some ⟨gg, 0, none⟩) 1 1 ∧ (Value.slice ua n uc').ownBlock ≠ some gg ∧ wx.heap[gg]? = some (.cells #[.int .i64 zk, .float .f64 zm, .string zs, .slice za2 zn2 zc2, .int .i64 yk, .float .f64 ym, .string ys, .slice ya2 yn2 yc2] 90 (0, 0)),
                fun v wx => ∃ ub uc2, v = .slice ub (n + 1) uc2 ∧ VPairRow (w.heap.size + 2) (fun k => R k ∧ k < w.heap.size) wx v (qs ++ vparts pof qof (j + 1)) ∧ (v.ownBlock = (Value.slice ua n uc').ownBlock ∨ ∃ k, v.ownBlock = some k ∧ wr.heap.size ≤ k),
                fun v wx => ∃ ub uc2, v = .slice ub (n + 1) uc2 ∧ VPairRow (w.heap.size + 2) (fun k => R k ∧ k < w.heap.size) wx v (qs ++ vparts pof qof (j + 1)) ∧ (v.ownBlock = (Value.slice ua n uc').ownBlock ∨ ∃ k, v.ownBlock = some k ∧ wr.heap.size ≤ k)] : List (Value → World → Prop)).getD i (fun _ _ => True) v wx)
              (by kernel_rfl) ?u0 ?step ?fin
            case u0 => exact fun i _ => ⟨fun _ => HXX.out.2.2.1, fun e => by subst e; rfl⟩
            case step =>
              intro vals
              simp only [frOfU, fillU, List.setIfInBounds_toArray, List.set_cons_succ, List.set_cons_zero]
              repeat' (first | exact AllOps.nil | refine AllOps.cons ?_ ?_)
              all_goals
                intro wx hle he hu hw K hK
                simp only [Act.put, List.setIfInBounds_toArray, List.set_cons_succ, List.set_cons_zero, List.getD_cons_zero, List.getD_cons_succ] at hK
                simp only [List.mem_cons, List.not_mem_nil, or_false, forall_eq_or_imp, forall_eq, Region.binds, forall_const, false_imp_iff, List.getD_cons_zero, List.getD_cons_succ] at he
                obtain ⟨fw, v7, v8, p0, p1, p2, p3, q0, q1, q2, q3⟩ := HQ.out wx hle
                have FW5 := Lib.hid fw
                clear fw hle
              · have h5 := (hw 14 (by kernel_rfl)).2 rfl
                clear hw
                simp only [h5] at hK ⊢
                go_simp
                exact hK _ _ (Fr.refl _ _) rfl (fun _ _ _ h => h) (fun _ _ _ _ h => h)
              all_goals clear hw
              all_goals first | ((try simp only [he] at hK ⊢); go_simp; exact hK _ _ (Fr.refl _ _) rfl (fun _ _ _ h => h) (fun _ _ _ _ h => h)) | skip
              · simp only [he] at hK ⊢
                go_simp
                have fa : Fr (fun _ => False) wx (wx.alloc (.cells #[.int .i64 zk, .float .f64 zm, .string zs, .slice za2 zn2 zc2, .int .i64 yk, .float .f64 ym, .string ys, .slice ya2 yn2 yc2] 90)) := (Fr.refl _ _).alloc _
                refine hK _ _ (fa.mono (fun _ _ h => absurd h (fun h => h))) ⟨wx.heap.size, rfl, ?_, heap_alloc_new _ _⟩ ?_ ?_
                · intro e
                  have h1 := (World.ownsRow.lt HXX.out.2.2.1 _ e).2
                  have h2 := FW5.out.size
                  omega
                · exact fun i u hi h => ⟨fun e => ownsRow_fr (h.1 e) fa (fun _ _ h => h), h.2⟩
                · refine fun i u hi _ => pres_list ?_ i u
                  simp only [List.mem_cons, List.not_mem_nil, or_false, forall_eq_or_imp, forall_eq, imp_self, implies_true, true_and]
                  refine ⟨fun u h => ?_, fun u h => ?_, fun u h => ?_⟩
                  · obtain ⟨gg, e1, e2, e3⟩ := h
                    exact ⟨gg, e1, e2, box_kept e3 fa (fun h => h)⟩
                  · obtain ⟨ub, uc2, e1, e2, e3⟩ := h
                    exact ⟨ub, uc2, e1, e2.fr fa (fun _ _ h => h) (fun _ _ h => h), e3⟩
                  · obtain ⟨ub, uc2, e1, e2, e3⟩ := h
                    exact ⟨ub, uc2, e1, e2.fr fa (fun _ _ h => h) (fun _ _ h => h), e3⟩
              · obtain ⟨h0, gg, h12, hgne, hgg⟩ := he
                have ho := hu.1 rfl
                rw [if_pos (by rfl)]
                refine opWp_append (.tmp 68) (.tmp 80) 91 91 rfl (w.heap.size + 2) 90 i0' (.agg #[.int .i64 0, .float .f64 0, .string ⟨#[]⟩, .slice none 0 0, .int .i64 0, .float .f64 0, .string ⟨#[]⟩, .slice none 0 0]) 8 112 Tryz.underlying91 _ Tryz.underlying91 (.inr ⟨_, rfl⟩) hi hz0 hz1 hz2 rfl (by decide) (.slice ua n uc') n cs h0 ho (.slice (some ⟨gg, 0, none⟩) 1 1) 1 [.int .i64 zk, .float .f64 zm, .string zs, .slice za2 zn2 zc2, .int .i64 yk, .float .f64 ym, .string ys, .slice ya2 yn2 yc2] h12 (lenOf_slice _ _ _) rfl (first_one8 1 hgg) (first_one8 1 (by exact hgg)) ?one (by unfold maxLen; omega) (by omega) (by have := FW5.out.size; omega) ?grow
                case one => intro u hu; simp at hu; rcases hu with rfl | rfl | rfl | rfl | rfl | rfl | rfl | rfl <;> rfl
                case grow =>
                  intro v' w6 hown hg hv
                  have f6 : Fr (fun k => (Value.slice ua n uc').ownBlock = some k) wx w6 := (Fr.of_grown hg).mono (fun _ _ e => e.symm)
                  obtain ⟨ub, uc2, e1⟩ := slice_of_own hown
                  have hpr : VPairRow (w.heap.size + 2) (fun k => R k ∧ k < w.heap.size) w6 v' (qs ++ vparts pof qof (j + 1)) := by
                    rw [vparts_succ, ← List.append_assoc]
                    exact VPairRow.push HXX.out.2.2.2 (by rw [HXX.out.2.2.1.1, HJ.out.1]) (by rw [HJ.out.1]) hown (FW5.out.trans f6 (fun _ _ h => h)) (fun k hk e => HNO.out k hk e) HXX.out.1 HXX.out.2.1
                  have hvv : v'.ownBlock = (Value.slice ua n uc').ownBlock ∨ ∃ k, v'.ownBlock = some k ∧ wr.heap.size ≤ k := by
                    rcases hv with h | h
                    · exact .inl h
                    · exact .inr ⟨_, h, FW5.out.size⟩
                  refine hK _ _ f6 ⟨ub, uc2, e1, hpr, hvv⟩ ?_ ?_
                  · exact fun i u hi h => ⟨fun e => absurd e hi, h.2⟩
                  · intro i u hi hwt
                    by_cases h14 : i = 14
                    · subst h14
                      exact absurd hwt (by decide +kernel)
                    · refine pres_but 14 13 h14 hi ?_ u
                      simp only [List.set_cons_succ, List.set_cons_zero, List.mem_cons, List.not_mem_nil, or_false, forall_eq_or_imp, forall_eq, imp_self, implies_true, true_and, and_true]
                      intro u h
                      obtain ⟨g1, e2, e3, e4⟩ := h
                      exact ⟨g1, e2, e3, box_kept e4 f6 e3⟩
              · have h13 := he.1
                clear he
                obtain ⟨ub, uc2, e13, hpr, hvv⟩ := h13
                rw [e13] at hpr hvv
                go_simp
                simp only [Nat.reduceAdd, Nat.zero_add, e13] at hK ⊢
                exact hK _ _ (Fr.refl _ _) ⟨ub, uc2, rfl, hpr, hvv⟩ (fun _ _ _ h => h) (fun _ _ _ _ h => h)
            case fin =>
              intro vals w' hle hV
              obtain ⟨ub, uc2, e14, hpr, hvv⟩ := hV 14 (by decide)
              clear hV
              obtain ⟨fw, _⟩ := HQ.out w' hle
              have HF := Lib.hid (And.intro fw (And.intro hpr hvv))
              clear hpr hvv hle fw
              simp only [frOfU, fillU, List.setIfInBounds_toArray, List.set_cons_succ, List.set_cons_zero]
              simp only [Nat.reduceAdd, e14]
              go_wp2
              go_roundg (pn2 - (j + 1))
              case measure => omega
              case rel =>
                have hpr := HF.out.2.1
                rw [e14] at hpr
                have hvv := HF.out.2.2
                rw [e14] at hvv
                have hfw : Fr (fun k => w.heap.size + 2 ≤ k) w5 w' := HJ.out.2.2.1.trans HF.out.1 (fun i hi e => (World.ownsRow.lt HXX.out.2.2.1 i e).1)
                exact ⟨j + 1, ub, n + 1, uc2, HLT.out, rfl, by go_num, rfl, Lib.hid ⟨by rw [vparts_succ, ← List.append_assoc, List.length_append, ← HJ.out.1]; rfl, hpr, hfw, box_kept HJ.out.2.2.2.1 HF.out.1 (fun e => (HJ.out.2.2.2.2.2 _ e).1 rfl), box_kept HJ.out.2.2.2.2.1 HF.out.1 (fun e => (HJ.out.2.2.2.2.2 _ e).2 rfl), fun k hk => by
                  rcases hvv with h | ⟨k', h, hk'⟩
                  · rw [h] at hk; exact HJ.out.2.2.2.2.2 k hk
                  · rw [h] at hk; cases hk
                    have h1 := lt_of_block HJ.out.2.2.2.1
                    have h2 := lt_of_block HJ.out.2.2.2.2.1
                    exact ⟨by omega, by omega⟩⟩⟩
          · obtain rfl : j = pn2 := by omega
            go_wp2
            go_roundg (szVs (qs ++ vparts pof qof j))
            case measure => have := HPN.out.2; omega
            case rel =>
              refine ⟨qs ++ vparts pof qof j, ua, n, uc', rfl, rfl, Lib.hid ⟨HJ.out.1, by have := HPN.out.1; omega, HJ.out.2.1, H5.out.2.2.2.trans HJ.out.2.2.1 (fun i hi h => by omega), ?_⟩⟩
              rw [← HI.out.2.2.2.2, HXY.out.2.2.2.2.1, List.all_append, List.all_append, ← sameV_parts pk pm qm pns j pof qof E2.out]
              simp
end
end Go.Proofs.YtplipjijaaejlaaGreat
