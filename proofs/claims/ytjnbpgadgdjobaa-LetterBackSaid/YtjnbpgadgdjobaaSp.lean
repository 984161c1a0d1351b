/-
  LetBack, what it rests on behind S15: LetBackLaw.
-/
import Derived.Test.YtjnbpgadgdjobaaS15
set_option linter.unusedVariables false
set_option linter.unusedSimpArgs false
set_option maxHeartbeats 64000000
namespace Go.Proofs.Ytjnbpgadgdjobaa
open Go.RowKit
open Go.Lib (hid)
section
set_option maxRecDepth 100000

theorem back_all {W : World} (y : S17) (v : Value) (h1 : S17V W y v) :
    Calls Try.prog 3 #[v] W fun e w' => e = .returned (.bool true) ∧ Fr (fun _ => False) W w' := by
  obtain ⟨ve, vc, va, rfl, hs1, ok1⟩ := h1
  have q0 := heap_alloc_new W (oS17 y ve vc va)
  have f0 : Fr (fun _ => False) W (W.alloc (oS17 y ve vc va)) := (Fr.refl _ _).alloc _
  have Q := Lib.hid q0
  have F := Lib.hid f0
  have HS := Lib.hid hs1
  have OK := Lib.hid ok1
  clear q0 f0 hs1 ok1
  go_enter Try.func3, Try.ntmps3
  go_upto_region 1 with fail
  generalize W.alloc (oS17 y ve vc va) = w0 at *
  obtain ⟨gs, hgs⟩ : ∃ g, g = W.heap.size := ⟨_, rfl⟩
  rw [← hgs] at Q ⊢
  have HG : Hid (gs = W.heap.size) := Lib.hid hgs
  clear hgs
  go_wp2_with fail
  refine (lawake_any w0).mono ?_
  rintro e w1 ⟨rfl, f1⟩
  have Q1 := Lib.hid (crow_kept Q.out f1 (fun h => h))
  have F1 := Lib.hid (F.out.trans f1 (fun _ _ h => h))
  clear f1 F Q
  dsimp only
  go_wp2_with (refine load_lt rfl 32 (.tmp 1) rfl gs (y.cs ve vc va) 32 (0, 0) rfl Q1.out _ Try.underlying32 rfl (by kernel_rfl) ?_)
  refine (light_any y ve vc va w1 (HS.out.fr F1.out)).mono ?_
  rintro e w2 ⟨rfl, f2⟩
  have Q2 := Lib.hid (crow_kept Q1.out f2 (fun h => h))
  have F2 := Lib.hid (F1.out.trans f2 (fun _ _ h => h))
  clear f2 F1 Q1
  by_cases l1 : y.light
  case neg =>
    have hL : (decide (y.e.c.l.length ≤ 100) && (decide (y.c.l.length ≤ 100) && decide (y.a.l.length ≤ 100))) = false := by
      unfold S17.light at l1
      simp only [Bool.and_eq_false_iff, decide_eq_false_iff_not]
      omega
    rw [hL]
    clear l1 hL
    dsimp only
    go_wp2_with fail
    go_ret
    exact ⟨rfl, F2.out⟩
  have hL : (decide (y.e.c.l.length ≤ 100) && (decide (y.c.l.length ≤ 100) && decide (y.a.l.length ≤ 100))) = true := by
    obtain ⟨a, b, c⟩ := l1
    simp [a, b, c]
  rw [hL]
  have L1 := Lib.hid l1
  clear l1 hL
  dsimp only
  go_wp2_with (refine load_lt rfl 32 (.tmp 1) rfl gs (y.cs ve vc va) 32 (0, 0) rfl Q2.out _ Try.underlying32 rfl (by kernel_rfl) ?_)
  refine (sletter_any y ve vc va w2 OK.out L1.out (HS.out.fr F2.out)).mono ?_
  rintro e w3 ⟨s, rfl, hl3, f3, -⟩
  have hz := heap_alloc_new w3 (zLt 0 0 0)
  have HZ := Lib.hid hz
  obtain ⟨A, hA⟩ : ∃ A, A = y.all.only := ⟨_, rfl⟩
  have HA : Hid (LtOk A ∧ LtT A ∧ A.only = A ∧ ltB y.all = ltB A) := Lib.hid (by rw [hA]; exact ⟨only_ok (all_ty OK.out L1.out).t (all_ok OK.out L1.out), ⟨only_lens (all_ty OK.out L1.out).l, only_ty (all_ty OK.out L1.out).t⟩, only_only _, (ltB_only _).symm⟩)
  rw [← hA] at hl3 ⊢
  have Q3 := Lib.hid (crow_kept Q2.out f3 (fun h => h))
  have F3 := Lib.hid (F2.out.trans f3 (fun _ _ h => h))
  have L3 := Lib.hid hl3
  clear hl3 f3 hz hA Q2 F2
  dsimp only
  go_upto_region 6 with (refine store_lt rfl 51 (.tmp 3) (.tmp 16) rfl w3.heap.size (A.cs s) rfl rfl 51 _ HZ.out (by kernel_rfl) rfl L3.out.one ?_)
  have q4 := setRow_heap _ _ _ (A.cs s) _ _ HZ.out
  have f4 : Fr (fun _ => False) w3 ((w3.alloc (zLt 0 0 0)).setRow w3.heap.size (A.cs s)) := Fr.letRow ((Fr.refl _ _).alloc _) (fun h => absurd h (by omega)) _
  generalize (w3.alloc (zLt 0 0 0)).setRow w3.heap.size (A.cs s) = w4 at *
  obtain ⟨gl, hgl⟩ : ∃ g, g = w3.heap.size := ⟨_, rfl⟩
  rw [← hgl] at q4 ⊢
  have Q4 := Lib.hid (And.intro (crow_kept Q3.out f4 (fun h => h)) q4)
  have F4 := Lib.hid (F3.out.trans f4 (fun _ _ h => h))
  have L4 := Lib.hid (L3.out.fr f4)
  clear q4 f4 hgl HZ Q3 F3 L3
  go_wp2_with (refine load_lt rfl 51 (.tmp 3) rfl gl (A.cs s) 51 (0, 0) rfl Q4.out.2 _ Try.underlying51 rfl (by kernel_rfl) ?_)
  refine (lput_ok A s w4 L4.out HA.out.2.1.l HA.out.2.1.t (chk_zero HA.out.1)).mono ?_
  rintro e w5 ⟨vb, rfl, ho5, f5, -⟩
  have F5 := Lib.hid (F4.out.trans f5 (fun _ _ h => h))
  have Q5 := Lib.hid (And.intro (crow_kept Q4.out.1 f5 (fun h => h)) (crow_kept Q4.out.2 f5 (fun h => h)))
  have L5 := Lib.hid (L4.out.fr f5)
  have B5 := Lib.hid ho5.sees
  clear f5 ho5 F4 Q4 L4
  dsimp only
  go_wp2_with (refine load_lt rfl 32 (.tmp 1) rfl gs (y.cs ve vc va) 32 (0, 0) rfl Q5.out.1 _ Try.underlying32 rfl (by kernel_rfl) ?_)
  refine (sall_any y ve vc va w5 OK.out (HS.out.fr F5.out)).mono ?_
  rintro e w6 ⟨s6, rfl, hl6, f6⟩
  have F6 := Lib.hid (F5.out.trans f6 (fun _ _ h => h))
  have Q6 := Lib.hid (crow_kept Q5.out.2 f6 (fun h => h))
  have L6 := Lib.hid (And.intro (L5.out.fr f6) hl6)
  have B6 := Lib.hid (B5.out.fr f6 (fun _ _ h => h))
  clear f6 hl6 F5 Q5 L5 B5
  have HT : Hid (LtOk y.all ∧ LtT y.all) := Lib.hid ⟨all_ok OK.out L1.out, all_ty OK.out L1.out⟩
  dsimp only
  go_wp2_with fail
  refine (lput_ok y.all s6 w6 L6.out.2 HT.out.2.l HT.out.2.t (chk_zero HT.out.1)).mono ?_
  rintro e w7 ⟨vc7, rfl, ho7, f7, -⟩
  rw [HA.out.2.2.2] at ho7
  have F7 := Lib.hid (F6.out.trans f7 (fun _ _ h => h))
  have Q7 := Lib.hid (crow_kept Q6.out f7 (fun h => h))
  have L7 := Lib.hid (L6.out.1.fr f7)
  have B7 := Lib.hid (And.intro (B6.out.fr f7 (fun _ _ h => h)) ho7.sees)
  clear f7 ho7 F6 Q6 L6 B6
  generalize y.all.cs s6 = cs6 at *
  dsimp only
  go_wp2_with fail
  refine (ltake_any vb (ltB A) w7 B7.out.1 (by have := ltU_length HA.out.1 7; unfold ltB; omega)).mono ?_
  rintro e w8 ⟨sm, rfl, hl8, f8⟩
  rw [takeL_ltB HA.out.1 HA.out.2.2.1] at hl8 ⊢
  have F8 := Lib.hid (F7.out.trans f8 (fun _ _ h => h))
  have Q8 := Lib.hid (crow_kept Q7.out f8 (fun h => h))
  have L8 := Lib.hid (And.intro (L7.out.fr f8) hl8)
  have B8 := Lib.hid (And.intro (B7.out.1.fr f8 (fun _ _ h => h)) (B7.out.2.fr f8 (fun _ _ h => h)))
  have hz := heap_alloc_new w8 (zLt 0 0 0)
  have HZ := Lib.hid hz
  clear f8 hl8 F7 Q7 L7 B7 hz
  dsimp only
  go_upto_region 9 with (refine store_lt rfl 51 (.tmp 8) (.tmp 31) rfl w8.heap.size (A.cs sm) rfl rfl 51 _ HZ.out (by kernel_rfl) rfl L8.out.2.one ?_)
  have q9 := setRow_heap _ _ _ (A.cs sm) _ _ HZ.out
  have f9 : Fr (fun _ => False) w8 ((w8.alloc (zLt 0 0 0)).setRow w8.heap.size (A.cs sm)) := Fr.letRow ((Fr.refl _ _).alloc _) (fun h => absurd h (by omega)) _
  generalize (w8.alloc (zLt 0 0 0)).setRow w8.heap.size (A.cs sm) = w9 at *
  obtain ⟨gm, hgm⟩ : ∃ g, g = w8.heap.size := ⟨_, rfl⟩
  rw [← hgm] at q9 ⊢
  have Q9 := Lib.hid (And.intro (crow_kept Q8.out f9 (fun h => h)) q9)
  have F9 := Lib.hid (F8.out.trans f9 (fun _ _ h => h))
  have L9 := Lib.hid (And.intro (L8.out.1.fr f9) (L8.out.2.fr f9))
  have KB := Lib.hid (str_later (B8.out.1.fr f9 (fun _ _ h => h)))
  have KC := Lib.hid (str_later (B8.out.2.fr f9 (fun _ _ h => h)))
  clear q9 f9 hgm HZ Q8 F8 L8 B8 HS OK L1 HT HG
  obtain ⟨SA, hSA⟩ : ∃ s : ByteArray, s = ⟨(ltB A).toArray⟩ := ⟨_, rfl⟩
  rw [← hSA] at KB KC
  have HSA := Lib.hid hSA
  clear hSA
  have HM : Hid (A.e.m.length ≤ 1000 ∧ A.vm.length ≤ 1000) := Lib.hid ⟨HA.out.2.1.l.em, HA.out.2.1.l.vm⟩
  have hse : (SA.toList == SA.toList) = true := by simp
  have HSE := Lib.hid hse
  clear hse
  go_upto_region 9 with fail
  refine wp_region_told (by kernel_rfl) (fun a b => Fr (fun _ => False) a b) (fun w => Fr.refl _ w) (fun _ _ _ h k => h.trans k (fun _ _ h => h)) [33, 34, 35, 36, 37, 38, 39, 40, 41, 42, 43, 44, 45, 46, 47, 48, 49, 50, 51, 52, 53, 54, 55, 56, 57, 58, 59, 60, 61, 62, 63, 64, 65, 66, 67, 68, 69, 70, 71, 72, 73, 2] rfl (by decide) (by intro d hd; simp at hd ⊢; omega)
    (lvV [.is (.agg (A.cs s)), .is (.int .i64 0), .is (.bool true), .is (.bool true), .is (.int .i64 0), .is (.bool true), .is (.bool true), .is (.bool true), .is vb, .is (.string SA), .is (.agg (A.cs s)), .by (ltB A), .is (.string SA), .is (.bool true), .is (.bool true), .is (.bool true), .is (.int .i64 0), .is (.bool true), .is (.bool true), .is (.bool true), .is vb, .is (.string SA), .is vc7, .is (.string SA), .is (.bool true), .is (.bool true), .is (.bool true), .is (.int .i64 0), .is (.bool true), .is (.bool true), .is (.bool true), .is (.agg (A.cs s)), .is (.agg (A.cs sm)), .is (.bool true), .is (.bool true), .is (.bool true), .is (.agg (A.cs s)), .is (.agg (A.cs s)), .lt A, .is (.bool true), .is (.bool true), .is (.bool true)])
    (lvV_mono _) (by kernel_rfl) ?step9 ?fin9
  case step9 =>
    intro vals
    simp only [frOf, fill, List.setIfInBounds_toArray, List.set_cons_succ, List.set_cons_zero]
    repeat' (first | exact AllOps.nil | refine AllOps.cons ?_ ?_)
    all_goals
      intro wx hle he K' hK
      simp only [Act.put, List.setIfInBounds_toArray, List.set_cons_succ, List.set_cons_zero, lvV, LV.holds, List.getD_cons_zero, List.getD_cons_succ] at hK
      simp only [List.mem_cons, List.not_mem_nil, or_false, forall_eq_or_imp, forall_eq, Region.binds, forall_const, false_imp_iff, lvV, LV.holds, List.getD_cons_zero, List.getD_cons_succ] at he
      have hl5 := Fr.trans (Fr.drew (Fr.refl (fun _ => False) w9)) hle (fun _ _ h => h)
      have hl8 := Lib.hid hl5
      have ka := KB.out wx hl5
      have kb := KC.out wx hl5
      have hse := HSE.out
      clear hl5 hle
    · (try simp only [he] at hK ⊢)
      have hq := Lib.hid (crow_kept Q9.out.1 hl8.out (fun h => h))
      refine wantedL rfl ?_
      exact wp_load_row 51 (.tmp 3) rfl gl rfl 51 (A.cs s) (0, 0) _ hq.out Try.underlying51 rfl (by kernel_rfl) (hK _ _ (Fr.refl _ _) rfl)
    · (try simp only [he] at hK ⊢)
      clear he ka kb hse
      go_simp
      go_at_call 13
      refine (lcheck_any A s wx (L9.out.1.fr hl8.out) HA.out.2.1.l HA.out.2.1.t.k0).mono ?_
      rintro er wa ⟨rfl, fra⟩
      exact hK _ _ fra (by rw [chk_zero HA.out.1])
    · (try simp only [he] at hK ⊢)
      clear he
      try go_simp
      exact hK _ _ (Fr.refl _ _) rfl
    · (try simp only [he] at hK ⊢)
      clear he
      try go_simp
      exact hK _ _ (Fr.refl _ _) rfl
    · (try simp only [he] at hK ⊢)
      clear he
      try go_simp
      exact hK _ _ (Fr.refl _ _) rfl
    · (try simp only [he] at hK ⊢)
      clear he
      try go_simp
      exact hK _ _ (Fr.refl _ _) rfl
    · (try simp only [he] at hK ⊢)
      clear he
      try go_simp
      exact hK _ _ (Fr.refl _ _) rfl
    · (try simp only [he] at hK ⊢)
      clear he
      try go_simp
      exact hK _ _ (Fr.refl _ _) rfl
    · (try simp only [he] at hK ⊢)
      clear he
      try go_simp
      exact hK _ _ (Fr.refl _ _) rfl
    · (try simp only [he] at hK ⊢)
      clear he
      try go_simp
      exact hK _ _ (Fr.refl _ _) rfl
    · (try simp only [he] at hK ⊢)
      have hq := Lib.hid (crow_kept Q9.out.1 hl8.out (fun h => h))
      refine wantedL rfl ?_
      exact wp_load_row 51 (.tmp 3) rfl gl rfl 51 (A.cs s) (0, 0) _ hq.out Try.underlying51 rfl (by kernel_rfl) (hK _ _ (Fr.refl _ _) rfl)
    · (try simp only [he] at hK ⊢)
      clear he ka kb hse
      go_simp
      go_at_call 14
      refine (lbytes_any A s wx HA.out.1 (L9.out.1.fr hl8.out)).mono ?_
      rintro er wa ⟨y', rfl, hm⟩
      exact hK _ _ hm.2.1 hm.1.sees
    · obtain ⟨y', hy'⟩ : ∃ y', y' = vals 11 := ⟨_, rfl⟩
      have hsee : Sees wx y' (ltB A) := by
        rw [hy']
        first | exact he | exact he.1 | exact he.2 | exact he.2.1 | exact he.2.2
      have hv7 : vals 7 = .bool true := by first | exact he | exact he.1 | exact he.2 | exact he.2.1 | exact he.2.2
      have kd := str_later hsee wx (Fr.refl _ _)
      rw [← HSA.out] at kd
      clear he hsee ka kb hse
      simp only [Nat.reduceAdd, ← hy', hv7] at hK ⊢
      clear hy' hv7
      try go_simp
      exact hK _ _ (Fr.refl _ _) rfl
    · (try simp only [he] at hK ⊢)
      clear he
      try go_simp
      exact hK _ _ (Fr.refl _ _) rfl
    · (try simp only [he] at hK ⊢)
      clear he
      try go_simp
      exact hK _ _ (Fr.refl _ _) rfl
    · (try simp only [he] at hK ⊢)
      clear he
      try go_simp
      exact hK _ _ (Fr.refl _ _) rfl
    · (try simp only [he] at hK ⊢)
      clear he
      try go_simp
      exact hK _ _ (Fr.refl _ _) rfl
    · (try simp only [he] at hK ⊢)
      clear he
      try go_simp
      exact hK _ _ (Fr.refl _ _) rfl
    · (try simp only [he] at hK ⊢)
      clear he
      try go_simp
      exact hK _ _ (Fr.refl _ _) rfl
    · (try simp only [he] at hK ⊢)
      clear he
      try go_simp
      exact hK _ _ (Fr.refl _ _) rfl
    · (try simp only [he] at hK ⊢)
      clear he
      try go_simp
      exact hK _ _ (Fr.refl _ _) rfl
    · (try simp only [he] at hK ⊢)
      clear he
      try go_simp
      exact hK _ _ (Fr.refl _ _) rfl
    · (try simp only [he] at hK ⊢)
      clear he
      try go_simp
      exact hK _ _ (Fr.refl _ _) rfl
    · (try simp only [he] at hK ⊢)
      clear he
      try go_simp
      exact hK _ _ (Fr.refl _ _) rfl
    · (try simp only [he] at hK ⊢)
      clear he
      try go_simp
      exact hK _ _ (Fr.refl _ _) rfl
    · (try simp only [he] at hK ⊢)
      clear he
      try go_simp
      exact hK _ _ (Fr.refl _ _) rfl
    · (try simp only [he] at hK ⊢)
      clear he
      try go_simp
      exact hK _ _ (Fr.refl _ _) rfl
    · (try simp only [he] at hK ⊢)
      clear he
      try go_simp
      exact hK _ _ (Fr.refl _ _) rfl
    · (try simp only [he] at hK ⊢)
      clear he
      try go_simp
      exact hK _ _ (Fr.refl _ _) rfl
    · (try simp only [he] at hK ⊢)
      clear he
      try go_simp
      exact hK _ _ (Fr.refl _ _) rfl
    · (try simp only [he] at hK ⊢)
      clear he
      try go_simp
      exact hK _ _ (Fr.refl _ _) rfl
    · (try simp only [he] at hK ⊢)
      have hq := Lib.hid (crow_kept Q9.out.1 hl8.out (fun h => h))
      refine wantedL rfl ?_
      exact wp_load_row 51 (.tmp 3) rfl gl rfl 51 (A.cs s) (0, 0) _ hq.out Try.underlying51 rfl (by kernel_rfl) (hK _ _ (Fr.refl _ _) rfl)
    · (try simp only [he] at hK ⊢)
      have hq := Lib.hid (crow_kept Q9.out.2 hl8.out (fun h => h))
      refine wantedL rfl ?_
      exact wp_load_row 51 (.tmp 8) rfl gm rfl 51 (A.cs sm) (0, 0) _ hq.out Try.underlying51 rfl (by kernel_rfl) (hK _ _ (Fr.refl _ _) rfl)
    · (try simp only [he] at hK ⊢)
      clear he ka kb hse
      go_simp
      go_at_call 15
      refine (lsame_any A A s sm wx (L9.out.1.fr hl8.out) (L9.out.2.fr hl8.out) HM.out.1 HM.out.2).mono ?_
      rintro er wa ⟨rfl, fra⟩
      exact hK _ _ fra (by rw [(Lt.same_iff _ _).2 rfl])
    · (try simp only [he] at hK ⊢)
      clear he
      try go_simp
      exact hK _ _ (Fr.refl _ _) rfl
    · (try simp only [he] at hK ⊢)
      clear he
      try go_simp
      exact hK _ _ (Fr.refl _ _) rfl
    · (try simp only [he] at hK ⊢)
      have hq := Lib.hid (crow_kept Q9.out.1 hl8.out (fun h => h))
      refine wantedL rfl ?_
      exact wp_load_row 51 (.tmp 3) rfl gl rfl 51 (A.cs s) (0, 0) _ hq.out Try.underlying51 rfl (by kernel_rfl) (hK _ _ (Fr.refl _ _) rfl)
    · (try simp only [he] at hK ⊢)
      have hq := Lib.hid (crow_kept Q9.out.1 hl8.out (fun h => h))
      refine wantedL rfl ?_
      exact wp_load_row 51 (.tmp 3) rfl gl rfl 51 (A.cs s) (0, 0) _ hq.out Try.underlying51 rfl (by kernel_rfl) (hK _ _ (Fr.refl _ _) rfl)
    · (try simp only [he] at hK ⊢)
      clear he ka kb hse
      go_simp
      go_at_call 16
      refine (only_any A s wx (L9.out.1.fr hl8.out) HA.out.2.1.l.el HA.out.2.1.l.em HA.out.2.1.l.vm HA.out.2.1.l.cl HA.out.2.1.l.al).mono ?_
      rintro er wa ⟨so, rfl, hlo, fro, -⟩
      rw [HA.out.2.2.1] at hlo ⊢
      exact hK _ _ fro ⟨so, rfl, hlo⟩
    · obtain ⟨so, hso, hlo⟩ : ∃ so, vals 38 = .agg (A.cs so) ∧ LS wx A so := by
        first | exact he | exact he.1 | exact he.2 | exact he.2.1 | exact he.2.2 | exact he.2.2.1
      have hv : vals 36 = .agg (A.cs s) := by
        first | exact he | exact he.1 | exact he.2 | exact he.2.1 | exact he.2.2
      have hv7 : vals 35 = .bool true := by first | exact he.2.2.2 | exact he.2.2.1 | exact he.2.1 | exact he.1
      clear he ka kb hse
      simp only [Nat.reduceAdd, hso, hv, hv7] at hK ⊢
      clear hv hso hv7
      go_simp
      go_at_call 15
      refine (lsame_any A A s so wx (L9.out.1.fr hl8.out) hlo HM.out.1 HM.out.2).mono ?_
      rintro er wa ⟨rfl, fra⟩
      exact hK _ _ fra (by rw [(Lt.same_iff _ _).2 rfl])
    · (try simp only [he] at hK ⊢)
      clear he
      try go_simp
      exact hK _ _ (Fr.refl _ _) rfl
    · (try simp only [he] at hK ⊢)
      clear he
      try go_simp
      exact hK _ _ (Fr.refl _ _) rfl
  case fin9 =>
    intro vals' wz hle hV
    have h41 : vals' 41 = .bool true := hV 41 (by decide)
    clear hV
    have hfin := Lib.hid (F9.out.trans (Fr.trans (Fr.drew (Fr.refl (fun _ => False) w9)) hle (fun _ _ h => h)) (fun _ _ h => h))
    clear hle
    simp only [frOf, fill, List.setIfInBounds_toArray, List.set_cons_succ, List.set_cons_zero, Nat.reduceAdd]
    simp only [h41]
    clear h41
    go_wp2_with fail
    go_ret
    exact ⟨rfl, hfin.out⟩
end
end Go.Proofs.Ytjnbpgadgdjobaa
