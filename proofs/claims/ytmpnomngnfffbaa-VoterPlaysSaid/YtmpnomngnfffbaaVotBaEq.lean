/-
  Ballots compared; the law VoteBallots, walked.
-/
import Derived.Test.YtmpnomngnfffbaaVotAwake
import Derived.Deep.Cut
import Derived.Deep.CutRange
import Derived.Deep.CutBlock
namespace Go.Proofs.Ytmpnomngnfffbaa
open Go.RowKit
set_option maxRecDepth 100000

def beq2 (r n r' n' : Int) : Bool := r == r' && n == n'

theorem ba_equal (d : Nat) (r n r' n' : Int) (w : World) : (Op.equalIn (d + 2) 57 (ball r n) (ball r' n')).run Try.prog w = .ok (beq2 r n r' n') w := by
  rw [Op.equalIn]
  simp only [Sem.run_bind, run_underlying Try.underlying57, Result.andThen_ok]
  have pe : ∀ a b : Int, (Op.equalIn (d + 1) 3 (.int .i64 a) (.int .i64 b)).run Try.prog w = .ok (a == b) w := fun a b => run_equalIn_int w d _ .i64 .i64 _ _ Try.underlying3
  simp [part, isAgg, run_underlying Try.underlying3, pe, Sem.run_bind, Result.andThen_ok, List.forIn_cons, beq2]
  by_cases h : r = r' <;> by_cases h' : n = n' <;> simp [h, h']

theorem blt_trans {a b c d e f : Int} (h1 : blt a b c d = true) (h2 : blt c d e f = true) : blt a b e f = true := by
  rw [blt_iff] at *
  omega
theorem blt_total {a b c d : Int} (h : beq2 a b c d = false) : blt c d a b = !blt a b c d := by
  unfold beq2 at h
  unfold blt
  by_cases e : a = c
  · subst e
    rw [if_pos rfl, if_pos rfl]
    simp at h
    by_cases h2 : b < d
    · simp [h2]; omega
    · simp [h2]; omega
  · rw [if_neg e, if_neg (fun h => e h.symm)]
    by_cases h2 : a < c
    · simp [h2]; omega
    · simp [h2]; omega
theorem beq2_eq {a b c d : Int} (h : beq2 a b c d = true) : a = c ∧ b = d := by unfold beq2 at h; simpa using h

set_option maxHeartbeats 16000000 in
theorem ballots_law (a0 a1 b0 b1 c0 c1 : Int) (w : World) :
    Calls Try.prog 6 #[ball a0 a1, ball b0 b1, ball c0 c1] w fun e w' => e = .returned (.bool true) ∧ Fr (fun _ => False) w w' := by
  have f0 : Fr (fun _ => False) w (((w.alloc (oBa a0 a1)).alloc (oBa b0 b1)).alloc (oBa c0 c1)) := (((Fr.refl _ _).alloc _).alloc _).alloc _
  have q0 : (((w.alloc (oBa a0 a1)).alloc (oBa b0 b1)).alloc (oBa c0 c1)).heap[w.heap.size]? = some (oBa a0 a1) := crow_kept (heap_alloc_new w _) (((Fr.refl (fun _ => False) _).alloc _).alloc _) (fun h => h)
  have q1 : (((w.alloc (oBa a0 a1)).alloc (oBa b0 b1)).alloc (oBa c0 c1)).heap[w.heap.size + 1]? = some (oBa b0 b1) := crow_kept (new_two w _ _) ((Fr.refl (fun _ => False) _).alloc _) (fun h => h)
  have q2 : (((w.alloc (oBa a0 a1)).alloc (oBa b0 b1)).alloc (oBa c0 c1)).heap[w.heap.size + 1 + 1]? = some (oBa c0 c1) := by
    have := heap_alloc_new ((w.alloc (oBa a0 a1)).alloc (oBa b0 b1)) (oBa c0 c1)
    rw [World.size_alloc, World.size_alloc] at this
    exact this
  go_enter Try.func6, Try.ntmps6
  go_upto_region 1 with fail
  generalize ((w.alloc (oBa a0 a1)).alloc (oBa b0 b1)).alloc (oBa c0 c1) = w0 at *
  generalize hg0 : w.heap.size = g0 at *
  generalize hg1 : g0 + 1 = g1 at *
  generalize hg2 : g1 + 1 = g2 at *
  clear hg0 hg1 hg2
  have Q0 := Lib.hid (And.intro q0 (And.intro q1 q2))
  have F0 := Lib.hid f0
  clear f0 q0 q1 q2
  go_wp2_with fail
  refine (vtawake_any w0).mono ?_
  rintro e w1 ⟨rfl, f1⟩
  have Q1 := Lib.hid (And.intro (crow_kept Q0.out.1 f1 (fun h => h)) (And.intro (crow_kept Q0.out.2.1 f1 (fun h => h)) (crow_kept Q0.out.2.2 f1 (fun h => h))))
  have F1 := Lib.hid (F0.out.trans f1 (fun _ _ h => h))
  clear f1 Q0 F0
  go_upto_region 3 with fail
  have HE : Hid (∀ W, (Op.equalIn 10000 57 (.agg #[.int .i64 a0, .int .i64 a1]) (.agg #[.int .i64 b0, .int .i64 b1])).run Try.prog W = .ok (beq2 a0 a1 b0 b1) W) := Lib.hid (fun W => ba_equal 9998 a0 a1 b0 b1 W)
  go_cut [46] from 14 to 46 (fun c wx => c = .bool false ∧ Fr (fun _ => False) w1 wx)
  case first =>
    cases hN : beq2 a0 a1 b0 b1 with
    | true =>
      have HN : Hid (∀ W, (Op.equalIn 10000 57 (.agg #[.int .i64 a0, .int .i64 a1]) (.agg #[.int .i64 b0, .int .i64 b1])).run Try.prog W = .ok true W) := by rw [← hN]; exact HE

      have HAB : Hid (blt a0 a1 b0 b1 = false) := Lib.hid (by obtain ⟨rfl, rfl⟩ := beq2_eq hN; exact blt_irrefl _ _)
      clear hN HE
      refine wp_region_told (by kernel_rfl) (fun a b => Fr (fun _ => False) a b) (fun w => Fr.refl _ w) (fun _ _ _ h k => h.trans k (fun _ _ h => h)) [14, 15, 16, 17, 18, 19, 20, 21, 22, 23, 24, 25, 26, 27, 28, 29, 30, 31, 32, 33, 34, 35, 36, 37, 38, 39, 40, 41, 42, 43, 44, 45, 46] rfl (by decide) (by intro d hd; simp at hd ⊢; omega)
        (fun i v _ => v = ([ball a0 a1, ball a0 a1, .bool false, .bool false, ball a0 a1, ball b0 b1, .bool false, .bool false, undef, undef, undef, undef, undef, undef, undef, .bool false, .bool false, .bool false, ball a0 a1, ball b0 b1, .bool false, .bool false, undef, undef, undef, .bool false, .bool false, undef, undef, undef, undef, .bool false, .bool false] : List Value).getD i undef)
        (fun _ _ _ _ _ h => h) (by kernel_rfl) ?stepa ?fina
      case stepa =>
        intro vals
        simp only [frOf, fill, List.setIfInBounds_toArray, List.set_cons_succ, List.set_cons_zero]
        repeat' (first | exact AllOps.nil | refine AllOps.cons ?_ ?_)
        all_goals
          intro wx hle he K' hK
          simp only [Act.put, List.setIfInBounds_toArray, List.set_cons_succ, List.set_cons_zero, List.getD_cons_zero, List.getD_cons_succ] at hK
          simp only [List.mem_cons, List.not_mem_nil, or_false, forall_eq_or_imp, forall_eq, Region.binds, forall_const, false_imp_iff, List.getD_cons_zero, List.getD_cons_succ] at he
          try simp only [he] at hK ⊢
          have hl5 := Fr.trans (Fr.drew (Fr.refl (fun _ => False) w1)) hle (fun _ _ h => h)
          have hl8 := Lib.hid hl5
          obtain ⟨c00, c01⟩ := ba_cells (crow_kept Q1.out.1 hl5 (fun h => h))
          obtain ⟨c10, c11⟩ := ba_cells (crow_kept Q1.out.2.1 hl5 (fun h => h))
          obtain ⟨c20, c21⟩ := ba_cells (crow_kept Q1.out.2.2 hl5 (fun h => h))
          have heq := HN.out
          clear hl5 hle he
          try go_simp
        all_goals first
          | exact hK _ _ (Fr.refl _ _) rfl
          | skip
        · go_at_call 23; refine (less_any a0 a1 a0 a1 _).mono ?_; rintro e1 wa ⟨rfl, fa⟩; rw [blt_irrefl]; exact hK _ _ fa rfl
        · go_at_call 23; refine (less_any a0 a1 b0 b1 _).mono ?_; rintro e1 wa ⟨rfl, fa⟩; rw [HAB.out]; exact hK _ _ fa rfl
      case fina =>
        intro vals w' hle hV
        have h9 : vals 32 = .bool false := hV 32 (by decide)
        clear hV
        have hfin := Fr.trans (Fr.drew (Fr.refl (fun _ => False) w1)) hle (fun _ _ h => h)
        clear hle
        simp only [frOf, fill, List.setIfInBounds_toArray, List.set_cons_succ, List.set_cons_zero, Nat.reduceAdd]
        go_wp2_with fail
        go_meet
        exact ⟨h9, hfin⟩

    | false =>
      have HN : Hid (∀ W, (Op.equalIn 10000 57 (.agg #[.int .i64 a0, .int .i64 a1]) (.agg #[.int .i64 b0, .int .i64 b1])).run Try.prog W = .ok false W) := by rw [← hN]; exact HE

      have hT := blt_total hN
      clear hN HE
      cases hL : blt a0 a1 b0 b1 with
      | false =>
        have HAB := Lib.hid hL
        have HBA : Hid (blt b0 b1 a0 a1 = true) := Lib.hid (by rw [hT, hL]; rfl)
        clear hT hL
        refine wp_region_told (by kernel_rfl) (fun a b => Fr (fun _ => False) a b) (fun w => Fr.refl _ w) (fun _ _ _ h k => h.trans k (fun _ _ h => h)) [14, 15, 16, 17, 18, 19, 20, 21, 22, 23, 24, 25, 26, 27, 28, 29, 30, 31, 32, 33, 34, 35, 36, 37, 38, 39, 40, 41, 42, 43, 44, 45, 46] rfl (by decide) (by intro d hd; simp at hd ⊢; omega)
          (fun i v _ => v = ([ball a0 a1, ball a0 a1, .bool false, .bool false, ball a0 a1, ball b0 b1, .bool true, .bool true, ball a0 a1, ball b0 b1, .bool false, ball b0 b1, ball a0 a1, .bool true, .bool false, .bool false, .bool false, .bool false, ball a0 a1, ball b0 b1, .bool false, .bool false, undef, undef, undef, .bool false, .bool false, undef, undef, undef, undef, .bool false, .bool false] : List Value).getD i undef)
          (fun _ _ _ _ _ h => h) (by kernel_rfl) ?stepb ?finb
        case stepb =>
          intro vals
          simp only [frOf, fill, List.setIfInBounds_toArray, List.set_cons_succ, List.set_cons_zero]
          repeat' (first | exact AllOps.nil | refine AllOps.cons ?_ ?_)
          all_goals
            intro wx hle he K' hK
            simp only [Act.put, List.setIfInBounds_toArray, List.set_cons_succ, List.set_cons_zero, List.getD_cons_zero, List.getD_cons_succ] at hK
            simp only [List.mem_cons, List.not_mem_nil, or_false, forall_eq_or_imp, forall_eq, Region.binds, forall_const, false_imp_iff, List.getD_cons_zero, List.getD_cons_succ] at he
            try simp only [he] at hK ⊢
            have hl5 := Fr.trans (Fr.drew (Fr.refl (fun _ => False) w1)) hle (fun _ _ h => h)
            have hl8 := Lib.hid hl5
            obtain ⟨c00, c01⟩ := ba_cells (crow_kept Q1.out.1 hl5 (fun h => h))
            obtain ⟨c10, c11⟩ := ba_cells (crow_kept Q1.out.2.1 hl5 (fun h => h))
            obtain ⟨c20, c21⟩ := ba_cells (crow_kept Q1.out.2.2 hl5 (fun h => h))
            have heq := HN.out
            clear hl5 hle he
            try go_simp
          all_goals first
            | exact hK _ _ (Fr.refl _ _) rfl
            | skip
          · go_at_call 23; refine (less_any a0 a1 a0 a1 _).mono ?_; rintro e1 wa ⟨rfl, fa⟩; rw [blt_irrefl]; exact hK _ _ fa rfl
          · go_at_call 23; refine (less_any a0 a1 b0 b1 _).mono ?_; rintro e1 wa ⟨rfl, fa⟩; rw [HAB.out]; exact hK _ _ fa rfl
          · go_at_call 23; refine (less_any b0 b1 a0 a1 _).mono ?_; rintro e1 wa ⟨rfl, fa⟩; rw [HBA.out]; exact hK _ _ fa rfl
          · go_at_call 23; refine (less_any a0 a1 b0 b1 _).mono ?_; rintro e1 wa ⟨rfl, fa⟩; rw [HAB.out]; exact hK _ _ fa rfl
        case finb =>
          intro vals w' hle hV
          have h9 : vals 32 = .bool false := hV 32 (by decide)
          clear hV
          have hfin := Fr.trans (Fr.drew (Fr.refl (fun _ => False) w1)) hle (fun _ _ h => h)
          clear hle
          simp only [frOf, fill, List.setIfInBounds_toArray, List.set_cons_succ, List.set_cons_zero, Nat.reduceAdd]
          go_wp2_with fail
          go_meet
          exact ⟨h9, hfin⟩

      | true =>
        have HAB := Lib.hid hL
        have HBA : Hid (blt b0 b1 a0 a1 = false) := Lib.hid (by rw [hT, hL]; rfl)
        clear hT
        cases hM : blt b0 b1 c0 c1 with
        | false =>
          have HBC := Lib.hid hM
          clear hM hL
          refine wp_region_told (by kernel_rfl) (fun a b => Fr (fun _ => False) a b) (fun w => Fr.refl _ w) (fun _ _ _ h k => h.trans k (fun _ _ h => h)) [14, 15, 16, 17, 18, 19, 20, 21, 22, 23, 24, 25, 26, 27, 28, 29, 30, 31, 32, 33, 34, 35, 36, 37, 38, 39, 40, 41, 42, 43, 44, 45, 46] rfl (by decide) (by intro d hd; simp at hd ⊢; omega)
            (fun i v _ => v = ([ball a0 a1, ball a0 a1, .bool false, .bool false, ball a0 a1, ball b0 b1, .bool true, .bool true, ball a0 a1, ball b0 b1, .bool true, ball b0 b1, ball a0 a1, .bool false, .bool false, .bool false, .bool false, .bool false, ball a0 a1, ball b0 b1, .bool true, .bool true, ball b0 b1, ball c0 c1, .bool false, .bool false, .bool false, undef, undef, undef, undef, .bool false, .bool false] : List Value).getD i undef)
            (fun _ _ _ _ _ h => h) (by kernel_rfl) ?stepc ?finc
          case stepc =>
            intro vals
            simp only [frOf, fill, List.setIfInBounds_toArray, List.set_cons_succ, List.set_cons_zero]
            repeat' (first | exact AllOps.nil | refine AllOps.cons ?_ ?_)
            all_goals
              intro wx hle he K' hK
              simp only [Act.put, List.setIfInBounds_toArray, List.set_cons_succ, List.set_cons_zero, List.getD_cons_zero, List.getD_cons_succ] at hK
              simp only [List.mem_cons, List.not_mem_nil, or_false, forall_eq_or_imp, forall_eq, Region.binds, forall_const, false_imp_iff, List.getD_cons_zero, List.getD_cons_succ] at he
              try simp only [he] at hK ⊢
              have hl5 := Fr.trans (Fr.drew (Fr.refl (fun _ => False) w1)) hle (fun _ _ h => h)
              have hl8 := Lib.hid hl5
              obtain ⟨c00, c01⟩ := ba_cells (crow_kept Q1.out.1 hl5 (fun h => h))
              obtain ⟨c10, c11⟩ := ba_cells (crow_kept Q1.out.2.1 hl5 (fun h => h))
              obtain ⟨c20, c21⟩ := ba_cells (crow_kept Q1.out.2.2 hl5 (fun h => h))
              have heq := HN.out
              clear hl5 hle he
              try go_simp
            all_goals first
              | exact hK _ _ (Fr.refl _ _) rfl
              | skip
            · go_at_call 23; refine (less_any a0 a1 a0 a1 _).mono ?_; rintro e1 wa ⟨rfl, fa⟩; rw [blt_irrefl]; exact hK _ _ fa rfl
            · go_at_call 23; refine (less_any a0 a1 b0 b1 _).mono ?_; rintro e1 wa ⟨rfl, fa⟩; rw [HAB.out]; exact hK _ _ fa rfl
            · go_at_call 23; refine (less_any b0 b1 a0 a1 _).mono ?_; rintro e1 wa ⟨rfl, fa⟩; rw [HBA.out]; exact hK _ _ fa rfl
            · go_at_call 23; refine (less_any a0 a1 b0 b1 _).mono ?_; rintro e1 wa ⟨rfl, fa⟩; rw [HAB.out]; exact hK _ _ fa rfl
            · go_at_call 23; refine (less_any b0 b1 c0 c1 _).mono ?_; rintro e1 wa ⟨rfl, fa⟩; rw [HBC.out]; exact hK _ _ fa rfl
          case finc =>
            intro vals w' hle hV
            have h9 : vals 32 = .bool false := hV 32 (by decide)
            clear hV
            have hfin := Fr.trans (Fr.drew (Fr.refl (fun _ => False) w1)) hle (fun _ _ h => h)
            clear hle
            simp only [frOf, fill, List.setIfInBounds_toArray, List.set_cons_succ, List.set_cons_zero, Nat.reduceAdd]
            go_wp2_with fail
            go_meet
            exact ⟨h9, hfin⟩

        | true =>
          have HBC := Lib.hid hM
          have HAC := Lib.hid (blt_trans hL hM)
          clear hM hL
          refine wp_region_told (by kernel_rfl) (fun a b => Fr (fun _ => False) a b) (fun w => Fr.refl _ w) (fun _ _ _ h k => h.trans k (fun _ _ h => h)) [14, 15, 16, 17, 18, 19, 20, 21, 22, 23, 24, 25, 26, 27, 28, 29, 30, 31, 32, 33, 34, 35, 36, 37, 38, 39, 40, 41, 42, 43, 44, 45, 46] rfl (by decide) (by intro d hd; simp at hd ⊢; omega)
            (fun i v _ => v = ([ball a0 a1, ball a0 a1, .bool false, .bool false, ball a0 a1, ball b0 b1, .bool true, .bool true, ball a0 a1, ball b0 b1, .bool true, ball b0 b1, ball a0 a1, .bool false, .bool false, .bool false, .bool false, .bool false, ball a0 a1, ball b0 b1, .bool true, .bool true, ball b0 b1, ball c0 c1, .bool true, .bool true, .bool true, ball a0 a1, ball c0 c1, .bool true, .bool false, .bool false, .bool false] : List Value).getD i undef)
            (fun _ _ _ _ _ h => h) (by kernel_rfl) ?stepd ?find
          case stepd =>
            intro vals
            simp only [frOf, fill, List.setIfInBounds_toArray, List.set_cons_succ, List.set_cons_zero]
            repeat' (first | exact AllOps.nil | refine AllOps.cons ?_ ?_)
            all_goals
              intro wx hle he K' hK
              simp only [Act.put, List.setIfInBounds_toArray, List.set_cons_succ, List.set_cons_zero, List.getD_cons_zero, List.getD_cons_succ] at hK
              simp only [List.mem_cons, List.not_mem_nil, or_false, forall_eq_or_imp, forall_eq, Region.binds, forall_const, false_imp_iff, List.getD_cons_zero, List.getD_cons_succ] at he
              try simp only [he] at hK ⊢
              have hl5 := Fr.trans (Fr.drew (Fr.refl (fun _ => False) w1)) hle (fun _ _ h => h)
              have hl8 := Lib.hid hl5
              obtain ⟨c00, c01⟩ := ba_cells (crow_kept Q1.out.1 hl5 (fun h => h))
              obtain ⟨c10, c11⟩ := ba_cells (crow_kept Q1.out.2.1 hl5 (fun h => h))
              obtain ⟨c20, c21⟩ := ba_cells (crow_kept Q1.out.2.2 hl5 (fun h => h))
              have heq := HN.out
              clear hl5 hle he
              try go_simp
            all_goals first
              | exact hK _ _ (Fr.refl _ _) rfl
              | skip
            · go_at_call 23; refine (less_any a0 a1 a0 a1 _).mono ?_; rintro e1 wa ⟨rfl, fa⟩; rw [blt_irrefl]; exact hK _ _ fa rfl
            · go_at_call 23; refine (less_any a0 a1 b0 b1 _).mono ?_; rintro e1 wa ⟨rfl, fa⟩; rw [HAB.out]; exact hK _ _ fa rfl
            · go_at_call 23; refine (less_any b0 b1 a0 a1 _).mono ?_; rintro e1 wa ⟨rfl, fa⟩; rw [HBA.out]; exact hK _ _ fa rfl
            · go_at_call 23; refine (less_any a0 a1 b0 b1 _).mono ?_; rintro e1 wa ⟨rfl, fa⟩; rw [HAB.out]; exact hK _ _ fa rfl
            · go_at_call 23; refine (less_any b0 b1 c0 c1 _).mono ?_; rintro e1 wa ⟨rfl, fa⟩; rw [HBC.out]; exact hK _ _ fa rfl
            · go_at_call 23; refine (less_any a0 a1 c0 c1 _).mono ?_; rintro e1 wa ⟨rfl, fa⟩; rw [HAC.out]; exact hK _ _ fa rfl
          case find =>
            intro vals w' hle hV
            have h9 : vals 32 = .bool false := hV 32 (by decide)
            clear hV
            have hfin := Fr.trans (Fr.drew (Fr.refl (fun _ => False) w1)) hle (fun _ _ h => h)
            clear hle
            simp only [frOf, fill, List.setIfInBounds_toArray, List.set_cons_succ, List.set_cons_zero, Nat.reduceAdd]
            go_wp2_with fail
            go_meet
            exact ⟨h9, hfin⟩

  case rest =>
    obtain ⟨rfl, hwx⟩ := hcut
    have Q2 := Lib.hid (And.intro (crow_kept Q1.out.1 hwx (fun h => h)) (And.intro (crow_kept Q1.out.2.1 hwx (fun h => h)) (crow_kept Q1.out.2.2 hwx (fun h => h))))
    have F2 := Lib.hid (F1.out.trans hwx (fun _ _ h => h))
    clear hwx Q1 F1 HE
    obtain ⟨c00, c01⟩ := ba_cells Q2.out.1
    go_wp2_with fail
    refine (promise_nil a0 a1 wc).mono ?_
    rintro e w3 ⟨rfl, f3⟩
    have f4 : Fr (fun _ => False) w3 ((w3.alloc (oBa 0 0)).alloc (oEn 0 0 0 0 nilS nilS)) := ((Fr.refl _ _).alloc _).alloc _
    have f5 := f3.trans f4 (fun _ _ h => h)
    have Q3 := Lib.hid (And.intro (crow_kept Q2.out.1 f5 (fun h => h)) (crow_kept Q2.out.2.1 f5 (fun h => h)))
    have F3 := Lib.hid (F2.out.trans f5 (fun _ _ h => h))
    clear f3 f4 f5 Q2 F2 c00 c01
    go_upto_region 7 with fail
    generalize (w3.alloc (oBa 0 0)).alloc (oEn 0 0 0 0 nilS nilS) = w4 at *
    generalize w3.heap.size = g3 at *
    by_cases hD : a0 < b0
    · have HAB : Hid (blt a0 a1 b0 b1 = true) := Lib.hid (by rw [blt_iff]; exact .inl hD)
      have HD : Hid (decide (a0 < b0) = true) := Lib.hid (by simp [hD])
      clear hD
      refine wp_region_told (by kernel_rfl) (fun a b => Fr (fun _ => False) a b) (fun w => Fr.refl _ w) (fun _ _ _ h k => h.trans k (fun _ _ h => h)) [55, 56, 57, 58, 59, 60, 61, 62, 63, 64, 65, 66, 67, 68, 69, 70, 71, 72, 73, 74, 75, 76, 77, 78, 79, 80, 81, 82, 83, 84, 85, 86, 87, 88, 89, 90, 91, 92, 93, 94, 6] rfl (by decide) (by intro d hd; simp at hd ⊢; omega)
        (fun i v _ => v = ([.bool false, .bool true, .bool true, .pointer none, ball a0 a1, eZ, .bool false, .bool true, .bool true, .bool true, .pointer none, ball 0 0, ball 0 0, .bool true, .bool true, .bool true, ball a0 a1, ball b0 b1, .bool true, .pointer (some ⟨g0, 0, none⟩), .int .i64 a0, .pointer (some ⟨g1, 0, none⟩), .int .i64 b0, .bool true, .bool true, undef, undef, undef, undef, undef, undef, undef, undef, undef, undef, undef, undef, .bool true, .bool true, .bool true, .bool true] : List Value).getD i undef)
        (fun _ _ _ _ _ h => h) (by kernel_rfl) ?stepe ?fine
      case stepe =>
        intro vals
        simp only [frOf, fill, List.setIfInBounds_toArray, List.set_cons_succ, List.set_cons_zero]
        repeat' (first | exact AllOps.nil | refine AllOps.cons ?_ ?_)
        all_goals
          intro wx hle he K' hK
          simp only [Act.put, List.setIfInBounds_toArray, List.set_cons_succ, List.set_cons_zero, List.getD_cons_zero, List.getD_cons_succ] at hK
          simp only [List.mem_cons, List.not_mem_nil, or_false, forall_eq_or_imp, forall_eq, Region.binds, forall_const, false_imp_iff, List.getD_cons_zero, List.getD_cons_succ] at he
          try simp only [he] at hK ⊢
          have hl5 := Fr.trans (Fr.drew (Fr.refl (fun _ => False) w4)) hle (fun _ _ h => h)
          have hl8 := Lib.hid hl5
          obtain ⟨c00, c01⟩ := ba_cells (crow_kept Q3.out.1 hl5 (fun h => h))
          obtain ⟨c10, c11⟩ := ba_cells (crow_kept Q3.out.2 hl5 (fun h => h))
          have hD := HD.out
          clear hl5 hle he
          try go_simp
        all_goals first
          | exact hK _ _ (Fr.refl _ _) rfl
          | skip
        · go_at_call 20; refine (accept_nil a0 a1 _).mono ?_; rintro e1 wa ⟨rfl, fa⟩; exact hK _ _ fa rfl
        · go_at_call 22; refine (promised_nil _).mono ?_; rintro e1 wa ⟨rfl, fa⟩; exact hK _ _ fa rfl
        · go_at_call 23; refine (less_any a0 a1 b0 b1 _).mono ?_; rintro e1 wa ⟨rfl, fa⟩; rw [HAB.out]; exact hK _ _ fa rfl
      case fine =>
        intro vals w' hle hV
        have h9 : vals 40 = .bool true := hV 40 (by decide)
        clear hV
        have hfin := Lib.hid (F3.out.trans (Fr.trans (Fr.drew (Fr.refl (fun _ => False) w4)) hle (fun _ _ h => h)) (fun _ _ h => h))
        clear hle
        simp only [frOf, fill, List.setIfInBounds_toArray, List.set_cons_succ, List.set_cons_zero, Nat.reduceAdd]
        simp only [h9]
        clear h9
        go_wp2_with fail
        go_ret
        exact ⟨rfl, hfin.out⟩

    · by_cases hE : a0 = b0
      · have HD : Hid (decide (a0 < b0) = false) := Lib.hid (by simp [hD])
        have HE : Hid ((a0 == b0) = true) := Lib.hid (by simp [hE])
        by_cases hF : a1 < b1
        · have HAB : Hid (blt a0 a1 b0 b1 = true) := Lib.hid (by rw [blt_iff]; exact .inr ⟨hE, hF⟩)
          have HF : Hid (decide (a1 < b1) = true) := Lib.hid (by simp [hF])
          clear hD hE hF
          refine wp_region_told (by kernel_rfl) (fun a b => Fr (fun _ => False) a b) (fun w => Fr.refl _ w) (fun _ _ _ h k => h.trans k (fun _ _ h => h)) [55, 56, 57, 58, 59, 60, 61, 62, 63, 64, 65, 66, 67, 68, 69, 70, 71, 72, 73, 74, 75, 76, 77, 78, 79, 80, 81, 82, 83, 84, 85, 86, 87, 88, 89, 90, 91, 92, 93, 94, 6] rfl (by decide) (by intro d hd; simp at hd ⊢; omega)
            (fun i v _ => v = ([.bool false, .bool true, .bool true, .pointer none, ball a0 a1, eZ, .bool false, .bool true, .bool true, .bool true, .pointer none, ball 0 0, ball 0 0, .bool true, .bool true, .bool true, ball a0 a1, ball b0 b1, .bool true, .pointer (some ⟨g0, 0, none⟩), .int .i64 a0, .pointer (some ⟨g1, 0, none⟩), .int .i64 b0, .bool false, .bool false, .pointer (some ⟨g0, 0, none⟩), .int .i64 a0, .pointer (some ⟨g1, 0, none⟩), .int .i64 b0, .bool true, .bool true, .pointer (some ⟨g0, 1, none⟩), .int .i64 a1, .pointer (some ⟨g1, 1, none⟩), .int .i64 b1, .bool true, .bool true, .bool true, .bool true, .bool true, .bool true] : List Value).getD i undef)
            (fun _ _ _ _ _ h => h) (by kernel_rfl) ?stepf ?finf
          case stepf =>
            intro vals
            simp only [frOf, fill, List.setIfInBounds_toArray, List.set_cons_succ, List.set_cons_zero]
            repeat' (first | exact AllOps.nil | refine AllOps.cons ?_ ?_)
            all_goals
              intro wx hle he K' hK
              simp only [Act.put, List.setIfInBounds_toArray, List.set_cons_succ, List.set_cons_zero, List.getD_cons_zero, List.getD_cons_succ] at hK
              simp only [List.mem_cons, List.not_mem_nil, or_false, forall_eq_or_imp, forall_eq, Region.binds, forall_const, false_imp_iff, List.getD_cons_zero, List.getD_cons_succ] at he
              try simp only [he] at hK ⊢
              have hl5 := Fr.trans (Fr.drew (Fr.refl (fun _ => False) w4)) hle (fun _ _ h => h)
              have hl8 := Lib.hid hl5
              obtain ⟨c00, c01⟩ := ba_cells (crow_kept Q3.out.1 hl5 (fun h => h))
              obtain ⟨c10, c11⟩ := ba_cells (crow_kept Q3.out.2 hl5 (fun h => h))
              have hD := HD.out
              have hE := HE.out
              have hF := HF.out
              clear hl5 hle he
              try go_simp
            all_goals first
              | exact hK _ _ (Fr.refl _ _) rfl
              | skip
            · go_at_call 20; refine (accept_nil a0 a1 _).mono ?_; rintro e1 wa ⟨rfl, fa⟩; exact hK _ _ fa rfl
            · go_at_call 22; refine (promised_nil _).mono ?_; rintro e1 wa ⟨rfl, fa⟩; exact hK _ _ fa rfl
            · go_at_call 23; refine (less_any a0 a1 b0 b1 _).mono ?_; rintro e1 wa ⟨rfl, fa⟩; rw [HAB.out]; exact hK _ _ fa rfl
          case finf =>
            intro vals w' hle hV
            have h9 : vals 40 = .bool true := hV 40 (by decide)
            clear hV
            have hfin := Lib.hid (F3.out.trans (Fr.trans (Fr.drew (Fr.refl (fun _ => False) w4)) hle (fun _ _ h => h)) (fun _ _ h => h))
            clear hle
            simp only [frOf, fill, List.setIfInBounds_toArray, List.set_cons_succ, List.set_cons_zero, Nat.reduceAdd]
            simp only [h9]
            clear h9
            go_wp2_with fail
            go_ret
            exact ⟨rfl, hfin.out⟩

        · have HAB : Hid (blt a0 a1 b0 b1 = false) := Lib.hid (by unfold blt; rw [if_pos hE]; simp [hF])
          have HF : Hid (decide (a1 < b1) = false) := Lib.hid (by simp [hF])
          clear hD hE hF
          refine wp_region_told (by kernel_rfl) (fun a b => Fr (fun _ => False) a b) (fun w => Fr.refl _ w) (fun _ _ _ h k => h.trans k (fun _ _ h => h)) [55, 56, 57, 58, 59, 60, 61, 62, 63, 64, 65, 66, 67, 68, 69, 70, 71, 72, 73, 74, 75, 76, 77, 78, 79, 80, 81, 82, 83, 84, 85, 86, 87, 88, 89, 90, 91, 92, 93, 94, 6] rfl (by decide) (by intro d hd; simp at hd ⊢; omega)
            (fun i v _ => v = ([.bool false, .bool true, .bool true, .pointer none, ball a0 a1, eZ, .bool false, .bool true, .bool true, .bool true, .pointer none, ball 0 0, ball 0 0, .bool true, .bool true, .bool true, ball a0 a1, ball b0 b1, .bool false, .pointer (some ⟨g0, 0, none⟩), .int .i64 a0, .pointer (some ⟨g1, 0, none⟩), .int .i64 b0, .bool false, .bool false, .pointer (some ⟨g0, 0, none⟩), .int .i64 a0, .pointer (some ⟨g1, 0, none⟩), .int .i64 b0, .bool true, .bool true, .pointer (some ⟨g0, 1, none⟩), .int .i64 a1, .pointer (some ⟨g1, 1, none⟩), .int .i64 b1, .bool false, .bool false, .bool false, .bool true, .bool true, .bool true] : List Value).getD i undef)
            (fun _ _ _ _ _ h => h) (by kernel_rfl) ?stepg ?fing
          case stepg =>
            intro vals
            simp only [frOf, fill, List.setIfInBounds_toArray, List.set_cons_succ, List.set_cons_zero]
            repeat' (first | exact AllOps.nil | refine AllOps.cons ?_ ?_)
            all_goals
              intro wx hle he K' hK
              simp only [Act.put, List.setIfInBounds_toArray, List.set_cons_succ, List.set_cons_zero, List.getD_cons_zero, List.getD_cons_succ] at hK
              simp only [List.mem_cons, List.not_mem_nil, or_false, forall_eq_or_imp, forall_eq, Region.binds, forall_const, false_imp_iff, List.getD_cons_zero, List.getD_cons_succ] at he
              try simp only [he] at hK ⊢
              have hl5 := Fr.trans (Fr.drew (Fr.refl (fun _ => False) w4)) hle (fun _ _ h => h)
              have hl8 := Lib.hid hl5
              obtain ⟨c00, c01⟩ := ba_cells (crow_kept Q3.out.1 hl5 (fun h => h))
              obtain ⟨c10, c11⟩ := ba_cells (crow_kept Q3.out.2 hl5 (fun h => h))
              have hD := HD.out
              have hE := HE.out
              have hF := HF.out
              clear hl5 hle he
              try go_simp
            all_goals first
              | exact hK _ _ (Fr.refl _ _) rfl
              | skip
            · go_at_call 20; refine (accept_nil a0 a1 _).mono ?_; rintro e1 wa ⟨rfl, fa⟩; exact hK _ _ fa rfl
            · go_at_call 22; refine (promised_nil _).mono ?_; rintro e1 wa ⟨rfl, fa⟩; exact hK _ _ fa rfl
            · go_at_call 23; refine (less_any a0 a1 b0 b1 _).mono ?_; rintro e1 wa ⟨rfl, fa⟩; rw [HAB.out]; exact hK _ _ fa rfl
          case fing =>
            intro vals w' hle hV
            have h9 : vals 40 = .bool true := hV 40 (by decide)
            clear hV
            have hfin := Lib.hid (F3.out.trans (Fr.trans (Fr.drew (Fr.refl (fun _ => False) w4)) hle (fun _ _ h => h)) (fun _ _ h => h))
            clear hle
            simp only [frOf, fill, List.setIfInBounds_toArray, List.set_cons_succ, List.set_cons_zero, Nat.reduceAdd]
            simp only [h9]
            clear h9
            go_wp2_with fail
            go_ret
            exact ⟨rfl, hfin.out⟩

      · have HAB : Hid (blt a0 a1 b0 b1 = false) := Lib.hid (by unfold blt; rw [if_neg hE]; simp [hD])
        have HD : Hid (decide (a0 < b0) = false) := Lib.hid (by simp [hD])
        have HE : Hid ((a0 == b0) = false) := Lib.hid (by simp [hE])
        clear hD hE
        refine wp_region_told (by kernel_rfl) (fun a b => Fr (fun _ => False) a b) (fun w => Fr.refl _ w) (fun _ _ _ h k => h.trans k (fun _ _ h => h)) [55, 56, 57, 58, 59, 60, 61, 62, 63, 64, 65, 66, 67, 68, 69, 70, 71, 72, 73, 74, 75, 76, 77, 78, 79, 80, 81, 82, 83, 84, 85, 86, 87, 88, 89, 90, 91, 92, 93, 94, 6] rfl (by decide) (by intro d hd; simp at hd ⊢; omega)
          (fun i v _ => v = ([.bool false, .bool true, .bool true, .pointer none, ball a0 a1, eZ, .bool false, .bool true, .bool true, .bool true, .pointer none, ball 0 0, ball 0 0, .bool true, .bool true, .bool true, ball a0 a1, ball b0 b1, .bool false, .pointer (some ⟨g0, 0, none⟩), .int .i64 a0, .pointer (some ⟨g1, 0, none⟩), .int .i64 b0, .bool false, .bool false, .pointer (some ⟨g0, 0, none⟩), .int .i64 a0, .pointer (some ⟨g1, 0, none⟩), .int .i64 b0, .bool false, .bool false, undef, undef, undef, undef, undef, .bool false, .bool false, .bool true, .bool true, .bool true] : List Value).getD i undef)
          (fun _ _ _ _ _ h => h) (by kernel_rfl) ?steph ?finh
        case steph =>
          intro vals
          simp only [frOf, fill, List.setIfInBounds_toArray, List.set_cons_succ, List.set_cons_zero]
          repeat' (first | exact AllOps.nil | refine AllOps.cons ?_ ?_)
          all_goals
            intro wx hle he K' hK
            simp only [Act.put, List.setIfInBounds_toArray, List.set_cons_succ, List.set_cons_zero, List.getD_cons_zero, List.getD_cons_succ] at hK
            simp only [List.mem_cons, List.not_mem_nil, or_false, forall_eq_or_imp, forall_eq, Region.binds, forall_const, false_imp_iff, List.getD_cons_zero, List.getD_cons_succ] at he
            try simp only [he] at hK ⊢
            have hl5 := Fr.trans (Fr.drew (Fr.refl (fun _ => False) w4)) hle (fun _ _ h => h)
            have hl8 := Lib.hid hl5
            obtain ⟨c00, c01⟩ := ba_cells (crow_kept Q3.out.1 hl5 (fun h => h))
            obtain ⟨c10, c11⟩ := ba_cells (crow_kept Q3.out.2 hl5 (fun h => h))
            have hD := HD.out
            have hE := HE.out
            clear hl5 hle he
            try go_simp
          all_goals first
            | exact hK _ _ (Fr.refl _ _) rfl
            | skip
          · go_at_call 20; refine (accept_nil a0 a1 _).mono ?_; rintro e1 wa ⟨rfl, fa⟩; exact hK _ _ fa rfl
          · go_at_call 22; refine (promised_nil _).mono ?_; rintro e1 wa ⟨rfl, fa⟩; exact hK _ _ fa rfl
          · go_at_call 23; refine (less_any a0 a1 b0 b1 _).mono ?_; rintro e1 wa ⟨rfl, fa⟩; rw [HAB.out]; exact hK _ _ fa rfl
        case finh =>
          intro vals w' hle hV
          have h9 : vals 40 = .bool true := hV 40 (by decide)
          clear hV
          have hfin := Lib.hid (F3.out.trans (Fr.trans (Fr.drew (Fr.refl (fun _ => False) w4)) hle (fun _ _ h => h)) (fun _ _ h => h))
          clear hle
          simp only [frOf, fill, List.setIfInBounds_toArray, List.set_cons_succ, List.set_cons_zero, Nat.reduceAdd]
          simp only [h9]
          clear h9
          go_wp2_with fail
          go_ret
          exact ⟨rfl, hfin.out⟩
