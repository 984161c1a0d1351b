/-
  What ChOnce rests on, part 7: Chair, Chair2, Chair3.
-/
import Derived.Test.YtcjfinabffpgkaaS06
import Derived.Test.YtcjfinabffpgkaaS03
import Derived.BigRegion
set_option linter.unusedVariables false
set_option linter.unusedSimpArgs false
set_option maxHeartbeats 64000000
namespace Go.Proofs.Ytcjfinabffpgkaa
open Go.RowKit
open Go.Lib (hid)
section
set_option maxRecDepth 100000

/-- The chair's block. -/
abbrev oCh (mv : Value) (ph br bn k t n p : Int) (v u : Value) (gr gn : Int) (rep : Bool) (hv : Value) : Obj :=
  Obj.cells #[.int .i64 0, mv, .int .u8 ph, .int .i64 br, .int .i64 bn, .int .u8 k, .int .u16 t, .int .u16 n, .int .i64 p, v, u, .int .i64 gr, .int .i64 gn, .bool rep, hv] 72 (0, 0)

/-- What a chair holds. -/
structure ChN where
  ph : Int
  br : Int
  bn : Int
  x : En
  gr : Int
  gn : Int
  rep : Bool
  h : List Int

abbrev ChN.obj (st : ChN) (mv v u hv : Value) : Obj := oCh mv st.ph st.br st.bn st.x.k st.x.t st.x.n st.x.p v u st.gr st.gn st.rep hv

theorem ch_cells {w : World} {g : Nat} {mv : Value} {ph br bn k t n p : Int} {v u : Value} {gr gn : Int} {rep : Bool} {hv : Value} (h : w.heap[g]? = some (oCh mv ph br bn k t n p v u gr gn rep hv)) :
    w.cell? ⟨g, 0, none⟩ = some (.int .i64 0) ∧ w.cell? ⟨g, 1, none⟩ = some mv ∧ w.cell? ⟨g, 2, none⟩ = some (.int .u8 ph) ∧ w.cell? ⟨g, 3, none⟩ = some (.int .i64 br) ∧ w.cell? ⟨g, 4, none⟩ = some (.int .i64 bn) ∧
    w.cell? ⟨g, 5, none⟩ = some (.int .u8 k) ∧ w.cell? ⟨g, 6, none⟩ = some (.int .u16 t) ∧ w.cell? ⟨g, 7, none⟩ = some (.int .u16 n) ∧ w.cell? ⟨g, 8, none⟩ = some (.int .i64 p) ∧ w.cell? ⟨g, 9, none⟩ = some v ∧ w.cell? ⟨g, 10, none⟩ = some u ∧
    w.cell? ⟨g, 11, none⟩ = some (.int .i64 gr) ∧ w.cell? ⟨g, 12, none⟩ = some (.int .i64 gn) ∧ w.cell? ⟨g, 13, none⟩ = some (.bool rep) ∧ w.cell? ⟨g, 14, none⟩ = some hv := by
  simp [World.cell?, h]

theorem chnew_any (a : Option Addr) (n c : Nat) (w : World) :
    Calls Try.prog 6 #[.agg #[.int .i64 0, .slice a n c]] w fun e w' => ∃ g, e = .returned (.pointer (some ⟨g, 0, none⟩)) ∧ w.heap.size ≤ g ∧ Fr (fun _ => False) w w' ∧
      w'.heap[g]? = some (oCh (.slice a n c) 0 0 0 0 0 0 0 nilS nilS 0 0 false nilS) := by
  have f0 : Fr (fun _ => False) w (w.alloc (oVw 0 a n c)) := (Fr.refl _ _).alloc _
  have F0 := Lib.hid f0
  have Q0 := Lib.hid (vw_cells (heap_alloc_new w (oVw 0 a n c)))
  clear f0
  go_enter Try.func6, Try.ntmps6
  go_upto_region 1 with fail
  generalize w.alloc (oVw 0 a n c) = w0 at *
  obtain ⟨q0, q1⟩ := Q0.out
  have HS := Lib.hid F0.out.size
  go_wp2_with fail
  go_ret
  refine ⟨_, rfl, HS.out, F0.out.alloc _, heap_alloc_new _ _⟩

theorem chphase_any (b : Nat) (mv : Value) (st : ChN) (v u hv : Value) (w : World) (h : w.heap[b]? = some (st.obj mv v u hv)) :
    Calls Try.prog 18 #[.pointer (some ⟨b, 0, none⟩)] w fun e w' => e = .returned (.int .u8 st.ph) ∧ w = w' := by
  obtain ⟨c0, c1, c2, c3, c4, c5, c6, c7, c8, c9, c10, c11, c12, c13, c14⟩ := ch_cells h
  clear c0 c1 c3 c4 c5 c6 c7 c8 c9 c10 c11 c12 c13 c14 h
  go_enter Try.func18, Try.ntmps18
  go_wp2_with fail
  go_ret
  exact ⟨rfl, rfl⟩

theorem chballot_any (b : Nat) (mv : Value) (st : ChN) (v u hv : Value) (w : World) (h : w.heap[b]? = some (st.obj mv v u hv)) :
    Calls Try.prog 9 #[.pointer (some ⟨b, 0, none⟩)] w fun e w' => e = .returned (ball st.br st.bn) ∧ Fr (fun _ => False) w w' := by
  have hlt : b < w.heap.size := (Array.getElem?_eq_some_iff.1 h).1
  have f0 : Fr (fun _ => False) w (w.alloc (oBa 0 0)) := (Fr.refl _ _).alloc _
  have q1 := heap_alloc_new w (oBa 0 0)
  have Q := Lib.hid (And.intro (crow_kept h f0 (fun h => h)) q1)
  have F := Lib.hid f0
  clear h f0 q1
  go_enter Try.func9, Try.ntmps9
  go_upto_region 1 with fail
  generalize w.alloc (oBa 0 0) = w0 at *
  obtain ⟨c0, c1, c2, c3, c4, c5, c6, c7, c8, c9, c10, c11, c12, c13, c14⟩ := ch_cells Q.out.1
  clear c0 c1 c2 c5 c6 c7 c8 c9 c10 c11 c12 c13 c14
  obtain ⟨b0, b1⟩ := ba_cells Q.out.2
  have y00 := vfree Q.out.2 0
  have y01 := vfree Q.out.2 1
  go_wp2_with fail
  have hq := cst2 (y0 := .int .i64 st.br) (y1 := .int .i64 st.bn) Q.out.2
  have hf := cfr2 (.int .i64 st.br) (.int .i64 st.bn) (b := w.heap.size) F.out (fun h => absurd h (by omega))
  refine bodyPost_ret (results_cell_row rfl _ _ w.heap.size 40 _ _ _ rfl hq Try.underlying40 rfl (by kernel_rfl)) rfl ?_
  exact ⟨rfl, hf⟩

/-- Whether something of n is to be recorded in phase p. -/
def expB (ms : List Int) (st : ChN) (p n r m : Int) : Bool := decide (st.ph = p) && (beq2 st.br st.bn r m && (decide (n ∈ ms) && !decide (n ∈ st.h)))

theorem expects_any (b : Nat) (ms : List Int) (ma ha : Option Addr) (mc hc : Nat) (st : ChN) (v u : Value) (p n r m : Int) (w : World) (h : w.heap[b]? = some (st.obj (.slice ma ms.length mc) v u (.slice ha st.h.length hc)))
    (hm : SIc w ma mc ms) (hh : SIc w ha hc st.h) (hml : ms.length ≤ 1000) (hhl : st.h.length ≤ 1000) :
    Calls Try.prog 21 #[.pointer (some ⟨b, 0, none⟩), .int .u8 p, .int .i64 n, ball r m] w fun e w' => e = .returned (.bool (expB ms st p n r m)) ∧ Fr (fun _ => False) w w' := by
  have f0 : Fr (fun _ => False) w (w.alloc (oBa r m)) := (Fr.refl _ _).alloc _
  have Q0 := Lib.hid (And.intro (crow_kept h f0 (fun h => h)) (heap_alloc_new w (oBa r m)))
  have F0 := Lib.hid f0
  have HM := Lib.hid (hm.fr f0)
  have HH := Lib.hid (hh.fr f0)
  have HEQ : Hid (∀ W, (Op.equalIn 10000 40 (.agg #[.int .i64 st.br, .int .i64 st.bn]) (.agg #[.int .i64 r, .int .i64 m])).run Try.prog W = .ok (beq2 st.br st.bn r m) W) := Lib.hid (fun W => ba_equal 9998 _ _ _ _ W)
  clear h f0 hm hh
  unfold expB
  by_cases h1 : st.ph = p
  case neg =>
    have hd : decide (st.ph = p) = false := by simp [h1]
    have hbq : (st.ph == p) = false := by simp [h1]
    rw [hd]
    clear hd h1
    simp only [Bool.false_and]
    have HE := HEQ
    · go_enter Try.func21, Try.ntmps21
      go_upto_region 1 with fail
      generalize w.alloc (oBa r m) = w0 at *
      generalize w.heap.size = gb at *
      refine wp_region_told (by kernel_rfl) (fun a b => Fr (fun _ => False) a b) (fun w => Fr.refl _ w) (fun _ _ _ h k => h.trans k (fun _ _ h => h)) [9, 10, 11, 12, 13, 14, 15, 16, 17, 18, 19, 20, 21, 22, 23, 24, 25, 26, 27, 28, 29, 30, 31, 32, 33, 34, 35, 36, 37, 8] rfl (by decide) (by intro d hd; simp at hd ⊢; omega)
        (fun i v _ => v = ([.pointer (some ⟨b, 0, none⟩), .int .u8 st.ph, .int .u8 p, .bool false, .bool false, undef, undef, undef, undef, undef, undef, .bool false, .bool false, undef, undef, undef, undef, undef, undef, .bool false, .bool false, undef, undef, undef, undef, undef, undef, undef, .bool false, .bool false] : List Value).getD i undef)
        (fun _ _ _ _ _ h => h) (by kernel_rfl) ?stepa ?fina
      case stepa =>
        intro vals
        simp only [frOf, fill, List.setIfInBounds_toArray, List.set_cons_succ, List.set_cons_zero]
        repeat' (first | exact AllOps.nil | refine AllOps.cons ?_ ?_)
        all_goals
          intro wx hle he K' hK
          simp only [Act.put, List.setIfInBounds_toArray, List.set_cons_succ, List.set_cons_zero, List.getD_cons_zero, List.getD_cons_succ] at hK
          simp only [List.mem_cons, List.not_mem_nil, or_false, forall_eq_or_imp, forall_eq, Region.binds, forall_const, false_imp_iff, List.getD_cons_zero, List.getD_cons_succ] at he
          try simp only [he] at hK ⊢
          have hl5 := Fr.trans (Fr.drew (Fr.refl (fun _ => False) w0)) hle (fun _ _ h => h)
          have HL := Lib.hid hl5
          obtain ⟨c0, c1, c2, c3, c4, c5, c6, c7, c8, c9, c10, c11, c12, c13, c14⟩ := ch_cells (crow_kept Q0.out.1 hl5 (fun h => h))
          obtain ⟨b0, b1⟩ := ba_cells (crow_kept Q0.out.2 hl5 (fun h => h))
          have heq := HE.out
          clear c2 c5 c6 c7 c8 c9 c10 c11 c12 c13
          clear hl5 hle he
          try go_simp
        all_goals first
          | exact hK _ _ (Fr.refl _ _) rfl
          | skip
        · go_at_call 18; refine (chphase_any b _ st v u _ _ (crow_kept Q0.out.1 HL.out (fun h => h))).mono ?_; rintro e1 wa ⟨rfl, rfl⟩; exact hK _ _ (Fr.refl _ _) rfl
      case fina =>
        intro vals w' hle hV
        have h9 : vals 29 = .bool false := hV 29 (by decide)
        clear hV
        have hfin := Lib.hid (F0.out.trans (Fr.trans (Fr.drew (Fr.refl (fun _ => False) w0)) hle (fun _ _ h => h)) (fun _ _ h => h))
        clear hle
        simp only [frOf, fill, List.setIfInBounds_toArray, List.set_cons_succ, List.set_cons_zero, Nat.reduceAdd]
        simp only [h9]
        clear h9
        go_wp2_with fail
        go_ret
        exact ⟨rfl, hfin.out⟩
  case pos =>
    have hd : decide (st.ph = p) = true := by simp [h1]
    rw [hd]
    simp only [Bool.true_and]
    have hbq : (st.ph == p) = true := by simp [h1]
    clear hd h1
    generalize beq2 st.br st.bn r m = e2 at *
    cases e2 with
    | false =>
      have HE := HEQ
      simp only [Bool.false_and]
      go_enter Try.func21, Try.ntmps21
      go_upto_region 1 with fail
      generalize w.alloc (oBa r m) = w0 at *
      generalize w.heap.size = gb at *
      refine wp_region_told (by kernel_rfl) (fun a b => Fr (fun _ => False) a b) (fun w => Fr.refl _ w) (fun _ _ _ h k => h.trans k (fun _ _ h => h)) [9, 10, 11, 12, 13, 14, 15, 16, 17, 18, 19, 20, 21, 22, 23, 24, 25, 26, 27, 28, 29, 30, 31, 32, 33, 34, 35, 36, 37, 8] rfl (by decide) (by intro d hd; simp at hd ⊢; omega)
        (fun i v _ => v = ([.pointer (some ⟨b, 0, none⟩), .int .u8 st.ph, .int .u8 p, .bool true, .bool true, .pointer (some ⟨b, 0, none⟩), .pointer (some ⟨b, 0, none⟩), .pointer (some ⟨b, 3, none⟩), ball st.br st.bn, ball r m, .bool false, .bool false, .bool false, undef, undef, undef, undef, undef, undef, .bool false, .bool false, undef, undef, undef, undef, undef, undef, undef, .bool false, .bool false] : List Value).getD i undef)
        (fun _ _ _ _ _ h => h) (by kernel_rfl) ?stepb ?finb
      case stepb =>
        intro vals
        simp only [frOf, fill, List.setIfInBounds_toArray, List.set_cons_succ, List.set_cons_zero]
        repeat' (first | exact AllOps.nil | refine AllOps.cons ?_ ?_)
        all_goals
          intro wx hle he K' hK
          simp only [Act.put, List.setIfInBounds_toArray, List.set_cons_succ, List.set_cons_zero, List.getD_cons_zero, List.getD_cons_succ] at hK
          simp only [List.mem_cons, List.not_mem_nil, or_false, forall_eq_or_imp, forall_eq, Region.binds, forall_const, false_imp_iff, List.getD_cons_zero, List.getD_cons_succ] at he
          try simp only [he] at hK ⊢
          have hl5 := Fr.trans (Fr.drew (Fr.refl (fun _ => False) w0)) hle (fun _ _ h => h)
          have HL := Lib.hid hl5
          obtain ⟨c0, c1, c2, c3, c4, c5, c6, c7, c8, c9, c10, c11, c12, c13, c14⟩ := ch_cells (crow_kept Q0.out.1 hl5 (fun h => h))
          obtain ⟨b0, b1⟩ := ba_cells (crow_kept Q0.out.2 hl5 (fun h => h))
          have heq := HE.out
          clear c2 c5 c6 c7 c8 c9 c10 c11 c12 c13
          clear hl5 hle he
          try go_simp
        all_goals first
          | exact hK _ _ (Fr.refl _ _) rfl
          | skip
        · go_at_call 18; refine (chphase_any b _ st v u _ _ (crow_kept Q0.out.1 HL.out (fun h => h))).mono ?_; rintro e1 wa ⟨rfl, rfl⟩; exact hK _ _ (Fr.refl _ _) rfl
      case finb =>
        intro vals w' hle hV
        have h9 : vals 29 = .bool false := hV 29 (by decide)
        clear hV
        have hfin := Lib.hid (F0.out.trans (Fr.trans (Fr.drew (Fr.refl (fun _ => False) w0)) hle (fun _ _ h => h)) (fun _ _ h => h))
        clear hle
        simp only [frOf, fill, List.setIfInBounds_toArray, List.set_cons_succ, List.set_cons_zero, Nat.reduceAdd]
        simp only [h9]
        clear h9
        go_wp2_with fail
        go_ret
        exact ⟨rfl, hfin.out⟩
    | true =>
      have HE := HEQ
      simp only [Bool.true_and]
      have H3 : Hid (decide (n ∈ ms) = decide (n ∈ ms)) := Lib.hid rfl
      generalize he3 : decide (n ∈ ms) = e3 at *
      have H3 := Lib.hid he3
      clear he3
      cases e3 with
      | false =>
        simp only [Bool.false_and]
        go_enter Try.func21, Try.ntmps21
        go_upto_region 1 with fail
        generalize w.alloc (oBa r m) = w0 at *
        generalize w.heap.size = gb at *
        refine wp_region_told (by kernel_rfl) (fun a b => Fr (fun _ => False) a b) (fun w => Fr.refl _ w) (fun _ _ _ h k => h.trans k (fun _ _ h => h)) [9, 10, 11, 12, 13, 14, 15, 16, 17, 18, 19, 20, 21, 22, 23, 24, 25, 26, 27, 28, 29, 30, 31, 32, 33, 34, 35, 36, 37, 8] rfl (by decide) (by intro d hd; simp at hd ⊢; omega)
          (fun i v _ => v = ([.pointer (some ⟨b, 0, none⟩), .int .u8 st.ph, .int .u8 p, .bool true, .bool true, .pointer (some ⟨b, 0, none⟩), .pointer (some ⟨b, 0, none⟩), .pointer (some ⟨b, 3, none⟩), ball st.br st.bn, ball r m, .bool true, .bool true, .bool true, .pointer (some ⟨b, 0, none⟩), .pointer (some ⟨b, 0, none⟩), .pointer (some ⟨b, 0, none⟩), .agg #[.int .i64 0, .slice ma ms.length mc], .int .i64 n, .bool false, .bool false, .bool false, undef, undef, undef, undef, undef, undef, undef, .bool false, .bool false] : List Value).getD i undef)
          (fun _ _ _ _ _ h => h) (by kernel_rfl) ?stepc ?finc
        case stepc =>
          intro vals
          simp only [frOf, fill, List.setIfInBounds_toArray, List.set_cons_succ, List.set_cons_zero]
          repeat' (first | exact AllOps.nil | refine AllOps.cons ?_ ?_)
          all_goals
            intro wx hle he K' hK
            simp only [Act.put, List.setIfInBounds_toArray, List.set_cons_succ, List.set_cons_zero, List.getD_cons_zero, List.getD_cons_succ] at hK
            simp only [List.mem_cons, List.not_mem_nil, or_false, forall_eq_or_imp, forall_eq, Region.binds, forall_const, false_imp_iff, List.getD_cons_zero, List.getD_cons_succ] at he
            try simp only [he] at hK ⊢
            have hl5 := Fr.trans (Fr.drew (Fr.refl (fun _ => False) w0)) hle (fun _ _ h => h)
            have HL := Lib.hid hl5
            obtain ⟨c0, c1, c2, c3, c4, c5, c6, c7, c8, c9, c10, c11, c12, c13, c14⟩ := ch_cells (crow_kept Q0.out.1 hl5 (fun h => h))
            obtain ⟨b0, b1⟩ := ba_cells (crow_kept Q0.out.2 hl5 (fun h => h))
            have heq := HE.out
            clear c2 c5 c6 c7 c8 c9 c10 c11 c12 c13
            clear hl5 hle he
            try go_simp
          all_goals first
            | exact hK _ _ (Fr.refl _ _) rfl
            | skip
          · go_at_call 18; refine (chphase_any b _ st v u _ _ (crow_kept Q0.out.1 HL.out (fun h => h))).mono ?_; rintro e1 wa ⟨rfl, rfl⟩; exact hK _ _ (Fr.refl _ _) rfl
          · go_at_call 28; refine (has_any 0 n ms ma mc _ (HM.out.fr HL.out) hml).mono ?_; rintro e1 wa ⟨rfl, fa⟩; rw [H3.out]; exact hK _ _ fa rfl
        case finc =>
          intro vals w' hle hV
          have h9 : vals 29 = .bool false := hV 29 (by decide)
          clear hV
          have hfin := Lib.hid (F0.out.trans (Fr.trans (Fr.drew (Fr.refl (fun _ => False) w0)) hle (fun _ _ h => h)) (fun _ _ h => h))
          clear hle
          simp only [frOf, fill, List.setIfInBounds_toArray, List.set_cons_succ, List.set_cons_zero, Nat.reduceAdd]
          simp only [h9]
          clear h9
          go_wp2_with fail
          go_ret
          exact ⟨rfl, hfin.out⟩
      | true =>
        simp only [Bool.true_and]
        generalize he4 : decide (n ∈ st.h) = e4 at *
        have H4 := Lib.hid he4
        clear he4
        cases e4 with
        | true =>
          simp only [Bool.not_true]
          go_enter Try.func21, Try.ntmps21
          go_upto_region 1 with fail
          generalize w.alloc (oBa r m) = w0 at *
          generalize w.heap.size = gb at *
          refine wp_region_told (by kernel_rfl) (fun a b => Fr (fun _ => False) a b) (fun w => Fr.refl _ w) (fun _ _ _ h k => h.trans k (fun _ _ h => h)) [9, 10, 11, 12, 13, 14, 15, 16, 17, 18, 19, 20, 21, 22, 23, 24, 25, 26, 27, 28, 29, 30, 31, 32, 33, 34, 35, 36, 37, 8] rfl (by decide) (by intro d hd; simp at hd ⊢; omega)
            (fun i v _ => v = ([.pointer (some ⟨b, 0, none⟩), .int .u8 st.ph, .int .u8 p, .bool true, .bool true, .pointer (some ⟨b, 0, none⟩), .pointer (some ⟨b, 0, none⟩), .pointer (some ⟨b, 3, none⟩), ball st.br st.bn, ball r m, .bool true, .bool true, .bool true, .pointer (some ⟨b, 0, none⟩), .pointer (some ⟨b, 0, none⟩), .pointer (some ⟨b, 0, none⟩), .agg #[.int .i64 0, .slice ma ms.length mc], .int .i64 n, .bool true, .bool true, .bool true, .pointer (some ⟨b, 0, none⟩), .pointer (some ⟨b, 0, none⟩), .pointer (some ⟨b, 14, none⟩), .slice ha st.h.length hc, .int .i64 n, .bool true, .bool false, .bool false, .bool false] : List Value).getD i undef)
            (fun _ _ _ _ _ h => h) (by kernel_rfl) ?stepd ?find
          case stepd =>
            intro vals
            simp only [frOf, fill, List.setIfInBounds_toArray, List.set_cons_succ, List.set_cons_zero]
            repeat' (first | exact AllOps.nil | refine AllOps.cons ?_ ?_)
            all_goals
              intro wx hle he K' hK
              simp only [Act.put, List.setIfInBounds_toArray, List.set_cons_succ, List.set_cons_zero, List.getD_cons_zero, List.getD_cons_succ] at hK
              simp only [List.mem_cons, List.not_mem_nil, or_false, forall_eq_or_imp, forall_eq, Region.binds, forall_const, false_imp_iff, List.getD_cons_zero, List.getD_cons_succ] at he
              try simp only [he] at hK ⊢
              have hl5 := Fr.trans (Fr.drew (Fr.refl (fun _ => False) w0)) hle (fun _ _ h => h)
              have HL := Lib.hid hl5
              obtain ⟨c0, c1, c2, c3, c4, c5, c6, c7, c8, c9, c10, c11, c12, c13, c14⟩ := ch_cells (crow_kept Q0.out.1 hl5 (fun h => h))
              obtain ⟨b0, b1⟩ := ba_cells (crow_kept Q0.out.2 hl5 (fun h => h))
              have heq := HE.out
              clear c2 c5 c6 c7 c8 c9 c10 c11 c12 c13
              clear hl5 hle he
              try go_simp
            all_goals first
              | exact hK _ _ (Fr.refl _ _) rfl
              | skip
            · go_at_call 18; refine (chphase_any b _ st v u _ _ (crow_kept Q0.out.1 HL.out (fun h => h))).mono ?_; rintro e1 wa ⟨rfl, rfl⟩; exact hK _ _ (Fr.refl _ _) rfl
            · go_at_call 28; refine (has_any 0 n ms ma mc _ (HM.out.fr HL.out) hml).mono ?_; rintro e1 wa ⟨rfl, fa⟩; rw [H3.out]; exact hK _ _ fa rfl
            · go_at_call 29; refine (contains_any st.h n ha hc _ (HH.out.fr HL.out) hhl).mono ?_; rintro e1 wa ⟨rfl, rfl⟩; rw [H4.out]; exact hK _ _ (Fr.refl _ _) rfl
          case find =>
            intro vals w' hle hV
            have h9 : vals 29 = .bool false := hV 29 (by decide)
            clear hV
            have hfin := Lib.hid (F0.out.trans (Fr.trans (Fr.drew (Fr.refl (fun _ => False) w0)) hle (fun _ _ h => h)) (fun _ _ h => h))
            clear hle
            simp only [frOf, fill, List.setIfInBounds_toArray, List.set_cons_succ, List.set_cons_zero, Nat.reduceAdd]
            simp only [h9]
            clear h9
            go_wp2_with fail
            go_ret
            exact ⟨rfl, hfin.out⟩
        | false =>
          simp only [Bool.not_false]
          go_enter Try.func21, Try.ntmps21
          go_upto_region 1 with fail
          generalize w.alloc (oBa r m) = w0 at *
          generalize w.heap.size = gb at *
          refine wp_region_told (by kernel_rfl) (fun a b => Fr (fun _ => False) a b) (fun w => Fr.refl _ w) (fun _ _ _ h k => h.trans k (fun _ _ h => h)) [9, 10, 11, 12, 13, 14, 15, 16, 17, 18, 19, 20, 21, 22, 23, 24, 25, 26, 27, 28, 29, 30, 31, 32, 33, 34, 35, 36, 37, 8] rfl (by decide) (by intro d hd; simp at hd ⊢; omega)
            (fun i v _ => v = ([.pointer (some ⟨b, 0, none⟩), .int .u8 st.ph, .int .u8 p, .bool true, .bool true, .pointer (some ⟨b, 0, none⟩), .pointer (some ⟨b, 0, none⟩), .pointer (some ⟨b, 3, none⟩), ball st.br st.bn, ball r m, .bool true, .bool true, .bool true, .pointer (some ⟨b, 0, none⟩), .pointer (some ⟨b, 0, none⟩), .pointer (some ⟨b, 0, none⟩), .agg #[.int .i64 0, .slice ma ms.length mc], .int .i64 n, .bool true, .bool true, .bool true, .pointer (some ⟨b, 0, none⟩), .pointer (some ⟨b, 0, none⟩), .pointer (some ⟨b, 14, none⟩), .slice ha st.h.length hc, .int .i64 n, .bool false, .bool true, .bool true, .bool true] : List Value).getD i undef)
            (fun _ _ _ _ _ h => h) (by kernel_rfl) ?stepe ?fine
          case stepe =>
            intro vals
            simp only [frOf, fill, List.setIfInBounds_toArray, List.set_cons_succ, List.set_cons_zero]
            repeat' (first | exact AllOps.nil | refine AllOps.cons ?_ ?_)
            all_goals
              intro wx hle he K' hK
              simp only [Act.put, List.setIfInBounds_toArray, List.set_cons_succ, List.set_cons_zero, List.getD_cons_zero, List.getD_cons_succ] at hK
              simp only [List.mem_cons, List.not_mem_nil, or_false, forall_eq_or_imp, forall_eq, Region.binds, forall_const, false_imp_iff, List.getD_cons_zero, List.getD_cons_succ] at he
              try simp only [he] at hK ⊢
              have hl5 := Fr.trans (Fr.drew (Fr.refl (fun _ => False) w0)) hle (fun _ _ h => h)
              have HL := Lib.hid hl5
              obtain ⟨c0, c1, c2, c3, c4, c5, c6, c7, c8, c9, c10, c11, c12, c13, c14⟩ := ch_cells (crow_kept Q0.out.1 hl5 (fun h => h))
              obtain ⟨b0, b1⟩ := ba_cells (crow_kept Q0.out.2 hl5 (fun h => h))
              have heq := HE.out
              clear c2 c5 c6 c7 c8 c9 c10 c11 c12 c13
              clear hl5 hle he
              try go_simp
            all_goals first
              | exact hK _ _ (Fr.refl _ _) rfl
              | skip
            · go_at_call 18; refine (chphase_any b _ st v u _ _ (crow_kept Q0.out.1 HL.out (fun h => h))).mono ?_; rintro e1 wa ⟨rfl, rfl⟩; exact hK _ _ (Fr.refl _ _) rfl
            · go_at_call 28; refine (has_any 0 n ms ma mc _ (HM.out.fr HL.out) hml).mono ?_; rintro e1 wa ⟨rfl, fa⟩; rw [H3.out]; exact hK _ _ fa rfl
            · go_at_call 29; refine (contains_any st.h n ha hc _ (HH.out.fr HL.out) hhl).mono ?_; rintro e1 wa ⟨rfl, rfl⟩; rw [H4.out]; exact hK _ _ (Fr.refl _ _) rfl
          case fine =>
            intro vals w' hle hV
            have h9 : vals 29 = .bool true := hV 29 (by decide)
            clear hV
            have hfin := Lib.hid (F0.out.trans (Fr.trans (Fr.drew (Fr.refl (fun _ => False) w0)) hle (fun _ _ h => h)) (fun _ _ h => h))
            clear hle
            simp only [frOf, fill, List.setIfInBounds_toArray, List.set_cons_succ, List.set_cons_zero, Nat.reduceAdd]
            simp only [h9]
            clear h9
            go_wp2_with fail
            go_ret
            exact ⟨rfl, hfin.out⟩
end
section
set_option maxRecDepth 100000

theorem cst15 {w : World} {b : Nat} {x0 x1 x2 x3 x4 x5 x6 x7 x8 x9 x10 x11 x12 x13 x14 y0 y1 y2 y3 y4 y5 y6 y7 y8 y9 y10 y11 y12 y13 y14 : Value} {t : TypeId} (h : w.heap[b]? = some (.cells #[x0, x1, x2, x3, x4, x5, x6, x7, x8, x9, x10, x11, x12, x13, x14] t (0, 0))) :
    (((((((((((((((w.setCell ⟨b, 0, none⟩ y0).setCell ⟨b, 1, none⟩ y1).setCell ⟨b, 2, none⟩ y2).setCell ⟨b, 3, none⟩ y3).setCell ⟨b, 4, none⟩ y4).setCell ⟨b, 5, none⟩ y5).setCell ⟨b, 6, none⟩ y6).setCell ⟨b, 7, none⟩ y7).setCell ⟨b, 8, none⟩ y8).setCell ⟨b, 9, none⟩ y9).setCell ⟨b, 10, none⟩ y10).setCell ⟨b, 11, none⟩ y11).setCell ⟨b, 12, none⟩ y12).setCell ⟨b, 13, none⟩ y13).setCell ⟨b, 14, none⟩ y14).heap[b]? = some (.cells #[y0, y1, y2, y3, y4, y5, y6, y7, y8, y9, y10, y11, y12, y13, y14] t (0, 0)) := by
  have h1 : (w.setCell ⟨b, 0, none⟩ y0).heap[b]? = some (.cells #[y0, x1, x2, x3, x4, x5, x6, x7, x8, x9, x10, x11, x12, x13, x14] t (0, 0)) := by rw [heap_setCell_same _ b 0 _ t y0 h]; rfl
  have h2 : ((w.setCell ⟨b, 0, none⟩ y0).setCell ⟨b, 1, none⟩ y1).heap[b]? = some (.cells #[y0, y1, x2, x3, x4, x5, x6, x7, x8, x9, x10, x11, x12, x13, x14] t (0, 0)) := by rw [heap_setCell_same _ b 1 _ t y1 h1]; rfl
  have h3 : (((w.setCell ⟨b, 0, none⟩ y0).setCell ⟨b, 1, none⟩ y1).setCell ⟨b, 2, none⟩ y2).heap[b]? = some (.cells #[y0, y1, y2, x3, x4, x5, x6, x7, x8, x9, x10, x11, x12, x13, x14] t (0, 0)) := by rw [heap_setCell_same _ b 2 _ t y2 h2]; rfl
  have h4 : ((((w.setCell ⟨b, 0, none⟩ y0).setCell ⟨b, 1, none⟩ y1).setCell ⟨b, 2, none⟩ y2).setCell ⟨b, 3, none⟩ y3).heap[b]? = some (.cells #[y0, y1, y2, y3, x4, x5, x6, x7, x8, x9, x10, x11, x12, x13, x14] t (0, 0)) := by rw [heap_setCell_same _ b 3 _ t y3 h3]; rfl
  have h5 : (((((w.setCell ⟨b, 0, none⟩ y0).setCell ⟨b, 1, none⟩ y1).setCell ⟨b, 2, none⟩ y2).setCell ⟨b, 3, none⟩ y3).setCell ⟨b, 4, none⟩ y4).heap[b]? = some (.cells #[y0, y1, y2, y3, y4, x5, x6, x7, x8, x9, x10, x11, x12, x13, x14] t (0, 0)) := by rw [heap_setCell_same _ b 4 _ t y4 h4]; rfl
  have h6 : ((((((w.setCell ⟨b, 0, none⟩ y0).setCell ⟨b, 1, none⟩ y1).setCell ⟨b, 2, none⟩ y2).setCell ⟨b, 3, none⟩ y3).setCell ⟨b, 4, none⟩ y4).setCell ⟨b, 5, none⟩ y5).heap[b]? = some (.cells #[y0, y1, y2, y3, y4, y5, x6, x7, x8, x9, x10, x11, x12, x13, x14] t (0, 0)) := by rw [heap_setCell_same _ b 5 _ t y5 h5]; rfl
  have h7 : (((((((w.setCell ⟨b, 0, none⟩ y0).setCell ⟨b, 1, none⟩ y1).setCell ⟨b, 2, none⟩ y2).setCell ⟨b, 3, none⟩ y3).setCell ⟨b, 4, none⟩ y4).setCell ⟨b, 5, none⟩ y5).setCell ⟨b, 6, none⟩ y6).heap[b]? = some (.cells #[y0, y1, y2, y3, y4, y5, y6, x7, x8, x9, x10, x11, x12, x13, x14] t (0, 0)) := by rw [heap_setCell_same _ b 6 _ t y6 h6]; rfl
  have h8 : ((((((((w.setCell ⟨b, 0, none⟩ y0).setCell ⟨b, 1, none⟩ y1).setCell ⟨b, 2, none⟩ y2).setCell ⟨b, 3, none⟩ y3).setCell ⟨b, 4, none⟩ y4).setCell ⟨b, 5, none⟩ y5).setCell ⟨b, 6, none⟩ y6).setCell ⟨b, 7, none⟩ y7).heap[b]? = some (.cells #[y0, y1, y2, y3, y4, y5, y6, y7, x8, x9, x10, x11, x12, x13, x14] t (0, 0)) := by rw [heap_setCell_same _ b 7 _ t y7 h7]; rfl
  have h9 : (((((((((w.setCell ⟨b, 0, none⟩ y0).setCell ⟨b, 1, none⟩ y1).setCell ⟨b, 2, none⟩ y2).setCell ⟨b, 3, none⟩ y3).setCell ⟨b, 4, none⟩ y4).setCell ⟨b, 5, none⟩ y5).setCell ⟨b, 6, none⟩ y6).setCell ⟨b, 7, none⟩ y7).setCell ⟨b, 8, none⟩ y8).heap[b]? = some (.cells #[y0, y1, y2, y3, y4, y5, y6, y7, y8, x9, x10, x11, x12, x13, x14] t (0, 0)) := by rw [heap_setCell_same _ b 8 _ t y8 h8]; rfl
  have h10 : ((((((((((w.setCell ⟨b, 0, none⟩ y0).setCell ⟨b, 1, none⟩ y1).setCell ⟨b, 2, none⟩ y2).setCell ⟨b, 3, none⟩ y3).setCell ⟨b, 4, none⟩ y4).setCell ⟨b, 5, none⟩ y5).setCell ⟨b, 6, none⟩ y6).setCell ⟨b, 7, none⟩ y7).setCell ⟨b, 8, none⟩ y8).setCell ⟨b, 9, none⟩ y9).heap[b]? = some (.cells #[y0, y1, y2, y3, y4, y5, y6, y7, y8, y9, x10, x11, x12, x13, x14] t (0, 0)) := by rw [heap_setCell_same _ b 9 _ t y9 h9]; rfl
  have h11 : (((((((((((w.setCell ⟨b, 0, none⟩ y0).setCell ⟨b, 1, none⟩ y1).setCell ⟨b, 2, none⟩ y2).setCell ⟨b, 3, none⟩ y3).setCell ⟨b, 4, none⟩ y4).setCell ⟨b, 5, none⟩ y5).setCell ⟨b, 6, none⟩ y6).setCell ⟨b, 7, none⟩ y7).setCell ⟨b, 8, none⟩ y8).setCell ⟨b, 9, none⟩ y9).setCell ⟨b, 10, none⟩ y10).heap[b]? = some (.cells #[y0, y1, y2, y3, y4, y5, y6, y7, y8, y9, y10, x11, x12, x13, x14] t (0, 0)) := by rw [heap_setCell_same _ b 10 _ t y10 h10]; rfl
  have h12 : ((((((((((((w.setCell ⟨b, 0, none⟩ y0).setCell ⟨b, 1, none⟩ y1).setCell ⟨b, 2, none⟩ y2).setCell ⟨b, 3, none⟩ y3).setCell ⟨b, 4, none⟩ y4).setCell ⟨b, 5, none⟩ y5).setCell ⟨b, 6, none⟩ y6).setCell ⟨b, 7, none⟩ y7).setCell ⟨b, 8, none⟩ y8).setCell ⟨b, 9, none⟩ y9).setCell ⟨b, 10, none⟩ y10).setCell ⟨b, 11, none⟩ y11).heap[b]? = some (.cells #[y0, y1, y2, y3, y4, y5, y6, y7, y8, y9, y10, y11, x12, x13, x14] t (0, 0)) := by rw [heap_setCell_same _ b 11 _ t y11 h11]; rfl
  have h13 : (((((((((((((w.setCell ⟨b, 0, none⟩ y0).setCell ⟨b, 1, none⟩ y1).setCell ⟨b, 2, none⟩ y2).setCell ⟨b, 3, none⟩ y3).setCell ⟨b, 4, none⟩ y4).setCell ⟨b, 5, none⟩ y5).setCell ⟨b, 6, none⟩ y6).setCell ⟨b, 7, none⟩ y7).setCell ⟨b, 8, none⟩ y8).setCell ⟨b, 9, none⟩ y9).setCell ⟨b, 10, none⟩ y10).setCell ⟨b, 11, none⟩ y11).setCell ⟨b, 12, none⟩ y12).heap[b]? = some (.cells #[y0, y1, y2, y3, y4, y5, y6, y7, y8, y9, y10, y11, y12, x13, x14] t (0, 0)) := by rw [heap_setCell_same _ b 12 _ t y12 h12]; rfl
  have h14 : ((((((((((((((w.setCell ⟨b, 0, none⟩ y0).setCell ⟨b, 1, none⟩ y1).setCell ⟨b, 2, none⟩ y2).setCell ⟨b, 3, none⟩ y3).setCell ⟨b, 4, none⟩ y4).setCell ⟨b, 5, none⟩ y5).setCell ⟨b, 6, none⟩ y6).setCell ⟨b, 7, none⟩ y7).setCell ⟨b, 8, none⟩ y8).setCell ⟨b, 9, none⟩ y9).setCell ⟨b, 10, none⟩ y10).setCell ⟨b, 11, none⟩ y11).setCell ⟨b, 12, none⟩ y12).setCell ⟨b, 13, none⟩ y13).heap[b]? = some (.cells #[y0, y1, y2, y3, y4, y5, y6, y7, y8, y9, y10, y11, y12, y13, x14] t (0, 0)) := by rw [heap_setCell_same _ b 13 _ t y13 h13]; rfl
  rw [heap_setCell_same _ b 14 _ t y14 h14]; rfl
theorem cfr15 {w : World} {b : Nat} (y0 y1 y2 y3 y4 y5 y6 y7 y8 y9 y10 y11 y12 y13 y14 : Value) {S : Nat → Prop} {w0 : World} (f : Fr S w0 w) (hb : b < w0.heap.size → S b) :
    Fr S w0 (((((((((((((((w.setCell ⟨b, 0, none⟩ y0).setCell ⟨b, 1, none⟩ y1).setCell ⟨b, 2, none⟩ y2).setCell ⟨b, 3, none⟩ y3).setCell ⟨b, 4, none⟩ y4).setCell ⟨b, 5, none⟩ y5).setCell ⟨b, 6, none⟩ y6).setCell ⟨b, 7, none⟩ y7).setCell ⟨b, 8, none⟩ y8).setCell ⟨b, 9, none⟩ y9).setCell ⟨b, 10, none⟩ y10).setCell ⟨b, 11, none⟩ y11).setCell ⟨b, 12, none⟩ y12).setCell ⟨b, 13, none⟩ y13).setCell ⟨b, 14, none⟩ y14) :=
  (((((((((((((((f.setCell (p := ⟨b, 0, none⟩) hb _).setCell (p := ⟨b, 1, none⟩) hb _).setCell (p := ⟨b, 2, none⟩) hb _).setCell (p := ⟨b, 3, none⟩) hb _).setCell (p := ⟨b, 4, none⟩) hb _).setCell (p := ⟨b, 5, none⟩) hb _).setCell (p := ⟨b, 6, none⟩) hb _).setCell (p := ⟨b, 7, none⟩) hb _).setCell (p := ⟨b, 8, none⟩) hb _).setCell (p := ⟨b, 9, none⟩) hb _).setCell (p := ⟨b, 10, none⟩) hb _).setCell (p := ⟨b, 11, none⟩) hb _).setCell (p := ⟨b, 12, none⟩) hb _).setCell (p := ⟨b, 13, none⟩) hb _).setCell (p := ⟨b, 14, none⟩) hb _)

theorem vfree15 {w : World} {g : Nat} {cs : Array Value} {t : TypeId} (h : w.heap[g]? = some (.cells cs t (0, 0))) :
    w.frozen? ⟨g, 0, none⟩ = false ∧ w.frozen? ⟨g, 1, none⟩ = false ∧ w.frozen? ⟨g, 2, none⟩ = false ∧ w.frozen? ⟨g, 3, none⟩ = false ∧ w.frozen? ⟨g, 4, none⟩ = false ∧ w.frozen? ⟨g, 5, none⟩ = false ∧ w.frozen? ⟨g, 6, none⟩ = false ∧ w.frozen? ⟨g, 7, none⟩ = false ∧
    w.frozen? ⟨g, 8, none⟩ = false ∧ w.frozen? ⟨g, 9, none⟩ = false ∧ w.frozen? ⟨g, 10, none⟩ = false ∧ w.frozen? ⟨g, 11, none⟩ = false ∧ w.frozen? ⟨g, 12, none⟩ = false ∧ w.frozen? ⟨g, 13, none⟩ = false ∧ w.frozen? ⟨g, 14, none⟩ = false :=
  ⟨vfree h 0, vfree h 1, vfree h 2, vfree h 3, vfree h 4, vfree h 5, vfree h 6, vfree h 7, vfree h 8, vfree h 9, vfree h 10, vfree h 11, vfree h 12, vfree h 13, vfree h 14⟩

/-- A chair that was opened. -/
def ChN.open (r m : Int) (y : En) : ChN := ⟨1, r, m, y, 0, 0, false, []⟩

/-- The region that opens: what has been done. -/
def OpS (b : Nat) (o o' : Obj) (w4 : World) : List Value → World → Prop
  | [], wx => Fr (fun _ => False) w4 wx
  | [_], wx => Fr (fun k => k = b) w4 wx ∧ wx.heap[b]? = some o'
  | _, _ => False
theorem OpS.fr {b : Nat} {cs : Array Value} {T : TypeId} {fr : Nat × Nat} {o' : Obj} {w4 wx : World} (ho : w4.heap[b]? = some (.cells cs T fr)) : ∀ {c : List Value}, OpS b (.cells cs T fr) o' w4 c wx → Fr (fun k => k = b) w4 wx ∧ (wx.heap[b]? = some (.cells cs T fr) ∨ wx.heap[b]? = some o')
  | [], h => ⟨Fr.mono h (fun _ _ h => h.elim), .inl (crow_kept ho h (fun h => h))⟩
  | [_], ⟨h, h'⟩ => ⟨h, .inr h'⟩
  | _ :: _ :: _, h => h.elim

theorem chopen_any (b : Nat) (ma : Option Addr) (mn mc : Nat) (st : ChN) (v u hv : Value) (r m : Int) (y : En) (v' u' : Value) (w : World) (h : w.heap[b]? = some (st.obj (.slice ma mn mc) v u hv)) (hy : ES w y v' u') :
    Calls Try.prog 10 #[.pointer (some ⟨b, 0, none⟩), ball r m, y.val v' u'] w fun e w' =>
      e = .returned (.tuple #[]) ∧ Fr (fun k => k = b) w w' ∧ w'.heap[b]? = some ((ChN.open r m y).obj (.slice ma mn mc) v' u' nilS) := by
  obtain ⟨hy1, hy2⟩ := hy
  obtain ⟨a1, c1, hv1, hn1⟩ := hy1.shape
  obtain ⟨a2, c2, hv2, hn2⟩ := hy2.shape
  subst hv1 hv2
  clear hy1 hy2 hn1 hn2
  generalize y.l.length = n1
  generalize y.m.length = n2
  have hl : b < w.heap.size := (Array.getElem?_eq_some_iff.1 h).1
  have f0 : Fr (fun _ => False) w ((w.alloc (oBa r m)).alloc (oEn y.k y.t y.n y.p (.slice a1 n1 c1) (.slice a2 n2 c2))) := ((Fr.refl _ _).alloc _).alloc _
  have q1 : ((w.alloc (oBa r m)).alloc (oEn y.k y.t y.n y.p (.slice a1 n1 c1) (.slice a2 n2 c2))).heap[w.heap.size]? = some (oBa r m) := crow_kept (heap_alloc_new w _) ((Fr.refl (fun _ => False) _).alloc _) (fun h => h)
  have q2 := new_two w (oBa r m) (oEn y.k y.t y.n y.p (.slice a1 n1 c1) (.slice a2 n2 c2))
  have Q0 := Lib.hid (And.intro (crow_kept h f0 (fun h => h)) (And.intro q1 q2))
  have F0 := Lib.hid f0
  clear h f0 q1 q2
  go_enter Try.func10, Try.ntmps10
  go_upto_region 2 with fail
  generalize (w.alloc (oBa r m)).alloc (oEn y.k y.t y.n y.p (.slice a1 n1 c1) (.slice a2 n2 c2)) = w0 at *
  have HL := Lib.hid hl
  refine wp_region_chain (by kernel_rfl) [some 8, some 9, some 10, some 11, some 12, some 13, some 14, some 15, some 16, none] rfl (by decide) (by intro d hd; simp at hd ⊢; omega)
    [9] (fun cvs wx => OpS b (st.obj (.slice ma mn mc) v u hv) (oCh (.slice ma mn mc) 1 r m y.k y.t y.n y.p (.slice a1 n1 c1) (.slice a2 n2 c2) 0 0 false nilS) w0 cvs wx)
    [.free (.pointer (some ⟨b, 0, none⟩)), .free (.pointer (some ⟨b, 0, none⟩)), .free (.pointer (some ⟨b, 0, none⟩)), .free (.pointer (some ⟨b, 0, none⟩)), .free (.agg #[.int .i64 0, .slice ma mn mc]), .free (ball r m), .free (ev y.k y.t y.n y.p (.slice a1 n1 c1) (.slice a2 n2 c2)), .free (.agg #[.int .i64 0, .slice ma mn mc, .int .u8 1, .int .i64 r, .int .i64 m, .int .u8 y.k, .int .u16 y.t, .int .u16 y.n, .int .i64 y.p, .slice a1 n1 c1, .slice a2 n2 c2, .int .i64 0, .int .i64 0, .bool false, nilS]), .free (.pointer (some ⟨b, 0, none⟩)), .link none]
    (by kernel_rfl) (by kernel_rfl) ?ho ?stepo ?fino
  case ho => exact (Fr.refl _ _).drew
  case stepo =>
    intro vals
    simp only [frOfU, fillU, List.setIfInBounds_toArray, List.set_cons_succ, List.set_cons_zero]
    repeat' (first | exact AllOps.nil | refine AllOps.cons ?_ ?_)
    all_goals
      intro cvs wx hS he hu hlim Kc hK
      simp only [Act.put, List.setIfInBounds_toArray, List.set_cons_succ, List.set_cons_zero, List.getD_cons_zero, List.getD_cons_succ] at hK
      simp only [List.mem_cons, List.not_mem_nil, or_false, forall_eq_or_imp, forall_eq, Region.binds, forall_const, qmode_gc, Bool.false_eq_true, false_imp_iff, List.getD_cons_zero, List.getD_cons_succ, OpSort.val, Option.some.injEq, forall_eq', reduceCtorEq, implies_true, true_and, and_true] at he
      obtain ⟨hl5, hl6⟩ := OpS.fr Q0.out.1 hS
      have c0 : wx.cell? ⟨b, 0, none⟩ = some (.int .i64 0) := by rcases hl6 with h | h <;> exact (ch_cells h).1
      have c1x : wx.cell? ⟨b, 1, none⟩ = some (.slice ma mn mc) := by rcases hl6 with h | h <;> exact (ch_cells h).2.1
      obtain ⟨b00, b01⟩ := ba_cells (crow_kept Q0.out.2.1 hl5 (by omega))
      obtain ⟨d00, d01, d02, d03, d04, d05⟩ := en_cells (crow_kept Q0.out.2.2 hl5 (by omega))
      clear hl5 hl6
      have HSX := Lib.hid hS
      clear hS
    all_goals first | (clear hlim hu; (try simp only [he] at hK ⊢); go_simp; exact hK) | skip
    · obtain rfl := hlim (0 : Nat) rfl
      have h1 : Fr (fun _ => False) w0 wx := HSX.out
      have h2 := crow_kept Q0.out.1 h1 (fun h => h)
      obtain ⟨e0, e1, e2, e3, e4, e5, e6, e7, e8, e9, e10, e11, e12, e13, e14⟩ := ch_cells h2
      obtain ⟨z0, z1, z2, z3, z4, z5, z6, z7, z8, z9, z10, z11, z12, z13, z14⟩ := vfree15 h2
      have R := Lib.hid (And.intro h1 h2)
      clear hlim hu HSX h1 h2 c0 c1x
      simp only [he] at hK ⊢
      clear he
      go_simp
      refine hK undef _ (fun _ h => by cases h) ?_
      exact ⟨cfr15 _ _ _ _ _ _ _ _ _ _ _ _ _ _ _ (R.out.1.mono (fun _ _ h => h.elim)) (fun _ => rfl), cst15 R.out.2⟩
  case fino =>
    intro vals w5 hS hV
    have v0 := hV 0 _ (by decide) rfl
    have v1 := hV 1 _ (by decide) rfl
    have v2 := hV 2 _ (by decide) rfl
    have v3 := hV 3 _ (by decide) rfl
    have v4 := hV 4 _ (by decide) rfl
    have v5 := hV 5 _ (by decide) rfl
    have v6 := hV 6 _ (by decide) rfl
    have v7 := hV 7 _ (by decide) rfl
    have v8 := hV 8 _ (by decide) rfl
    clear hV
    simp only [frOfU, fillU, List.setIfInBounds_toArray, List.set_cons_succ, List.set_cons_zero]
    simp only [Nat.reduceAdd, v0, v1, v2, v3, v4, v5, v6, v7, v8]
    clear v0 v1 v2 v3 v4 v5 v6 v7 v8
    obtain ⟨g1, g2⟩ : OpS b (st.obj (.slice ma mn mc) v u hv) (oCh (.slice ma mn mc) 1 r m y.k y.t y.n y.p (.slice a1 n1 c1) (.slice a2 n2 c2) 0 0 false nilS) w0 [vals 9] w5 := hS
    have H5 := Lib.hid (And.intro g1 g2)
    clear g1 g2
    go_wp2_with fail
    go_returns
    exact ⟨rfl, (F0.out.mono (fun _ _ h => h.elim)).trans H5.out.1 (fun _ _ h => h), H5.out.2⟩

/-- A member that is heard. -/
def ChN.hear (ms : List Int) (st : ChN) (n : Int) : ChN := if (ms.length : Int) < 2 * (inC ms (st.h ++ [n]) : Int) then { st with ph := st.ph + 1, h := [] } else { st with h := st.h ++ [n] }
def ChN.enough (ms : List Int) (st : ChN) (n : Int) : Bool := decide ((ms.length : Int) < 2 * (inC ms (st.h ++ [n]) : Int))

theorem oi_ne {w : World} {B : Nat} {v : Value} {l : List Int} {b : Nat} {cs : Array Value} {T : TypeId} {fr : Nat × Nat} (h : OI w B v l) (hb : w.heap[b]? = some (.cells cs T fr)) (hT : T ≠ 3) : v.ownBlock ≠ some b := by
  rcases h.2 with hn | ⟨g, cap, cur, rfl, hbb, hgg, rest⟩
  · rw [hn.1]; simp [Value.ownBlock]
  · intro e
    simp [Value.ownBlock] at e
    subst e
    rw [hgg] at hb
    simp at hb
    exact hT hb.2.1.symm

theorem sic_of {w : World} {a : Option Addr} {c : Nat} {l : List Int} (h : SI w (.slice a l.length c) l) : SIc w a c l := by
  obtain ⟨a', c', e, hs⟩ := h.shape
  cases e
  exact hs

/-- What a chair owns in memory. -/
abbrev ChF (b : Nat) (hv : Value) : Nat → Prop := fun k => k = b ∨ hv.ownBlock = some k

theorem chhear_any (b B : Nat) (ms : List Int) (ma : Option Addr) (mc : Nat) (st : ChN) (v u hv : Value) (n : Int) (w : World) (h : w.heap[b]? = some (st.obj (.slice ma ms.length mc) v u hv))
    (hm : SI w (.slice ma ms.length mc) ms) (hml : ms.length ≤ 1000) (hhl : st.h.length ≤ 900) (ho : OI w B hv st.h) (hB : B ≤ w.heap.size) (hmB : ∀ k, (Value.slice ma ms.length mc).ownBlock = some k → k < B ∧ k ≠ b) (hp0 : 0 ≤ st.ph) (hp1 : st.ph ≤ 3) :
    Calls Try.prog 22 #[.pointer (some ⟨b, 0, none⟩), .int .i64 n] w fun e w' =>
      e = .returned (.bool (st.enough ms n)) ∧ Fr (ChF b hv) w w' ∧ ∃ hv', w'.heap[b]? = some ((st.hear ms n).obj (.slice ma ms.length mc) v u hv') ∧ OI w' B hv' (st.hear ms n).h ∧ (∀ k, hv'.ownBlock = some k → hv.ownBlock = some k ∨ w.heap.size ≤ k) := by
  obtain ⟨i0, hi, hz0, hz1, hz2⟩ := info_parts Try.infoInt
  have hl : b < w.heap.size := (Array.getElem?_eq_some_iff.1 h).1
  have hne := oi_ne ho h (by decide)
  obtain ⟨c0, c1, c2, c3, c4, c5, c6, c7, c8, c9, c10, c11, c12, c13, c14⟩ := ch_cells h
  clear c0 c1 c2 c3 c4 c5 c6 c7 c8 c9 c10 c11 c12 c13
  have Q0 := Lib.hid (And.intro h (And.intro ho hm))
  have HNE := Lib.hid hne
  have HB := Lib.hid hB
  have HHL := Lib.hid hhl
  have HMB := Lib.hid hmB
  unfold ChN.enough ChN.hear
  obtain ⟨M, hM⟩ : ∃ M, M = decide ((ms.length : Int) < 2 * (inC ms (st.h ++ [n]) : Int)) := ⟨_, rfl⟩
  have hM2 : ((ms.length : Int) < 2 * (inC ms (st.h ++ [n]) : Int)) ↔ M = true := by rw [hM]; simp
  simp only [hM2, Bool.decide_eq_true]
  have HM := Lib.hid hM
  clear h ho hm hne hhl hB hmB hM hM2
  go_enter Try.func22, Try.ntmps22
  go_wp2_with (at_builtin; refine wpList_append_sep rfl (.tmp 9) (.tmp 11) 31 31 rfl B 3 i0 (.int .i64 0) 1 8 Try.underlying31 _ Try.underlying31 (.inr ⟨_, rfl⟩) hi hz0 hz1 hz2 rfl (by decide) hv st.h.length (st.h.map (Value.int .i64)) rfl ?own (.slice (some ⟨w.heap.size, 0, none⟩) 1 1) 1 [.int .i64 n] rfl (fun _ => lenOf_slice _ _ _ _) rfl ?c1 ?c2 ?one ?b1 ?b2 ?base ?grow)
  case own => exact World.ownsRow.alloc Q0.out.2.1 _
  case c1 => exact first_row (heap_alloc_new _ _) 1 1 rfl
  case c2 => exact first_row (by exact heap_alloc_new _ _) 1 1 rfl
  case one => intro u hu; simp at hu; subst hu; rfl
  case b1 => have := HHL.out; unfold maxLen; omega
  case b2 => have := HHL.out; omega
  case base => have := HB.out; simp; omega
  case grow =>
    intro hv1 w1 hown hg hvv
    have hsz := hg.size
    have f1 : Fr (fun k => hv.ownBlock = some k) w w1 := (((Fr.refl _ _).alloc _).trans (Fr.of_grown hg) (fun i _ e => e.symm))
    have hq1 := crow_kept Q0.out.1 f1 (fun e => HNE.out e)
    have hm1 : SI w1 (.slice ma ms.length mc) ms := Q0.out.2.2.keep f1 (.inr (fun k hk e => by
      have h1 := (HMB.out k hk).1
      have h2 := oi_le Q0.out.2.1 k e
      omega))
    have hn1 : ∀ k, hv1.ownBlock = some k → hv.ownBlock = some k ∨ w.heap.size ≤ k := by
      intro k hk
      rcases hvv with e | e
      · rw [e] at hk; exact .inl hk
      · rw [e] at hk
        simp at hk
        right; omega
    have ho1 : OI w1 B hv1 (st.h ++ [n]) := oi_snoc hown rfl
    have hl1 : (st.h ++ [n]).length ≤ 1000 := by have := HHL.out; simp; omega
    obtain ⟨hh, hhe⟩ : ∃ hh, hh = st.h ++ [n] := ⟨_, rfl⟩
    rw [← hhe] at hl1 ho1
    have HM1 : Hid (M = decide ((ms.length : Int) < 2 * (inC ms hh : Int))) := Lib.hid (by rw [hhe]; exact HM.out)
    have HL1 := Lib.hid hl1
    have HHE := Lib.hid hhe
    clear hhe
    have hb1 : hv1.ownBlock ≠ some b := oi_ne ho1 hq1 (by decide)
    have Q1 := Lib.hid (And.intro hq1 (And.intro ho1 (And.intro hm1 (And.intro f1 (And.intro hn1 hb1)))))
    obtain ⟨c0, c1, c2, c3, c4, c5, c6, c7, c8, c9, c10, c11, c12, c13, c14'⟩ := ch_cells hq1
    have z14 := vfree hq1 14
    obtain ⟨a1, k1, hv1e, hv1s⟩ := ho1.si.shape
    subst hv1e
    clear c0 c1 c2 c3 c4 c5 c6 c7 c8 c9 c10 c11 c12 c13 hown hg hvv f1 hq1 hm1 hn1 ho1 hl1 hb1 hsz c14 Q0
    go_upto_region 2 with fail
    have hq2 : (w1.setCell ⟨b, 14, none⟩ (.slice a1 hh.length k1)).heap[b]? = some (oCh (.slice ma ms.length mc) st.ph st.br st.bn st.x.k st.x.t st.x.n st.x.p v u st.gr st.gn st.rep (.slice a1 hh.length k1)) := by
      rw [heap_setCell_same w1 b 14 _ _ _ Q1.out.1]; rfl
    have fs : Fr (fun k => k = b) w1 (w1.setCell ⟨b, 14, none⟩ (.slice a1 hh.length k1)) := Fr.setCell (S := fun k => k = b) (Fr.refl _ _) (p := ⟨b, 14, none⟩) (fun _ => rfl) _
    have f2 : Fr (ChF b hv) w (w1.setCell ⟨b, 14, none⟩ (.slice a1 hh.length k1)) := (Q1.out.2.2.2.1.mono (fun _ _ h => .inr h)).trans fs (fun _ _ h => .inl h)
    have ho2 := oi_fr Q1.out.2.1 fs (fun k hk e => Q1.out.2.2.2.2.2 (by rw [hk, e]))
    have hmb : (Value.slice ma ms.length mc).ownBlock ≠ some b := fun e => (HMB.out b e).2 rfl
    have hm2 : SI (w1.setCell ⟨b, 14, none⟩ (.slice a1 hh.length k1)) (.slice ma ms.length mc) ms := Q1.out.2.2.1.keep fs (.inr (fun k hk e => hmb (by rw [hk, e])))
    have hn2 := Q1.out.2.2.2.2.1
    generalize w1.setCell ⟨b, 14, none⟩ (.slice a1 hh.length k1) = w2 at *
    have Q2 := Lib.hid (And.intro hq2 (And.intro ho2 (And.intro hm2 (And.intro f2 hn2))))
    have HMC := Lib.hid (sic_of hm2)
    have HHC := Lib.hid (sic_of ho2.si)
    clear hq2 fs f2 ho2 hmb hm2 hn2 Q1 z14 c14'
    refine wp_region_told (by kernel_rfl) (fun a b => Fr (fun _ => False) a b) (fun w => Fr.refl _ w) (fun _ _ _ h k => h.trans k (fun _ _ h => h)) [15, 16, 17, 18, 19, 20, 21, 22, 23, 24] rfl (by decide) (by intro d hd; simp at hd ⊢; omega)
      (fun i v _ => v = ([.pointer (some ⟨b, 0, none⟩), .pointer (some ⟨b, 0, none⟩), .pointer (some ⟨b, 0, none⟩), .agg #[.int .i64 0, .slice ma ms.length mc], .pointer (some ⟨b, 0, none⟩), .pointer (some ⟨b, 0, none⟩), .pointer (some ⟨b, 14, none⟩), .slice a1 hh.length k1, .bool M, .bool (!M)] : List Value).getD i undef)
      (fun _ _ _ _ _ h => h) (by kernel_rfl) ?step1 ?fin1
    case step1 =>
      intro vals
      simp only [frOf, fill, List.setIfInBounds_toArray, List.set_cons_succ, List.set_cons_zero]
      repeat' (first | exact AllOps.nil | refine AllOps.cons ?_ ?_)
      all_goals
        intro wx hle he K' hK
        simp only [Act.put, List.setIfInBounds_toArray, List.set_cons_succ, List.set_cons_zero, List.getD_cons_zero, List.getD_cons_succ] at hK
        simp only [List.mem_cons, List.not_mem_nil, or_false, forall_eq_or_imp, forall_eq, Region.binds, forall_const, false_imp_iff, List.getD_cons_zero, List.getD_cons_succ] at he
        try simp only [he] at hK ⊢
        have hl5 := Fr.trans (Fr.drew (Fr.refl (fun _ => False) w2)) hle (fun _ _ h => h)
        have HL := Lib.hid hl5
        obtain ⟨c0, c1, c2, c3, c4, c5, c6, c7, c8, c9, c10, c11, c12, c13, c14⟩ := ch_cells (crow_kept Q2.out.1 hl5 (fun h => h))
        clear hl5 hle he c2 c3 c4 c5 c6 c7 c8 c9 c10 c11 c12 c13
        try go_simp
      all_goals first
        | exact hK _ _ (Fr.refl _ _) rfl
        | skip
      · go_at_call 30; refine (most_any 0 ms hh ma a1 mc k1 _ (HMC.out.fr HL.out) (HHC.out.fr HL.out) hml HL1.out).mono ?_; rintro e1 wa ⟨rfl, fa⟩; rw [← HM1.out]; exact hK _ _ fa rfl
    case fin1 =>
      intro vals w' hle hV
      have h9 : vals 9 = .bool (!M) := hV 9 (by decide)
      clear hV
      have hw := Fr.trans (Fr.drew (Fr.refl (fun _ => False) w2)) hle (fun _ _ h => h)
      have F3 := Lib.hid (Q2.out.2.2.2.1.trans hw (fun _ _ h => h.elim))
      have Q3 := Lib.hid (And.intro (crow_kept Q2.out.1 hw (fun h => h)) (And.intro (oi_fr Q2.out.2.1 hw (fun _ _ h => h)) Q2.out.2.2.2.2))
      clear hle hw Q2
      simp only [frOf, fill, List.setIfInBounds_toArray, List.set_cons_succ, List.set_cons_zero, Nat.reduceAdd]
      simp only [h9]
      clear h9
      cases M with
      | false =>
        simp only [Bool.not_false]
        go_wp2_with fail
        go_ret
        exact ⟨rfl, F3.out, _, Q3.out.1, HHE.out ▸ Q3.out.2.1, Q3.out.2.2⟩
      | true =>
        simp only [Bool.not_true]
        obtain ⟨c0, c1, c2, c3, c4, c5, c6, c7, c8, c9, c10, c11, c12, c13, c14⟩ := ch_cells Q3.out.1
        have z2 := vfree Q3.out.1 2
        have z14 := vfree Q3.out.1 14
        clear c0 c1 c3 c4 c5 c6 c7 c8 c9 c10 c11 c12 c13
        go_wp2_with fail
        go_ret
        have g1 : (w'.setCell ⟨b, 2, none⟩ (.int .u8 (st.ph + 1))).heap[b]? = some (oCh (.slice ma ms.length mc) (st.ph + 1) st.br st.bn st.x.k st.x.t st.x.n st.x.p v u st.gr st.gn st.rep (.slice a1 hh.length k1)) := by
          rw [heap_setCell_same w' b 2 _ _ _ Q3.out.1]; rfl
        refine ⟨rfl, (F3.out.setCell (p := ⟨b, 2, none⟩) (fun _ => .inl rfl) _).setCell (p := ⟨b, 14, none⟩) (fun _ => .inl rfl) _, nilS, ?_, World.ownsRow_nil _ _ _ _, fun k hk => by cases hk⟩
        rw [heap_setCell_same _ b 14 _ _ _ g1]; rfl
end
section
set_option maxRecDepth 100000

/-- An entry's lists lie outside of S. -/
def AwayS (S : Nat → Prop) (x : En) (v u : Value) : Prop := (x.l = [] ∨ ∀ k, v.ownBlock = some k → ¬ S k) ∧ (x.m = [] ∨ ∀ k, u.ownBlock = some k → ¬ S k)

theorem ES.keepS {S : Nat → Prop} {w w' : World} {x : En} {v u : Value} (h : ES w x v u) (ha : AwayS S x v u) (hf : Fr S w w') : ES w' x v u := ⟨h.1.keep hf ha.1, h.2.keep hf ha.2⟩

theorem ES.old {w : World} {x : En} {v u : Value} (h : ES w x v u) : AwayS (fun k => w.heap.size ≤ k) x v u := by
  constructor
  · rcases h.1 with ⟨e, _⟩ | ⟨g, off, cap, hv, hle, hc⟩
    · exact .inl e
    · by_cases h0 : x.l = []
      · exact .inl h0
      · right
        intro k hk h2
        have hl : 0 < x.l.length := List.length_pos_iff.2 h0
        have := World.block_lt_of_cell? w _ (hc 0 hl)
        rw [hv] at hk
        simp [Value.ownBlock] at hk
        simp at this
        omega
  · rcases SeesL.old h.2 with e | e
    · exact .inl (by simpa using e)
    · exact .inr (fun k hk h2 => by have := e k hk; omega)

theorem AwayS.mono {S T : Nat → Prop} {x : En} {v u : Value} (h : AwayS S x v u) (hT : ∀ k, T k → S k) : AwayS T x v u :=
  ⟨h.1.imp id (fun h k hk ht => h k hk (hT k ht)), h.2.imp id (fun h k hk ht => h k hk (hT k ht))⟩
theorem AwayS.or {S T : Nat → Prop} {x : En} {v u : Value} (h : AwayS S x v u) (h' : AwayS T x v u) : AwayS (fun k => S k ∨ T k) x v u := by
  refine ⟨?_, ?_⟩
  · rcases h.1 with e | e
    · exact .inl e
    · rcases h'.1 with e' | e'
      · exact .inl e'
      · exact .inr (fun k hk hs => hs.elim (e k hk) (e' k hk))
  · rcases h.2 with e | e
    · exact .inl e
    · rcases h'.2 with e' | e'
      · exact .inl e'
      · exact .inr (fun k hk hs => hs.elim (e k hk) (e' k hk))

/-- The heard ones' row is the former one, or a new one. -/
def NewH (w : World) (hv hv' : Value) : Prop := ∀ k, hv'.ownBlock = some k → hv.ownBlock = some k ∨ w.heap.size ≤ k

/-- The chair in block b. -/
structure ChS (w : World) (b B : Nat) (ms : List Int) (ma : Option Addr) (mc : Nat) (st : ChN) (hv : Value) : Prop where
  row : ∃ v u, w.heap[b]? = some (st.obj (.slice ma ms.length mc) v u hv) ∧ ES w st.x v u ∧ AwayS (ChF b hv) st.x v u
  small : EnSmall st.x
  own : OI w B hv st.h
  base : B ≤ w.heap.size
  ph0 : 0 ≤ st.ph
  ph1 : st.ph ≤ 3
  nd : st.h.Nodup
  sub : ∀ n ∈ st.h, n ∈ ms
  view : SI w (.slice ma ms.length mc) ms
  vb : ∀ k, (Value.slice ma ms.length mc).ownBlock = some k → k < B ∧ k ≠ b
  few : ms.length ≤ 16

theorem nodup_len : ∀ {h ms : List Int}, h.Nodup → (∀ n ∈ h, n ∈ ms) → h.length ≤ ms.length
  | [], _, _, _ => Nat.zero_le _
  | a :: t, ms, hn, hs => by
    obtain ⟨h1, h2⟩ := List.nodup_cons.1 hn
    have h3 := nodup_len (ms := ms.erase a) h2 (fun n hm => (List.mem_erase_of_ne (fun e => h1 (by rw [← e]; exact hm))).2 (hs n (.tail _ hm)))
    have ha := hs a (.head _)
    have h4 := List.length_erase_of_mem ha
    have h5 := List.length_pos_of_mem ha
    simp only [List.length_cons]
    omega

theorem ChS.len {w : World} {b B : Nat} {ms : List Int} {ma : Option Addr} {mc : Nat} {st : ChN} {hv : Value} (h : ChS w b B ms ma mc st hv) : st.h.length ≤ 16 := Nat.le_trans (nodup_len h.nd h.sub) h.few

theorem ChS.lt {w : World} {b B : Nat} {ms : List Int} {ma : Option Addr} {mc : Nat} {st : ChN} {hv : Value} (h : ChS w b B ms ma mc st hv) : b < w.heap.size := by
  obtain ⟨v, u, h1, _⟩ := h.row
  exact lt_of h1

theorem ChS.fr {S : Nat → Prop} {w w' : World} {b B : Nat} {ms : List Int} {ma : Option Addr} {mc : Nat} {st : ChN} {hv : Value} (h : ChS w b B ms ma mc st hv) (f : Fr S w w') (hb : ¬ S b) (hh : ∀ k, hv.ownBlock = some k → ¬ S k)
    (hx : ∀ v u, w.heap[b]? = some (st.obj (.slice ma ms.length mc) v u hv) → AwayS S st.x v u) (hm : ∀ k, (Value.slice ma ms.length mc).ownBlock = some k → ¬ S k) : ChS w' b B ms ma mc st hv := by
  obtain ⟨v, u, h1, h2, h3⟩ := h.row
  exact ⟨⟨v, u, crow_kept h1 f hb, h2.keepS (hx v u h1) f, h3⟩, h.small, oi_fr h.own f hh, Nat.le_trans h.base f.size, h.ph0, h.ph1, h.nd, h.sub, h.view.keep f (.inr hm), h.vb, h.few⟩

theorem ChS.fr0 {w w' : World} {b B : Nat} {ms : List Int} {ma : Option Addr} {mc : Nat} {st : ChN} {hv : Value} (h : ChS w b B ms ma mc st hv) (f : Fr (fun _ => False) w w') : ChS w' b B ms ma mc st hv :=
  h.fr f (fun h => h) (fun _ _ h => h) (fun _ _ _ => ⟨.inr (fun _ _ h => h), .inr (fun _ _ h => h)⟩) (fun _ _ h => h)

def ChN.accepted (ms : List Int) (st : ChN) (n r m : Int) : ChN := if expB ms st 2 n r m then st.hear ms n else st
def ChN.acceptedB (ms : List Int) (st : ChN) (n r m : Int) : Bool := expB ms st 2 n r m && st.enough ms n
def ChN.report (st : ChN) (wr wn : Int) (y : En) (s : Bool) : ChN := if s && (!st.rep || blt st.gr st.gn wr wn) then { st with x := y, gr := wr, gn := wn, rep := true } else st
def ChN.promised (ms : List Int) (st : ChN) (n r m wr wn : Int) (y : En) (s : Bool) : ChN := if expB ms st 1 n r m then (st.report wr wn y s).hear ms n else st
def ChN.promisedB (ms : List Int) (st : ChN) (n r m wr wn : Int) (y : En) (s : Bool) : Bool := expB ms st 1 n r m && (st.report wr wn y s).enough ms n

theorem expB_ph {ms : List Int} {st : ChN} {p n r m : Int} (h : expB ms st p n r m = true) : st.ph = p ∧ (st.br = r ∧ st.bn = m) ∧ n ∈ ms ∧ n ∉ st.h := by
  unfold expB at h
  simp only [Bool.and_eq_true, decide_eq_true_eq, Bool.not_eq_true', decide_eq_false_iff_not] at h
  exact ⟨h.1, beq2_eq h.2.1, h.2.2.1, h.2.2.2⟩

theorem obj_inj {st : ChN} {mv v u v1 u1 hv : Value} (h : some (st.obj mv v u hv) = some (st.obj mv v1 u1 hv)) : v = v1 ∧ u = u1 := by
  simpa [ChN.obj, oCh] using h

/-- A member that is heard: the chair's state. -/
theorem chhearS (b B : Nat) (ms : List Int) (ma : Option Addr) (mc : Nat) (st : ChN) (hv : Value) (n : Int) (w : World) (h : ChS w b B ms ma mc st hv) (hn : n ∈ ms) (hnh : n ∉ st.h) (hp : st.ph ≤ 2) :
    Calls Try.prog 22 #[.pointer (some ⟨b, 0, none⟩), .int .i64 n] w fun e w' =>
      e = .returned (.bool (st.enough ms n)) ∧ Fr (ChF b hv) w w' ∧ ∃ hv', ChS w' b B ms ma mc (st.hear ms n) hv' ∧ NewH w hv hv' ∧ ∀ v u, w.heap[b]? = some (st.obj (.slice ma ms.length mc) v u hv) → w'.heap[b]? = some ((st.hear ms n).obj (.slice ma ms.length mc) v u hv') := by
  have hlen := h.len
  obtain ⟨v, u, h1, h2, h3⟩ := h.row
  refine (chhear_any b B ms ma mc st v u hv n w h1 h.view (by have := h.few; omega) (by omega) h.own h.base h.vb h.ph0 h.ph1).mono ?_
  rintro e w' ⟨rfl, f, hv', g1, g2, g3⟩
  refine ⟨rfl, f, hv', ?_, g3, fun v1 u1 h' => by obtain ⟨rfl, rfl⟩ := obj_inj (h1.symm.trans h'); exact g1⟩
  have e1 : (st.hear ms n).x = st.x := by unfold ChN.hear; split <;> rfl
  have hst : 0 ≤ (st.hear ms n).ph ∧ (st.hear ms n).ph ≤ 3 ∧ (st.hear ms n).h.Nodup ∧ ∀ k ∈ (st.hear ms n).h, k ∈ ms := by
    have := h.ph0
    unfold ChN.hear
    split
    · exact ⟨by show 0 ≤ st.ph + 1; omega, by show st.ph + 1 ≤ 3; omega, List.nodup_nil, fun k hk => by cases hk⟩
    · refine ⟨h.ph0, h.ph1, ?_, ?_⟩
      · show (st.h ++ [n]).Nodup
        rw [List.nodup_append]
        exact ⟨h.nd, List.nodup_cons.2 ⟨by simp, List.nodup_nil⟩, fun a ha c hc => by simp at hc; subst hc; exact fun e => hnh (e ▸ ha)⟩
      · intro k hk
        have hk : k ∈ st.h ++ [n] := hk
        rcases List.mem_append.1 hk with hk | hk
        · exact h.sub k hk
        · simp at hk; subst hk; exact hn
  have ho := h2.old
  refine ⟨⟨v, u, g1, e1 ▸ h2.keepS h3 f, e1 ▸ ?_⟩, e1 ▸ h.small, g2, Nat.le_trans h.base f.size, hst.1, hst.2.1, hst.2.2.1, hst.2.2.2, h.view.keep f (.inr ?_), h.vb, h.few⟩
  · exact (h3.or ho).mono (fun k hk => by
      rcases hk with rfl | hk
      · exact .inl (.inl rfl)
      · rcases g3 k hk with e | e
        · exact .inl (.inr e)
        · exact .inr e)
  · intro k hk hs
    rcases hs with rfl | hs
    · exact (h.vb k hk).2 rfl
    · have := oi_le h.own k hs
      have := (h.vb k hk).1
      omega

theorem expectsS (b B : Nat) (ms : List Int) (ma : Option Addr) (mc : Nat) (st : ChN) (hv : Value) (p n r m : Int) (w : World) (h : ChS w b B ms ma mc st hv) :
    Calls Try.prog 21 #[.pointer (some ⟨b, 0, none⟩), .int .u8 p, .int .i64 n, ball r m] w fun e w' => e = .returned (.bool (expB ms st p n r m)) ∧ Fr (fun _ => False) w w' := by
  have hlen := h.len
  obtain ⟨v, u, h1, h2, h3⟩ := h.row
  obtain ⟨ha, hc, rfl, hs⟩ := h.own.si.shape
  exact expects_any b ms ma ha mc hc st v u p n r m w h1 (sic_of h.view) hs (by have := h.few; omega) (by omega)

theorem chaccepted_no (b B : Nat) (ms : List Int) (ma : Option Addr) (mc : Nat) (st : ChN) (hv : Value) (n r m : Int) (w : World) (h : ChS w b B ms ma mc st hv) (he : expB ms st 2 n r m = false) :
    Calls Try.prog 16 #[.pointer (some ⟨b, 0, none⟩), .int .i64 n, ball r m] w fun e w' => e = .returned (.bool false) ∧ Fr (fun _ => False) w w' := by
  have f0 : Fr (fun _ => False) w (w.alloc (oBa r m)) := (Fr.refl _ _).alloc _
  have Q0 := Lib.hid (And.intro (h.fr0 f0) (heap_alloc_new w (oBa r m)))
  have F0 := Lib.hid f0
  have HE := Lib.hid he
  clear h f0 he
  go_enter Try.func16, Try.ntmps16
  go_upto_region 1 with fail
  generalize w.alloc (oBa r m) = w0 at *
  generalize w.heap.size = gb at *
  obtain ⟨b0, b1⟩ := ba_cells Q0.out.2
  go_wp2_with fail
  refine (expectsS b B ms ma mc st hv 2 n r m _ Q0.out.1).mono ?_
  rintro e1 wa ⟨rfl, fa⟩
  rw [HE.out]
  have F1 := Lib.hid (F0.out.trans fa (fun _ _ h => h))
  clear fa b0 b1
  go_wp2_with fail
  go_ret
  exact ⟨rfl, F1.out⟩


theorem chaccepted_yes (b B : Nat) (ms : List Int) (ma : Option Addr) (mc : Nat) (st : ChN) (hv : Value) (n r m : Int) (w : World) (h : ChS w b B ms ma mc st hv) (he : expB ms st 2 n r m = true) :
    Calls Try.prog 16 #[.pointer (some ⟨b, 0, none⟩), .int .i64 n, ball r m] w fun e w' => e = .returned (.bool (st.enough ms n)) ∧ Fr (ChF b hv) w w' ∧ ∃ hv', ChS w' b B ms ma mc (st.hear ms n) hv' ∧ NewH w hv hv' ∧ ∀ v u, w.heap[b]? = some (st.obj (.slice ma ms.length mc) v u hv) → w'.heap[b]? = some ((st.hear ms n).obj (.slice ma ms.length mc) v u hv') := by
  have f0 : Fr (fun _ => False) w (w.alloc (oBa r m)) := (Fr.refl _ _).alloc _
  have Q0 := Lib.hid (And.intro (h.fr0 f0) (heap_alloc_new w (oBa r m)))
  have F0 := Lib.hid f0
  have HE := Lib.hid he
  have HX := Lib.hid (expB_ph he)
  have HGB : Hid (¬ ChF b hv w.heap.size) := Lib.hid (fun hk => by
    rcases hk with hk | hk
    · have := h.lt; omega
    · have := (World.ownsRow.lt h.own _ hk).2; omega)
  clear h f0 he
  obtain ⟨M, hM⟩ : ∃ M, M = st.enough ms n := ⟨_, rfl⟩
  rw [← hM]
  have HM := Lib.hid hM
  clear hM
  go_enter Try.func16, Try.ntmps16
  go_upto_region 1 with fail
  generalize w.alloc (oBa r m) = w0 at *
  generalize w.heap.size = gb at *
  obtain ⟨b0, b1⟩ := ba_cells Q0.out.2
  go_wp2_with fail
  refine (expectsS b B ms ma mc st hv 2 n r m _ Q0.out.1).mono ?_
  rintro e1 wa ⟨rfl, fa⟩
  rw [HE.out]
  have F1 := Lib.hid (F0.out.trans fa (fun _ _ h => h))
  have Q1 := Lib.hid (Q0.out.1.fr0 fa)
  clear fa b0 b1
  go_wp2_with fail
  refine (chhearS b B ms ma mc st hv n _ Q1.out HX.out.2.2.1 HX.out.2.2.2 (by have := HX.out.1; omega)).mono ?_
  rintro e1 wb ⟨rfl, fb, hv', hc, hn⟩
  rw [← HM.out]
  have F2 := Lib.hid ((F1.out.mono (fun _ _ h => h.elim)).trans fb (fun _ _ h => h))
  have Q2 := Lib.hid (And.intro hc hn)
  clear fb hc hn
  go_wp2_with fail
  go_ret
  exact ⟨rfl, F2.out, hv', Q2.out.1, fun k hk => (Q2.out.2.1 k hk).imp id (fun h => Nat.le_trans F1.out.size h), fun v1 u1 h' => Q2.out.2.2 v1 u1 (crow_kept h' F1.out (fun h => h))⟩
end
end Go.Proofs.Ytcjfinabffpgkaa
