/-
  A chair in memory: New, Phase, Ballot, and what it expects.
-/
import Derived.Test.YtcjijafmfomohaaVotVoter
import Derived.Test.YtcjijafmfomohaaVotBaEq
import Derived.Test.YtcjijafmfomohaaTrBits
import Derived.BigRegion
namespace Go.Proofs.Ytcjijafmfomohaa
open Go.RowKit
set_option maxRecDepth 100000

/-- The chair's block. -/
abbrev oCh (mv : Value) (ph br bn k t n p : Int) (v u : Value) (gr gn : Int) (rep : Bool) (hv : Value) : Obj :=
  Obj.cells #[.int .i64 0, mv, .int .u8 ph, .int .i64 br, .int .i64 bn, .int .u8 k, .int .u16 t, .int .u16 n, .int .i64 p, v, u, .int .i64 gr, .int .i64 gn, .bool rep, hv] 76 (0, 0)

/-- What a chair holds. -/
structure ChN where
  ph : Int
  br : Int
  bn : Int
  x : En
  gr : Int
  gn : Int
  rep : Bool
  h : List Int

abbrev ChN.obj (st : ChN) (mv v u hv : Value) : Obj := oCh mv st.ph st.br st.bn st.x.k st.x.t st.x.n st.x.p v u st.gr st.gn st.rep hv

theorem ch_cells {w : World} {g : Nat} {mv : Value} {ph br bn k t n p : Int} {v u : Value} {gr gn : Int} {rep : Bool} {hv : Value} (h : w.heap[g]? = some (oCh mv ph br bn k t n p v u gr gn rep hv)) :
    w.cell? ⟨g, 0, none⟩ = some (.int .i64 0) ∧ w.cell? ⟨g, 1, none⟩ = some mv ∧ w.cell? ⟨g, 2, none⟩ = some (.int .u8 ph) ∧ w.cell? ⟨g, 3, none⟩ = some (.int .i64 br) ∧ w.cell? ⟨g, 4, none⟩ = some (.int .i64 bn) ∧
    w.cell? ⟨g, 5, none⟩ = some (.int .u8 k) ∧ w.cell? ⟨g, 6, none⟩ = some (.int .u16 t) ∧ w.cell? ⟨g, 7, none⟩ = some (.int .u16 n) ∧ w.cell? ⟨g, 8, none⟩ = some (.int .i64 p) ∧ w.cell? ⟨g, 9, none⟩ = some v ∧ w.cell? ⟨g, 10, none⟩ = some u ∧
    w.cell? ⟨g, 11, none⟩ = some (.int .i64 gr) ∧ w.cell? ⟨g, 12, none⟩ = some (.int .i64 gn) ∧ w.cell? ⟨g, 13, none⟩ = some (.bool rep) ∧ w.cell? ⟨g, 14, none⟩ = some hv := by
  simp [World.cell?, h]

set_option maxHeartbeats 4000000 in
theorem chnew_any (a : Option Addr) (n c : Nat) (w : World) :
    Calls Try.prog 7 #[.agg #[.int .i64 0, .slice a n c]] w fun e w' => ∃ g, e = .returned (.pointer (some ⟨g, 0, none⟩)) ∧ w.heap.size ≤ g ∧ Fr (fun _ => False) w w' ∧
      w'.heap[g]? = some (oCh (.slice a n c) 0 0 0 0 0 0 0 nilS nilS 0 0 false nilS) := by
  have f0 : Fr (fun _ => False) w (w.alloc (oVw 0 a n c)) := (Fr.refl _ _).alloc _
  have F0 := Lib.hid f0
  have Q0 := Lib.hid (vw_cells (heap_alloc_new w (oVw 0 a n c)))
  clear f0
  go_enter Try.func7, Try.ntmps7
  go_upto_region 1 with fail
  generalize w.alloc (oVw 0 a n c) = w0 at *
  obtain ⟨q0, q1⟩ := Q0.out
  have HS := Lib.hid F0.out.size
  go_wp2_with fail
  go_ret
  refine ⟨_, rfl, HS.out, F0.out.alloc _, heap_alloc_new _ _⟩

set_option maxHeartbeats 4000000 in
theorem chphase_any (b : Nat) (mv : Value) (st : ChN) (v u hv : Value) (w : World) (h : w.heap[b]? = some (st.obj mv v u hv)) :
    Calls Try.prog 19 #[.pointer (some ⟨b, 0, none⟩)] w fun e w' => e = .returned (.int .u8 st.ph) ∧ w = w' := by
  obtain ⟨c0, c1, c2, c3, c4, c5, c6, c7, c8, c9, c10, c11, c12, c13, c14⟩ := ch_cells h
  clear c0 c1 c3 c4 c5 c6 c7 c8 c9 c10 c11 c12 c13 c14 h
  go_enter Try.func19, Try.ntmps19
  go_wp2_with fail
  go_ret
  exact ⟨rfl, rfl⟩

set_option maxHeartbeats 4000000 in
theorem chballot_any (b : Nat) (mv : Value) (st : ChN) (v u hv : Value) (w : World) (h : w.heap[b]? = some (st.obj mv v u hv)) :
    Calls Try.prog 10 #[.pointer (some ⟨b, 0, none⟩)] w fun e w' => e = .returned (ball st.br st.bn) ∧ Fr (fun _ => False) w w' := by
  have hlt : b < w.heap.size := (Array.getElem?_eq_some_iff.1 h).1
  have f0 : Fr (fun _ => False) w (w.alloc (oBa 0 0)) := (Fr.refl _ _).alloc _
  have q1 := heap_alloc_new w (oBa 0 0)
  have Q := Lib.hid (And.intro (crow_kept h f0 (fun h => h)) q1)
  have F := Lib.hid f0
  clear h f0 q1
  go_enter Try.func10, Try.ntmps10
  go_upto_region 1 with fail
  generalize w.alloc (oBa 0 0) = w0 at *
  obtain ⟨c0, c1, c2, c3, c4, c5, c6, c7, c8, c9, c10, c11, c12, c13, c14⟩ := ch_cells Q.out.1
  clear c0 c1 c2 c5 c6 c7 c8 c9 c10 c11 c12 c13 c14
  obtain ⟨b0, b1⟩ := ba_cells Q.out.2
  have y00 := vfree Q.out.2 0
  have y01 := vfree Q.out.2 1
  go_wp2_with fail
  have hq := cst2 (y0 := .int .i64 st.br) (y1 := .int .i64 st.bn) Q.out.2
  have hf := cfr2 (.int .i64 st.br) (.int .i64 st.bn) (b := w.heap.size) F.out (fun h => absurd h (by omega))
  refine bodyPost_ret (results_cell_row rfl _ _ w.heap.size 40 _ _ _ rfl hq Try.underlying40 rfl (by kernel_rfl)) rfl ?_
  exact ⟨rfl, hf⟩

/-- Whether something of n is to be recorded in phase p. -/
def expB (ms : List Int) (st : ChN) (p n r m : Int) : Bool := decide (st.ph = p) && (beq2 st.br st.bn r m && (decide (n ∈ ms) && !decide (n ∈ st.h)))

set_option maxHeartbeats 16000000 in
theorem expects_any (b : Nat) (ms : List Int) (ma ha : Option Addr) (mc hc : Nat) (st : ChN) (v u : Value) (p n r m : Int) (w : World) (h : w.heap[b]? = some (st.obj (.slice ma ms.length mc) v u (.slice ha st.h.length hc)))
    (hm : SIc w ma mc ms) (hh : SIc w ha hc st.h) (hml : ms.length ≤ 1000) (hhl : st.h.length ≤ 1000) :
    Calls Try.prog 22 #[.pointer (some ⟨b, 0, none⟩), .int .u8 p, .int .i64 n, ball r m] w fun e w' => e = .returned (.bool (expB ms st p n r m)) ∧ Fr (fun _ => False) w w' := by
  have f0 : Fr (fun _ => False) w (w.alloc (oBa r m)) := (Fr.refl _ _).alloc _
  have Q0 := Lib.hid (And.intro (crow_kept h f0 (fun h => h)) (heap_alloc_new w (oBa r m)))
  have F0 := Lib.hid f0
  have HM := Lib.hid (hm.fr f0)
  have HH := Lib.hid (hh.fr f0)
  have HEQ : Hid (∀ W, (Op.equalIn 10000 40 (.agg #[.int .i64 st.br, .int .i64 st.bn]) (.agg #[.int .i64 r, .int .i64 m])).run Try.prog W = .ok (beq2 st.br st.bn r m) W) := Lib.hid (fun W => ba_equal 9998 _ _ _ _ W)
  clear h f0 hm hh
  unfold expB
  by_cases h1 : st.ph = p
  case neg =>
    have hd : decide (st.ph = p) = false := by simp [h1]
    have hbq : (st.ph == p) = false := by simp [h1]
    rw [hd]
    clear hd h1
    simp only [Bool.false_and]
    have HE := HEQ
    · go_enter Try.func22, Try.ntmps22
      go_upto_region 1 with fail
      generalize w.alloc (oBa r m) = w0 at *
      generalize w.heap.size = gb at *
      refine wp_region_told (by kernel_rfl) (fun a b => Fr (fun _ => False) a b) (fun w => Fr.refl _ w) (fun _ _ _ h k => h.trans k (fun _ _ h => h)) [9, 10, 11, 12, 13, 14, 15, 16, 17, 18, 19, 20, 21, 22, 23, 24, 25, 26, 27, 28, 29, 30, 31, 32, 33, 34, 35, 36, 37, 8] rfl (by decide) (by intro d hd; simp at hd ⊢; omega)
        (fun i v _ => v = ([.pointer (some ⟨b, 0, none⟩), .int .u8 st.ph, .int .u8 p, .bool false, .bool false, undef, undef, undef, undef, undef, undef, .bool false, .bool false, undef, undef, undef, undef, undef, undef, .bool false, .bool false, undef, undef, undef, undef, undef, undef, undef, .bool false, .bool false] : List Value).getD i undef)
        (fun _ _ _ _ _ h => h) (by kernel_rfl) ?stepa ?fina
      case stepa =>
        intro vals
        simp only [frOf, fill, List.setIfInBounds_toArray, List.set_cons_succ, List.set_cons_zero]
        repeat' (first | exact AllOps.nil | refine AllOps.cons ?_ ?_)
        all_goals
          intro wx hle he K' hK
          simp only [Act.put, List.setIfInBounds_toArray, List.set_cons_succ, List.set_cons_zero, List.getD_cons_zero, List.getD_cons_succ] at hK
          simp only [List.mem_cons, List.not_mem_nil, or_false, forall_eq_or_imp, forall_eq, Region.binds, forall_const, false_imp_iff, List.getD_cons_zero, List.getD_cons_succ] at he
          try simp only [he] at hK ⊢
          have hl5 := Fr.trans (Fr.drew (Fr.refl (fun _ => False) w0)) hle (fun _ _ h => h)
          have HL := Lib.hid hl5
          obtain ⟨c0, c1, c2, c3, c4, c5, c6, c7, c8, c9, c10, c11, c12, c13, c14⟩ := ch_cells (crow_kept Q0.out.1 hl5 (fun h => h))
          obtain ⟨b0, b1⟩ := ba_cells (crow_kept Q0.out.2 hl5 (fun h => h))
          have heq := HE.out
          clear c2 c5 c6 c7 c8 c9 c10 c11 c12 c13
          clear hl5 hle he
          try go_simp
        all_goals first
          | exact hK _ _ (Fr.refl _ _) rfl
          | skip
        · go_at_call 19; refine (chphase_any b _ st v u _ _ (crow_kept Q0.out.1 HL.out (fun h => h))).mono ?_; rintro e1 wa ⟨rfl, rfl⟩; exact hK _ _ (Fr.refl _ _) rfl
      case fina =>
        intro vals w' hle hV
        have h9 : vals 29 = .bool false := hV 29 (by decide)
        clear hV
        have hfin := Lib.hid (F0.out.trans (Fr.trans (Fr.drew (Fr.refl (fun _ => False) w0)) hle (fun _ _ h => h)) (fun _ _ h => h))
        clear hle
        simp only [frOf, fill, List.setIfInBounds_toArray, List.set_cons_succ, List.set_cons_zero, Nat.reduceAdd]
        simp only [h9]
        clear h9
        go_wp2_with fail
        go_ret
        exact ⟨rfl, hfin.out⟩
  case pos =>
    have hd : decide (st.ph = p) = true := by simp [h1]
    rw [hd]
    simp only [Bool.true_and]
    have hbq : (st.ph == p) = true := by simp [h1]
    clear hd h1
    generalize beq2 st.br st.bn r m = e2 at *
    cases e2 with
    | false =>
      have HE := HEQ
      simp only [Bool.false_and]
      go_enter Try.func22, Try.ntmps22
      go_upto_region 1 with fail
      generalize w.alloc (oBa r m) = w0 at *
      generalize w.heap.size = gb at *
      refine wp_region_told (by kernel_rfl) (fun a b => Fr (fun _ => False) a b) (fun w => Fr.refl _ w) (fun _ _ _ h k => h.trans k (fun _ _ h => h)) [9, 10, 11, 12, 13, 14, 15, 16, 17, 18, 19, 20, 21, 22, 23, 24, 25, 26, 27, 28, 29, 30, 31, 32, 33, 34, 35, 36, 37, 8] rfl (by decide) (by intro d hd; simp at hd ⊢; omega)
        (fun i v _ => v = ([.pointer (some ⟨b, 0, none⟩), .int .u8 st.ph, .int .u8 p, .bool true, .bool true, .pointer (some ⟨b, 0, none⟩), .pointer (some ⟨b, 0, none⟩), .pointer (some ⟨b, 3, none⟩), ball st.br st.bn, ball r m, .bool false, .bool false, .bool false, undef, undef, undef, undef, undef, undef, .bool false, .bool false, undef, undef, undef, undef, undef, undef, undef, .bool false, .bool false] : List Value).getD i undef)
        (fun _ _ _ _ _ h => h) (by kernel_rfl) ?stepb ?finb
      case stepb =>
        intro vals
        simp only [frOf, fill, List.setIfInBounds_toArray, List.set_cons_succ, List.set_cons_zero]
        repeat' (first | exact AllOps.nil | refine AllOps.cons ?_ ?_)
        all_goals
          intro wx hle he K' hK
          simp only [Act.put, List.setIfInBounds_toArray, List.set_cons_succ, List.set_cons_zero, List.getD_cons_zero, List.getD_cons_succ] at hK
          simp only [List.mem_cons, List.not_mem_nil, or_false, forall_eq_or_imp, forall_eq, Region.binds, forall_const, false_imp_iff, List.getD_cons_zero, List.getD_cons_succ] at he
          try simp only [he] at hK ⊢
          have hl5 := Fr.trans (Fr.drew (Fr.refl (fun _ => False) w0)) hle (fun _ _ h => h)
          have HL := Lib.hid hl5
          obtain ⟨c0, c1, c2, c3, c4, c5, c6, c7, c8, c9, c10, c11, c12, c13, c14⟩ := ch_cells (crow_kept Q0.out.1 hl5 (fun h => h))
          obtain ⟨b0, b1⟩ := ba_cells (crow_kept Q0.out.2 hl5 (fun h => h))
          have heq := HE.out
          clear c2 c5 c6 c7 c8 c9 c10 c11 c12 c13
          clear hl5 hle he
          try go_simp
        all_goals first
          | exact hK _ _ (Fr.refl _ _) rfl
          | skip
        · go_at_call 19; refine (chphase_any b _ st v u _ _ (crow_kept Q0.out.1 HL.out (fun h => h))).mono ?_; rintro e1 wa ⟨rfl, rfl⟩; exact hK _ _ (Fr.refl _ _) rfl
      case finb =>
        intro vals w' hle hV
        have h9 : vals 29 = .bool false := hV 29 (by decide)
        clear hV
        have hfin := Lib.hid (F0.out.trans (Fr.trans (Fr.drew (Fr.refl (fun _ => False) w0)) hle (fun _ _ h => h)) (fun _ _ h => h))
        clear hle
        simp only [frOf, fill, List.setIfInBounds_toArray, List.set_cons_succ, List.set_cons_zero, Nat.reduceAdd]
        simp only [h9]
        clear h9
        go_wp2_with fail
        go_ret
        exact ⟨rfl, hfin.out⟩
    | true =>
      have HE := HEQ
      simp only [Bool.true_and]
      have H3 : Hid (decide (n ∈ ms) = decide (n ∈ ms)) := Lib.hid rfl
      generalize he3 : decide (n ∈ ms) = e3 at *
      have H3 := Lib.hid he3
      clear he3
      cases e3 with
      | false =>
        simp only [Bool.false_and]
        go_enter Try.func22, Try.ntmps22
        go_upto_region 1 with fail
        generalize w.alloc (oBa r m) = w0 at *
        generalize w.heap.size = gb at *
        refine wp_region_told (by kernel_rfl) (fun a b => Fr (fun _ => False) a b) (fun w => Fr.refl _ w) (fun _ _ _ h k => h.trans k (fun _ _ h => h)) [9, 10, 11, 12, 13, 14, 15, 16, 17, 18, 19, 20, 21, 22, 23, 24, 25, 26, 27, 28, 29, 30, 31, 32, 33, 34, 35, 36, 37, 8] rfl (by decide) (by intro d hd; simp at hd ⊢; omega)
          (fun i v _ => v = ([.pointer (some ⟨b, 0, none⟩), .int .u8 st.ph, .int .u8 p, .bool true, .bool true, .pointer (some ⟨b, 0, none⟩), .pointer (some ⟨b, 0, none⟩), .pointer (some ⟨b, 3, none⟩), ball st.br st.bn, ball r m, .bool true, .bool true, .bool true, .pointer (some ⟨b, 0, none⟩), .pointer (some ⟨b, 0, none⟩), .pointer (some ⟨b, 0, none⟩), .agg #[.int .i64 0, .slice ma ms.length mc], .int .i64 n, .bool false, .bool false, .bool false, undef, undef, undef, undef, undef, undef, undef, .bool false, .bool false] : List Value).getD i undef)
          (fun _ _ _ _ _ h => h) (by kernel_rfl) ?stepc ?finc
        case stepc =>
          intro vals
          simp only [frOf, fill, List.setIfInBounds_toArray, List.set_cons_succ, List.set_cons_zero]
          repeat' (first | exact AllOps.nil | refine AllOps.cons ?_ ?_)
          all_goals
            intro wx hle he K' hK
            simp only [Act.put, List.setIfInBounds_toArray, List.set_cons_succ, List.set_cons_zero, List.getD_cons_zero, List.getD_cons_succ] at hK
            simp only [List.mem_cons, List.not_mem_nil, or_false, forall_eq_or_imp, forall_eq, Region.binds, forall_const, false_imp_iff, List.getD_cons_zero, List.getD_cons_succ] at he
            try simp only [he] at hK ⊢
            have hl5 := Fr.trans (Fr.drew (Fr.refl (fun _ => False) w0)) hle (fun _ _ h => h)
            have HL := Lib.hid hl5
            obtain ⟨c0, c1, c2, c3, c4, c5, c6, c7, c8, c9, c10, c11, c12, c13, c14⟩ := ch_cells (crow_kept Q0.out.1 hl5 (fun h => h))
            obtain ⟨b0, b1⟩ := ba_cells (crow_kept Q0.out.2 hl5 (fun h => h))
            have heq := HE.out
            clear c2 c5 c6 c7 c8 c9 c10 c11 c12 c13
            clear hl5 hle he
            try go_simp
          all_goals first
            | exact hK _ _ (Fr.refl _ _) rfl
            | skip
          · go_at_call 19; refine (chphase_any b _ st v u _ _ (crow_kept Q0.out.1 HL.out (fun h => h))).mono ?_; rintro e1 wa ⟨rfl, rfl⟩; exact hK _ _ (Fr.refl _ _) rfl
          · go_at_call 29; refine (has_any 0 n ms ma mc _ (HM.out.fr HL.out) hml).mono ?_; rintro e1 wa ⟨rfl, fa⟩; rw [H3.out]; exact hK _ _ fa rfl
        case finc =>
          intro vals w' hle hV
          have h9 : vals 29 = .bool false := hV 29 (by decide)
          clear hV
          have hfin := Lib.hid (F0.out.trans (Fr.trans (Fr.drew (Fr.refl (fun _ => False) w0)) hle (fun _ _ h => h)) (fun _ _ h => h))
          clear hle
          simp only [frOf, fill, List.setIfInBounds_toArray, List.set_cons_succ, List.set_cons_zero, Nat.reduceAdd]
          simp only [h9]
          clear h9
          go_wp2_with fail
          go_ret
          exact ⟨rfl, hfin.out⟩
      | true =>
        simp only [Bool.true_and]
        generalize he4 : decide (n ∈ st.h) = e4 at *
        have H4 := Lib.hid he4
        clear he4
        cases e4 with
        | true =>
          simp only [Bool.not_true]
          go_enter Try.func22, Try.ntmps22
          go_upto_region 1 with fail
          generalize w.alloc (oBa r m) = w0 at *
          generalize w.heap.size = gb at *
          refine wp_region_told (by kernel_rfl) (fun a b => Fr (fun _ => False) a b) (fun w => Fr.refl _ w) (fun _ _ _ h k => h.trans k (fun _ _ h => h)) [9, 10, 11, 12, 13, 14, 15, 16, 17, 18, 19, 20, 21, 22, 23, 24, 25, 26, 27, 28, 29, 30, 31, 32, 33, 34, 35, 36, 37, 8] rfl (by decide) (by intro d hd; simp at hd ⊢; omega)
            (fun i v _ => v = ([.pointer (some ⟨b, 0, none⟩), .int .u8 st.ph, .int .u8 p, .bool true, .bool true, .pointer (some ⟨b, 0, none⟩), .pointer (some ⟨b, 0, none⟩), .pointer (some ⟨b, 3, none⟩), ball st.br st.bn, ball r m, .bool true, .bool true, .bool true, .pointer (some ⟨b, 0, none⟩), .pointer (some ⟨b, 0, none⟩), .pointer (some ⟨b, 0, none⟩), .agg #[.int .i64 0, .slice ma ms.length mc], .int .i64 n, .bool true, .bool true, .bool true, .pointer (some ⟨b, 0, none⟩), .pointer (some ⟨b, 0, none⟩), .pointer (some ⟨b, 14, none⟩), .slice ha st.h.length hc, .int .i64 n, .bool true, .bool false, .bool false, .bool false] : List Value).getD i undef)
            (fun _ _ _ _ _ h => h) (by kernel_rfl) ?stepd ?find
          case stepd =>
            intro vals
            simp only [frOf, fill, List.setIfInBounds_toArray, List.set_cons_succ, List.set_cons_zero]
            repeat' (first | exact AllOps.nil | refine AllOps.cons ?_ ?_)
            all_goals
              intro wx hle he K' hK
              simp only [Act.put, List.setIfInBounds_toArray, List.set_cons_succ, List.set_cons_zero, List.getD_cons_zero, List.getD_cons_succ] at hK
              simp only [List.mem_cons, List.not_mem_nil, or_false, forall_eq_or_imp, forall_eq, Region.binds, forall_const, false_imp_iff, List.getD_cons_zero, List.getD_cons_succ] at he
              try simp only [he] at hK ⊢
              have hl5 := Fr.trans (Fr.drew (Fr.refl (fun _ => False) w0)) hle (fun _ _ h => h)
              have HL := Lib.hid hl5
              obtain ⟨c0, c1, c2, c3, c4, c5, c6, c7, c8, c9, c10, c11, c12, c13, c14⟩ := ch_cells (crow_kept Q0.out.1 hl5 (fun h => h))
              obtain ⟨b0, b1⟩ := ba_cells (crow_kept Q0.out.2 hl5 (fun h => h))
              have heq := HE.out
              clear c2 c5 c6 c7 c8 c9 c10 c11 c12 c13
              clear hl5 hle he
              try go_simp
            all_goals first
              | exact hK _ _ (Fr.refl _ _) rfl
              | skip
            · go_at_call 19; refine (chphase_any b _ st v u _ _ (crow_kept Q0.out.1 HL.out (fun h => h))).mono ?_; rintro e1 wa ⟨rfl, rfl⟩; exact hK _ _ (Fr.refl _ _) rfl
            · go_at_call 29; refine (has_any 0 n ms ma mc _ (HM.out.fr HL.out) hml).mono ?_; rintro e1 wa ⟨rfl, fa⟩; rw [H3.out]; exact hK _ _ fa rfl
            · go_at_call 30; refine (contains_any st.h n ha hc _ (HH.out.fr HL.out) hhl).mono ?_; rintro e1 wa ⟨rfl, rfl⟩; rw [H4.out]; exact hK _ _ (Fr.refl _ _) rfl
          case find =>
            intro vals w' hle hV
            have h9 : vals 29 = .bool false := hV 29 (by decide)
            clear hV
            have hfin := Lib.hid (F0.out.trans (Fr.trans (Fr.drew (Fr.refl (fun _ => False) w0)) hle (fun _ _ h => h)) (fun _ _ h => h))
            clear hle
            simp only [frOf, fill, List.setIfInBounds_toArray, List.set_cons_succ, List.set_cons_zero, Nat.reduceAdd]
            simp only [h9]
            clear h9
            go_wp2_with fail
            go_ret
            exact ⟨rfl, hfin.out⟩
        | false =>
          simp only [Bool.not_false]
          go_enter Try.func22, Try.ntmps22
          go_upto_region 1 with fail
          generalize w.alloc (oBa r m) = w0 at *
          generalize w.heap.size = gb at *
          refine wp_region_told (by kernel_rfl) (fun a b => Fr (fun _ => False) a b) (fun w => Fr.refl _ w) (fun _ _ _ h k => h.trans k (fun _ _ h => h)) [9, 10, 11, 12, 13, 14, 15, 16, 17, 18, 19, 20, 21, 22, 23, 24, 25, 26, 27, 28, 29, 30, 31, 32, 33, 34, 35, 36, 37, 8] rfl (by decide) (by intro d hd; simp at hd ⊢; omega)
            (fun i v _ => v = ([.pointer (some ⟨b, 0, none⟩), .int .u8 st.ph, .int .u8 p, .bool true, .bool true, .pointer (some ⟨b, 0, none⟩), .pointer (some ⟨b, 0, none⟩), .pointer (some ⟨b, 3, none⟩), ball st.br st.bn, ball r m, .bool true, .bool true, .bool true, .pointer (some ⟨b, 0, none⟩), .pointer (some ⟨b, 0, none⟩), .pointer (some ⟨b, 0, none⟩), .agg #[.int .i64 0, .slice ma ms.length mc], .int .i64 n, .bool true, .bool true, .bool true, .pointer (some ⟨b, 0, none⟩), .pointer (some ⟨b, 0, none⟩), .pointer (some ⟨b, 14, none⟩), .slice ha st.h.length hc, .int .i64 n, .bool false, .bool true, .bool true, .bool true] : List Value).getD i undef)
            (fun _ _ _ _ _ h => h) (by kernel_rfl) ?stepe ?fine
          case stepe =>
            intro vals
            simp only [frOf, fill, List.setIfInBounds_toArray, List.set_cons_succ, List.set_cons_zero]
            repeat' (first | exact AllOps.nil | refine AllOps.cons ?_ ?_)
            all_goals
              intro wx hle he K' hK
              simp only [Act.put, List.setIfInBounds_toArray, List.set_cons_succ, List.set_cons_zero, List.getD_cons_zero, List.getD_cons_succ] at hK
              simp only [List.mem_cons, List.not_mem_nil, or_false, forall_eq_or_imp, forall_eq, Region.binds, forall_const, false_imp_iff, List.getD_cons_zero, List.getD_cons_succ] at he
              try simp only [he] at hK ⊢
              have hl5 := Fr.trans (Fr.drew (Fr.refl (fun _ => False) w0)) hle (fun _ _ h => h)
              have HL := Lib.hid hl5
              obtain ⟨c0, c1, c2, c3, c4, c5, c6, c7, c8, c9, c10, c11, c12, c13, c14⟩ := ch_cells (crow_kept Q0.out.1 hl5 (fun h => h))
              obtain ⟨b0, b1⟩ := ba_cells (crow_kept Q0.out.2 hl5 (fun h => h))
              have heq := HE.out
              clear c2 c5 c6 c7 c8 c9 c10 c11 c12 c13
              clear hl5 hle he
              try go_simp
            all_goals first
              | exact hK _ _ (Fr.refl _ _) rfl
              | skip
            · go_at_call 19; refine (chphase_any b _ st v u _ _ (crow_kept Q0.out.1 HL.out (fun h => h))).mono ?_; rintro e1 wa ⟨rfl, rfl⟩; exact hK _ _ (Fr.refl _ _) rfl
            · go_at_call 29; refine (has_any 0 n ms ma mc _ (HM.out.fr HL.out) hml).mono ?_; rintro e1 wa ⟨rfl, fa⟩; rw [H3.out]; exact hK _ _ fa rfl
            · go_at_call 30; refine (contains_any st.h n ha hc _ (HH.out.fr HL.out) hhl).mono ?_; rintro e1 wa ⟨rfl, rfl⟩; rw [H4.out]; exact hK _ _ (Fr.refl _ _) rfl
          case fine =>
            intro vals w' hle hV
            have h9 : vals 29 = .bool true := hV 29 (by decide)
            clear hV
            have hfin := Lib.hid (F0.out.trans (Fr.trans (Fr.drew (Fr.refl (fun _ => False) w0)) hle (fun _ _ h => h)) (fun _ _ h => h))
            clear hle
            simp only [frOf, fill, List.setIfInBounds_toArray, List.set_cons_succ, List.set_cons_zero, Nat.reduceAdd]
            simp only [h9]
            clear h9
            go_wp2_with fail
            go_ret
            exact ⟨rfl, hfin.out⟩

end Go.Proofs.Ytcjijafmfomohaa
