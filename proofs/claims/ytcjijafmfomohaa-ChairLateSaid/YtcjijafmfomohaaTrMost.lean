/-
  Package troupe: Most, All: drawn regions around the count.
-/
import Derived.Test.YtcjijafmfomohaaTrView
import Derived.Test.YtcjijafmfomohaaRegion
namespace Go.Proofs.Ytcjijafmfomohaa
open Go.RowKit
set_option maxRecDepth 100000

set_option maxHeartbeats 4000000 in
theorem most_any (n : Int) (l m : List Int) (a b : Option Addr) (c d : Nat) (w : World) (hc : SIc w a c l) (hd : SIc w b d m) (hs : l.length ≤ 1000) (hs' : m.length ≤ 1000) :
    Calls Try.prog 31 #[.agg #[.int .i64 n, .slice a l.length c], .slice b m.length d] w fun e w' => e = .returned (.bool (decide ((l.length : Int) < 2 * (inC l m : Int)))) ∧ Fr (fun _ => False) w w' := by
  have hq := heap_alloc_new w (oVw n a l.length c)
  have f0 : Fr (fun _ => False) w (w.alloc (oVw n a l.length c)) := (Fr.refl _ _).alloc _
  have Hc := Lib.hid hc
  have Hd := Lib.hid hd
  clear hc hd
  have Hs := Lib.hid hs
  have hin := inC_le l m
  obtain ⟨q, hqe⟩ : ∃ q, q = inC l m := ⟨_, rfl⟩
  rw [← hqe] at hin
  obtain ⟨B, hB⟩ : ∃ B, decide ((l.length : Int) < 2 * (q : Int)) = B := ⟨_, rfl⟩
  have HB := Lib.hid hB; clear hB
  have HW : Hid (IntKind.i64.wrap (2 * (q : Int)) = 2 * (q : Int)) := Lib.hid (by rw [IntKind.wrap_i64]; omega)
  have HQ := Lib.hid hqe; clear hqe
  go_enter Try.func31, Try.ntmps31
  go_upto_region 1 with fail
  generalize w.alloc (oVw n a l.length c) = w0 at *
  generalize w.heap.size = gv at *
  have F0 := Lib.hid f0
  have HG := Lib.hid hq
  clear f0 hq
  refine wp_region_told (by kernel_rfl) (fun a b => Fr (fun _ => False) a b) (fun w => Fr.refl _ w) (fun _ _ _ h k => h.trans k (fun _ _ h => h)) [5, 6, 7, 8, 9, 10, 11, 12, 4] rfl (by decide) (by intro d hd; simp at hd ⊢; omega)
    (fun i v _ => v = ([(.agg #[.int .i64 n, .slice a l.length c]), (.slice b m.length d), (.int .i64 q), (.int .i64 (2 * (q : Int))), (.pointer (some ⟨gv, 1, none⟩)), (.slice a l.length c), (.int .i64 l.length), (.bool B), (.bool B)] : List Value).getD i undef)
    (fun _ _ _ _ _ h => h) (by kernel_rfl) ?step1 ?fin1
  case step1 =>
    intro vals
    simp only [frOf, fill, List.setIfInBounds_toArray, List.set_cons_succ, List.set_cons_zero]
    repeat' (first | exact AllOps.nil | refine AllOps.cons ?_ ?_)
    all_goals
      intro wx hle he K' hK
      simp only [Act.put, List.setIfInBounds_toArray, List.set_cons_succ, List.set_cons_zero, List.getD_cons_zero, List.getD_cons_succ] at hK
      simp only [List.mem_cons, List.not_mem_nil, or_false, forall_eq_or_imp, forall_eq, Region.binds, forall_const, false_imp_iff, List.getD_cons_zero, List.getD_cons_succ] at he
      try simp only [he] at hK ⊢
      have hl5 := Fr.trans (Fr.drew (Fr.refl (fun _ => False) w0)) hle (fun _ _ h => h)
      have hl8 := Lib.hid hl5
      obtain ⟨q0, q1⟩ := vw_cells (lblock_kept HG.out hl5 (fun h => h))
      have hw := HW.out
      have hb := HB.out
      clear hl5 hle he
      try go_simp
    all_goals first
      | exact hK _ _ (Fr.refl _ _) rfl
      | skip
    · go_at_call 34; refine (among_any n l m a b c d _ (Hc.out.fr (F0.out.trans hl8.out (fun _ _ h => h))) (Hd.out.fr (F0.out.trans hl8.out (fun _ _ h => h))) Hs.out hs').mono ?_; rintro e1 wa ⟨rfl, fa⟩; rw [← HQ.out]; exact hK _ _ fa rfl
  case fin1 =>
    intro vals w' hle hV
    have h9 : vals 8 = .bool B := hV 8 (by decide)
    clear hV
    have hfin := F0.out.trans (Fr.trans (Fr.drew (Fr.refl (fun _ => False) w0)) hle (fun _ _ h => h)) (fun _ _ h => h)
    simp only [frOf, fill, List.setIfInBounds_toArray, List.set_cons_succ, List.set_cons_zero, Nat.reduceAdd]
    go_wp2_with fail
    go_ret
    refine ⟨?_, hfin⟩
    first | rw [h9] | skip
    rw [← HB.out, HQ.out]
    rfl

end Go.Proofs.Ytcjijafmfomohaa
