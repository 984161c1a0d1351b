/-
  CrcAny: for every slice of bytes the law returns true, and it reads as before.
-/
import Derived.Test.YtplijlgkchbdaaaRefSummed
import Derived.Test.YtplijlgkchbdaaaCrcRight
import Derived.Test.YtplijlgkchbdaaaCrcAwake
import Derived.Test.YtplijlgkchbdaaaRegion
namespace Go.Proofs.Ytplijlgkchbdaaa
open Go.RowKit

theorem right_eq (l : List UInt8) (h : 4 ≤ l.length) : Crc.right l = (l == Crc.summed (l.take (l.length - 4))) := by
  unfold Crc.right Crc.summed
  rw [decide_eq_true h, Bool.true_and, Bool.eq_iff_iff, decide_eq_true_eq, beq_iff_eq]
  have ht : (l.take (l.length - 4)).length = l.length - 4 := by rw [List.length_take]; omega
  constructor
  · intro e
    rw [← e, List.take_append_drop]
  · intro e
    have e2 := congrArg (List.drop (l.length - 4)) e
    rw [List.drop_left' ht] at e2
    exact e2

set_option maxHeartbeats 4000000 in
theorem any_any (v : Value) (l : List UInt8) (w : World) (hs : Sees w v l) (hl : l.length ≤ 200) :
    Calls Try.prog 5 #[v] w fun e w' => e = .returned (.bool true) ∧ Fr (fun _ => False) w w' := by
  obtain ⟨a, c, rfl, hn⟩ := hs.shape
  clear hn
  have hl' : decide ((200 : Int) < (l.length : Int)) = false := by simp; omega
  go_enter Try.func5, Try.ntmps5
  go_wp2_with fail
  refine (awake_any _).mono ?_
  rintro e w1 ⟨rfl, f1⟩
  have hs1 := hs.fr f1 (fun _ _ h => h)
  by_cases h4 : 4 ≤ l.length
  · have hge : decide ((4 : Int) ≤ (l.length : Int)) = true := by simp; omega
    obtain ⟨g, o, rfl, _⟩ := sees_at hs 0 (by omega)
    go_wp2_with fail
    have hcap := hs.cap
    obtain ⟨h, hh⟩ : ∃ h, l.length = h + 4 := ⟨l.length - 4, by omega⟩
    have hcv : ∀ W, Fr (fun _ => False) w1.drew W → (convert 22 9 (.slice (some ⟨g, o, none⟩) l.length c)).run Try.prog W = .ok (.string ⟨l.toArray⟩) W :=
      fun W hf => (Sees.fr (w := w1.drew) hs1 hf (fun _ _ h => h)).string _ _ _ Try.underlying22 Try.underlying5 Try.underlying9
    have hc0 := hcv w1.drew (Fr.refl _ _)
    have hrs : ∀ W, Fr (fun _ => False) w1.drew W → Calls Try.prog 11 #[.slice (some ⟨g, o, none⟩) h c] W fun e w' => e = .returned (.string ⟨(Crc.summed (l.take h)).toArray⟩) ∧ Fr (fun _ => False) W w' :=
      fun W hf => refsummed_any _ (l.take h) W (Sees.fr (w := w1.drew) (sees_take hs1 h (by omega)) hf (fun _ _ h => h)) (by rw [List.length_take]; omega)
    have hre := right_eq l h4
    rw [show l.length - 4 = h by omega] at hre
    have hra : ∀ W, Fr (fun _ => False) w1 W → Calls Try.prog 12 #[.slice (some ⟨g, o, none⟩) l.length c] W fun e w' => e = .returned (.bool (Crc.right l)) ∧ Fr (fun _ => False) W w' :=
      fun W hf => right_any _ l W (hs1.fr hf (fun _ _ h => h)) (by omega)
    rw [hh] at hcv hc0 hra
    have HCV := Lib.hid hcv
    have HRS := Lib.hid hrs
    have HRE := Lib.hid hre
    have HRA := Lib.hid hra
    have hcc : h + 4 ≤ c := by omega
    have hh2 : h ≤ 200 := by omega
    have hcl : h ≤ c := by omega
    have hch : ¬ c = h := by omega
    rw [hh]
    clear hcv hrs hs hs1 hre hra hge hl' hcap h4 hh hl
    go_cut [3] from 13 to 21 (fun r wx => r = .bool (Crc.right l) ∧ Fr (fun _ => False) w1 wx)
    case first =>
      generalize Crc.right l = rr at *
      have hw2 : IntKind.i64.wrap (h : Int) = (h : Int) := IntWalk.i64_in _ (by omega)
      refine wp_region_told (by kernel_rfl) (fun a b => Fr (fun _ => False) a b) (fun w => Fr.refl _ w) (fun _ _ _ h k => h.trans k (fun _ _ h => h)) [13, 14, 15, 16, 17, 18, 19, 20, 21, 3] rfl (by decide) (by intro d hd; simp at hd ⊢; omega)
        (fun i v _ => v = [.slice (some ⟨g, o, none⟩) (h + 4) c, .string ⟨l.toArray⟩, .slice (some ⟨g, o, none⟩) (h + 4) c, .slice (some ⟨g, o, none⟩) (h + 4) c, .int .i64 ((h : Int) + 4), .int .i64 (h : Int), .slice (some ⟨g, o, none⟩) h c, .string ⟨(Crc.summed (l.take h)).toArray⟩, .bool rr, .bool rr].getD i undef)
        (fun _ _ _ _ _ h => h) (by kernel_rfl) ?step ?fin
      case step =>
        intro vals
        simp only [frOf, fill, List.setIfInBounds_toArray, List.set_cons_succ, List.set_cons_zero]
        repeat' (first | exact AllOps.nil | refine AllOps.cons ?_ ?_)
        all_goals
          intro wx hle he K hK
          simp only [Act.put, List.setIfInBounds_toArray, List.set_cons_succ, List.set_cons_zero, List.getD_cons_zero, List.getD_cons_succ] at hK
          simp only [List.mem_cons, List.not_mem_nil, or_false, forall_eq_or_imp, forall_eq, Region.binds, forall_const, false_imp_iff, List.getD_cons_zero, List.getD_cons_succ] at he
          try simp only [he] at hK
          have hcx := HCV.out _ hle
          try go_simp
          first
            | exact hK _ _ (Fr.refl _ _) rfl
            | (refine (HRS.out _ hle).mono ?_
               rintro e1 wa ⟨rfl, fa⟩
               exact hK _ _ fa rfl)
            | (rw [← HRE.out]; exact hK _ _ (Fr.refl _ _) rfl)
      case fin =>
        intro vals w' hle hV
        have h9 : vals 9 = .bool rr := hV 9 (by decide)
        clear hV
        simp only [frOf, fill, List.setIfInBounds_toArray, List.set_cons_succ, List.set_cons_zero, Nat.reduceAdd]
        go_wp2_with fail
        go_meet
        case rel => exact ⟨by first | exact h9 | rfl, hle.os, hle.tape, hle.output, hle.size, hle.block⟩
    case rest =>
      obtain ⟨rfl, fw⟩ := hcut
      have HA := Lib.hid (HRA.out _ fw)
      clear HCV hc0 HRS HRE HRA
      generalize Crc.right l = rr at *
      go_wp2_with fail
      refine HA.out.mono ?_
      rintro e w3 ⟨rfl, f3⟩
      go_wp2_with fail
      go_ret
      refine ⟨by simp, (f1.trans fw (fun _ _ h => h)).trans f3 (fun _ _ h => h)⟩
  · have hge : decide ((4 : Int) ≤ (l.length : Int)) = false := by simp; omega
    have hr : Crc.right l = false := by unfold Crc.right; rw [decide_eq_false h4]; rfl
    have HR := Lib.hid (right_any _ l _ hs1 (by omega))
    clear hs hs1
    go_wp2_with fail
    refine HR.out.mono ?_
    rintro e w2 ⟨rfl, f2⟩
    rw [hr]
    go_wp2_with fail
    go_ret
    exact ⟨rfl, f1.trans f2 (fun _ _ h => h)⟩

/-- For every slice of bytes, in the form that the statement's lift takes. -/
theorem any_all {w : World} (va : Value) (la : List Int) (ha : SeesL w va (la.map (Value.int .u8))) (fa : ∀ n ∈ la, (Lit.int .u8 n).wf = true) :
    Calls Try.prog 5 #[va] w fun e w' => e = .returned (.bool true) ∧ Fr (fun _ => False) w w' := by
  have hs := sees_u8 ha fa
  by_cases hl : (la.map fun n => UInt8.ofNat n.toNat).length ≤ 200
  · exact any_any va _ w hs hl
  · obtain ⟨a, c, rfl, hn⟩ := hs.shape
    clear hn
    generalize (la.map fun n => UInt8.ofNat n.toNat).length = n at *
    have hl' : decide ((200 : Int) < (n : Int)) = true := by simp; omega
    go_enter Try.func5, Try.ntmps5
    go_wp2_with fail
    refine (awake_any _).mono ?_
    rintro e w1 ⟨rfl, f1⟩
    go_wp2_with fail
    go_ret
    exact ⟨rfl, f1⟩
end Go.Proofs.Ytplijlgkchbdaaa
