/-
  package kind: the check of an interface.
-/
import Derived.Test.YtdaabgnfgdojhaaKindCheckProcs
namespace Go.Proofs.Ytdaabgnfgdojhaa
open Go.RowKit

set_option maxRecDepth 100000 in
set_option maxHeartbeats 16000000 in
theorem check_any (R : Nat → Prop) (t : KTab) (v : Value) (w : World) (ht : Tabled R w t v) :
    Calls Try.prog 16 #[v] w fun e w' => e = .returned (.int .i64 (checkE t)) ∧ Fr (fun _ => False) w w' := by
  have HT := Lib.hid (ht.mono (S := fun k => R k ∧ k < w.heap.size) (fun k hk h => ⟨h, hk⟩))
  obtain ⟨tv, fv, pv, rfl, hnl, hal, hfl, hpl⟩ := ht
  have hall : t.types.length ≤ 1000 := hal.1
  have hfll : t.faults.length ≤ 1000 := hfl.1
  have hpll : t.procs.length ≤ 1000 := hpl.1
  obtain ⟨ta, tc, rfl, _⟩ := hal.shape
  obtain ⟨fa, fc, rfl, _⟩ := hfl.shape
  obtain ⟨pa, pc, rfl, _⟩ := hpl.shape
  clear hal hfl hpl
  have hnm : ∀ w, Calls Try.prog 29 #[.string ⟨t.name.toArray⟩] w fun e w' => e = .returned (.bool (named t.name)) ∧ w = w' := fun w => named_any ⟨t.name.toArray⟩ w (by show t.name.toArray.size ≤ maxLen; simp [maxLen]; omega)
  obtain ⟨w0, hw0⟩ : ∃ w0, w0 = w.alloc (.cells #[sv t.name, .int .i64 t.number, .int .i64 t.version, .slice ta t.types.length tc, .slice fa t.faults.length fc, .slice pa t.procs.length pc] 32) := ⟨_, rfl⟩
  have f0 : Hid (Fr (fun _ => False) w w0) := Lib.hid (by rw [hw0]; exact (Fr.refl _ _).alloc _)
  have q0 : w0.heap[w.heap.size]? = some (.cells #[sv t.name, .int .i64 t.number, .int .i64 t.version, .slice ta t.types.length tc, .slice fa t.faults.length fc, .slice pa t.procs.length pc] 32 (0, 0)) := by rw [hw0]; exact heap_alloc_new _ _
  have Q0 := Lib.hid q0
  have s0 : Hid (w0.heap.size = w.heap.size + 1) := Lib.hid (by rw [hw0]; simp)
  have c0 := cells_row q0 0 _ rfl
  have c1 := cells_row q0 1 _ rfl
  have c2 := cells_row q0 2 _ rfl
  have c3 := cells_row q0 3 _ rfl
  have c4 := cells_row q0 4 _ rfl
  have c5 := cells_row q0 5 _ rfl
  clear q0
  unfold sv at *
  by_cases h1 : named t.name = true
  case neg =>
    have h1' := eq_false_of_ne_true h1
    have ec : Hid (checkE t = 8) := Lib.hid (by unfold checkE; rw [h1']; rfl)
    have H1 := Lib.hid h1'
    clear h1 h1'
    go_enter Try.func16, Try.ntmps16
    go_wp2_with fail
    refine (hnm _).mono ?_
    rintro e w' ⟨rfl, rfl⟩
    rw [H1.out]
    go_wp2
    go_ret
    rw [ec.out, ← hw0]
    exact ⟨rfl, f0.out⟩
  have H1 := Lib.hid h1
  clear h1
  by_cases h2 : validN t.number = true
  case neg =>
    have h2' := eq_false_of_ne_true h2
    have ec : Hid (checkE t = 2) := Lib.hid (by unfold checkE; rw [H1.out, h2']; rfl)
    have H2 := Lib.hid h2'
    clear h2 h2'
    go_enter Try.func16, Try.ntmps16
    go_wp2_with fail
    refine (hnm _).mono ?_
    rintro e w' ⟨rfl, rfl⟩
    rw [H1.out]
    go_wp2_with fail
    refine (validN_any _ _).mono ?_
    rintro e w' ⟨rfl, rfl⟩
    rw [H2.out]
    go_wp2
    go_ret
    rw [ec.out, ← hw0]
    exact ⟨rfl, f0.out⟩
  have H2 := Lib.hid h2
  clear h2
  by_cases h3 : validN t.version = true
  case neg =>
    have h3' := eq_false_of_ne_true h3
    have ec : Hid (checkE t = 2) := Lib.hid (by unfold checkE; rw [H1.out, H2.out, h3']; rfl)
    have H3 := Lib.hid h3'
    clear h3 h3'
    go_enter Try.func16, Try.ntmps16
    go_wp2_with fail
    refine (hnm _).mono ?_
    rintro e w' ⟨rfl, rfl⟩
    rw [H1.out]
    go_wp2_with fail
    refine (validN_any _ _).mono ?_
    rintro e w' ⟨rfl, rfl⟩
    rw [H2.out]
    go_wp2_with fail
    refine (validN_any _ _).mono ?_
    rintro e w' ⟨rfl, rfl⟩
    rw [H3.out]
    go_wp2
    go_ret
    rw [ec.out, ← hw0]
    exact ⟨rfl, f0.out⟩
  have H3 := Lib.hid h3
  clear h3
  by_cases h4 : 16 < t.types.length ∨ 16 < t.faults.length ∨ 16 < t.procs.length
  · have ec : Hid (checkE t = 7) := Lib.hid (by unfold checkE; rw [H1.out, H2.out, H3.out, if_pos h4]; rfl)
    have three : (16 : Int) < (t.types.length : Int) ∨ ¬ (16 : Int) < (t.types.length : Int) ∧ (16 : Int) < (t.faults.length : Int) ∨ ¬ (16 : Int) < (t.types.length : Int) ∧ ¬ (16 : Int) < (t.faults.length : Int) ∧ (16 : Int) < (t.procs.length : Int) := by omega
    clear h4
    rcases three with a1 | ⟨a1, a2⟩ | ⟨a1, a2, a3⟩ <;>
    (go_enter Try.func16, Try.ntmps16
     go_wp2_with fail
     refine (hnm _).mono ?_
     rintro e w' ⟨rfl, rfl⟩
     rw [H1.out]
     go_wp2_with fail
     refine (validN_any _ _).mono ?_
     rintro e w' ⟨rfl, rfl⟩
     rw [H2.out]
     go_wp2_with fail
     refine (validN_any _ _).mono ?_
     rintro e w' ⟨rfl, rfl⟩
     rw [H3.out]
     go_wp2
     go_ret
     rw [ec.out, ← hw0]
     exact ⟨rfl, f0.out⟩)
  have a1 : ¬ (16 : Int) < (t.types.length : Int) := by omega
  have a2 : ¬ (16 : Int) < (t.faults.length : Int) := by omega
  have a3 : ¬ (16 : Int) < (t.procs.length : Int) := by omega
  have ec : Hid (checkE t = if firstE (aliasE t.types) t.types.length ≠ 0 then firstE (aliasE t.types) t.types.length
    else if firstE (faultE (t.types.map (·.1)) t.faults) t.faults.length ≠ 0 then firstE (faultE (t.types.map (·.1)) t.faults) t.faults.length
    else firstE (procE (t.types.map (·.1) ++ t.faults.map (·.1)) t.types t.procs) t.procs.length) := Lib.hid (by rw [checkE, H1.out, H2.out, H3.out, if_neg h4]; rfl)
  clear h4
  obtain ⟨E1, hE1⟩ : ∃ E, E = firstE (aliasE t.types) t.types.length := ⟨_, rfl⟩
  obtain ⟨E2, hE2⟩ : ∃ E, E = firstE (faultE (t.types.map (·.1)) t.faults) t.faults.length := ⟨_, rfl⟩
  obtain ⟨E3, hE3⟩ : ∃ E, E = firstE (procE (t.types.map (·.1) ++ t.faults.map (·.1)) t.types t.procs) t.procs.length := ⟨_, rfl⟩
  have HE := Lib.hid (And.intro hE1 (And.intro hE2 hE3))
  rw [← hE1, ← hE2, ← hE3] at ec
  clear hE1 hE2 hE3
  go_enter Try.func16, Try.ntmps16
  go_wp2_with fail
  refine (hnm _).mono ?_
  rintro e w' ⟨rfl, rfl⟩
  rw [H1.out]
  go_wp2_with fail
  refine (validN_any _ _).mono ?_
  rintro e w' ⟨rfl, rfl⟩
  rw [H2.out]
  go_wp2_with fail
  refine (validN_any _ _).mono ?_
  rintro e w' ⟨rfl, rfl⟩
  rw [H3.out]
  rw [← hw0]
  clear hw0
  go_wp2_with fail
  refine (naming_any _).mono ?_
  rintro e w1 ⟨rfl, f1, N1⟩
  have lt1 : w0.heap.size < w1.heap.size := by
    obtain ⟨⟨_, h, _⟩, _⟩ := N1
    exact lt_of_block h
  have q1 := box_kept Q0.out f1 (fun h => h)
  have c0 := cells_row q1 0 _ rfl
  have c1 := cells_row q1 1 _ rfl
  have c2 := cells_row q1 2 _ rfl
  have c3 := cells_row q1 3 _ rfl
  have c4 := cells_row q1 4 _ rfl
  have c5 := cells_row q1 5 _ rfl
  have hct := checkTypes_any (fun k => R k ∧ k < w.heap.size) t _ w0.heap.size w1 (HT.out.fr (f0.out.trans f1 (fun _ _ h => h)) (fun _ _ h => h)) (fun k hk => by have := s0.out; omega) lt1 N1
  rw [← HE.out.1] at hct
  have Q1 := Lib.hid (And.intro q1 f1)
  clear q1 f1 N1
  unfold namer at *
  go_wp2_with fail
  refine hct.mono ?_
  rintro e w2 ⟨rfl, f2, N2⟩
  have F2 := Lib.hid f2
  have HN2 := Lib.hid N2
  clear f2 N2 hct c0 c1 c2 c3 c4 c5
  by_cases h5 : E1 = 0
  case neg =>
    have h5' : ¬ (E1 : Int) = 0 := by omega
    go_wp2
    go_ret
    rw [ec.out, if_pos h5]
    exact ⟨rfl, (f0.out.trans Q1.out.2 (fun _ _ h => h)).trans F2.out (fun i hi h => by have := s0.out; omega)⟩
  subst h5
  have q2 := box_kept Q1.out.1 F2.out (by have := s0.out; omega)
  have c0 := cells_row q2 0 _ rfl
  have c1 := cells_row q2 1 _ rfl
  have c2 := cells_row q2 2 _ rfl
  have c3 := cells_row q2 3 _ rfl
  have c4 := cells_row q2 4 _ rfl
  have c5 := cells_row q2 5 _ rfl
  have lt2 : w0.heap.size < w2.heap.size := Nat.lt_of_lt_of_le lt1 F2.out.size
  have f02 : Fr (fun _ => False) w w2 := (f0.out.trans Q1.out.2 (fun _ _ h => h)).trans F2.out (fun i hi h => by have := s0.out; omega)
  have hcf := checkFaults_any (fun k => R k ∧ k < w.heap.size) t (t.types.map (·.1)) _ w0.heap.size w2 (by simp; omega) (HT.out.fr f02 (fun _ _ h => h)) (fun k hk => by have := s0.out; omega) lt2 (HN2.out (by first | trivial | rfl))
  rw [← HE.out.2.1] at hcf
  have Q2 := Lib.hid (And.intro q2 f02)
  clear q2 f02
  unfold namer at hcf
  go_wp2_with fail
  refine hcf.mono ?_
  rintro e w3 ⟨rfl, f3, N3⟩
  have F3 := Lib.hid f3
  have HN3 := Lib.hid N3
  clear f3 N3 hcf c0 c1 c2 c3 c4 c5
  by_cases h6 : E2 = 0
  case neg =>
    have h6' : ¬ (E2 : Int) = 0 := by omega
    go_wp2
    go_ret
    rw [ec.out, if_neg (by simp), if_pos h6]
    exact ⟨rfl, Q2.out.2.trans F3.out (fun i hi h => by have := s0.out; omega)⟩
  subst h6
  have q3 := box_kept Q2.out.1 F3.out (by have := s0.out; omega)
  have c0 := cells_row q3 0 _ rfl
  have c1 := cells_row q3 1 _ rfl
  have c2 := cells_row q3 2 _ rfl
  have c3 := cells_row q3 3 _ rfl
  have c4 := cells_row q3 4 _ rfl
  have c5 := cells_row q3 5 _ rfl
  have lt3 : w0.heap.size < w3.heap.size := Nat.lt_of_lt_of_le lt2 F3.out.size
  have f03 : Fr (fun _ => False) w w3 := Q2.out.2.trans F3.out (fun i hi h => by have := s0.out; omega)
  have hcp := checkProcs_any (fun k => R k ∧ k < w.heap.size) t (t.types.map (·.1) ++ t.faults.map (·.1)) _ w0.heap.size w3 (by simp; omega) (HT.out.fr f03 (fun _ _ h => h)) (fun k hk => by have := s0.out; omega) lt3 (HN3.out (by first | trivial | rfl))
  rw [← HE.out.2.2] at hcp
  have F03 := Lib.hid f03
  clear q3 f03
  unfold namer at hcp
  go_wp2_with fail
  refine hcp.mono ?_
  rintro e w4 ⟨rfl, f4⟩
  have F4 := Lib.hid f4
  clear f4 hcp
  go_wp2
  go_ret
  rw [ec.out, if_neg (by simp), if_neg (by simp)]
  exact ⟨rfl, F03.out.trans F4.out (fun i hi h => by have := s0.out; omega)⟩

end Go.Proofs.Ytdaabgnfgdojhaa
