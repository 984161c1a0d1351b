/-
  CouBack, part 20 of what it rests on: KindCheckAll, ValAlone, ValRight.
-/
import Derived.Test.YtplipjijaaejlaaGreatS19
import Derived.Test.YtplipjijaaejlaaGreatS12
import Derived.Test.YtplipjijaaejlaaGreatS13
import Derived.Deep.OwnRows
set_option linter.unusedVariables false
set_option linter.unusedSimpArgs false
set_option maxHeartbeats 64000000
namespace Go.Proofs.YtplipjijaaejlaaGreat
open Go.RowKit
open Go.Lib (hid)
section
set_option maxRecDepth 100000 in
theorem check_any (R : Nat → Prop) (t : KTab) (v : Value) (w : World) (ht : Tabled R w t v) :
    Calls Tryz.prog 68 #[v] w fun e w' => e = .returned (.int .i64 (checkE t)) ∧ Fr (fun _ => False) w w' := by
  have HT := Lib.hid (ht.mono (S := fun k => R k ∧ k < w.heap.size) (fun k hk h => ⟨h, hk⟩))
  obtain ⟨tv, fv, pv, rfl, hnl, hal, hfl, hpl⟩ := ht
  have hall : t.types.length ≤ 1000 := hal.1
  have hfll : t.faults.length ≤ 1000 := hfl.1
  have hpll : t.procs.length ≤ 1000 := hpl.1
  obtain ⟨ta, tc, rfl, _⟩ := hal.shape
  obtain ⟨fa, fc, rfl, _⟩ := hfl.shape
  obtain ⟨pa, pc, rfl, _⟩ := hpl.shape
  clear hal hfl hpl
  have hnm : ∀ w, Calls Tryz.prog 78 #[.string ⟨t.name.toArray⟩] w fun e w' => e = .returned (.bool (named t.name)) ∧ w = w' := fun w => named_any ⟨t.name.toArray⟩ w (by show t.name.toArray.size ≤ maxLen; simp [maxLen]; omega)
  obtain ⟨w0, hw0⟩ : ∃ w0, w0 = w.alloc (.cells #[sv t.name, .int .i64 t.number, .int .i64 t.version, .slice ta t.types.length tc, .slice fa t.faults.length fc, .slice pa t.procs.length pc] 130) := ⟨_, rfl⟩
  have f0 : Hid (Fr (fun _ => False) w w0) := Lib.hid (by rw [hw0]; exact (Fr.refl _ _).alloc _)
  have q0 : w0.heap[w.heap.size]? = some (.cells #[sv t.name, .int .i64 t.number, .int .i64 t.version, .slice ta t.types.length tc, .slice fa t.faults.length fc, .slice pa t.procs.length pc] 130 (0, 0)) := by rw [hw0]; exact heap_alloc_new _ _
  have Q0 := Lib.hid q0
  have s0 : Hid (w0.heap.size = w.heap.size + 1) := Lib.hid (by rw [hw0]; simp)
  have c0 := cells_row q0 0 _ rfl
  have c1 := cells_row q0 1 _ rfl
  have c2 := cells_row q0 2 _ rfl
  have c3 := cells_row q0 3 _ rfl
  have c4 := cells_row q0 4 _ rfl
  have c5 := cells_row q0 5 _ rfl
  clear q0
  unfold sv at *
  by_cases h1 : named t.name = true
  case neg =>
    have h1' := eq_false_of_ne_true h1
    have ec : Hid (checkE t = 8) := Lib.hid (by unfold checkE; rw [h1']; rfl)
    have H1 := Lib.hid h1'
    clear h1 h1'
    go_enter Tryz.func68, Tryz.ntmps68
    go_wp2_with fail
    refine (hnm _).mono ?_
    rintro e w' ⟨rfl, rfl⟩
    rw [H1.out]
    go_wp2
    go_ret
    rw [ec.out, ← hw0]
    exact ⟨rfl, f0.out⟩
  have H1 := Lib.hid h1
  clear h1
  by_cases h2 : validN t.number = true
  case neg =>
    have h2' := eq_false_of_ne_true h2
    have ec : Hid (checkE t = 2) := Lib.hid (by unfold checkE; rw [H1.out, h2']; rfl)
    have H2 := Lib.hid h2'
    clear h2 h2'
    go_enter Tryz.func68, Tryz.ntmps68
    go_wp2_with fail
    refine (hnm _).mono ?_
    rintro e w' ⟨rfl, rfl⟩
    rw [H1.out]
    go_wp2_with fail
    refine (validN_any _ _).mono ?_
    rintro e w' ⟨rfl, rfl⟩
    rw [H2.out]
    go_wp2
    go_ret
    rw [ec.out, ← hw0]
    exact ⟨rfl, f0.out⟩
  have H2 := Lib.hid h2
  clear h2
  by_cases h3 : validN t.version = true
  case neg =>
    have h3' := eq_false_of_ne_true h3
    have ec : Hid (checkE t = 2) := Lib.hid (by unfold checkE; rw [H1.out, H2.out, h3']; rfl)
    have H3 := Lib.hid h3'
    clear h3 h3'
    go_enter Tryz.func68, Tryz.ntmps68
    go_wp2_with fail
    refine (hnm _).mono ?_
    rintro e w' ⟨rfl, rfl⟩
    rw [H1.out]
    go_wp2_with fail
    refine (validN_any _ _).mono ?_
    rintro e w' ⟨rfl, rfl⟩
    rw [H2.out]
    go_wp2_with fail
    refine (validN_any _ _).mono ?_
    rintro e w' ⟨rfl, rfl⟩
    rw [H3.out]
    go_wp2
    go_ret
    rw [ec.out, ← hw0]
    exact ⟨rfl, f0.out⟩
  have H3 := Lib.hid h3
  clear h3
  by_cases h4 : 16 < t.types.length ∨ 16 < t.faults.length ∨ 16 < t.procs.length
  · have ec : Hid (checkE t = 7) := Lib.hid (by unfold checkE; rw [H1.out, H2.out, H3.out, if_pos h4]; rfl)
    have three : (16 : Int) < (t.types.length : Int) ∨ ¬ (16 : Int) < (t.types.length : Int) ∧ (16 : Int) < (t.faults.length : Int) ∨ ¬ (16 : Int) < (t.types.length : Int) ∧ ¬ (16 : Int) < (t.faults.length : Int) ∧ (16 : Int) < (t.procs.length : Int) := by omega
    clear h4
    rcases three with a1 | ⟨a1, a2⟩ | ⟨a1, a2, a3⟩ <;>
    (go_enter Tryz.func68, Tryz.ntmps68
     go_wp2_with fail
     refine (hnm _).mono ?_
     rintro e w' ⟨rfl, rfl⟩
     rw [H1.out]
     go_wp2_with fail
     refine (validN_any _ _).mono ?_
     rintro e w' ⟨rfl, rfl⟩
     rw [H2.out]
     go_wp2_with fail
     refine (validN_any _ _).mono ?_
     rintro e w' ⟨rfl, rfl⟩
     rw [H3.out]
     go_wp2
     go_ret
     rw [ec.out, ← hw0]
     exact ⟨rfl, f0.out⟩)
  have a1 : ¬ (16 : Int) < (t.types.length : Int) := by omega
  have a2 : ¬ (16 : Int) < (t.faults.length : Int) := by omega
  have a3 : ¬ (16 : Int) < (t.procs.length : Int) := by omega
  have ec : Hid (checkE t = if firstE (aliasE t.types) t.types.length ≠ 0 then firstE (aliasE t.types) t.types.length
    else if firstE (faultE (t.types.map (·.1)) t.faults) t.faults.length ≠ 0 then firstE (faultE (t.types.map (·.1)) t.faults) t.faults.length
    else firstE (procE (t.types.map (·.1) ++ t.faults.map (·.1)) t.types t.procs) t.procs.length) := Lib.hid (by rw [checkE, H1.out, H2.out, H3.out, if_neg h4]; rfl)
  clear h4
  obtain ⟨E1, hE1⟩ : ∃ E, E = firstE (aliasE t.types) t.types.length := ⟨_, rfl⟩
  obtain ⟨E2, hE2⟩ : ∃ E, E = firstE (faultE (t.types.map (·.1)) t.faults) t.faults.length := ⟨_, rfl⟩
  obtain ⟨E3, hE3⟩ : ∃ E, E = firstE (procE (t.types.map (·.1) ++ t.faults.map (·.1)) t.types t.procs) t.procs.length := ⟨_, rfl⟩
  have HE := Lib.hid (And.intro hE1 (And.intro hE2 hE3))
  rw [← hE1, ← hE2, ← hE3] at ec
  clear hE1 hE2 hE3
  go_enter Tryz.func68, Tryz.ntmps68
  go_wp2_with fail
  refine (hnm _).mono ?_
  rintro e w' ⟨rfl, rfl⟩
  rw [H1.out]
  go_wp2_with fail
  refine (validN_any _ _).mono ?_
  rintro e w' ⟨rfl, rfl⟩
  rw [H2.out]
  go_wp2_with fail
  refine (validN_any _ _).mono ?_
  rintro e w' ⟨rfl, rfl⟩
  rw [H3.out]
  rw [← hw0]
  clear hw0
  go_wp2_with fail
  refine (naming_any _).mono ?_
  rintro e w1 ⟨rfl, f1, N1⟩
  have lt1 : w0.heap.size < w1.heap.size := by
    obtain ⟨⟨_, h, _⟩, _⟩ := N1
    exact lt_of_block h
  have q1 := box_kept Q0.out f1 (fun h => h)
  have c0 := cells_row q1 0 _ rfl
  have c1 := cells_row q1 1 _ rfl
  have c2 := cells_row q1 2 _ rfl
  have c3 := cells_row q1 3 _ rfl
  have c4 := cells_row q1 4 _ rfl
  have c5 := cells_row q1 5 _ rfl
  have hct := checkTypes_any (fun k => R k ∧ k < w.heap.size) t _ w0.heap.size w1 (HT.out.fr (f0.out.trans f1 (fun _ _ h => h)) (fun _ _ h => h)) (fun k hk => by have := s0.out; omega) lt1 N1
  rw [← HE.out.1] at hct
  have Q1 := Lib.hid (And.intro q1 f1)
  clear q1 f1 N1
  unfold namer at *
  go_wp2_with fail
  refine hct.mono ?_
  rintro e w2 ⟨rfl, f2, N2⟩
  have F2 := Lib.hid f2
  have HN2 := Lib.hid N2
  clear f2 N2 hct c0 c1 c2 c3 c4 c5
  by_cases h5 : E1 = 0
  case neg =>
    have h5' : ¬ (E1 : Int) = 0 := by omega
    go_wp2
    go_ret
    rw [ec.out, if_pos h5]
    exact ⟨rfl, (f0.out.trans Q1.out.2 (fun _ _ h => h)).trans F2.out (fun i hi h => by have := s0.out; omega)⟩
  subst h5
  have q2 := box_kept Q1.out.1 F2.out (by have := s0.out; omega)
  have c0 := cells_row q2 0 _ rfl
  have c1 := cells_row q2 1 _ rfl
  have c2 := cells_row q2 2 _ rfl
  have c3 := cells_row q2 3 _ rfl
  have c4 := cells_row q2 4 _ rfl
  have c5 := cells_row q2 5 _ rfl
  have lt2 : w0.heap.size < w2.heap.size := Nat.lt_of_lt_of_le lt1 F2.out.size
  have f02 : Fr (fun _ => False) w w2 := (f0.out.trans Q1.out.2 (fun _ _ h => h)).trans F2.out (fun i hi h => by have := s0.out; omega)
  have hcf := checkFaults_any (fun k => R k ∧ k < w.heap.size) t (t.types.map (·.1)) _ w0.heap.size w2 (by simp; omega) (HT.out.fr f02 (fun _ _ h => h)) (fun k hk => by have := s0.out; omega) lt2 (HN2.out (by first | trivial | rfl))
  rw [← HE.out.2.1] at hcf
  have Q2 := Lib.hid (And.intro q2 f02)
  clear q2 f02
  unfold namer at hcf
  go_wp2_with fail
  refine hcf.mono ?_
  rintro e w3 ⟨rfl, f3, N3⟩
  have F3 := Lib.hid f3
  have HN3 := Lib.hid N3
  clear f3 N3 hcf c0 c1 c2 c3 c4 c5
  by_cases h6 : E2 = 0
  case neg =>
    have h6' : ¬ (E2 : Int) = 0 := by omega
    go_wp2
    go_ret
    rw [ec.out, if_neg (by simp), if_pos h6]
    exact ⟨rfl, Q2.out.2.trans F3.out (fun i hi h => by have := s0.out; omega)⟩
  subst h6
  have q3 := box_kept Q2.out.1 F3.out (by have := s0.out; omega)
  have c0 := cells_row q3 0 _ rfl
  have c1 := cells_row q3 1 _ rfl
  have c2 := cells_row q3 2 _ rfl
  have c3 := cells_row q3 3 _ rfl
  have c4 := cells_row q3 4 _ rfl
  have c5 := cells_row q3 5 _ rfl
  have lt3 : w0.heap.size < w3.heap.size := Nat.lt_of_lt_of_le lt2 F3.out.size
  have f03 : Fr (fun _ => False) w w3 := Q2.out.2.trans F3.out (fun i hi h => by have := s0.out; omega)
  have hcp := checkProcs_any (fun k => R k ∧ k < w.heap.size) t (t.types.map (·.1) ++ t.faults.map (·.1)) _ w0.heap.size w3 (by simp; omega) (HT.out.fr f03 (fun _ _ h => h)) (fun k hk => by have := s0.out; omega) lt3 (HN3.out (by first | trivial | rfl))
  rw [← HE.out.2.2] at hcp
  have F03 := Lib.hid f03
  clear q3 f03
  unfold namer at hcp
  go_wp2_with fail
  refine hcp.mono ?_
  rintro e w4 ⟨rfl, f4⟩
  have F4 := Lib.hid f4
  clear f4 hcp
  go_wp2
  go_ret
  rw [ec.out, if_neg (by simp), if_neg (by simp)]
  exact ⟨rfl, F03.out.trans F4.out (fun i hi h => by have := s0.out; omega)⟩
end
section
def tZero : Array Value := #[.int .u8 0, .int .i64 0, .slice none 0 0, .slice none 0 0]

/-- make of n types. -/
theorem run_make4 (n : Nat) (hn : n ≤ 1000) (w : World) :
    (Instr.makeSlice 32 (.int .i64 (n : Int)) (.int .i64 (n : Int))).run Tryz.prog w = .ok (.slice (some ⟨w.heap.size, 0, none⟩) n n) (w.alloc (.cells (madeCells tZero (n * 4)) 34)) := by
  obtain ⟨i, hi, hz0, hz1, hz2⟩ := info_parts Tryz.infoType
  have hr := run_make (P := Tryz.prog) w 32 34 i _ Tryz.underlying32 hi hz0 .i64 .i64 n n (by omega) (Int.le_refl _) (by rw [hz2]; omega) (by omega)
  simp only [Int.toNat_natCast, hz1] at hr
  exact hr

theorem made_cell (n i j : Nat) (hi : i < n) (hj : j < 4) : (madeCells tZero (n * 4))[i * 4 + j]? = tZero[j]? := by
  have h4 : tZero.size = 4 := rfl
  have hlt : i * 4 + j < n * 4 := by omega
  have e : (i * 4 + j) % 4 = j := by omega
  rw [madeCells, h4, Array.getElem?_map, Array.getElem?_range, if_pos hlt]
  simp only [Option.map_some, e]
  rcases (by omega : j = 0 ∨ j = 1 ∨ j = 2 ∨ j = 3) with rfl | rfl | rfl | rfl <;> rfl

def aloneT (k : Nat) (m : Int) (ns : List Txt) (n : Nat) : KTab := ⟨[97], 0, 0, [([116], .mk k m ns n (fun _ => zeroT))], [], []⟩

/-- Would it be right if its parts were? -/
def aloneE : KT → Bool
  | .nil => false
  | .mk k m ns n _ => decide (n ≤ 12) && decide (checkE (aloneT k m ns n) = 0)

set_option maxRecDepth 100000 in
theorem alone_any (R : Nat → Prop) (t : KT) (v : Value) (w : World) (h : Shows R w t v) :
    Calls Tryz.prog 39 #[v] w fun e w' => e = .returned (.bool (aloneE t)) ∧ Fr (fun _ => False) w w' := by
  cases t with
  | nil => exact h.elim
  | mk k m ns n of =>
  obtain ⟨vn, vo, rfl, hk, hn, ht, ho⟩ := h
  obtain ⟨a, c, rfl, _⟩ := ht.shape
  obtain ⟨a', c', rfl⟩ : ∃ a' c', vo = .slice a' n c' := by
    rcases ho with ⟨rfl, a', c', rfl⟩ | ⟨g, off, cap, _, rfl, _⟩
    · exact ⟨a', c', rfl⟩
    · exact ⟨_, cap, rfl⟩
  clear ho
  have HT := Lib.hid ht
  clear ht
  by_cases h12 : 12 < n
  · have b : 12 < (n : Int) := by omega
    have E : Hid (aloneE (.mk k m ns n of) = false) := Lib.hid (by show (decide (n ≤ 12) && _) = false; rw [decide_eq_false (by omega)]; rfl)
    clear h12
    go_enter Tryz.func39, Tryz.ntmps39
    go_wp2
    go_ret
    rw [E.out]
    exact ⟨rfl, (Fr.refl _ _).alloc _⟩
  · have b : ¬ 12 < (n : Int) := by omega
    have E : Hid (aloneE (.mk k m ns n of) = decide (checkE (aloneT k m ns n) = 0)) := Lib.hid (by show (decide (n ≤ 12) && _) = _; rw [decide_eq_true (by omega)]; rfl)
    have mk := run_make4 n hn
    go_enter Tryz.func39, Tryz.ntmps39
    go_upto_region 3 with fail
    obtain ⟨w1, hw1⟩ : ∃ w1, w1 = w.alloc (.cells #[.int .u8 k, .int .i64 m, .slice a ns.length c, .slice a' n c'] 34) := ⟨_, rfl⟩
    rw [← hw1]
    have q1 : w1.heap[w.heap.size]? = some (.cells #[.int .u8 k, .int .i64 m, .slice a ns.length c, .slice a' n c'] 34 (0, 0)) := by rw [hw1]; exact heap_alloc_new _ _
    have f1 : Fr (fun _ => False) w w1 := by rw [hw1]; exact (Fr.refl _ _).alloc _
    have s1 : w.heap.size < w1.heap.size := lt_of_block q1
    have c3 := cells_row q1 3 _ rfl
    have z3 : w1.frozen? ⟨w.heap.size, 3, none⟩ = false := by simp [World.frozen?, q1]
    have n1 : w.heap.size ≠ w1.heap.size := by omega
    have n2 : w1.heap.size ≠ w.heap.size := by omega
    have Q1 := Lib.hid (And.intro q1 f1)
    clear hw1 q1 f1
    go_upto_region 4 with fail
    obtain ⟨w2, hw2⟩ : ∃ w2, w2 = (w1.setCell ⟨w.heap.size, 3, none⟩ (.slice (some ⟨w1.heap.size, 0, none⟩) n n)).alloc (.cells (madeCells tZero (n * 4)) 34) := ⟨_, rfl⟩
    rw [← hw2]
    have sz1 : (w1.setCell ⟨w.heap.size, 3, none⟩ (.slice (some ⟨w1.heap.size, 0, none⟩) n n)).heap.size = w1.heap.size := by simp [World.setCell]
    have f2 : Fr (fun k => k = w.heap.size) w1 w2 := by rw [hw2]; exact ((Fr.refl _ _).set1 _ _).alloc _
    have m2 : w2.heap[w1.heap.size]? = some (.cells (madeCells tZero (n * 4)) 34 (0, 0)) := by
      rw [hw2]
      have := heap_alloc_new (w1.setCell ⟨w.heap.size, 3, none⟩ (.slice (some ⟨w1.heap.size, 0, none⟩) n n)) (.cells (madeCells tZero (n * 4)) 34)
      rw [sz1] at this
      exact this
    have q2 : w2.heap[w.heap.size]? = some (.cells #[.int .u8 k, .int .i64 m, .slice a ns.length c, .slice (some ⟨w1.heap.size, 0, none⟩) n n] 34 (0, 0)) := by
      rw [hw2, Below.heap_alloc _ _ _ (by rw [sz1]; exact s1), setCell_row 3 _ Q1.out.1]
      rfl
    have F2 := Lib.hid (Q1.out.2.trans f2 (fun i hi h => by omega))
    have d0 := cells_row q2 0 _ rfl
    have d1 := cells_row q2 1 _ rfl
    have d2 := cells_row q2 2 _ rfl
    have d3 := cells_row q2 3 _ rfl
    have M2 := Lib.hid m2
    clear hw2 sz1 f2 m2 q2 c3 z3 n1 n2 mk
    obtain ⟨w4, hw4⟩ : ∃ w4, w4 = (w2.alloc (.cells #[.string ⟨#[116]⟩, .int .u8 k, .int .i64 m, .slice a ns.length c, .slice (some ⟨w1.heap.size, 0, none⟩) n n] 125)).alloc (.cells #[.string ⟨#[97]⟩, .int .i64 0, .int .i64 0, .slice (some ⟨w2.heap.size, 0, none⟩) 1 1, .slice none 0 0, .slice none 0 0] 130) := ⟨_, rfl⟩
    have f4 : Fr (fun _ => False) w2 w4 := by rw [hw4]; exact ((Fr.refl _ _).alloc _).alloc _
    have qa : w4.heap[w2.heap.size]? = some (.cells #[.string ⟨#[116]⟩, .int .u8 k, .int .i64 m, .slice a ns.length c, .slice (some ⟨w1.heap.size, 0, none⟩) n n] 125 (0, 0)) := by rw [hw4]; exact heap_alloc_first _ _ _
    have m4 := box_kept M2.out f4 (fun h => h)
    have ht4 := (HT.out.fr F2.out (fun _ _ h => h)).fr f4 (fun _ _ h => h)
    have htab : Tabled (fun _ => True) w4 (aloneT k m ns n) (.agg #[.string ⟨#[97]⟩, .int .i64 0, .int .i64 0, .slice (some ⟨w2.heap.size, 0, none⟩) 1 1, .slice none 0 0, .slice none 0 0]) := by
      refine ⟨_, _, _, rfl, by simp [aloneT], ⟨by simp [aloneT], by simp [aloneT], .inr ⟨w2.heap.size, 0, 1, trivial, rfl, Nat.le_refl _, fun i x hi => ?_⟩⟩, ⟨by simp [aloneT], by simp [aloneT], .inl ⟨rfl, _, _, rfl⟩⟩, ⟨by simp [aloneT], by simp [aloneT], .inl ⟨rfl, _, _, rfl⟩⟩⟩
      have hi0 := (List.getElem?_eq_some_iff.1 hi).1
      obtain rfl : i = 0 := by simpa [aloneT] using hi0
      simp [aloneT] at hi
      subst hi
      refine ⟨_, _, _, _, cells_row qa 0 _ rfl, cells_row qa 1 _ rfl, cells_row qa 2 _ rfl, cells_row qa 3 _ rfl, cells_row qa 4 _ rfl, _, _, rfl, hk, hn, ht4.mono (fun _ _ _ => trivial), .inr ⟨w1.heap.size, 0, n, trivial, rfl, Nat.le_refl _, fun i hi => ?_⟩⟩
      have hcell : ∀ j, j < 4 → w4.cell? ⟨w1.heap.size, 0 + i * 4 + j, none⟩ = tZero[j]? := fun j hj => by
        rw [cell_of_row w4 _ _ _ _ _ m4, Nat.zero_add, made_cell n i j hi hj]
      exact ⟨_, _, _, _, hcell 0 (by omega), hcell 1 (by omega), hcell 2 (by omega), hcell 3 (by omega), zero_shows _ _⟩
    have hck := check_any (fun _ => True) (aloneT k m ns n) _ w4 htab
    have F4 := Lib.hid (F2.out.trans f4 (fun _ _ h => h))
    have HW4 := Lib.hid hw4
    clear f4 qa m4 ht4 htab
    rw [hw4] at hck
    clear hw4
    go_wp2_with fail
    refine hck.mono ?_
    rintro e w5 ⟨rfl, f5⟩
    rw [← HW4.out] at f5
    have F5 := Lib.hid (F4.out.trans f5 (fun _ _ h => h))
    clear f5 hck d0 d1 d2 d3
    obtain ⟨E0, hE0⟩ : ∃ E0, E0 = checkE (aloneT k m ns n) := ⟨_, rfl⟩
    have EE := Lib.hid (E.out.trans (show _ = decide (E0 = 0) by rw [hE0]))
    rw [← hE0]
    clear hE0
    go_wp2
    go_ret
    refine ⟨ret_bool ?_, F5.out⟩
    rw [EE.out, Bool.eq_iff_iff]
    simp
end
section
/-- The parts in order, as long as all are right. -/
def surveyL (f : Nat → Nat → Bool × Nat) : Nat → Nat → Bool × Nat
  | 0, p => (true, p)
  | j + 1, p => if (surveyL f j p).1 then f j (surveyL f j p).2 else surveyL f j p

/-- Is it right, and how many types were begun by then? -/
def surveyE : KT → Nat → Nat → Bool × Nat
  | .nil, _, p => (false, p)
  | .mk k m ns n of, lv, p =>
    if 1048576 < p + 1 ∨ lv = 0 ∨ aloneE (.mk k m ns n of) = false then (false, p + 1)
    else surveyL (fun i => surveyE (of i) (lv - 1)) n (p + 1)

theorem surveyL_le (f : Nat → Nat → Bool × Nat) (h : ∀ i p, p ≤ 1048576 → (f i p).1 = true → (f i p).2 ≤ 1048576) (j p : Nat) (hp : p ≤ 1048576) : (surveyL f j p).1 = true → (surveyL f j p).2 ≤ 1048576 := by
  induction j with
  | zero => intro _; exact hp
  | succ j ih =>
    unfold surveyL
    split
    · intro h1
      exact h j _ (ih ‹_›) h1
    · intro h1
      exact ih h1

theorem surveyE_le (t : KT) : ∀ lv p, p ≤ 1048576 → (surveyE t lv p).1 = true → (surveyE t lv p).2 ≤ 1048576 := by
  induction t with
  | nil => intro lv p hp h; exact hp
  | mk k m ns n of ih =>
    intro lv p hp
    unfold surveyE
    split
    · intro h; cases h
    · exact surveyL_le _ (fun i q hq => ih i _ q hq) n (p + 1) (by omega)

theorem surveyL_stop (f : Nat → Nat → Bool × Nat) (n j p : Nat) (hj : j < n) (h : (surveyL f (j + 1) p).1 = false) : surveyL f n p = surveyL f (j + 1) p := by
  induction n with
  | zero => omega
  | succ n ih =>
    by_cases e : j = n
    · subst e; rfl
    · rw [surveyL, ih (by omega), h]
      rfl

set_option maxRecDepth 100000 in
theorem survey_any (t : KT) : ∀ (R : Nat → Prop) (v : Value) (w : World) (b lv : Nat) (lz : Int) (p : Nat), lz = lv → lv ≤ 1000 → p ≤ 1048576 → ¬ R b → Shows R w t v → w.heap[b]? = some (.cells #[.int .i64 (p : Nat)] 62 (0, 0)) →
    Calls Tryz.prog 18 #[.pointer (some ⟨b, 0, none⟩), v, .int .i64 lz] w fun e w' => e = .returned (.bool (surveyE t lv p).1) ∧ Fr (fun k => k = b) w w' ∧ w'.heap[b]? = some (.cells #[.int .i64 ((surveyE t lv p).2 : Nat)] 62 (0, 0)) := by
  induction t with
  | nil => exact fun _ _ _ _ _ _ _ _ _ _ _ h => h.elim
  | mk k m ns n of ih =>
  intro R v w b lv lz p hlz hlv hp hRb hsh hb
  have HSH := Lib.hid hsh
  obtain ⟨vn, vo, rfl, hk, hn, ht, ho⟩ := hsh
  obtain ⟨a, c, rfl, _⟩ := ht.shape
  obtain ⟨a', c', rfl, hs⟩ : ∃ a' c', vo = .slice a' n c' ∧ Kids R w of a' n c' := by
    rcases ho with ⟨rfl, a', c', rfl⟩ | ⟨g, off, cap, hg, rfl, hle, hc⟩
    · exact ⟨a', c', rfl, .inl rfl⟩
    · exact ⟨_, cap, rfl, .inr ⟨hle, g, off, hg, rfl, hc⟩⟩
  have HS := Lib.hid hs
  have HLZ := Lib.hid hlz
  have HB := Lib.hid hb
  have HRB := Lib.hid hRb
  have hbl : b < w.heap.size := lt_of_block hb
  have r0 := cells_row hb 0 _ rfl
  have z0 : w.frozen? ⟨b, 0, none⟩ = false := by simp [World.frozen?, hb]
  have n1 : b ≠ w.heap.size := by omega
  have n2 : w.heap.size ≠ b := by omega
  have lz0 : 0 ≤ lz := by omega
  have lz1 : lz ≤ 1000 := by omega
  clear ho hs hlz hb ht hRb
  go_enter Tryz.func18, Tryz.ntmps18
  go_upto_region 2 with fail
  obtain ⟨w1, hw1⟩ : ∃ w1, w1 = (w.setCell ⟨b, 0, none⟩ (.int .i64 ((p : Int) + 1))).alloc (.cells #[.int .u8 k, .int .i64 m, .slice a ns.length c, .slice a' n c'] 34) := ⟨_, rfl⟩
  rw [← hw1]
  have sz1 : (w.setCell ⟨b, 0, none⟩ (.int .i64 ((p : Int) + 1))).heap.size = w.heap.size := by simp [World.setCell]
  have f1 : Fr (fun k => k = b) w w1 := by rw [hw1]; exact ((Fr.refl _ _).set1 _ _).alloc _
  have q1 : w1.heap[w.heap.size]? = some (.cells #[.int .u8 k, .int .i64 m, .slice a ns.length c, .slice a' n c'] 34 (0, 0)) := by
    rw [hw1]
    have := heap_alloc_new (w.setCell ⟨b, 0, none⟩ (.int .i64 ((p : Int) + 1))) (.cells #[.int .u8 k, .int .i64 m, .slice a ns.length c, .slice a' n c'] 34)
    rw [sz1] at this
    exact this
  have b1 : w1.heap[b]? = some (.cells #[.int .i64 ((p + 1 : Nat) : Int)] 62 (0, 0)) := by
    rw [hw1, Below.heap_alloc _ _ _ (by rw [sz1]; exact hbl), setCell_row 0 _ HB.out]
    simp
  obtain ⟨q, hq⟩ : ∃ q : Nat, p + 1 = q := ⟨_, rfl⟩
  rw [hq] at b1
  have HQ := Lib.hid hq
  have HP := Lib.hid hp
  have r1 := cells_row b1 0 _ rfl
  have c3 := cells_row q1 3 _ rfl
  have c0 := cells_row q1 0 _ rfl
  have c1 := cells_row q1 1 _ rfl
  have c2 := cells_row q1 2 _ rfl
  have Q1 := Lib.hid (And.intro q1 (And.intro b1 f1))
  clear hw1 sz1 f1 q1 b1 r0 z0 n1 n2 hq hp
  by_cases h1 : 1048576 < q
  · have h1' : 1048576 < (q : Int) := by omega
    have E : Hid (surveyE (.mk k m ns n of) lv p = (false, q)) := Lib.hid (by rw [surveyE, HQ.out, if_pos (.inl h1)])
    clear h1
    go_wp2
    go_ret
    rw [E.out]
    exact ⟨rfl, Q1.out.2.2, Q1.out.2.1⟩
  have h1' : ¬ 1048576 < (q : Int) := by omega
  by_cases h2 : lv = 0
  · have h2' : lz = 0 := by have := HLZ.out; omega
    have E : Hid (surveyE (.mk k m ns n of) lv p = (false, q)) := Lib.hid (by rw [surveyE, HQ.out, if_pos (.inr (.inl h2))])
    clear h1 h2
    subst h2'
    go_wp2
    go_ret
    rw [E.out]
    exact ⟨rfl, Q1.out.2.2, Q1.out.2.1⟩
  have h2' : ¬ lz = 0 := by have := HLZ.out; omega
  have b2' : (lz == 0) = false := by simpa using h2'
  have H12 := Lib.hid (And.intro h1 h2)
  clear h1 h2
  have hal := alone_any R (.mk k m ns n of) _ w1 (Shows.fr Q1.out.2.2 (fun k hk e => HRB.out (by rw [← e]; exact hk)) _ _ HSH.out)
  cases hB : aloneE (.mk k m ns n of) with
  | false =>
    have E : Hid (surveyE (.mk k m ns n of) lv p = (false, q)) := Lib.hid (by rw [surveyE, HQ.out, if_pos (.inr (.inr hB))])
    rw [hB] at hal
    clear hB
    go_wp2_with fail
    refine hal.mono ?_
    rintro e w2 ⟨rfl, f2⟩
    have F2 := Lib.hid f2
    clear f2 hal
    go_wp2
    go_ret
    rw [E.out]
    exact ⟨rfl, Q1.out.2.2.trans F2.out (fun i _ h => h.elim), box_kept Q1.out.2.1 F2.out (fun h => h)⟩
  | true =>
    have E : Hid (surveyE (.mk k m ns n of) lv p = surveyL (fun i => surveyE (of i) (lv - 1)) n q) := Lib.hid (by rw [surveyE, HQ.out, if_neg (by rw [hB]; have := H12.out; simp; omega)])
    rw [hB] at hal
    clear hB
    go_wp2_with fail
    refine hal.mono ?_
    rintro e w2 ⟨rfl, f2⟩
    have q2 := box_kept Q1.out.1 f2 (fun h => h)
    have e3 := cells_row q2 3 _ rfl
    have F2 := Lib.hid (And.intro (Q1.out.2.2.trans f2 (fun i _ h => h.elim)) (And.intro q2 (box_kept Q1.out.2.1 f2 (fun h => h))))
    clear f2 hal q2 c0 c1 c2 c3 r1
    go_wp2
    clear e3
    obtain ⟨f, hf⟩ : ∃ f : Nat → Nat → Bool × Nat, f = (fun i => surveyE (of i) (lv - 1)) := ⟨_, rfl⟩
    have HF := Lib.hid hf
    have E2 : Hid (surveyE (.mk k m ns n of) lv p = surveyL f n q) := Lib.hid (by rw [E.out, hf])
    clear hf
    go_loopg [8, 33] n (fun G u8 u33 wr => ∃ j : Nat, j ≤ n ∧ G = n - j ∧ u33 = .int .i64 j ∧ Hid ((surveyL f j q).1 = true ∧ (surveyL f j q).2 ≤ 1048576 ∧ Fr (fun k => k = b) w wr ∧ wr.heap[b]? = some (.cells #[.int .i64 ((surveyL f j q).2 : Nat)] 62 (0, 0))))
    case atStart => exact ⟨0, Nat.zero_le _, rfl, by go_num, Lib.hid ⟨rfl, by have := H12.out; show q ≤ _; omega, F2.out.1, F2.out.2.2⟩⟩
    case round =>
      obtain ⟨j, hj, rfl, rfl, HI⟩ := hrel
      by_cases hlt : j < n
      · rcases HS.out with hz | ⟨hcap, g, off, hg, rfl, hcell⟩
        · omega
        have hgb : ∀ k, R k → ¬ k = b := fun k hk e => HRB.out (by rw [← e]; exact hk)
        obtain ⟨x0, x1, x2, x3, y0, y1, y2, y3, hx⟩ := hcell j hlt
        have y0 := cell_fr HI.out.2.2.1 hgb hg y0
        have y1 := cell_fr HI.out.2.2.1 hgb hg y1
        have y2 := cell_fr HI.out.2.2.1 hgb hg y2
        have y3 := cell_fr HI.out.2.2.1 hgb hg y3
        obtain ⟨xk, xm, xa, xn, xc, xa', xn', xc', rfl, rfl, rfl, rfl⟩ := hx.cells
        obtain ⟨wz, hwz⟩ : ∃ wz, wz = wr.alloc (.cells #[.int .u8 xk, .int .i64 xm, .slice xa xn xc, .slice xa' xn' xc'] 34) := ⟨_, rfl⟩
        have fz : Fr (fun k => k = b) wr wz := by rw [hwz]; exact (Fr.refl _ _).alloc _
        have bz : wz.heap[b]? = some (.cells #[.int .i64 ((surveyL f j q).2 : Nat)] 62 (0, 0)) := by
          rw [hwz, Below.heap_alloc _ _ _ (lt_of_block HI.out.2.2.2)]; exact HI.out.2.2.2
        have hxz := Shows.fr fz hgb _ _ (Shows.fr HI.out.2.2.1 hgb _ _ hx)
        have hrec := ih j R _ wz b (lv - 1) (lz - 1) ((surveyL f j q).2) (by have := HLZ.out; have := H12.out; omega) (by omega) HI.out.2.1 HRB.out hxz bz
        have e1 : surveyE (of j) (lv - 1) (surveyL f j q).2 = surveyL f (j + 1) q := by
          have h1 : f j (surveyL f j q).2 = surveyE (of j) (lv - 1) (surveyL f j q).2 := by rw [HF.out]
          rw [← h1, surveyL, if_pos HI.out.1]
        rw [e1] at hrec
        have hle : (surveyL f (j + 1) q).1 = true → (surveyL f (j + 1) q).2 ≤ 1048576 := surveyL_le f (by rw [HF.out]; exact fun i q hq => surveyE_le (of i) _ q hq) _ _ (by have := H12.out; omega)
        have HLE := Lib.hid hle
        have FZ := Lib.hid (HI.out.2.2.1.trans fz (fun _ _ h => h))
        have HLT := Lib.hid hlt
        rw [hwz] at hrec
        have HWZ := Lib.hid hwz
        clear hcell hx hxz bz fz hwz e1 hle
        cases hB : (surveyL f (j + 1) q).1 with
        | true =>
          rw [hB] at hrec
          have HB2 := Lib.hid hB
          clear hB
          go_wp2_with fail
          refine hrec.mono ?_
          rintro e w5 ⟨rfl, f5, b5⟩
          rw [← HWZ.out] at f5
          have F5 := Lib.hid (And.intro f5 b5)
          clear f5 b5 hrec
          go_wp2
          go_roundg (n - (j + 1))
          case measure => omega
          case rel => exact ⟨j + 1, by omega, rfl, by go_num, Lib.hid ⟨HB2.out, HLE.out HB2.out, FZ.out.trans F5.out.1 (fun _ _ h => h), F5.out.2⟩⟩
        | false =>
          have E3 : Hid (surveyE (.mk k m ns n of) lv p = surveyL f (j + 1) q) := Lib.hid (by rw [E2.out]; exact surveyL_stop f n j _ hlt hB)
          have HB2 := Lib.hid hB
          rw [hB] at hrec
          clear hB
          go_wp2_with fail
          refine hrec.mono ?_
          rintro e w5 ⟨rfl, f5, b5⟩
          rw [← HWZ.out] at f5
          have F5 := Lib.hid (And.intro f5 b5)
          clear f5 b5 hrec
          go_wp2
          go_ret
          rw [E3.out]
          exact ⟨ret_bool HB2.out.symm, FZ.out.trans F5.out.1 (fun _ _ h => h), F5.out.2⟩
      · obtain rfl : j = n := by omega
        go_wp2
        go_ret
        rw [E2.out]
        exact ⟨ret_bool HI.out.1.symm, HI.out.2.2.1, HI.out.2.2.2⟩
end
end Go.Proofs.YtplipjijaaejlaaGreat
