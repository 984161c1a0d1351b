/-
  package prog: Check; the laws' Awake.
-/
import Derived.Test.YtjifeopiaghmbaaProgValid
namespace Go.Proofs.Ytjifeopiaghmbaa
open Go.RowKit
set_option linter.unusedVariables false

theorem firstE_drop (l : List Ins) (j : Nat) (x : Ins) (hx : l[j]? = some x) : firstE l j (l.drop j) = if insE l j x ≠ 0 then insE l j x else firstE l (j + 1) (l.drop (j + 1)) := by
  have hj := (List.getElem?_eq_some_iff.1 hx)
  rw [List.drop_eq_getElem_cons hj.1, hj.2]
  rfl

theorem insE_le (l : List Ins) (i : Nat) (x : Ins) : insE l i x ≤ 5 := by
  unfold insE
  split
  · omega
  · split
    · omega
    · split
      · omega
      · split <;> omega

theorem checkE_le (l : List Ins) : checkE l ≤ 7 := by
  have h : ∀ (r : List Ins) (i : Nat), firstE l i r ≤ 5 := by
    intro r
    induction r with
    | nil => intro i; simp [firstE]
    | cons x r ih =>
      intro i
      unfold firstE
      split
      · exact insE_le l i x
      · exact ih _
  have := h l 0
  unfold checkE
  split
  · omega
  · split
    · omega
    · split <;> omega

set_option maxRecDepth 100000 in
set_option maxHeartbeats 4000000 in
theorem check_any (l : List Ins) (v : Value) (w : World) (hl : l.length ≤ 100) (h : PSees w v l) :
    Calls Try.prog 7 #[v] w fun e w' => e = .returned (.int .i64 (checkE l : Nat)) ∧ Fr (fun _ => False) w w' := by
  have h0 := Lib.hid h
  obtain ⟨a, cap, rfl, hs⟩ := h.shape
  have Hs := Lib.hid hs
  have hE : checkE l = if 24 < l.length then 7 else if firstE l 0 l ≠ 0 then firstE l 0 l else if 200 < fuelE l then 6 else 0 := rfl
  generalize checkE l = E at hE ⊢
  have HE0 := Lib.hid hE
  clear h hs hE
  by_cases h24 : 24 < l.length
  · have HE := Lib.hid (show E = 7 by rw [HE0.out, if_pos h24])
    clear HE0
    go_enter Try.func7, Try.ntmps7
    go_wp2
    go_ret
    rw [HE.out]
    exact ⟨rfl, Fr.refl _ _⟩
  have HE1 := Lib.hid (show E = if firstE l 0 l ≠ 0 then firstE l 0 l else if 200 < fuelE l then 6 else 0 by rw [HE0.out, if_neg h24])
  clear HE0
  go_enter Try.func7, Try.ntmps7
  go_wp2
  go_loopg [3, 4, 10] l.length (fun G u3 u4 u10 wr => ∃ (j : Nat), j ≤ l.length ∧ G = l.length - j ∧ u10 = .int .i64 j ∧ Hid (firstE l 0 l = firstE l j (l.drop j) ∧ Fr (fun _ => False) w wr))
  case atStart => exact ⟨0, Nat.zero_le _, rfl, rfl, Lib.hid ⟨rfl, Fr.refl _ _⟩⟩
  case round =>
    obtain ⟨j, hj, rfl, rfl, HI⟩ := hrel
    by_cases hlt : j < l.length
    · rcases Hs.out with rfl | ⟨g, rfl, hcap, hat⟩
      · simp at hlt
      obtain ⟨x, hx⟩ : ∃ x, l[j]? = some x := ⟨_, List.getElem?_eq_getElem hlt⟩
      have HC := Lib.hid (ins_any l g cap j x hx wr hl hcap (hat.fr HI.out.2 (fun h => h)))
      have HF := Lib.hid (firstE_drop l j x hx)
      have hle := insE_le l j x
      clear hx hat
      generalize insE l j x = er at *
      by_cases her : er = 0
      · subst her
        have HF := Lib.hid (show firstE l j (l.drop j) = firstE l (j + 1) (l.drop (j + 1)) by rw [HF.out]; simp)
        go_wp2_with fail
        refine HC.out.mono ?_
        rintro r w1 ⟨rfl, f1⟩
        go_wp2
        go_roundg (l.length - (j + 1))
        case measure => omega
        case rel => exact ⟨j + 1, by omega, rfl, by go_num, Lib.hid ⟨by rw [HI.out.1, HF.out], HI.out.2.trans f1 (fun _ _ h => h)⟩⟩
      · have hFe : firstE l 0 l = er := by rw [HI.out.1, HF.out, if_pos her]
        have HE := Lib.hid (show E = er by rw [HE1.out, hFe, if_pos her])
        have e0 : ((er : Int) == 0) = false := by simp; omega
        have e1 : ((er : Int) != 0) = true := by simp; omega
        clear hFe HE1 her HF
        go_wp2_with fail
        refine HC.out.mono ?_
        rintro r w1 ⟨rfl, f1⟩
        go_wp2
        go_ret
        rw [HE.out]
        exact ⟨rfl, HI.out.2.trans f1 (fun _ _ h => h)⟩
    · obtain rfl : j = l.length := by omega
      have hF : firstE l 0 l = 0 := by rw [HI.out.1, List.drop_length]; rfl
      have HE := Lib.hid (show E = if 200 < fuelE l then 6 else 0 by rw [HE1.out, hF]; simp)
      have HC := Lib.hid (fuel_any l _ wr hl (h0.out.fr HI.out.2 (fun _ _ h => h)))
      clear hF HE1
      generalize fuelE l = F at *
      by_cases h200 : 200 < F
      · have HE := Lib.hid (show E = 6 by rw [HE.out, if_pos h200])
        go_wp2_with fail
        refine HC.out.mono ?_
        rintro r w1 ⟨rfl, f1⟩
        go_wp2
        go_ret
        rw [HE.out]
        exact ⟨rfl, HI.out.2.trans f1 (fun _ _ h => h)⟩
      · have HE := Lib.hid (show E = 0 by rw [HE.out, if_neg h200])
        go_wp2_with fail
        refine HC.out.mono ?_
        rintro r w1 ⟨rfl, f1⟩
        go_wp2
        go_ret
        rw [HE.out]
        exact ⟨rfl, HI.out.2.trans f1 (fun _ _ h => h)⟩

set_option maxRecDepth 100000 in
set_option maxHeartbeats 4000000 in
theorem awake_any (w : World) : Calls Try.prog 5 #[] w fun e w' => e = .returned (.bool true) ∧ Fr (fun _ => False) w w' := by
  have hc1 : checkE [⟨9, 0, 0, 1, 3⟩, ⟨3, 0, 0, 0, 0⟩] = 0 := by decide
  have hf1 : fuelE [⟨9, 0, 0, 1, 3⟩, ⟨3, 0, 0, 0, 0⟩] = 4 := by decide
  have hc2 : checkE [⟨8, 0, 0, 0, 1⟩] = 4 := by decide
  have hs1 : ∀ w', Fr (fun _ => False) (w.alloc (.cells #[.int .u8 9, .int .u8 0, .int .u8 0, .int .u8 1, .int .i16 3, .int .u8 3, .int .u8 0, .int .u8 0, .int .u8 0, .int .i16 0] 34)) w' → PSees w' (.slice (some ⟨w.heap.size, 0, none⟩) 2 2) [⟨9, 0, 0, 1, 3⟩, ⟨3, 0, 0, 0, 0⟩] := by
    intro w' f
    have q := box_kept (heap_alloc_new w _) f (fun h => h)
    refine .inr ⟨_, _, rfl, by simp, fun i x hx => ?_⟩
    match i with
    | 0 => cases hx; exact ⟨⟨by decide, by decide, by decide, by decide, by decide, by decide⟩, cells_row q 0 _ rfl, cells_row q 1 _ rfl, cells_row q 2 _ rfl, cells_row q 3 _ rfl, cells_row q 4 _ rfl⟩
    | 1 => cases hx; exact ⟨⟨by decide, by decide, by decide, by decide, by decide, by decide⟩, cells_row q 5 _ rfl, cells_row q 6 _ rfl, cells_row q 7 _ rfl, cells_row q 8 _ rfl, cells_row q 9 _ rfl⟩
    | i + 2 => cases hx
  have hs2 : ∀ w0 : World, PSees (w0.alloc (.cells #[.int .u8 8, .int .u8 0, .int .u8 0, .int .u8 0, .int .i16 1] 34)) (.slice (some ⟨w0.heap.size, 0, none⟩) 1 1) [⟨8, 0, 0, 0, 1⟩] := by
    intro w0
    have q := heap_alloc_new w0 (.cells #[.int .u8 8, .int .u8 0, .int .u8 0, .int .u8 0, .int .i16 1] 34)
    refine .inr ⟨_, _, rfl, by simp, fun i x hx => ?_⟩
    match i with
    | 0 => cases hx; exact ⟨⟨by decide, by decide, by decide, by decide, by decide, by decide⟩, cells_row q 0 _ rfl, cells_row q 1 _ rfl, cells_row q 2 _ rfl, cells_row q 3 _ rfl, cells_row q 4 _ rfl⟩
    | i + 1 => cases hx
  have H1 := Lib.hid hs1
  have H2 := Lib.hid hs2
  have K1 : Hid (∀ w', PSees w' (.slice (some ⟨w.heap.size, 0, none⟩) 2 2) [⟨9, 0, 0, 1, 3⟩, ⟨3, 0, 0, 0, 0⟩] → Calls Try.prog 7 #[.slice (some ⟨w.heap.size, 0, none⟩) 2 2] w' fun e w2 => e = .returned (.int .i64 0) ∧ Fr (fun _ => False) w' w2) := Lib.hid (fun w' h => by have := check_any _ _ w' (by simp) h; rw [hc1] at this; exact this)
  have K2 : Hid (∀ w', PSees w' (.slice (some ⟨w.heap.size, 0, none⟩) 2 2) [⟨9, 0, 0, 1, 3⟩, ⟨3, 0, 0, 0, 0⟩] → Calls Try.prog 8 #[.slice (some ⟨w.heap.size, 0, none⟩) 2 2] w' fun e w2 => e = .returned (.int .i64 4) ∧ Fr (fun _ => False) w' w2) := Lib.hid (fun w' h => by have := fuel_any _ _ w' (by simp) h; rw [hf1] at this; exact this)
  have K3 : Hid (∀ w0 : World, Calls Try.prog 7 #[.slice (some ⟨w0.heap.size, 0, none⟩) 1 1] (w0.alloc (.cells #[.int .u8 8, .int .u8 0, .int .u8 0, .int .u8 0, .int .i16 1] 34)) fun e w2 => e = .returned (.int .i64 4) ∧ Fr (fun _ => False) w0 w2) := Lib.hid (fun w0 => by
    have := check_any _ _ _ (by simp) (H2.out w0)
    rw [hc2] at this
    exact this.mono (fun e w2 h => ⟨h.1, ((Fr.refl _ _).alloc _).trans h.2 (fun _ _ h => h)⟩))
  have f0 : Hid (Fr (fun _ => False) w (w.alloc (.cells #[.int .u8 9, .int .u8 0, .int .u8 0, .int .u8 1, .int .i16 3, .int .u8 3, .int .u8 0, .int .u8 0, .int .u8 0, .int .i16 0] 34))) := Lib.hid ((Fr.refl _ _).alloc _)
  clear hc1 hf1 hc2 hs1 hs2
  go_enter Try.func5, Try.ntmps5
  go_wp2_with fail
  refine (K1.out _ (H1.out _ (Fr.refl _ _))).mono ?_
  rintro r w1 ⟨rfl, f1⟩
  go_wp2_with fail
  refine (K2.out _ (H1.out _ f1)).mono ?_
  rintro r w2 ⟨rfl, f2⟩
  go_wp2_with fail
  refine (K3.out _).mono ?_
  rintro r w3 ⟨rfl, f3⟩
  go_wp2
  go_ret
  exact ⟨rfl, ((f0.out.trans f1 (fun _ _ h => h)).trans f2 (fun _ _ h => h)).trans f3 (fun _ _ h => h)⟩

end Go.Proofs.Ytjifeopiaghmbaa
