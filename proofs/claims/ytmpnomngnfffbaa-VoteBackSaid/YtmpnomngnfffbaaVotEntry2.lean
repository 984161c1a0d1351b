/-
  Entries: which may be.
-/
import Derived.Test.YtmpnomngnfffbaaVotEntry
namespace Go.Proofs.Ytmpnomngnfffbaa
open Go.RowKit
set_option maxRecDepth 100000

/-- The first error of an entry. -/
def En.chk (x : En) : Int :=
  if 3 ≤ x.k then 5
  else if (x.k ≠ 1 ∧ ¬ (x.t = 0 ∧ x.n = 0 ∧ x.p = 0 ∧ x.l = [])) ∨ (x.k ≠ 2 ∧ x.m ≠ []) then 4
  else if x.k = 1 then cchk x.p x.l.length
  else if x.k = 2 then chkM x.m else 0

set_option maxHeartbeats 8000000 in
theorem vcheck_any (x : En) (v u : Value) (w : World) (h1 : ES w x v u) (hs : x.m.length ≤ 1000) (hk0 : 0 ≤ x.k) (hk1 : x.k ≤ 255) :
    Calls Try.prog 14 #[x.val v u] w fun e w' => e = .returned (.int .i64 x.chk) ∧ Fr (fun _ => False) w w' := by
  obtain ⟨h1, g1⟩ := h1
  obtain ⟨b, d, hu', k1⟩ := g1.shape
  obtain ⟨a, c, hv, hnn⟩ := h1.shape
  subst hu' hv
  have H1 := Lib.hid h1
  have G1 := Lib.hid k1
  have HS := Lib.hid hs
  clear h1 g1 hnn k1 hs
  have q0 := heap_alloc_new w (x.obj (.slice a x.l.length c) (.slice b x.m.length d))
  have F := Lib.hid (show Fr (fun _ => False) w (w.alloc (x.obj (.slice a x.l.length c) (.slice b x.m.length d))) from (Fr.refl _ _).alloc _)
  have Q := Lib.hid q0
  clear q0
  obtain ⟨R, hR⟩ : ∃ R, R = x.chk := ⟨_, rfl⟩
  have HR := Lib.hid hR
  rw [← hR]
  clear hR
  go_enter Try.func14, Try.ntmps14
  go_upto_region 1 with fail
  generalize w.alloc (x.obj (.slice a x.l.length c) (.slice b x.m.length d)) = w0 at *
  obtain ⟨c00, c01, c02, c03, c04, c05⟩ := en_cells Q.out
  obtain ⟨k, hk⟩ : ∃ k, k = x.k := ⟨_, rfl⟩
  rw [← hk] at c00 hk0 hk1
  have HK := Lib.hid hk
  have HK2 := Lib.hid hk
  have hcase : 3 ≤ k ∨ k = 1 ∨ k = 2 ∨ k = 0 := by omega
  clear hk
  have hz : Sees w0 nilS [] := .inl ⟨rfl, _, _, rfl⟩
  rcases hcase with h | h | h | h
  · have hR : R = 5 := by rw [HR.out]; unfold En.chk; rw [if_pos (by rw [← HK.out]; exact h)]
    clear HR
    go_wp2_with fail
    go_ret
    rw [hR]
    exact ⟨rfl, F.out⟩
  · subst h
    have hR : R = if x.m = [] then cchk x.p x.l.length else 4 := by
      rw [HR.out]; unfold En.chk
      rw [← HK.out]
      by_cases hm : x.m = [] <;> simp [hm]
    clear HR HK
    by_cases hm : x.m = []
    · rw [if_pos hm] at hR
      have hl0 : x.m.length = 0 := by simp [hm]
      have HRR := Lib.hid hR
      clear hR hm
      go_wp2_with fail
      refine (ccheck_any x.t x.n x.p a x.l.length c w0).mono ?_
      rintro e w1 ⟨rfl, f1⟩
      have F1 := Lib.hid (F.out.trans f1 (fun _ _ h => h))
      clear f1
      go_wp2_with fail
      go_ret
      rw [HRR.out]
      exact ⟨rfl, F1.out⟩
    · rw [if_neg hm] at hR
      have hl0 : 0 < x.m.length := List.length_pos_iff.2 hm
      have HRR := Lib.hid hR
      clear hR hm
      go_wp2_with fail
      go_ret
      rw [HRR.out]
      exact ⟨rfl, F.out⟩
  · subst h
    have hR : R = if x.t = 0 ∧ x.n = 0 ∧ x.p = 0 ∧ x.l = [] then chkM x.m else 4 := by
      rw [HR.out]; unfold En.chk
      rw [← HK.out]
      by_cases hm : x.t = 0 ∧ x.n = 0 ∧ x.p = 0 ∧ x.l = [] <;> simp [hm]
    clear HR HK
    go_wp2_with fail
    refine (csame_any x.t x.n x.p 0 0 0 (.slice a x.l.length c) nilS x.l [] w0 (H1.out.fr F.out (fun _ _ h => h)) hz).mono ?_
    rintro e w1 ⟨rfl, f1⟩
    have F1 := Lib.hid (F.out.trans f1 (fun _ _ h => h))
    have Q1 := Lib.hid (crow_kept Q.out f1 (fun h => h))
    clear f1 c00 c01 c02 c03 c04 c05
    obtain ⟨c00, c01, c02, c03, c04, c05⟩ := en_cells Q1.out
    rw [← HK2.out] at c00
    by_cases hm : x.t = 0 ∧ x.n = 0 ∧ x.p = 0 ∧ x.l = []
    · rw [if_pos hm] at hR
      have HRR := Lib.hid hR
      rw [decide_eq_true hm]
      clear hR hm
      go_wp2_with fail
      refine (tmembers_any x.m b d w1 (G1.out.fr F1.out) HS.out).mono ?_
      rintro e w2 ⟨rfl, rfl⟩
      go_wp2_with fail
      go_ret
      rw [HRR.out]
      exact ⟨rfl, F1.out⟩
    · rw [if_neg hm] at hR
      have HRR := Lib.hid hR
      rw [decide_eq_false hm]
      clear hR hm
      go_wp2_with fail
      go_ret
      rw [HRR.out]
      exact ⟨rfl, F1.out⟩
  · subst h
    have hR : R = if (x.t = 0 ∧ x.n = 0 ∧ x.p = 0 ∧ x.l = []) ∧ x.m = [] then 0 else 4 := by
      rw [HR.out]; unfold En.chk
      rw [← HK.out]
      by_cases hm : x.t = 0 ∧ x.n = 0 ∧ x.p = 0 ∧ x.l = [] <;> by_cases hm' : x.m = [] <;> simp [hm, hm']
    clear HR HK
    go_wp2_with fail
    refine (csame_any x.t x.n x.p 0 0 0 (.slice a x.l.length c) nilS x.l [] w0 (H1.out.fr F.out (fun _ _ h => h)) hz).mono ?_
    rintro e w1 ⟨rfl, f1⟩
    have F1 := Lib.hid (F.out.trans f1 (fun _ _ h => h))
    have Q1 := Lib.hid (crow_kept Q.out f1 (fun h => h))
    clear f1 c00 c01 c02 c03 c04 c05
    obtain ⟨c00, c01, c02, c03, c04, c05⟩ := en_cells Q1.out
    rw [← HK2.out] at c00
    by_cases hm : x.t = 0 ∧ x.n = 0 ∧ x.p = 0 ∧ x.l = []
    · rw [decide_eq_true hm]
      by_cases hm' : x.m = []
      · rw [if_pos ⟨hm, hm'⟩] at hR
        have hl0 : x.m.length = 0 := by simp [hm']
        have HRR := Lib.hid hR
        clear hR hm hm'
        go_wp2_with fail
        go_ret
        rw [HRR.out]
        exact ⟨rfl, F1.out⟩
      · rw [if_neg (fun h => hm' h.2)] at hR
        have hl0 : 0 < x.m.length := List.length_pos_iff.2 hm'
        have HRR := Lib.hid hR
        clear hR hm hm'
        go_wp2_with fail
        go_ret
        rw [HRR.out]
        exact ⟨rfl, F1.out⟩
    · rw [if_neg (fun h => hm h.1)] at hR
      have HRR := Lib.hid hR
      rw [decide_eq_false hm]
      clear hR hm
      go_wp2_with fail
      go_ret
      rw [HRR.out]
      exact ⟨rfl, F1.out⟩
