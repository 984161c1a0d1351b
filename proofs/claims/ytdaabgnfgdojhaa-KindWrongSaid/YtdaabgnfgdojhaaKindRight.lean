/-
  package kind: whether a type is right.
-/
import Derived.Test.YtdaabgnfgdojhaaKindType
namespace Go.Proofs.Ytdaabgnfgdojhaa
open Go.RowKit

theorem k10 {k : Nat} (h : k < 10) : k = 0 ∨ k = 1 ∨ k = 2 ∨ k = 3 ∨ k = 4 ∨ k = 5 ∨ k = 6 ∨ k = 7 ∨ k = 8 ∨ k = 9 := by omega

set_option maxHeartbeats 4000000 in
theorem sized_any (k : Nat) (m : Int) (hk : k < 10) (vn vo : Value) (w : World) :
    Calls Try.prog 80 #[.agg #[.int .u8 k, .int .i64 m, vn, vo]] w fun e w' => e = .returned (.bool (sizedB k m)) ∧ Fr (fun _ => False) w w' := by
  rcases k10 hk with rfl | rfl | rfl | rfl | rfl | rfl | rfl | rfl | rfl | rfl <;>
    (go_enter Try.func80, Try.ntmps80
     go_wp2
     all_goals go_ret
     all_goals refine ⟨ret_bool ?_, (Fr.refl _ _).alloc _⟩
     all_goals (rw [Bool.eq_iff_iff]; simp_all [sizedB]; try omega))

set_option maxHeartbeats 4000000 in
theorem formed_any (k nn n : Nat) (m : Int) (hk : k < 10) (a a' : Option Addr) (c c' : Nat) (w : World) :
    Calls Try.prog 81 #[.agg #[.int .u8 k, .int .i64 m, .slice a nn c, .slice a' n c']] w fun e w' => e = .returned (.bool (formedB k nn n)) ∧ Fr (fun _ => False) w w' := by
  rcases k10 hk with rfl | rfl | rfl | rfl | rfl | rfl | rfl | rfl | rfl | rfl <;>
    (go_enter Try.func81, Try.ntmps81
     go_wp2
     all_goals go_ret
     all_goals refine ⟨ret_bool ?_, (Fr.refl _ _).alloc _⟩
     all_goals (rw [Bool.eq_iff_iff]; simp_all [formedB]; try omega))

theorem namesE_step (bef : List Txt) (s : Txt) (r : List Txt) (h : nameE bef s = 0) : namesE bef (s :: r) = namesE (bef ++ [s]) r := by
  rw [namesE, if_pos h]

theorem namesE_stop (bef : List Txt) (s : Txt) (r : List Txt) (h : nameE bef s ≠ 0) : namesE bef (s :: r) = nameE bef s := by
  rw [namesE, if_neg h]

theorem ret_nat {a b : Nat} (h : a = b) : Ending.returned (.int .i64 (a : Int)) = .returned (.int .i64 (b : Int)) := by rw [h]

theorem nameE_small (l : List Txt) (s : Txt) : nameE l s = 0 ∨ nameE l s = 8 ∨ nameE l s = 9 := by
  unfold nameE; split
  · exact .inr (.inl rfl)
  · split
    · exact .inr (.inr rfl)
    · exact .inl rfl

set_option maxHeartbeats 4000000 in
theorem checkNames_any (R : Nat → Prop) (ns : List Txt) (v : Value) (w : World) (h : Texts R w ns v) :
    Calls Try.prog 82 #[v] w fun e w' => e = .returned (.int .i64 (checkNamesE ns)) ∧ Fr (fun _ => False) w w' := by
  have hl := Lib.hid h.1
  have hs := Lib.hid h.2.1
  obtain ⟨a, c, rfl, hc⟩ := h.shape
  have hl0 : ns.length ≤ 1000 := hl.out
  by_cases h1 : ns.length < 1
  · have h1' : (ns.length : Int) < 1 := by omega
    go_enter Try.func82, Try.ntmps82
    go_wp2
    go_ret
    exact ⟨ret_nat (a := 7) (by unfold checkNamesE; rw [if_pos (.inl h1)]), Fr.refl _ _⟩
  have h1' : ¬ (ns.length : Int) < 1 := by omega
  by_cases h2 : 12 < ns.length
  · have h2' : 12 < (ns.length : Int) := by omega
    go_enter Try.func82, Try.ntmps82
    go_wp2
    go_ret
    exact ⟨ret_nat (a := 7) (by unfold checkNamesE; rw [if_pos (.inr h2)]), Fr.refl _ _⟩
  have h2' : ¬ 12 < (ns.length : Int) := by omega
  have hce : checkNamesE ns = namesE [] ns := by unfold checkNamesE; rw [if_neg (by omega)]
  have HCE := Lib.hid hce
  clear hce
  rcases hc with hc | ⟨hcap, g, off, hg, rfl, hcell⟩
  · omega
  have Hcell := Lib.hid hcell
  have H := Lib.hid h
  clear hcell h
  go_enter Try.func82, Try.ntmps82
  go_wp2_with fail
  refine (naming_any _).mono ?_
  rintro e w1 ⟨rfl, f1, N1⟩
  unfold namer
  go_wp2
  go_loopg [5, 6, 18] ns.length (fun G u5 u6 u18 wr => ∃ k : Nat, k ≤ ns.length ∧ G = ns.length - k ∧ u18 = .int .i64 k ∧ Hid (Fr (fun _ => False) w wr ∧ Nm (fun k => k < w.heap.size) wr w.heap.size (ns.take k) ∧ namesE [] ns = namesE (ns.take k) (ns.drop k)))
  case atStart => exact ⟨0, Nat.zero_le _, rfl, by go_num, Lib.hid ⟨f1, N1, rfl⟩⟩
  case round =>
    obtain ⟨k, hk, rfl, rfl, HI⟩ := hrel
    by_cases hlt : k < ns.length
    · obtain ⟨d, hd⟩ : ∃ d, d = ns[k] := ⟨_, rfl⟩
      have hck0 := Hcell.out k d (by rw [List.getElem?_eq_getElem hlt, hd])
      have hck := cell_fr (R := fun k => k < w.heap.size) HI.out.1 (fun _ _ h => h) (World.block_lt_of_cell? w _ hck0) hck0
      unfold sv at hck
      clear hck0
      have hdl : d.length ≤ 1000 := hs.out d (by rw [hd]; exact List.getElem_mem hlt)
      have hdrop : ns.drop k = d :: ns.drop (k + 1) := by rw [hd]; exact List.drop_eq_getElem_cons hlt
      have htake : ns.take (k + 1) = ns.take k ++ [d] := by rw [hd]; exact List.take_succ_eq_append_getElem hlt
      have HT := Lib.hid htake
      have HD := Lib.hid hdrop
      clear hd hdrop htake
      have hnx := name_next (fun k => k < w.heap.size) w.heap.size (ns.take k) d wr HI.out.2.1 (fun k hk => Nat.lt_of_lt_of_le hk HI.out.1.size) (by rw [List.length_take]; omega) (by unfold maxLen; omega)
      unfold sv at hnx
      obtain ⟨E, hE⟩ : ∃ E, E = nameE (ns.take k) d := ⟨_, rfl⟩
      rw [← hE] at hnx
      have HE := Lib.hid hE
      clear hE
      by_cases he : E = 0
      · subst he
        go_wp2_with fail
        refine hnx.mono ?_
        rintro e w2 ⟨rfl, f2, N2⟩
        have N2 := Lib.hid (N2 (by first | trivial | rfl))
        have f2 := Lib.hid f2
        go_wp2
        go_roundg (ns.length - (k + 1))
        case measure => omega
        case rel => exact ⟨k + 1, by omega, rfl, by go_num, Lib.hid ⟨HI.out.1.trans f2.out (fun i hi hn => hn hi), by rw [HT.out]; exact N2.out, by rw [HI.out.2.2, HD.out, HT.out, namesE_step _ _ _ HE.out.symm]⟩⟩
      · have he' : ¬ (E : Int) = 0 := by omega
        go_wp2_with fail
        refine hnx.mono ?_
        rintro e w2 ⟨rfl, f2, _⟩
        have f2 := Lib.hid f2
        go_wp2
        go_ret
        refine ⟨ret_nat ?_, HI.out.1.trans f2.out (fun i hi hn => hn hi)⟩
        rw [HCE.out, HI.out.2.2, HD.out, namesE_stop _ _ _ (by rw [← HE.out]; exact he)]
        exact HE.out
    · obtain rfl : k = ns.length := by omega
      go_wp2
      go_ret
      refine ⟨ret_nat (a := 0) ?_, HI.out.1⟩
      rw [HCE.out, HI.out.2.2, List.drop_length]
      rfl

end Go.Proofs.Ytdaabgnfgdojhaa
