/-
  package prog: validLoop, validSkip, checkAt.
-/
import Derived.Test.YtjifeopiaghmbaaProgFuel
namespace Go.Proofs.Ytjifeopiaghmbaa
open Go.RowKit
set_option linter.unusedVariables false

theorem ret_bool {a b : Bool} (h : a = b) : (Ending.returned (.bool a)) = .returned (.bool b) := by rw [h]

set_option maxRecDepth 100000 in
set_option maxHeartbeats 4000000 in
theorem loop_any (l : List Ins) (g cap i : Nat) (x : Ins) (hx : l[i]? = some x) (w : World) (hl : l.length ≤ 100) (hcap : l.length ≤ cap) (h : PAt w g l) :
    Calls Try.prog 11 #[.slice (some ⟨g, 0, none⟩) l.length cap, .int .i64 i] w fun e w' => e = .returned (.bool (loopE l i x)) ∧ Fr (fun _ => False) w w' := by
  have hi := (List.getElem?_eq_some_iff.1 hx).1
  have hb := body_any l g cap i w hl hcap (by omega) h
  obtain ⟨hf, c0, c1, c2, c3, c4⟩ := h i x hx
  have hbb := hf.b
  have hn0 := hf.lo
  have hn1 := hf.hi
  have hL : Hid (loopE l i x = (!(bodyE l i).isSome && (decide (0 < x.b) && (decide (i + x.b < l.length) && (decide (1 ≤ x.n) && decide (x.n ≤ 8)))))) := Lib.hid rfl
  have HB := Lib.hid hb
  clear hb hf h hx
  obtain ⟨op, dst, a, b, n⟩ := x
  dsimp only at *
  cases hs : bodyE l i with
  | some e =>
    rw [hs] at HB
    have HL : Hid (loopE l i ⟨op, dst, a, b, n⟩ = false) := Lib.hid (by rw [hL.out, hs]; rfl)
    go_enter Try.func11, Try.ntmps11
    go_wp2_with fail
    refine HB.out.mono ?_
    rintro r w1 ⟨rfl, f1⟩
    go_wp2
    go_ret
    exact ⟨ret_bool HL.out.symm, f1⟩
  | none =>
    rw [hs] at HB
    have HL : Hid (loopE l i ⟨op, dst, a, b, n⟩ = (decide (0 < b) && (decide (i + b < l.length) && (decide (1 ≤ n) && decide (n ≤ 8))))) := Lib.hid (by rw [hL.out, hs]; rfl)
    clear hL hs
    by_cases h1 : 0 < b
    · by_cases h2 : i + b < l.length
      · by_cases h3 : 1 ≤ n
        · have HE : Hid (loopE l i ⟨op, dst, a, b, n⟩ = decide (n ≤ 8)) := Lib.hid (by rw [HL.out]; simp [h1, h2, h3])
          go_enter Try.func11, Try.ntmps11
          go_wp2_with fail
          refine HB.out.mono ?_
          rintro r w1 ⟨rfl, f1⟩
          replace c0 := cell_fr0 f1 c0
          replace c1 := cell_fr0 f1 c1
          replace c2 := cell_fr0 f1 c2
          replace c3 := cell_fr0 f1 c3
          replace c4 := cell_fr0 f1 c4
          go_wp2
          go_ret
          exact ⟨ret_bool HE.out.symm, f1.alloc _⟩
        · have HE : Hid (loopE l i ⟨op, dst, a, b, n⟩ = false) := Lib.hid (by rw [HL.out]; simp [h3])
          go_enter Try.func11, Try.ntmps11
          go_wp2_with fail
          refine HB.out.mono ?_
          rintro r w1 ⟨rfl, f1⟩
          replace c0 := cell_fr0 f1 c0
          replace c1 := cell_fr0 f1 c1
          replace c2 := cell_fr0 f1 c2
          replace c3 := cell_fr0 f1 c3
          replace c4 := cell_fr0 f1 c4
          go_wp2
          go_ret
          exact ⟨ret_bool HE.out.symm, f1.alloc _⟩
      · have HE : Hid (loopE l i ⟨op, dst, a, b, n⟩ = false) := Lib.hid (by rw [HL.out]; simp [h2])
        go_enter Try.func11, Try.ntmps11
        go_wp2_with fail
        refine HB.out.mono ?_
        rintro r w1 ⟨rfl, f1⟩
        replace c0 := cell_fr0 f1 c0
        replace c1 := cell_fr0 f1 c1
        replace c2 := cell_fr0 f1 c2
        replace c3 := cell_fr0 f1 c3
        replace c4 := cell_fr0 f1 c4
        go_wp2
        go_ret
        exact ⟨ret_bool HE.out.symm, f1.alloc _⟩
    · have HE : Hid (loopE l i ⟨op, dst, a, b, n⟩ = false) := Lib.hid (by rw [HL.out]; simp [h1])
      go_enter Try.func11, Try.ntmps11
      go_wp2_with fail
      refine HB.out.mono ?_
      rintro r w1 ⟨rfl, f1⟩
      replace c0 := cell_fr0 f1 c0
      replace c1 := cell_fr0 f1 c1
      replace c2 := cell_fr0 f1 c2
      replace c3 := cell_fr0 f1 c3
      replace c4 := cell_fr0 f1 c4
      go_wp2
      go_ret
      exact ⟨ret_bool HE.out.symm, f1.alloc _⟩

set_option maxRecDepth 100000 in
set_option maxHeartbeats 4000000 in
theorem skip_any (l : List Ins) (g cap i : Nat) (x : Ins) (hx : l[i]? = some x) (w : World) (hl : l.length ≤ 100) (hcap : l.length ≤ cap) (h : PAt w g l) :
    Calls Try.prog 12 #[.slice (some ⟨g, 0, none⟩) l.length cap, .int .i64 i] w fun e w' => e = .returned (.bool (skipE l i x)) ∧ Fr (fun _ => False) w w' := by
  have hi := (List.getElem?_eq_some_iff.1 hx).1
  have hb := body_any l g cap i w hl hcap (by omega) h
  obtain ⟨hf, c0, c1, c2, c3, c4⟩ := h i x hx
  have hn0 := hf.lo
  have hn1 := hf.hi
  have hL : Hid (skipE l i x = if x.n < 1 ∨ (l.length : Int) < i + 1 + x.n then false else match bodyE l i with | some e => decide ((i : Int) + 1 + x.n ≤ e) | none => !(bodyE l (i + 1 + x.n.toNat)).isSome) := Lib.hid rfl
  have HB := Lib.hid hb
  have HA := Lib.hid h
  clear hb hf h hx
  obtain ⟨op, dst, a, b, n⟩ := x
  dsimp only at *
  by_cases h1 : n < 1
  · have HE : Hid (skipE l i ⟨op, dst, a, b, n⟩ = false) := Lib.hid (by rw [hL.out, if_pos (.inl h1)])
    go_enter Try.func12, Try.ntmps12
    go_wp2
    go_ret
    exact ⟨ret_bool HE.out.symm, Fr.refl _ _⟩
  · by_cases h2 : (l.length : Int) < i + 1 + n
    · have HE : Hid (skipE l i ⟨op, dst, a, b, n⟩ = false) := Lib.hid (by rw [hL.out, if_pos (.inr h2)])
      go_enter Try.func12, Try.ntmps12
      go_wp2
      go_ret
      exact ⟨ret_bool HE.out.symm, Fr.refl _ _⟩
    · rw [if_neg (by omega)] at hL
      cases hs : bodyE l i with
      | some e =>
        rw [hs] at HB
        have HE : Hid (skipE l i ⟨op, dst, a, b, n⟩ = decide ((i : Int) + 1 + n ≤ (e : Nat))) := Lib.hid (by rw [hL.out, hs])
        clear hs hL
        go_enter Try.func12, Try.ntmps12
        go_wp2_with fail
        refine HB.out.mono ?_
        rintro r w1 ⟨rfl, f1⟩
        simp only [Option.getD_some, Option.isSome_some]
        go_wp2
        go_ret
        exact ⟨ret_bool HE.out.symm, f1⟩
      | none =>
        rw [hs] at HB
        obtain ⟨m, rfl⟩ : ∃ m : Nat, n = m := ⟨n.toNat, by omega⟩
        have HE : Hid (skipE l i ⟨op, dst, a, b, (m : Int)⟩ = !(bodyE l (i + 1 + m)).isSome) := Lib.hid (by rw [hL.out, hs]; rfl)
        have HC : ∀ w1, Fr (fun _ => False) w w1 → _ := fun w1 f => body_any l g cap (i + 1 + m) w1 hl hcap (by omega) (HA.out.fr f (fun h => h))
        have HC := Lib.hid HC
        clear hs hL
        go_enter Try.func12, Try.ntmps12
        go_wp2_with fail
        refine HB.out.mono ?_
        rintro r w1 ⟨rfl, f1⟩
        have HC1 := HC.out w1 f1
        simp only [Option.getD_none, Option.isSome_none]
        have hcast : ((i + 1 + m : Nat) : Int) = (i : Int) + 1 + m := by omega
        rw [hcast] at HC1
        have HC1 := Lib.hid HC1
        clear hcast
        go_wp2_with fail
        refine HC1.out.mono ?_
        rintro r w2 ⟨rfl, f2⟩
        clear HC HC1
        generalize (bodyE l (i + 1 + m)).isSome = B at HE ⊢
        generalize (((bodyE l (i + 1 + m)).getD 0 : Nat) : Int) = D
        go_wp2
        go_ret
        exact ⟨ret_bool HE.out.symm, f1.trans f2 (fun _ _ h => h)⟩

set_option maxRecDepth 100000 in
set_option maxHeartbeats 4000000 in
theorem ins_any (l : List Ins) (g cap i : Nat) (x : Ins) (hx : l[i]? = some x) (w : World) (hl : l.length ≤ 100) (hcap : l.length ≤ cap) (h : PAt w g l) :
    Calls Try.prog 9 #[.slice (some ⟨g, 0, none⟩) l.length cap, .int .i64 i] w fun e w' => e = .returned (.int .i64 (insE l i x : Nat)) ∧ Fr (fun _ => False) w w' := by
  have hi := (List.getElem?_eq_some_iff.1 hx).1
  obtain ⟨hf, c0, c1, c2, c3, c4⟩ := h i x hx
  have HR := Lib.hid (regs_any x hf)
  have HL : Hid (∀ w1, Fr (fun _ => False) w w1 → Calls Try.prog 11 #[.slice (some ⟨g, 0, none⟩) l.length cap, .int .i64 i] w1 fun e w' => e = .returned (.bool (loopE l i x)) ∧ Fr (fun _ => False) w1 w') :=
    Lib.hid (fun w1 f => loop_any l g cap i x hx w1 hl hcap (h.fr f (fun h => h)))
  have HS : Hid (∀ w1, Fr (fun _ => False) w w1 → Calls Try.prog 12 #[.slice (some ⟨g, 0, none⟩) l.length cap, .int .i64 i] w1 fun e w' => e = .returned (.bool (skipE l i x)) ∧ Fr (fun _ => False) w1 w') :=
    Lib.hid (fun w1 f => skip_any l g cap i x hx w1 hl hcap (h.fr f (fun h => h)))
  have hE : insE l i x = if 12 ≤ x.op then 5 else if regsE x = false then 2 else if (x.op = 9 ∧ loopE l i x = false) ∨ (x.op = 8 ∧ skipE l i x = false) then 4 else if x.op = 10 ∧ x.n < 0 then 2 else 0 := rfl
  have hop := hf.op
  generalize insE l i x = E at hE ⊢
  generalize loopE l i x = LB at hE HL
  generalize skipE l i x = SB at hE HS
  generalize regsE x = RB at hE HR
  have HE0 := Lib.hid hE
  clear hE hf h hx
  obtain ⟨op, dst, a, b, n⟩ := x
  dsimp only at *
  have f0 : Hid (Fr (fun _ => False) w (w.alloc (.cells #[.int .u8 op, .int .u8 dst, .int .u8 a, .int .u8 b, .int .i16 n] 34))) := Lib.hid ((Fr.refl _ _).alloc _)
  by_cases h12 : 12 ≤ op
  · have HE := Lib.hid (show E = 5 by rw [HE0.out, if_pos h12])
    clear HE0
    go_enter Try.func9, Try.ntmps9
    go_wp2
    go_ret
    rw [HE.out]
    exact ⟨rfl, f0.out⟩
  cases RB with
  | false =>
    have HE := Lib.hid (show E = 2 by rw [HE0.out, if_neg h12, if_pos rfl])
    clear HE0
    go_enter Try.func9, Try.ntmps9
    go_wp2_with fail
    refine (HR.out _).mono ?_
    rintro r w1 ⟨rfl, f1⟩
    go_wp2
    go_ret
    rw [HE.out]
    exact ⟨rfl, f0.out.trans f1 (fun _ _ h => h)⟩
  | true =>
    by_cases h9 : op = 9
    · subst h9
      cases LB with
      | false =>
        have HE := Lib.hid (show E = 4 by rw [HE0.out]; simp)
        clear HE0
        go_enter Try.func9, Try.ntmps9
        go_wp2_with fail
        refine (HR.out _).mono ?_
        rintro r w1 ⟨rfl, f1⟩
        have q := box_kept (heap_alloc_new w _) f1 (fun h => h)
        have q0 := cells_row q 0 _ rfl
        have q4 := cells_row q 4 _ rfl
        have F1 := Lib.hid (f0.out.trans f1 (fun _ _ h => h))
        clear q f1
        go_wp2_with fail
        refine (HL.out _ F1.out).mono ?_
        rintro r w2 ⟨rfl, f2⟩
        go_wp2
        go_ret
        rw [HE.out]
        exact ⟨rfl, F1.out.trans f2 (fun _ _ h => h)⟩
      | true =>
        have HE := Lib.hid (show E = 0 by rw [HE0.out]; simp)
        clear HE0
        go_enter Try.func9, Try.ntmps9
        go_wp2_with fail
        refine (HR.out _).mono ?_
        rintro r w1 ⟨rfl, f1⟩
        have q := box_kept (heap_alloc_new w _) f1 (fun h => h)
        have q0 := cells_row q 0 _ rfl
        have q4 := cells_row q 4 _ rfl
        have F1 := Lib.hid (f0.out.trans f1 (fun _ _ h => h))
        clear f1
        go_wp2_with fail
        refine (HL.out _ F1.out).mono ?_
        rintro r w2 ⟨rfl, f2⟩
        replace q := box_kept q f2 (fun h => h)
        replace q0 := cells_row q 0 _ rfl
        replace q4 := cells_row q 4 _ rfl
        clear q
        go_wp2
        go_ret
        rw [HE.out]
        exact ⟨rfl, F1.out.trans f2 (fun _ _ h => h)⟩
    · have e9 : ((op : Int) == 9) = false := by simp; omega
      by_cases h8 : op = 8
      · subst h8
        cases SB with
        | false =>
          have HE := Lib.hid (show E = 4 by rw [HE0.out]; simp)
          clear HE0
          clear h9
          go_enter Try.func9, Try.ntmps9
          go_wp2_with fail
          refine (HR.out _).mono ?_
          rintro r w1 ⟨rfl, f1⟩
          have q := box_kept (heap_alloc_new w _) f1 (fun h => h)
          have q0 := cells_row q 0 _ rfl
          have q4 := cells_row q 4 _ rfl
          have F1 := Lib.hid (f0.out.trans f1 (fun _ _ h => h))
          clear q f1
          go_wp2_with fail
          refine (HS.out _ F1.out).mono ?_
          rintro r w2 ⟨rfl, f2⟩
          go_wp2
          go_ret
          rw [HE.out]
          exact ⟨rfl, F1.out.trans f2 (fun _ _ h => h)⟩
        | true =>
          have HE := Lib.hid (show E = 0 by rw [HE0.out]; simp)
          clear HE0
          clear h9
          go_enter Try.func9, Try.ntmps9
          go_wp2_with fail
          refine (HR.out _).mono ?_
          rintro r w1 ⟨rfl, f1⟩
          have q := box_kept (heap_alloc_new w _) f1 (fun h => h)
          have q0 := cells_row q 0 _ rfl
          have q4 := cells_row q 4 _ rfl
          have F1 := Lib.hid (f0.out.trans f1 (fun _ _ h => h))
          clear f1
          go_wp2_with fail
          refine (HS.out _ F1.out).mono ?_
          rintro r w2 ⟨rfl, f2⟩
          replace q := box_kept q f2 (fun h => h)
          replace q0 := cells_row q 0 _ rfl
          replace q4 := cells_row q 4 _ rfl
          clear q
          go_wp2
          go_ret
          rw [HE.out]
          exact ⟨rfl, F1.out.trans f2 (fun _ _ h => h)⟩
      · have e8 : ((op : Int) == 8) = false := by simp; omega
        by_cases hr : op = 10
        · subst hr
          by_cases hn : n < 0
          · have HE := Lib.hid (show E = 2 by rw [HE0.out]; simp [hn])
            clear HE0
            clear h9 h8
            go_enter Try.func9, Try.ntmps9
            go_wp2_with fail
            refine (HR.out _).mono ?_
            rintro r w1 ⟨rfl, f1⟩
            have q := box_kept (heap_alloc_new w _) f1 (fun h => h)
            have q0 := cells_row q 0 _ rfl
            have q4 := cells_row q 4 _ rfl
            have F1 := Lib.hid (f0.out.trans f1 (fun _ _ h => h))
            clear q f1
            go_wp2
            go_ret
            rw [HE.out]
            exact ⟨rfl, F1.out⟩
          · have HE := Lib.hid (show E = 0 by rw [HE0.out]; simp; omega)
            clear HE0
            clear h9 h8
            go_enter Try.func9, Try.ntmps9
            go_wp2_with fail
            refine (HR.out _).mono ?_
            rintro r w1 ⟨rfl, f1⟩
            have q := box_kept (heap_alloc_new w _) f1 (fun h => h)
            have q0 := cells_row q 0 _ rfl
            have q4 := cells_row q 4 _ rfl
            have F1 := Lib.hid (f0.out.trans f1 (fun _ _ h => h))
            clear q f1
            go_wp2
            go_ret
            rw [HE.out]
            exact ⟨rfl, F1.out⟩
        · have HE := Lib.hid (show E = 0 by rw [HE0.out, if_neg h12, if_neg (by simp), if_neg (by omega), if_neg (by omega)])
          clear HE0
          have e10 : ((op : Int) == 10) = false := by simp; omega
          clear h9 h8 hr
          go_enter Try.func9, Try.ntmps9
          go_wp2_with fail
          refine (HR.out _).mono ?_
          rintro r w1 ⟨rfl, f1⟩
          have q := box_kept (heap_alloc_new w _) f1 (fun h => h)
          have q0 := cells_row q 0 _ rfl
          have q4 := cells_row q 4 _ rfl
          have F1 := Lib.hid (f0.out.trans f1 (fun _ _ h => h))
          clear q f1
          go_wp2
          go_ret
          rw [HE.out]
          exact ⟨rfl, F1.out⟩

end Go.Proofs.Ytjifeopiaghmbaa
