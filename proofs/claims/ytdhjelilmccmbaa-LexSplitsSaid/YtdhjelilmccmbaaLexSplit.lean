/-
  package lex: Split answers the tokens of a text, or its first error and where.
-/
import Derived.Test.YtdhjelilmccmbaaLexStep
import Derived.LoopN
namespace Go.Proofs.Ytdhjelilmccmbaa
open Go.RowKit

def Told (w w' : World) (v : Value) (ts : List Tok) : Prop := TokOwn w' v ts ∧ Fr (fun _ => False) w w' ∧ ∀ k, v.ownBlock = some k → w.heap.size ≤ k

theorem Told.append {w wr w' w3 : World} {v v' : Value} {acc : List Tok} {t : Tok} (h : Told w wr v acc) (f : Fr (fun _ => False) wr w') (hown' : TokOwn w3 v' (acc ++ [t])) (hg : w'.grownBy w3 v.ownBlock)
    {n : Nat} (hc : v'.ownBlock = v.ownBlock ∨ v'.ownBlock = some n) (hn : wr.heap.size ≤ n) : Told w w3 v' (acc ++ [t]) := by
  have F := h.2.1.trans f (fun _ _ h => h)
  refine ⟨hown', F.trans (Fr.of_grown hg) (fun i hi e => by have := h.2.2 i e.symm; omega), ?_⟩
  intro k hk
  rcases hc with e | e
  · exact h.2.2 k (e ▸ hk)
  · rw [e] at hk; cases hk; exact Nat.le_trans h.2.1.size hn

def SplitPost (w : World) (r : Res) (e : Ending) (w' : World) : Prop :=
  ∃ v, e = .returned (.tuple #[v, .int .i64 (r.where_ : Nat), .int .i64 (r.code : Nat)]) ∧ Told w w' v r.toks

theorem split_big (s : ByteArray) (hs : 4000 < s.size) (hm : s.size ≤ maxLen) (w : World) : Calls Try.prog 10 #[.string s] w (SplitPost w (.err 4000 6)) := by
  unfold maxLen at hm
  go_enter Try.func10, Try.ntmps10
  go_wp2
  go_step3
  go_wp2
  rw [Exit.noGoto_ret]
  exact bodyPost_ret (v := .tuple #[.slice none 0 0, .int .i64 4000, .int .i64 6]) (by simp [results, Try.results10, go_sem]) rfl ⟨_, rfl, TokOwn.nil _, Fr.refl _ _, by simp [Value.ownBlock]⟩

set_option maxRecDepth 100000 in
set_option maxHeartbeats 4000000 in
theorem split_small (s : ByteArray) (hs : s.size ≤ 4000) (w : World) : Calls Try.prog 10 #[.string s] w (SplitPost w (lexA 0 s.data.toList)) := by
  obtain ⟨i0, hi, hz0, hz1, hz2⟩ := info_parts Try.infoTok
  have k0 : ∀ w, (Instr.index 48 (.agg #[.int .u8 32, .int .u8 9, .int .u8 10]) (.int .i64 0)).run Try.prog w = .ok (.int .u8 32) w := fun _ => by kernel_rfl
  have k1 : ∀ w, (Instr.index 48 (.agg #[.int .u8 32, .int .u8 9, .int .u8 10]) (.int .i64 1)).run Try.prog w = .ok (.int .u8 9) w := fun _ => by kernel_rfl
  have k2 : ∀ w, (Instr.index 48 (.agg #[.int .u8 32, .int .u8 9, .int .u8 10]) (.int .i64 2)).run Try.prog w = .ok (.int .u8 10) w := fun _ => by kernel_rfl
  go_enter Try.func10, Try.ntmps10
  go_wp2
  go_step3
  go_wp2_with fail
  refine (clone_any s w (by omega)).mono ?_
  rintro e w1 ⟨rfl, f1⟩
  go_wp2
  go_step3
  go_wp2
  go_loopg [5, 6] s.size (fun g u5 u6 wr => ∃ (k : Nat) (acc : List Tok), k ≤ s.size ∧ g = s.size - k ∧ u6 = .int .i64 k ∧ Hid (Told w wr u5 acc ∧ acc.length ≤ k ∧ lexA 0 s.data.toList = (lexB s k).pre acc))
  case atStart => exact ⟨0, [], Nat.zero_le _, rfl, rfl, Lib.hid ⟨⟨TokOwn.nil _, f1, by simp [Value.ownBlock]⟩, Nat.le_refl _, by rw [Res.pre_nil]; rfl⟩⟩
  case round =>
    obtain ⟨k, acc, hk, rfl, rfl, HA⟩ := hrel
    clear f1
    by_cases hlt : k < s.size
    · have hb0 : ((s[k]'hlt).toNat : Int) ≤ 255 := by have := (s[k]'hlt).toNat_lt; omega
      by_cases h32 : ((s[k]'hlt).toNat : Int) = 32
      · have HS : Hid (lexB s k = lexB s (k + 1)) := Lib.hid (lexB_skip s k 1 hlt (step_sep _ _ (by simp [isSep, h32])))
        have e32 : (((s[k]'hlt).toNat : Int) == 32) = true := by simpa using h32
        clear h32
        go_wp2
        refine wp_loop_rounds 4 ?_
        rw [rounds_succ]
        go_wp2
        go_roundg (s.size - (k + 1))
        case measure => omega
        case rel => exact ⟨k + 1, acc, by omega, rfl, by go_num, Lib.hid ⟨HA.out.1, by have := HA.out.2.1; omega, by rw [HA.out.2.2, HS.out]⟩⟩
      · have e32 : (((s[k]'hlt).toNat : Int) == 32) = false := by simpa using h32
        by_cases h9 : ((s[k]'hlt).toNat : Int) = 9
        · have HS : Hid (lexB s k = lexB s (k + 1)) := Lib.hid (lexB_skip s k 1 hlt (step_sep _ _ (by simp [isSep, h9])))
          have e9 : (((s[k]'hlt).toNat : Int) == 9) = true := by simpa using h9
          clear h9 h32
          go_wp2
          refine wp_loop_rounds 4 ?_
          rw [rounds_succ]
          go_wp2
          rw [rounds_succ]
          go_wp2
          go_roundg (s.size - (k + 1))
          case measure => omega
          case rel => exact ⟨k + 1, acc, by omega, rfl, by go_num, Lib.hid ⟨HA.out.1, by have := HA.out.2.1; omega, by rw [HA.out.2.2, HS.out]⟩⟩
        · have e9 : (((s[k]'hlt).toNat : Int) == 9) = false := by simpa using h9
          by_cases h10 : ((s[k]'hlt).toNat : Int) = 10
          · have HS : Hid (lexB s k = lexB s (k + 1)) := Lib.hid (lexB_skip s k 1 hlt (step_sep _ _ (by simp [isSep, h10])))
            have e10 : (((s[k]'hlt).toNat : Int) == 10) = true := by simpa using h10
            clear h9 h32 h10
            go_wp2
            refine wp_loop_rounds 4 ?_
            rw [rounds_succ]
            go_wp2
            rw [rounds_succ]
            go_wp2
            rw [rounds_succ]
            go_wp2
            go_roundg (s.size - (k + 1))
            case measure => omega
            case rel => exact ⟨k + 1, acc, by omega, rfl, by go_num, Lib.hid ⟨HA.out.1, by have := HA.out.2.1; omega, by rw [HA.out.2.2, HS.out]⟩⟩
          · have e10 : (((s[k]'hlt).toNat : Int) == 10) = false := by simpa using h10
            have hsep : isSep (s[k]'hlt) = false := by simp [isSep, h32, h9, h10]
            by_cases h35 : ((s[k]'hlt).toNat : Int) = 35
            · have hst := step_hash (s[k]'hlt) (restOf s k) hsep (by simp [isHash, h35])
              rw [← drop_at s k hlt] at hst
              have hfit := step_fits s k hlt
              have HS := Lib.hid (lexB_skip s k _ hlt hst)
              rw [hst] at hfit
              simp only [Step.len] at hfit
              have e35 : (((s[k]'hlt).toNat : Int) == 35) = true := by simpa using h35
              clear h9 h32 h10 h35 hst hsep
              have hsz := extract_size s k (k + cnt isLine (s.data.toList.drop k)) (by omega) hfit.2
              rw [Nat.add_sub_cancel_left] at hsz
              obtain ⟨X, hX⟩ : ∃ X, X = s.extract k (k + cnt isLine (s.data.toList.drop k)) := ⟨_, rfl⟩
              rw [← hX] at hsz
              have HX := Lib.hid hX
              rw [← hsz] at hfit HS
              clear hsz hX
              go_wp2
              refine wp_loop_rounds 4 ?_
              rw [rounds_succ]
              go_wp2
              rw [rounds_succ]
              go_wp2
              rw [rounds_succ]
              go_wp2
              rw [rounds_succ]
              go_wp2_with fail
              refine (head_line_at s k (by omega) hs wr).mono ?_
              rintro e w2 ⟨rfl, rfl⟩
              rw [← HX.out]
              go_wp2
              go_roundg (s.size - (k + X.size))
              case measure => omega
              case rel => exact ⟨k + X.size, acc, by omega, rfl, by go_num, Lib.hid ⟨HA.out.1, by have := HA.out.2.1; omega, by rw [HA.out.2.2, HS.out]⟩⟩
            · have e35 : (((s[k]'hlt).toNat : Int) == 35) = false := by simpa using h35
              have hhash : isHash (s[k]'hlt) = false := by simp [isHash, h35]
              have hfit := step_fits s k hlt
              cases hst : step (s[k]'hlt) (restOf s k) with
              | skip n =>
                exact (step_skip _ _ _ hst hsep hhash).elim
              | tok kd n =>
                rw [hst] at hfit
                simp only [Step.len] at hfit
                have hkd := step_kind _ _ _ _ hst
                have HS := Lib.hid (lexB_tok s k kd n hlt hst)
                have HC := Lib.hid (token_tok s k kd n hlt hs wr hsep hhash hst)
                have hsz := extract_size s k (k + n) (by omega) hfit.2
                rw [Nat.add_sub_cancel_left] at hsz
                have heq := Lib.extract_eq s k (k + n)
                rw [Nat.add_sub_cancel_left] at heq
                obtain ⟨X, hX⟩ : ∃ X, X = s.extract k (k + n) := ⟨_, rfl⟩
                rw [← hX] at hsz HC heq
                clear hX
                have HE := Lib.hid heq
                unfold tokv at HC
                subst hsz
                clear heq h9 h32 h10 h35 hsep hhash hst
                go_wp2
                refine wp_loop_rounds 4 ?_
                rw [rounds_succ]
                go_wp2
                rw [rounds_succ]
                go_wp2
                rw [rounds_succ]
                go_wp2
                rw [rounds_succ]
                go_wp2_with fail
                refine HC.out.mono ?_
                rintro e w2 ⟨rfl, f2⟩
                go_wp2_with (at_builtin; refine wpList_append_tok rfl (.tmp 53) (.tmp 55) rfl u5 acc rfl ?own (w2.heap.size + 1) 1 ⟨kd, k, (s.data.toList.drop k).take X.size⟩ rfl #[.int .u8 kd, .int .i64 k, .string X] (0, 0) ?c1 ?c2 ?c3 ?grow)
                case own => exact HA.out.1.1.fr ((f2.alloc _).alloc _) (fun _ _ h => h)
                case c1 =>
                  have := heap_alloc_new (w2.alloc (.cells #[.int .u8 kd, .int .i64 k, .string X] 37)) (.cells #[.int .u8 kd, .int .i64 k, .string X] 37)
                  rwa [World.size_alloc] at this
                case c2 =>
                  show [Value.int .u8 kd, .int .i64 k, .string X] = [.int .u8 kd, .int .i64 k, .string ⟨((s.data.toList.drop k).take X.size).toArray⟩]
                  rw [← HE.out]
                case c3 => have := HA.out.2.1; omega
                case grow =>
                  intro v' w3 hown' hgrow hcase
                  have hlt2 : ∀ j, u5.ownBlock = some j → j < w2.heap.size := fun j hj => Nat.lt_of_lt_of_le (HA.out.1.1.lt j hj) f2.size
                  have F := Fr.of_grown hgrow
                  have hcell : w3.cell? ⟨w2.heap.size, 2, none⟩ = some (.string X) := by
                    rw [F.cell (p := ⟨w2.heap.size, 2, none⟩) (by rw [World.size_alloc, World.size_alloc]; show w2.heap.size < _; omega) (fun h => by have := hlt2 _ h.symm; simp at this)]
                    go_simp
                  have HO := Lib.hid (show Told w w3 v' (acc ++ [⟨kd, k, (s.data.toList.drop k).take X.size⟩]) from HA.out.1.append ((f2.alloc _).alloc _) hown' hgrow hcase (by have := f2.size; omega))
                  clear hown' hgrow hcase hlt2 F f2
                  go_wp2
                  go_roundg (s.size - (k + X.size))
                  case measure => omega
                  case rel => exact ⟨k + X.size, _, hfit.2, rfl, by go_num, Lib.hid ⟨HO.out, by have := HA.out.2.1; rw [List.length_append, List.length_singleton]; omega, by rw [HA.out.2.2, HS.out, Res.pre_pre]⟩⟩
              | bad er =>
                have her := step_bad _ _ _ hst
                have HS := Lib.hid (lexB_bad s k er hlt hst)
                have HC := Lib.hid (token_bad s k er hlt hs wr hsep hhash hst)
                have her0 : (er : Int) ≤ 22 := by omega
                have her1 : (1 : Int) ≤ er := by omega
                clear h9 h32 h10 h35 hsep hhash hst hfit her
                unfold tokv at HC
                go_wp2
                refine wp_loop_rounds 4 ?_
                rw [rounds_succ]
                go_wp2
                rw [rounds_succ]
                go_wp2
                rw [rounds_succ]
                go_wp2
                rw [rounds_succ]
                go_wp2_with fail
                refine HC.out.mono ?_
                rintro e w2 ⟨rfl, f2⟩
                go_wp2
                try rw [Exit.noGoto_ret]
                go_ret3
                rw [HA.out.2.2, HS.out]
                exact ⟨_, rfl, TokOwn.nil _, (HA.out.1.2.1.trans f2 (fun _ _ h => h)).alloc _, by simp [Value.ownBlock]⟩
    · obtain rfl : k = s.size := by omega
      have HS := Lib.hid (lexB_end s)
      go_wp2_with (at_builtin; refine wpList_append_tok rfl (.tmp 62) (.tmp 66) rfl u5 acc rfl ?own2 wr.heap.size 1 ⟨0, s.size, []⟩ rfl #[.int .u8 0, .int .i64 s.size, .string ⟨#[]⟩] (0, 0) ?d1 ?d2 ?d3 ?grow2)
      case own2 => exact HA.out.1.1.fr ((Fr.refl (fun _ => False) wr).alloc _) (fun _ _ h => h)
      case d1 => exact heap_alloc_new wr _
      case d2 => rfl
      case d3 => have := HA.out.2.1; omega
      case grow2 =>
        intro v' w3 hown' hgrow hcase
        have HO := Lib.hid (show Told w w3 v' (acc ++ [⟨0, s.size, []⟩]) from HA.out.1.append ((Fr.refl (fun _ => False) wr).alloc _) hown' hgrow hcase (by omega))
        clear hown' hgrow hcase
        go_wp2
        try rw [Exit.noGoto_ret]
        go_ret3
        rw [HA.out.2.2, HS.out]
        exact ⟨_, rfl, HO.out⟩
end Go.Proofs.Ytdhjelilmccmbaa
