/-
  The document's answer: its Split, walked.
-/
import Derived.Test.YtdhjelilmccmbaaLexRefMath
import Derived.Outline
namespace Go.Proofs.Ytdhjelilmccmbaa
open Go.RowKit

set_option maxRecDepth 100000 in
set_option maxHeartbeats 8000000 in
theorem ref_small (s : ByteArray) (hs : s.size ≤ 4000) (w : World) : Calls Try.prog 11 #[.string s] w (RefPost w (lexA 0 s.data.toList)) := by
  go_enter Try.func11, Try.ntmps11
  go_wp2_with fail
  go_loopg [5, 6] s.size (fun g u5 u6 wr => ∃ (k : Nat) (acc : List Tok), k ≤ s.size ∧ g = s.size - k ∧ u6 = .int .i64 k ∧ Hid (RTold w wr u5 acc ∧ acc.length ≤ k ∧ lexA 0 s.data.toList = (lexB s k).pre acc))
  case atStart => exact ⟨0, [], Nat.zero_le _, rfl, rfl, Lib.hid ⟨⟨RTokOwn.nil _, Fr.refl _ _, by simp [Value.ownBlock]⟩, Nat.le_refl _, by rw [Res.pre_nil]; rfl⟩⟩
  case round =>
    obtain ⟨k, acc, hk, rfl, rfl, HA⟩ := hrel
    by_cases hlt : k < s.size
    · have hb0 : ((s[k]'hlt).toNat : Int) ≤ 255 := by have := (s[k]'hlt).toNat_lt; omega
      by_cases hsep : isSep (s[k]'hlt) = true
      · have HS : Hid (lexB s k = lexB s (k + 1)) := Lib.hid (lexB_skip s k 1 hlt (step_sep _ _ hsep))
        have hor : ((s[k]'hlt).toNat : Int) = 32 ∨ ((s[k]'hlt).toNat : Int) = 9 ∨ ((s[k]'hlt).toNat : Int) = 10 := by simpa [isSep] using hsep
        clear hsep
        have b3 : (((s[k]'hlt).toNat : Int) == 32 || ((s[k]'hlt).toNat : Int) == 9 || ((s[k]'hlt).toNat : Int) == 10) = true := by
          rcases hor with h | h | h <;> rw [h] <;> rfl
        have e32 : (((s[k]'hlt).toNat : Int) == 32) = true ∨ (((s[k]'hlt).toNat : Int) == 32) = false ∧ (((s[k]'hlt).toNat : Int) == 9) = true ∨ (((s[k]'hlt).toNat : Int) == 32) = false ∧ (((s[k]'hlt).toNat : Int) == 9) = false ∧ (((s[k]'hlt).toNat : Int) == 10) = true := by
          rcases hor with h | h | h
          · left; rw [h]; rfl
          · right; left; rw [h]; exact ⟨rfl, rfl⟩
          · right; right; rw [h]; exact ⟨rfl, rfl, rfl⟩
        clear b3 hor
        rcases e32 with e32 | ⟨e32, e9⟩ | ⟨e32, e9, e10⟩
        all_goals
          go_wp2
          go_roundg (s.size - (k + 1))
          case measure => omega
          case rel => exact ⟨k + 1, acc, by omega, rfl, by go_num, Lib.hid ⟨HA.out.1, by have := HA.out.2.1; omega, by rw [HA.out.2.2, HS.out]⟩⟩
      · have hsep' : isSep (s[k]'hlt) = false := by simpa using hsep
        have hn : ¬ (((s[k]'hlt).toNat : Int) = 32 ∨ ((s[k]'hlt).toNat : Int) = 9 ∨ ((s[k]'hlt).toNat : Int) = 10) := by simpa [isSep] using hsep
        have e32 : (((s[k]'hlt).toNat : Int) == 32) = false := by simp; omega
        have e9 : (((s[k]'hlt).toNat : Int) == 9) = false := by simp; omega
        have e10 : (((s[k]'hlt).toNat : Int) == 10) = false := by simp; omega
        clear hn hsep
        by_cases h35 : ((s[k]'hlt).toNat : Int) = 35
        · have hhash : isHash (s[k]'hlt) = true := by simp [isHash, h35]
          have hst := step_hash (s[k]'hlt) (restOf s k) hsep' hhash
          rw [← drop_at s k hlt] at hst
          have HS := Lib.hid (lexB_skip s k _ hlt hst)
          have H1 := Lib.hid (Fit.one (p := isLine) hlt (by simp [isLine, h35]))
          have e35 : (((s[k]'hlt).toNat : Int) == 35) = true := by simpa using h35
          clear hst hhash hsep' h35
          go_wp2
          obtain ⟨wo, rfl⟩ : ∃ wo : World, wo = wr := ⟨_, rfl⟩
          go_loopg [8] s.size (fun g v8 w2 => ∃ q : Nat, k + 1 ≤ q ∧ q ≤ s.size ∧ g = s.size + k + 1 - q ∧ v8 = .int .i64 q ∧ Hid (Fit isLine s k q) ∧ w2 = wo)
          case atStart => exact ⟨k + 1, Nat.le_refl _, hlt, by omega, by go_num, H1, rfl⟩
          case round =>
            obtain ⟨q, hq1, hq2, rfl, rfl, HF, rfl⟩ := hrel
            clear H1
            by_cases hlt2 : q < s.size
            · have hc0 : ((s[q]'hlt2).toNat : Int) ≤ 255 := by have := (s[q]'hlt2).toNat_lt; omega
              by_cases hp : ((s[q]'hlt2).toNat : Int) = 10
              · have HQ := Lib.hid (HF.out.stop (by omega) hlt2 (by simp [isLine, hp]))
                have e10' : (((s[q]'hlt2).toNat : Int) == 10) = true := by simpa using hp
                clear hp
                go_wp2
                go_roundg (s.size - q)
                case measure => omega
                case rel => exact ⟨q, acc, hq2, rfl, rfl, Lib.hid ⟨HA.out.1, by have := HA.out.2.1; omega, by rw [HA.out.2.2, HS.out, ← HQ.out]⟩⟩
              · have HQ := Lib.hid (HF.out.more hlt2 (by simp [isLine, hp]))
                have e10' : (((s[q]'hlt2).toNat : Int) == 10) = false := by simpa using hp
                clear hp
                go_wp2
                go_roundg (s.size + k + 1 - (q + 1))
                case measure => omega
                case rel => exact ⟨q + 1, by omega, hlt2, rfl, by go_num, HQ, rfl⟩
            · have HQ := Lib.hid (HF.out.all (by omega) (by omega))
              go_wp2
              go_roundg (s.size - q)
              case measure => omega
              case rel => exact ⟨q, acc, hq2, rfl, rfl, Lib.hid ⟨HA.out.1, by have := HA.out.2.1; omega, by rw [HA.out.2.2, HS.out, ← HQ.out]⟩⟩
        · have e35 : (((s[k]'hlt).toNat : Int) == 35) = false := by simpa using h35
          have hhash : isHash (s[k]'hlt) = false := by simp [isHash, h35]
          clear h35
          by_cases hl : isLet (s[k]'hlt) = true
          · have HST := Lib.hid (step_let _ (restOf s k) hsep' hhash hl)
            rw [← drop_at s k hlt] at HST
            have HND := Lib.hid (let_not_dig _ hl)
            have HSG := Lib.hid (not_sign _ (.inl hl))
            have H1 := Lib.hid (Fit.one (p := isNam) hlt (by simp [isNam, hl]))
            have HL := Lib.hid hl
            clear hl hhash hsep'
            go_wp2_with fail
            refine (rletter_any _ _).mono ?_
            rintro e w' ⟨rfl, rfl⟩
            rw [HL.out]
            go_wp2
            obtain ⟨wo, rfl⟩ : ∃ wo : World, wo = wr := ⟨_, rfl⟩
            go_loopg [8] s.size (fun g v8 w2 => ∃ q : Nat, k + 1 ≤ q ∧ q ≤ s.size ∧ g = s.size + k + 1 - q ∧ v8 = .int .i64 q ∧ Hid (Fit isNam s k q) ∧ w2 = wo)
            case atStart => exact ⟨k + 1, Nat.le_refl _, hlt, by omega, by go_num, H1, rfl⟩
            case round =>
              obtain ⟨q, hq1, hq2, rfl, rfl, HF, rfl⟩ := hrel
              clear H1
              by_cases hlt2 : q < s.size
              · by_cases hp : isLet (s[q]'hlt2) = true
                · have HQ := Lib.hid (HF.out.more hlt2 (by simp [isNam, hp]))
                  have HP := Lib.hid hp
                  clear hp
                  go_wp2_with fail
                  refine (rletter_any _ _).mono ?_
                  rintro e w' ⟨rfl, rfl⟩
                  rw [HP.out]
                  go_wp2
                  go_roundg (s.size + k + 1 - (q + 1))
                  case measure => omega
                  case rel => exact ⟨q + 1, by omega, hlt2, rfl, by go_num, HQ, rfl⟩
                · have hp' : isLet (s[q]'hlt2) = false := by simpa using hp
                  by_cases hd : isDig (s[q]'hlt2) = true
                  · have HQ := Lib.hid (HF.out.more hlt2 (by simp [isNam, hd]))
                    have HP := Lib.hid hp'
                    have HD := Lib.hid hd
                    clear hp hp' hd
                    go_wp2_with fail
                    refine (rletter_any _ _).mono ?_
                    rintro e w' ⟨rfl, rfl⟩
                    rw [HP.out]
                    go_wp2_with fail
                    refine (rdigit_any _ _).mono ?_
                    rintro e w' ⟨rfl, rfl⟩
                    rw [HD.out]
                    go_wp2
                    go_roundg (s.size + k + 1 - (q + 1))
                    case measure => omega
                    case rel => exact ⟨q + 1, by omega, hlt2, rfl, by go_num, HQ, rfl⟩
                  · have hd' : isDig (s[q]'hlt2) = false := by simpa using hd
                    have hq := HF.out.stop (by omega) hlt2 (by simp [isNam, hp', hd'])
                    have HT := Lib.hid (lexB_to s k 1 q hlt (by omega) (by rw [HST.out]; congr 1; omega))
                    have HP := Lib.hid hp'
                    have HD := Lib.hid hd'
                    clear hp hp' hd hd' hq
                    go_wp2_with fail
                    refine (rletter_any _ _).mono ?_
                    rintro e w' ⟨rfl, rfl⟩
                    rw [HP.out]
                    go_wp2_with fail
                    refine (rdigit_any _ _).mono ?_
                    rintro e w' ⟨rfl, rfl⟩
                    rw [HD.out]
                    go_wp2_with fail
                    refine (rdigit_any _ _).mono ?_
                    rintro e w' ⟨rfl, rfl⟩
                    rw [HND.out]
                    go_wp2
                    obtain ⟨S, hS⟩ : ∃ S : ByteArray, S = ⟨#[123, 125, 40, 41, 91, 93, 61, 58, 59, 44]⟩ := ⟨_, rfl⟩
                    have hSz : S.size = 10 := by rw [hS]; rfl
                    have hSd : S.data.toList = signL := by rw [hS]; rfl
                    rw [← hS]
                    have SZ := Lib.hid hSz
                    have SD := Lib.hid hSd
                    have hs10 : S.size ≤ 10 := by omega
                    clear hS hSz hSd
                    go_wp2
                    obtain ⟨wo, rfl⟩ : ∃ wo : World, wo = wr := ⟨_, rfl⟩
                    go_loopg [9, 11] S.size (fun g v9 v11 w2 => ∃ j : Nat, j ≤ S.size ∧ g = S.size - j ∧ v11 = .int .i64 j ∧ v9 = .int .i64 (signK (s[k]'hlt) 1 j : Nat) ∧ w2 = wo)
                    case atStart => exact ⟨0, Nat.zero_le _, rfl, rfl, by rw [signK_zero]; rfl, rfl⟩
                    case round =>
                      obtain ⟨j, hj, rfl, rfl, rfl, rfl⟩ := hrel
                      by_cases hjl : j < S.size
                      · have hjs : j < signL.length := by rw [← SD.out]; exact hjl
                        have hge : signL[j]'hjs = S[j]'hjl := by
                          have : signL[j]? = S.data.toList[j]? := by rw [SD.out]
                          rw [List.getElem?_eq_getElem hjs, List.getElem?_eq_getElem (show j < S.data.toList.length from hjl)] at this
                          exact Option.some.inj this
                        by_cases hm : S[j]'hjl = s[k]'hlt
                        · have HK := Lib.hid (signK_hit (s[k]'hlt) 1 j hjs (hge.trans hm))
                          have em : (((S[j]'hjl).toNat : Int) == ((s[k]'hlt).toNat : Int)) = true := by rw [hm]; simp
                          clear hm hge hjs
                          go_wp2
                          go_roundg (S.size - (j + 1))
                          case measure => omega
                          case rel => exact ⟨j + 1, hjl, rfl, by go_num, by rw [HK.out]; rfl, rfl⟩
                        · have HK := Lib.hid (signK_miss (s[k]'hlt) 1 j hjs (fun e => hm (hge.symm.trans e)))
                          have em : (((S[j]'hjl).toNat : Int) == ((s[k]'hlt).toNat : Int)) = false := by
                            simp only [beq_eq_false_iff_ne, ne_eq]
                            intro e
                            exact hm (UInt8.toNat.inj (by omega))
                          clear hm hge hjs
                          generalize signK (s[k]'hlt) 1 j = z at *
                          go_wp2
                          go_roundg (S.size - (j + 1))
                          case measure => omega
                          case rel => exact ⟨j + 1, hjl, rfl, by go_num, by rw [HK.out], rfl⟩
                      · obtain rfl : j = S.size := by omega
                        have HK := signK_all (s[k]'hlt) 1 S.size SZ.out
                        rw [HSG.out] at HK
                        simp only [Bool.false_eq_true, if_false] at HK
                        rw [HK]
                        clear HK
                        go_wp2_with (at_builtin; refine wpList_append_rtok rfl (.tmp 113) (.tmp 120) rfl u5 acc rfl ?own1 wr.heap.size 1 ⟨1, k, (s.data.toList.drop k).take (q - k)⟩ rfl #[.int .i64 1, .int .i64 k, .int .i64 ((q : Int) - (k : Int))] (0, 0) ?c1 ?d1 ?e1 ?grow1)
                        case own1 => exact HA.out.1.1.fr ((Fr.refl (fun _ => False) wr).alloc _) (fun _ _ h => h)
                        case c1 => exact heap_alloc_new wr _
                        case d1 => exact (rtok_cells s k 1 q (by omega) hq2).symm
                        case e1 => have := HA.out.2.1; omega
                        case grow1 =>
                          intro v' w3 hown' hgrow hcase
                          have HO := Lib.hid (show RTold w w3 v' (acc ++ [⟨1, k, (s.data.toList.drop k).take (q - k)⟩]) from HA.out.1.append ((Fr.refl (fun _ => False) wr).alloc _) hown' hgrow hcase (by omega))
                          clear hown' hgrow hcase
                          go_wp2
                          go_roundg (s.size - q)
                          case measure => omega
                          case rel => exact ⟨q, _, hq2, rfl, rfl, Lib.hid ⟨HO.out, by have := HA.out.2.1; rw [List.length_append, List.length_singleton]; omega, by rw [HA.out.2.2, HT.out, Res.pre_pre]⟩⟩
              · have hq := HF.out.all (by omega) (by omega)
                have HT := Lib.hid (lexB_to s k 1 q hlt (by omega) (by rw [HST.out]; congr 1; omega))
                clear hq
                go_wp2_with fail
                refine (rdigit_any _ _).mono ?_
                rintro e w' ⟨rfl, rfl⟩
                rw [HND.out]
                go_wp2
                obtain ⟨S, hS⟩ : ∃ S : ByteArray, S = ⟨#[123, 125, 40, 41, 91, 93, 61, 58, 59, 44]⟩ := ⟨_, rfl⟩
                have hSz : S.size = 10 := by rw [hS]; rfl
                have hSd : S.data.toList = signL := by rw [hS]; rfl
                rw [← hS]
                have SZ := Lib.hid hSz
                have SD := Lib.hid hSd
                have hs10 : S.size ≤ 10 := by omega
                clear hS hSz hSd
                go_wp2
                obtain ⟨wo, rfl⟩ : ∃ wo : World, wo = wr := ⟨_, rfl⟩
                go_loopg [9, 11] S.size (fun g v9 v11 w2 => ∃ j : Nat, j ≤ S.size ∧ g = S.size - j ∧ v11 = .int .i64 j ∧ v9 = .int .i64 (signK (s[k]'hlt) 1 j : Nat) ∧ w2 = wo)
                case atStart => exact ⟨0, Nat.zero_le _, rfl, rfl, by rw [signK_zero]; rfl, rfl⟩
                case round =>
                  obtain ⟨j, hj, rfl, rfl, rfl, rfl⟩ := hrel
                  by_cases hjl : j < S.size
                  · have hjs : j < signL.length := by rw [← SD.out]; exact hjl
                    have hge : signL[j]'hjs = S[j]'hjl := by
                      have : signL[j]? = S.data.toList[j]? := by rw [SD.out]
                      rw [List.getElem?_eq_getElem hjs, List.getElem?_eq_getElem (show j < S.data.toList.length from hjl)] at this
                      exact Option.some.inj this
                    by_cases hm : S[j]'hjl = s[k]'hlt
                    · have HK := Lib.hid (signK_hit (s[k]'hlt) 1 j hjs (hge.trans hm))
                      have em : (((S[j]'hjl).toNat : Int) == ((s[k]'hlt).toNat : Int)) = true := by rw [hm]; simp
                      clear hm hge hjs
                      go_wp2
                      go_roundg (S.size - (j + 1))
                      case measure => omega
                      case rel => exact ⟨j + 1, hjl, rfl, by go_num, by rw [HK.out]; rfl, rfl⟩
                    · have HK := Lib.hid (signK_miss (s[k]'hlt) 1 j hjs (fun e => hm (hge.symm.trans e)))
                      have em : (((S[j]'hjl).toNat : Int) == ((s[k]'hlt).toNat : Int)) = false := by
                        simp only [beq_eq_false_iff_ne, ne_eq]
                        intro e
                        exact hm (UInt8.toNat.inj (by omega))
                      clear hm hge hjs
                      generalize signK (s[k]'hlt) 1 j = z at *
                      go_wp2
                      go_roundg (S.size - (j + 1))
                      case measure => omega
                      case rel => exact ⟨j + 1, hjl, rfl, by go_num, by rw [HK.out], rfl⟩
                  · obtain rfl : j = S.size := by omega
                    have HK := signK_all (s[k]'hlt) 1 S.size SZ.out
                    rw [HSG.out] at HK
                    simp only [Bool.false_eq_true, if_false] at HK
                    rw [HK]
                    clear HK
                    go_wp2_with (at_builtin; refine wpList_append_rtok rfl (.tmp 113) (.tmp 120) rfl u5 acc rfl ?own2 wr.heap.size 1 ⟨1, k, (s.data.toList.drop k).take (q - k)⟩ rfl #[.int .i64 1, .int .i64 k, .int .i64 ((q : Int) - (k : Int))] (0, 0) ?c2 ?d2 ?e2 ?grow2)
                    case own2 => exact HA.out.1.1.fr ((Fr.refl (fun _ => False) wr).alloc _) (fun _ _ h => h)
                    case c2 => exact heap_alloc_new wr _
                    case d2 => exact (rtok_cells s k 1 q (by omega) hq2).symm
                    case e2 => have := HA.out.2.1; omega
                    case grow2 =>
                      intro v' w3 hown' hgrow hcase
                      have HO := Lib.hid (show RTold w w3 v' (acc ++ [⟨1, k, (s.data.toList.drop k).take (q - k)⟩]) from HA.out.1.append ((Fr.refl (fun _ => False) wr).alloc _) hown' hgrow hcase (by omega))
                      clear hown' hgrow hcase
                      go_wp2
                      go_roundg (s.size - q)
                      case measure => omega
                      case rel => exact ⟨q, _, hq2, rfl, rfl, Lib.hid ⟨HO.out, by have := HA.out.2.1; rw [List.length_append, List.length_singleton]; omega, by rw [HA.out.2.2, HT.out, Res.pre_pre]⟩⟩
          · have hl' : isLet (s[k]'hlt) = false := by simpa using hl
            clear hl
            by_cases hd : isDig (s[k]'hlt) = true
            · have HST := Lib.hid (step_dig _ (restOf s k) hsep' hhash hl' hd)
              rw [← drop_at s k hlt] at HST
              have HSG := Lib.hid (not_sign _ (.inr hd))
              have H1 := Lib.hid (Fit.one (p := isDig) hlt hd)
              have HL := Lib.hid hl'
              have HD := Lib.hid hd
              clear hl' hd hhash hsep'
              go_wp2_with fail
              refine (rletter_any _ _).mono ?_
              rintro e w' ⟨rfl, rfl⟩
              rw [HL.out]
              go_wp2_with fail
              refine (rdigit_any _ _).mono ?_
              rintro e w' ⟨rfl, rfl⟩
              rw [HD.out]
              go_wp2
              obtain ⟨wo, rfl⟩ : ∃ wo : World, wo = wr := ⟨_, rfl⟩
              go_loopg [8] s.size (fun g v8 w2 => ∃ q : Nat, k + 1 ≤ q ∧ q ≤ s.size ∧ g = s.size + k + 1 - q ∧ v8 = .int .i64 q ∧ Hid (Fit isDig s k q) ∧ w2 = wo)
              case atStart => exact ⟨k + 1, Nat.le_refl _, hlt, by omega, by go_num, H1, rfl⟩
              case round =>
                obtain ⟨q, hq1, hq2, rfl, rfl, HF, rfl⟩ := hrel
                clear H1
                by_cases hlt2 : q < s.size
                · by_cases hp : isDig (s[q]'hlt2) = true
                  · have HQ := Lib.hid (HF.out.more hlt2 hp)
                    have HP := Lib.hid hp
                    clear hp
                    go_wp2_with fail
                    refine (rdigit_any _ _).mono ?_
                    rintro e w' ⟨rfl, rfl⟩
                    rw [HP.out]
                    go_wp2
                    go_roundg (s.size + k + 1 - (q + 1))
                    case measure => omega
                    case rel => exact ⟨q + 1, by omega, hlt2, rfl, by go_num, HQ, rfl⟩
                  · have hp' : isDig (s[q]'hlt2) = false := by simpa using hp
                    have hq := HF.out.stop (by omega) hlt2 hp'
                    have HP := Lib.hid hp'
                    clear hp hp'
                    by_cases a1 : (10 : Int) < (q : Int) - (k : Int)
                    · have HT := Lib.hid (lexB_bad s k 22 hlt (by rw [HST.out, numStep, if_pos (by omega)]))
                      clear hq
                      go_wp2_with fail
                      refine (rdigit_any _ _).mono ?_
                      rintro e w' ⟨rfl, rfl⟩
                      rw [HP.out]
                      go_wp2
                      go_ret3
                      rw [HA.out.2.2, HT.out]
                      exact ⟨_, rfl, RTokOwn.nil _, HA.out.1.2.1, by simp [Value.ownBlock]⟩
                    · have b1 : decide ((10 : Int) < (q : Int) - (k : Int)) = false := by simpa using a1
                      by_cases a2 : (1 : Int) < (q : Int) - (k : Int)
                      · by_cases a3 : ((s[k]'hlt).toNat : Int) = 48
                        · have HT := Lib.hid (lexB_bad s k 22 hlt (by rw [HST.out, numStep, if_pos (by omega)]))
                          have e48 : (((s[k]'hlt).toNat : Int) == 48) = true := by simpa using a3
                          clear hq a3
                          go_wp2_with fail
                          refine (rdigit_any _ _).mono ?_
                          rintro e w' ⟨rfl, rfl⟩
                          rw [HP.out]
                          go_wp2
                          go_ret3
                          rw [HA.out.2.2, HT.out]
                          exact ⟨_, rfl, RTokOwn.nil _, HA.out.1.2.1, by simp [Value.ownBlock]⟩
                        · have HT := Lib.hid (lexB_to s k 2 q hlt (by omega) (by rw [HST.out, numStep, if_neg (by omega)]; congr 1; omega))
                          have e48 : (((s[k]'hlt).toNat : Int) == 48) = false := by simpa using a3
                          clear hq a3
                          go_wp2_with fail
                          refine (rdigit_any _ _).mono ?_
                          rintro e w' ⟨rfl, rfl⟩
                          rw [HP.out]
                          go_wp2
                          obtain ⟨S, hS⟩ : ∃ S : ByteArray, S = ⟨#[123, 125, 40, 41, 91, 93, 61, 58, 59, 44]⟩ := ⟨_, rfl⟩
                          have hSz : S.size = 10 := by rw [hS]; rfl
                          have hSd : S.data.toList = signL := by rw [hS]; rfl
                          rw [← hS]
                          have SZ := Lib.hid hSz
                          have SD := Lib.hid hSd
                          have hs10 : S.size ≤ 10 := by omega
                          clear hS hSz hSd
                          go_wp2
                          obtain ⟨wo, rfl⟩ : ∃ wo : World, wo = wr := ⟨_, rfl⟩
                          go_loopg [9, 11] S.size (fun g v9 v11 w2 => ∃ j : Nat, j ≤ S.size ∧ g = S.size - j ∧ v11 = .int .i64 j ∧ v9 = .int .i64 (signK (s[k]'hlt) 2 j : Nat) ∧ w2 = wo)
                          case atStart => exact ⟨0, Nat.zero_le _, rfl, rfl, by rw [signK_zero]; rfl, rfl⟩
                          case round =>
                            obtain ⟨j, hj, rfl, rfl, rfl, rfl⟩ := hrel
                            by_cases hjl : j < S.size
                            · have hjs : j < signL.length := by rw [← SD.out]; exact hjl
                              have hge : signL[j]'hjs = S[j]'hjl := by
                                have : signL[j]? = S.data.toList[j]? := by rw [SD.out]
                                rw [List.getElem?_eq_getElem hjs, List.getElem?_eq_getElem (show j < S.data.toList.length from hjl)] at this
                                exact Option.some.inj this
                              by_cases hm : S[j]'hjl = s[k]'hlt
                              · have HK := Lib.hid (signK_hit (s[k]'hlt) 2 j hjs (hge.trans hm))
                                have em : (((S[j]'hjl).toNat : Int) == ((s[k]'hlt).toNat : Int)) = true := by rw [hm]; simp
                                clear hm hge hjs
                                go_wp2
                                go_roundg (S.size - (j + 1))
                                case measure => omega
                                case rel => exact ⟨j + 1, hjl, rfl, by go_num, by rw [HK.out]; rfl, rfl⟩
                              · have HK := Lib.hid (signK_miss (s[k]'hlt) 2 j hjs (fun e => hm (hge.symm.trans e)))
                                have em : (((S[j]'hjl).toNat : Int) == ((s[k]'hlt).toNat : Int)) = false := by
                                  simp only [beq_eq_false_iff_ne, ne_eq]
                                  intro e
                                  exact hm (UInt8.toNat.inj (by omega))
                                clear hm hge hjs
                                generalize signK (s[k]'hlt) 2 j = z at *
                                go_wp2
                                go_roundg (S.size - (j + 1))
                                case measure => omega
                                case rel => exact ⟨j + 1, hjl, rfl, by go_num, by rw [HK.out], rfl⟩
                            · obtain rfl : j = S.size := by omega
                              have HK := signK_all (s[k]'hlt) 2 S.size SZ.out
                              rw [HSG.out] at HK
                              simp only [Bool.false_eq_true, if_false] at HK
                              rw [HK]
                              clear HK
                              go_wp2_with (at_builtin; refine wpList_append_rtok rfl (.tmp 113) (.tmp 120) rfl u5 acc rfl ?own3 wr.heap.size 1 ⟨2, k, (s.data.toList.drop k).take (q - k)⟩ rfl #[.int .i64 2, .int .i64 k, .int .i64 ((q : Int) - (k : Int))] (0, 0) ?c3 ?d3 ?e3 ?grow3)
                              case own3 => exact HA.out.1.1.fr ((Fr.refl (fun _ => False) wr).alloc _) (fun _ _ h => h)
                              case c3 => exact heap_alloc_new wr _
                              case d3 => exact (rtok_cells s k 2 q (by omega) hq2).symm
                              case e3 => have := HA.out.2.1; omega
                              case grow3 =>
                                intro v' w3 hown' hgrow hcase
                                have HO := Lib.hid (show RTold w w3 v' (acc ++ [⟨2, k, (s.data.toList.drop k).take (q - k)⟩]) from HA.out.1.append ((Fr.refl (fun _ => False) wr).alloc _) hown' hgrow hcase (by omega))
                                clear hown' hgrow hcase
                                go_wp2
                                go_roundg (s.size - q)
                                case measure => omega
                                case rel => exact ⟨q, _, hq2, rfl, rfl, Lib.hid ⟨HO.out, by have := HA.out.2.1; rw [List.length_append, List.length_singleton]; omega, by rw [HA.out.2.2, HT.out, Res.pre_pre]⟩⟩
                      · have HT := Lib.hid (lexB_to s k 2 q hlt (by omega) (by rw [HST.out, numStep, if_neg (by omega)]; congr 1; omega))
                        have b2 : decide ((1 : Int) < (q : Int) - (k : Int)) = false := by simpa using a2
                        clear hq
                        go_wp2_with fail
                        refine (rdigit_any _ _).mono ?_
                        rintro e w' ⟨rfl, rfl⟩
                        rw [HP.out]
                        go_wp2
                        obtain ⟨S, hS⟩ : ∃ S : ByteArray, S = ⟨#[123, 125, 40, 41, 91, 93, 61, 58, 59, 44]⟩ := ⟨_, rfl⟩
                        have hSz : S.size = 10 := by rw [hS]; rfl
                        have hSd : S.data.toList = signL := by rw [hS]; rfl
                        rw [← hS]
                        have SZ := Lib.hid hSz
                        have SD := Lib.hid hSd
                        have hs10 : S.size ≤ 10 := by omega
                        clear hS hSz hSd
                        go_wp2
                        obtain ⟨wo, rfl⟩ : ∃ wo : World, wo = wr := ⟨_, rfl⟩
                        go_loopg [9, 11] S.size (fun g v9 v11 w2 => ∃ j : Nat, j ≤ S.size ∧ g = S.size - j ∧ v11 = .int .i64 j ∧ v9 = .int .i64 (signK (s[k]'hlt) 2 j : Nat) ∧ w2 = wo)
                        case atStart => exact ⟨0, Nat.zero_le _, rfl, rfl, by rw [signK_zero]; rfl, rfl⟩
                        case round =>
                          obtain ⟨j, hj, rfl, rfl, rfl, rfl⟩ := hrel
                          by_cases hjl : j < S.size
                          · have hjs : j < signL.length := by rw [← SD.out]; exact hjl
                            have hge : signL[j]'hjs = S[j]'hjl := by
                              have : signL[j]? = S.data.toList[j]? := by rw [SD.out]
                              rw [List.getElem?_eq_getElem hjs, List.getElem?_eq_getElem (show j < S.data.toList.length from hjl)] at this
                              exact Option.some.inj this
                            by_cases hm : S[j]'hjl = s[k]'hlt
                            · have HK := Lib.hid (signK_hit (s[k]'hlt) 2 j hjs (hge.trans hm))
                              have em : (((S[j]'hjl).toNat : Int) == ((s[k]'hlt).toNat : Int)) = true := by rw [hm]; simp
                              clear hm hge hjs
                              go_wp2
                              go_roundg (S.size - (j + 1))
                              case measure => omega
                              case rel => exact ⟨j + 1, hjl, rfl, by go_num, by rw [HK.out]; rfl, rfl⟩
                            · have HK := Lib.hid (signK_miss (s[k]'hlt) 2 j hjs (fun e => hm (hge.symm.trans e)))
                              have em : (((S[j]'hjl).toNat : Int) == ((s[k]'hlt).toNat : Int)) = false := by
                                simp only [beq_eq_false_iff_ne, ne_eq]
                                intro e
                                exact hm (UInt8.toNat.inj (by omega))
                              clear hm hge hjs
                              generalize signK (s[k]'hlt) 2 j = z at *
                              go_wp2
                              go_roundg (S.size - (j + 1))
                              case measure => omega
                              case rel => exact ⟨j + 1, hjl, rfl, by go_num, by rw [HK.out], rfl⟩
                          · obtain rfl : j = S.size := by omega
                            have HK := signK_all (s[k]'hlt) 2 S.size SZ.out
                            rw [HSG.out] at HK
                            simp only [Bool.false_eq_true, if_false] at HK
                            rw [HK]
                            clear HK
                            go_wp2_with (at_builtin; refine wpList_append_rtok rfl (.tmp 113) (.tmp 120) rfl u5 acc rfl ?own4 wr.heap.size 1 ⟨2, k, (s.data.toList.drop k).take (q - k)⟩ rfl #[.int .i64 2, .int .i64 k, .int .i64 ((q : Int) - (k : Int))] (0, 0) ?c4 ?d4 ?e4 ?grow4)
                            case own4 => exact HA.out.1.1.fr ((Fr.refl (fun _ => False) wr).alloc _) (fun _ _ h => h)
                            case c4 => exact heap_alloc_new wr _
                            case d4 => exact (rtok_cells s k 2 q (by omega) hq2).symm
                            case e4 => have := HA.out.2.1; omega
                            case grow4 =>
                              intro v' w3 hown' hgrow hcase
                              have HO := Lib.hid (show RTold w w3 v' (acc ++ [⟨2, k, (s.data.toList.drop k).take (q - k)⟩]) from HA.out.1.append ((Fr.refl (fun _ => False) wr).alloc _) hown' hgrow hcase (by omega))
                              clear hown' hgrow hcase
                              go_wp2
                              go_roundg (s.size - q)
                              case measure => omega
                              case rel => exact ⟨q, _, hq2, rfl, rfl, Lib.hid ⟨HO.out, by have := HA.out.2.1; rw [List.length_append, List.length_singleton]; omega, by rw [HA.out.2.2, HT.out, Res.pre_pre]⟩⟩
                · have hq := HF.out.all (by omega) (by omega)
                  by_cases a1 : (10 : Int) < (q : Int) - (k : Int)
                  · have HT := Lib.hid (lexB_bad s k 22 hlt (by rw [HST.out, numStep, if_pos (by omega)]))
                    clear hq
                    go_wp2
                    go_ret3
                    rw [HA.out.2.2, HT.out]
                    exact ⟨_, rfl, RTokOwn.nil _, HA.out.1.2.1, by simp [Value.ownBlock]⟩
                  · have b1 : decide ((10 : Int) < (q : Int) - (k : Int)) = false := by simpa using a1
                    by_cases a2 : (1 : Int) < (q : Int) - (k : Int)
                    · by_cases a3 : ((s[k]'hlt).toNat : Int) = 48
                      · have HT := Lib.hid (lexB_bad s k 22 hlt (by rw [HST.out, numStep, if_pos (by omega)]))
                        have e48 : (((s[k]'hlt).toNat : Int) == 48) = true := by simpa using a3
                        clear hq a3
                        go_wp2
                        go_ret3
                        rw [HA.out.2.2, HT.out]
                        exact ⟨_, rfl, RTokOwn.nil _, HA.out.1.2.1, by simp [Value.ownBlock]⟩
                      · have HT := Lib.hid (lexB_to s k 2 q hlt (by omega) (by rw [HST.out, numStep, if_neg (by omega)]; congr 1; omega))
                        have e48 : (((s[k]'hlt).toNat : Int) == 48) = false := by simpa using a3
                        clear hq a3
                        go_wp2
                        obtain ⟨S, hS⟩ : ∃ S : ByteArray, S = ⟨#[123, 125, 40, 41, 91, 93, 61, 58, 59, 44]⟩ := ⟨_, rfl⟩
                        have hSz : S.size = 10 := by rw [hS]; rfl
                        have hSd : S.data.toList = signL := by rw [hS]; rfl
                        rw [← hS]
                        have SZ := Lib.hid hSz
                        have SD := Lib.hid hSd
                        have hs10 : S.size ≤ 10 := by omega
                        clear hS hSz hSd
                        go_wp2
                        obtain ⟨wo, rfl⟩ : ∃ wo : World, wo = wr := ⟨_, rfl⟩
                        go_loopg [9, 11] S.size (fun g v9 v11 w2 => ∃ j : Nat, j ≤ S.size ∧ g = S.size - j ∧ v11 = .int .i64 j ∧ v9 = .int .i64 (signK (s[k]'hlt) 2 j : Nat) ∧ w2 = wo)
                        case atStart => exact ⟨0, Nat.zero_le _, rfl, rfl, by rw [signK_zero]; rfl, rfl⟩
                        case round =>
                          obtain ⟨j, hj, rfl, rfl, rfl, rfl⟩ := hrel
                          by_cases hjl : j < S.size
                          · have hjs : j < signL.length := by rw [← SD.out]; exact hjl
                            have hge : signL[j]'hjs = S[j]'hjl := by
                              have : signL[j]? = S.data.toList[j]? := by rw [SD.out]
                              rw [List.getElem?_eq_getElem hjs, List.getElem?_eq_getElem (show j < S.data.toList.length from hjl)] at this
                              exact Option.some.inj this
                            by_cases hm : S[j]'hjl = s[k]'hlt
                            · have HK := Lib.hid (signK_hit (s[k]'hlt) 2 j hjs (hge.trans hm))
                              have em : (((S[j]'hjl).toNat : Int) == ((s[k]'hlt).toNat : Int)) = true := by rw [hm]; simp
                              clear hm hge hjs
                              go_wp2
                              go_roundg (S.size - (j + 1))
                              case measure => omega
                              case rel => exact ⟨j + 1, hjl, rfl, by go_num, by rw [HK.out]; rfl, rfl⟩
                            · have HK := Lib.hid (signK_miss (s[k]'hlt) 2 j hjs (fun e => hm (hge.symm.trans e)))
                              have em : (((S[j]'hjl).toNat : Int) == ((s[k]'hlt).toNat : Int)) = false := by
                                simp only [beq_eq_false_iff_ne, ne_eq]
                                intro e
                                exact hm (UInt8.toNat.inj (by omega))
                              clear hm hge hjs
                              generalize signK (s[k]'hlt) 2 j = z at *
                              go_wp2
                              go_roundg (S.size - (j + 1))
                              case measure => omega
                              case rel => exact ⟨j + 1, hjl, rfl, by go_num, by rw [HK.out], rfl⟩
                          · obtain rfl : j = S.size := by omega
                            have HK := signK_all (s[k]'hlt) 2 S.size SZ.out
                            rw [HSG.out] at HK
                            simp only [Bool.false_eq_true, if_false] at HK
                            rw [HK]
                            clear HK
                            go_wp2_with (at_builtin; refine wpList_append_rtok rfl (.tmp 113) (.tmp 120) rfl u5 acc rfl ?own5 wr.heap.size 1 ⟨2, k, (s.data.toList.drop k).take (q - k)⟩ rfl #[.int .i64 2, .int .i64 k, .int .i64 ((q : Int) - (k : Int))] (0, 0) ?c5 ?d5 ?e5 ?grow5)
                            case own5 => exact HA.out.1.1.fr ((Fr.refl (fun _ => False) wr).alloc _) (fun _ _ h => h)
                            case c5 => exact heap_alloc_new wr _
                            case d5 => exact (rtok_cells s k 2 q (by omega) hq2).symm
                            case e5 => have := HA.out.2.1; omega
                            case grow5 =>
                              intro v' w3 hown' hgrow hcase
                              have HO := Lib.hid (show RTold w w3 v' (acc ++ [⟨2, k, (s.data.toList.drop k).take (q - k)⟩]) from HA.out.1.append ((Fr.refl (fun _ => False) wr).alloc _) hown' hgrow hcase (by omega))
                              clear hown' hgrow hcase
                              go_wp2
                              go_roundg (s.size - q)
                              case measure => omega
                              case rel => exact ⟨q, _, hq2, rfl, rfl, Lib.hid ⟨HO.out, by have := HA.out.2.1; rw [List.length_append, List.length_singleton]; omega, by rw [HA.out.2.2, HT.out, Res.pre_pre]⟩⟩
                    · have HT := Lib.hid (lexB_to s k 2 q hlt (by omega) (by rw [HST.out, numStep, if_neg (by omega)]; congr 1; omega))
                      have b2 : decide ((1 : Int) < (q : Int) - (k : Int)) = false := by simpa using a2
                      clear hq
                      go_wp2
                      obtain ⟨S, hS⟩ : ∃ S : ByteArray, S = ⟨#[123, 125, 40, 41, 91, 93, 61, 58, 59, 44]⟩ := ⟨_, rfl⟩
                      have hSz : S.size = 10 := by rw [hS]; rfl
                      have hSd : S.data.toList = signL := by rw [hS]; rfl
                      rw [← hS]
                      have SZ := Lib.hid hSz
                      have SD := Lib.hid hSd
                      have hs10 : S.size ≤ 10 := by omega
                      clear hS hSz hSd
                      go_wp2
                      obtain ⟨wo, rfl⟩ : ∃ wo : World, wo = wr := ⟨_, rfl⟩
                      go_loopg [9, 11] S.size (fun g v9 v11 w2 => ∃ j : Nat, j ≤ S.size ∧ g = S.size - j ∧ v11 = .int .i64 j ∧ v9 = .int .i64 (signK (s[k]'hlt) 2 j : Nat) ∧ w2 = wo)
                      case atStart => exact ⟨0, Nat.zero_le _, rfl, rfl, by rw [signK_zero]; rfl, rfl⟩
                      case round =>
                        obtain ⟨j, hj, rfl, rfl, rfl, rfl⟩ := hrel
                        by_cases hjl : j < S.size
                        · have hjs : j < signL.length := by rw [← SD.out]; exact hjl
                          have hge : signL[j]'hjs = S[j]'hjl := by
                            have : signL[j]? = S.data.toList[j]? := by rw [SD.out]
                            rw [List.getElem?_eq_getElem hjs, List.getElem?_eq_getElem (show j < S.data.toList.length from hjl)] at this
                            exact Option.some.inj this
                          by_cases hm : S[j]'hjl = s[k]'hlt
                          · have HK := Lib.hid (signK_hit (s[k]'hlt) 2 j hjs (hge.trans hm))
                            have em : (((S[j]'hjl).toNat : Int) == ((s[k]'hlt).toNat : Int)) = true := by rw [hm]; simp
                            clear hm hge hjs
                            go_wp2
                            go_roundg (S.size - (j + 1))
                            case measure => omega
                            case rel => exact ⟨j + 1, hjl, rfl, by go_num, by rw [HK.out]; rfl, rfl⟩
                          · have HK := Lib.hid (signK_miss (s[k]'hlt) 2 j hjs (fun e => hm (hge.symm.trans e)))
                            have em : (((S[j]'hjl).toNat : Int) == ((s[k]'hlt).toNat : Int)) = false := by
                              simp only [beq_eq_false_iff_ne, ne_eq]
                              intro e
                              exact hm (UInt8.toNat.inj (by omega))
                            clear hm hge hjs
                            generalize signK (s[k]'hlt) 2 j = z at *
                            go_wp2
                            go_roundg (S.size - (j + 1))
                            case measure => omega
                            case rel => exact ⟨j + 1, hjl, rfl, by go_num, by rw [HK.out], rfl⟩
                        · obtain rfl : j = S.size := by omega
                          have HK := signK_all (s[k]'hlt) 2 S.size SZ.out
                          rw [HSG.out] at HK
                          simp only [Bool.false_eq_true, if_false] at HK
                          rw [HK]
                          clear HK
                          go_wp2_with (at_builtin; refine wpList_append_rtok rfl (.tmp 113) (.tmp 120) rfl u5 acc rfl ?own6 wr.heap.size 1 ⟨2, k, (s.data.toList.drop k).take (q - k)⟩ rfl #[.int .i64 2, .int .i64 k, .int .i64 ((q : Int) - (k : Int))] (0, 0) ?c6 ?d6 ?e6 ?grow6)
                          case own6 => exact HA.out.1.1.fr ((Fr.refl (fun _ => False) wr).alloc _) (fun _ _ h => h)
                          case c6 => exact heap_alloc_new wr _
                          case d6 => exact (rtok_cells s k 2 q (by omega) hq2).symm
                          case e6 => have := HA.out.2.1; omega
                          case grow6 =>
                            intro v' w3 hown' hgrow hcase
                            have HO := Lib.hid (show RTold w w3 v' (acc ++ [⟨2, k, (s.data.toList.drop k).take (q - k)⟩]) from HA.out.1.append ((Fr.refl (fun _ => False) wr).alloc _) hown' hgrow hcase (by omega))
                            clear hown' hgrow hcase
                            go_wp2
                            go_roundg (s.size - q)
                            case measure => omega
                            case rel => exact ⟨q, _, hq2, rfl, rfl, Lib.hid ⟨HO.out, by have := HA.out.2.1; rw [List.length_append, List.length_singleton]; omega, by rw [HA.out.2.2, HT.out, Res.pre_pre]⟩⟩
            · have hd' : isDig (s[k]'hlt) = false := by simpa using hd
              obtain ⟨q, hqk⟩ : ∃ q, q = k + 1 := ⟨_, rfl⟩
              have HQK := Lib.hid hqk
              have hq1 : k + 1 ≤ q := by omega
              have hq2 : q ≤ s.size := by omega
              have hq3 : ((k : Int) + 1) = (q : Int) := by omega
              have HQ3 := Lib.hid hq3
              clear hqk hq3
              by_cases hs4 : isSign (s[k]'hlt) = true
              · have HT := Lib.hid (lexB_to s k 3 q hlt (by omega) (by rw [step_sign _ (restOf s k) hsep' hhash hl' hd' hs4, HQK.out]; congr 1; omega))
                have HSG := Lib.hid hs4
                have HL := Lib.hid hl'
                have HD := Lib.hid hd'
                clear hl' hd hd' hhash hsep' hs4
                go_wp2_with fail
                refine (rletter_any _ _).mono ?_
                rintro e w' ⟨rfl, rfl⟩
                rw [HL.out]
                go_wp2_with fail
                refine (rdigit_any _ _).mono ?_
                rintro e w' ⟨rfl, rfl⟩
                rw [HD.out]
                go_wp2
                rw [HQ3.out]
                obtain ⟨S, hS⟩ : ∃ S : ByteArray, S = ⟨#[123, 125, 40, 41, 91, 93, 61, 58, 59, 44]⟩ := ⟨_, rfl⟩
                have hSz : S.size = 10 := by rw [hS]; rfl
                have hSd : S.data.toList = signL := by rw [hS]; rfl
                rw [← hS]
                have SZ := Lib.hid hSz
                have SD := Lib.hid hSd
                have hs10 : S.size ≤ 10 := by omega
                clear hS hSz hSd
                go_wp2
                obtain ⟨wo, rfl⟩ : ∃ wo : World, wo = wr := ⟨_, rfl⟩
                go_loopg [9, 11] S.size (fun g v9 v11 w2 => ∃ j : Nat, j ≤ S.size ∧ g = S.size - j ∧ v11 = .int .i64 j ∧ v9 = .int .i64 (signK (s[k]'hlt) 0 j : Nat) ∧ w2 = wo)
                case atStart => exact ⟨0, Nat.zero_le _, rfl, rfl, by rw [signK_zero]; rfl, rfl⟩
                case round =>
                  obtain ⟨j, hj, rfl, rfl, rfl, rfl⟩ := hrel
                  by_cases hjl : j < S.size
                  · have hjs : j < signL.length := by rw [← SD.out]; exact hjl
                    have hge : signL[j]'hjs = S[j]'hjl := by
                      have : signL[j]? = S.data.toList[j]? := by rw [SD.out]
                      rw [List.getElem?_eq_getElem hjs, List.getElem?_eq_getElem (show j < S.data.toList.length from hjl)] at this
                      exact Option.some.inj this
                    by_cases hm : S[j]'hjl = s[k]'hlt
                    · have HK := Lib.hid (signK_hit (s[k]'hlt) 0 j hjs (hge.trans hm))
                      have em : (((S[j]'hjl).toNat : Int) == ((s[k]'hlt).toNat : Int)) = true := by rw [hm]; simp
                      clear hm hge hjs
                      go_wp2
                      go_roundg (S.size - (j + 1))
                      case measure => omega
                      case rel => exact ⟨j + 1, hjl, rfl, by go_num, by rw [HK.out]; rfl, rfl⟩
                    · have HK := Lib.hid (signK_miss (s[k]'hlt) 0 j hjs (fun e => hm (hge.symm.trans e)))
                      have em : (((S[j]'hjl).toNat : Int) == ((s[k]'hlt).toNat : Int)) = false := by
                        simp only [beq_eq_false_iff_ne, ne_eq]
                        intro e
                        exact hm (UInt8.toNat.inj (by omega))
                      clear hm hge hjs
                      generalize signK (s[k]'hlt) 0 j = z at *
                      go_wp2
                      go_roundg (S.size - (j + 1))
                      case measure => omega
                      case rel => exact ⟨j + 1, hjl, rfl, by go_num, by rw [HK.out], rfl⟩
                  · obtain rfl : j = S.size := by omega
                    have HK := signK_all (s[k]'hlt) 0 S.size SZ.out
                    rw [HSG.out] at HK
                    simp only [if_true] at HK
                    rw [HK]
                    clear HK
                    go_wp2_with (at_builtin; refine wpList_append_rtok rfl (.tmp 113) (.tmp 120) rfl u5 acc rfl ?own7 wr.heap.size 1 ⟨3, k, (s.data.toList.drop k).take (q - k)⟩ rfl #[.int .i64 3, .int .i64 k, .int .i64 ((q : Int) - (k : Int))] (0, 0) ?c7 ?d7 ?e7 ?grow7)
                    case own7 => exact HA.out.1.1.fr ((Fr.refl (fun _ => False) wr).alloc _) (fun _ _ h => h)
                    case c7 => exact heap_alloc_new wr _
                    case d7 => exact (rtok_cells s k 3 q (by omega) hq2).symm
                    case e7 => have := HA.out.2.1; omega
                    case grow7 =>
                      intro v' w3 hown' hgrow hcase
                      have HO := Lib.hid (show RTold w w3 v' (acc ++ [⟨3, k, (s.data.toList.drop k).take (q - k)⟩]) from HA.out.1.append ((Fr.refl (fun _ => False) wr).alloc _) hown' hgrow hcase (by omega))
                      clear hown' hgrow hcase
                      go_wp2
                      go_roundg (s.size - q)
                      case measure => omega
                      case rel => exact ⟨q, _, hq2, rfl, rfl, Lib.hid ⟨HO.out, by have := HA.out.2.1; rw [List.length_append, List.length_singleton]; omega, by rw [HA.out.2.2, HT.out, Res.pre_pre]⟩⟩
              · have hs4' : isSign (s[k]'hlt) = false := by simpa using hs4
                have HT := Lib.hid (lexB_bad s k 13 hlt (step_none _ (restOf s k) hsep' hhash hl' hd' hs4'))
                have HSG := Lib.hid hs4'
                have HL := Lib.hid hl'
                have HD := Lib.hid hd'
                clear hl' hd hd' hhash hsep' hs4 hs4'
                go_wp2_with fail
                refine (rletter_any _ _).mono ?_
                rintro e w' ⟨rfl, rfl⟩
                rw [HL.out]
                go_wp2_with fail
                refine (rdigit_any _ _).mono ?_
                rintro e w' ⟨rfl, rfl⟩
                rw [HD.out]
                go_wp2
                rw [HQ3.out]
                obtain ⟨S, hS⟩ : ∃ S : ByteArray, S = ⟨#[123, 125, 40, 41, 91, 93, 61, 58, 59, 44]⟩ := ⟨_, rfl⟩
                have hSz : S.size = 10 := by rw [hS]; rfl
                have hSd : S.data.toList = signL := by rw [hS]; rfl
                rw [← hS]
                have SZ := Lib.hid hSz
                have SD := Lib.hid hSd
                have hs10 : S.size ≤ 10 := by omega
                clear hS hSz hSd
                go_wp2
                obtain ⟨wo, rfl⟩ : ∃ wo : World, wo = wr := ⟨_, rfl⟩
                go_loopg [9, 11] S.size (fun g v9 v11 w2 => ∃ j : Nat, j ≤ S.size ∧ g = S.size - j ∧ v11 = .int .i64 j ∧ v9 = .int .i64 (signK (s[k]'hlt) 0 j : Nat) ∧ w2 = wo)
                case atStart => exact ⟨0, Nat.zero_le _, rfl, rfl, by rw [signK_zero]; rfl, rfl⟩
                case round =>
                  obtain ⟨j, hj, rfl, rfl, rfl, rfl⟩ := hrel
                  by_cases hjl : j < S.size
                  · have hjs : j < signL.length := by rw [← SD.out]; exact hjl
                    have hge : signL[j]'hjs = S[j]'hjl := by
                      have : signL[j]? = S.data.toList[j]? := by rw [SD.out]
                      rw [List.getElem?_eq_getElem hjs, List.getElem?_eq_getElem (show j < S.data.toList.length from hjl)] at this
                      exact Option.some.inj this
                    by_cases hm : S[j]'hjl = s[k]'hlt
                    · have HK := Lib.hid (signK_hit (s[k]'hlt) 0 j hjs (hge.trans hm))
                      have em : (((S[j]'hjl).toNat : Int) == ((s[k]'hlt).toNat : Int)) = true := by rw [hm]; simp
                      clear hm hge hjs
                      go_wp2
                      go_roundg (S.size - (j + 1))
                      case measure => omega
                      case rel => exact ⟨j + 1, hjl, rfl, by go_num, by rw [HK.out]; rfl, rfl⟩
                    · have HK := Lib.hid (signK_miss (s[k]'hlt) 0 j hjs (fun e => hm (hge.symm.trans e)))
                      have em : (((S[j]'hjl).toNat : Int) == ((s[k]'hlt).toNat : Int)) = false := by
                        simp only [beq_eq_false_iff_ne, ne_eq]
                        intro e
                        exact hm (UInt8.toNat.inj (by omega))
                      clear hm hge hjs
                      generalize signK (s[k]'hlt) 0 j = z at *
                      go_wp2
                      go_roundg (S.size - (j + 1))
                      case measure => omega
                      case rel => exact ⟨j + 1, hjl, rfl, by go_num, by rw [HK.out], rfl⟩
                  · obtain rfl : j = S.size := by omega
                    have HK := signK_all (s[k]'hlt) 0 S.size SZ.out
                    rw [HSG.out] at HK
                    simp only [Bool.false_eq_true, if_false] at HK
                    rw [HK]
                    clear HK
                    go_wp2
                    go_ret3
                    rw [HA.out.2.2, HT.out]
                    exact ⟨_, rfl, RTokOwn.nil _, HA.out.1.2.1, by simp [Value.ownBlock]⟩
    · obtain rfl : k = s.size := by omega
      have HS := Lib.hid (lexB_end s)
      go_wp2_with (at_builtin; refine wpList_append_rtok rfl (.tmp 123) (.tmp 127) rfl u5 acc rfl ?own wr.heap.size 1 ⟨0, s.size, []⟩ rfl #[.int .i64 0, .int .i64 s.size, .int .i64 0] (0, 0) ?d1 ?d2 ?d3 ?grow)
      case own => exact HA.out.1.1.fr ((Fr.refl (fun _ => False) wr).alloc _) (fun _ _ h => h)
      case d1 => exact heap_alloc_new wr _
      case d2 => rfl
      case d3 => have := HA.out.2.1; omega
      case grow =>
        intro v' w3 hown' hgrow hcase
        have HO := Lib.hid (show RTold w w3 v' (acc ++ [⟨0, s.size, []⟩]) from HA.out.1.append ((Fr.refl (fun _ => False) wr).alloc _) hown' hgrow hcase (by omega))
        clear hown' hgrow hcase
        go_wp2
        go_ret3
        rw [HA.out.2.2, HS.out]
        exact ⟨_, rfl, HO.out⟩
end Go.Proofs.Ytdhjelilmccmbaa
