/-
  package lex: as many bytes of the beginning of a text as are all fit.
-/
import Derived.Test.YtdhjelilmccmbaaLexSmall
import Derived.Deep.LoopGhost
namespace Go.Proofs.Ytdhjelilmccmbaa
open Go.RowKit

theorem extract_whole (s : ByteArray) : s.extract 0 s.size = s := by
  apply ByteArray.ext
  rw [ByteArray.data_extract]
  show s.data.extract 0 s.data.size = s.data
  exact Array.extract_size

set_option maxHeartbeats 1000000 in
theorem head_nam (s : ByteArray) (w : World) (hs : s.size ≤ maxLen) : Calls Try.prog 16 #[.string s, .func (.func 22) #[] #[]] w fun e w' => e = .returned (.string (s.extract 0 (cnt isNam s.data.toList))) ∧ w = w' := by
  unfold maxLen at hs
  have hl : s.data.toList.length = s.size := rfl
  have Hl := Lib.hid hl
  clear hl
  go_enter Try.func16, Try.ntmps16
  go_wp2
  go_loopg [5, 8] s.size (fun g u5 u8 wr => ∃ k : Nat, k ≤ s.size ∧ g = s.size - k ∧ u8 = .int .i64 k ∧ Hid (∀ j, j < k → isNam (s.data.toList.getD j 0) = true) ∧ wr = w)
  case atStart => exact ⟨0, Nat.zero_le _, rfl, rfl, Lib.hid (fun j hj => by omega), rfl⟩
  case round =>
    obtain ⟨k, hk, rfl, rfl, HA, rfl⟩ := hrel
    by_cases hlt : k < s.size
    · obtain ⟨c, hc⟩ : ∃ c, c = s[k] := ⟨_, rfl⟩
      have hg : s.data.toList.getD k 0 = c := by
        rw [hc, List.getD_eq_getElem?_getD, List.getElem?_eq_getElem (by rw [Hl.out]; exact hlt)]
        rfl
      have Hc := Lib.hid hc
      have Hg := Lib.hid hg
      clear hc hg
      by_cases hp : isNam c = true
      · have HP := Lib.hid hp
        clear hp
        go_wp2_with fail
        rw [← Hc.out]
        refine (name_any _ _).mono ?_
        rintro e w' ⟨rfl, rfl⟩
        rw [HP.out]
        go_wp2
        go_roundg (s.size - (k + 1))
        case measure => omega
        case rel => exact ⟨k + 1, by omega, rfl, by go_num, Lib.hid (fun j hj => by
          by_cases h : j < k
          · exact HA.out j h
          · obtain rfl : j = k := by omega
            rw [Hg.out]; exact HP.out), rfl⟩
      · have hp' : isNam c = false := by simpa using hp
        have HP := Lib.hid hp'
        clear hp hp'
        go_wp2_with fail
        rw [← Hc.out]
        refine (name_any _ _).mono ?_
        rintro e w' ⟨rfl, rfl⟩
        rw [HP.out]
        go_wp2
        go_ret
        have e1 := cnt_stop isNam s.data.toList k (by rw [Hl.out]; exact hlt) HA.out (by rw [Hg.out]; exact HP.out)
        exact ⟨by rw [e1]; rfl, rfl⟩
    · obtain rfl : k = s.size := by omega
      go_wp2
      go_ret
      have e1 := cnt_all isNam s.data.toList (by rw [Hl.out]; exact HA.out)
      exact ⟨by rw [e1, Hl.out, extract_whole]; rfl, rfl⟩

set_option maxHeartbeats 1000000 in
theorem head_dig (s : ByteArray) (w : World) (hs : s.size ≤ maxLen) : Calls Try.prog 16 #[.string s, .func (.func 14) #[] #[]] w fun e w' => e = .returned (.string (s.extract 0 (cnt isDig s.data.toList))) ∧ w = w' := by
  unfold maxLen at hs
  have hl : s.data.toList.length = s.size := rfl
  have Hl := Lib.hid hl
  clear hl
  go_enter Try.func16, Try.ntmps16
  go_wp2
  go_loopg [5, 8] s.size (fun g u5 u8 wr => ∃ k : Nat, k ≤ s.size ∧ g = s.size - k ∧ u8 = .int .i64 k ∧ Hid (∀ j, j < k → isDig (s.data.toList.getD j 0) = true) ∧ wr = w)
  case atStart => exact ⟨0, Nat.zero_le _, rfl, rfl, Lib.hid (fun j hj => by omega), rfl⟩
  case round =>
    obtain ⟨k, hk, rfl, rfl, HA, rfl⟩ := hrel
    by_cases hlt : k < s.size
    · obtain ⟨c, hc⟩ : ∃ c, c = s[k] := ⟨_, rfl⟩
      have hg : s.data.toList.getD k 0 = c := by
        rw [hc, List.getD_eq_getElem?_getD, List.getElem?_eq_getElem (by rw [Hl.out]; exact hlt)]
        rfl
      have Hc := Lib.hid hc
      have Hg := Lib.hid hg
      clear hc hg
      by_cases hp : isDig c = true
      · have HP := Lib.hid hp
        clear hp
        go_wp2_with fail
        rw [← Hc.out]
        refine (digit_any _ _).mono ?_
        rintro e w' ⟨rfl, rfl⟩
        rw [HP.out]
        go_wp2
        go_roundg (s.size - (k + 1))
        case measure => omega
        case rel => exact ⟨k + 1, by omega, rfl, by go_num, Lib.hid (fun j hj => by
          by_cases h : j < k
          · exact HA.out j h
          · obtain rfl : j = k := by omega
            rw [Hg.out]; exact HP.out), rfl⟩
      · have hp' : isDig c = false := by simpa using hp
        have HP := Lib.hid hp'
        clear hp hp'
        go_wp2_with fail
        rw [← Hc.out]
        refine (digit_any _ _).mono ?_
        rintro e w' ⟨rfl, rfl⟩
        rw [HP.out]
        go_wp2
        go_ret
        have e1 := cnt_stop isDig s.data.toList k (by rw [Hl.out]; exact hlt) HA.out (by rw [Hg.out]; exact HP.out)
        exact ⟨by rw [e1]; rfl, rfl⟩
    · obtain rfl : k = s.size := by omega
      go_wp2
      go_ret
      have e1 := cnt_all isDig s.data.toList (by rw [Hl.out]; exact HA.out)
      exact ⟨by rw [e1, Hl.out, extract_whole]; rfl, rfl⟩

set_option maxHeartbeats 1000000 in
theorem head_line (s : ByteArray) (w : World) (hs : s.size ≤ maxLen) : Calls Try.prog 16 #[.string s, .func (.func 17) #[] #[]] w fun e w' => e = .returned (.string (s.extract 0 (cnt isLine s.data.toList))) ∧ w = w' := by
  unfold maxLen at hs
  have hl : s.data.toList.length = s.size := rfl
  have Hl := Lib.hid hl
  clear hl
  go_enter Try.func16, Try.ntmps16
  go_wp2
  go_loopg [5, 8] s.size (fun g u5 u8 wr => ∃ k : Nat, k ≤ s.size ∧ g = s.size - k ∧ u8 = .int .i64 k ∧ Hid (∀ j, j < k → isLine (s.data.toList.getD j 0) = true) ∧ wr = w)
  case atStart => exact ⟨0, Nat.zero_le _, rfl, rfl, Lib.hid (fun j hj => by omega), rfl⟩
  case round =>
    obtain ⟨k, hk, rfl, rfl, HA, rfl⟩ := hrel
    by_cases hlt : k < s.size
    · obtain ⟨c, hc⟩ : ∃ c, c = s[k] := ⟨_, rfl⟩
      have hg : s.data.toList.getD k 0 = c := by
        rw [hc, List.getD_eq_getElem?_getD, List.getElem?_eq_getElem (by rw [Hl.out]; exact hlt)]
        rfl
      have Hc := Lib.hid hc
      have Hg := Lib.hid hg
      clear hc hg
      by_cases hp : isLine c = true
      · have HP := Lib.hid hp
        clear hp
        go_wp2_with fail
        rw [← Hc.out]
        refine (line_any _ _).mono ?_
        rintro e w' ⟨rfl, rfl⟩
        rw [HP.out]
        go_wp2
        go_roundg (s.size - (k + 1))
        case measure => omega
        case rel => exact ⟨k + 1, by omega, rfl, by go_num, Lib.hid (fun j hj => by
          by_cases h : j < k
          · exact HA.out j h
          · obtain rfl : j = k := by omega
            rw [Hg.out]; exact HP.out), rfl⟩
      · have hp' : isLine c = false := by simpa using hp
        have HP := Lib.hid hp'
        clear hp hp'
        go_wp2_with fail
        rw [← Hc.out]
        refine (line_any _ _).mono ?_
        rintro e w' ⟨rfl, rfl⟩
        rw [HP.out]
        go_wp2
        go_ret
        have e1 := cnt_stop isLine s.data.toList k (by rw [Hl.out]; exact hlt) HA.out (by rw [Hg.out]; exact HP.out)
        exact ⟨by rw [e1]; rfl, rfl⟩
    · obtain rfl : k = s.size := by omega
      go_wp2
      go_ret
      have e1 := cnt_all isLine s.data.toList (by rw [Hl.out]; exact HA.out)
      exact ⟨by rw [e1, Hl.out, extract_whole]; rfl, rfl⟩

end Go.Proofs.Ytdhjelilmccmbaa
