/-
  The small functions of package kind and what they call: which bytes are letters and digits; which texts are reserved; which may be names.
-/
import Derived.Test.YtdaabgnfgdojhaaApp
import Derived.Deep.LoopGhost
import Derived.Lib.Strings
namespace Go.Proofs.Ytdaabgnfgdojhaa
open Go.RowKit

theorem ret_bool {a b : Bool} (h : a = b) : Ending.returned (.bool a) = .returned (.bool b) := by rw [h]

def isLet (c : UInt8) : Bool := decide (97 ≤ (c.toNat : Int) ∧ (c.toNat : Int) ≤ 122 ∨ 65 ≤ (c.toNat : Int) ∧ (c.toNat : Int) ≤ 90)
def isDig (c : UInt8) : Bool := decide (48 ≤ (c.toNat : Int) ∧ (c.toNat : Int) ≤ 57)

/-- The words that are no names. -/
def kwords : List (List UInt8) := [[98, 111, 111, 108], [99, 97, 114, 100], [108, 111, 110, 103], [114, 101, 97, 108], [116, 101, 120, 116], [115, 101, 113], [111, 102], [114, 101, 99, 111, 114, 100], [101, 110, 117, 109], [99, 104, 111, 105, 99, 101], [112, 114, 111, 103, 114, 97, 109], [118, 101, 114, 115, 105, 111, 110], [116, 121, 112, 101], [101, 114, 114, 111, 114], [112, 114, 111, 99], [114, 101, 116, 117, 114, 110, 115], [99, 111, 108, 108, 97, 116, 101], [116, 105, 109, 101, 111, 117, 116], [102, 105, 114, 115, 116], [109, 97, 106, 111, 114, 105, 116, 121], [97, 108, 108]]

def isNam (c : UInt8) : Bool := isLet c || isDig c

/-- May it be a name? -/
def named (l : List UInt8) : Bool := decide (1 ≤ l.length ∧ l.length ≤ 20) && isLet (l.getD 0 0) && l.all isNam && !kwords.contains l

theorem all_getD (p : UInt8 → Bool) (l : List UInt8) (h : ∀ j, j < l.length → p (l.getD j 0) = true) : l.all p = true := by
  rw [List.all_eq_true]
  intro x hx
  obtain ⟨j, hj, rfl⟩ := List.getElem_of_mem hx
  have := h j hj
  simpa [List.getD, hj] using this

theorem not_all (p : UInt8 → Bool) (l : List UInt8) (j : Nat) (hj : j < l.length) (h : p (l.getD j 0) = false) : l.all p = false := by
  rw [List.all_eq_false]
  refine ⟨l[j], List.getElem_mem hj, ?_⟩
  simpa [List.getD, hj] using h

set_option maxHeartbeats 1000000 in
theorem letter_any (c : UInt8) (w : World) : Calls Try.prog 54 #[.int .u8 c.toNat] w fun e w' => e = .returned (.bool (isLet c)) ∧ w = w' := by
  unfold isLet
  have h1 : (c.toNat : Int) ≤ 255 := by have := c.toNat_lt; omega
  have h0 : (0 : Int) ≤ (c.toNat : Int) := by omega
  generalize (c.toNat : Int) = n at *
  by_cases a : 97 ≤ n <;> by_cases b : n ≤ 122 <;> by_cases d : 65 ≤ n <;> by_cases e : n ≤ 90 <;>
    first
    | omega
    | (go_enter Try.func54, Try.ntmps54
       go_wp2
       go_ret
       exact ⟨ret_bool (by simp [a, b, d, e]), rfl⟩)

set_option maxHeartbeats 1000000 in
theorem digit_any (c : UInt8) (w : World) : Calls Try.prog 55 #[.int .u8 c.toNat] w fun e w' => e = .returned (.bool (isDig c)) ∧ w = w' := by
  unfold isDig
  have h1 : (c.toNat : Int) ≤ 255 := by have := c.toNat_lt; omega
  have h0 : (0 : Int) ≤ (c.toNat : Int) := by omega
  generalize (c.toNat : Int) = n at *
  by_cases a : 48 ≤ n <;> by_cases b : n ≤ 57 <;>
    first
    | omega
    | (go_enter Try.func55, Try.ntmps55
       go_wp2
       go_ret
       exact ⟨ret_bool (by simp [a, b]), rfl⟩)

set_option maxHeartbeats 4000000 in
theorem reserved_any (s : ByteArray) (w : World) : Calls Try.prog 56 #[.string s] w fun e w' => e = .returned (.bool (kwords.contains s.data.toList)) ∧ w = w' := by
  go_enter Try.func56, Try.ntmps56
  go_wp2
  all_goals go_ret
  all_goals refine ⟨ret_bool ?_, rfl⟩
  all_goals simp_all [Lib.toList_data, kwords]

set_option maxHeartbeats 2000000 in
theorem named_any (s : ByteArray) (w : World) (hs : s.size ≤ maxLen) : Calls Try.prog 29 #[.string s] w fun e w' => e = .returned (.bool (named s.data.toList)) ∧ w = w' := by
  unfold maxLen at hs
  have hl : s.data.toList.length = s.size := rfl
  have Hl := Lib.hid hl
  clear hl
  by_cases h1 : s.size < 1
  · go_enter Try.func29, Try.ntmps29
    go_wp2
    go_ret
    refine ⟨ret_bool ?_, rfl⟩
    simp [named, Hl.out]; omega
  by_cases h2 : 20 < s.size
  · go_enter Try.func29, Try.ntmps29
    go_wp2
    go_ret
    refine ⟨ret_bool ?_, rfl⟩
    simp [named, Hl.out]; omega
  have h3 : 0 < s.size := by omega
  have h4 : ¬ ((s.size : Int) < 1) := by omega
  have h5 : ¬ (20 < (s.size : Int)) := by omega
  obtain ⟨c, hc⟩ : ∃ c, c = s[0] := ⟨_, rfl⟩
  have hg : s.data.toList.getD 0 0 = c := by
    rw [hc, List.getD_eq_getElem?_getD, List.getElem?_eq_getElem (by rw [Hl.out]; exact h3)]
    rfl
  have Hc := Lib.hid hc
  have Hg := Lib.hid hg
  clear hc hg
  by_cases hp : isLet c = true
  · have HP := Lib.hid hp
    clear hp
    go_enter Try.func29, Try.ntmps29
    go_wp2_with fail
    rw [← Hc.out]
    refine (letter_any _ _).mono ?_
    rintro e w' ⟨rfl, rfl⟩
    rw [HP.out]
    go_wp2_with fail
    go_loopg [3, 20] s.size (fun g u3 u20 wr => ∃ k : Nat, k ≤ s.size ∧ g = s.size - k ∧ u20 = .int .i64 k ∧ Hid (∀ j, j < k → isNam (s.data.toList.getD j 0) = true) ∧ wr = w)
    case atStart => exact ⟨0, Nat.zero_le _, rfl, rfl, Lib.hid (fun j hj => by omega), rfl⟩
    case round =>
      obtain ⟨k, hk, rfl, rfl, HA, rfl⟩ := hrel
      by_cases hlt : k < s.size
      · obtain ⟨d, hd⟩ : ∃ d, d = s[k] := ⟨_, rfl⟩
        have hgd : s.data.toList.getD k 0 = d := by
          rw [hd, List.getD_eq_getElem?_getD, List.getElem?_eq_getElem (by rw [Hl.out]; exact hlt)]
          rfl
        have Hd := Lib.hid hd
        have Hgd := Lib.hid hgd
        clear hd hgd
        by_cases ha : isLet d = true
        · have HLet := Lib.hid ha
          clear ha
          go_wp2_with fail
          rw [← Hd.out]
          refine (letter_any _ _).mono ?_
          rintro e w' ⟨rfl, rfl⟩
          rw [HLet.out]
          go_wp2_with fail
          go_roundg (s.size - (k + 1))
          case measure => omega
          case rel => exact ⟨k + 1, by omega, rfl, by go_num, Lib.hid (fun j hj => by
            by_cases h : j < k
            · exact HA.out j h
            · obtain rfl : j = k := by omega
              rw [Hgd.out]; simp [isNam, HLet.out]), rfl⟩
        · have ha' : isLet d = false := by simpa using ha
          have HLet := Lib.hid ha'
          clear ha ha'
          go_wp2_with fail
          rw [← Hd.out]
          refine (letter_any _ _).mono ?_
          rintro e w' ⟨rfl, rfl⟩
          rw [HLet.out]
          go_wp2_with fail
          rw [← Hd.out]
          refine (digit_any _ _).mono ?_
          rintro e w' ⟨rfl, rfl⟩
          by_cases hb : isDig d = true
          · rw [hb]
            have HDig := Lib.hid hb
            clear hb
            go_wp2_with fail
            go_roundg (s.size - (k + 1))
            case measure => omega
            case rel => exact ⟨k + 1, by omega, rfl, by go_num, Lib.hid (fun j hj => by
              by_cases h : j < k
              · exact HA.out j h
              · obtain rfl : j = k := by omega
                rw [Hgd.out]; simp [isNam, HDig.out]), rfl⟩
          · have hb' : isDig d = false := by simpa using hb
            rw [hb']
            have HDig := Lib.hid hb'
            clear hb hb'
            go_wp2_with fail
            go_ret
            refine ⟨ret_bool ?_, rfl⟩
            have := not_all isNam s.data.toList k (by rw [Hl.out]; exact hlt) (by rw [Hgd.out]; simp [isNam, HLet.out, HDig.out])
            simp [named, this]
      · obtain rfl : k = s.size := by omega
        have hall : s.data.toList.all isNam = true := all_getD _ _ (by rw [Hl.out]; exact HA.out)
        have HAll := Lib.hid hall
        clear hall
        go_wp2_with fail
        refine (reserved_any _ _).mono ?_
        rintro e w' ⟨rfl, rfl⟩
        go_wp2_with fail
        go_ret
        refine ⟨ret_bool ?_, rfl⟩
        have e1 : decide (1 ≤ s.data.toList.length ∧ s.data.toList.length ≤ 20) = true := by rw [Hl.out]; simp; omega
        rw [named, e1, HAll.out, Hg.out, HP.out]
        simp
  · have hp' : isLet c = false := by simpa using hp
    have HP := Lib.hid hp'
    clear hp hp'
    go_enter Try.func29, Try.ntmps29
    go_wp2_with fail
    rw [← Hc.out]
    refine (letter_any _ _).mono ?_
    rintro e w' ⟨rfl, rfl⟩
    rw [HP.out]
    go_wp2_with fail
    go_ret
    refine ⟨ret_bool ?_, rfl⟩
    rw [named, Hg.out, HP.out]
    simp

end Go.Proofs.Ytdaabgnfgdojhaa
