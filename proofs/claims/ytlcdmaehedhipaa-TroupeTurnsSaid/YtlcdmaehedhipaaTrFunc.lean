/-
  slices.IndexFunc by the two closures of package troupe: which is the first that is n; which is the first above n.
-/
import Derived.Test.YtlcdmaehedhipaaTrNext
namespace Go.Proofs.Ytlcdmaehedhipaa
open Go.RowKit
set_option maxRecDepth 100000

/-- A block that holds one number. -/
abbrev oInt (n : Int) : Obj := Obj.cells #[.int .i64 n] 3 (0, 0)
theorem int_cell {w : World} {g : Nat} {n : Int} (h : w.heap[g]? = some (oInt n)) : w.cell? ⟨g, 0, none⟩ = some (.int .i64 n) := by
  rw [cell_of_row w g _ _ _ _ h]; rfl

/-- Which of them is the first that is fit: its index, or -1. -/
def firstI (p : Int → Bool) (l : List Int) : Int := if l.any p then (l.findIdx p : Nat) else -1

theorem firstI_found (p : Int → Bool) (l : List Int) (k : Nat) (hk : k < l.length) (ha : ∀ j, (hj : j < l.length) → j < k → p l[j] = false) (h : p l[k] = true) : firstI p l = k := by
  unfold firstI
  have h1 : l.any p = true := List.any_eq_true.2 ⟨_, List.getElem_mem hk, h⟩
  rw [if_pos h1]
  congr 1
  exact (List.findIdx_eq hk).2 ⟨h, fun j hj => ha j (by omega) hj⟩

theorem firstI_none (p : Int → Bool) (l : List Int) (ha : ∀ j, (hj : j < l.length) → p l[j] = false) : firstI p l = -1 := by
  unfold firstI
  rw [if_neg]
  intro h
  obtain ⟨x, hx, hp⟩ := List.any_eq_true.1 h
  obtain ⟨j, hj, rfl⟩ := List.getElem_of_mem hx
  rw [ha j hj] at hp
  cases hp

theorem is_any (n x : Int) (g : Nat) (w : World) (h : w.heap[g]? = some (oInt n)) :
    Calls Try.prog 25 #[.int .i64 x, .pointer (some ⟨g, 0, none⟩)] w fun e w' => e = .returned (.bool (decide (x = n))) ∧ w = w' := by
  have hc := int_cell h
  clear h
  by_cases hx : x = n
  · have he : decide (x = n) = true := by simp [hx]
    rw [he]
    clear he
    go_enter Try.func25, Try.ntmps25
    go_wp2_with fail
    go_ret
    exact ⟨by first | rfl | simp [hx], rfl⟩
  · have he : decide (x = n) = false := by simp [hx]
    rw [he]
    clear he
    go_enter Try.func25, Try.ntmps25
    go_wp2_with fail
    go_ret
    exact ⟨by first | rfl | simp [hx], rfl⟩

set_option maxHeartbeats 4000000 in
theorem first_is (n : Int) (g : Nat) (l : List Int) (a : Option Addr) (c : Nat) (w : World) (h : w.heap[g]? = some (oInt n)) (hc : SIc w a c l) (hs : l.length ≤ 1000) :
    Calls Try.prog 26 #[.slice a l.length c, .func (.func 25) #[] #[.pointer (some ⟨g, 0, none⟩)]] w fun e w' => e = .returned (.int .i64 (firstI (fun x => decide (x = n)) l)) ∧ w = w' := by
  have Hc := Lib.hid hc
  have HG := Lib.hid h
  clear hc h
  go_enter Try.func26, Try.ntmps26
  go_wp2_with fail
  go_loopg [8] l.length (fun g u8 wr => ∃ k : Nat, k ≤ l.length ∧ g = l.length - k ∧ u8 = .int .i64 k ∧ Hid (∀ j, (hj : j < l.length) → j < k → decide ((fun x => x = n) l[j]) = false) ∧ wr = w)
  case atStart => exact ⟨0, Nat.zero_le _, rfl, rfl, Lib.hid (fun j _ hj => by omega), rfl⟩
  case round =>
    obtain ⟨k, hk, rfl, rfl, HA, rfl⟩ := hrel
    by_cases hlt : k < l.length
    · obtain ⟨hcap, g', off, rfl, hcell⟩ := Hc.out (by omega)
      obtain ⟨x, hx⟩ : ∃ x, x = l[k] := ⟨_, rfl⟩
      have hck := hcell k hlt
      rw [← hx] at hck
      have Hx := Lib.hid hx
      clear hcell hx hcap
      go_wp2_with fail
      refine (is_any n x g _ HG.out).mono ?_
      rintro e w1 ⟨rfl, rfl⟩
      by_cases hp : x = n
      · have he : decide (x = n) = true := by simp [hp]
        have HF : Hid (firstI (fun x => decide (x = n)) l = k) := Lib.hid (firstI_found _ l k hlt (fun j hj hjk => HA.out j hj hjk) (by rw [← Hx.out]; exact he))
        rw [he]
        clear he hp
        go_wp2_with fail
        go_ret
        exact ⟨lret_int HF.out.symm, rfl⟩
      · have he : decide (x = n) = false := by simp [hp]
        have HF : Hid (∀ j, (hj : j < l.length) → j < k + 1 → decide ((fun x => x = n) l[j]) = false) := Lib.hid (fun j hj hjk => by
          by_cases e : j = k
          · subst e; rw [← Hx.out]; exact he
          · exact HA.out j hj (by omega))
        rw [he]
        clear he hp
        go_wp2_with fail
        go_roundg (l.length - (k + 1))
        case measure => omega
        case rel => exact ⟨k + 1, by omega, rfl, by congr 1, HF, rfl⟩
    · have HF : Hid (firstI (fun x => decide (x = n)) l = -1) := Lib.hid (firstI_none _ l (fun j hj => HA.out j hj (by omega)))
      go_wp2_with fail
      go_ret
      exact ⟨lret_int HF.out.symm, rfl⟩

theorem above_any (n x : Int) (g : Nat) (w : World) (h : w.heap[g]? = some (oInt n)) :
    Calls Try.prog 27 #[.int .i64 x, .pointer (some ⟨g, 0, none⟩)] w fun e w' => e = .returned (.bool (decide (n < x))) ∧ w = w' := by
  have hc := int_cell h
  clear h
  by_cases hx : n < x
  · have he : decide (n < x) = true := by simp [hx]
    rw [he]
    clear he
    go_enter Try.func27, Try.ntmps27
    go_wp2_with fail
    go_ret
    exact ⟨by first | rfl | simp [hx], rfl⟩
  · have he : decide (n < x) = false := by simp [hx]
    rw [he]
    clear he
    go_enter Try.func27, Try.ntmps27
    go_wp2_with fail
    go_ret
    exact ⟨by first | rfl | simp [hx], rfl⟩

set_option maxHeartbeats 4000000 in
theorem first_above (n : Int) (g : Nat) (l : List Int) (a : Option Addr) (c : Nat) (w : World) (h : w.heap[g]? = some (oInt n)) (hc : SIc w a c l) (hs : l.length ≤ 1000) :
    Calls Try.prog 26 #[.slice a l.length c, .func (.func 27) #[] #[.pointer (some ⟨g, 0, none⟩)]] w fun e w' => e = .returned (.int .i64 (firstI (fun x => decide (n < x)) l)) ∧ w = w' := by
  have Hc := Lib.hid hc
  have HG := Lib.hid h
  clear hc h
  go_enter Try.func26, Try.ntmps26
  go_wp2_with fail
  go_loopg [8] l.length (fun g u8 wr => ∃ k : Nat, k ≤ l.length ∧ g = l.length - k ∧ u8 = .int .i64 k ∧ Hid (∀ j, (hj : j < l.length) → j < k → decide ((fun x => n < x) l[j]) = false) ∧ wr = w)
  case atStart => exact ⟨0, Nat.zero_le _, rfl, rfl, Lib.hid (fun j _ hj => by omega), rfl⟩
  case round =>
    obtain ⟨k, hk, rfl, rfl, HA, rfl⟩ := hrel
    by_cases hlt : k < l.length
    · obtain ⟨hcap, g', off, rfl, hcell⟩ := Hc.out (by omega)
      obtain ⟨x, hx⟩ : ∃ x, x = l[k] := ⟨_, rfl⟩
      have hck := hcell k hlt
      rw [← hx] at hck
      have Hx := Lib.hid hx
      clear hcell hx hcap
      go_wp2_with fail
      refine (above_any n x g _ HG.out).mono ?_
      rintro e w1 ⟨rfl, rfl⟩
      by_cases hp : n < x
      · have he : decide (n < x) = true := by simp [hp]
        have HF : Hid (firstI (fun x => decide (n < x)) l = k) := Lib.hid (firstI_found _ l k hlt (fun j hj hjk => HA.out j hj hjk) (by rw [← Hx.out]; exact he))
        rw [he]
        clear he hp
        go_wp2_with fail
        go_ret
        exact ⟨lret_int HF.out.symm, rfl⟩
      · have he : decide (n < x) = false := by simp [hp]
        have HF : Hid (∀ j, (hj : j < l.length) → j < k + 1 → decide ((fun x => n < x) l[j]) = false) := Lib.hid (fun j hj hjk => by
          by_cases e : j = k
          · subst e; rw [← Hx.out]; exact he
          · exact HA.out j hj (by omega))
        rw [he]
        clear he hp
        go_wp2_with fail
        go_roundg (l.length - (k + 1))
        case measure => omega
        case rel => exact ⟨k + 1, by omega, rfl, by congr 1, HF, rfl⟩
    · have HF : Hid (firstI (fun x => decide (n < x)) l = -1) := Lib.hid (firstI_none _ l (fun j hj => HA.out j hj (by omega)))
      go_wp2_with fail
      go_ret
      exact ⟨lret_int HF.out.symm, rfl⟩

end Go.Proofs.Ytlcdmaehedhipaa
