/-
  package lex: the value of a token.
-/
import Derived.Test.YtdhjelilmccmbaaLexSplit
import Derived.Deep.QuietTactic
import Derived.BigQuiet
namespace Go.Proofs.Ytdhjelilmccmbaa
open Go.RowKit

/-- The decimal value of digits. -/
def dec (l : List UInt8) : Nat := l.foldl (fun n c => 10 * n + (c.toNat - 48)) 0

theorem dec_snoc (l : List UInt8) (c : UInt8) : dec (l ++ [c]) = 10 * dec l + (c.toNat - 48) := by simp [dec]

theorem dec_from (l : List UInt8) (n : Nat) (h : ∀ c ∈ l, isDig c = true) : l.foldl (fun n c => 10 * n + (c.toNat - 48)) n + 1 ≤ (n + 1) * 10 ^ l.length := by
  induction l generalizing n with
  | nil => simp
  | cons c l ih =>
    have h2 := h c (by simp)
    simp only [isDig, decide_eq_true_eq] at h2
    have h1 := ih (10 * n + (c.toNat - 48)) fun d hd => h d (by simp [hd])
    rw [List.foldl_cons, List.length_cons, Nat.pow_succ, Nat.mul_comm (10 ^ l.length) 10, ← Nat.mul_assoc]
    exact Nat.le_trans h1 (Nat.mul_le_mul_right _ (by omega))

theorem dec_lt (l : List UInt8) (h : ∀ c ∈ l, isDig c = true) (h18 : l.length ≤ 18) : dec l < 1000000000000000000 := by
  have h1 := dec_from l 0 h
  have h2 : (10 : Nat) ^ l.length ≤ 10 ^ 18 := Nat.pow_le_pow_right (by decide) h18
  unfold dec
  omega

theorem Fr.drewNs {S : Nat → Prop} {a b : World} (h : Fr S a b) (n : Nat) : Fr S a (b.drewN n) := ⟨h.os, h.tape, h.output, h.size, h.block⟩

set_option maxHeartbeats 1000000 in
theorem value_other (k a : Int) (s : ByteArray) (hk : k ≠ 2) (w : World) : Calls Try.prog 12 #[.agg #[.int .u8 k, .int .i64 a, .string s]] w fun e w' => e = .returned (.int .i64 0) ∧ Fr (fun _ => False) w w' := by
  have hd : (k == 2) = false := by simpa using hk
  go_enter Try.func12, Try.ntmps12
  go_wp2
  go_quiet (fail)
  go_wp2
  go_ret
  exact ⟨rfl, ((Fr.refl _ _).alloc _).drewNs _⟩


/-- '[]byte(s)': a new slice that shows the bytes. -/
theorem conv_bytes (w : World) (s : ByteArray) : ∃ cap w', (convert 9 22 (.string s)).run Try.prog w = .ok (.slice (some ⟨w.heap.size, 0, none⟩) s.size cap) w' ∧ Fr (fun _ => False) w w' ∧ ∀ j, j < s.size → w'.cell? ⟨w.heap.size, j, none⟩ = some (bv (s.data.toList.getD j 0)) := by
  refine ⟨_, _, run_bytes_of_string (P := Try.prog) w 9 22 5 s Try.underlying9 Try.underlying22 Try.underlying5, (Fr.refl _ _).drew.alloc _, ?_⟩
  intro j hj
  have hsy := sees_bytes w s 5
  have hl : s.data.toList.length = s.size := rfl
  rcases hsy with ⟨h0, _⟩ | ⟨g, off, cap, he, _, hc⟩
  · rw [h0] at hl; simp at hl; omega
  · simp only [Value.slice.injEq, Option.some.injEq, Addr.mk.injEq] at he
    obtain ⟨⟨rfl, rfl, _⟩, _⟩ := he
    have := hc j hj
    rwa [Nat.zero_add] at this

set_option maxHeartbeats 2000000 in
theorem value_num (a : Int) (s : ByteArray) (hs : s.size ≤ 18) (hd : ∀ c ∈ s.data.toList, isDig c = true) (w : World) : Calls Try.prog 12 #[.agg #[.int .u8 2, .int .i64 a, .string s]] w fun e w' => e = .returned (.int .i64 (dec s.data.toList : Nat)) ∧ Fr (fun _ => False) w w' := by
  have hl : s.data.toList.length = s.size := rfl
  have hall : cnt isDig s.data.toList = s.size := by
    rw [cnt_all, hl]
    intro j hj
    rw [List.getD_eq_getElem?_getD, List.getElem?_eq_getElem hj]
    exact hd _ (List.getElem_mem hj)
  have HC := fun w : World => head_dig s w (by unfold maxLen; omega)
  rw [hall, extract_whole] at HC
  have hex := extract_whole s
  have hmn : min (s.size : Int) 18 = s.size := by omega
  have HD := Lib.hid hd
  have HL := Lib.hid hl
  clear hd hl hall
  go_enter Try.func12, Try.ntmps12
  go_wp2
  go_quiet ((go_at_call 16; exact Calls.quiet_of_same ((HC _).mono fun e w' h => ⟨h.1, h.2.symm⟩)))
  have hfq : Fr (fun _ => False) w ((w.alloc (Obj.cells #[Value.int IntKind.u8 2, Value.int IntKind.i64 a, Value.string s] 37)).drewN nq) := ((Fr.refl (fun _ => False) w).alloc _).drewNs nq
  have hc0 : ((w.alloc (Obj.cells #[Value.int IntKind.u8 2, Value.int IntKind.i64 a, Value.string s] 37)).drewN nq).cell? ⟨w.heap.size, 2, none⟩ = some (.string s) := by go_simp
  generalize (w.alloc (Obj.cells #[Value.int IntKind.u8 2, Value.int IntKind.i64 a, Value.string s] 37)).drewN nq = wq at *
  obtain ⟨cap, wz, hcv, hfz, hcz⟩ := conv_bytes wq s
  have HZ := Lib.hid hcz
  clear hcz
  go_wp2
  clear hcv
  go_loopg [3, 26] s.size (fun g v3 v26 w2 => ∃ j : Nat, j ≤ s.size ∧ g = s.size - j ∧ v26 = .int .i64 j ∧ v3 = .int .i64 (dec (s.data.toList.take j) : Nat) ∧ w2 = wz)
  case atStart => exact ⟨0, Nat.zero_le _, rfl, rfl, rfl, rfl⟩
  case round =>
    obtain ⟨j, hj, rfl, rfl, rfl, rfl⟩ := hrel
    by_cases hlt : j < s.size
    · have hjl : j < s.data.toList.length := hlt
      have hcell := HZ.out j hlt
      rw [List.getD_eq_getElem?_getD, List.getElem?_eq_getElem hjl, Option.getD_some] at hcell
      have hdc := HD.out _ (List.getElem_mem hjl)
      have hsn := dec_snoc (s.data.toList.take j) s.data.toList[j]
      rw [← List.take_succ_eq_append_getElem hjl] at hsn
      have hb := dec_lt (s.data.toList.take j) (fun c hc => HD.out c (List.mem_of_mem_take hc)) (by rw [List.length_take]; omega)
      have hb2 := dec_lt (s.data.toList.take (j + 1)) (fun c hc => HD.out c (List.mem_of_mem_take hc)) (by rw [List.length_take]; omega)
      simp only [isDig, decide_eq_true_eq] at hdc
      generalize s.data.toList[j] = c at *
      generalize dec (s.data.toList.take j) = d at *
      have hd9 : d ≤ 99999999999999999 := by omega
      have HS := Lib.hid hsn
      have hc1 : (48 : Int) ≤ c.toNat := hdc.1
      have hc2 : (c.toNat : Int) ≤ 57 := hdc.2
      unfold bv at hcell
      clear hsn hb hb2 hdc
      go_wp2
      go_roundg (s.size - (j + 1))
      case measure => omega
      case rel => exact ⟨j + 1, hlt, rfl, by go_num, by rw [HS.out]; congr 1; omega, rfl⟩
    · obtain rfl : j = s.size := by omega
      go_wp2
      go_ret
      exact ⟨by rw [List.take_of_length_le (by rw [HL.out]; exact Nat.le_refl _)]; rfl, hfq.trans hfz (fun _ _ h => h)⟩

end Go.Proofs.Ytdhjelilmccmbaa
