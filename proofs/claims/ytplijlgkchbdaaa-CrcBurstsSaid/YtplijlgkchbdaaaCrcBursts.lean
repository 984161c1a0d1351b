/-
  CrcBursts: for every slice of bytes, every place and every mask the law returns true, and its arguments read as before.
-/
import Derived.Test.YtplijlgkchbdaaaCrcRight
import Derived.Test.YtplijlgkchbdaaaCrcBurst
namespace Go.Proofs.Ytplijlgkchbdaaa
open Go.RowKit

theorem mask_bit (M : BitVec 32) (k : Nat) (hk : k < 32) : ((M.toNat : Int) * 2 ^ k % 4294967296 / 2147483648 == 1) = M.getLsbD (31 - k) := by
  have e : (M.toNat : Int) * 2 ^ k % 4294967296 / 2147483648 = ((M.toNat * 2 ^ k / 2 ^ 31 % 2 : Nat) : Int) := by
    have : (M.toNat : Int) * 2 ^ k = ((M.toNat * 2 ^ k : Nat) : Int) := by simp
    rw [this]
    generalize M.toNat * 2 ^ k = x
    omega
  rw [e]
  have h1 : (M.toNat <<< k).testBit 31 = M.toNat.testBit (31 - k) := by
    rw [Nat.testBit_shiftLeft]
    simp
    omega
  rw [Nat.shiftLeft_eq, Nat.testBit_eq_decide_div_mod_eq] at h1
  show _ = M.toNat.testBit (31 - k)
  rw [← h1, Bool.eq_iff_iff]
  simp
  omega

set_option maxRecDepth 100000 in
set_option maxHeartbeats 4000000 in
theorem bursts_any (v : Value) (l : List UInt8) (at_ mask : Int) (h0 : 0 ≤ at_) (h1 : at_ ≤ 65535) (m0 : 0 ≤ mask) (m1 : mask ≤ 4294967295) (w : World) (hs : Sees w v l) (hl : l.length ≤ 200) :
    Calls Try.prog 4 #[v, .int .u16 at_, .int .u32 mask] w fun e w' => e = .returned (.bool true) ∧ Fr (fun _ => False) w w' := by
  obtain ⟨a, c, rfl, hn⟩ := hs.shape
  clear hn
  have hl' : decide ((200 : Int) < (l.length : Int)) = false := by simp; omega
  go_enter Try.func4, Try.ntmps4
  go_wp2_with fail
  refine (awake_any _).mono ?_
  rintro e w1 ⟨rfl, f1⟩
  go_wp2_with fail
  refine (put_any _ l _ (hs.fr f1 (fun _ _ h => h)) (by omega)).mono ?_
  rintro e w2 ⟨x, rfl, hM⟩
  obtain ⟨ho, f2, hk2⟩ := hM
  have hlen : (Crc.summed l).length = l.length + 4 := by unfold Crc.summed; rw [List.length_append, be4_length]
  have hsx := ho.sees.shape
  obtain ⟨ax, cx, rfl, hnx⟩ := hsx
  obtain ⟨g, rfl⟩ : ∃ g, ax = some ⟨g, 0, none⟩ := by
    rcases ho.2 with ⟨e, _⟩ | ⟨g, cap, cur, e, _⟩
    · simp at e; omega
    · simp at e; exact ⟨g, e.1⟩
  have hg : w1.heap.size ≤ g := hk2 g rfl
  have hgw : w.heap.size ≤ g := Nat.le_trans f1.size hg
  have fw : Fr (fun _ => False) w w2 := f1.trans f2 (fun _ _ h => h)
  have hr := Crc.right_summed l
  have ho' : Own w2 (.slice (some ⟨g, 0, none⟩) (l.length + 4) cx) (Crc.summed l) := by rw [← hlen]; exact ho
  replace ho := ho'
  clear ho'
  rw [hlen]
  generalize hL : Crc.summed l = L at *
  clear hnx hk2 f1 f2 hg hs hL
  obtain ⟨f, hf, hfl⟩ : ∃ f : Nat, at_ % (8 * ((l.length : Int) + 4) - 31) = f ∧ f + 32 ≤ 8 * (l.length + 4) := by
    refine ⟨(at_ % (8 * ((l.length : Int) + 4) - 31)).toNat, ?_, ?_⟩
    · rw [Int.toNat_of_nonneg (Int.emod_nonneg _ (by omega))]
    · have := Int.emod_lt_of_pos at_ (show 0 < 8 * ((l.length : Int) + 4) - 31 by omega)
      have := Int.emod_nonneg at_ (show 8 * ((l.length : Int) + 4) - 31 ≠ 0 by omega)
      omega
  obtain ⟨M, hM⟩ : ∃ M : BitVec 32, (M.toNat : Int) = mask := ⟨BitVec.ofNat 32 mask.toNat, by rw [BitVec.toNat_ofNat]; omega⟩
  subst hM
  clear m0 m1
  go_wp2_with fail
  rw [hf]
  clear hf
  have T0 := Crc.Turned.start L f M
  go_loopg [9, 24] 32 (fun gg u i wr => ∃ (k : Nat) (y : List UInt8), k ≤ 32 ∧ gg = 32 - k ∧ i = .int .i64 k ∧ Own wr (.slice (some ⟨g, 0, none⟩) (l.length + 4) cx) y ∧ Crc.Turned L y f k M ∧ Fr (fun _ => False) w wr)
  case atStart => exact ⟨0, L, by omega, rfl, rfl, ho, T0, fw⟩
  case round =>
    clear ho fw T0
    obtain ⟨k, y, hk, rfl, rfl, ho, hT, fw⟩ := hrel
    by_cases hlt : k < 32
    · have hyl := own_len ho
      obtain ⟨q, hqd⟩ : ∃ q, q = (f + k) / 8 := ⟨_, rfl⟩
      obtain ⟨r, hrd⟩ : ∃ r, r = (f + k) % 8 := ⟨_, rfl⟩
      have hq : q < y.length := by omega
      have hc := own_at ho q hq
      have hz := own_frozen ho q
      rw [Nat.zero_add] at hc
      unfold bv at hc
      obtain ⟨D, hD⟩ : ∃ D : UInt8, D = UInt8.ofNat (128 / 2 ^ r) := ⟨_, rfl⟩
      have hS : Own (wr.setCell ⟨g, q, none⟩ (bv (y.getD q 0 ^^^ D))) (.slice (some ⟨g, 0, none⟩) (l.length + 4) cx) (Crc.flip y (f + k)) := by
        have := own_set ho q (y.getD q 0 ^^^ D)
        rw [hD] at this ⊢
        unfold Crc.flip
        rw [← hqd, ← hrd]
        exact this
      have hr9 : r < 8 := by omega
      have hD2 : (128 : Int) / 2 ^ r = (D.toNat : Int) := by
        rw [hD]
        have : ∀ a : Fin 8, (128 : Int) / 2 ^ a.val = ((UInt8.ofNat (128 / 2 ^ a.val)).toNat : Int) := by decide
        exact this ⟨_, hr9⟩
      generalize hd : y.getD q 0 = d at *
      have hx : Value.int .u8 (bits .xor .u8 (d.toNat : Int) (128 / 2 ^ r)) = bv (d ^^^ D) := by
        rw [hD2, xor_u8 _ _ (UInt8.toNat_lt _) (UInt8.toNat_lt _)]; unfold bv; rw [UInt8.toNat_xor]
      have hq8 : ((f : Int) + (k : Int)) / 8 = (q : Int) := by omega
      have hr8 : ((f : Int) + (k : Int)) % 8 = (r : Int) := by omega
      have hq9 : (q : Int) < (l.length : Int) + 4 := by omega
      have hqn : q < l.length + 4 := by omega
      have HO := Lib.hid ho
      have HT := Lib.hid hT
      have HW := Lib.hid fw
      have HR := Lib.hid hr
      have hMl := M.isLt
      have HX := Lib.hid hx
      have HS := Lib.hid hS
      have HB := Lib.hid (mask_bit M k hlt)
      have hfk : f + k < 8 * L.length := by omega
      have HFK := Lib.hid hfk
      clear hx hD hD2 hS ho hT hd fw hr hqd hrd hfk hyl hq
      go_wp2_with fail
      · rename_i _ hb
        rw [HB.out] at hb
        go_region
        all_goals
          go_wp2_with fail
          rw [HX.out]
          go_roundg (32 - (k + 1))
          case measure => omega
          case rel => exact ⟨k + 1, Crc.flip y (f + k), by omega, rfl, by simp, HS.out, HT.out.turn hb HFK.out, (HW.out.setCell (p := ⟨g, q, none⟩) (fun h => absurd h (by simp; omega)) _).drew⟩
      · rename_i _ hb
        rw [HB.out] at hb
        go_roundg (32 - (k + 1))
        case measure => omega
        case rel => exact ⟨k + 1, y, by omega, rfl, by simp, HO.out, HT.out.skip hb, HW.out⟩
    · obtain rfl : k = 32 := by omega
      have hR := Crc.right_turned L y f M (by omega) hr (by omega) hT
      have hyl := own_len ho
      have HO := Lib.hid ho
      have HW := Lib.hid fw
      have HL := Lib.hid (show y.length ≤ 1000 by omega)
      clear ho fw hr hT hyl
      go_wp2_with fail
      refine (right_any _ y _ HO.out.sees HL.out).mono ?_
      rintro e w3 ⟨rfl, f3⟩
      have HR := Lib.hid hR; clear hR
      go_wp2_with fail
      go_ret
      refine ⟨?_, HW.out.trans f3 (fun _ _ h => h)⟩
      rw [HR.out]
      have hz : decide (M = 0#32) = ((M.toNat : Int) == 0) := by
        rw [Bool.eq_iff_iff]
        simp [← BitVec.toNat_inj]
      show Ending.returned (Value.bool (decide (M = 0#32) == ((M.toNat : Int) == 0))) = _
      rw [hz]
      simp

/-- For every slice of bytes, in the form that the statement's lift takes. -/
theorem bursts_all {w : World} (va : Value) (la : List Int) (ha : SeesL w va (la.map (Value.int .u8))) (fa : ∀ n ∈ la, (Lit.int .u8 n).wf = true) (at_ : Int) (h0 : 0 ≤ at_) (h1 : at_ ≤ 65535) (mask : Int) (m0 : 0 ≤ mask) (m1 : mask ≤ 4294967295) :
    Calls Try.prog 4 #[va, .int .u16 at_, .int .u32 mask] w fun e w' => e = .returned (.bool true) ∧ Fr (fun _ => False) w w' := by
  have hs := sees_u8 ha fa
  by_cases hl : (la.map fun n => UInt8.ofNat n.toNat).length ≤ 200
  · exact bursts_any va _ at_ mask h0 h1 m0 m1 w hs hl
  · obtain ⟨a, c, rfl, hn⟩ := hs.shape
    clear hn
    generalize (la.map fun n => UInt8.ofNat n.toNat).length = n at *
    have hl' : decide ((200 : Int) < (n : Int)) = true := by simp; omega
    go_enter Try.func4, Try.ntmps4
    go_wp2_with fail
    refine (awake_any _).mono ?_
    rintro e w1 ⟨rfl, f1⟩
    go_wp2_with fail
    go_ret
    exact ⟨rfl, f1⟩
end Go.Proofs.Ytplijlgkchbdaaa
