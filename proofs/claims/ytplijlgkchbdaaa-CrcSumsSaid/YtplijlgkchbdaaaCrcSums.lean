/-
  CrcSums: for every slice of bytes, every place and every change the law returns true, and its arguments read as before.
-/
import Derived.Test.YtplijlgkchbdaaaCrcAny
import Derived.Test.YtplijlgkchbdaaaCrcBurst
namespace Go.Proofs.Ytplijlgkchbdaaa
open Go.RowKit

namespace Crc
theorem xorb_zeros : ∀ (l : List UInt8), xorb l (List.replicate l.length 0) = l
  | [] => rfl
  | c :: l => by
    show (c ^^^ 0) :: xorb l (List.replicate l.length 0) = c :: l
    rw [xorb_zeros l, UInt8.xor_zero]
theorem xorb_one : ∀ (l : List UInt8) (p : Nat) (b : UInt8), p < l.length → xorb l (List.replicate p 0 ++ b :: List.replicate (l.length - p - 1) 0) = l.set p (l.getD p 0 ^^^ b)
  | [], _, _, h => by simp at h
  | c :: l, 0, b, _ => by
    show (c ^^^ b) :: xorb l (List.replicate (l.length + 1 - 0 - 1) 0) = (c ^^^ b) :: l
    rw [show l.length + 1 - 0 - 1 = l.length by omega, xorb_zeros]
  | c :: l, p + 1, b, h => by
    have ih := xorb_one l p b (by simpa using h)
    rw [List.replicate_succ, List.cons_append, List.length_cons, show l.length + 1 - (p + 1) - 1 = l.length - p - 1 by omega]
    show (c ^^^ 0) :: xorb l (List.replicate p 0 ++ b :: List.replicate (l.length - p - 1) 0) = c :: l.set p (l.getD p 0 ^^^ b)
    rw [ih, UInt8.xor_zero]
theorem bits_zeros : ∀ n : Nat, bits (List.replicate n 0) = List.replicate (8 * n) false
  | 0 => rfl
  | n + 1 => by
    rw [List.replicate_succ, show 8 * (n + 1) = 8 + 8 * n by omega, ← List.replicate_append_replicate, ← bits_zeros n]
    rfl
theorem byteBits_none (b : UInt8) (h : true ∉ byteBits b) : b = 0 := by
  have : ∀ k : Fin 256, true ∉ byteBits (UInt8.ofNat k.val) → UInt8.ofNat k.val = 0 := by decide +kernel
  have h2 := this ⟨b.toNat, b.toNat_lt⟩
  simp only [UInt8.ofNat_toNat] at h2
  exact h2 h

/-- Right bytes, one of them changed. -/
theorem right_one (l : List UInt8) (p : Nat) (b : UInt8) (h4 : 4 ≤ l.length) (hr : right l = true) (hp : p < l.length) : right (l.set p (l.getD p 0 ^^^ b)) = (b == 0) := by
  have hlen : l.length = (List.replicate p (0 : UInt8) ++ b :: List.replicate (l.length - p - 1) 0).length := by simp; omega
  have hm := right_xor l (List.replicate p 0 ++ b :: List.replicate (l.length - p - 1) 0) hlen h4 hr
  rw [xorb_one l p b hp] at hm
  have hb : bits (List.replicate p (0 : UInt8) ++ b :: List.replicate (l.length - p - 1) 0) = List.replicate (8 * p) false ++ byteBits b ++ List.replicate (8 * (l.length - p - 1)) false := by
    rw [bits_append, bits_zeros, List.append_assoc]
    congr 1
    show byteBits b ++ bits (List.replicate (l.length - p - 1) 0) = _
    rw [bits_zeros]
  rw [hb] at hm
  rw [Bool.eq_iff_iff, hm, beq_iff_eq]
  constructor
  · intro e
    by_cases ht : true ∈ byteBits b
    · exact absurd e (burst _ _ (byteBits b) (by simp [byteBits]) ht)
    · exact byteBits_none b ht
  · rintro rfl
    have hz : byteBits 0 = List.replicate 8 false := by decide
    rw [hz, List.replicate_append_replicate, List.replicate_append_replicate]
    exact no_burst _
end Crc

set_option maxRecDepth 100000 in
set_option maxHeartbeats 4000000 in
theorem sums_any (v : Value) (l : List UInt8) (at_ : Int) (h0 : 0 ≤ at_) (h1 : at_ ≤ 65535) (by_ : UInt8) (w : World) (hs : Sees w v l) (hl : l.length ≤ 200) :
    Calls Try.prog 3 #[v, .int .u16 at_, .int .u8 by_.toNat] w fun e w' => e = .returned (.bool true) ∧ Fr (fun _ => False) w w' := by
  obtain ⟨i0, hi, hz0, hz1, hz2⟩ := info_parts Try.infoU8
  obtain ⟨a, c, rfl, hn⟩ := hs.shape
  clear hn
  have hl' : decide ((200 : Int) < (l.length : Int)) = false := by simp; omega
  go_enter Try.func3, Try.ntmps3
  go_wp2_with fail
  refine (awake_any _).mono ?_
  rintro e w1 ⟨rfl, f1⟩
  go_wp2_with fail
  refine (put_any _ l _ (hs.fr f1 (fun _ _ h => h)) (by omega)).mono ?_
  rintro e w2 ⟨x, rfl, hM⟩
  obtain ⟨hox, f2, hk2⟩ := hM
  have hlen : (Crc.summed l).length = l.length + 4 := by unfold Crc.summed; rw [List.length_append, be4_length]
  obtain ⟨ax, cx, rfl, hnx⟩ := hox.sees.shape
  obtain ⟨gx, rfl⟩ : ∃ g, ax = some ⟨g, 0, none⟩ := by
    rcases hox.2 with ⟨e, _⟩ | ⟨g, cap, cur, e, _⟩
    · simp at e; omega
    · simp at e; exact ⟨g, e.1⟩
  have hgx : w1.heap.size ≤ gx := hk2 gx rfl
  have fw : Fr (fun _ => False) w w2 := f1.trans f2 (fun _ _ h => h)
  have hr := Crc.right_summed l
  have hox' : Own w2 (.slice (some ⟨gx, 0, none⟩) (l.length + 4) cx) (Crc.summed l) := by rw [← hlen]; exact hox
  replace hox := hox'
  clear hox' hnx hk2
  rw [hlen]
  have hsx : Sees w2 (.slice (some ⟨gx, 0, none⟩) (l.length + 4) cx) (Crc.summed l) := hox.sees
  have HL := Lib.hid hlen
  have HXX := Lib.hid hsx
  have HS := Lib.hid hs
  have HR := Lib.hid hr
  have HFW := Lib.hid fw
  have hgl : gx < w2.heap.size := hox.lt gx rfl
  clear hlen hsx hs hr fw f1 f2 hox hgx
  obtain ⟨p, hf, hp⟩ : ∃ p : Nat, at_ % ((l.length : Int) + 4) = p ∧ p < l.length + 4 := by
    refine ⟨(at_ % ((l.length : Int) + 4)).toNat, ?_, ?_⟩
    · rw [Int.toNat_of_nonneg (Int.emod_nonneg _ (by omega))]
    · have := Int.emod_lt_of_pos at_ (show 0 < (l.length : Int) + 4 by omega)
      have := Int.emod_nonneg at_ (show (l.length : Int) + 4 ≠ 0 by omega)
      omega
  have hfa := HXX.out.fr ((Fr.refl (fun _ => False) w2).alloc (.cells #[] 5)) (fun _ _ h => h)
  have h1st := hfa.first (P := Try.prog)
  have h2nd := hfa.drew.first (P := Try.prog)
  rw [HL.out] at h1st h2nd
  have H1 := Lib.hid h1st
  have H2 := Lib.hid h2nd
  have hown0 : (w2.alloc (.cells #[] 5)).ownsRow 0 5 1 (.slice (some ⟨w2.heap.size, 0, none⟩) 0 0) 0 [] :=
    ⟨rfl, .inr ⟨w2.heap.size, 0, #[], rfl, Nat.zero_le _, heap_alloc_new w2 _, Nat.le_refl _, by unfold maxLen; omega, rfl, rfl⟩⟩
  have HO := Lib.hid hown0
  clear hfa h1st h2nd hown0
  go_wp2_with (at_builtin; refine wpList_append_sep rfl (.tmp 16) (.tmp 17) 22 22 rfl 0 5 i0 (.int .u8 0) 1 1 Try.underlying22 _ Try.underlying22 (.inr ⟨_, rfl⟩) hi hz0 hz1 hz2 rfl (by decide) _ 0 [] rfl (by exact HO.out) _ (l.length + 4) ((Crc.summed l).map bv) rfl (lenOf_slice _ _ _) (by rw [List.length_map, HL.out, Nat.mul_one]) (by exact H1.out) (by exact H2.out) (bv_one _) ?b1 ?b2 (Nat.zero_le _) ?grow)
  case b1 => unfold maxLen; omega
  case b2 => omega
  case grow =>
    intro vy w3 hown hg hv
    obtain ⟨gy, cy, rfl⟩ : ∃ g c, vy = .slice (some ⟨g, 0, none⟩) (l.length + 4) c := by
      rcases hown.2 with ⟨_, h0⟩ | ⟨g, cap, cur, e, _⟩
      · omega
      · exact ⟨g, cap, e⟩
    have hgy : w2.heap.size ≤ gy := by
      rcases hv with e | e
      · simp [Value.ownBlock] at e; omega
      · simp [Value.ownBlock] at e; omega
    have f3 : Fr (fun _ => False) w2 w3 := ((Fr.refl _ _).alloc _).trans (Fr.of_grown hg) (fun i hi e => by simp [Value.ownBlock] at e; omega)
    have hy : Own w3 (.slice (some ⟨gy, 0, none⟩) (l.length + 4) cy) (Crc.summed l) := by
      unfold Own
      rw [HL.out]
      exact hown
    have hc := own_at hy p (by rw [HL.out]; exact hp)
    have hz := own_frozen hy p
    rw [Nat.zero_add] at hc
    have hro := Crc.right_one (Crc.summed l) p by_ (by rw [HL.out]; omega) HR.out (by rw [HL.out]; exact hp)
    have hys := own_set hy p ((Crc.summed l).getD p 0 ^^^ by_)
    have hlen2 : ((Crc.summed l).set p ((Crc.summed l).getD p 0 ^^^ by_)).length ≤ 1000 := by rw [List.length_set, HL.out]; omega
    have fw3 : Fr (fun _ => False) w w3 := HFW.out.trans f3 (fun _ _ h => h)
    have hpi : (p : Int) < (l.length : Int) + 4 := by omega
    have HX3 := Lib.hid (HXX.out.fr f3 (fun _ _ h => h))
    generalize (Crc.summed l).set p ((Crc.summed l).getD p 0 ^^^ by_) = Y at *
    generalize (Crc.summed l).getD p 0 = d at *
    have hx : Value.int .u8 (bits .xor .u8 (d.toNat : Int) (by_.toNat : Int)) = bv (d ^^^ by_) := by
      rw [xor_u8 _ _ (UInt8.toNat_lt _) (UInt8.toNat_lt _)]; unfold bv; rw [UInt8.toNat_xor]
    have HX := Lib.hid hx
    have HYS := Lib.hid hys
    have HRO := Lib.hid hro
    have HF3 := Lib.hid fw3
    have HLY := Lib.hid hlen2
    unfold bv at hc
    clear hown hg hv hy hys hro hx H1 H2 HO f3 fw3 hlen2 HXX
    go_wp2_with fail
    rw [HX.out, hf]
    clear hf
    have HSX := Lib.hid (show Sees (w3.setCell ⟨gy, p, none⟩ (bv (d ^^^ by_))) (.slice (some ⟨gx, 0, none⟩) (l.length + 4) cx) (Crc.summed l) from HX3.out.fr ((Fr.refl (fun k => k = gy) w3).setCell (p := ⟨gy, p, none⟩) (fun _ => rfl) _) (fun k hk e => by simp [Value.ownBlock] at hk; omega))
    have HFY := Lib.hid (show Fr (fun _ => False) w (w3.setCell ⟨gy, p, none⟩ (bv (d ^^^ by_))) from HF3.out.setCell (p := ⟨gy, p, none⟩) (fun h => absurd h (by have := HFW.out.size; simp; omega)) _)
    have HSY := Lib.hid HYS.out.sees
    generalize w3.setCell ⟨gy, p, none⟩ (bv (d ^^^ by_)) = w5 at *
    have HSL := Lib.hid (HS.out.fr HFY.out (fun _ _ h => h))
    have hc1 : ∀ W, Fr (fun _ => False) w5 W → (convert 22 9 (.slice (some ⟨gx, 0, none⟩) (l.length + 4) cx)).run Try.prog W = .ok (.string ⟨(Crc.summed l).toArray⟩) W :=
      fun W hf => (HSX.out.fr hf (fun _ _ h => h)).string _ _ _ Try.underlying22 Try.underlying5 Try.underlying9
    have hc2 : ∀ W, Fr (fun _ => False) w5 W → Calls Try.prog 9 #[.slice a l.length c] W fun e w' => e = .returned (.int .u32 (Crc.sum l)) ∧ w' = W :=
      fun W hf => sum_any _ l W (HSL.out.fr hf (fun _ _ h => h)) (by omega)
    have hc3 : ∀ W, Fr (fun _ => False) w5 W → Calls Try.prog 10 #[.slice a l.length c] W fun e w' => e = .returned (.int .u32 (Crc.sum l)) ∧ Fr (fun _ => False) W w' :=
      fun W hf => refsum_any _ l W (HSL.out.fr hf (fun _ _ h => h)) (by omega)
    have hc4 : ∀ W, Fr (fun _ => False) w5 W → Calls Try.prog 11 #[.slice a l.length c] W fun e w' => e = .returned (.string ⟨(Crc.summed l).toArray⟩) ∧ Fr (fun _ => False) W w' :=
      fun W hf => refsummed_any _ l W (HSL.out.fr hf (fun _ _ h => h)) (by omega)
    have hc5 : ∀ W, Fr (fun _ => False) w5 W → Calls Try.prog 12 #[.slice (some ⟨gx, 0, none⟩) (l.length + 4) cx] W fun e w' => e = .returned (.bool true) ∧ Fr (fun _ => False) W w' := fun W hf => by
      have := right_any _ _ W (HSX.out.fr hf (fun _ _ h => h)) (by rw [HL.out]; omega)
      rw [HR.out] at this
      exact this
    have hc6 : ∀ W, Fr (fun _ => False) w5 W → Calls Try.prog 12 #[.slice (some ⟨gy, 0, none⟩) (l.length + 4) cy] W fun e w' => e = .returned (.bool (by_ == 0)) ∧ Fr (fun _ => False) W w' := fun W hf => by
      have := right_any _ _ W (HSY.out.fr hf (fun _ _ h => h)) HLY.out
      rw [HRO.out] at this
      exact this
    have hc7 : ∀ W, Fr (fun _ => False) w5 W → Calls Try.prog 12 #[.slice (some ⟨gx, 0, none⟩) 3 cx] W fun e w' => e = .returned (.bool false) ∧ Fr (fun _ => False) W w' := fun W hf => by
      have h3 : 3 ≤ (Crc.summed l).length := by rw [HL.out]; omega
      have hl3 : ((Crc.summed l).take 3).length = 3 := by rw [List.length_take]; omega
      have := right_any _ _ W (sees_take (HSX.out.fr hf (fun _ _ h => h)) 3 h3) (by omega)
      have hf3 : Crc.right ((Crc.summed l).take 3) = false := by unfold Crc.right; rw [hl3]; rfl
      rw [hf3] at this
      exact this
    have h3c : 3 ≤ cx := by have := HSX.out.cap; rw [HL.out] at this; omega
    have hby : ((by_.toNat : Int) == 0) = (by_ == 0) := by
      rw [Bool.eq_iff_iff]
      simp [← UInt8.toNat_inj]
    have C1 := Lib.hid hc1; have C2 := Lib.hid hc2; have C3 := Lib.hid hc3; have C4 := Lib.hid hc4; have C5 := Lib.hid hc5; have C6 := Lib.hid hc6; have C7 := Lib.hid hc7
    have HBY := Lib.hid hby
    clear hc1 hc2 hc3 hc4 hc5 hc6 hc7 hc hz hby hl' hpi
    have hlt := Crc.sum_lt l
    have h3z : (3 : Int) ≤ (cx : Int) := by omega
    clear hgl hgy hp h0 h1
    generalize l.length + 4 = N at *
    go_cut [6] from 30 to 58 (fun r wx => r = .bool true ∧ Fr (fun _ => False) w wx)
    case first =>
      refine wp_region_told (by kernel_rfl) (fun a b => Fr (fun _ => False) a b) (fun w => Fr.refl _ w) (fun _ _ _ h k => h.trans k (fun _ _ h => h)) [30, 31, 32, 33, 34, 35, 36, 37, 38, 39, 40, 41, 42, 43, 44, 45, 46, 47, 48, 49, 50, 51, 52, 53, 54, 55, 56, 57, 58, 6] rfl (by decide) (by intro d hd; simp at hd ⊢; omega)
        (fun i v _ => v = [.slice a l.length c, .int .u32 (Crc.sum l), .slice a l.length c, .int .u32 (Crc.sum l), .bool true, .bool true, .slice (some ⟨gx, 0, none⟩) N cx, .string ⟨(Crc.summed l).toArray⟩, .slice a l.length c, .string ⟨(Crc.summed l).toArray⟩, .bool true, .bool true, .bool true, .slice (some ⟨gx, 0, none⟩) N cx, .bool true, .bool true, .bool true, .slice (some ⟨gy, 0, none⟩) N cy, .bool (by_ == 0), .int .u8 by_.toNat, .bool (by_ == 0), .bool true, .bool true, .bool true, .slice (some ⟨gx, 0, none⟩) N cx, .slice (some ⟨gx, 0, none⟩) 3 cx, .bool false, .bool true, .bool true, .bool true].getD i undef)
        (fun _ _ _ _ _ h => h) (by kernel_rfl) ?step ?fin
      case step =>
        intro vals
        simp only [frOf, fill, List.setIfInBounds_toArray, List.set_cons_succ, List.set_cons_zero]
        repeat' (first | exact AllOps.nil | refine AllOps.cons ?_ ?_)
        all_goals
          intro wx hle he K hK
          simp only [Act.put, List.setIfInBounds_toArray, List.set_cons_succ, List.set_cons_zero, List.getD_cons_zero, List.getD_cons_succ] at hK
          simp only [List.mem_cons, List.not_mem_nil, or_false, forall_eq_or_imp, forall_eq, Region.binds, forall_const, false_imp_iff, List.getD_cons_zero, List.getD_cons_succ] at he
          try simp only [he] at hK
          have hl5 := Fr.trans (Fr.drew (Fr.refl (fun _ => False) w5)) hle (fun _ _ h => h)
          have hcx := C1.out _ hl5
          try go_simp
          first
            | (go_at_call 9; refine (C2.out _ hl5).mono ?_; rintro e1 wa ⟨rfl, rfl⟩; exact hK _ _ (Fr.refl _ _) rfl)
            | (go_at_call 10; refine (C3.out _ hl5).mono ?_; rintro e1 wa ⟨rfl, fa⟩; exact hK _ _ fa rfl)
            | (go_at_call 11; refine (C4.out _ hl5).mono ?_; rintro e1 wa ⟨rfl, fa⟩; exact hK _ _ fa rfl)
            | (go_at_call_of 12 (Value.slice (some ⟨gx, 0, none⟩) N cx); refine (C5.out _ hl5).mono ?_; rintro e1 wa ⟨rfl, fa⟩; exact hK _ _ fa rfl)
            | (go_at_call_of 12 (Value.slice (some ⟨gy, 0, none⟩) N cy); refine (C6.out _ hl5).mono ?_; rintro e1 wa ⟨rfl, fa⟩; exact hK _ _ fa rfl)
            | (go_at_call_of 12 (Value.slice (some ⟨gx, 0, none⟩) 3 cx); refine (C7.out _ hl5).mono ?_; rintro e1 wa ⟨rfl, fa⟩; exact hK _ _ fa rfl)
            | exact hK _ _ (Fr.refl _ _) rfl
            | (rw [HBY.out]; exact hK _ _ (Fr.refl _ _) rfl)
      case fin =>
        intro vals w' hle hV
        have h9 : vals 29 = .bool true := hV 29 (by decide)
        clear hV
        have hfin := HFY.out.trans (Fr.trans (Fr.drew (Fr.refl (fun _ => False) w5)) hle (fun _ _ h => h)) (fun _ _ h => h)
        simp only [frOf, fill, List.setIfInBounds_toArray, List.set_cons_succ, List.set_cons_zero, Nat.reduceAdd]
        go_wp2_with fail
        go_meet
        case rel => exact ⟨by first | exact h9 | rfl, hfin⟩
    case rest =>
      obtain ⟨rfl, fw⟩ := hcut
      clear C1 C2 C3 C4 C5 C6 C7
      go_wp2_with fail
      go_ret
      exact ⟨rfl, fw⟩

/-- For every slice of bytes, in the form that the statement's lift takes. -/
theorem sums_all {w : World} (va : Value) (la : List Int) (ha : SeesL w va (la.map (Value.int .u8))) (fa : ∀ n ∈ la, (Lit.int .u8 n).wf = true) (at_ : Int) (h0 : 0 ≤ at_) (h1 : at_ ≤ 65535) (by_ : Int) (b0 : 0 ≤ by_) (b1 : by_ ≤ 255) :
    Calls Try.prog 3 #[va, .int .u16 at_, .int .u8 by_] w fun e w' => e = .returned (.bool true) ∧ Fr (fun _ => False) w w' := by
  have hs := sees_u8 ha fa
  have hb := bv_of by_ b0 b1
  unfold bv at hb
  rw [← hb]
  generalize UInt8.ofNat by_.toNat = b at *
  by_cases hl : (la.map fun n => UInt8.ofNat n.toNat).length ≤ 200
  · exact sums_any va _ at_ h0 h1 b w hs hl
  · obtain ⟨a, c, rfl, hn⟩ := hs.shape
    clear hn hb
    generalize (la.map fun n => UInt8.ofNat n.toNat).length = n at *
    have hl' : decide ((200 : Int) < (n : Int)) = true := by simp; omega
    go_enter Try.func3, Try.ntmps3
    go_wp2_with fail
    refine (awake_any _).mono ?_
    rintro e w1 ⟨rfl, f1⟩
    go_wp2_with fail
    go_ret
    exact ⟨rfl, f1⟩
end Go.Proofs.Ytplijlgkchbdaaa
