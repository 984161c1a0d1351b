/-
  LexBytes: for every byte, every number and every text the law returns true, and its arguments read as before.
-/
import Derived.Test.YtdhjelilmccmbaaLexJoins
namespace Go.Proofs.Ytdhjelilmccmbaa
open Go.RowKit

theorem dec_from0 (t : List UInt8) (n : Nat) : t.foldl (fun n c => 10 * n + (c.toNat - 48)) n = n * 10 ^ t.length + dec t := by
  induction t generalizing n with
  | nil => simp [dec]
  | cons c t ih =>
    unfold dec
    rw [List.foldl_cons, List.foldl_cons, ih, ih, List.length_cons, Nat.pow_succ, Nat.mul_zero, Nat.zero_add, Nat.add_mul, ← Nat.mul_assoc, Nat.mul_comm (n * 10 ^ t.length) 10, Nat.mul_assoc 10 n, Nat.add_assoc]

theorem dec_cons (c : UInt8) (t : List UInt8) : dec (c :: t) = (c.toNat - 48) * 10 ^ t.length + dec t := by
  have h : dec (c :: t) = t.foldl (fun n c => 10 * n + (c.toNat - 48)) (10 * 0 + (c.toNat - 48)) := rfl
  rw [h, dec_from0, Nat.mul_zero, Nat.zero_add]

/-- What the law has written of n: k is still to be written, t is. -/
structure Part (n k : Nat) (t : List UInt8) : Prop where
  val : k * 10 ^ t.length + dec t = n
  dig : ∀ c ∈ t, isDig c = true
  top : 1 ≤ t.length → 1 ≤ k

theorem dig_of (n : Nat) (h : n < 10) : isDig (UInt8.ofNat (48 + n)) = true ∧ (UInt8.ofNat (48 + n)).toNat = 48 + n := by
  have e : (UInt8.ofNat (48 + n)).toNat = 48 + n := by simp; omega
  refine ⟨?_, e⟩
  unfold isDig
  rw [e]
  simp
  omega

theorem Part.more {n k : Nat} {t : List UInt8} (h : Part n k t) (hk : 10 ≤ k) : Part n (k / 10) (UInt8.ofNat (48 + k % 10) :: t) := by
  have hd := dig_of (k % 10) (Nat.mod_lt _ (by decide))
  refine ⟨?_, ?_, fun _ => by omega⟩
  · rw [dec_cons, hd.2, List.length_cons, Nat.pow_succ, Nat.add_sub_cancel_left, ← Nat.add_assoc, Nat.mul_comm (10 ^ t.length) 10, ← Nat.mul_assoc, ← Nat.add_mul, show k / 10 * 10 + k % 10 = k by omega]
    exact h.val
  · intro c hc
    rw [List.mem_cons] at hc
    rcases hc with rfl | hc
    · exact hd.1
    · exact h.dig c hc

/-- A number, written. -/
structure Written (n : Nat) (l : List UInt8) : Prop where
  val : dec l = n
  dig : ∀ c ∈ l, isDig c = true
  head : ∃ c t, l = c :: t ∧ (1 ≤ t.length → (c.toNat : Int) ≠ 48)
  size : l.length ≤ 10

theorem Part.size {n k : Nat} {t : List UInt8} (h : Part n k t) (hn : n < 4294967296) : t.length ≤ 9 := by
  rcases Nat.lt_or_ge t.length 10 with h10 | h10
  · omega
  · exfalso
    have h1 := h.top (by omega)
    have h2 : (10 : Nat) ^ 10 ≤ 10 ^ t.length := Nat.pow_le_pow_right (by decide) h10
    have h3 : 10 ^ t.length ≤ k * 10 ^ t.length := Nat.le_mul_of_pos_left _ (by omega)
    have h4 := h.val
    have h5 : (10 : Nat) ^ 10 = 10000000000 := by decide
    omega

theorem Part.done {n k : Nat} {t : List UInt8} (h : Part n k t) (hk : k < 10) (hn : n < 4294967296) : Written n (UInt8.ofNat (48 + k % 10) :: t) := by
  have hd := dig_of (k % 10) (Nat.mod_lt _ (by decide))
  have hs := h.size hn
  refine ⟨?_, ?_, ⟨_, _, rfl, ?_⟩, by simp; omega⟩
  · rw [dec_cons, hd.2, Nat.add_sub_cancel_left, show k % 10 = k by omega]
    exact h.val
  · intro c hc
    rw [List.mem_cons] at hc
    rcases hc with rfl | hc
    · exact hd.1
    · exact h.dig c hc
  · intro ht
    have := h.top ht
    rw [hd.2]
    omega

theorem digs_all (l : List UInt8) (h : ∀ c ∈ l, isDig c = true) : cnt isDig l = l.length :=
  cnt_all isDig l fun j hj => by
    rw [List.getD_eq_getElem?_getD, List.getElem?_eq_getElem hj]
    exact h _ (List.getElem_mem hj)

/-- A number that is written has one token. -/
theorem Written.toks {n : Nat} {l : List UInt8} (h : Written n l) : lexA 0 l = .ok [⟨2, 0, l⟩, ⟨0, l.length, []⟩] := by
  obtain ⟨c, t, rfl, hc⟩ := h.head
  have hd := h.dig c (by simp)
  have h0 : isSep c = false ∧ isHash c = false ∧ isLet c = false := by
    simp only [isDig, isSep, isHash, isLet, decide_eq_true_eq, decide_eq_false_iff_not] at *
    omega
  have hall := digs_all _ h.dig
  have hsz := h.size
  have hst : step c t = .tok 2 (c :: t).length := by
    unfold step numStep
    rw [h0.1, h0.2.1, h0.2.2, hd, hall]
    simp only [Bool.false_eq_true, if_false, if_true]
    rw [if_neg]
    intro hx
    rcases hx with hx | ⟨hx, he⟩
    · omega
    · exact hc (by rw [List.length_cons] at hx; omega) he
  rw [lexA_cons, hst]
  simp only
  rw [List.drop_of_length_le (Nat.le_refl _), List.take_of_length_le (Nat.le_refl _), lexA_nil]
  simp [Res.pre]

theorem make_4001 (w : World) : ∃ (M : Array Value) (X : ByteArray), X.size = 4001 ∧ (Instr.makeSlice 22 (.int .i64 4001) (.int .i64 4001)).run Try.prog w = .ok (.slice (some ⟨w.heap.size, 0, none⟩) 4001 4001) (w.alloc (.cells M 5)) ∧
    (convert 22 9 (.slice (some ⟨w.heap.size, 0, none⟩) 4001 4001)).run Try.prog (w.alloc (.cells M 5)) = .ok (.string X) (w.alloc (.cells M 5)) := by
  obtain ⟨i0, hi, hz0, hz1, hz2⟩ := info_parts Try.infoU8
  have h := run_make (P := Try.prog) w 22 5 i0 (.int .u8 0) Try.underlying22 hi hz0 .i64 .i64 4001 4001 (by omega) (by omega) (by rw [hz2]; omega) (by omega)
  obtain ⟨M, hM⟩ : ∃ M, M = madeCells (Value.int .u8 0).cells ((4001 : Int).toNat * i0.size) := ⟨_, rfl⟩
  rw [← hM] at h
  have hs : Sees (w.alloc (.cells M 5)) (.slice (some ⟨w.heap.size, 0, none⟩) 4001 4001) (List.replicate 4001 0) := by
    have := sees_new (w := w.alloc (.cells M 5)) (l := List.replicate 4001 0) (c := 4001) w.heap.size (heap_alloc_new w _) ?_ (by rw [List.length_replicate]; exact Nat.le_refl _)
    · rwa [List.length_replicate] at this
    · intro j hj
      rw [List.length_replicate] at hj
      rw [hM, hz1]
      unfold madeCells
      rw [Array.getElem?_map, Array.getElem?_range, if_pos (by show j < 4001 * 1; omega)]
      have e1 : (List.replicate 4001 (0 : UInt8)).getD j 0 = 0 := by
        generalize 4001 = n
        rw [List.getD_eq_getElem?_getD, List.getElem?_replicate]
        split <;> rfl
      rw [e1, Option.map_some]
      have e2 : (Value.int IntKind.u8 0).cells[j % (Value.int IntKind.u8 0).cells.size]! = .int .u8 0 := by
        show (#[Value.int IntKind.u8 0] : Array Value)[j % 1]! = _
        rw [Nat.mod_one]
        rfl
      rw [e2]
      rfl
  refine ⟨M, ⟨(List.replicate 4001 0).toArray⟩, by show (List.replicate 4001 (0 : UInt8)).toArray.size = 4001; rw [List.size_toArray, List.length_replicate], ?_, hs.string 22 5 9 Try.underlying22 Try.underlying5 Try.underlying9⟩
  simpa using h

/-- 'string(b)' of one byte that was just made. -/
theorem conv_new (x : Int) (hx0 : 0 ≤ x) (hx1 : x ≤ 255) : ∀ w : World, (convert 22 9 (.slice (some ⟨w.heap.size, 0, none⟩) 1 1)).run Try.prog (w.alloc (.cells #[.int .u8 x] 5)) = .ok (.string ⟨#[UInt8.ofNat x.toNat]⟩) (w.alloc (.cells #[.int .u8 x] 5)) := by
  intro w
  have hs : Sees (w.alloc (.cells #[.int .u8 x] 5)) (.slice (some ⟨w.heap.size, 0, none⟩) 1 1) [UInt8.ofNat x.toNat] := by
    refine sees_new (l := [UInt8.ofNat x.toNat]) w.heap.size (heap_alloc_new w _) ?_ (by simp)
    intro j hj
    simp at hj
    subst hj
    simp [bv_of x hx0 hx1]
  exact hs.string 22 5 9 Try.underlying22 Try.underlying5 Try.underlying9


def Among (C : UInt8) (lo hi : Int) (a b : Bool) : Prop := lo ≤ (C.toNat : Int) ∧ (C.toNat : Int) ≤ hi ∧ Hid (isLet C = a) ∧ Hid (isDig C = b)

theorem among (C : UInt8) : Among C 0 47 false false ∨ Among C 48 57 false true ∨ Among C 58 64 false false ∨ Among C 65 90 true false ∨ Among C 91 96 false false ∨ Among C 97 122 true false ∨ Among C 123 255 false false := by
  have h := C.toNat_lt
  have hl : isLet C = decide (97 ≤ (C.toNat : Int) ∧ (C.toNat : Int) ≤ 122 ∨ 65 ≤ (C.toNat : Int) ∧ (C.toNat : Int) ≤ 90) := rfl
  have hd : isDig C = decide (48 ≤ (C.toNat : Int) ∧ (C.toNat : Int) ≤ 57) := rfl
  unfold Among
  rw [hl, hd]
  generalize C.toNat = c at *
  by_cases h1 : c ≤ 47
  · exact .inl ⟨by omega, by omega, Lib.hid (by simp; omega), Lib.hid (by simp; omega)⟩
  · by_cases h2 : c ≤ 57
    · exact .inr (.inl ⟨by omega, by omega, Lib.hid (by simp; omega), Lib.hid (by simp; omega)⟩)
    · by_cases h3 : c ≤ 64
      · exact .inr (.inr (.inl ⟨by omega, by omega, Lib.hid (by simp; omega), Lib.hid (by simp; omega)⟩))
      · by_cases h4 : c ≤ 90
        · exact .inr (.inr (.inr (.inl ⟨by omega, by omega, Lib.hid (by simp; omega), Lib.hid (by simp; omega)⟩)))
        · by_cases h5 : c ≤ 96
          · exact .inr (.inr (.inr (.inr (.inl ⟨by omega, by omega, Lib.hid (by simp; omega), Lib.hid (by simp; omega)⟩))))
          · by_cases h6 : c ≤ 122
            · exact .inr (.inr (.inr (.inr (.inr (.inl ⟨by omega, by omega, Lib.hid (by simp; omega), Lib.hid (by simp; omega)⟩)))))
            · exact .inr (.inr (.inr (.inr (.inr (.inr ⟨by omega, by omega, Lib.hid (by simp; omega), Lib.hid (by simp; omega)⟩)))))

set_option maxRecDepth 100000 in
set_option maxHeartbeats 8000000 in
theorem bytes_walk (C : UInt8) (n : Nat) (hn : n < 4294967296) (lg : ByteArray) (w : World) :
    Calls Try.prog 5 #[.int .u8 C.toNat, .int .u32 n, .string lg] w fun e w' => e = .returned (.bool true) ∧ Fr (fun _ => False) w w' := by
  have hC : (C.toNat : Int) ≤ 255 := by have := C.toNat_lt; omega
  go_enter Try.func5, Try.ntmps5
  go_wp2_with fail
  refine (awake_any _).mono ?_
  rintro e w1 ⟨rfl, f1⟩
  go_wp2
  go_loopg [7, 8] n (fun g v7 v8 wr => ∃ (k : Nat) (S : ByteArray), k ≤ n ∧ g = k ∧ v8 = .int .u64 k ∧ v7 = .string S ∧ S.size ≤ 9 ∧ Hid (Part n k S.data.toList ∧ Fr (fun _ => False) w wr))
  case atStart => exact ⟨n, ⟨#[]⟩, Nat.le_refl _, rfl, by go_num, rfl, Nat.zero_le _, Lib.hid ⟨⟨by simp [dec], by simp, by simp⟩, f1⟩⟩
  case round =>
    obtain ⟨k, S, hk, hgk, rfl, rfl, hS, HP⟩ := hrel
    have hgk' := Lib.hid hgk
    clear f1 hgk
    have kc := conv_new (48 + (k : Int) % 10) (by omega) (by omega)
    have hch : UInt8.ofNat (48 + (k : Int) % 10).toNat = UInt8.ofNat (48 + k % 10) := by congr 1
    obtain ⟨H, hH⟩ : ∃ H : ByteArray, H = ⟨#[UInt8.ofNat (48 + k % 10)]⟩ := ⟨_, rfl⟩
    rw [hch, ← hH] at kc
    have hHs : H.size = 1 := by rw [hH]; rfl
    have hHS : (H ++ S).data.toList = UInt8.ofNat (48 + k % 10) :: S.data.toList := by rw [hH]; simp [ByteArray.data_append]
    have HH := Lib.hid hHs
    have HL := Lib.hid hHS
    have hH1 : H.size ≤ 1 := by omega
    clear hch hH hHs hHS
    by_cases h10 : k < 10
    · have HW := Lib.hid (HP.out.1.done h10 hn)
      have hhs : (H ++ S).size ≤ 10 := by rw [ByteArray.size_append]; omega
      go_wp2_with fail
      refine (split_small (H ++ S) (by omega) _).mono ?_
      rintro e w2 ⟨u1, rfl, hT⟩
      obtain ⟨r1, hr1⟩ : ∃ r, r = lexA 0 (H ++ S).data.toList := ⟨_, rfl⟩
      rw [← hr1] at hT ⊢
      have hr2 := HW.out.toks
      rw [← HL.out, ← hr1] at hr2
      clear hr1
      subst hr2
      simp only [Res.where_ok, Res.code_ok, Res.toks_ok] at hT ⊢
      have F2 := (HP.out.2.alloc _).trans hT.2.1 (fun _ _ h => h)
      obtain ⟨g, cap, rfl, hcap, hA⟩ := hT.at (by simp)
      have hls : (H ++ S).data.toList.length = (H ++ S).size := rfl
      have A0 := Lib.hid (hA.2 0 _ rfl)
      have A1 := Lib.hid (hA.2 1 _ rfl)
      have hg := hA.1
      obtain ⟨M, X, hX, hmk, hcv⟩ := make_4001 w2
      have HX := Lib.hid hX
      clear hT hA hX hls
      simp only [List.length_cons, List.length_nil] at hcap ⊢
      go_wp2_with fail
      clear hmk hcv
      refine (split_big X (by rw [HX.out]; decide) (by rw [HX.out]; unfold maxLen; decide) _).mono ?_
      rintro e w3 ⟨u2, rfl, hT3⟩
      simp only [Res.where_err, Res.code_err]
      have F3 : Fr (fun _ => False) w2 w3 := ((Fr.refl _ _).alloc _).trans hT3.2.1 (fun _ _ h => h)
      clear hT3
      have hHS2 : (⟨(H ++ S).data.toList.toArray⟩ : ByteArray) = H ++ S := rfl
      have hdec : dec (H ++ S).data.toList = n := by rw [HL.out]; exact HW.out.val
      have hdig : ∀ c ∈ (H ++ S).data.toList, isDig c = true := by rw [HL.out]; exact HW.out.dig
      have A0' := A0.out
      rw [hHS2] at A0'
      have q0 : w3.cell? ⟨g, 0, none⟩ = some (.int .u8 2) := by rw [F3.cell (p := ⟨g, 0, none⟩) hg (fun h => h)]; exact A0'.1
      have q1 : w3.cell? ⟨g, 1, none⟩ = some (.int .i64 0) := by rw [F3.cell (p := ⟨g, 1, none⟩) hg (fun h => h)]; exact A0'.2.1
      have q2 : w3.cell? ⟨g, 2, none⟩ = some (.string (H ++ S)) := by rw [F3.cell (p := ⟨g, 2, none⟩) hg (fun h => h)]; exact A0'.2.2
      have HD := Lib.hid hdec
      have HDG := Lib.hid hdig
      obtain ⟨D, hD⟩ : ∃ D, D = H ++ S := ⟨_, rfl⟩
      rw [← hD] at q2 HD HDG
      have HDs : Hid (D.size ≤ 18) := Lib.hid (by rw [hD]; omega)
      clear A0' hHS2 hdec hdig hD A0
      go_wp2_with fail
      refine (value_num _ D HDs.out HDG.out _).mono ?_
      rintro e w4 ⟨rfl, f4⟩
      rw [HD.out]
      have F4 := F3.trans f4 (fun _ _ h => h)
      clear f4 F3 q0 q1 q2
      have q3 : w4.cell? ⟨g, 3, none⟩ = some (.int .u8 0) := by rw [F4.cell (p := ⟨g, 3, none⟩) hg (fun h => h)]; exact A1.out.1
      have q4 : w4.cell? ⟨g, 4, none⟩ = some (.int .i64 ((H ++ S).data.toList.length : Nat)) := by rw [F4.cell (p := ⟨g, 4, none⟩) hg (fun h => h)]; exact A1.out.2.1
      have q5 : w4.cell? ⟨g, 5, none⟩ = some (.string ⟨#[]⟩) := by rw [F4.cell (p := ⟨g, 5, none⟩) hg (fun h => h)]; exact A1.out.2.2
      generalize (H ++ S).data.toList.length = ln at *
      go_wp2_with fail
      refine (value_other 0 _ _ (by decide) _).mono ?_
      rintro e w5 ⟨rfl, f5⟩
      have F5 := F2.trans (F4.trans f5 (fun _ _ h => h)) (fun _ _ h => h)
      clear f5 q3 q4 q5 F4 F2
      clear HDs HDG HD A1 HX HW hgk' HP HH HL kc hcap hg
      rcases among C with ⟨m1, m2, ML, MD⟩ | ⟨m1, m2, ML, MD⟩ | ⟨m1, m2, ML, MD⟩ | ⟨m1, m2, ML, MD⟩ | ⟨m1, m2, ML, MD⟩ | ⟨m1, m2, ML, MD⟩ | ⟨m1, m2, ML, MD⟩
      all_goals
        go_wp2_with fail
        refine (letter_any _ _).mono ?_
        rintro e w' ⟨rfl, rfl⟩
        rw [ML.out]
        go_wp2_with fail
        refine (digit_any _ _).mono ?_
        rintro e w' ⟨rfl, rfl⟩
        rw [MD.out]
        go_wp2_with fail
        refine (value_other 1 _ _ (by decide) _).mono ?_
        rintro e w6 ⟨rfl, f6⟩
        go_wp2
        go_ret
        first
        | exact ⟨rfl, F5.trans f6 (fun _ _ h => h)⟩
        | exact ⟨ret_bool (by simp; omega), F5.trans f6 (fun _ _ h => h)⟩
    · have HM := Lib.hid (HP.out.1.more (by omega))
      go_wp2
      go_roundg (k / 10)
      case measure => rw [hgk'.out]; omega
      case rel => exact ⟨k / 10, H ++ S, by omega, rfl, by go_num, rfl, by
        have := HM.out.size hn
        rw [List.length_cons] at this
        have hl : S.data.toList.length = S.size := rfl
        rw [ByteArray.size_append, HH.out]; omega, Lib.hid ⟨by rw [HL.out]; exact HM.out, HP.out.2.alloc _⟩⟩

theorem bytes_any (c : Int) (c0 : 0 ≤ c) (c1 : c ≤ 255) (n : Int) (n0 : 0 ≤ n) (n1 : n ≤ 4294967295) (lg : ByteArray) (w : World) :
    Calls Try.prog 5 #[.int .u8 c, .int .u32 n, .string lg] w fun e w' => e = .returned (.bool true) ∧ Fr (fun _ => False) w w' := by
  have h := bytes_walk (UInt8.ofNat c.toNat) n.toNat (by omega) lg w
  have e1 : (((UInt8.ofNat c.toNat).toNat : Nat) : Int) = c := by
    have : (UInt8.ofNat c.toNat).toNat = c.toNat := by simp; omega
    rw [this]; omega
  have e2 : ((n.toNat : Nat) : Int) = n := by omega
  rwa [e1, e2] at h

end Go.Proofs.Ytdhjelilmccmbaa
