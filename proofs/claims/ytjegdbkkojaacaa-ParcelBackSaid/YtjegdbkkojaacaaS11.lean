/-
  What ParAny, ParChk, ParBack, ParOnce rests on, part 11: CrcBurst, ParBackLaw, ParBackArg.
-/
import Derived.Test.YtjegdbkkojaacaaS01
import Derived.Test.YtjegdbkkojaacaaS05
import Derived.Test.YtjegdbkkojaacaaS08
import Derived.BigRegion
set_option linter.unusedVariables false
set_option linter.unusedSimpArgs false
set_option maxHeartbeats 64000000
namespace Go.Proofs.Ytjegdbkkojaacaa
open Go.RowKit
open Go.Lib (hid)
section
namespace Crc

theorem getD_left (a b : List Bool) (n : Nat) (h : n < a.length) : (a ++ b).getD n false = a.getD n false := by
  rw [List.getD_eq_getElem?_getD, List.getElem?_append_left h, ← List.getD_eq_getElem?_getD]
theorem getD_right (a b : List Bool) (n : Nat) (h : a.length ≤ n) : (a ++ b).getD n false = b.getD (n - a.length) false := by
  rw [List.getD_eq_getElem?_getD, List.getElem?_append_right h, ← List.getD_eq_getElem?_getD]

theorem bits_at : ∀ (l : List UInt8) (p : Nat), (bits l).getD p false = (l.getD (p / 8) 0).toNat.testBit (7 - p % 8)
  | [], p => by simp [bits]
  | c :: l, p => by
    have ih := bits_at l (p - 8)
    show (byteBits c ++ bits l).getD p false = _
    by_cases h : p < 8
    · rw [getD_left _ _ _ (by simpa [byteBits] using h), show p / 8 = 0 by omega, show p % 8 = p by omega, List.getD_cons_zero]
      match p, h with
      | 0, _ | 1, _ | 2, _ | 3, _ | 4, _ | 5, _ | 6, _ | 7, _ => rfl
    · rw [getD_right _ _ _ (by simp [byteBits]; omega), show (byteBits c).length = 8 from rfl, ih, show p / 8 = (p - 8) / 8 + 1 by omega, List.getD_cons_succ, show (p - 8) % 8 = p % 8 by omega]

/-- The bytes with the bit at place P turned. -/
def flip (l : List UInt8) (P : Nat) : List UInt8 := l.set (P / 8) (l.getD (P / 8) 0 ^^^ UInt8.ofNat (128 / 2 ^ (P % 8)))

theorem flip_length (l : List UInt8) (P : Nat) : (flip l P).length = l.length := by simp [flip]

theorem flip_byte (c : UInt8) (r s : Nat) (hr : r < 8) (hs : s < 8) : (c ^^^ UInt8.ofNat (128 / 2 ^ r)).toNat.testBit (7 - s) = (c.toNat.testBit (7 - s) ^^ decide (s = r)) := by
  rw [UInt8.toNat_xor, Nat.testBit_xor]
  congr 1
  have : ∀ a b : Fin 8, (UInt8.ofNat (128 / 2 ^ a.val)).toNat.testBit (7 - b.val) = decide (b.val = a.val) := by decide
  exact this ⟨r, hr⟩ ⟨s, hs⟩

theorem flip_at (l : List UInt8) (P p : Nat) (hP : P / 8 < l.length) : (bits (flip l P)).getD p false = ((bits l).getD p false ^^ decide (p = P)) := by
  rw [bits_at, bits_at]
  unfold flip
  by_cases h : p / 8 = P / 8
  · rw [← h] at hP ⊢
    rw [List.getD_eq_getElem?_getD, List.getElem?_set_self hP, Option.getD_some, flip_byte _ _ _ (by omega) (by omega)]
    congr 1
    rw [Bool.eq_iff_iff]
    simp
    omega
  · rw [List.getD_eq_getElem?_getD, List.getElem?_set_ne (fun e => h e.symm), ← List.getD_eq_getElem?_getD, decide_eq_false (by intro e; exact h (by rw [e]))]
    simp

/-- What the law's loop keeps behind k rounds: the bits from place 'from' on are turned as the mask says. -/
structure Turned (l y : List UInt8) (start k : Nat) (mask : BitVec 32) : Prop where
  len : y.length = l.length
  at_ : ∀ p, (bits y).getD p false = ((bits l).getD p false ^^ (decide (start ≤ p ∧ p < start + k) && mask.getLsbD (31 - (p - start))))

theorem Turned.start (l : List UInt8) (start : Nat) (mask : BitVec 32) : Turned l l start 0 mask :=
  ⟨rfl, fun p => by rw [decide_eq_false (by omega)]; simp⟩

theorem Turned.skip {l y : List UInt8} {start k : Nat} {mask : BitVec 32} (h : Turned l y start k mask) (hm : mask.getLsbD (31 - k) = false) : Turned l y start (k + 1) mask := by
  refine ⟨h.len, fun p => ?_⟩
  rw [h.at_ p]
  congr 1
  by_cases hp : p = start + k
  · subst hp
    rw [show start + k - start = k by omega, hm]
    simp
  · congr 1
    rw [Bool.eq_iff_iff]
    simp
    omega

theorem Turned.turn {l y : List UInt8} {start k : Nat} {mask : BitVec 32} (h : Turned l y start k mask) (hm : mask.getLsbD (31 - k) = true) (hl : start + k < 8 * l.length) : Turned l (flip y (start + k)) start (k + 1) mask := by
  refine ⟨by rw [flip_length]; exact h.len, fun p => ?_⟩
  rw [flip_at _ _ _ (by rw [h.len]; omega), h.at_ p, Bool.xor_assoc]
  congr 1
  by_cases hp : p = start + k
  · subst hp
    rw [show start + k - start = k by omega, hm, decide_eq_false (by omega), decide_eq_true (by omega : start ≤ start + k ∧ start + k < start + (k + 1))]
    simp
  · rw [decide_eq_false hp, Bool.xor_false]
    congr 1
    rw [Bool.eq_iff_iff]
    simp
    omega

theorem xorb_self : ∀ (l m : List UInt8), l.length = m.length → xorb l (xorb l m) = m
  | [], [], _ => rfl
  | a :: l, b :: m, h => by
    show (a ^^^ (a ^^^ b)) :: xorb l (xorb l m) = b :: m
    rw [xorb_self l m (by simpa using h), ← UInt8.xor_assoc, UInt8.xor_self, UInt8.zero_xor]
  | [], _ :: _, h => by simp at h
  | _ :: _, [], h => by simp at h

theorem xorl_at : ∀ (a b : List Bool) (p : Nat), a.length = b.length → (xorl a b).getD p false = (a.getD p false ^^ b.getD p false)
  | [], [], _, _ => rfl
  | x :: a, y :: b, 0, _ => rfl
  | x :: a, y :: b, p + 1, h => by
    show (xorl a b).getD p false = _
    rw [xorl_at a b p (by simpa using h)]
    rfl
  | [], _ :: _, _, h => by simp at h
  | _ :: _, [], _, h => by simp at h

theorem xorl_length : ∀ (a b : List Bool), a.length = b.length → (xorl a b).length = a.length
  | [], [], _ => rfl
  | x :: a, y :: b, h => by show (xorl a b).length + 1 = a.length + 1; rw [xorl_length a b (by simpa using h)]
  | [], _ :: _, h => by simp at h
  | _ :: _, [], h => by simp at h

theorem word_at (v : BitVec 32) (i : Nat) (h : i < 32) : (wordBits v).getD i false = v.getLsbD (31 - i) := by
  simp [wordBits, List.getD, h]

/-- Bytes with their sum, bits turned within 32 neighbours: they are right just if none was turned. -/
theorem right_turned (l y : List UInt8) (start : Nat) (mask : BitVec 32) (h4 : 4 ≤ l.length) (hr : right l = true) (hs : start + 32 ≤ 8 * l.length) (h : Turned l y start 32 mask) : right y = decide (mask = 0#32) := by
  have hb : bits (xorb l y) = List.replicate start false ++ wordBits mask ++ List.replicate (8 * l.length - (start + 32)) false := by
    rw [bits_xor l y h.len.symm]
    have hll : (bits l).length = (bits y).length := by rw [bits_length, bits_length, h.len]
    have hl1 : (xorl (bits l) (bits y)).length = 8 * l.length := by rw [xorl_length _ _ hll, bits_length]
    have hl2 : (List.replicate start false ++ wordBits mask ++ List.replicate (8 * l.length - (start + 32)) false).length = 8 * l.length := by simp [wordBits]; omega
    apply List.ext_getElem (by rw [hl1, hl2])
    intro p h1 h2
    have e1 : (xorl (bits l) (bits y))[p] = (xorl (bits l) (bits y)).getD p false := by simp [List.getD, h1]
    have e2 : (List.replicate start false ++ wordBits mask ++ List.replicate (8 * l.length - (start + 32)) false)[p] = (List.replicate start false ++ wordBits mask ++ List.replicate (8 * l.length - (start + 32)) false).getD p false := by
      rw [List.getD_eq_getElem?_getD, List.getElem?_eq_getElem h2]; rfl
    rw [e1, e2, xorl_at _ _ _ hll, h.at_ p, ← Bool.xor_assoc, Bool.xor_self, Bool.false_xor]
    have hw : (wordBits mask).length = 32 := by simp [wordBits]
    by_cases ha : p < start
    · rw [List.append_assoc, getD_left _ _ _ (by simpa using ha), decide_eq_false (by omega)]
      simp [List.getD, ha]
    · by_cases hc : p < start + 32
      · rw [List.append_assoc, getD_right _ _ _ (by simp; omega), getD_left _ _ _ (by rw [hw]; simp; omega), List.length_replicate, word_at _ _ (by omega), decide_eq_true (by omega)]
        rfl
      · rw [getD_right _ _ _ (by simp [hw]; omega), decide_eq_false (by omega)]
        rw [List.getD_eq_getElem?_getD, List.getElem?_replicate]
        split <;> rfl
  have hm : right y = true ↔ cbs 0#32 (bits (xorb l y)) = 0#32 := by
    have := right_xor l (xorb l y) (by rw [xorb_length _ _ h.len.symm]) h4 hr
    rwa [xorb_self l y h.len.symm] at this
  rw [hb] at hm
  rw [Bool.eq_iff_iff, hm, decide_eq_true_eq]
  constructor
  · intro e
    by_cases ht : true ∈ wordBits mask
    · exact absurd e (burst start _ (wordBits mask) (by simp [wordBits]) ht)
    · apply BitVec.eq_of_getLsbD_eq
      intro i hi
      have h1 := word_at mask (31 - i) (by omega)
      rw [show 31 - (31 - i) = i by omega] at h1
      rw [← h1, BitVec.getLsbD_zero]
      cases hv : (wordBits mask).getD (31 - i) false with
      | false => rfl
      | true =>
        exfalso
        apply ht
        rw [List.getD_eq_getElem?_getD, List.getElem?_eq_getElem (by simp [wordBits]; omega), Option.getD_some] at hv
        rw [← hv]
        exact List.getElem_mem _
  · rintro rfl
    have hz : wordBits 0#32 = List.replicate 32 false := by decide
    rw [hz, List.replicate_append_replicate, List.replicate_append_replicate]
    exact no_burst _
end Crc
end
section
set_option maxRecDepth 100000

theorem mask_bit (M : BitVec 32) (k : Nat) (hk : k < 32) : ((M.toNat : Int) * 2 ^ k % 4294967296 / 2147483648 == 1) = M.getLsbD (31 - k) := by
  have e : (M.toNat : Int) * 2 ^ k % 4294967296 / 2147483648 = ((M.toNat * 2 ^ k / 2 ^ 31 % 2 : Nat) : Int) := by
    have : (M.toNat : Int) * 2 ^ k = ((M.toNat * 2 ^ k : Nat) : Int) := by simp
    rw [this]
    generalize M.toNat * 2 ^ k = x
    omega
  rw [e]
  have h1 : (M.toNat <<< k).testBit 31 = M.toNat.testBit (31 - k) := by
    rw [Nat.testBit_shiftLeft]
    simp
    omega
  rw [Nat.shiftLeft_eq, Nat.testBit_eq_decide_div_mod_eq] at h1
  show _ = M.toNat.testBit (31 - k)
  rw [← h1, Bool.eq_iff_iff]
  simp
  omega


theorem sm_cells {w : World} {g : Nat} {x0 x1 x2 x3 x4 : Value} {T : TypeId} (h : w.heap[g]? = some (Obj.cells #[x0, x1, x2, x3, x4] T (0, 0))) :
    w.cell? ⟨g, 0, none⟩ = some x0 ∧ w.cell? ⟨g, 1, none⟩ = some x1 ∧ w.cell? ⟨g, 2, none⟩ = some x2 ∧ w.cell? ⟨g, 3, none⟩ = some x3 ∧ w.cell? ⟨g, 4, none⟩ = some x4 := par_cells h

theorem back_law (s : Sm) (a : Option Addr) (c : Nat) (at_ mask : Int) (w : World) (hok : s.ok) (hs : Sees w (.slice a s.l.length c) s.l) (h0 : 0 ≤ at_) (h1 : at_ ≤ 65535) (m0 : 0 ≤ mask) (m1 : mask ≤ 4294967295) :
    Calls Try.prog 3 #[smV s.f s.k s.p s.m (.slice a s.l.length c), .int .u16 at_, .int .u32 mask] w fun e w' => e = .returned (.bool true) ∧ Fr (fun _ => False) w w' := by
  have q0 := heap_alloc_new w (oSm s.f s.k s.p s.m (.slice a s.l.length c))
  have f0 : Fr (fun _ => False) w (w.alloc (oSm s.f s.k s.p s.m (.slice a s.l.length c))) := (Fr.refl _ _).alloc _
  have HOK := Lib.hid hok
  have HS := Lib.hid hs
  clear hs hok
  go_enter Try.func3, Try.ntmps3
  go_upto_region 1 with fail
  generalize w.alloc (oSm s.f s.k s.p s.m (.slice a s.l.length c)) = w0 at *
  generalize w.heap.size = g3 at *
  have Q0 := Lib.hid q0
  have F0 := Lib.hid f0
  clear q0 f0
  go_wp2_with fail
  refine (pawake_any w0).mono ?_
  rintro e w1 ⟨rfl, f1⟩
  have Q1 := Lib.hid (crow_kept Q0.out f1 (fun h => h))
  have F1 := Lib.hid (F0.out.trans f1 (fun _ _ h => h))
  clear f1 Q0 F0
  obtain ⟨c0, c1, c2, c3, c4⟩ := par_cells Q1.out
  dsimp only
  by_cases hl : s.l.length ≤ 100
  case neg =>
    have hl' : (100 : Int) < (s.l.length : Int) := by omega
    clear hl
    go_wp2_with fail
    go_ret
    exact ⟨rfl, F1.out⟩
  have hl' : ¬ (100 : Int) < (s.l.length : Int) := by omega
  have HL := Lib.hid hl
  clear hl
  go_wp2_with fail
  refine (small_any s a c w1 HOK.out (HS.out.fr F1.out (fun _ _ h => h)) HL.out).mono ?_
  rintro e w2 ⟨v2, rfl, hm2⟩
  obtain ⟨x, hx⟩ : ∃ x, x = s.pc := ⟨_, rfl⟩
  have hgood := Sm.good HOK.out
  rw [← hx] at hm2 hgood ⊢
  have GOOD := Lib.hid hgood
  have hc := hgood.1
  obtain ⟨f, k, p, m, l⟩ := x
  obtain ⟨⟨hf0, hf1⟩, ⟨hmm0, hmm1⟩, ⟨hp0, hp1⟩, hn48, _, _⟩ := pchk_ok hc
  have HLN : Hid (l.length ≤ 48) := Lib.hid hn48
  dsimp only at hm2
  obtain ⟨a2, c2', rfl, _⟩ := hm2.1.sees.shape
  have S2 := Lib.hid hm2.1.sees
  have F2 := Lib.hid (F1.out.trans hm2.2.1 (fun _ _ h => h))
  clear hm2 hgood hc hx hl' c0 c1 c2 c3 c4 Q1 F1 hf0 hf1 hmm0 hmm1 hp0 hp1 hn48
  dsimp only
  go_upto_region 6 with fail
  have q3 := heap_alloc_new w2 (oPv f k p m (.slice a2 l.length c2'))
  have f3 : Fr (fun _ => False) w2 (w2.alloc (oPv f k p m (.slice a2 l.length c2'))) := (Fr.refl _ _).alloc _
  generalize w2.alloc (oPv f k p m (.slice a2 l.length c2')) = w3 at *
  generalize w2.heap.size = g7 at *
  have Q3 := Lib.hid q3
  have F3 := Lib.hid (F2.out.trans f3 (fun _ _ h => h))
  have S3 := Lib.hid (S2.out.fr f3 (fun _ _ h => h))
  clear q3 f3 F2 S2
  obtain ⟨c0, c1, c2, c3, c4⟩ := par_cells Q3.out
  go_wp2_with fail
  refine (pput_ok f k p m (.slice a2 l.length c2') l w3 S3.out GOOD.out.2 GOOD.out.1).mono ?_
  rintro e w4 ⟨y4, rfl, hm4⟩
  obtain ⟨L, hLd⟩ : ∃ L, L = parS f k p m l := ⟨_, rfl⟩
  rw [← hLd] at hm4
  obtain ⟨N, hN⟩ : ∃ N, N = L.length := ⟨_, rfl⟩
  have hNb : 16 ≤ N ∧ N ≤ 100 := by rw [hN, hLd]; unfold parS; rw [summed_length, parB_length]; have := HLN.out; omega
  obtain ⟨ho, f4, hk4⟩ := hm4
  obtain ⟨ax, cx, rfl, _⟩ := ho.sees.shape
  obtain ⟨g, rfl⟩ : ∃ g, ax = some ⟨g, 0, none⟩ := by
    rcases ho.2 with ⟨e, _⟩ | ⟨g, cap, cur, e, _⟩
    · simp at e; omega
    · simp at e; exact ⟨g, e.1⟩
  rw [← hN] at ho ⊢
  have HLD := Lib.hid hLd
  have HNL := Lib.hid hN
  have O4 := Lib.hid ho
  have Q4 := Lib.hid (crow_kept Q3.out f4 (fun h => h))
  have F4 := Lib.hid (F3.out.trans f4 (fun _ _ h => h))
  have S4 := Lib.hid (S3.out.fr f4 (fun _ _ h => h))
  have HGN : Hid (w.heap.size ≤ g ∧ g7 ≠ g) := Lib.hid (by
    have e1 := hk4 g rfl
    have e2 := F3.out.size
    have e3 := vt_lt Q3.out
    omega)
  clear ho f4 hk4 hLd hN Q3 F3 S3 c0 c1 c2 c3 c4
  obtain ⟨c0, c1, c2, c3, c4⟩ := par_cells Q4.out
  dsimp only
  go_wp2_with fail
  refine (ptake_any _ L w4 O4.out.sees (by rw [← HNL.out]; omega)).mono ?_
  rintro e w5 ⟨u5, rfl, hm5⟩
  have htk : takeP L = (⟨f, k, p, m, l⟩, 0) := by rw [HLD.out]; exact takeP_of ⟨f, k, p, m, l⟩ GOOD.out.1 GOOD.out.2
  rw [htk] at hm5 ⊢
  clear htk
  obtain ⟨s5, f5, n5⟩ := hm5
  dsimp only at s5
  obtain ⟨a5, c5, rfl, _⟩ := s5.shape
  have S5 := Lib.hid (And.intro (S4.out.fr f5 (fun _ _ h => h)) s5)
  have Q5 := Lib.hid (crow_kept Q4.out f5 (fun h => h))
  have O5 := Lib.hid (O4.out.fr f5 (fun _ _ h => h))
  have F5 := Lib.hid (F4.out.trans f5 (fun _ _ h => h))
  clear s5 f5 n5 S4 Q4 O4 F4 c0 c1 c2 c3 c4
  dsimp only
  go_upto_region 8 with fail
  have q6 := heap_alloc_new w5 (oPv f k p m (.slice a5 l.length c5))
  have f6 : Fr (fun _ => False) w5 (w5.alloc (oPv f k p m (.slice a5 l.length c5))) := (Fr.refl _ _).alloc _
  generalize w5.alloc (oPv f k p m (.slice a5 l.length c5)) = w6 at *
  generalize w5.heap.size = g10 at *
  have Q6 := Lib.hid (And.intro (crow_kept Q5.out f6 (fun h => h)) q6)
  have O6 := Lib.hid (O5.out.fr f6 (fun _ _ h => h))
  have S6 := Lib.hid (And.intro (S5.out.1.fr f6 (fun _ _ h => h)) (S5.out.2.fr f6 (fun _ _ h => h)))
  have F6 := Lib.hid (F5.out.trans f6 (fun _ _ h => h))
  clear q6 f6 Q5 O5 S5 F5
  obtain ⟨S, hS⟩ : ∃ S : ByteArray, S = ⟨L.toArray⟩ := ⟨_, rfl⟩
  have HSS := Lib.hid hS
  have HSB : Hid (S = ⟨(⟨f, k, p, m, l⟩ : Pc).s.toArray⟩) := Lib.hid (by rw [hS, HLD.out]; rfl)
  clear hS
  refine wp_region_told (by kernel_rfl) (fun a b => Fr (fun _ => False) a b) (fun w => Fr.refl _ w) (fun _ _ _ h k => h.trans k (fun _ _ h => h)) [34, 35, 36, 37, 38, 39, 40, 41, 42, 43, 44, 45, 46, 47, 48, 49, 50, 51, 52, 53, 54, 55, 56, 57] rfl (by decide) (by intro d hd; simp at hd ⊢; omega)
    (fun i v _ => v = ([(pv f k p m (.slice a2 l.length c2')), .int .i64 0, .bool false, .bool false, .int .i64 0, .bool false, .bool false, .bool false, .slice (some ⟨g, 0, none⟩) N cx, .string S, (pv f k p m (.slice a2 l.length c2')), .string S, .bool false, .bool false, .bool false, .int .i64 0, .bool false, .bool false, .bool false, (pv f k p m (.slice a2 l.length c2')), (pv f k p m (.slice a5 l.length c5)), .bool true, .bool false, .bool false] : List Value).getD i undef)
    (fun _ _ _ _ _ h => h) (by kernel_rfl) ?stepr8 ?finr8
  case stepr8 =>
    intro vals
    simp only [frOf, fill, List.setIfInBounds_toArray, List.set_cons_succ, List.set_cons_zero]
    repeat' (first | exact AllOps.nil | refine AllOps.cons ?_ ?_)
    all_goals
      intro wx hle he K' hK
      simp only [Act.put, List.setIfInBounds_toArray, List.set_cons_succ, List.set_cons_zero, List.getD_cons_zero, List.getD_cons_succ] at hK
      simp only [List.mem_cons, List.not_mem_nil, or_false, forall_eq_or_imp, forall_eq, Region.binds, forall_const, false_imp_iff, List.getD_cons_zero, List.getD_cons_succ] at he
      try simp only [he] at hK ⊢
      have hl5 := Fr.trans (Fr.drew (Fr.refl (fun _ => False) w6)) hle (fun _ _ h => h)
      have hl8 := Lib.hid hl5
      obtain ⟨c0, c1, c2, c3, c4⟩ := par_cells (crow_kept Q6.out.1 hl5 (fun h => h))
      obtain ⟨d0, d1, d2, d3, d4⟩ := par_cells (crow_kept Q6.out.2 hl5 (fun h => h))
      have hcv : (convert 23 9 (.slice (some ⟨g, 0, none⟩) N cx)).run Try.prog wx = .ok (.string S) wx := by have h := (O6.out.fr hl5 (fun _ _ h => h)).sees.string (P := Try.prog) 23 5 9 Try.underlying23 Try.underlying5 Try.underlying9; rw [HSS.out]; exact h
      clear hl5 hle he
      try go_simp
    all_goals first
      | exact hK _ _ (Fr.refl _ _) rfl
      | skip
    · go_at_call 12
      refine (pcheck_any f k p m a2 l.length c2' _).mono ?_
      rintro e1 wa ⟨rfl, fa⟩
      rw [show pchk f p m l.length = 0 from GOOD.out.1]
      exact hK _ _ fa rfl
    · go_at_call 13
      refine (lbytes_any ⟨f, k, p, m, l⟩ _ _ GOOD.out.1 GOOD.out.2 (S6.out.1.fr hl8.out (fun _ _ h => h))).mono ?_
      rintro e1 wa ⟨rfl, fa⟩
      rw [← HSB.out]
      exact hK _ _ fa rfl
    · go_at_call 14
      refine (psame_any ⟨f, k, p, m, l⟩ _ _ _ (S6.out.1.fr hl8.out (fun _ _ h => h)) (S6.out.2.fr hl8.out (fun _ _ h => h))).mono ?_
      rintro e1 wa ⟨rfl, fa⟩
      exact hK _ _ fa rfl
  case finr8 =>
  intro vals w7 hle hV
  have h23 : vals 23 = .bool false := hV 23 (by decide)
  clear hV
  have hfr := Fr.trans (Fr.drew (Fr.refl (fun _ => False) w6)) hle (fun _ _ h => h)
  have O7 := Lib.hid (O6.out.fr hfr (fun _ _ h => h))
  have F7 := Lib.hid (F6.out.trans hfr (fun _ _ h => h))
  clear hle hfr O6 S6 Q6 F6 HSS HSB
  simp only [frOf, fill, List.setIfInBounds_toArray, List.set_cons_succ, List.set_cons_zero, Nat.reduceAdd]
  simp only [h23]
  clear h23
  generalize vals 0 = y0
  generalize vals 1 = y1
  generalize vals 2 = y2
  generalize vals 3 = y3
  generalize vals 4 = y4
  generalize vals 5 = y5
  generalize vals 6 = y6
  generalize vals 7 = y7
  generalize vals 8 = y8
  generalize vals 9 = y9
  generalize vals 10 = y10
  generalize vals 11 = y11
  generalize vals 12 = y12
  generalize vals 13 = y13
  generalize vals 14 = y14
  generalize vals 15 = y15
  generalize vals 16 = y16
  generalize vals 17 = y17
  generalize vals 18 = y18
  generalize vals 19 = y19
  generalize vals 20 = y20
  generalize vals 21 = y21
  generalize vals 22 = y22
  have hr : Crc.right L = true := by rw [HLD.out]; exact Crc.right_summed _
  obtain ⟨ff, hf, hfl⟩ : ∃ f : Nat, at_.tmod (8 * (N : Int) - 31) = f ∧ f + 32 ≤ 8 * N := by
    rw [Int.tmod_eq_emod_of_nonneg h0]
    refine ⟨(at_ % (8 * (N : Int) - 31)).toNat, ?_, ?_⟩
    · rw [Int.toNat_of_nonneg (Int.emod_nonneg _ (by omega))]
    · have := Int.emod_lt_of_pos at_ (show 0 < 8 * (N : Int) - 31 by omega)
      have := Int.emod_nonneg at_ (show 8 * (N : Int) - 31 ≠ 0 by omega)
      omega
  have hf' : at_ % (8 * (N : Int) - 31) = ff := by rw [← Int.tmod_eq_emod_of_nonneg h0]; exact hf
  obtain ⟨M, hM⟩ : ∃ M : BitVec 32, (M.toNat : Int) = mask := ⟨BitVec.ofNat 32 mask.toNat, by rw [BitVec.toNat_ofNat]; omega⟩
  subst hM
  clear m0 m1
  have HR := Lib.hid hr
  clear hr
  go_upto_region 12 with fail
  try rw [hf]
  try rw [hf']
  clear hf hf'
  have T0 := Lib.hid (Crc.Turned.start L ff M)
  have Z0 : Hid (M = 0#32 → L = L) := Lib.hid (fun _ => rfl)
  go_loopg [65] 32 (fun gg i wr => ∃ (k : Nat) (y : List UInt8), k ≤ 32 ∧ gg = 32 - k ∧ i = .int .i64 k ∧ Hid (Own wr (.slice (some ⟨g, 0, none⟩) N cx) y) ∧ Hid (Crc.Turned L y ff k M) ∧ Hid (M = 0#32 → y = L) ∧ Hid (Fr (fun _ => False) w wr))
  case atStart => exact ⟨0, L, by omega, rfl, rfl, O7, T0, Z0, F7⟩
  case round =>
    clear O7 T0 Z0 F7
    obtain ⟨k', y, hk, rfl, rfl, HO, HT, HZ, HW⟩ := hrel
    by_cases hlt : k' < 32
    · have hltz : (k' : Int) < 32 := by omega
      have hyl := own_len HO.out
      obtain ⟨q, hqd⟩ : ∃ q, q = (ff + k') / 8 := ⟨_, rfl⟩
      obtain ⟨r, hrd⟩ : ∃ r, r = (ff + k') % 8 := ⟨_, rfl⟩
      have hq : q < y.length := by omega
      have hc := own_at HO.out q hq
      have hz := own_frozen HO.out q
      rw [Nat.zero_add] at hc
      unfold bv at hc
      obtain ⟨D, hD⟩ : ∃ D : UInt8, D = UInt8.ofNat (128 / 2 ^ r) := ⟨_, rfl⟩
      have hS : Own (wr.setCell ⟨g, q, none⟩ (bv (y.getD q 0 ^^^ D))) (.slice (some ⟨g, 0, none⟩) N cx) (Crc.flip y (ff + k')) := by
        have := own_set HO.out q (y.getD q 0 ^^^ D)
        rw [hD] at this ⊢
        unfold Crc.flip
        rw [← hqd, ← hrd]
        exact this
      have hr9 : r < 8 := by omega
      have hD2 : (128 : Int) / 2 ^ r = (D.toNat : Int) := by
        rw [hD]
        have : ∀ a : Fin 8, (128 : Int) / 2 ^ a.val = ((UInt8.ofNat (128 / 2 ^ a.val)).toNat : Int) := by decide
        exact this ⟨_, hr9⟩
      generalize hd : y.getD q 0 = d at *
      have hx : Value.int .u8 (bits .xor .u8 (d.toNat : Int) (128 / 2 ^ r)) = bv (d ^^^ D) := by
        rw [hD2, xor_u8 _ _ (UInt8.toNat_lt _) (UInt8.toNat_lt _)]; unfold bv; rw [UInt8.toNat_xor]
      have hq8 : ((ff : Int) + (k' : Int)) / 8 = (q : Int) := by omega
      have hr8 : ((ff : Int) + (k' : Int)) % 8 = (r : Int) := by omega
      have hq9 : (q : Int) < (N : Int) := by omega
      have hqn : q < N := by omega
      have hMl := M.isLt
      have HX := Lib.hid hx
      have HS2 := Lib.hid hS
      have HB := Lib.hid (mask_bit M k' hlt)
      have hfk : ff + k' < 8 * L.length := by have := HNL.out; omega
      have HFK := Lib.hid hfk
      clear hx hD hD2 hS hd hqd hrd hfk hyl hq
      go_wp2_with fail
      · rename_i _ hb
        rw [HB.out] at hb
        have ZN : Hid (M = 0#32 → Crc.flip y (ff + k') = L) := Lib.hid (fun e => by rw [e] at hb; simp at hb)
        go_region
        all_goals
          go_wp2_with fail
          rw [HX.out]
          go_roundg (32 - (k' + 1))
          case measure => omega
          case rel => exact ⟨k' + 1, Crc.flip y (ff + k'), by omega, rfl, by simp, HS2, Lib.hid (HT.out.turn hb HFK.out), ZN, Lib.hid ((HW.out.setCell (p := ⟨g, q, none⟩) (fun h => absurd h (by have := HGN.out; simp; omega)) _).drew)⟩
      · rename_i _ hb
        rw [HB.out] at hb
        go_roundg (32 - (k' + 1))
        case measure => omega
        case rel => exact ⟨k' + 1, y, by omega, rfl, by simp, HO, Lib.hid (HT.out.skip hb), HZ, HW⟩
    · obtain rfl : k' = 32 := by omega
      have hRt := Lib.hid (Crc.right_turned L y ff M (by have := HNL.out; omega) HR.out (by have := HNL.out; omega) HT.out)
      have HLY : Hid (y.length ≤ 1000) := Lib.hid (by have := own_len HO.out; omega)
      go_wp2_with fail
      refine (ptake_any _ y _ HO.out.sees HLY.out).mono ?_
      rintro e w8 ⟨u8, rfl, hm8⟩
      have F8 := Lib.hid (HW.out.trans hm8.2.1 (fun _ _ h => h))
      have hu8 : ∃ a n c, u8 = .slice a n c := by
        obtain ⟨a, c, e, _⟩ := hm8.1.shape
        exact ⟨a, _, c, e⟩
      obtain ⟨a8, n8, c8, rfl⟩ := hu8
      clear hm8 HW
      obtain ⟨E, hE⟩ : ∃ E, E = takeP y := ⟨_, rfl⟩
      have hE2 : (M.toNat = 0 ∧ E.2 = 0) ∨ (M.toNat ≠ 0 ∧ E.2 = 11) := by
        by_cases hM : M = 0#32
        · left
          refine ⟨by rw [hM]; rfl, ?_⟩
          rw [hE, HZ.out hM, HLD.out]
          have := takeP_of ⟨f, k, p, m, l⟩ GOOD.out.1 GOOD.out.2
          exact (congrArg Prod.snd this)
        · right
          refine ⟨fun h => hM (by rw [← BitVec.toNat_inj]; exact h), ?_⟩
          have hrf : ¬ Crc.right y = true := by rw [hRt.out]; simp [hM]
          rw [hE]
          unfold takeP
          rw [if_neg hrf]
      rw [← hE]
      clear hE hRt HT HZ HO HLY
      obtain ⟨⟨e1, e2, e3, e4, e5⟩, E2⟩ := E
      dsimp only at hE2 ⊢
      generalize M.toNat = mt at *
      rcases hE2 with ⟨rfl, rfl⟩ | ⟨hne, rfl⟩
      · go_wp2_with fail
        go_ret
        exact ⟨by simp, F8.out.alloc _⟩
      · have hb1 : ((mt : Int) == 0) = false := by simp; omega
        have hb2 : ((mt : Int) != 0) = true := by simp; omega
        clear hne
        go_wp2_with fail
        go_ret
        exact ⟨by simp, F8.out.alloc _⟩
end
section
theorem back_all (s : Sm) (v : Value) {w : World} (hv : SmV w s v) (at_ : Int) (h0 : 0 ≤ at_) (h1 : at_ ≤ 65535) (mask : Int) (m0 : 0 ≤ mask) (m1 : mask ≤ 4294967295) :
    Calls Try.prog 3 #[v, .int .u16 at_, .int .u32 mask] w fun e w' => e = .returned (.bool true) ∧ Fr (fun _ => False) w w' := by
  obtain ⟨a, c, rfl, hs, hok⟩ := hv
  exact back_law s a c at_ mask w hok hs h0 h1 m0 m1
end
end Go.Proofs.Ytjegdbkkojaacaa
