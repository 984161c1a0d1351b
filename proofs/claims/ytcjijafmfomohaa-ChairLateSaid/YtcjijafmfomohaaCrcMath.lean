/-
  CRC-32 (most significant bit first) as plain mathematics: the register, that it is linear, what a burst does to it, and that the long division of the document's answer leaves the same.
-/
import Derived.Test.YtcjijafmfomohaaBytes
namespace Go.Proofs.Ytcjijafmfomohaa.Crc

def poly : BitVec 32 := 0x04c11db7#32
/-- One step of the register with nothing put in. -/
def st (r : BitVec 32) : BitVec 32 := (r <<< 1) ^^^ (if r.msb then poly else 0#32)
/-- A bit at the highest place. -/
def top (m : Bool) : BitVec 32 := if m then 0x80000000#32 else 0#32
def cb (r : BitVec 32) (m : Bool) : BitVec 32 := st (r ^^^ top m)
def cbs (r : BitVec 32) (ms : List Bool) : BitVec 32 := ms.foldl cb r
def its : Nat → BitVec 32 → BitVec 32
  | 0, r => r
  | n + 1, r => its n (st r)

theorem st_zero : st 0#32 = 0#32 := by decide
theorem st_xor (a b : BitVec 32) : st (a ^^^ b) = st a ^^^ st b := by
  unfold st
  rw [BitVec.shiftLeft_xor_distrib, BitVec.msb_xor]
  cases ha : a.msb <;> cases hb : b.msb <;> simp
  · rw [BitVec.xor_assoc]
  · rw [BitVec.xor_assoc, BitVec.xor_assoc, BitVec.xor_comm (b <<< 1)]
  · rw [BitVec.xor_comm (b <<< 1) poly, BitVec.xor_assoc, ← BitVec.xor_assoc poly poly, BitVec.xor_self, BitVec.zero_xor]
theorem st_eq_zero {r : BitVec 32} (h : st r = 0#32) : r = 0#32 := by
  unfold st at h
  cases hm : r.msb with
  | true =>
    exfalso
    rw [hm] at h
    have h0 := congrArg (fun v => v.getLsbD 0) h
    simp [poly] at h0
  | false =>
    rw [hm] at h
    simp at h
    apply BitVec.eq_of_getLsbD_eq
    intro i hi
    by_cases h31 : i = 31
    · subst h31
      rw [BitVec.msb_eq_getLsbD_last] at hm
      simpa using hm
    · have h0 := congrArg (fun v => v.getLsbD (i + 1)) h
      simp at h0
      simpa using h0 (by omega)
theorem its_xor : ∀ (n : Nat) (a b : BitVec 32), its n (a ^^^ b) = its n a ^^^ its n b
  | 0, _, _ => rfl
  | n + 1, a, b => by rw [its, its, its, st_xor, its_xor n]
theorem its_zero : ∀ n : Nat, its n 0#32 = 0#32
  | 0 => rfl
  | n + 1 => by rw [its, st_zero, its_zero n]
theorem its_eq_zero : ∀ {n : Nat} {r : BitVec 32}, its n r = 0#32 → r = 0#32
  | 0, _, h => h
  | _ + 1, _, h => st_eq_zero (its_eq_zero h)
theorem its_inj {n : Nat} {a b : BitVec 32} (h : its n a = its n b) : a = b := by
  have h1 : its n (a ^^^ b) = 0#32 := by rw [its_xor, h, BitVec.xor_self]
  have h2 := its_eq_zero h1
  have h3 : a ^^^ b ^^^ b = 0#32 ^^^ b := by rw [h2]
  rw [BitVec.xor_assoc, BitVec.xor_self, BitVec.xor_zero, BitVec.zero_xor] at h3
  exact h3

theorem top_xor (a b : Bool) : top (a ^^ b) = top a ^^^ top b := by cases a <;> cases b <;> decide
theorem cb_xor (a b : BitVec 32) (m n : Bool) : cb (a ^^^ b) (m ^^ n) = cb a m ^^^ cb b n := by
  unfold cb
  rw [top_xor, ← st_xor]
  congr 1
  ac_rfl

def xorl : List Bool → List Bool → List Bool
  | a :: l, b :: m => (a ^^ b) :: xorl l m
  | l, [] => l
  | [], m => m

theorem cbs_xor : ∀ (ms ns : List Bool) (a b : BitVec 32), ms.length = ns.length → cbs (a ^^^ b) (xorl ms ns) = cbs a ms ^^^ cbs b ns
  | [], [], _, _, _ => rfl
  | m :: ms, n :: ns, a, b, h => by
    show cbs (cb (a ^^^ b) (m ^^ n)) (xorl ms ns) = cbs (cb a m) ms ^^^ cbs (cb b n) ns
    rw [cb_xor, cbs_xor ms ns _ _ (by simpa using h)]
  | [], _ :: _, _, _, h => by simp at h
  | _ :: _, [], _, _, h => by simp at h

theorem cbs_append (r : BitVec 32) (l m : List Bool) : cbs r (l ++ m) = cbs (cbs r l) m := List.foldl_append

/-- Bits laid from the highest place down. -/
def topl : List Bool → BitVec 32
  | [] => 0#32
  | m :: ms => top m ^^^ (topl ms >>> 1)

theorem top_bit (m : Bool) (i : Nat) : (top m).getLsbD i = (m && decide (i = 31)) := by
  unfold top
  cases m with
  | false => simp
  | true =>
    simp only [if_true, Bool.true_and]
    by_cases h : i < 32
    · have : ∀ j : Fin 32, (0x80000000#32).getLsbD j.val = decide (j.val = 31) := by decide
      exact this ⟨i, h⟩
    · rw [BitVec.getLsbD_of_ge _ _ (by omega)]
      simp; omega

theorem topl_bit : ∀ (ms : List Bool) (i : Nat), ms.length ≤ 32 → i < 32 → (topl ms).getLsbD (31 - i) = ms.getD i false
  | [], i, _, _ => by simp [topl]
  | m :: ms, 0, _, _ => by
    simp only [topl, BitVec.getLsbD_xor, top_bit, BitVec.getLsbD_ushiftRight, Nat.sub_zero, decide_true, Bool.and_true]
    rw [BitVec.getLsbD_of_ge _ _ (by omega)]
    simp
  | m :: ms, i + 1, h, hi => by
    have ih := topl_bit ms i (by simp at h; omega) (by omega)
    have e : 1 + (31 - (i + 1)) = 31 - i := by omega
    simp only [topl, BitVec.getLsbD_xor, top_bit, BitVec.getLsbD_ushiftRight, e, ih]
    have : decide (31 - (i + 1) = 31) = false := decide_eq_false (by omega)
    rw [this, Bool.and_false, Bool.false_xor, List.getD_cons_succ]

theorem topl_low (ms : List Bool) (h : ms.length ≤ 31) : (topl ms).getLsbD 0 = false := by
  have := topl_bit ms 31 (by omega) (by omega)
  rw [show 31 - 31 = 0 by rfl] at this
  rw [this, List.getD_eq_getElem?_getD, List.getElem?_eq_none (by omega)]
  rfl

theorem st_half (x : BitVec 32) (h : x.getLsbD 0 = false) : st (x >>> 1) = x := by
  unfold st
  have hm : (x >>> 1).msb = false := by
    rw [BitVec.msb_eq_getLsbD_last]
    simp
  rw [hm]
  simp
  apply BitVec.eq_of_getLsbD_eq
  intro i hi
  cases i with
  | zero => rw [h]; simp
  | succ i => simp [Nat.add_comm 1 i]; omega

theorem cbs_its : ∀ (ms : List Bool) (r : BitVec 32), ms.length ≤ 32 → cbs r ms = its ms.length (r ^^^ topl ms)
  | [], r, _ => by simp [cbs, its, topl]
  | m :: ms, r, h => by
    show cbs (cb r m) ms = _
    rw [cbs_its ms _ (by simp at h; omega)]
    have hl := topl_low ms (by simp at h; omega)
    show its ms.length (st (r ^^^ top m) ^^^ topl ms) = its ms.length (st (r ^^^ (top m ^^^ (topl ms >>> 1))))
    rw [← BitVec.xor_assoc, st_xor (r ^^^ top m), st_half _ hl]

theorem topl_ne {ms : List Bool} (h : ms.length ≤ 32) (ht : true ∈ ms) : topl ms ≠ 0#32 := by
  intro e
  obtain ⟨i, hi, hm⟩ := List.getElem_of_mem ht
  have h1 := topl_bit ms i h (by omega)
  rw [e, List.getD_eq_getElem?_getD, List.getElem?_eq_getElem hi, hm] at h1
  simp at h1

theorem cbs_zeros (r : BitVec 32) : ∀ n : Nat, cbs r (List.replicate n false) = its n r := by
  intro n
  induction n generalizing r with
  | zero => rfl
  | succ n ih =>
    show cbs (cb r false) (List.replicate n false) = its n (st r)
    rw [ih]
    unfold cb
    simp [top]

/-- A burst leaves a register that is not 0. -/
theorem burst (i j : Nat) (w : List Bool) (h : w.length ≤ 32) (ht : true ∈ w) : cbs 0#32 (List.replicate i false ++ w ++ List.replicate j false) ≠ 0#32 := by
  rw [cbs_append, cbs_append, cbs_zeros 0#32 i, its_zero, cbs_zeros, cbs_its w _ h, BitVec.zero_xor]
  intro e
  exact topl_ne h ht (its_eq_zero (its_eq_zero e))
theorem no_burst (n : Nat) : cbs 0#32 (List.replicate n false) = 0#32 := by rw [cbs_zeros, its_zero]

/-! ### Bytes -/

def byteBits (c : UInt8) : List Bool := [c.toNat.testBit 7, c.toNat.testBit 6, c.toNat.testBit 5, c.toNat.testBit 4, c.toNat.testBit 3, c.toNat.testBit 2, c.toNat.testBit 1, c.toNat.testBit 0]
def bits (l : List UInt8) : List Bool := l.flatMap byteBits
def ones : BitVec 32 := 0xffffffff#32
/-- The register behind bytes. -/
def reg (l : List UInt8) : BitVec 32 := cbs ones (bits l)
/-- The checksum. -/
def sum (l : List UInt8) : Nat := (~~~ reg l).toNat
/-- The bytes with their sum behind. -/
def summed (l : List UInt8) : List UInt8 := l ++ be4 (sum l)
/-- Whether the last four bytes are the sum of those before. -/
def right (l : List UInt8) : Bool := decide (4 ≤ l.length) && decide (l.drop (l.length - 4) = be4 (sum (l.take (l.length - 4))))

theorem sum_lt (l : List UInt8) : sum l < 4294967296 := (~~~ reg l).isLt
theorem bits_append (l m : List UInt8) : bits (l ++ m) = bits l ++ bits m := List.flatMap_append
theorem bits_length (l : List UInt8) : (bits l).length = 8 * l.length := by
  induction l with
  | nil => rfl
  | cons c l ih => simp only [bits, List.flatMap_cons, List.length_append, List.length_cons] at *; rw [ih]; show 8 + _ = _; omega

/-- The bits of a 32-bit number, the highest one first. -/
def wordBits (v : BitVec 32) : List Bool := (List.range 32).map fun i => v.getLsbD (31 - i)

theorem topl_word (v : BitVec 32) : topl (wordBits v) = v := by
  apply BitVec.eq_of_getLsbD_eq
  intro i hi
  have h := topl_bit (wordBits v) (31 - i) (by simp [wordBits]) (by omega)
  rw [show 31 - (31 - i) = i by omega] at h
  rw [h]
  simp [wordBits, List.getD, show 31 - i < 32 by omega, show 31 - (31 - i) = i by omega]

theorem bits_be4 (n : Nat) (h : n < 4294967296) : bits (be4 n) = wordBits (BitVec.ofNat 32 n) := by
  have hb : ∀ k, k < 256 → ∀ i, (UInt8.ofNat k).toNat.testBit i = k.testBit i := by
    intro k hk i
    rw [show (UInt8.ofNat k).toNat = k by simp; omega]
  have ht : ∀ (k a i : Nat), i < 8 → (k / 2 ^ a % 256).testBit i = k.testBit (a + i) := by
    intro k a i hi
    rw [show (256 : Nat) = 2 ^ 8 from rfl, Nat.testBit_mod_two_pow, Nat.testBit_div_two_pow]
    simp [hi, Nat.add_comm]
  have e1 : n / 65536 / 256 = n / 2 ^ 24 % 256 := by omega
  have e2 : n / 65536 % 256 = n / 2 ^ 16 % 256 := by omega
  have e3 : n % 65536 / 256 = n / 2 ^ 8 % 256 := by omega
  have e4 : n % 65536 % 256 = n / 2 ^ 0 % 256 := by omega
  have l1 : n / 2 ^ 24 % 256 < 256 := by omega
  have l2 : n / 2 ^ 16 % 256 < 256 := by omega
  have l3 : n / 2 ^ 8 % 256 < 256 := by omega
  have l4 : n / 2 ^ 0 % 256 < 256 := by omega
  have hw : ∀ i, i < 32 → (BitVec.ofNat 32 n).getLsbD i = n.testBit i := by
    intro i hi
    rw [BitVec.getLsbD_ofNat]
    simp [hi]
  unfold be4 be2
  rw [e1, e2, e3, e4]
  simp only [bits, byteBits, List.cons_append, List.nil_append, List.flatMap_cons, List.flatMap_nil, List.append_nil, hb _ l1, hb _ l2, hb _ l3, hb _ l4, ht _ _ _ (by omega : (0:Nat) < 8), ht _ _ _ (by omega : (1:Nat) < 8), ht _ _ _ (by omega : (2:Nat) < 8), ht _ _ _ (by omega : (3:Nat) < 8), ht _ _ _ (by omega : (4:Nat) < 8), ht _ _ _ (by omega : (5:Nat) < 8), ht _ _ _ (by omega : (6:Nat) < 8), ht _ _ _ (by omega : (7:Nat) < 8)]
  have hr : List.range 32 = [0, 1, 2, 3, 4, 5, 6, 7, 8, 9, 10, 11, 12, 13, 14, 15, 16, 17, 18, 19, 20, 21, 22, 23, 24, 25, 26, 27, 28, 29, 30, 31] := by decide
  unfold wordBits
  rw [hr]
  simp only [List.map_cons, List.map_nil]
  simp only [hw _ (by omega : (31 : Nat) - 0 < 32), hw _ (by omega : (31 : Nat) - 1 < 32), hw _ (by omega : (31 : Nat) - 2 < 32), hw _ (by omega : (31 : Nat) - 3 < 32), hw _ (by omega : (31 : Nat) - 4 < 32), hw _ (by omega : (31 : Nat) - 5 < 32), hw _ (by omega : (31 : Nat) - 6 < 32), hw _ (by omega : (31 : Nat) - 7 < 32),
    hw _ (by omega : (31 : Nat) - 8 < 32), hw _ (by omega : (31 : Nat) - 9 < 32), hw _ (by omega : (31 : Nat) - 10 < 32), hw _ (by omega : (31 : Nat) - 11 < 32), hw _ (by omega : (31 : Nat) - 12 < 32), hw _ (by omega : (31 : Nat) - 13 < 32), hw _ (by omega : (31 : Nat) - 14 < 32), hw _ (by omega : (31 : Nat) - 15 < 32),
    hw _ (by omega : (31 : Nat) - 16 < 32), hw _ (by omega : (31 : Nat) - 17 < 32), hw _ (by omega : (31 : Nat) - 18 < 32), hw _ (by omega : (31 : Nat) - 19 < 32), hw _ (by omega : (31 : Nat) - 20 < 32), hw _ (by omega : (31 : Nat) - 21 < 32), hw _ (by omega : (31 : Nat) - 22 < 32), hw _ (by omega : (31 : Nat) - 23 < 32),
    hw _ (by omega : (31 : Nat) - 24 < 32), hw _ (by omega : (31 : Nat) - 25 < 32), hw _ (by omega : (31 : Nat) - 26 < 32), hw _ (by omega : (31 : Nat) - 27 < 32), hw _ (by omega : (31 : Nat) - 28 < 32), hw _ (by omega : (31 : Nat) - 29 < 32), hw _ (by omega : (31 : Nat) - 30 < 32), hw _ (by omega : (31 : Nat) - 31 < 32)]

theorem be4_inj {a b : Nat} (ha : a < 4294967296) (hb : b < 4294967296) (h : be4 a = be4 b) : a = b := by
  rw [← beNum_be4 a ha, ← beNum_be4 b hb, h]

theorem ones_xor (v : BitVec 32) : v ^^^ ones = ~~~ v := by
  apply BitVec.eq_of_getLsbD_eq
  intro i hi
  have : ∀ j : Fin 32, ones.getLsbD j.val = true := by decide
  rw [BitVec.getLsbD_xor, this ⟨i, hi⟩, BitVec.getLsbD_not]
  simp [hi]

/-- The register behind bytes and a word. -/
theorem reg_be4 (l : List UInt8) (n : Nat) (h : n < 4294967296) : reg (l ++ be4 n) = its 32 (reg l ^^^ BitVec.ofNat 32 n) := by
  unfold reg
  rw [bits_append, cbs_append, bits_be4 n h, cbs_its _ _ (by simp [wordBits]), topl_word]
  simp [wordBits]

/-- Right bytes are those behind which the register is one and the same. -/
theorem right_iff (l : List UInt8) (h : 4 ≤ l.length) : right l = true ↔ reg l = its 32 ones := by
  have hl : l.take (l.length - 4) ++ l.drop (l.length - 4) = l := List.take_append_drop _ _
  have hd : (l.drop (l.length - 4)).length = 4 := by simp; omega
  have hq := be4_beNum _ hd
  have hs := beNum_small (l.drop (l.length - 4)) 4 (by omega)
  have hs' : beNum (l.drop (l.length - 4)) < 4294967296 := hs
  have hreg : reg l = its 32 (reg (l.take (l.length - 4)) ^^^ BitVec.ofNat 32 (beNum (l.drop (l.length - 4)))) := by
    conv => lhs; rw [← hl, ← hq]
    exact reg_be4 _ _ hs'
  unfold right
  simp only [h, decide_true, Bool.true_and, decide_eq_true_eq]
  rw [hreg]
  constructor
  · intro e
    have e2 : beNum (l.drop (l.length - 4)) = sum (l.take (l.length - 4)) := by rw [e]; exact beNum_be4 _ (sum_lt _)
    rw [e2]
    unfold sum
    rw [BitVec.ofNat_toNat, BitVec.setWidth_eq, ← ones_xor, ← BitVec.xor_assoc, BitVec.xor_self, BitVec.zero_xor]
  · intro e
    have e1 := its_inj e
    have e2 : BitVec.ofNat 32 (beNum (l.drop (l.length - 4))) = ~~~ reg (l.take (l.length - 4)) := by
      rw [← ones_xor, ← e1, ← BitVec.xor_assoc, BitVec.xor_self, BitVec.zero_xor]
    have e3 : sum (l.take (l.length - 4)) = beNum (l.drop (l.length - 4)) := by
      unfold sum
      rw [← e2, BitVec.toNat_ofNat]
      omega
    rw [e3, hq]

theorem right_summed (l : List UInt8) : right (summed l) = true := by
  have hn : (summed l).length = l.length + 4 := by unfold summed; rw [List.length_append, be4_length]
  rw [right_iff _ (by omega)]
  unfold summed
  rw [reg_be4 _ _ (sum_lt l)]
  unfold sum
  rw [BitVec.ofNat_toNat, BitVec.setWidth_eq, ← ones_xor, ← BitVec.xor_assoc, BitVec.xor_self, BitVec.zero_xor]

/-- Bytes changed by others, one by one. -/
def xorb : List UInt8 → List UInt8 → List UInt8
  | a :: l, b :: m => (a ^^^ b) :: xorb l m
  | l, [] => l
  | [], m => m

theorem byteBits_xor (a b : UInt8) : byteBits (a ^^^ b) = xorl (byteBits a) (byteBits b) := by
  simp only [byteBits, xorl, UInt8.toNat_xor, Nat.testBit_xor]
theorem xorl_append : ∀ (a b c d : List Bool), a.length = b.length → xorl (a ++ c) (b ++ d) = xorl a b ++ xorl c d
  | [], [], _, _, _ => rfl
  | x :: a, y :: b, c, d, h => by
    show (x ^^ y) :: xorl (a ++ c) (b ++ d) = (x ^^ y) :: (xorl a b ++ xorl c d)
    rw [xorl_append a b c d (by simpa using h)]
  | [], _ :: _, _, _, h => by simp at h
  | _ :: _, [], _, _, h => by simp at h
theorem bits_xor : ∀ (l m : List UInt8), l.length = m.length → bits (xorb l m) = xorl (bits l) (bits m)
  | [], [], _ => rfl
  | a :: l, b :: m, h => by
    show byteBits (a ^^^ b) ++ bits (xorb l m) = xorl (byteBits a ++ bits l) (byteBits b ++ bits m)
    rw [xorl_append (byteBits a) (byteBits b) _ _ rfl, byteBits_xor, bits_xor l m (by simpa using h)]
  | [], _ :: _, h => by simp at h
  | _ :: _, [], h => by simp at h

/-- The register is linear: bytes changed by others differ by what those alone leave. -/
theorem reg_xor (l m : List UInt8) (h : l.length = m.length) : reg (xorb l m) = reg l ^^^ cbs 0#32 (bits m) := by
  unfold reg
  rw [bits_xor l m h]
  have := cbs_xor (bits l) (bits m) ones 0#32 (by rw [bits_length, bits_length, h])
  rw [BitVec.xor_zero] at this
  exact this

theorem xorb_length : ∀ (l m : List UInt8), l.length = m.length → (xorb l m).length = l.length
  | [], [], _ => rfl
  | a :: l, b :: m, h => by show (xorb l m).length + 1 = l.length + 1; rw [xorb_length l m (by simpa using h)]
  | [], _ :: _, h => by simp at h
  | _ :: _, [], h => by simp at h

/-- Right bytes, changed: they are right just if what was changed leaves nothing. -/
theorem right_xor (l m : List UInt8) (h : l.length = m.length) (h4 : 4 ≤ l.length) (hr : right l = true) : right (xorb l m) = true ↔ cbs 0#32 (bits m) = 0#32 := by
  rw [right_iff _ (by rw [xorb_length l m h]; exact h4), reg_xor l m h, (right_iff l h4).1 hr]
  constructor
  · intro e
    have : its 32 ones ^^^ (its 32 ones ^^^ cbs 0#32 (bits m)) = its 32 ones ^^^ its 32 ones := by rw [e]
    rw [← BitVec.xor_assoc, BitVec.xor_self, BitVec.zero_xor] at this
    exact this
  · intro e; rw [e, BitVec.xor_zero]

end Go.Proofs.Ytcjijafmfomohaa.Crc
