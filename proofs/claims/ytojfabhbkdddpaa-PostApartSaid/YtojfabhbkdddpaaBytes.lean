/-
  Numbers as bytes, the highest one first, and back: plain mathematics.
-/
namespace Go.Proofs.Ytojfabhbkdddpaa

def be2 (n : Nat) : List UInt8 := [UInt8.ofNat (n / 256), UInt8.ofNat (n % 256)]

def be4 (n : Nat) : List UInt8 := be2 (n / 65536) ++ be2 (n % 65536)
def be8 (n : Nat) : List UInt8 := be4 (n / 4294967296) ++ be4 (n % 4294967296)
theorem be2_length (n : Nat) : (be2 n).length = 2 := rfl
theorem be4_length (n : Nat) : (be4 n).length = 4 := rfl
theorem be8_length (n : Nat) : (be8 n).length = 8 := rfl

/-- The number that bytes tell, the highest one first. -/
def beNum (l : List UInt8) : Nat := l.foldl (fun n c => n * 256 + c.toNat) 0

theorem beNum_snoc (l : List UInt8) (c : UInt8) : beNum (l ++ [c]) = beNum l * 256 + c.toNat := by simp [beNum]
theorem beFold_lt : ∀ (l : List UInt8) (n : Nat), l.foldl (fun n c => n * 256 + c.toNat) n < (n + 1) * 256 ^ l.length
  | [], n => by simp
  | c :: l, n => by
    have h := beFold_lt l (n * 256 + c.toNat)
    have hc := c.toNat_lt
    rw [List.foldl_cons, List.length_cons, Nat.pow_succ]
    have h2 : (n * 256 + c.toNat + 1) * 256 ^ l.length ≤ ((n + 1) * 256) * 256 ^ l.length := Nat.mul_le_mul_right _ (by omega)
    have h3 : ((n + 1) * 256) * 256 ^ l.length = (n + 1) * (256 ^ l.length * 256) := by rw [Nat.mul_assoc, Nat.mul_comm 256]
    omega
theorem beNum_lt (l : List UInt8) : beNum l < 256 ^ l.length := by have := beFold_lt l 0; simpa [beNum] using this
theorem beNum_small (l : List UInt8) (k : Nat) (h : l.length ≤ k) : beNum l < 256 ^ k := Nat.lt_of_lt_of_le (beNum_lt l) (Nat.pow_le_pow_right (by omega) h)

theorem beNum_be2 (n : Nat) (h : n < 65536) : beNum (be2 n) = n := by
  simp [beNum, be2]
  omega
theorem beNum_append (l m : List UInt8) : beNum (l ++ m) = beNum l * 256 ^ m.length + beNum m := by
  have h : ∀ (m : List UInt8) (a : Nat), m.foldl (fun n c => n * 256 + c.toNat) a = a * 256 ^ m.length + m.foldl (fun n c => n * 256 + c.toNat) 0 := by
    intro m
    induction m with
    | nil => simp
    | cons c m ih =>
      intro a
      rw [List.foldl_cons, List.foldl_cons, ih, ih (0 * 256 + c.toNat), List.length_cons, Nat.pow_succ, Nat.add_mul, Nat.zero_mul, Nat.zero_add, Nat.mul_assoc, Nat.mul_comm 256]
      omega
  unfold beNum
  rw [List.foldl_append, h]
theorem beNum_be4 (n : Nat) (h : n < 4294967296) : beNum (be4 n) = n := by
  unfold be4
  rw [beNum_append, beNum_be2 _ (by omega), beNum_be2 _ (by omega), be2_length]
  omega
theorem beNum_be8 (n : Nat) (h : n < 18446744073709551616) : beNum (be8 n) = n := by
  unfold be8
  rw [beNum_append, beNum_be4 _ (by omega), beNum_be4 _ (by omega), be4_length]
  omega

theorem be2_beNum (l : List UInt8) (h : l.length = 2) : be2 (beNum l) = l := by
  match l, h with
  | [a, b], _ =>
    have ha := a.toNat_lt
    have hb := b.toNat_lt
    simp only [beNum, List.foldl_cons, List.foldl_nil, be2, Nat.zero_mul, Nat.zero_add]
    rw [show (a.toNat * 256 + b.toNat) / 256 = a.toNat by omega, show (a.toNat * 256 + b.toNat) % 256 = b.toNat by omega]
    simp
theorem be4_beNum (l : List UInt8) (h : l.length = 4) : be4 (beNum l) = l := by
  have e : l = l.take 2 ++ l.drop 2 := (List.take_append_drop 2 l).symm
  have h1 : (l.take 2).length = 2 := by simp; omega
  have h2 : (l.drop 2).length = 2 := by simp; omega
  have s1 := beNum_small (l.take 2) 2 (by omega)
  have s2 := beNum_small (l.drop 2) 2 (by omega)
  have hn : beNum l = beNum (l.take 2) * 65536 + beNum (l.drop 2) := by
    conv => lhs; rw [e]
    rw [beNum_append, h2]
  unfold be4
  rw [hn, show (beNum (l.take 2) * 65536 + beNum (l.drop 2)) / 65536 = beNum (l.take 2) by omega, show (beNum (l.take 2) * 65536 + beNum (l.drop 2)) % 65536 = beNum (l.drop 2) by omega, be2_beNum _ h1, be2_beNum _ h2]
  exact e.symm
theorem be8_beNum (l : List UInt8) (h : l.length = 8) : be8 (beNum l) = l := by
  have e : l = l.take 4 ++ l.drop 4 := (List.take_append_drop 4 l).symm
  have h1 : (l.take 4).length = 4 := by simp; omega
  have h2 : (l.drop 4).length = 4 := by simp; omega
  have s1 := beNum_small (l.take 4) 4 (by omega)
  have s2 := beNum_small (l.drop 4) 4 (by omega)
  have hn : beNum l = beNum (l.take 4) * 4294967296 + beNum (l.drop 4) := by
    conv => lhs; rw [e]
    rw [beNum_append, h2]
  unfold be8
  rw [hn, show (beNum (l.take 4) * 4294967296 + beNum (l.drop 4)) / 4294967296 = beNum (l.take 4) by omega, show (beNum (l.take 4) * 4294967296 + beNum (l.drop 4)) % 4294967296 = beNum (l.drop 4) by omega, be4_beNum _ h1, be4_beNum _ h2]
  exact e.symm

end Go.Proofs.Ytojfabhbkdddpaa
