/-
  RealBits: for every input the law returns true.
-/
import Derived.Test.YtfohhddpeofhcaaRealMath
namespace Go.Proofs.Ytfohhddpeofhcaa
open Go.RowKit

theorem Fl.isOf (n : Int) (hn : 0 ≤ n) : ((((Fl.canon n.toNat : Nat) : Int) == n) : Bool) = (!Fl.isNaN n.toNat || n == 9221120237041090560) := by
  cases h : Fl.isNaN n.toNat
  · rw [Fl.canon_of_not h, Int.toNat_of_nonneg hn]; simp
  · rw [Fl.canon_of_nan h]
    show (((9221120237041090560 : Nat) : Int) == n) = (n == 9221120237041090560)
    exact BEq.comm

/-- What the law reckons: whether two are the same, by Go's own comparisons. -/
theorem Fl.same_cases (a b : Nat) (ha : a < 18446744073709551616) (hb : b < 18446744073709551616) :
    (Fl.isNaN a = true ∧ Fl.isNaN b = true ∧ (((Fl.canon a : Nat) : Int) == ((Fl.canon b : Nat) : Int)) = true)
    ∨ (Fl.isNaN a = true ∧ Fl.isNaN b = false ∧ (FloatKind.f64.format.order a b == some .eq) = false ∧ (((Fl.canon a : Nat) : Int) == ((Fl.canon b : Nat) : Int)) = false)
    ∨ (Fl.isNaN a = false ∧ (FloatKind.f64.format.order a b == some .eq) = false ∧ (((Fl.canon a : Nat) : Int) == ((Fl.canon b : Nat) : Int)) = false)
    ∨ (Fl.isNaN a = false ∧ (FloatKind.f64.format.order a b == some .eq) = true ∧ (((Fl.canon a : Nat) : Int) == ((Fl.canon b : Nat) : Int)) = (Fl.neg a == Fl.neg b)) := by
  have hi := Fl.same_iff ha hb
  have key : ∀ t : Bool, ((Fl.canon a = Fl.canon b) ↔ t = true) → (((Fl.canon a : Nat) : Int) == ((Fl.canon b : Nat) : Int)) = t := by
    intro t ht
    cases t
    · rw [beq_eq_false_iff_ne]
      intro e
      exact absurd (ht.1 (Int.ofNat_inj.1 e)) (by decide)
    · rw [beq_iff_eq]
      exact congrArg _ (ht.2 rfl)
  cases h1 : Fl.isNaN a
  · right; right
    cases h2 : Fl.isNaN b
    · have ho : FloatKind.f64.format.order a b = some (compare (Fl.key a) (Fl.key b)) := Fl.order_num h1 h2
      rw [ho, Fl.compare_eq]
      by_cases hk : Fl.key a = Fl.key b
      · right
        refine ⟨rfl, decide_eq_true hk, key _ ?_⟩
        rw [hi, beq_iff_eq]
        simp [h1, h2, hk]
      · left
        refine ⟨rfl, decide_eq_false hk, key _ ?_⟩
        rw [hi]
        simp [h1, h2, hk]
    · left
      rw [show FloatKind.f64.format.order a b = none from Fl.order_nan (.inr h2)]
      refine ⟨rfl, rfl, key _ ?_⟩
      rw [hi]
      simp [h1, h2]
  · cases h2 : Fl.isNaN b
    · right; left
      rw [show FloatKind.f64.format.order a b = none from Fl.order_nan (.inl h1)]
      refine ⟨rfl, rfl, rfl, key _ ?_⟩
      rw [hi]
      simp [h1, h2]
    · left
      refine ⟨rfl, rfl, key _ ?_⟩
      rw [hi]
      simp [h1, h2]

/-- Whether n is a float's Bits, by Go's own comparisons. -/
theorem Fl.of_cases (n : Int) (hn : 0 ≤ n) : ((FloatKind.f64.format.order n.toNat n.toNat == some .eq) = true ∧ (((Fl.canon n.toNat : Nat) : Int) == n) = true)
    ∨ ((FloatKind.f64.format.order n.toNat n.toNat == some .eq) = false ∧ (n == 9221120237041090560) = true ∧ (((Fl.canon n.toNat : Nat) : Int) == n) = true)
    ∨ ((FloatKind.f64.format.order n.toNat n.toNat == some .eq) = false ∧ (n == 9221120237041090560) = false ∧ (((Fl.canon n.toNat : Nat) : Int) == n) = false) := by
  rw [Fl.isOf n hn]
  have h : (FloatKind.f64.format.order n.toNat n.toNat == some .eq) = !Fl.isNaN n.toNat := by
    have := Fl.self_ne n.toNat
    show (Ieee.double.order n.toNat n.toNat == some .eq) = _
    rw [← this]
    exact (Bool.not_not _).symm
  rw [h]
  cases Fl.isNaN n.toNat
  · simp
  · cases (n == 9221120237041090560) <;> simp

set_option maxHeartbeats 8000000 in
theorem realbits_walk (n : Int) (hn : 0 ≤ n) (hn' : n ≤ 18446744073709551615) (m : Int) (hm : 0 ≤ m) (hm' : m ≤ 18446744073709551615) (x : Int) (hx : 0 ≤ x) (hx' : x ≤ 255) (y : Int) (hy : 0 ≤ y) (hy' : y ≤ 255) (w : World) :
    Calls Try.prog 3 #[.int .u64 n, .int .u64 m, .int .u8 x, .int .u8 y] w fun e w' => e = .returned (.bool true) ∧ Fr (fun _ => False) w w' := by
  go_enter Try.func3, Try.ntmps3
  go_wp2_with fail
  refine (awake_any w).mono ?_
  rintro e w1 ⟨rfl, hf⟩
  go_wp2_with fail
  refine (float_any n x hn hn' hx hx' _).mono ?_
  rintro e w2 ⟨a, ha, rfl, rfl⟩
  go_wp2_with fail
  refine (float_any m y hm hm' hy hy' _).mono ?_
  rintro e w2 ⟨b, hb, rfl, rfl⟩
  go_wp2_with fail
  refine (bits_any a _).mono ?_
  rintro e w2 ⟨rfl, rfl⟩
  go_wp2_with fail
  refine (of_any _ _).mono ?_
  rintro e w2 ⟨rfl, rfl⟩
  rw [Fl.canon_canon, beq_self_eq_true]
  go_wp2_with fail
  refine (of_int _ _).mono ?_
  rintro e w2 ⟨rfl, rfl⟩
  have hqa : ((FloatKind.f64.format.order a a != some .eq) : Bool) = Fl.isNaN a := Fl.self_ne a
  have hqb : ((FloatKind.f64.format.order b b != some .eq) : Bool) = Fl.isNaN b := Fl.self_ne b
  have HO := Lib.hid (Fl.of_cases n hn)
  generalize hc : (((Fl.canon n.toNat : Nat) : Int) == n) = is at *
  clear hc
  have HX := Lib.hid (⟨hn, hn', hm, hm', hx, hx', hy, hy'⟩ : 0 ≤ n ∧ n ≤ 18446744073709551615 ∧ 0 ≤ m ∧ m ≤ 18446744073709551615 ∧ 0 ≤ x ∧ x ≤ 255 ∧ 0 ≤ y ∧ y ≤ 255)
  clear hn hn' hm hm' hx hx' hy hy'
  rcases Fl.same_cases a b ha hb with ⟨h1, h2, h3⟩ | ⟨h1, h2, h4, h3⟩ | ⟨h1, h4, h3⟩ | ⟨h1, h4, h3⟩
  · rw [h1] at hqa
    rw [h2] at hqb
    have H3 := Lib.hid h3
    clear h1 h2 h3
    go_wp2_with (first | rw [hqa] | rw [hqb])
    refine (bits_any a _).mono ?_
    rintro e w2 ⟨rfl, rfl⟩
    go_wp2_with fail
    refine (refbits_any a _).mono ?_
    rintro e w2 ⟨rfl, rfl⟩
    go_wp2_with fail
    refine (same_any _ _ _).mono ?_
    rintro e w2 ⟨rfl, rfl⟩
    rw [Fl.canon_canon, beq_self_eq_true]
    rcases HO.out with ⟨o1, rfl⟩ | ⟨o1, o2, rfl⟩ | ⟨o1, o2, rfl⟩
    · clear HO
      go_wp2_with (rw [o1])
      refine (same_any _ _ _).mono ?_
      rintro e w2 ⟨rfl, rfl⟩
      rw [H3.out]
      go_wp2_with fail
      refine (whole_any _ ha _).mono ?_
      rintro e w2 ⟨rfl, rfl⟩
      go_wp2_with fail
      refine (refwhole_any _ _).mono ?_
      rintro e w2 ⟨rfl, rfl⟩
      go_wp2_with fail
      go_ret
      exact ⟨rfl, hf⟩
    · clear HO
      go_wp2_with (first | rw [o1] | rw [o2])
      refine (same_any _ _ _).mono ?_
      rintro e w2 ⟨rfl, rfl⟩
      rw [H3.out]
      go_wp2_with fail
      refine (whole_any _ ha _).mono ?_
      rintro e w2 ⟨rfl, rfl⟩
      go_wp2_with fail
      refine (refwhole_any _ _).mono ?_
      rintro e w2 ⟨rfl, rfl⟩
      go_wp2_with fail
      go_ret
      exact ⟨rfl, hf⟩
    · clear HO
      go_wp2_with (first | rw [o1] | rw [o2])
      refine (same_any _ _ _).mono ?_
      rintro e w2 ⟨rfl, rfl⟩
      rw [H3.out]
      go_wp2_with fail
      refine (whole_any _ ha _).mono ?_
      rintro e w2 ⟨rfl, rfl⟩
      go_wp2_with fail
      refine (refwhole_any _ _).mono ?_
      rintro e w2 ⟨rfl, rfl⟩
      go_wp2_with fail
      go_ret
      exact ⟨rfl, hf⟩
  · rw [h1] at hqa
    rw [h2] at hqb
    have H3 := Lib.hid h3
    clear h1 h2 h3
    go_wp2_with (first | rw [hqa] | rw [hqb] | rw [h4])
    refine (bits_any a _).mono ?_
    rintro e w2 ⟨rfl, rfl⟩
    go_wp2_with fail
    refine (refbits_any a _).mono ?_
    rintro e w2 ⟨rfl, rfl⟩
    go_wp2_with fail
    refine (same_any _ _ _).mono ?_
    rintro e w2 ⟨rfl, rfl⟩
    rw [Fl.canon_canon, beq_self_eq_true]
    rcases HO.out with ⟨o1, rfl⟩ | ⟨o1, o2, rfl⟩ | ⟨o1, o2, rfl⟩
    · clear HO
      go_wp2_with (rw [o1])
      refine (same_any _ _ _).mono ?_
      rintro e w2 ⟨rfl, rfl⟩
      rw [H3.out]
      go_wp2_with fail
      refine (whole_any _ ha _).mono ?_
      rintro e w2 ⟨rfl, rfl⟩
      go_wp2_with fail
      refine (refwhole_any _ _).mono ?_
      rintro e w2 ⟨rfl, rfl⟩
      go_wp2_with fail
      go_ret
      exact ⟨rfl, hf⟩
    · clear HO
      go_wp2_with (first | rw [o1] | rw [o2])
      refine (same_any _ _ _).mono ?_
      rintro e w2 ⟨rfl, rfl⟩
      rw [H3.out]
      go_wp2_with fail
      refine (whole_any _ ha _).mono ?_
      rintro e w2 ⟨rfl, rfl⟩
      go_wp2_with fail
      refine (refwhole_any _ _).mono ?_
      rintro e w2 ⟨rfl, rfl⟩
      go_wp2_with fail
      go_ret
      exact ⟨rfl, hf⟩
    · clear HO
      go_wp2_with (first | rw [o1] | rw [o2])
      refine (same_any _ _ _).mono ?_
      rintro e w2 ⟨rfl, rfl⟩
      rw [H3.out]
      go_wp2_with fail
      refine (whole_any _ ha _).mono ?_
      rintro e w2 ⟨rfl, rfl⟩
      go_wp2_with fail
      refine (refwhole_any _ _).mono ?_
      rintro e w2 ⟨rfl, rfl⟩
      go_wp2_with fail
      go_ret
      exact ⟨rfl, hf⟩
  · rw [h1] at hqa
    have H3 := Lib.hid h3
    clear h1 h3 hqb
    go_wp2_with (first | rw [hqa] | rw [h4])
    refine (bits_any a _).mono ?_
    rintro e w2 ⟨rfl, rfl⟩
    go_wp2_with fail
    refine (refbits_any a _).mono ?_
    rintro e w2 ⟨rfl, rfl⟩
    go_wp2_with fail
    refine (same_any _ _ _).mono ?_
    rintro e w2 ⟨rfl, rfl⟩
    rw [Fl.canon_canon, beq_self_eq_true]
    rcases HO.out with ⟨o1, rfl⟩ | ⟨o1, o2, rfl⟩ | ⟨o1, o2, rfl⟩
    · clear HO
      go_wp2_with (rw [o1])
      refine (same_any _ _ _).mono ?_
      rintro e w2 ⟨rfl, rfl⟩
      rw [H3.out]
      go_wp2_with fail
      refine (whole_any _ ha _).mono ?_
      rintro e w2 ⟨rfl, rfl⟩
      go_wp2_with fail
      refine (refwhole_any _ _).mono ?_
      rintro e w2 ⟨rfl, rfl⟩
      go_wp2_with fail
      go_ret
      exact ⟨rfl, hf⟩
    · clear HO
      go_wp2_with (first | rw [o1] | rw [o2])
      refine (same_any _ _ _).mono ?_
      rintro e w2 ⟨rfl, rfl⟩
      rw [H3.out]
      go_wp2_with fail
      refine (whole_any _ ha _).mono ?_
      rintro e w2 ⟨rfl, rfl⟩
      go_wp2_with fail
      refine (refwhole_any _ _).mono ?_
      rintro e w2 ⟨rfl, rfl⟩
      go_wp2_with fail
      go_ret
      exact ⟨rfl, hf⟩
    · clear HO
      go_wp2_with (first | rw [o1] | rw [o2])
      refine (same_any _ _ _).mono ?_
      rintro e w2 ⟨rfl, rfl⟩
      rw [H3.out]
      go_wp2_with fail
      refine (whole_any _ ha _).mono ?_
      rintro e w2 ⟨rfl, rfl⟩
      go_wp2_with fail
      refine (refwhole_any _ _).mono ?_
      rintro e w2 ⟨rfl, rfl⟩
      go_wp2_with fail
      go_ret
      exact ⟨rfl, hf⟩
  · rw [h1] at hqa
    have H3 := Lib.hid h3
    clear h1 h3 hqb
    go_wp2_with (first | rw [hqa] | rw [h4])
    refine (signbit_any _ _).mono ?_
    rintro e w2 ⟨rfl, rfl⟩
    go_wp2_with fail
    refine (signbit_any _ _).mono ?_
    rintro e w2 ⟨rfl, rfl⟩
    have h3 := H3.out; clear H3
    generalize Fl.neg a = sa at *
    generalize Fl.neg b = sb at *
    have H3 := Lib.hid h3; clear h3
    cases sa <;> cases sb <;> go_wp2_with fail
    all_goals
      refine (bits_any a _).mono ?_
      rintro e w2 ⟨rfl, rfl⟩
      go_wp2_with fail
      refine (refbits_any a _).mono ?_
      rintro e w2 ⟨rfl, rfl⟩
      go_wp2_with fail
      refine (same_any _ _ _).mono ?_
      rintro e w2 ⟨rfl, rfl⟩
      rw [Fl.canon_canon, beq_self_eq_true]
      rcases HO.out with ⟨o1, rfl⟩ | ⟨o1, o2, rfl⟩ | ⟨o1, o2, rfl⟩
      · clear HO
        go_wp2_with (rw [o1])
        refine (same_any _ _ _).mono ?_
        rintro e w2 ⟨rfl, rfl⟩
        rw [H3.out]
        go_wp2_with fail
        refine (whole_any _ ha _).mono ?_
        rintro e w2 ⟨rfl, rfl⟩
        go_wp2_with fail
        refine (refwhole_any _ _).mono ?_
        rintro e w2 ⟨rfl, rfl⟩
        go_wp2_with fail
        go_ret
        exact ⟨rfl, hf⟩
      · clear HO
        go_wp2_with (first | rw [o1] | rw [o2])
        refine (same_any _ _ _).mono ?_
        rintro e w2 ⟨rfl, rfl⟩
        rw [H3.out]
        go_wp2_with fail
        refine (whole_any _ ha _).mono ?_
        rintro e w2 ⟨rfl, rfl⟩
        go_wp2_with fail
        refine (refwhole_any _ _).mono ?_
        rintro e w2 ⟨rfl, rfl⟩
        go_wp2_with fail
        go_ret
        exact ⟨rfl, hf⟩
      · clear HO
        go_wp2_with (first | rw [o1] | rw [o2])
        refine (same_any _ _ _).mono ?_
        rintro e w2 ⟨rfl, rfl⟩
        rw [H3.out]
        go_wp2_with fail
        refine (whole_any _ ha _).mono ?_
        rintro e w2 ⟨rfl, rfl⟩
        go_wp2_with fail
        refine (refwhole_any _ _).mono ?_
        rintro e w2 ⟨rfl, rfl⟩
        go_wp2_with fail
        go_ret
        exact ⟨rfl, hf⟩
end Go.Proofs.Ytfohhddpeofhcaa
