/-
  What the document's answers for a word and a long give.
-/
import Derived.Test.YtplijlgkchbdaaaMade
namespace Go.Proofs.Ytplijlgkchbdaaa
open Go.RowKit

set_option maxHeartbeats 400000 in
theorem refword_any (n : Int) (h0 : 0 ≤ n) (h1 : n ≤ 65535) (w : World) :
    Calls Try.prog 18 #[.int .i64 n] w fun e w' => ∃ v, e = .returned v ∧ Made v (be2 n.toNat) w w' := by
  have e0 : n / 256 % 256 = n / 256 := by omega
  go_enter Try.func18, Try.ntmps18
  go_wp2
  go_ret
  exact ⟨.slice (some ⟨w.heap.size, 0, none⟩) 2 2, rfl, own_new2 h0 h1 w, (Fr.refl _ _).alloc _, by simp [Value.ownBlock]⟩

set_option maxHeartbeats 400000 in
theorem reflong_any (n : Int) (h0 : 0 ≤ n) (h1 : n ≤ 4294967295) (w : World) :
    Calls Try.prog 16 #[.int .u32 n] w fun e w' => ∃ v, e = .returned v ∧ Made v (be4 n.toNat) w w' := by
  obtain ⟨i0, hi, hz0, hz1, hz2⟩ := info_parts Try.infoU8
  go_enter Try.func16, Try.ntmps16
  go_wp2_with fail
  refine (refword_any _ (by omega) (by omega) _).mono ?_
  rintro e w1 ⟨v1, rfl, m1⟩
  have e1 : (n / 65536).toNat = n.toNat / 65536 := by omega
  have e2 : (n % 65536).toNat = n.toNat % 65536 := by omega
  rw [e1] at m1
  clear e1
  have E2 := Lib.hid e2; clear e2
  go_wp2_with fail
  refine (refword_any _ (by omega) (by omega) _).mono ?_
  rintro e w2 ⟨v2, rfl, m2⟩
  rw [E2.out] at m2
  obtain ⟨o2, f2, k2⟩ := m2
  have o1 := m1.1.fr f2 (fun _ _ h => h)
  have hl2 := o2.sees.shape
  obtain ⟨a2, c2, rfl, hn2⟩ := hl2
  clear hn2
  have K2 := Lib.hid k2; clear k2
  go_wp2_with (at_builtin; refine wpList_append_sep rfl (.tmp 6) (.tmp 10) 22 22 rfl 0 5 i0 (.int .u8 0) 1 1 Try.underlying22 _ Try.underlying22 (.inr ⟨_, rfl⟩) hi hz0 hz1 hz2 rfl (by decide) v1 _ _ rfl o1 _ 2 ((be2 (n.toNat % 65536)).map bv) rfl (lenOf_slice _ _ _) rfl (by exact o2.sees.first) (by exact o2.sees.drew.first) (bv_one _) ?b1 ?b2 (Nat.zero_le _) ?grow)
  case b1 => rw [be2_length]; unfold maxLen; omega
  case b2 => rw [be2_length]; omega
  case grow =>
    intro v' w3 hown hg hv
    have m := Made.append m1 f2 rfl hown hg hv
    clear hown hg hv
    go_wp2
    go_ret
    exact ⟨v', rfl, m⟩

end Go.Proofs.Ytplijlgkchbdaaa
