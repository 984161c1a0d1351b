/-
  CouBack, part 43 of what it rests on: CouRefW.
-/
import Derived.Test.YtplipjijaaejlaaGreatS04
set_option linter.unusedVariables false
set_option linter.unusedSimpArgs false
set_option maxHeartbeats 64000000
namespace Go.Proofs.YtplipjijaaejlaaGreat
open Go.RowKit
open Go.Lib (hid)
section
theorem refword_any (n : Int) (h0 : 0 ≤ n) (h1 : n ≤ 65535) (w : World) :
    Calls Tryz.prog 30 #[.int .i64 n] w fun e w' => ∃ v, e = .returned v ∧ Made v (be2 n.toNat) w w' := by
  have e0 : n / 256 % 256 = n / 256 := by omega
  go_enter Tryz.func30, Tryz.ntmps30
  go_wp2
  go_ret
  exact ⟨.slice (some ⟨w.heap.size, 0, none⟩) 2 2, rfl, own_new2 h0 h1 w, (Fr.refl _ _).alloc _, by simp [Value.ownBlock]⟩

theorem reflong_any (n : Int) (h0 : 0 ≤ n) (h1 : n ≤ 4294967295) (w : World) :
    Calls Tryz.prog 26 #[.int .u32 n] w fun e w' => ∃ v, e = .returned v ∧ Made v (be4 n.toNat) w w' := by
  obtain ⟨i0, hi, hz0, hz1, hz2⟩ := info_parts Tryz.infoU8
  go_enter Tryz.func26, Tryz.ntmps26
  go_wp2_with fail
  refine (refword_any _ (by omega) (by omega) _).mono ?_
  rintro e w1 ⟨v1, rfl, m1⟩
  have e1 : (n / 65536).toNat = n.toNat / 65536 := by omega
  have e2 : (n % 65536).toNat = n.toNat % 65536 := by omega
  rw [e1] at m1
  clear e1
  have E2 := Lib.hid e2; clear e2
  go_wp2_with fail
  refine (refword_any _ (by omega) (by omega) _).mono ?_
  rintro e w2 ⟨v2, rfl, m2⟩
  rw [E2.out] at m2
  obtain ⟨o2, f2, k2⟩ := m2
  have o1 := m1.1.fr f2 (fun _ _ h => h)
  have hl2 := o2.sees.shape
  obtain ⟨a2, c2, rfl, hn2⟩ := hl2
  clear hn2
  have K2 := Lib.hid k2; clear k2
  go_wp2_with (at_builtin; refine wpList_append_sep rfl (.tmp 6) (.tmp 10) 26 26 rfl 0 5 i0 (.int .u8 0) 1 1 Tryz.underlying26 _ Tryz.underlying26 (.inr ⟨_, rfl⟩) hi hz0 hz1 hz2 rfl (by decide) v1 _ _ rfl o1 _ 2 ((be2 (n.toNat % 65536)).map bv) rfl (lenOf_slice _ _ _) rfl (by exact o2.sees.first) (by exact o2.sees.drew.first) (bv_one _) ?b1 ?b2 (Nat.zero_le _) ?grow)
  case b1 => rw [be2_length]; unfold maxLen; omega
  case b2 => rw [be2_length]; omega
  case grow =>
    intro v' w3 hown hg hv
    have m := Made.append m1 f2 rfl hown hg hv
    clear hown hg hv
    go_wp2
    go_ret
    exact ⟨v', rfl, m⟩

theorem refquad_any (n : Int) (h0 : 0 ≤ n) (h1 : n ≤ 18446744073709551615) (w : World) :
    Calls Tryz.prog 27 #[.int .u64 n] w fun e w' => ∃ v, e = .returned v ∧ Made v (be8 n.toNat) w w' := by
  obtain ⟨i0, hi, hz0, hz1, hz2⟩ := info_parts Tryz.infoU8
  go_enter Tryz.func27, Tryz.ntmps27
  go_wp2_with fail
  refine (reflong_any _ (by omega) (by omega) _).mono ?_
  rintro e w1 ⟨v1, rfl, m1⟩
  have e1 : (n / 4294967296).toNat = n.toNat / 4294967296 := by omega
  have e2 : (n % 4294967296).toNat = n.toNat % 4294967296 := by omega
  rw [e1] at m1
  clear e1
  have E2 := Lib.hid e2; clear e2
  go_wp2_with fail
  refine (reflong_any _ (by omega) (by omega) _).mono ?_
  rintro e w2 ⟨v2, rfl, m2⟩
  rw [E2.out] at m2
  obtain ⟨o2, f2, k2⟩ := m2
  have o1 := m1.1.fr f2 (fun _ _ h => h)
  have hl2 := o2.sees.shape
  obtain ⟨a2, c2, rfl, hn2⟩ := hl2
  clear hn2
  have K2 := Lib.hid k2; clear k2
  go_wp2_with (at_builtin; refine wpList_append_sep rfl (.tmp 6) (.tmp 10) 26 26 rfl 0 5 i0 (.int .u8 0) 1 1 Tryz.underlying26 _ Tryz.underlying26 (.inr ⟨_, rfl⟩) hi hz0 hz1 hz2 rfl (by decide) v1 _ _ rfl o1 _ 4 ((be4 (n.toNat % 4294967296)).map bv) rfl (lenOf_slice _ _ _) rfl (by exact o2.sees.first) (by exact o2.sees.drew.first) (bv_one _) ?b1 ?b2 (Nat.zero_le _) ?grow)
  case b1 => rw [be4_length]; unfold maxLen; omega
  case b2 => rw [be4_length]; omega
  case grow =>
    intro v' w3 hown hg hv
    have m := Made.append m1 f2 rfl hown hg hv
    clear hown hg hv
    go_wp2
    go_ret
    exact ⟨v', rfl, m⟩

theorem reftext_any (s : ByteArray) (hs : s.size ≤ 65535) (w : World) :
    Calls Tryz.prog 29 #[.string s] w fun e w' => ∃ v, e = .returned v ∧ Made v (txt s.data.toList) w w' := by
  obtain ⟨i0, hi, hz0, hz1, hz2⟩ := info_parts Tryz.infoU8
  go_enter Tryz.func29, Tryz.ntmps29
  go_wp2_with fail
  refine (refword_any _ (by omega) (by omega) _).mono ?_
  rintro e w1 ⟨v1, rfl, m1⟩
  have o1 := m1.1
  go_wp2_with (at_builtin; refine wpList_append_sep rfl (.tmp 6) (.tmp 7) 26 9 rfl 0 5 i0 (.int .u8 0) 1 1 Tryz.underlying26 _ Tryz.underlying9 (.inl rfl) hi hz0 hz1 hz2 rfl (by decide) v1 _ _ rfl o1 _ s.size (s.data.toList.map bv) rfl (lenOf_string _) (bv_length s) (string_first _ _) (string_first _ _) (bv_one _) ?b1 ?b2 (Nat.zero_le _) ?grow)
  case b1 => rw [be2_length]; unfold maxLen; omega
  case b2 => rw [be2_length]; omega
  case grow =>
    intro v2 w2 hown hg hv
    have m2 : Made v2 (be2 (s.size : Int).toNat ++ s.data.toList) w w2 := Made.append m1 (Fr.refl _ _) rfl hown hg hv
    have hlen : (be2 (s.size : Int).toNat ++ s.data.toList).length = 2 + s.size := by rw [List.length_append]; rfl
    have Hlen := Lib.hid hlen; clear hlen
    generalize hl2 : be2 (s.size : Int).toNat ++ s.data.toList = l2 at *
    have Hl2 := Lib.hid hl2; clear hl2
    have o2 := m2.1
    clear hown hg hv o1 m1
    by_cases hodd : s.size % 2 = 1
    · have h21 : ((s.size : Int) % 2 == 1) = true := by simp; omega
      go_wp2_with (at_builtin; refine wpList_append_sep rfl (.tmp 13) (.tmp 14) 26 26 rfl 0 5 i0 (.int .u8 0) 1 1 Tryz.underlying26 _ Tryz.underlying26 (.inr ⟨_, rfl⟩) hi hz0 hz1 hz2 rfl (by decide) v2 _ _ rfl (World.ownsRow.alloc o2 _) _ 1 ([0].map bv) rfl (lenOf_slice _ _ _) rfl (by exact zero_new _) (by exact zero_new w2.drew) (bv_one _) ?b1 ?b2 (Nat.zero_le _) ?grow)
      case b1 => rw [Hlen.out]; unfold maxLen; omega
      case b2 => rw [Hlen.out]; omega
      case grow =>
        intro v3 w3 hown hg hv
        have m3 : Made v3 (l2 ++ [0]) w w3 := Made.append m2 ((Fr.refl _ _).alloc _) rfl hown hg (by simpa using hv)
        clear hown hg hv
        go_wp2
        go_ret
        refine ⟨v3, rfl, ?_⟩
        have e := txt_odd [] s hodd
        rw [List.nil_append, List.nil_append, Hl2.out] at e
        rw [e]
        exact m3
    · have h21 : ((s.size : Int) % 2 == 1) = false := by simp; omega
      go_wp2
      go_ret
      refine ⟨v2, rfl, ?_⟩
      have e := txt_even [] s hodd
      rw [List.nil_append, List.nil_append, Hl2.out] at e
      rw [e]
      exact m2
end
end Go.Proofs.YtplipjijaaejlaaGreat
