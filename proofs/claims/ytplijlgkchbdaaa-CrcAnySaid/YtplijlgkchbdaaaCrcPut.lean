/-
  What the program's crc.encoded and crc.Put give.
-/
import Derived.Test.YtplijlgkchbdaaaCrcSum
import Derived.Test.YtplijlgkchbdaaaMade
import Derived.Lib.AppendZerosOnto
namespace Go.Proofs.Ytplijlgkchbdaaa
open Go.RowKit

/-- The bytes of a sum as an array's value. -/
def arr (l : List UInt8) : Value := .agg (l.map bv).toArray

theorem bv_nat (n : Nat) (h : n < 256) : bv (UInt8.ofNat n) = .int .u8 (n : Int) := by
  unfold bv
  rw [show (UInt8.ofNat n).toNat = n by simp; omega]

set_option maxHeartbeats 2000000 in
theorem encoded_any (n : Nat) (hn : n < 4294967296) (w : World) :
    Calls Try.prog 13 #[.int .u32 (n : Int)] w fun e w' => e = .returned (arr (be4 n)) ∧ Fr (fun _ => False) w w' := by
  go_enter Try.func13, Try.ntmps13
  go_wp2_with fail
  refine bodyPost_ret (results_cell_row rfl _ _ w.heap.size 34 _ _ _ rfl (heap_alloc_new _ _) Try.underlying34 rfl (by kernel_rfl)) rfl ?_
  refine ⟨?_, (Fr.refl _ _).alloc _⟩
  congr 1
  unfold arr be4 be2
  simp only [List.cons_append, List.nil_append, List.map_cons, List.map_nil]
  rw [bv_nat _ (by omega), bv_nat _ (by omega), bv_nat _ (by omega), bv_nat _ (by omega)]
  simp only [Value.agg.injEq, Array.mk.injEq, List.cons.injEq, Value.int.injEq, true_and, and_true]
  omega

set_option maxHeartbeats 2000000 in
theorem grow_nil (n : Nat) (h0 : 0 < n) (hn : n ≤ 100000) (w : World) :
    Calls Try.prog 17 #[.slice none 0 0, .int .i64 (n : Int)] w fun e w' => ∃ v, e = .returned v ∧ Own w' v [] ∧ Fr (fun _ => False) w w' ∧ ∀ k, v.ownBlock = some k → w.heap.size ≤ k := by
  obtain ⟨i0, hi, hz0, hz1, hz2⟩ := info_parts Try.infoU8
  have hrz := Lib.run_append_nil_zeros w 22 3 22 5 i0 (.int .u8 0) .i64 .i64 Try.underlying22 Try.underlying3 hi hz0 n h0 (by omega) (by omega) (by rw [hz2]; omega)
  have hge := grownCap_ge w n 0 5
  have hle := grownCap_le_maxLen w n 0 5 (by unfold maxLen; omega)
  generalize hG : grownCap w n 0 5 = G at *
  have HG := Lib.hid hG; clear hG
  have hG63 : G ≤ 9223372036854775807 := by unfold maxLen at hle; omega
  go_enter Try.func17, Try.ntmps17
  go_wp2_with (at_builtin; refine Lib.wpList_append_run _ rfl _ _ _ _ rfl _ _ rfl rfl _ _ hrz ?_)
  go_ret
  refine ⟨_, rfl, ?_, (Fr.refl _ _).drew.alloc _, by simp [Value.ownBlock]⟩
  refine ⟨rfl, .inr ⟨w.heap.size, G, _, rfl, Nat.zero_le _, heap_alloc_new w.drew _, Nat.zero_le _, hle, ?_, by simp⟩⟩
  rw [Array.size_append, size_zeroCells, size_zeroCells]
  show n * 1 + (G - n) * 1 = G * 1
  omega

/-- How many bytes the first k rows hold. -/
def flen (ls : List (List UInt8)) (k : Nat) : Nat := (ls.take k).flatten.length

theorem flen_le (ls : List (List UInt8)) (k : Nat) : flen ls k ≤ ls.flatten.length := by
  unfold flen
  conv => rhs; rw [← List.take_append_drop k ls]
  rw [List.flatten_append, List.length_append]
  omega

theorem flat_take_succ (ls : List (List UInt8)) (k : Nat) (h : k < ls.length) : (ls.take (k + 1)).flatten = (ls.take k).flatten ++ ls.getD k [] := by
  rw [List.take_succ_eq_append_getElem h, List.flatten_append]
  simp [List.getD, h]

set_option maxHeartbeats 4000000 in
/-- slices.Concat of slices of bytes: their bytes, in a row of its own. -/
theorem concat_any (vs : List Value) (ls : List (List UInt8)) (w : World) (g : Nat) (hl : vs.length = ls.length) (hg : w.heap[g]? = some (.cells vs.toArray 22)) (hs : ∀ j, j < ls.length → Sees w (vs.getD j undef) (ls.getD j []))
    (n : Nat) (hln : ls.length = n) (h0 : 0 < ls.flatten.length) (hn : ls.flatten.length ≤ 100000) (hm : n ≤ 100000) :
    Calls Try.prog 14 #[.slice (some ⟨g, 0, none⟩) n n] w fun e w' => ∃ v, e = .returned v ∧ Made v ls.flatten w w' := by
  obtain ⟨i0, hi, hz0, hz1, hz2⟩ := info_parts Try.infoU8
  have hgs : g < w.heap.size := (Array.getElem?_eq_some_iff.1 hg).1
  have HG := Lib.hid hg
  have HS := Lib.hid hs
  have H0 := Lib.hid h0
  have HN := Lib.hid hn
  have HL := Lib.hid hl
  have HLN := Lib.hid hln
  clear hg hs h0 hn hl hln
  go_enter Try.func14, Try.ntmps14
  go_wp2_with fail
  go_loopg [3, 5, 11] n (fun gg u s i wr => ∃ k : Nat, k ≤ n ∧ gg = n - k ∧ i = .int .i64 k ∧ u = .int .i64 (flen ls k : Nat) ∧ w = wr)
  case atStart => exact ⟨0, Nat.zero_le _, rfl, rfl, rfl, rfl⟩
  case round =>
    obtain ⟨k, hk, rfl, rfl, rfl, rfl⟩ := hrel
    by_cases hlt : k < n
    · obtain ⟨c, cc, hv, _⟩ := (HS.out k (by rw [HLN.out]; exact hlt)).shape
      have hc : w.cell? ⟨g, k, none⟩ = some (.slice c (ls.getD k []).length cc) := by
        rw [cell_of_row w g k _ _ (0, 0) HG.out, ← hv]
        have := HL.out; have := HLN.out
        simp [List.getD, show k < vs.length by omega]
      have h1 : flen ls (k + 1) ≤ 100000 := Nat.le_trans (flen_le ls (k + 1)) HN.out
      have h4 : flen ls (k + 1) = flen ls k + (ls.getD k []).length := by unfold flen; rw [flat_take_succ ls k (by rw [HLN.out]; exact hlt), List.length_append]
      rw [h4] at h1
      have H4 := Lib.hid h4
      clear h4 hv
      generalize flen ls k = p at *
      generalize (ls.getD k []).length = q at *
      go_wp2_with fail
      go_roundg (n - (k + 1))
      case measure => omega
      case rel => exact ⟨k + 1, by omega, rfl, by simp, by rw [H4.out]; simp, rfl⟩
    · obtain rfl : k = n := by omega
      obtain ⟨T, hT⟩ : ∃ T, T = flen ls k := ⟨_, rfl⟩
      rw [← hT]
      have hT2 : T = ls.flatten.length := by rw [hT]; unfold flen; rw [← HLN.out, List.take_length]
      have hT0 : 0 < T := by have := H0.out; omega
      have hT1 : T ≤ 100000 := by have := HN.out; omega
      clear hT hT2
      go_wp2_with fail
      refine (grow_nil _ hT0 hT1 _).mono ?_
      rintro e w1 ⟨v1, rfl, ho1, f1, k1⟩
      have K1 := Lib.hid k1; clear k1
      go_wp2_with fail
      go_loopg [6, 8, 27] k (fun gg u s i w2 => ∃ j : Nat, j ≤ k ∧ gg = k - j ∧ i = .int .i64 j ∧ Made u (ls.take j).flatten w w2)
      case atStart => exact ⟨0, Nat.zero_le _, rfl, rfl, by simpa using ho1, f1, K1.out⟩
      case round =>
        clear ho1 f1 K1
        obtain ⟨j, hj, rfl, rfl, hM⟩ := hrel
        by_cases hlt : j < k
        · obtain ⟨c, cc, hv, _⟩ := (HS.out j (by rw [HLN.out]; exact hlt)).shape
          obtain ⟨ho, hf, hk6⟩ := hM
          have hsj := (HS.out j (by rw [HLN.out]; exact hlt)).fr hf (fun _ _ h => h)
          rw [hv] at hsj
          have hc : wr.cell? ⟨g, j, none⟩ = some (.slice c (ls.getD j []).length cc) := by
            rw [hf.cell (p := ⟨g, j, none⟩) hgs (fun h => h), cell_of_row w g j _ _ (0, 0) HG.out, ← hv]
            have := HL.out; have := HLN.out
            simp [List.getD, show j < vs.length by omega]
          have h1 : flen ls (j + 1) ≤ 100000 := Nat.le_trans (flen_le ls (j + 1)) HN.out
          have h3 := flat_take_succ ls j (by rw [HLN.out]; exact hlt)
          have h4 : flen ls (j + 1) = (ls.take j).flatten.length + (ls.getD j []).length := by unfold flen; rw [h3, List.length_append]
          rw [h4] at h1
          have H1 := Lib.hid h1
          have H3 := Lib.hid h3
          have HF := Lib.hid hf
          have HK := Lib.hid hk6
          clear h1 h3 h4 hv hf hk6
          generalize (ls.take j).flatten = p at *
          generalize ls.getD j [] = q at *
          have hq : q.length ≤ 100000 := by have := H1.out; omega
          go_wp2_with (at_builtin; refine wpList_append_sep rfl (.tmp 31) (.tmp 32) 22 22 rfl 0 5 i0 (.int .u8 0) 1 1 Try.underlying22 _ Try.underlying22 (.inr ⟨_, rfl⟩) hi hz0 hz1 hz2 rfl (by decide) u6 _ _ rfl ho _ q.length (q.map bv) rfl (lenOf_slice _ _ _) (by simp) (by exact hsj.first) (by exact hsj.drew.first) (bv_one _) ?b1 ?b2 (Nat.zero_le _) ?grow)
          case b1 => have := H1.out; unfold maxLen; omega
          case b2 => have := H1.out; omega
          case grow =>
            intro v' w3 hown hg hv
            have m := Made.append (w := w) ⟨ho, HF.out, HK.out⟩ (Fr.refl _ _) rfl hown hg hv
            rw [← H3.out] at m
            clear hown hg hv hsj ho
            go_wp2_with fail
            go_roundg (k - (j + 1))
            case measure => omega
            case rel => exact ⟨j + 1, by omega, rfl, by simp, m⟩
        · obtain rfl : j = k := by omega
          rw [← HLN.out, List.take_length] at hM
          have HM := Lib.hid hM; clear hM
          go_wp2_with fail
          go_ret
          exact ⟨_, rfl, HM.out⟩

set_option maxHeartbeats 4000000 in
theorem put_any (v : Value) (l : List UInt8) (w : World) (hs : Sees w v l) (hl : l.length ≤ 1000) :
    Calls Try.prog 8 #[v] w fun e w' => ∃ v', e = .returned v' ∧ Made v' (Crc.summed l) w w' := by
  obtain ⟨a, c, rfl, hn⟩ := hs.shape
  clear hn
  go_enter Try.func8, Try.ntmps8
  go_wp2_with fail
  refine (sum_any _ l _ hs (by omega)).mono ?_
  rintro e w1 ⟨rfl, rfl⟩
  have hlt := Crc.sum_lt l
  go_wp2_with fail
  refine (encoded_any (Crc.sum l) hlt _).mono ?_
  rintro e w2 ⟨rfl, f2⟩
  obtain ⟨c0, c1, c2, c3, hb⟩ : ∃ c0 c1 c2 c3, be4 (Crc.sum l) = [c0, c1, c2, c3] := ⟨_, _, _, _, rfl⟩
  have HB := Lib.hid hb
  rw [hb]
  unfold arr bv
  simp only [List.map_cons, List.map_nil]
  clear hb
  go_wp2_with fail
  have hb : Sees (w2.alloc (.cells #[.int .u8 c0.toNat, .int .u8 c1.toNat, .int .u8 c2.toNat, .int .u8 c3.toNat] 34)) (.slice (some ⟨w2.heap.size, 0, none⟩) 4 4) [c0, c1, c2, c3] := by
    refine sees_new (l := [c0, c1, c2, c3]) (c := 4) w2.heap.size (heap_alloc_new w2 _) ?_ (by simp)
    intro j hj
    match j, hj with
    | 0, _ | 1, _ | 2, _ | 3, _ => rfl
  generalize hw3 : w2.alloc (.cells #[.int .u8 c0.toNat, .int .u8 c1.toNat, .int .u8 c2.toNat, .int .u8 c3.toNat] 34) = w3 at *
  have hw3s : w3.heap.size = w2.heap.size + 1 := by rw [← hw3]; exact World.size_alloc _ _
  have f3 : Fr (fun _ => False) w1 w3 := by rw [← hw3]; exact f2.alloc _
  clear hw3
  rw [← hw3s]
  have f4 : ∀ o, Fr (fun _ => False) w3 (w3.alloc o) := fun o => (Fr.refl _ _).alloc o
  refine (concat_any [.slice a l.length c, .slice (some ⟨w2.heap.size, 0, none⟩) 4 4] [l, [c0, c1, c2, c3]] _ w3.heap.size rfl (heap_alloc_new w3 _) ?_ 2 rfl (by simp) (by simp; omega) (by omega)).mono ?_
  · intro j hj
    match j, hj with
    | 0, _ => exact (hs.fr f3 (fun _ _ h => h)).fr (f4 _) (fun _ _ h => h)
    | 1, _ => exact hb.fr (f4 _) (fun _ _ h => h)
  rintro e w4 ⟨v, rfl, hM⟩
  have hflat : [l, [c0, c1, c2, c3]].flatten = Crc.summed l := by
    unfold Crc.summed
    rw [HB.out]
    simp
  rw [hflat] at hM
  obtain ⟨m1, m2, m3⟩ := hM
  have m : Made v (Crc.summed l) w1 w4 := ⟨m1, (f3.trans (f4 _) (fun _ _ h => h)).trans m2 (fun _ _ h => h), fun k hk => by
    have h1 := m3 k hk
    have h2 := f3.size
    have h3 := (f4 (.cells #[.slice a l.length c, .slice (some ⟨w2.heap.size, 0, none⟩) 4 4] 22)).size
    exact Nat.le_trans h2 (Nat.le_trans h3 h1)⟩
  clear m1 m2 m3 hb hs f3 f4 hw3s hflat
  go_wp2_with fail
  go_ret
  exact ⟨_, rfl, m⟩
end Go.Proofs.Ytplijlgkchbdaaa
