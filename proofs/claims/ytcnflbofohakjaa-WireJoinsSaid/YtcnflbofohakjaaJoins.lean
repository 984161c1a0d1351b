/-
  WireJoins: for every number and every two texts the law returns true, and its arguments read as before.
-/
import Derived.Test.YtcnflbofohakjaaRef
import Derived.Deep.RegionWith
import Derived.Deep.Cut
import Derived.Deep.CutRange
namespace Go.Proofs.Ytcnflbofohakjaa
open Go.RowKit

set_option maxRecDepth 100000 in
set_option maxHeartbeats 2000000 in
theorem joins_any (n : Int) (h0 : 0 ≤ n) (h1 : n ≤ 18446744073709551615) (s t : ByteArray) (hs : s.size ≤ 100) (ht : t.size ≤ 100) (w : World) :
    Calls Try.prog 6 #[.int .u64 n, .string s, .string t] w fun e w' => e = .returned (.bool true) ∧ Fr (fun _ => False) w w' := by
  have hs' : decide ((100 : Int) < (s.size : Int)) = false := by simp; omega
  have ht' : decide ((100 : Int) < (t.size : Int)) = false := by simp; omega
  go_enter Try.func6, Try.ntmps6
  go_wp2_with fail
  refine (awake_any _).mono ?_
  rintro e w1 ⟨rfl, f1⟩
  have hA0 : Wr ((w1.alloc (.cells #[.slice none 0 0] 30)).alloc (.cells #[.slice none 0 0] 30)) w1.heap.size (.slice none 0 0) [] :=
    (wr_new w1).fr ((Fr.refl (fun _ => False) _).alloc _) (fun h => h) (fun _ _ h => h)
  have hB0 : Wr ((w1.alloc (.cells #[.slice none 0 0] 30)).alloc (.cells #[.slice none 0 0] 30)) (w1.heap.size + 1) (.slice none 0 0) [] := by
    have := wr_new (w1.alloc (.cells #[.slice none 0 0] 30))
    rwa [World.size_alloc] at this
  have hO0 : Off w1.heap.size (.slice none 0 0) (w1.heap.size + 1) (.slice none 0 0) := ⟨by omega, by simp [Value.ownBlock], by simp [Value.ownBlock], by simp [Value.ownBlock]⟩
  have g0 : Fr (fun _ => False) w ((w1.alloc (.cells #[.slice none 0 0] 30)).alloc (.cells #[.slice none 0 0] 30)) := (f1.alloc _).alloc _
  go_wp2_with fail
  generalize hW0 : ((w1.alloc (.cells #[.slice none 0 0] 30)).alloc (.cells #[.slice none 0 0] 30)) = W0 at *
  have HW0 := Lib.hid hW0; clear hW0
  generalize ha : w1.heap.size = a at *
  have Ha := Lib.hid ha; clear ha
  have hba : w.heap.size ≤ a := by rw [← Ha.out]; exact f1.size
  generalize hb : a + 1 = b at *
  have Hb := Lib.hid hb; clear hb
  have hbb : w.heap.size ≤ b := by rw [← Hb.out]; omega
  refine (quad_any a _ [] n h0 h1 _ hA0 (by simp)).mono ?_
  rintro e w2 ⟨rfl, hW⟩
  obtain ⟨vA, hA1, hO1, hB1, g1, hvA⟩ := hW.two hO0 hB0 g0 hba (by simp [Value.ownBlock])
  have HvA := Lib.hid hvA
  clear hvA hA0 hB0 hO0 hW
  have Hwr := Lib.hid (IntKind.wrap_u16 (n / 4294967296))
  go_wp2_with fail
  refine (word_any b _ [] _ (by omega) (by omega) _ hB1 (by simp)).mono ?_
  rintro e w3 ⟨rfl, hW⟩
  obtain ⟨vB, hB2, hO2, hA2, g2, hvB⟩ := hW.two hO1.symm hA1 g1 hbb (by simp [Value.ownBlock])
  have HvB := Lib.hid hvB; clear hvB hW hO1 hA1 hB1
  go_wp2_with fail
  rw [Hwr.out]
  refine (word_any b _ _ _ (by omega) (by omega) _ hB2 (by simp [be2])).mono ?_
  rintro e w4 ⟨rfl, hW⟩
  obtain ⟨vC, hB3, hO3, hA3, g3, hvC⟩ := hW.two hO2 hA2 g2 hbb HvB.out
  have HvC := Lib.hid hvC; clear hvC hW hO2 hA2 hB2
  go_wp2_with fail
  refine (long_any b _ _ _ (by omega) (by omega) _ hB3 (by simp [be2])).mono ?_
  rintro e w5 ⟨rfl, hW⟩
  obtain ⟨vD, hB4, hO4, hA4, g4, hvD⟩ := hW.two hO3 hA3 g3 hbb HvC.out
  have HvD := Lib.hid hvD; clear hvD hW hO3 hA3 hB3
  have hl : [] ++ be2 (n / 281474976710656).toNat ++ be2 (n / 4294967296 % 65536).toNat ++ be4 (n % 4294967296).toNat = be8 n.toNat := by
    unfold be8
    rw [show be4 (n.toNat / 4294967296) = be2 (n.toNat / 4294967296 / 65536) ++ be2 (n.toNat / 4294967296 % 65536) from rfl]
    rw [show (n / 281474976710656).toNat = n.toNat / 4294967296 / 65536 by omega, show (n / 4294967296 % 65536).toNat = n.toNat / 4294967296 % 65536 by omega, show (n % 4294967296).toNat = n.toNat % 4294967296 by omega]
    rfl
  rw [hl] at hB4
  rw [List.nil_append] at hA4
  clear hl
  have hlen : (be8 n.toNat).length ≤ 8 := Nat.le_of_eq (be8_length _)
  generalize be8 n.toNat = l8 at *
  go_wp2_with fail
  go_cut [49] from 43 to 49 (fun c wx => c = .bool false ∧ Fr (fun _ => False) w5 wx)
  case first =>
    go_region_with (first
      | (go_at_call_of 16 a; refine (bytes_str a vA l8 _ w5 hA4 (by first | exact (Fr.refl _ _).drew | assumption) (by omega)).mono ?_; rintro e wa ⟨va, rfl, fa, ga, ca, da⟩)
      | (go_at_call_of 16 b; refine (bytes_str b vD l8 _ w5 hB4 (by first | exact (Fr.refl _ _).drew | assumption) (by omega)).mono ?_; rintro e wb ⟨vb, rfl, fb, gb, cb, db⟩))
    all_goals (go_wp2_with fail; go_meet; exact ⟨rfl, by assumption⟩)
  case rest =>
    obtain ⟨rfl, hwx⟩ := hcut
    have gx : Fr (fun _ => False) w wc := g4.trans0 hwx
    clear hA4 hB4 hO4 hwx
    go_wp2_with fail
    refine (text_any wc.heap.size _ [] s (by omega) _ (wr_new wc) (by simp)).mono ?_
    rintro e w6 ⟨rfl, hW⟩
    obtain ⟨v6, h6, g6, k6⟩ := hW.fresh ((Fr.refl _ _).alloc _) (Nat.le_refl _) (by simp [Value.ownBlock])
    have K6 := Lib.hid k6; clear k6 hW
    have hcw : w.heap.size ≤ wc.heap.size := gx.size
    generalize wc.heap.size = c at *
    rw [List.nil_append] at h6
    have hls : s.data.toList.length = s.size := rfl
    have hlt : t.data.toList.length = t.size := rfl
    have hl1 := txt_length s.data.toList
    have hl2 := txt_length t.data.toList
    rw [hls] at hl1
    rw [hlt] at hl2
    have hs1 : ∀ rest, textS (txt s.data.toList ++ rest, 0) s.size = (s.data.toList, (rest, 0)) := fun rest => textS_txt _ rest (by omega) _ (by omega)
    have ht1 : textS (txt t.data.toList, 0) 200 = (t.data.toList, ([], 0)) := by
      have := textS_txt t.data.toList [] (by omega) 200 (by omega)
      rwa [List.append_nil] at this
    have Hs1 := Lib.hid hs1
    have Ht1 := Lib.hid ht1
    clear hs1 ht1 hls hlt
    generalize txt s.data.toList = p at *
    generalize hq : txt t.data.toList = q at *
    have Hq := Lib.hid hq; clear hq
    have Hl1 := Lib.hid hl1
    have Hl2 := Lib.hid hl2
    clear hl1 hl2
    go_wp2_with fail
    refine (len_any c v6 p _ h6).mono ?_
    rintro e w' ⟨rfl, rfl⟩
    go_wp2_with fail
    refine (text_any c v6 p t (by omega) _ h6 (by have := Hl1.out; omega)).mono ?_
    rintro e w7 ⟨rfl, hW⟩
    rw [Hq.out] at hW
    obtain ⟨v7, h7, f7, k7⟩ := hW
    have g7 : Fr (fun _ => False) w w' := gx.trans0 g6
    have g8 : Fr (fun _ => False) w w7 := g7.trans f7 (by
      rintro i hi (e | e)
      · omega
      · have := K6.out i e; omega)
    have hlen7 : (p ++ q).length ≤ 300 := by rw [List.length_append]; have := Hl1.out; have := Hl2.out; omega
    clear k7 f7 g7 g6 h6
    go_wp2_with fail
    refine (bytes_any c v7 _ _ h7 (by omega)).mono ?_
    rintro e w8 ⟨v8, rfl, ho8, f8, k8⟩
    have g9 := g8.trans0 f8
    have h8 := h7.fr f8 (fun h => h) (fun _ _ h => h)
    have K8 := Lib.hid k8; clear k8 g8 f8 h7
    go_wp2_with fail
    refine (read_any v8 _ _ ho8.sees (by omega)).mono ?_
    rintro e w9 ⟨d, v9, rfl, hR, f9, hd, k9⟩
    have g10 := g9.trans0 f9
    have h9 := h8.fr f9 (fun h => h) (fun _ _ h => h)
    have hcl := h8.lt.1
    have hdc : d ≠ c := by omega
    have hv7 : ∀ k, v7.ownBlock = some k → k ≠ d := fun k hk => by have := h8.lt.2 k hk; omega
    have hdw : w.heap.size ≤ d := by have := g9.size; omega
    clear g9 f9 h8 ho8
    have K9 := Lib.hid k9; clear k9
    have Hv7 := Lib.hid hv7; clear hv7
    have hE1 : ((p.length : Int) % 2 == 0) = true := by have := Hl1.out; simp; omega
    have hE2 : decide ((s.size : Int) + 2 ≤ (p.length : Int)) = true := by have := Hl1.out; simp; omega
    have hE3 : decide ((p.length : Int) ≤ (s.size : Int) + 3) = true := by have := Hl1.out; simp; omega
    have hpl : p.length ≤ 150 := by have := Hl1.out; omega
    have hql : q.length ≤ 150 := by have := Hl2.out; omega
    go_wp2_with fail
    refine (rtext_any d v9 (p ++ q) 0 s.size _ hR).mono ?_
    rintro e wa ⟨rfl, hr⟩
    rw [Hs1.out q] at hr ⊢
    dsimp only at hr ⊢
    rw [str_of]
    obtain ⟨va, ha, fa, ka⟩ := hr
    have ga := g10.trans fa (by rintro i hi e; omega)
    have hwa := h9.fr fa (fun e => hdc e.symm) (fun k hk e => Hv7.out k hk e)
    clear g10 fa h9 hR
    have Ka := Lib.hid ka; clear ka
    go_wp2_with fail
    refine (left_any d va q 0 _ ha).mono ?_
    rintro e w' ⟨rfl, rfl⟩
    go_wp2_with fail
    refine (len_any c v7 _ _ hwa).mono ?_
    rintro e w' ⟨rfl, rfl⟩
    obtain ⟨m, hm⟩ : ∃ m : Int, m = ((p ++ q).length : Int) := ⟨_, rfl⟩
    have hmq : m = (p.length : Int) + (q.length : Int) := by rw [hm, List.length_append]; omega
    rw [← hm]
    have Hm := Lib.hid hm; clear hm
    have hE4 : ((q.length : Int) == m - (p.length : Int)) = true := by simp; omega
    have hm1 : p.length ≤ m := by omega
    have hm2 : m ≤ 300 := by omega
    have Hmq := Lib.hid hmq; clear hmq
    go_wp2_with fail
    refine (rtext_any d va q 0 200 _ ha).mono ?_
    rintro e wb ⟨rfl, hr⟩
    rw [Ht1.out] at hr ⊢
    dsimp only at hr ⊢
    rw [str_of]
    obtain ⟨vb, hb, fb, kb⟩ := hr
    have gb := ga.trans fb (by rintro i hi e; omega)
    clear fb kb
    go_wp2_with fail
    refine (end_any d vb [] 0 _ hb).mono ?_
    rintro e w' ⟨rfl, rfl⟩
    go_wp2_with fail
    go_ret
    exact ⟨rfl, gb⟩

set_option maxHeartbeats 400000 in
/-- A text that is too long: true at once. -/
theorem joins_long (n : Int) (s t : ByteArray) (hlong : 100 < s.size ∨ 100 < t.size) (w : World) :
    Calls Try.prog 6 #[.int .u64 n, .string s, .string t] w fun e w' => e = .returned (.bool true) ∧ Fr (fun _ => False) w w' := by
  by_cases hs : 100 < s.size
  · have hs' : decide ((100 : Int) < (s.size : Int)) = true := by simp; omega
    clear hlong
    go_enter Try.func6, Try.ntmps6
    go_wp2_with fail
    refine (awake_any _).mono ?_
    rintro e w1 ⟨rfl, f1⟩
    go_wp2_with fail
    go_ret
    exact ⟨rfl, f1⟩
  · have ht : 100 < t.size := by omega
    have hs' : decide ((100 : Int) < (s.size : Int)) = false := by simp; omega
    have ht' : decide ((100 : Int) < (t.size : Int)) = true := by simp; omega
    clear hlong
    go_enter Try.func6, Try.ntmps6
    go_wp2_with fail
    refine (awake_any _).mono ?_
    rintro e w1 ⟨rfl, f1⟩
    go_wp2_with fail
    go_ret
    exact ⟨rfl, f1⟩

theorem joins_all (n : Int) (h0 : 0 ≤ n) (h1 : n ≤ 18446744073709551615) (s t : ByteArray) (w : World) :
    Calls Try.prog 6 #[.int .u64 n, .string s, .string t] w fun e w' => e = .returned (.bool true) ∧ Fr (fun _ => False) w w' := by
  by_cases h : s.size ≤ 100 ∧ t.size ≤ 100
  · exact joins_any n h0 h1 s t h.1 h.2 w
  · exact joins_long n s t (by omega) w

end Go.Proofs.Ytcnflbofohakjaa
