/-
  WireErrors: for every two words and every text the law returns true, and its arguments read as before.
-/
import Derived.Test.YtcnflbofohakjaaRef
import Derived.Deep.RegionWith
namespace Go.Proofs.Ytcnflbofohakjaa
open Go.RowKit

/-- A Reader that was changed alone: what it is now, and that all of it was made since w0. -/
theorem Reads.fresh {b : Nat} {v : Value} {l : List UInt8} {x : Int} {w0 w w' : World} (h : Reads b v l x w w') (hf : Fr (fun _ => False) w0 w) (hb : w0.heap.size ≤ b) (hv : ∀ k, v.ownBlock = some k → w0.heap.size ≤ k) :
    ∃ v', Rd w' b v' l x ∧ Fr (fun _ => False) w0 w' ∧ (∀ k, v'.ownBlock = some k → w0.heap.size ≤ k) := by
  obtain ⟨v', h1, h2, h3⟩ := h
  refine ⟨v', h1, hf.trans h2 (by rintro i hi e; omega), ?_⟩
  intro k hk
  rcases h3 with e | e
  · exact hv k (e ▸ hk)
  · rw [e] at hk; cases hk

theorem within_less (n less : Nat) (hn : n < 65536) : withinS (be2 n, 0) ((n : Int) - 1 - (less : Int)) = (0, ([], 7)) := by
  have h := numS_be2 n hn [] 0
  rw [List.append_nil] at h
  unfold withinS
  rw [h, if_pos (by show (n : Int) - 1 - (less : Int) < (n : Int); omega)]
  rfl

theorem text_short (s : List UInt8) (h : s.length ≤ 50) : textS ((txt s).take ((txt s).length - 1), 0) 100 = ([], ([], 3)) := by
  by_cases h0 : s = []
  · subst h0; decide
  · have hp := List.length_pos_iff.2 h0
    have hl := txt_length s
    have e : (txt s).take ((txt s).length - 1) = be2 s.length ++ (s ++ (if s.length % 2 = 1 then [0] else [])).take (s.length + s.length % 2 - 1) := by
      have e1 : txt s = be2 s.length ++ (s ++ (if s.length % 2 = 1 then [0] else [])) := by unfold txt; rw [List.append_assoc]
      rw [hl, e1, List.take_append, List.take_of_length_le (by rw [be2_length]; omega), be2_length]
      congr 2
      omega
    rw [e]
    have hw := withinS_be2 s.length (by omega) ((s ++ (if s.length % 2 = 1 then [0] else [])).take (s.length + s.length % 2 - 1)) 100 (by omega) 0
    have hn : nextS ((s ++ (if s.length % 2 = 1 then [0] else [])).take (s.length + s.length % 2 - 1), 0) (s.length + s.length % 2) = ([], ([], 3)) := by
      unfold nextS
      rw [if_pos (by simp; omega)]
      rfl
    unfold textS
    rw [hw]
    simp only [hn]
    rfl

theorem odd_zero (c : UInt8) (h : c = 0) : textS ([0, 1, 65, c], 0) 9 = ([65], ([], 0)) := by subst h; decide
theorem odd_other (c : UInt8) (h : c ≠ 0) : textS ([0, 1, 65, c], 0) 9 = ([], ([], 4)) := by
  have hn : numS ([0, 1, 65, c], 0) 2 = (1, ([65, c], 0)) := rfl
  unfold textS withinS
  rw [hn]
  have h2 : nextS ([65, c], 0) (1 + 1 % 2) = ([65, c], ([], 0)) := rfl
  simp [h2, h, failS]

/-- The length of a text's bytes but one, at least 1. -/
theorem max_one (m : Nat) (h : 2 ≤ m) : (if (1 : Int) > (m : Int) - 1 then (1 : Int) else (m : Int) - 1) = ((m - 1 : Nat) : Int) := by
  split <;> omega

theorem sees_odd (w : World) (x : Int) (h0 : 0 ≤ x) (h1 : x ≤ 255) : Sees (w.alloc (.cells #[.int .u8 0, .int .u8 1, .int .u8 65, .int .u8 x] 5)) (.slice (some ⟨w.heap.size, 0, none⟩) 4 4) [0, 1, 65, UInt8.ofNat x.toNat] := by
  refine sees_new (l := [0, 1, 65, UInt8.ofNat x.toNat]) w.heap.size (heap_alloc_new w _) ?_ (by simp)
  intro j hj
  simp at hj
  match j, hj with
  | 0, _ => rfl
  | 1, _ => rfl
  | 2, _ => rfl
  | 3, _ => simp [bv_of x h0 h1]

/-- What the third text answers for: an error unless the last byte is 0. -/
def oddE (c : UInt8) : Int := if c = 0 then 0 else 4
theorem odd_text (c : UInt8) : ∃ t, textS ([0, 1, 65, c], 0) 9 = (t, ([], oddE c)) := by
  by_cases h : c = 0
  · exact ⟨[65], by rw [odd_zero c h, oddE, if_pos h]⟩
  · exact ⟨[], by rw [odd_other c h, oddE, if_neg h]⟩

set_option maxRecDepth 100000 in
set_option maxHeartbeats 2000000 in
theorem errs_any (n less : Int) (h0 : 0 ≤ n) (h1 : n ≤ 65535) (k0 : 0 ≤ less) (k1 : less ≤ 65535) (s : ByteArray) (hs : s.size ≤ 50) (w : World) :
    Calls Try.prog 5 #[.int .u16 n, .int .u16 less, .string s] w fun e w' => e = .returned (.bool true) ∧ Fr (fun _ => False) w w' := by
  have hs' : decide ((50 : Int) < (s.size : Int)) = false := by simp; omega
  go_enter Try.func5, Try.ntmps5
  go_wp2_with fail
  refine (awake_any _).mono ?_
  rintro e w1 ⟨rfl, f1⟩
  go_wp2_with fail
  refine (word_any w1.heap.size _ [] n h0 h1 _ (wr_new w1) (by simp)).mono ?_
  rintro e w2 ⟨rfl, hW⟩
  obtain ⟨v2, r2, f2, q2⟩ := hW.fresh ((Fr.refl _ _).alloc _) (Nat.le_refl _) (by simp [Value.ownBlock])
  have F2 := f1.trans0 f2
  clear hW f2 q2 f1
  generalize w1.heap.size = a at *
  go_wp2_with fail
  refine (bytes_any a v2 _ _ r2 (by simp [be2])).mono ?_
  rintro e w3 ⟨v3, rfl, o3, f3, q3⟩
  have F3 := F2.trans0 f3
  clear q3 f3 F2 r2
  go_wp2_with fail
  refine (read_any v3 _ _ o3.sees (by simp [be2])).mono ?_
  rintro e w4 ⟨b, v4, rfl, r4, f4, hb, q4⟩
  have F4 := F3.trans0 f4
  have hwb : w.heap.size ≤ b := Nat.le_trans F3.size hb
  have Q4 := Lib.hid q4
  clear q4 f4 o3
  go_wp2_with fail
  refine (within_any b v4 _ 0 _ _ r4).mono ?_
  rintro e w5 ⟨rfl, hR⟩
  have hwi := within_less n.toNat less.toNat (by omega)
  rw [show ((n.toNat : Nat) : Int) = n by omega, show ((less.toNat : Nat) : Int) = less by omega] at hwi
  rw [List.nil_append, hwi] at hR ⊢
  dsimp only at hR ⊢
  obtain ⟨v5, r5, f5, q5⟩ := hR.fresh F4 hwb (fun k hk => Nat.le_trans F3.size (Q4.out k hk))
  clear hR r4 Q4 F3 F4 hwi
  have Q5 := Lib.hid q5; clear q5
  go_wp2_with fail
  refine (read_any _ _ _ (sees_odd w5 (less % 256) (by omega) (by omega)) (by simp)).mono ?_
  rintro e w6 ⟨c, v6, rfl, r6, f6, hc, q6⟩
  have F6 : Fr (fun _ => False) w5 w6 := ((Fr.refl _ _).alloc _).trans0 f6
  rw [World.size_alloc] at hc q6
  have Q6 := Lib.hid q6
  clear q6 f6
  obtain ⟨tx, htx⟩ := odd_text (UInt8.ofNat (less % 256).toNat)
  have Htx := Lib.hid htx; clear htx
  go_wp2_with fail
  refine (rtext_any c v6 _ 0 9 _ r6).mono ?_
  rintro e w7 ⟨rfl, hR⟩
  rw [Htx.out] at hR ⊢
  dsimp only at hR ⊢
  obtain ⟨v7, r7, f7, q7⟩ := hR.fresh F6 (by omega) (fun k hk => by have := Q6.out k hk; omega)
  clear hR r6 Q6 F6 Htx
  have Q7 := Lib.hid q7; clear q7
  go_wp2_with fail
  refine (text_any w7.heap.size _ [] s (by omega) _ (wr_new w7) (by simp)).mono ?_
  rintro e w8 ⟨rfl, hW⟩
  obtain ⟨v8, r8, f8, q8⟩ := hW.fresh ((Fr.refl _ _).alloc _) (Nat.le_refl _) (by simp [Value.ownBlock])
  rw [List.nil_append] at r8
  clear hW q8
  have hls : s.data.toList.length = s.size := rfl
  have hlt := txt_length s.data.toList
  have hts := text_short s.data.toList (by omega)
  rw [hls] at hlt
  clear hls
  generalize txt s.data.toList = p at *
  have Hts := Lib.hid hts; clear hts
  have hp2 : 2 ≤ p.length := by omega
  have hp3 : p.length ≤ 100 := by omega
  have Hlt := Lib.hid hlt; clear hlt
  obtain ⟨d, hd⟩ : ∃ d, d = w7.heap.size := ⟨_, rfl⟩
  rw [← hd] at r8 ⊢
  have Hd := Lib.hid hd; clear hd
  go_wp2_with fail
  refine (bytes_any d v8 _ _ r8 (by omega)).mono ?_
  rintro e w9 ⟨v9, rfl, o9, f9, q9⟩
  have F9 : Fr (fun _ => False) w7 w9 := f8.trans0 f9
  have r9 := r8.fr f9 (fun h => h) (fun _ _ h => h)
  clear q9 f9 f8 r8
  obtain ⟨a9, c9, rfl⟩ := slice_of_own o9
  have hc9 := o9.sees.cap.2
  go_wp2_with fail
  refine (len_any d v8 p _ r9).mono ?_
  rintro e w' ⟨rfl, rfl⟩
  have hmx := max_one p.length hp2
  go_wp2_with fail
  refine (read_any _ _ _ (o9.sees.take (by omega)) (by simp; omega)).mono ?_
  rintro e w10 ⟨g, v10, rfl, r10, f10, hg, q10⟩
  have F10 := F9.trans0 f10
  have h79 := F9.size
  have Q10 := Lib.hid q10
  clear q10 f10 F9 r9 o9 hmx hc9
  go_wp2_with fail
  refine (rtext_any g v10 _ 0 100 _ r10).mono ?_
  rintro e w11 ⟨rfl, hR⟩
  rw [Hts.out] at hR ⊢
  dsimp only at hR ⊢
  obtain ⟨v11, r11, f11, q11⟩ := hR.fresh F10 (by omega) (fun k hk => by have := Q10.out k hk; omega)
  clear hR r10 Q10 F10 Hts
  have Q11 := Lib.hid q11; clear q11
  have hby := fun (w : World) => run_bytes_of_string (P := Try.prog) w 9 28 5 s Try.underlying9 Try.underlying28 Try.underlying5
  have hsy := sees_bytes w11 s 5
  have hfy : Fr (fun _ => False) w11 (w11.drew.alloc (.cells (bytesRow s (grownCap w11 s.size 0 5)) 5 ((bytesRow s (grownCap w11 s.size 0 5)).size, (bytesRow s (grownCap w11 s.size 0 5)).size + 1))) := (Fr.refl _ _).drew.alloc _
  go_wp2_with fail
  refine (read_any _ s.data.toList _ (by exact hsy) (by show s.size ≤ _; omega)).mono ?_
  rintro e w12 ⟨t, v12, rfl, r12, f12, ht, q12⟩
  have F12 : Fr (fun _ => False) w11 w12 := hfy.trans0 f12
  have hty : w11.heap.size ≤ t := Nat.le_trans hfy.size ht
  have Q12 : Hid (∀ k, v12.ownBlock = some k → w11.heap.size ≤ k) := Lib.hid (fun k hk => Nat.le_trans hfy.size (q12 k hk))
  clear q12 f12 hfy hsy hby ht
  go_wp2_with fail
  refine (fail_any t v12 _ 0 5 _ r12).mono ?_
  rintro e w13 ⟨rfl, hR⟩
  rw [show failS (s.data.toList, 0) 5 = ([], 5) from rfl] at hR
  dsimp only at hR
  obtain ⟨v13, r13, f13, q13⟩ := hR.fresh F12 hty Q12.out
  have Q13 := Lib.hid q13
  clear hR r12 Q12 F12 q13
  go_wp2_with fail
  refine (fail_any t v13 _ 5 4 _ r13).mono ?_
  rintro e w14 ⟨rfl, hR⟩
  rw [show failS ([], 5) 4 = ([], 5) from rfl] at hR
  dsimp only at hR
  obtain ⟨v14, r14, f14, q14⟩ := hR.fresh f13 hty Q13.out
  clear hR r13 Q13 f13 q14
  have rg := r11.fr f14 (fun h => h) (fun _ _ h => h)
  have rc := (r7.fr f11 (fun h => h) (fun _ _ h => h)).fr f14 (fun h => h) (fun _ _ h => h)
  have rb := ((r5.fr f7 (fun h => h) (fun _ _ h => h)).fr f11 (fun h => h) (fun _ _ h => h)).fr f14 (fun h => h) (fun _ _ h => h)
  have F := ((f5.trans0 f7).trans0 f11).trans0 f14
  have hbc : b ≠ c := by have := r5.lt; omega
  have hcg : c ≠ g := by have := r7.lt; omega
  have hgt : g ≠ t := by have := r11.lt; omega
  have hEc : (UInt8.ofNat (less % 256).toNat = 0 ∧ (less % 256 != 0) = false ∨ ¬ UInt8.ofNat (less % 256).toNat = 0 ∧ (less % 256 != 0) = true) := by
    have e : (UInt8.ofNat (less % 256).toNat).toNat = (less % 256).toNat := by simp; omega
    by_cases hz : less % 256 = 0
    · left; rw [hz]; exact ⟨rfl, rfl⟩
    · right
      refine ⟨fun h => hz ?_, by simpa using hz⟩
      rw [h] at e
      have : (0 : UInt8).toNat = 0 := rfl
      omega
  clear r5 r7 r11 f5 f7 f11 f14 Q5 Q7 Q11 h79 hc hg hb hty hp2 hp3 Hlt Hd hwb
  rcases hEc with ⟨h, hz⟩ | ⟨h, hz⟩
  · have rc' : Rd w14 c v7 [] 0 := by rw [oddE, if_pos h] at rc; exact rc
    clear rc h
    go_wp2_with (first
      | (go_at_call 8; refine (word_nil _ _).mono ?_; rintro e w' ⟨rfl, rfl⟩)
      | (go_at_call 12; refine (quad_nil _ (by omega) (by omega) _).mono ?_; rintro e w' ⟨rfl, rfl⟩)
      | (go_at_call 14; refine (text_nil _ _).mono ?_; rintro e w' ⟨rfl, rfl⟩)
      | (go_at_call 17; refine (len_nil _).mono ?_; rintro e w' ⟨rfl, rfl⟩)
      | (go_at_call 16; refine (bytes_nil _).mono ?_; rintro e w' ⟨rfl, rfl⟩)
      | (go_at_call 27; refine (rfail_nil _ _).mono ?_; rintro e w' ⟨rfl, rfl⟩)
      | (go_at_call_of 25 b; refine (err_any b v5 [] 7 _ rb).mono ?_; rintro e w' ⟨rfl, rfl⟩)
      | (go_at_call_of 25 c; refine (err_any c v7 [] 0 _ rc').mono ?_; rintro e w' ⟨rfl, rfl⟩)
      | (go_at_call_of 25 g; refine (err_any g v11 [] 3 _ rg).mono ?_; rintro e w' ⟨rfl, rfl⟩)
      | (go_at_call_of 25 t; refine (err_any t v14 [] 5 _ r14).mono ?_; rintro e w' ⟨rfl, rfl⟩)
      | (go_at_call_of 24 t; refine (end_any t v14 [] 5 _ r14).mono ?_; rintro e w' ⟨rfl, rfl⟩)
      | (go_at_call_of 23 t; refine (left_any t v14 [] 5 _ r14).mono ?_; rintro e w' ⟨rfl, rfl⟩)
      | (go_at_call 25; refine (err_nil _).mono ?_; rintro e w' ⟨rfl, rfl⟩)
      | (go_at_call 24; refine (end_nil _).mono ?_; rintro e w' ⟨rfl, rfl⟩)
      | (go_at_call 23; refine (left_nil _).mono ?_; rintro e w' ⟨rfl, rfl⟩)
      | (go_at_call 19; refine (rword_nil _).mono ?_; rintro e w' ⟨rfl, rfl⟩)
      | (go_at_call 21; refine (rquad_nil _).mono ?_; rintro e w' ⟨rfl, rfl⟩)
      | (go_at_call 22; refine (rtext_nil _ (by omega) _).mono ?_; rintro e w' ⟨rfl, rfl⟩))
    go_ret
    exact ⟨rfl, F⟩
  · have rc' : Rd w14 c v7 [] 4 := by rw [oddE, if_neg h] at rc; exact rc
    clear rc h
    go_wp2_with (first
      | (go_at_call 8; refine (word_nil _ _).mono ?_; rintro e w' ⟨rfl, rfl⟩)
      | (go_at_call 12; refine (quad_nil _ (by omega) (by omega) _).mono ?_; rintro e w' ⟨rfl, rfl⟩)
      | (go_at_call 14; refine (text_nil _ _).mono ?_; rintro e w' ⟨rfl, rfl⟩)
      | (go_at_call 17; refine (len_nil _).mono ?_; rintro e w' ⟨rfl, rfl⟩)
      | (go_at_call 16; refine (bytes_nil _).mono ?_; rintro e w' ⟨rfl, rfl⟩)
      | (go_at_call 27; refine (rfail_nil _ _).mono ?_; rintro e w' ⟨rfl, rfl⟩)
      | (go_at_call_of 25 b; refine (err_any b v5 [] 7 _ rb).mono ?_; rintro e w' ⟨rfl, rfl⟩)
      | (go_at_call_of 25 c; refine (err_any c v7 [] 4 _ rc').mono ?_; rintro e w' ⟨rfl, rfl⟩)
      | (go_at_call_of 25 g; refine (err_any g v11 [] 3 _ rg).mono ?_; rintro e w' ⟨rfl, rfl⟩)
      | (go_at_call_of 25 t; refine (err_any t v14 [] 5 _ r14).mono ?_; rintro e w' ⟨rfl, rfl⟩)
      | (go_at_call_of 24 t; refine (end_any t v14 [] 5 _ r14).mono ?_; rintro e w' ⟨rfl, rfl⟩)
      | (go_at_call_of 23 t; refine (left_any t v14 [] 5 _ r14).mono ?_; rintro e w' ⟨rfl, rfl⟩)
      | (go_at_call 25; refine (err_nil _).mono ?_; rintro e w' ⟨rfl, rfl⟩)
      | (go_at_call 24; refine (end_nil _).mono ?_; rintro e w' ⟨rfl, rfl⟩)
      | (go_at_call 23; refine (left_nil _).mono ?_; rintro e w' ⟨rfl, rfl⟩)
      | (go_at_call 19; refine (rword_nil _).mono ?_; rintro e w' ⟨rfl, rfl⟩)
      | (go_at_call 21; refine (rquad_nil _).mono ?_; rintro e w' ⟨rfl, rfl⟩)
      | (go_at_call 22; refine (rtext_nil _ (by omega) _).mono ?_; rintro e w' ⟨rfl, rfl⟩))
    go_ret
    exact ⟨rfl, F⟩

set_option maxHeartbeats 400000 in
theorem errs_long (n less : Int) (s : ByteArray) (hs : 50 < s.size) (w : World) :
    Calls Try.prog 5 #[.int .u16 n, .int .u16 less, .string s] w fun e w' => e = .returned (.bool true) ∧ Fr (fun _ => False) w w' := by
  have hs' : decide ((50 : Int) < (s.size : Int)) = true := by simp; omega
  go_enter Try.func5, Try.ntmps5
  go_wp2_with fail
  refine (awake_any _).mono ?_
  rintro e w1 ⟨rfl, f1⟩
  go_wp2_with fail
  go_ret
  exact ⟨rfl, f1⟩

theorem errs_all (n : Int) (h0 : 0 ≤ n) (h1 : n ≤ 65535) (less : Int) (k0 : 0 ≤ less) (k1 : less ≤ 65535) (s : ByteArray) (w : World) :
    Calls Try.prog 5 #[.int .u16 n, .int .u16 less, .string s] w fun e w' => e = .returned (.bool true) ∧ Fr (fun _ => False) w w' := by
  by_cases h : s.size ≤ 50
  · exact errs_any n less h0 h1 k0 k1 s h w
  · exact errs_long n less s (by omega) w

end Go.Proofs.Ytcnflbofohakjaa
