/-
  package lex: the token that begins at an offset, or why there is none.
-/
import Derived.Test.YtdhjelilmccmbaaLexHead
import Derived.Laws.ResultCell
namespace Go.Proofs.Ytdhjelilmccmbaa
open Go.RowKit

theorem results_cell_tmp_row {P : Program} {fn : Func} {p u : Tmp} {ty : TypeId} (h : fn.results = #[.cell p ty, .tmp u]) (tmps : Array Value) (w : World) (g : Nat) (t : TypeId) (cs : Array Value) (fr : Nat × Nat) (d : TypeDesc)
    (hp : tmps.getD p undef = .pointer (some ⟨g, 0, none⟩)) (hg : w.heap[g]? = some (.cells cs t fr))
    (hu : P.underlying ty = some d) (hd : (match d with | .struct _ | .array _ _ => true | _ => false) = true) (hi : (P.info? ty).map (·.size) = some cs.size) :
    (results fn tmps).run P w = .ok (.tuple #[.agg cs, tmps.getD u undef]) w := by
  rw [results_cell_tmp h]
  have hp' : tmps[p]?.getD undef = .pointer (some ⟨g, 0, none⟩) := by simpa using hp
  simp [hp', asAddr, run_loadVar_row w g t ty cs fr d hg hu hd hi, Result.andThen]

theorem extract_rest (s : ByteArray) (a : Nat) : (s.extract a s.size).data.toList = s.data.toList.drop a := by
  rw [Lib.extract_data]
  exact List.take_of_length_le (by rw [List.length_drop]; exact Nat.le_refl _)

theorem extract_extract_at (s : ByteArray) (at_ n : Nat) : (s.extract at_ s.size).extract 0 n = s.extract at_ (at_ + n) := by
  rw [Lib.extract_eq (s.extract at_ s.size) 0 n, extract_rest, Lib.extract_eq s]
  simp

theorem extract_size (s : ByteArray) (a b : Nat) (h : a ≤ b) (hb : b ≤ s.size) : (s.extract a b).size = b - a := by
  rw [ByteArray.size_extract]; omega

theorem cnt_at (p : UInt8 → Bool) (s : ByteArray) (at_ : Nat) (h : at_ ≤ s.size) : at_ + cnt p (s.data.toList.drop at_) ≤ s.size := by
  have := cnt_le p (s.data.toList.drop at_)
  have hl : s.data.toList.length = s.size := rfl
  rw [List.length_drop, hl] at this
  omega

section
variable (s : ByteArray) (at_ : Nat) (hat : at_ ≤ s.size) (hs : s.size ≤ 4000) (w : World)
include hat hs

theorem head_nam_at : Calls Try.prog 16 #[.string (s.extract at_ s.size), .func (.func 22) #[] #[]] w fun e w' => e = .returned (.string (s.extract at_ (at_ + cnt isNam (s.data.toList.drop at_)))) ∧ w = w' := by
  have hz : (s.extract at_ s.size).size ≤ maxLen := by rw [extract_size _ _ _ hat (Nat.le_refl _)]; unfold maxLen; omega
  have h := head_nam (s.extract at_ s.size) w hz
  rwa [extract_rest, extract_extract_at] at h

theorem head_dig_at : Calls Try.prog 16 #[.string (s.extract at_ s.size), .func (.func 14) #[] #[]] w fun e w' => e = .returned (.string (s.extract at_ (at_ + cnt isDig (s.data.toList.drop at_)))) ∧ w = w' := by
  have hz : (s.extract at_ s.size).size ≤ maxLen := by rw [extract_size _ _ _ hat (Nat.le_refl _)]; unfold maxLen; omega
  have h := head_dig (s.extract at_ s.size) w hz
  rwa [extract_rest, extract_extract_at] at h

theorem head_line_at : Calls Try.prog 16 #[.string (s.extract at_ s.size), .func (.func 17) #[] #[]] w fun e w' => e = .returned (.string (s.extract at_ (at_ + cnt isLine (s.data.toList.drop at_)))) ∧ w = w' := by
  have hz : (s.extract at_ s.size).size ≤ maxLen := by rw [extract_size _ _ _ hat (Nat.le_refl _)]; unfold maxLen; omega
  have h := head_line (s.extract at_ s.size) w hz
  rwa [extract_rest, extract_extract_at] at h
end

/-- A token as lex has it: its cells. -/
def tokv (k a : Nat) (s : ByteArray) : Value := .agg #[.int .u8 k, .int .i64 a, .string s]

theorem tok_zero : (Value.agg #[.int .u8 0, .int .i64 0, .string ⟨#[]⟩]) = tokv 0 0 ⟨#[]⟩ := rfl

section
variable (s : ByteArray) (at_ : Nat) (hlt : at_ < s.size) (hs : s.size ≤ 4000) (w : World)
include hs

set_option maxHeartbeats 1000000 in
theorem token_name (h1 : isLet (s[at_]'hlt) = true) : Calls Try.prog 18 #[.string s, .int .i64 at_] w fun e w' => e = .returned (.tuple #[tokv 1 at_ (s.extract at_ (at_ + cnt isNam (s.data.toList.drop at_))), .int .i64 0]) ∧ Fr (fun _ => False) w w' := by
  obtain ⟨c, hc⟩ : ∃ c, c = s[at_] := ⟨_, rfl⟩
  rw [← hc] at h1
  have Hc := Lib.hid hc
  have H1 := Lib.hid h1
  clear hc h1
  go_enter Try.func18, Try.ntmps18
  go_wp2_with fail
  rw [← Hc.out]
  refine (letter_any _ _).mono ?_
  rintro e w' ⟨rfl, rfl⟩
  rw [H1.out]
  go_wp2_with fail
  refine (head_nam_at s at_ (by omega) hs _).mono ?_
  rintro e w' ⟨rfl, rfl⟩
  go_wp2
  refine bodyPost_ret (results_cell_tmp_row rfl _ _ w.heap.size 37 _ _ _ rfl (heap_alloc_new _ _) Try.underlying37 rfl (by kernel_rfl)) rfl ?_
  exact ⟨rfl, (Fr.refl _ _).alloc _⟩

set_option maxHeartbeats 2000000 in
theorem token_num (h0 : isLet (s[at_]'hlt) = false) (h1 : isDig (s[at_]'hlt) = true) (r : Value)
    (hr : r = match numStep (s[at_]'hlt) (cnt isDig (s.data.toList.drop at_)) with
      | .tok _ n => .tuple #[tokv 2 at_ (s.extract at_ (at_ + n)), .int .i64 0]
      | _ => .tuple #[tokv 0 0 ⟨#[]⟩, .int .i64 22]) :
    Calls Try.prog 18 #[.string s, .int .i64 at_] w fun e w' => e = .returned r ∧ Fr (fun _ => False) w w' := by
  obtain ⟨c, hc⟩ : ∃ c, c = s[at_] := ⟨_, rfl⟩
  rw [← hc] at h0 h1 hr
  have Hc := Lib.hid hc
  have H0 := Lib.hid h0
  have H1 := Lib.hid h1
  have hle := cnt_at isDig s at_ (by omega)
  have hsz := extract_size s at_ (at_ + cnt isDig (s.data.toList.drop at_)) (by omega) hle
  obtain ⟨X, hX⟩ : ∃ X, X = s.extract at_ (at_ + cnt isDig (s.data.toList.drop at_)) := ⟨_, rfl⟩
  rw [← hX, show at_ + cnt isDig (s.data.toList.drop at_) - at_ = cnt isDig (s.data.toList.drop at_) by omega] at hsz
  have HX := Lib.hid hX
  rw [← hsz] at hr hle
  have HN := Lib.hid hsz
  have hxx : X.size ≤ 4000 := by omega
  clear hc h0 h1 hX hsz
  have hc0 : (c.toNat : Int) ≤ 255 := by have := c.toNat_lt; omega
  by_cases a1 : 10 < X.size
  · have hr' : r = .tuple #[tokv 0 0 ⟨#[]⟩, .int .i64 22] := by rw [hr, numStep, if_pos (.inl a1)]
    have HR := Lib.hid hr'
    clear hr hr'
    go_enter Try.func18, Try.ntmps18
    go_wp2_with fail
    rw [← Hc.out]
    refine (letter_any _ _).mono ?_
    rintro e w' ⟨rfl, rfl⟩
    rw [H0.out]
    go_wp2_with fail
    refine (digit_any _ _).mono ?_
    rintro e w' ⟨rfl, rfl⟩
    rw [H1.out]
    go_wp2_with fail
    refine (head_dig_at s at_ (by omega) hs _).mono ?_
    rintro e w' ⟨rfl, rfl⟩
    rw [← HX.out]
    go_wp2
    refine bodyPost_ret (results_cell_tmp_row rfl _ _ w.heap.size 37 _ _ _ rfl (heap_alloc_new _ _) Try.underlying37 rfl (by kernel_rfl)) rfl ?_
    exact ⟨by rw [HR.out]; rfl, (Fr.refl _ _).alloc _⟩
  · by_cases a2 : 1 < X.size
    · by_cases a3 : (c.toNat : Int) = 48
      · have hr' : r = .tuple #[tokv 0 0 ⟨#[]⟩, .int .i64 22] := by rw [hr, numStep, if_pos (.inr ⟨a2, a3⟩)]
        have HR := Lib.hid hr'
        have A3 := Lib.hid a3
        clear hr hr' a3
        go_enter Try.func18, Try.ntmps18
        go_wp2_with fail
        rw [← Hc.out]
        refine (letter_any _ _).mono ?_
        rintro e w' ⟨rfl, rfl⟩
        rw [H0.out]
        go_wp2_with fail
        refine (digit_any _ _).mono ?_
        rintro e w' ⟨rfl, rfl⟩
        rw [H1.out]
        go_wp2_with fail
        refine (head_dig_at s at_ (by omega) hs _).mono ?_
        rintro e w' ⟨rfl, rfl⟩
        rw [← HX.out]
        have a3 := A3.out
        go_wp2
        refine bodyPost_ret (results_cell_tmp_row rfl _ _ w.heap.size 37 _ _ _ rfl (heap_alloc_new _ _) Try.underlying37 rfl (by kernel_rfl)) rfl ?_
        exact ⟨by rw [HR.out]; rfl, (Fr.refl _ _).alloc _⟩
      · have hr' : r = .tuple #[tokv 2 at_ X, .int .i64 0] := by
          rw [hr, numStep, if_neg (by omega)]
          show Value.tuple #[tokv 2 at_ (s.extract at_ (at_ + X.size)), .int .i64 0] = _
          rw [HN.out, ← HX.out]
        have HR := Lib.hid hr'
        clear hr hr'
        have b1 : decide ((10 : Int) < (X.size : Int)) = false := by simp; omega
        have b3 : ((c.toNat : Int) == 48) = false := by simpa using a3
        go_enter Try.func18, Try.ntmps18
        go_wp2_with fail
        rw [← Hc.out]
        refine (letter_any _ _).mono ?_
        rintro e w' ⟨rfl, rfl⟩
        rw [H0.out]
        go_wp2_with fail
        refine (digit_any _ _).mono ?_
        rintro e w' ⟨rfl, rfl⟩
        rw [H1.out]
        go_wp2_with fail
        refine (head_dig_at s at_ (by omega) hs _).mono ?_
        rintro e w' ⟨rfl, rfl⟩
        rw [← HX.out]
        go_wp2
        refine bodyPost_ret (results_cell_tmp_row rfl _ _ w.heap.size 37 _ _ _ rfl (heap_alloc_new _ _) Try.underlying37 rfl (by kernel_rfl)) rfl ?_
        exact ⟨by rw [HR.out]; rfl, (Fr.refl _ _).alloc _⟩
    · have hr' : r = .tuple #[tokv 2 at_ X, .int .i64 0] := by
          rw [hr, numStep, if_neg (by omega)]
          show Value.tuple #[tokv 2 at_ (s.extract at_ (at_ + X.size)), .int .i64 0] = _
          rw [HN.out, ← HX.out]
      have HR := Lib.hid hr'
      clear hr hr'
      have b1 : decide ((10 : Int) < (X.size : Int)) = false := by simp; omega
      go_enter Try.func18, Try.ntmps18
      go_wp2_with fail
      rw [← Hc.out]
      refine (letter_any _ _).mono ?_
      rintro e w' ⟨rfl, rfl⟩
      rw [H0.out]
      go_wp2_with fail
      refine (digit_any _ _).mono ?_
      rintro e w' ⟨rfl, rfl⟩
      rw [H1.out]
      go_wp2_with fail
      refine (head_dig_at s at_ (by omega) hs _).mono ?_
      rintro e w' ⟨rfl, rfl⟩
      rw [← HX.out]
      go_wp2
      refine bodyPost_ret (results_cell_tmp_row rfl _ _ w.heap.size 37 _ _ _ rfl (heap_alloc_new _ _) Try.underlying37 rfl (by kernel_rfl)) rfl ?_
      exact ⟨by rw [HR.out]; rfl, (Fr.refl _ _).alloc _⟩

set_option maxHeartbeats 1000000 in
theorem token_sign (h0 : isLet (s[at_]'hlt) = false) (h1 : isDig (s[at_]'hlt) = false) (h2 : isSign (s[at_]'hlt) = true) :
    Calls Try.prog 18 #[.string s, .int .i64 at_] w fun e w' => e = .returned (.tuple #[tokv 3 at_ (s.extract at_ (at_ + 1)), .int .i64 0]) ∧ Fr (fun _ => False) w w' := by
  obtain ⟨c, hc⟩ : ∃ c, c = s[at_] := ⟨_, rfl⟩
  rw [← hc] at h0 h1 h2
  have h3 := (indexByte_mem [123, 125, 40, 41, 91, 93, 61, 58, 59, 44] c).2 h2
  have Hc := Lib.hid hc
  have H0 := Lib.hid h0
  have H1 := Lib.hid h1
  clear hc h0 h1 h2
  go_enter Try.func18, Try.ntmps18
  go_wp2_with fail
  rw [← Hc.out]
  refine (letter_any _ _).mono ?_
  rintro e w' ⟨rfl, rfl⟩
  rw [H0.out]
  go_wp2_with fail
  refine (digit_any _ _).mono ?_
  rintro e w' ⟨rfl, rfl⟩
  rw [H1.out]
  go_wp2_with fail
  refine (index_any _ _ _).mono ?_
  rintro e w' ⟨rfl, rfl⟩
  dsimp only
  generalize Lib.indexByte [123, 125, 40, 41, 91, 93, 61, 58, 59, 44] c = z at *
  go_wp2
  refine bodyPost_ret (results_cell_tmp_row rfl _ _ w.heap.size 37 _ _ _ rfl (heap_alloc_new _ _) Try.underlying37 rfl (by kernel_rfl)) rfl ?_
  exact ⟨rfl, (Fr.refl _ _).alloc _⟩

omit hs in
set_option maxHeartbeats 1000000 in
theorem token_none (h0 : isLet (s[at_]'hlt) = false) (h1 : isDig (s[at_]'hlt) = false) (h2 : isSign (s[at_]'hlt) = false) :
    Calls Try.prog 18 #[.string s, .int .i64 at_] w fun e w' => e = .returned (.tuple #[tokv 0 0 ⟨#[]⟩, .int .i64 13]) ∧ Fr (fun _ => False) w w' := by
  obtain ⟨c, hc⟩ : ∃ c, c = s[at_] := ⟨_, rfl⟩
  rw [← hc] at h0 h1 h2
  have h3 : ¬ (0 ≤ Lib.indexByte [123, 125, 40, 41, 91, 93, 61, 58, 59, 44] c) := fun h => by
    have := (indexByte_mem [123, 125, 40, 41, 91, 93, 61, 58, 59, 44] c).1 h
    unfold isSign at h2
    rw [this] at h2
    cases h2
  have Hc := Lib.hid hc
  have H0 := Lib.hid h0
  have H1 := Lib.hid h1
  clear hc h0 h1 h2
  go_enter Try.func18, Try.ntmps18
  go_wp2_with fail
  rw [← Hc.out]
  refine (letter_any _ _).mono ?_
  rintro e w' ⟨rfl, rfl⟩
  rw [H0.out]
  go_wp2_with fail
  refine (digit_any _ _).mono ?_
  rintro e w' ⟨rfl, rfl⟩
  rw [H1.out]
  go_wp2_with fail
  refine (index_any _ _ _).mono ?_
  rintro e w' ⟨rfl, rfl⟩
  dsimp only
  generalize Lib.indexByte [123, 125, 40, 41, 91, 93, 61, 58, 59, 44] c = z at *
  go_wp2
  refine bodyPost_ret (results_cell_tmp_row rfl _ _ w.heap.size 37 _ _ _ rfl (heap_alloc_new _ _) Try.underlying37 rfl (by kernel_rfl)) rfl ?_
  exact ⟨rfl, (Fr.refl _ _).alloc _⟩
end
end Go.Proofs.Ytdhjelilmccmbaa
