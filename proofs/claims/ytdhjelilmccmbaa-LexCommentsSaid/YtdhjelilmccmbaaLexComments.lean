/-
  LexComments: for every two slices of numbers and every text the law returns true, and its arguments read as before.
-/
import Derived.Test.YtdhjelilmccmbaaLexJoins
namespace Go.Proofs.Ytdhjelilmccmbaa
open Go.RowKit

/-- Two answers that differ by places alone. -/
def Alike : Res → Res → Prop
  | .ok ts, .ok us => ts.length = us.length ∧ ∀ (i : Nat) (t u : Tok), ts[i]? = some t → us[i]? = some u → t.kind = u.kind ∧ t.text = u.text
  | .err _ e, .err _ f => e = f
  | _, _ => False

theorem alike_then (r s : Res) (d e : Nat) : Alike (r.andThen (s.shift d)) (r.andThen (s.shift e)) := by
  cases r with
  | err p er => exact rfl
  | ok ts =>
    cases s with
    | err p er => exact rfl
    | ok us =>
      refine ⟨by simp, ?_⟩
      intro i t u ht hu
      simp only [List.getElem?_append, List.getElem?_map] at ht hu
      split at ht
      · rw [if_pos (by assumption)] at hu
        rw [ht] at hu
        cases hu
        exact ⟨rfl, rfl⟩
      · rw [if_neg (by assumption)] at hu
        cases hx : us[i - (ts.take (ts.length - 1)).length]? with
        | none => rw [hx] at ht; simp at ht
        | some x =>
          rw [hx] at ht hu
          simp only [Option.map_some, Option.some.injEq] at ht hu
          subst ht
          subst hu
          exact ⟨rfl, rfl⟩

theorem cnt_note (nt : List UInt8) (h : ∀ c ∈ nt, isLine c = true) (l : List UInt8) : cnt isLine (nt ++ 10 :: l) = nt.length := by
  induction nt with
  | nil => rfl
  | cons c nt ih =>
    rw [List.cons_append]
    unfold cnt
    rw [if_pos (h c (by simp)), ih fun d hd => h d (by simp [hd])]
    rfl

/-- A comment ahead of a text. -/
theorem lexA_note (a : Nat) (nt : List UInt8) (h : ∀ c ∈ nt, isLine c = true) (l : List UInt8) : lexA a (35 :: (nt ++ 10 :: l)) = lexA (a + nt.length + 2) l := by
  have h1 : step 35 (nt ++ 10 :: l) = .skip (nt.length + 1) := by
    rw [step_hash 35 _ (by decide) (by decide)]
    unfold cnt
    rw [if_pos (by decide), cnt_note nt h]
  have h2 : step 10 l = .skip 1 := step_sep 10 l (by decide)
  rw [lexA_cons, h1]
  simp only
  rw [List.drop_succ_cons, List.drop_left, lexA_cons, h2]
  simp only [List.drop_succ_cons, List.drop_zero]
  congr 1

theorem alike_note (x y nt : ByteArray) (h : ∀ c ∈ nt.data.toList, isLine c = true) :
    Alike (lexA 0 ((x ++ (⟨#[10]⟩ : ByteArray)) ++ y).data.toList) (lexA 0 ((x ++ (⟨#[10]⟩ : ByteArray)) ++ (⟨#[35]⟩ : ByteArray) ++ nt ++ (⟨#[10]⟩ : ByteArray) ++ y).data.toList) := by
  have e : ((x ++ (⟨#[10]⟩ : ByteArray)) ++ (⟨#[35]⟩ : ByteArray) ++ nt ++ (⟨#[10]⟩ : ByteArray) ++ y).data.toList = (x.data.toList ++ [10]) ++ (35 :: (nt.data.toList ++ 10 :: y.data.toList)) := by simp [ByteArray.data_append]
  have e2 : (x ++ (⟨#[10]⟩ : ByteArray)).data.toList = x.data.toList ++ [10] := by simp [ByteArray.data_append]
  rw [lexA_two, e, lexA_append _ (x.data.toList ++ [10]) _ (Nat.le_refl _) 0 (fun h => nl_last _ h), lexA_note _ _ h, lexA_shift0 y.data.toList (0 + (x.data.toList ++ [(10 : UInt8)]).length + nt.data.toList.length + 2), e2]
  exact alike_then _ _ _ _

set_option maxRecDepth 100000 in
set_option maxHeartbeats 4000000 in
theorem comments_some (v1 v2 : Value) (l1 l2 : List UInt8) (s : ByteArray) (hl1 : l1.length ≤ 50) (hl2 : l2.length ≤ 50) (hs : s.size ≤ 50) (w : World) (h1 : Sees w v1 l1) (h2 : Sees w v2 l2) :
    Calls Try.prog 6 #[v1, v2, .string s] w fun e w' => e = .returned (.bool true) ∧ Fr (fun _ => False) w w' := by
  obtain ⟨a1, c1, rfl, _⟩ := h1.shape
  obtain ⟨a2, c2, rfl, _⟩ := h2.shape
  have H1 := Lib.hid h1
  have H2 := Lib.hid h2
  clear h1 h2
  go_enter Try.func6, Try.ntmps6
  go_wp2_with fail
  refine (awake_any _).mono ?_
  rintro e w1 ⟨rfl, f1⟩
  go_wp2
  go_loopg [7, 35] s.size (fun g v7 v35 wr => ∃ (k : Nat) (nt : ByteArray), k ≤ s.size ∧ g = s.size - k ∧ v35 = .int .i64 k ∧ v7 = .string nt ∧ nt.size ≤ k ∧ Hid (∀ c ∈ nt.data.toList, isLine c = true) ∧ wr = w1)
  case atStart => exact ⟨0, ⟨#[]⟩, Nat.zero_le _, rfl, rfl, rfl, Nat.le_refl _, Lib.hid (fun c hc => by simp at hc), rfl⟩
  case round =>
    obtain ⟨k, nt, hk, rfl, rfl, rfl, hnt, HN, rfl⟩ := hrel
    by_cases hlt : k < s.size
    · have hb0 : ((s[k]'hlt).toNat : Int) ≤ 255 := by have := (s[k]'hlt).toNat_lt; omega
      have hone : (s.extract k (k + 1)).data.toList = [s[k]'hlt] := by
        rw [Lib.extract_data, Nat.add_sub_cancel_left, drop_at s k hlt]
        rfl
      have hxs := extract_size s k (k + 1) (by omega) (by omega)
      have HO := Lib.hid hone
      have HXS := Lib.hid hxs
      clear hone hxs
      by_cases h10 : ((s[k]'hlt).toNat : Int) = 10
      · have e10 : (((s[k]'hlt).toNat : Int) != 10) = false := by simpa using h10
        clear h10
        go_wp2
        go_roundg (s.size - (k + 1))
        case measure => omega
        case rel => exact ⟨k + 1, nt, hlt, rfl, by go_num, rfl, by omega, HN, rfl⟩
      · have e10 : (((s[k]'hlt).toNat : Int) != 10) = true := by simpa using h10
        have HL : Hid (isLine (s[k]'hlt) = true) := Lib.hid (by simp [isLine, h10])
        clear h10
        go_wp2
        go_roundg (s.size - (k + 1))
        case measure => omega
        case rel => exact ⟨k + 1, _, hlt, rfl, by go_num, rfl, by rw [ByteArray.size_append, HXS.out]; omega, Lib.hid (fun c hc => by
          rw [ByteArray.data_append, Array.toList_append, List.mem_append, HO.out] at hc
          rcases hc with hc | hc
          · exact HN.out c hc
          · simp at hc; subst hc; exact HL.out), rfl⟩
    · obtain rfl : k = s.size := by omega
      go_wp2_with fail
      refine (text_any _ _ l1 [] (by omega) _ (H1.out.fr f1 (fun _ _ h => h)) (sees_none _)).mono ?_
      rintro e w2 ⟨x, rfl, hx, f2⟩
      have F2 := f1.trans f2 (fun _ _ h => h)
      clear f1 f2
      go_wp2_with fail
      refine (text_any _ _ l2 [] (by omega) w2 (H2.out.fr F2 (fun _ _ h => h)) (sees_none _)).mono ?_
      rintro e w3 ⟨y, rfl, hy, f3⟩
      have F3 := F2.trans f3 (fun _ _ h => h)
      clear F2 f3
      have hal := alike_note x y nt HN.out
      have hxs : (x ++ (⟨#[10]⟩ : ByteArray)).size = x.size + 1 := by rw [ByteArray.size_append]; rfl
      obtain ⟨X, hX⟩ : ∃ X, X = x ++ (⟨#[10]⟩ : ByteArray) := ⟨_, rfl⟩
      rw [← hX] at hal hxs
      have HX := Lib.hid hX
      have hX4 : X.size ≤ 1000 := by omega
      have hxy : (X ++ y).size ≤ 2000 := by rw [ByteArray.size_append]; omega
      have hz1 : (X ++ (⟨#[35]⟩ : ByteArray)).size ≤ 1001 := by rw [ByteArray.size_append, show (⟨#[35]⟩ : ByteArray).size = 1 from rfl]; omega
      have hz2 : (X ++ (⟨#[35]⟩ : ByteArray) ++ nt).size ≤ 1051 := by rw [ByteArray.size_append]; omega
      have hz3 : (X ++ (⟨#[35]⟩ : ByteArray) ++ nt ++ (⟨#[10]⟩ : ByteArray)).size ≤ 1052 := by rw [ByteArray.size_append, show (⟨#[10]⟩ : ByteArray).size = 1 from rfl]; omega
      have hz4 : (X ++ (⟨#[35]⟩ : ByteArray) ++ nt ++ (⟨#[10]⟩ : ByteArray) ++ y).size ≤ 3000 := by rw [ByteArray.size_append]; omega
      clear hX hxs
      obtain ⟨r1, hr1⟩ : ∃ r, r = lexA 0 (X ++ y).data.toList := ⟨_, rfl⟩
      obtain ⟨r2, hr2⟩ : ∃ r, r = lexA 0 (X ++ (⟨#[35]⟩ : ByteArray) ++ nt ++ (⟨#[10]⟩ : ByteArray) ++ y).data.toList := ⟨_, rfl⟩
      rw [← hr1, ← hr2] at hal
      have R1 := Lib.hid hr1
      have R2 := Lib.hid hr2
      have AL := Lib.hid hal
      clear hr1 hr2 hal
      go_wp2_with fail
      rw [← HX.out]
      refine (split_small (X ++ y) (by omega) w3).mono ?_
      rintro e w4 ⟨u1, rfl, hT1⟩
      rw [← R1.out] at hT1 ⊢
      have T1 := Lib.hid hT1
      clear hT1
      go_wp2_with fail
      refine (split_small _ (by omega) w4).mono ?_
      rintro e w5 ⟨u2, rfl, hT2⟩
      rw [← R2.out] at hT2 ⊢
      have T2 := Lib.hid hT2
      clear hT2
      have F5 := (F3.trans T1.out.2.1 (fun _ _ h => h)).trans T2.out.2.1 (fun _ _ h => h)
      clear F3
      cases r1 with
      | err p er =>
        cases r2 with
        | ok us => exact AL.out.elim
        | err q er2 =>
          obtain rfl : er = er2 := AL.out
          obtain ⟨a3, c3, rfl⟩ := T1.out.none
          obtain ⟨a4, c4, rfl⟩ := T2.out.none
          simp only [Res.where_err, Res.code_err]
          have her := (lexA_code _ _ (Nat.le_refl _) _ _ _ R1.out.symm).1
          have e2 : (er : Int) ≤ 22 := by omega
          clear her T1 T2 R1 R2
          go_wp2
          refine wp_loop_rounds 1 ?_
          rw [rounds_succ]
          go_wp2
          go_ret
          exact ⟨rfl, F5⟩
      | ok ts =>
        cases r2 with
        | err q er2 => exact AL.out.elim
        | ok us =>
          obtain ⟨hlen, hal⟩ := AL.out
          simp only [Res.where_ok, Res.code_ok, Res.toks_ok] at *
          have n1 := lexA_ne _ _ (Nat.le_refl _) _ _ R1.out.symm
          have m1 := lexA_size _ _ (Nat.le_refl _) _ _ R1.out.symm
          rw [show (X ++ y).data.toList.length = (X ++ y).size from rfl] at m1
          obtain ⟨g1, cap1, rfl, hc1, A1⟩ := T1.out.at n1
          obtain ⟨g2, cap2, rfl, hc2, A2⟩ := T2.out.at (by omega)
          have A1' := Lib.hid (A1.fr T2.out.2.1)
          have A2' := Lib.hid A2
          have AL' := Lib.hid hal
          rw [← hlen] at hc2 ⊢
          have HLN := Lib.hid hlen
          have hts : ts.length ≤ 4000 := by omega
          clear A1 A2 T1 T2 R1 R2 AL hal hlen m1
          go_wp2
          go_loopg [87] ts.length (fun gh v87 wr => ∃ j : Nat, j ≤ ts.length ∧ gh = ts.length - j ∧ v87 = .int .i64 j ∧ Hid (Fr (fun _ => False) w5 wr))
          case atStart => exact ⟨0, Nat.zero_le _, rfl, rfl, Lib.hid (Fr.refl _ _)⟩
          case round =>
            obtain ⟨j, hj, rfl, rfl, HF⟩ := hrel
            by_cases hlt : j < ts.length
            · have htj : ts[j]? = some ts[j] := List.getElem?_eq_getElem hlt
              have hju : j < us.length := by rw [← HLN.out]; exact hlt
              have huj : us[j]? = some us[j] := List.getElem?_eq_getElem hju
              have hk := AL'.out j _ _ htj huj
              have hc1j := (A1'.out.fr HF.out).2 j _ htj
              have hc2j := (A2'.out.fr HF.out).2 j _ huj
              clear htj huj
              generalize ts[j] = t at *
              generalize us[j] = u at *
              obtain ⟨kd, p, tx⟩ := t
              obtain ⟨kd2, p2, tx2⟩ := u
              dsimp only at *
              obtain ⟨rfl, rfl⟩ := hk
              obtain ⟨T, hT⟩ : ∃ T : ByteArray, T = ⟨tx.toArray⟩ := ⟨_, rfl⟩
              rw [← hT] at hc1j hc2j
              obtain ⟨d1, d2, d3⟩ := hc1j
              obtain ⟨b1, b2, b3⟩ := hc2j
              clear hT
              go_wp2
              go_quiet (fail)
              go_wp2
              go_roundg (ts.length - (j + 1))
              case measure => omega
              case rel => exact ⟨j + 1, hlt, rfl, by go_num, Lib.hid (HF.out.drewNs _)⟩
            · obtain rfl : j = ts.length := by omega
              go_wp2
              go_ret
              exact ⟨rfl, F5.trans HF.out (fun _ _ h => h)⟩

theorem comments_long (v1 v2 : Value) (l1 l2 : List UInt8) (s : ByteArray) (hl : 50 < l1.length ∨ 50 < l2.length ∨ 50 < s.size) (w : World) (h1 : Sees w v1 l1) (h2 : Sees w v2 l2) :
    Calls Try.prog 6 #[v1, v2, .string s] w fun e w' => e = .returned (.bool true) ∧ Fr (fun _ => False) w w' := by
  obtain ⟨a1, c1, rfl, _⟩ := h1.shape
  obtain ⟨a2, c2, rfl, _⟩ := h2.shape
  clear h1 h2
  rcases Nat.lt_or_ge 50 l1.length with h | h
  · go_enter Try.func6, Try.ntmps6
    go_wp2_with fail
    refine (awake_any _).mono ?_
    rintro e w1 ⟨rfl, f1⟩
    go_wp2
    go_ret
    exact ⟨rfl, f1⟩
  · have b1 : decide ((50 : Int) < (l1.length : Int)) = false := by simp; omega
    rcases Nat.lt_or_ge 50 l2.length with h2 | h2
    · clear hl
      go_enter Try.func6, Try.ntmps6
      go_wp2_with fail
      refine (awake_any _).mono ?_
      rintro e w1 ⟨rfl, f1⟩
      go_wp2
      go_ret
      exact ⟨rfl, f1⟩
    · have b2 : decide ((50 : Int) < (l2.length : Int)) = false := by simp; omega
      have h3 : 50 < s.size := by omega
      clear hl
      go_enter Try.func6, Try.ntmps6
      go_wp2_with fail
      refine (awake_any _).mono ?_
      rintro e w1 ⟨rfl, f1⟩
      go_wp2
      go_ret
      exact ⟨rfl, f1⟩

theorem comments_any (v1 : Value) (l1 : List Int) {w : World} (h1 : SeesL w v1 (l1.map (Value.int .u8))) (hw1 : ∀ n ∈ l1, (Lit.int .u8 n).wf = true)
    (v2 : Value) (l2 : List Int) (h2 : SeesL w v2 (l2.map (Value.int .u8))) (hw2 : ∀ n ∈ l2, (Lit.int .u8 n).wf = true) (s : ByteArray) :
    Calls Try.prog 6 #[v1, v2, .string s] w fun e w' => e = .returned (.bool true) ∧ Fr (fun _ => False) w w' := by
  have s1 := sees_u8 h1 hw1
  have s2 := sees_u8 h2 hw2
  by_cases hl : (l1.map fun n => UInt8.ofNat n.toNat).length ≤ 50 ∧ (l2.map fun n => UInt8.ofNat n.toNat).length ≤ 50 ∧ s.size ≤ 50
  · exact comments_some v1 v2 _ _ s hl.1 hl.2.1 hl.2.2 w s1 s2
  · exact comments_long v1 v2 _ _ s (by omega) w s1 s2

end Go.Proofs.Ytdhjelilmccmbaa
