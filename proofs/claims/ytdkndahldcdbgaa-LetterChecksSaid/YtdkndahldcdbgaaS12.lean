/-
  LetSame, part 12 of what it rests on: LetFrom, LetPut, LetSmallDef, LetAll.
-/
import Derived.Test.YtdkndahldcdbgaaS11
import Derived.Test.YtdkndahldcdbgaaS06
import Derived.Test.YtdkndahldcdbgaaS04
set_option linter.unusedVariables false
set_option linter.unusedSimpArgs false
set_option maxHeartbeats 64000000
namespace Go.Proofs.Ytdkndahldcdbgaa
open Go.RowKit
open Go.Lib (hid)
section
set_option maxRecDepth 100000

theorem words_memE (m : List Int) (R : List UInt8) (h : In16 m) : ∀ n, n ≤ m.length → wordsS n (memE m ++ R, 0) = (m.take n, (memE (m.drop n) ++ R, 0))
  | 0, _ => rfl
  | n + 1, hn => by
    have ih := words_memE m R h n (by omega)
    have hx := h _ (List.getElem_mem (show n < m.length by omega))
    show ((wordsS n (memE m ++ R, 0)).1 ++ [((numS (wordsS n (memE m ++ R, 0)).2 2).1 : Int)], (numS (wordsS n (memE m ++ R, 0)).2 2).2) = _
    rw [ih]
    dsimp only
    rw [memE_drop m n (by omega), List.append_assoc, numS_be2 _ (by omega), List.take_succ_eq_append_getElem (by omega)]
    dsimp only
    rw [Int.toNat_of_nonneg hx.1]

theorem memb_memE (m : List Int) (R : List UInt8) (h : In16 m) (hl : m.length ≤ 16) (hc : chkM m = 0) : membS (be2 m.length ++ memE m ++ R, 0) = (m, (R, 0)) := by
  unfold membS
  rw [List.append_assoc, withinS_be2 m.length (by omega) _ 16 (by omega)]
  dsimp only
  rw [words_memE m R h _ (Nat.le_refl _), List.take_length, List.drop_length]
  dsimp only
  rw [hc, failS_ok]
  rfl

theorem view_of (n : Int) (m : List Int) (R : List UInt8) (h0 : 0 ≤ n) (h1 : n ≤ 4294967295) (h : In16 m) (hl : m.length ≤ 16) : viewS (viewB n m ++ R, 0) = ((n, m), (R, 0)) := by
  unfold viewS viewB
  rw [List.append_assoc, List.append_assoc, numS_be4 _ (by omega)]
  dsimp only
  rw [withinS_be2 m.length (by omega) _ 16 (by omega)]
  dsimp only
  rw [words_memE m R h _ (Nat.le_refl _), List.take_length, List.drop_length, Int.toNat_of_nonneg h0]
  rfl

theorem ballot_of (r n : Int) (R : List UInt8) (h0 : 0 ≤ r) (h1 : r ≤ 4294967295) (h2 : 0 ≤ n) (h3 : n ≤ 65535) : ballotS (be4 r.toNat ++ be2 n.toNat ++ R, 0) = ((r, n), (R, 0)) := by
  unfold ballotS
  rw [List.append_assoc, numS_be4 _ (by omega)]
  dsimp only
  rw [numS_be2 _ (by omega)]
  dsimp only
  rw [Int.toNat_of_nonneg h0, Int.toNat_of_nonneg h2]

theorem kind_of (k : Int) (R : List UInt8) (h0 : 0 ≤ k) (h1 : k ≤ 7) : kindS (be2 k.toNat ++ R, 0) = (k.toNat, (R, 0)) := by
  unfold kindS
  rw [numS_be2 _ (by omega)]
  dsimp only
  rw [if_neg (by omega)]

theorem ent_of (x : En) (R : List UInt8) (h : EnOk x) : entS (entB x ++ R, 0) = (x, (R, 0)) := by
  have key : entAS (entB x ++ R, 0) = (x, (R, 0)) := by
    obtain ⟨k0, k1, t0, t1, n0, n1, p0, p1, l1, m1, mb, ck, nc, nm⟩ := h
    unfold entAS entB
    rw [List.append_assoc, numS_be2 _ (by omega)]
    dsimp only
    rcases (show x.k = 0 ∨ x.k = 1 ∨ x.k = 2 by omega) with h | h | h
    · rw [h]
      obtain ⟨a1, a2, a3, a4⟩ := nc (by omega)
      have a5 := nm (by omega)
      cases x
      simp only at *
      subst a1 a2 a3 a4 a5 h
      rfl
    · rw [h, if_neg (show ¬ Int.toNat 1 = 0 by decide), if_pos (show Int.toNat 1 = 1 by decide), if_pos (show (1 : Int) = 1 from rfl)]
      have e := takeS_call x.t x.n x.p x.l R t0 t1 n0 n1 p0 p1 l1
      have a5 := nm (by omega)
      unfold callT
      rw [e]
      dsimp only
      rw [if_pos rfl, Int.toNat_of_nonneg t0, Int.toNat_of_nonneg n0, Int.toNat_of_nonneg p0]
      cases x
      simp only at *
      subst a5 h
      rfl
    · rw [h, if_neg (show ¬ Int.toNat 2 = 0 by decide), if_neg (show ¬ Int.toNat 2 = 1 by decide), if_pos (show Int.toNat 2 = 2 by decide), if_neg (show ¬ (2 : Int) = 1 by decide), if_pos (show (2 : Int) = 2 from rfl)]
      obtain ⟨a1, a2, a3, a4⟩ := nc (by omega)
      have hck : chkM x.m = 0 := by
        have := ck
        unfold En.chk at this
        rw [if_neg (by omega), if_neg, if_neg (by omega), if_pos h] at this
        · exact this
        · rintro (⟨_, hh⟩ | ⟨hh, _⟩)
          · exact hh ⟨a1, a2, a3, a4⟩
          · exact hh h
      rw [memb_memE x.m R mb m1 hck]
      cases x
      simp only at *
      subst a1 a2 a3 a4 h
      rfl
  unfold entS
  rw [key]
  rfl

theorem bool_of (s : Bool) (R : List UInt8) : withinS (boolB s ++ R, 0) 1 = ((if s = true then 1 else 0), (R, 0)) := by
  unfold boolB
  cases s
  · exact withinS_be2 0 (by decide) R 1 (by decide) 0
  · exact withinS_be2 1 (by decide) R 1 (by decide) 0

theorem mask_s (x : Lt) (hx : x.only = x) (i : Nat) (h : 3 ≤ i) : (x.mask i).s = x.s := by
  have e := congrArg Lt.s hx
  rw [only_s] at e
  unfold Lt.mask
  simp only [h, decide_true, Bool.true_and]
  exact e

/-- One part, read of its bytes. -/
theorem rd_part1 (x : Lt) (ok : LtOk x) (R : List UInt8) : rdP 1 (x.mask 0, (ltP x 1 ++ R, 0)) = (x.mask 1, (R, 0)) := by
  have hh : hasE (x.mask 0).k (x.mask 0).s 1 = hasE x.k x.s 1 := (has_of x.k (x.mask 0).s x.s).1
  by_cases h : hasE x.k x.s 1 = true
  · obtain ⟨h0, h1⟩ := ok.p h
    rw [rdP, ltP, if_pos (hh.trans h), if_pos h]
    dsimp only
    rw [numS_be4 _ (by omega), mask_yes1 x h]
    dsimp only
    rw [Int.toNat_of_nonneg h0]
  · rw [rdP, ltP, if_neg (by rw [hh]; exact h), if_neg h, mask_no1 x (by simpa using h)]
    rfl
theorem rd_part2 (x : Lt) (ok : LtOk x) (R : List UInt8) : rdP 2 (x.mask 1, (ltP x 2 ++ R, 0)) = (x.mask 2, (R, 0)) := by
  have hh : hasE (x.mask 1).k (x.mask 1).s 2 = hasE x.k x.s 2 := (has_of x.k (x.mask 1).s x.s).2.1
  by_cases h : hasE x.k x.s 2 = true
  · obtain ⟨⟨h0, h1⟩, h2, h3⟩ := ok.b h
    rw [rdP, ltP, if_pos (hh.trans h), if_pos h]
    dsimp only
    rw [ballot_of _ _ _ h0 h1 h2 (by omega), mask_yes2 x h]
  · rw [rdP, ltP, if_neg (by rw [hh]; exact h), if_neg h, mask_no2 x (by simpa using h)]
    rfl
theorem rd_part3 (x : Lt) (R : List UInt8) : rdP 3 (x.mask 2, (ltP x 3 ++ R, 0)) = (x.mask 3, (R, 0)) := by
  have hh : hasE (x.mask 2).k (x.mask 2).s 4 = hasE x.k x.s 4 := (has_of x.k (x.mask 2).s x.s).2.2
  by_cases h : hasE x.k x.s 4 = true
  · rw [rdP, ltP, if_pos (hh.trans h), if_pos h]
    dsimp only
    rw [bool_of, mask_yes3 x h]
    dsimp only
    have e : ((((if x.s = true then 1 else 0) : Nat) : Int) == 1) = x.s := by cases x.s <;> rfl
    rw [e]
  · rw [rdP, ltP, if_neg (by rw [hh]; exact h), if_neg h, mask_no3 x (by simpa using h)]
    rfl
theorem rd_part4 (x : Lt) (ok : LtOk x) (hx : x.only = x) (R : List UInt8) : rdP 4 (x.mask 3, (ltP x 4 ++ R, 0)) = (x.mask 4, (R, 0)) := by
  have hh : hasE (x.mask 3).k (x.mask 3).s 8 = hasE x.k x.s 8 := by rw [mask_s x hx 3 (by omega)]; rfl
  by_cases h : hasE x.k x.s 8 = true
  · obtain ⟨⟨h0, h1⟩, h2, h3⟩ := ok.w h
    rw [rdP, ltP, if_pos (hh.trans h), if_pos h]
    dsimp only
    rw [ballot_of _ _ _ h0 h1 h2 (by omega), mask_yes4 x h]
  · rw [rdP, ltP, if_neg (by rw [hh]; exact h), if_neg h, mask_no4 x (by simpa using h)]
    rfl
theorem rd_part5 (x : Lt) (ok : LtOk x) (hx : x.only = x) (R : List UInt8) : rdP 5 (x.mask 4, (ltP x 5 ++ R, 0)) = (x.mask 5, (R, 0)) := by
  have hh : hasE (x.mask 4).k (x.mask 4).s 16 = hasE x.k x.s 16 := by rw [mask_s x hx 4 (by omega)]; rfl
  by_cases h : hasE x.k x.s 16 = true
  · rw [rdP, ltP, if_pos (hh.trans h), if_pos h]
    dsimp only
    rw [ent_of _ _ (ok.e h), mask_yes5 x h]
  · rw [rdP, ltP, if_neg (by rw [hh]; exact h), if_neg h, mask_no5 x (by simpa using h)]
    rfl
theorem rd_part6 (x : Lt) (ok : LtOk x) (hx : x.only = x) (R : List UInt8) : rdP 6 (x.mask 5, (ltP x 6 ++ R, 0)) = (x.mask 6, (R, 0)) := by
  have hh : hasE (x.mask 5).k (x.mask 5).s 32 = hasE x.k x.s 32 := by rw [mask_s x hx 5 (by omega)]; rfl
  by_cases h : hasE x.k x.s 32 = true
  · obtain ⟨⟨⟨t0, t1⟩, n0, n1⟩, hp, hl⟩ := ok.c h
    obtain ⟨p0, p1⟩ := ok_bounds hp
    have e := takeS_call x.ct x.cn x.cp x.cl R t0 t1 n0 n1 p0 p1 hl
    rw [rdP, ltP, if_pos (hh.trans h), if_pos h]
    dsimp only
    unfold callC
    rw [e, mask_yes6 x h]
    dsimp only
    rw [if_pos rfl]
    dsimp only
    rw [Int.toNat_of_nonneg t0, Int.toNat_of_nonneg n0, Int.toNat_of_nonneg p0]
  · rw [rdP, ltP, if_neg (by rw [hh]; exact h), if_neg h, mask_no6 x (by simpa using h)]
    rfl
theorem rd_part7 (x : Lt) (ok : LtOk x) (hx : x.only = x) (R : List UInt8) : rdP 7 (x.mask 6, (ltP x 7 ++ R, 0)) = (x.mask 7, (R, 0)) := by
  have hh : hasE (x.mask 6).k (x.mask 6).s 64 = hasE x.k x.s 64 := by rw [mask_s x hx 6 (by omega)]; rfl
  by_cases h : hasE x.k x.s 64 = true
  · obtain ⟨⟨⟨⟨t0, t1⟩, n0, n1⟩, ⟨v0, v1⟩, hck, h16, hlen⟩, hae, har, hal⟩ := ok.a h
    obtain ⟨a0, a1⟩ := ok_bounds hae
    obtain ⟨r0, r1⟩ := ok_bounds har
    have e := takeAS_ans x.ae x.ar x.al R a0 a1 r0 r1 hal
    rw [rdP, ltP, if_pos (hh.trans h), if_pos h]
    dsimp only
    rw [List.append_assoc, List.append_assoc, List.append_assoc, numS_be2 _ (by omega)]
    dsimp only
    rw [numS_be2 _ (by omega)]
    dsimp only
    rw [view_of _ _ _ v0 v1 h16 hlen]
    dsimp only
    unfold ansC
    rw [e, mask_yes7 x h]
    dsimp only
    rw [if_pos rfl]
    dsimp only
    rw [Int.toNat_of_nonneg t0, Int.toNat_of_nonneg n0, Int.toNat_of_nonneg a0, Int.toNat_of_nonneg r0]
  · rw [rdP, ltP, if_neg (by rw [hh]; exact h), if_neg h, mask_no7 x (by simpa using h)]
    rfl

/-- Of a letter's bytes the letter is read. -/
theorem rd_of (x : Lt) (ok : LtOk x) (hx : x.only = x) (R : List UInt8) : rdS 7 (ltB x ++ R, 0) = (x, (R, 0)) := by
  have hb : ltB x ++ R = ltP x 0 ++ (ltP x 1 ++ (ltP x 2 ++ (ltP x 3 ++ (ltP x 4 ++ (ltP x 5 ++ (ltP x 6 ++ (ltP x 7 ++ R))))))) := by
    simp only [ltB, ltU, List.append_assoc]
  have h0 : ∀ Z, rdS 0 (ltP x 0 ++ Z, 0) = (x.mask 0, (Z, 0)) := by
    intro Z
    rw [rdS, ltP, List.append_assoc, List.append_assoc, kind_of _ _ ok.k0 ok.k1]
    have := ok.f1
    have := ok.t1
    dsimp only
    rw [numS_be2 _ (by omega)]
    dsimp only
    rw [numS_be2 _ (by omega), ← mask_zero]
    dsimp only
    rw [Int.toNat_of_nonneg ok.k0, Int.toNat_of_nonneg ok.f0, Int.toNat_of_nonneg ok.t0]
  rw [hb]
  show rdP 7 (rdP 6 (rdP 5 (rdP 4 (rdP 3 (rdP 2 (rdP 1 (rdS 0 _))))))) = _
  rw [h0, rd_part1 x ok, rd_part2 x ok, rd_part3 x, rd_part4 x ok hx, rd_part5 x ok hx, rd_part6 x ok hx, rd_part7 x ok hx]
  show (x.only, _) = _
  rw [hx]

/-! What is read is of its types. -/
theorem num16 (st : St) : 0 ≤ ((numS st 2).1 : Int) ∧ ((numS st 2).1 : Int) ≤ 65535 := by
  have : (numS st 2).1 < 65536 := numS_small st 2
  omega
theorem kindS_le (st : St) : (kindS st).1 ≤ 7 := by
  unfold kindS
  split
  · exact Nat.zero_le _
  · omega

/-- A letter of the types that Go gives it, with lists that are not long. -/
structure LtT (x : Lt) : Prop where
  l : x.lens
  t : LtTy x

theorem callC_ty (st : St) (h : Cl st) : (0 ≤ (callC st).1 ∧ (callC st).1 ≤ 65535) ∧ (0 ≤ (callC st).2.1 ∧ (callC st).2.1 ≤ 65535) ∧ (callC st).2.2.2.length ≤ 4000 := by
  unfold callC
  by_cases h0 : (takeS st).2.2 = 0
  · rw [if_pos h0]
    have e1 : (takeS st).1.1 = (numS st 2).1 := by unfold takeS; dsimp only
    have e2 : (takeS st).1.2.1 = (numS (numS st 2).2 2).1 := by unfold takeS; dsimp only
    dsimp only
    rcases ok_call st h with h1 | h1
    · rw [e1, e2]
      exact ⟨num16 _, num16 _, h1.2.2.2⟩
    · exact absurd h0 h1.1
  · rw [if_neg h0]
    exact ⟨by decide, by decide, Nat.zero_le _⟩
theorem ansC_ty (st : St) (h : Cl st) : (ansC st).2.2.length ≤ 4000 := by
  unfold ansC
  by_cases h0 : (takeAS st).2.2 = 0
  · rw [if_pos h0]
    dsimp only
    rcases ok_ans st h with h1 | h1
    · exact h1.2.2.2
    · exact absurd h0 h1.1
  · rw [if_neg h0]
    exact Nat.zero_le _

def EnT (x : En) : Prop := ((0 ≤ x.k ∧ x.k ≤ 255) ∧ (0 ≤ x.t ∧ x.t ≤ 65535) ∧ (0 ≤ x.n ∧ x.n ≤ 65535)) ∧ x.l.length ≤ 4000 ∧ x.m.length ≤ 16

theorem EnT.zero : EnT En.zero := ⟨⟨by decide, by decide, by decide⟩, Nat.zero_le _, Nat.zero_le _⟩

theorem EnT.mk2 (m : List Int) (h : m.length ≤ 16) : EnT ⟨2, 0, 0, 0, [], m⟩ :=
  ⟨⟨⟨by show (0 : Int) ≤ 2; decide, by show (2 : Int) ≤ 255; decide⟩, ⟨by show (0 : Int) ≤ 0; decide, by show (0 : Int) ≤ 65535; decide⟩, ⟨by show (0 : Int) ≤ 0; decide, by show (0 : Int) ≤ 65535; decide⟩⟩, Nat.zero_le _, h⟩
theorem EnT.mk1 {t n p : Int} {l : List UInt8} (ht : 0 ≤ t ∧ t ≤ 65535) (hn : 0 ≤ n ∧ n ≤ 65535) (hl : l.length ≤ 4000) : EnT ⟨1, t, n, p, l, []⟩ :=
  ⟨⟨⟨by show (0 : Int) ≤ 1; decide, by show (1 : Int) ≤ 255; decide⟩, ht, hn⟩, hl, Nat.zero_le _⟩

theorem callT_ty (st : St) (h : Cl st) : EnT (callT st) := by
  have h1 := callC_ty st h
  unfold callC at h1
  unfold callT
  by_cases h0 : (takeS st).2.2 = 0
  · rw [if_pos h0] at h1 ⊢
    dsimp only at h1
    exact EnT.mk1 h1.1 h1.2.1 h1.2.2
  · rw [if_neg h0]
    exact EnT.mk1 ⟨by decide, by decide⟩ ⟨by decide, by decide⟩ (Nat.zero_le _)

theorem membS_le (st : St) : (membS st).1.length ≤ 16 := by
  unfold membS
  dsimp only
  rw [wordsS_length]
  exact withinS_16 _

theorem entAS_ty (st : St) (h : Cl st) : EnT (entAS st).1 := by
  have hc := (ok_num2 st h).cl
  unfold entAS
  by_cases e0 : (numS st 2).1 = 0
  · rw [if_pos e0]; exact EnT.zero
  rw [if_neg e0]
  by_cases e1 : (numS st 2).1 = 1
  · rw [if_pos e1]
    dsimp only
    exact callT_ty _ hc
  rw [if_neg e1]
  by_cases e2 : (numS st 2).1 = 2
  · rw [if_pos e2]
    dsimp only
    exact EnT.mk2 _ (membS_le _)
  rw [if_neg e2]
  exact EnT.zero

theorem ent_ty (st : St) (h : Cl st) : EnT (entS st).1 := by
  unfold entS
  by_cases e0 : (entAS st).2.2 = 0
  · rw [if_pos e0]; exact entAS_ty st h
  · rw [if_neg e0]; exact EnT.zero

def Lt.ty (x : Lt) : Prop := ((0 ≤ x.k ∧ x.k ≤ 255) ∧ EnT x.e) ∧ ((0 ≤ x.ct ∧ x.ct ≤ 65535) ∧ (0 ≤ x.cn ∧ x.cn ≤ 65535) ∧ x.cl.length ≤ 4000) ∧ ((0 ≤ x.it ∧ x.it ≤ 65535) ∧ (0 ≤ x.iN ∧ x.iN ≤ 65535) ∧ x.vm.length ≤ 16 ∧ x.al.length ≤ 4000)

theorem Lt.ty.lt {x : Lt} (h : x.ty) : LtT x := by
  obtain ⟨⟨h1, h2⟩, ⟨h3, h4, h5⟩, h6, h7, h8, h9⟩ := h
  exact ⟨⟨by have := h2.2.1; omega, by have := h2.2.2; omega, by omega, by omega, by omega, h2.1.1.1, h2.1.1.2⟩, ⟨h1.1, h1.2, h2.1.1.1, h2.1.1.2, h2.1.2.1, h2.1.2.2, h3, h4, h6, h7⟩⟩

theorem rd_cl (st : St) (h : Cl st) : Cl (rdS 0 st).2 ∧ Cl (rdS 1 st).2 ∧ Cl (rdS 2 st).2 ∧ Cl (rdS 3 st).2 ∧ Cl (rdS 4 st).2 ∧ Cl (rdS 5 st).2 ∧ Cl (rdS 6 st).2 :=
  ⟨(ok_rd0 st h).cl, (ok_rd1 st h).cl, (ok_rd2 st h).cl, (ok_rd3 st h).cl, (ok_rd4 st h).cl, (ok_rd5 st h).cl, (ok_rd6 st h).cl⟩

theorem viewS_le (st : St) : (viewS st).1.2.length ≤ 16 := by
  unfold viewS
  dsimp only
  rw [wordsS_length]
  exact withinS_16 _

theorem Lt.ty.up5 {Y : Lt} (h : Y.ty) {e : En} (he : EnT e) : ({ Y with e := e } : Lt).ty := ⟨⟨h.1.1, he⟩, h.2⟩
theorem Lt.ty.up6 {Y : Lt} (h : Y.ty) {a b c : Int} {l : List UInt8} (hc : (0 ≤ a ∧ a ≤ 65535) ∧ (0 ≤ b ∧ b ≤ 65535) ∧ l.length ≤ 4000) : ({ Y with ct := a, cn := b, cp := c, cl := l } : Lt).ty := ⟨h.1, hc, h.2.2⟩
theorem Lt.ty.up7 {Y : Lt} (h : Y.ty) {a b n c d : Int} {m : List Int} {l : List UInt8} (ha : 0 ≤ a ∧ a ≤ 65535) (hb : 0 ≤ b ∧ b ≤ 65535) (hm : m.length ≤ 16) (hl : l.length ≤ 4000) : ({ Y with it := a, iN := b, vn := n, vm := m, ae := c, ar := d, al := l } : Lt).ty := ⟨h.1, h.2.1, ha, hb, hm, hl⟩

theorem ty_next1 {q : Lt × St} (h : q.1.ty) : (rdP 1 q).1.ty := by rw [rdP]; split <;> exact h
theorem ty_next2 {q : Lt × St} (h : q.1.ty) : (rdP 2 q).1.ty := by rw [rdP]; split <;> exact h
theorem ty_next3 {q : Lt × St} (h : q.1.ty) : (rdP 3 q).1.ty := by rw [rdP]; split <;> exact h
theorem ty_next4 {q : Lt × St} (h : q.1.ty) : (rdP 4 q).1.ty := by rw [rdP]; split <;> exact h
theorem ty_next5 {q : Lt × St} (h : q.1.ty) (hc : Cl q.2) : (rdP 5 q).1.ty := by
  rw [rdP]
  split
  · exact h.up5 (ent_ty q.2 hc)
  · exact h
theorem ty_next6 {q : Lt × St} (h : q.1.ty) (hc : Cl q.2) : (rdP 6 q).1.ty := by
  rw [rdP]
  split
  · exact h.up6 (callC_ty q.2 hc)
  · exact h
theorem ty_next7 {q : Lt × St} (h : q.1.ty) (hc : Cl q.2) : (rdP 7 q).1.ty := by
  rw [rdP]
  split
  · exact h.up7 (num16 _) (num16 _) (viewS_le _) (ansC_ty _ (((ok_num2 q.2 hc).seq (ok_num2 (numS q.2 2).2)).seq (ok_view (numS (numS q.2 2).2 2).2)).cl)
  · exact h

theorem ty_zero {k f t : Int} (h : 0 ≤ k ∧ k ≤ 255) : ({ Lt.zero with k := k, f := f, t := t } : Lt).ty :=
  ⟨⟨h, EnT.zero⟩, ⟨(show (0 : Int) ≤ 0 ∧ (0 : Int) ≤ 65535 by decide), (show (0 : Int) ≤ 0 ∧ (0 : Int) ≤ 65535 by decide), Nat.zero_le _⟩, (show (0 : Int) ≤ 0 ∧ (0 : Int) ≤ 65535 by decide), (show (0 : Int) ≤ 0 ∧ (0 : Int) ≤ 65535 by decide), Nat.zero_le _, Nat.zero_le _⟩

theorem rd_ty (st : St) (h : Cl st) : LtT (rdS 7 st).1 := by
  obtain ⟨c0, c1, c2, c3, c4, c5, c6⟩ := rd_cl st h
  have h0 : (rdS 0 st).1.ty := ty_zero ⟨Int.natCast_nonneg _, by have := kindS_le st; omega⟩
  have h1 : (rdS 1 st).1.ty := ty_next1 h0
  have h2 : (rdS 2 st).1.ty := ty_next2 h1
  have h3 : (rdS 3 st).1.ty := ty_next3 h2
  have h4 : (rdS 4 st).1.ty := ty_next4 h3
  have h5 : (rdS 5 st).1.ty := ty_next5 h4 c4
  have h6 : (rdS 6 st).1.ty := ty_next6 h5 c5
  have h7 : (rdS 7 st).1.ty := ty_next7 h6 c6
  exact h7.lt
end
section
set_option maxRecDepth 100000

theorem results_cell_tmp_row {P : Program} {fn : Func} {p u : Tmp} {ty : TypeId} (h : fn.results = #[.cell p ty, .tmp u]) (tmps : Array Value) (w : World) (g : Nat) (t : TypeId) (cs : Array Value) (fr : Nat × Nat) (d : TypeDesc)
    (hp : tmps.getD p undef = .pointer (some ⟨g, 0, none⟩)) (hg : w.heap[g]? = some (.cells cs t fr))
    (hu : P.underlying ty = some d) (hd : (match d with | .struct _ | .array _ _ => true | _ => false) = true) (hi : (P.info? ty).map (·.size) = some cs.size) :
    (results fn tmps).run P w = .ok (.tuple #[.agg cs, tmps.getD u undef]) w := by
  rw [results_cell_tmp h]
  have hp' : tmps[p]?.getD undef = .pointer (some ⟨g, 0, none⟩) := by simpa using hp
  simp [hp', asAddr, run_loadVar_row w g t ty cs fr d hg hu hd hi, Result.andThen]

abbrev oWz : Obj := Obj.cells #[nilS] 67 (0, 0)

theorem far_new {w : World} {x : Lt} {s : Ls} (h : LS w x s) : Far w.heap.size x s := by
  have key : ∀ (u : Value) (l : List UInt8), Sees w u l → l = [] ∨ u.ownBlock ≠ some w.heap.size := fun u l hs => by
    by_cases hl : l = []
    · exact .inl hl
    · exact .inr (fun e => by have := sees_old hs hl _ e; omega)
  have keyI : ∀ (u : Value) (l : List Int), SI w u l → l = [] ∨ u.ownBlock ≠ some w.heap.size := fun u l hs => by
    by_cases hl : l = []
    · exact .inl hl
    · obtain ⟨a, c, rfl, hc⟩ := hs.shape
      exact .inr (fun e => by have := sic_old hc hl _ e; omega)
  exact ⟨key _ _ h.e.1, keyI _ _ h.e.2, keyI _ _ h.v, key _ _ h.c, key _ _ h.a⟩

theorem lput_err (x : Lt) (s : Ls) (w : World) (hL : LS w x s) (hB : x.lens) (hk0 : 0 ≤ x.k) (hc : x.chk ≠ 0) :
    Calls Try.prog 10 #[.agg (x.cs s)] w fun e w' => e = .returned (.tuple #[nilS, .int .i64 x.chk]) ∧ Fr (fun _ => False) w w' := by
  have q0 := heap_alloc_new w (oLt x s)
  have f0 : Fr (fun _ => False) w (w.alloc (oLt x s)) := (Fr.refl _ _).alloc _
  have Q := Lib.hid q0
  have F := Lib.hid f0
  have HL := Lib.hid (hL.fr f0)
  clear q0 f0 hL
  go_enter Try.func10, Try.ntmps10
  go_upto_region 1 with fail
  generalize w.alloc (oLt x s) = w0 at *
  go_wp2_with (refine load_lt rfl 51 (.tmp 1) rfl w.heap.size (x.cs s) 51 (0, 0) rfl Q.out _ Try.underlying51 rfl (by kernel_rfl) ?_)
  refine (lcheck_any x s w0 HL.out hB hk0).mono ?_
  rintro e w1 ⟨rfl, f1⟩
  have F1 := Lib.hid (F.out.trans f1 (fun _ _ h => h))
  clear f1 F
  obtain ⟨c, hcc⟩ : ∃ c, c = x.chk := ⟨_, rfl⟩
  rw [← hcc] at hc ⊢
  have HC := Lib.hid hcc
  have hb : (c != 0) = true := by simp [hc]
  clear hc hcc
  dsimp only
  go_wp2_with fail
  go_ret2
  rw [← HC.out]
  exact ⟨rfl, F1.out⟩

theorem lput_ok (x : Lt) (s : Ls) (w : World) (hL : LS w x s) (hB : x.lens) (ty : LtTy x) (hc : x.chk = 0) :
    Calls Try.prog 10 #[.agg (x.cs s)] w fun e w' => ∃ v', e = .returned (.tuple #[v', .int .i64 0]) ∧ Own w' v' (ltB x) ∧ Fr (fun _ => False) w w' ∧ (∀ k, v'.ownBlock = some k → w.heap.size ≤ k) := by
  have q0 := heap_alloc_new w (oLt x s)
  have f0 : Fr (fun _ => False) w (w.alloc (oLt x s)) := (Fr.refl _ _).alloc _
  have Q := Lib.hid q0
  have F := Lib.hid f0
  have HL := Lib.hid (hL.fr f0)
  have hk0 := ty.k0
  have OK := Lib.hid (ok_of_chk ty hc)
  clear q0 f0 hL
  go_enter Try.func10, Try.ntmps10
  go_upto_region 1 with fail
  generalize w.alloc (oLt x s) = w0 at *
  obtain ⟨g, hg⟩ : ∃ g, g = w.heap.size := ⟨_, rfl⟩
  rw [← hg] at Q ⊢
  have HG := Lib.hid hg
  clear hg
  go_wp2_with (refine load_lt rfl 51 (.tmp 1) rfl g (x.cs s) 51 (0, 0) rfl Q.out _ Try.underlying51 rfl (by kernel_rfl) ?_)
  refine (lcheck_any x s w0 HL.out hB hk0).mono ?_
  rintro e w1 ⟨rfl, f1⟩
  have F1 := Lib.hid (F.out.trans f1 (fun _ _ h => h))
  have Q1 := Lib.hid (crow_kept Q.out f1 (fun h => h))
  have L1 := Lib.hid (HL.out.fr f1)
  clear f1 F Q HL
  rw [hc]
  clear hc hB ty hk0
  dsimp only
  go_upto_region 5 with fail
  have q2 := heap_alloc_new w1 oWz
  have f2 : Fr (fun _ => False) w1 (w1.alloc oWz) := (Fr.refl _ _).alloc _
  have W2 : Hid (Wr (w1.alloc oWz) w1.heap.size nilS []) := Lib.hid ⟨q2, World.ownsRow_nil _ _ _ _, fun h => (by cases h)⟩
  have FAR := Lib.hid (far_new L1.out)
  generalize w1.alloc oWz = w2 at *
  obtain ⟨b, hb⟩ : ∃ b, b = w1.heap.size := ⟨_, rfl⟩
  rw [← hb] at W2 FAR ⊢
  have HB2 : Hid (w.heap.size ≤ b) := Lib.hid (by have := F1.out.size; omega)
  have Q2 := Lib.hid (crow_kept Q1.out f2 (fun h => h))
  have F2 := Lib.hid (F1.out.trans f2 (fun _ _ h => h))
  have L2 := Lib.hid (L1.out.fr f2)
  clear q2 f2 hb Q1 F1 L1
  go_wp2_with (refine load_lt rfl 51 (.tmp 1) rfl g (x.cs s) 51 (0, 0) rfl Q2.out _ Try.underlying51 rfl (by kernel_rfl) ?_)
  refine (write_any x s b nilS w2 OK.out L2.out FAR.out rfl W2.out).mono ?_
  rintro e w3 ⟨rfl, v3, w3r, f3, o3⟩
  have hl3 : (ltB x).length ≤ 2000000000 := by have := ltU_length OK.out 7; unfold ltB; omega
  have hby := Lib.hid (bytes_any b v3 (ltB x) w3 w3r hl3)
  have F3 : Hid (Fr (fun _ => False) w w3) := Lib.hid (F2.out.trans (fr_none rfl f3) (fun i hi e => by have := HB2.out; omega))
  clear w3r f3 o3 hl3
  dsimp only
  go_wp2_with fail
  refine hby.out.mono ?_
  rintro e w4 ⟨v4, rfl, ho4, f4, hv4⟩
  have F4 := Lib.hid (F3.out.trans f4 (fun _ _ h => h))
  have H4 := Lib.hid (And.intro ho4 hv4)
  have HS : Hid (w.heap.size ≤ w3.heap.size) := Lib.hid F3.out.size
  clear f4 ho4 hv4
  dsimp only
  go_wp2_with fail
  go_ret2
  exact ⟨v4, rfl, H4.out.1, F4.out, fun k hk => by have := H4.out.2 k hk; have := HS.out; omega⟩

/-- What is taken of bytes: a letter, or an error. -/
def endE (T : St) : Int := if T.1 = [] then T.2 else 12
def takeL (l : List UInt8) : Lt × Int :=
  if endE (rdS 7 (l, 0)).2 ≠ 0 then (Lt.zero, endE (rdS 7 (l, 0)).2) else if (rdS 7 (l, 0)).1.chk ≠ 0 then (Lt.zero, (rdS 7 (l, 0)).1.chk) else ((rdS 7 (l, 0)).1, 0)

theorem takeL_of {l : List UInt8} {Y : Lt} {T : St} (hY : Y = (rdS 7 (l, 0)).1) (hT : T = (rdS 7 (l, 0)).2) : takeL l = if endE T ≠ 0 then (Lt.zero, endE T) else if Y.chk ≠ 0 then (Lt.zero, Y.chk) else (Y, 0) := by
  rw [hY, hT]; rfl

theorem ltake_any (v : Value) (l : List UInt8) (w : World) (hs : Sees w v l) (hl : l.length ≤ 2000000000) :
    Calls Try.prog 12 #[v] w fun e w' => ∃ s', e = .returned (.tuple #[.agg ((takeL l).1.cs s'), .int .i64 (takeL l).2]) ∧ LS w' (takeL l).1 s' ∧ Fr (fun _ => False) w w' := by
  have q0 := heap_alloc_new w (zLt 0 0 0)
  have f0 : Fr (fun _ => False) w (w.alloc (zLt 0 0 0)) := (Fr.refl _ _).alloc _
  have Q := Lib.hid q0
  have F := Lib.hid f0
  have HS := Lib.hid (hs.fr f0 (fun _ _ h => h))
  obtain ⟨Y, hY⟩ : ∃ Y, Y = (rdS 7 (l, 0)).1 := ⟨_, rfl⟩
  obtain ⟨T, hT⟩ : ∃ T, T = (rdS 7 (l, 0)).2 := ⟨_, rfl⟩
  have HTL := Lib.hid (takeL_of hY hT)
  have HB : Hid (Y.lens) := Lib.hid (by rw [hY]; exact (rd_ty _ (fun h => absurd rfl h)).l)
  have HK : Hid (0 ≤ Y.k) := Lib.hid (by rw [hY]; exact (rd_ty _ (fun h => absurd rfl h)).t.k0)
  have HY := Lib.hid (And.intro hY hT)
  obtain ⟨R, hR⟩ : ∃ R, R = takeL l := ⟨_, rfl⟩
  rw [← hR] at HTL ⊢
  clear q0 f0 hs hY hT hR
  go_enter Try.func12, Try.ntmps12
  go_upto_region 1 with fail
  generalize w.alloc (zLt 0 0 0) = w0 at *
  obtain ⟨g, hg⟩ : ∃ g, g = w.heap.size := ⟨_, rfl⟩
  rw [← hg] at Q ⊢
  have HG := Lib.hid hg
  clear hg
  go_wp2_with fail
  refine (read_any v l w0 HS.out hl).mono ?_
  rintro e w1 ⟨b, v1, rfl, r1, f1, hb1, hv1⟩
  have hg1 : g < w0.heap.size := vt_lt Q.out
  have HB1 : Hid (w.heap.size ≤ b ∧ g < b) := Lib.hid ⟨by have := F.out.size; omega, by omega⟩
  have Q1 := Lib.hid (crow_kept Q.out f1 (fun h => h))
  have F1 := Lib.hid (F.out.trans f1 (fun _ _ h => h))
  have R1 := Lib.hid r1
  clear r1 f1 hb1 hv1 hg1 Q F HS hl
  dsimp only
  go_wp2_with fail
  refine (read_let b v1 l 0 w1 R1.out).mono ?_
  rintro e w2 ⟨s2, rfl, hl2, rd2, hn2⟩
  rw [← HY.out.1] at hl2 ⊢
  rw [← HY.out.2] at rd2
  have Q2 : Hid (w2.heap[g]? = some (zLt 0 0 0)) := Lib.hid (by
    obtain ⟨_, _, f2, _⟩ := rd2
    exact crow_kept Q1.out f2 (by have := HB1.out; omega))
  have F2 : Hid (Fr (fun _ => False) w w2) := Lib.hid (by
    obtain ⟨_, _, f2, _⟩ := rd2
    exact F1.out.trans f2 (fun i hi e => by have := HB1.out; omega))
  have L2 := Lib.hid (And.intro hl2 (hn2.le (show g + 1 ≤ w1.heap.size from vt_lt Q1.out)))
  have RD2 := Lib.hid rd2
  clear hl2 rd2 hn2 Q1 F1
  have hz3 := heap_alloc_new w2 (zLt 0 0 0)
  have HZ3 := Lib.hid hz3
  clear hz3
  dsimp only
  go_upto_region 3 with (refine store_lt rfl 51 (.tmp 5) (.tmp 11) rfl w2.heap.size (Y.cs s2) rfl rfl 51 _ HZ3.out (by kernel_rfl) rfl L2.out.1.one ?_)
  have q3 := setRow_heap _ _ _ (Y.cs s2) _ _ HZ3.out
  have f3 : Fr (fun _ => False) w2 ((w2.alloc (zLt 0 0 0)).setRow w2.heap.size (Y.cs s2)) := Fr.letRow ((Fr.refl _ _).alloc _) (fun h => absurd h (by omega)) _
  generalize (w2.alloc (zLt 0 0 0)).setRow w2.heap.size (Y.cs s2) = w3 at *
  obtain ⟨g5, hg5⟩ : ∃ g, g = w2.heap.size := ⟨_, rfl⟩
  rw [← hg5] at q3 ⊢
  have Q3 := Lib.hid (And.intro (crow_kept Q2.out f3 (fun h => h)) q3)
  have F3 := Lib.hid (F2.out.trans f3 (fun _ _ h => h))
  have L3 := Lib.hid (And.intro (L2.out.1.fr f3) L2.out.2)
  have RD3 : Hid (Reads b v1 T.1 T.2 w1 w3) := Lib.hid (RD2.out.fr f3)
  clear q3 f3 hg5 HZ3 Q2 F2 L2 RD2
  obtain ⟨v3, r3, f3, o3⟩ := RD3.out
  have hend := Lib.hid (end_any b v3 T.1 T.2 w3 r3)
  clear r3 f3 o3
  go_wp2_with fail
  refine hend.out.mono ?_
  rintro e w4 ⟨rfl, rfl⟩
  have HTL2 : Hid (R = if endE T ≠ 0 then (Lt.zero, endE T) else if Y.chk ≠ 0 then (Lt.zero, Y.chk) else (Y, 0)) := HTL
  rw [show (if T.1 = [] then T.2 else (12 : Int)) = endE T from rfl]
  obtain ⟨E, hE⟩ : ∃ E, E = endE T := ⟨_, rfl⟩
  rw [← hE] at HTL2 ⊢
  clear hE HTL hend RD3
  dsimp only
  by_cases h0 : E = 0
  · have HR : Hid (R = if Y.chk ≠ 0 then (Lt.zero, Y.chk) else (Y, 0)) := Lib.hid (by rw [HTL2.out, if_neg (by simp [h0])])
    subst h0
    clear HTL2
    go_wp2_with (refine load_lt rfl 51 (.tmp 5) rfl g5 (Y.cs s2) 51 (0, 0) rfl Q3.out.2 _ Try.underlying51 rfl (by kernel_rfl) ?_)
    refine (lcheck_any Y s2 w3 L3.out.1 HB.out HK.out).mono ?_
    rintro e w4 ⟨rfl, f4⟩
    have Q4 := Lib.hid (And.intro (crow_kept Q3.out.1 f4 (fun h => h)) (crow_kept Q3.out.2 f4 (fun h => h)))
    have F4 := Lib.hid (F3.out.trans f4 (fun _ _ h => h))
    have L4 := Lib.hid (And.intro (L3.out.1.fr f4) L3.out.2)
    clear f4 Q3 F3 L3
    obtain ⟨C, hC⟩ : ∃ C, C = Y.chk := ⟨_, rfl⟩
    rw [← hC] at HR ⊢
    clear hC
    dsimp only
    by_cases h1 : C = 0
    · have hR : R = (Y, 0) := by rw [HR.out, if_neg (by simp [h1])]
      subst hR h1
      clear HR
      go_wp2_with (first
        | refine load_lt rfl 51 (.tmp 5) rfl g5 (Y.cs s2) 51 (0, 0) rfl Q4.out.2 _ Try.underlying51 rfl (by kernel_rfl) ?_
        | refine store_lt rfl 51 (.tmp 2) (.tmp 24) rfl g (Y.cs s2) rfl rfl 51 _ Q4.out.1 (by kernel_rfl) rfl L4.out.1.one ?_)
      have hq := setRow_heap _ _ _ (Y.cs s2) _ _ Q4.out.1
      have hfr := Fr.letRow (S := fun k => k = g) (Fr.refl _ w4) (g := g) (fun _ => rfl) (Y.cs s2)
      generalize w4.setRow g (Y.cs s2) = wz at *
      refine bodyPost_ret (results_cell_tmp_row rfl _ _ g 51 _ _ _ rfl hq Try.underlying51 rfl (by kernel_rfl)) rfl ?_
      exact ⟨s2, rfl, L4.out.1.off hfr L4.out.2, F4.out.trans hfr (fun i hi e => by have := HG.out; omega)⟩
    · have hR : R = (Lt.zero, C) := by rw [HR.out, if_pos h1]
      subst hR
      have hb : (C != 0) = true := by simp [h1]
      clear HR h1
      go_wp2_with (refine store_lt rfl 51 (.tmp 2) (.tmp 22) rfl g (Lt.zero.cs Ls.nil) rfl rfl 51 _ Q4.out.1 (by kernel_rfl) rfl (LS.zero w4 0 0 0).one ?_)
      have hq := setRow_heap _ _ _ (Lt.zero.cs Ls.nil) _ _ Q4.out.1
      have hfr := Fr.letRow (S := fun k => k = g) (Fr.refl _ w4) (g := g) (fun _ => rfl) (Lt.zero.cs Ls.nil)
      generalize w4.setRow g (Lt.zero.cs Ls.nil) = wz at *
      refine bodyPost_ret (results_cell_tmp_row rfl _ _ g 51 _ _ _ rfl hq Try.underlying51 rfl (by kernel_rfl)) rfl ?_
      exact ⟨Ls.nil, rfl, LS.zero wz 0 0 0, F4.out.trans hfr (fun i hi e => by have := HG.out; omega)⟩
  · have hR : R = (Lt.zero, E) := by rw [HTL2.out, if_pos h0]
    subst hR
    have hb : (E != 0) = true := by simp [h0]
    clear HTL2 h0
    go_wp2_with (refine store_lt rfl 51 (.tmp 2) (.tmp 16) rfl g (Lt.zero.cs Ls.nil) rfl rfl 51 _ Q3.out.1 (by kernel_rfl) rfl (LS.zero w3 0 0 0).one ?_)
    have hq := setRow_heap _ _ _ (Lt.zero.cs Ls.nil) _ _ Q3.out.1
    have hfr := Fr.letRow (S := fun k => k = g) (Fr.refl _ w3) (g := g) (fun _ => rfl) (Lt.zero.cs Ls.nil)
    generalize w3.setRow g (Lt.zero.cs Ls.nil) = wz at *
    refine bodyPost_ret (results_cell_tmp_row rfl _ _ g 51 _ _ _ rfl hq Try.underlying51 rfl (by kernel_rfl)) rfl ?_
    exact ⟨Ls.nil, rfl, LS.zero wz 0 0 0, F3.out.trans hfr (fun i hi e => by have := HG.out; omega)⟩
end
section
set_option maxRecDepth 100000

structure S17 where
  k : Int
  f : Int
  t : Int
  p : Int
  r : Int
  bf : Int
  nd : Int
  ls : Int
  some : Bool
  e : Sm
  c : Sc
  vw : Int
  mb : Nat
  tr : Int
  nm : Int
  a : Sa

def S17.cs (y : S17) (ve vc va : Value) : Array Value := #[.int .u8 y.k, .int .u8 y.f, .int .u8 y.t, .int .u32 y.p, .int .u32 y.r, .int .u32 y.bf, .int .u8 y.nd, .int .u8 y.ls, .bool y.some, .int .u8 y.e.kind, .int .u16 y.e.c.t, .int .u16 y.e.c.n, .int .u16 y.e.c.p, ve, .int .u16 y.e.mb, .int .u16 y.c.t, .int .u16 y.c.n, .int .u16 y.c.p, vc, .int .u32 y.vw, .int .u16 y.mb, .int .u16 y.tr, .int .u16 y.nm, .int .u16 y.a.e, .int .u16 y.a.r, va]
abbrev oS17 (y : S17) (ve vc va : Value) : Obj := Obj.cells (y.cs ve vc va) 32 (0, 0)

structure S17.ok (y : S17) : Prop where
  k : 0 ≤ y.k ∧ y.k ≤ 255
  f : 0 ≤ y.f ∧ y.f ≤ 255
  t : 0 ≤ y.t ∧ y.t ≤ 255
  p : 0 ≤ y.p ∧ y.p ≤ 4294967295
  r : 0 ≤ y.r ∧ y.r ≤ 4294967295
  bf : 0 ≤ y.bf ∧ y.bf ≤ 4294967295
  nd : 0 ≤ y.nd ∧ y.nd ≤ 255
  ls : 0 ≤ y.ls ∧ y.ls ≤ 255
  e : y.e.ok
  c : (0 ≤ y.c.t ∧ y.c.t ≤ 65535) ∧ (0 ≤ y.c.n ∧ y.c.n ≤ 65535) ∧ 0 ≤ y.c.p ∧ y.c.p ≤ 65535
  vw : 0 ≤ y.vw ∧ y.vw ≤ 4294967295
  mb : y.mb < 65536
  tr : 0 ≤ y.tr ∧ y.tr ≤ 65535
  nm : 0 ≤ y.nm ∧ y.nm ≤ 65535
  a : (0 ≤ y.a.e ∧ y.a.e ≤ 65535) ∧ 0 ≤ y.a.r ∧ y.a.r ≤ 65535

def S17.all (y : S17) : Lt :=
  { k := y.k % 8, f := y.f % 16, t := y.t % 16, p := y.p, b1 := y.r, b2 := y.nd % 16, w1 := y.bf, w2 := y.ls % 16, s := y.some, e := y.e.en, vn := y.vw, vm := bitsL y.mb,
    ct := y.c.t, cn := y.c.n, cp := y.c.p, cl := y.c.l, it := y.tr, iN := y.nm, ae := y.a.e, ar := y.a.r, al := y.a.l }
theorem S17.all_of (y : S17) {k f t b2 w2 : Int} (hk : k = y.k % 8) (hf : f = y.f % 16) (ht : t = y.t % 16) (hb : b2 = y.nd % 16) (hw : w2 = y.ls % 16) : y.all = { k := k, f := f, t := t, p := y.p, b1 := y.r, b2 := b2, w1 := y.bf, w2 := w2, s := y.some, e := y.e.en, vn := y.vw, vm := bitsL y.mb, ct := y.c.t, cn := y.c.n, cp := y.c.p, cl := y.c.l, it := y.tr, iN := y.nm, ae := y.a.e, ar := y.a.r, al := y.a.l } := by
  rw [hk, hf, ht, hb, hw]; rfl

/-- A value shows a Small: its slices lie in blocks that are there. -/
structure S17S (w : World) (y : S17) (ve vc va : Value) : Prop where
  e : SeesO w ve y.e.c.l
  c : SeesO w vc y.c.l
  a : SeesO w va y.a.l

theorem S17S.fr {w w' : World} {y : S17} {ve vc va : Value} (h : S17S w y ve vc va) (f : Fr (fun _ => False) w w') : S17S w' y ve vc va := ⟨h.e.fr f, h.c.fr f, h.a.fr f⟩

theorem s17_cells {w : World} {g : Nat} {y : S17} {ve vc va : Value} {T : TypeId} (h : w.heap[g]? = some (Obj.cells (y.cs ve vc va) T (0, 0))) :
    (w.cell? ⟨g, 0, none⟩ = some (.int .u8 y.k) ∧ w.cell? ⟨g, 1, none⟩ = some (.int .u8 y.f) ∧ w.cell? ⟨g, 2, none⟩ = some (.int .u8 y.t) ∧ w.cell? ⟨g, 3, none⟩ = some (.int .u32 y.p) ∧
    w.cell? ⟨g, 4, none⟩ = some (.int .u32 y.r) ∧ w.cell? ⟨g, 5, none⟩ = some (.int .u32 y.bf) ∧ w.cell? ⟨g, 6, none⟩ = some (.int .u8 y.nd) ∧ w.cell? ⟨g, 7, none⟩ = some (.int .u8 y.ls) ∧ w.cell? ⟨g, 8, none⟩ = some (.bool y.some)) ∧
    (w.cell? ⟨g, 9, none⟩ = some (.int .u8 y.e.kind) ∧ w.cell? ⟨g, 10, none⟩ = some (.int .u16 y.e.c.t) ∧ w.cell? ⟨g, 11, none⟩ = some (.int .u16 y.e.c.n) ∧ w.cell? ⟨g, 12, none⟩ = some (.int .u16 y.e.c.p) ∧ w.cell? ⟨g, 13, none⟩ = some ve ∧ w.cell? ⟨g, 14, none⟩ = some (.int .u16 y.e.mb)) ∧
    (w.cell? ⟨g, 15, none⟩ = some (.int .u16 y.c.t) ∧ w.cell? ⟨g, 16, none⟩ = some (.int .u16 y.c.n) ∧ w.cell? ⟨g, 17, none⟩ = some (.int .u16 y.c.p) ∧ w.cell? ⟨g, 18, none⟩ = some vc) ∧
    (w.cell? ⟨g, 19, none⟩ = some (.int .u32 y.vw) ∧ w.cell? ⟨g, 20, none⟩ = some (.int .u16 y.mb) ∧ w.cell? ⟨g, 21, none⟩ = some (.int .u16 y.tr) ∧ w.cell? ⟨g, 22, none⟩ = some (.int .u16 y.nm) ∧ w.cell? ⟨g, 23, none⟩ = some (.int .u16 y.a.e) ∧ w.cell? ⟨g, 24, none⟩ = some (.int .u16 y.a.r) ∧ w.cell? ⟨g, 25, none⟩ = some va) := by
  refine ⟨⟨crow h 0 _ rfl, crow h 1 _ rfl, crow h 2 _ rfl, crow h 3 _ rfl, crow h 4 _ rfl, crow h 5 _ rfl, crow h 6 _ rfl, crow h 7 _ rfl, crow h 8 _ rfl⟩, ⟨crow h 9 _ rfl, crow h 10 _ rfl, crow h 11 _ rfl, crow h 12 _ rfl, crow h 13 _ rfl, crow h 14 _ rfl⟩, ⟨crow h 15 _ rfl, crow h 16 _ rfl, crow h 17 _ rfl, crow h 18 _ rfl⟩, crow h 19 _ rfl, crow h 20 _ rfl, crow h 21 _ rfl, crow h 22 _ rfl, crow h 23 _ rfl, crow h 24 _ rfl, crow h 25 _ rfl⟩

theorem LS.keepF {w w' : World} {x : Lt} {s : Ls} {b : Nat} (h : LS w x s) (f : Fr (fun k => k = b) w w') (hf : Far b x s) : LS w' x s :=
  ⟨⟨h.e.1.keep f (hf.ea.imp id (fun h k hk e => h (by rw [hk, e]))), h.e.2.keep f (hf.em.imp id (fun h k hk e => h (by rw [hk, e])))⟩, h.v.keep f (hf.va.imp id (fun h k hk e => h (by rw [hk, e]))), h.c.keep f (hf.ca.imp id (fun h k hk e => h (by rw [hk, e]))), h.a.keep f (hf.aa.imp id (fun h k hk e => h (by rw [hk, e])))⟩

theorem light_any (y : S17) (ve vc va : Value) (w : World) (hs : S17S w y ve vc va) :
    Calls Try.prog 8 #[.agg (y.cs ve vc va)] w fun e w' => e = .returned (.bool (decide (y.e.c.l.length ≤ 100) && (decide (y.c.l.length ≤ 100) && decide (y.a.l.length ≤ 100)))) ∧ Fr (fun _ => False) w w' := by
  obtain ⟨a1, c1, e1, -⟩ := hs.e.1.shape
  obtain ⟨a2, c2, e2, -⟩ := hs.c.1.shape
  obtain ⟨a3, c3, e3, -⟩ := hs.a.1.shape
  subst e1 e2 e3
  have q0 := heap_alloc_new w (oS17 y (.slice a1 y.e.c.l.length c1) (.slice a2 y.c.l.length c2) (.slice a3 y.a.l.length c3))
  have F := Lib.hid (show Fr (fun _ => False) w (w.alloc (oS17 y (.slice a1 y.e.c.l.length c1) (.slice a2 y.c.l.length c2) (.slice a3 y.a.l.length c3))) from (Fr.refl _ _).alloc _)
  obtain ⟨-, ⟨-, -, -, -, c13, -⟩, ⟨-, -, -, c18⟩, -, -, -, -, -, -, c25⟩ := s17_cells q0
  clear q0 hs
  obtain ⟨n1, h1⟩ : ∃ n, n = y.e.c.l.length := ⟨_, rfl⟩
  obtain ⟨n2, h2⟩ : ∃ n, n = y.c.l.length := ⟨_, rfl⟩
  obtain ⟨n3, h3⟩ : ∃ n, n = y.a.l.length := ⟨_, rfl⟩
  rw [← h1, ← h2, ← h3] at c13 c18 c25 F ⊢
  clear h1 h2 h3
  go_enter Try.func8, Try.ntmps8
  go_upto_region 1 with fail
  generalize w.alloc (oS17 y (.slice a1 n1 c1) (.slice a2 n2 c2) (.slice a3 n3 c3)) = w0 at *
  by_cases b1 : n1 ≤ 100
  · have i1 : (n1 : Int) ≤ 100 := by omega
    by_cases b2 : n2 ≤ 100
    · have i2 : (n2 : Int) ≤ 100 := by omega
      by_cases b3 : n3 ≤ 100
      · have i3 : (n3 : Int) ≤ 100 := by omega
        have HE : Hid ((decide (n1 ≤ 100) && (decide (n2 ≤ 100) && decide (n3 ≤ 100))) = true) := Lib.hid (by simp [b1, b2, b3])
        clear b1 b2 b3
        go_wp2_with fail
        go_ret
        rw [HE.out]
        exact ⟨rfl, F.out⟩
      · have i3 : ¬ (n3 : Int) ≤ 100 := by omega
        have HE : Hid ((decide (n1 ≤ 100) && (decide (n2 ≤ 100) && decide (n3 ≤ 100))) = false) := Lib.hid (by simp [b3])
        clear b1 b2 b3
        go_wp2_with fail
        go_ret
        rw [HE.out]
        exact ⟨rfl, F.out⟩
    · have i2 : ¬ (n2 : Int) ≤ 100 := by omega
      have HE : Hid ((decide (n1 ≤ 100) && (decide (n2 ≤ 100) && decide (n3 ≤ 100))) = false) := Lib.hid (by simp [b2])
      clear b1 b2
      go_wp2_with fail
      go_ret
      rw [HE.out]
      exact ⟨rfl, F.out⟩
  · have i1 : ¬ (n1 : Int) ≤ 100 := by omega
    have HE : Hid ((decide (n1 ≤ 100) && (decide (n2 ≤ 100) && decide (n3 ≤ 100))) = false) := Lib.hid (by simp [b1])
    clear b1
    go_wp2_with fail
    go_ret
    rw [HE.out]
    exact ⟨rfl, F.out⟩
end
section
set_option maxRecDepth 100000

def EnP (b : Nat) (w : World) (x : En) (v : Value) : Prop := ∃ a c a' c', v = x.val (.slice a x.l.length c) (.slice a' x.m.length c') ∧ ES w x (.slice a x.l.length c) (.slice a' x.m.length c') ∧ Away b x (.slice a x.l.length c) (.slice a' x.m.length c')
def SiP (b : Nat) (w : World) (l : List Int) (v : Value) : Prop := ∃ a c, v = .slice a l.length c ∧ SI w (.slice a l.length c) l ∧ (Value.slice a l.length c).ownBlock ≠ some b
def VwP (b : Nat) (w : World) (n : Int) (l : List Int) (v : Value) : Prop := ∃ a c, v = .agg #[.int .i64 n, .slice a l.length c] ∧ SI w (.slice a l.length c) l ∧ (Value.slice a l.length c).ownBlock ≠ some b
def LtP (b : Nat) (w : World) (x : Lt) (v : Value) : Prop := ∃ s, v = .agg (x.cs s) ∧ LS w x s ∧ Far b x s

theorem EnP.fr {b : Nat} {w w' : World} {x : En} {v : Value} (h : EnP b w x v) (f : Fr (fun k => k = b) w w') : EnP b w' x v := by
  obtain ⟨a, c, a', c', h1, h2, h3⟩ := h
  exact ⟨a, c, a', c', h1, h2.keep h3 f, h3⟩
theorem SiP.fr {b : Nat} {w w' : World} {l : List Int} {v : Value} (h : SiP b w l v) (f : Fr (fun k => k = b) w w') : SiP b w' l v := by
  obtain ⟨a, c, h1, h2, h3⟩ := h
  exact ⟨a, c, h1, h2.keep f (.inr fun k hk e => h3 (by rw [hk, e])), h3⟩
theorem VwP.fr {b : Nat} {w w' : World} {n : Int} {l : List Int} {v : Value} (h : VwP b w n l v) (f : Fr (fun k => k = b) w w') : VwP b w' n l v := by
  obtain ⟨a, c, h1, h2, h3⟩ := h
  exact ⟨a, c, h1, h2.keep f (.inr fun k hk e => h3 (by rw [hk, e])), h3⟩
theorem LtP.fr {b : Nat} {w w' : World} {x : Lt} {v : Value} (h : LtP b w x v) (f : Fr (fun k => k = b) w w') : LtP b w' x v := by
  obtain ⟨s, h1, h2, h3⟩ := h
  exact ⟨s, h1, h2.keepF f h3, h3⟩

/-- What the operations of All leave. -/
def AllL (g g2 : Nat) (y : S17) (L : Lt) (k8 f16 t16 nd16 ls16 : Int) (a1 a2 a3 : Option Addr) (m1 m2 m3 : Nat) : List (Value → World → Prop) :=
  [fun v _ => v = .pointer (some ⟨g, 0, none⟩), fun v _ => v = .int .u8 y.k, fun v _ => v = .int .u8 k8, fun v _ => v = .pointer (some ⟨g, 1, none⟩), fun v _ => v = .int .u8 y.f, fun v _ => v = .int .u8 f16, fun v _ => v = .int .i64 f16, fun v _ => v = .pointer (some ⟨g, 2, none⟩), fun v _ => v = .int .u8 y.t, fun v _ => v = .int .u8 t16, fun v _ => v = .int .i64 t16, fun v _ => v = .pointer (some ⟨g, 3, none⟩), fun v _ => v = .int .u32 y.p, fun v _ => v = .int .i64 y.p, fun v _ => v = .pointer (some ⟨g, 4, none⟩), fun v _ => v = .int .u32 y.r, fun v _ => v = .int .i64 y.r, fun v _ => v = .pointer (some ⟨g, 6, none⟩), fun v _ => v = .int .u8 y.nd, fun v _ => v = .int .u8 nd16, fun v _ => v = .int .i64 nd16, fun v _ => v = .agg #[.int .i64 y.r, .int .i64 nd16], fun v _ => v = .pointer (some ⟨g, 5, none⟩), fun v _ => v = .int .u32 y.bf, fun v _ => v = .int .i64 y.bf, fun v _ => v = .pointer (some ⟨g, 7, none⟩), fun v _ => v = .int .u8 y.ls, fun v _ => v = .int .u8 ls16, fun v _ => v = .int .i64 ls16, fun v _ => v = .agg #[.int .i64 y.bf, .int .i64 ls16], fun v _ => v = .pointer (some ⟨g, 8, none⟩), fun v _ => v = .bool y.some, fun v _ => v = .pointer (some ⟨g, 9, none⟩), fun v _ => v = smV y.e (.slice a1 y.e.c.l.length m1), fun v w => EnP g2 w y.e.en v, fun v _ => v = .pointer (some ⟨g, 19, none⟩), fun v _ => v = .int .u32 y.vw, fun v _ => v = .int .i64 y.vw, fun v _ => v = .pointer (some ⟨g, 20, none⟩), fun v _ => v = .int .u16 y.mb, fun v w => SiP g2 w (bitsL y.mb) v, fun v w => VwP g2 w y.vw (bitsL y.mb) v, fun v _ => v = .pointer (some ⟨g, 15, none⟩), fun v _ => v = .agg #[.int .u16 y.c.t, .int .u16 y.c.n, .int .u16 y.c.p, .slice a2 y.c.l.length m2], fun v _ => v = .agg #[.int .u16 y.c.t, .int .u16 y.c.n, .int .i64 y.c.p, .slice a2 y.c.l.length m2], fun v _ => v = .pointer (some ⟨g, 21, none⟩), fun v _ => v = .int .u16 y.tr, fun v _ => v = .pointer (some ⟨g, 22, none⟩), fun v _ => v = .int .u16 y.nm, fun v _ => v = .agg #[.int .u16 y.tr, .int .u16 y.nm], fun v _ => v = .pointer (some ⟨g, 23, none⟩), fun v _ => v = .agg #[.int .u16 y.a.e, .int .u16 y.a.r, .slice a3 y.a.l.length m3], fun v _ => v = .agg #[.int .i64 y.a.e, .int .i64 y.a.r, .slice a3 y.a.l.length m3], fun v w => LtP g2 w L v, fun _ w => ∃ s, w.heap[g2]? = some (oLt L s) ∧ LS w L s]

/-- Of two worlds: only block b may differ, and if it does, it is the last operation's. -/
def LeA (b : Nat) (wa wb : World) : Prop := Fr (fun k => k = b) wa wb

theorem AllL_mono (g g2 : Nat) (y : S17) (L : Lt) (k8 f16 t16 nd16 ls16 : Int) (a1 a2 a3 : Option Addr) (m1 m2 m3 : Nat) : ∀ (i : Nat) (v : Value) (w w' : World), i ≠ 54 → Fr (fun k => k = g2) w w' → (AllL g g2 y L k8 f16 t16 nd16 ls16 a1 a2 a3 m1 m2 m3).getD i (fun _ _ => True) v w → (AllL g g2 y L k8 f16 t16 nd16 ls16 a1 a2 a3 m1 m2 m3).getD i (fun _ _ => True) v w' := by
  intro i v w w' hi f
  match i with
  | 0 => exact id
  | 1 => exact id
  | 2 => exact id
  | 3 => exact id
  | 4 => exact id
  | 5 => exact id
  | 6 => exact id
  | 7 => exact id
  | 8 => exact id
  | 9 => exact id
  | 10 => exact id
  | 11 => exact id
  | 12 => exact id
  | 13 => exact id
  | 14 => exact id
  | 15 => exact id
  | 16 => exact id
  | 17 => exact id
  | 18 => exact id
  | 19 => exact id
  | 20 => exact id
  | 21 => exact id
  | 22 => exact id
  | 23 => exact id
  | 24 => exact id
  | 25 => exact id
  | 26 => exact id
  | 27 => exact id
  | 28 => exact id
  | 29 => exact id
  | 30 => exact id
  | 31 => exact id
  | 32 => exact id
  | 33 => exact id
  | 34 => exact fun h => EnP.fr h f
  | 35 => exact id
  | 36 => exact id
  | 37 => exact id
  | 38 => exact id
  | 39 => exact id
  | 40 => exact fun h => SiP.fr h f
  | 41 => exact fun h => VwP.fr h f
  | 42 => exact id
  | 43 => exact id
  | 44 => exact id
  | 45 => exact id
  | 46 => exact id
  | 47 => exact id
  | 48 => exact id
  | 49 => exact id
  | 50 => exact id
  | 51 => exact id
  | 52 => exact id
  | 53 => exact fun h => LtP.fr h f
  | 54 => exact absurd rfl hi
  | n + 55 => exact fun _ => trivial

theorem AllL_mono0 (g g2 : Nat) (y : S17) (L : Lt) (k8 f16 t16 nd16 ls16 : Int) (a1 a2 a3 : Option Addr) (m1 m2 m3 : Nat) : ∀ (i : Nat) (v : Value) (w w' : World), Fr (fun _ => False) w w' → (AllL g g2 y L k8 f16 t16 nd16 ls16 a1 a2 a3 m1 m2 m3).getD i (fun _ _ => True) v w → (AllL g g2 y L k8 f16 t16 nd16 ls16 a1 a2 a3 m1 m2 m3).getD i (fun _ _ => True) v w' := by
  intro i v w w' f
  by_cases hi : i = 54
  · subst hi
    rintro ⟨s, h1, h2⟩
    exact ⟨s, crow_kept h1 f (fun h => h), h2.fr f⟩
  · exact AllL_mono g g2 y L k8 f16 t16 nd16 ls16 a1 a2 a3 m1 m2 m3 i v w w' hi (f.mono (fun _ _ h => h.elim))

theorem s17_old {w w0 wx : World} {v : Value} {l : List UInt8} {g g2 : Nat} (h : SeesO w v l) (f : Fr (fun _ => False) w w0) (f2 : Fr (fun k => k = g2) w0 wx) (hG : g = w.heap.size ∧ g2 = w.heap.size + 1 ∧ g2 < w0.heap.size) : Sees wx v l := by
  rcases h.2 with e | e
  · exact h.1.none e
  · exact (h.1.fr f (fun _ _ h => h)).fr f2 (fun k hk e' => by have := e k hk; omega)
theorem s17_far {w w0 : World} {v : Value} {l : List UInt8} {g g2 : Nat} (h : SeesO w v l) (hG : g = w.heap.size ∧ g2 = w.heap.size + 1 ∧ g2 < w0.heap.size) : l = [] ∨ v.ownBlock ≠ some g2 := by
  rcases h.2 with e | e
  · exact .inl e
  · exact .inr (fun e' => by have := e _ e'; omega)
theorem en_nil {s : Sm} (h : s.c.l = []) : s.en.l = [] := by
  unfold Sm.en
  split
  · exact h
  · split <;> rfl
theorem en_p {w w0 wx wa : World} {s : Sm} {v v' u' : Value} {g g2 : Nat} (h : SeesO w v s.c.l) (hG : g = w.heap.size ∧ g2 = w.heap.size + 1 ∧ g2 < w0.heap.size) (hsz : w0.heap.size ≤ wx.heap.size) (hes : ES wa s.en v' u') (hv : v' = v ∨ v' = nilS) (hu : ∀ k, u'.ownBlock = some k → wx.heap.size ≤ k) : EnP g2 wa s.en (s.en.val v' u') := by
  obtain ⟨a, c, e1, -⟩ := hes.1.shape
  obtain ⟨a', c', e2, -⟩ := hes.2.shape
  subst e1 e2
  refine ⟨a, c, a', c', rfl, hes, ?_, .inr (fun e => by have := hu _ e; omega)⟩
  rcases hv with hv | hv
  · rcases h.2 with e | e
    · exact .inl (en_nil e)
    · exact .inr (fun e' => by rw [hv] at e'; have := e _ e'; omega)
  · exact .inr (fun e' => by rw [hv] at e'; cases e')
theorem si_p {w wa : World} {l : List Int} {v : Value} {g2 : Nat} (h : OI wa w.heap.size v l) (hg : g2 < w.heap.size) : SiP g2 wa l v := by
  have hs := h.si
  have hlt := fun k hk => (World.ownsRow.lt h k hk).1
  obtain ⟨a, c, e1, -⟩ := hs.shape
  subst e1
  exact ⟨a, c, rfl, hs, fun e => by have := hlt _ e; omega⟩

theorem sall_any (y : S17) (ve vc va : Value) (w : World) (hy : y.ok) (hs : S17S w y ve vc va) :
    Calls Try.prog 11 #[.agg (y.cs ve vc va)] w fun e w' => ∃ s', e = .returned (.agg (y.all.cs s')) ∧ LS w' y.all s' ∧ Fr (fun _ => False) w w' := by
  obtain ⟨a1, m1, e1, -⟩ := hs.e.1.shape
  obtain ⟨a2, m2, e2, -⟩ := hs.c.1.shape
  obtain ⟨a3, m3, e3, -⟩ := hs.a.1.shape
  subst e1 e2 e3
  have q0 := heap_alloc_new w (oS17 y (.slice a1 y.e.c.l.length m1) (.slice a2 y.c.l.length m2) (.slice a3 y.a.l.length m3))
  have q1 := new_two w (oS17 y (.slice a1 y.e.c.l.length m1) (.slice a2 y.c.l.length m2) (.slice a3 y.a.l.length m3)) (zLt 0 0 0)
  have f1 : Fr (fun _ => False) (w.alloc (oS17 y (.slice a1 y.e.c.l.length m1) (.slice a2 y.c.l.length m2) (.slice a3 y.a.l.length m3))) ((w.alloc (oS17 y (.slice a1 y.e.c.l.length m1) (.slice a2 y.c.l.length m2) (.slice a3 y.a.l.length m3))).alloc (zLt 0 0 0)) := (Fr.refl _ _).alloc _
  have f2 := ((Fr.refl (fun _ => False) w).alloc (oS17 y (.slice a1 y.e.c.l.length m1) (.slice a2 y.c.l.length m2) (.slice a3 y.a.l.length m3))).trans f1 (fun _ _ h => h)
  have Q := Lib.hid (And.intro (crow_kept q0 f1 (fun h => h)) q1)
  have F := Lib.hid f2
  have HS := Lib.hid hs
  have HY := Lib.hid hy
  clear q0 q1 f1 f2 hs hy
  obtain ⟨k8, hk8⟩ : ∃ n, n = y.k % 8 := ⟨_, rfl⟩
  obtain ⟨f16, hf16⟩ : ∃ n, n = y.f % 16 := ⟨_, rfl⟩
  obtain ⟨t16, ht16⟩ : ∃ n, n = y.t % 16 := ⟨_, rfl⟩
  obtain ⟨nd16, hnd16⟩ : ∃ n, n = y.nd % 16 := ⟨_, rfl⟩
  obtain ⟨ls16, hls16⟩ : ∃ n, n = y.ls % 16 := ⟨_, rfl⟩
  obtain ⟨L, hL⟩ : ∃ L, L = y.all := ⟨_, rfl⟩
  have HL := Lib.hid (hL.trans (y.all_of hk8 hf16 ht16 hnd16 hls16))
  rw [← hL]
  have W8 : Hid (((y.k.tmod 8 = k8 ∧ IntKind.u8.wrap k8 = k8) ∧ (y.f.tmod 16 = f16 ∧ IntKind.u8.wrap f16 = f16 ∧ IntKind.i64.wrap f16 = f16) ∧ (y.t.tmod 16 = t16 ∧ IntKind.u8.wrap t16 = t16 ∧ IntKind.i64.wrap t16 = t16)) ∧ (y.nd.tmod 16 = nd16 ∧ IntKind.u8.wrap nd16 = nd16 ∧ IntKind.i64.wrap nd16 = nd16) ∧ (y.ls.tmod 16 = ls16 ∧ IntKind.u8.wrap ls16 = ls16 ∧ IntKind.i64.wrap ls16 = ls16)) := Lib.hid (by
    obtain ⟨h1, h2, h3, -, -, -, h4, h5, -, -, -, -, -, -, -⟩ := HY.out
    have tm : ∀ (a b : Int), 0 ≤ a → a.tmod b = a % b := fun a b h => Int.tmod_eq_emod_of_nonneg h
    have u8 : ∀ z : Int, 0 ≤ z → z ≤ 255 → IntKind.u8.wrap z = z := fun z h1 h2 => by rw [IntKind.wrap_u8]; omega
    have i64 : ∀ z : Int, 0 ≤ z → z ≤ 255 → IntKind.i64.wrap z = z := fun z h1 h2 => by rw [IntKind.wrap_i64]; omega
    exact ⟨⟨⟨by rw [tm _ _ h1.1, hk8], u8 _ (by omega) (by omega)⟩, ⟨by rw [tm _ _ h2.1, hf16], u8 _ (by omega) (by omega), i64 _ (by omega) (by omega)⟩, ⟨by rw [tm _ _ h3.1, ht16], u8 _ (by omega) (by omega), i64 _ (by omega) (by omega)⟩⟩, ⟨by rw [tm _ _ h4.1, hnd16], u8 _ (by omega) (by omega), i64 _ (by omega) (by omega)⟩, ⟨by rw [tm _ _ h5.1, hls16], u8 _ (by omega) (by omega), i64 _ (by omega) (by omega)⟩⟩)
  have W64 : Hid (IntKind.i64.wrap y.p = y.p ∧ IntKind.i64.wrap y.r = y.r ∧ IntKind.i64.wrap y.bf = y.bf ∧ IntKind.i64.wrap y.vw = y.vw) := Lib.hid (by
    have i64 : ∀ z : Int, 0 ≤ z → z ≤ 4294967295 → IntKind.i64.wrap z = z := fun z h1 h2 => by rw [IntKind.wrap_i64]; omega
    exact ⟨i64 _ HY.out.p.1 HY.out.p.2, i64 _ HY.out.r.1 HY.out.r.2, i64 _ HY.out.bf.1 HY.out.bf.2, i64 _ HY.out.vw.1 HY.out.vw.2⟩)
  clear hk8 hf16 ht16 hnd16 hls16 hL
  go_enter Try.func11, Try.ntmps11
  go_upto_region 1 with fail
  generalize (w.alloc (oS17 y (.slice a1 y.e.c.l.length m1) (.slice a2 y.c.l.length m2) (.slice a3 y.a.l.length m3))).alloc (zLt 0 0 0) = w0 at *
  obtain ⟨g2, hg2⟩ : ∃ g, g = w.heap.size + 1 := ⟨_, rfl⟩
  rw [← hg2] at Q ⊢
  obtain ⟨g, hg⟩ : ∃ g, g = w.heap.size := ⟨_, rfl⟩
  rw [← hg] at Q ⊢
  have HG : Hid (g = w.heap.size ∧ g2 = w.heap.size + 1 ∧ g2 < w0.heap.size) := Lib.hid ⟨hg, hg2, vt_lt Q.out.2⟩
  clear hg hg2
  refine wp_region_toldU (by kernel_rfl) (fun a b => Fr (fun k => k = g2) a b) (fun w => Fr.refl _ w) (fun _ _ _ h k => h.trans k (fun _ _ h => h)) [some 3, some 4, some 5, some 6, some 7, some 8, some 9, some 10, some 11, some 12, some 13, some 14, some 15, some 16, some 17, some 18, some 19, some 20, some 21, some 22, some 23, some 24, some 25, some 26, some 27, some 28, some 29, some 30, some 31, some 32, some 33, some 34, some 35, some 36, some 37, some 38, some 39, some 40, some 41, some 42, some 43, some 44, some 45, some 46, some 47, some 48, some 49, some 50, some 51, some 52, some 53, some 54, some 55, some 56, none] rfl (by decide) (by intro d hd; simp at hd ⊢; omega)
    (fun i wx => i = 54 → wx.heap[g2]? = some (zLt 0 0 0))
    (fun i v wx => (AllL g g2 y L k8 f16 t16 nd16 ls16 a1 a2 a3 m1 m2 m3).getD i (fun _ _ => True) v wx)
    (by kernel_rfl) (fun _ _ _ => Q.out.2) ?step ?fin
  case step =>
    intro vals
    simp only [frOfU, fillU, List.setIfInBounds_toArray, List.set_cons_succ, List.set_cons_zero]
    repeat' (first | exact AllOps.nil | refine AllOps.cons ?_ ?_)
    all_goals
      intro wx hle he hu hn K' hK
      simp only [Act.put, List.setIfInBounds_toArray, List.set_cons_succ, List.set_cons_zero, AllL, List.getD_cons_zero, List.getD_cons_succ] at hK
      simp only [List.mem_cons, List.not_mem_nil, or_false, forall_eq_or_imp, forall_eq, Region.binds, forall_const, false_imp_iff, AllL, List.getD_cons_zero, List.getD_cons_succ] at he
      have hl5 := Fr.trans (Fr.drew (Fr.refl (fun k => k = g2) w0)) hle (fun _ _ h => h)
      have hqx := crow_kept Q.out.1 hl5 (by have := HG.out; omega)
      have hl8 := Lib.hid hl5
      have HU := Lib.hid hu
      clear hl5 hle hu hn
      obtain ⟨⟨c0, c1, c2, c3, c4, c5, c6, c7, c8⟩, ⟨c9, c10, c11, c12, c13, c14⟩, ⟨c15, c16, c17, c18⟩, c19, c20, c21, c22, c23, c24, c25⟩ := s17_cells hqx
      obtain ⟨⟨⟨x1, x2⟩, ⟨x3, x4, x5⟩, ⟨x6, x7, x8⟩⟩, ⟨x9, x10, x11⟩, ⟨x12, x13, x14⟩⟩ := W8.out
      obtain ⟨z1, z2, z3, z4⟩ := W64.out
      have HK := Lib.hid hK
      clear hqx
    all_goals first
      | ((try simp only [he] at hK ⊢); go_simp; exact hK _ _ (Fr.refl _ _) rfl (fun _ _ h => h) (fun _ _ _ h => h))
      | skip
    all_goals clear c0 c1 c2 c3 c4 c5 c6 c7 c8 c9 c10 c11 c12 c13 c14 c15 c16 c17 c18 c19 c20 c21 c22 c23 c24 c25
    · simp only [he] at hK ⊢
      go_simp
      go_at_call 20
      refine (sentry_any y.e (.slice a1 y.e.c.l.length m1) wx HY.out.e (s17_old HS.out.e F.out hl8.out HG.out)).mono ?_
      rintro er wa ⟨yv, rfl, v', u', rfl, hes, fra, hv, hu⟩
      exact hK _ _ (fra.mono (fun _ _ h => h.elim)) (en_p HS.out.e HG.out hl8.out.size hes hv hu) (fun j _ h e => crow_kept (h e) fra (fun h => h)) (fun j u _ h => AllL_mono0 g g2 y L k8 f16 t16 nd16 ls16 a1 a2 a3 m1 m2 m3 j u _ _ fra h)
    · simp only [he] at hK ⊢
      go_simp
      go_at_call 21
      refine (lmembers_any y.mb HY.out.mb wx).mono ?_
      rintro er wa ⟨v', rfl, hoi, fra⟩
      exact hK _ _ (fra.mono (fun _ _ h => h.elim)) (si_p hoi (by have := HG.out; have := hl8.out.size; omega)) (fun j _ h e => crow_kept (h e) fra (fun h => h)) (fun j u _ h => AllL_mono0 g g2 y L k8 f16 t16 nd16 ls16 a1 a2 a3 m1 m2 m3 j u _ _ fra h)
    · obtain ⟨e37, a4, m4, e40, h4, o4⟩ := he
      simp only [e37, e40] at hK ⊢
      go_simp
      exact hK _ _ (Fr.refl _ _) ⟨a4, m4, rfl, h4, o4⟩ (fun _ _ h => h) (fun _ _ _ h => h)
    · simp only [he] at hK ⊢
      go_simp
      go_at_call 22
      refine (small_any y.c.t y.c.n y.c.p a2 y.c.l.length m2 wx HY.out.c.2.2.1 HY.out.c.2.2.2).mono ?_
      rintro er wa ⟨rfl, fra⟩
      exact hK _ _ (fra.mono (fun _ _ h => h.elim)) rfl (fun j _ h e => crow_kept (h e) fra (fun h => h)) (fun j u _ h => AllL_mono0 g g2 y L k8 f16 t16 nd16 ls16 a1 a2 a3 m1 m2 m3 j u _ _ fra h)
    · simp only [he] at hK ⊢
      go_simp
      go_at_call 23
      refine (reply_any y.a.e y.a.r a3 y.a.l.length m3 wx HY.out.a.1.1 HY.out.a.1.2 HY.out.a.2.1 HY.out.a.2.2).mono ?_
      rintro er wa ⟨rfl, fra⟩
      exact hK _ _ (fra.mono (fun _ _ h => h.elim)) rfl (fun j _ h e => crow_kept (h e) fra (fun h => h)) (fun j u _ h => AllL_mono0 g g2 y L k8 f16 t16 nd16 ls16 a1 a2 a3 m1 m2 m3 j u _ _ fra h)
    · obtain ⟨e2, e6, e10, e13, e21, e29, e31, ⟨a4, m4, a5, m5, e34, hes, haw⟩, ⟨a6, m6, e41, hsi, hof⟩, e44, e49, e52⟩ := he
      simp only [e2, e6, e10, e13, e21, e29, e31, e34, e41, e44, e49, e52] at hK ⊢
      have HES := Lib.hid (And.intro hes (And.intro haw (And.intro hsi hof)))
      clear hes haw hsi hof e2 e6 e10 e13 e21 e29 e31 e34 e41 e44 e49 e52
      go_simp
      refine hK _ _ (Fr.refl _ _) ⟨⟨.slice a4 y.e.en.l.length m4, .slice a5 y.e.en.m.length m5, .slice a6 (bitsL y.mb).length m6, .slice a2 y.c.l.length m2, .slice a3 y.a.l.length m3⟩, ?_, ?_, ?_⟩ (fun _ _ h => h) (fun _ _ _ h => h)
      · rw [HL.out]; rfl
      · rw [HL.out]; exact ⟨HES.out.1, HES.out.2.2.1, s17_old HS.out.c F.out hl8.out HG.out, s17_old HS.out.a F.out hl8.out HG.out⟩
      · rw [HL.out]; exact ⟨HES.out.2.1.1, HES.out.2.1.2, .inr HES.out.2.2.2, s17_far HS.out.c HG.out, s17_far HS.out.a HG.out⟩
    · obtain ⟨⟨s', e53, hls, hfar⟩, -⟩ := he
      simp only [e53] at hK ⊢
      have q2 := HU.out rfl
      refine wanted_of rfl ?_
      have hq := setRow_heap _ _ _ (L.cs s') _ _ q2
      have hfr := Fr.letRow (S := fun k => k = g2) (Fr.refl _ wx) (g := g2) (fun _ => rfl) (L.cs s')
      exact wp_store_row 51 (.tmp 2) (.tmp 56) rfl g2 (L.cs s') rfl rfl 51 _ q2 (by kernel_rfl) rfl hls.one (hK undef _ hfr ⟨s', hq, hls.keepF hfr hfar⟩ (fun j hj _ e => absurd e hj) (fun j u hj h => AllL_mono g g2 y L k8 f16 t16 nd16 ls16 a1 a2 a3 m1 m2 m3 j u _ _ hj hfr h))
  case fin =>
    intro vals w2 hle hV
    obtain ⟨s', hq, hls⟩ := hV 54 (by decide)
    clear hV
    simp only [frOfU, fillU, List.setIfInBounds_toArray, List.set_cons_succ, List.set_cons_zero]
    have HQ := Lib.hid (And.intro hq hls)
    have F2 : Hid (Fr (fun _ => False) w w2) := Lib.hid (F.out.trans (Fr.trans (Fr.drew (Fr.refl (fun k => k = g2) w0)) hle (fun _ _ h => h)) (fun i hi e => by have := HG.out; omega))
    clear hq hls hle
    go_wp2_with fail
    refine bodyPost_ret (results_cell_row rfl _ _ g2 51 _ _ _ rfl HQ.out.1 Try.underlying51 rfl (by kernel_rfl)) rfl ?_
    exact ⟨s', rfl, HQ.out.2, F2.out⟩
end
end Go.Proofs.Ytdkndahldcdbgaa
