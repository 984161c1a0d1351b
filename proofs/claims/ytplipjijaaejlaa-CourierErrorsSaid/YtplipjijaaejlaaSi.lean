/-
  CouAny, part 9 of what it rests on: Put5, EncMath, RegionL, Pair, CouLib, CouApartLaw, KindSmallArg, KindArg, CouApartArg, PReader.
-/
import Derived.Test.YtplipjijaaejlaaSh
import Derived.OpenShut
import Derived.Deep.Cut
import Derived.Deep.CutRange
import Derived.ProofKit
import Derived.Deep.Slices
set_option linter.unusedVariables false
set_option linter.unusedSimpArgs false
set_option maxHeartbeats 32000000
namespace Go.Proofs.Ytplipjijaaejlaa
open Go.RowKit
open Go.Lib (hid)
section
attribute [local go_sem] run_store_float
set_option maxRecDepth 100000

/-- THE ERROR OF Put. -/
def putErr (t : KT) (T : VT) : Nat := if isVal t T then (if (encE t T).length ≤ 4000 then 0 else 6) else 17

/-- A slice that shows bytes, made since. -/
def NewB (w w' : World) (v : Value) (l : List UInt8) : Prop := Own w' v l ∧ (∀ k, v.ownBlock = some k → w.heap.size ≤ k)

theorem Put_any (R0 : Nat → Prop) (t : KT) (T : VT) (v vv : Value) (w : World) (hsh : Shows R0 w t v) (hvs : VShows R0 w T vv) (hg : goodE t) (hsz : szV T ≤ 100000) :
    Calls Try.prog 10 #[v, vv] w fun e w' => ∃ pv, e = .returned (.tuple #[pv, .int .i64 (putErr t T : Nat)]) ∧ NewB w w' pv (if putErr t T = 0 then encE t T else []) ∧ Fr (fun _ => False) w w' := by
  obtain ⟨P, hP⟩ : ∃ P, (if putErr t T = 0 then encE t T else []) = P := ⟨_, rfl⟩
  obtain ⟨E, hE⟩ : ∃ E, putErr t T = E := ⟨_, rfl⟩
  rw [hP, hE]
  rw [hE] at hP
  have HP := Lib.hid hP
  have HE := Lib.hid hE
  clear hP hE
  obtain ⟨k, m, a, n, c, a', n', c', rfl⟩ := hsh.four
  obtain ⟨N, f, s, va, vc, cap, rfl⟩ := hvs.lit
  obtain ⟨w1, hw1⟩ : ∃ w1, w1 = (w.alloc (.cells #[.int .u8 k, .int .i64 m, .slice a n c, .slice a' n' c'] 34)).alloc (.cells #[.int .i64 N, .float .f64 f, .string s, .slice va vc cap] 42) := ⟨_, rfl⟩
  have f1 : Fr (fun _ => False) w w1 := by rw [hw1]; exact ((Fr.refl _ _).alloc _).alloc _
  have q1 : w1.heap[w.heap.size]? = some (.cells #[.int .u8 k, .int .i64 m, .slice a n c, .slice a' n' c'] 34 (0, 0)) := by rw [hw1]; exact heap_alloc_first _ _ _
  have v1 : w1.heap[w.heap.size + 1]? = some (.cells #[.int .i64 N, .float .f64 f, .string s, .slice va vc cap] 42 (0, 0)) := by rw [hw1]; exact heap_alloc_two _ _ _
  have H0 := Lib.hid (And.intro (Shows.fr f1 (fun _ _ h => h) _ _ (Shows.mono (S := fun k => k < w.heap.size) (fun k hk _ => hk) _ _ hsh)) (VShows.fr f1 (fun _ _ h => h) _ _ (VShows.mono (S := fun k => k < w.heap.size) (fun k hk _ => hk) _ _ hvs)))
  have HG := Lib.hid hg
  have HSZ := Lib.hid hsz
  have F1 := Lib.hid f1
  clear hsh hvs hg hsz f1
  go_enter Try.func10, Try.ntmps10
  go_upto_region 1 with fail
  rw [← hw1]
  clear hw1
  obtain ⟨vb, hvb⟩ : ∃ vb, w.heap.size + 1 = vb := ⟨_, rfl⟩
  rw [hvb] at v1 ⊢
  obtain ⟨tb, htb⟩ : ∃ tb, w.heap.size = tb := ⟨_, rfl⟩
  rw [htb] at q1 hvb H0 ⊢
  have HTV := Lib.hid (And.intro htb hvb)
  clear htb hvb
  obtain ⟨c0, c1, c2, c3⟩ := cell_of_four q1
  obtain ⟨d0, d1, d2, d3⟩ := cell_of_four v1
  have HB := Lib.hid (And.intro q1 v1)
  clear q1 v1
  go_wp2_with fail
  refine (vcheck_any (fun k => k < tb) t T _ _ w1 H0.out.1 H0.out.2 HSZ.out).mono ?_
  rintro e w2 ⟨rfl, f2⟩
  have HB2 := Lib.hid (And.intro (box_kept HB.out.1 f2 (fun h => h)) (box_kept HB.out.2 f2 (fun h => h)))
  have H2 := Lib.hid (And.intro (Shows.fr f2 (fun _ _ h => h) _ _ H0.out.1) (VShows.fr f2 (fun _ _ h => h) _ _ H0.out.2))
  have F2 := Lib.hid (F1.out.trans f2 (fun _ _ h => h))
  clear c0 c1 c2 c3 d0 d1 d2 d3 f2
  by_cases hv : isVal t T = true
  case neg =>
    have h17 : valE t T = 17 := by unfold valE; rw [if_neg hv]
    have HE17 : Hid (E = 17 ∧ P = []) := Lib.hid (by
      have h1 : E = 17 := by rw [← HE.out]; unfold putErr; rw [if_neg hv]
      refine ⟨h1, ?_⟩
      rw [← HP.out, h1]; rfl)
    rw [h17]
    clear hv h17
    go_wp2_with fail
    go_ret2
    exact ⟨_, by rw [HE17.out.1]; rfl, by rw [HE17.out.2]; exact ⟨World.ownsRow_nil _ 0 5 1, fun k hk => by cases hk⟩, F2.out⟩
  have h0 : valE t T = 0 := by unfold valE; rw [if_pos hv]
  have his : isE t T = true := by
    unfold isVal at hv
    rw [Bool.and_eq_true] at hv
    rw [← fits_is t HG.out]; exact hv.2
  have HEE : Hid (E = if (encE t T).length ≤ 4000 then 0 else 6) := Lib.hid (by rw [← HE.out]; unfold putErr; rw [if_pos hv])
  rw [h0]
  have HIS := Lib.hid his
  clear hv h0 his
  have q3 : (w2.alloc (.cells #[.slice none 0 0, .int .i64 0] 57)).heap[w2.heap.size]? = some (.cells #[.slice none 0 0, .int .i64 0] 57 (0, 0)) := heap_alloc_new _ _
  have f3 : Fr (fun _ => False) w2 (w2.alloc (.cells #[.slice none 0 0, .int .i64 0] 57)) := (Fr.refl _ _).alloc _
  go_upto_region 5 with fail
  generalize w2.alloc (.cells #[.slice none 0 0, .int .i64 0] 57) = w3 at *
  have HFB : Hid (tb < w2.heap.size ∧ vb < w2.heap.size) := Lib.hid ⟨lt_of_block HB2.out.1, lt_of_block HB2.out.2⟩
  have HSW := Lib.hid F2.out.size
  generalize hfb : w2.heap.size = fb at *
  have HST : Hid (PkSt fb w3 0 (.slice none 0 0) []) := Lib.hid ⟨q3, World.ownsRow_nil _ 0 5 1, by simp [Value.ownBlock]⟩
  have HB3 := Lib.hid (And.intro (box_kept HB2.out.1 f3 (fun h => h)) (box_kept HB2.out.2 f3 (fun h => h)))
  have H3 := Lib.hid (And.intro (Shows.fr f3 (fun _ _ h => h) _ _ H2.out.1) (VShows.fr f3 (fun _ _ h => h) _ _ H2.out.2))
  have F3 := Lib.hid (F2.out.trans f3 (fun _ _ h => h))
  clear q3 f3 hfb
  obtain ⟨c0, c1, c2, c3⟩ := cell_of_four HB3.out.1
  obtain ⟨d0, d1, d2, d3⟩ := cell_of_four HB3.out.2
  go_wp2_with fail
  refine (put_any t (fun k => k < tb) _ _ w3 T fb 0 (.slice none 0 0) [] H3.out.1 H3.out.2 HG.out HIS.out HST.out (fun k hk => ⟨by have := HFB.out; omega, by simp [Value.ownBlock]⟩) (by simp) (by have := HSZ.out; omega)).mono ?_
  rintro e w4 ⟨rfl, nv2, l2, c4, hp, hok⟩
  rw [List.nil_append] at hok ⊢
  have HF4 : Hid (Fr (fun _ => False) w w4) := Lib.hid (F3.out.trans hp.2.1 (fun k hk h => by
    rcases h with h | h
    · have := HSW.out; omega
    · simp [Value.ownBlock] at h))
  have HPK := Lib.hid hp
  have HOK := Lib.hid hok
  clear c0 c1 c2 c3 d0 d1 d2 d3 hp hok
  by_cases hfit : (encE t T).length ≤ 4000
  · rw [decide_eq_true hfit]
    have HE0 : Hid (E = 0 ∧ P = encE t T ∧ l2 = encE t T) := Lib.hid (by
      have h1 : E = 0 := by rw [HEE.out, if_pos hfit]
      refine ⟨h1, by rw [← HP.out, h1]; rfl, (HOK.out (decide_eq_true hfit)).1⟩)
    have HLE := Lib.hid hfit
    clear hfit
    go_wp2_with fail
    refine (pbytes_any (c4 : Int) fb nv2 l2 _ HPK.out.1 (by rw [HE0.out.2.2]; have := HLE.out; omega)).mono ?_
    rintro e w5 ⟨v5, rfl, ho, f5, hk5⟩
    have H5 := Lib.hid (And.intro ho (And.intro f5 hk5))
    clear ho f5 hk5
    go_wp2_with fail
    go_ret2
    refine ⟨v5, by rw [HE0.out.1]; rfl, ⟨by rw [HE0.out.2.1, ← HE0.out.2.2]; exact H5.out.1, fun k hk => Nat.le_trans HF4.out.size (H5.out.2.2 k hk)⟩, HF4.out.trans H5.out.2.1 (fun _ _ h => h)⟩
  · rw [decide_eq_false hfit]
    have HE6 : Hid (E = 6 ∧ P = []) := Lib.hid (by
      have h1 : E = 6 := by rw [HEE.out, if_neg hfit]
      exact ⟨h1, by rw [← HP.out, h1]; rfl⟩)
    clear hfit
    go_wp2_with fail
    go_ret2
    exact ⟨_, by rw [HE6.out.1]; rfl, by rw [HE6.out.2]; exact ⟨World.ownsRow_nil _ 0 5 1, fun k hk => by cases hk⟩, HF4.out⟩
end
section
theorem be2_inj {a b : Nat} (ha : a < 65536) (hb : b < 65536) {r r' : List UInt8} (h : be2 a ++ r = be2 b ++ r') : a = b ∧ r = r' := by
  obtain ⟨h1, h2⟩ := List.append_inj h (by rw [be2_length, be2_length])
  refine ⟨?_, h2⟩
  have h3 := congrArg beNum h1
  rwa [beNum_be2 a ha, beNum_be2 b hb] at h3

theorem be4_inj {a b : Nat} (ha : a < 4294967296) (hb : b < 4294967296) {r r' : List UInt8} (h : be4 a ++ r = be4 b ++ r') : a = b ∧ r = r' := by
  obtain ⟨h1, h2⟩ := List.append_inj h (by rw [be4_length, be4_length])
  refine ⟨?_, h2⟩
  have h3 := congrArg beNum h1
  rwa [beNum_be4 a ha, beNum_be4 b hb] at h3

theorem be8_inj {a b : Nat} (ha : a < 18446744073709551616) (hb : b < 18446744073709551616) {r r' : List UInt8} (h : be8 a ++ r = be8 b ++ r') : a = b ∧ r = r' := by
  obtain ⟨h1, h2⟩ := List.append_inj h (by rw [be8_length, be8_length])
  refine ⟨?_, h2⟩
  have h3 := congrArg beNum h1
  rwa [beNum_be8 a ha, beNum_be8 b hb] at h3

theorem txt_inj {s s' : Txt} (hs : s.length < 65536) (hs' : s'.length < 65536) {r r' : List UInt8} (h : txt s ++ r = txt s' ++ r') : s = s' ∧ r = r' := by
  unfold txt at h
  simp only [List.append_assoc] at h
  obtain ⟨h1, h2⟩ := be2_inj hs hs' h
  obtain ⟨h3, h4⟩ := List.append_inj h2 h1
  subst h3
  exact ⟨rfl, List.append_cancel_left h4⟩

theorem partsB_inj (g g' : Nat → List UInt8) (p : Nat → Prop) : ∀ (c : Nat), (∀ i, i < c → ∀ r r', g i ++ r = g' i ++ r' → p i ∧ r = r') → ∀ r r', partsB g c ++ r = partsB g' c ++ r' → (∀ i, i < c → p i) ∧ r = r'
  | 0, _, r, r', h => ⟨fun i hi => by omega, by simpa [partsB] using h⟩
  | c + 1, hg, r, r', h => by
    rw [partsB_succ, partsB_succ, List.append_assoc, List.append_assoc] at h
    obtain ⟨h1, h2⟩ := partsB_inj g g' p c (fun i hi => hg i (by omega)) _ _ h
    obtain ⟨h3, h4⟩ := hg c (by omega) _ _ h2
    refine ⟨fun i hi => ?_, h4⟩
    by_cases e : i = c
    · subst e; exact h3
    · exact h1 i (by omega)

/-- A float's word is in bounds, and a text's length. -/
def VBs : VT → Prop
  | .nil => False
  | .mk n f s c of => f < 18446744073709551616 ∧ ∀ i, i < c → VBs (of i)

/-- WHAT IS MARSHALLED TELLS THE VALUE. -/
theorem enc_inj (t : KT) : goodE t → ∀ T T', isE t T = true → isE t T' = true → VBs T → VBs T' → ∀ r r', encE t T ++ r = encE t T' ++ r' → sameV T T' = true ∧ r = r' := by
  induction t with
  | nil => exact fun h => h.elim
  | mk k m ns n of ih =>
    rintro ⟨⟨hn12, hown⟩, hkids⟩ T T' h1 h2 b1 b2 r r' he
    obtain ⟨hk8, hmost, hone, hparts, hnames, hnone⟩ := own_facts hown
    cases T with
    | nil => cases h1
    | mk N f s c ov =>
    cases T' with
    | nil => cases h2
    | mk N' f' s' c' ov' =>
    obtain ⟨i1, i2, i3, i4, i5, i6, i7, i8, i9, i10⟩ := (isE_iff k m ns n of N f s c ov).1 h1
    obtain ⟨j1, j2, j3, j4, j5, j6, j7, j8, j9, j10⟩ := (isE_iff k m ns n of N' f' s' c' ov').1 h2
    obtain ⟨b11, b12⟩ := b1
    obtain ⟨b21, b22⟩ := b2
    clear h1 h2
    have same0 : N = N' → Fl.canon f = Fl.canon f' → s = s' → c = c' → (∀ i, i < c → sameV (ov i) (ov' i) = true) → sameV (.mk N f s c ov) (.mk N' f' s' c' ov') = true := by
      intro a1 a2 a3 a4 a5
      subst a1 a3 a4
      rw [sameV, a2]
      simp only [decide_true, Bool.true_and, List.all_eq_true, List.mem_range]
      exact a5
    rcases (by omega : (k = 0 ∨ k = 1 ∨ k = 7) ∨ k = 2 ∨ k = 3 ∨ k = 4 ∨ k = 5 ∨ k = 6 ∨ k = 8) with h | h | h | h | h | h | h
    · have hc : c = 0 := i3 (by omega)
      have hc' : c' = 0 := j3 (by omega)
      subst hc hc'
      have e1 : encE (.mk k m ns n of) (.mk N f s 0 ov) = be2 N.toNat := by rcases h with rfl | rfl | rfl <;> simp [encE]
      have e2 : encE (.mk k m ns n of) (.mk N' f' s' 0 ov') = be2 N'.toNat := by rcases h with rfl | rfl | rfl <;> simp [encE]
      rw [e1, e2] at he
      have l1 : 0 ≤ N ∧ 0 ≤ N' := by
        have a := i4; have b := j4
        unfold lowE at a b
        rw [if_neg (by omega)] at a b
        exact ⟨a, b⟩
      have l2 : N ≤ 65535 ∧ N' ≤ 65535 := by
        have a := i5; have b := j5
        rcases h with rfl | rfl | rfl
        · simp [highE] at a b; omega
        · simp [highE] at a b; omega
        · simp [highE] at a b
          have := hnames (by omega)
          omega
      obtain ⟨h3, h4⟩ := be2_inj (by omega) (by omega) he
      exact ⟨same0 (by omega) (by rw [i1 (by omega), j1 (by omega)]) (by rw [i2 (by omega), j2 (by omega)]) rfl (fun i hi => by omega), h4⟩
    · subst h
      have hc : c = 0 := i3 (by omega)
      have hc' : c' = 0 := j3 (by omega)
      subst hc hc'
      have e1 : encE (.mk 2 m ns n of) (.mk N f s 0 ov) = be4 (N % 4294967296).toNat := by simp [encE]
      have e2 : encE (.mk 2 m ns n of) (.mk N' f' s' 0 ov') = be4 (N' % 4294967296).toNat := by simp [encE]
      rw [e1, e2] at he
      simp [lowE, highE] at i4 i5 j4 j5
      obtain ⟨h3, h4⟩ := be4_inj (by omega) (by omega) he
      exact ⟨same0 (by omega) (by rw [i1 (by omega), j1 (by omega)]) (by rw [i2 (by omega), j2 (by omega)]) rfl (fun i hi => by omega), h4⟩
    · subst h
      have hc : c = 0 := i3 (by omega)
      have hc' : c' = 0 := j3 (by omega)
      subst hc hc'
      have e1 : encE (.mk 3 m ns n of) (.mk N f s 0 ov) = be8 (Fl.canon f) := by simp [encE]
      have e2 : encE (.mk 3 m ns n of) (.mk N' f' s' 0 ov') = be8 (Fl.canon f') := by simp [encE]
      rw [e1, e2] at he
      simp [lowE, highE] at i4 i5 j4 j5
      obtain ⟨h3, h4⟩ := be8_inj (Fl.canon_lt b11) (Fl.canon_lt b21) he
      exact ⟨same0 (by omega) h3 (by rw [i2 (by omega), j2 (by omega)]) rfl (fun i hi => by omega), h4⟩
    · subst h
      have hc : c = 0 := i3 (by omega)
      have hc' : c' = 0 := j3 (by omega)
      subst hc hc'
      have e1 : encE (.mk 4 m ns n of) (.mk N f s 0 ov) = txt s := by simp [encE]
      have e2 : encE (.mk 4 m ns n of) (.mk N' f' s' 0 ov') = txt s' := by simp [encE]
      rw [e1, e2] at he
      simp [lowE, highE] at i4 i5 j4 j5
      have a1 := i6 rfl
      have a2 := j6 rfl
      have a3 := hmost (by omega)
      obtain ⟨h3, h4⟩ := txt_inj (by omega) (by omega) he
      exact ⟨same0 (by omega) (by rw [i1 (by omega), j1 (by omega)]) h3 rfl (fun i hi => by omega), h4⟩
    · subst h
      rw [encE_seq 5 m ns n of N f s c ov rfl, encE_seq 5 m ns n of N' f' s' c' ov' rfl, List.append_assoc, List.append_assoc] at he
      simp [lowE, highE] at i4 i5 j4 j5
      have a1 := i7 rfl
      have a2 := j7 rfl
      have a3 := hmost (by omega)
      obtain ⟨h3, h4⟩ := be2_inj (by omega) (by omega) he
      subst h3
      obtain ⟨h5, h6⟩ := partsB_inj _ _ (fun i => sameV (ov i) (ov' i) = true) c (fun i hi r r' hr => by
        have x1 := i10 i hi
        have x2 := j10 i hi
        exact ih 0 (hkids 0 (by have := hone rfl; omega)) _ _ x1 x2 (b12 i hi) (b22 i hi) r r' hr) _ _ h4
      exact ⟨same0 (by omega) (by rw [i1 (by omega), j1 (by omega)]) (by rw [i2 (by omega), j2 (by omega)]) rfl h5, h6⟩
    · subst h
      have e1 := i8 rfl
      have e2 := j8 rfl
      obtain rfl : c = c' := by omega
      rw [encE_rec 6 m ns n of N f s c ov rfl, encE_rec 6 m ns n of N' f' s' c ov' rfl] at he
      simp [lowE, highE] at i4 i5 j4 j5
      obtain ⟨h5, h6⟩ := partsB_inj _ _ (fun i => sameV (ov i) (ov' i) = true) c (fun i hi r r' hr => by
        have x1 := i10 i hi
        have x2 := j10 i hi
        exact ih i (hkids i (by omega)) _ _ x1 x2 (b12 i hi) (b22 i hi) r r' hr) _ _ he
      exact ⟨same0 (by omega) (by rw [i1 (by omega), j1 (by omega)]) (by rw [i2 (by omega), j2 (by omega)]) rfl h5, h6⟩
    · subst h
      have e1 := i9 rfl
      have e2 := j9 rfl
      subst e1
      subst e2
      rw [encE_cho 8 m ns n of N f s ov rfl, encE_cho 8 m ns n of N' f' s' ov' rfl, List.append_assoc, List.append_assoc] at he
      simp [lowE, highE] at i4 i5 j4 j5
      obtain ⟨h3, h4⟩ := be2_inj (by omega) (by omega) he
      have x1 := i10 0 (by omega)
      have x2 := j10 0 (by omega)
      rw [if_neg (by omega), if_pos rfl] at x1 x2
      rw [← h3] at h4 x2
      obtain ⟨h5, h6⟩ := ih N.toNat (hkids N.toNat (by omega)) _ _ x1 x2 (b12 0 (by omega)) (b22 0 (by omega)) _ _ h4
      exact ⟨same0 (by omega) (by rw [i1 (by omega), j1 (by omega)]) (by rw [i2 (by omega), j2 (by omega)]) rfl (fun i hi => by
        have : i = 0 := by omega
        subst this; exact h5), h6⟩

/-- And the same are marshalled alike. -/
theorem enc_same (t : KT) : ∀ T T', sameV T T' = true → encE t T = encE t T' := by
  induction t with
  | nil => intro T T' _; simp [encE]
  | mk k m ns n of ih =>
    intro T T' h
    cases T with
    | nil => cases T' <;> cases h
    | mk N f s c ov =>
    cases T' with
    | nil => cases h
    | mk N' f' s' c' ov' =>
    rw [sameV] at h
    simp only [Bool.and_eq_true, decide_eq_true_eq, List.all_eq_true, List.mem_range] at h
    obtain ⟨⟨⟨⟨rfl, h2⟩, rfl⟩, rfl⟩, h5⟩ := h
    have hm : (List.range c).map (fun i => encE (of (if k = 6 then i else if k = 8 then N.toNat else 0)) (ov i)) = (List.range c).map (fun i => encE (of (if k = 6 then i else if k = 8 then N.toNat else 0)) (ov' i)) :=
      List.map_congr_left (fun i hi => ih _ _ _ (h5 i (List.mem_range.1 hi)))
    rw [encE, encE, h2, hm]

theorem txt_even_len (s : Txt) : (txt s).length % 2 = 0 := by
  unfold txt
  rw [List.length_append, List.length_append, be2_length]
  split
  · simp; omega
  · simp; omega

theorem enc_even (t : KT) : ∀ T, (encE t T).length % 2 = 0 := by
  induction t with
  | nil => intro T; simp [encE]
  | mk k m ns n of ih =>
    intro T
    cases T with
    | nil => simp [encE]
    | mk N f s c ov =>
      have hp : ∀ j, (((List.range j).map (fun i => encE (of (if k = 6 then i else if k = 8 then N.toNat else 0)) (ov i))).flatten).length % 2 = 0 := by
        intro j
        induction j with
        | zero => simp
        | succ j ihj =>
          rw [List.range_succ, List.map_append, List.flatten_append, List.length_append]
          have := ih (if k = 6 then j else if k = 8 then N.toNat else 0) (ov j)
          simp only [List.map_cons, List.map_nil, List.flatten_cons, List.flatten_nil, List.append_nil]
          omega
      rw [encE]
      split
      · rw [be4_length]
      split
      · rw [be8_length]
      split
      · exact txt_even_len s
      have := hp c
      rw [List.length_append]
      have hh : (if k = 5 then be2 c else if k = 6 then [] else be2 N.toNat).length % 2 = 0 := by
        split
        · rw [be2_length]
        · split
          · rfl
          · rw [be2_length]
      omega
end
section
section
variable {P : Program} {ops : Array Oper} {Q : Exit → Act → World → Prop}

/-- The links that are carried out, with their values. -/
def linksDone (n : Nat) (F : Nat → OpSort) (listed : Array Bool) (vals : Nat → Value) (j : Nat) : Option Value :=
  if decide (j < n) && (F j).isLink && listed.getD j true then some (vals j) else none

/-- What the walk keeps: what holds when these links are carried out; the free ones that are carried out have their values. -/
structure RelInvL (ops : Array Oper) (S : (Nat → Option Value) → World → Prop) (F : Nat → OpSort) (orig : Nat → Value) (listed : Array Bool) (vals : Nat → Value) (w : World) : Prop where
  done : S (linksDone ops.size F listed vals) w
  free : ∀ i v, i < ops.size → listed.getD i true = true → (F i).val = some v → vals i = v
  rest : ∀ i, i < ops.size → listed.getD i true = false → vals i = orig i
  closed : ∀ i o, ops[i]? = some o → listed.getD i true = true → ∀ e ∈ o.after, Region.binds .any e = true → listed.getD e.on true = true

/-- One operation of number i, from a frame. -/
def RelOpL (P : Program) (ops : Array Oper) (Q : Exit → Act → World → Prop) (S : (Nat → Option Value) → World → Prop) (F : Nat → OpSort) (orig : Nat → Value) (a : Act) (vals : Nat → Value) (i : Nat) (o : Oper) : Prop :=
  ∀ (st : Nat → Option Value) (w : World), S st w → (∀ e ∈ o.after.toList, Region.binds .any e = true → (∀ v, (F e.on).val = some v → vals e.on = v) ∧ ((F e.on).isLink = true → st e.on = some (vals e.on))) → (∀ j, j < ops.size → waits ops j i = true → vals j = orig j ∧ st j = none) → st i = none →
    match F i with
    | .free v => ∀ K : Act → World → Prop, K (a.put o.dst v) w →
        if Region.wanted o (yielded ops a.tmps) = true then o.wp P a w K Q else K (a.put o.dst undef) w
    | .link u => ∀ K : Act → World → Prop, (∀ v w', (∀ x, u = some x → v = x) → S (fun j => if j = i then some v else st j) w' → K (a.put o.dst v) w') →
        if Region.wanted o (yielded ops a.tmps) = true then o.wp P a w K Q else K (a.put o.dst undef) w

theorem wpAny_links {fr : (Nat → Value) → Act}
    (hput : ∀ i o, ops[i]? = some o → ∀ vals v, (fr vals).put o.dst v = fr (fun j => if j = i then v else vals j))
    {S : (Nat → Option Value) → World → Prop} {F : Nat → OpSort} {orig : Nat → Value} (hdown : edgesDown ops = true)
    (step : ∀ i o, ops[i]? = some o → ∀ vals, RelOpL P ops Q S F orig (fr vals) vals i o)
    (fin : ∀ vals w, S (fun j => if decide (j < ops.size) && (F j).isLink then some (vals j) else none) w → (∀ i v, i < ops.size → (F i).val = some v → vals i = v) → Q .normal (fr vals) w) :
    ∀ (fuel : Nat) (listed : Array Bool) (vals : Nat → Value) (w : World), listed.size = ops.size → (listed.toList.filter (! ·)).length = fuel → RelInvL ops S F orig listed vals w → wpAny P .any ops Q fuel listed (fr vals) w := by
  have done : ∀ (listed : Array Bool) (vals : Nat → Value) (w : World), listed.size = ops.size → RelInvL ops S F orig listed vals w → Region.ready .any ops listed = [] → Q .normal (fr vals) w := by
    intro listed vals w hs hI hr
    have hall : ∀ n i, i < n → i < ops.size → listed.getD i true = true := by
      intro n
      induction n with
      | zero => intro i hi; omega
      | succ n ih =>
        intro i hi hio
        by_cases h : listed.getD i true = true
        · exact h
        · exfalso
          have hno : i ∉ Region.ready .any ops listed := by rw [hr]; exact List.not_mem_nil
          refine hno ?_
          unfold Region.ready
          rw [List.mem_filter]
          refine ⟨List.mem_range.2 hio, ?_⟩
          have ho : ops[i]? = some ops[i] := Array.getElem?_eq_getElem hio
          simp only [Bool.and_eq_true, ho, Option.map_some, Option.getD_some]
          refine ⟨by simpa using h, ?_⟩
          rw [Array.all_eq_true']
          intro e he
          by_cases hb : Region.binds .any e = true
          · have hlt := edgesDown_spec hdown ho he hb
            have h1 := ih e.on (by omega) (by omega)
            have h2 : e.on < listed.size := by omega
            rw [Array.getD_eq_getD_getElem?, Array.getElem?_eq_getElem h2, Option.getD_some] at h1
            simp [h2, h1]
          · simp [hb]
    refine fin vals w ?_ (fun i v hi hv => hI.free i v hi (hall (i + 1) i (by omega) hi) hv)
    have hS := hI.done
    have e : linksDone ops.size F listed vals = fun j => if decide (j < ops.size) && (F j).isLink then some (vals j) else none := by
      funext j
      unfold linksDone
      by_cases hj : j < ops.size
      · rw [hall (j + 1) j (by omega) hj, Bool.and_true]
      · simp [hj]
    rw [e] at hS
    exact hS
  intro fuel
  induction fuel with
  | zero =>
    intro listed vals w hs hf hI
    have hr : Region.ready .any ops listed = [] := by
      unfold Region.ready
      rw [List.filter_eq_nil_iff]
      intro i hi
      have hio := List.mem_range.1 hi
      have h0 : listed.toList.filter (! ·) = [] := List.eq_nil_of_length_eq_zero hf
      rw [List.filter_eq_nil_iff] at h0
      have hl : i < listed.size := by omega
      have h1 := h0 listed[i] (by simp)
      simp at h1
      simp [Array.getD, hl, h1]
    exact ⟨hr, done listed vals w hs hI hr⟩
  | succ fuel ih =>
    intro listed vals w hs hf hI
    refine ⟨fun hr => done listed vals w hs hI hr, ?_⟩
    intro i hi
    unfold Region.ready at hi
    rw [List.mem_filter] at hi
    obtain ⟨hio, hi2⟩ := hi
    have hio := List.mem_range.1 hio
    have ho : ops[i]? = some ops[i] := Array.getElem?_eq_getElem hio
    simp only [Bool.and_eq_true, ho, Option.map_some, Option.getD_some] at hi2
    obtain ⟨hn, ha⟩ := hi2
    have hil : i < listed.size := by omega
    have hnl : listed[i] = false := by simpa [Array.getD, hil] using hn
    have hni : listed.getD i true = false := by rw [Array.getD_eq_getD_getElem?, Array.getElem?_eq_getElem hil, hnl]; rfl
    have hcount : ((listed.setIfInBounds i true).toList.filter (! ·)).length = fuel := by
      have e : (listed.setIfInBounds i true).toList = listed.toList.set i true := by simp
      rw [e]
      have hd : listed.toList = listed.toList.take i ++ listed[i] :: listed.toList.drop (i + 1) := by
        have hl' : i < listed.toList.length := by simpa using hil
        have := (List.take_append_drop i listed.toList).symm
        rw [List.drop_eq_getElem_cons hl'] at this
        simpa using this
      have hset : listed.toList.set i true = listed.toList.take i ++ true :: listed.toList.drop (i + 1) := by
        rw [List.set_eq_take_append_cons_drop, if_pos (by simpa using hil)]
      rw [hset]
      rw [hd, hnl] at hf
      simp at hf ⊢
      omega
    have hnd : ∀ e ∈ ops[i].after, Region.binds .any e = true → listed.getD e.on true = true := by
      intro e he hb
      rw [Array.all_eq_true'] at ha
      have h1 := ha e he
      simp [hb] at h1
      have hlt := edgesDown_spec hdown ho he hb
      have h2 : e.on < listed.size := by omega
      simpa [Array.getD, h2] using h1
    have hwt : ∀ j, j < ops.size → waits ops j i = true → listed.getD j true = false := by
      intro j hjs hw
      unfold waits at hw
      have hjo : ops[j]? = some ops[j] := Array.getElem?_eq_getElem hjs
      rw [hjo] at hw
      simp only [Array.any_eq_true', Bool.and_eq_true, decide_eq_true_eq] at hw
      obtain ⟨e, he, hb, hei⟩ := hw
      cases hlj : listed.getD j true with
      | false => rfl
      | true =>
        have := hI.closed j _ hjo hlj e he hb
        rw [hei, hni] at this
        cases this
    have hnext : ∀ v w', S (linksDone ops.size F (listed.setIfInBounds i true) (fun j => if j = i then v else vals j)) w' → (∀ u, (F i).val = some u → v = u) →
        wpAny P .any ops Q fuel (listed.setIfInBounds i true) ((fr vals).put ops[i].dst v) w' := by
      intro v w' hd hu
      rw [hput i _ ho]
      refine ih _ _ _ (by simpa using hs) hcount ⟨hd, ?_, ?_, ?_⟩
      · intro j u hj hlj hF
        rw [getD_set _ _ _ hil] at hlj
        by_cases hji : j = i
        · subst hji; simpa using hu u hF
        · rw [if_neg hji] at hlj
          simp only [if_neg hji]
          exact hI.free j u hj hlj hF
      · intro j hj hlj
        rw [getD_set _ _ _ hil] at hlj
        by_cases hji : j = i
        · rw [if_pos hji] at hlj; cases hlj
        · rw [if_neg hji] at hlj
          simp only [if_neg hji]
          exact hI.rest j hj hlj
      · intro j o hjo hlj e he hb
        rw [getD_set _ _ _ hil] at hlj ⊢
        by_cases hei : e.on = i
        · rw [if_pos hei]
        · rw [if_neg hei]
          by_cases hji : j = i
          · subst hji
            rw [ho] at hjo
            cases hjo
            exact hnd e he hb
          · rw [if_neg hji] at hlj
            exact hI.closed j o hjo hlj e he hb
    have hst := step i _ ho vals _ w hI.done (by
      intro e he hb
      have hlt := edgesDown_spec hdown ho (by simpa using he) hb
      have hle := hnd e (by simpa using he) hb
      refine ⟨fun v hv => hI.free e.on v (by omega) hle hv, fun hL => ?_⟩
      unfold linksDone
      rw [hle, hL, decide_eq_true (show e.on < ops.size by omega)]
      rfl) (fun j hjs hw => ⟨hI.rest j hjs (hwt j hjs hw), by unfold linksDone; rw [hwt j hjs hw]; simp⟩) (by unfold linksDone; rw [hni]; simp)
    have hkey : if Region.wanted ops[i] (yielded ops (fr vals).tmps) = true then ops[i].wp P (fr vals) w (fun a' w' => wpAny P .any ops Q fuel (listed.setIfInBounds i true) a' w') Q else wpAny P .any ops Q fuel (listed.setIfInBounds i true) ((fr vals).put ops[i].dst undef) w := by
      cases hF : F i with
      | free v =>
        simp only [hF] at hst
        refine hst _ (hnext v w ?_ ?_)
        · have e : linksDone ops.size F (listed.setIfInBounds i true) (fun j => if j = i then v else vals j) = linksDone ops.size F listed vals := by
            funext j
            unfold linksDone
            rw [getD_set _ _ _ hil]
            by_cases hji : j = i
            · subst hji
              rw [hF]
              simp [OpSort.isLink]
            · simp only [if_neg hji]
          rw [e]
          exact hI.done
        · intro u hu
          rw [hF] at hu
          simpa [OpSort.val] using hu
      | link u =>
        simp only [hF] at hst
        refine hst _ (fun v w' hv' hS' => hnext v w' ?_ ?_)
        · have e : linksDone ops.size F (listed.setIfInBounds i true) (fun j => if j = i then v else vals j) = fun j => if j = i then some v else linksDone ops.size F listed vals j := by
            funext j
            unfold linksDone
            rw [getD_set _ _ _ hil]
            by_cases hji : j = i
            · subst hji
              rw [hF]
              simp [OpSort.isLink, hio]
            · simp only [if_neg hji]
          rw [e]
          exact hS'
        · intro u' hu
          rw [hF] at hu
          exact hv' u' (by simpa [OpSort.val] using hu)
    unfold wpOp
    simp only [ho]
    split
    · rename_i hw
      rw [if_pos hw] at hkey
      exact .inl hkey
    · rename_i hw
      rw [if_neg hw] at hkey
      exact hkey

/-- THE REGION: the operations written out, their slots 'ds', what holds when some links are carried out ('S', over their values), the free ones' values ('FL'). -/
theorem wp_region_links {id : Nat} {l : List Oper} {a : Act} {w : World} (hm : P.follows .mixedOrders = true)
    (ds : List (Option Nat)) (hds : l.map (·.dst) = ds) (hnd : noTwice ds = true) (hlt : ∀ d, some d ∈ ds → d < a.tmps.size)
    (S : (Nat → Option Value) → World → Prop) (FL : List OpSort) (hdown : edgesDown l.toArray = true)
    (h0 : S (fun _ => none) w.drew)
    (step : ∀ vals : Nat → Value, AllOps (RelOpL P l.toArray Q S (fun i => FL.getD i (.link none)) (fun i => ((ds[i]?.bind fun x => x).bind (a.tmps[·]?)).getD undef) (frOfU a ds vals) vals) l 0)
    (fin : ∀ vals w', S (fun j => if decide (j < l.length) && (FL.getD j (.link none)).isLink then some (vals j) else none) w' → (∀ i v, i < l.length → (FL.getD i (.link none)).val = some v → vals i = v) → Q .normal (frOfU a ds vals) w') : (Code.region id l.toArray true).wp P Q a w := by
  have hdst : ∀ (i : Nat) (o : Oper), l[i]? = some o → ds[i]? = some o.dst := by
    intro i o ho
    rw [← hds]
    simp [ho]
  refine wp_region_any hm ?_
  have ha : a = frOfU a ds (fun i => ((ds[i]?.bind fun x => x).bind (a.tmps[·]?)).getD undef) := by
    unfold frOfU
    have : fillU (fun j => ((ds[j]?.bind fun x => x).bind (a.tmps[·]?)).getD undef) ds 0 a.tmps = a.tmps := by
      apply Array.ext_getElem?
      intro x
      by_cases hx : some x ∈ ds
      · obtain ⟨j, hj, hjx⟩ := List.getElem_of_mem hx
        have hd : ds[j]? = some (some x) := by rw [List.getElem?_eq_getElem hj, hjx]
        rw [fillU_at _ ds 0 a.tmps hnd hlt j _ hd, Nat.zero_add, hd]
        have hb := hlt x hx
        simp [Array.getElem?_eq_getElem hb]
      · exact fillU_other _ _ _ _ _ hx
    rw [this]
  have hput : ∀ i o, l.toArray[i]? = some o → ∀ vals v, (frOfU a ds vals).put o.dst v = frOfU a ds (fun j => if j = i then v else vals j) := by
    intro i o ho vals v
    have h1 := hdst i o (by simpa using ho)
    unfold frOfU Act.put
    cases h2 : o.dst with
    | none =>
      rw [h2] at h1
      simp only
      congr 1
      apply Array.ext_getElem?
      intro x
      by_cases hx : some x ∈ ds
      · obtain ⟨j, hj, hjx⟩ := List.getElem_of_mem hx
        have hd : ds[j]? = some (some x) := by rw [List.getElem?_eq_getElem hj, hjx]
        rw [fillU_at _ ds 0 a.tmps hnd hlt j _ hd, fillU_at _ ds 0 a.tmps hnd hlt j _ hd, Nat.zero_add]
        have hne : j ≠ i := by
          intro e
          subst e
          rw [h1] at hd
          cases hd
        rw [if_neg hne]
      · rw [fillU_other _ _ _ _ _ hx, fillU_other _ _ _ _ _ hx]
    | some d =>
      rw [h2] at h1
      simp only
      congr 1
      apply Array.ext_getElem?
      intro x
      have hd : d < a.tmps.size := hlt d (List.mem_of_getElem? h1)
      rw [Array.getElem?_setIfInBounds]
      by_cases hx : some x ∈ ds
      · obtain ⟨j, hj, hjx⟩ := List.getElem_of_mem hx
        have hdj : ds[j]? = some (some x) := by rw [List.getElem?_eq_getElem hj, hjx]
        rw [fillU_at _ ds 0 a.tmps hnd hlt j _ hdj, fillU_at _ ds 0 a.tmps hnd hlt j _ hdj, Nat.zero_add]
        by_cases e : j = i
        · subst e
          rw [h1] at hdj
          simp only [Option.some.injEq] at hdj
          rw [if_pos hdj, if_pos (by rw [fillU_size]; exact hdj ▸ hd), if_pos rfl]
        · have hne : d ≠ x := by
            intro e2
            subst e2
            exact e (noTwice_inj hnd hdj h1)
          rw [if_neg hne, if_neg e]
      · have hne : d ≠ x := fun e => hx (e ▸ List.mem_of_getElem? h1)
        rw [if_neg hne, fillU_other _ _ _ _ _ hx, fillU_other _ _ _ _ _ hx]
  have hfalse : ∀ i, i < l.toArray.size → ¬ (Array.replicate l.toArray.size false).getD i true = true := by
    intro i hi h
    have hi' : i < l.length := by simpa using hi
    simp [Array.getD, hi'] at h
  have hmain := wpAny_links (P := P) (ops := l.toArray) (Q := Q) (fr := frOfU a ds) hput (S := S) (F := fun i => FL.getD i (.link none)) (orig := fun i => ((ds[i]?.bind fun x => x).bind (a.tmps[·]?)).getD undef) hdown (by
      intro i o ho vals
      have := (step vals).get i o (by simpa using ho)
      rw [Nat.zero_add] at this
      exact this) (fun vals w h1 h2 => fin vals w (by simpa using h1) (fun i v hi => h2 i v (by simpa using hi))) l.toArray.size (Array.replicate l.toArray.size false) (fun i => ((ds[i]?.bind fun x => x).bind (a.tmps[·]?)).getD undef) w.drew (by simp) (by simp) ⟨?_, ?_, ?_, ?_⟩
  · rw [← ha] at hmain
    exact hmain
  · have e : linksDone l.toArray.size (fun i => FL.getD i (.link none)) (Array.replicate l.toArray.size false) (fun i => ((ds[i]?.bind fun x => x).bind (a.tmps[·]?)).getD undef) = fun _ => none := by
      funext j
      unfold linksDone
      by_cases hj : j < l.toArray.size
      · have := hfalse j hj
        rw [Bool.not_eq_true] at this
        rw [this, Bool.and_false]
        rfl
      · rw [decide_eq_false hj]
        rfl
    rw [e]
    exact h0
  · intro i v hi hl
    exact absurd hl (hfalse i hi)
  · intro i _ _
    rfl
  · intro i o ho hl
    exact absurd hl (hfalse i (Array.getElem?_eq_some_iff.1 ho).1)

end
end
section
/-- What a value shows, in memory of R. -/
structure Seen where
  sh : (Nat → Prop) → World → Value → Prop
  fr : ∀ {R S : Nat → Prop} {w w' : World} {v : Value}, Fr S w w' → (∀ k, R k → ¬ S k) → sh R w v → sh R w' v
  mono : ∀ {R S : Nat → Prop} {w : World} {v : Value}, (∀ k, k < w.heap.size → R k → S k) → sh R w v → sh S w v

def pptr (g : Nat) : Value := .pointer (some ⟨g, 0, none⟩)

theorem pptr_inj {g g' : Nat} (h : pptr g = pptr g') : g = g' := by unfold pptr at h; simpa using h

def pupd (st : Nat → Option Value) (i : Nat) (v : Value) : Nat → Option Value := fun j => if j = i then some v else st j

theorem pupd_at (st : Nat → Option Value) (i : Nat) (v : Value) : pupd st i v i = some v := by unfold pupd; rw [if_pos rfl]

theorem pupd_ne (st : Nat → Option Value) (i j : Nat) (v : Value) (h : j ≠ i) : pupd st i v j = st j := by unfold pupd; rw [if_neg h]

def POff (a1 a2 : Nat) (st : Nat → Option Value) : Nat → Prop := fun k => st a1 ≠ some (pptr k) ∧ st a2 ≠ some (pptr k)

structure PDif (i1 i2 i3 a1 a2 : Nat) : Prop where
  d12 : i1 ≠ i2
  d13 : i1 ≠ i3
  d23 : i2 ≠ i3
  d1a : i1 ≠ a1
  d1b : i1 ≠ a2
  d2a : i2 ≠ a1
  d2b : i2 ≠ a2
  d3a : i3 ≠ a1
  d3b : i3 ≠ a2
  dab : a1 ≠ a2

/-- Ahead of the stores. -/
structure PA (X Y Z : Seen) (tx ty : TypeId) (zx zy : Array Value) (i1 i2 i3 a1 a2 : Nat) (w : World) (st : Nat → Option Value) (wx : World) : Prop where
  fr : Fr (fun _ => False) w wx
  c1 : ∀ v, st i1 = some v → X.sh (POff a1 a2 st) wx v
  c2 : ∀ v, st i2 = some v → Y.sh (POff a1 a2 st) wx v
  c3 : ∀ v, st i3 = some v → Z.sh (POff a1 a2 st) wx v
  p1 : ∀ v, st a1 = some v → ∃ g, v = pptr g ∧ w.heap.size ≤ g ∧ wx.heap[g]? = some (.cells zx tx (0, 0))
  p2 : ∀ v, st a2 = some v → ∃ g, v = pptr g ∧ w.heap.size ≤ g ∧ wx.heap[g]? = some (.cells zy ty (0, 0))
  ne : ∀ v, st a1 = some v → st a2 ≠ some v

/-- Two things in two blocks, all else off them. -/
def PIn (X Y : Seen) (tx ty : TypeId) (w : World) (g1 g2 : Nat) (wx : World) : Prop :=
  Fr (fun _ => False) w wx ∧ g1 ≠ g2 ∧ w.heap.size ≤ g1 ∧ w.heap.size ≤ g2 ∧
  (∃ cs, wx.heap[g1]? = some (.cells cs tx (0, 0)) ∧ X.sh (fun k => k ≠ g1 ∧ k ≠ g2) wx (.agg cs)) ∧
  (∃ cs, wx.heap[g2]? = some (.cells cs ty (0, 0)) ∧ Y.sh (fun k => k ≠ g1 ∧ k ≠ g2) wx (.agg cs))

/-- Between the stores. -/
def PB (X Y : Seen) (tx ty : TypeId) (zy : Array Value) (i2 a1 a2 : Nat) (w : World) (st : Nat → Option Value) (wx : World) : Prop :=
  ∃ g1 g2 v2, st a1 = some (pptr g1) ∧ st a2 = some (pptr g2) ∧ st i2 = some v2 ∧ Fr (fun _ => False) w wx ∧ g1 ≠ g2 ∧ w.heap.size ≤ g1 ∧ w.heap.size ≤ g2 ∧
  (∃ cs, wx.heap[g1]? = some (.cells cs tx (0, 0)) ∧ X.sh (fun k => k ≠ g1 ∧ k ≠ g2) wx (.agg cs)) ∧
  wx.heap[g2]? = some (.cells zy ty (0, 0)) ∧ Y.sh (fun k => k ≠ g1 ∧ k ≠ g2) wx v2

def PS (X Y Z : Seen) (tx ty : TypeId) (zx zy : Array Value) (i1 i2 i3 a1 a2 s1 s2 : Nat) (w : World) (st : Nat → Option Value) (wx : World) : Prop := match st s1, st s2 with
  | none, none => PA X Y Z tx ty zx zy i1 i2 i3 a1 a2 w st wx
  | some _, none => PB X Y tx ty zy i2 a1 a2 w st wx
  | _, some _ => ∃ g1 g2 v2, st a1 = some (pptr g1) ∧ st a2 = some (pptr g2) ∧ st i2 = some v2 ∧ PIn X Y tx ty w g1 g2 wx

section
variable {X Y Z : Seen} {tx ty : TypeId} {zx zy : Array Value} {i1 i2 i3 a1 a2 s1 s2 : Nat} {w wx wy : World} {st : Nat → Option Value}

theorem PS.a (h : PS X Y Z tx ty zx zy i1 i2 i3 a1 a2 s1 s2 w st wx) (h1 : st s1 = none) (h2 : st s2 = none) : PA X Y Z tx ty zx zy i1 i2 i3 a1 a2 w st wx := by
  unfold PS at h; rw [h1, h2] at h; exact h

theorem PS.b {u : Value} (h : PS X Y Z tx ty zx zy i1 i2 i3 a1 a2 s1 s2 w st wx) (h1 : st s1 = some u) (h2 : st s2 = none) : PB X Y tx ty zy i2 a1 a2 w st wx := by
  unfold PS at h; rw [h1, h2] at h; exact h

theorem PA.ps (h : PA X Y Z tx ty zx zy i1 i2 i3 a1 a2 w st wx) (h1 : st s1 = none) (h2 : st s2 = none) : PS X Y Z tx ty zx zy i1 i2 i3 a1 a2 s1 s2 w st wx := by
  unfold PS; rw [h1, h2]; exact h

theorem PS.fr (h : PS X Y Z tx ty zx zy i1 i2 i3 a1 a2 s1 s2 w st wx) : Fr (fun _ => False) w wx := by
  unfold PS at h
  split at h
  · exact h.fr
  · obtain ⟨_, _, _, _, _, _, hf, _⟩ := h; exact hf
  · obtain ⟨_, _, _, _, _, _, hf, _⟩ := h; exact hf

/-- Ahead of the second call nothing is stored. -/
theorem PS.early (h : PS X Y Z tx ty zx zy i1 i2 i3 a1 a2 s1 s2 w st wx) (h2 : st i2 = none) : st s1 = none ∧ st s2 = none := by
  unfold PS at h
  split at h
  · rename_i e1 e2
    exact ⟨e1, e2⟩
  · obtain ⟨_, _, _, _, _, e, _⟩ := h
    rw [h2] at e
    cases e
  · obtain ⟨_, _, _, _, _, e, _⟩ := h
    rw [h2] at e
    cases e

theorem PA.later (h : PA X Y Z tx ty zx zy i1 i2 i3 a1 a2 w st wx) (f : Fr (fun _ => False) wx wy) : PA X Y Z tx ty zx zy i1 i2 i3 a1 a2 w st wy where
  fr := h.fr.trans f (fun _ _ h => h)
  c1 v hv := X.fr f (fun _ _ h => h) (h.c1 v hv)
  c2 v hv := Y.fr f (fun _ _ h => h) (h.c2 v hv)
  c3 v hv := Z.fr f (fun _ _ h => h) (h.c3 v hv)
  p1 v hv := by obtain ⟨g, e, hg, hc⟩ := h.p1 v hv; exact ⟨g, e, hg, box_kept hc f (fun h => h)⟩
  p2 v hv := by obtain ⟨g, e, hg, hc⟩ := h.p2 v hv; exact ⟨g, e, hg, box_kept hc f (fun h => h)⟩
  ne := h.ne

theorem PA.new {S : Seen} (h : PA X Y Z tx ty zx zy i1 i2 i3 a1 a2 w st wx) {v : Value} (ht : S.sh (fun k => k < w.heap.size ∨ wx.heap.size ≤ k) wy v) : S.sh (POff a1 a2 st) wy v := by
  refine S.mono (fun k _ hk => ⟨fun e => ?_, fun e => ?_⟩) ht
  · obtain ⟨g, eg, hg, hc⟩ := h.p1 _ e
    have := pptr_inj eg
    have := lt_of_block hc
    omega
  · obtain ⟨g, eg, hg, hc⟩ := h.p2 _ e
    have := pptr_inj eg
    have := lt_of_block hc
    omega

theorem poff_upd (i : Nat) (v : Value) (h1 : i ≠ a1) (h2 : i ≠ a2) : POff a1 a2 (pupd st i v) = POff a1 a2 st := by
  unfold POff
  rw [pupd_ne _ _ _ _ h1.symm, pupd_ne _ _ _ _ h2.symm]

theorem PA.call1 (h : PA X Y Z tx ty zx zy i1 i2 i3 a1 a2 w st wx) (d : PDif i1 i2 i3 a1 a2) (f : Fr (fun _ => False) wx wy) {v : Value} (ht : X.sh (fun k => k < w.heap.size ∨ wx.heap.size ≤ k) wy v) : PA X Y Z tx ty zx zy i1 i2 i3 a1 a2 w (pupd st i1 v) wy := by
  have hl := h.later f
  refine ⟨hl.fr, fun u hu => ?_, fun u hu => ?_, fun u hu => ?_, fun u hu => ?_, fun u hu => ?_, fun u hu => ?_⟩
  · rw [pupd_at] at hu; cases hu; rw [poff_upd _ _ d.d1a d.d1b]; exact h.new ht
  · rw [pupd_ne _ _ _ _ d.d12.symm] at hu; rw [poff_upd _ _ d.d1a d.d1b]; exact hl.c2 u hu
  · rw [pupd_ne _ _ _ _ d.d13.symm] at hu; rw [poff_upd _ _ d.d1a d.d1b]; exact hl.c3 u hu
  · rw [pupd_ne _ _ _ _ d.d1a.symm] at hu; exact hl.p1 u hu
  · rw [pupd_ne _ _ _ _ d.d1b.symm] at hu; exact hl.p2 u hu
  · rw [pupd_ne _ _ _ _ d.d1a.symm] at hu; rw [pupd_ne _ _ _ _ d.d1b.symm]; exact hl.ne u hu

theorem PA.call2 (h : PA X Y Z tx ty zx zy i1 i2 i3 a1 a2 w st wx) (d : PDif i1 i2 i3 a1 a2) (f : Fr (fun _ => False) wx wy) {v : Value} (ht : Y.sh (fun k => k < w.heap.size ∨ wx.heap.size ≤ k) wy v) : PA X Y Z tx ty zx zy i1 i2 i3 a1 a2 w (pupd st i2 v) wy := by
  have hl := h.later f
  refine ⟨hl.fr, fun u hu => ?_, fun u hu => ?_, fun u hu => ?_, fun u hu => ?_, fun u hu => ?_, fun u hu => ?_⟩
  · rw [pupd_ne _ _ _ _ d.d12] at hu; rw [poff_upd _ _ d.d2a d.d2b]; exact hl.c1 u hu
  · rw [pupd_at] at hu; cases hu; rw [poff_upd _ _ d.d2a d.d2b]; exact h.new ht
  · rw [pupd_ne _ _ _ _ d.d23.symm] at hu; rw [poff_upd _ _ d.d2a d.d2b]; exact hl.c3 u hu
  · rw [pupd_ne _ _ _ _ d.d2a.symm] at hu; exact hl.p1 u hu
  · rw [pupd_ne _ _ _ _ d.d2b.symm] at hu; exact hl.p2 u hu
  · rw [pupd_ne _ _ _ _ d.d2a.symm] at hu; rw [pupd_ne _ _ _ _ d.d2b.symm]; exact hl.ne u hu

theorem PA.call3 (h : PA X Y Z tx ty zx zy i1 i2 i3 a1 a2 w st wx) (d : PDif i1 i2 i3 a1 a2) (f : Fr (fun _ => False) wx wy) {v : Value} (ht : Z.sh (fun k => k < w.heap.size ∨ wx.heap.size ≤ k) wy v) : PA X Y Z tx ty zx zy i1 i2 i3 a1 a2 w (pupd st i3 v) wy := by
  have hl := h.later f
  refine ⟨hl.fr, fun u hu => ?_, fun u hu => ?_, fun u hu => ?_, fun u hu => ?_, fun u hu => ?_, fun u hu => ?_⟩
  · rw [pupd_ne _ _ _ _ d.d13] at hu; rw [poff_upd _ _ d.d3a d.d3b]; exact hl.c1 u hu
  · rw [pupd_ne _ _ _ _ d.d23] at hu; rw [poff_upd _ _ d.d3a d.d3b]; exact hl.c2 u hu
  · rw [pupd_at] at hu; cases hu; rw [poff_upd _ _ d.d3a d.d3b]; exact h.new ht
  · rw [pupd_ne _ _ _ _ d.d3a.symm] at hu; exact hl.p1 u hu
  · rw [pupd_ne _ _ _ _ d.d3b.symm] at hu; exact hl.p2 u hu
  · rw [pupd_ne _ _ _ _ d.d3a.symm] at hu; rw [pupd_ne _ _ _ _ d.d3b.symm]; exact hl.ne u hu

theorem poff_new (S : Seen) {v : Value} (i : Nat) (cs : Array Value) (t : TypeId) (h : S.sh (POff a1 a2 st) wx v) : S.sh (POff a1 a2 (pupd st i (pptr wx.heap.size))) (wx.alloc (.cells cs t)) v := by
  have h1 := S.fr ((Fr.refl (fun _ => False) wx).alloc (.cells cs t)) (fun _ _ h => h) (S.mono (S := fun k => POff a1 a2 st k ∧ k < wx.heap.size) (fun k hk h => ⟨h, hk⟩) h)
  refine S.mono (fun k _ hk => ⟨fun e => ?_, fun e => ?_⟩) h1
  · unfold pupd at e
    split at e
    · have := pptr_inj (Option.some.inj e); omega
    · exact hk.1.1 e
  · unfold pupd at e
    split at e
    · have := pptr_inj (Option.some.inj e); omega
    · exact hk.1.2 e

theorem PA.alloc1 (h : PA X Y Z tx ty zx zy i1 i2 i3 a1 a2 w st wx) (d : PDif i1 i2 i3 a1 a2) : PA X Y Z tx ty zx zy i1 i2 i3 a1 a2 w (pupd st a1 (pptr wx.heap.size)) (wx.alloc (.cells zx tx)) := by
  have hl := h.later ((Fr.refl (fun _ => False) wx).alloc (.cells zx tx))
  refine ⟨hl.fr, fun u hu => ?_, fun u hu => ?_, fun u hu => ?_, fun u hu => ?_, fun u hu => ?_, fun u hu => ?_⟩
  · rw [pupd_ne _ _ _ _ d.d1a] at hu; exact poff_new X a1 _ _ (h.c1 u hu)
  · rw [pupd_ne _ _ _ _ d.d2a] at hu; exact poff_new Y a1 _ _ (h.c2 u hu)
  · rw [pupd_ne _ _ _ _ d.d3a] at hu; exact poff_new Z a1 _ _ (h.c3 u hu)
  · rw [pupd_at] at hu; cases hu; exact ⟨_, rfl, h.fr.size, heap_alloc_new _ _⟩
  · rw [pupd_ne _ _ _ _ d.dab.symm] at hu; exact hl.p2 u hu
  · rw [pupd_at] at hu; cases hu
    rw [pupd_ne _ _ _ _ d.dab.symm]
    intro e
    obtain ⟨g, eg, _, hc⟩ := h.p2 _ e
    have := pptr_inj eg
    have := lt_of_block hc
    omega

theorem PA.alloc2 (h : PA X Y Z tx ty zx zy i1 i2 i3 a1 a2 w st wx) (d : PDif i1 i2 i3 a1 a2) : PA X Y Z tx ty zx zy i1 i2 i3 a1 a2 w (pupd st a2 (pptr wx.heap.size)) (wx.alloc (.cells zy ty)) := by
  have hl := h.later ((Fr.refl (fun _ => False) wx).alloc (.cells zy ty))
  refine ⟨hl.fr, fun u hu => ?_, fun u hu => ?_, fun u hu => ?_, fun u hu => ?_, fun u hu => ?_, fun u hu => ?_⟩
  · rw [pupd_ne _ _ _ _ d.d1b] at hu; exact poff_new X a2 _ _ (h.c1 u hu)
  · rw [pupd_ne _ _ _ _ d.d2b] at hu; exact poff_new Y a2 _ _ (h.c2 u hu)
  · rw [pupd_ne _ _ _ _ d.d3b] at hu; exact poff_new Z a2 _ _ (h.c3 u hu)
  · rw [pupd_ne _ _ _ _ d.dab] at hu; exact hl.p1 u hu
  · rw [pupd_at] at hu; cases hu; exact ⟨_, rfl, h.fr.size, heap_alloc_new _ _⟩
  · rw [pupd_ne _ _ _ _ d.dab] at hu
    rw [pupd_at]
    intro e
    cases e
    obtain ⟨g, eg, _, hc⟩ := h.p1 _ hu
    have := pptr_inj eg
    have := lt_of_block hc
    omega

theorem PA.store1 (h : PA X Y Z tx ty zx zy i1 i2 i3 a1 a2 w st wx) {v1 v2 u : Value} {g1 g2 : Nat} {cs : Array Value} (h1 : st i1 = some v1) (h2 : st i2 = some v2) (ha : st a1 = some (pptr g1)) (hb : st a2 = some (pptr g2)) (hs : s2 ≠ s1) (hs2 : st s2 = none)
    (n1 : a1 ≠ s1) (n2 : a2 ≠ s1) (n3 : i2 ≠ s1) (hv : v1 = .agg cs)
    (hy : wy.heap[g1]? = some (.cells cs tx (0, 0))) (f : Fr (fun k => k = g1) wx wy) : PS X Y Z tx ty zx zy i1 i2 i3 a1 a2 s1 s2 w (pupd st s1 u) wy := by
  unfold PS
  rw [pupd_at, pupd_ne _ _ _ _ hs, hs2]
  obtain ⟨g, e, hg1, hc1⟩ := h.p1 _ ha
  obtain rfl := pptr_inj e
  obtain ⟨g', e', hg2, hc2⟩ := h.p2 _ hb
  obtain rfl := pptr_inj e'
  have hne : g1 ≠ g2 := fun e => h.ne _ ha (by rw [hb, e])
  have key : ∀ (S : Seen) v, S.sh (POff a1 a2 st) wx v → S.sh (fun k => k ≠ g1 ∧ k ≠ g2) wy v := fun S v hv =>
    S.fr f (fun k hk e => hk.1 e) (S.mono (S := fun k => k ≠ g1 ∧ k ≠ g2) (fun k _ hk => ⟨fun e => hk.1 (by rw [e]; exact ha), fun e => hk.2 (by rw [e]; exact hb)⟩) hv)
  exact ⟨g1, g2, v2, by rw [pupd_ne _ _ _ _ n1]; exact ha, by rw [pupd_ne _ _ _ _ n2]; exact hb, by rw [pupd_ne _ _ _ _ n3]; exact h2, h.fr.trans f (fun i hi e => by omega), hne, hg1, hg2, ⟨cs, hy, hv ▸ key X _ (h.c1 _ h1)⟩, box_kept hc2 f (fun e => hne e.symm), key Y _ (h.c2 _ h2)⟩

theorem PB.store2 (h : PB X Y tx ty zy i2 a1 a2 w st wx) {v2 u : Value} {g2 : Nat} {cs : Array Value} (h2 : st i2 = some v2) (hb : st a2 = some (pptr g2)) (n1 : a1 ≠ s2) (n2 : a2 ≠ s2) (n3 : i2 ≠ s2) (hv : v2 = .agg cs)
    (hy : wy.heap[g2]? = some (.cells cs ty (0, 0))) (f : Fr (fun k => k = g2) wx wy) : PS X Y Z tx ty zx zy i1 i2 i3 a1 a2 s1 s2 w (pupd st s2 u) wy := by
  obtain ⟨g1, g, v, ha', hb', h2', hf, hne, hg1, hg2, ⟨cs1, hc1, ht1⟩, hc2, ht2⟩ := h
  obtain rfl := pptr_inj (Option.some.inj (hb'.symm.trans hb))
  obtain rfl := Option.some.inj (h2'.symm.trans h2)
  have e : PS X Y Z tx ty zx zy i1 i2 i3 a1 a2 s1 s2 w (pupd st s2 u) wy = ∃ g1 g2 v2, pupd st s2 u a1 = some (pptr g1) ∧ pupd st s2 u a2 = some (pptr g2) ∧ pupd st s2 u i2 = some v2 ∧ PIn X Y tx ty w g1 g2 wy := by
    unfold PS
    rw [pupd_at]
    split <;> simp_all
  rw [e]
  exact ⟨g1, g, _, by rw [pupd_ne _ _ _ _ n1]; exact ha', by rw [pupd_ne _ _ _ _ n2]; exact hb', by rw [pupd_ne _ _ _ _ n3]; exact h2', hf.trans f (fun i hi e => by omega), hne, hg1, hg2, ⟨cs1, box_kept hc1 f hne, X.fr f (fun k hk e => hk.2 e) ht1⟩, ⟨cs, hy, hv ▸ Y.fr f (fun k hk e => hk.2 e) ht2⟩⟩

end
end
section
attribute [local go_sem] run_store_float
set_option maxRecDepth 100000

def seenT (T : KT) : Seen := ⟨fun R w v => Shows R w T v, fun f h h1 => Shows.fr f h _ _ h1, fun h h1 => Shows.mono h _ _ h1⟩
def seenV (T : VT) : Seen := ⟨fun R w v => VShows R w T v, fun f h h1 => VShows.fr f h _ _ h1, fun h h1 => VShows.mono h _ _ h1⟩
def seenN (l : List Int) : Seen := ⟨fun R w v => Nums R w l v, fun f h h1 => h1.fr f h, fun h h1 => h1.mono h⟩

theorem shows_lit8 {R : Nat → Prop} {w : World} {T : KT} {v : Value} (h : (seenT T).sh R w v) : ∃ (k : Nat) (m : Int) (a : Option Addr) (n c : Nat) (a' : Option Addr) (n' c' : Nat), v = .agg #[.int .u8 k, .int .i64 m, .slice a n c, .slice a' n' c'] := Shows.four h
theorem vshows_lit6 {R : Nat → Prop} {w : World} {T : VT} {v : Value} (h : (seenV T).sh R w v) : ∃ (n : Int) (f : Nat) (s : ByteArray) (a : Option Addr) (c cap : Nat), v = .agg #[.int .i64 n, .float .f64 f, .string s, .slice a c cap] := VShows.lit h

def zeroK4 : Array Value := #[.int .u8 0, .int .i64 0, .slice none 0 0, .slice none 0 0]
def zeroV4 : Array Value := #[.int .i64 0, .float .f64 0, .string ⟨#[]⟩, .slice none 0 0]

/-- A slice of numbers that came in. -/
theorem cnums_of {w : World} {v : Value} {l : List Int} (h : SeesL w v (l.map (Value.int .i64))) (hb : ∀ n ∈ l, (Lit.int .i64 n).wf = true) (hl : l.length ≤ 1000) : Nums (fun _ => True) w l v := by
  refine ⟨hl, fun x hx => ⟨(bounds_i64 (hb x hx)).1, (bounds_i64 (hb x hx)).2⟩, ?_⟩
  rcases h with ⟨h, a, c, rfl⟩ | ⟨g, off, cap, rfl, hle, hc⟩
  · left
    have : l = [] := by cases l with | nil => rfl | cons _ _ => simp at h
    exact ⟨this, a, c, rfl⟩
  · right
    refine ⟨g, off, cap, trivial, by simp, by simpa using hle, fun j x hj => hc j _ ?_⟩
    rw [List.getElem?_map, hj]; rfl

theorem cslice {w : World} {v : Value} {xs : List Value} (h : SeesL w v xs) : ∃ a c, v = .slice a xs.length c := by
  rcases h with ⟨rfl, a, c, rfl⟩ | ⟨g, off, cap, rfl, hle, hc⟩
  · exact ⟨a, c, rfl⟩
  · exact ⟨_, cap, rfl⟩

/-- What is built has words in bounds. -/
theorem vbs_shows {R : Nat → Prop} {w : World} (T : VT) : ∀ v, VShows R w T v → VBs T := by
  induction T with
  | nil => exact fun _ h => h.elim
  | mk n f s c of ih =>
    rintro v ⟨vo, rfl, hb, ho⟩
    refine ⟨hb.2.2.1, fun i hi => ?_⟩
    rcases ho with ⟨rfl, _⟩ | ⟨g, off, cap, hg, rfl, hle, hc⟩
    · omega
    · obtain ⟨x0, x1, x2, x3, c0, c1, c2, c3, hx⟩ := hc i hi
      exact ih i _ hx

/-- string(v) of bytes that were made. -/
theorem new_string {P : List UInt8} {w w' W : World} {v : Value} (h : NewB w w' v P) (f : Fr (fun _ => False) w' W) : (convert 26 9 v).run Try.prog W = .ok (.string ⟨P.toArray⟩) W :=
  ((h.1.fr f (fun _ _ h => h)).sees).string 26 5 9 Try.underlying26 Try.underlying5 Try.underlying9

theorem new_slice {P : List UInt8} {w w' : World} {v : Value} (h : NewB w w' v P) : ∃ a c, v = .slice a P.length c := slice_of_own h.1

/-- A list of Bools, of the law's own. -/
def awT : KT := .mk 5 5 [] 1 (fun _ => .mk 0 0 [] 0 (fun _ => .nil))
def awV : VT := .mk 0 0 [] 2 (fun i => if i = 0 then vnum 1 else vnum 0)

theorem aw_good : goodE awT := by
  refine ⟨⟨by omega, by decide +kernel⟩, fun i _ => ⟨⟨by omega, by decide +kernel⟩, fun i hi => by omega⟩⟩
theorem aw_err : putErr awT awV = 0 := by decide +kernel
theorem aw_enc : encE awT awV = [0, 2, 0, 1, 0, 0] := by decide +kernel
end
section
attribute [local go_sem] run_store_float
set_option maxRecDepth 100000

theorem cawake_any (w : World) : Calls Try.prog 7 #[] w fun e w' => e = .returned (.bool true) ∧ Fr (fun _ => False) w w' := by
  obtain ⟨oA, hoA⟩ : ∃ o, o = Obj.cells #[.int .u8 0, .int .i64 0, .slice none 0 0, .slice none 0 0] 34 (0, 0) := ⟨_, rfl⟩
  obtain ⟨oB, hoB⟩ : ∃ o, o = Obj.cells #[.int .u8 5, .int .i64 5, .slice none 0 0, .slice (some ⟨w.heap.size, 0, none⟩) 1 1] 34 (0, 0) := ⟨_, rfl⟩
  obtain ⟨oC, hoC⟩ : ∃ o, o = Obj.cells #[.int .i64 1, .float .f64 0, .string ⟨#[]⟩, .slice none 0 0, .int .i64 0, .float .f64 0, .string ⟨#[]⟩, .slice none 0 0] 42 (0, 0) := ⟨_, rfl⟩
  obtain ⟨w1, hw1⟩ : ∃ w1, w1 = ((w.alloc oA).alloc oB).alloc oC := ⟨_, rfl⟩
  have f1 : Fr (fun _ => False) w w1 := by rw [hw1]; exact (((Fr.refl _ _).alloc _).alloc _).alloc _
  have fB : Fr (fun _ => False) ((w.alloc oA).alloc oB) w1 := by rw [hw1]; exact (Fr.refl _ _).alloc _
  have hA : w1.heap[w.heap.size]? = some oA := box_kept (heap_alloc_first w oA oB) fB (fun h => h)
  have hB : w1.heap[w.heap.size + 1]? = some oB := box_kept (heap_alloc_two w oA oB) fB (fun h => h)
  have hC : w1.heap[w.heap.size + 1 + 1]? = some oC := by
    have h := heap_alloc_new ((w.alloc oA).alloc oB) oC
    rw [show ((w.alloc oA).alloc oB).heap.size = w.heap.size + 1 + 1 by simp] at h
    rw [hw1]; exact h
  rw [hoA] at hA
  rw [hoB] at hB
  rw [hoC] at hC
  have hsh : Shows (fun _ => True) w1 awT (.agg #[.int .u8 5, .int .i64 5, .slice none 0 0, .slice (some ⟨w.heap.size, 0, none⟩) 1 1]) := by
    refine ⟨_, _, rfl, by omega, by omega, ⟨by simp, by simp, .inl ⟨rfl, _, _, rfl⟩⟩, .inr ⟨_, 0, 1, trivial, rfl, by omega, fun i hi => ?_⟩⟩
    obtain rfl : i = 0 := by omega
    exact ⟨_, _, _, _, cells_row hA 0 _ rfl, cells_row hA 1 _ rfl, cells_row hA 2 _ rfl, cells_row hA 3 _ rfl, ⟨_, _, rfl, by omega, by omega, ⟨by simp, by simp, .inl ⟨rfl, _, _, rfl⟩⟩, .inl ⟨rfl, _, _, rfl⟩⟩⟩
  have hvs : VShows (fun _ => True) w1 awV (.agg #[.int .i64 0, .float .f64 0, .string ⟨#[]⟩, .slice (some ⟨w.heap.size + 1 + 1, 0, none⟩) 2 2]) := by
    refine ⟨_, rfl, ⟨by omega, by omega, by omega, by simp, by omega⟩, .inr ⟨_, 0, 2, trivial, rfl, by omega, fun i hi => ?_⟩⟩
    have hv : ∀ x : Int, -9223372036854775808 ≤ x → x ≤ 9223372036854775807 → VShows (fun _ => True) w1 (vnum x) (.agg #[.int .i64 x, .float .f64 0, .string ⟨#[]⟩, .slice none 0 0]) := fun x h1 h2 => ⟨_, rfl, ⟨h1, h2, by omega, by simp, by omega⟩, .inl ⟨rfl, _, _, rfl⟩⟩
    rcases (by omega : i = 0 ∨ i = 1) with rfl | rfl
    · exact ⟨_, _, _, _, cells_row hC 0 _ rfl, cells_row hC 1 _ rfl, cells_row hC 2 _ rfl, cells_row hC 3 _ rfl, hv 1 (by omega) (by omega)⟩
    · exact ⟨_, _, _, _, cells_row hC 4 _ rfl, cells_row hC 5 _ rfl, cells_row hC 6 _ rfl, cells_row hC 7 _ rfl, hv 0 (by omega) (by omega)⟩
  have HS := Lib.hid (And.intro hsh hvs)
  have F1 := Lib.hid f1
  have HW1 := Lib.hid hw1
  have HO := Lib.hid (And.intro hoA (And.intro hoB hoC))
  clear hsh hvs hA hB hC f1 fB hw1 hoA hoB hoC
  go_enter Try.func7, Try.ntmps7
  go_wp2_with fail
  rw [show (((w.alloc (Obj.cells #[.int .u8 0, .int .i64 0, .slice none 0 0, .slice none 0 0] 34)).alloc (Obj.cells #[.int .u8 5, .int .i64 5, .slice none 0 0, .slice (some ⟨w.heap.size, 0, none⟩) 1 1] 34)).alloc (Obj.cells #[.int .i64 1, .float .f64 0, .string ⟨#[]⟩, .slice none 0 0, .int .i64 0, .float .f64 0, .string ⟨#[]⟩, .slice none 0 0] 42)) = w1 from by rw [HW1.out, HO.out.1, HO.out.2.1, HO.out.2.2]]
  refine (Put_any (fun _ => True) awT awV _ _ w1 HS.out.1 HS.out.2 aw_good (by decide +kernel)).mono ?_
  rintro e w2 ⟨pv, rfl, hb, f2⟩
  rw [aw_err] at hb ⊢
  rw [if_pos rfl, aw_enc] at hb
  obtain ⟨a, c, rfl⟩ := new_slice hb
  have hstr := new_string hb (Fr.refl _ _)
  obtain ⟨X, hX⟩ : ∃ X : ByteArray, X = ⟨[0, 2, 0, 1, 0, 0].toArray⟩ := ⟨_, rfl⟩
  rw [← hX] at hstr
  have hxx : (X.toList == [0, 2, 0, 1, 0, 0]) = true := by
    rw [hX, Lib.toList_data]
    rfl
  clear hX
  simp only [List.length_cons, List.length_nil, Nat.zero_add, Nat.reduceAdd] at hstr ⊢
  have F2 := Lib.hid (F1.out.trans f2 (fun _ _ h => h))
  clear hb f2
  go_wp2_with fail
  go_ret
  exact ⟨rfl, F2.out⟩

/-- Put, of a type and a value built for it. -/
theorem cput_any (R : Nat → Prop) (t : KT) (T : VT) (v vv : Value) (w : World) (hsh : Shows R w t v) (hvs : VShows R w T vv) (hg : goodE t) (his : isVal t T = true) (hsz : szV T ≤ 100000) :
    Calls Try.prog 10 #[v, vv] w fun e w' => ∃ pv, e = .returned (.tuple #[pv, .int .i64 (if (encE t T).length ≤ 4000 then 0 else 6)]) ∧ NewB w w' pv (if (encE t T).length ≤ 4000 then encE t T else []) ∧ Fr (fun _ => False) w w' := by
  refine (Put_any R t T v vv w hsh hvs hg hsz).mono ?_
  rintro e w1 ⟨pv, rfl, hb, f⟩
  have he : putErr t T = if (encE t T).length ≤ 4000 then 0 else 6 := by unfold putErr; rw [if_pos his]
  rw [he] at hb
  refine ⟨pv, ?_, ?_, f⟩
  · rw [he]
    split <;> rfl
  · by_cases h : (encE t T).length ≤ 4000
    · rw [if_pos h] at hb ⊢
      rw [if_pos rfl] at hb
      exact hb
    · rw [if_neg h] at hb ⊢
      rw [if_neg (by omega)] at hb
      exact hb

theorem apart_walk (t : KN) (vn lv lv' : Value) (l l' : List Int) (w : World) (hn : NShows w t vn) (hl : SeesL w lv (l.map (Value.int .i64))) (hlw : ∀ n ∈ l, (Lit.int .i64 n).wf = true) (hl' : SeesL w lv' (l'.map (Value.int .i64))) (hlw' : ∀ n ∈ l', (Lit.int .i64 n).wf = true) :
    Calls Try.prog 4 #[vn, lv, lv'] w fun e w' => e = .returned (.bool true) ∧ Fr (fun _ => False) w w' := by
  obtain ⟨k, n, a, c, cap, rfl⟩ := hn.cells
  obtain ⟨la, lc, rfl⟩ := cslice hl
  obtain ⟨lb, ld, rfl⟩ := cslice hl'
  simp only [List.length_map] at hl hl' ⊢
  have HVOK := Lib.hid (NShows.vok t _ hn)
  have HN := Lib.hid hn
  have HL := Lib.hid (And.intro (And.intro hl hlw) (And.intro hl' hlw'))
  obtain ⟨ll, hll⟩ : ∃ ll, l.length = ll := ⟨_, rfl⟩
  obtain ⟨lm, hlm⟩ : ∃ lm, l'.length = lm := ⟨_, rfl⟩
  rw [hll, hlm]
  have HLL := Lib.hid (And.intro hll hlm)
  clear hn hl hlw hl' hlw' hll hlm
  obtain ⟨w1, hw1⟩ : ∃ w1, w1 = w.alloc (.cells #[.int .u8 k, .int .u8 n, .slice a c cap] 24) := ⟨_, rfl⟩
  have f1 : Fr (fun _ => False) w w1 := by rw [hw1]; exact (Fr.refl _ _).alloc _
  have q1 : w1.heap[w.heap.size]? = some (.cells #[.int .u8 k, .int .u8 n, .slice a c cap] 24 (0, 0)) := by rw [hw1]; exact heap_alloc_new _ _
  go_enter Try.func4, Try.ntmps4
  go_upto_region 1 with fail
  rw [← hw1]
  obtain ⟨nb, hnb⟩ : ∃ nb, w.heap.size = nb := ⟨_, rfl⟩
  rw [hnb] at q1 ⊢
  have H1 := Lib.hid (And.intro f1 q1)
  clear hw1 f1 q1 hnb
  go_wp2_with fail
  refine (cawake_any _).mono ?_
  rintro er w2 ⟨rfl, f2⟩
  have H2 := Lib.hid (And.intro (H1.out.1.trans f2 (fun _ _ h => h)) (box_kept H1.out.2 f2 (fun h => h)))
  have c0 := cells_row H2.out.2 0 _ rfl
  have c1 := cells_row H2.out.2 1 _ rfl
  have c2 := cells_row H2.out.2 2 _ rfl
  clear f2
  have hli := light_any t _ w2 4 4 rfl (by omega) (NShows.fr H2.out.1 _ _ HN.out)
  cases hB : lightE t 4 with
  | false =>
    rw [hB] at hli
    clear hB
    go_wp2_with fail
    refine hli.mono ?_
    rintro er w3 ⟨rfl, f3⟩
    have F3 := Lib.hid f3
    clear f3 hli c0 c1 c2
    go_wp2
    go_ret
    exact ⟨rfl, H2.out.1.trans F3.out (fun _ _ h => h)⟩
  | true =>
  rw [hB] at hli
  clear hB
  go_wp2_with fail
  refine hli.mono ?_
  rintro er w3 ⟨rfl, f3⟩
  have H3 := Lib.hid (And.intro (H2.out.1.trans f3 (fun _ _ h => h)) (box_kept H2.out.2 f3 (fun h => h)))
  clear f3 hli c0 c1 c2
  by_cases h40 : 40 < ll
  · have b40 : (40 : Int) < (ll : Int) := by omega
    clear h40
    go_wp2
    go_ret
    exact ⟨rfl, H3.out.1⟩
  have b40 : ¬ (40 : Int) < (ll : Int) := by omega
  have HM := Lib.hid h40
  clear h40
  by_cases h41 : 40 < lm
  · have b41 : (40 : Int) < (lm : Int) := by omega
    clear h41
    go_wp2
    go_ret
    exact ⟨rfl, H3.out.1⟩
  have b41 : ¬ (40 : Int) < (lm : Int) := by omega
  have HM' := Lib.hid h41
  clear h41
  have c0 := cells_row H3.out.2 0 _ rfl
  have c1 := cells_row H3.out.2 1 _ rfl
  have c2 := cells_row H3.out.2 2 _ rfl
  go_wp2_with fail
  clear b40 b41
  refine (vtype_any t _ w3 (NShows.fr H3.out.1 _ _ HN.out)).mono ?_
  rintro er w4 ⟨tv, rfl, ht, f4⟩
  have HG := Lib.hid (good_type t 4 (by omega) HVOK.out)
  have HC := Lib.hid (show costE (typeE [] t 4) ≤ 100000 from by have := cost_typeE [] t 4; omega)
  have HBT := Lib.hid (And.intro (build_type l t 4 (by omega) (by omega) HVOK.out) (build_type l' t 4 (by omega) (by omega) HVOK.out))
  have HBS := Lib.hid (And.intro (build_le l _ (good_type t 4 (by omega) HVOK.out).1 (0, 0)).2 (build_le l' _ (good_type t 4 (by omega) HVOK.out).1 (0, 0)).2)
  rw [← HBT.out.1.1, ← HBT.out.2.1] at HBS
  generalize typeE [] t 4 = tt at *
  obtain ⟨tk, tm, ta, tn, tc, ta', tn', tc', rfl⟩ := shows_lit8 (T := tt) ht
  have f5 : Fr (fun _ => False) w4 (w4.alloc (.cells #[.int .u8 tk, .int .i64 tm, .slice ta tn tc, .slice ta' tn' tc'] 34)) := (Fr.refl _ _).alloc _
  have q5 := heap_alloc_new w4 (.cells #[.int .u8 tk, .int .i64 tm, .slice ta tn tc, .slice ta' tn' tc'] 34)
  have HT := Lib.hid (Shows.fr f5 (fun _ _ h => h) _ _ (Shows.mono (S := fun _ => True) (fun _ _ _ => trivial) _ _ ht))
  have F5 := Lib.hid ((H3.out.1.trans f4 (fun _ _ h => h)).trans f5 (fun _ _ h => h))
  clear ht f4 f5 c0 c1 c2
  go_upto_region 6 with fail
  generalize w4.alloc (.cells #[.int .u8 tk, .int .i64 tm, .slice ta tn tc, .slice ta' tn' tc'] 34) = w5 at *
  generalize w4.heap.size = tb at *
  have H5 := Lib.hid (And.intro F5.out (And.intro q5 HT.out))
  clear q5
  have HNU : Hid (Nums (fun _ => True) w5 l (.slice la ll lc) ∧ Nums (fun _ => True) w5 l' (.slice lb lm ld)) := Lib.hid (by
    have h1 := cnums_of (HL.out.1.1.fr0 F5.out) HL.out.1.2 (by have := HM.out; have := HLL.out; omega)
    have h2 := cnums_of (HL.out.2.1.fr0 F5.out) HL.out.2.2 (by have := HM'.out; have := HLL.out; omega)
    rw [HLL.out.1] at h1
    rw [HLL.out.2] at h2
    exact ⟨h1, h2⟩)
  have hdif6 : PDif 2 5 99 6 7 := ⟨by decide, by decide, by decide, by decide, by decide, by decide, by decide, by decide, by decide, by decide⟩
  refine wp_region_links (by kernel_rfl) [some 31, some 32, some 33, some 34, some 35, some 36, some 8, some 9, none, none] rfl (by decide) (by intro d hd; simp at hd ⊢; omega)
    (fun st wx => (PS (seenV (BuildE l tt)) (seenV (BuildE l' tt)) (seenN []) 42 42 zeroV4 zeroV4 2 5 99 6 7 8 9 w5) st wx)
    [.free (.agg #[.int .u8 tk, .int .i64 tm, .slice ta tn tc, .slice ta' tn' tc']), .free (.slice la ll lc), .link none, .free (.agg #[.int .u8 tk, .int .i64 tm, .slice ta tn tc, .slice ta' tn' tc']), .free (.slice lb lm ld), .link none, .link none, .link none, .link none, .link none]
    (by kernel_rfl) ?h06 ?step6 ?fin6
  case h06 => exact PA.ps ⟨(Fr.refl _ _).drew, fun v h => (by cases h), fun v h => (by cases h), fun v h => (by cases h), fun v h => (by cases h), fun v h => (by cases h), fun v h => (by cases h)⟩ rfl rfl
  case step6 =>
    intro vals
    simp only [frOfU, fillU, List.setIfInBounds_toArray, List.set_cons_succ, List.set_cons_zero]
    repeat' (first | exact AllOps.nil | refine AllOps.cons ?_ ?_)
    all_goals
      intro st wx hS he hu hn Kc hK
      simp only [Act.put, List.setIfInBounds_toArray, List.set_cons_succ, List.set_cons_zero, List.getD_cons_zero, List.getD_cons_succ] at hK
      simp only [List.mem_cons, List.not_mem_nil, or_false, forall_eq_or_imp, forall_eq, Region.binds, forall_const, pmode_gc, Bool.false_eq_true, false_imp_iff, List.getD_cons_zero, List.getD_cons_succ, OpSort.val, OpSort.isLink, Option.some.injEq, forall_eq', reduceCtorEq, implies_true, true_and, and_true] at he
      obtain ⟨c0, c1, c2, c3⟩ := cell_of_four (box_kept H5.out.2.1 hS.fr (fun h => h))
      have HSX := Lib.hid hS
      clear hS
    all_goals first | (clear hu hn; (try simp only [he] at hK ⊢); go_simp; exact hK) | skip
    · have hs1 := (hu 8 (by simp) (by kernel_rfl)).2
      have hs2 := (hu 9 (by simp) (by kernel_rfl)).2
      have ha := Lib.hid (HSX.out.a hs1 hs2)
      clear hu hn
      simp only [he] at hK ⊢
      go_simp
      go_at_call 11
      refine (Build_any (fun _ => True) l tt _ (.slice la ll lc) wx (Shows.fr ha.out.fr (fun _ _ h => h) _ _ H5.out.2.2) ((HNU.out.1).fr ha.out.fr (fun _ _ h => h)) HC.out).mono ?_
      rintro er wa ⟨v', rfl, ht0, fra⟩
      have ht : (seenV (BuildE l tt)).sh (fun k => k < w5.heap.size ∨ wx.heap.size ≤ k) wa v' := VShows.mono (fun k _ h => .inr h) _ _ ht0
      exact hK _ _ (fun _ h => by cases h) (PA.ps (ha.out.call1 hdif6 fra ht) hs1 hs2)
    · have hs1 := (hu 8 (by simp) (by kernel_rfl)).2
      have hs2 := (hu 9 (by simp) (by kernel_rfl)).2
      have ha := Lib.hid (HSX.out.a hs1 hs2)
      clear hu hn
      simp only [he] at hK ⊢
      go_simp
      go_at_call 11
      refine (Build_any (fun _ => True) l' tt _ (.slice lb lm ld) wx (Shows.fr ha.out.fr (fun _ _ h => h) _ _ H5.out.2.2) ((HNU.out.2).fr ha.out.fr (fun _ _ h => h)) HC.out).mono ?_
      rintro er wa ⟨v', rfl, ht0, fra⟩
      have ht : (seenV (BuildE l' tt)).sh (fun k => k < w5.heap.size ∨ wx.heap.size ≤ k) wa v' := VShows.mono (fun k _ h => .inr h) _ _ ht0
      exact hK _ _ (fun _ h => by cases h) (PA.ps (ha.out.call2 hdif6 fra ht) hs1 hs2)
    · have hs1 := (hu 8 (by simp) (by kernel_rfl)).2
      have hs2 := (hu 9 (by simp) (by kernel_rfl)).2
      have ha := Lib.hid (HSX.out.a hs1 hs2)
      clear hu hn
      go_simp
      exact hK _ _ (fun _ h => by cases h) (PA.ps (ha.out.alloc1 hdif6) hs1 hs2)
    · have hs1 := (hu 8 (by simp) (by kernel_rfl)).2
      have hs2 := (hu 9 (by simp) (by kernel_rfl)).2
      have ha := Lib.hid (HSX.out.a hs1 hs2)
      clear hu hn
      go_simp
      exact hK _ _ (fun _ h => by cases h) (PA.ps (ha.out.alloc2 hdif6) hs1 hs2)
    · have hs2 := (hu 9 (by simp) (by kernel_rfl)).2
      have ha := Lib.hid (HSX.out.a hn hs2)
      have sa : st 6 = some (vals 6) := by first | exact he | exact he.1 | exact he.2 | exact he.2.1 | exact he.2.2 | exact he.2.2.1 | exact he.2.2.2 | exact he.2.2.2.1 | exact he.2.2.2.2 | exact he.2.2.2.2.1 | exact he.2.2.2.2.2 | exact he.2.2.2.2.2.1 | exact he.2.2.2.2.2.2 | exact he.2.2.2.2.2.2.1 | exact he.2.2.2.2.2.2.2 | exact he.2.2.2.2.2.2.2.1 | exact he.2.2.2.2.2.2.2.2 | exact he.2.2.2.2.2.2.2.2.1 | exact he.2.2.2.2.2.2.2.2.2 | exact he.2.2.2.2.2.2.2.2.2.1 | exact he.2.2.2.2.2.2.2.2.2.2 | exact he.2.2.2.2.2.2.2.2.2.2.1 | exact he.2.2.2.2.2.2.2.2.2.2.2 | exact he.2.2.2.2.2.2.2.2.2.2.2.1 | exact he.2.2.2.2.2.2.2.2.2.2.2.2 | exact he.2.2.2.2.2.2.2.2.2.2.2.2.1 | exact he.2.2.2.2.2.2.2.2.2.2.2.2.2 | exact he.2.2.2.2.2.2.2.2.2.2.2.2.2.1 | exact he.2.2.2.2.2.2.2.2.2.2.2.2.2.2
      have sb : st 7 = some (vals 7) := by first | exact he | exact he.1 | exact he.2 | exact he.2.1 | exact he.2.2 | exact he.2.2.1 | exact he.2.2.2 | exact he.2.2.2.1 | exact he.2.2.2.2 | exact he.2.2.2.2.1 | exact he.2.2.2.2.2 | exact he.2.2.2.2.2.1 | exact he.2.2.2.2.2.2 | exact he.2.2.2.2.2.2.1 | exact he.2.2.2.2.2.2.2 | exact he.2.2.2.2.2.2.2.1 | exact he.2.2.2.2.2.2.2.2 | exact he.2.2.2.2.2.2.2.2.1 | exact he.2.2.2.2.2.2.2.2.2 | exact he.2.2.2.2.2.2.2.2.2.1 | exact he.2.2.2.2.2.2.2.2.2.2 | exact he.2.2.2.2.2.2.2.2.2.2.1 | exact he.2.2.2.2.2.2.2.2.2.2.2 | exact he.2.2.2.2.2.2.2.2.2.2.2.1 | exact he.2.2.2.2.2.2.2.2.2.2.2.2 | exact he.2.2.2.2.2.2.2.2.2.2.2.2.1 | exact he.2.2.2.2.2.2.2.2.2.2.2.2.2 | exact he.2.2.2.2.2.2.2.2.2.2.2.2.2.1 | exact he.2.2.2.2.2.2.2.2.2.2.2.2.2.2
      have sc : st 2 = some (vals 2) := by first | exact he | exact he.1 | exact he.2 | exact he.2.1 | exact he.2.2 | exact he.2.2.1 | exact he.2.2.2 | exact he.2.2.2.1 | exact he.2.2.2.2 | exact he.2.2.2.2.1 | exact he.2.2.2.2.2 | exact he.2.2.2.2.2.1 | exact he.2.2.2.2.2.2 | exact he.2.2.2.2.2.2.1 | exact he.2.2.2.2.2.2.2 | exact he.2.2.2.2.2.2.2.1 | exact he.2.2.2.2.2.2.2.2 | exact he.2.2.2.2.2.2.2.2.1 | exact he.2.2.2.2.2.2.2.2.2 | exact he.2.2.2.2.2.2.2.2.2.1 | exact he.2.2.2.2.2.2.2.2.2.2 | exact he.2.2.2.2.2.2.2.2.2.2.1 | exact he.2.2.2.2.2.2.2.2.2.2.2 | exact he.2.2.2.2.2.2.2.2.2.2.2.1 | exact he.2.2.2.2.2.2.2.2.2.2.2.2 | exact he.2.2.2.2.2.2.2.2.2.2.2.2.1 | exact he.2.2.2.2.2.2.2.2.2.2.2.2.2 | exact he.2.2.2.2.2.2.2.2.2.2.2.2.2.1 | exact he.2.2.2.2.2.2.2.2.2.2.2.2.2.2
      have sd : st 5 = some (vals 5) := by first | exact he | exact he.1 | exact he.2 | exact he.2.1 | exact he.2.2 | exact he.2.2.1 | exact he.2.2.2 | exact he.2.2.2.1 | exact he.2.2.2.2 | exact he.2.2.2.2.1 | exact he.2.2.2.2.2 | exact he.2.2.2.2.2.1 | exact he.2.2.2.2.2.2 | exact he.2.2.2.2.2.2.1 | exact he.2.2.2.2.2.2.2 | exact he.2.2.2.2.2.2.2.1 | exact he.2.2.2.2.2.2.2.2 | exact he.2.2.2.2.2.2.2.2.1 | exact he.2.2.2.2.2.2.2.2.2 | exact he.2.2.2.2.2.2.2.2.2.1 | exact he.2.2.2.2.2.2.2.2.2.2 | exact he.2.2.2.2.2.2.2.2.2.2.1 | exact he.2.2.2.2.2.2.2.2.2.2.2 | exact he.2.2.2.2.2.2.2.2.2.2.2.1 | exact he.2.2.2.2.2.2.2.2.2.2.2.2 | exact he.2.2.2.2.2.2.2.2.2.2.2.2.1 | exact he.2.2.2.2.2.2.2.2.2.2.2.2.2 | exact he.2.2.2.2.2.2.2.2.2.2.2.2.2.1 | exact he.2.2.2.2.2.2.2.2.2.2.2.2.2.2
      obtain ⟨g1, e1, hg1, hc1⟩ := ha.out.p1 _ sa
      obtain ⟨g2, e2, hg2, hc2⟩ := ha.out.p2 _ sb
      obtain ⟨vn, vf, vs, va, vc, vcap, el⟩ := vshows_lit6 (ha.out.c1 _ sc)
      have HH := Lib.hid (And.intro sc (And.intro sd (And.intro (e1 ▸ sa) (And.intro (e2 ▸ sb) (And.intro el hc1)))))
      have z0 : wx.frozen? ⟨g1, 0, none⟩ = false := by simp [World.frozen?, hc1]
      have z1 : wx.frozen? ⟨g1, 1, none⟩ = false := by simp [World.frozen?, hc1]
      have z2 : wx.frozen? ⟨g1, 2, none⟩ = false := by simp [World.frozen?, hc1]
      have z3 : wx.frozen? ⟨g1, 3, none⟩ = false := by simp [World.frozen?, hc1]
      have d0 := cells_row hc1 0 _ rfl
      have d1 := cells_row hc1 1 _ rfl
      have d2 := cells_row hc1 2 _ rfl
      have d3 := cells_row hc1 3 _ rfl
      simp only [zeroV4, List.getElem_toArray, List.getElem_cons_succ, List.getElem_cons_zero] at d0 d1 d2 d3
      unfold pptr at e1
      clear hu hn hc1 hc2 sa sb sc sd e2 he c0 c1 c2 c3
      simp only [e1, el] at hK ⊢
      go_simp
      exact hK undef _ (fun _ h => by cases h) (PA.store1 ha.out HH.out.1 HH.out.2.1 HH.out.2.2.1 HH.out.2.2.2.1 (by decide) hs2 (by decide) (by decide) (by decide) HH.out.2.2.2.2.1 (store_four HH.out.2.2.2.2.2) (fr_four _ _ _ _ (Fr.refl _ _) (fun _ => rfl)))
    · have sb : st 7 = some (vals 7) := by first | exact he | exact he.1 | exact he.2 | exact he.2.1 | exact he.2.2 | exact he.2.2.1 | exact he.2.2.2 | exact he.2.2.2.1 | exact he.2.2.2.2 | exact he.2.2.2.2.1 | exact he.2.2.2.2.2 | exact he.2.2.2.2.2.1 | exact he.2.2.2.2.2.2 | exact he.2.2.2.2.2.2.1 | exact he.2.2.2.2.2.2.2 | exact he.2.2.2.2.2.2.2.1 | exact he.2.2.2.2.2.2.2.2 | exact he.2.2.2.2.2.2.2.2.1 | exact he.2.2.2.2.2.2.2.2.2 | exact he.2.2.2.2.2.2.2.2.2.1 | exact he.2.2.2.2.2.2.2.2.2.2 | exact he.2.2.2.2.2.2.2.2.2.2.1 | exact he.2.2.2.2.2.2.2.2.2.2.2 | exact he.2.2.2.2.2.2.2.2.2.2.2.1 | exact he.2.2.2.2.2.2.2.2.2.2.2.2 | exact he.2.2.2.2.2.2.2.2.2.2.2.2.1 | exact he.2.2.2.2.2.2.2.2.2.2.2.2.2 | exact he.2.2.2.2.2.2.2.2.2.2.2.2.2.1 | exact he.2.2.2.2.2.2.2.2.2.2.2.2.2.2
      have sd : st 5 = some (vals 5) := by first | exact he | exact he.1 | exact he.2 | exact he.2.1 | exact he.2.2 | exact he.2.2.1 | exact he.2.2.2 | exact he.2.2.2.1 | exact he.2.2.2.2 | exact he.2.2.2.2.1 | exact he.2.2.2.2.2 | exact he.2.2.2.2.2.1 | exact he.2.2.2.2.2.2 | exact he.2.2.2.2.2.2.1 | exact he.2.2.2.2.2.2.2 | exact he.2.2.2.2.2.2.2.1 | exact he.2.2.2.2.2.2.2.2 | exact he.2.2.2.2.2.2.2.2.1 | exact he.2.2.2.2.2.2.2.2.2 | exact he.2.2.2.2.2.2.2.2.2.1 | exact he.2.2.2.2.2.2.2.2.2.2 | exact he.2.2.2.2.2.2.2.2.2.2.1 | exact he.2.2.2.2.2.2.2.2.2.2.2 | exact he.2.2.2.2.2.2.2.2.2.2.2.1 | exact he.2.2.2.2.2.2.2.2.2.2.2.2 | exact he.2.2.2.2.2.2.2.2.2.2.2.2.1 | exact he.2.2.2.2.2.2.2.2.2.2.2.2.2 | exact he.2.2.2.2.2.2.2.2.2.2.2.2.2.1 | exact he.2.2.2.2.2.2.2.2.2.2.2.2.2.2
      have ss : st 8 = some (vals 8) := by first | exact he | exact he.1 | exact he.2 | exact he.2.1 | exact he.2.2 | exact he.2.2.1 | exact he.2.2.2 | exact he.2.2.2.1 | exact he.2.2.2.2 | exact he.2.2.2.2.1 | exact he.2.2.2.2.2 | exact he.2.2.2.2.2.1 | exact he.2.2.2.2.2.2 | exact he.2.2.2.2.2.2.1 | exact he.2.2.2.2.2.2.2 | exact he.2.2.2.2.2.2.2.1 | exact he.2.2.2.2.2.2.2.2 | exact he.2.2.2.2.2.2.2.2.1 | exact he.2.2.2.2.2.2.2.2.2 | exact he.2.2.2.2.2.2.2.2.2.1 | exact he.2.2.2.2.2.2.2.2.2.2 | exact he.2.2.2.2.2.2.2.2.2.2.1 | exact he.2.2.2.2.2.2.2.2.2.2.2 | exact he.2.2.2.2.2.2.2.2.2.2.2.1 | exact he.2.2.2.2.2.2.2.2.2.2.2.2 | exact he.2.2.2.2.2.2.2.2.2.2.2.2.1 | exact he.2.2.2.2.2.2.2.2.2.2.2.2.2 | exact he.2.2.2.2.2.2.2.2.2.2.2.2.2.1 | exact he.2.2.2.2.2.2.2.2.2.2.2.2.2.2
      have hb := Lib.hid (HSX.out.b ss hn)
      obtain ⟨g1, g2, v2, ea, eb, e2', hf, hne, hg1, hg2, hX, hc2, hY⟩ := hb.out
      have e2 : vals 7 = pptr g2 := Option.some.inj (sb.symm.trans eb)
      have ev : vals 5 = v2 := Option.some.inj (sd.symm.trans e2')
      obtain ⟨vn, vf, vs, va, vc, vcap, el⟩ := vshows_lit6 hY
      have HH := Lib.hid (And.intro (ev ▸ sd) (And.intro (e2 ▸ sb) (And.intro el hc2)))
      have z0 : wx.frozen? ⟨g2, 0, none⟩ = false := by simp [World.frozen?, hc2]
      have z1 : wx.frozen? ⟨g2, 1, none⟩ = false := by simp [World.frozen?, hc2]
      have z2 : wx.frozen? ⟨g2, 2, none⟩ = false := by simp [World.frozen?, hc2]
      have z3 : wx.frozen? ⟨g2, 3, none⟩ = false := by simp [World.frozen?, hc2]
      have d0 := cells_row hc2 0 _ rfl
      have d1 := cells_row hc2 1 _ rfl
      have d2 := cells_row hc2 2 _ rfl
      have d3 := cells_row hc2 3 _ rfl
      simp only [zeroV4, List.getElem_toArray, List.getElem_cons_succ, List.getElem_cons_zero] at d0 d1 d2 d3
      rw [el] at ev
      unfold pptr at e2
      clear hu hn hc2 sb sd ss ea eb e2' hX hY hf el he c0 c1 c2 c3
      simp only [e2, ev] at hK ⊢
      go_simp
      exact hK undef _ (fun _ h => by cases h) (PB.store2 hb.out (HH.out.2.2.1 ▸ HH.out.1) HH.out.2.1 (by decide) (by decide) (by decide) rfl (store_four HH.out.2.2.2) (fr_four _ _ _ _ (Fr.refl _ _) (fun _ => rfl)))
  case fin6 =>
  intro vals w6 hS hV
  have v0 := hV 0 _ (by decide) rfl
  have h2 : ∃ g1 g2 v2, some (vals 6) = some (pptr g1) ∧ some (vals 7) = some (pptr g2) ∧ some (vals 5) = some v2 ∧ PIn (seenV (BuildE l tt)) (seenV (BuildE l' tt)) 42 42 w5 g1 g2 w6 := hS
  obtain ⟨vb, xb, _, e4, e5, _, fo, hne, htb, hub, ⟨cs1, hc1, hx1⟩, ⟨cs2, hc2, hx2⟩⟩ := h2
  have x4 := Option.some.inj e4
  have x5 := Option.some.inj e5
  clear hS hV e4 e5
  unfold pptr at x4 x5
  simp only [frOfU, fillU, List.setIfInBounds_toArray, List.set_cons_succ, List.set_cons_zero]
  simp only [Nat.reduceAdd, x4, x5]
  clear x4 x5 hdif6 v0
  obtain ⟨vn, vf, vs, va, vc, vcap, e⟩ := vshows_lit6 hx1
  cases e
  obtain ⟨un, uf, us, ua, uc, ucap, e⟩ := vshows_lit6 hx2
  cases e
  obtain ⟨T, hT⟩ : ∃ T, BuildE l tt = T := ⟨_, rfl⟩
  obtain ⟨U, hU⟩ : ∃ U, BuildE l' tt = U := ⟨_, rfl⟩
  rw [hT] at hx1 HBT HBS
  rw [hU] at hx2 HBT HBS
  have H6 := Lib.hid (And.intro (F5.out.trans fo (fun _ _ h => h)) (And.intro (And.intro (box_kept H5.out.2.1 fo (fun h => h)) (Shows.fr fo (fun _ _ h => h) _ _ H5.out.2.2)) (And.intro (And.intro hc1 (VShows.mono (S := fun _ => True) (fun _ _ _ => trivial) _ _ hx1)) (And.intro hc2 (VShows.mono (S := fun _ => True) (fun _ _ _ => trivial) _ _ hx2)))))
  have HVB := Lib.hid (And.intro (vbs_shows T _ hx1) (vbs_shows U _ hx2))
  clear fo hne htb hub hc1 hx1 hc2 hx2 hT hU
  obtain ⟨c0, c1, c2, c3⟩ := cell_of_four H6.out.2.1.1
  obtain ⟨d0, d1, d2, d3⟩ := cell_of_four H6.out.2.2.1.1
  go_wp2_with fail
  refine (cput_any (fun _ => True) tt T _ _ w6 H6.out.2.1.2 H6.out.2.2.1.2 HG.out.1 HBT.out.1.2 (by have := HBS.out.1; have := HC.out; omega)).mono ?_
  rintro er w7 ⟨pv, rfl, hb7, f7⟩
  have HB7 := Lib.hid hb7
  have H7 := Lib.hid (And.intro (H6.out.1.trans f7 (fun _ _ h => h)) (And.intro (And.intro (box_kept H6.out.2.1.1 f7 (fun h => h)) (Shows.fr f7 (fun _ _ h => h) _ _ H6.out.2.1.2)) (And.intro (And.intro (box_kept H6.out.2.2.1.1 f7 (fun h => h)) (VShows.fr f7 (fun _ _ h => h) _ _ H6.out.2.2.1.2)) (And.intro (box_kept H6.out.2.2.2.1 f7 (fun h => h)) (VShows.fr f7 (fun _ _ h => h) _ _ H6.out.2.2.2.2)))))
  clear c0 c1 c2 c3 d0 d1 d2 d3 hb7 f7
  obtain ⟨pl, hpl⟩ : ∃ pl, (if (encE tt T).length ≤ 4000 then encE tt T else []) = pl := ⟨_, rfl⟩
  obtain ⟨pe, hpe⟩ : ∃ pe : Int, (if (encE tt T).length ≤ 4000 then 0 else 6 : Int) = pe := ⟨_, rfl⟩
  rw [hpl] at HB7
  rw [hpe]
  have HPE := Lib.hid (And.intro hpl hpe)
  clear hpl hpe
  obtain ⟨pa, pc, rfl⟩ := new_slice HB7.out
  obtain ⟨c0, c1, c2, c3⟩ := cell_of_four H7.out.2.1.1
  obtain ⟨d0, d1, d2, d3⟩ := cell_of_four H7.out.2.2.2.1
  go_wp2_with fail
  refine (cput_any (fun _ => True) tt U _ _ w7 H7.out.2.1.2 H7.out.2.2.2.2 HG.out.1 HBT.out.2.2 (by have := HBS.out.2; have := HC.out; omega)).mono ?_
  rintro er w8 ⟨qv, rfl, hb8, f8⟩
  have HB8 := Lib.hid hb8
  have HF8 := Lib.hid f8
  have H8 := Lib.hid (And.intro (H7.out.1.trans f8 (fun _ _ h => h)) (And.intro (And.intro (box_kept H7.out.2.2.1.1 f8 (fun h => h)) (VShows.fr f8 (fun _ _ h => h) _ _ H7.out.2.2.1.2)) (And.intro (box_kept H7.out.2.2.2.1 f8 (fun h => h)) (VShows.fr f8 (fun _ _ h => h) _ _ H7.out.2.2.2.2))))
  clear c0 c1 c2 c3 d0 d1 d2 d3 hb8 f8
  obtain ⟨ql, hql⟩ : ∃ ql, (if (encE tt U).length ≤ 4000 then encE tt U else []) = ql := ⟨_, rfl⟩
  obtain ⟨qe, hqe⟩ : ∃ qe : Int, (if (encE tt U).length ≤ 4000 then 0 else 6 : Int) = qe := ⟨_, rfl⟩
  rw [hql] at HB8
  rw [hqe]
  have HQE := Lib.hid (And.intro hql hqe)
  clear hql hqe
  obtain ⟨qa, qc, rfl⟩ := new_slice HB8.out
  by_cases hT : (encE tt T).length ≤ 4000
  case neg =>
    obtain rfl : 6 = pe := by have := HPE.out.2; rw [if_neg hT] at this; exact this
    clear hT
    go_wp2_with fail
    go_ret
    exact ⟨rfl, H8.out.1⟩
  obtain rfl : 0 = pe := by have := HPE.out.2; rw [if_pos hT] at this; exact this
  obtain rfl : encE tt T = pl := by have := HPE.out.1; rw [if_pos hT] at this; exact this
  by_cases hU : (encE tt U).length ≤ 4000
  case neg =>
    obtain rfl : 6 = qe := by have := HQE.out.2; rw [if_neg hU] at this; exact this
    clear hU hT
    go_wp2_with fail
    go_ret
    exact ⟨rfl, H8.out.1⟩
  obtain rfl : 0 = qe := by have := HQE.out.2; rw [if_pos hU] at this; exact this
  obtain rfl : encE tt U = ql := by have := HQE.out.1; rw [if_pos hU] at this; exact this
  clear hU hT
  have HSAME : Hid (decide (encE tt T = encE tt U) = sameV T U) := Lib.hid (by
    rw [Bool.eq_iff_iff, decide_eq_true_eq]
    constructor
    · intro h
      have := enc_inj tt HG.out.1 T U (by have := HBT.out.1.2; unfold isVal at this; rw [Bool.and_eq_true] at this; rw [← fits_is tt HG.out.1]; exact this.2) (by have := HBT.out.2.2; unfold isVal at this; rw [Bool.and_eq_true] at this; rw [← fits_is tt HG.out.1]; exact this.2) HVB.out.1 HVB.out.2 [] [] (by rw [h])
      exact this.1
    · exact enc_same tt T U)
  have HEV := Lib.hid (enc_even tt T)
  obtain ⟨SM, hSM⟩ : ∃ SM, sameV T U = SM := ⟨_, rfl⟩
  rw [hSM] at HSAME
  have HSM := Lib.hid hSM
  clear hSM
  generalize encE tt T = P at *
  generalize encE tt U = Q at *
  obtain ⟨X, hX⟩ : ∃ X : ByteArray, X = ⟨P.toArray⟩ := ⟨_, rfl⟩
  obtain ⟨Y, hY⟩ : ∃ Y : ByteArray, Y = ⟨Q.toArray⟩ := ⟨_, rfl⟩
  have hstr : ∀ W, Fr (fun _ => False) w8 W → (convert 26 9 (.slice pa P.length pc)).run Try.prog W = .ok (.string X) W ∧ (convert 26 9 (.slice qa Q.length qc)).run Try.prog W = .ok (.string Y) W := fun W f => by
    rw [hX, hY]
    exact ⟨new_string HB7.out (HF8.out.trans f (fun _ _ h => h)), new_string HB8.out f⟩
  have HXY : Hid ((X.toList == Y.toList) = SM) := Lib.hid (by rw [hX, hY, txt_beq]; exact HSAME.out)
  have HSTR := Lib.hid hstr
  have HSS : Hid ((SM == SM) = true) := Lib.hid (by simp)
  obtain ⟨z, hz⟩ : ∃ z, P.length = z := ⟨_, rfl⟩
  rw [hz] at HEV
  have HZ : Hid (Int.tmod (z : Int) 2 = 0 ∧ (z : Int) % 2 = 0) := Lib.hid ⟨by rw [show Int.tmod (z : Int) 2 = ((z % 2 : Nat) : Int) from (Int.ofNat_tmod z 2).symm, HEV.out]; rfl, by have := HEV.out; omega⟩
  rw [hz] at HSTR ⊢
  clear hstr hX hY hz
  go_upto_region 11 with fail
  refine wp_region_told (by kernel_rfl) (fun a b => Fr (fun _ => False) a b) (fun w => Fr.refl _ w) (fun _ _ _ h k => h.trans k (fun _ _ h => h)) [61, 62, 63, 64, 65, 66, 67, 68, 69, 70, 71, 72, 73, 74, 75, 6] rfl (by decide) (by intro d hd; simp at hd ⊢; omega)
    (fun i v _ => v = ([.slice pa z pc, .string X, .slice qa Q.length qc, .string Y, .bool SM, (.agg #[.int .i64 vn, .float .f64 vf, .string vs, .slice va vc vcap]), (.agg #[.int .i64 un, .float .f64 uf, .string us, .slice ua uc ucap]), .bool SM, .bool true, .bool true, .slice pa z pc, .int .i64 z, .int .i64 0, .bool true, .bool true, .bool true] : List Value).getD i undef)
    (fun _ _ _ _ _ h => h) (by kernel_rfl) ?step11 ?fin11
  case step11 =>
    intro vals
    simp only [frOf, fill, List.setIfInBounds_toArray, List.set_cons_succ, List.set_cons_zero]
    repeat' (first | exact AllOps.nil | refine AllOps.cons ?_ ?_)
    all_goals
      intro wx hle he K' hK
      simp only [Act.put, List.setIfInBounds_toArray, List.set_cons_succ, List.set_cons_zero, List.getD_cons_zero, List.getD_cons_succ] at hK
      simp only [List.mem_cons, List.not_mem_nil, or_false, forall_eq_or_imp, forall_eq, Region.binds, forall_const, false_imp_iff, List.getD_cons_zero, List.getD_cons_succ] at he
      try simp only [he] at hK ⊢
      have hl5 := Fr.trans (Fr.drew (Fr.refl (fun _ => False) w8)) hle (fun _ _ h => h)
      have hl8 := Lib.hid hl5
      obtain ⟨d0, d1, d2, d3⟩ := cell_of_four (box_kept H8.out.2.1.1 hl5 (fun h => h))
      obtain ⟨u0, u1, u2, u3⟩ := cell_of_four (box_kept H8.out.2.2.1 hl5 (fun h => h))
      obtain ⟨st1, st2⟩ := HSTR.out wx hl5
      have hxy := HXY.out
      have hss := HSS.out
      have hz1 := HZ.out.1
      have hz2 := HZ.out.2
      clear hl5 hle he
      try go_simp
    all_goals first
      | exact hK _ _ (Fr.refl _ _) rfl
      | skip
    · go_at_call 13; refine (vsame_any (fun _ => True) T U _ _ _ (VShows.fr hl8.out (fun _ _ h => h) _ _ H8.out.2.1.2) (VShows.fr hl8.out (fun _ _ h => h) _ _ H8.out.2.2.2) (by have := HBS.out.1; have := HC.out; omega)).mono ?_; rintro e1 wa ⟨rfl, fa⟩; rw [HSM.out]; exact hK _ _ fa rfl
  case fin11 =>
    intro vals w9 hle hV
    have h15 : vals 15 = .bool true := hV 15 (by decide)
    clear hV
    have hfin := H8.out.1.trans (Fr.trans (Fr.drew (Fr.refl (fun _ => False) w8)) hle (fun _ _ h => h)) (fun _ _ h => h)
    simp only [frOf, fill, List.setIfInBounds_toArray, List.set_cons_succ, List.set_cons_zero, Nat.reduceAdd, h15]
    clear hle h15
    go_wp2_with fail
    go_ret
    exact ⟨rfl, hfin⟩
end
section
structure KSP where
  takes : KN
  answers : KN
  collate : Nat
  timeout : Nat

structure KS where
  number : Nat
  aliases : List KN
  faults : Nat
  procs : List KSP

/-- The slice v shows these nodes. -/
def Nodes (w : World) (l : List KN) (v : Value) : Prop :=
  l.length ≤ maxLen ∧
  ((l = [] ∧ ∃ a c, v = .slice a 0 c) ∨
   ∃ g off cap, v = .slice (some ⟨g, off, none⟩) l.length cap ∧ l.length ≤ cap ∧ ∀ i x, l[i]? = some x → ∃ x0 x1 x2,
      w.cell? ⟨g, off + i * 3, none⟩ = some x0 ∧ w.cell? ⟨g, off + i * 3 + 1, none⟩ = some x1 ∧ w.cell? ⟨g, off + i * 3 + 2, none⟩ = some x2 ∧ NShows w x (.agg #[x0, x1, x2]))

/-- The slice v shows these procedures. -/
def SProcs (w : World) (l : List KSP) (v : Value) : Prop :=
  l.length ≤ maxLen ∧ (∀ p ∈ l, p.collate ≤ 255 ∧ p.timeout ≤ 65535) ∧
  ((l = [] ∧ ∃ a c, v = .slice a 0 c) ∨
   ∃ g off cap, v = .slice (some ⟨g, off, none⟩) l.length cap ∧ l.length ≤ cap ∧ ∀ i p, l[i]? = some p → ∃ x0 x1 x2 y0 y1 y2,
      (∀ j u, [x0, x1, x2, y0, y1, y2, .int .u8 p.collate, .int .u16 p.timeout][j]? = some u → w.cell? ⟨g, off + i * 8 + j, none⟩ = some u) ∧
      NShows w p.takes (.agg #[x0, x1, x2]) ∧ NShows w p.answers (.agg #[y0, y1, y2]))

/-- The value v shows the argument s. -/
def SShows (w : World) (s : KS) (v : Value) : Prop :=
  ∃ av pv, v = .agg #[.int .u16 s.number, av, .int .u8 s.faults, pv] ∧ s.number ≤ 65535 ∧ s.faults ≤ 255 ∧ Nodes w s.aliases av ∧ SProcs w s.procs pv

theorem Nodes.fr {w w' : World} {l : List KN} {v : Value} (h : Nodes w l v) (hf : Fr (fun _ => False) w w') : Nodes w' l v := by
  obtain ⟨h1, h2 | ⟨g, off, cap, rfl, hle, hc⟩⟩ := h
  · exact ⟨h1, .inl h2⟩
  · refine ⟨h1, .inr ⟨g, off, cap, rfl, hle, fun i x hi => ?_⟩⟩
    obtain ⟨x0, x1, x2, c0, c1, c2, hx⟩ := hc i x hi
    exact ⟨x0, x1, x2, cell_fr (R := fun _ => True) hf (fun _ _ h => h) trivial c0, cell_fr (R := fun _ => True) hf (fun _ _ h => h) trivial c1, cell_fr (R := fun _ => True) hf (fun _ _ h => h) trivial c2, NShows.fr hf _ _ hx⟩

theorem SProcs.fr {w w' : World} {l : List KSP} {v : Value} (h : SProcs w l v) (hf : Fr (fun _ => False) w w') : SProcs w' l v := by
  obtain ⟨h0, h1, h2 | ⟨g, off, cap, rfl, hle, hc⟩⟩ := h
  · exact ⟨h0, h1, .inl h2⟩
  · refine ⟨h0, h1, .inr ⟨g, off, cap, rfl, hle, fun i x hi => ?_⟩⟩
    obtain ⟨x0, x1, x2, y0, y1, y2, c, hx, hy⟩ := hc i x hi
    exact ⟨x0, x1, x2, y0, y1, y2, fun j u hj => cell_fr (R := fun _ => True) hf (fun _ _ h => h) trivial (c j u hj), NShows.fr hf _ _ hx, NShows.fr hf _ _ hy⟩

theorem SShows.fr {w w' : World} {s : KS} {v : Value} (h : SShows w s v) (hf : Fr (fun _ => False) w w') : SShows w' s v := by
  obtain ⟨av, pv, e, h1, h2, h3, h4⟩ := h
  exact ⟨av, pv, e, h1, h2, h3.fr hf, h4.fr hf⟩

theorem Nodes.shape {w : World} {l : List KN} {v : Value} (h : Nodes w l v) : ∃ a c, v = .slice a l.length c ∧ (l.length = 0 ∨ l.length ≤ c ∧ ∃ g off, a = some ⟨g, off, none⟩ ∧ ∀ i x, l[i]? = some x → ∃ x0 x1 x2,
      w.cell? ⟨g, off + i * 3, none⟩ = some x0 ∧ w.cell? ⟨g, off + i * 3 + 1, none⟩ = some x1 ∧ w.cell? ⟨g, off + i * 3 + 2, none⟩ = some x2 ∧ NShows w x (.agg #[x0, x1, x2])) := by
  obtain ⟨h1, ⟨rfl, a, c, rfl⟩ | ⟨g, off, cap, rfl, hle, hc⟩⟩ := h
  · exact ⟨a, c, rfl, .inl rfl⟩
  · exact ⟨_, cap, rfl, .inr ⟨hle, g, off, rfl, hc⟩⟩

theorem SProcs.shape {w : World} {l : List KSP} {v : Value} (h : SProcs w l v) : ∃ a c, v = .slice a l.length c ∧ (l.length = 0 ∨ l.length ≤ c ∧ ∃ g off, a = some ⟨g, off, none⟩ ∧ ∀ i p, l[i]? = some p → ∃ x0 x1 x2 y0 y1 y2,
      (∀ j u, [x0, x1, x2, y0, y1, y2, .int .u8 p.collate, .int .u16 p.timeout][j]? = some u → w.cell? ⟨g, off + i * 8 + j, none⟩ = some u) ∧
      NShows w p.takes (.agg #[x0, x1, x2]) ∧ NShows w p.answers (.agg #[y0, y1, y2])) := by
  obtain ⟨h0, h1, ⟨rfl, a, c, rfl⟩ | ⟨g, off, cap, rfl, hle, hc⟩⟩ := h
  · exact ⟨a, c, rfl, .inl rfl⟩
  · exact ⟨_, cap, rfl, .inr ⟨hle, g, off, rfl, hc⟩⟩

/-- Is it small? -/
def smallE (s : KS) : Bool := s.aliases.all (fun a => lightE a 3) && s.procs.all (fun p => lightE p.takes 3 && lightE p.answers 3) && decide (s.aliases.length ≤ 10) && decide (s.procs.length ≤ 10)

theorem all_take {α : Type} (f : α → Bool) (l : List α) (h : ∀ (i : Nat) (x : α), l[i]? = some x → f x = true) : l.all f = true := by
  rw [List.all_eq_true]
  intro x hx
  obtain ⟨i, hi, rfl⟩ := List.getElem_of_mem hx
  exact h i _ (List.getElem?_eq_getElem hi)

theorem all_not {α : Type} (f : α → Bool) (l : List α) (i : Nat) (x : α) (hx : l[i]? = some x) (h : f x = false) : l.all f = false := by
  rw [List.all_eq_false]
  exact ⟨x, List.mem_of_getElem? hx, by simpa using h⟩
end
section
open Go.ChangeShapes Go.WideShapes Go.ChangeAt Go.RowKit

theorem cellsOf_node : Try.prog.cellsOf 24 = 3 := by kernel_rfl
theorem cellsOf_nodes : Try.prog.cellsOf 22 = 1 := by kernel_rfl
theorem cellsOf_byte : Try.prog.cellsOf 5 = 1 := by kernel_rfl
theorem cellsOf_word : Try.prog.cellsOf 27 = 1 := by kernel_rfl

theorem spot_none {w : World} {a : Addr} {m : Nat} {cs : List Value} (h : w.cells? 0 a m = some cs) (hm : 0 < m) : a.spot = none := by
  obtain ⟨_, hl, h1⟩ := World.cells?_some h
  have h2 := h1 0 hm
  have e0 : a.add 0 = a := by simp [Addr.add]
  obtain ⟨v, hv⟩ : ∃ v, cs[0]? = some v := ⟨_, List.getElem?_eq_getElem (by omega)⟩
  rw [e0, hv] at h2
  have := addr_plain h2
  obtain ⟨b, o, s⟩ := a
  simp at this
  exact this

theorem cell_at {w : World} {b o : Nat} {m k : Nat} {cs : List Value} (h : w.cells? 0 ((⟨b, o, none⟩ : Addr).add k) m = some cs) (i : Nat) (v : Value) (hv : cs[i]? = some v) (hi : i < m) : w.cell? ⟨b, o + k + i, none⟩ = some v := by
  have h1 := (World.cells?_some h).2.2 i hi
  rw [hv] at h1
  have e : ((⟨b, o, none⟩ : Addr).add k).add i = ⟨b, o + k + i, none⟩ := by
    unfold Addr.add
    split <;> split <;> simp_all
  rw [e] at h1
  exact h1

section
variable {H : Type} (enc : TypeId × Value → H) (w : World)

/-- A slice of whatever: each element reads by a smaller fuel. -/
theorem slice_each {t e : TypeId} {fuel m : Nat} {cs : List Value} {x : DataW H × List MemPlace} (ht : Try.prog.underlying t = some (.slice e)) (hm : Try.prog.cellsOf e = m) (h0 : 0 < m) (h : DataW.trod enc Try.prog w 0 (fun _ => true) true fuel t cs = some x) :
    (∃ a, cs = [.slice a 0 0]) ∨ ∃ a len cap n, n < fuel ∧ cs = [.slice a len cap] ∧ len ≤ cap ∧ cap ≤ maxLen ∧ (len = 0 ∨ ∃ b o, a = some ⟨b, o, none⟩ ∧ ∀ i, i < len → ∃ cs' y, DataW.trod enc Try.prog w 0 (fun _ => true) true n e cs' = some y ∧
      ∀ j v, cs'[j]? = some v → j < m → w.cell? ⟨b, o + i * m + j, none⟩ = some v) := by
  rcases DataW.trod_slice ht h with ⟨rfl, _⟩ | ⟨a, len, cap, elems, rest, n, rfl, rfl, _, hb, hl, hc, hlen, hel, _, _⟩
  · exact .inl ⟨_, rfl⟩
  · refine .inr ⟨some a, len, cap, n, by omega, rfl, hl, hc, ?_⟩
    by_cases hz : len = 0
    · exact .inl hz
    right
    have each : ∀ i, i < len → ∃ cs' y, w.cells? 0 (a.add (i * m)) m = some cs' ∧ DataW.trod enc Try.prog w 0 (fun _ => true) true n e cs' = some y := by
      intro i hi
      have h1 := hel i hi
      rw [List.getElem?_eq_getElem (by omega), hm] at h1
      obtain ⟨cs', h2, h3⟩ := Option.bind_eq_some_iff.1 h1
      exact ⟨cs', _, h2, h3⟩
    obtain ⟨b, o, s⟩ := a
    obtain ⟨cs0, _, hc0, _⟩ := each 0 (by omega)
    have e0 : ((⟨b, o, s⟩ : Addr).add (0 * m)) = ⟨b, o, s⟩ := by simp [Addr.add]
    rw [e0] at hc0
    have hs := spot_none hc0 h0
    simp at hs
    subst hs
    refine ⟨b, o, rfl, fun i hi => ?_⟩
    obtain ⟨cs', y, h2, h3⟩ := each i hi
    exact ⟨cs', y, h3, fun j v hv hj => cell_at h2 j v hv hj⟩

theorem byte_reads {fuel : Nat} {cs : List Value} {x : DataW H × List MemPlace} (h : DataW.trod enc Try.prog w 0 (fun _ => true) true fuel 5 cs = some x) : ∃ k : Nat, k ≤ 255 ∧ cs = [.int .u8 k] := by
  obtain ⟨n, rfl, _, hw⟩ := DataW.trod_int Try.underlying5 h
  have := bounds_u8 hw
  exact ⟨n.toNat, by omega, by rw [Int.toNat_of_nonneg this.1]⟩

theorem word_reads {fuel : Nat} {cs : List Value} {x : DataW H × List MemPlace} (h : DataW.trod enc Try.prog w 0 (fun _ => true) true fuel 27 cs = some x) : ∃ k : Nat, k ≤ 65535 ∧ cs = [.int .u16 k] := by
  obtain ⟨n, rfl, _, hw⟩ := DataW.trod_int Try.underlying27 h
  have := bounds_u16 hw
  exact ⟨n.toNat, by omega, by rw [Int.toNat_of_nonneg this.1]⟩

set_option maxRecDepth 100000 in
theorem node_shows : ∀ (fuel : Nat) (cs : List Value) (x : DataW H × List MemPlace), DataW.trod enc Try.prog w 0 (fun _ => true) true fuel 24 cs = some x →
    ∃ t c0 c1 c2, cs = [c0, c1, c2] ∧ NShows w t (.agg #[c0, c1, c2]) := by
  intro fuel
  induction fuel using Nat.strongRecOn with
  | _ fuel ih =>
  intro cs x h
  obtain ⟨xs, n, rfl, rfl, hl, hlen, hf⟩ := DataW.trod_struct Try.underlying24 h
  rw [cellsOf_node] at hl
  match cs, hl with
  | [c0, c1, c2], _ =>
  have f0 : DataW.trod enc Try.prog w 0 (fun _ => true) true n 5 (List.take (Try.prog.cellsOf 5) (List.drop 0 [c0, c1, c2])) = xs[0]? := hf 0 _ rfl
  have f1 : DataW.trod enc Try.prog w 0 (fun _ => true) true n 5 (List.take (Try.prog.cellsOf 5) (List.drop 1 [c0, c1, c2])) = xs[1]? := hf 1 _ rfl
  have f2 : DataW.trod enc Try.prog w 0 (fun _ => true) true n 22 (List.take (Try.prog.cellsOf 22) (List.drop 2 [c0, c1, c2])) = xs[2]? := hf 2 _ rfl
  have hl3 : xs.length = 3 := hlen
  rw [List.getElem?_eq_getElem (by omega)] at f0 f1 f2
  simp only [cellsOf_byte, cellsOf_nodes, List.drop_zero, List.drop_succ_cons, List.take_succ_cons, List.take_zero] at f0 f1 f2
  obtain ⟨k, hk, e⟩ := byte_reads enc w f0
  simp at e
  subst e
  obtain ⟨m, hm, e⟩ := byte_reads enc w f1
  simp at e
  subst e
  rcases slice_each enc w Try.underlying22 cellsOf_node (by omega) f2 with ⟨a, e⟩ | ⟨a, len, cap, n', hn, e, hle, hc, hz | ⟨b, o, rfl, each⟩⟩
  · simp at e
    subst e
    exact ⟨.mk k m 0 (fun _ => .nil), _, _, _, rfl, _, rfl, hk, hm, by unfold maxLen; omega, .inl ⟨rfl, _, _, rfl⟩⟩
  · simp at e
    subst e hz
    exact ⟨.mk k m 0 (fun _ => .nil), _, _, _, rfl, _, rfl, hk, hm, by unfold maxLen; omega, .inl ⟨rfl, _, _, rfl⟩⟩
  · simp at e
    subst e
    have ch : ∀ i, ∃ t, i < len → ∃ x0 x1 x2, w.cell? ⟨b, o + i * 3, none⟩ = some x0 ∧ w.cell? ⟨b, o + i * 3 + 1, none⟩ = some x1 ∧ w.cell? ⟨b, o + i * 3 + 2, none⟩ = some x2 ∧ NShows w t (.agg #[x0, x1, x2]) := by
      intro i
      by_cases hi : i < len
      · obtain ⟨cs', y, h3, hcell⟩ := each i hi
        obtain ⟨t, x0, x1, x2, rfl, ht⟩ := ih n' (by omega) cs' y h3
        exact ⟨t, fun _ => ⟨x0, x1, x2, hcell 0 _ rfl (by omega), hcell 1 _ rfl (by omega), hcell 2 _ rfl (by omega), ht⟩⟩
      · exact ⟨.nil, fun h => absurd h hi⟩
    obtain ⟨of, hof⟩ := Classical.axiomOfChoice ch
    exact ⟨.mk k m len of, _, _, _, rfl, _, rfl, hk, hm, by omega, .inr ⟨b, o, cap, rfl, hle, hof⟩⟩

set_option maxRecDepth 100000 in
theorem nodes_show {fuel : Nat} {cs : List Value} {x : DataW H × List MemPlace} (h : DataW.trod enc Try.prog w 0 (fun _ => true) true fuel 22 cs = some x) : ∃ l v, cs = [v] ∧ Nodes w l v := by
  rcases slice_each enc w Try.underlying22 cellsOf_node (by omega) h with ⟨a, rfl⟩ | ⟨a, len, cap, n', hn, rfl, hle, hc, rfl | ⟨b, o, rfl, each⟩⟩
  · exact ⟨[], _, rfl, by unfold maxLen; simp, .inl ⟨rfl, _, _, rfl⟩⟩
  · exact ⟨[], _, rfl, by unfold maxLen; simp, .inl ⟨rfl, _, _, rfl⟩⟩
  · have ch : ∀ i, ∃ t, i < len → ∃ x0 x1 x2, w.cell? ⟨b, o + i * 3, none⟩ = some x0 ∧ w.cell? ⟨b, o + i * 3 + 1, none⟩ = some x1 ∧ w.cell? ⟨b, o + i * 3 + 2, none⟩ = some x2 ∧ NShows w t (.agg #[x0, x1, x2]) := by
      intro i
      by_cases hi : i < len
      · obtain ⟨cs', y, h3, hcell⟩ := each i hi
        obtain ⟨t, x0, x1, x2, rfl, ht⟩ := node_shows enc w n' cs' y h3
        exact ⟨t, fun _ => ⟨x0, x1, x2, hcell 0 _ rfl (by omega), hcell 1 _ rfl (by omega), hcell 2 _ rfl (by omega), ht⟩⟩
      · exact ⟨.nil, fun h => absurd h hi⟩
    obtain ⟨of, hof⟩ := Classical.axiomOfChoice ch
    have el : ((List.range len).map of).length = len := by simp
    refine ⟨(List.range len).map of, _, rfl, by rw [el]; omega, .inr ⟨b, o, cap, by rw [el], by rw [el]; exact hle, fun i t hi => ?_⟩⟩
    rw [List.getElem?_map] at hi
    by_cases hlt : i < len
    · rw [List.getElem?_range hlt] at hi
      cases hi
      exact hof i hlt
    · rw [List.getElem?_eq_none (by simp; omega)] at hi
      cases hi

end
end
section
open Go.ChangeShapes Go.WideShapes Go.ChangeAt Go.RowKit

set_option maxRecDepth 100000 in
/-- Whatever is handed in as a node shows plain data. -/
theorem node_any {H : Type} (enc : TypeId × Value → H) (w : World) {v : Value} {d : DataW H} {p : List MemPlace} {base : Nat} (hval : Value.okWide Try.prog w .any base 24 v)
    (h : DataW.Trod enc Try.prog w 0 (fun _ => true) true 24 v d p) : ∃ t, NShows w t v := by
  obtain ⟨cs, rfl, _⟩ := okWide_struct Try.underlying24 hval
  obtain ⟨fuel, hf⟩ := h
  obtain ⟨t, c0, c1, c2, e, ht⟩ := node_shows enc w fuel _ _ hf
  have hcs : (Value.agg cs).cells.toList = cs.toList := rfl
  rw [hcs] at e
  obtain ⟨cs⟩ := cs
  simp only at e
  subst e
  exact ⟨t, ht⟩

theorem courierapart_all {W : World} (t : KN) (vn : Value) (hn : NShows W t vn) (v1 : Value) (l1 : List Int) (w1 : SeesL W v1 (l1.map (Value.int .i64))) (wf1 : ∀ n ∈ l1, (Lit.int .i64 n).wf = true) (v2 : Value) (l2 : List Int) (w2 : SeesL W v2 (l2.map (Value.int .i64))) (wf2 : ∀ n ∈ l2, (Lit.int .i64 n).wf = true) :
    Calls Try.prog 4 #[vn, v1, v2] W fun e w' => e = .returned (.bool true) ∧ Fr (fun _ => False) W w' :=
  apart_walk t vn v1 v2 l1 l2 W hn w1 wf1 w2 wf2
end
section
/-- Block b is a Reader of the bytes l, with the error e. -/
structure Rd (w : World) (b : Nat) (v : Value) (l : List UInt8) (e : Int) : Prop where
  here : w.heap[b]? = some (.cells #[v, .int .i64 e] 96 (0, 0))
  sees : Sees w v l
  apart : v.ownBlock ≠ some b
  clean : e ≠ 0 → l = []
  old : ∀ k, v.ownBlock = some k → k < w.heap.size

theorem cell_of_two {w : World} {b : Nat} {v u : Value} {t : TypeId} (h : w.heap[b]? = some (.cells #[v, u] t (0, 0))) : w.cell? ⟨b, 0, none⟩ = some v ∧ w.cell? ⟨b, 1, none⟩ = some u ∧ w.frozen? ⟨b, 0, none⟩ = false ∧ w.frozen? ⟨b, 1, none⟩ = false := by
  simp [World.cell?, World.frozen?, h]

theorem two_setCell0 {w : World} {b : Nat} {v u : Value} {t : TypeId} (h : w.heap[b]? = some (.cells #[v, u] t (0, 0))) (x : Value) : (w.setCell ⟨b, 0, none⟩ x).heap[b]? = some (.cells #[x, u] t (0, 0)) := by
  rw [heap_setCell_same w b 0 _ t x h]; rfl
theorem two_setCell1 {w : World} {b : Nat} {v u : Value} {t : TypeId} (h : w.heap[b]? = some (.cells #[v, u] t (0, 0))) (x : Value) : (w.setCell ⟨b, 1, none⟩ x).heap[b]? = some (.cells #[v, x] t (0, 0)) := by
  rw [heap_setCell_same w b 1 _ t x h]; rfl

theorem rdread_any (v : Value) (l : List UInt8) (w : World) (h : Sees w v l) (hl : l.length ≤ 2000000000) :
    Calls Try.prog 20 #[v] w fun e w' => ∃ b v', e = .returned (.pointer (some ⟨b, 0, none⟩)) ∧ Rd w' b v' l 0 ∧ Fr (fun _ => False) w w' ∧ w.heap.size ≤ b ∧ (∀ k, v'.ownBlock = some k → w.heap.size ≤ k) := by
  go_enter Try.func20, Try.ntmps20
  go_wp2_with fail
  refine (pclone_any _ l _ h hl).mono ?_
  rintro e w1 ⟨v', rfl, ho, hf, hv⟩
  obtain ⟨a, c, rfl⟩ := slice_of_own ho
  have Hv := Lib.hid hv; clear hv
  go_wp2
  go_ret
  refine ⟨_, _, rfl, ⟨heap_alloc_new w1 _, ?_, ?_, fun h => absurd rfl h, fun k hk => by have := ho.lt k hk; rw [World.size_alloc]; omega⟩, hf.alloc _, hf.size, Hv.out⟩
  · exact ho.sees.fr ((Fr.refl (fun _ => False) w1).alloc _) (fun _ _ h => h)
  · intro e; have := ho.lt _ e; omega

theorem rderr_any (b : Nat) (v : Value) (l : List UInt8) (x : Int) (w : World) (h : Rd w b v l x) :
    Calls Try.prog 51 #[.pointer (some ⟨b, 0, none⟩)] w fun e w' => e = .returned (.int .i64 x) ∧ w = w' := by
  obtain ⟨c0, c1, f0, f1⟩ := cell_of_two h.here
  go_enter Try.func51, Try.ntmps51
  go_wp2
  go_ret
  exact ⟨rfl, rfl⟩

theorem rdleft_any (b : Nat) (v : Value) (l : List UInt8) (x : Int) (w : World) (h : Rd w b v l x) :
    Calls Try.prog 50 #[.pointer (some ⟨b, 0, none⟩)] w fun e w' => e = .returned (.int .i64 l.length) ∧ w = w' := by
  obtain ⟨c0, c1, f0, f1⟩ := cell_of_two h.here
  obtain ⟨a, c, rfl, hn⟩ := h.sees.shape
  clear hn
  go_enter Try.func50, Try.ntmps50
  go_wp2
  go_ret
  exact ⟨rfl, rfl⟩

theorem rdend_any (b : Nat) (v : Value) (l : List UInt8) (x : Int) (w : World) (h : Rd w b v l x) :
    Calls Try.prog 22 #[.pointer (some ⟨b, 0, none⟩)] w fun e w' => e = .returned (.int .i64 (if l = [] then x else 12)) ∧ w = w' := by
  by_cases hl : l = []
  · subst hl
    go_enter Try.func22, Try.ntmps22
    go_wp2_with (first | (go_at_call 50; refine (rdleft_any b v [] x _ h).mono ?_; rintro e w' ⟨rfl, rfl⟩) | (go_at_call 51; refine (rderr_any b v [] x _ h).mono ?_; rintro e w' ⟨rfl, rfl⟩))
    go_ret
    exact ⟨rfl, rfl⟩
  · have hl0 : (0 : Int) < l.length := by have := List.length_pos_iff.2 hl; omega
    have Hl := Lib.hid hl; clear hl
    go_enter Try.func22, Try.ntmps22
    go_wp2_with (go_at_call 50; refine (rdleft_any b v l x _ h).mono ?_; rintro e w' ⟨rfl, rfl⟩)
    go_ret
    exact ⟨rfl, rfl⟩

/-- The same Reader behind a call that may have changed it: the block of its bytes stays, or goes. -/
def Reads (b : Nat) (v : Value) (l : List UInt8) (x : Int) (w w' : World) : Prop :=
  ∃ v', Rd w' b v' l x ∧ Fr (fun k => k = b) w w' ∧ (v'.ownBlock = v.ownBlock ∨ v'.ownBlock = none)

theorem Reads.refl {b : Nat} {v : Value} {l : List UInt8} {x : Int} {w : World} (h : Rd w b v l x) : Reads b v l x w w := ⟨v, h, Fr.refl _ _, .inl rfl⟩
theorem Reads.trans {b : Nat} {v v1 : Value} {l2 : List UInt8} {x2 : Int} {w w1 w2 : World} (hf : Fr (fun k => k = b) w w1) (hv : v1.ownBlock = v.ownBlock ∨ v1.ownBlock = none) (h : Reads b v1 l2 x2 w1 w2) : Reads b v l2 x2 w w2 := by
  obtain ⟨v2, h2, hf2, hv2⟩ := h
  refine ⟨v2, h2, hf.trans hf2 (fun _ _ e => e), ?_⟩
  rcases hv2 with e | e
  · rw [e]; exact hv
  · exact .inr e

/-- Fail, told of the bytes and the error. -/
def failS (st : List UInt8 × Int) (x : Int) : List UInt8 × Int := if x = 0 ∨ st.2 ≠ 0 then st else ([], x)

theorem rdfail_any (b : Nat) (v : Value) (l : List UInt8) (x y : Int) (w : World) (h : Rd w b v l x) :
    Calls Try.prog 41 #[.pointer (some ⟨b, 0, none⟩), .int .i64 y] w fun e w' => e = .returned (.tuple #[]) ∧ Reads b v (failS (l, x) y).1 (failS (l, x) y).2 w w' := by
  obtain ⟨c0, c1, f0, f1⟩ := cell_of_two h.here
  by_cases hy : y = 0
  · subst hy
    go_enter Try.func41, Try.ntmps41
    go_wp2
    go_returns
    exact ⟨rfl, by simpa [failS] using Reads.refl h⟩
  by_cases hx : x = 0
  · have hy' : (y == 0) = false := by simpa using hy
    have hx' : (x != 0) = false := by simpa using hx
    have Hx := Lib.hid hx; clear hx
    have Hy := Lib.hid hy; clear hy
    go_enter Try.func41, Try.ntmps41
    go_wp2
    go_returns
    have e : failS (l, x) y = ([], y) := if_neg (by simp [Hx.out, Hy.out])
    rw [e]
    refine ⟨rfl, .slice none 0 0, ⟨two_setCell0 (two_setCell1 h.here _) _, .inl ⟨rfl, _, _, rfl⟩, by simp [Value.ownBlock], fun _ => rfl, fun k hk => by cases hk⟩, ?_, .inr rfl⟩
    exact ((Fr.refl _ _).set1 1 _).set1 0 _
  · have hy' : (y == 0) = false := by simpa using hy
    have hx' : (x != 0) = true := by simpa using hx
    have Hx := Lib.hid hx; clear hx
    have Hy := Lib.hid hy; clear hy
    go_enter Try.func41, Try.ntmps41
    go_wp2
    go_returns
    exact ⟨rfl, by simpa [failS, Hx.out, Hy.out] using Reads.refl h⟩

/-- The next k bytes, told of the bytes and the error. -/
def nextS (st : List UInt8 × Int) (k : Nat) : List UInt8 × (List UInt8 × Int) :=
  if st.1.length < k then ([], failS st 3) else (st.1.take k, (st.1.drop k, st.2))

theorem Sees.take {w : World} {a : Option Addr} {c k : Nat} {l : List UInt8} (h : Sees w (.slice a l.length c) l) (hk : k ≤ l.length) : Sees w (.slice a k c) (l.take k) := by
  rcases h with ⟨rfl, _⟩ | ⟨g, off, cap, e, hle, hc⟩
  · left; simp at hk; subst hk; exact ⟨rfl, _, _, rfl⟩
  · simp at e; obtain ⟨rfl, rfl⟩ := e
    right
    have hl : (l.take k).length = k := by simp; omega
    refine ⟨g, off, _, by rw [hl], by omega, fun j hj => ?_⟩
    rw [hc j (by omega)]
    simp [List.getD, show j < k by omega]

theorem Sees.drop_full {w : World} {a : Option Addr} {k : Nat} {l : List UInt8} (h : Sees w (.slice a l.length k) l) (hk : k ≤ l.length) :
    l.length = k := by
  rcases h with ⟨rfl, _⟩ | ⟨g, off, cap, e, hle, hc⟩
  · simp at hk; simp [hk]
  · simp at e; omega

theorem Sees.drop_part {w : World} {a : Option Addr} {c k : Nat} {l : List UInt8} (h : Sees w (.slice a l.length c) l) (hk : k ≤ l.length) :
    Sees w (.slice (a.map fun x => x.add k) (l.length - k) (c - k)) (l.drop k) := by
  rcases h with ⟨rfl, _⟩ | ⟨g, off, cap, e, hle, hc⟩
  · left; simp at hk; subst hk; exact ⟨by simp, _, _, rfl⟩
  · simp at e; obtain ⟨rfl, rfl⟩ := e
    right
    have hplain : (⟨g, off, none⟩ : Addr).add k = ⟨g, off + k, none⟩ := by unfold Addr.add; split <;> simp_all
    refine ⟨g, off + k, c - k, ?_, by simp; omega, fun j hj => ?_⟩
    · rw [Option.map_some, hplain, List.length_drop]
    · simp at hj
      rw [show off + k + j = off + (k + j) by omega, hc (k + j) (by omega)]
      simp [List.getD]

theorem part_block {a : Option Addr} {n c n' c' k : Nat} : (Value.slice (a.map fun x => x.add k) n c').ownBlock = (Value.slice a n' c).ownBlock := by
  cases a with
  | none => rfl
  | some a =>
    simp only [Option.map_some, Value.ownBlock, Addr.add]
    split <;> rfl

theorem Rd.next {w : World} {b : Nat} {a a' : Option Addr} {c c' k : Nat} {l : List UInt8} {x : Int} (h : Rd w b (.slice a l.length c) l x) (hk : k ≤ l.length)
    (hs : Sees w (.slice a' (l.length - k) c') (l.drop k)) (hb : (Value.slice a' (l.length - k) c').ownBlock = (Value.slice a l.length c).ownBlock) :
    Sees (w.setCell ⟨b, 0, none⟩ (.slice a' (l.length - k) c')) (.slice a k c) (l.take k) ∧ ((Value.slice a k c).ownBlock = (Value.slice a l.length c).ownBlock ∨ (Value.slice a k c).ownBlock = none) ∧
      Reads b (.slice a l.length c) (l.drop k) x w (w.setCell ⟨b, 0, none⟩ (.slice a' (l.length - k) c')) := by
  have hfr := (Fr.refl (fun k => k = b) w).set1 0 (.slice a' (l.length - k) c')
  have e1 : (Value.slice a k c).ownBlock = (Value.slice a l.length c).ownBlock := by cases a <;> rfl
  refine ⟨(h.sees.take hk).fr hfr ?_, .inl e1, _, ⟨two_setCell0 h.here _, hs.fr hfr ?_, ?_, ?_, fun k hk => by rw [World.size_setCell]; exact h.old k (hb ▸ hk)⟩, hfr, .inl hb⟩
  · rintro i hi rfl; exact h.apart (e1 ▸ hi)
  · rintro i hi rfl; exact h.apart (hb ▸ hi)
  · rw [hb]; exact h.apart
  · intro hx; rw [h.clean hx]; simp

theorem rdnext_any (b : Nat) (v : Value) (l : List UInt8) (x k : Int) (h0 : 0 ≤ k) (w : World) (hR : Rd w b v l x) :
    Calls Try.prog 66 #[.pointer (some ⟨b, 0, none⟩), .int .i64 k] w fun e w' => ∃ r, e = .returned r ∧ Sees w' r (nextS (l, x) k.toNat).1 ∧ (r.ownBlock = v.ownBlock ∨ r.ownBlock = none) ∧
      Reads b v (nextS (l, x) k.toNat).2.1 (nextS (l, x) k.toNat).2.2 w w' := by
  obtain ⟨k, rfl⟩ := Int.eq_ofNat_of_zero_le h0
  rw [Int.toNat_natCast]
  obtain ⟨c0, c1, f0, f1⟩ := cell_of_two hR.here
  obtain ⟨a, c, rfl, hn⟩ := hR.sees.shape
  clear hn
  by_cases hk : l.length < k
  · have e : nextS (l, x) k = ([], failS (l, x) 3) := if_pos hk
    have E := Lib.hid e; clear e
    go_enter Try.func66, Try.ntmps66
    go_wp2_with (go_at_call 41; refine (rdfail_any b _ l x 3 _ hR).mono ?_; rintro e w1 ⟨rfl, hr⟩)
    go_ret
    rw [E.out]
    exact ⟨_, rfl, .inl ⟨rfl, _, _, rfl⟩, .inr rfl, hr⟩
  · have e : nextS (l, x) k = (l.take k, (l.drop k, x)) := if_neg hk
    have E := Lib.hid e; clear e
    have hcap : l.length ≤ c := by
      rcases hR.sees with ⟨rfl, _⟩ | ⟨g, off, cap, e, hle, _⟩
      · simp
      · simp at e; omega
    by_cases hck : c = k
    · subst hck
      have hlc := hR.sees.drop_full (by omega)
      subst hlc
      go_enter Try.func66, Try.ntmps66
      go_wp2_with fail
      go_ret
      rw [E.out]
      exact ⟨.slice a l.length l.length, rfl, by simpa using hR.next (c' := 0) (a' := a) (Nat.le_refl _) (.inl ⟨by simp, _, _, by rw [Nat.sub_self]⟩) (by cases a <;> rfl)⟩
    · go_enter Try.func66, Try.ntmps66
      go_wp2_with fail
      go_ret
      rw [E.out]
      exact ⟨.slice a k c, rfl, hR.next (by omega) (hR.sees.drop_part (k := k) (by omega)) part_block⟩

theorem or8 (n c : Nat) (hn : n < 256 ^ 7) (hc : c < 2 ^ 8) : bits .or .u64 ((n : Int) * 256) (c : Int) = ((n * 256 + c : Nat) : Int) := by
  have e : ((n : Int) * 256) = ((n * 256 : Nat) : Int) := by omega
  rw [e, u64_or_nat (n * 256) c (by omega) (by omega)]
  congr 1
  have h := Nat.two_pow_add_eq_or_of_lt (i := 8) (b := c) hc n
  rw [show n * 256 = 2 ^ 8 * n by omega]
  exact h.symm

/-- A number of k bytes. -/
def numS (st : List UInt8 × Int) (k : Nat) : Nat × (List UInt8 × Int) := (beNum (nextS st k).1, (nextS st k).2)

theorem rdnumber_any (b : Nat) (v : Value) (l : List UInt8) (x k : Int) (h0 : 0 ≤ k) (h8 : k ≤ 8) (w : World) (hR : Rd w b v l x) :
    Calls Try.prog 63 #[.pointer (some ⟨b, 0, none⟩), .int .i64 k] w fun e w' => e = .returned (.int .u64 (numS (l, x) k.toNat).1) ∧
      Reads b v (numS (l, x) k.toNat).2.1 (numS (l, x) k.toNat).2.2 w w' := by
  go_enter Try.func63, Try.ntmps63
  go_wp2_with fail
  refine (rdnext_any b v l x k h0 _ hR).mono ?_
  rintro e w1 ⟨r, rfl, hs, hb, hr⟩
  have hlen : (nextS (l, x) k.toNat).1.length ≤ 8 := by unfold nextS; split <;> simp; omega
  have hnum : numS (l, x) k.toNat = (beNum (nextS (l, x) k.toNat).1, (nextS (l, x) k.toNat).2) := rfl
  generalize hp : nextS (l, x) k.toNat = p at *
  have Hp := Lib.hid hp; clear hp
  have Hn := Lib.hid hnum; clear hnum
  clear hb
  rcases hs with ⟨h0, a, c, rfl⟩ | ⟨g, off, c, rfl, hle, hc⟩
  · have Hz := Lib.hid h0; clear h0
    go_wp2_with fail
    refine wp_loop_rounds 1 ?_
    rw [rounds_succ]
    go_wp2
    go_ret
    rw [Hn.out, Hz.out]
    exact ⟨rfl, hr⟩
  go_wp2_with fail
  go_loop [5, 12] (fun n i => ∃ j : Nat, j ≤ p.1.length ∧ i = .int .i64 j ∧ n = .int .u64 (beNum (p.1.take j))) (fun _ i => p.1.length - (intOf i).toNat)
  case atStart => exact ⟨0, Nat.zero_le _, rfl, rfl⟩
  case round =>
    obtain ⟨j, hj, rfl, rfl⟩ := hrel
    by_cases hlt : j < p.1.length
    · have hsm := beNum_small (p.1.take j) 7 (by simp; omega)
      have hcell := hc j hlt
      clear hc
      have hsn : beNum (p.1.take (j + 1)) = beNum (p.1.take j) * 256 + (p.1.getD j 0).toNat := by
        rw [List.take_succ_eq_append_getElem hlt, beNum_snoc]
        simp [List.getD, hlt]
      have Hsn := Lib.hid hsn; clear hsn
      generalize p.1.getD j 0 = ch at *
      generalize beNum (p.1.take j) = n at *
      have hb := ch.toNat_lt
      unfold bv at hcell
      have hor := or8 n ch.toNat hsm hb
      go_wp2
      go_round
      case rel => exact ⟨j + 1, by omega, by go_num, by rw [Hsn.out]; exact congrArg (Value.int .u64) (by omega)⟩
      case measure => simp [intOf]; omega
    · go_wp2
      go_ret
      rw [Hn.out]
      have e : p.1.take j = p.1 := List.take_of_length_le (by omega)
      rw [e]
      exact ⟨rfl, hr⟩

theorem nextS_len (st : List UInt8 × Int) (k : Nat) : (nextS st k).1.length ≤ k := by
  unfold nextS; split
  · simp
  · simp; omega

theorem nextS_full (st : List UInt8 × Int) (k : Nat) : (nextS st k).2.2 = 0 → (nextS st k).1.length = k := by
  unfold nextS
  split
  · unfold failS
    intro h
    exfalso
    split at h
    · rename_i h2; rcases h2 with h2 | h2
      · omega
      · exact h2 h
    · simp at h
  · intro _; simp; omega

theorem numS_small (st : List UInt8 × Int) (k : Nat) : (numS st k).1 < 256 ^ k := beNum_small _ _ (nextS_len st k)

theorem rword_any (b : Nat) (v : Value) (l : List UInt8) (x : Int) (w : World) (hR : Rd w b v l x) :
    Calls Try.prog 43 #[.pointer (some ⟨b, 0, none⟩)] w fun e w' => e = .returned (.int .u16 (numS (l, x) 2).1) ∧ Reads b v (numS (l, x) 2).2.1 (numS (l, x) 2).2.2 w w' := by
  have hs : (numS (l, x) 2).1 < 256 ^ 2 := numS_small _ _
  go_enter Try.func43, Try.ntmps43
  go_wp2_with fail
  refine (rdnumber_any b v l x 2 (by omega) (by omega) _ hR).mono ?_
  rintro e w1 ⟨rfl, hr⟩
  rw [show (2 : Int).toNat = 2 from rfl] at hr ⊢
  generalize hp : numS (l, x) 2 = p at *
  have Hp := Lib.hid hp; clear hp
  go_wp2
  go_ret
  rw [Hp.out]
  exact ⟨rfl, hr⟩

theorem rlong_any (b : Nat) (v : Value) (l : List UInt8) (x : Int) (w : World) (hR : Rd w b v l x) :
    Calls Try.prog 44 #[.pointer (some ⟨b, 0, none⟩)] w fun e w' => e = .returned (.int .u32 (numS (l, x) 4).1) ∧ Reads b v (numS (l, x) 4).2.1 (numS (l, x) 4).2.2 w w' := by
  have hs : (numS (l, x) 4).1 < 256 ^ 4 := numS_small _ _
  go_enter Try.func44, Try.ntmps44
  go_wp2_with fail
  refine (rdnumber_any b v l x 4 (by omega) (by omega) _ hR).mono ?_
  rintro e w1 ⟨rfl, hr⟩
  rw [show (4 : Int).toNat = 4 from rfl] at hr ⊢
  generalize hp : numS (l, x) 4 = p at *
  have Hp := Lib.hid hp; clear hp
  go_wp2
  go_ret
  rw [Hp.out]
  exact ⟨rfl, hr⟩

theorem rquad_any (b : Nat) (v : Value) (l : List UInt8) (x : Int) (w : World) (hR : Rd w b v l x) :
    Calls Try.prog 65 #[.pointer (some ⟨b, 0, none⟩)] w fun e w' => e = .returned (.int .u64 (numS (l, x) 8).1) ∧ Reads b v (numS (l, x) 8).2.1 (numS (l, x) 8).2.2 w w' := by
  go_enter Try.func65, Try.ntmps65
  go_wp2_with fail
  refine (rdnumber_any b v l x 8 (by omega) (by omega) _ hR).mono ?_
  rintro e w1 ⟨rfl, hr⟩
  rw [show (8 : Int).toNat = 8 from rfl] at hr ⊢
  generalize hp : numS (l, x) 8 = p at *
  have Hp := Lib.hid hp; clear hp
  go_wp2
  go_ret
  rw [Hp.out]
  exact ⟨rfl, hr⟩

/-- A Word that is at most most. -/
def withinS (st : List UInt8 × Int) (most : Int) : Nat × (List UInt8 × Int) :=
  if most < (numS st 2).1 then (0, failS (numS st 2).2 7) else numS st 2

theorem rdwithin_any (b : Nat) (v : Value) (l : List UInt8) (x most : Int) (w : World) (hR : Rd w b v l x) :
    Calls Try.prog 42 #[.pointer (some ⟨b, 0, none⟩), .int .i64 most] w fun e w' => e = .returned (.int .i64 (withinS (l, x) most).1) ∧ Reads b v (withinS (l, x) most).2.1 (withinS (l, x) most).2.2 w w' := by
  have hs : (numS (l, x) 2).1 < 256 ^ 2 := numS_small _ _
  have hw : withinS (l, x) most = if most < (numS (l, x) 2).1 then (0, failS (numS (l, x) 2).2 7) else numS (l, x) 2 := rfl
  have Hw := Lib.hid hw; clear hw
  go_enter Try.func42, Try.ntmps42
  go_wp2_with fail
  refine (rword_any b v l x _ hR).mono ?_
  rintro e w1 ⟨rfl, hr⟩
  generalize numS (l, x) 2 = p at *
  obtain ⟨v1, hR1, hf1, hv1⟩ := hr
  have Hv := Lib.hid hv1; clear hv1
  by_cases hm : most < p.1
  · have Hw' : Hid (withinS (l, x) most = (0, failS p.2 7)) := Lib.hid (by rw [Hw.out, if_pos hm])
    clear Hw
    go_wp2_with fail
    refine (rdfail_any b v1 p.2.1 p.2.2 7 _ hR1).mono ?_
    rintro e w2 ⟨rfl, hr⟩
    go_wp2
    go_ret
    rw [Hw'.out]
    exact ⟨rfl, hr.trans hf1 Hv.out⟩
  · have Hw' : Hid (withinS (l, x) most = p) := Lib.hid (by rw [Hw.out, if_neg hm])
    clear Hw
    go_wp2_with fail
    go_ret
    rw [Hw'.out]
    exact ⟨rfl, v1, hR1, hf1, Hv.out⟩

/-- A text of at most most bytes. -/
def textS (st : List UInt8 × Int) (most : Int) : List UInt8 × (List UInt8 × Int) :=
  let n := withinS st most
  let p := nextS n.2 (n.1 + n.1 % 2)
  if p.2.2 ≠ 0 then ([], p.2) else if n.1 % 2 = 1 ∧ p.1.getD n.1 0 ≠ 0 then ([], failS p.2 4) else (p.1.take n.1, p.2)

theorem withinS_small (st : List UInt8 × Int) (most : Int) : (withinS st most).1 < 65536 := by
  unfold withinS; split
  · simp
  · exact numS_small _ _

theorem rtext_any (b : Nat) (v : Value) (l : List UInt8) (x most : Int) (w : World) (hR : Rd w b v l x) :
    Calls Try.prog 46 #[.pointer (some ⟨b, 0, none⟩), .int .i64 most] w fun e w' => e = .returned (.string ⟨(textS (l, x) most).1.toArray⟩) ∧ Reads b v (textS (l, x) most).2.1 (textS (l, x) most).2.2 w w' := by
  have hs := withinS_small (l, x) most
  have ht : textS (l, x) most = (if (nextS (withinS (l, x) most).2 ((withinS (l, x) most).1 + (withinS (l, x) most).1 % 2)).2.2 ≠ 0 then ([], (nextS (withinS (l, x) most).2 ((withinS (l, x) most).1 + (withinS (l, x) most).1 % 2)).2) else if (withinS (l, x) most).1 % 2 = 1 ∧ (nextS (withinS (l, x) most).2 ((withinS (l, x) most).1 + (withinS (l, x) most).1 % 2)).1.getD (withinS (l, x) most).1 0 ≠ 0 then ([], failS (nextS (withinS (l, x) most).2 ((withinS (l, x) most).1 + (withinS (l, x) most).1 % 2)).2 4) else ((nextS (withinS (l, x) most).2 ((withinS (l, x) most).1 + (withinS (l, x) most).1 % 2)).1.take (withinS (l, x) most).1, (nextS (withinS (l, x) most).2 ((withinS (l, x) most).1 + (withinS (l, x) most).1 % 2)).2)) := rfl
  have Ht := Lib.hid ht; clear ht
  go_enter Try.func46, Try.ntmps46
  go_wp2_with fail
  refine (rdwithin_any b v l x most _ hR).mono ?_
  rintro e w1 ⟨rfl, hr⟩
  generalize withinS (l, x) most = p at *
  obtain ⟨v1, hR1, hf1, hv1⟩ := hr
  have Hv1 := Lib.hid hv1; clear hv1
  go_wp2_with fail
  refine (rdnext_any b v1 p.2.1 p.2.2 _ (by omega) _ hR1).mono ?_
  rintro e w2 ⟨r, rfl, hs2, hb2, hr2⟩
  rw [show ((p.1 : Int) + (p.1 : Int) % 2).toNat = p.1 + p.1 % 2 by omega] at hs2 hr2
  have hlen : (nextS (p.2.1, p.2.2) (p.1 + p.1 % 2)).2.2 = 0 → (nextS (p.2.1, p.2.2) (p.1 + p.1 % 2)).1.length = p.1 + p.1 % 2 := nextS_full _ _
  have hq : nextS p.2 (p.1 + p.1 % 2) = nextS (p.2.1, p.2.2) (p.1 + p.1 % 2) := rfl
  rw [hq] at Ht
  generalize nextS (p.2.1, p.2.2) (p.1 + p.1 % 2) = q at *
  clear hq
  obtain ⟨v2, hR2, hf2, hv2⟩ := hr2
  have Hv2 := Lib.hid hv2; clear hv2
  have Hb2 := Lib.hid hb2; clear hb2
  have Hlen := Lib.hid hlen; clear hlen
  by_cases he : q.2.2 = 0
  · have he' : (q.2.2 != 0) = false := by simpa using he
    have hl := Hlen.out he
    have He := Lib.hid he; clear he Hlen
    obtain ⟨a, c, rfl, hnil⟩ := hs2.shape
    clear hnil
    have hcap := hs2.cap.2
    have hcv : (convert 26 9 (.slice a p.1 c)).run Try.prog w2 = .ok (.string ⟨(q.1.take p.1).toArray⟩) w2 := (hs2.take (by omega)).string _ _ _ Try.underlying26 Try.underlying5 Try.underlying9
    have hlq := hl
    have Hl := Lib.hid hl; clear hl
    have hle : p.1 ≤ c := by omega
    clear hcap
    by_cases hodd : p.1 % 2 = 1
    · have h1 : ((p.1 : Int) % 2 == 1) = true := by simp; omega
      rcases hs2 with ⟨h0, _⟩ | ⟨g, off, cap, e, hle2, hc⟩
      · exfalso; rw [h0] at hlq; simp at hlq; omega
      have hcell := hc p.1 (by omega)
      simp only [Value.slice.injEq] at e
      obtain ⟨rfl, _, rfl⟩ := e
      clear hc
      have hlt : p.1 < q.1.length := by omega
      have Hlq := Lib.hid hlq; clear hlq
      have Hodd := Lib.hid hodd; clear hodd
      generalize hch : q.1.getD p.1 0 = ch at *
      have Hch := Lib.hid hch; clear hch
      unfold bv at hcell
      by_cases hz : ch = 0
      · have Ht' : Hid (textS (l, x) most = (q.1.take p.1, q.2)) := Lib.hid (by rw [Ht.out, if_neg (fun h => h He.out), if_neg (fun h => h.2 hz)])
        clear Ht
        subst hz
        go_wp2_with (go_at_call 51; refine (rderr_any b v2 q.2.1 q.2.2 _ hR2).mono ?_; rintro e w' ⟨rfl, rfl⟩)
        go_ret
        rw [Ht'.out]
        exact ⟨rfl, Reads.trans hf1 Hv1.out ⟨v2, hR2, hf2, Hv2.out⟩⟩
      · have Ht' : Hid (textS (l, x) most = ([], failS q.2 4)) := Lib.hid (by rw [Ht.out, if_neg (fun h => h He.out), if_pos ⟨Hodd.out, hz⟩])
        clear Ht
        have hz' : ((ch.toNat : Int) != 0) = true := by
          have : ch.toNat ≠ 0 := fun h => hz (UInt8.toNat_inj.1 h)
          simp; omega
        clear hz
        go_wp2_with (first | (go_at_call 51; refine (rderr_any b v2 q.2.1 q.2.2 _ hR2).mono ?_; rintro e w' ⟨rfl, rfl⟩) | (go_at_call 41; refine (rdfail_any b v2 q.2.1 q.2.2 4 _ hR2).mono ?_; rintro e w3 ⟨rfl, hr3⟩))
        go_ret
        rw [Ht'.out]
        exact ⟨rfl, Reads.trans hf1 Hv1.out (Reads.trans hf2 Hv2.out hr3)⟩
    · have h1 : ((p.1 : Int) % 2 == 1) = false := by simp; omega
      have Ht' : Hid (textS (l, x) most = (q.1.take p.1, q.2)) := Lib.hid (by rw [Ht.out, if_neg (fun h => h He.out), if_neg (fun h => hodd h.1)])
      clear Ht
      have Hlq := Lib.hid hlq; clear hlq
      have Hodd := Lib.hid hodd; clear hodd
      go_wp2_with (go_at_call 51; refine (rderr_any b v2 q.2.1 q.2.2 _ hR2).mono ?_; rintro e w' ⟨rfl, rfl⟩)
      go_ret
      rw [Ht'.out]
      exact ⟨rfl, Reads.trans hf1 Hv1.out ⟨v2, hR2, hf2, Hv2.out⟩⟩
  · have Ht' : Hid (textS (l, x) most = ([], q.2)) := Lib.hid (by rw [Ht.out, if_pos he])
    clear Ht
    have he' : (q.2.2 != 0) = true := by simpa using he
    have He := Lib.hid he; clear he
    go_wp2_with (go_at_call 51; refine (rderr_any b v2 q.2.1 q.2.2 _ hR2).mono ?_; rintro e w' ⟨rfl, rfl⟩)
    go_ret
    rw [Ht'.out]
    exact ⟨rfl, Reads.trans hf1 Hv1.out ⟨v2, hR2, hf2, Hv2.out⟩⟩

theorem Rd.lt {w : World} {b : Nat} {v : Value} {l : List UInt8} {e : Int} (h : Rd w b v l e) : b < w.heap.size := lt_of_block h.here

theorem Rd.fr {S : Nat → Prop} {w w' : World} {b : Nat} {v : Value} {l : List UInt8} {e : Int} (h : Rd w b v l e) (hf : Fr S w w') (hb : ¬ S b) (hv : ∀ k, v.ownBlock = some k → ¬ S k) : Rd w' b v l e :=
  ⟨by rw [hf.block b (lt_of_block h.here) hb]; exact h.here, h.sees.fr hf hv, h.apart, h.clean, fun k hk => Nat.lt_of_lt_of_le (h.old k hk) hf.size⟩

/-- What a nil Reader answers. -/
theorem err_nil (w : World) : Calls Try.prog 51 #[.pointer none] w fun e w' => e = .returned (.int .i64 1) ∧ w = w' := by
  go_enter Try.func51, Try.ntmps51
  go_wp2
  go_ret
  exact ⟨rfl, rfl⟩
theorem left_nil (w : World) : Calls Try.prog 50 #[.pointer none] w fun e w' => e = .returned (.int .i64 0) ∧ w = w' := by
  go_enter Try.func50, Try.ntmps50
  go_wp2
  go_ret
  exact ⟨rfl, rfl⟩
theorem end_nil (w : World) : Calls Try.prog 22 #[.pointer none] w fun e w' => e = .returned (.int .i64 1) ∧ w = w' := by
  go_enter Try.func22, Try.ntmps22
  go_wp2_with (first | (go_at_call 50; refine (left_nil _).mono ?_; rintro e w' ⟨rfl, rfl⟩) | (go_at_call 51; refine (err_nil _).mono ?_; rintro e w' ⟨rfl, rfl⟩))
  go_ret
  exact ⟨rfl, rfl⟩
theorem rfail_nil (y : Int) (w : World) : Calls Try.prog 41 #[.pointer none, .int .i64 y] w fun e w' => e = .returned (.tuple #[]) ∧ w = w' := by
  go_enter Try.func41, Try.ntmps41
  go_wp2
  go_returns
  exact ⟨rfl, rfl⟩
theorem next_nil (k : Int) (w : World) : Calls Try.prog 66 #[.pointer none, .int .i64 k] w fun e w' => e = .returned (.slice none 0 0) ∧ w = w' := by
  go_enter Try.func66, Try.ntmps66
  go_wp2
  go_ret
  exact ⟨rfl, rfl⟩
theorem number_nil (k : Int) (w : World) : Calls Try.prog 63 #[.pointer none, .int .i64 k] w fun e w' => e = .returned (.int .u64 0) ∧ w = w' := by
  go_enter Try.func63, Try.ntmps63
  go_wp2_with (go_at_call 66; refine (next_nil _ _).mono ?_; rintro e w' ⟨rfl, rfl⟩)
  refine wp_loop_rounds 1 ?_
  rw [rounds_succ]
  go_wp2
  go_ret
  exact ⟨rfl, rfl⟩
theorem rword_nil (w : World) : Calls Try.prog 43 #[.pointer none] w fun e w' => e = .returned (.int .u16 0) ∧ w = w' := by
  go_enter Try.func43, Try.ntmps43
  go_wp2_with (go_at_call 63; refine (number_nil _ _).mono ?_; rintro e w' ⟨rfl, rfl⟩)
  go_ret
  exact ⟨rfl, rfl⟩
theorem rquad_nil (w : World) : Calls Try.prog 65 #[.pointer none] w fun e w' => e = .returned (.int .u64 0) ∧ w = w' := by
  go_enter Try.func65, Try.ntmps65
  go_wp2_with (go_at_call 63; refine (number_nil _ _).mono ?_; rintro e w' ⟨rfl, rfl⟩)
  go_ret
  exact ⟨rfl, rfl⟩
theorem within_nil (most : Int) (hm : 0 ≤ most) (w : World) : Calls Try.prog 42 #[.pointer none, .int .i64 most] w fun e w' => e = .returned (.int .i64 0) ∧ w = w' := by
  go_enter Try.func42, Try.ntmps42
  go_wp2_with (go_at_call 43; refine (rword_nil _).mono ?_; rintro e w' ⟨rfl, rfl⟩)
  go_ret
  exact ⟨rfl, rfl⟩
theorem rtext_nil (most : Int) (hm : 0 ≤ most) (w : World) : Calls Try.prog 46 #[.pointer none, .int .i64 most] w fun e w' => e = .returned (.string ⟨#[]⟩) ∧ w = w' := by
  go_enter Try.func46, Try.ntmps46
  go_wp2_with (first | (go_at_call 42; refine (within_nil _ hm _).mono ?_; rintro e w' ⟨rfl, rfl⟩) | (go_at_call 66; refine (next_nil _ _).mono ?_; rintro e w' ⟨rfl, rfl⟩) | (go_at_call 51; refine (err_nil _).mono ?_; rintro e w' ⟨rfl, rfl⟩))
  go_ret
  exact ⟨rfl, rfl⟩
end
end Go.Proofs.Ytplipjijaaejlaa
