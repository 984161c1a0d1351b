/-
  CouAny, part 8 of what it rests on: ValFlat2, ValSum, ValNoneMath, Put1, Put2, Put3, Put4.
-/
import Derived.Test.YtplipjijaaejlaaSg
import Derived.LoopN
set_option linter.unusedVariables false
set_option linter.unusedSimpArgs false
set_option maxHeartbeats 32000000
namespace Go.Proofs.Ytplipjijaaejlaa
open Go.RowKit
open Go.Lib (hid)
section
attribute [local go_sem] run_store_float

/-- The numbers of the first j parts. -/
def partsF (g : Nat → List Int) (j : Nat) : List Int := ((List.range j).map g).flatten

theorem partsF_succ (g : Nat → List Int) (j : Nat) : partsF g (j + 1) = partsF g j ++ g j := by
  unfold partsF; rw [List.range_succ, List.map_append, List.flatten_append]; simp

theorem partsF_split (g : Nat → List Int) (j c : Nat) (h : j ≤ c) : ∃ r, partsF g c = partsF g j ++ r := by
  induction c with
  | zero => obtain rfl : j = 0 := by omega
            exact ⟨[], by simp⟩
  | succ c ih =>
    by_cases e : j = c + 1
    · subst e; exact ⟨[], by simp⟩
    · obtain ⟨r, hr⟩ := ih (by omega)
      exact ⟨r ++ g c, by rw [partsF_succ, hr, List.append_assoc]⟩

theorem partsF_len (g : Nat → List Int) (b : Nat → Nat) (h : ∀ i, (g i).length ≤ 2 * b i) (j : Nat) : (partsF g j).length ≤ 2 * ((List.range j).map b).sum := by
  induction j with
  | zero => simp [partsF]
  | succ j ih =>
    rw [partsF_succ, List.length_append, List.range_succ, List.map_append, List.sum_append]
    have := h j
    simp only [List.map_cons, List.map_nil, List.sum_cons, List.sum_nil, Nat.add_zero]
    omega

theorem fold_full (m : Int) (l : List Int) : ∀ acc, m ≤ (acc.length : Int) → l.foldl (addE m) acc = acc := by
  induction l with
  | nil => intro acc _; rfl
  | cons x l ih =>
    intro acc h
    rw [List.foldl_cons, show addE m acc x = acc by unfold addE; rw [if_pos h]]
    exact ih acc h

theorem addE_len (m : Int) (acc : List Int) (x : Int) : (addE m acc x).length ≤ acc.length + 1 := by
  unfold addE
  split
  · omega
  · simp

theorem fold_len (m : Int) (l : List Int) : ∀ acc, (l.foldl (addE m) acc).length ≤ acc.length + l.length := by
  induction l with
  | nil => intro acc; simp
  | cons x l ih =>
    intro acc
    rw [List.foldl_cons]
    have := ih (addE m acc x)
    have := addE_len m acc x
    simp only [List.length_cons]
    omega

theorem fl_len (t : KT) : ∀ T, (flE t T).length ≤ 2 * szV T := by
  induction t with
  | nil => intro T; simp [flE]
  | mk k m ns n of ih =>
    intro T
    cases T with
    | nil => simp [flE]
    | mk N f s c ov =>
      rw [flE, szV]
      split
      · simp; omega
      split
      · simp; omega
      rw [List.length_append, List.length_append]
      have h := partsF_len (fun i => flE (of (if k = 6 then i else if k = 8 then N.toNat else 0)) (ov i)) (fun i => szV (ov i)) (fun i => ih _ _) c
      unfold partsF at h
      have h1 : (if k = 5 then [(c : Int)] else []).length + (if k < 3 ∨ 6 < k then [N] else []).length ≤ 1 := by
        split <;> split <;> simp <;> omega
      omega

theorem own_lt {w : World} {B : Nat} {e : TypeId} {size : Nat} {v : Value} {n : Nat} {xs : List Value} (h : w.ownsRow B e size v n xs) : ∀ k, v.ownBlock = some k → k < w.heap.size := by
  intro k hk
  rcases h.2 with ⟨rfl, _⟩ | ⟨g, cap, cur, rfl, _, hg, _⟩
  · simp [Value.ownBlock] at hk
  · have e : g = k := by simpa [Value.ownBlock] using hk
    subst e
    exact (Array.getElem?_eq_some_iff.1 hg).1

theorem fits_seq {m : Int} {ns : List Txt} {n : Nat} {of : Nat → KT} {N : Int} {f : Nat} {s : Txt} {c : Nat} {ov : Nat → VT} (h : fitsE (.mk 5 m ns n of) (.mk N f s c ov) = true) : n = 1 ∧ ∀ i, i < c → fitsE (of 0) (ov i) = true := by
  rw [fitsE, if_neg (by omega), if_neg (by omega), if_neg (by omega), if_neg (by omega), if_neg (by omega), if_neg (by omega), if_pos rfl] at h
  simp only [Bool.and_eq_true, decide_eq_true_eq, List.all_eq_true, List.mem_range] at h
  exact ⟨h.1.2.1, h.1.2.2⟩

theorem fits_rec {m : Int} {ns : List Txt} {n : Nat} {of : Nat → KT} {N : Int} {f : Nat} {s : Txt} {c : Nat} {ov : Nat → VT} (h : fitsE (.mk 6 m ns n of) (.mk N f s c ov) = true) : c = n ∧ ∀ i, i < c → fitsE (of i) (ov i) = true := by
  rw [fitsE, if_neg (by omega), if_neg (by omega), if_neg (by omega), if_neg (by omega), if_neg (by omega), if_neg (by omega), if_neg (by omega), if_pos rfl] at h
  simp only [Bool.and_eq_true, decide_eq_true_eq, List.all_eq_true, List.mem_range] at h
  exact ⟨h.1.1, h.1.2⟩

theorem fits_cho {m : Int} {ns : List Txt} {n : Nat} {of : Nat → KT} {N : Int} {f : Nat} {s : Txt} {c : Nat} {ov : Nat → VT} (h : fitsE (.mk 8 m ns n of) (.mk N f s c ov) = true) : (0 ≤ N ∧ N ≤ (n : Int) - 1) ∧ c = 1 ∧ fitsE (of N.toNat) (ov 0) = true := by
  rw [fitsE, if_neg (by omega), if_neg (by omega), if_neg (by omega), if_neg (by omega), if_neg (by omega), if_neg (by omega), if_neg (by omega), if_neg (by omega), if_pos rfl] at h
  simp only [Bool.and_eq_true, decide_eq_true_eq] at h
  exact h.1

theorem sum_le_at (b : Nat → Nat) (j c : Nat) (h : j < c) : ((List.range j).map b).sum + b j ≤ ((List.range c).map b).sum := by
  induction c with
  | zero => omega
  | succ c ih =>
    rw [List.range_succ, List.map_append, List.sum_append]
    simp only [List.map_cons, List.map_nil, List.sum_cons, List.sum_nil, Nat.add_zero]
    by_cases e : j = c
    · subst e; exact Nat.le_refl _
    · have := ih (by omega)
      omega

/-- THE FIRST NUMBERS OF A VALUE. -/
def flatE (t : KT) (T : VT) (m : Int) : List Int := (flE t T).foldl (addE m) []
end
section
theorem sum_shrink (g : Nat → Nat) (a b : Nat) (h : a ≤ b) : ((List.range a).map g).sum ≤ ((List.range b).map g).sum := by
  induction b with
  | zero => obtain rfl : a = 0 := by omega
            exact Nat.le_refl _
  | succ b ih =>
    by_cases e : a = b + 1
    · subst e; exact Nat.le_refl _
    · rw [List.range_succ (n := b), List.map_append, List.sum_append]
      have := ih (by omega)
      omega
end
section
theorem fold_all (m : Int) (l : List Int) : ∀ acc, ((acc.length + l.length : Nat) : Int) ≤ m → l.foldl (addE m) acc = acc ++ l := by
  induction l with
  | nil => intro acc _; simp
  | cons x l ih =>
    intro acc h
    simp only [List.length_cons] at h
    rw [List.foldl_cons, show addE m acc x = acc ++ [x] by unfold addE; rw [if_neg (by omega)], ih _ (by simp; omega)]
    simp

theorem fold_lt (m : Int) (l : List Int) : ∀ acc, (((l.foldl (addE m) acc).length : Nat) : Int) < m → l.foldl (addE m) acc = acc ++ l := by
  induction l with
  | nil => intro acc _; simp
  | cons x l ih =>
    intro acc h
    by_cases hm : m ≤ (acc.length : Int)
    · rw [fold_full m (x :: l) acc hm] at h
      omega
    · rw [List.foldl_cons] at h ⊢
      rw [ih _ h, show addE m acc x = acc ++ [x] by unfold addE; rw [if_neg hm]]
      simp

theorem fold_mem (m : Int) (l : List Int) : ∀ acc x, x ∈ l.foldl (addE m) acc → x ∈ acc ∨ x ∈ l := by
  induction l with
  | nil => intro acc x h; exact .inl h
  | cons y l ih =>
    intro acc x h
    rw [List.foldl_cons] at h
    rcases ih _ _ h with h | h
    · unfold addE at h
      split at h
      · exact .inl h
      · simp at h
        rcases h with h | h
        · exact .inl h
        · exact .inr (by simp [h])
    · exact .inr (by simp [h])

/-- How many types there are in one. -/
def szK : KT → Nat
  | .nil => 1
  | .mk _ _ _ n of => 1 + ((List.range n).map fun i => szK (of i)).sum

theorem szK_cost (t : KT) : goodE t → szK t ≤ costE t := by
  induction t with
  | nil => exact fun h => h.elim
  | mk k m ns n of ih =>
    rintro ⟨⟨hn12, hown⟩, hkids⟩
    obtain ⟨hk8, hmost, hone, hparts, hnames, hnone⟩ := own_facts hown
    rw [szK, costE]
    by_cases h5 : k = 5
    · rw [if_pos h5]
      have h1 := hone h5
      subst h1
      have := ih 0 (hkids 0 (by omega))
      simp [List.range_succ]
      omega
    · rw [if_neg h5]
      have : ∀ j, j ≤ n → ((List.range j).map fun i => szK (of i)).sum ≤ ((List.range j).map fun i => costE (of i)).sum := by
        intro j
        induction j with
        | zero => simp
        | succ j ihj =>
          intro hj
          rw [List.range_succ, List.map_append, List.map_append, List.sum_append, List.sum_append]
          have h1 := ihj (by omega)
          have h2 := ih j (hkids j (by omega))
          simp
          omega
      have := this n (Nat.le_refl _)
      omega

theorem survey_ok (t : KT) : goodE t → ∀ lv p, hasE t lv = true → p + szK t ≤ 1048576 → surveyE t lv p = (true, p + szK t) := by
  induction t with
  | nil => exact fun h => h.elim
  | mk k m ns n of ih =>
    rintro ⟨⟨hn12, hown⟩, hkids⟩ lv p hh hp
    rw [hasE] at hh
    split at hh
    · cases hh
    rename_i hlv
    rw [List.all_eq_true] at hh
    have ha : aloneE (.mk k m ns n of) = true := by rw [alone_own, hown, decide_eq_true hn12]; rfl
    rw [surveyE, if_neg (by
      rw [szK] at hp
      rintro (h | h | h)
      · omega
      · exact hlv (.inr h)
      · rw [ha] at h; cases h)]
    have key : ∀ j, j ≤ n → surveyL (fun i => surveyE (of i) (lv - 1)) j (p + 1) = (true, p + 1 + ((List.range j).map fun i => szK (of i)).sum) := by
      intro j
      induction j with
      | zero => intro _; simp [surveyL]
      | succ j ihj =>
        intro hj
        rw [surveyL, ihj (by omega), if_pos rfl]
        have hs : ((List.range (j + 1)).map fun i => szK (of i)).sum ≤ ((List.range n).map fun i => szK (of i)).sum := sum_shrink (fun i => szK (of i)) (j + 1) n hj
        rw [List.range_succ, List.map_append, List.sum_append] at hs ⊢
        rw [szK] at hp
        simp only [List.map_cons, List.map_nil, List.sum_cons, List.sum_nil, Nat.add_zero] at hs ⊢
        rw [ih j (hkids j (by omega)) (lv - 1) _ (hh j (List.mem_range.2 (by omega))) (by omega)]
        simp
        omega
    rw [key n (Nat.le_refl _), szK]
    simp
    omega

theorem partsL_getD (f : Nat → Nat × Nat → VT × (Nat × Nat)) (j : Nat) (s : Nat × Nat) : ∀ i, i < j → ∃ q, (partsL f j s).1.getD i .nil = (f i q).1 := by
  induction j with
  | zero => intro i hi; omega
  | succ j ih =>
    intro i hi
    rw [partsL]
    by_cases h : i < j
    · obtain ⟨q, hq⟩ := ih i h
      refine ⟨q, ?_⟩
      rw [← hq]
      simp only [List.getD_eq_getElem?_getD]
      rw [List.getElem?_append_left (by rw [partsL_length]; exact h)]
    · obtain rfl : i = j := by omega
      refine ⟨(partsL f i s).2, ?_⟩
      simp only [List.getD_eq_getElem?_getD]
      rw [List.getElem?_append_right (by rw [partsL_length]; exact Nat.le_refl _), partsL_length]
      simp

theorem emod_in (a b : Int) (h : 0 < b) : 0 ≤ a % b ∧ a % b < b := ⟨Int.emod_nonneg a (by omega), Int.emod_lt_of_pos a h⟩

/-- WHAT IS BUILT IS A VALUE OF THE TYPE. -/
theorem build_fits (l : List Int) (t : KT) : goodE t → ∀ s, isE t (buildE l t s).1 = true := by
  induction t with
  | nil => exact fun h => h.elim
  | mk k m ns n of ih =>
    rintro ⟨⟨hn12, hown⟩, hkids⟩ s
    obtain ⟨hk8, hmost, hone, hparts, hnames, hnone⟩ := own_facts hown
    have h2 := emod_in (numE l s.1) 2 (by omega)
    have h16 := emod_in (numE l s.1) 65536 (by omega)
    have h32 := emod_in (numE l s.1) 4294967296 (by omega)
    rcases (by omega : k = 0 ∨ k = 1 ∨ k = 2 ∨ k = 3 ∨ k = 4 ∨ k = 5 ∨ k = 6 ∨ k = 7 ∨ k = 8) with h | h | h | h | h | h | h | h | h <;> subst h
    · rw [buildE, if_pos rfl]
      unfold vnum
      rw [isE_iff]
      simp [lowE, highE, canon0]
      omega
    · rw [buildE, if_neg (by omega), if_pos rfl]
      unfold vnum
      rw [isE_iff]
      simp [lowE, highE, canon0]
      omega
    · rw [buildE, if_neg (by omega), if_neg (by omega), if_pos rfl]
      unfold vnum long32
      rw [isE_iff]
      simp [lowE, highE, canon0]
      split <;> omega
    · rw [buildE, if_neg (by omega), if_neg (by omega), if_neg (by omega), if_pos rfl]
      rw [isE_iff]
      simp [lowE, highE]
    · rw [buildE, if_neg (by omega), if_neg (by omega), if_neg (by omega), if_neg (by omega), if_pos rfl]
      have hm := hmost (by omega)
      have h4 := emod_in (numE l s.1) (m + 1) (by omega)
      rw [isE_iff]
      simp [lowE, highE, canon0, lettersE]
      omega
    · have hm := hmost (by omega)
      have h4 := emod_in (numE l s.1) 4 (by omega)
      have h1 := hone rfl
      by_cases hb : 100 < s.2 + 1
      · rw [buildE_none _ _ _ _ _ _ hb]
        unfold listV
        rw [isE_iff]
        simp [lowE, highE, canon0]
        omega
      · rw [buildE_seq _ _ _ _ _ _ hb]
        unfold listV
        rw [isE_iff]
        rw [partsL_length]
        refine ⟨fun _ => canon0, fun _ => rfl, fun h => by omega, by simp [lowE], by simp [highE], fun h => by omega, fun _ => by omega, fun h => by omega, fun h => by omega, fun i hi => ?_⟩
        obtain ⟨q, hq⟩ := partsL_getD (fun _ q => buildE l (of 0) q) _ (nextE l s.1, s.2 + 1) i hi
        rw [if_neg (by omega), if_neg (by omega), hq]
        exact ih 0 (hkids 0 (by omega)) q
    · rw [buildE_record]
      unfold listV
      rw [isE_iff]
      rw [partsL_length]
      refine ⟨fun _ => canon0, fun _ => rfl, fun h => by omega, by simp [lowE], by simp [highE], fun h => by omega, fun h => by omega, fun h => rfl, fun h => by omega, fun i hi => ?_⟩
      obtain ⟨q, hq⟩ := partsL_getD (fun i q => buildE l (of i) q) n (s.1, s.2 + 1) i hi
      rw [if_pos rfl, hq]
      exact ih i (hkids i hi) q
    · have hns := hnames (by omega)
      have h4 := emod_in (numE l s.1) (ns.length : Int) (by omega)
      rw [buildE, if_neg (by omega), if_neg (by omega), if_neg (by omega), if_neg (by omega), if_neg (by omega), if_neg (by omega), if_neg (by omega), if_pos rfl]
      unfold vnum
      rw [isE_iff]
      simp [lowE, highE, canon0]
      omega
    · have hns := hnames (by omega)
      have hnn := hparts (by omega)
      have h4 := emod_in (numE l s.1) (n : Int) (by omega)
      rw [buildE_choice, isE_iff]
      refine ⟨fun _ => canon0, fun _ => rfl, fun h => by omega, by simp [lowE]; omega, by simp [highE]; omega, fun h => by omega, fun h => by omega, fun h => by omega, fun h => rfl, fun i hi => ?_⟩
      rw [if_neg (by omega), if_pos rfl]
      exact ih _ (hkids _ (by omega)) _

/-- A type of the laws is built, and what is built is a value of it. -/
theorem build_type (l : List Int) (t : KN) (d : Nat) (hd : 1 ≤ d) (hd4 : d ≤ 4) (h : vokN t) : BuildE l (typeE [] t d) = (buildE l (typeE [] t d) (0, 0)).1 ∧ isVal (typeE [] t d) (BuildE l (typeE [] t d)) = true := by
  obtain ⟨hg, hh⟩ := good_type t d hd h
  have hs : (surveyE (typeE [] t d) 1000 0).1 = true := by
    rw [survey_ok _ hg 1000 0 (hh 1000 (by omega)) (by
      have h1 := szK_cost _ hg
      have h2 := cost_typeE [] t d
      have h3 : 4 ^ d ≤ 4 ^ 4 := Nat.pow_le_pow_right (by omega) hd4
      omega)]
  have e : BuildE l (typeE [] t d) = (buildE l (typeE [] t d) (0, 0)).1 := by unfold BuildE; rw [if_pos hs]
  refine ⟨e, ?_⟩
  unfold isVal
  rw [hh 20 (by omega), fits_is _ hg, e, build_fits l _ hg]
  rfl

theorem num_none (tk : Nat) : numE [] tk = 0 := by simp [numE]

theorem num_noughts (tk : Nat) : numE [0, 0] tk = 0 := by
  unfold numE
  rw [if_neg (by simp)]
  have h : tk % ([0, 0] : List Int).length < 2 := Nat.mod_lt _ (by decide)
  rcases (by omega : tk % ([0, 0] : List Int).length = 0 ∨ tk % ([0, 0] : List Int).length = 1) with e | e <;> rw [e] <;> rfl

theorem whole_nought : Fl.whole (floatOfInt .f64 0) = 0 := by decide +kernel

/-- What is built of noughts has noughts only. -/
theorem zero_build (l : List Int) (hl : ∀ tk, numE l tk = 0) (t : KT) : goodE t → ∀ s x, x ∈ flE t (buildE l t s).1 → x = 0 := by
  induction t with
  | nil => exact fun h => h.elim
  | mk k m ns n of ih =>
    rintro ⟨⟨hn12, hown⟩, hkids⟩ s x
    obtain ⟨hk8, hmost, hone, hparts, hnames, hnone⟩ := own_facts hown
    have hz := hl s.1
    rcases (by omega : k = 0 ∨ k = 1 ∨ k = 2 ∨ k = 3 ∨ k = 4 ∨ k = 5 ∨ k = 6 ∨ k = 7 ∨ k = 8) with h | h | h | h | h | h | h | h | h <;> subst h
    · rw [buildE, if_pos rfl, hz]
      unfold vnum
      rw [flE]
      simp
    · rw [buildE, if_neg (by omega), if_pos rfl, hz]
      unfold vnum
      rw [flE]
      simp
    · rw [buildE, if_neg (by omega), if_neg (by omega), if_pos rfl, hz]
      unfold vnum long32
      rw [flE]
      simp
    · rw [buildE, if_neg (by omega), if_neg (by omega), if_neg (by omega), if_pos rfl, hz]
      rw [flE, if_pos rfl, whole_nought]
      simp
    · rw [buildE, if_neg (by omega), if_neg (by omega), if_neg (by omega), if_neg (by omega), if_pos rfl, hz]
      rw [flE, if_neg (by omega), if_pos rfl]
      simp [lettersE]
    · have hm := hmost (by omega)
      by_cases hb : 100 < s.2 + 1
      · rw [buildE_none _ _ _ _ _ _ hb]
        unfold listV
        rw [flE]
        simp
      · rw [buildE_seq _ _ _ _ _ _ hb, hz]
        rw [show (min ((0 : Int) % 4) m).toNat = 0 by omega]
        unfold listV partsL
        rw [flE]
        simp
    · rw [buildE_record]
      unfold listV
      rw [flE, if_neg (by omega), if_neg (by omega), if_neg (by omega), if_neg (by omega)]
      rw [partsL_length]
      simp only [List.nil_append, List.mem_flatten, List.mem_map, List.mem_range]
      rintro ⟨_, ⟨i, hi, rfl⟩, hx⟩
      obtain ⟨q, hq⟩ := partsL_getD (fun i q => buildE l (of i) q) n (s.1, s.2 + 1) i hi
      rw [hq] at hx
      exact ih i (hkids i hi) q x hx
    · rw [buildE, if_neg (by omega), if_neg (by omega), if_neg (by omega), if_neg (by omega), if_neg (by omega), if_neg (by omega), if_neg (by omega), if_pos rfl, hz]
      unfold vnum
      rw [flE]
      simp
    · have hns := hnames (by omega)
      have hnn := hparts (by omega)
      rw [buildE_choice, hz]
      rw [flE, if_neg (by omega), if_neg (by omega), if_neg (by omega), if_pos (by omega)]
      simp
      rintro (h | h)
      · exact h
      · exact ih 0 (hkids 0 (by omega)) _ x h

theorem parts_same (f g : Nat → Nat × Nat → VT × (Nat × Nat)) (n : Nat) (h : ∀ i, i < n → ∀ s s', s.2 = s'.2 → (f i s).1 = (g i s').1 ∧ (f i s).2.2 = (g i s').2.2) (j : Nat) (hj : j ≤ n) : ∀ s s', s.2 = s'.2 → (partsL f j s).1 = (partsL g j s').1 ∧ (partsL f j s).2.2 = (partsL g j s').2.2 := by
  induction j with
  | zero => intro s s' e; exact ⟨rfl, e⟩
  | succ j ih =>
    intro s s' e
    obtain ⟨h1, h2⟩ := ih (by omega) s s' e
    obtain ⟨h3, h4⟩ := h j (by omega) _ _ h2
    rw [partsL, partsL, h1, h3]
    exact ⟨rfl, h4⟩

/-- Of no numbers and of noughts the same is built. -/
theorem same_build (l l' : List Int) (hl : ∀ tk, numE l tk = 0) (hl' : ∀ tk, numE l' tk = 0) (t : KT) : goodE t → ∀ s s', s.2 = s'.2 → (buildE l t s).1 = (buildE l' t s').1 ∧ (buildE l t s).2.2 = (buildE l' t s').2.2 := by
  induction t with
  | nil => exact fun h => h.elim
  | mk k m ns n of ih =>
    rintro ⟨⟨hn12, hown⟩, hkids⟩ s s' e
    obtain ⟨hk8, hmost, hone, hparts, hnames, hnone⟩ := own_facts hown
    have hz := hl s.1
    have hz' := hl' s'.1
    rcases (by omega : k = 0 ∨ k = 1 ∨ k = 2 ∨ k = 3 ∨ k = 4 ∨ k = 5 ∨ k = 6 ∨ k = 7 ∨ k = 8) with h | h | h | h | h | h | h | h | h <;> subst h
    · rw [buildE, buildE, if_pos rfl, if_pos rfl, hz, hz']; exact ⟨rfl, by simp [e]⟩
    · simp only [buildE, hz, hz', e]; exact ⟨rfl, rfl⟩
    · simp only [buildE, hz, hz', e]; exact ⟨rfl, rfl⟩
    · simp only [buildE, hz, hz', e]; exact ⟨rfl, rfl⟩
    · simp only [buildE, hz, hz', e]; exact ⟨rfl, rfl⟩
    · by_cases hb : 100 < s.2 + 1
      · rw [buildE_none _ _ _ _ _ _ hb, buildE_none _ _ _ _ _ _ (by omega), e]
        exact ⟨rfl, rfl⟩
      · rw [buildE_seq _ _ _ _ _ _ hb, buildE_seq _ _ _ _ _ _ (by omega), hz, hz']
        have h1 := hone rfl
        obtain ⟨h2, h3⟩ := parts_same (fun _ q => buildE l (of 0) q) (fun _ q => buildE l' (of 0) q) ((min ((0 : Int) % 4) m).toNat) (fun i _ a b hab => ih 0 (hkids 0 (by omega)) a b hab) _ (Nat.le_refl _) (nextE l s.1, s.2 + 1) (nextE l' s'.1, s'.2 + 1) (by simp [e])
        exact ⟨by simp only [h2], h3⟩
    · rw [buildE_record, buildE_record]
      obtain ⟨h2, h3⟩ := parts_same (fun i q => buildE l (of i) q) (fun i q => buildE l' (of i) q) n (fun i hi a b hab => ih i (hkids i hi) a b hab) n (Nat.le_refl _) (s.1, s.2 + 1) (s'.1, s'.2 + 1) (by simp [e])
      exact ⟨by simp only [h2], h3⟩
    · simp only [buildE, hz, hz', e]; exact ⟨rfl, rfl⟩
    · have hns := hnames (by omega)
      have hnn := hparts (by omega)
      rw [buildE_choice, buildE_choice, hz, hz']
      have h0 : ((0 : Int) % (n : Int)).toNat = 0 := by simp
      rw [h0]
      obtain ⟨h2, h3⟩ := ih 0 (hkids 0 (by omega)) (nextE l s.1, s.2 + 1) (nextE l' s'.1, s'.2 + 1) (by simp [e])
      rw [h2]
      exact ⟨rfl, h3⟩
end
section
attribute [local go_sem] run_store_float
set_option maxRecDepth 100000

/-- WHAT A VALUE IS MARSHALLED AS. -/
def encE : KT → VT → List UInt8
  | .nil, _ => []
  | .mk _ _ _ _ _, .nil => []
  | .mk k m ns n of, .mk N f s c ov =>
    if k = 2 then be4 (N % 4294967296).toNat
    else if k = 3 then be8 (Fl.canon f)
    else if k = 4 then txt s
    else (if k = 5 then be2 c else if k = 6 then [] else be2 N.toNat) ++ ((List.range c).map (fun i => encE (of (if k = 6 then i else if k = 8 then N.toNat else 0)) (ov i))).flatten

/-- The bytes of the first j parts. -/
def partsB (g : Nat → List UInt8) (j : Nat) : List UInt8 := ((List.range j).map g).flatten
theorem partsB_succ (g : Nat → List UInt8) (j : Nat) : partsB g (j + 1) = partsB g j ++ g j := by
  unfold partsB; rw [List.range_succ, List.map_append, List.flatten_append]; simp
theorem partsB_le (g : Nat → List UInt8) (j c : Nat) (h : j ≤ c) : (partsB g j).length ≤ (partsB g c).length := by
  induction c with
  | zero => obtain rfl : j = 0 := by omega
            exact Nat.le_refl _
  | succ c ih =>
    by_cases e : j = c + 1
    · subst e; exact Nat.le_refl _
    · rw [partsB_succ, List.length_append]
      have := ih (by omega)
      omega

/-- The packer in block fb: its bytes, in a row of its own, and how many values. -/
abbrev PkSt (fb : Nat) (w : World) (c : Nat) (nv : Value) (l : List UInt8) : Prop := PWr (c : Int) w fb nv l

theorem PkSt.fr {S : Nat → Prop} {fb : Nat} {w w' : World} {c : Nat} {nv : Value} {l : List UInt8} (h : PkSt fb w c nv l) (f : Fr S w w') (h1 : ¬ S fb) (h2 : ∀ k, nv.ownBlock = some k → ¬ S k) : PkSt fb w' c nv l :=
  ⟨box_kept h.here f h1, h.own.fr f h2, h.apart⟩

/-- What comes of a call of the packer: whether all is fitting; what it then holds. -/
def PkDid (fb : Nat) (nv : Value) (w w' : World) (ok : Bool) (l' : List UInt8) (c' : Nat) : Prop :=
  ∃ nv' l2 c2, PkSt fb w' c2 nv' l2 ∧ (ok = true → l2 = l' ∧ c2 = c') ∧ Fr (fun k => k = fb ∨ nv.ownBlock = some k) w w' ∧ (nv'.ownBlock = nv.ownBlock ∨ ∀ k, nv'.ownBlock = some k → w.heap.size ≤ k)

theorem pfits_any (fb c : Nat) (nv : Value) (l : List UInt8) (w : World) (h : PkSt fb w c nv l) :
    Calls Try.prog 34 #[.pointer (some ⟨fb, 0, none⟩)] w fun e w' => e = .returned (.bool (decide (l.length ≤ 4000))) ∧ w' = w := by
  go_enter Try.func34, Try.ntmps34
  go_wp2_with fail
  refine (plen_any c fb nv l _ h).mono ?_
  rintro e w1 ⟨rfl, rfl⟩
  go_wp2_with fail
  go_ret
  exact ⟨congrArg (fun b => Ending.returned (Value.bool b)) (by rw [Bool.eq_iff_iff]; simp; try omega), rfl⟩

theorem pkword_any (fb c : Nat) (nv : Value) (l : List UInt8) (n : Int) (h0 : 0 ≤ n) (h1 : n ≤ 65535) (w : World) (h : PkSt fb w c nv l) (hl : l.length ≤ 4000) :
    Calls Try.prog 28 #[.pointer (some ⟨fb, 0, none⟩), .int .i64 n] w fun e w' => e = .returned (.bool (decide (l.length + 2 ≤ 4000))) ∧ PWrote (c : Int) fb nv (l ++ be2 n.toNat) w w' := by
  have hw : IntKind.u16.wrap n = n := by rw [IntKind.wrap_u16]; omega
  have hn : ¬ (65535 : Int) < n := by omega
  go_enter Try.func28, Try.ntmps28
  go_wp2_with fail
  refine (pword_any c fb nv l n h0 h1 _ h (by omega)).mono ?_
  rintro e w1 ⟨rfl, h2⟩
  have H2 := Lib.hid h2
  obtain ⟨nv2, hp, hf, hv⟩ := h2
  clear hw hn hf hv
  go_wp2_with fail
  refine (pfits_any fb c nv2 _ _ hp).mono ?_
  rintro e w2 ⟨rfl, rfl⟩
  go_wp2_with fail
  go_ret
  refine ⟨?_, H2.out⟩
  show Ending.returned (.bool (decide (l.length + (be2 n.toNat).length ≤ 4000))) = _
  rw [be2_length]

theorem pktext_any (fb c : Nat) (nv : Value) (l : List UInt8) (s : Txt) (hs : s.length ≤ 60) (w : World) (h : PkSt fb w c nv l) (hl : l.length ≤ 4000) :
    Calls Try.prog 32 #[.pointer (some ⟨fb, 0, none⟩), .string ⟨s.toArray⟩] w fun e w' => e = .returned (.bool (decide (l.length + (txt s).length ≤ 4000))) ∧ PWrote (c : Int) fb nv (l ++ txt s) w w' := by
  obtain ⟨X, hX⟩ : ∃ X : ByteArray, X = ⟨s.toArray⟩ := ⟨_, rfl⟩
  have hXs : X.size = s.length := by rw [hX]; show s.toArray.size = s.length; simp
  have hXd : X.data.toList = s := by rw [hX]
  rw [← hX, ← hXd]
  have hX1 : X.size ≤ 60 := by omega
  have hX2 : ¬ (4000 : Int) < (X.size : Int) := by omega
  clear hX hXs hXd hs
  go_enter Try.func32, Try.ntmps32
  go_wp2_with fail
  refine (ptext_any c fb nv l X (by omega) _ h (by omega)).mono ?_
  rintro e w1 ⟨rfl, h2⟩
  have H2 := Lib.hid h2
  obtain ⟨nv2, hp, hf, hv⟩ := h2
  clear hf hv hX2
  go_wp2_with fail
  refine (pfits_any fb c nv2 _ _ hp).mono ?_
  rintro e w2 ⟨rfl, rfl⟩
  go_wp2_with fail
  go_ret
  exact ⟨rfl, H2.out⟩

/-- The type of a part: of a sequence all have one; of a record each its own. -/
theorem part_any (R : Nat → Prop) (k : Nat) (m : Int) (ns : List Txt) (n : Nat) (of : Nat → KT) (v : Value) (i : Nat) (w : World) (hsh : Shows R w (.mk k m ns n of) v) (hi : (if k = 5 then 0 else i) < n) :
    Calls Try.prog 60 #[v, .int .i64 i] w fun e w' => ∃ v', e = .returned v' ∧ Shows R w' (of (if k = 5 then 0 else i)) v' ∧ Fr (fun _ => False) w w' := by
  obtain ⟨q, hq⟩ : ∃ q, (if k = 5 then 0 else i) = q := ⟨_, rfl⟩
  rw [hq] at hi ⊢
  have HQ := Lib.hid hq
  clear hq
  obtain ⟨vn, vo, rfl, hk, hn, ht, ho⟩ := hsh
  obtain ⟨na, nc, rfl, -⟩ := ht.shape
  rcases ho with ⟨rfl, _⟩ | ⟨g, off, cap, hg, rfl, hle, hc⟩
  · omega
  obtain ⟨x0, x1, x2, x3, c0, c1, c2, c3, hx⟩ := hc _ hi
  obtain ⟨tk, tm, ta, tn, tc, ta', tn', tc', e12⟩ := hx.four
  have f1 : Fr (fun _ => False) w ((w.alloc (.cells #[.int .u8 k, .int .i64 m, .slice na ns.length nc, .slice (some ⟨g, off, none⟩) n cap] 34)).alloc (.cells #[.int .u8 0, .int .i64 0, .slice none 0 0, .slice none 0 0] 34)) := ((Fr.refl _ _).alloc _).alloc _
  have q1 := heap_alloc_first w (.cells #[.int .u8 k, .int .i64 m, .slice na ns.length nc, .slice (some ⟨g, off, none⟩) n cap] 34) (.cells #[.int .u8 0, .int .i64 0, .slice none 0 0, .slice none 0 0] 34)
  have q2 := heap_alloc_two w (.cells #[.int .u8 k, .int .i64 m, .slice na ns.length nc, .slice (some ⟨g, off, none⟩) n cap] 34) (.cells #[.int .u8 0, .int .i64 0, .slice none 0 0, .slice none 0 0] 34)
  simp only [Value.agg.injEq, Array.mk.injEq, List.cons.injEq, and_true] at e12
  obtain ⟨rfl, rfl, rfl, rfl⟩ := e12
  have HX := Lib.hid hx
  clear ht hx hc
  have hbg : g < w.heap.size := World.block_lt_of_cell? w _ c0
  obtain ⟨w1, hw1⟩ : ∃ w1, w1 = (w.alloc (.cells #[.int .u8 k, .int .i64 m, .slice na ns.length nc, .slice (some ⟨g, off, none⟩) n cap] 34)).alloc (.cells #[.int .u8 0, .int .i64 0, .slice none 0 0, .slice none 0 0] 34) := ⟨_, rfl⟩
  rw [← hw1] at f1 q1 q2
  replace c0 := cell_fr f1 (fun _ _ h => h) (R := fun _ => True) trivial c0
  replace c1 := cell_fr f1 (fun _ _ h => h) (R := fun _ => True) trivial c1
  replace c2 := cell_fr f1 (fun _ _ h => h) (R := fun _ => True) trivial c2
  replace c3 := cell_fr f1 (fun _ _ h => h) (R := fun _ => True) trivial c3
  have HW1 := Lib.hid hw1
  have F1 := Lib.hid f1
  clear hw1 f1
  go_enter Try.func60, Try.ntmps60
  go_upto_region 1 with fail
  rw [← HW1.out]
  generalize hgv : w.heap.size + 1 = gr at *
  generalize hgw : w.heap.size = gt at *
  obtain ⟨p0, p1, p2, p3⟩ := cell_of_four q1
  obtain ⟨r0, r1, r2, r3⟩ := cell_of_four q2
  have z0 : w1.frozen? ⟨gr, 0, none⟩ = false := by simp [World.frozen?, q2]
  have z1 : w1.frozen? ⟨gr, 1, none⟩ = false := by simp [World.frozen?, q2]
  have z2 : w1.frozen? ⟨gr, 2, none⟩ = false := by simp [World.frozen?, q2]
  have z3 : w1.frozen? ⟨gr, 3, none⟩ = false := by simp [World.frozen?, q2]
  have HST := Lib.hid (store_four (y0 := .int .u8 tk) (y1 := .int .i64 tm) (y2 := .slice ta tn tc) (y3 := .slice ta' tn' tc') q2)
  have HF : Hid (Fr (fun _ => False) w ((((w1.setCell ⟨gr, 0, none⟩ (.int .u8 tk)).setCell ⟨gr, 1, none⟩ (.int .i64 tm)).setCell ⟨gr, 2, none⟩ (.slice ta tn tc)).setCell ⟨gr, 3, none⟩ (.slice ta' tn' tc'))) := Lib.hid (fr_four _ _ _ _ F1.out (fun h => by omega))
  clear q1 q2 hgv hgw
  by_cases hk5 : k = 5
  · obtain rfl : 0 = q := by have := HQ.out; rw [if_pos hk5] at this; exact this
    simp only [Nat.zero_mul, Nat.add_zero] at hi c0 c1 c2 c3
    have e5 : (((k : Nat) : Int) == 5) = true := by simp; omega
    obtain ⟨kz, hkz⟩ : ∃ kz : Int, ((k : Nat) : Int) = kz := ⟨_, rfl⟩
    rw [hkz] at e5 p0 ⊢
    have hi0 : (0 : Int) < (n : Int) := by omega
    clear hk5 hkz
    go_wp2_with fail
    refine bodyPost_ret (results_cell_row rfl _ _ gr 34 _ _ _ rfl HST.out Try.underlying34 rfl (by kernel_rfl)) rfl ?_
    exact ⟨_, rfl, Shows.fr HF.out (fun _ _ h => h) _ _ HX.out, HF.out⟩
  · obtain rfl : i = q := by have := HQ.out; rw [if_neg hk5] at this; exact this
    have e5 : (((k : Nat) : Int) == 5) = false := by simp; omega
    obtain ⟨kz, hkz⟩ : ∃ kz : Int, ((k : Nat) : Int) = kz := ⟨_, rfl⟩
    rw [hkz] at e5 p0 ⊢
    have hi0 : (i : Int) < (n : Int) := by omega
    clear hk5 hkz
    go_wp2_with fail
    refine bodyPost_ret (results_cell_row rfl _ _ gr 34 _ _ _ rfl HST.out Try.underlying34 rfl (by kernel_rfl)) rfl ?_
    exact ⟨_, rfl, Shows.fr HF.out (fun _ _ h => h) _ _ HX.out, HF.out⟩
end
section
attribute [local go_sem] run_store_float
set_option maxRecDepth 100000

theorem pmode_gc : (Region.Mode.any == Region.Mode.gc) = false := rfl

/-- The packer, as it goes on from w1. -/
def PkIn (fb : Nat) (nv : Value) (w1 : World) (c : Nat) (nv' : Value) (l : List UInt8) (wx : World) : Prop :=
  PkSt fb wx c nv' l ∧ Fr (fun k => k = fb ∨ nv.ownBlock = some k) w1 wx ∧ (nv'.ownBlock = nv.ownBlock ∨ ∀ k, nv'.ownBlock = some k → w1.heap.size ≤ k)

theorem PkIn.start {fb c : Nat} {nv : Value} {l : List UInt8} {w : World} (h : PkSt fb w c nv l) : PkIn fb nv w c nv l w := ⟨h, Fr.refl _ _, .inl rfl⟩

theorem PkIn.quiet {fb c : Nat} {nv nv' : Value} {l : List UInt8} {w1 wx wy : World} (h : PkIn fb nv w1 c nv' l wx) (f : Fr (fun _ => False) wx wy) : PkIn fb nv w1 c nv' l wy :=
  ⟨h.1.fr f (fun h => h) (fun _ _ h => h), h.2.1.trans f (fun _ _ h => h.elim), h.2.2⟩

theorem PkIn.trans {fb c c2 : Nat} {nv nv1 nv2 : Value} {l l2 : List UInt8} {w1 wa wb : World} (h : PkIn fb nv w1 c nv1 l wa) (h2 : PkIn fb nv1 wa c2 nv2 l2 wb) : PkIn fb nv w1 c2 nv2 l2 wb := by
  refine ⟨h2.1, h.2.1.trans h2.2.1 (fun i hi e => ?_), ?_⟩
  · rcases e with e | e
    · exact .inl e
    · rcases h.2.2 with h3 | h3
      · exact .inr (by rw [← h3]; exact e)
      · have := h3 i e; omega
  · rcases h2.2.2 with h3 | h3
    · rw [h3]; exact h.2.2
    · exact .inr (fun k hk => Nat.le_trans h.2.1.size (h3 k hk))

theorem PkIn.base {fb c : Nat} {nv nv' : Value} {l : List UInt8} {w w1 wx : World} (f : Fr (fun _ => False) w w1) (h : PkIn fb nv w1 c nv' l wx) : PkIn fb nv w c nv' l wx :=
  ⟨h.1, (f.mono (fun _ _ h => h.elim)).trans h.2.1 (fun _ _ h => h), h.2.2.imp id (fun h k hk => Nat.le_trans f.size (h k hk))⟩

theorem own_lt' {w : World} {v : Value} {l : List UInt8} (h : Own w v l) : ∀ k, v.ownBlock = some k → k < w.heap.size := fun k hk => Own.lt h k hk

/-- Memory that is not the packer's goes on to be so. -/
theorem PkIn.off {fb c : Nat} {nv nv' : Value} {l : List UInt8} {w1 wx : World} (h : PkIn fb nv w1 c nv' l wx) {k : Nat} (hk : k < w1.heap.size) (h1 : k ≠ fb) (h2 : nv.ownBlock ≠ some k) : ¬ (k = fb ∨ nv'.ownBlock = some k) := by
  rintro (e | e)
  · exact h1 e
  · rcases h.2.2 with h3 | h3
    · exact h2 (by rw [← h3]; exact e)
    · have := h3 k e; omega

/-- What a call of the packer came to. -/
def PkEnd (fb : Nat) (nv : Value) (w w' : World) (ok : Bool) (l' : List UInt8) (c' : Nat) : Prop := ∃ nv' l2 c2, PkIn fb nv w c2 nv' l2 w' ∧ (ok = true → l2 = l' ∧ c2 = c')

/-- What put does: of values of the type. -/
def PutAt (t : KT) : Prop := ∀ (R : Nat → Prop) (v vv : Value) (w : World) (T : VT) (fb c : Nat) (nv : Value) (l : List UInt8), Shows R w t v → VShows R w T vv → goodE t → isE t T = true → PkSt fb w c nv l → (∀ k, R k → k ≠ fb ∧ nv.ownBlock ≠ some k) → l.length ≤ 4000 → c + szV T ≤ 1000000 →
  Calls Try.prog 16 #[.pointer (some ⟨fb, 0, none⟩), v, vv] w fun e w' => e = .returned (.bool (decide ((l ++ encE t T).length ≤ 4000))) ∧ PkEnd fb nv w w' (decide ((l ++ encE t T).length ≤ 4000)) (l ++ encE t T) (c + szV T)

/-- While one part is put. -/
def EachS (R : Nat → Prop) (t : KT) (fb : Nat) (nv : Value) (w2 : World) (c : Nat) (l : List UInt8) (ok : Bool) (l2 : List UInt8) (c2 : Nat) : List Value → World → Prop
  | [], wx => PkIn fb nv w2 c nv l wx
  | [v], wx => PkIn fb nv w2 c nv l wx ∧ Shows R wx t v
  | _, wx => PkEnd fb nv w2 wx ok l2 c2

theorem EachS.fr {R : Nat → Prop} {t : KT} {fb : Nat} {nv : Value} {w2 : World} {c : Nat} {l : List UInt8} {ok : Bool} {l2 : List UInt8} {c2 : Nat} {cvs : List Value} {wx : World} (h : EachS R t fb nv w2 c l ok l2 c2 cvs wx) : Fr (fun k => k = fb ∨ nv.ownBlock = some k) w2 wx := by
  unfold EachS at h
  split at h
  · exact h.2.1
  · exact h.1.2.1
  · obtain ⟨_, _, _, h, _⟩ := h; exact h.2.1

theorem peach_any (k : Nat) (m : Int) (ns : List Txt) (n : Nat) (of : Nat → KT) (c : Nat) (ov : Nat → VT) (ih : ∀ i, i < c → PutAt (of (if k = 5 then 0 else i)))
    (R0 : Nat → Prop) (tv : Value) (w : World) (fb q : Nat) (nv : Value) (l : List UInt8) (va : Option Addr) (cap : Nat) (hsh0 : Shows R0 w (.mk k m ns n of) tv) (hvk0 : VKids R0 w ov va c cap) (hin : ∀ i, i < c → (if k = 5 then 0 else i) < n)
    (hgi : ∀ i, i < c → goodE (of (if k = 5 then 0 else i)) ∧ isE (of (if k = 5 then 0 else i)) (ov i) = true) (hst : PkSt fb w q nv l) (hR0 : ∀ k, R0 k → k ≠ fb ∧ nv.ownBlock ≠ some k) (hl : l.length ≤ 4000) (hq : q + sumTo (fun i => szV (ov i)) c ≤ 1000000) (hc : c ≤ 100000) :
    Calls Try.prog 33 #[.pointer (some ⟨fb, 0, none⟩), tv, .slice va c cap] w fun e w' =>
      e = .returned (.bool (decide ((l ++ partsB (fun i => encE (of (if k = 5 then 0 else i)) (ov i)) c).length ≤ 4000))) ∧ PkEnd fb nv w w' (decide ((l ++ partsB (fun i => encE (of (if k = 5 then 0 else i)) (ov i)) c).length ≤ 4000)) (l ++ partsB (fun i => encE (of (if k = 5 then 0 else i)) (ov i)) c) (q + sumTo (fun i => szV (ov i)) c) := by
  obtain ⟨R, hRd⟩ : ∃ R : Nat → Prop, R = fun k => R0 k ∧ k < w.heap.size := ⟨_, rfl⟩
  have hR : ∀ k, R k → k ≠ fb ∧ nv.ownBlock ≠ some k := by rw [hRd]; exact fun k h => hR0 k h.1
  have hRw : ∀ k, R k → k < w.heap.size := by rw [hRd]; exact fun k h => h.2
  have hsh : Shows R w _ tv := Shows.mono (fun k hk h => by rw [hRd]; exact ⟨h, hk⟩) _ _ hsh0
  have hvk : VKids R w ov va c cap := by
    rcases hvk0 with h | ⟨h1, g, off, hg, rfl, hcc⟩
    · exact .inl h
    · by_cases h0 : c = 0
      · exact .inl h0
      · refine .inr ⟨h1, g, off, ?_, rfl, fun i hi => ?_⟩
        · obtain ⟨x0, x1, x2, x3, c0, _⟩ := hcc 0 (by omega)
          rw [hRd]; exact ⟨hg, World.block_lt_of_cell? w _ c0⟩
        · obtain ⟨x0, x1, x2, x3, c0, c1, c2, c3, hx⟩ := hcc i hi
          exact ⟨x0, x1, x2, x3, c0, c1, c2, c3, VShows.mono (fun k hk h => by rw [hRd]; exact ⟨h, hk⟩) _ _ hx⟩
  clear hsh0 hvk0 hR0 hRd
  obtain ⟨g, hg⟩ : ∃ g : Nat → List UInt8, g = fun i => encE (of (if k = 5 then 0 else i)) (ov i) := ⟨_, rfl⟩
  rw [← hg]
  obtain ⟨sz, hsz⟩ : ∃ sz : Nat → Nat, sz = fun i => szV (ov i) := ⟨_, rfl⟩
  rw [← hsz] at hq ⊢
  obtain ⟨OK, hOK⟩ : ∃ OK, decide ((l ++ partsB g c).length ≤ 4000) = OK := ⟨_, rfl⟩
  rw [hOK]
  have HOKK := Lib.hid hOK
  clear hOK
  obtain ⟨tk, tm, ta, tn, tc, ta', tn', tc', rfl⟩ := hsh.four
  obtain ⟨w1, hw1⟩ : ∃ w1, w1 = w.alloc (.cells #[.int .u8 tk, .int .i64 tm, .slice ta tn tc, .slice ta' tn' tc'] 34) := ⟨_, rfl⟩
  have f1 : Fr (fun _ => False) w w1 := by rw [hw1]; exact (Fr.refl _ _).alloc _
  have q1 : w1.heap[w.heap.size]? = some (.cells #[.int .u8 tk, .int .i64 tm, .slice ta tn tc, .slice ta' tn' tc'] 34 (0, 0)) := by rw [hw1]; exact heap_alloc_new _ _
  have HG := Lib.hid (And.intro hg hsz)
  have HSH := Lib.hid (Shows.fr f1 (fun _ _ h => h) _ _ hsh)
  have HVK := Lib.hid (hvk.fr f1 (fun _ _ h => h))
  have HIN := Lib.hid hin
  have HGI := Lib.hid hgi
  have HIH := Lib.hid ih
  have HR := Lib.hid (And.intro hR hRw)
  have HQ := Lib.hid hq
  have HST := Lib.hid (PkIn.start (hst.fr f1 (fun h => h) (fun _ _ h => h)))
  have hfbl : fb < w.heap.size := lt_of_block hst.here
  have HOWN := Lib.hid (own_lt' hst.own)
  have F1 := Lib.hid f1
  have HL := Lib.hid hl
  clear hsh hvk hin hgi ih hR hRw hq hst f1 hg hsz hl
  go_enter Try.func33, Try.ntmps33
  go_upto_region 1 with fail
  rw [← hw1]
  clear hw1
  obtain ⟨tb, htb⟩ : ∃ tb, w.heap.size = tb := ⟨_, rfl⟩
  rw [htb] at q1 hfbl ⊢
  have H1 := Lib.hid (And.intro q1 htb)
  have HOFF : Hid (tb < w1.heap.size ∧ tb ≠ fb ∧ nv.ownBlock ≠ some tb) := Lib.hid ⟨lt_of_block q1, by omega, fun e => by have := HOWN.out tb e; omega⟩
  clear q1 htb hfbl
  go_wp2_with fail
  go_loopg [11] c (fun G u11 wr => ∃ (j : Nat) (nv' : Value) (qj : Nat), j ≤ c ∧ G = c - j ∧ u11 = .int .i64 j ∧ Hid (PkIn fb nv w1 qj nv' (l ++ partsB g j) wr) ∧ Hid ((l ++ partsB g j).length ≤ 4000) ∧ Hid (qj = q + sumTo sz j))
  case atStart => exact ⟨0, nv, q, Nat.zero_le _, rfl, by go_num, by simpa [partsB] using HST, by simpa [partsB] using HL, Lib.hid (by simp [sumTo])⟩
  case round =>
    obtain ⟨j, nv', qj, hj, rfl, rfl, HI, HLJ, HQJ⟩ := hrel
    by_cases hlt : j < c
    case neg =>
      obtain rfl : j = c := by omega
      have HOK : Hid (OK = true) := Lib.hid (by rw [← HOKK.out]; exact decide_eq_true HLJ.out)
      clear hlt
      go_wp2_with fail
      go_ret
      exact ⟨by rw [HOK.out]; rfl, nv', _, _, PkIn.base F1.out HI.out, fun _ => ⟨rfl, HQJ.out⟩⟩
    case pos =>
      obtain ⟨wa, hwa⟩ : ∃ wa : World, wa = wr := ⟨_, rfl⟩
      rcases HVK.out with hz | ⟨hvcap, gv, ov', hgv, rfl, hvcell⟩
      · omega
      obtain ⟨s0, s1, s2, s3, r0, r1, r2, r3, hsv⟩ := hvcell j hlt
      obtain ⟨zn, zf, zs, za, zc, zcap, es⟩ := hsv.lit
      simp only [Value.agg.injEq, Array.mk.injEq, List.cons.injEq, and_true] at es
      obtain ⟨rfl, rfl, rfl, rfl⟩ := es
      have hoffR : ∀ x, R x → ¬ (x = fb ∨ nv.ownBlock = some x) := fun x hx h => by
        rcases h with h | h
        · exact (HR.out.1 x hx).1 h
        · exact (HR.out.1 x hx).2 h
      have rr0 := cell_fr HI.out.2.1 hoffR hgv r0
      have rr1 := cell_fr HI.out.2.1 hoffR hgv r1
      have rr2 := cell_fr HI.out.2.1 hoffR hgv r2
      have rr3 := cell_fr HI.out.2.1 hoffR hgv r3
      have HSV := Lib.hid (VShows.fr HI.out.2.1 hoffR _ _ hsv)
      have HSHr := Lib.hid (Shows.fr HI.out.2.1 hoffR _ _ HSH.out)
      have hoffR' : ∀ x, R x → x ≠ fb ∧ nv'.ownBlock ≠ some x := fun x hx => by
        have h := HI.out.off (k := x) (by have := HR.out.2 x hx; have := F1.out.size; omega) (HR.out.1 x hx).1 (HR.out.1 x hx).2
        exact ⟨fun e => h (.inl e), fun e => h (.inr e)⟩
      have HOR := Lib.hid hoffR'
      have HLT := Lib.hid hlt
      have q2 : (wr.alloc (.cells #[.int .i64 zn, .float .f64 zf, .string zs, .slice za zc zcap] 42)).heap[wr.heap.size]? = some (.cells #[.int .i64 zn, .float .f64 zf, .string zs, .slice za zc zcap] 42 (0, 0)) := heap_alloc_new _ _
      have f2 : Fr (fun _ => False) wr (wr.alloc (.cells #[.int .i64 zn, .float .f64 zf, .string zs, .slice za zc zcap] 42)) := (Fr.refl _ _).alloc _
      clear r0 r1 r2 r3 hsv hvcell hoffR hoffR'
      have jc : (j : Int) < (c : Int) := by omega
      go_upto_region 4 with fail
      clear rr0 rr1 rr2 rr3
      generalize wr.alloc (.cells #[.int .i64 zn, .float .f64 zf, .string zs, .slice za zc zcap] 42) = w2 at *
      have HVB : Hid (wr.heap.size ≠ fb ∧ nv'.ownBlock ≠ some wr.heap.size) := Lib.hid ⟨fun e => by have := lt_of_block HI.out.1.here; omega, fun e => by have := own_lt' HI.out.1.own _ e; omega⟩
      generalize wr.heap.size = vb at *
      have Q2 := Lib.hid q2
      have F2 := Lib.hid f2
      have HTB : Hid (w2.heap[tb]? = some (.cells #[.int .u8 tk, .int .i64 tm, .slice ta tn tc, .slice ta' tn' tc'] 34 (0, 0)) ∧ tb ≠ fb ∧ nv'.ownBlock ≠ some tb) := Lib.hid (by
        have h := HI.out.off HOFF.out.1 HOFF.out.2.1 HOFF.out.2.2
        refine ⟨box_kept (box_kept H1.out.1 HI.out.2.1 (fun h' => by rcases h' with h' | h'; exact HOFF.out.2.1 h'; exact HOFF.out.2.2 h')) f2 (fun h => h), fun e => h (.inl e), fun e => h (.inr e)⟩)
      have HSH2 := Lib.hid (Shows.fr f2 (fun _ _ h => h) _ _ HSHr.out)
      have HSV2 := Lib.hid (VShows.fr f2 (fun _ _ h => h) _ _ HSV.out)
      have HP2 : Hid (PkIn fb nv' w2 qj nv' (l ++ partsB g j) w2) := Lib.hid (PkIn.start (HI.out.1.fr f2 (fun h => h) (fun _ _ h => h)))
      clear q2 f2
      obtain ⟨b, hb⟩ : ∃ b, b = decide ((l ++ partsB g j ++ g j).length ≤ 4000) := ⟨_, rfl⟩
      have HB := Lib.hid hb
      clear hb
      refine wp_region_chain (by kernel_rfl) [some 16, some 17, some 18, some 19, some 20, some 21, some 22] rfl (by decide) (by intro d hd; simp at hd ⊢; omega)
        [3, 5] (fun cvs wx => EachS R (of (if k = 5 then 0 else j)) fb nv' w2 qj (l ++ partsB g j) b (l ++ partsB g j ++ g j) (qj + sz j) cvs wx)
        [.free (.pointer (some ⟨fb, 0, none⟩)), .free (.agg #[.int .u8 tk, .int .i64 tm, .slice ta tn tc, .slice ta' tn' tc']), .free (.int .i64 j), .link none, .free (.agg #[.int .i64 zn, .float .f64 zf, .string zs, .slice za zc zcap]), .link (some (.bool b)), .free (.bool (!b))]
        (by kernel_rfl) (by kernel_rfl) ?h4 ?step4 ?fin4
      case h4 => exact HP2.out.quiet (Fr.refl _ _).drew
      case step4 =>
        intro vals
        simp only [frOfU, fillU, List.setIfInBounds_toArray, List.set_cons_succ, List.set_cons_zero]
        repeat' (first | exact AllOps.nil | refine AllOps.cons ?_ ?_)
        all_goals
          intro cvs wx hS he hu hlim Kc hK
          simp only [Act.put, List.setIfInBounds_toArray, List.set_cons_succ, List.set_cons_zero, List.getD_cons_zero, List.getD_cons_succ] at hK
          simp only [List.mem_cons, List.not_mem_nil, or_false, forall_eq_or_imp, forall_eq, Region.binds, forall_const, pmode_gc, Bool.false_eq_true, false_imp_iff, List.getD_cons_zero, List.getD_cons_succ, OpSort.val, Option.some.injEq, forall_eq', reduceCtorEq, implies_true, true_and, and_true] at he
          have hfr := EachS.fr hS
          obtain ⟨t0, t1, t2, t3⟩ := cell_of_four (box_kept HTB.out.1 hfr (fun h => by rcases h with h | h; exact HTB.out.2.1 h; exact HTB.out.2.2 h))
          obtain ⟨u0, u1, u2, u3⟩ := cell_of_four (box_kept Q2.out hfr (fun h => by rcases h with h | h; exact HVB.out.1 h; exact HVB.out.2 h))
          clear hfr
          have HSX := Lib.hid hS
          clear hS
        all_goals first | (clear hlim hu; (try simp only [he] at hK ⊢); go_simp; exact hK) | skip
        · obtain rfl := hlim (0 : Nat) rfl
          have h1 : PkIn fb nv' w2 qj nv' (l ++ partsB g j) wx := HSX.out
          have H1' := Lib.hid h1
          clear hlim hu HSX h1 t0 t1 t2 t3 u0 u1 u2 u3
          simp only [he] at hK ⊢
          clear he
          go_simp
          go_at_call 60
          refine (part_any R k m ns n of _ j _ (Shows.fr H1'.out.2.1 (fun x hx h => by rcases h with h | h; exact (HOR.out x hx).1 h; exact (HOR.out x hx).2 h) _ _ HSH2.out) (HIN.out j HLT.out)).mono ?_
          rintro e1 wb ⟨v', rfl, hsv, fa⟩
          exact hK _ _ (fun _ h => by cases h) ⟨H1'.out.quiet fa, hsv⟩
        · obtain rfl := hlim (1 : Nat) rfl
          have h1 := HSX.out
          clear HSX hlim hu
          simp only [List.take_succ_cons, List.take_zero, List.map_cons, List.map_nil] at h1 hK
          obtain ⟨h2, h3⟩ := h1
          obtain ⟨yk, ym, ya, yn, yc, ya', yn', yc', e12⟩ := h3.four
          have H2 := Lib.hid (And.intro h2 h3)
          clear h2 h3 t0 t1 t2 t3 u0 u1 u2 u3
          simp only [he, e12] at hK ⊢
          go_simp
          go_at_call 16
          have hpa := HIH.out j HLT.out R _ _ wx (ov j) fb qj nv' (l ++ partsB g j) H2.out.2 (VShows.fr H2.out.1.2.1 (fun x hx h => by rcases h with h | h; exact (HOR.out x hx).1 h; exact (HOR.out x hx).2 h) _ _ HSV2.out) (HGI.out j HLT.out).1 (HGI.out j HLT.out).2 H2.out.1.1 HOR.out HLJ.out (by
            have h1 := sumTo_le sz j c HLT.out
            have h2 := HQ.out
            have h3 := HQJ.out
            have h4 : sz j = szV (ov j) := by rw [HG.out.2]
            omega)
          rw [e12] at hpa
          refine hpa.mono ?_
          rintro e1 wb ⟨rfl, nv2, l2, c2, hp2, hok⟩
          have e5 : encE (of (if k = 5 then 0 else j)) (ov j) = g j := by rw [HG.out.1]
          have e6 : szV (ov j) = sz j := by rw [HG.out.2]
          rw [e5, e6] at hok
          rw [e5]
          refine hK _ _ (fun _ h => by cases h; rw [HB.out]) ⟨nv2, l2, c2, H2.out.1.trans hp2, fun h => hok (by rw [← HB.out]; exact h)⟩
      case fin4 =>
        intro vals w3 hS hV
        have v5 := hV 5 _ (by decide) rfl
        have v6 := hV 6 _ (by decide) rfl
        clear hV
        simp only [List.map_cons, List.map_nil] at hS
        obtain ⟨nv2, l2, c2, hp, hok⟩ := hS
        have HP := Lib.hid (And.intro hp hok)
        clear hp hok
        simp only [frOfU, fillU, List.setIfInBounds_toArray, List.set_cons_succ, List.set_cons_zero]
        simp only [Nat.reduceAdd, v5, v6]
        have HST2 : Hid (partsB g (j + 1) = partsB g j ++ g j) := Lib.hid (partsB_succ g j)
        have HPT : Hid (PkIn fb nv w1 c2 nv2 l2 w3) := Lib.hid (by
          have h := HI.out.quiet F2.out
          exact h.trans HP.out.1)
        cases b
        · have HNO : Hid (OK = false) := Lib.hid (by
            rw [← HOKK.out]
            have h1 := HB.out
            have h2 := partsB_le g (j + 1) c HLT.out
            rw [HST2.out] at h2
            simp only [List.length_append] at h1 h2 ⊢
            have h3 : ¬ (l.length + (partsB g j).length + (g j).length ≤ 4000) := of_decide_eq_false h1.symm
            exact decide_eq_false (by omega))
          clear v5 v6
          go_wp2_with fail
          go_ret
          exact ⟨by rw [HNO.out]; rfl, nv2, l2, c2, PkIn.base F1.out HPT.out, fun h => by rw [HNO.out] at h; cases h⟩
        · obtain ⟨e1, e2⟩ := HP.out.2 rfl
          have HL2 : Hid ((l ++ partsB g (j + 1)).length ≤ 4000) := Lib.hid (by rw [HST2.out, ← List.append_assoc]; exact of_decide_eq_true HB.out.symm)
          have HQ2 : Hid (c2 = q + sumTo sz (j + 1)) := Lib.hid (by rw [e2, HQJ.out, sumTo_succ]; omega)
          have HPI : Hid (PkIn fb nv w1 c2 nv2 (l ++ partsB g (j + 1)) w3) := Lib.hid (by rw [HST2.out, ← List.append_assoc, ← e1]; exact HPT.out)
          clear v5 v6 e1 e2
          go_wp2_with fail
          go_roundg (c - (j + 1))
          case measure => omega
          case rel => exact ⟨j + 1, nv2, c2, by omega, rfl, by go_num, HPI, HL2, HQ2⟩
end
section
attribute [local go_sem] run_store_float
set_option maxRecDepth 100000

theorem PkSt.count {fb q : Nat} {nv : Value} {l : List UInt8} {w : World} (h : PkSt fb w q nv l) : PkSt fb (w.setCell ⟨fb, 1, none⟩ (.int .i64 ((q : Int) + 1))) (q + 1) nv l := by
  refine ⟨?_, ?_, h.apart⟩
  · rw [setCell_row 1 _ h.here]
    simp
  · exact ownsRow_setCell_other h.own (a := ⟨fb, 1, none⟩) h.apart _

theorem pk_cells {fb q : Nat} {nv : Value} {l : List UInt8} {w : World} (h : PkSt fb w q nv l) : w.cell? ⟨fb, 1, none⟩ = some (.int .i64 (q : Int)) ∧ w.frozen? ⟨fb, 1, none⟩ = false := by
  constructor
  · exact cells_row h.here 1 _ rfl
  · simp [World.frozen?, h.here]

/-- The parts of a type, as the walk has them. -/
theorem shows_lit {R : Nat → Prop} {w : World} {k : Nat} {m : Int} {ns : List Txt} {n : Nat} {of : Nat → KT} {v : Value} (h : Shows R w (.mk k m ns n of) v) : ∃ na nc a' c', v = .agg #[.int .u8 k, .int .i64 m, .slice na ns.length nc, .slice a' n c'] ∧ Kids R w of a' n c' := by
  obtain ⟨vn, vo, rfl, hk, hn, ht, ho⟩ := h
  obtain ⟨na, nc, rfl, -⟩ := ht.shape
  rcases ho with ⟨rfl, a', c', rfl⟩ | ⟨g, off, cap, hg, rfl, hle, hc⟩
  · exact ⟨na, nc, a', c', rfl, .inl rfl⟩
  · exact ⟨na, nc, _, cap, rfl, .inr ⟨hle, g, off, hg, rfl, hc⟩⟩

/-- What holds when put has begun: the two boxes, the count. -/
structure PutHead (R : Nat → Prop) (fb q : Nat) (nv : Value) (l : List UInt8) (w w2 : World) (tb vb : Nat) (tcs vcs : Array Value) : Prop where
  fr : PkIn fb nv w (q + 1) nv l w2
  tbox : w2.heap[tb]? = some (.cells tcs 34 (0, 0))
  vbox : w2.heap[vb]? = some (.cells vcs 42 (0, 0))
  toff : tb < w2.heap.size ∧ tb ≠ fb ∧ nv.ownBlock ≠ some tb
  voff : vb < w2.heap.size ∧ vb ≠ fb ∧ nv.ownBlock ≠ some vb
  roff : ∀ k, R k → k < w2.heap.size ∧ k ≠ fb ∧ nv.ownBlock ≠ some k

theorem put_head (R : Nat → Prop) (fb q : Nat) (nv : Value) (l : List UInt8) (w : World) (tcs vcs : Array Value) (hst : PkSt fb w q nv l) (hR : ∀ k, R k → k < w.heap.size ∧ k ≠ fb ∧ nv.ownBlock ≠ some k) :
    PutHead R fb q nv l w (((w.alloc (.cells tcs 34)).alloc (.cells vcs 42)).setCell ⟨fb, 1, none⟩ (.int .i64 ((q : Int) + 1))) w.heap.size (w.heap.size + 1) tcs vcs := by
  have f1 : Fr (fun _ => False) w ((w.alloc (.cells tcs 34)).alloc (.cells vcs 42)) := ((Fr.refl _ _).alloc _).alloc _
  have h1 := hst.fr f1 (fun h => h) (fun _ _ h => h)
  have hfb := lt_of_block hst.here
  have hown := own_lt' hst.own
  have f2 : Fr (fun k => k = fb) ((w.alloc (.cells tcs 34)).alloc (.cells vcs 42)) (((w.alloc (.cells tcs 34)).alloc (.cells vcs 42)).setCell ⟨fb, 1, none⟩ (.int .i64 ((q : Int) + 1))) := Fr.set1 (Fr.refl _ _) 1 _
  have hsz : ((w.alloc (.cells tcs 34)).alloc (.cells vcs 42)).heap.size = w.heap.size + 2 := by simp
  have hs2 := f2.size
  refine ⟨⟨h1.count, (f1.mono (fun _ _ h => h.elim)).trans (f2.mono (fun _ _ h => .inl h)) (fun _ _ h => h), .inl rfl⟩, ?_, ?_, ⟨by omega, by omega, fun e => by have := hown _ e; omega⟩, ⟨by omega, by omega, fun e => by have := hown _ e; omega⟩, fun k hk => ⟨by have := (hR k hk).1; omega, (hR k hk).2⟩⟩
  · exact box_kept (heap_alloc_first _ _ _) f2 (by show ¬ w.heap.size = fb; omega)
  · exact box_kept (heap_alloc_two _ _ _) f2 (by show ¬ w.heap.size + 1 = fb; omega)

theorem put_k0 (k : Nat) (m : Int) (ns : List Txt) (n : Nat) (of : Nat → KT) (ih : ∀ i, i < n → PutAt (of i)) (hk0 : k = 0) : PutAt (.mk k m ns n of) := by
  intro R0 v vv w T fb q nv l hsh0 hvs0 hgood his hst hR0 hl hq
  obtain ⟨R, hRd⟩ : ∃ R : Nat → Prop, R = fun k => R0 k ∧ k < w.heap.size := ⟨_, rfl⟩
  have hR : ∀ k, R k → k < w.heap.size ∧ k ≠ fb ∧ nv.ownBlock ≠ some k := by rw [hRd]; exact fun k h => ⟨h.2, hR0 k h.1⟩
  have hsh : Shows R w _ v := Shows.mono (fun k hk h => by rw [hRd]; exact ⟨h, hk⟩) _ _ hsh0
  have hvs : VShows R w T vv := VShows.mono (fun k hk h => by rw [hRd]; exact ⟨h, hk⟩) _ _ hvs0
  clear hsh0 hvs0 hR0 hRd
  obtain ⟨N, f, s, c, ov, va, cap, rfl, rfl, hVB, hVK⟩ := vshows_open hvs
  obtain ⟨na, nc, a', c', rfl, hs⟩ := shows_lit hsh
  obtain ⟨hN0, hN1, hf64, hsl, hc5⟩ := hVB
  obtain ⟨⟨hn12, hown⟩, hkids⟩ := hgood
  obtain ⟨-, hmost, hone, hparts, hnames, hnone⟩ := own_facts hown
  obtain ⟨i1, i2, i3, i4, i5, i6, i7, i8, i9, i10⟩ := (isE_iff k m ns n of N f s c ov).1 his
  have hc0 : c = 0 := i3 (by omega)
  have hNa : 0 ≤ N := by simpa [lowE, hk0] using i4
  have hNb : N ≤ 65535 := by
    have h := i5
    simp [highE, hk0] at h
    omega
  have HE : Hid (encE (.mk k m ns n of) (.mk N f s c ov) = be2 N.toNat ∧ szV (.mk N f s c ov) = 1) := Lib.hid ⟨by subst hk0; subst hc0; simp [encE], by subst hc0; simp [szV]⟩
  rw [HE.out.1, HE.out.2] at *
  have HNN := Lib.hid (And.intro hNa hNb)
  clear hNa hNb hVK hs hkids ih hc0
  obtain ⟨OK, hOK⟩ : ∃ OK, decide ((l ++ be2 N.toNat).length ≤ 4000) = OK := ⟨_, rfl⟩
  rw [hOK]
  have HOK := Lib.hid hOK
  clear hOK
  have hph := put_head R fb q nv l w #[.int .u8 k, .int .i64 m, .slice na ns.length nc, .slice a' n c'] #[.int .i64 N, .float .f64 f, .string ⟨s.toArray⟩, .slice va c cap] hst hR
  have f1 : Fr (fun _ => False) w ((w.alloc (.cells #[.int .u8 k, .int .i64 m, .slice na ns.length nc, .slice a' n c'] 34)).alloc (.cells #[.int .i64 N, .float .f64 f, .string ⟨s.toArray⟩, .slice va c cap] 42)) := ((Fr.refl _ _).alloc _).alloc _
  obtain ⟨p1, z1⟩ := pk_cells (hst.fr f1 (fun h => h) (fun _ _ h => h))
  have HL := Lib.hid hl
  have HQ := Lib.hid hq
  have hfb1 : fb ≠ w.heap.size := by have := lt_of_block hst.here; omega
  have hfb2 : fb ≠ w.heap.size + 1 := by have := lt_of_block hst.here; omega
  have HSH0 := Lib.hid hsh
  clear hsh hvs hst hR hown i1 i2 i3 i4 i5 i6 i7 i8 i9 i10 hmost hone hparts hnames hnone hl hq his hn12
  have hqw : IntKind.i64.wrap ((q : Int) + 1) = (q : Int) + 1 := by have := HQ.out; rw [IntKind.wrap_i64]; omega
  obtain ⟨qz, hqz⟩ : ∃ qz : Int, (q : Int) + 1 = qz := ⟨_, rfl⟩
  have hbig : ¬ (1048576 : Int) < qz := by have := HQ.out; omega
  rw [hqz] at hph hqw
  have HQZ := Lib.hid hqz
  have HQW := Lib.hid hqw
  clear hqw
  obtain ⟨kz, hkz⟩ : ∃ kz : Int, ((k : Nat) : Int) = kz := ⟨_, rfl⟩
  rw [hkz] at hph f1 p1 z1 ⊢
  have e0 : (kz == 0) = true := by simp; omega
  have e1 : (kz == 1) = false := by simp; omega
  have e7 : (kz == 7) = false := by simp; omega
  have e2 : (kz == 2) = false := by simp; omega
  have e3 : (kz == 3) = false := by simp; omega
  have e4 : (kz == 4) = false := by simp; omega
  have e5 : (kz == 5) = false := by simp; omega
  have e6 : (kz == 6) = false := by simp; omega
  have e8 : (kz == 8) = false := by simp; omega
  have HKZ := Lib.hid hkz
  clear hkz hk0
  unfold sv
  go_enter Try.func16, Try.ntmps16
  go_upto_region 1 with fail
  obtain ⟨w1, hw1⟩ : ∃ w1, (w.alloc (.cells #[.int .u8 kz, .int .i64 m, .slice na ns.length nc, .slice a' n c'] 34)).alloc (.cells #[.int .i64 N, .float .f64 f, .string ⟨s.toArray⟩, .slice va c cap] 42) = w1 := ⟨_, rfl⟩
  rw [hw1] at hph f1 p1 z1 ⊢
  clear hw1
  obtain ⟨vb, hvb⟩ : ∃ vb, w.heap.size + 1 = vb := ⟨_, rfl⟩
  rw [hvb] at hph hfb2 ⊢
  obtain ⟨tb, htb⟩ : ∃ tb, w.heap.size = tb := ⟨_, rfl⟩
  rw [htb] at hph hfb1 ⊢
  clear hvb htb
  have F1 := Lib.hid f1
  clear f1
  go_upto_region 2 with fail
  try rw [hqz]
  clear p1 z1 hqz
  generalize w1.setCell ⟨fb, 1, none⟩ (.int .i64 qz) = w2 at *
  obtain ⟨p1, z1⟩ := pk_cells hph.fr.1
  rw [show (((q + 1 : Nat) : Nat) : Int) = qz from by rw [← HQZ.out]; omega] at p1
  obtain ⟨c0, c1, c2, c3⟩ := cell_of_four hph.tbox
  obtain ⟨d0, d1, d2, d3⟩ := cell_of_four hph.vbox
  have HPH := Lib.hid hph
  clear hph
  go_wp2_with fail
  refine (pkword_any fb (q + 1) nv l N HNN.out.1 HNN.out.2 _ HPH.out.fr.1 HL.out).mono ?_
  rintro e w3 ⟨rfl, nv2, h2, h3, h4⟩
  have HP : Hid (PkIn fb nv w (q + 1) nv2 (l ++ be2 N.toNat) w3) := Lib.hid (HPH.out.fr.trans ⟨h2, h3, h4⟩)
  have HOK2 : Hid (decide (l.length + 2 ≤ 4000) = OK) := Lib.hid (by rw [← HOK.out, List.length_append, be2_length])
  rw [HOK2.out]
  clear h2 h3 h4 c0 c1 c2 c3 d0 d1 d2 d3 p1 z1
  go_wp2_with fail
  go_ret
  exact ⟨rfl, nv2, _, _, HP.out, fun _ => ⟨rfl, rfl⟩⟩

theorem put_k1 (k : Nat) (m : Int) (ns : List Txt) (n : Nat) (of : Nat → KT) (ih : ∀ i, i < n → PutAt (of i)) (hk0 : k = 1) : PutAt (.mk k m ns n of) := by
  intro R0 v vv w T fb q nv l hsh0 hvs0 hgood his hst hR0 hl hq
  obtain ⟨R, hRd⟩ : ∃ R : Nat → Prop, R = fun k => R0 k ∧ k < w.heap.size := ⟨_, rfl⟩
  have hR : ∀ k, R k → k < w.heap.size ∧ k ≠ fb ∧ nv.ownBlock ≠ some k := by rw [hRd]; exact fun k h => ⟨h.2, hR0 k h.1⟩
  have hsh : Shows R w _ v := Shows.mono (fun k hk h => by rw [hRd]; exact ⟨h, hk⟩) _ _ hsh0
  have hvs : VShows R w T vv := VShows.mono (fun k hk h => by rw [hRd]; exact ⟨h, hk⟩) _ _ hvs0
  clear hsh0 hvs0 hR0 hRd
  obtain ⟨N, f, s, c, ov, va, cap, rfl, rfl, hVB, hVK⟩ := vshows_open hvs
  obtain ⟨na, nc, a', c', rfl, hs⟩ := shows_lit hsh
  obtain ⟨hN0, hN1, hf64, hsl, hc5⟩ := hVB
  obtain ⟨⟨hn12, hown⟩, hkids⟩ := hgood
  obtain ⟨-, hmost, hone, hparts, hnames, hnone⟩ := own_facts hown
  obtain ⟨i1, i2, i3, i4, i5, i6, i7, i8, i9, i10⟩ := (isE_iff k m ns n of N f s c ov).1 his
  have hc0 : c = 0 := i3 (by omega)
  have hNa : 0 ≤ N := by simpa [lowE, hk0] using i4
  have hNb : N ≤ 65535 := by
    have h := i5
    simp [highE, hk0] at h
    omega
  have HE : Hid (encE (.mk k m ns n of) (.mk N f s c ov) = be2 N.toNat ∧ szV (.mk N f s c ov) = 1) := Lib.hid ⟨by subst hk0; subst hc0; simp [encE], by subst hc0; simp [szV]⟩
  rw [HE.out.1, HE.out.2] at *
  have HNN := Lib.hid (And.intro hNa hNb)
  clear hNa hNb hVK hs hkids ih hc0
  obtain ⟨OK, hOK⟩ : ∃ OK, decide ((l ++ be2 N.toNat).length ≤ 4000) = OK := ⟨_, rfl⟩
  rw [hOK]
  have HOK := Lib.hid hOK
  clear hOK
  have hph := put_head R fb q nv l w #[.int .u8 k, .int .i64 m, .slice na ns.length nc, .slice a' n c'] #[.int .i64 N, .float .f64 f, .string ⟨s.toArray⟩, .slice va c cap] hst hR
  have f1 : Fr (fun _ => False) w ((w.alloc (.cells #[.int .u8 k, .int .i64 m, .slice na ns.length nc, .slice a' n c'] 34)).alloc (.cells #[.int .i64 N, .float .f64 f, .string ⟨s.toArray⟩, .slice va c cap] 42)) := ((Fr.refl _ _).alloc _).alloc _
  obtain ⟨p1, z1⟩ := pk_cells (hst.fr f1 (fun h => h) (fun _ _ h => h))
  have HL := Lib.hid hl
  have HQ := Lib.hid hq
  have hfb1 : fb ≠ w.heap.size := by have := lt_of_block hst.here; omega
  have hfb2 : fb ≠ w.heap.size + 1 := by have := lt_of_block hst.here; omega
  have HSH0 := Lib.hid hsh
  clear hsh hvs hst hR hown i1 i2 i3 i4 i5 i6 i7 i8 i9 i10 hmost hone hparts hnames hnone hl hq his hn12
  have hqw : IntKind.i64.wrap ((q : Int) + 1) = (q : Int) + 1 := by have := HQ.out; rw [IntKind.wrap_i64]; omega
  obtain ⟨qz, hqz⟩ : ∃ qz : Int, (q : Int) + 1 = qz := ⟨_, rfl⟩
  have hbig : ¬ (1048576 : Int) < qz := by have := HQ.out; omega
  rw [hqz] at hph hqw
  have HQZ := Lib.hid hqz
  have HQW := Lib.hid hqw
  clear hqw
  obtain ⟨kz, hkz⟩ : ∃ kz : Int, ((k : Nat) : Int) = kz := ⟨_, rfl⟩
  rw [hkz] at hph f1 p1 z1 ⊢
  have e0 : (kz == 0) = false := by simp; omega
  have e1 : (kz == 1) = true := by simp; omega
  have e7 : (kz == 7) = false := by simp; omega
  have e2 : (kz == 2) = false := by simp; omega
  have e3 : (kz == 3) = false := by simp; omega
  have e4 : (kz == 4) = false := by simp; omega
  have e5 : (kz == 5) = false := by simp; omega
  have e6 : (kz == 6) = false := by simp; omega
  have e8 : (kz == 8) = false := by simp; omega
  have HKZ := Lib.hid hkz
  clear hkz hk0
  unfold sv
  go_enter Try.func16, Try.ntmps16
  go_upto_region 1 with fail
  obtain ⟨w1, hw1⟩ : ∃ w1, (w.alloc (.cells #[.int .u8 kz, .int .i64 m, .slice na ns.length nc, .slice a' n c'] 34)).alloc (.cells #[.int .i64 N, .float .f64 f, .string ⟨s.toArray⟩, .slice va c cap] 42) = w1 := ⟨_, rfl⟩
  rw [hw1] at hph f1 p1 z1 ⊢
  clear hw1
  obtain ⟨vb, hvb⟩ : ∃ vb, w.heap.size + 1 = vb := ⟨_, rfl⟩
  rw [hvb] at hph hfb2 ⊢
  obtain ⟨tb, htb⟩ : ∃ tb, w.heap.size = tb := ⟨_, rfl⟩
  rw [htb] at hph hfb1 ⊢
  clear hvb htb
  have F1 := Lib.hid f1
  clear f1
  go_upto_region 2 with fail
  try rw [hqz]
  clear p1 z1 hqz
  generalize w1.setCell ⟨fb, 1, none⟩ (.int .i64 qz) = w2 at *
  obtain ⟨p1, z1⟩ := pk_cells hph.fr.1
  rw [show (((q + 1 : Nat) : Nat) : Int) = qz from by rw [← HQZ.out]; omega] at p1
  obtain ⟨c0, c1, c2, c3⟩ := cell_of_four hph.tbox
  obtain ⟨d0, d1, d2, d3⟩ := cell_of_four hph.vbox
  have HPH := Lib.hid hph
  clear hph
  go_wp2_with fail
  refine (pkword_any fb (q + 1) nv l N HNN.out.1 HNN.out.2 _ HPH.out.fr.1 HL.out).mono ?_
  rintro e w3 ⟨rfl, nv2, h2, h3, h4⟩
  have HP : Hid (PkIn fb nv w (q + 1) nv2 (l ++ be2 N.toNat) w3) := Lib.hid (HPH.out.fr.trans ⟨h2, h3, h4⟩)
  have HOK2 : Hid (decide (l.length + 2 ≤ 4000) = OK) := Lib.hid (by rw [← HOK.out, List.length_append, be2_length])
  rw [HOK2.out]
  clear h2 h3 h4 c0 c1 c2 c3 d0 d1 d2 d3 p1 z1
  go_wp2_with fail
  go_ret
  exact ⟨rfl, nv2, _, _, HP.out, fun _ => ⟨rfl, rfl⟩⟩

theorem put_k7 (k : Nat) (m : Int) (ns : List Txt) (n : Nat) (of : Nat → KT) (ih : ∀ i, i < n → PutAt (of i)) (hk0 : k = 7) : PutAt (.mk k m ns n of) := by
  intro R0 v vv w T fb q nv l hsh0 hvs0 hgood his hst hR0 hl hq
  obtain ⟨R, hRd⟩ : ∃ R : Nat → Prop, R = fun k => R0 k ∧ k < w.heap.size := ⟨_, rfl⟩
  have hR : ∀ k, R k → k < w.heap.size ∧ k ≠ fb ∧ nv.ownBlock ≠ some k := by rw [hRd]; exact fun k h => ⟨h.2, hR0 k h.1⟩
  have hsh : Shows R w _ v := Shows.mono (fun k hk h => by rw [hRd]; exact ⟨h, hk⟩) _ _ hsh0
  have hvs : VShows R w T vv := VShows.mono (fun k hk h => by rw [hRd]; exact ⟨h, hk⟩) _ _ hvs0
  clear hsh0 hvs0 hR0 hRd
  obtain ⟨N, f, s, c, ov, va, cap, rfl, rfl, hVB, hVK⟩ := vshows_open hvs
  obtain ⟨na, nc, a', c', rfl, hs⟩ := shows_lit hsh
  obtain ⟨hN0, hN1, hf64, hsl, hc5⟩ := hVB
  obtain ⟨⟨hn12, hown⟩, hkids⟩ := hgood
  obtain ⟨-, hmost, hone, hparts, hnames, hnone⟩ := own_facts hown
  obtain ⟨i1, i2, i3, i4, i5, i6, i7, i8, i9, i10⟩ := (isE_iff k m ns n of N f s c ov).1 his
  have hc0 : c = 0 := i3 (by omega)
  have hNa : 0 ≤ N := by simpa [lowE, hk0] using i4
  have hNb : N ≤ 65535 := by
    have h := i5
    simp [highE, hk0] at h
    have := hnames (by omega); omega
  have HE : Hid (encE (.mk k m ns n of) (.mk N f s c ov) = be2 N.toNat ∧ szV (.mk N f s c ov) = 1) := Lib.hid ⟨by subst hk0; subst hc0; simp [encE], by subst hc0; simp [szV]⟩
  rw [HE.out.1, HE.out.2] at *
  have HNN := Lib.hid (And.intro hNa hNb)
  clear hNa hNb hVK hs hkids ih hc0
  obtain ⟨OK, hOK⟩ : ∃ OK, decide ((l ++ be2 N.toNat).length ≤ 4000) = OK := ⟨_, rfl⟩
  rw [hOK]
  have HOK := Lib.hid hOK
  clear hOK
  have hph := put_head R fb q nv l w #[.int .u8 k, .int .i64 m, .slice na ns.length nc, .slice a' n c'] #[.int .i64 N, .float .f64 f, .string ⟨s.toArray⟩, .slice va c cap] hst hR
  have f1 : Fr (fun _ => False) w ((w.alloc (.cells #[.int .u8 k, .int .i64 m, .slice na ns.length nc, .slice a' n c'] 34)).alloc (.cells #[.int .i64 N, .float .f64 f, .string ⟨s.toArray⟩, .slice va c cap] 42)) := ((Fr.refl _ _).alloc _).alloc _
  obtain ⟨p1, z1⟩ := pk_cells (hst.fr f1 (fun h => h) (fun _ _ h => h))
  have HL := Lib.hid hl
  have HQ := Lib.hid hq
  have hfb1 : fb ≠ w.heap.size := by have := lt_of_block hst.here; omega
  have hfb2 : fb ≠ w.heap.size + 1 := by have := lt_of_block hst.here; omega
  have HSH0 := Lib.hid hsh
  clear hsh hvs hst hR hown i1 i2 i3 i4 i5 i6 i7 i8 i9 i10 hmost hone hparts hnames hnone hl hq his hn12
  have hqw : IntKind.i64.wrap ((q : Int) + 1) = (q : Int) + 1 := by have := HQ.out; rw [IntKind.wrap_i64]; omega
  obtain ⟨qz, hqz⟩ : ∃ qz : Int, (q : Int) + 1 = qz := ⟨_, rfl⟩
  have hbig : ¬ (1048576 : Int) < qz := by have := HQ.out; omega
  rw [hqz] at hph hqw
  have HQZ := Lib.hid hqz
  have HQW := Lib.hid hqw
  clear hqw
  obtain ⟨kz, hkz⟩ : ∃ kz : Int, ((k : Nat) : Int) = kz := ⟨_, rfl⟩
  rw [hkz] at hph f1 p1 z1 ⊢
  have e0 : (kz == 0) = false := by simp; omega
  have e1 : (kz == 1) = false := by simp; omega
  have e7 : (kz == 7) = true := by simp; omega
  have e2 : (kz == 2) = false := by simp; omega
  have e3 : (kz == 3) = false := by simp; omega
  have e4 : (kz == 4) = false := by simp; omega
  have e5 : (kz == 5) = false := by simp; omega
  have e6 : (kz == 6) = false := by simp; omega
  have e8 : (kz == 8) = false := by simp; omega
  have HKZ := Lib.hid hkz
  clear hkz hk0
  unfold sv
  go_enter Try.func16, Try.ntmps16
  go_upto_region 1 with fail
  obtain ⟨w1, hw1⟩ : ∃ w1, (w.alloc (.cells #[.int .u8 kz, .int .i64 m, .slice na ns.length nc, .slice a' n c'] 34)).alloc (.cells #[.int .i64 N, .float .f64 f, .string ⟨s.toArray⟩, .slice va c cap] 42) = w1 := ⟨_, rfl⟩
  rw [hw1] at hph f1 p1 z1 ⊢
  clear hw1
  obtain ⟨vb, hvb⟩ : ∃ vb, w.heap.size + 1 = vb := ⟨_, rfl⟩
  rw [hvb] at hph hfb2 ⊢
  obtain ⟨tb, htb⟩ : ∃ tb, w.heap.size = tb := ⟨_, rfl⟩
  rw [htb] at hph hfb1 ⊢
  clear hvb htb
  have F1 := Lib.hid f1
  clear f1
  go_upto_region 2 with fail
  try rw [hqz]
  clear p1 z1 hqz
  generalize w1.setCell ⟨fb, 1, none⟩ (.int .i64 qz) = w2 at *
  obtain ⟨p1, z1⟩ := pk_cells hph.fr.1
  rw [show (((q + 1 : Nat) : Nat) : Int) = qz from by rw [← HQZ.out]; omega] at p1
  obtain ⟨c0, c1, c2, c3⟩ := cell_of_four hph.tbox
  obtain ⟨d0, d1, d2, d3⟩ := cell_of_four hph.vbox
  have HPH := Lib.hid hph
  clear hph
  go_wp2_with fail
  refine (pkword_any fb (q + 1) nv l N HNN.out.1 HNN.out.2 _ HPH.out.fr.1 HL.out).mono ?_
  rintro e w3 ⟨rfl, nv2, h2, h3, h4⟩
  have HP : Hid (PkIn fb nv w (q + 1) nv2 (l ++ be2 N.toNat) w3) := Lib.hid (HPH.out.fr.trans ⟨h2, h3, h4⟩)
  have HOK2 : Hid (decide (l.length + 2 ≤ 4000) = OK) := Lib.hid (by rw [← HOK.out, List.length_append, be2_length])
  rw [HOK2.out]
  clear h2 h3 h4 c0 c1 c2 c3 d0 d1 d2 d3 p1 z1
  go_wp2_with fail
  go_ret
  exact ⟨rfl, nv2, _, _, HP.out, fun _ => ⟨rfl, rfl⟩⟩

theorem put_k4 (k : Nat) (m : Int) (ns : List Txt) (n : Nat) (of : Nat → KT) (ih : ∀ i, i < n → PutAt (of i)) (hk0 : k = 4) : PutAt (.mk k m ns n of) := by
  intro R0 v vv w T fb q nv l hsh0 hvs0 hgood his hst hR0 hl hq
  obtain ⟨R, hRd⟩ : ∃ R : Nat → Prop, R = fun k => R0 k ∧ k < w.heap.size := ⟨_, rfl⟩
  have hR : ∀ k, R k → k < w.heap.size ∧ k ≠ fb ∧ nv.ownBlock ≠ some k := by rw [hRd]; exact fun k h => ⟨h.2, hR0 k h.1⟩
  have hsh : Shows R w _ v := Shows.mono (fun k hk h => by rw [hRd]; exact ⟨h, hk⟩) _ _ hsh0
  have hvs : VShows R w T vv := VShows.mono (fun k hk h => by rw [hRd]; exact ⟨h, hk⟩) _ _ hvs0
  clear hsh0 hvs0 hR0 hRd
  obtain ⟨N, f, s, c, ov, va, cap, rfl, rfl, hVB, hVK⟩ := vshows_open hvs
  obtain ⟨na, nc, a', c', rfl, hs⟩ := shows_lit hsh
  obtain ⟨hN0, hN1, hf64, hsl, hc5⟩ := hVB
  obtain ⟨⟨hn12, hown⟩, hkids⟩ := hgood
  obtain ⟨-, hmost, hone, hparts, hnames, hnone⟩ := own_facts hown
  obtain ⟨i1, i2, i3, i4, i5, i6, i7, i8, i9, i10⟩ := (isE_iff k m ns n of N f s c ov).1 his
  have hc0 : c = 0 := i3 (by omega)
  have hs60 : s.length ≤ 60 := by have h1 := i6 hk0; have h2 := hmost (by omega); omega
  have HE : Hid (encE (.mk k m ns n of) (.mk N f s c ov) = txt s ∧ szV (.mk N f s c ov) = 1) := Lib.hid ⟨by subst hk0; subst hc0; simp [encE], by subst hc0; simp [szV]⟩
  rw [HE.out.1, HE.out.2] at *
  have HS60 := Lib.hid hs60
  clear hs60 hVK hs hkids ih hc0
  obtain ⟨OK, hOK⟩ : ∃ OK, decide ((l ++ txt s).length ≤ 4000) = OK := ⟨_, rfl⟩
  rw [hOK]
  have HOK := Lib.hid hOK
  clear hOK
  have hph := put_head R fb q nv l w #[.int .u8 k, .int .i64 m, .slice na ns.length nc, .slice a' n c'] #[.int .i64 N, .float .f64 f, .string ⟨s.toArray⟩, .slice va c cap] hst hR
  have f1 : Fr (fun _ => False) w ((w.alloc (.cells #[.int .u8 k, .int .i64 m, .slice na ns.length nc, .slice a' n c'] 34)).alloc (.cells #[.int .i64 N, .float .f64 f, .string ⟨s.toArray⟩, .slice va c cap] 42)) := ((Fr.refl _ _).alloc _).alloc _
  obtain ⟨p1, z1⟩ := pk_cells (hst.fr f1 (fun h => h) (fun _ _ h => h))
  have HL := Lib.hid hl
  have HQ := Lib.hid hq
  have hfb1 : fb ≠ w.heap.size := by have := lt_of_block hst.here; omega
  have hfb2 : fb ≠ w.heap.size + 1 := by have := lt_of_block hst.here; omega
  have HSH0 := Lib.hid hsh
  clear hsh hvs hst hR hown i1 i2 i3 i4 i5 i6 i7 i8 i9 i10 hmost hone hparts hnames hnone hl hq his hn12
  have hqw : IntKind.i64.wrap ((q : Int) + 1) = (q : Int) + 1 := by have := HQ.out; rw [IntKind.wrap_i64]; omega
  obtain ⟨qz, hqz⟩ : ∃ qz : Int, (q : Int) + 1 = qz := ⟨_, rfl⟩
  have hbig : ¬ (1048576 : Int) < qz := by have := HQ.out; omega
  rw [hqz] at hph hqw
  have HQZ := Lib.hid hqz
  have HQW := Lib.hid hqw
  clear hqw
  obtain ⟨kz, hkz⟩ : ∃ kz : Int, ((k : Nat) : Int) = kz := ⟨_, rfl⟩
  rw [hkz] at hph f1 p1 z1 ⊢
  have e0 : (kz == 0) = false := by simp; omega
  have e1 : (kz == 1) = false := by simp; omega
  have e7 : (kz == 7) = false := by simp; omega
  have e2 : (kz == 2) = false := by simp; omega
  have e3 : (kz == 3) = false := by simp; omega
  have e4 : (kz == 4) = true := by simp; omega
  have e5 : (kz == 5) = false := by simp; omega
  have e6 : (kz == 6) = false := by simp; omega
  have e8 : (kz == 8) = false := by simp; omega
  have HKZ := Lib.hid hkz
  clear hkz hk0
  unfold sv
  go_enter Try.func16, Try.ntmps16
  go_upto_region 1 with fail
  obtain ⟨w1, hw1⟩ : ∃ w1, (w.alloc (.cells #[.int .u8 kz, .int .i64 m, .slice na ns.length nc, .slice a' n c'] 34)).alloc (.cells #[.int .i64 N, .float .f64 f, .string ⟨s.toArray⟩, .slice va c cap] 42) = w1 := ⟨_, rfl⟩
  rw [hw1] at hph f1 p1 z1 ⊢
  clear hw1
  obtain ⟨vb, hvb⟩ : ∃ vb, w.heap.size + 1 = vb := ⟨_, rfl⟩
  rw [hvb] at hph hfb2 ⊢
  obtain ⟨tb, htb⟩ : ∃ tb, w.heap.size = tb := ⟨_, rfl⟩
  rw [htb] at hph hfb1 ⊢
  clear hvb htb
  have F1 := Lib.hid f1
  clear f1
  go_upto_region 2 with fail
  try rw [hqz]
  clear p1 z1 hqz
  generalize w1.setCell ⟨fb, 1, none⟩ (.int .i64 qz) = w2 at *
  obtain ⟨p1, z1⟩ := pk_cells hph.fr.1
  rw [show (((q + 1 : Nat) : Nat) : Int) = qz from by rw [← HQZ.out]; omega] at p1
  obtain ⟨c0, c1, c2, c3⟩ := cell_of_four hph.tbox
  obtain ⟨d0, d1, d2, d3⟩ := cell_of_four hph.vbox
  have HPH := Lib.hid hph
  clear hph
  go_wp2_with fail
  refine (pktext_any fb (q + 1) nv l s HS60.out _ HPH.out.fr.1 HL.out).mono ?_
  rintro e w3 ⟨rfl, nv2, h2, h3, h4⟩
  have HP : Hid (PkIn fb nv w (q + 1) nv2 (l ++ txt s) w3) := Lib.hid (HPH.out.fr.trans ⟨h2, h3, h4⟩)
  have HOK2 : Hid (decide (l.length + (txt s).length ≤ 4000) = OK) := Lib.hid (by rw [← HOK.out, List.length_append])
  rw [HOK2.out]
  clear h2 h3 h4 c0 c1 c2 c3 d0 d1 d2 d3 p1 z1
  go_wp2_with fail
  go_ret
  exact ⟨rfl, nv2, _, _, HP.out, fun _ => ⟨rfl, rfl⟩⟩

/-- While a number of 32 or 64 bits is put. -/
def LeafS (fb : Nat) (nv : Value) (w2 : World) (c : Nat) (l l2 : List UInt8) : List Value → World → Prop
  | [], wx => PkIn fb nv w2 c nv l wx
  | _, wx => ∃ nv2, PkIn fb nv w2 c nv2 l2 wx
theorem LeafS.fr {fb : Nat} {nv : Value} {w2 : World} {c : Nat} {l l2 : List UInt8} {cvs : List Value} {wx : World} (h : LeafS fb nv w2 c l l2 cvs wx) : Fr (fun k => k = fb ∨ nv.ownBlock = some k) w2 wx := by
  unfold LeafS at h
  split at h
  · exact h.2.1
  · obtain ⟨_, h⟩ := h; exact h.2.1

theorem put_k2 (k : Nat) (m : Int) (ns : List Txt) (n : Nat) (of : Nat → KT) (ih : ∀ i, i < n → PutAt (of i)) (hk0 : k = 2) : PutAt (.mk k m ns n of) := by
  intro R0 v vv w T fb q nv l hsh0 hvs0 hgood his hst hR0 hl hq
  obtain ⟨R, hRd⟩ : ∃ R : Nat → Prop, R = fun k => R0 k ∧ k < w.heap.size := ⟨_, rfl⟩
  have hR : ∀ k, R k → k < w.heap.size ∧ k ≠ fb ∧ nv.ownBlock ≠ some k := by rw [hRd]; exact fun k h => ⟨h.2, hR0 k h.1⟩
  have hsh : Shows R w _ v := Shows.mono (fun k hk h => by rw [hRd]; exact ⟨h, hk⟩) _ _ hsh0
  have hvs : VShows R w T vv := VShows.mono (fun k hk h => by rw [hRd]; exact ⟨h, hk⟩) _ _ hvs0
  clear hsh0 hvs0 hR0 hRd
  obtain ⟨N, f, s, c, ov, va, cap, rfl, rfl, hVB, hVK⟩ := vshows_open hvs
  obtain ⟨na, nc, a', c', rfl, hs⟩ := shows_lit hsh
  obtain ⟨hN0, hN1, hf64, hsl, hc5⟩ := hVB
  obtain ⟨⟨hn12, hown⟩, hkids⟩ := hgood
  obtain ⟨-, hmost, hone, hparts, hnames, hnone⟩ := own_facts hown
  obtain ⟨i1, i2, i3, i4, i5, i6, i7, i8, i9, i10⟩ := (isE_iff k m ns n of N f s c ov).1 his
  have hc0 : c = 0 := i3 (by omega)
  have HE : Hid (encE (.mk k m ns n of) (.mk N f s c ov) = be4 (N % 4294967296).toNat ∧ szV (.mk N f s c ov) = 1) := Lib.hid ⟨by subst hk0; subst hc0; simp [encE], by subst hc0; simp [szV]⟩
  rw [HE.out.1, HE.out.2] at *
  obtain ⟨U, hU⟩ : ∃ U : Int, N % 4294967296 = U := ⟨_, rfl⟩
  have hU0 : 0 ≤ U ∧ U ≤ 4294967295 := by omega
  have hUw : IntKind.u32.wrap N = U := by rw [IntKind.wrap_u32]; exact hU
  rw [hU] at *
  have HU := Lib.hid (And.intro hU0 hUw)
  clear hU hU0 hUw hVK hs hkids ih hc0
  obtain ⟨OK, hOK⟩ : ∃ OK, decide ((l ++ be4 U.toNat).length ≤ 4000) = OK := ⟨_, rfl⟩
  rw [hOK]
  have HOK := Lib.hid hOK
  clear hOK
  have hph := put_head R fb q nv l w #[.int .u8 k, .int .i64 m, .slice na ns.length nc, .slice a' n c'] #[.int .i64 N, .float .f64 f, .string ⟨s.toArray⟩, .slice va c cap] hst hR
  have f1 : Fr (fun _ => False) w ((w.alloc (.cells #[.int .u8 k, .int .i64 m, .slice na ns.length nc, .slice a' n c'] 34)).alloc (.cells #[.int .i64 N, .float .f64 f, .string ⟨s.toArray⟩, .slice va c cap] 42)) := ((Fr.refl _ _).alloc _).alloc _
  obtain ⟨p1, z1⟩ := pk_cells (hst.fr f1 (fun h => h) (fun _ _ h => h))
  have HL := Lib.hid hl
  have HQ := Lib.hid hq
  have hfb1 : fb ≠ w.heap.size := by have := lt_of_block hst.here; omega
  have hfb2 : fb ≠ w.heap.size + 1 := by have := lt_of_block hst.here; omega
  have HSH0 := Lib.hid hsh
  clear hsh hvs hst hR hown i1 i2 i3 i4 i5 i6 i7 i8 i9 i10 hmost hone hparts hnames hnone hl hq his hn12
  have hqw : IntKind.i64.wrap ((q : Int) + 1) = (q : Int) + 1 := by have := HQ.out; rw [IntKind.wrap_i64]; omega
  obtain ⟨qz, hqz⟩ : ∃ qz : Int, (q : Int) + 1 = qz := ⟨_, rfl⟩
  have hbig : ¬ (1048576 : Int) < qz := by have := HQ.out; omega
  rw [hqz] at hph hqw
  have HQZ := Lib.hid hqz
  have HQW := Lib.hid hqw
  clear hqw
  obtain ⟨kz, hkz⟩ : ∃ kz : Int, ((k : Nat) : Int) = kz := ⟨_, rfl⟩
  rw [hkz] at hph f1 p1 z1 ⊢
  have e0 : (kz == 0) = false := by simp; omega
  have e1 : (kz == 1) = false := by simp; omega
  have e7 : (kz == 7) = false := by simp; omega
  have e2 : (kz == 2) = true := by simp; omega
  have e3 : (kz == 3) = false := by simp; omega
  have e4 : (kz == 4) = false := by simp; omega
  have e5 : (kz == 5) = false := by simp; omega
  have e6 : (kz == 6) = false := by simp; omega
  have e8 : (kz == 8) = false := by simp; omega
  have HKZ := Lib.hid hkz
  clear hkz hk0
  unfold sv
  go_enter Try.func16, Try.ntmps16
  go_upto_region 1 with fail
  obtain ⟨w1, hw1⟩ : ∃ w1, (w.alloc (.cells #[.int .u8 kz, .int .i64 m, .slice na ns.length nc, .slice a' n c'] 34)).alloc (.cells #[.int .i64 N, .float .f64 f, .string ⟨s.toArray⟩, .slice va c cap] 42) = w1 := ⟨_, rfl⟩
  rw [hw1] at hph f1 p1 z1 ⊢
  clear hw1
  obtain ⟨vb, hvb⟩ : ∃ vb, w.heap.size + 1 = vb := ⟨_, rfl⟩
  rw [hvb] at hph hfb2 ⊢
  obtain ⟨tb, htb⟩ : ∃ tb, w.heap.size = tb := ⟨_, rfl⟩
  rw [htb] at hph hfb1 ⊢
  clear hvb htb
  have F1 := Lib.hid f1
  clear f1
  go_upto_region 2 with fail
  try rw [hqz]
  clear p1 z1 hqz
  generalize w1.setCell ⟨fb, 1, none⟩ (.int .i64 qz) = w2 at *
  obtain ⟨p1, z1⟩ := pk_cells hph.fr.1
  rw [show (((q + 1 : Nat) : Nat) : Int) = qz from by rw [← HQZ.out]; omega] at p1
  obtain ⟨c0, c1, c2, c3⟩ := cell_of_four hph.tbox
  obtain ⟨d0, d1, d2, d3⟩ := cell_of_four hph.vbox
  have HPH := Lib.hid hph
  clear hph
  go_upto_region 10 with fail
  clear c0 c1 c2 c3 d0 d1 d2 d3 p1 z1
  refine wp_region_chain (by kernel_rfl) [some 31, some 32, some 33, some 34, some 35, some 36, some 37] rfl (by decide) (by intro d hd; simp at hd ⊢; omega)
    [6] (fun cvs wx => LeafS fb nv w2 (q + 1) l (l ++ be4 U.toNat) cvs wx)
    [.free (.pointer (some ⟨fb, 0, none⟩)), .free (.pointer (some ⟨fb, 0, none⟩)), .free (.pointer (some ⟨fb, 0, none⟩)), .free (.pointer (some ⟨vb, 0, none⟩)), .free (.int .i64 N), .free (.int .u32 U), .link none]
    (by kernel_rfl) (by kernel_rfl) ?h10 ?step10 ?fin10
  case h10 => exact (PkIn.start HPH.out.fr.1).quiet (Fr.refl _ _).drew
  case step10 =>
    intro vals
    simp only [frOfU, fillU, List.setIfInBounds_toArray, List.set_cons_succ, List.set_cons_zero]
    repeat' (first | exact AllOps.nil | refine AllOps.cons ?_ ?_)
    all_goals
      intro cvs wx hS he hu hlim Kc hK
      simp only [Act.put, List.setIfInBounds_toArray, List.set_cons_succ, List.set_cons_zero, List.getD_cons_zero, List.getD_cons_succ] at hK
      simp only [List.mem_cons, List.not_mem_nil, or_false, forall_eq_or_imp, forall_eq, Region.binds, forall_const, pmode_gc, Bool.false_eq_true, false_imp_iff, List.getD_cons_zero, List.getD_cons_succ, OpSort.val, Option.some.injEq, forall_eq', reduceCtorEq, implies_true, true_and, and_true] at he
      have hfr := LeafS.fr hS
      obtain ⟨u0, u1, u2, u3⟩ := cell_of_four (box_kept HPH.out.vbox hfr (fun h => by rcases h with h | h; exact HPH.out.voff.2.1 h; exact HPH.out.voff.2.2 h))
      have huw := HU.out.2
      clear hfr
      have HSX := Lib.hid hS
      clear hS
    all_goals first | (clear hlim hu; (try simp only [he] at hK ⊢); go_simp; exact hK) | skip
    · obtain rfl := hlim (0 : Nat) rfl
      have h1 : PkIn fb nv w2 (q + 1) nv l wx := HSX.out
      have H1 := Lib.hid h1
      clear hlim hu HSX h1 u0 u1 u2 u3 huw
      simp only [he] at hK ⊢
      clear he
      go_simp
      go_at_call 29
      refine (plong_any (q + 1 : Nat) fb nv l U HU.out.1.1 HU.out.1.2 _ H1.out.1 (by have := HL.out; omega)).mono ?_
      rintro e1 wb ⟨rfl, nv2, h2, h3, h4⟩
      exact hK _ _ (fun _ h => by cases h) ⟨nv2, H1.out.trans ⟨h2, h3, h4⟩⟩
  case fin10 =>
    intro vals w3 hS hV
    clear hV
    simp only [List.map_cons, List.map_nil] at hS
    obtain ⟨nv2, hp⟩ := hS
    have HP : Hid (PkIn fb nv w (q + 1) nv2 (l ++ be4 U.toNat) w3) := Lib.hid (HPH.out.fr.trans hp)
    clear hp
    simp only [frOfU, fillU, List.setIfInBounds_toArray, List.set_cons_succ, List.set_cons_zero]
    go_wp2_with fail
    refine (pfits_any fb (q + 1) nv2 _ _ HP.out.1).mono ?_
    rintro e w4 ⟨rfl, rfl⟩
    rw [HOK.out]
    go_wp2_with fail
    go_ret
    exact ⟨rfl, nv2, _, _, HP.out, fun _ => ⟨rfl, rfl⟩⟩

/-- While a float is put. -/
def RealS (fb : Nat) (nv : Value) (w2 : World) (c : Nat) (l l2 : List UInt8) : List Value → World → Prop
  | [], wx => PkIn fb nv w2 c nv l wx
  | [_], wx => PkIn fb nv w2 c nv l wx
  | _, wx => ∃ nv2, PkIn fb nv w2 c nv2 l2 wx
theorem RealS.fr {fb : Nat} {nv : Value} {w2 : World} {c : Nat} {l l2 : List UInt8} {cvs : List Value} {wx : World} (h : RealS fb nv w2 c l l2 cvs wx) : Fr (fun k => k = fb ∨ nv.ownBlock = some k) w2 wx := by
  unfold RealS at h
  split at h
  · exact h.2.1
  · exact h.2.1
  · obtain ⟨_, h⟩ := h; exact h.2.1

theorem put_k3 (k : Nat) (m : Int) (ns : List Txt) (n : Nat) (of : Nat → KT) (ih : ∀ i, i < n → PutAt (of i)) (hk0 : k = 3) : PutAt (.mk k m ns n of) := by
  intro R0 v vv w T fb q nv l hsh0 hvs0 hgood his hst hR0 hl hq
  obtain ⟨R, hRd⟩ : ∃ R : Nat → Prop, R = fun k => R0 k ∧ k < w.heap.size := ⟨_, rfl⟩
  have hR : ∀ k, R k → k < w.heap.size ∧ k ≠ fb ∧ nv.ownBlock ≠ some k := by rw [hRd]; exact fun k h => ⟨h.2, hR0 k h.1⟩
  have hsh : Shows R w _ v := Shows.mono (fun k hk h => by rw [hRd]; exact ⟨h, hk⟩) _ _ hsh0
  have hvs : VShows R w T vv := VShows.mono (fun k hk h => by rw [hRd]; exact ⟨h, hk⟩) _ _ hvs0
  clear hsh0 hvs0 hR0 hRd
  obtain ⟨N, f, s, c, ov, va, cap, rfl, rfl, hVB, hVK⟩ := vshows_open hvs
  obtain ⟨na, nc, a', c', rfl, hs⟩ := shows_lit hsh
  obtain ⟨hN0, hN1, hf64, hsl, hc5⟩ := hVB
  obtain ⟨⟨hn12, hown⟩, hkids⟩ := hgood
  obtain ⟨-, hmost, hone, hparts, hnames, hnone⟩ := own_facts hown
  obtain ⟨i1, i2, i3, i4, i5, i6, i7, i8, i9, i10⟩ := (isE_iff k m ns n of N f s c ov).1 his
  have hc0 : c = 0 := i3 (by omega)
  have HE : Hid (encE (.mk k m ns n of) (.mk N f s c ov) = be8 (Fl.canon f) ∧ szV (.mk N f s c ov) = 1) := Lib.hid ⟨by subst hk0; subst hc0; simp [encE], by subst hc0; simp [szV]⟩
  rw [HE.out.1, HE.out.2] at *
  have HF64 := Lib.hid (Fl.canon_lt hf64)
  clear hVK hs hkids ih hc0
  obtain ⟨OK, hOK⟩ : ∃ OK, decide ((l ++ be8 (Fl.canon f)).length ≤ 4000) = OK := ⟨_, rfl⟩
  rw [hOK]
  have HOK := Lib.hid hOK
  clear hOK
  have hph := put_head R fb q nv l w #[.int .u8 k, .int .i64 m, .slice na ns.length nc, .slice a' n c'] #[.int .i64 N, .float .f64 f, .string ⟨s.toArray⟩, .slice va c cap] hst hR
  have f1 : Fr (fun _ => False) w ((w.alloc (.cells #[.int .u8 k, .int .i64 m, .slice na ns.length nc, .slice a' n c'] 34)).alloc (.cells #[.int .i64 N, .float .f64 f, .string ⟨s.toArray⟩, .slice va c cap] 42)) := ((Fr.refl _ _).alloc _).alloc _
  obtain ⟨p1, z1⟩ := pk_cells (hst.fr f1 (fun h => h) (fun _ _ h => h))
  have HL := Lib.hid hl
  have HQ := Lib.hid hq
  have hfb1 : fb ≠ w.heap.size := by have := lt_of_block hst.here; omega
  have hfb2 : fb ≠ w.heap.size + 1 := by have := lt_of_block hst.here; omega
  have HSH0 := Lib.hid hsh
  clear hsh hvs hst hR hown i1 i2 i3 i4 i5 i6 i7 i8 i9 i10 hmost hone hparts hnames hnone hl hq his hn12
  have hqw : IntKind.i64.wrap ((q : Int) + 1) = (q : Int) + 1 := by have := HQ.out; rw [IntKind.wrap_i64]; omega
  obtain ⟨qz, hqz⟩ : ∃ qz : Int, (q : Int) + 1 = qz := ⟨_, rfl⟩
  have hbig : ¬ (1048576 : Int) < qz := by have := HQ.out; omega
  rw [hqz] at hph hqw
  have HQZ := Lib.hid hqz
  have HQW := Lib.hid hqw
  clear hqw
  obtain ⟨kz, hkz⟩ : ∃ kz : Int, ((k : Nat) : Int) = kz := ⟨_, rfl⟩
  rw [hkz] at hph f1 p1 z1 ⊢
  have e0 : (kz == 0) = false := by simp; omega
  have e1 : (kz == 1) = false := by simp; omega
  have e7 : (kz == 7) = false := by simp; omega
  have e2 : (kz == 2) = false := by simp; omega
  have e3 : (kz == 3) = true := by simp; omega
  have e4 : (kz == 4) = false := by simp; omega
  have e5 : (kz == 5) = false := by simp; omega
  have e6 : (kz == 6) = false := by simp; omega
  have e8 : (kz == 8) = false := by simp; omega
  have HKZ := Lib.hid hkz
  clear hkz hk0
  unfold sv
  go_enter Try.func16, Try.ntmps16
  go_upto_region 1 with fail
  obtain ⟨w1, hw1⟩ : ∃ w1, (w.alloc (.cells #[.int .u8 kz, .int .i64 m, .slice na ns.length nc, .slice a' n c'] 34)).alloc (.cells #[.int .i64 N, .float .f64 f, .string ⟨s.toArray⟩, .slice va c cap] 42) = w1 := ⟨_, rfl⟩
  rw [hw1] at hph f1 p1 z1 ⊢
  clear hw1
  obtain ⟨vb, hvb⟩ : ∃ vb, w.heap.size + 1 = vb := ⟨_, rfl⟩
  rw [hvb] at hph hfb2 ⊢
  obtain ⟨tb, htb⟩ : ∃ tb, w.heap.size = tb := ⟨_, rfl⟩
  rw [htb] at hph hfb1 ⊢
  clear hvb htb
  have F1 := Lib.hid f1
  clear f1
  go_upto_region 2 with fail
  try rw [hqz]
  clear p1 z1 hqz
  generalize w1.setCell ⟨fb, 1, none⟩ (.int .i64 qz) = w2 at *
  obtain ⟨p1, z1⟩ := pk_cells hph.fr.1
  rw [show (((q + 1 : Nat) : Nat) : Int) = qz from by rw [← HQZ.out]; omega] at p1
  obtain ⟨c0, c1, c2, c3⟩ := cell_of_four hph.tbox
  obtain ⟨d0, d1, d2, d3⟩ := cell_of_four hph.vbox
  have HPH := Lib.hid hph
  clear hph
  go_upto_region 12 with fail
  clear c0 c1 c2 c3 d0 d1 d2 d3 p1 z1
  refine wp_region_chain (by kernel_rfl) [some 40, some 41, some 42, some 43, some 44, some 45, some 46] rfl (by decide) (by intro d hd; simp at hd ⊢; omega)
    [5, 6] (fun cvs wx => RealS fb nv w2 (q + 1) l (l ++ be8 (Fl.canon f)) cvs wx)
    [.free (.pointer (some ⟨fb, 0, none⟩)), .free (.pointer (some ⟨fb, 0, none⟩)), .free (.pointer (some ⟨fb, 0, none⟩)), .free (.pointer (some ⟨vb, 1, none⟩)), .free (.float .f64 f), .link (some (.int .u64 (Fl.canon f))), .link none]
    (by kernel_rfl) (by kernel_rfl) ?h12 ?step12 ?fin12
  case h12 => exact (PkIn.start HPH.out.fr.1).quiet (Fr.refl _ _).drew
  case step12 =>
    intro vals
    simp only [frOfU, fillU, List.setIfInBounds_toArray, List.set_cons_succ, List.set_cons_zero]
    repeat' (first | exact AllOps.nil | refine AllOps.cons ?_ ?_)
    all_goals
      intro cvs wx hS he hu hlim Kc hK
      simp only [Act.put, List.setIfInBounds_toArray, List.set_cons_succ, List.set_cons_zero, List.getD_cons_zero, List.getD_cons_succ] at hK
      simp only [List.mem_cons, List.not_mem_nil, or_false, forall_eq_or_imp, forall_eq, Region.binds, forall_const, pmode_gc, Bool.false_eq_true, false_imp_iff, List.getD_cons_zero, List.getD_cons_succ, OpSort.val, Option.some.injEq, forall_eq', reduceCtorEq, implies_true, true_and, and_true] at he
      have hfr := RealS.fr hS
      obtain ⟨u0, u1, u2, u3⟩ := cell_of_four (box_kept HPH.out.vbox hfr (fun h => by rcases h with h | h; exact HPH.out.voff.2.1 h; exact HPH.out.voff.2.2 h))
      clear hfr
      have HSX := Lib.hid hS
      clear hS
    all_goals first | (clear hlim hu; (try simp only [he] at hK ⊢); go_simp; exact hK) | skip
    · obtain rfl := hlim (0 : Nat) rfl
      have h1 : PkIn fb nv w2 (q + 1) nv l wx := HSX.out
      have H1 := Lib.hid h1
      clear hlim hu HSX h1 u0 u1 u2 u3
      simp only [he] at hK ⊢
      clear he
      go_simp
      go_at_call 31
      refine (bits_any f _).mono ?_
      rintro e1 wb ⟨rfl, rfl⟩
      exact hK _ _ (fun _ h => by cases h; rfl) H1.out
    · obtain rfl := hlim (1 : Nat) rfl
      have h1 := HSX.out
      clear HSX hlim hu u0 u1 u2 u3
      simp only [List.take_succ_cons, List.take_zero, List.map_cons, List.map_nil] at h1 hK
      have H1 : Hid (PkIn fb nv w2 (q + 1) nv l wx) := Lib.hid h1
      clear h1
      simp only [he] at hK ⊢
      clear he
      go_simp
      go_at_call 30
      refine (pquad_any (q + 1 : Nat) fb nv l (Fl.canon f) (by omega) (by have := HF64.out; omega) _ H1.out.1 (by have := HL.out; omega)).mono ?_
      rintro e1 wb ⟨rfl, nv2, h2, h3, h4⟩
      rw [Int.toNat_natCast] at h2
      exact hK _ _ (fun _ h => by cases h) ⟨nv2, H1.out.trans ⟨h2, h3, h4⟩⟩
  case fin12 =>
    intro vals w3 hS hV
    clear hV
    simp only [List.map_cons, List.map_nil] at hS
    obtain ⟨nv2, hp⟩ := hS
    have HP : Hid (PkIn fb nv w (q + 1) nv2 (l ++ be8 (Fl.canon f)) w3) := Lib.hid (HPH.out.fr.trans hp)
    clear hp
    simp only [frOfU, fillU, List.setIfInBounds_toArray, List.set_cons_succ, List.set_cons_zero]
    go_wp2_with fail
    refine (pfits_any fb (q + 1) nv2 _ _ HP.out.1).mono ?_
    rintro e w4 ⟨rfl, rfl⟩
    rw [HOK.out]
    go_wp2_with fail
    go_ret
    exact ⟨rfl, nv2, _, _, HP.out, fun _ => ⟨rfl, rfl⟩⟩
end
section
attribute [local go_sem] run_store_float
set_option maxRecDepth 100000

theorem szV_sum (N : Int) (f : Nat) (s : Txt) (c : Nat) (ov : Nat → VT) : szV (.mk N f s c ov) = 1 + sumTo (fun i => szV (ov i)) c := by rw [szV]; rfl

theorem encE_rec (k : Nat) (m : Int) (ns : List Txt) (n : Nat) (of : Nat → KT) (N : Int) (f : Nat) (s : Txt) (c : Nat) (ov : Nat → VT) (hk : k = 6) : encE (.mk k m ns n of) (.mk N f s c ov) = partsB (fun i => encE (of (if k = 5 then 0 else i)) (ov i)) c := by
  subst hk
  simp [encE, partsB]

theorem encE_seq (k : Nat) (m : Int) (ns : List Txt) (n : Nat) (of : Nat → KT) (N : Int) (f : Nat) (s : Txt) (c : Nat) (ov : Nat → VT) (hk : k = 5) : encE (.mk k m ns n of) (.mk N f s c ov) = be2 c ++ partsB (fun i => encE (of (if k = 5 then 0 else i)) (ov i)) c := by
  subst hk
  simp [encE, partsB]

theorem encE_cho (k : Nat) (m : Int) (ns : List Txt) (n : Nat) (of : Nat → KT) (N : Int) (f : Nat) (s : Txt) (ov : Nat → VT) (hk : k = 8) : encE (.mk k m ns n of) (.mk N f s 1 ov) = be2 N.toNat ++ encE (of N.toNat) (ov 0) := by
  subst hk
  simp [encE]

theorem put_k6 (k : Nat) (m : Int) (ns : List Txt) (n : Nat) (of : Nat → KT) (ih : ∀ i, i < n → PutAt (of i)) (hk0 : k = 6) : PutAt (.mk k m ns n of) := by
  intro R0 v vv w T fb q nv l hsh0 hvs0 hgood his hst hR0 hl hq
  obtain ⟨R, hRd⟩ : ∃ R : Nat → Prop, R = fun k => R0 k ∧ k < w.heap.size := ⟨_, rfl⟩
  have hR : ∀ k, R k → k < w.heap.size ∧ k ≠ fb ∧ nv.ownBlock ≠ some k := by rw [hRd]; exact fun k h => ⟨h.2, hR0 k h.1⟩
  have hsh : Shows R w _ v := Shows.mono (fun k hk h => by rw [hRd]; exact ⟨h, hk⟩) _ _ hsh0
  have hvs : VShows R w T vv := VShows.mono (fun k hk h => by rw [hRd]; exact ⟨h, hk⟩) _ _ hvs0
  clear hsh0 hvs0 hR0 hRd
  obtain ⟨N, f, s, c, ov, va, cap, rfl, rfl, hVB, hVK⟩ := vshows_open hvs
  obtain ⟨na, nc, a', c', rfl, hs⟩ := shows_lit hsh
  obtain ⟨hN0, hN1, hf64, hsl, hc5⟩ := hVB
  obtain ⟨⟨hn12, hown⟩, hkids⟩ := hgood
  obtain ⟨-, hmost, hone, hparts, hnames, hnone⟩ := own_facts hown
  obtain ⟨i1, i2, i3, i4, i5, i6, i7, i8, i9, i10⟩ := (isE_iff k m ns n of N f s c ov).1 his
  have hcn : c = n := i8 hk0
  have HGI : Hid (∀ i, i < c → goodE (of (if k = 5 then 0 else i)) ∧ isE (of (if k = 5 then 0 else i)) (ov i) = true) := Lib.hid (fun i hi => by
    have h := i10 i hi
    rw [if_pos hk0] at h
    rw [if_neg (by omega)]
    exact ⟨hkids i (by omega), h⟩)
  have HIN : Hid (∀ i, i < c → (if k = 5 then 0 else i) < n) := Lib.hid (fun i hi => by rw [if_neg (by omega)]; omega)
  have HIH : Hid (∀ i, i < c → PutAt (of (if k = 5 then 0 else i))) := Lib.hid (fun i hi => by rw [if_neg (by omega)]; exact ih i (by omega))
  have HE : Hid (encE (.mk k m ns n of) (.mk N f s c ov) = partsB (fun i => encE (of (if k = 5 then 0 else i)) (ov i)) c ∧ szV (.mk N f s c ov) = 1 + sumTo (fun i => szV (ov i)) c) := Lib.hid ⟨encE_rec k m ns n of N f s c ov hk0, szV_sum N f s c ov⟩
  rw [HE.out.1, HE.out.2]
  rw [HE.out.2] at hq
  obtain ⟨E, hEE⟩ : ∃ E, partsB (fun i => encE (of (if k = 5 then 0 else i)) (ov i)) c = E := ⟨_, rfl⟩
  rw [hEE]
  have HEE := Lib.hid hEE
  clear hEE HE
  have HVK := Lib.hid hVK
  have HC5 := Lib.hid hc5
  clear hVK hs hkids ih hcn
  obtain ⟨OK, hOK⟩ : ∃ OK, decide ((l ++ E).length ≤ 4000) = OK := ⟨_, rfl⟩
  rw [hOK]
  have HOK := Lib.hid hOK
  clear hOK
  have hph := put_head R fb q nv l w #[.int .u8 k, .int .i64 m, .slice na ns.length nc, .slice a' n c'] #[.int .i64 N, .float .f64 f, .string ⟨s.toArray⟩, .slice va c cap] hst hR
  have f1 : Fr (fun _ => False) w ((w.alloc (.cells #[.int .u8 k, .int .i64 m, .slice na ns.length nc, .slice a' n c'] 34)).alloc (.cells #[.int .i64 N, .float .f64 f, .string ⟨s.toArray⟩, .slice va c cap] 42)) := ((Fr.refl _ _).alloc _).alloc _
  obtain ⟨p1, z1⟩ := pk_cells (hst.fr f1 (fun h => h) (fun _ _ h => h))
  have HL := Lib.hid hl
  have HQ := Lib.hid hq
  have hfb1 : fb ≠ w.heap.size := by have := lt_of_block hst.here; omega
  have hfb2 : fb ≠ w.heap.size + 1 := by have := lt_of_block hst.here; omega
  have HSH0 := Lib.hid hsh
  clear hsh hvs hst hR hown i1 i2 i3 i4 i5 i6 i7 i8 i9 i10 hmost hone hparts hnames hnone hl hq his hn12
  have hqw : IntKind.i64.wrap ((q : Int) + 1) = (q : Int) + 1 := by have := HQ.out; rw [IntKind.wrap_i64]; omega
  obtain ⟨qz, hqz⟩ : ∃ qz : Int, (q : Int) + 1 = qz := ⟨_, rfl⟩
  have hbig : ¬ (1048576 : Int) < qz := by have := HQ.out; omega
  rw [hqz] at hph hqw
  have HQZ := Lib.hid hqz
  have HQW := Lib.hid hqw
  clear hqw
  obtain ⟨kz, hkz⟩ : ∃ kz : Int, ((k : Nat) : Int) = kz := ⟨_, rfl⟩
  rw [hkz] at hph f1 p1 z1 ⊢
  have e0 : (kz == 0) = false := by simp; omega
  have e1 : (kz == 1) = false := by simp; omega
  have e7 : (kz == 7) = false := by simp; omega
  have e2 : (kz == 2) = false := by simp; omega
  have e3 : (kz == 3) = false := by simp; omega
  have e4 : (kz == 4) = false := by simp; omega
  have e5 : (kz == 5) = false := by simp; omega
  have e6 : (kz == 6) = true := by simp; omega
  have e8 : (kz == 8) = false := by simp; omega
  have HKZ := Lib.hid hkz
  clear hkz hk0
  unfold sv
  go_enter Try.func16, Try.ntmps16
  go_upto_region 1 with fail
  obtain ⟨w1, hw1⟩ : ∃ w1, (w.alloc (.cells #[.int .u8 kz, .int .i64 m, .slice na ns.length nc, .slice a' n c'] 34)).alloc (.cells #[.int .i64 N, .float .f64 f, .string ⟨s.toArray⟩, .slice va c cap] 42) = w1 := ⟨_, rfl⟩
  rw [hw1] at hph f1 p1 z1 ⊢
  clear hw1
  obtain ⟨vb, hvb⟩ : ∃ vb, w.heap.size + 1 = vb := ⟨_, rfl⟩
  rw [hvb] at hph hfb2 ⊢
  obtain ⟨tb, htb⟩ : ∃ tb, w.heap.size = tb := ⟨_, rfl⟩
  rw [htb] at hph hfb1 ⊢
  clear hvb htb
  have F1 := Lib.hid f1
  clear f1
  go_upto_region 2 with fail
  try rw [hqz]
  clear p1 z1 hqz
  generalize w1.setCell ⟨fb, 1, none⟩ (.int .i64 qz) = w2 at *
  obtain ⟨p1, z1⟩ := pk_cells hph.fr.1
  rw [show (((q + 1 : Nat) : Nat) : Int) = qz from by rw [← HQZ.out]; omega] at p1
  obtain ⟨c0, c1, c2, c3⟩ := cell_of_four hph.tbox
  obtain ⟨d0, d1, d2, d3⟩ := cell_of_four hph.vbox
  have HPH := Lib.hid hph
  clear hph
  have hshz : Shows R w (.mk k m ns n of) (.agg #[.int .u8 kz, .int .i64 m, .slice na ns.length nc, .slice a' n c']) := by rw [← HKZ.out]; exact HSH0.out
  have hoffR : ∀ x, R x → ¬ (x = fb ∨ nv.ownBlock = some x) := fun x hx h => by
    rcases h with h | h
    · exact (HPH.out.roff x hx).2.1 h
    · exact (HPH.out.roff x hx).2.2 h
  have HCALL := Lib.hid (peach_any k m ns n of c ov HIH.out R _ w2 fb (q + 1) nv l va cap (Shows.fr HPH.out.fr.2.1 hoffR _ _ hshz) (HVK.out.fr HPH.out.fr.2.1 hoffR) HIN.out HGI.out HPH.out.fr.1 (fun x hx => (HPH.out.roff x hx).2) HL.out (by have := HQ.out; omega) HC5.out)
  rw [HEE.out] at HCALL
  clear hshz hoffR
  go_wp2_with fail
  refine HCALL.out.mono ?_
  rintro e w3 ⟨rfl, nv2, l2, q2, hp, hok⟩
  have HP : Hid (PkIn fb nv w q2 nv2 l2 w3) := Lib.hid (HPH.out.fr.trans hp)
  have HK := Lib.hid hok
  rw [HOK.out]
  clear hp hok c0 c1 c2 c3 d0 d1 d2 d3 p1 z1
  go_wp2_with fail
  go_ret
  refine ⟨rfl, nv2, l2, q2, HP.out, fun h => ?_⟩
  obtain ⟨e1, e2⟩ := HK.out (by rw [HOK.out]; exact h)
  exact ⟨e1, by rw [e2]; omega⟩

theorem put_k5 (k : Nat) (m : Int) (ns : List Txt) (n : Nat) (of : Nat → KT) (ih : ∀ i, i < n → PutAt (of i)) (hk0 : k = 5) : PutAt (.mk k m ns n of) := by
  intro R0 v vv w T fb q nv l hsh0 hvs0 hgood his hst hR0 hl hq
  obtain ⟨R, hRd⟩ : ∃ R : Nat → Prop, R = fun k => R0 k ∧ k < w.heap.size := ⟨_, rfl⟩
  have hR : ∀ k, R k → k < w.heap.size ∧ k ≠ fb ∧ nv.ownBlock ≠ some k := by rw [hRd]; exact fun k h => ⟨h.2, hR0 k h.1⟩
  have hsh : Shows R w _ v := Shows.mono (fun k hk h => by rw [hRd]; exact ⟨h, hk⟩) _ _ hsh0
  have hvs : VShows R w T vv := VShows.mono (fun k hk h => by rw [hRd]; exact ⟨h, hk⟩) _ _ hvs0
  clear hsh0 hvs0 hR0 hRd
  obtain ⟨N, f, s, c, ov, va, cap, rfl, rfl, hVB, hVK⟩ := vshows_open hvs
  obtain ⟨na, nc, a', c', rfl, hs⟩ := shows_lit hsh
  obtain ⟨hN0, hN1, hf64, hsl, hc5⟩ := hVB
  obtain ⟨⟨hn12, hown⟩, hkids⟩ := hgood
  obtain ⟨-, hmost, hone, hparts, hnames, hnone⟩ := own_facts hown
  obtain ⟨i1, i2, i3, i4, i5, i6, i7, i8, i9, i10⟩ := (isE_iff k m ns n of N f s c ov).1 his
  have hn1 : n = 1 := hone hk0
  have hc60 : c ≤ 60 := by have h1 := i7 hk0; have h2 := hmost (by omega); omega
  have HGI : Hid (∀ i, i < c → goodE (of (if k = 5 then 0 else i)) ∧ isE (of (if k = 5 then 0 else i)) (ov i) = true) := Lib.hid (fun i hi => by
    have h := i10 i hi
    rw [if_neg (by omega), if_neg (by omega)] at h
    rw [if_pos hk0]
    exact ⟨hkids 0 (by omega), h⟩)
  have HIN : Hid (∀ i, i < c → (if k = 5 then 0 else i) < n) := Lib.hid (fun i hi => by rw [if_pos hk0]; omega)
  have HIH : Hid (∀ i, i < c → PutAt (of (if k = 5 then 0 else i))) := Lib.hid (fun i hi => by rw [if_pos hk0]; exact ih 0 (by omega))
  have HE : Hid (encE (.mk k m ns n of) (.mk N f s c ov) = be2 c ++ partsB (fun i => encE (of (if k = 5 then 0 else i)) (ov i)) c ∧ szV (.mk N f s c ov) = 1 + sumTo (fun i => szV (ov i)) c) := Lib.hid ⟨encE_seq k m ns n of N f s c ov hk0, szV_sum N f s c ov⟩
  rw [HE.out.1, HE.out.2]
  rw [HE.out.2] at hq
  obtain ⟨E, hEE⟩ : ∃ E, partsB (fun i => encE (of (if k = 5 then 0 else i)) (ov i)) c = E := ⟨_, rfl⟩
  rw [hEE]
  have HEE := Lib.hid hEE
  clear hEE HE
  have HVK := Lib.hid hVK
  have HC5 := Lib.hid hc5
  have HC60 := Lib.hid hc60
  clear hVK hs hkids ih hn1 hc60
  obtain ⟨OK, hOK⟩ : ∃ OK, decide ((l ++ (be2 c ++ E)).length ≤ 4000) = OK := ⟨_, rfl⟩
  rw [hOK]
  have HOK := Lib.hid hOK
  clear hOK
  have hph := put_head R fb q nv l w #[.int .u8 k, .int .i64 m, .slice na ns.length nc, .slice a' n c'] #[.int .i64 N, .float .f64 f, .string ⟨s.toArray⟩, .slice va c cap] hst hR
  have f1 : Fr (fun _ => False) w ((w.alloc (.cells #[.int .u8 k, .int .i64 m, .slice na ns.length nc, .slice a' n c'] 34)).alloc (.cells #[.int .i64 N, .float .f64 f, .string ⟨s.toArray⟩, .slice va c cap] 42)) := ((Fr.refl _ _).alloc _).alloc _
  obtain ⟨p1, z1⟩ := pk_cells (hst.fr f1 (fun h => h) (fun _ _ h => h))
  have HL := Lib.hid hl
  have HQ := Lib.hid hq
  have hfb1 : fb ≠ w.heap.size := by have := lt_of_block hst.here; omega
  have hfb2 : fb ≠ w.heap.size + 1 := by have := lt_of_block hst.here; omega
  have HSH0 := Lib.hid hsh
  clear hsh hvs hst hR hown i1 i2 i3 i4 i5 i6 i7 i8 i9 i10 hmost hone hparts hnames hnone hl hq his hn12
  have hqw : IntKind.i64.wrap ((q : Int) + 1) = (q : Int) + 1 := by have := HQ.out; rw [IntKind.wrap_i64]; omega
  obtain ⟨qz, hqz⟩ : ∃ qz : Int, (q : Int) + 1 = qz := ⟨_, rfl⟩
  have hbig : ¬ (1048576 : Int) < qz := by have := HQ.out; omega
  rw [hqz] at hph hqw
  have HQZ := Lib.hid hqz
  have HQW := Lib.hid hqw
  clear hqw
  obtain ⟨kz, hkz⟩ : ∃ kz : Int, ((k : Nat) : Int) = kz := ⟨_, rfl⟩
  rw [hkz] at hph f1 p1 z1 ⊢
  have e0 : (kz == 0) = false := by simp; omega
  have e1 : (kz == 1) = false := by simp; omega
  have e7 : (kz == 7) = false := by simp; omega
  have e2 : (kz == 2) = false := by simp; omega
  have e3 : (kz == 3) = false := by simp; omega
  have e4 : (kz == 4) = false := by simp; omega
  have e5 : (kz == 5) = true := by simp; omega
  have e6 : (kz == 6) = false := by simp; omega
  have e8 : (kz == 8) = false := by simp; omega
  have HKZ := Lib.hid hkz
  clear hkz hk0
  unfold sv
  go_enter Try.func16, Try.ntmps16
  go_upto_region 1 with fail
  obtain ⟨w1, hw1⟩ : ∃ w1, (w.alloc (.cells #[.int .u8 kz, .int .i64 m, .slice na ns.length nc, .slice a' n c'] 34)).alloc (.cells #[.int .i64 N, .float .f64 f, .string ⟨s.toArray⟩, .slice va c cap] 42) = w1 := ⟨_, rfl⟩
  rw [hw1] at hph f1 p1 z1 ⊢
  clear hw1
  obtain ⟨vb, hvb⟩ : ∃ vb, w.heap.size + 1 = vb := ⟨_, rfl⟩
  rw [hvb] at hph hfb2 ⊢
  obtain ⟨tb, htb⟩ : ∃ tb, w.heap.size = tb := ⟨_, rfl⟩
  rw [htb] at hph hfb1 ⊢
  clear hvb htb
  have F1 := Lib.hid f1
  clear f1
  go_upto_region 2 with fail
  try rw [hqz]
  clear p1 z1 hqz
  generalize w1.setCell ⟨fb, 1, none⟩ (.int .i64 qz) = w2 at *
  obtain ⟨p1, z1⟩ := pk_cells hph.fr.1
  rw [show (((q + 1 : Nat) : Nat) : Int) = qz from by rw [← HQZ.out]; omega] at p1
  obtain ⟨c0, c1, c2, c3⟩ := cell_of_four hph.tbox
  obtain ⟨d0, d1, d2, d3⟩ := cell_of_four hph.vbox
  have HPH := Lib.hid hph
  clear hph
  have hshz : Shows R w (.mk k m ns n of) (.agg #[.int .u8 kz, .int .i64 m, .slice na ns.length nc, .slice a' n c']) := by rw [← HKZ.out]; exact HSH0.out
  have hoffR : ∀ x, R x → ¬ (x = fb ∨ nv.ownBlock = some x) := fun x hx h => by
    rcases h with h | h
    · exact (HPH.out.roff x hx).2.1 h
    · exact (HPH.out.roff x hx).2.2 h
  have HSH2 := Lib.hid (Shows.fr HPH.out.fr.2.1 hoffR _ _ hshz)
  have HVK2 := Lib.hid (HVK.out.fr HPH.out.fr.2.1 hoffR)
  clear hshz hoffR
  go_wp2_with fail
  refine (pkword_any fb (q + 1) nv l c (by omega) (by have := HC60.out; omega) _ HPH.out.fr.1 HL.out).mono ?_
  rintro e w3 ⟨rfl, nv1, h2, h3, h4⟩
  rw [Int.toNat_natCast] at h2
  have H3 : Hid (PkIn fb nv w2 (q + 1) nv1 (l ++ be2 c) w3) := Lib.hid ⟨h2, h3, h4⟩
  clear h2 h3 h4 c0 c1 c2 c3 d0 d1 d2 d3 p1 z1
  have hoffR : ∀ x, R x → ¬ (x = fb ∨ nv.ownBlock = some x) := fun x hx h => by
    rcases h with h | h
    · exact (HPH.out.roff x hx).2.1 h
    · exact (HPH.out.roff x hx).2.2 h
  obtain ⟨c0, c1, c2, c3⟩ := cell_of_four (box_kept HPH.out.tbox H3.out.2.1 (fun h => by rcases h with h | h; exact HPH.out.toff.2.1 h; exact HPH.out.toff.2.2 h))
  obtain ⟨d0, d1, d2, d3⟩ := cell_of_four (box_kept HPH.out.vbox H3.out.2.1 (fun h => by rcases h with h | h; exact HPH.out.voff.2.1 h; exact HPH.out.voff.2.2 h))
  by_cases hfit : l.length + 2 ≤ 4000
  · rw [decide_eq_true hfit]
    have HCALL := Lib.hid (peach_any k m ns n of c ov HIH.out R _ w3 fb (q + 1) nv1 (l ++ be2 c) va cap (Shows.fr H3.out.2.1 hoffR _ _ HSH2.out) (HVK2.out.fr H3.out.2.1 hoffR) HIN.out HGI.out H3.out.1 (fun x hx => by
        have h := H3.out.off (HPH.out.roff x hx).1 (HPH.out.roff x hx).2.1 (HPH.out.roff x hx).2.2
        exact ⟨fun e => h (.inl e), fun e => h (.inr e)⟩) (by rw [List.length_append, be2_length]; exact hfit) (by have := HQ.out; omega) HC5.out)
    rw [HEE.out] at HCALL
    clear hfit hoffR
    go_wp2_with fail
    refine HCALL.out.mono ?_
    rintro e w4 ⟨rfl, nv2, l2, q2, hp, hok⟩
    have HP : Hid (PkIn fb nv w q2 nv2 l2 w4) := Lib.hid ((HPH.out.fr.trans H3.out).trans hp)
    have HOK2 : Hid (decide ((l ++ be2 c ++ E).length ≤ 4000) = OK) := Lib.hid (by rw [← HOK.out, List.append_assoc])
    have HK := Lib.hid hok
    rw [HOK2.out]
    clear hp hok c0 c1 c2 c3 d0 d1 d2 d3
    go_wp2_with fail
    go_ret
    refine ⟨rfl, nv2, l2, q2, HP.out, fun h => ?_⟩
    obtain ⟨e1, e2⟩ := HK.out (by rw [HOK2.out]; exact h)
    exact ⟨by rw [e1, List.append_assoc], by rw [e2]; omega⟩
  · rw [decide_eq_false hfit]
    have HNO : Hid (OK = false) := Lib.hid (by
      rw [← HOK.out]
      refine decide_eq_false (fun h => hfit ?_)
      rw [List.length_append, List.length_append, be2_length] at h
      omega)
    have HP : Hid (PkIn fb nv w (q + 1) nv1 (l ++ be2 c) w3) := Lib.hid (HPH.out.fr.trans H3.out)
    clear hfit hoffR
    go_wp2_with fail
    go_ret
    exact ⟨by rw [HNO.out]; rfl, nv1, _, _, HP.out, fun h => by rw [HNO.out] at h; cases h⟩

/-- While a choice's value is put. -/
def ChoS (fb : Nat) (nv : Value) (w2 : World) (c : Nat) (l l1 : List UInt8) (ok : Bool) (l2 : List UInt8) (c2 : Nat) : List Value → World → Prop
  | [], wx => PkIn fb nv w2 c nv l wx
  | [_], wx => ∃ nv1, PkIn fb nv w2 c nv1 l1 wx
  | [_, _], wx => ∃ nv1, PkIn fb nv w2 c nv1 l1 wx
  | _, wx => PkEnd fb nv w2 wx ok l2 c2
theorem ChoS.fr {fb : Nat} {nv : Value} {w2 : World} {c : Nat} {l l1 : List UInt8} {ok : Bool} {l2 : List UInt8} {c2 : Nat} {cvs : List Value} {wx : World} (h : ChoS fb nv w2 c l l1 ok l2 c2 cvs wx) : Fr (fun k => k = fb ∨ nv.ownBlock = some k) w2 wx := by
  unfold ChoS at h
  split at h
  · exact h.2.1
  · obtain ⟨_, h⟩ := h; exact h.2.1
  · obtain ⟨_, h⟩ := h; exact h.2.1
  · obtain ⟨_, _, _, h, _⟩ := h; exact h.2.1

theorem put_k8 (k : Nat) (m : Int) (ns : List Txt) (n : Nat) (of : Nat → KT) (ih : ∀ i, i < n → PutAt (of i)) (hk0 : k = 8) : PutAt (.mk k m ns n of) := by
  intro R0 v vv w T fb q nv l hsh0 hvs0 hgood his hst hR0 hl hq
  obtain ⟨R, hRd⟩ : ∃ R : Nat → Prop, R = fun k => R0 k ∧ k < w.heap.size := ⟨_, rfl⟩
  have hR : ∀ k, R k → k < w.heap.size ∧ k ≠ fb ∧ nv.ownBlock ≠ some k := by rw [hRd]; exact fun k h => ⟨h.2, hR0 k h.1⟩
  have hsh : Shows R w _ v := Shows.mono (fun k hk h => by rw [hRd]; exact ⟨h, hk⟩) _ _ hsh0
  have hvs : VShows R w T vv := VShows.mono (fun k hk h => by rw [hRd]; exact ⟨h, hk⟩) _ _ hvs0
  clear hsh0 hvs0 hR0 hRd
  obtain ⟨N, f, s, c, ov, va, cap, rfl, rfl, hVB, hVK⟩ := vshows_open hvs
  obtain ⟨na, nc, a', c', rfl, hs⟩ := shows_lit hsh
  obtain ⟨hN0, hN1, hf64, hsl, hc5⟩ := hVB
  obtain ⟨⟨hn12, hown⟩, hkids⟩ := hgood
  obtain ⟨-, hmost, hone, hparts, hnames, hnone⟩ := own_facts hown
  obtain ⟨i1, i2, i3, i4, i5, i6, i7, i8, i9, i10⟩ := (isE_iff k m ns n of N f s c ov).1 his
  have hc1 : c = 1 := i9 hk0
  subst hc1
  have hNa : 0 ≤ N := by simpa [lowE, hk0] using i4
  obtain ⟨NN, rfl⟩ := Int.eq_ofNat_of_zero_le hNa
  have hNb : NN < n := by
    have h := i5
    simp [highE, hk0] at h
    omega
  have hgi : goodE (of NN) ∧ isE (of NN) (ov 0) = true := by
    have h := i10 0 (by omega)
    rw [if_neg (by omega), if_pos hk0, Int.toNat_natCast] at h
    exact ⟨hkids NN hNb, h⟩
  have HGI := Lib.hid hgi
  have HIH := Lib.hid (ih NN hNb)
  have HE : Hid (encE (.mk k m ns n of) (.mk (NN : Int) f s 1 ov) = be2 NN ++ encE (of NN) (ov 0) ∧ szV (.mk (NN : Int) f s 1 ov) = 1 + szV (ov 0)) := Lib.hid ⟨by have := encE_cho k m ns n of (NN : Int) f s ov hk0; rwa [Int.toNat_natCast] at this, by rw [szV_sum]; simp [sumTo]⟩
  rw [HE.out.1, HE.out.2]
  rw [HE.out.2] at hq
  have HNB : Hid (NN < n ∧ n ≤ 12) := Lib.hid ⟨hNb, hn12⟩
  rcases hs with hz | ⟨hcap, g, off, hg, rfl, hcell⟩
  · omega
  rcases hVK with hz | ⟨hvcap, gv, ov', hgv, rfl, hvcell⟩
  · omega
  obtain ⟨x0, x1, x2, x3, y0, y1, y2, y3, hx⟩ := hcell NN hNb
  obtain ⟨s0, s1, s2, s3, r0, r1, r2, r3, hsv⟩ := hvcell 0 (by omega)
  obtain ⟨xk, xm, xa, xn, xc, xa', xn', xc', rfl, rfl, rfl, rfl⟩ := hx.cells
  obtain ⟨zn, zf, zs, za, zc, zcap, es⟩ := hsv.lit
  simp only [Value.agg.injEq, Array.mk.injEq, List.cons.injEq, and_true] at es
  obtain ⟨rfl, rfl, rfl, rfl⟩ := es
  simp only [Nat.zero_mul, Nat.add_zero] at r0 r1 r2 r3
  have HY := Lib.hid (And.intro hg (And.intro y0 (And.intro y1 (And.intro y2 y3))))
  have HZ := Lib.hid (And.intro hgv (And.intro r0 (And.intro r1 (And.intro r2 r3))))
  have HX := Lib.hid (And.intro hx hsv)
  clear hcell hvcell hx hsv y0 y1 y2 y3 r0 r1 r2 r3 hkids ih hgi hNa hNb hcap hvcap
  obtain ⟨OK, hOK⟩ : ∃ OK, decide ((l ++ (be2 NN ++ encE (of NN) (ov 0))).length ≤ 4000) = OK := ⟨_, rfl⟩
  rw [hOK]
  have HOK := Lib.hid hOK
  clear hOK
  have hph := put_head R fb q nv l w #[.int .u8 k, .int .i64 m, .slice na ns.length nc, .slice (some ⟨g, off, none⟩) n c'] #[.int .i64 (NN : Int), .float .f64 f, .string ⟨s.toArray⟩, .slice (some ⟨gv, ov', none⟩) 1 cap] hst hR
  have f1 : Fr (fun _ => False) w ((w.alloc (.cells #[.int .u8 k, .int .i64 m, .slice na ns.length nc, .slice (some ⟨g, off, none⟩) n c'] 34)).alloc (.cells #[.int .i64 (NN : Int), .float .f64 f, .string ⟨s.toArray⟩, .slice (some ⟨gv, ov', none⟩) 1 cap] 42)) := ((Fr.refl _ _).alloc _).alloc _
  obtain ⟨p1, z1⟩ := pk_cells (hst.fr f1 (fun h => h) (fun _ _ h => h))
  have HL := Lib.hid hl
  have HQ := Lib.hid hq
  have hfb1 : fb ≠ w.heap.size := by have := lt_of_block hst.here; omega
  have hfb2 : fb ≠ w.heap.size + 1 := by have := lt_of_block hst.here; omega
  have HSH0 := Lib.hid hsh
  clear hsh hvs hst hR hown i1 i2 i3 i4 i5 i6 i7 i8 i9 i10 hmost hone hparts hnames hnone hl hq his hn12
  have hqw : IntKind.i64.wrap ((q : Int) + 1) = (q : Int) + 1 := by have := HQ.out; rw [IntKind.wrap_i64]; omega
  obtain ⟨qz, hqz⟩ : ∃ qz : Int, (q : Int) + 1 = qz := ⟨_, rfl⟩
  have hbig : ¬ (1048576 : Int) < qz := by have := HQ.out; omega
  rw [hqz] at hph hqw
  have HQZ := Lib.hid hqz
  have HQW := Lib.hid hqw
  clear hqw
  obtain ⟨kz, hkz⟩ : ∃ kz : Int, ((k : Nat) : Int) = kz := ⟨_, rfl⟩
  rw [hkz] at hph f1 p1 z1 ⊢
  have e0 : (kz == 0) = false := by simp; omega
  have e1 : (kz == 1) = false := by simp; omega
  have e7 : (kz == 7) = false := by simp; omega
  have e2 : (kz == 2) = false := by simp; omega
  have e3 : (kz == 3) = false := by simp; omega
  have e4 : (kz == 4) = false := by simp; omega
  have e5 : (kz == 5) = false := by simp; omega
  have e6 : (kz == 6) = false := by simp; omega
  have e8 : (kz == 8) = true := by simp; omega
  have HKZ := Lib.hid hkz
  clear hkz hk0
  unfold sv
  go_enter Try.func16, Try.ntmps16
  go_upto_region 1 with fail
  obtain ⟨w1, hw1⟩ : ∃ w1, (w.alloc (.cells #[.int .u8 kz, .int .i64 m, .slice na ns.length nc, .slice (some ⟨g, off, none⟩) n c'] 34)).alloc (.cells #[.int .i64 (NN : Int), .float .f64 f, .string ⟨s.toArray⟩, .slice (some ⟨gv, ov', none⟩) 1 cap] 42) = w1 := ⟨_, rfl⟩
  rw [hw1] at hph f1 p1 z1 ⊢
  clear hw1
  obtain ⟨vb, hvb⟩ : ∃ vb, w.heap.size + 1 = vb := ⟨_, rfl⟩
  rw [hvb] at hph hfb2 ⊢
  obtain ⟨tb, htb⟩ : ∃ tb, w.heap.size = tb := ⟨_, rfl⟩
  rw [htb] at hph hfb1 ⊢
  clear hvb htb
  have F1 := Lib.hid f1
  clear f1
  go_upto_region 2 with fail
  try rw [hqz]
  clear p1 z1 hqz
  generalize w1.setCell ⟨fb, 1, none⟩ (.int .i64 qz) = w2 at *
  obtain ⟨p1, z1⟩ := pk_cells hph.fr.1
  rw [show (((q + 1 : Nat) : Nat) : Int) = qz from by rw [← HQZ.out]; omega] at p1
  obtain ⟨c0, c1, c2, c3⟩ := cell_of_four hph.tbox
  obtain ⟨d0, d1, d2, d3⟩ := cell_of_four hph.vbox
  have HPH := Lib.hid hph
  clear hph
  have hnb0 : (NN : Int) < (n : Int) := by have := HNB.out; omega
  have hoffR : ∀ x, R x → ¬ (x = fb ∨ nv.ownBlock = some x) := fun x hx h => by
    rcases h with h | h
    · exact (HPH.out.roff x hx).2.1 h
    · exact (HPH.out.roff x hx).2.2 h
  have HOR := Lib.hid hoffR
  have HOG : Hid (¬ (g = fb ∨ nv.ownBlock = some g)) := Lib.hid (hoffR g HY.out.1)
  have HOV : Hid (¬ (gv = fb ∨ nv.ownBlock = some gv)) := Lib.hid (hoffR gv HZ.out.1)
  have HYZ : Hid ((w2.cell? ⟨g, off + NN * 4, none⟩ = some (.int .u8 xk) ∧ w2.cell? ⟨g, off + NN * 4 + 1, none⟩ = some (.int .i64 xm) ∧ w2.cell? ⟨g, off + NN * 4 + 2, none⟩ = some (.slice xa xn xc) ∧ w2.cell? ⟨g, off + NN * 4 + 3, none⟩ = some (.slice xa' xn' xc')) ∧
      (w2.cell? ⟨gv, ov', none⟩ = some (.int .i64 zn) ∧ w2.cell? ⟨gv, ov' + 1, none⟩ = some (.float .f64 zf) ∧ w2.cell? ⟨gv, ov' + 2, none⟩ = some (.string zs) ∧ w2.cell? ⟨gv, ov' + 3, none⟩ = some (.slice za zc zcap))) := Lib.hid
    ⟨⟨cell_fr HPH.out.fr.2.1 hoffR HY.out.1 HY.out.2.1, cell_fr HPH.out.fr.2.1 hoffR HY.out.1 HY.out.2.2.1, cell_fr HPH.out.fr.2.1 hoffR HY.out.1 HY.out.2.2.2.1, cell_fr HPH.out.fr.2.1 hoffR HY.out.1 HY.out.2.2.2.2⟩,
     ⟨cell_fr HPH.out.fr.2.1 hoffR HZ.out.1 HZ.out.2.1, cell_fr HPH.out.fr.2.1 hoffR HZ.out.1 HZ.out.2.2.1, cell_fr HPH.out.fr.2.1 hoffR HZ.out.1 HZ.out.2.2.2.1, cell_fr HPH.out.fr.2.1 hoffR HZ.out.1 HZ.out.2.2.2.2⟩⟩
  have HX2 : Hid (Shows R w2 (of NN) (.agg #[.int .u8 xk, .int .i64 xm, .slice xa xn xc, .slice xa' xn' xc']) ∧ VShows R w2 (ov 0) (.agg #[.int .i64 zn, .float .f64 zf, .string zs, .slice za zc zcap])) := Lib.hid ⟨Shows.fr HPH.out.fr.2.1 hoffR _ _ HX.out.1, VShows.fr HPH.out.fr.2.1 hoffR _ _ HX.out.2⟩
  clear hoffR
  go_upto_region 20 with fail
  clear c0 c1 c2 c3 d0 d1 d2 d3 p1 z1
  have HFIT : Hid (l.length + 2 ≤ 4000 ∨ OK = false) := Lib.hid (by
    by_cases h : l.length + 2 ≤ 4000
    · exact .inl h
    · right
      rw [← HOK.out]
      refine decide_eq_false (fun h' => h ?_)
      rw [List.length_append, List.length_append, be2_length] at h'
      omega)
  by_cases hfit : l.length + 2 ≤ 4000
  · have HF1 := Lib.hid hfit
    clear hfit
    refine wp_region_chain (by kernel_rfl) [some 76, some 77, some 78, some 79, some 80, some 81, some 82, some 83, some 84, some 85, some 86, some 87, some 88, some 89, some 90, some 91, some 92, some 93, some 6] rfl (by decide) (by intro d hd; simp at hd ⊢; omega)
      [3, 4, 16] (fun cvs wx => ChoS fb nv w2 (q + 1) l (l ++ be2 NN) OK (l ++ be2 NN ++ encE (of NN) (ov 0)) (q + 1 + szV (ov 0)) cvs wx)
      [.free (.pointer (some ⟨fb, 0, none⟩)), .free (.pointer (some ⟨vb, 0, none⟩)), .free (.int .i64 (NN : Int)), .link (some (.bool true)), .link (some (.bool true)), .free (.pointer (some ⟨fb, 0, none⟩)), .free (.pointer (some ⟨tb, 3, none⟩)), .free (.slice (some ⟨g, off, none⟩) n c'), .free (.pointer (some ⟨vb, 0, none⟩)), .free (.int .i64 (NN : Int)), .free (.pointer (some ⟨g, off + NN * 4, none⟩)), .free (.agg #[.int .u8 xk, .int .i64 xm, .slice xa xn xc, .slice xa' xn' xc']), .free (.pointer (some ⟨vb, 3, none⟩)), .free (.slice (some ⟨gv, ov', none⟩) 1 cap), .free (.pointer (some ⟨gv, ov', none⟩)), .free (.agg #[.int .i64 zn, .float .f64 zf, .string zs, .slice za zc zcap]), .link (some (.bool OK)), .free (.bool OK), .free (.bool OK)]
      (by kernel_rfl) (by kernel_rfl) ?h20a ?step20a ?fin20a
    case h20a => exact (PkIn.start HPH.out.fr.1).quiet (Fr.refl _ _).drew
    case step20a =>
      intro vals
      simp only [frOfU, fillU, List.setIfInBounds_toArray, List.set_cons_succ, List.set_cons_zero]
      repeat' (first | exact AllOps.nil | refine AllOps.cons ?_ ?_)
      all_goals
        intro cvs wx hS he hu hlim Kc hK
        simp only [Act.put, List.setIfInBounds_toArray, List.set_cons_succ, List.set_cons_zero, List.getD_cons_zero, List.getD_cons_succ] at hK
        simp only [List.mem_cons, List.not_mem_nil, or_false, forall_eq_or_imp, forall_eq, Region.binds, forall_const, pmode_gc, Bool.false_eq_true, false_imp_iff, List.getD_cons_zero, List.getD_cons_succ, OpSort.val, Option.some.injEq, forall_eq', reduceCtorEq, implies_true, true_and, and_true] at he
        have hfr := ChoS.fr hS
        obtain ⟨u0, u1, u2, u3⟩ := cell_of_four (box_kept HPH.out.vbox hfr (fun h => by rcases h with h | h; exact HPH.out.voff.2.1 h; exact HPH.out.voff.2.2 h))
        obtain ⟨t0, t1, t2, t3⟩ := cell_of_four (box_kept HPH.out.tbox hfr (fun h => by rcases h with h | h; exact HPH.out.toff.2.1 h; exact HPH.out.toff.2.2 h))
        have y0 := cell_fr (R := fun k => k = g) hfr (fun k hk => by rw [hk]; exact HOG.out) rfl HYZ.out.1.1
        have y1 := cell_fr (R := fun k => k = g) hfr (fun k hk => by rw [hk]; exact HOG.out) rfl HYZ.out.1.2.1
        have y2 := cell_fr (R := fun k => k = g) hfr (fun k hk => by rw [hk]; exact HOG.out) rfl HYZ.out.1.2.2.1
        have y3 := cell_fr (R := fun k => k = g) hfr (fun k hk => by rw [hk]; exact HOG.out) rfl HYZ.out.1.2.2.2
        have v0 := cell_fr (R := fun k => k = gv) hfr (fun k hk => by rw [hk]; exact HOV.out) rfl HYZ.out.2.1
        have v1 := cell_fr (R := fun k => k = gv) hfr (fun k hk => by rw [hk]; exact HOV.out) rfl HYZ.out.2.2.1
        have v2 := cell_fr (R := fun k => k = gv) hfr (fun k hk => by rw [hk]; exact HOV.out) rfl HYZ.out.2.2.2.1
        have v3 := cell_fr (R := fun k => k = gv) hfr (fun k hk => by rw [hk]; exact HOV.out) rfl HYZ.out.2.2.2.2
        clear hfr
        have HSX := Lib.hid hS
        clear hS
      all_goals first | (clear hlim hu; (try simp only [he] at hK ⊢); go_simp; exact hK) | skip
      · obtain rfl := hlim (0 : Nat) rfl
        have h1 : PkIn fb nv w2 (q + 1) nv l wx := HSX.out
        have H1 := Lib.hid h1
        clear hlim hu HSX h1 u0 u1 u2 u3 t0 t1 t2 t3 y0 y1 y2 y3 v0 v1 v2 v3
        simp only [he] at hK ⊢
        clear he
        go_simp
        go_at_call 28
        refine (pkword_any fb (q + 1) nv l (NN : Int) (by omega) (by have := HNB.out; omega) _ H1.out.1 HL.out).mono ?_
        rintro e1 wb ⟨rfl, nv2, h2, h3, h4⟩
        rw [Int.toNat_natCast] at h2
        rw [decide_eq_true HF1.out]
        exact hK _ _ (fun _ h => by cases h; rfl) ⟨nv2, H1.out.trans ⟨h2, h3, h4⟩⟩
      · obtain rfl := hlim (1 : Nat) rfl
        have h1 := HSX.out
        clear HSX hlim hu u0 u1 u2 u3 t0 t1 t2 t3 y0 y1 y2 y3 v0 v1 v2 v3
        simp only [List.take_succ_cons, List.take_zero, List.map_cons, List.map_nil] at h1 hK
        simp only [he] at hK ⊢
        clear he
        go_simp
        exact hK _ _ (fun _ h => by cases h; rfl) h1
      · obtain rfl := hlim (2 : Nat) rfl
        have h1 := HSX.out
        clear HSX hlim hu u0 u1 u2 u3 t0 t1 t2 t3 y0 y1 y2 y3 v0 v1 v2 v3
        simp only [List.take_succ_cons, List.take_zero, List.map_cons, List.map_nil] at h1 hK
        obtain ⟨nv1, h2⟩ : ∃ nv1, PkIn fb nv w2 (q + 1) nv1 (l ++ be2 NN) wx := h1
        have H2 := Lib.hid h2
        clear h2
        simp only [he] at hK ⊢
        clear he
        go_simp
        go_at_call 16
        refine (HIH.out R _ _ wx (ov 0) fb (q + 1) nv1 (l ++ be2 NN) (Shows.fr H2.out.2.1 HOR.out _ _ HX2.out.1) (VShows.fr H2.out.2.1 HOR.out _ _ HX2.out.2) HGI.out.1 HGI.out.2 H2.out.1 (fun x hx => by
          have h := H2.out.off (HPH.out.roff x hx).1 (HPH.out.roff x hx).2.1 (HPH.out.roff x hx).2.2
          exact ⟨fun e => h (.inl e), fun e => h (.inr e)⟩) (by rw [List.length_append, be2_length]; exact HF1.out) (by have := HQ.out; omega)).mono ?_
        rintro e1 wb ⟨rfl, nv2, l2, c2, hp2, hok⟩
        have e5 : decide ((l ++ be2 NN ++ encE (of NN) (ov 0)).length ≤ 4000) = OK := by rw [← HOK.out, List.append_assoc]
        rw [e5] at hok ⊢
        exact hK _ _ (fun _ h => by cases h; rfl) ⟨nv2, l2, c2, H2.out.trans hp2, hok⟩
    case fin20a =>
      intro vals w3 hS hV
      have v18 := hV 18 _ (by decide) rfl
      clear hV
      simp only [List.map_cons, List.map_nil] at hS
      obtain ⟨nv2, l2, c2, hp, hok⟩ : PkEnd fb nv w2 w3 OK (l ++ be2 NN ++ encE (of NN) (ov 0)) (q + 1 + szV (ov 0)) := hS
      have HP : Hid (PkIn fb nv w c2 nv2 l2 w3) := Lib.hid (HPH.out.fr.trans hp)
      have HK := Lib.hid hok
      clear hp hok
      simp only [frOfU, fillU, List.setIfInBounds_toArray, List.set_cons_succ, List.set_cons_zero]
      simp only [Nat.reduceAdd, v18]
      clear v18
      go_wp2_with fail
      go_ret
      refine ⟨rfl, nv2, l2, c2, HP.out, fun h => ?_⟩
      obtain ⟨e1, e2⟩ := HK.out h
      exact ⟨by rw [e1, List.append_assoc], by rw [e2]; omega⟩
  · have HNO : Hid (OK = false) := Lib.hid (by
      rcases HFIT.out with h | h
      · exact absurd h hfit
      · exact h)
    have HF1 := Lib.hid hfit
    clear hfit
    refine wp_region_chain (by kernel_rfl) [some 76, some 77, some 78, some 79, some 80, some 81, some 82, some 83, some 84, some 85, some 86, some 87, some 88, some 89, some 90, some 91, some 92, some 93, some 6] rfl (by decide) (by intro d hd; simp at hd ⊢; omega)
      [3] (fun cvs wx => ChoS fb nv w2 (q + 1) l (l ++ be2 NN) OK (l ++ be2 NN ++ encE (of NN) (ov 0)) (q + 1 + szV (ov 0)) cvs wx)
      [.free (.pointer (some ⟨fb, 0, none⟩)), .free (.pointer (some ⟨vb, 0, none⟩)), .free (.int .i64 (NN : Int)), .link (some (.bool false)), .free (.bool false), .free undef, .free undef, .free undef, .free undef, .free undef, .free undef, .free undef, .free undef, .free undef, .free undef, .free undef, .free undef, .free (.bool false), .free (.bool false)]
      (by kernel_rfl) (by kernel_rfl) ?h20b ?step20b ?fin20b
    case h20b => exact (PkIn.start HPH.out.fr.1).quiet (Fr.refl _ _).drew
    case step20b =>
      intro vals
      simp only [frOfU, fillU, List.setIfInBounds_toArray, List.set_cons_succ, List.set_cons_zero]
      repeat' (first | exact AllOps.nil | refine AllOps.cons ?_ ?_)
      all_goals
        intro cvs wx hS he hu hlim Kc hK
        simp only [Act.put, List.setIfInBounds_toArray, List.set_cons_succ, List.set_cons_zero, List.getD_cons_zero, List.getD_cons_succ] at hK
        simp only [List.mem_cons, List.not_mem_nil, or_false, forall_eq_or_imp, forall_eq, Region.binds, forall_const, pmode_gc, Bool.false_eq_true, false_imp_iff, List.getD_cons_zero, List.getD_cons_succ, OpSort.val, Option.some.injEq, forall_eq', reduceCtorEq, implies_true, true_and, and_true] at he
        have hfr := ChoS.fr hS
        obtain ⟨u0, u1, u2, u3⟩ := cell_of_four (box_kept HPH.out.vbox hfr (fun h => by rcases h with h | h; exact HPH.out.voff.2.1 h; exact HPH.out.voff.2.2 h))
        obtain ⟨t0, t1, t2, t3⟩ := cell_of_four (box_kept HPH.out.tbox hfr (fun h => by rcases h with h | h; exact HPH.out.toff.2.1 h; exact HPH.out.toff.2.2 h))
        have y0 := cell_fr (R := fun k => k = g) hfr (fun k hk => by rw [hk]; exact HOG.out) rfl HYZ.out.1.1
        have y1 := cell_fr (R := fun k => k = g) hfr (fun k hk => by rw [hk]; exact HOG.out) rfl HYZ.out.1.2.1
        have y2 := cell_fr (R := fun k => k = g) hfr (fun k hk => by rw [hk]; exact HOG.out) rfl HYZ.out.1.2.2.1
        have y3 := cell_fr (R := fun k => k = g) hfr (fun k hk => by rw [hk]; exact HOG.out) rfl HYZ.out.1.2.2.2
        have v0 := cell_fr (R := fun k => k = gv) hfr (fun k hk => by rw [hk]; exact HOV.out) rfl HYZ.out.2.1
        have v1 := cell_fr (R := fun k => k = gv) hfr (fun k hk => by rw [hk]; exact HOV.out) rfl HYZ.out.2.2.1
        have v2 := cell_fr (R := fun k => k = gv) hfr (fun k hk => by rw [hk]; exact HOV.out) rfl HYZ.out.2.2.2.1
        have v3 := cell_fr (R := fun k => k = gv) hfr (fun k hk => by rw [hk]; exact HOV.out) rfl HYZ.out.2.2.2.2
        clear hfr
        have HSX := Lib.hid hS
        clear hS
      all_goals first | (clear hlim hu; (try simp only [he] at hK ⊢); go_simp; exact hK) | skip
      · obtain rfl := hlim (0 : Nat) rfl
        have h1 : PkIn fb nv w2 (q + 1) nv l wx := HSX.out
        have H1 := Lib.hid h1
        clear hlim hu HSX h1 u0 u1 u2 u3 t0 t1 t2 t3 y0 y1 y2 y3 v0 v1 v2 v3
        simp only [he] at hK ⊢
        clear he
        go_simp
        go_at_call 28
        refine (pkword_any fb (q + 1) nv l (NN : Int) (by omega) (by have := HNB.out; omega) _ H1.out.1 HL.out).mono ?_
        rintro e1 wb ⟨rfl, nv2, h2, h3, h4⟩
        rw [Int.toNat_natCast] at h2
        rw [decide_eq_false HF1.out]
        exact hK _ _ (fun _ h => by cases h; rfl) ⟨nv2, H1.out.trans ⟨h2, h3, h4⟩⟩
    case fin20b =>
      intro vals w3 hS hV
      have v18 := hV 18 _ (by decide) rfl
      clear hV
      simp only [List.map_cons, List.map_nil] at hS
      obtain ⟨nv2, hp⟩ : ∃ nv1, PkIn fb nv w2 (q + 1) nv1 (l ++ be2 NN) w3 := hS
      have HP : Hid (PkIn fb nv w (q + 1) nv2 (l ++ be2 NN) w3) := Lib.hid (HPH.out.fr.trans hp)
      clear hp
      simp only [frOfU, fillU, List.setIfInBounds_toArray, List.set_cons_succ, List.set_cons_zero]
      simp only [Nat.reduceAdd, v18]
      clear v18
      go_wp2_with fail
      go_ret
      exact ⟨by rw [HNO.out]; rfl, nv2, _, _, HP.out, fun h => by rw [HNO.out] at h; cases h⟩

theorem put_any (t : KT) : PutAt t := by
  induction t with
  | nil => exact fun _ _ _ _ _ _ _ _ _ h => h.elim
  | mk k m ns n of ih =>
    intro R v vv w T fb q nv l h1 h2 hg h3 h4 h5 h6 h7
    have hk := (own_facts hg.1.2).1
    have key : PutAt (.mk k m ns n of) := by
      rcases (by omega : k = 0 ∨ k = 1 ∨ k = 2 ∨ k = 3 ∨ k = 4 ∨ k = 5 ∨ k = 6 ∨ k = 7 ∨ k = 8) with h | h | h | h | h | h | h | h | h
      · exact put_k0 k m ns n of (fun i _ => ih i) h
      · exact put_k1 k m ns n of (fun i _ => ih i) h
      · exact put_k2 k m ns n of (fun i _ => ih i) h
      · exact put_k3 k m ns n of (fun i _ => ih i) h
      · exact put_k4 k m ns n of (fun i _ => ih i) h
      · exact put_k5 k m ns n of (fun i _ => ih i) h
      · exact put_k6 k m ns n of (fun i _ => ih i) h
      · exact put_k7 k m ns n of (fun i _ => ih i) h
      · exact put_k8 k m ns n of (fun i _ => ih i) h
    exact key R v vv w T fb q nv l h1 h2 hg h3 h4 h5 h6 h7
end
end Go.Proofs.Ytplipjijaaejlaa
