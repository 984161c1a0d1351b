/-
  CouBack, part 33 of what it rests on: ValMath, ValFlat, ValFlat2, ValSum, ValNoneMath.
-/
import Derived.Test.YtplipjijaaejlaaGreatS28
import Derived.Test.YtplipjijaaejlaaGreatS32
import Derived.Test.YtplipjijaaejlaaGreatS14
import Derived.Deep.QuietTactic
import Derived.BigQuiet
import Derived.Test.YtplipjijaaejlaaGreatS17
import Derived.LoopN
import Derived.Test.YtplipjijaaejlaaGreatS01
set_option linter.unusedVariables false
set_option linter.unusedSimpArgs false
set_option maxHeartbeats 64000000
namespace Go.Proofs.YtplipjijaaejlaaGreat
open Go.RowKit
open Go.Lib (hid)
section
theorem same_zero (x : Int) (f : Nat) (s : Txt) (c : Nat) (ov : Nat → VT) : sameV (.mk x f s c ov) zeroV = (decide (x = 0) && decide (Fl.canon f = 0) && decide (s = []) && decide (c = 0)) := by
  unfold zeroV
  rw [sameV]
  have : Fl.canon 0 = 0 := by decide +kernel
  rw [this]
  by_cases hc : c = 0
  · subst hc; simp
  · simp [hc]

theorem canon0 : Fl.canon 0 = 0 := by decide +kernel

theorem isE_iff (k : Nat) (m : Int) (ns : List Txt) (n : Nat) (of : Nat → KT) (N : Int) (f : Nat) (s : Txt) (c : Nat) (ov : Nat → VT) :
    isE (.mk k m ns n of) (.mk N f s c ov) = true ↔ (k ≠ 3 → Fl.canon f = 0) ∧ (k ≠ 4 → s = []) ∧ ((k < 5 ∨ k = 7) → c = 0) ∧ lowE k ≤ N ∧ N ≤ highE k ns.length n ∧ (k = 4 → (s.length : Int) ≤ m) ∧ (k = 5 → (c : Int) ≤ m) ∧ (k = 6 → c = n) ∧ (k = 8 → c = 1) ∧
      ∀ i, i < c → isE (of (if k = 6 then i else if k = 8 then N.toNat else 0)) (ov i) = true := by
  rw [isE]
  constructor
  · intro h
    split at h
    · cases h
    rename_i h1
    split at h
    · cases h
    rename_i h2
    split at h
    · cases h
    rename_i h3
    split at h
    · cases h
    rename_i h4
    rw [List.all_eq_true] at h
    refine ⟨fun hk => Classical.byContradiction fun e => h1 (.inl ⟨hk, e⟩), fun hk => Classical.byContradiction fun e => h1 (.inr ⟨hk, e⟩), fun hk => ?_, by omega, by omega, fun hk => by omega, fun hk => by omega, fun hk => by omega, fun hk => by omega, fun i hi => h i (List.mem_range.2 hi)⟩
    omega
  · rintro ⟨a1, a2, a3, a4, a5, a6, a7, a8, a9, a10⟩
    rw [if_neg, if_neg, if_neg, if_neg, List.all_eq_true]
    · exact fun i hi => a10 i (List.mem_range.1 hi)
    · rintro (⟨h, h'⟩ | ⟨h, h'⟩)
      · exact h' (a8 h)
      · exact h' (a9 h)
    · rintro (h | h | ⟨h, h'⟩ | ⟨h, h'⟩)
      · omega
      · omega
      · have := a6 h; omega
      · have := a7 h; omega
    · rintro ⟨h, h'⟩
      have := a3 h; omega
    · rintro (⟨h, h'⟩ | ⟨h, h'⟩)
      · exact h' (a1 h)
      · exact h' (a2 h)

/-- THE PROGRAM'S ANSWER IS THE DOCUMENT'S. -/
theorem fits_is (t : KT) : goodE t → ∀ T, fitsE t T = isE t T := by
  induction t with
  | nil => exact fun h => h.elim
  | mk k m ns n of ih =>
    rintro ⟨⟨hn12, hown⟩, hkids⟩ T
    obtain ⟨hk8, hmost, hone, hparts, hnames, hnone⟩ := own_facts hown
    cases T with
    | nil => rfl
    | mk N f s c ov =>
      rw [Bool.eq_iff_iff, isE_iff, fitsE]
      simp only [same_zero, canon0]
      rcases (by omega : k = 0 ∨ k = 1 ∨ k = 2 ∨ k = 3 ∨ k = 4 ∨ k = 5 ∨ k = 6 ∨ k = 7 ∨ k = 8) with h | h | h | h | h | h | h | h | h <;> subst h
      · simp [lowE, highE]
        constructor
        · rintro ⟨⟨a, b⟩, ⟨c1, c2⟩, c3⟩; subst c3; exact ⟨c1, c2, rfl, a, b, fun i hi => by omega⟩
        · rintro ⟨a, b, c3, d, e, _⟩; exact ⟨⟨d, e⟩, ⟨a, b⟩, c3⟩
      · simp [lowE, highE]
        constructor
        · rintro ⟨⟨a, b⟩, ⟨c1, c2⟩, c3⟩; subst c3; exact ⟨c1, c2, rfl, a, b, fun i hi => by omega⟩
        · rintro ⟨a, b, c3, d, e, _⟩; exact ⟨⟨d, e⟩, ⟨a, b⟩, c3⟩
      · simp [lowE, highE]
        constructor
        · rintro ⟨⟨a, b⟩, ⟨c1, c2⟩, c3⟩; subst c3; exact ⟨c1, c2, rfl, a, b, fun i hi => by omega⟩
        · rintro ⟨a, b, c3, d, e, _⟩; exact ⟨⟨d, e⟩, ⟨a, b⟩, c3⟩
      · simp [lowE, highE]
        constructor
        · rintro ⟨⟨a, b⟩, c3⟩; subst c3; exact ⟨b, rfl, by omega, by omega, fun i hi => by omega⟩
        · rintro ⟨a, b, c3, d, _⟩; exact ⟨⟨by omega, a⟩, b⟩
      · simp [lowE, highE]
        constructor
        · rintro ⟨a, ⟨b, c1⟩, c3⟩; subst c3; exact ⟨c1, rfl, by omega, by omega, a, fun i hi => by omega⟩
        · rintro ⟨a, c3, d, e, g, _⟩; exact ⟨g, ⟨by omega, a⟩, c3⟩
      · have h1 := hone rfl
        subst h1
        have hi0 := ih 0 (hkids 0 (by omega))
        simp [lowE, highE, hi0]
        constructor
        · rintro ⟨⟨a, b⟩, ⟨c1, c2⟩, c3⟩; exact ⟨c2, c3, by omega, by omega, a, b⟩
        · rintro ⟨a, b, c1, c2, d, e⟩; exact ⟨⟨d, e⟩, ⟨by omega, a⟩, b⟩
      · simp [lowE, highE]
        constructor
        · rintro ⟨⟨a, b⟩, ⟨c1, c2⟩, c3⟩; subst a; exact ⟨c2, c3, by omega, by omega, rfl, fun i hi => by rw [← ih i (hkids i hi)]; exact b i hi⟩
        · rintro ⟨a, b, c1, c2, d, e⟩; subst d; exact ⟨⟨rfl, fun i hi => by rw [ih i (hkids i hi)]; exact e i hi⟩, ⟨by omega, a⟩, b⟩
      · simp [lowE, highE]
        constructor
        · rintro ⟨⟨a, b⟩, ⟨c1, c2⟩, c3⟩; subst c3; exact ⟨c1, c2, rfl, a, b, fun i hi => by omega⟩
        · rintro ⟨a, b, c3, d, e, _⟩; exact ⟨⟨d, e⟩, ⟨a, b⟩, c3⟩
      · simp [lowE, highE]
        constructor
        · rintro ⟨⟨⟨a, b⟩, a', b'⟩, c1, c3⟩
          subst a'
          exact ⟨c1, c3, a, b, rfl, fun i hi => (by (have e : i = 0 := by omega); subst e; rw [← ih _ (hkids N.toNat (by omega))]; exact b')⟩
        · rintro ⟨a, b, c1, c2, d, e⟩
          subst d
          exact ⟨⟨⟨c1, c2⟩, rfl, by rw [ih _ (hkids N.toNat (by omega))]; exact e 0 (by omega)⟩, a, b⟩

/-- No part of a node is missing. -/
def vokN : KN → Prop
  | .nil => False
  | .mk _ _ c of => ∀ i, i < c → vokN (of i)

theorem NShows.vok {w : World} (t : KN) : ∀ v, NShows w t v → vokN t := by
  induction t with
  | nil => exact fun _ h => h.elim
  | mk k n c of ih =>
    rintro v ⟨vo, rfl, hk, hn, hc, ho⟩ i hi
    rcases ho with ⟨h, _⟩ | ⟨g, off, cap, rfl, hle, hcell⟩
    · omega
    · obtain ⟨x0, x1, x2, _, _, _, hx⟩ := hcell i hi
      exact ih i _ hx

theorem vnamed_nameT (i : Nat) (hi : i < 4) (n : Nat) : named (nameT i n) = true := by
  have key : ∀ j < 26, ∀ i < 4, named [UInt8.ofNat (97 + i), UInt8.ofNat (65 + j), 48] = true := by decide +kernel
  have := key (n % 26) (Nat.mod_lt _ (by decide)) i hi
  have e : ((65 : Int) + (n : Int) % 26).toNat = 65 + n % 26 := by omega
  unfold nameT
  rw [e]
  exact this

theorem vnameT_ne (i j : Nat) (hi : i < 4) (hj : j < 4) (h : i ≠ j) (n : Int) : nameT i n ≠ nameT j n := by
  have key : ∀ i < 4, ∀ j < 4, i ≠ j → UInt8.ofNat (97 + i) ≠ UInt8.ofNat (97 + j) := by decide
  intro e
  unfold nameT at e
  simp only [List.cons.injEq] at e
  exact key i hi j hj h e.1

theorem vnames_right (n c : Nat) (h0 : 1 ≤ c) (hc : c ≤ 3) : checkNamesE ((List.range c).map (fun i => nameT i n)) = 0 := by
  have h01 := vnameT_ne 0 1 (by omega) (by omega) (by omega) n
  have h02 := vnameT_ne 0 2 (by omega) (by omega) (by omega) n
  have h12 := vnameT_ne 1 2 (by omega) (by omega) (by omega) n
  have n0 := vnamed_nameT 0 (by omega) n
  have n1 := vnamed_nameT 1 (by omega) n
  have n2 := vnamed_nameT 2 (by omega) n
  unfold checkNamesE
  rw [if_neg (by simp; omega)]
  rcases (by omega : c = 1 ∨ c = 2 ∨ c = 3) with rfl | rfl | rfl <;> simp [List.range_succ, namesE, nameE, n0, n1, n2, h01, h02, h12]

theorem leaf_good (q : Nat) (hq : q < 4) (of : Nat → KT) : goodE (.mk q 0 [] 0 of) := by
  refine ⟨⟨by omega, ?_⟩, fun i hi => by omega⟩
  rcases (by omega : q = 0 ∨ q = 1 ∨ q = 2 ∨ q = 3) with rfl | rfl | rfl | rfl <;> simp [ownOK, sizedB, formedB]

/-- A type of the laws, of nothing that is known. -/
theorem good_type (t : KN) : ∀ d, 1 ≤ d → vokN t → goodE (typeE [] t d) ∧ ∀ lv, d ≤ lv → hasE (typeE [] t d) lv = true := by
  induction t with
  | nil => exact fun _ _ h => h.elim
  | mk kd n c of ih =>
    intro d hd ok
    rw [typeE_mk]
    have hsub : ∀ i, 2 ≤ d → goodE (subE [] c of d i) ∧ ∀ lv, d - 1 ≤ lv → hasE (subE [] c of d i) lv = true := by
      intro i h2
      unfold subE
      split
      · have h4 : i % 4 < 4 := Nat.mod_lt _ (by decide)
        refine ⟨leaf_good _ h4 _, fun lv hlv => ?_⟩
        rw [hasE, if_neg (by omega)]
        rfl
      · exact ih _ _ (by omega) (ok _ (Nat.mod_lt _ (by omega)))
    have h60 : (1 : Int) ≤ 1 + ((n % 60 : Nat) : Int) ∧ 1 + ((n % 60 : Nat) : Int) ≤ 60 := by have := Nat.mod_lt n (show 0 < 60 by decide); omega
    have h3 : n % 3 < 3 := Nat.mod_lt _ (by decide)
    have hnm : checkNamesE ((List.range (1 + n % 3)).map (fun i => nameT i n)) = 0 := vnames_right n _ (by omega) (by omega)
    obtain ⟨k, hk⟩ : ∃ k, k = kindE kd d [] := ⟨_, rfl⟩
    have hk9 : k ≤ 8 ∧ (k = 5 ∨ k = 6 ∨ k = 8 → 2 ≤ d) := by
      rw [hk]; unfold kindE
      split
      · omega
      · rename_i h
        simp only [List.length_nil, and_true] at h
        omega
    rw [← hk]
    clear hk
    rcases (by omega : k = 0 ∨ k = 1 ∨ k = 2 ∨ k = 3 ∨ k = 4 ∨ k = 5 ∨ k = 6 ∨ k = 7 ∨ k = 8) with h | h | h | h | h | h | h | h | h <;> subst h
    · exact ⟨leaf_good 0 (by omega) _, fun lv hlv => by simp [mkE, hasE]; omega⟩
    · exact ⟨leaf_good 1 (by omega) _, fun lv hlv => by simp [mkE, hasE]; omega⟩
    · exact ⟨leaf_good 2 (by omega) _, fun lv hlv => by simp [mkE, hasE]; omega⟩
    · exact ⟨leaf_good 3 (by omega) _, fun lv hlv => by simp [mkE, hasE]; omega⟩
    · have e : mkE [] 4 n (subE [] c of d) = .mk 4 (1 + (n % 60 : Nat)) [] 0 (fun _ => .nil) := by simp [mkE]
      rw [e]
      refine ⟨⟨⟨by omega, ?_⟩, fun i hi => by omega⟩, fun lv hlv => by simp [hasE]; omega⟩
      unfold ownOK sizedB formedB
      rw [decide_eq_true h60]
      simp
    · have hs := hsub 0 (hk9.2 (by omega))
      have e : mkE [] 5 n (subE [] c of d) = .mk 5 (1 + (n % 60 : Nat)) [] 1 (fun _ => subE [] c of d 0) := by simp [mkE]
      rw [e]
      refine ⟨⟨⟨by omega, ?_⟩, fun i hi => hs.1⟩, fun lv hlv => ?_⟩
      · unfold ownOK sizedB formedB
        rw [decide_eq_true h60]
        simp
      · rw [hasE, if_neg (by omega), List.all_eq_true]
        exact fun i _ => hs.2 _ (by omega)
    · have hs := fun i => hsub i (hk9.2 (by omega))
      have e : mkE [] 6 n (subE [] c of d) = .mk 6 0 ((List.range (1 + n % 3)).map (fun i => nameT i n)) (1 + n % 3) (subE [] c of d) := by simp [mkE]
      rw [e]
      refine ⟨⟨⟨by omega, ?_⟩, fun i hi => (hs i).1⟩, fun lv hlv => ?_⟩
      · unfold ownOK sizedB formedB
        simp only [if_pos (show (6 : Nat) = 6 ∨ (6 : Nat) = 7 ∨ (6 : Nat) = 8 by decide)]
        rw [hnm]
        simp
      · rw [hasE, if_neg (by omega), List.all_eq_true]
        exact fun i _ => (hs i).2 _ (by omega)
    · have e : mkE [] 7 n (subE [] c of d) = .mk 7 0 ((List.range (1 + n % 3)).map (fun i => nameT i n)) 0 (fun _ => .nil) := by simp [mkE]
      rw [e]
      refine ⟨⟨⟨by omega, ?_⟩, fun i hi => by omega⟩, fun lv hlv => by simp [hasE]; omega⟩
      unfold ownOK sizedB formedB
      simp only [if_pos (show (7 : Nat) = 6 ∨ (7 : Nat) = 7 ∨ (7 : Nat) = 8 by decide)]
      rw [hnm]
      simp
    · have hs := fun i => hsub i (hk9.2 (by omega))
      have e : mkE [] 8 n (subE [] c of d) = .mk 8 0 ((List.range (1 + n % 3)).map (fun i => nameT i n)) (1 + n % 3) (subE [] c of d) := by simp [mkE]
      rw [e]
      refine ⟨⟨⟨by omega, ?_⟩, fun i hi => (hs i).1⟩, fun lv hlv => ?_⟩
      · unfold ownOK sizedB formedB
        simp only [if_pos (show (8 : Nat) = 6 ∨ (8 : Nat) = 7 ∨ (8 : Nat) = 8 by decide)]
        rw [hnm]
        simp
      · rw [hasE, if_neg (by omega), List.all_eq_true]
        exact fun i _ => (hs i).2 _ (by omega)

/-- What the check answers of a type of the laws. -/
theorem val_is (t : KN) (T : VT) (h : vokN t) : valE (typeE [] t 4) T = if isE (typeE [] t 4) T then 0 else 17 := by
  obtain ⟨hg, hh⟩ := good_type t 4 (by omega) h
  unfold valE isVal
  rw [hh 20 (by omega), fits_is _ hg, Bool.true_and]
end
section
attribute [local go_sem] run_store_float

theorem Tryz.infoI64 : (Tryz.prog.info? 2).map (fun i => (i.zero, i.size, i.bytes)) = some (some (.int .i64 0), 1, 8) := by kernel_rfl

/-- One number more, if there are not so many. -/
def addE (m : Int) (acc : List Int) (x : Int) : List Int := if m ≤ (acc.length : Int) then acc else acc ++ [x]

/-- A VALUE'S NUMBERS. -/
def flE : KT → VT → List Int
  | .nil, _ => []
  | .mk _ _ _ _ _, .nil => []
  | .mk k m ns n of, .mk N f s c ov =>
    if k = 3 then [Fl.whole f]
    else if k = 4 then [(s.length : Int)]
    else (if k = 5 then [(c : Int)] else []) ++ (if k < 3 ∨ 6 < k then [N] else []) ++ ((List.range c).map (fun i => flE (of (if k = 6 then i else if k = 8 then N.toNat else 0)) (ov i))).flatten
end
section
attribute [local go_sem] run_store_float

/-- The numbers of the first j parts. -/
def partsF (g : Nat → List Int) (j : Nat) : List Int := ((List.range j).map g).flatten

theorem partsF_succ (g : Nat → List Int) (j : Nat) : partsF g (j + 1) = partsF g j ++ g j := by
  unfold partsF; rw [List.range_succ, List.map_append, List.flatten_append]; simp

theorem partsF_split (g : Nat → List Int) (j c : Nat) (h : j ≤ c) : ∃ r, partsF g c = partsF g j ++ r := by
  induction c with
  | zero => obtain rfl : j = 0 := by omega
            exact ⟨[], by simp⟩
  | succ c ih =>
    by_cases e : j = c + 1
    · subst e; exact ⟨[], by simp⟩
    · obtain ⟨r, hr⟩ := ih (by omega)
      exact ⟨r ++ g c, by rw [partsF_succ, hr, List.append_assoc]⟩

theorem partsF_len (g : Nat → List Int) (b : Nat → Nat) (h : ∀ i, (g i).length ≤ 2 * b i) (j : Nat) : (partsF g j).length ≤ 2 * ((List.range j).map b).sum := by
  induction j with
  | zero => simp [partsF]
  | succ j ih =>
    rw [partsF_succ, List.length_append, List.range_succ, List.map_append, List.sum_append]
    have := h j
    simp only [List.map_cons, List.map_nil, List.sum_cons, List.sum_nil, Nat.add_zero]
    omega

theorem fold_full (m : Int) (l : List Int) : ∀ acc, m ≤ (acc.length : Int) → l.foldl (addE m) acc = acc := by
  induction l with
  | nil => intro acc _; rfl
  | cons x l ih =>
    intro acc h
    rw [List.foldl_cons, show addE m acc x = acc by unfold addE; rw [if_pos h]]
    exact ih acc h

theorem addE_len (m : Int) (acc : List Int) (x : Int) : (addE m acc x).length ≤ acc.length + 1 := by
  unfold addE
  split
  · omega
  · simp

theorem fold_len (m : Int) (l : List Int) : ∀ acc, (l.foldl (addE m) acc).length ≤ acc.length + l.length := by
  induction l with
  | nil => intro acc; simp
  | cons x l ih =>
    intro acc
    rw [List.foldl_cons]
    have := ih (addE m acc x)
    have := addE_len m acc x
    simp only [List.length_cons]
    omega

theorem fl_len (t : KT) : ∀ T, (flE t T).length ≤ 2 * szV T := by
  induction t with
  | nil => intro T; simp [flE]
  | mk k m ns n of ih =>
    intro T
    cases T with
    | nil => simp [flE]
    | mk N f s c ov =>
      rw [flE, szV]
      split
      · simp; omega
      split
      · simp; omega
      rw [List.length_append, List.length_append]
      have h := partsF_len (fun i => flE (of (if k = 6 then i else if k = 8 then N.toNat else 0)) (ov i)) (fun i => szV (ov i)) (fun i => ih _ _) c
      unfold partsF at h
      have h1 : (if k = 5 then [(c : Int)] else []).length + (if k < 3 ∨ 6 < k then [N] else []).length ≤ 1 := by
        split <;> split <;> simp <;> omega
      omega

theorem own_lt {w : World} {B : Nat} {e : TypeId} {size : Nat} {v : Value} {n : Nat} {xs : List Value} (h : w.ownsRow B e size v n xs) : ∀ k, v.ownBlock = some k → k < w.heap.size := by
  intro k hk
  rcases h.2 with ⟨rfl, _⟩ | ⟨g, cap, cur, rfl, _, hg, _⟩
  · simp [Value.ownBlock] at hk
  · have e : g = k := by simpa [Value.ownBlock] using hk
    subst e
    exact (Array.getElem?_eq_some_iff.1 hg).1

theorem fits_seq {m : Int} {ns : List Txt} {n : Nat} {of : Nat → KT} {N : Int} {f : Nat} {s : Txt} {c : Nat} {ov : Nat → VT} (h : fitsE (.mk 5 m ns n of) (.mk N f s c ov) = true) : n = 1 ∧ ∀ i, i < c → fitsE (of 0) (ov i) = true := by
  rw [fitsE, if_neg (by omega), if_neg (by omega), if_neg (by omega), if_neg (by omega), if_neg (by omega), if_neg (by omega), if_pos rfl] at h
  simp only [Bool.and_eq_true, decide_eq_true_eq, List.all_eq_true, List.mem_range] at h
  exact ⟨h.1.2.1, h.1.2.2⟩

theorem fits_rec {m : Int} {ns : List Txt} {n : Nat} {of : Nat → KT} {N : Int} {f : Nat} {s : Txt} {c : Nat} {ov : Nat → VT} (h : fitsE (.mk 6 m ns n of) (.mk N f s c ov) = true) : c = n ∧ ∀ i, i < c → fitsE (of i) (ov i) = true := by
  rw [fitsE, if_neg (by omega), if_neg (by omega), if_neg (by omega), if_neg (by omega), if_neg (by omega), if_neg (by omega), if_neg (by omega), if_pos rfl] at h
  simp only [Bool.and_eq_true, decide_eq_true_eq, List.all_eq_true, List.mem_range] at h
  exact ⟨h.1.1, h.1.2⟩

theorem fits_cho {m : Int} {ns : List Txt} {n : Nat} {of : Nat → KT} {N : Int} {f : Nat} {s : Txt} {c : Nat} {ov : Nat → VT} (h : fitsE (.mk 8 m ns n of) (.mk N f s c ov) = true) : (0 ≤ N ∧ N ≤ (n : Int) - 1) ∧ c = 1 ∧ fitsE (of N.toNat) (ov 0) = true := by
  rw [fitsE, if_neg (by omega), if_neg (by omega), if_neg (by omega), if_neg (by omega), if_neg (by omega), if_neg (by omega), if_neg (by omega), if_neg (by omega), if_pos rfl] at h
  simp only [Bool.and_eq_true, decide_eq_true_eq] at h
  exact h.1

theorem sum_le_at (b : Nat → Nat) (j c : Nat) (h : j < c) : ((List.range j).map b).sum + b j ≤ ((List.range c).map b).sum := by
  induction c with
  | zero => omega
  | succ c ih =>
    rw [List.range_succ, List.map_append, List.sum_append]
    simp only [List.map_cons, List.map_nil, List.sum_cons, List.sum_nil, Nat.add_zero]
    by_cases e : j = c
    · subst e; exact Nat.le_refl _
    · have := ih (by omega)
      omega

/-- THE FIRST NUMBERS OF A VALUE. -/
def flatE (t : KT) (T : VT) (m : Int) : List Int := (flE t T).foldl (addE m) []
end
section
theorem sum_shrink (g : Nat → Nat) (a b : Nat) (h : a ≤ b) : ((List.range a).map g).sum ≤ ((List.range b).map g).sum := by
  induction b with
  | zero => obtain rfl : a = 0 := by omega
            exact Nat.le_refl _
  | succ b ih =>
    by_cases e : a = b + 1
    · subst e; exact Nat.le_refl _
    · rw [List.range_succ (n := b), List.map_append, List.sum_append]
      have := ih (by omega)
      omega
end
section
/-- How many types there are in one. -/
def szK : KT → Nat
  | .nil => 1
  | .mk _ _ _ n of => 1 + ((List.range n).map fun i => szK (of i)).sum

theorem szK_cost (t : KT) : goodE t → szK t ≤ costE t := by
  induction t with
  | nil => exact fun h => h.elim
  | mk k m ns n of ih =>
    rintro ⟨⟨hn12, hown⟩, hkids⟩
    obtain ⟨hk8, hmost, hone, hparts, hnames, hnone⟩ := own_facts hown
    rw [szK, costE]
    by_cases h5 : k = 5
    · rw [if_pos h5]
      have h1 := hone h5
      subst h1
      have := ih 0 (hkids 0 (by omega))
      simp [List.range_succ]
      omega
    · rw [if_neg h5]
      have : ∀ j, j ≤ n → ((List.range j).map fun i => szK (of i)).sum ≤ ((List.range j).map fun i => costE (of i)).sum := by
        intro j
        induction j with
        | zero => simp
        | succ j ihj =>
          intro hj
          rw [List.range_succ, List.map_append, List.map_append, List.sum_append, List.sum_append]
          have h1 := ihj (by omega)
          have h2 := ih j (hkids j (by omega))
          simp
          omega
      have := this n (Nat.le_refl _)
      omega

theorem survey_ok (t : KT) : goodE t → ∀ lv p, hasE t lv = true → p + szK t ≤ 1048576 → surveyE t lv p = (true, p + szK t) := by
  induction t with
  | nil => exact fun h => h.elim
  | mk k m ns n of ih =>
    rintro ⟨⟨hn12, hown⟩, hkids⟩ lv p hh hp
    rw [hasE] at hh
    split at hh
    · cases hh
    rename_i hlv
    rw [List.all_eq_true] at hh
    have ha : aloneE (.mk k m ns n of) = true := by rw [alone_own, hown, decide_eq_true hn12]; rfl
    rw [surveyE, if_neg (by
      rw [szK] at hp
      rintro (h | h | h)
      · omega
      · exact hlv (.inr h)
      · rw [ha] at h; cases h)]
    have key : ∀ j, j ≤ n → surveyL (fun i => surveyE (of i) (lv - 1)) j (p + 1) = (true, p + 1 + ((List.range j).map fun i => szK (of i)).sum) := by
      intro j
      induction j with
      | zero => intro _; simp [surveyL]
      | succ j ihj =>
        intro hj
        rw [surveyL, ihj (by omega), if_pos rfl]
        have hs : ((List.range (j + 1)).map fun i => szK (of i)).sum ≤ ((List.range n).map fun i => szK (of i)).sum := sum_shrink (fun i => szK (of i)) (j + 1) n hj
        rw [List.range_succ, List.map_append, List.sum_append] at hs ⊢
        rw [szK] at hp
        simp only [List.map_cons, List.map_nil, List.sum_cons, List.sum_nil, Nat.add_zero] at hs ⊢
        rw [ih j (hkids j (by omega)) (lv - 1) _ (hh j (List.mem_range.2 (by omega))) (by omega)]
        simp
        omega
    rw [key n (Nat.le_refl _), szK]
    simp
    omega

theorem partsL_getD (f : Nat → Nat × Nat → VT × (Nat × Nat)) (j : Nat) (s : Nat × Nat) : ∀ i, i < j → ∃ q, (partsL f j s).1.getD i .nil = (f i q).1 := by
  induction j with
  | zero => intro i hi; omega
  | succ j ih =>
    intro i hi
    rw [partsL]
    by_cases h : i < j
    · obtain ⟨q, hq⟩ := ih i h
      refine ⟨q, ?_⟩
      rw [← hq]
      simp only [List.getD_eq_getElem?_getD]
      rw [List.getElem?_append_left (by rw [partsL_length]; exact h)]
    · obtain rfl : i = j := by omega
      refine ⟨(partsL f i s).2, ?_⟩
      simp only [List.getD_eq_getElem?_getD]
      rw [List.getElem?_append_right (by rw [partsL_length]; exact Nat.le_refl _), partsL_length]
      simp

theorem emod_in (a b : Int) (h : 0 < b) : 0 ≤ a % b ∧ a % b < b := ⟨Int.emod_nonneg a (by omega), Int.emod_lt_of_pos a h⟩

/-- WHAT IS BUILT IS A VALUE OF THE TYPE. -/
theorem build_fits (l : List Int) (t : KT) : goodE t → ∀ s, isE t (buildE l t s).1 = true := by
  induction t with
  | nil => exact fun h => h.elim
  | mk k m ns n of ih =>
    rintro ⟨⟨hn12, hown⟩, hkids⟩ s
    obtain ⟨hk8, hmost, hone, hparts, hnames, hnone⟩ := own_facts hown
    have h2 := emod_in (numE l s.1) 2 (by omega)
    have h16 := emod_in (numE l s.1) 65536 (by omega)
    have h32 := emod_in (numE l s.1) 4294967296 (by omega)
    rcases (by omega : k = 0 ∨ k = 1 ∨ k = 2 ∨ k = 3 ∨ k = 4 ∨ k = 5 ∨ k = 6 ∨ k = 7 ∨ k = 8) with h | h | h | h | h | h | h | h | h <;> subst h
    · rw [buildE, if_pos rfl]
      unfold vnum
      rw [isE_iff]
      simp [lowE, highE, canon0]
      omega
    · rw [buildE, if_neg (by omega), if_pos rfl]
      unfold vnum
      rw [isE_iff]
      simp [lowE, highE, canon0]
      omega
    · rw [buildE, if_neg (by omega), if_neg (by omega), if_pos rfl]
      unfold vnum long32
      rw [isE_iff]
      simp [lowE, highE, canon0]
      split <;> omega
    · rw [buildE, if_neg (by omega), if_neg (by omega), if_neg (by omega), if_pos rfl]
      rw [isE_iff]
      simp [lowE, highE]
    · rw [buildE, if_neg (by omega), if_neg (by omega), if_neg (by omega), if_neg (by omega), if_pos rfl]
      have hm := hmost (by omega)
      have h4 := emod_in (numE l s.1) (m + 1) (by omega)
      rw [isE_iff]
      simp [lowE, highE, canon0, lettersE]
      omega
    · have hm := hmost (by omega)
      have h4 := emod_in (numE l s.1) 4 (by omega)
      have h1 := hone rfl
      by_cases hb : 100 < s.2 + 1
      · rw [buildE_none _ _ _ _ _ _ hb]
        unfold listV
        rw [isE_iff]
        simp [lowE, highE, canon0]
        omega
      · rw [buildE_seq _ _ _ _ _ _ hb]
        unfold listV
        rw [isE_iff]
        rw [partsL_length]
        refine ⟨fun _ => canon0, fun _ => rfl, fun h => by omega, by simp [lowE], by simp [highE], fun h => by omega, fun _ => by omega, fun h => by omega, fun h => by omega, fun i hi => ?_⟩
        obtain ⟨q, hq⟩ := partsL_getD (fun _ q => buildE l (of 0) q) _ (nextE l s.1, s.2 + 1) i hi
        rw [if_neg (by omega), if_neg (by omega), hq]
        exact ih 0 (hkids 0 (by omega)) q
    · rw [buildE_record]
      unfold listV
      rw [isE_iff]
      rw [partsL_length]
      refine ⟨fun _ => canon0, fun _ => rfl, fun h => by omega, by simp [lowE], by simp [highE], fun h => by omega, fun h => by omega, fun h => rfl, fun h => by omega, fun i hi => ?_⟩
      obtain ⟨q, hq⟩ := partsL_getD (fun i q => buildE l (of i) q) n (s.1, s.2 + 1) i hi
      rw [if_pos rfl, hq]
      exact ih i (hkids i hi) q
    · have hns := hnames (by omega)
      have h4 := emod_in (numE l s.1) (ns.length : Int) (by omega)
      rw [buildE, if_neg (by omega), if_neg (by omega), if_neg (by omega), if_neg (by omega), if_neg (by omega), if_neg (by omega), if_neg (by omega), if_pos rfl]
      unfold vnum
      rw [isE_iff]
      simp [lowE, highE, canon0]
      omega
    · have hns := hnames (by omega)
      have hnn := hparts (by omega)
      have h4 := emod_in (numE l s.1) (n : Int) (by omega)
      rw [buildE_choice, isE_iff]
      refine ⟨fun _ => canon0, fun _ => rfl, fun h => by omega, by simp [lowE]; omega, by simp [highE]; omega, fun h => by omega, fun h => by omega, fun h => by omega, fun h => rfl, fun i hi => ?_⟩
      rw [if_neg (by omega), if_pos rfl]
      exact ih _ (hkids _ (by omega)) _

/-- A type of the laws is built, and what is built is a value of it. -/
theorem build_type (l : List Int) (t : KN) (d : Nat) (hd : 1 ≤ d) (hd4 : d ≤ 4) (h : vokN t) : BuildE l (typeE [] t d) = (buildE l (typeE [] t d) (0, 0)).1 ∧ isVal (typeE [] t d) (BuildE l (typeE [] t d)) = true := by
  obtain ⟨hg, hh⟩ := good_type t d hd h
  have hs : (surveyE (typeE [] t d) 1000 0).1 = true := by
    rw [survey_ok _ hg 1000 0 (hh 1000 (by omega)) (by
      have h1 := szK_cost _ hg
      have h2 := cost_typeE [] t d
      have h3 : 4 ^ d ≤ 4 ^ 4 := Nat.pow_le_pow_right (by omega) hd4
      omega)]
  have e : BuildE l (typeE [] t d) = (buildE l (typeE [] t d) (0, 0)).1 := by unfold BuildE; rw [if_pos hs]
  refine ⟨e, ?_⟩
  unfold isVal
  rw [hh 20 (by omega), fits_is _ hg, e, build_fits l _ hg]
  rfl
end
end Go.Proofs.YtplipjijaaejlaaGreat
