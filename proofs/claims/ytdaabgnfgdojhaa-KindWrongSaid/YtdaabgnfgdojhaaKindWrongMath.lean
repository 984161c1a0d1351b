/-
  KindWrong: what the check answers of the laws' table with one thing turned, as a plain function. Pure.
-/
import Derived.Test.YtdaabgnfgdojhaaKindSize
import Derived.Test.YtdaabgnfgdojhaaKindParts
namespace Go.Proofs.Ytdaabgnfgdojhaa
open Go.RowKit
set_option linter.unusedVariables false
set_option linter.unusedSimpArgs false

def lastT : Txt := [108, 97, 115, 116]
def xT : Txt := [120]
def yT : Txt := [121]
def recordT : Txt := [114, 101, 99, 111, 114, 100]

theorem firstE_cong (f g : Nat → Nat) (n : Nat) (h : ∀ i, i < n → f i = g i) : firstE f n = firstE g n := by
  induction n with
  | zero => rfl
  | succ n ih => unfold firstE; rw [ih fun i hi => h i (by omega), h n (by omega)]

theorem firstE_last (f : Nat → Nat) (n : Nat) (h : ∀ i, i < n → f i = 0) : firstE f (n + 1) = f n := by
  have := firstE_all f n h
  unfold firstE; rw [if_pos this]

theorem getD_left {α : Type} (l r : List α) (i : Nat) (hi : i < l.length) (d : α) : (l ++ r).getD i d = l.getD i d := by
  rw [List.getD_eq_getElem?_getD, List.getD_eq_getElem?_getD, List.getElem?_append_left hi]

theorem getD_right {α : Type} (l : List α) (x : α) (r : List α) (d : α) : (l ++ x :: r).getD l.length d = x := by
  rw [List.getD_eq_getElem?_getD, List.getElem?_append_right (Nat.le_refl _), Nat.sub_self]; rfl

theorem take_left {α : Type} (l r : List α) (i : Nat) (hi : i ≤ l.length) : (l ++ r).take i = l.take i := by
  rw [List.take_append_of_le_length hi]

/-- More aliases behind change nothing for a reference that is known. -/
theorem standsN_more (al r : List (Txt × KT)) (ns : List Txt) (h : ¬ standsN al ns < 0) : standsN (al ++ r) ns = standsN al ns := by
  match ns, h with
  | [s], h =>
    obtain ⟨j, hj, e, h1, h2⟩ := stands_spec h
    rw [e]
    unfold standsN
    refine firstAt_found _ _ j (by rw [List.length_append]; omega) (fun i hi hij => ?_) ?_
    · rw [List.getElem_append_left (by omega)]
      simpa using h2 i hij
    · rw [List.getElem_append_left hj]
      simpa using h1
  | [], h => exact absurd (by show (-1 : Int) < 0; decide) h
  | _ :: _ :: _, h => exact absurd (by show (-1 : Int) < 0; decide) h

theorem firstE_zero {f : Nat → Nat} {n : Nat} (h : firstE f n = 0) : ∀ i, i < n → f i = 0 := by
  induction n with
  | zero => exact fun i hi => by omega
  | succ n ih =>
    unfold firstE at h
    by_cases h0 : firstE f n = 0
    · rw [if_pos h0] at h
      intro i hi
      by_cases e : i = n
      · subst e; exact h
      · exact ih h0 i (by omega)
    · rw [if_neg h0] at h; exact absurd h h0

theorem rightE_more (al r : List (Txt × KT)) (t : KT) : ∀ lv, rightE al t lv = 0 → rightE (al ++ r) t lv = 0 := by
  induction t with
  | nil => exact fun _ _ => rfl
  | mk k m ns n of ih =>
    intro lv h
    rw [rightE_mk] at h ⊢
    by_cases h1 : 10 ≤ k ∨ lv = 0
    · rw [if_pos h1] at h; omega
    rw [if_neg h1] at h ⊢
    by_cases h2 : (!sizedB k m) = true
    · rw [if_pos h2] at h; omega
    rw [if_neg h2] at h ⊢
    by_cases h3 : (!formedB k ns.length n) = true
    · rw [if_pos h3] at h; omega
    rw [if_neg h3] at h ⊢
    by_cases h4 : (if k = 6 ∨ k = 7 ∨ k = 8 then checkNamesE ns else if k = 9 then (if standsN al ns < 0 then 10 else 0) else 0) = 0
    · rw [if_pos h4] at h
      have h5 : (if k = 6 ∨ k = 7 ∨ k = 8 then checkNamesE ns else if k = 9 then (if standsN (al ++ r) ns < 0 then 10 else 0) else 0) = 0 := by
        by_cases c : k = 6 ∨ k = 7 ∨ k = 8
        · rw [if_pos c] at h4 ⊢; exact h4
        · rw [if_neg c] at h4 ⊢
          by_cases c9 : k = 9
          · rw [if_pos c9] at h4 ⊢
            by_cases c0 : standsN al ns < 0
            · rw [if_pos c0] at h4; omega
            · rw [standsN_more al r ns c0, if_neg c0]
          · rw [if_neg c9]
      rw [if_pos h5]
      have hz : ∀ i, i < n → rightE al (of i) (lv - 1) = 0 := firstE_zero h
      exact firstE_all _ _ fun i hi => ih i _ (hz i hi)
    · rw [if_neg h4] at h; exact absurd h h4

theorem wholeAll_cong (f g : Nat → Nat → WR) (n l : Nat) (h : ∀ i, i < n → ∀ l, f i l = g i l) : wholeAll f n l = wholeAll g n l := by
  induction n with
  | zero => rfl
  | succ n ih =>
    have := ih (fun i hi => h i (by omega))
    simp only [wholeAll]
    rw [this, h n (by omega)]

/-- More levels, more aliases behind: what Whole answers stays. -/
theorem wholeE_more (lv : Nat) : ∀ (al r : List (Txt × KT)) (t : KT) (lw l : Nat), lv ≤ lw → fitsF lv al t → wholeE lw (al ++ r) t l = wholeE lv al t l := by
  induction lv with
  | zero => exact fun _ _ _ _ _ _ h => h.elim
  | succ lv ih =>
    intro al r t lw l hw h
    obtain ⟨lw, rfl⟩ : ∃ q, lw = q + 1 := ⟨lw - 1, by omega⟩
    cases t with
    | nil => exact h.elim
    | mk k m ns n of =>
      by_cases hk : k = 9
      · subst hk
        simp only [fitsF, if_true] at h
        have hj := (standsN_lt h.2.1).1
        simp only [wholeE, if_true]
        rw [standsN_more al r ns h.2.1, if_neg h.2.1, if_neg h.2.1]
        have e1 : (al ++ r).take (standsN al ns).toNat = al.take (standsN al ns).toNat ++ [] := by rw [List.append_nil]; exact take_left _ _ _ (by omega)
        rw [e1, getD_left _ _ _ hj]
        exact ih _ _ _ _ _ (by omega) h.2.2
      · simp only [fitsF, if_neg hk] at h
        simp only [wholeE, if_neg hk]
        by_cases h0 : l = 0
        · rw [if_pos h0, if_pos h0]
        · rw [if_neg h0, if_neg h0]
          rw [wholeAll_cong (fun i l => wholeE lw (al ++ r) (of i) l) (fun i l => wholeE lv al (of i) l) n (l - 1) (fun i hi l => ih _ _ _ _ _ (by omega) (h i hi))]

theorem fitsF_more (lv : Nat) : ∀ (al r : List (Txt × KT)) (t : KT), fitsF lv al t → fitsF lv (al ++ r) t := by
  induction lv with
  | zero => exact fun _ _ _ h => h.elim
  | succ lv ih =>
    intro al r t h
    cases t with
    | nil => exact h.elim
    | mk k m ns n of =>
      by_cases hk : k = 9
      · subst hk
        simp only [fitsF, if_true] at h ⊢
        have hj := (standsN_lt h.2.1).1
        rw [standsN_more al r ns h.2.1, take_left _ _ _ (by omega), getD_left _ _ _ hj]
        exact h
      · simp only [fitsF, if_neg hk] at h ⊢
        exact fun i hi => ih _ _ _ (h i hi)

theorem usedE_more (al r : List (Txt × KT)) (t : KT) (hf : fitsF 20 al t) (h : usedE al t = 0) : usedE (al ++ r) t = 0 := by
  unfold usedE at h ⊢
  by_cases h0 : rightE al t 5 = 0
  · rw [if_pos h0] at h
    rw [if_pos (rightE_more al r t 5 h0), wholeE_more 20 al r t 20 200 (Nat.le_refl _) hf]
    exact h
  · rw [if_neg h0] at h; exact absurd h h0

theorem procE1_more (al r : List (Txt × KT)) (ps : List KProc) (p : KProc) (h1 : fitsF 20 al p.takes) (h2 : fitsF 20 al p.answers) (h : procE1 al ps p = 0) : procE1 (al ++ r) ps p = 0 := by
  unfold procE1 at h ⊢
  split at h
  · omega
  · rename_i c1
    rw [if_neg c1]
    split at h
    · omega
    · rename_i c2
      rw [if_neg c2]
      by_cases c3 : usedE al p.takes = 0
      · rw [if_pos c3] at h
        rw [if_pos (usedE_more al r _ h1 c3)]
        exact usedE_more al r _ h2 h
      · rw [if_neg c3] at h; exact absurd h c3

/-- What is known of the laws' table where it may be. -/
structure Parts3 (T : KTab) (m f q : Nat) : Prop where
  m4 : m < 5
  f4 : f < 4
  q4 : q < 5
  nm : named T.name = true
  v1 : validN T.number = true
  v2 : validN T.version = true
  tn : T.types.map (·.1) = knownE m
  tl : T.types.length = m
  fn : T.faults.map (·.1) = (List.range f).map fName
  fl : T.faults.length = f
  fv : ∀ x ∈ T.faults, 0 ≤ x.2 ∧ x.2 ≤ 30
  pn : T.procs.map (·.name) = (List.range q).map pName
  pl : T.procs.length = q
  pv : ∀ p ∈ T.procs, 0 ≤ p.number ∧ p.number ≤ 20
  ta : ∀ i, i < m → aliasE T.types i = 0
  fa : ∀ i, i < f → validN (T.faults.getD i ([], 0)).2 = true ∧ (T.faults.take i).any (fun g => decide (g.2 = (T.faults.getD i ([], 0)).2)) = false
  pa : ∀ i, i < q → procE1 T.types (T.procs.take i) (T.procs.getD i noProc) = 0
  fit : ∀ p ∈ T.procs, fitsF 20 T.types p.takes ∧ fitsF 20 T.types p.answers

theorem table_parts (s : KS) (h : okS s) (hn : s.number ≤ 65535) (hs : smallT (tableE s)) : ∃ m f q, Parts3 (tableE s) m f q := by
  obtain ⟨m, hm⟩ : ∃ m, m = min 4 s.aliases.length := ⟨_, rfl⟩
  have hm4 : m ≤ 4 := by omega
  have hma : m ≤ s.aliases.length := by omega
  obtain ⟨f, hf⟩ : ∃ f, f = s.faults % 4 := ⟨_, rfl⟩
  have hf4 : f < 4 := by have := Nat.mod_lt s.faults (show 0 < 4 by decide); omega
  obtain ⟨q, hq⟩ : ∃ q, q = min 4 s.procs.length := ⟨_, rfl⟩
  have hq4 : q ≤ 4 := by omega
  have hqp : q ≤ s.procs.length := by omega
  have et : (tableE s).types = aliasesE s m := by rw [hm]; rfl
  have ef : (tableE s).faults = faultsE f := by rw [hf]; rfl
  have ep : (tableE s).procs = procsE s (knownE m) q := by rw [hm, hq]; rfl
  have e7 : s.number % 7 < 7 := Nat.mod_lt _ (by decide)
  have e9 : s.number % 9 < 9 := Nat.mod_lt _ (by decide)
  refine ⟨m, f, q, ⟨by omega, hf4, by omega, by show named faceT = true; decide +kernel, ?_, ?_, ?_, ?_, ?_, ?_, ?_, ?_, ?_, ?_, ?_, ?_, ?_, tableE_fits h⟩⟩
  · show validN ((s.number : Nat) : Int) = true
    unfold validN; simp; omega
  · show validN ((s.number % 7 : Nat) : Int) = true
    unfold validN; simp; omega
  · rw [et]; simp [aliasesE, knownE]
  · rw [et]; simp [aliasesE]
  · rw [ef]; simp [faultsE]
  · rw [ef]; simp [faultsE]
  · rw [ef]
    intro x hx
    obtain ⟨j, hj, rfl⟩ := List.mem_map.1 hx
    have := List.mem_range.1 hj
    simp; omega
  · rw [ep]; simp [procsE, procOfE]
  · rw [ep]; simp [procsE]
  · rw [ep]
    intro x hx
    obtain ⟨j, hj, rfl⟩ := List.mem_map.1 hx
    have := List.mem_range.1 hj
    simp [procOfE]; omega
  · intro i hi
    rw [et]
    have hx : s.aliases.getD i .nil ∈ s.aliases := by
      rw [List.getD_eq_getElem?_getD, List.getElem?_eq_getElem (by omega)]; exact List.getElem_mem _
    unfold aliasE
    rw [aliasesE_take s m i (by omega), aliasesE_getD s m i hi]
    have e1 : (aliasesE s i).map (·.1) = knownE i := by simp [aliasesE, knownE]
    rw [e1, if_pos (names_alias i (by omega))]
    exact right_type s i (by omega) _ 3 5 (by omega) (by omega) (h.1 _ hx)
  · intro i hi
    rw [ef]
    have e2 : (faultsE f).take i = faultsE i := by
      unfold faultsE; rw [← List.map_take, List.take_range, Nat.min_eq_left (by omega)]
    have eg : (faultsE f).getD i ([], 0) = (fName i, ((10 * i : Nat) : Int)) := by
      unfold faultsE; rw [List.getD_eq_getElem?_getD, List.getElem?_map, List.getElem?_range hi]; rfl
    rw [e2, eg]
    refine ⟨by unfold validN; simp; omega, ?_⟩
    rw [List.any_eq_false]
    intro x hx
    obtain ⟨j, hj, rfl⟩ := List.mem_map.1 hx
    have := List.mem_range.1 hj
    simp; omega
  · intro i hi
    have hsm := hs (procOfE s (knownE m) i) (by rw [ep]; exact List.mem_map.2 ⟨i, List.mem_range.2 hi, rfl⟩)
    rw [et] at hsm
    rw [et, ep]
    have hx : s.procs.getD i ⟨.nil, .nil, 0, 0⟩ ∈ s.procs := by
      rw [List.getD_eq_getElem?_getD, List.getElem?_eq_getElem (by omega)]; exact List.getElem_mem _
    have eg : (procsE s (knownE m) q).getD i noProc = procOfE s (knownE m) i := by
      unfold procsE; rw [List.getD_eq_getElem?_getD, List.getElem?_map, List.getElem?_range hi]; rfl
    have ek : (procsE s (knownE m) q).take i = procsE s (knownE m) i := by
      unfold procsE; rw [← List.map_take, List.take_range, Nat.min_eq_left (by omega)]
    rw [ek, eg]
    have hT : fitsF 20 (aliasesE s m) (procOfE s (knownE m) i).takes := fits_type s h m hm4 hma _ 3 20 (by omega) (by omega) (h.2 _ hx).1
    have hA : fitsF 20 (aliasesE s m) (procOfE s (knownE m) i).answers := fits_type s h m hm4 hma _ 3 20 (by omega) (by omega) (h.2 _ hx).2
    have rT : rightE (aliasesE s m) (procOfE s (knownE m) i).takes 5 = 0 := right_type s m hm4 _ 3 5 (by omega) (by omega) (h.2 _ hx).1
    have rA : rightE (aliasesE s m) (procOfE s (knownE m) i).answers 5 = 0 := right_type s m hm4 _ 3 5 (by omega) (by omega) (h.2 _ hx).2
    have ev : validN (procOfE s (knownE m) i).number = true := by
      show validN ((i + s.number % 9 : Nat) : Int) = true
      unfold validN; simp; omega
    have et1 : (procOfE s (knownE m) i).timeout = ((1 + (s.procs.getD i ⟨.nil, .nil, 0, 0⟩).timeout % 1000 : Nat) : Int) := rfl
    have ht := Nat.mod_lt (s.procs.getD i ⟨.nil, .nil, 0, 0⟩).timeout (show 0 < 1000 by decide)
    have ec1 : (procOfE s (knownE m) i).collate = (s.procs.getD i ⟨.nil, .nil, 0, 0⟩).collate % 3 := rfl
    have hc := Nat.mod_lt (s.procs.getD i ⟨.nil, .nil, 0, 0⟩).collate (show 0 < 3 by decide)
    have ea : (procsE s (knownE m) i).any (fun g => decide (g.number = (procOfE s (knownE m) i).number)) = false := by
      rw [List.any_eq_false]
      intro x hx
      obtain ⟨j, hj, rfl⟩ := List.mem_map.1 hx
      have := List.mem_range.1 hj
      simp [procOfE]; omega
    unfold procE1
    rw [ev, ea, decide_eq_false (by rw [et1]; omega), decide_eq_false (by rw [et1]; omega), decide_eq_false (by rw [ec1]; omega)]
    simp only [Bool.not_true, Bool.or_self, Bool.false_eq_true, if_false]
    unfold usedE
    rw [if_pos rT, if_pos rA, whole_ok hT, whole_ok hA, if_pos hsm.1, if_pos hsm.2]
    rfl

/-- The check, list by list. -/
theorem checkE_lists {t : KTab} (h1 : named t.name = true) (h2 : validN t.number = true) (h3 : validN t.version = true) (h4 : t.types.length ≤ 16 ∧ t.faults.length ≤ 16 ∧ t.procs.length ≤ 16) :
    checkE t = if firstE (aliasE t.types) t.types.length ≠ 0 then firstE (aliasE t.types) t.types.length
      else if firstE (faultE (t.types.map (·.1)) t.faults) t.faults.length ≠ 0 then firstE (faultE (t.types.map (·.1)) t.faults) t.faults.length
      else firstE (procE (t.types.map (·.1) ++ t.faults.map (·.1)) t.types t.procs) t.procs.length := by
  unfold checkE
  rw [h1, h2, h3, if_neg (by simp), if_neg (by simp), if_neg (by omega)]

theorem alias_left (ts r : List (Txt × KT)) (i : Nat) (hi : i < ts.length) : aliasE (ts ++ r) i = aliasE ts i := by
  unfold aliasE
  rw [take_left _ _ _ (by omega), getD_left _ _ _ hi]

theorem alias_last (ts : List (Txt × KT)) (x : Txt × KT) : aliasE (ts ++ [x]) ts.length = if nameE (ts.map (·.1)) x.1 = 0 then rightE ts x.2 5 else nameE (ts.map (·.1)) x.1 := by
  unfold aliasE
  rw [take_left _ _ _ (Nat.le_refl _), getD_right, List.take_length]

/-- Faults whose names are new, whose numbers are right. -/
theorem faults_zero (bef : List Txt) (fs : List (Txt × Int)) (f : Nat) (hl : f ≤ fs.length) (hn : ∀ i, i < f → nameE (bef ++ (fs.take i).map (·.1)) (fs.getD i ([], 0)).1 = 0)
    (hv : ∀ i, i < f → validN (fs.getD i ([], 0)).2 = true ∧ (fs.take i).any (fun g => decide (g.2 = (fs.getD i ([], 0)).2)) = false) : firstE (faultE bef fs) f = 0 := by
  refine firstE_all _ _ fun i hi => ?_
  unfold faultE
  rw [if_pos (hn i hi), (hv i hi).1, (hv i hi).2]
  rfl

theorem procs_zero (bef : List Txt) (ts : List (Txt × KT)) (ps : List KProc) (q : Nat) (hl : q ≤ ps.length) (hn : ∀ i, i < q → nameE (bef ++ (ps.take i).map (·.name)) (ps.getD i noProc).name = 0)
    (hv : ∀ i, i < q → procE1 ts (ps.take i) (ps.getD i noProc) = 0) : firstE (procE bef ts ps) q = 0 := by
  refine firstE_all _ _ fun i hi => ?_
  unfold procE
  rw [if_pos (hn i hi)]
  exact hv i hi

theorem map_take_range {α : Type} (l : List α) (g : α → Txt) (N : Nat → Txt) (f : Nat) (h : l.map g = (List.range f).map N) (i : Nat) (hi : i ≤ f) : (l.take i).map g = (List.range i).map N := by
  rw [List.map_take, h, ← List.map_take, List.take_range, Nat.min_eq_left hi]

theorem map_getD_range {α : Type} (l : List α) (g : α → Txt) (N : Nat → Txt) (f : Nat) (h : l.map g = (List.range f).map N) (i : Nat) (hi : i < f) (d : α) : g (l.getD i d) = N i := by
  have hl : l.length = f := by have := congrArg List.length h; simpa using this
  have := congrArg (fun x => x[i]?) h
  simp only [List.getElem?_map, List.getElem?_range hi, List.getElem?_eq_getElem (show i < l.length by omega), Option.map_some, Option.some.injEq] at this
  rw [List.getD_eq_getElem?_getD, List.getElem?_eq_getElem (by omega)]
  exact this

end Go.Proofs.Ytdaabgnfgdojhaa
