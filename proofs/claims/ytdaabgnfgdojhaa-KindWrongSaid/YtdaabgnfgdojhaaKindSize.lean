/-
  The laws' table may be, but for types that have too many parts. Pure.
-/
import Derived.Test.YtdaabgnfgdojhaaKindTabMath
import Derived.Test.YtdaabgnfgdojhaaKindSizeDef
namespace Go.Proofs.Ytdaabgnfgdojhaa
open Go.RowKit
set_option linter.unusedVariables false
set_option linter.unusedSimpArgs false

/-- Names that the laws make may be names, and are distinct. -/
theorem named_nameT (i : Nat) (hi : i < 4) (n : Nat) : named (nameT i n) = true := by
  have key : ∀ j < 26, ∀ i < 4, named [UInt8.ofNat (97 + i), UInt8.ofNat (65 + j), 48] = true := by decide +kernel
  have := key (n % 26) (Nat.mod_lt _ (by decide)) i hi
  have e : ((65 : Int) + (n : Int) % 26).toNat = 65 + n % 26 := by omega
  unfold nameT
  rw [e]
  exact this

theorem nameT_ne (i j : Nat) (hi : i < 4) (hj : j < 4) (h : i ≠ j) (n : Int) : nameT i n ≠ nameT j n := by
  have key : ∀ i < 4, ∀ j < 4, i ≠ j → UInt8.ofNat (97 + i) ≠ UInt8.ofNat (97 + j) := by decide
  intro e
  unfold nameT at e
  simp only [List.cons.injEq] at e
  exact key i hi j hj h e.1

theorem names_right (n c : Nat) (h0 : 1 ≤ c) (hc : c ≤ 3) : checkNamesE ((List.range c).map (fun i => nameT i n)) = 0 := by
  have h01 := nameT_ne 0 1 (by omega) (by omega) (by omega) n
  have h02 := nameT_ne 0 2 (by omega) (by omega) (by omega) n
  have h12 := nameT_ne 1 2 (by omega) (by omega) (by omega) n
  have n0 := named_nameT 0 (by omega) n
  have n1 := named_nameT 1 (by omega) n
  have n2 := named_nameT 2 (by omega) n
  unfold checkNamesE
  rw [if_neg (by simp; omega)]
  rcases (by omega : c = 1 ∨ c = 2 ∨ c = 3) with rfl | rfl | rfl <;> simp [List.range_succ, namesE, nameE, n0, n1, n2, h01, h02, h12]

theorem firstE_all (f : Nat → Nat) (n : Nat) (h : ∀ i, i < n → f i = 0) : firstE f n = 0 := by
  induction n with
  | zero => rfl
  | succ n ih => exact firstE_step f n (ih fun i hi => h i (by omega)) (h n (by omega))

theorem firstE_some (f : Nat → Nat) (n e : Nat) (he : e ≠ 0) (h : ∀ i, i < n → f i = 0 ∨ f i = e) (h1 : ∃ i, i < n ∧ f i ≠ 0) : firstE f n = e := by
  induction n with
  | zero => obtain ⟨i, hi, _⟩ := h1; omega
  | succ n ih =>
    by_cases hn : ∃ i, i < n ∧ f i ≠ 0
    · have := ih (fun i hi => h i (by omega)) hn
      unfold firstE
      rw [if_neg (by rw [this]; exact he)]
      exact this
    · have h0 : firstE f n = 0 := firstE_all f n fun i hi => Classical.byContradiction fun c => hn ⟨i, hi, c⟩
      obtain ⟨i, hi, hc⟩ := h1
      have : i = n := Classical.byContradiction fun c => hn ⟨i, by omega, hc⟩
      subst this
      unfold firstE
      rw [if_pos h0]
      rcases h i (by omega) with e | e
      · exact absurd e hc
      · exact e

theorem knownE_length (m : Nat) : (knownE m).length = m := by simp [knownE]

theorem aName_inj : ∀ i < 4, ∀ j < 4, aName i = aName j → i = j := by decide +kernel

theorem standsN_known (s : KS) (m j : Nat) (hm : m ≤ 4) (hj : j < m) : standsN (aliasesE s m) [aName j] = j := by
  unfold standsN
  refine firstAt_found _ _ j (by simp [aliasesE]; exact hj) (fun i hi hij => ?_) ?_
  · simp only [aliasesE, List.getElem_map, List.getElem_range, decide_eq_false_iff_not]
    exact fun e => by have := aName_inj i (by omega) j (by omega) e; omega
  · simp [aliasesE]

theorem aliasesE_take (s : KS) (m j : Nat) (hj : j ≤ m) : (aliasesE s m).take j = aliasesE s j := by
  unfold aliasesE
  rw [← List.map_take, List.take_range, Nat.min_eq_left hj]

theorem aliasesE_getD (s : KS) (m j : Nat) (hj : j < m) (d : Txt × KT) : (aliasesE s m).getD j d = (aName j, typeE (knownE j) (s.aliases.getD j .nil) 3) := by
  unfold aliasesE
  rw [List.getD_eq_getElem?_getD, List.getElem?_map, List.getElem?_range hj]
  rfl

theorem knownE_getD (m j : Nat) (hj : j < m) : (knownE m).getD j [] = aName j := by
  unfold knownE
  rw [List.getD_eq_getElem?_getD, List.getElem?_map, List.getElem?_range hj]
  rfl

theorem mkE_ref (m n : Nat) {sub : Nat → KT} (hj : n % (knownE m).length < m) : mkE (knownE m) 9 n sub = .mk 9 0 [aName (n % (knownE m).length)] 0 (fun _ => .nil) := by
  have e : mkE (knownE m) 9 n sub = .mk 9 0 [(knownE m).getD (n % (knownE m).length) []] 0 (fun _ => .nil) := rfl
  rw [e, knownE_getD m _ hj]

theorem rightE_mk (known : List (Txt × KT)) (k : Nat) (m : Int) (ns : List Txt) (n : Nat) (of : Nat → KT) (lv : Nat) : rightE known (.mk k m ns n of) lv =
    if 10 ≤ k ∨ lv = 0 then 5
    else if !sizedB k m then 2
    else if !formedB k ns.length n then 4
    else if (if k = 6 ∨ k = 7 ∨ k = 8 then checkNamesE ns else if k = 9 then (if standsN known ns < 0 then 10 else 0) else 0) = 0 then firstE (fun i => rightE known (of i) (lv - 1)) n
    else (if k = 6 ∨ k = 7 ∨ k = 8 then checkNamesE ns else if k = 9 then (if standsN known ns < 0 then 10 else 0) else 0) := rfl

/-- A type of the laws is right. -/
theorem right_type (s : KS) (m : Nat) (hm : m ≤ 4) (t : KN) : ∀ d lv, 1 ≤ d → d ≤ lv → okN t → rightE (aliasesE s m) (typeE (knownE m) t d) lv = 0 := by
  induction t with
  | nil => exact fun _ _ _ _ h => h.elim
  | mk kd n c of ih =>
    intro d lv hd hlv ok
    rw [typeE_mk]
    have hsub : ∀ i, 2 ≤ d → rightE (aliasesE s m) (subE (knownE m) c of d i) (lv - 1) = 0 := by
      intro i h2
      unfold subE
      split
      · have h4 : i % 4 < 4 := Nat.mod_lt _ (by decide)
        generalize i % 4 = q at h4
        have hq : ¬ (q = 4 ∨ q = 5) := by omega
        have hq2 : ¬ (q = 6 ∨ q = 7 ∨ q = 8) := by omega
        have hq3 : ¬ (q = 6 ∨ q = 8) := by omega
        have hq5 : q ≠ 5 := by omega
        have hq7 : q ≠ 7 := by omega
        have hq9 : q ≠ 9 := by omega
        simp only [rightE, sizedB, formedB, if_neg hq, if_neg hq2, if_neg hq3, if_neg hq5, if_neg hq7, if_neg hq9]
        rw [if_neg (by omega)]
        simp [firstE]
      · exact ih _ _ _ (by omega) (by omega) (ok _ (Nat.mod_lt _ (by omega)))
    have hlv0 : lv ≠ 0 := by omega
    have h60 : (1 : Int) ≤ 1 + ((n % 60 : Nat) : Int) ∧ 1 + ((n % 60 : Nat) : Int) ≤ 60 := by have := Nat.mod_lt n (show 0 < 60 by decide); omega
    have h3 : n % 3 < 3 := Nat.mod_lt _ (by decide)
    have hnm : checkNamesE ((List.range (1 + n % 3)).map (fun i => nameT i n)) = 0 := names_right n _ (by omega) (by omega)
    obtain ⟨k, hk⟩ : ∃ k, k = kindE kd d (knownE m) := ⟨_, rfl⟩
    have hk9 : k ≤ 9 ∧ (k = 9 → 0 < m) ∧ (k = 5 ∨ k = 6 ∨ k = 8 → 2 ≤ d) := by
      rw [hk]; unfold kindE
      rw [knownE_length]
      split
      · omega
      · omega
    rw [← hk]
    clear hk
    rcases (by omega : k = 0 ∨ k = 1 ∨ k = 2 ∨ k = 3 ∨ k = 4 ∨ k = 5 ∨ k = 6 ∨ k = 7 ∨ k = 8 ∨ k = 9) with rfl | rfl | rfl | rfl | rfl | rfl | rfl | rfl | rfl | rfl
    · simp [mkE, rightE, sizedB, formedB, hlv0, firstE]
    · simp [mkE, rightE, sizedB, formedB, hlv0, firstE]
    · simp [mkE, rightE, sizedB, formedB, hlv0, firstE]
    · simp [mkE, rightE, sizedB, formedB, hlv0, firstE]
    · have e : mkE (knownE m) 4 n (subE (knownE m) c of d) = .mk 4 (1 + (n % 60 : Nat)) [] 0 (fun _ => .nil) := by simp [mkE]
      rw [e, rightE_mk, if_neg (by omega)]
      simp only [sizedB, formedB]
      rw [decide_eq_true h60]
      simp [firstE]
    · have := hsub 0 (hk9.2.2 (by omega))
      have e : mkE (knownE m) 5 n (subE (knownE m) c of d) = .mk 5 (1 + (n % 60 : Nat)) [] 1 (fun _ => subE (knownE m) c of d 0) := by simp [mkE]
      rw [e, rightE_mk, if_neg (by omega)]
      simp only [sizedB, formedB]
      rw [decide_eq_true h60]
      simp [firstE, this]
    · have hs := fun i => hsub i (hk9.2.2 (by omega))
      have e : mkE (knownE m) 6 n (subE (knownE m) c of d) = .mk 6 0 ((List.range (1 + n % 3)).map (fun i => nameT i n)) (1 + n % 3) (subE (knownE m) c of d) := by simp [mkE]
      rw [e, rightE_mk, if_neg (by omega)]
      simp only [sizedB, formedB, if_pos (show (6 : Nat) = 6 ∨ (6 : Nat) = 7 ∨ (6 : Nat) = 8 by decide)]
      rw [hnm]
      simp [firstE_all _ _ (fun i _ => hs i)]
    · have e : mkE (knownE m) 7 n (subE (knownE m) c of d) = .mk 7 0 ((List.range (1 + n % 3)).map (fun i => nameT i n)) 0 (fun _ => .nil) := by simp [mkE]
      rw [e, rightE_mk, if_neg (by omega)]
      simp only [sizedB, formedB, if_pos (show (7 : Nat) = 6 ∨ (7 : Nat) = 7 ∨ (7 : Nat) = 8 by decide)]
      rw [hnm]
      simp [firstE]
    · have hs := fun i => hsub i (hk9.2.2 (by omega))
      have e : mkE (knownE m) 8 n (subE (knownE m) c of d) = .mk 8 0 ((List.range (1 + n % 3)).map (fun i => nameT i n)) (1 + n % 3) (subE (knownE m) c of d) := by simp [mkE]
      rw [e, rightE_mk, if_neg (by omega)]
      simp only [sizedB, formedB, if_pos (show (8 : Nat) = 6 ∨ (8 : Nat) = 7 ∨ (8 : Nat) = 8 by decide)]
      rw [hnm]
      simp [firstE_all _ _ (fun i _ => hs i)]
    · have hm0 := hk9.2.1 rfl
      have hj : n % (knownE m).length < m := by rw [knownE_length]; exact Nat.mod_lt _ hm0
      rw [mkE_ref m n hj, rightE_mk, if_neg (by omega)]
      have hst := standsN_known s m _ hm hj
      rw [hst]
      generalize n % (knownE m).length = q
      simp [sizedB, formedB, firstE]

/-- Twenty levels are enough for a type of the laws. -/
theorem fits_type (s : KS) (oks : okS s) : ∀ m, m ≤ 4 → m ≤ s.aliases.length → ∀ (t : KN) (d lv : Nat), 1 ≤ d → 3 * m + d ≤ lv → okN t → fitsF lv (aliasesE s m) (typeE (knownE m) t d) := by
  intro m
  induction m using Nat.strongRecOn with
  | _ m IH =>
  intro hm hms t
  induction t with
  | nil => exact fun _ _ _ _ h => h.elim
  | mk kd n c of ih =>
    intro d lv hd hlv ok
    obtain ⟨lv, rfl⟩ : ∃ q, lv = q + 1 := ⟨lv - 1, by omega⟩
    rw [typeE_mk]
    have hsub : ∀ i, 2 ≤ d → fitsF lv (aliasesE s m) (subE (knownE m) c of d i) := by
      intro i h2
      unfold subE
      split
      · obtain ⟨lv, rfl⟩ : ∃ q, lv = q + 1 := ⟨lv - 1, by omega⟩
        simp only [fitsF]
        rw [if_neg (by omega)]
        intro i hi; omega
      · exact ih _ _ _ (by omega) (by omega) (ok _ (Nat.mod_lt _ (by omega)))
    obtain ⟨k, hk⟩ : ∃ k, k = kindE kd d (knownE m) := ⟨_, rfl⟩
    have hk9 : k ≤ 9 ∧ (k = 9 → 0 < m) ∧ (k = 5 ∨ k = 6 ∨ k = 8 → 2 ≤ d) := by
      rw [hk]; unfold kindE
      rw [knownE_length]
      split
      · omega
      · omega
    rw [← hk]
    clear hk
    by_cases h9 : k = 9
    · subst h9
      have hm0 := hk9.2.1 rfl
      have hj : n % (knownE m).length < m := by rw [knownE_length]; exact Nat.mod_lt _ hm0
      have hst := standsN_known s m _ hm hj
      rw [mkE_ref m n hj]
      simp only [if_true, fitsF]
      rw [hst]
      generalize n % (knownE m).length = j at hj
      refine ⟨rfl, by omega, ?_⟩
      rw [Int.toNat_natCast, aliasesE_take s m j (by omega), aliasesE_getD s m j hj]
      refine IH j hj (by omega) (by omega) _ _ _ (by omega) (by omega) (oks.1 _ ?_)
      rw [List.getD_eq_getElem?_getD, List.getElem?_eq_getElem (by omega)]
      exact List.getElem_mem _
    · unfold mkE
      split
      · simp only [fitsF]; rw [if_neg (by decide)]; intro i hi; omega
      · split
        · simp only [fitsF]; rw [if_neg (by decide)]; intro i hi; exact hsub 0 (hk9.2.2 (by omega))
        · split
          · simp only [fitsF]; rw [if_neg h9]; intro i hi; exact hsub i (hk9.2.2 (by omega))
          · split
            · simp only [fitsF]; rw [if_neg (by decide)]; intro i hi; omega
            · simp only [fitsF]; rw [if_neg h9]; intro i hi; omega

theorem tableE_fits {s : KS} (h : okS s) : ∀ p ∈ (tableE s).procs, fitsF 20 (tableE s).types p.takes ∧ fitsF 20 (tableE s).types p.answers := by
  intro x hx
  obtain ⟨i, hi, rfl⟩ := List.mem_map.1 hx
  have hi' : i < s.procs.length := by have := List.mem_range.1 hi; omega
  have hm : s.procs.getD i ⟨.nil, .nil, 0, 0⟩ ∈ s.procs := by
    rw [List.getD_eq_getElem?_getD, List.getElem?_eq_getElem hi']
    exact List.getElem_mem hi'
  exact ⟨fits_type s h _ (by omega) (by omega) _ 3 20 (by omega) (by omega) (h.2 _ hm).1, fits_type s h _ (by omega) (by omega) _ 3 20 (by omega) (by omega) (h.2 _ hm).2⟩

/-- No type that a procedure takes or answers has too many parts. -/
def smallT (t : KTab) : Prop := ∀ p ∈ t.procs, sizeF 20 t.types p.takes ≤ 200 ∧ sizeF 20 t.types p.answers ≤ 200

theorem names_alias : ∀ i < 4, nameE (knownE i) (aName i) = 0 := by decide +kernel
theorem names_fault : ∀ m < 5, ∀ i < 4, nameE (knownE m ++ (List.range i).map fName) (fName i) = 0 := by decide +kernel
theorem names_proc : ∀ m < 5, ∀ f < 4, ∀ i < 4, nameE ((knownE m ++ (List.range f).map fName) ++ (List.range i).map pName) (pName i) = 0 := by decide +kernel

/-- The laws' table, up to its procedures' types. -/
theorem check_table (s : KS) (h : okS s) (hn : s.number ≤ 65535) : (smallT (tableE s) → checkE (tableE s) = 0) ∧ (¬ smallT (tableE s) → checkE (tableE s) = 6) := by
  obtain ⟨m, hm⟩ : ∃ m, m = min 4 s.aliases.length := ⟨_, rfl⟩
  have hm4 : m ≤ 4 := by omega
  have hma : m ≤ s.aliases.length := by omega
  obtain ⟨f, hf⟩ : ∃ f, f = s.faults % 4 := ⟨_, rfl⟩
  have hf4 : f < 4 := by have := Nat.mod_lt s.faults (show 0 < 4 by decide); omega
  obtain ⟨q, hq⟩ : ∃ q, q = min 4 s.procs.length := ⟨_, rfl⟩
  have hq4 : q ≤ 4 := by omega
  have hqp : q ≤ s.procs.length := by omega
  have et : (tableE s).types = aliasesE s m := by rw [hm]; rfl
  have ef : (tableE s).faults = faultsE f := by rw [hf]; rfl
  have ep : (tableE s).procs = procsE s (knownE m) q := by rw [hm, hq]; rfl
  have e7 : s.number % 7 < 7 := Nat.mod_lt _ (by decide)
  have e9 : s.number % 9 < 9 := Nat.mod_lt _ (by decide)
  have a1 : ∀ i, i < m → aliasE (aliasesE s m) i = 0 := by
    intro i hi
    have hx : s.aliases.getD i .nil ∈ s.aliases := by
      rw [List.getD_eq_getElem?_getD, List.getElem?_eq_getElem (by omega)]; exact List.getElem_mem _
    unfold aliasE
    rw [aliasesE_take s m i (by omega), aliasesE_getD s m i hi]
    have e1 : (aliasesE s i).map (·.1) = knownE i := by simp [aliasesE, knownE]
    rw [e1, if_pos (names_alias i (by omega))]
    exact right_type s i (by omega) _ 3 5 (by omega) (by omega) (h.1 _ hx)
  have e1 : (aliasesE s m).map (·.1) = knownE m := by simp [aliasesE, knownE]
  have e2 : ∀ i, i ≤ f → (faultsE f).take i = faultsE i := by
    intro i hi; unfold faultsE; rw [← List.map_take, List.take_range, Nat.min_eq_left hi]
  have e3 : ∀ i, (faultsE i).map (·.1) = (List.range i).map fName := by intro i; simp [faultsE]
  have a2 : ∀ i, i < f → faultE (knownE m) (faultsE f) i = 0 := by
    intro i hi
    have eg : (faultsE f).getD i ([], 0) = (fName i, ((10 * i : Nat) : Int)) := by
      unfold faultsE; rw [List.getD_eq_getElem?_getD, List.getElem?_map, List.getElem?_range hi]; rfl
    unfold faultE
    rw [e2 i (by omega), e3, eg, if_pos (names_fault m (by omega) i (by omega))]
    have ev : validN ((10 * i : Nat) : Int) = true := by unfold validN; simp; omega
    have ea : (faultsE i).any (fun g => decide (g.2 = ((10 * i : Nat) : Int))) = false := by
      rw [List.any_eq_false]
      intro x hx
      obtain ⟨j, hj, rfl⟩ := List.mem_map.1 hx
      have := List.mem_range.1 hj
      simp; omega
    rw [ev, ea]
    rfl
  have a3 : ∀ i, i < q → procE (knownE m ++ (List.range f).map fName) (aliasesE s m) (procsE s (knownE m) q) i = if sizeF 20 (aliasesE s m) (procOfE s (knownE m) i).takes ≤ 200 ∧ sizeF 20 (aliasesE s m) (procOfE s (knownE m) i).answers ≤ 200 then 0 else 6 := by
    intro i hi
    have hx : s.procs.getD i ⟨.nil, .nil, 0, 0⟩ ∈ s.procs := by
      rw [List.getD_eq_getElem?_getD, List.getElem?_eq_getElem (by omega)]; exact List.getElem_mem _
    have eg : (procsE s (knownE m) q).getD i noProc = procOfE s (knownE m) i := by
      unfold procsE; rw [List.getD_eq_getElem?_getD, List.getElem?_map, List.getElem?_range hi]; rfl
    have ek : (procsE s (knownE m) q).take i = procsE s (knownE m) i := by
      unfold procsE; rw [← List.map_take, List.take_range, Nat.min_eq_left (by omega)]
    have en : (procsE s (knownE m) i).map (·.name) = (List.range i).map pName := by simp [procsE, procOfE]
    have nm : (procOfE s (knownE m) i).name = pName i := rfl
    unfold procE
    rw [ek, eg, en, nm, if_pos (names_proc m (by omega) f (by omega) i (by omega))]
    have hT : fitsF 20 (aliasesE s m) (procOfE s (knownE m) i).takes := fits_type s h m hm4 hma _ 3 20 (by omega) (by omega) (h.2 _ hx).1
    have hA : fitsF 20 (aliasesE s m) (procOfE s (knownE m) i).answers := fits_type s h m hm4 hma _ 3 20 (by omega) (by omega) (h.2 _ hx).2
    have rT : rightE (aliasesE s m) (procOfE s (knownE m) i).takes 5 = 0 := right_type s m hm4 _ 3 5 (by omega) (by omega) (h.2 _ hx).1
    have rA : rightE (aliasesE s m) (procOfE s (knownE m) i).answers 5 = 0 := right_type s m hm4 _ 3 5 (by omega) (by omega) (h.2 _ hx).2
    have ev : validN (procOfE s (knownE m) i).number = true := by
      show validN ((i + s.number % 9 : Nat) : Int) = true
      unfold validN; simp; omega
    have et1 : (procOfE s (knownE m) i).timeout = ((1 + (s.procs.getD i ⟨.nil, .nil, 0, 0⟩).timeout % 1000 : Nat) : Int) := rfl
    have ht := Nat.mod_lt (s.procs.getD i ⟨.nil, .nil, 0, 0⟩).timeout (show 0 < 1000 by decide)
    have ec1 : (procOfE s (knownE m) i).collate = (s.procs.getD i ⟨.nil, .nil, 0, 0⟩).collate % 3 := rfl
    have hc := Nat.mod_lt (s.procs.getD i ⟨.nil, .nil, 0, 0⟩).collate (show 0 < 3 by decide)
    have ea : (procsE s (knownE m) i).any (fun g => decide (g.number = (procOfE s (knownE m) i).number)) = false := by
      rw [List.any_eq_false]
      intro x hx
      obtain ⟨j, hj, rfl⟩ := List.mem_map.1 hx
      have := List.mem_range.1 hj
      simp [procOfE]; omega
    unfold procE1
    rw [ev, ea, decide_eq_false (by rw [et1]; omega), decide_eq_false (by rw [et1]; omega), decide_eq_false (by rw [ec1]; omega)]
    simp only [Bool.not_true, Bool.or_self, Bool.false_eq_true, if_false]
    unfold usedE
    rw [if_pos rT, if_pos rA, whole_ok hT, whole_ok hA]
    by_cases c1 : sizeF 20 (aliasesE s m) (procOfE s (knownE m) i).takes ≤ 200
    · by_cases c2 : sizeF 20 (aliasesE s m) (procOfE s (knownE m) i).answers ≤ 200
      · simp [c1, c2]
      · simp [c1, c2]
    · simp [c1]
  have base : checkE (tableE s) = firstE (procE (knownE m ++ (List.range f).map fName) (aliasesE s m) (procsE s (knownE m) q)) q := by
    unfold checkE
    rw [et, ef, ep, e1, e3]
    have hl1 : (aliasesE s m).length = m := by simp [aliasesE]
    have hl2 : (faultsE f).length = f := by simp [faultsE]
    have hl3 : (procsE s (knownE m) q).length = q := by simp [procsE]
    rw [hl1, hl2, hl3, firstE_all _ _ a1, firstE_all _ _ a2]
    have hnm : named (tableE s).name = true := by show named faceT = true; decide +kernel
    have hv1 : validN (tableE s).number = true := by show validN ((s.number : Nat) : Int) = true; unfold validN; simp; omega
    have hv2 : validN (tableE s).version = true := by show validN ((s.number % 7 : Nat) : Int) = true; unfold validN; simp; omega
    rw [hnm, hv1, hv2, if_neg (by simp), if_neg (by simp), if_neg (by omega), if_neg (by simp), if_neg (by simp)]
  rw [base]
  constructor
  · intro hs
    refine firstE_all _ _ fun i hi => ?_
    rw [a3 i hi]
    have := hs (procOfE s (knownE m) i) (by rw [ep]; exact List.mem_map.2 ⟨i, List.mem_range.2 hi, rfl⟩)
    rw [et] at this
    rw [if_pos this]
  · intro hs
    refine firstE_some _ _ 6 (by decide) (fun i hi => ?_) ?_
    · rw [a3 i hi]; split
      · exact .inl rfl
      · exact .inr rfl
    · refine Classical.byContradiction fun c => hs fun p hp => ?_
      rw [ep] at hp
      obtain ⟨i, hi, rfl⟩ := List.mem_map.1 hp
      have hi := List.mem_range.1 hi
      rw [et]
      refine Classical.byContradiction fun c' => c ⟨i, hi, ?_⟩
      rw [a3 i hi, if_neg c']
      decide

end Go.Proofs.Ytdaabgnfgdojhaa
