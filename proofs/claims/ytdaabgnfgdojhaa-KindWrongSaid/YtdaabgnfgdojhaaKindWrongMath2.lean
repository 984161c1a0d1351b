/-
  KindWrong: the sixteen turns, each with what the check answers. Pure.
-/
import Derived.Test.YtdaabgnfgdojhaaKindWrongMath
namespace Go.Proofs.Ytdaabgnfgdojhaa
open Go.RowKit
set_option linter.unusedVariables false
set_option linter.unusedSimpArgs false

theorem n_last : ∀ m < 5, nameE (knownE m) lastT = 0 := by decide +kernel
theorem n_fault : ∀ m < 5, ∀ i < 4, nameE ((knownE m ++ [lastT]) ++ (List.range i).map fName) (fName i) = 0 := by decide +kernel
theorem n_proc : ∀ m < 5, ∀ f < 4, ∀ i < 4, nameE (((knownE m ++ [lastT]) ++ (List.range f).map fName) ++ (List.range i).map pName) (pName i) = 0 := by decide +kernel
theorem n_last2 : ∀ m < 5, ∀ f < 4, nameE (knownE m ++ (List.range f).map fName) lastT = 0 ∧ nameE (knownE m ++ (List.range f).map fName) faceT = 0 := by decide +kernel
theorem n_proc2 : ∀ m < 5, ∀ f < 4, ∀ i < 4, nameE ((knownE m ++ ((List.range f).map fName ++ [lastT])) ++ (List.range i).map pName) (pName i) = 0 ∧ nameE ((knownE m ++ ((List.range f).map fName ++ [faceT])) ++ (List.range i).map pName) (pName i) = 0 := by decide +kernel
theorem n_last3 : ∀ m < 5, ∀ f < 4, ∀ q < 5, nameE ((knownE m ++ (List.range f).map fName) ++ (List.range q).map pName) lastT = 0 ∧ nameE ((knownE m ++ (List.range f).map fName) ++ (List.range q).map pName) xT = 0 ∧ nameE ((knownE m ++ (List.range f).map fName) ++ ((List.range q).map pName ++ [xT])) yT = 0 := by decide +kernel

section
variable {T : KTab} {m f q : Nat}

theorem Parts3.faultsZ (P : Parts3 T m f q) : firstE (faultE (T.types.map (·.1)) T.faults) f = 0 := by
  refine faults_zero _ _ f (Nat.le_of_eq P.fl.symm) (fun i hi => ?_) P.fa
  rw [P.tn, map_take_range _ _ _ _ P.fn i (by omega), map_getD_range T.faults (·.1) _ _ P.fn i hi]
  exact names_fault m P.m4 i (by have := P.f4; omega)

theorem Parts3.procsZ (P : Parts3 T m f q) : firstE (procE (T.types.map (·.1) ++ T.faults.map (·.1)) T.types T.procs) q = 0 := by
  refine procs_zero _ _ _ q (Nat.le_of_eq P.pl.symm) (fun i hi => ?_) P.pa
  rw [P.tn, P.fn, map_take_range _ _ _ _ P.pn i (by omega), map_getD_range T.procs (·.name) _ _ P.pn i hi]
  exact names_proc m P.m4 f P.f4 i (by have := P.q4; omega)

theorem Parts3.lens (P : Parts3 T m f q) : T.types.length ≤ 16 ∧ T.faults.length ≤ 16 ∧ T.procs.length ≤ 16 := by
  rw [P.tl, P.fl, P.pl]
  have := P.m4; have := P.f4; have := P.q4
  omega

theorem Parts3.ok (P : Parts3 T m f q) : checkE T = 0 := by
  rw [checkE_lists P.nm P.v1 P.v2 P.lens, P.tl, P.fl, P.pl, firstE_all _ _ P.ta, P.faultsZ, P.procsZ]
  rfl

theorem wrong0 (T : KTab) : checkE { T with name := recordT } = 8 := by
  have : named recordT = false := by decide +kernel
  unfold checkE
  rw [this]
  rfl

theorem wrong1 (P : Parts3 T m f q) (n : Int) : checkE { T with number := n } = if 0 ≤ n ∧ n ≤ 65535 then 0 else 2 := by
  by_cases h : 0 ≤ n ∧ n ≤ 65535
  · have hv : validN n = true := by unfold validN; exact decide_eq_true h
    rw [if_pos h]
    have h1 := P.ok
    rw [checkE_lists P.nm P.v1 P.v2 P.lens] at h1
    rw [checkE_lists (t := { T with number := n }) P.nm hv P.v2 P.lens]
    exact h1
  · have hv : validN n = false := by unfold validN; exact decide_eq_false h
    rw [if_neg h]
    unfold checkE
    rw [P.nm, hv]
    rfl

theorem wrong2 (P : Parts3 T m f q) (n : Int) : checkE { T with version := n } = if 0 ≤ n ∧ n ≤ 65535 then 0 else 2 := by
  by_cases h : 0 ≤ n ∧ n ≤ 65535
  · have hv : validN n = true := by unfold validN; exact decide_eq_true h
    rw [if_pos h]
    have h1 := P.ok
    rw [checkE_lists P.nm P.v1 P.v2 P.lens] at h1
    rw [checkE_lists (t := { T with version := n }) P.nm P.v1 hv P.lens]
    exact h1
  · have hv : validN n = false := by unfold validN; exact decide_eq_false h
    rw [if_neg h]
    unfold checkE
    rw [P.nm, hv, P.v1]
    rfl

theorem wrong3 (P : Parts3 T m f q) : checkE { T with types := List.replicate 17 ([], zeroT) } = 7 := by
  unfold checkE
  rw [P.nm, P.v1, P.v2]
  rw [if_neg (by simp), if_neg (by simp), if_pos (by simp)]

/-- One alias more, at the end. -/
theorem wrongA (P : Parts3 T m f q) (x : KT) : checkE { T with types := T.types ++ [(lastT, x)] } = rightE T.types x 5 := by
  have hl : (T.types ++ [(lastT, x)]).length = m + 1 := by rw [List.length_append, P.tl]; rfl
  have hlen : ({ T with types := T.types ++ [(lastT, x)] } : KTab).types.length ≤ 16 ∧ T.faults.length ≤ 16 ∧ T.procs.length ≤ 16 := by
    have hL := P.lens
    have := P.m4
    refine ⟨?_, hL.2⟩
    show (T.types ++ [(lastT, x)]).length ≤ 16
    omega
  rw [checkE_lists (t := { T with types := T.types ++ [(lastT, x)] }) P.nm P.v1 P.v2 hlen]
  show (if firstE (aliasE (T.types ++ [(lastT, x)])) (T.types ++ [(lastT, x)]).length ≠ 0 then firstE (aliasE (T.types ++ [(lastT, x)])) (T.types ++ [(lastT, x)]).length
      else if firstE (faultE ((T.types ++ [(lastT, x)]).map (·.1)) T.faults) T.faults.length ≠ 0 then firstE (faultE ((T.types ++ [(lastT, x)]).map (·.1)) T.faults) T.faults.length
      else firstE (procE ((T.types ++ [(lastT, x)]).map (·.1) ++ T.faults.map (·.1)) (T.types ++ [(lastT, x)]) T.procs) T.procs.length) = _
  have h1 : firstE (aliasE (T.types ++ [(lastT, x)])) (m + 1) = rightE T.types x 5 := by
    rw [firstE_last _ _ (fun i hi => by rw [alias_left _ _ _ (by rw [P.tl]; exact hi)]; exact P.ta i hi)]
    have := alias_last T.types (lastT, x)
    rw [P.tl] at this
    rw [this, P.tn, if_pos (n_last m P.m4)]
  rw [hl, h1]
  by_cases h0 : rightE T.types x 5 = 0
  · rw [h0, if_neg (by simp)]
    have hm : (T.types ++ [(lastT, x)]).map (·.1) = knownE m ++ [lastT] := by rw [List.map_append, P.tn]; rfl
    rw [hm]
    have h2 : firstE (faultE (knownE m ++ [lastT]) T.faults) T.faults.length = 0 := by
      rw [P.fl]
      refine faults_zero _ _ f (Nat.le_of_eq P.fl.symm) (fun i hi => ?_) P.fa
      rw [map_take_range _ _ _ _ P.fn i (by omega), map_getD_range T.faults (·.1) _ _ P.fn i hi]
      exact n_fault m P.m4 i (by have := P.f4; omega)
    rw [h2, if_neg (by simp), P.pl]
    refine procs_zero _ _ _ q (Nat.le_of_eq P.pl.symm) (fun i hi => ?_) (fun i hi => ?_)
    · rw [P.fn, map_take_range _ _ _ _ P.pn i (by omega), map_getD_range T.procs (·.name) _ _ P.pn i hi]
      exact n_proc m P.m4 f P.f4 i (by have := P.q4; omega)
    · have hm : T.procs.getD i noProc ∈ T.procs := by
        rw [List.getD_eq_getElem?_getD, List.getElem?_eq_getElem (by rw [P.pl]; exact hi)]; exact List.getElem_mem _
      exact procE1_more _ _ _ _ (P.fit _ hm).1 (P.fit _ hm).2 (P.pa i hi)
  · rw [if_pos h0]

theorem right_text (al : List (Txt × KT)) (n : Int) : rightE al (.mk 4 n [] 0 (fun _ => .nil)) 5 = if 1 ≤ n ∧ n ≤ 60 then 0 else 2 := by
  rw [rightE_mk]
  by_cases h : 1 ≤ n ∧ n ≤ 60 <;> simp [sizedB, formedB, firstE, h]

theorem right_card (al : List (Txt × KT)) (n : Int) : rightE al (.mk 1 n [] 0 (fun _ => .nil)) 5 = if 0 ≤ n ∧ n ≤ 0 then 0 else 2 := by
  rw [rightE_mk]
  by_cases h : n = 0
  · subst h; simp [sizedB, formedB, firstE]
  · have h2 : ¬ (0 ≤ n ∧ n ≤ 0) := by omega
    rw [if_neg h2]; simp [sizedB, formedB, firstE, h]

theorem right_ref (P : Parts3 T m f q) : rightE T.types (.mk 9 0 [lastT] 0 (fun _ => .nil)) 5 = 10 := by
  have hs : standsN T.types [lastT] = -1 := by
    unfold standsN
    refine firstAt_none _ _ (fun j hj => ?_)
    have h1 : T.types[j].1 ∈ T.types.map (·.1) := List.mem_map.2 ⟨_, List.getElem_mem hj, rfl⟩
    rw [P.tn] at h1
    have key : ∀ m < 5, lastT ∉ knownE m := by decide +kernel
    exact decide_eq_false fun e => key m P.m4 (e ▸ h1)
  rw [rightE_mk, hs]
  simp [sizedB, formedB]

theorem right_enum (al : List (Txt × KT)) : rightE al (.mk 7 0 [[97], [98], [97]] 0 (fun _ => .nil)) 5 = 9 := by
  have : checkNamesE [[97], [98], [97]] = 9 := by decide +kernel
  rw [rightE_mk, this]
  simp [sizedB, formedB]

theorem right_record (al : List (Txt × KT)) (of : Nat → KT) : rightE al (.mk 6 0 [[97], [98]] 1 of) 5 = 4 := by
  rw [rightE_mk]
  simp [sizedB, formedB]

theorem right_ten (al : List (Txt × KT)) : rightE al (.mk 10 0 [] 0 (fun _ => .nil)) 5 = 5 := by
  rw [rightE_mk]
  simp

/-- A sequence in another, so many deep. -/
def seqs : Nat → KT
  | 0 => .mk 0 0 [] 0 (fun _ => .nil)
  | n + 1 => .mk 5 1 [] 1 (fun _ => seqs n)

theorem right_seqs (al : List (Txt × KT)) : rightE al (seqs 5) 5 = 5 := by
  simp [seqs, rightE, sizedB, formedB, firstE]

/-- One fault more, at the end. -/
theorem wrong11 (P : Parts3 T m f q) (x : Txt) (n : Int) (hx : nameE (knownE m ++ (List.range f).map fName) x = 0) (hp : ∀ i < 4, nameE ((knownE m ++ ((List.range f).map fName ++ [x])) ++ (List.range i).map pName) (pName i) = 0) :
    checkE { T with faults := T.faults ++ [(x, n)] } = if 0 ≤ n ∧ n ≤ 65535 then (if T.faults.any (fun g => decide (g.2 = n)) then 9 else 0) else 2 := by
  have hl : (T.faults ++ [(x, n)]).length = f + 1 := by rw [List.length_append, P.fl]; rfl
  have hlen : T.types.length ≤ 16 ∧ ({ T with faults := T.faults ++ [(x, n)] } : KTab).faults.length ≤ 16 ∧ T.procs.length ≤ 16 := by
    have hL := P.lens
    have := P.f4
    refine ⟨hL.1, ?_, hL.2.2⟩
    show (T.faults ++ [(x, n)]).length ≤ 16
    omega
  rw [checkE_lists (t := { T with faults := T.faults ++ [(x, n)] }) P.nm P.v1 P.v2 hlen]
  show (if firstE (aliasE T.types) T.types.length ≠ 0 then firstE (aliasE T.types) T.types.length
      else if firstE (faultE (T.types.map (·.1)) (T.faults ++ [(x, n)])) (T.faults ++ [(x, n)]).length ≠ 0 then firstE (faultE (T.types.map (·.1)) (T.faults ++ [(x, n)])) (T.faults ++ [(x, n)]).length
      else firstE (procE (T.types.map (·.1) ++ (T.faults ++ [(x, n)]).map (·.1)) T.types T.procs) T.procs.length) = _
  rw [P.tl, firstE_all _ _ P.ta, if_neg (by simp), hl, P.tn, P.pl]
  have h0 : ∀ i, i < f → faultE (knownE m) (T.faults ++ [(x, n)]) i = 0 := by
    intro i hi
    unfold faultE
    rw [take_left _ _ _ (by rw [P.fl]; omega), getD_left _ _ _ (by rw [P.fl]; exact hi), map_take_range _ _ _ _ P.fn i (by omega), map_getD_range T.faults (·.1) _ _ P.fn i hi,
      if_pos (names_fault m P.m4 i (by have := P.f4; omega)), (P.fa i hi).1, (P.fa i hi).2]
    rfl
  have h1 : faultE (knownE m) (T.faults ++ [(x, n)]) f = if 0 ≤ n ∧ n ≤ 65535 then (if T.faults.any (fun g => decide (g.2 = n)) then 9 else 0) else 2 := by
    have e1 : (T.faults ++ [(x, n)]).take f = T.faults := by rw [take_left _ _ _ (by rw [P.fl]; omega), ← P.fl, List.take_length]
    have e2 : (T.faults ++ [(x, n)]).getD f ([], 0) = (x, n) := by rw [← P.fl]; exact getD_right _ _ _ _
    unfold faultE
    rw [e1, e2, P.fn, if_pos hx]
    unfold validN
    by_cases h : 0 ≤ n ∧ n ≤ 65535 <;> simp [h]
  rw [firstE_last _ _ h0, h1]
  by_cases h : 0 ≤ n ∧ n ≤ 65535
  · rw [if_pos h]
    by_cases h2 : T.faults.any (fun g => decide (g.2 = n)) = true
    · rw [if_pos h2, if_pos (by decide)]
    · rw [if_neg h2, if_neg (by simp)]
      refine procs_zero _ _ _ q (Nat.le_of_eq P.pl.symm) (fun i hi => ?_) P.pa
      rw [List.map_append, P.fn, map_take_range _ _ _ _ P.pn i (by omega), map_getD_range T.procs (·.name) _ _ P.pn i hi]
      exact hp i (by have := P.q4; omega)
  · rw [if_neg h, if_pos (by decide)]

/-- A procedure more, at the end. -/
theorem wrongP (P : Parts3 T m f q) (l : List KProc) (hl : l.length ≤ 2) : checkE { T with procs := T.procs ++ l } = firstE (procE (knownE m ++ (List.range f).map fName) T.types (T.procs ++ l)) (q + l.length) := by
  have hlen : T.types.length ≤ 16 ∧ T.faults.length ≤ 16 ∧ ({ T with procs := T.procs ++ l } : KTab).procs.length ≤ 16 := by
    have h := P.lens
    have := P.q4
    refine ⟨h.1, h.2.1, ?_⟩
    show (T.procs ++ l).length ≤ 16
    rw [List.length_append, P.pl]
    omega
  rw [checkE_lists (t := { T with procs := T.procs ++ l }) P.nm P.v1 P.v2 hlen]
  show (if firstE (aliasE T.types) T.types.length ≠ 0 then firstE (aliasE T.types) T.types.length
      else if firstE (faultE (T.types.map (·.1)) T.faults) T.faults.length ≠ 0 then firstE (faultE (T.types.map (·.1)) T.faults) T.faults.length
      else firstE (procE (T.types.map (·.1) ++ T.faults.map (·.1)) T.types (T.procs ++ l)) (T.procs ++ l).length) = _
  rw [P.tl, firstE_all _ _ P.ta, if_neg (by simp), P.fl, P.faultsZ, if_neg (by simp), P.tn, P.fn, List.length_append, P.pl]

theorem Parts3.left (P : Parts3 T m f q) (l : List KProc) (i : Nat) (hi : i < q) : procE (knownE m ++ (List.range f).map fName) T.types (T.procs ++ l) i = 0 := by
  unfold procE
  rw [take_left _ _ _ (by rw [P.pl]; omega), getD_left _ _ _ (by rw [P.pl]; exact hi), map_take_range _ _ _ _ P.pn i (by omega), map_getD_range T.procs (·.name) _ _ P.pn i hi,
    if_pos (names_proc m P.m4 f P.f4 i (by have := P.q4; omega))]
  exact P.pa i hi

theorem used_zero (al : List (Txt × KT)) : usedE al zeroT = 0 := by
  unfold usedE
  have h1 : rightE al zeroT 5 = 0 := by unfold zeroT; rw [rightE_mk]; simp [sizedB, formedB, firstE]
  rw [if_pos h1]
  simp [zeroT, wholeE, wholeAll]

theorem Parts3.new999 (P : Parts3 T m f q) : T.procs.any (fun p => decide (p.number = 999)) = false := by
  rw [List.any_eq_false]
  intro p hp
  have := P.pv p hp
  simp; omega

theorem wrong13 (P : Parts3 T m f q) (n : Int) : checkE { T with procs := T.procs ++ [KProc.mk lastT 999 zeroT zeroT 0 n] } = if 1 ≤ n ∧ n ≤ 1000 then 0 else 2 := by
  rw [wrongP P _ (by simp)]
  show firstE _ (q + 1) = _
  rw [firstE_last _ _ (P.left _)]
  have e1 : (T.procs ++ [KProc.mk lastT 999 zeroT zeroT 0 n]).take q = T.procs := by rw [take_left _ _ _ (by rw [P.pl]; omega), ← P.pl, List.take_length]
  have e2 : (T.procs ++ [KProc.mk lastT 999 zeroT zeroT 0 n]).getD q noProc = KProc.mk lastT 999 zeroT zeroT 0 n := by rw [← P.pl]; exact getD_right _ _ _ _
  unfold procE
  rw [e1, e2, P.pn, if_pos (n_last3 m P.m4 f P.f4 q P.q4).1]
  unfold procE1
  show (if (!validN 999 || decide (n < 1) || decide (1000 < n) || decide (3 ≤ 0)) = true then 2 else if (T.procs.any (fun p => decide (p.number = 999))) = true then 9 else if usedE T.types zeroT = 0 then usedE T.types zeroT else usedE T.types zeroT) = _
  rw [P.new999, used_zero]
  by_cases h : 1 ≤ n ∧ n ≤ 1000
  · rw [if_pos h, decide_eq_false (show ¬ n < 1 by omega), decide_eq_false (show ¬ 1000 < n by omega)]
    simp [validN]
  · rw [if_neg h]
    by_cases h1 : n < 1
    · rw [decide_eq_true h1]; simp
    · rw [decide_eq_true (show 1000 < n by omega)]; simp

theorem wrong14 (P : Parts3 T m f q) : checkE { T with procs := T.procs ++ [KProc.mk lastT 999 zeroT zeroT 3 9] } = 2 := by
  rw [wrongP P _ (by simp)]
  show firstE _ (q + 1) = _
  rw [firstE_last _ _ (P.left _)]
  have e1 : (T.procs ++ [KProc.mk lastT 999 zeroT zeroT 3 9]).take q = T.procs := by rw [take_left _ _ _ (by rw [P.pl]; omega), ← P.pl, List.take_length]
  have e2 : (T.procs ++ [KProc.mk lastT 999 zeroT zeroT 3 9]).getD q noProc = KProc.mk lastT 999 zeroT zeroT 3 9 := by rw [← P.pl]; exact getD_right _ _ _ _
  unfold procE
  rw [e1, e2, P.pn, if_pos (n_last3 m P.m4 f P.f4 q P.q4).1]
  unfold procE1
  simp

theorem wrong15 (P : Parts3 T m f q) : checkE { T with procs := T.procs ++ [KProc.mk xT 999 zeroT zeroT 0 9, KProc.mk yT 999 zeroT zeroT 0 9] } = 9 := by
  rw [wrongP P _ (by simp)]
  show firstE _ (q + 1 + 1) = _
  obtain ⟨l, hl⟩ : ∃ l, l = [KProc.mk xT 999 zeroT zeroT 0 9, KProc.mk yT 999 zeroT zeroT 0 9] := ⟨_, rfl⟩
  have e1 : (T.procs ++ l).take q = T.procs := by rw [take_left _ _ _ (by rw [P.pl]; omega), ← P.pl, List.take_length]
  have e2 : (T.procs ++ l).getD q noProc = KProc.mk xT 999 zeroT zeroT 0 9 := by rw [← P.pl, hl]; exact getD_right _ _ _ _
  have e3 : (T.procs ++ l).take (q + 1) = T.procs ++ [KProc.mk xT 999 zeroT zeroT 0 9] := by
    rw [← P.pl, List.take_length_add_append, hl]; rfl
  have e4 : (T.procs ++ l).getD (q + 1) noProc = KProc.mk yT 999 zeroT zeroT 0 9 := by
    rw [List.getD_eq_getElem?_getD, List.getElem?_append_right (by rw [P.pl]; omega), P.pl, hl]
    simp
  rw [← hl]
  have h1 : procE (knownE m ++ (List.range f).map fName) T.types (T.procs ++ l) q = 0 := by
    unfold procE
    rw [e1, e2, P.pn, if_pos (n_last3 m P.m4 f P.f4 q P.q4).2.1]
    unfold procE1
    show (if (!validN 999 || decide ((9 : Int) < 1) || decide ((1000 : Int) < 9) || decide (3 ≤ 0)) = true then 2 else if (T.procs.any (fun p => decide (p.number = 999))) = true then 9 else if usedE T.types zeroT = 0 then usedE T.types zeroT else usedE T.types zeroT) = _
    rw [P.new999, used_zero]
    simp [validN]
  have h2 : ∀ i, i < q + 1 → procE (knownE m ++ (List.range f).map fName) T.types (T.procs ++ l) i = 0 := by
    intro i hi
    by_cases e : i = q
    · subst e; exact h1
    · exact P.left _ i (by omega)
  rw [firstE_last _ _ h2]
  unfold procE
  have e5 : (T.procs ++ [KProc.mk xT 999 zeroT zeroT 0 9]).map (·.name) = (List.range q).map pName ++ [xT] := by rw [List.map_append, P.pn]; rfl
  rw [e3, e4, e5, if_pos (n_last3 m P.m4 f P.f4 q P.q4).2.2]
  unfold procE1
  simp [validN]

end
end Go.Proofs.Ytdaabgnfgdojhaa
