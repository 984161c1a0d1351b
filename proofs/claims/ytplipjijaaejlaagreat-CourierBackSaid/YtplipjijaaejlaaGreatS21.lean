/-
  CouBack, part 21 of what it rests on: ValBuildE, ValNumber, ValLetters, RealMath.
-/
import Derived.Test.YtplipjijaaejlaaGreatS20
import Derived.Test.YtplipjijaaejlaaGreatS15
import Derived.Deep.QuietTactic
import Derived.BigQuiet
import Derived.Deep.OwnRows
import Derived.Test.YtplipjijaaejlaaGreatS14
set_option linter.unusedVariables false
set_option linter.unusedSimpArgs false
set_option maxHeartbeats 64000000
namespace Go.Proofs.YtplipjijaaejlaaGreat
open Go.RowKit
open Go.Lib (hid)
section
theorem firstE_zero (n : Nat) (f : Nat → Nat) (h : ∀ i, i < n → f i = 0) : firstE f n = 0 := by
  induction n with
  | zero => rfl
  | succ n ih => exact firstE_step f n (ih (fun i hi => h i (by omega))) (h n (by omega))

/-- Are a type's own kind, length and names right? -/
def ownOK (k : Nat) (m : Int) (ns : List Txt) (n : Nat) : Bool := decide (k ≤ 8) && sizedB k m && formedB k ns.length n && (if k = 6 ∨ k = 7 ∨ k = 8 then decide (checkNamesE ns = 0) else true)

theorem check_alone (k : Nat) (m : Int) (ns : List Txt) (n : Nat) : checkE (aloneT k m ns n) = rightE [] (.mk k m ns n (fun _ => zeroT)) 5 := by
  have h0 : aliasE (aloneT k m ns n).types 0 = rightE [] (.mk k m ns n (fun _ => zeroT)) 5 := by
    unfold aliasE aloneT
    simp only [List.take_zero, List.map_nil]
    have : nameE [] [116] = 0 := by kernel_rfl
    rw [show (([([116], KT.mk k m ns n (fun _ => zeroT))] : List (Txt × KT)).getD 0 ([], .nil)) = ([116], KT.mk k m ns n (fun _ => zeroT)) from rfl, if_pos this]
  have h1 : firstE (aliasE (aloneT k m ns n).types) (aloneT k m ns n).types.length = rightE [] (.mk k m ns n (fun _ => zeroT)) 5 := by
    show firstE (aliasE (aloneT k m ns n).types) 1 = _
    rw [firstE, if_pos (by rfl), h0]
  unfold checkE
  have n1 : named (aloneT k m ns n).name = true := by
    have : named [97] = true := by kernel_rfl
    exact this
  rw [n1, h1]
  have v1 : validN (aloneT k m ns n).number = true := rfl
  have v2 : validN (aloneT k m ns n).version = true := rfl
  rw [v1, v2]
  simp only [Bool.not_true, Bool.or_self, Bool.false_eq_true, if_false]
  rw [if_neg (by simp [aloneT])]
  split
  · rfl
  · rename_i h
    have h' : rightE [] (.mk k m ns n (fun _ => zeroT)) 5 = 0 := by simpa using h
    rw [h']
    rfl

theorem right_own (k : Nat) (m : Int) (ns : List Txt) (n : Nat) : decide (rightE [] (.mk k m ns n (fun _ => zeroT)) 5 = 0) = ownOK k m ns n := by
  have hz : firstE (fun _ => rightE [] zeroT 4) n = 0 := firstE_zero n _ (fun _ _ => by kernel_rfl)
  by_cases hk : 10 ≤ k
  · rw [rightE, if_pos (.inl hk)]
    unfold ownOK
    rw [decide_eq_false (by omega : ¬ k ≤ 8)]
    rfl
  · rw [rightE, if_neg (by omega)]
    unfold ownOK
    by_cases hs : sizedB k m = true
    · rw [hs]
      by_cases hf : formedB k ns.length n = true
      · rw [hf]
        simp only [Bool.not_true, Bool.false_eq_true, if_false, Bool.and_true]
        by_cases h9 : k = 9
        · subst h9
          have : (if standsN [] ns < 0 then 10 else 0) = 10 := by
            rw [if_pos]
            unfold standsN
            split
            · unfold firstAt; rw [if_neg (by simp)]; decide
            · decide
          simp [this]
        · by_cases h6 : k = 6 ∨ k = 7 ∨ k = 8
          · simp only [if_pos h6]
            rw [decide_eq_true (by omega : k ≤ 8), Bool.true_and]
            by_cases hc : checkNamesE ns = 0
            · rw [hc]; simp only [if_true]; rw [hz]; simp
            · simp [hc]
          · simp only [if_neg h6, if_neg h9]
            rw [decide_eq_true (by omega : k ≤ 8), if_pos trivial, hz]
            rfl
      · simp [hf]
    · simp [hs]

theorem alone_own (k : Nat) (m : Int) (ns : List Txt) (n : Nat) (of : Nat → KT) : aloneE (.mk k m ns n of) = (decide (n ≤ 12) && ownOK k m ns n) := by
  show (decide (n ≤ 12) && decide (checkE (aloneT k m ns n) = 0)) = _
  rw [check_alone, right_own]

/-- All types in it are right alone. -/
def goodE : KT → Prop
  | .nil => False
  | .mk k m ns n of => (n ≤ 12 ∧ ownOK k m ns n = true) ∧ ∀ i, i < n → goodE (of i)

theorem surveyL_good (f : Nat → Nat → Bool × Nat) (j p : Nat) : (surveyL f j p).1 = true → ∀ i, i < j → ∃ q, (f i q).1 = true := by
  induction j with
  | zero => intro _ i hi; omega
  | succ j ih =>
    unfold surveyL
    split
    · intro h i hi
      by_cases e : i = j
      · subst e; exact ⟨_, h⟩
      · exact ih ‹_› i (by omega)
    · intro h
      exact absurd h ‹_›

theorem survey_good (t : KT) : ∀ lv p, (surveyE t lv p).1 = true → goodE t := by
  induction t with
  | nil => intro lv p h; exact absurd h (by simp [surveyE])
  | mk k m ns n of ih =>
    intro lv p h
    unfold surveyE at h
    split at h
    · cases h
    · rename_i hc
      have ha : aloneE (.mk k m ns n of) = true := by
        cases hB : aloneE (.mk k m ns n of) with
        | true => rfl
        | false => exact absurd (.inr (.inr hB)) hc
      rw [alone_own, Bool.and_eq_true, decide_eq_true_eq] at ha
      refine ⟨ha, fun i hi => ?_⟩
      obtain ⟨q, hq⟩ := surveyL_good _ n _ h i hi
      exact ih i _ _ hq

/-- What a type that is right alone is like. -/
theorem own_facts {k : Nat} {m : Int} {ns : List Txt} {n : Nat} (h : ownOK k m ns n = true) : k ≤ 8 ∧ (k = 4 ∨ k = 5 → 1 ≤ m ∧ m ≤ 60) ∧ (k = 5 → n = 1) ∧ (k = 6 ∨ k = 8 → n = ns.length) ∧ (k = 6 ∨ k = 7 ∨ k = 8 → 1 ≤ ns.length ∧ ns.length ≤ 12) ∧ (¬ (k = 5 ∨ k = 6 ∨ k = 8) → n = 0) := by
  unfold ownOK at h
  simp only [Bool.and_eq_true, decide_eq_true_eq] at h
  obtain ⟨⟨⟨hk, hs⟩, hf⟩, hc⟩ := h
  unfold sizedB at hs
  unfold formedB at hf
  refine ⟨hk, fun h => ?_, fun h => ?_, fun h => ?_, fun h => ?_, fun h => ?_⟩
  · rw [if_pos h] at hs; simpa using hs
  · rw [if_pos h] at hf; simp at hf; exact hf.2
  · rw [if_neg (by omega), if_pos h] at hf; simpa using hf
  · rw [if_pos h] at hc
    simp only [decide_eq_true_eq] at hc
    unfold checkNamesE at hc
    by_cases hl : ns.length < 1 ∨ 12 < ns.length
    · rw [if_pos hl] at hc; cases hc
    · omega
  · rw [if_neg (by omega), if_neg (by omega)] at hf
    split at hf
    · simpa using hf
    · split at hf
      · simp at hf; exact hf.2
      · simp at hf; exact hf.2

/-- The next number. -/
def numE (l : List Int) (tk : Nat) : Int := if l = [] then 0 else l.getD (tk % l.length) 0

def nextE (l : List Int) (tk : Nat) : Nat := if l = [] then tk else tk + 1

/-- A value that is a number alone. -/
def vnum (x : Int) : VT := .mk x 0 [] 0 (fun _ => .nil)

/-- Thirty-two bits, with a sign. -/
def long32 (x : Int) : Int := if x < 2147483648 then x else x - 4294967296

/-- So many letters. -/
def lettersE (n : Nat) : Txt := (List.range n).map fun i => UInt8.ofNat (97 + i % 26)

/-- Parts that are built one behind the other. -/
def partsL (f : Nat → Nat × Nat → VT × (Nat × Nat)) : Nat → Nat × Nat → List VT × (Nat × Nat)
  | 0, s => ([], s)
  | j + 1, s => ((partsL f j s).1 ++ [(f j (partsL f j s).2).1], (f j (partsL f j s).2).2)

def listV (L : List VT) : VT := .mk 0 0 [] L.length (fun i => L.getD i .nil)

/-- WHAT IS BUILT, and how many numbers were taken and values begun by then. -/
def buildE (l : List Int) : KT → Nat × Nat → VT × (Nat × Nat)
  | .nil, s => (.nil, s)
  | .mk k m ns n of, s =>
    if k = 0 then (vnum (numE l s.1 % 2), nextE l s.1, s.2 + 1)
    else if k = 1 then (vnum (numE l s.1 % 65536), nextE l s.1, s.2 + 1)
    else if k = 2 then (vnum (long32 (numE l s.1 % 4294967296)), nextE l s.1, s.2 + 1)
    else if k = 3 then (.mk 0 (floatOfInt .f64 (numE l s.1)) [] 0 (fun _ => .nil), nextE l s.1, s.2 + 1)
    else if k = 4 then (.mk 0 0 (lettersE (numE l s.1 % (m + 1)).toNat) 0 (fun _ => .nil), nextE l s.1, s.2 + 1)
    else if k = 5 then
      if 100 < s.2 + 1 then (listV [], s.1, s.2 + 1)
      else
        let r := partsL (fun _ q => buildE l (of 0) q) (min (numE l s.1 % 4) m).toNat (nextE l s.1, s.2 + 1)
        (listV r.1, r.2)
    else if k = 6 then
      let r := partsL (fun i q => buildE l (of i) q) n (s.1, s.2 + 1)
      (listV r.1, r.2)
    else if k = 7 then (vnum (numE l s.1 % ns.length), nextE l s.1, s.2 + 1)
    else
      let r := buildE l (of (numE l s.1 % n).toNat) (nextE l s.1, s.2 + 1)
      (.mk (numE l s.1 % n) 0 [] 1 (fun _ => r.1), r.2)

theorem buildE_record (l : List Int) (m : Int) (ns : List Txt) (n : Nat) (of : Nat → KT) (s : Nat × Nat) : buildE l (.mk 6 m ns n of) s = (listV (partsL (fun i q => buildE l (of i) q) n (s.1, s.2 + 1)).1, (partsL (fun i q => buildE l (of i) q) n (s.1, s.2 + 1)).2) := by
  rw [buildE, if_neg (by decide), if_neg (by decide), if_neg (by decide), if_neg (by decide), if_neg (by decide), if_neg (by decide), if_pos rfl]

theorem buildE_none (l : List Int) (m : Int) (ns : List Txt) (n : Nat) (of : Nat → KT) (s : Nat × Nat) (h : 100 < s.2 + 1) : buildE l (.mk 5 m ns n of) s = (listV [], s.1, s.2 + 1) := by
  rw [buildE, if_neg (by decide), if_neg (by decide), if_neg (by decide), if_neg (by decide), if_neg (by decide), if_pos rfl, if_pos h]

theorem buildE_seq (l : List Int) (m : Int) (ns : List Txt) (n : Nat) (of : Nat → KT) (s : Nat × Nat) (h : ¬ 100 < s.2 + 1) : buildE l (.mk 5 m ns n of) s = (listV (partsL (fun _ q => buildE l (of 0) q) (min (numE l s.1 % 4) m).toNat (nextE l s.1, s.2 + 1)).1, (partsL (fun _ q => buildE l (of 0) q) (min (numE l s.1 % 4) m).toNat (nextE l s.1, s.2 + 1)).2) := by
  rw [buildE, if_neg (by decide), if_neg (by decide), if_neg (by decide), if_neg (by decide), if_neg (by decide), if_pos rfl, if_neg h]

theorem buildE_choice (l : List Int) (m : Int) (ns : List Txt) (n : Nat) (of : Nat → KT) (s : Nat × Nat) : buildE l (.mk 8 m ns n of) s = (.mk (numE l s.1 % n) 0 [] 1 (fun _ => (buildE l (of (numE l s.1 % n).toNat) (nextE l s.1, s.2 + 1)).1), (buildE l (of (numE l s.1 % n).toNat) (nextE l s.1, s.2 + 1)).2) := by
  rw [buildE, if_neg (by decide), if_neg (by decide), if_neg (by decide), if_neg (by decide), if_neg (by decide), if_neg (by decide), if_neg (by decide), if_neg (by decide)]

/-- How many values are built at most. -/
def costE : KT → Nat
  | .nil => 1
  | .mk k _ _ n of => 1 + (if k = 5 then 3 * costE (of 0) else ((List.range n).map fun i => costE (of i)).sum)

theorem partsL_length (f : Nat → Nat × Nat → VT × (Nat × Nat)) (j : Nat) (s : Nat × Nat) : (partsL f j s).1.length = j := by
  induction j with
  | zero => rfl
  | succ j ih => simp [partsL, ih]
end
section
/-- The slice v shows these numbers, in memory of R. -/
def Nums (R : Nat → Prop) (w : World) (l : List Int) (v : Value) : Prop :=
  l.length ≤ 1000 ∧ (∀ x ∈ l, -9223372036854775808 ≤ x ∧ x ≤ 9223372036854775807) ∧
  ((l = [] ∧ ∃ a c, v = .slice a 0 c) ∨
   ∃ g off cap, R g ∧ v = .slice (some ⟨g, off, none⟩) l.length cap ∧ l.length ≤ cap ∧ ∀ j x, l[j]? = some x → w.cell? ⟨g, off + j, none⟩ = some (.int .i64 x))

theorem Nums.fr {R S : Nat → Prop} {w w' : World} {l : List Int} {v : Value} (h : Nums R w l v) (hf : Fr S w w') (hS : ∀ k, R k → ¬ S k) : Nums R w' l v := by
  obtain ⟨h1, h2, h3 | ⟨g, off, cap, hg, rfl, hle, hc⟩⟩ := h
  · exact ⟨h1, h2, .inl h3⟩
  · exact ⟨h1, h2, .inr ⟨g, off, cap, hg, rfl, hle, fun j s hj => cell_fr hf hS hg (hc j s hj)⟩⟩

theorem Nums.mono {R S : Nat → Prop} {w : World} {l : List Int} {v : Value} (h : Nums R w l v) (hS : ∀ k, k < w.heap.size → R k → S k) : Nums S w l v := by
  obtain ⟨h1, h2, h3 | ⟨g, off, cap, hg, rfl, hle, hc⟩⟩ := h
  · exact ⟨h1, h2, .inl h3⟩
  · cases l with
    | nil => exact ⟨h1, h2, .inl ⟨rfl, _, _, rfl⟩⟩
    | cons x l => exact ⟨h1, h2, .inr ⟨g, off, cap, hS g (World.block_lt_of_cell? w _ (hc 0 x rfl)) hg, rfl, hle, hc⟩⟩

theorem Nums.shape {R : Nat → Prop} {w : World} {l : List Int} {v : Value} (h : Nums R w l v) : ∃ a c, v = .slice a l.length c := by
  obtain ⟨_, _, ⟨rfl, a, c, rfl⟩ | ⟨g, off, cap, _, rfl, _⟩⟩ := h
  · exact ⟨a, c, rfl⟩
  · exact ⟨_, cap, rfl⟩

theorem numE_in {R : Nat → Prop} {w : World} {l : List Int} {v : Value} (h : Nums R w l v) (tk : Nat) : -9223372036854775808 ≤ numE l tk ∧ numE l tk ≤ 9223372036854775807 := by
  unfold numE
  split
  · omega
  · rename_i hl
    have hlt : tk % l.length < l.length := Nat.mod_lt _ (by cases l; exact absurd rfl hl; simp)
    have : l.getD (tk % l.length) 0 = l[tk % l.length] := by simp [List.getD, hlt]
    rw [this]
    exact h.2.1 _ (List.getElem_mem hlt)

/-- The builder in block b. -/
def BBox (w : World) (b : Nat) (nv : Value) (tk bg : Nat) : Prop := w.heap[b]? = some (.cells #[nv, .int .i64 (tk : Nat), .int .i64 (bg : Nat)] 65 (0, 0))

theorem BBox.drewN {w : World} {b : Nat} {nv : Value} {tk bg : Nat} (h : BBox w b nv tk bg) (n : Nat) : BBox (w.drewN n) b nv tk bg := h

theorem BBox.fr {S : Nat → Prop} {w w' : World} {b : Nat} {nv : Value} {tk bg : Nat} (h : BBox w b nv tk bg) (f : Fr S w w') (hS : ¬ S b) : BBox w' b nv tk bg := box_kept h f hS

set_option maxRecDepth 100000 in
theorem number_any (R : Nat → Prop) (l : List Int) (nv : Value) (b tk bg : Nat) (w : World) (hb : BBox w b nv tk bg) (hl : Nums R w l nv) (htk : tk ≤ 100000) :
    Calls Tryz.prog 41 #[.pointer (some ⟨b, 0, none⟩)] w fun e w' => e = .returned (.int .i64 (numE l tk)) ∧ Fr (fun k => k = b) w w' ∧ BBox w' b nv (nextE l tk) bg := by
  obtain ⟨n, hn⟩ : ∃ n, n = l.length := ⟨_, rfl⟩
  have HL := Lib.hid hl
  have HB := Lib.hid hb
  obtain ⟨h1, h2, h3⟩ := hl
  unfold BBox at hb
  have r1 := cells_row hb 1 _ rfl
  have r0 := cells_row hb 0 _ rfl
  have z1 : w.frozen? ⟨b, 1, none⟩ = false := by simp [World.frozen?, hb]
  clear hb
  rcases h3 with ⟨rfl, a, c, rfl⟩ | ⟨g, off, cap, hg, rfl, hle, hc⟩
  · clear hn h1 h2
    go_enter Tryz.func41, Tryz.ntmps41
    go_wp2
    go_ret
    exact ⟨rfl, Fr.refl _ _, HB.out⟩
  · rw [← hn] at r0 h1 hle HB HL
    by_cases h0 : n = 0
    · have HN := Lib.hid hn
      clear hn
      subst h0
      have e : l = [] := List.eq_nil_of_length_eq_zero HN.out.symm
      go_enter Tryz.func41, Tryz.ntmps41
      go_wp2
      go_ret
      subst e
      exact ⟨rfl, Fr.refl _ _, HB.out⟩
    · have hne : l ≠ [] := by intro e; rw [e] at hn; exact h0 hn
      obtain ⟨q, hq⟩ : ∃ q, tk % n = q := ⟨_, rfl⟩
      have hqn : q < n := by rw [← hq]; exact Nat.mod_lt _ (by omega)
      have e1 : (tk : Int).tmod (n : Int) = (q : Int) := by rw [← hq]; exact (Int.ofNat_tmod tk n).symm
      have e2 : (tk : Int) % (n : Int) = (q : Int) := by rw [← hq]; omega
      have x0 : l[q]? = some (numE l tk) := by
        unfold numE
        rw [if_neg hne, ← hn, hq, List.getD, List.getElem?_eq_getElem (by omega)]
        rfl
      have y0 := hc q _ x0
      have nx : nextE l tk = tk + 1 := by unfold nextE; rw [if_neg hne]
      have NX := Lib.hid nx
      have hn0 : ¬ (n : Int) = 0 := by omega
      have hn1 : ((n : Int) == 0) = false := by simpa using h0
      have q0 : 0 ≤ (q : Int) := by omega
      have q1 : (q : Int) < (n : Int) := by omega
      have HN := Lib.hid (And.intro hn hq)
      obtain ⟨x, hx⟩ : ∃ x, x = numE l tk := ⟨_, rfl⟩
      rw [← hx] at y0
      have HX := Lib.hid hx
      clear hn hq hx nx x0 hc hne h2
      have hb1 : b < w.heap.size := lt_of_block HB.out
      go_enter Tryz.func41, Tryz.ntmps41
      go_wp2
      go_quiet (fail)
      go_wp2
      go_ret
      refine ⟨show Ending.returned (.int .i64 x) = _ by rw [HX.out], ?_, ?_⟩
      · exact ((Fr.refl _ _).drewN _).set1 _ _
      · unfold BBox
        rw [setCell_row 1 _ (HB.out.drewN _), NX.out]
        simp
        exact HN.out.1

set_option maxRecDepth 100000 in
theorem take_any (R : Nat → Prop) (l : List Int) (nv : Value) (b tk bg : Nat) (m : Int) (w : World) (hb : BBox w b nv tk bg) (hl : Nums R w l nv) (htk : tk ≤ 100000) (hm0 : 0 < m) (hm1 : m ≤ 4294967296) :
    Calls Tryz.prog 40 #[.pointer (some ⟨b, 0, none⟩), .int .i64 m] w fun e w' => e = .returned (.int .i64 (numE l tk % m)) ∧ Fr (fun k => k = b) w w' ∧ BBox w' b nv (nextE l tk) bg := by
  have hnum := number_any R l nv b tk bg w hb hl htk
  have hin := numE_in hl tk
  obtain ⟨x, hx⟩ : ∃ x, numE l tk = x := ⟨_, rfl⟩
  rw [hx] at hnum hin ⊢
  clear hx hb hl
  obtain ⟨h1, h2⟩ := hin
  obtain ⟨y, hy⟩ : ∃ y, x.tmod m = y := ⟨_, rfl⟩
  have hy0 : -m < y ∧ y < m := by
    rw [← hy]
    have e1 := Int.tmod_lt_of_pos x hm0
    have e2 := Int.lt_tmod_of_pos x hm0
    exact ⟨e2, e1⟩
  have hye : (if y < 0 then y + m else y) = x % m := by
    have e := Int.tmod_eq_emod (a := x) (b := m)
    have p0 := Int.emod_nonneg x (show m ≠ 0 by omega)
    have p1 := Int.emod_lt_of_pos x hm0
    have habs : ((m.natAbs : Nat) : Int) = m := by omega
    rw [hy] at e
    by_cases hc : 0 ≤ x ∨ m ∣ x
    · rw [if_pos hc] at e
      split <;> omega
    · rw [if_neg hc] at e
      split <;> omega
  obtain ⟨y0, y1⟩ := hy0
  have HE := Lib.hid hye
  have hm00 : ¬ m = 0 := by omega
  have hm01 : (m == 0) = false := by simpa using hm00
  clear hye
  by_cases hneg : y < 0
  · have HN := Lib.hid hneg
    go_enter Tryz.func40, Tryz.ntmps40
    go_wp2_with fail
    refine hnum.mono ?_
    rintro e w2 ⟨rfl, f2, b2⟩
    have F2 := Lib.hid (And.intro f2 b2)
    clear f2 b2 hnum
    go_wp2
    go_ret
    refine ⟨?_, F2.out.1, F2.out.2⟩
    have := HE.out
    rw [if_pos HN.out] at this
    rw [← this]
    rfl
  · have HN := Lib.hid hneg
    go_enter Tryz.func40, Tryz.ntmps40
    go_wp2_with fail
    refine hnum.mono ?_
    rintro e w2 ⟨rfl, f2, b2⟩
    have F2 := Lib.hid (And.intro f2 b2)
    clear f2 b2 hnum
    go_wp2
    go_ret
    refine ⟨?_, F2.out.1, F2.out.2⟩
    have := HE.out
    rw [if_neg (by have := HN.out; omega)] at this
    rw [← this]
    rfl
end
section
theorem lettersE_length (n : Nat) : (lettersE n).length = n := by simp [lettersE]

theorem lettersE_at (n i : Nat) (hi : i < n) : (lettersE n).getD i 0 = UInt8.ofNat (97 + i % 26) := by
  unfold lettersE
  rw [List.getD_eq_getElem?_getD, List.getElem?_map, List.getElem?_range hi]
  rfl

set_option maxRecDepth 100000 in
theorem letters_any (n : Nat) (hn : n ≤ 100) (w : World) :
    Calls Tryz.prog 42 #[.int .i64 (n : Nat)] w fun e w' => e = .returned (.string ⟨(lettersE n).toArray⟩) ∧ Fr (fun _ => False) w w' := by
  have mk := run_make_row' (P := Tryz.prog) 26 5 (.int .u8 0) 1 Tryz.underlying26 Tryz.infoU8 rfl .i64 .i64 n (by omega) (by omega)
  go_enter Tryz.func42, Tryz.ntmps42
  go_wp2
  clear mk
  obtain ⟨w1, hw1⟩ : ∃ w1, w1 = w.alloc (.cells (madeCells #[.int .u8 0] n) 5) := ⟨_, rfl⟩
  rw [← hw1]
  have g1 : w1.heap[w.heap.size]? = some (.cells (madeCells #[.int .u8 0] n) 5 (0, 0)) := by rw [hw1]; exact heap_alloc_new _ _
  have f1 : Fr (fun k => k = w.heap.size) w w1 := by rw [hw1]; exact (Fr.refl _ _).alloc _
  have H1 := Lib.hid (And.intro g1 f1)
  clear hw1 g1 f1
  go_loopg [4, 9] n (fun G u4 u9 wr => ∃ j : Nat, j ≤ n ∧ G = n - j ∧ u9 = .int .i64 j ∧ Hid (Fr (fun k => k = w.heap.size) w wr ∧ ∃ cs : Array Value, cs.size = n ∧ wr.heap[w.heap.size]? = some (.cells cs 5 (0, 0)) ∧ ∀ i, i < j → cs[i]? = some (bv (UInt8.ofNat (97 + i % 26)))))
  case atStart => exact ⟨0, Nat.zero_le _, rfl, by go_num, Lib.hid ⟨H1.out.2, _, size_madeCells _ _, H1.out.1, fun i hi => by omega⟩⟩
  case round =>
    obtain ⟨j, hj, rfl, rfl, HI⟩ := hrel
    obtain ⟨cs, hsz, hg, hcs⟩ := HI.out.2
    have lt0 : w.heap.size < wr.heap.size := lt_of_block hg
    by_cases hlt : j < n
    · obtain ⟨u, hu⟩ : ∃ u, cs[j]? = some u := ⟨_, Array.getElem?_eq_getElem (by omega)⟩
      have r0 := cells_row hg j u hu
      have z0 : wr.frozen? ⟨w.heap.size, j, none⟩ = false := by simp [World.frozen?, hg]
      obtain ⟨q, hq⟩ : ∃ q : Nat, j % 26 = q := ⟨_, rfl⟩
      have e1 : (j : Int) % 26 = (q : Int) := by omega
      have e2 : (j : Int).tmod 26 = (q : Int) := by rw [← hq]; exact (Int.ofNat_tmod j 26).symm
      have q1 : q ≤ 25 := by omega
      have HQ := Lib.hid hq
      have HC := Lib.hid (And.intro hsz (And.intro hg hcs))
      clear hsz hg hcs hu hq
      go_wp2
      go_roundg (n - (j + 1))
      case measure => omega
      case rel =>
        refine ⟨j + 1, by omega, rfl, by go_num, Lib.hid ⟨HI.out.1.trans ((Fr.refl _ _).set1 _ _) (fun _ _ h => h), _, ?_, setCell_row j _ HC.out.2.1, fun i hi => ?_⟩⟩
        · simp [HC.out.1]
        · by_cases e : i = j
          · subst e
            rw [Array.getElem?_setIfInBounds_self, if_pos (by rw [HC.out.1]; exact hlt)]
            rw [HQ.out]
            unfold bv
            have : (UInt8.ofNat (97 + q)).toNat = 97 + q := by simp; omega
            rw [this]
            simp
          · rw [Array.getElem?_setIfInBounds_ne (fun h => e h.symm)]
            exact HC.out.2.2 i (by omega)
    · obtain rfl : j = n := by omega
      have hsee := sees_new (w := wr) (l := lettersE j) (c := j) w.heap.size hg (fun i hi => by rw [lettersE_length] at hi; rw [lettersE_at j i hi]; exact hcs i hi) (by rw [lettersE_length]; exact Nat.le_refl _)
      rw [lettersE_length] at hsee
      have hstr := hsee.string (P := Tryz.prog) 26 5 9 Tryz.underlying26 Tryz.underlying5 Tryz.underlying9
      have HC := Lib.hid (And.intro hsz (And.intro hg hcs))
      clear hsz hg hcs hsee
      go_wp2
      go_ret
      exact ⟨rfl, HI.out.1.mono (fun i hi h => by omega)⟩
end
section
theorem copysign_at (a b r : Nat) (h : (bits .or .u64 (bits .andNot .u64 (a : Int) 9223372036854775808) (bits .and .u64 (b : Int) 9223372036854775808)).toNat = r) (w : World) :
    Calls Tryz.prog 22 #[.float .f64 a, .float .f64 b] w fun e w' => e = .returned (.float .f64 r) ∧ w = w' := by
  have H := Lib.hid h; clear h
  go_enter Tryz.func22, Tryz.ntmps22
  go_wp2_with fail
  go_ret
  exact ⟨by rw [← H.out]; rfl, rfl⟩

theorem inf_any (n : Int) (w : World) : Calls Tryz.prog 21 #[.int .i64 n] w fun e w' => e = .returned (.float .f64 (if 0 ≤ n then 9218868437227405312 else 18442240474082181120)) ∧ w = w' := by
  go_enter Tryz.func21, Tryz.ntmps21
  go_wp2_with fail
  all_goals (go_ret; exact ⟨rfl, rfl⟩)

theorem nan_any (w : World) : Calls Tryz.prog 20 #[] w fun e w' => e = .returned (.float .f64 9221120237041090561) ∧ w = w' := by
  go_enter Tryz.func20, Tryz.ntmps20
  go_wp2_with fail
  go_ret
  exact ⟨rfl, rfl⟩

theorem nan_max : Fl.isNaN 9218868437227405311 = false := by decide +kernel
theorem key_max : Fl.key 9218868437227405311 = 9218868437227405311 := by decide +kernel

theorem float_of_int (n : Int) : floatOfInt .f64 n < 18446744073709551616 := Ieee.double.write_lt (.number (n < 0) n.natAbs 0)

theorem half_off (n : Int) : ∃ r : Nat, (r = 4602678819172646912 ∨ r = 13826050856027422720) ∧ ∀ (t : TypeId) (w : World), (binOp .sub t (.float .f64 (floatOfInt .f64 (n % 2))) (.float .f64 4602678819172646912)).run Tryz.prog w = .ok (.float .f64 r) w := by
  have h : n % 2 = 0 ∨ n % 2 = 1 := by omega
  rcases h with h | h <;> rw [h]
  · exact ⟨13826050856027422720, .inr rfl, fun t w => run_float_arith w .sub t .f64 _ _ _ (by decide +kernel)⟩
  · exact ⟨4602678819172646912, .inl rfl, fun t w => run_float_arith w .sub t .f64 _ _ _ (by decide +kernel)⟩

theorem float_any (n m : Int) (hn : 0 ≤ n) (hn' : n ≤ 18446744073709551615) (hm : 0 ≤ m) (hm' : m ≤ 255) (w : World) : Calls Tryz.prog 9 #[.int .u64 n, .int .u8 m] w fun e w' => ∃ b : Nat, b < 18446744073709551616 ∧ e = .returned (.float .f64 b) ∧ w = w' := by
  obtain ⟨r, hr, hs⟩ := half_off n
  go_enter Tryz.func9, Tryz.ntmps9
  go_wp2_with fail
  · refine (nan_any _).mono ?_
    rintro e w1 ⟨rfl, rfl⟩
    go_wp2_with fail
    go_ret
    exact ⟨_, by omega, rfl, rfl⟩
  · refine (inf_any _ _).mono ?_
    rintro e w1 ⟨rfl, rfl⟩
    generalize hx : (if 0 ≤ n % 2 * 2 - 1 then (9218868437227405312 : Nat) else 18442240474082181120) = x
    have hx' : x < 18446744073709551616 := by rw [← hx]; split <;> omega
    clear hx
    go_wp2_with fail
    go_ret
    exact ⟨_, hx', rfl, rfl⟩
  · rcases hr with rfl | rfl
    · refine (copysign_at _ _ 0 (by decide +kernel) _).mono ?_
      rintro e w1 ⟨rfl, rfl⟩
      go_wp2_with fail
      go_ret
      exact ⟨_, by omega, rfl, rfl⟩
    · refine (copysign_at _ _ 9223372036854775808 (by decide +kernel) _).mono ?_
      rintro e w1 ⟨rfl, rfl⟩
      go_wp2_with fail
      go_ret
      exact ⟨_, by omega, rfl, rfl⟩
  · go_ret
    exact ⟨_, float_of_int _, rfl, rfl⟩
  · go_ret
    exact ⟨_, float_of_int _, rfl, rfl⟩
  · go_ret
    exact ⟨_, by omega, rfl, rfl⟩
end
end Go.Proofs.YtplipjijaaejlaaGreat
