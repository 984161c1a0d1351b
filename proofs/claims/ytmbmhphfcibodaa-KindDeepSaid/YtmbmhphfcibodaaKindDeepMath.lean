/-
  Types in one another, some deep: whether they are right, and what they are made whole. No program is spoken of.
-/
import Derived.Test.YtmbmhphfcibodaaKindTab
import Derived.Test.YtmbmhphfcibodaaKindSameDef
namespace Go.Proofs.Ytmbmhphfcibodaa
open Go.RowKit

/-- A type that is n sequences deep. -/
def nest (m : Int) : Nat → KT
  | 0 => .mk 0 0 [] 0 (fun _ => .nil)
  | j + 1 => .mk 5 m [] 1 (fun _ => nest m j)

def refT (s : Txt) : KT := .mk 9 0 [s] 0 (fun _ => .nil)

def seqB : KT := .mk 5 2 [] 1 (fun _ => refT [98])

def tab1 (m : Int) (n : Nat) : KTab := ⟨[97], 0, 0, [([98], nest m n)], [], []⟩
def tab2 (m : Int) (n : Nat) : KTab := ⟨[97], 0, 0, [([98], nest m n), ([99], seqB)], [], []⟩

theorem right_nest (m : Int) (h0 : 1 ≤ m) (h1 : m ≤ 60) (known : List (Txt × KT)) (n : Nat) : ∀ lv, rightE known (nest m n) lv = if n < lv then 0 else 5 := by
  induction n with
  | zero =>
    intro lv
    cases lv with
    | zero => rfl
    | succ lv => simp [nest, rightE, sizedB, formedB, firstE]
  | succ n ih =>
    intro lv
    cases lv with
    | zero => simp [nest, rightE]
    | succ lv =>
      have := ih lv
      simp [nest, rightE, sizedB, formedB, firstE, h0, h1, this]

theorem name_b : nameE [] [98] = 0 := by kernel_rfl
theorem name_c : nameE [[98]] [99] = 0 := by kernel_rfl

theorem check_tab1 (m : Int) (h0 : 1 ≤ m) (h1 : m ≤ 60) (n : Nat) : checkE (tab1 m n) = if n < 5 then 0 else 5 := by
  have e1 : firstE (aliasE (tab1 m n).types) (tab1 m n).types.length = if n < 5 then 0 else 5 := by
    show (if firstE _ 0 = 0 then aliasE [([98], nest m n)] 0 else firstE _ 0) = _
    rw [show firstE (aliasE (tab1 m n).types) 0 = 0 from rfl, if_pos rfl]
    show (if nameE [] [98] = 0 then rightE [] (nest m n) 5 else nameE [] [98]) = _
    rw [name_b, if_pos rfl, right_nest m h0 h1]
  have e0 : checkE (tab1 m n) = if firstE (aliasE (tab1 m n).types) (tab1 m n).types.length ≠ 0 then firstE (aliasE (tab1 m n).types) (tab1 m n).types.length else 0 := by
    have hn : named [97] = true := by kernel_rfl
    have hv : validN 0 = true := by decide
    unfold checkE
    show (if !named [97] then 8 else if !validN 0 || !validN 0 then 2 else _) = _
    rw [hn, hv]
    rfl
  rw [e0, e1]
  by_cases h : n < 5 <;> simp [h]

theorem check_tab2 (m : Int) (h0 : 1 ≤ m) (h1 : m ≤ 60) (n : Nat) (h : n < 5) : checkE (tab2 m n) = 0 := by
  have e2 : aliasE (tab2 m n).types 1 = 0 := by
    show (if nameE [[98]] [99] = 0 then rightE [([98], nest m n)] seqB 5 else nameE [[98]] [99]) = 0
    rw [name_c, if_pos rfl]
    rfl
  have e1 : aliasE (tab2 m n).types 0 = 0 := by
    show (if nameE [] [98] = 0 then rightE [] (nest m n) 5 else nameE [] [98]) = 0
    rw [name_b, if_pos rfl, right_nest m h0 h1, if_pos h]
  have e3 : firstE (aliasE (tab2 m n).types) (tab2 m n).types.length = 0 := firstE_step _ 1 (firstE_step _ 0 rfl e1) e2
  have hn : named [97] = true := by kernel_rfl
  have hv : validN 0 = true := by decide
  unfold checkE
  show (if !named [97] then 8 else if !validN 0 || !validN 0 then 2 else _) = _
  rw [hn, hv]
  show (if firstE (aliasE (tab2 m n).types) (tab2 m n).types.length ≠ 0 then _ else _) = 0
  rw [e3]
  rfl

theorem whole_nest (m : Int) (n : Nat) : ∀ lv l al, n < lv → n < l → (wholeE lv al (nest m n) l).e = 0 ∧ sameE (wholeE lv al (nest m n) l).t (nest m n) = true := by
  induction n with
  | zero =>
    intro lv l al h1 h2
    cases lv with
    | zero => omega
    | succ lv =>
      have hl : l ≠ 0 := by omega
      simp [nest, wholeE, wholeAll, hl, sameE]
  | succ n ih =>
    intro lv l al h1 h2
    cases lv with
    | zero => omega
    | succ lv =>
      have hl : l ≠ 0 := by omega
      obtain ⟨i1, i2⟩ := ih lv (l - 1) al (by omega) (by omega)
      simp [nest, wholeE, wholeAll, hl, i1, sameE, i2]

/-- The law's whole type: a sequence of what stands for 'b'. -/
theorem whole_c (m : Int) (n : Nat) (h : n < 5) : (wholeE 20 (tab2 m n).types (refT [99]) 200).e = 0 ∧ ∃ W, (wholeE 20 (tab2 m n).types (refT [99]) 200).t = .mk 5 2 [] 1 (fun i => [W].getD i .nil) ∧ sameE W (nest m n) = true := by
  obtain ⟨i1, i2⟩ := whole_nest m n 17 199 [] (by omega) (by omega)
  have e1 : wholeE 20 (tab2 m n).types (refT [99]) 200 = wholeE 19 [([98], nest m n)] seqB 200 := rfl
  have e2 : wholeE 18 [([98], nest m n)] (refT [98]) 199 = wholeE 17 [] (nest m n) 199 := rfl
  have e3 : wholeE 19 [([98], nest m n)] seqB 200 = ⟨0, .mk 5 2 [] 1 (fun i => [(wholeE 17 [] (nest m n) 199).t].getD i .nil), (wholeE 17 [] (nest m n) 199).left⟩ := by
    rw [seqB, wholeE]
    simp only [wholeAll, e2, i1]
    rfl
  rw [e1, e3]
  exact ⟨rfl, _, rfl, i2⟩

theorem sz_nest (m : Int) (n : Nat) : sz (nest m n) = n + 1 := by
  induction n with
  | zero => rfl
  | succ n ih => simp [nest, sz, ih, Nat.add_comm]

end Go.Proofs.Ytmbmhphfcibodaa
