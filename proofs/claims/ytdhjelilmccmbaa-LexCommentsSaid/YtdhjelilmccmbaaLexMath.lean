/-
  What the tokens of a text are, as a plain function of its bytes (chapter 4), and facts on it. No program is spoken of.
-/
namespace Go.Proofs.Ytdhjelilmccmbaa

def isLet (c : UInt8) : Bool := decide (97 ≤ (c.toNat : Int) ∧ (c.toNat : Int) ≤ 122 ∨ 65 ≤ (c.toNat : Int) ∧ (c.toNat : Int) ≤ 90)
def isDig (c : UInt8) : Bool := decide (48 ≤ (c.toNat : Int) ∧ (c.toNat : Int) ≤ 57)
def isNam (c : UInt8) : Bool := isLet c || isDig c
def isLine (c : UInt8) : Bool := decide ((c.toNat : Int) ≠ 10)
def isSep (c : UInt8) : Bool := decide ((c.toNat : Int) = 32 ∨ (c.toNat : Int) = 9 ∨ (c.toNat : Int) = 10)
def isHash (c : UInt8) : Bool := decide ((c.toNat : Int) = 35)
def isSign (c : UInt8) : Bool := ([123, 125, 40, 41, 91, 93, 61, 58, 59, 44] : List UInt8).contains c

/-- How many bytes of the beginning are all fit. -/
def cnt (p : UInt8 → Bool) : List UInt8 → Nat
  | [] => 0
  | c :: l => if p c then cnt p l + 1 else 0

theorem cnt_le (p : UInt8 → Bool) (l : List UInt8) : cnt p l ≤ l.length := by
  induction l with
  | nil => exact Nat.le_refl _
  | cons c l ih => unfold cnt; split <;> simp <;> omega

theorem cnt_pos (p : UInt8 → Bool) (c : UInt8) (l : List UInt8) (h : p c = true) : 0 < cnt p (c :: l) := by
  unfold cnt; rw [if_pos h]; omega

/-- Behind k bytes that are fit, k more than what is fit of the rest. -/
theorem cnt_drop (p : UInt8 → Bool) (l : List UInt8) (k : Nat) (h : k < cnt p l) : p (l.getD k 0) = true := by
  induction l generalizing k with
  | nil => simp [cnt] at h
  | cons c l ih =>
    unfold cnt at h
    split at h
    · rename_i hc
      cases k with
      | zero => exact hc
      | succ k => exact ih k (by omega)
    · omega

theorem cnt_stop (p : UInt8 → Bool) (l : List UInt8) (k : Nat) (hk : k < l.length) (ha : ∀ j, j < k → p (l.getD j 0) = true) (h : p (l.getD k 0) = false) : cnt p l = k := by
  induction l generalizing k with
  | nil => simp at hk
  | cons c l ih =>
    cases k with
    | zero => unfold cnt; rw [if_neg (by simpa using h)]
    | succ k =>
      have h0 : p c = true := ha 0 (by omega)
      unfold cnt
      rw [if_pos h0, ih k (by simpa using hk) (fun j hj => ha (j + 1) (by omega)) h]

theorem cnt_all (p : UInt8 → Bool) (l : List UInt8) (ha : ∀ j, j < l.length → p (l.getD j 0) = true) : cnt p l = l.length := by
  induction l with
  | nil => rfl
  | cons c l ih =>
    have h0 : p c = true := ha 0 (by simp)
    unfold cnt
    rw [if_pos h0, ih fun j hj => ha (j + 1) (by simpa using hj)]
    rfl

/-- A byte that is not fit ends what is fit. -/
theorem cnt_append (p : UInt8 → Bool) (l r : List UInt8) (d : UInt8) (hd : p d = false) : cnt p (l ++ d :: r) = cnt p l := by
  induction l with
  | nil => unfold cnt; simp [hd]
  | cons c l ih => rw [List.cons_append]; unfold cnt; rw [ih]

/-- A byte of the first text that is not fit ends what is fit. -/
theorem cnt_append' (p : UInt8 → Bool) (l r : List UInt8) (h : cnt p l < l.length) : cnt p (l ++ r) = cnt p l := by
  induction l with
  | nil => simp at h
  | cons c l ih =>
    rw [List.cons_append]
    unfold cnt at h ⊢
    by_cases hc : p c = true
    · rw [if_pos hc] at h ⊢
      rw [if_pos hc, ih (by simp at h; omega)]
    · rw [if_neg hc, if_neg hc]

theorem cnt_last (p : UInt8 → Bool) (l : List UInt8) (d : UInt8) (hd : p d = false) : cnt p (l ++ [d]) < (l ++ [d]).length := by
  have := cnt_append p l [] d hd
  have h2 := cnt_le p l
  simp only [List.length_append, List.length_cons, List.length_nil]
  omega

/-- A token: its kind, where it begins, what it consists of. -/
structure Tok where
  kind : Nat
  pos : Nat
  text : List UInt8

/-- What begins a text that isn't empty: bytes that are passed over, a token of so many bytes, or an error. -/
inductive Step where
  | skip (n : Nat)
  | tok (k n : Nat)
  | bad (e : Nat)

def numStep (c : UInt8) (n : Nat) : Step := if 10 < n ∨ 1 < n ∧ (c.toNat : Int) = 48 then .bad 22 else .tok 2 n

def step (c : UInt8) (l : List UInt8) : Step :=
  if isSep c then .skip 1
  else if isHash c then .skip (cnt isLine (c :: l))
  else if isLet c then .tok 1 (cnt isNam (c :: l))
  else if isDig c then numStep c (cnt isDig (c :: l))
  else if isSign c then .tok 3 1
  else .bad 13

def Step.len : Step → Nat
  | .skip n => n
  | .tok _ n => n
  | .bad _ => 1

theorem step_len (c : UInt8) (l : List UInt8) : 1 ≤ (step c l).len ∧ (step c l).len ≤ l.length + 1 := by
  have hle : ∀ p, cnt p (c :: l) ≤ l.length + 1 := fun p => by simpa using cnt_le p (c :: l)
  unfold step numStep
  split
  · exact ⟨Nat.le_refl _, by show 1 ≤ _; omega⟩
  · split
    · rename_i h
      refine ⟨cnt_pos _ _ _ ?_, hle _⟩
      simp only [isHash, isLine, decide_eq_true_eq] at *; omega
    · split
      · rename_i h
        exact ⟨cnt_pos _ _ _ (by simp [isNam, h]), hle _⟩
      · split
        · rename_i h
          split
          · exact ⟨Nat.le_refl _, by show 1 ≤ _; omega⟩
          · exact ⟨cnt_pos _ _ _ h, hle _⟩
        · split
          · exact ⟨Nat.le_refl _, by show 1 ≤ _; omega⟩
          · exact ⟨Nat.le_refl _, by show 1 ≤ _; omega⟩

/-- Tokens, or an error and where. -/
inductive Res where
  | ok (ts : List Tok)
  | err (at_ e : Nat)

def Res.pre (acc : List Tok) : Res → Res
  | .ok ts => .ok (acc ++ ts)
  | .err a e => .err a e

theorem Res.pre_nil (r : Res) : r.pre [] = r := by cases r <;> rfl
theorem Res.pre_pre (a b : List Tok) (r : Res) : (r.pre b).pre a = r.pre (a ++ b) := by cases r <;> simp [Res.pre]

def Res.toks : Res → List Tok
  | .ok ts => ts
  | .err _ _ => []
def Res.where_ : Res → Nat
  | .ok _ => 0
  | .err a _ => a
def Res.code : Res → Nat
  | .ok _ => 0
  | .err _ e => e

def lexF : Nat → Nat → List UInt8 → Res
  | _, a, [] => .ok [⟨0, a, []⟩]
  | 0, a, _ :: _ => .err a 0
  | f + 1, a, c :: l => match step c l with
    | .skip n => lexF f (a + n) ((c :: l).drop n)
    | .tok k n => (lexF f (a + n) ((c :: l).drop n)).pre [⟨k, a, (c :: l).take n⟩]
    | .bad e => .err a e

theorem lexF_fuel (f g a : Nat) (l : List UInt8) (hf : l.length ≤ f) (hg : l.length ≤ g) : lexF f a l = lexF g a l := by
  induction f generalizing g a l with
  | zero =>
    cases l with
    | nil => cases g <;> rfl
    | cons c l => simp at hf
  | succ f ih =>
    cases l with
    | nil => cases g <;> rfl
    | cons c l =>
      cases g with
      | zero => simp at hg
      | succ g =>
        have hs := step_len c l
        unfold lexF
        cases h : step c l with
        | skip n =>
          rw [h] at hs
          simp only [Step.len] at hs
          simp only [List.length_cons] at hf hg
          exact ih g _ _ (by rw [List.length_drop]; simp; omega) (by rw [List.length_drop]; simp; omega)
        | tok k n =>
          rw [h] at hs
          simp only [Step.len] at hs
          simp only [List.length_cons] at hf hg
          simp only
          rw [ih g _ _ (by rw [List.length_drop]; simp; omega) (by rw [List.length_drop]; simp; omega)]
        | bad e => rfl

/-- The tokens of a text that begins at a. -/
def lexA (a : Nat) (l : List UInt8) : Res := lexF l.length a l

theorem lexA_nil (a : Nat) : lexA a [] = .ok [⟨0, a, []⟩] := rfl

theorem lexA_cons (a : Nat) (c : UInt8) (l : List UInt8) : lexA a (c :: l) = match step c l with
    | .skip n => lexA (a + n) ((c :: l).drop n)
    | .tok k n => (lexA (a + n) ((c :: l).drop n)).pre [⟨k, a, (c :: l).take n⟩]
    | .bad e => .err a e := by
  have hs := step_len c l
  show lexF (l.length + 1) a (c :: l) = _
  unfold lexF lexA
  cases h : step c l with
  | skip n =>
    rw [h] at hs
    simp only [Step.len] at hs
    simp only
    exact lexF_fuel _ _ _ _ (by rw [List.length_drop]; simp; omega) (by rw [List.length_drop]; simp)
  | tok k n =>
    rw [h] at hs
    simp only [Step.len] at hs
    simp only
    rw [lexF_fuel l.length ((c :: l).drop n).length (a + n) _ (by rw [List.length_drop]; simp; omega) (Nat.le_refl _)]
  | bad e => rfl

def Tok.shift (d : Nat) (t : Tok) : Tok := ⟨t.kind, t.pos + d, t.text⟩
def Res.shift (d : Nat) : Res → Res
  | .ok ts => .ok (ts.map (Tok.shift d))
  | .err a e => .err (a + d) e

theorem Res.shift_pre (d : Nat) (acc : List Tok) (r : Res) : (r.pre acc).shift d = (r.shift d).pre (acc.map (Tok.shift d)) := by
  cases r <;> simp [Res.pre, Res.shift]

/-- Where a text begins moves its tokens, and nothing else. -/
theorem lexA_shift (n : Nat) (l : List UInt8) (hn : l.length ≤ n) (a d : Nat) : lexA (a + d) l = (lexA a l).shift d := by
  induction n generalizing l a with
  | zero =>
    obtain rfl := List.eq_nil_of_length_eq_zero (by omega : l.length = 0)
    rfl
  | succ n ih =>
    cases l with
    | nil => rfl
    | cons c l =>
      have hs := step_len c l
      rw [lexA_cons, lexA_cons]
      simp only [List.length_cons] at hn
      cases h : step c l with
      | skip m =>
        rw [h] at hs
        simp only [Step.len] at hs
        simp only
        rw [show a + d + m = a + m + d by omega]
        exact ih _ (by rw [List.length_drop, List.length_cons]; omega) _
      | tok k m =>
        rw [h] at hs
        simp only [Step.len] at hs
        simp only
        rw [show a + d + m = a + m + d by omega, ih _ (by rw [List.length_drop, List.length_cons]; omega), Res.shift_pre]
        rfl
      | bad e => rfl

/-- The tokens but the end. -/
def Res.init : Res → List Tok
  | .ok ts => ts.take (ts.length - 1)
  | .err _ _ => []

/-- What two texts are together: the first one's tokens but the end, and the second one's; or the first one's error; or the second one's. -/
def Res.andThen : Res → Res → Res
  | .ok ts, r => r.pre (ts.take (ts.length - 1))
  | .err a e, _ => .err a e

theorem lexA_ne (n : Nat) (l : List UInt8) (hn : l.length ≤ n) (a : Nat) (ts : List Tok) (h : lexA a l = .ok ts) : 1 ≤ ts.length := by
  induction n generalizing l a ts with
  | zero =>
    obtain rfl := List.eq_nil_of_length_eq_zero (by omega : l.length = 0)
    rw [lexA_nil] at h
    cases h
    simp
  | succ n ih =>
    cases l with
    | nil =>
      rw [lexA_nil] at h
      cases h
      simp
    | cons c l =>
      have hs := step_len c l
      rw [lexA_cons] at h
      simp only [List.length_cons] at hn
      cases hst : step c l with
      | skip m =>
        rw [hst] at hs h
        simp only [Step.len] at hs
        exact ih _ (by rw [List.length_drop, List.length_cons]; omega) _ _ h
      | tok k m =>
        rw [hst] at hs h
        simp only at h
        cases hr : lexA (a + m) ((c :: l).drop m) with
        | ok us => rw [hr] at h; simp only [Res.pre] at h; cases h; simp
        | err _ _ => rw [hr] at h; simp [Res.pre] at h
      | bad e => rw [hst] at h; simp at h

theorem step_append (c : UInt8) (l : List UInt8) (r : List UInt8) (hl : (c :: l).getLast (by simp) = 10) : step c (l ++ r) = step c l := by
  have hc : ∀ p, p (10 : UInt8) = false → cnt p (c :: (l ++ r)) = cnt p (c :: l) := by
    intro p hp
    rw [← List.cons_append]
    refine cnt_append' p _ _ ?_
    rw [← List.dropLast_concat_getLast (l := c :: l) (by simp), hl]
    exact cnt_last p _ _ hp
  unfold step
  rw [hc isLine (by decide), hc isNam (by decide), hc isDig (by decide)]

theorem getLast_drop {l : List UInt8} {m : Nat} (hm : m < l.length) : (l.drop m).getLast (by intro h; have := congrArg List.length h; simp at this; omega) = l.getLast (by intro h; subst h; simp at hm) := by
  rw [List.getLast_eq_getElem, List.getLast_eq_getElem]
  simp only [List.length_drop, List.getElem_drop]
  congr 1
  omega

theorem List.take_of_step {l r : List UInt8} {m : Nat} (hm : m ≤ l.length) : (l ++ r).take m = l.take m := by
  rw [List.take_append_of_le_length hm]

/-- A text that ends with a line's end, and another one behind it. -/
theorem lexA_append (n : Nat) (l r : List UInt8) (hn : l.length ≤ n) (a : Nat) (hl : ∀ h : l ≠ [], l.getLast h = 10) :
    lexA a (l ++ r) = (lexA a l).andThen (lexA (a + l.length) r) := by
  induction n generalizing l a with
  | zero =>
    obtain rfl := List.eq_nil_of_length_eq_zero (by omega : l.length = 0)
    simp [lexA_nil, Res.andThen, Res.pre_nil]
  | succ n ih =>
    cases l with
    | nil => simp [lexA_nil, Res.andThen, Res.pre_nil]
    | cons c l =>
      have hs := step_len c l
      simp only [List.length_cons] at hn
      have hdrop : ∀ m, 1 ≤ m → m ≤ l.length + 1 → lexA (a + m) ((c :: l).drop m ++ r) = (lexA (a + m) ((c :: l).drop m)).andThen (lexA (a + (l.length + 1)) r) := by
        intro m h1 h2
        have := ih ((c :: l).drop m) (by rw [List.length_drop, List.length_cons]; omega) (a + m) (fun h => by
          have hlt : m < (c :: l).length := by
            rw [← Nat.not_le]; intro hge; exact h (List.drop_of_length_le hge)
          rw [getLast_drop hlt]
          exact hl (by simp))
        rw [this]
        congr 2
        rw [List.length_drop, List.length_cons]; omega
      rw [List.cons_append, lexA_cons, lexA_cons, step_append c l r (hl (by simp)), List.length_cons]
      cases h : step c l with
      | skip m =>
        rw [h] at hs
        simp only [Step.len] at hs
        simp only
        rw [← List.cons_append, List.drop_append_of_le_length (by simp; omega)]
        exact hdrop m hs.1 hs.2
      | tok k m =>
        rw [h] at hs
        simp only [Step.len] at hs
        simp only
        rw [← List.cons_append, List.drop_append_of_le_length (by simp; omega), List.take_append_of_le_length (by simp; omega), hdrop m hs.1 hs.2]
        cases hr : lexA (a + m) ((c :: l).drop m) with
        | ok us =>
          have hne := lexA_ne _ _ (Nat.le_refl _) _ _ hr
          show ((lexA (a + (l.length + 1)) r).pre (us.take (us.length - 1))).pre [_] = (lexA (a + (l.length + 1)) r).pre (([_] ++ us).take (([_] ++ us).length - 1))
          rw [Res.pre_pre, List.length_append, List.length_singleton, show 1 + us.length - 1 = (us.length - 1) + 1 by omega]
          rfl
        | err _ _ => rfl
      | bad e => rfl

theorem lexA_shift0 (l : List UInt8) (d : Nat) : lexA d l = (lexA 0 l).shift d := by
  have := lexA_shift _ l (Nat.le_refl _) 0 d
  rwa [Nat.zero_add] at this

end Go.Proofs.Ytdhjelilmccmbaa
