/-
  What ChOnce rests on, part 9: Pax, ChFly, ChOnceMem.
-/
import Derived.Test.YtcjfinabffpgkaaS08
import Derived.Deep.OwnRows
set_option linter.unusedVariables false
set_option linter.unusedSimpArgs false
set_option maxHeartbeats 64000000
namespace Go.Proofs.Ytcjfinabffpgkaa
open Go.RowKit
open Go.Lib (hid)
section
/-- A ballot as one number. -/
def cod (r n : Int) : Nat := (8 * r + n).toNat
def BaOk (r n : Int) : Prop := 0 ≤ r ∧ 0 ≤ n ∧ n ≤ 5

theorem cod_lt {r n r' n' : Int} (h : BaOk r n) (h' : BaOk r' n') : blt r n r' n' = true ↔ cod r n < cod r' n' := by
  rw [blt_iff]
  unfold cod BaOk at *
  omega
theorem cod_ge {r n r' n' : Int} (h : BaOk r n) (h' : BaOk r' n') : blt r n r' n' = false ↔ cod r' n' ≤ cod r n := by
  have := cod_lt h h'
  cases hb : blt r n r' n' with
  | true => rw [hb] at this; simp at this; simp; omega
  | false => rw [hb] at this; simp at this; simp; omega
theorem cod_inj {r n r' n' : Int} (h : BaOk r n) (h' : BaOk r' n') (e : cod r n = cod r' n') : r = r' ∧ n = n' := by
  unfold cod BaOk at *
  omega

/-- More than half. -/
def Maj (ms q : List Int) : Prop := (ms.length : Int) < 2 * (inC ms q : Int)

theorem maj_meet {ms p q : List Int} (hp : Maj ms p) (hq : Maj ms q) : ∃ a, a ∈ ms ∧ a ∈ p ∧ a ∈ q := by
  apply Classical.byContradiction
  intro hno
  have key : ∀ l : List Int, (∀ a ∈ l, ¬ (a ∈ p ∧ a ∈ q)) → l.countP (fun x => decide (x ∈ p)) + l.countP (fun x => decide (x ∈ q)) ≤ l.length := by
    intro l
    induction l with
    | nil => intro _; simp
    | cons a t ih =>
      intro h
      have h1 := ih (fun b hb => h b (.tail _ hb))
      have h2 := h a (.head _)
      rw [List.countP_cons, List.countP_cons, List.length_cons]
      by_cases ha : a ∈ p
      · have hb : a ∉ q := fun hb => h2 ⟨ha, hb⟩
        simp [ha, hb]; omega
      · by_cases hb : a ∈ q
        · simp [ha, hb]; omega
        · simp [ha, hb]; omega
  have := key ms (fun a ha h => hno ⟨a, ha, h.1, h.2⟩)
  unfold Maj inC at *
  omega

/-- A letter between voters and chairs. -/
structure Flt where
  k : Int
  f : Int
  t : Int
  br : Int
  bn : Int
  wr : Int
  wn : Int
  s : Bool
  x : En

abbrev Vals := Nat → Option En
abbrev Accs := Int → Nat → Prop

/-- What a member keeps. -/
structure VtOkP (v : VtN) (a : Int) (val : Vals) (acc : Accs) : Prop where
  bo : BaOk v.pr v.pn
  ao : BaOk v.ar v.an
  le : ∀ b, acc a b → b ≤ cod v.pr v.pn
  no : v.s = false → ∀ b, ¬ acc a b
  yes : v.s = true → acc a (cod v.ar v.an) ∧ val (cod v.ar v.an) = some v.x ∧ ∀ b, acc a b → b ≤ cod v.ar v.an

/-- Nothing that may come from those in q, below b, but what is reported. -/
def Clear (q : List Int) (b : Nat) (acc : Accs) (rep : Bool) (g : Nat) (x : En) (val : Vals) : Prop :=
  (rep = false → ∀ a ∈ q, ∀ c, c < b → ¬ acc a c) ∧ (rep = true → g < b ∧ val g = some x ∧ ∀ a ∈ q, ∀ c, g < c → c < b → ¬ acc a c)

/-- What a chair keeps. -/
structure ChOkP (c : ChN) (n : Int) (rd : Int) (V : Int → VtN) (val : Vals) (acc : Accs) : Prop where
  bo : BaOk c.br c.bn
  go : BaOk c.gr c.gn
  rd : c.br ≤ rd
  ph0 : 0 ≤ c.ph
  idle : c.ph = 0 → c.br = 0 ∧ c.bn = 0
  node : 1 ≤ c.ph → c.bn = n ∧ 1 ≤ c.br
  fresh : c.ph ≤ 1 → val (cod c.br c.bn) = none
  ask : c.ph = 1 → (∀ a ∈ c.h, cod c.br c.bn ≤ cod (V a).pr (V a).pn) ∧ Clear c.h (cod c.br c.bn) acc c.rep (cod c.gr c.gn) c.x val
  put : 2 ≤ c.ph → val (cod c.br c.bn) = some c.x
  vot : c.ph = 2 → ∀ a ∈ c.h, acc a (cod c.br c.bn)

/-- What a letter says. -/
structure FlOk (f : Flt) (V : Int → VtN) (val : Vals) (acc : Accs) : Prop where
  bo : BaOk f.br f.bn
  wo : BaOk f.wr f.wn
  k0 : 0 ≤ f.k
  prom : f.k = 1 → cod f.br f.bn ≤ cod (V f.f).pr (V f.f).pn ∧ Clear [f.f] (cod f.br f.bn) acc f.s (cod f.wr f.wn) f.x val
  vote : f.k = 2 → val (cod f.br f.bn) = some f.x
  vtd : 3 ≤ f.k → acc f.f (cod f.br f.bn)

def Safe (ms : List Int) (V : Int → VtN) (val : Vals) (acc : Accs) (b : Nat) (x : En) : Prop :=
  ∃ q, Maj ms q ∧ (∀ a ∈ q, b ≤ cod (V a).pr (V a).pn) ∧ ∃ rep g, Clear q b acc rep g x val

/-- What all of them keep. -/
structure Pax (ms : List Int) (V : Int → VtN) (C : Int → ChN) (rd : Int) (val : Vals) (acc : Accs) : Prop where
  vt : ∀ a ∈ ms, VtOkP (V a) a val acc
  ch : ∀ n ∈ ms, ChOkP (C n) n rd V val acc
  has : ∀ a b, acc a b → val b ≠ none
  safe : ∀ b x, val b = some x → Safe ms V val acc b x
  own : ∀ b x, val b = some x → ∃ n ∈ ms, ∃ r m, BaOk r m ∧ b = cod r m ∧ m = n ∧ b ≤ cod (C n).br (C n).bn

/-- An entry that more than half accepted. -/
def Cho (ms : List Int) (val : Vals) (acc : Accs) (x : En) : Prop := ∃ b q, Maj ms q ∧ val b = some x ∧ ∀ a ∈ q, acc a b

theorem cho_below {ms : List Int} {V : Int → VtN} {C : Int → ChN} {rd : Int} {val : Vals} {acc : Accs} (h : Pax ms V C rd val acc) {c : Nat} {y : En} {p : List Int} (hp : Maj ms p) (hy : val c = some y) (ha : ∀ a ∈ p, acc a c) :
    ∀ (b : Nat) (x : En), c ≤ b → val b = some x → x = y := by
  intro b
  induction b using Nat.strongRecOn with
  | _ b ih =>
    intro x hcb hx
    by_cases he : c = b
    · subst he
      rw [hy] at hx
      exact (Option.some.inj hx).symm
    obtain ⟨q, hq, _, rep, g, h0, h1⟩ := h.safe b x hx
    obtain ⟨a, _, hap, haq⟩ := maj_meet hp hq
    cases rep with
    | false => exact absurd (ha a hap) (h0 rfl a haq c (by omega))
    | true =>
      obtain ⟨hg, hv, hn⟩ := h1 rfl
      by_cases hcg : c ≤ g
      · exact ih g hg x hcg hv
      · exact absurd (ha a hap) (hn a haq c (by omega) (by omega))

theorem cho_one {ms : List Int} {V : Int → VtN} {C : Int → ChN} {rd : Int} {val : Vals} {acc : Accs} (h : Pax ms V C rd val acc) {x y : En} (hx : Cho ms val acc x) (hy : Cho ms val acc y) : x = y := by
  obtain ⟨b, q, hq, hb, ha⟩ := hx
  obtain ⟨c, p, hp, hc, ha'⟩ := hy
  by_cases hcb : c ≤ b
  · exact cho_below h hp hc ha' b x hcb hb
  · exact (cho_below h hq hb ha c y (by omega) hc).symm

/-- One member's, or chair's, state is another one. -/
def upd {α : Type} (f : Int → α) (i : Int) (v : α) : Int → α := fun j => if j = i then v else f j
theorem upd_same {α : Type} (f : Int → α) (i : Int) (v : α) : upd f i v i = v := by simp [upd]
theorem upd_ne {α : Type} (f : Int → α) {i j : Int} (v : α) (h : j ≠ i) : upd f i v j = f j := by simp [upd, h]

/-- Later: ballots that are promised don't fall; what is put to the vote stays; what is accepted stays; nothing is accepted below what was promised. -/
structure Later (V V' : Int → VtN) (val val' : Vals) (acc acc' : Accs) : Prop where
  p : ∀ a, cod (V a).pr (V a).pn ≤ cod (V' a).pr (V' a).pn
  v : ∀ b x, val b = some x → val' b = some x
  a : ∀ a b, acc a b → acc' a b
  n : ∀ a b, b < cod (V a).pr (V a).pn → acc' a b → acc a b

theorem Later.refl (V : Int → VtN) (val : Vals) (acc : Accs) : Later V V val val acc acc := ⟨fun _ => Nat.le_refl _, fun _ _ h => h, fun _ _ h => h, fun _ _ _ h => h⟩

theorem Clear.later {V V' : Int → VtN} {val val' : Vals} {acc acc' : Accs} (l : Later V V' val val' acc acc') {q : List Int} {b : Nat} {rep : Bool} {g : Nat} {x : En} (h : Clear q b acc rep g x val) (hq : ∀ a ∈ q, b ≤ cod (V a).pr (V a).pn) : Clear q b acc' rep g x val' := by
  refine ⟨fun hr a ha c hc hac => h.1 hr a ha c hc (l.n a c (by have := hq a ha; omega) hac), fun hr => ?_⟩
  obtain ⟨h1, h2, h3⟩ := h.2 hr
  exact ⟨h1, l.v _ _ h2, fun a ha c hgc hc hac => h3 a ha c hgc hc (l.n a c (by have := hq a ha; omega) hac)⟩

theorem FlOk.later {V V' : Int → VtN} {val val' : Vals} {acc acc' : Accs} (l : Later V V' val val' acc acc') {f : Flt} (h : FlOk f V val acc) : FlOk f V' val' acc' :=
  ⟨h.bo, h.wo, h.k0, fun hk => ⟨Nat.le_trans (h.prom hk).1 (l.p _), (h.prom hk).2.later l (fun a ha => by simp at ha; subst ha; exact (h.prom hk).1)⟩, fun hk => l.v _ _ (h.vote hk), fun hk => l.a _ _ (h.vtd hk)⟩

theorem Safe.later {ms : List Int} {V V' : Int → VtN} {val val' : Vals} {acc acc' : Accs} (l : Later V V' val val' acc acc') {b : Nat} {x : En} (h : Safe ms V val acc b x) : Safe ms V' val' acc' b x := by
  obtain ⟨q, h1, h2, rep, g, h3⟩ := h
  exact ⟨q, h1, fun a ha => Nat.le_trans (h2 a ha) (l.p a), rep, g, h3.later l h2⟩

theorem Cho.later {ms : List Int} {V V' : Int → VtN} {val val' : Vals} {acc acc' : Accs} (l : Later V V' val val' acc acc') {x : En} (h : Cho ms val acc x) : Cho ms val' acc' x := by
  obtain ⟨b, q, h1, h2, h3⟩ := h
  exact ⟨b, q, h1, l.v _ _ h2, fun a ha => l.a _ _ (h3 a ha)⟩

/-- A chair keeps what it keeps, where nothing is put to the vote with its ballot. -/
theorem ChOkP.later {V V' : Int → VtN} {val val' : Vals} {acc acc' : Accs} (l : Later V V' val val' acc acc') {c : ChN} {n rd rd' : Int} (h : ChOkP c n rd V val acc) (hr : rd ≤ rd') (hv : c.ph ≤ 1 → val' (cod c.br c.bn) = none) : ChOkP c n rd' V' val' acc' :=
  ⟨h.bo, h.go, by have := h.rd; omega, h.ph0, h.idle, h.node, hv, fun hp => ⟨fun a ha => Nat.le_trans ((h.ask hp).1 a ha) (l.p a), (h.ask hp).2.later l (h.ask hp).1⟩, fun hp => l.v _ _ (h.put hp), fun hp a ha => l.a _ _ (h.vot hp a ha)⟩

/-- A chair is opened. -/
theorem pax_open {ms : List Int} {V : Int → VtN} {C : Int → ChN} {rd : Int} {val : Vals} {acc : Accs} (h : Pax ms V C rd val acc) {n : Int} (hn : n ∈ ms) (h0 : 0 ≤ n ∧ n ≤ 5) {rd' : Int} (hr : rd ≤ rd') (hr1 : 1 ≤ rd') (hne : beq2 (C n).br (C n).bn rd' n = false) (y : En) :
    Pax ms V (upd C n (ChN.open rd' n y)) rd' val acc := by
  have hc := h.ch n hn
  have hlt : cod (C n).br (C n).bn < cod rd' n := by
    have hb := hc.bo
    have h1 := hc.rd
    have h2 := hc.idle
    have h3 := hc.node
    have hp := hc.ph0
    unfold beq2 at hne
    unfold cod BaOk at *
    by_cases hz : (C n).ph = 0
    · have := h2 hz; omega
    · have h4 := h3 (by omega)
      have : (C n).br ≠ rd' := by
        intro e
        rw [e, h4.1] at hne
        simp at hne
      omega
  have hfr : val (cod rd' n) = none := by
    cases hv : val (cod rd' n) with
    | none => rfl
    | some x =>
      exfalso
      obtain ⟨n', hn', r, m, hbo, e, rfl, hle⟩ := h.own _ _ hv
      have := (cod_inj (show BaOk rd' n from ⟨by omega, h0.1, h0.2⟩) hbo e)
      obtain ⟨_, rfl⟩ := this
      omega
  refine ⟨h.vt, ?_, h.has, h.safe, ?_⟩
  · intro m hm
    by_cases e : m = n
    · subst e
      rw [upd_same]
      exact ⟨⟨by show 0 ≤ rd'; omega, h0.1, h0.2⟩, ⟨by show (0 : Int) ≤ 0; omega, by show (0 : Int) ≤ 0; omega, by show (0 : Int) ≤ 5; omega⟩, Int.le_refl _, by show (0 : Int) ≤ 1; omega, fun hp => absurd hp (by show ¬ (1 : Int) = 0; omega), fun _ => ⟨rfl, hr1⟩, fun _ => hfr,
        fun _ => ⟨fun a ha => (by cases ha), fun _ a ha => (by cases ha), fun hrep => (by cases hrep)⟩, fun hp => absurd hp (by show ¬ 2 ≤ (1 : Int); omega), fun hp => absurd hp (by show ¬ (1 : Int) = 2; omega)⟩
    · rw [upd_ne _ _ e]
      exact (h.ch m hm).later (Later.refl _ _ _) hr (h.ch m hm).fresh
  · intro b x hb
    obtain ⟨m, hm, r, m', hbo, e, e2, hle⟩ := h.own b x hb
    refine ⟨m, hm, r, m', hbo, e, e2, ?_⟩
    by_cases e3 : m = n
    · subst e3
      rw [upd_same]
      show b ≤ cod rd' m
      omega
    · rw [upd_ne _ _ e3]
      exact hle

/-- A member promises. -/
theorem promise_later {ms : List Int} {V : Int → VtN} {C : Int → ChN} {rd : Int} {val : Vals} {acc : Accs} (h : Pax ms V C rd val acc) {a : Int} (ha : a ∈ ms) {r m : Int} (hb : BaOk r m) : Later V (upd V a ((V a).promise r m)) val val acc acc := by
  refine ⟨fun i => ?_, fun _ _ h => h, fun _ _ h => h, fun _ _ _ h => h⟩
  by_cases e : i = a
  · subst e
    rw [upd_same]
    unfold VtN.promise
    have hv := (h.vt i ha).bo
    split
    · next hl => exact Nat.le_of_lt ((cod_lt hv hb).1 hl)
    · exact Nat.le_refl _
  · rw [upd_ne _ _ e]; exact Nat.le_refl _

theorem pax_promise {ms : List Int} {V : Int → VtN} {C : Int → ChN} {rd : Int} {val : Vals} {acc : Accs} (h : Pax ms V C rd val acc) {a : Int} (ha : a ∈ ms) {r m : Int} (hb : BaOk r m) : Pax ms (upd V a ((V a).promise r m)) C rd val acc := by
  have l := promise_later h ha hb
  refine ⟨?_, fun n hn => (h.ch n hn).later l (Int.le_refl _) (h.ch n hn).fresh, h.has, fun b x hx => (h.safe b x hx).later l, h.own⟩
  intro i hi
  by_cases e : i = a
  · subst e
    have hv := h.vt i hi
    have hp := l.p i
    rw [upd_same] at hp ⊢
    unfold VtN.promise at *
    split at hp
    · next hl =>
      rw [if_pos hl]
      exact ⟨hb, hv.ao, fun b hab => Nat.le_trans (hv.le b hab) hp, hv.no, hv.yes⟩
    · next hl =>
      rw [if_neg hl]
      exact hv
  · rw [upd_ne _ _ e]; exact h.vt i hi

/-- The letter of a promise. -/
theorem fl_promise {ms : List Int} {V : Int → VtN} {C : Int → ChN} {rd : Int} {val : Vals} {acc : Accs} (h : Pax ms V C rd val acc) {a : Int} (ha : a ∈ ms) {r m : Int} (hb : BaOk r m) (hl : blt (V a).pr (V a).pn r m = true) (tt : Int) :
    FlOk ⟨1, a, tt, r, m, (V a).ar, (V a).an, (V a).s, (V a).x⟩ (upd V a ((V a).promise r m)) val acc := by
  have hv := h.vt a ha
  have hlt := (cod_lt hv.bo hb).1 hl
  refine ⟨hb, hv.ao, by show (0 : Int) ≤ 1; omega, fun _ => ⟨?_, ?_, ?_⟩, fun hk => absurd hk (by show ¬ (1 : Int) = 2; omega), fun hk => absurd hk (by show ¬ 3 ≤ (1 : Int); omega)⟩
  · show cod r m ≤ cod (upd V a ((V a).promise r m) a).pr (upd V a ((V a).promise r m) a).pn
    rw [upd_same]
    unfold VtN.promise
    rw [if_pos hl]
    exact Nat.le_refl _
  · intro hs i hi c _
    simp at hi
    subst hi
    exact hv.no hs c
  · intro hs
    obtain ⟨h1, h2, h3⟩ := hv.yes hs
    refine ⟨?_, h2, fun i hi c hgc _ hac => ?_⟩
    · have := hv.le _ h1
      show cod (V a).ar (V a).an < cod r m
      omega
    · simp at hi
      subst hi
      have := h3 c hac
      have : cod (V i).ar (V i).an < c := hgc
      omega

/-- What is accepted with one ballot more. -/
def accU (acc : Accs) (a : Int) (b : Nat) : Accs := fun i c => acc i c ∨ (i = a ∧ c = b)

theorem accept_later {ms : List Int} {V : Int → VtN} {C : Int → ChN} {rd : Int} {val : Vals} {acc : Accs} (h : Pax ms V C rd val acc) {a : Int} (ha : a ∈ ms) {r m : Int} (hb : BaOk r m) (hl : blt r m (V a).pr (V a).pn = false) (y : En) :
    Later V (upd V a ((V a).accept r m y)) val val acc (accU acc a (cod r m)) := by
  have hv := (h.vt a ha).bo
  have hle := (cod_ge hb hv).1 hl
  refine ⟨fun i => ?_, fun _ _ h => h, fun _ _ h => .inl h, fun i c hc hac => ?_⟩
  · by_cases e : i = a
    · subst e
      rw [upd_same]
      unfold VtN.accept
      rw [if_neg (by rw [hl]; decide)]
      exact hle
    · rw [upd_ne _ _ e]; exact Nat.le_refl _
  · rcases hac with hac | ⟨rfl, rfl⟩
    · exact hac
    · omega

theorem pax_accept {ms : List Int} {V : Int → VtN} {C : Int → ChN} {rd : Int} {val : Vals} {acc : Accs} (h : Pax ms V C rd val acc) {a : Int} (ha : a ∈ ms) {r m : Int} (hb : BaOk r m) (hl : blt r m (V a).pr (V a).pn = false) {y : En} (hy : val (cod r m) = some y) :
    Pax ms (upd V a ((V a).accept r m y)) C rd val (accU acc a (cod r m)) := by
  have l := accept_later h ha hb hl y
  have hv := (h.vt a ha).bo
  have hle := (cod_ge hb hv).1 hl
  refine ⟨?_, fun n hn => (h.ch n hn).later l (Int.le_refl _) (h.ch n hn).fresh, ?_, fun b x hx => (h.safe b x hx).later l, h.own⟩
  · intro i hi
    by_cases e : i = a
    · subst e
      rw [upd_same]
      unfold VtN.accept
      rw [if_neg (by rw [hl]; decide)]
      have hall : ∀ b, accU acc i (cod r m) i b → b ≤ cod r m := fun b hab => by
        rcases hab with hab | ⟨_, rfl⟩
        · have := (h.vt i hi).le b hab; omega
        · exact Nat.le_refl _
      exact ⟨hb, hb, hall, fun hs => (by cases hs), fun _ => ⟨.inr ⟨rfl, rfl⟩, hy, hall⟩⟩
    · rw [upd_ne _ _ e]
      have hv := h.vt i hi
      refine ⟨hv.bo, hv.ao, fun b hab => ?_, fun hs b hab => ?_, fun hs => ?_⟩
      · rcases hab with hab | ⟨e', _⟩
        · exact hv.le b hab
        · exact absurd e' e
      · rcases hab with hab | ⟨e', _⟩
        · exact hv.no hs b hab
        · exact absurd e' e
      · obtain ⟨h1, h2, h3⟩ := hv.yes hs
        refine ⟨.inl h1, h2, fun b hab => ?_⟩
        rcases hab with hab | ⟨e', _⟩
        · exact h3 b hab
        · exact absurd e' e
  · intro i b hab
    rcases hab with hab | ⟨_, rfl⟩
    · exact h.has i b hab
    · rw [hy]; simp

/-- A chair hears a vote. -/
theorem pax_accepted {ms : List Int} {V : Int → VtN} {C : Int → ChN} {rd : Int} {val : Vals} {acc : Accs} (h : Pax ms V C rd val acc) {n f r m : Int} (hn : n ∈ ms) (he : expB ms (C n) 2 f r m = true) (hf : acc f (cod r m)) :
    Pax ms V (upd C n ((C n).hear ms f)) rd val acc ∧ ((C n).enough ms f = true → Cho ms val acc (C n).x ∧ ((C n).hear ms f).x = (C n).x ∧ ((C n).hear ms f).ph = 3) := by
  obtain ⟨hp, ⟨rfl, rfl⟩, hfm, hfh⟩ := expB_ph he
  have hc := h.ch n hn
  have hall : ∀ a ∈ (C n).h ++ [f], acc a (cod (C n).br (C n).bn) := fun a ha => by
    rcases List.mem_append.1 ha with ha | ha
    · exact hc.vot hp a ha
    · simp at ha; subst ha; exact hf
  have hb : ((C n).hear ms f).br = (C n).br ∧ ((C n).hear ms f).bn = (C n).bn ∧ ((C n).hear ms f).x = (C n).x := by unfold ChN.hear; split <;> exact ⟨rfl, rfl, rfl⟩
  constructor
  · refine ⟨h.vt, ?_, h.has, h.safe, ?_⟩
    · intro i hi
      by_cases e : i = n
      · subst e
        rw [upd_same]
        unfold ChN.hear
        have h2 := hc.node (by omega)
        have h3 := hc.put (by omega)
        split
        · exact ⟨hc.bo, hc.go, hc.rd, by show 0 ≤ (C i).ph + 1; omega, fun hz => absurd hz (by show ¬ (C i).ph + 1 = 0; omega), fun _ => h2, fun hz => absurd hz (by show ¬ (C i).ph + 1 ≤ 1; omega), fun hz => absurd hz (by show ¬ (C i).ph + 1 = 1; omega), fun _ => h3, fun hz => absurd hz (by show ¬ (C i).ph + 1 = 2; omega)⟩
        · exact ⟨hc.bo, hc.go, hc.rd, hc.ph0, hc.idle, hc.node, hc.fresh, fun hz => absurd hz (by show ¬ (C i).ph = 1; omega), fun _ => h3, fun _ => hall⟩
      · rw [upd_ne _ _ e]; exact h.ch i hi
    · intro b x hx
      obtain ⟨i, hi, r, m, hbo, e, e2, hle⟩ := h.own b x hx
      refine ⟨i, hi, r, m, hbo, e, e2, ?_⟩
      by_cases e3 : i = n
      · subst e3
        rw [upd_same, hb.1, hb.2.1]
        exact hle
      · rw [upd_ne _ _ e3]; exact hle
  · intro hen
    have hmaj : Maj ms ((C n).h ++ [f]) := by unfold ChN.enough at hen; simpa [Maj] using hen
    refine ⟨⟨_, _, hmaj, hc.put (by omega), hall⟩, hb.2.2, ?_⟩
    unfold ChN.hear
    rw [if_pos (show (ms.length : Int) < 2 * (inC ms ((C n).h ++ [f]) : Int) from hmaj)]
    show (C n).ph + 1 = 3
    omega

/-- What is put to the vote with one ballot more. -/
def valU (val : Vals) (b : Nat) (x : En) : Vals := fun c => if c = b then some x else val c

theorem val_later (V : Int → VtN) {val : Vals} (acc : Accs) {b : Nat} (hv : val b = none) (x : En) : Later V V val (valU val b x) acc acc := by
  refine ⟨fun _ => Nat.le_refl _, fun c y hc => ?_, fun _ _ h => h, fun _ _ _ h => h⟩
  unfold valU
  by_cases e : c = b
  · subst e; rw [hv] at hc; cases hc
  · rw [if_neg e]; exact hc

/-- The chair hears a promise, that reports what was accepted. -/
theorem report_clear {c : ChN} {f : Int} {wr wn : Int} {s : Bool} {y : En} {b : Nat} {acc : Accs} {val : Vals} (hg : BaOk c.gr c.gn) (hw : BaOk wr wn) (h1 : Clear c.h b acc c.rep (cod c.gr c.gn) c.x val) (h2 : Clear [f] b acc s (cod wr wn) y val) :
    Clear ((c.report wr wn y s).h ++ [f]) b acc (c.report wr wn y s).rep (cod (c.report wr wn y s).gr (c.report wr wn y s).gn) (c.report wr wn y s).x val ∧ BaOk (c.report wr wn y s).gr (c.report wr wn y s).gn := by
  unfold ChN.report
  cases s with
  | false =>
    rw [if_neg (by simp)]
    refine ⟨⟨fun hr a ha d hd => ?_, fun hr => ?_⟩, hg⟩
    · rcases List.mem_append.1 ha with ha | ha
      · exact h1.1 hr a ha d hd
      · exact h2.1 rfl a ha d hd
    · obtain ⟨k1, k2, k3⟩ := h1.2 hr
      refine ⟨k1, k2, fun a ha d hgd hd => ?_⟩
      rcases List.mem_append.1 ha with ha | ha
      · exact k3 a ha d hgd hd
      · exact h2.1 rfl a ha d hd
  | true =>
    obtain ⟨w1, w2, w3⟩ := h2.2 rfl
    cases hrep : c.rep with
    | false =>
      rw [if_pos (by simp)]
      refine ⟨⟨fun hr => (by cases hr), fun _ => ⟨w1, w2, fun a ha d hgd hd => ?_⟩⟩, hw⟩
      rcases List.mem_append.1 ha with ha | ha
      · exact h1.1 hrep a ha d hd
      · exact w3 a ha d hgd hd
    | true =>
      obtain ⟨k1, k2, k3⟩ := h1.2 hrep
      by_cases hl : blt c.gr c.gn wr wn = true
      · rw [if_pos (by simp [hl])]
        have := (cod_lt hg hw).1 hl
        refine ⟨⟨fun hr => (by cases hr), fun _ => ⟨w1, w2, fun a ha d hgd hd => ?_⟩⟩, hw⟩
        have hgd : cod wr wn < d := hgd
        rcases List.mem_append.1 ha with ha | ha
        · exact k3 a ha d (by omega) hd
        · exact w3 a ha d hgd hd
      · have hl' : blt c.gr c.gn wr wn = false := by simpa using hl
        rw [if_neg (by simp [hl'])]
        have := (cod_ge hg hw).1 hl'
        refine ⟨⟨fun hr => (by rw [hrep] at hr; cases hr), fun _ => ⟨k1, k2, fun a ha d hgd hd => ?_⟩⟩, hg⟩
        rcases List.mem_append.1 ha with ha | ha
        · exact k3 a ha d hgd hd
        · exact w3 a ha d (by omega) hd

theorem pax_promised {ms : List Int} {V : Int → VtN} {C : Int → ChN} {rd : Int} {val : Vals} {acc : Accs} (h : Pax ms V C rd val acc) {n f r m wr wn : Int} {y : En} {s : Bool} (hn : n ∈ ms) (he : expB ms (C n) 1 f r m = true)
    (hw : BaOk wr wn) (hfp : cod r m ≤ cod (V f).pr (V f).pn) (hfc : Clear [f] (cod r m) acc s (cod wr wn) y val) (hmb : ∀ x ∈ ms, 0 ≤ x ∧ x ≤ 5) :
    ((((C n).report wr wn y s).enough ms f = false → Pax ms V (upd C n (((C n).report wr wn y s).hear ms f)) rd val acc) ∧
    (((C n).report wr wn y s).enough ms f = true → val (cod r m) = none ∧ Pax ms V (upd C n (((C n).report wr wn y s).hear ms f)) rd (valU val (cod r m) ((C n).report wr wn y s).x) acc ∧ (((C n).report wr wn y s).hear ms f).x = ((C n).report wr wn y s).x ∧ (((C n).report wr wn y s).hear ms f).ph = 2)) := by
  obtain ⟨hp, ⟨rfl, rfl⟩, hfm, hfh⟩ := expB_ph he
  have hc := h.ch n hn
  obtain ⟨hask1, hask2⟩ := hc.ask hp
  obtain ⟨hcl, hgo⟩ := report_clear hc.go hw hask2 hfc
  obtain ⟨⟨e1, e2⟩, e3, e4⟩ := report_x (C n) wr wn y s
  have hnone := hc.fresh (by omega)
  have hnode := hc.node (by omega)
  generalize hc' : (C n).report wr wn y s = c' at *
  have hprom : ∀ a ∈ c'.h ++ [f], cod (C n).br (C n).bn ≤ cod (V a).pr (V a).pn := fun a ha => by
    rw [e2] at ha
    rcases List.mem_append.1 ha with ha | ha
    · exact hask1 a ha
    · simp at ha; subst ha; exact hfp
  constructor
  · intro hen
    have hnm : ¬ (ms.length : Int) < 2 * (inC ms (c'.h ++ [f]) : Int) := by unfold ChN.enough at hen; simpa using hen
    have hh : c'.hear ms f = { c' with h := c'.h ++ [f] } := by unfold ChN.hear; rw [if_neg hnm]
    rw [hh]
    refine ⟨h.vt, ?_, h.has, h.safe, ?_⟩
    · intro i hi
      by_cases e : i = n
      · subst e
        rw [upd_same]
        refine ⟨by show BaOk c'.br c'.bn; rw [e3, e4]; exact hc.bo, hgo, by show c'.br ≤ rd; rw [e3]; exact hc.rd, by show 0 ≤ c'.ph; omega, fun hz => absurd hz (by show ¬ c'.ph = 0; omega), fun _ => by show c'.bn = i ∧ 1 ≤ c'.br; rw [e3, e4]; exact hnode, fun _ => by show val (cod c'.br c'.bn) = none; rw [e3, e4]; exact hnone,
          fun _ => ⟨fun a ha => by show cod c'.br c'.bn ≤ _; rw [e3, e4]; exact hprom a ha, by show Clear (c'.h ++ [f]) (cod c'.br c'.bn) acc c'.rep (cod c'.gr c'.gn) c'.x val; rw [e3, e4]; exact hcl⟩, fun hz => absurd hz (by show ¬ 2 ≤ c'.ph; omega), fun hz => absurd hz (by show ¬ c'.ph = 2; omega)⟩
      · rw [upd_ne _ _ e]; exact h.ch i hi
    · intro b x hx
      obtain ⟨i, hi, r, m, hbo, e, e2', hle⟩ := h.own b x hx
      refine ⟨i, hi, r, m, hbo, e, e2', ?_⟩
      by_cases e5 : i = n
      · subst e5
        rw [upd_same]
        show b ≤ cod c'.br c'.bn
        rw [e3, e4]
        exact hle
      · rw [upd_ne _ _ e5]; exact hle
  · intro hen
    have hmaj : Maj ms (c'.h ++ [f]) := by unfold ChN.enough at hen; simpa [Maj] using hen
    have hh : c'.hear ms f = { c' with ph := c'.ph + 1, h := [] } := by unfold ChN.hear; rw [if_pos (show (ms.length : Int) < 2 * (inC ms (c'.h ++ [f]) : Int) from hmaj)]
    have l := val_later V acc hnone c'.x
    have hx : (c'.hear ms f).x = c'.x := by rw [hh]
    have hph : (c'.hear ms f).ph = 2 := by rw [hh]; show c'.ph + 1 = 2; omega
    refine ⟨hnone, ⟨?_, ?_, ?_, ?_, ?_⟩, hx, hph⟩
    · intro i hi
      have hv := h.vt i hi
      exact ⟨hv.bo, hv.ao, hv.le, hv.no, fun hs => ⟨(hv.yes hs).1, l.v _ _ (hv.yes hs).2.1, (hv.yes hs).2.2⟩⟩
    · intro i hi
      by_cases e : i = n
      · subst e
        rw [upd_same, hh]
        exact ⟨by show BaOk c'.br c'.bn; rw [e3, e4]; exact hc.bo, hgo, by show c'.br ≤ rd; rw [e3]; exact hc.rd, by show 0 ≤ c'.ph + 1; omega, fun hz => absurd hz (by show ¬ c'.ph + 1 = 0; omega), fun _ => by show c'.bn = i ∧ 1 ≤ c'.br; rw [e3, e4]; exact hnode, fun hz => absurd hz (by show ¬ c'.ph + 1 ≤ 1; omega),
          fun hz => absurd hz (by show ¬ c'.ph + 1 = 1; omega), fun _ => by show valU val _ c'.x (cod c'.br c'.bn) = some c'.x; rw [e3, e4]; unfold valU; rw [if_pos rfl], fun _ a ha => (by cases ha)⟩
      · rw [upd_ne _ _ e]
        have hci := h.ch i hi
        refine hci.later l (Int.le_refl _) (fun hpi => ?_)
        unfold valU
        rw [if_neg]
        · exact hci.fresh hpi
        · intro ec
          obtain ⟨ea, eb⟩ := cod_inj hci.bo hc.bo ec
          have hz := hci.ph0
          by_cases hp0 : (C i).ph = 0
          · have := hci.idle hp0
            omega
          · have := hci.node (by omega)
            omega
    · intro a b hab
      have := h.has a b hab
      unfold valU
      split
      · simp
      · exact this
    · intro b x hb
      unfold valU at hb
      split at hb
      · next e =>
        subst e
        obtain rfl := Option.some.inj hb
        exact ⟨_, hmaj, hprom, _, _, hcl.later l hprom⟩
      · exact (h.safe b x hb).later l
    · intro b x hb
      unfold valU at hb
      split at hb
      · next e =>
        subst e
        refine ⟨n, hn, (C n).br, (C n).bn, hc.bo, rfl, hnode.1, ?_⟩
        rw [upd_same, hh]
        show _ ≤ cod c'.br c'.bn
        rw [e3, e4]
        exact Nat.le_refl _
      · obtain ⟨i, hi, r, m, hbo, e, e2', hle⟩ := h.own b x hb
        refine ⟨i, hi, r, m, hbo, e, e2', ?_⟩
        by_cases e5 : i = n
        · subst e5
          rw [upd_same, hh]
          show b ≤ cod c'.br c'.bn
          rw [e3, e4]
          exact hle
        · rw [upd_ne _ _ e5]; exact hle

/-- At the beginning. -/
theorem pax_init (ms : List Int) : Pax ms (fun _ => VtN.zero) (fun _ => ChN.new) 1 (fun _ => none) (fun _ _ => False) := by
  have b0 : BaOk 0 0 := ⟨by omega, by omega, by omega⟩
  refine ⟨fun a _ => ⟨b0, b0, fun b h => h.elim, fun _ b h => h, fun h => (by cases h)⟩, fun n _ => ⟨b0, b0, by show (0 : Int) ≤ 1; omega, by show (0 : Int) ≤ 0; omega, fun _ => ⟨rfl, rfl⟩, fun h => absurd h (by show ¬ (1 : Int) ≤ 0; omega), fun _ => rfl, fun h => absurd h (by show ¬ (0 : Int) = 1; omega), fun h => absurd h (by show ¬ (2 : Int) ≤ 0; omega), fun h => absurd h (by show ¬ (0 : Int) = 2; omega)⟩, fun a b h => h.elim, fun b x h => (by cases h), fun b x h => (by cases h)⟩
end
section
set_option maxRecDepth 100000

structure FlM where
  f : Flt
  v : Value
  u : Value

def FlM.cells (x : FlM) : List Value := [.int .i64 x.f.k, .int .i64 x.f.f, .int .i64 x.f.t, .int .i64 x.f.br, .int .i64 x.f.bn, .int .i64 x.f.wr, .int .i64 x.f.wn, .bool x.f.s, .int .u8 x.f.x.k, .int .u16 x.f.x.t, .int .u16 x.f.x.n, .int .i64 x.f.x.p, x.v, x.u]
abbrev FlM.obj (x : FlM) : Obj := Obj.cells #[.int .i64 x.f.k, .int .i64 x.f.f, .int .i64 x.f.t, .int .i64 x.f.br, .int .i64 x.f.bn, .int .i64 x.f.wr, .int .i64 x.f.wn, .bool x.f.s, .int .u8 x.f.x.k, .int .u16 x.f.x.t, .int .u16 x.f.x.n, .int .i64 x.f.x.p, x.v, x.u] 59 (0, 0)

theorem fl_cells {w : World} {g : Nat} {x : FlM} (h : w.heap[g]? = some x.obj) :
    w.cell? ⟨g, 0, none⟩ = some (.int .i64 x.f.k) ∧ w.cell? ⟨g, 1, none⟩ = some (.int .i64 x.f.f) ∧ w.cell? ⟨g, 2, none⟩ = some (.int .i64 x.f.t) ∧ w.cell? ⟨g, 3, none⟩ = some (.int .i64 x.f.br) ∧ w.cell? ⟨g, 4, none⟩ = some (.int .i64 x.f.bn) ∧ w.cell? ⟨g, 5, none⟩ = some (.int .i64 x.f.wr) ∧ w.cell? ⟨g, 6, none⟩ = some (.int .i64 x.f.wn) ∧
    w.cell? ⟨g, 7, none⟩ = some (.bool x.f.s) ∧ w.cell? ⟨g, 8, none⟩ = some (.int .u8 x.f.x.k) ∧ w.cell? ⟨g, 9, none⟩ = some (.int .u16 x.f.x.t) ∧ w.cell? ⟨g, 10, none⟩ = some (.int .u16 x.f.x.n) ∧ w.cell? ⟨g, 11, none⟩ = some (.int .i64 x.f.x.p) ∧ w.cell? ⟨g, 12, none⟩ = some x.v ∧ w.cell? ⟨g, 13, none⟩ = some x.u := by
  simp [World.cell?, h]

theorem flat_at {α : Type} (c : α → List Value) (n : Nat) (hc : ∀ x, (c x).length = n) : ∀ (l : List α) (i j : Nat) (x : α), l[i]? = some x → j < n → (l.flatMap c)[n * i + j]? = (c x)[j]?
  | [], i, _, _, h, _ => by simp at h
  | a :: l, 0, j, x, h, hj => by
    simp at h
    subst h
    rw [List.flatMap_cons, List.getElem?_append_left (by rw [hc]; omega)]
    simp
  | a :: l, i + 1, j, x, h, hj => by
    have ih := flat_at c n hc l i j x (by simpa using h) hj
    rw [List.flatMap_cons, List.getElem?_append_right (by rw [hc, Nat.mul_add]; omega), hc, ← ih]
    congr 1
    rw [Nat.mul_add]
    omega
theorem flat_len {α : Type} (c : α → List Value) (n : Nat) (hc : ∀ x, (c x).length = n) (l : List α) : (l.flatMap c).length = l.length * n := by
  induction l with
  | nil => simp
  | cons a l ih => rw [List.flatMap_cons, List.length_append, ih, hc, List.length_cons, Nat.add_mul]; omega
theorem flat_take {α : Type} (c : α → List Value) (n : Nat) (hc : ∀ x, (c x).length = n) : ∀ (l : List α) (i : Nat), (l.flatMap c).take (n * i) = (l.take i).flatMap c
  | [], i => by simp
  | a :: l, 0 => by simp
  | a :: l, i + 1 => by
    rw [List.flatMap_cons, List.take_succ_cons, List.flatMap_cons, ← flat_take c n hc l i, List.take_append, hc]
    rw [List.take_of_length_le (by rw [hc, Nat.mul_add]; omega)]
    congr 2
    rw [Nat.mul_add]
    omega
theorem flat_drop {α : Type} (c : α → List Value) (n : Nat) (hc : ∀ x, (c x).length = n) : ∀ (l : List α) (i : Nat), (l.flatMap c).drop (n * i) = (l.drop i).flatMap c
  | [], i => by simp
  | a :: l, 0 => by simp
  | a :: l, i + 1 => by
    rw [List.flatMap_cons, List.drop_succ_cons, ← flat_drop c n hc l i, List.drop_append, hc]
    rw [List.drop_of_length_le (by rw [hc, Nat.mul_add]; omega), List.nil_append]
    congr 1
    rw [Nat.mul_add]
    omega

theorem FlM.len (x : FlM) : x.cells.length = 14 := rfl

/-- The slice v owns a row of flights alone. -/
def WayOwn (w : World) (B : Nat) (v : Value) (l : List FlM) : Prop := w.ownsRow B 59 14 v l.length (l.flatMap FlM.cells)

theorem Try.infoFl : (Try.prog.info? 59).map (fun i => (i.zero, i.size, i.bytes)) = some (some (.agg #[.int .i64 0, .int .i64 0, .int .i64 0, .int .i64 0, .int .i64 0, .int .i64 0, .int .i64 0, .bool false, .int .u8 0, .int .u16 0, .int .u16 0, .int .i64 0, .slice none 0 0, .slice none 0 0]), 14, 136) := by kernel_rfl

theorem WayOwn.fr {S : Nat → Prop} {w w' : World} {B : Nat} {v : Value} {l : List FlM} (h : WayOwn w B v l) (hf : Fr S w w') (hS : ∀ k, v.ownBlock = some k → ¬ S k) : WayOwn w' B v l := by
  refine ⟨h.1, ?_⟩
  rcases h.2 with hn | ⟨g, cap, cur, rfl, hb, hgg, rest⟩
  · exact .inl hn
  · refine .inr ⟨g, cap, cur, rfl, hb, ?_, rest⟩
    rw [hf.block g (Array.getElem?_eq_some_iff.1 hgg).1 (hS g rfl)]
    exact hgg

theorem WayOwn.lt {w : World} {B : Nat} {v : Value} {l : List FlM} (h : WayOwn w B v l) : ∀ k, v.ownBlock = some k → B ≤ k ∧ k < w.heap.size := fun k hk => World.ownsRow.lt h k hk

theorem WayOwn.ne {w : World} {B : Nat} {v : Value} {l : List FlM} {b : Nat} {cs : Array Value} {T : TypeId} {fr : Nat × Nat} (h : WayOwn w B v l) (hb : w.heap[b]? = some (.cells cs T fr)) (hT : T ≠ 59) : v.ownBlock ≠ some b := by
  rcases h.2 with hn | ⟨g, cap, cur, rfl, hbb, hgg, rest⟩
  · rw [hn.1]; simp [Value.ownBlock]
  · intro e
    simp [Value.ownBlock] at e
    subst e
    rw [hgg] at hb
    simp at hb
    exact hT hb.2.1.symm

/-- Where a flight lies. -/
theorem WayOwn.at {w : World} {B : Nat} {v : Value} {l : List FlM} (h : WayOwn w B v l) (h0 : l ≠ []) : ∃ g cap, v = .slice (some ⟨g, 0, none⟩) l.length cap ∧ l.length ≤ cap ∧ ∀ i x, l[i]? = some x → ∀ j u, x.cells[j]? = some u → w.cell? ⟨g, i * 14 + j, none⟩ = some u := by
  have hcl := fun g (e : v.ownBlock = some g) => World.ownsRow.cells (h := h) (g := g) e
  rcases h.2 with ⟨_, hz⟩ | ⟨g, cap, cur, rfl, hbb, hgg, hle, _⟩
  · exact absurd (List.eq_nil_of_length_eq_zero hz) h0
  · refine ⟨g, cap, rfl, hle, fun i x hx j u hu => ?_⟩
    have hj : j < 14 := by have := (List.getElem?_eq_some_iff.1 hu).1; rw [FlM.len] at this; exact this
    have h1 := hcl g rfl (14 * i + j) u (by rw [flat_at FlM.cells 14 FlM.len l i j x hx hj]; exact hu)
    have hplain : (⟨g, 0, none⟩ : Addr).add (14 * i + j) = ⟨g, i * 14 + j, none⟩ := by
      unfold Addr.add
      rw [Nat.mul_comm]
      split <;> simp_all
    rw [hplain] at h1
    exact h1

theorem fl_one (x : FlM) (hv : x.v.oneCell' = true) (hu : x.u.oneCell' = true) : ∀ u ∈ x.cells, u.oneCell' = true := by
  intro u hm
  unfold FlM.cells at hm
  simp only [List.mem_cons, List.not_mem_nil, or_false] at hm
  rcases hm with rfl | rfl | rfl | rfl | rfl | rfl | rfl | rfl | rfl | rfl | rfl | rfl | rfl | rfl <;> first | rfl | assumption

theorem first_fl {P : Program} {w : World} {g : Nat} {x : FlM} (h : w.heap[g]? = some x.obj) (c : Nat) :
    (Builtin.firstCells 14 1 (.slice (some ⟨g, 0, none⟩) 1 c)).run P w = .ok x.cells.toArray w := by
  refine run_firstCells_some (P := P) w 14 1 ⟨g, 0, none⟩ 1 c x.cells rfl (by
    intro j v hj
    have hplain : (⟨g, 0, none⟩ : Addr).add j = ⟨g, j, none⟩ := by unfold Addr.add; split <;> simp_all
    rw [hplain, cell_of_row w g j _ _ _ h]
    unfold FlM.cells at hj
    simpa using hj)

/-- The slice's cell. -/
theorem es_one {w : World} {x : En} {v u : Value} (h : ES w x v u) : v.oneCell' = true ∧ u.oneCell' = true := by
  obtain ⟨a1, k1, hv1, _⟩ := h.1.shape
  obtain ⟨a2, k2, hv2, _⟩ := h.2.shape
  subst hv1 hv2
  exact ⟨rfl, rfl⟩

/-- Append of one flight onto a row of flights that is owned alone. -/
theorem wpList_append_fl {w : World} {ops : Array Oper} {rest : List Oper} {o : Oper} {a : Act} {Q : Exit → Act → World → Prop} (hgd : o.guard = none) (s x : Operand)
    (ho : o.op = .call { callee := .builtin .append, args := #[s, x], argTypes := #[51, 51] })
    (B : Nat) (v : Value) (acc : List FlM) (hs : a.eval s = v) (hown : WayOwn w B v acc) (g c : Nat) (t : FlM) (hx : a.eval x = .slice (some ⟨g, 0, none⟩) 1 c)
    (hg : w.heap[g]? = some t.obj) (h1 : t.v.oneCell' = true) (h2 : t.u.oneCell' = true) (hl : acc.length ≤ 100000) (hB : B ≤ w.heap.size)
    (h : ∀ v' w', WayOwn w' B v' (acc ++ [t]) → w.grownBy w' v.ownBlock → (v'.ownBlock = v.ownBlock ∨ v'.ownBlock = some w.heap.size) → wpList Try.prog ops Q rest (a.put o.dst v') w') : wpList Try.prog ops Q (o :: rest) a w := by
  obtain ⟨i0, hi, hz0, hz1, hz2⟩ := info_parts Try.infoFl
  refine wpList_append_sep (P := Try.prog) hgd s x 51 51 ho B 59 i0 _ 14 136 Try.underlying51 _ Try.underlying51 (.inr ⟨_, rfl⟩) hi hz0 hz1 hz2 rfl (by decide)
    v acc.length _ hs hown _ 1 t.cells hx (fun w => lenOf_slice _ _ _ _) rfl (first_fl hg c) (first_fl (w := w.drew) hg c) (fl_one t h1 h2) (by unfold maxLen; omega) (by omega) hB ?_
  intro v' w' k1 k2 k3
  refine h v' w' ?_ k2 k3
  unfold WayOwn
  rw [List.length_append, List.flatMap_append, List.flatMap_cons, List.flatMap_nil, List.append_nil]
  exact k1
end
section
set_option maxRecDepth 100000

/-- The memory that changes. -/
def MExt (w : World) (M M' : Nat → Prop) : Prop := ∀ k, k < w.heap.size → M' k → M k
theorem MExt.refl (w : World) (M : Nat → Prop) : MExt w M M := fun _ _ h => h

theorem AwayS.ext {M M' : Nat → Prop} {w : World} {x : En} {v u : Value} (h : AwayS M x v u) (he : ES w x v u) (hm : MExt w M M') : AwayS M' x v u :=
  (h.or he.old).mono (fun k hk => by
    by_cases hlt : k < w.heap.size
    · exact .inl (hm k hlt hk)
    · exact .inr (by omega))

theorem fresh_away {M : Nat → Prop} {w : World} {x : En} {v u : Value} (hf : FreshE w v u) (hM : ∀ k, M k → k < w.heap.size) : AwayS M x v u :=
  ⟨.inr (fun k hk hm => by have := hf.1 k hk; have := hM k hm; omega), .inr (fun k hk hm => by have := hf.2 k hk; have := hM k hm; omega)⟩

/-- The voter in block b; its entry lies outside of M. -/
def VtM (w : World) (b : Nat) (M : Nat → Prop) (st : VtN) : Prop :=
  ∃ v u, w.heap[b]? = some (oVr st.pr st.pn st.ar st.an st.x.k st.x.t st.x.n st.x.p v u st.s) ∧ ES w st.x v u ∧ AwayS M st.x v u ∧ EnSmall st.x

theorem VtM.lt {w : World} {b : Nat} {M : Nat → Prop} {st : VtN} (h : VtM w b M st) : b < w.heap.size := by
  obtain ⟨v, u, h1, _⟩ := h
  exact lt_of h1

theorem VtM.keep {S M M' : Nat → Prop} {w w' : World} {b : Nat} {st : VtN} (h : VtM w b M st) (f : Fr S w w') (hb : ¬ S b) (hS : ∀ k, S k → M k) (hm : MExt w M M') : VtM w' b M' st := by
  obtain ⟨v, u, h1, h2, h3, h4⟩ := h
  exact ⟨v, u, crow_kept h1 f hb, h2.keepS (h3.mono hS) f, h3.ext h2 hm, h4⟩

theorem aws_away {M : Nat → Prop} {b : Nat} {x : En} {v u : Value} (h : AwayS M x v u) (hb : M b) : Away b x v u :=
  ⟨h.1.imp id (fun h e => h b e hb), h.2.imp id (fun h e => h b e hb)⟩

theorem promiseM (b : Nat) (M : Nat → Prop) (st : VtN) (r n : Int) (w : World) (h : VtM w b M st) (hb : M b) :
    Calls Try.prog 12 #[.pointer (some ⟨b, 0, none⟩), ball r n] w fun e w' =>
      PromRetF w.heap.size b st r n e w' ∧ Fr (fun k => k = b) w w' ∧ VtM w' b M (st.promise r n) := by
  obtain ⟨v, u, h1, h2, h3, h4⟩ := h
  have h5 := h3.mono (T := fun k => k = b) (fun k e => by subst e; exact hb)
  refine (promise_any b st.pr st.pn st.ar st.an st.x v u st.s r n w h1 h2 (aws_away h3 hb) h4.1 h4.2).mono ?_
  rintro e w' ⟨f, hno, hyes⟩
  cases hbl : blt st.pr st.pn r n with
  | false =>
    obtain ⟨rfl, hv⟩ := hno hbl
    refine ⟨⟨fun _ => rfl, fun h => (by rw [hbl] at h; cases h)⟩, f, ?_⟩
    unfold VtN.promise
    rw [if_neg (by rw [hbl]; decide)]
    exact ⟨v, u, hv, h2.keepS h5 f, h3, h4⟩
  | true =>
    obtain ⟨⟨v', u', rfl, he⟩, hv⟩ := hyes hbl
    refine ⟨⟨fun h => (by rw [hbl] at h; cases h), fun _ => ⟨v', u', rfl, he⟩⟩, f, ?_⟩
    unfold VtN.promise
    rw [if_pos hbl]
    exact ⟨v, u, hv, h2.keepS h5 f, h3, h4⟩

theorem acceptM (b : Nat) (M : Nat → Prop) (st : VtN) (r n : Int) (y : En) (v' u' : Value) (w : World) (h : VtM w b M st) (hb : M b) (hy : ES w y v' u') (ha : AwayS M y v' u') (hsm : EnSmall y) :
    Calls Try.prog 15 #[.pointer (some ⟨b, 0, none⟩), ball r n, y.val v' u'] w fun e w' =>
      e = .returned (.bool (!blt r n st.pr st.pn)) ∧ Fr (fun k => k = b) w w' ∧ VtM w' b M (st.accept r n y) := by
  obtain ⟨v, u, h1, h2, h3, h4⟩ := h
  refine (accept_any b st.pr st.pn st.ar st.an st.x v u st.s r n y v' u' w h1 hy).mono ?_
  rintro e w' ⟨rfl, f, hv⟩
  refine ⟨rfl, f, ?_⟩
  unfold VotAfter at hv
  unfold VtN.accept
  by_cases hbl : blt r n st.pr st.pn = true
  · rw [if_pos hbl] at hv ⊢
    exact ⟨v, u, hv, h2.keepS (h3.mono (fun k e => by subst e; exact hb)) f, h3, h4⟩
  · rw [if_neg hbl] at hv ⊢
    exact ⟨v', u', hv, hy.keepS (ha.mono (fun k e => by subst e; exact hb)) f, ha, hsm⟩

theorem promisedM (b : Nat) (M : Nat → Prop) (st : VtN) (w : World) (h : VtM w b M st) :
    Calls Try.prog 7 #[.pointer (some ⟨b, 0, none⟩)] w fun e w' => e = .returned (ball st.pr st.pn) ∧ Fr (fun _ => False) w w' := by
  obtain ⟨v, u, h1, _⟩ := h
  exact promised_any b st.pr st.pn st.ar st.an st.x.k st.x.t st.x.n st.x.p v u st.s w h1

/-- The chair in block b; its entry lies outside of M. -/
def ChM (w : World) (b B : Nat) (ms : List Int) (ma : Option Addr) (mc : Nat) (st : ChN) (hv : Value) (M : Nat → Prop) : Prop :=
  ChS w b B ms ma mc st hv ∧ ∀ v u, w.heap[b]? = some (st.obj (.slice ma ms.length mc) v u hv) → AwayS M st.x v u

theorem ChM.keep {S M M' : Nat → Prop} {w w' : World} {b B : Nat} {ms : List Int} {ma : Option Addr} {mc : Nat} {st : ChN} {hv : Value} (h : ChM w b B ms ma mc st hv M) (f : Fr S w w') (hb : ¬ S b) (hS : ∀ k, S k → M k) (hh : ∀ k, hv.ownBlock = some k → ¬ S k)
    (hv' : ∀ k, (Value.slice ma ms.length mc).ownBlock = some k → ¬ S k) (hm : MExt w M M') : ChM w' b B ms ma mc st hv M' := by
  obtain ⟨h1, h2⟩ := h
  refine ⟨h1.fr f hb hh (fun v u hq => (h2 v u hq).mono hS) hv', fun v u hq => ?_⟩
  obtain ⟨v0, u0, g1, g2, _⟩ := h1.row
  obtain ⟨rfl, rfl⟩ := obj_inj ((crow_kept g1 f hb).symm.trans hq)
  exact (h2 v0 u0 g1).ext g2 hm

/-- Where all lies. -/
structure OnP where
  vb : Int → Nat
  cb : Int → Nat
  gX : Nat
  B : Nat
  ms : List Int
  ma : Option Addr
  mc : Nat

def In6 (n : Int) : Prop := 0 ≤ n ∧ n ≤ 5

def OnM (p : OnP) (hv : Int → Value) (wv : Value) (k : Nat) : Prop := (∃ n, In6 n ∧ (k = p.vb n ∨ k = p.cb n ∨ (hv n).ownBlock = some k)) ∨ wv.ownBlock = some k ∨ k = p.gX

/-- What doesn't change. -/
structure OnF (p : OnP) : Prop where
  vi : ∀ n m, In6 n → In6 m → p.vb n = p.vb m → n = m
  ci : ∀ n m, In6 n → In6 m → p.cb n = p.cb m → n = m
  mv : ∀ k, (Value.slice p.ma p.ms.length p.mc).ownBlock = some k → k < p.B ∧ k ≠ p.gX ∧ ∀ n, In6 n → k ≠ p.vb n ∧ k ≠ p.cb n

structure OnS (p : OnP) (w : World) (V : Int → VtN) (C : Int → ChN) (hv : Int → Value) (wv : Value) (way : List FlM) (cz : En) : Prop where
  vt : ∀ n, In6 n → VtM w (p.vb n) (OnM p hv wv) (V n)
  ch : ∀ n, In6 n → ChM w (p.cb n) p.B p.ms p.ma p.mc (C n) (hv n) (OnM p hv wv)
  hd : ∀ n m, In6 n → In6 m → n ≠ m → ∀ k, (hv n).ownBlock = some k → (hv m).ownBlock ≠ some k
  wo : WayOwn w p.B wv way
  fl : ∀ x ∈ way, ES w x.f.x x.v x.u ∧ AwayS (OnM p hv wv) x.f.x x.v x.u ∧ EnSmall x.f.x
  cz : ∃ v u, w.heap[p.gX]? = some (cz.obj v u) ∧ ES w cz v u ∧ AwayS (OnM p hv wv) cz v u ∧ EnSmall cz

theorem in0 : In6 0 := ⟨by decide, by decide⟩

section
variable {p : OnP} {w w' : World} {V : Int → VtN} {C : Int → ChN} {hv : Int → Value} {wv : Value} {way : List FlM} {cz : En}

theorem OnS.vrow (h : OnS p w V C hv wv way cz) {n : Int} (hn : In6 n) : ∃ cs, w.heap[p.vb n]? = some (.cells cs 49 (0, 0)) := by
  obtain ⟨v, u, h1, _⟩ := h.vt n hn
  exact ⟨_, h1⟩
theorem OnS.crow (h : OnS p w V C hv wv way cz) {n : Int} (hn : In6 n) : ∃ cs, w.heap[p.cb n]? = some (.cells cs 72 (0, 0)) := by
  obtain ⟨v, u, h1, _⟩ := (h.ch n hn).1.row
  exact ⟨_, h1⟩
theorem OnS.xrow (h : OnS p w V C hv wv way cz) : ∃ cs, w.heap[p.gX]? = some (.cells cs 47 (0, 0)) := by
  obtain ⟨v, u, h1, _⟩ := h.cz
  exact ⟨_, h1⟩

theorem row_ne {w : World} {a b : Nat} {cs cs' : Array Value} {T T' : TypeId} {fr fr' : Nat × Nat} (h : w.heap[a]? = some (.cells cs T fr)) (h' : w.heap[b]? = some (.cells cs' T' fr')) (hT : T ≠ T') : a ≠ b := by
  intro e
  subst e
  rw [h] at h'
  simp at h'
  exact hT h'.2.1

/-- Of different sorts: no two of them in one block. -/
theorem OnS.vc (h : OnS p w V C hv wv way cz) {n m : Int} (hn : In6 n) (hm : In6 m) : p.vb n ≠ p.cb m := by
  obtain ⟨a, ha⟩ := h.vrow hn
  obtain ⟨b, hb⟩ := h.crow hm
  exact row_ne ha hb (by decide)
theorem OnS.vx (h : OnS p w V C hv wv way cz) {n : Int} (hn : In6 n) : p.vb n ≠ p.gX := by
  obtain ⟨a, ha⟩ := h.vrow hn
  obtain ⟨b, hb⟩ := h.xrow
  exact row_ne ha hb (by decide)
theorem OnS.cx (h : OnS p w V C hv wv way cz) {n : Int} (hn : In6 n) : p.cb n ≠ p.gX := by
  obtain ⟨a, ha⟩ := h.crow hn
  obtain ⟨b, hb⟩ := h.xrow
  exact row_ne ha hb (by decide)
theorem OnS.hvb (h : OnS p w V C hv wv way cz) {n m : Int} (hn : In6 n) (hm : In6 m) : (hv n).ownBlock ≠ some (p.vb m) := by
  obtain ⟨a, ha⟩ := h.vrow hm
  exact oi_ne (h.ch n hn).1.own ha (by decide)
theorem OnS.hcb (h : OnS p w V C hv wv way cz) {n m : Int} (hn : In6 n) (hm : In6 m) : (hv n).ownBlock ≠ some (p.cb m) := by
  obtain ⟨a, ha⟩ := h.crow hm
  exact oi_ne (h.ch n hn).1.own ha (by decide)
theorem OnS.hx (h : OnS p w V C hv wv way cz) {n : Int} (hn : In6 n) : (hv n).ownBlock ≠ some p.gX := by
  obtain ⟨a, ha⟩ := h.xrow
  exact oi_ne (h.ch n hn).1.own ha (by decide)
theorem OnS.wvb (h : OnS p w V C hv wv way cz) {n : Int} (hn : In6 n) : wv.ownBlock ≠ some (p.vb n) := by
  obtain ⟨a, ha⟩ := h.vrow hn
  exact h.wo.ne ha (by decide)
theorem OnS.wcb (h : OnS p w V C hv wv way cz) {n : Int} (hn : In6 n) : wv.ownBlock ≠ some (p.cb n) := by
  obtain ⟨a, ha⟩ := h.crow hn
  exact h.wo.ne ha (by decide)
theorem OnS.wx (h : OnS p w V C hv wv way cz) : wv.ownBlock ≠ some p.gX := by
  obtain ⟨a, ha⟩ := h.xrow
  exact h.wo.ne ha (by decide)
theorem OnS.hw (h : OnS p w V C hv wv way cz) {n : Int} (hn : In6 n) : ∀ k, (hv n).ownBlock = some k → wv.ownBlock ≠ some k := by
  intro k hk
  rcases (h.ch n hn).1.own.2 with ⟨e, _⟩ | ⟨g, cap, cur, e, hbb, hgg, _⟩
  · rw [e] at hk; simp [Value.ownBlock] at hk
  · rw [e] at hk
    simp [Value.ownBlock] at hk
    subst hk
    exact h.wo.ne hgg (by decide)

theorem OnS.Mlt (h : OnS p w V C hv wv way cz) : ∀ k, OnM p hv wv k → k < w.heap.size := by
  intro k hk
  rcases hk with ⟨n, hn, rfl | rfl | hk⟩ | hk | rfl
  · exact (h.vt n hn).lt
  · exact (h.ch n hn).1.lt
  · exact (World.ownsRow.lt (h.ch n hn).1.own k hk).2
  · exact (h.wo.lt k hk).2
  · obtain ⟨cs, hx⟩ := h.xrow
    exact lt_of hx

theorem OnS.view (h : OnS p w V C hv wv way cz) : SI w (.slice p.ma p.ms.length p.mc) p.ms := (h.ch 0 in0).1.view

theorem OnF.out (hf : OnF p) (h : OnS p w V C hv wv way cz) : ∀ k, (Value.slice p.ma p.ms.length p.mc).ownBlock = some k → ¬ OnM p hv wv k := by
  intro k hk hm
  obtain ⟨h1, h2, h3⟩ := hf.mv k hk
  rcases hm with ⟨n, hn, rfl | rfl | hm⟩ | hm | rfl
  · exact (h3 n hn).1 rfl
  · exact (h3 n hn).2 rfl
  · have := oi_le (h.ch n hn).1.own k hm; omega
  · have := (h.wo.lt k hm).1; omega
  · exact h2 rfl

/-- Memory that is new alone. -/
theorem OnS.fr (h : OnS p w V C hv wv way cz) (f : Fr (fun _ => False) w w') : OnS p w' V C hv wv way cz := by
  refine ⟨fun n hn => (h.vt n hn).keep f (fun h => h) (fun _ h => h.elim) (MExt.refl _ _), fun n hn => (h.ch n hn).keep f (fun h => h) (fun _ h => h.elim) (fun _ _ h => h) (fun _ _ h => h) (MExt.refl _ _), h.hd, h.wo.fr f (fun _ _ h => h), fun x hx => ?_, ?_⟩
  · obtain ⟨h1, h2, h3⟩ := h.fl x hx
    exact ⟨h1.fr f, h2, h3⟩
  · obtain ⟨v, u, h1, h2, h3⟩ := h.cz
    exact ⟨v, u, crow_kept h1 f (fun h => h), h2.fr f, h3⟩

/-- A voter is another one. -/
theorem OnS.voter (hf : OnF p) (h : OnS p w V C hv wv way cz) {n : Int} (hn : In6 n) (f : Fr (fun k => k = p.vb n) w w') {st : VtN} (hs : VtM w' (p.vb n) (OnM p hv wv) st) : OnS p w' (upd V n st) C hv wv way cz := by
  have hM : ∀ k, k = p.vb n → OnM p hv wv k := fun k e => .inl ⟨n, hn, .inl e⟩
  refine ⟨fun m hm => ?_, fun m hm => (h.ch m hm).keep f (fun e => h.vc hn hm e.symm) hM (fun k hk e => h.hvb hm hn (by rw [hk, e])) (fun k hk e => hf.out h k hk (hM k e)) (MExt.refl _ _), h.hd, h.wo.fr f (fun k hk e => h.wvb hn (by rw [hk, e])), fun x hx => ?_, ?_⟩
  · by_cases e : m = n
    · subst e
      rw [upd_same]; exact hs
    · rw [upd_ne _ _ e]
      exact (h.vt m hm).keep f (fun e' => e (hf.vi m n hm hn e')) hM (MExt.refl _ _)
  · obtain ⟨h1, h2, h3⟩ := h.fl x hx
    exact ⟨h1.keepS (h2.mono hM) f, h2, h3⟩
  · obtain ⟨v, u, h1, h2, h3, h4⟩ := h.cz
    exact ⟨v, u, crow_kept h1 f (fun e => h.vx hn e.symm), h2.keepS (h3.mono hM) f, h3, h4⟩

/-- A chair is another one; it was handed the entry (v', u'), or keeps its own. -/
theorem OnS.chair (hf : OnF p) (h : OnS p w V C hv wv way cz) {n : Int} (hn : In6 n) (f : Fr (ChF (p.cb n) (hv n)) w w') {st : ChN} {hv' : Value} (hs : ChS w' (p.cb n) p.B p.ms p.ma p.mc st hv') (hnew : NewH w (hv n) hv')
    (hrow : ∃ v u, w'.heap[p.cb n]? = some (st.obj (.slice p.ma p.ms.length p.mc) v u hv') ∧ ES w st.x v u ∧ AwayS (OnM p hv wv) st.x v u) :
    OnS p w' V (upd C n st) (upd hv n hv') wv way cz := by
  have hM : ∀ k, ChF (p.cb n) (hv n) k → OnM p hv wv k := fun k e => by
    rcases e with e | e
    · exact .inl ⟨n, hn, .inr (.inl e)⟩
    · exact .inl ⟨n, hn, .inr (.inr e)⟩
  have hx : MExt w (OnM p hv wv) (OnM p (upd hv n hv') wv) := by
    intro k hlt hk
    rcases hk with ⟨m, hm, e | e | e⟩ | e | e
    · exact .inl ⟨m, hm, .inl e⟩
    · exact .inl ⟨m, hm, .inr (.inl e)⟩
    · by_cases em : m = n
      · subst em
        rw [upd_same] at e
        rcases hnew k e with e' | e'
        · exact .inl ⟨m, hm, .inr (.inr e')⟩
        · omega
      · rw [upd_ne _ _ em] at e
        exact .inl ⟨m, hm, .inr (.inr e)⟩
    · exact .inr (.inl e)
    · exact .inr (.inr e)
  have hno : ∀ m, In6 m → m ≠ n → ∀ k, (hv m).ownBlock = some k → ¬ ChF (p.cb n) (hv n) k := fun m hm em k hk e => by
    rcases e with e | e
    · exact h.hcb hm hn (by rw [hk, e])
    · exact h.hd m n hm hn em k hk e
  refine ⟨fun m hm => (h.vt m hm).keep f (fun e => ?_) hM hx, fun m hm => ?_, fun m i hm hi em k hk => ?_, h.wo.fr f (fun k hk e => ?_), fun x hm => ?_, ?_⟩
  · rcases e with e | e
    · exact h.vc hm hn e
    · exact h.hvb hn hm e
  · by_cases em : m = n
    · subst em
      rw [upd_same, upd_same]
      refine ⟨hs, fun v1 u1 hq => ?_⟩
      obtain ⟨v, u, g1, g2, g3⟩ := hrow
      obtain ⟨rfl, rfl⟩ := obj_inj (g1.symm.trans hq)
      exact g3.ext g2 hx
    · rw [upd_ne _ _ em, upd_ne _ _ em]
      refine (h.ch m hm).keep f (fun e => ?_) hM (hno m hm em) (fun k hk e => hf.out h k hk (hM k e)) hx
      rcases e with e | e
      · exact em (hf.ci m n hm hn e)
      · exact h.hcb hn hm e
  · by_cases e1 : m = n
    · subst e1
      have e2 : i ≠ m := fun e => em e.symm
      rw [upd_same] at hk
      rw [upd_ne _ _ e2]
      intro e3
      rcases hnew k hk with e' | e'
      · exact h.hd i m hi hm e2 k e3 e'
      · have := (World.ownsRow.lt (h.ch i hi).1.own k e3).2; omega
    · rw [upd_ne _ _ e1] at hk
      by_cases e2 : i = n
      · subst e2
        rw [upd_same]
        intro e3
        rcases hnew k e3 with e' | e'
        · exact h.hd m i hm hi e1 k hk e'
        · have := (World.ownsRow.lt (h.ch m hm).1.own k hk).2; omega
      · rw [upd_ne _ _ e2]
        exact h.hd m i hm hi em k hk
  · rcases e with e | e
    · exact h.wcb hn (by rw [hk, e])
    · exact h.hw hn k e hk
  · obtain ⟨h1, h2, h3⟩ := h.fl x hm
    exact ⟨h1.keepS (h2.mono hM) f, h2.ext h1 hx, h3⟩
  · obtain ⟨v, u, h1, h2, h3, h4⟩ := h.cz
    refine ⟨v, u, crow_kept h1 f (fun e => ?_), h2.keepS (h3.mono hM) f, h3.ext h2 hx, h4⟩
    rcases e with e | e
    · exact h.cx hn e.symm
    · exact h.hx hn e

/-- The letters under way are others. -/
theorem OnS.way' (hf : OnF p) (h : OnS p w V C hv wv way cz) (f : Fr (fun k => wv.ownBlock = some k) w w') {wv' : Value} {way' : List FlM} (ho : WayOwn w' p.B wv' way') (hnew : ∀ k, wv'.ownBlock = some k → wv.ownBlock = some k ∨ w.heap.size ≤ k)
    (hfl : ∀ x ∈ way', ES w x.f.x x.v x.u ∧ AwayS (OnM p hv wv) x.f.x x.v x.u ∧ EnSmall x.f.x) : OnS p w' V C hv wv' way' cz := by
  have hM : ∀ k, wv.ownBlock = some k → OnM p hv wv k := fun k e => .inr (.inl e)
  have hx : MExt w (OnM p hv wv) (OnM p hv wv') := by
    intro k hlt hk
    rcases hk with e | e | e
    · exact .inl e
    · rcases hnew k e with e' | e'
      · exact .inr (.inl e')
      · omega
    · exact .inr (.inr e)
  refine ⟨fun m hm => (h.vt m hm).keep f (h.wvb hm) hM hx, fun m hm => (h.ch m hm).keep f (h.wcb hm) hM (fun k hk => h.hw hm k hk) (fun k hk e => hf.out h k hk (hM k e)) hx, h.hd, ho, fun x hm => ?_, ?_⟩
  · obtain ⟨h1, h2, h3⟩ := hfl x hm
    exact ⟨h1.keepS (h2.mono hM) f, h2.ext h1 hx, h3⟩
  · obtain ⟨v, u, h1, h2, h3, h4⟩ := h.cz
    exact ⟨v, u, crow_kept h1 f h.wx, h2.keepS (h3.mono hM) f, h3.ext h2 hx, h4⟩

/-- Another entry is chosen. -/
theorem OnS.cho (hf : OnF p) (h : OnS p w V C hv wv way cz) (f : Fr (fun k => k = p.gX) w w') {x : En} {v u : Value} (hr : w'.heap[p.gX]? = some (x.obj v u)) (he : ES w x v u) (ha : AwayS (OnM p hv wv) x v u) (hs : EnSmall x) : OnS p w' V C hv wv way x := by
  have hM : ∀ k, k = p.gX → OnM p hv wv k := fun k e => .inr (.inr e)
  refine ⟨fun m hm => (h.vt m hm).keep f (h.vx hm) hM (MExt.refl _ _), fun m hm => (h.ch m hm).keep f (h.cx hm) hM (fun k hk e => h.hx hm (by rw [hk, e])) (fun k hk e => hf.out h k hk (hM k e)) (MExt.refl _ _), h.hd, h.wo.fr f (fun k hk e => h.wx (by rw [hk, e])), fun y hm => ?_, v, u, hr, he.keepS (ha.mono hM) f, ha, hs⟩
  obtain ⟨h1, h2, h3⟩ := h.fl y hm
  exact ⟨h1.keepS (h2.mono hM) f, h2, h3⟩

end
end
end Go.Proofs.Ytcjfinabffpgkaa
