/-
  PlayJoins, pure: one program behind another; instructions that keep to the state.
-/
import Derived.Test.YtedadjlmmnikaaaML
import Derived.Test.YtedadjlmmnikaaaMK
import Derived.BigRegion
set_option linter.unusedSimpArgs false
set_option linter.unusedVariables false
namespace Go.Proofs.Ytedadjlmmnikaaa
open Go.RowKit
set_option linter.unusedVariables false

/-- No jump leads out of the program. -/
def Inside (l : List Ins) : Prop := ∀ (i : Nat) (x : Ins), l[i]? = some x → (x.op = 8 → i + 1 + x.n.toNat ≤ l.length) ∧ (x.op = 9 → i + 1 + x.b ≤ l.length)

theorem Inside.tail {x : Ins} {l : List Ins} (h : Inside (x :: l)) : Inside l := by
  intro i y hy
  have := h (i + 1) y (by simpa using hy)
  simp only [List.length_cons] at this
  exact ⟨fun e => by have := this.1 e; omega, fun e => by have := this.2 e; omega⟩

/-- Behind the first program, as far as it goes. -/
def andThen (o : Out) (f : (Nat → Int) → Out) : Out := match o with
  | .ok false r => f r
  | .ok true r => .ok true r
  | .bad e n => .bad e n

theorem steps_append (rep : List Ins → Nat → (Nat → Int) → Out) (s : Int) (q : List Ins) : ∀ (p : List Ins) (k : Nat) (r : Nat → Int), Inside p → k ≤ p.length →
    stepsE rep s (p ++ q) k r = andThen (stepsE rep s p k r) (fun r' => stepsE rep s q 0 r')
  | [], k, r, _, hk => by
    obtain rfl : k = 0 := by simpa using hk
    rfl
  | x :: p, k + 1, r, h, hk => by
    rw [List.cons_append, stepsE, stepsE]
    exact steps_append rep s q p k r h.tail (by simpa using hk)
  | x :: p, 0, r, h, hk => by
    have ih := fun k r hk => steps_append rep s q p k r h.tail hk
    have h0 := h 0 x rfl
    simp only [List.length_cons] at h0
    rw [List.cons_append, stepsE, stepsE]
    by_cases c0 : x.op = 0
    · rw [if_pos c0, if_pos c0]; rfl
    · rw [if_neg c0, if_neg c0]
      by_cases c8 : x.op = 8
      · rw [if_pos c8, if_pos c8]
        refine ih _ _ ?_
        have := h0.1 c8
        split <;> omega
      · rw [if_neg c8, if_neg c8]
        by_cases c9 : x.op = 9
        · rw [if_pos c9, if_pos c9]
          have hb := h0.2 c9
          rw [List.take_append_of_le_length (by omega)]
          cases rep (p.take x.b) x.n.toNat r with
          | bad e n => rfl
          | ok b r' =>
            cases b with
            | true => rfl
            | false => exact ih _ _ (by omega)
        · rw [if_neg c9, if_neg c9]
          by_cases c10 : x.op = 10
          · rw [if_pos c10, if_pos c10]
            by_cases cr : r x.a = 0
            · rw [if_pos cr, if_pos cr]; exact ih _ _ (by omega)
            · rw [if_neg cr, if_neg cr]; rfl
          · rw [if_neg c10, if_neg c10]
            cases opE s x r with
            | none => rfl
            | some v => exact ih _ _ (by omega)

theorem inside_check (p : List Ins) (h : pcheckE p = 0) : Inside p := by
  have h1 := ((checkE_zero p).1 h).2.1
  intro i x hx
  refine ⟨fun h8 => ?_, fun h9 => loop_ends p h1 i x hx h9⟩
  have h2 := h1 i x hx
  unfold insE at h2
  rw [if_neg (by omega)] at h2
  split at h2
  · cases h2
  · split at h2
    · cases h2
    · rename_i h4
      by_cases hn : x.n < 1 ∨ (p.length : Int) < i + 1 + x.n
      · refine absurd (.inr ⟨h8, ?_⟩) h4
        unfold skipE
        rw [if_pos hn]
      · omega

/-- Instructions that keep to the state, and never stop. -/
def KeepI (x : Ins) : Prop := x.dst < 8 ∧ x.a < 8 ∧ (x.op ≠ 9 → x.b < 8) ∧ x.op ≠ 0

/-- Beyond the state, nothing but noughts. -/
def Nil8 (r : Nat → Int) : Prop := ∀ k, 8 ≤ k → r k = 0

theorem upd_nil {r : Nat → Int} (h : Nil8 r) (d : Nat) (hd : d < 8) (v : Int) : Nil8 (upd r d v) := by
  intro k hk
  unfold upd
  rw [if_neg (by omega)]
  exact h k hk

theorem keep_steps (rep : List Ins → Nat → (Nat → Int) → Out) (s : Int) (hrep : ∀ l n r, (∀ x ∈ l, KeepI x) → Nil8 r → ∀ b r', rep l n r = .ok b r' → b = false ∧ Nil8 r') :
    ∀ (l : List Ins) (k : Nat) (r : Nat → Int), (∀ x ∈ l, KeepI x) → Nil8 r → ∀ b r', stepsE rep s l k r = .ok b r' → b = false ∧ Nil8 r'
  | [], k, r, _, hr, b, r', h => by simp [stepsE] at h; exact ⟨h.1, h.2 ▸ hr⟩
  | x :: l, k + 1, r, hl, hr, b, r', h => keep_steps rep s hrep l k r (fun y hy => hl y (List.mem_cons_of_mem _ hy)) hr b r' (by rw [stepsE] at h; exact h)
  | x :: l, 0, r, hl, hr, b, r', h => by
    have hl' : ∀ y ∈ l, KeepI y := fun y hy => hl y (List.mem_cons_of_mem _ hy)
    have hx := hl x List.mem_cons_self
    have ih := fun k r (hr : Nil8 r) h => keep_steps rep s hrep l k r hl' hr b r' h
    rw [stepsE] at h
    rw [if_neg hx.2.2.2] at h
    split at h
    · exact ih _ _ hr h
    · split at h
      · split at h
        · rename_i r2 h2
          have := (hrep _ _ _ (fun y hy => hl' y (List.mem_of_mem_take hy)) hr _ _ h2).1
          cases this
        · rename_i r2 h2
          exact ih _ _ (hrep _ _ _ (fun y hy => hl' y (List.mem_of_mem_take hy)) hr _ _ h2).2 h
        · cases h
      · split at h
        · split at h
          · exact ih _ _ hr h
          · cases h
        · split at h
          · exact ih _ _ (upd_nil hr _ hx.1 _) h
          · cases h

theorem keep_rep (f : (Nat → Int) → Out) (hf : ∀ r, Nil8 r → ∀ b r', f r = .ok b r' → b = false ∧ Nil8 r') : ∀ (n : Nat) (r : Nat → Int), Nil8 r → ∀ b r', repE f n r = .ok b r' → b = false ∧ Nil8 r'
  | 0, r, hr, b, r', h => by simp [repE] at h; exact ⟨h.1, h.2 ▸ hr⟩
  | n + 1, r, hr, b, r', h => by
    rw [repE] at h
    split at h
    · rename_i r2 h2
      exact keep_rep f hf n _ (hf _ hr _ _ h2).2 b r' h
    · rename_i r2 h2
      have := (hf _ hr _ _ h2).1
      cases this
    · cases h

theorem keep_run (s : Int) : ∀ (d : Nat) (l : List Ins) (r : Nat → Int), (∀ x ∈ l, KeepI x) → Nil8 r → ∀ b r', runE s d l r = .ok b r' → b = false ∧ Nil8 r'
  | 0, l, r, hl, hr, b, r', h => keep_steps _ s (fun _ _ _ _ hr _ _ h => by cases h; exact ⟨rfl, hr⟩) l 0 r hl hr b r' h
  | d + 1, l, r, hl, hr, b, r', h => keep_steps _ s (fun l n r hl hr b r' h => keep_rep _ (fun r hr b r' h => keep_run s d l r hl hr b r' h) n r hr b r' h) l 0 r hl hr b r' h

theorem load_nil (r : Nat → Int) (h : Nil8 r) : loadE r [0] = r := by
  funext k
  unfold loadE
  split
  · rfl
  · rename_i hk
    rw [h k (by omega)]
    split
    · rename_i h2
      have : k = 8 := by simp at h2; omega
      subst this
      rfl
    · rfl

theorem load_is_nil (s : Nat → Int) : Nil8 (loadE s [0]) := by
  intro k hk
  unfold loadE
  rw [if_neg (by omega)]
  split
  · rename_i h2
    have : k = 8 := by simp at h2; omega
    subst this
    rfl
  · rfl

/-- What the law keeps of an instruction. -/
def keepE (x : Ins) : Ins := ⟨if x.op = 0 ∨ x.op = 11 then 2 else x.op, x.dst % 8, x.a % 8, if x.op = 9 then x.b else x.b % 8, x.n⟩

theorem keep_is (x : Ins) : KeepI (keepE x) := by
  unfold keepE KeepI
  simp only
  refine ⟨by omega, by omega, ?_, ?_⟩
  · split
    · intro h
      split
      · omega
      · omega
    · intro h
      rw [if_neg h]
      omega
  · split <;> omega

theorem keep_fits (x : Ins) (h : x.Fits) : (keepE x).Fits := by
  obtain ⟨h1, h2, h3, h4, h5, h6⟩ := h
  unfold keepE
  constructor
  · simp only; split <;> omega
  · simp only; omega
  · simp only; omega
  · simp only; split <;> omega
  · exact h5
  · exact h6

theorem keep_body (l : List Ins) (i : Nat) : bodyE (l.map keepE) i = bodyE l i := by
  refine findSome_congr i (fun k _ => ?_)
  unfold bodyAt
  rw [List.getElem?_map]
  cases l[k]? with
  | none => rfl
  | some x =>
    simp only [Option.map_some]
    have e : (keepE x).op = 9 ↔ x.op = 9 := by
      unfold keepE
      simp only
      split <;> omega
    by_cases h9 : x.op = 9
    · have hb : (keepE x).b = x.b := by unfold keepE; simp [h9]
      rw [hb]
      simp [e, h9]
    · rw [if_neg (fun h => h9 (e.1 h.1)), if_neg (fun h => h9 h.1)]

theorem keep_check (l : List Ins) (h : pcheckE l = 0) : pcheckE (l.map keepE) = 0 := by
  rw [checkE_zero] at h ⊢
  obtain ⟨h1, h2, h3⟩ := h
  refine ⟨by simpa using h1, fun i y hy => ?_, ?_⟩
  · rw [List.getElem?_map] at hy
    obtain ⟨x, hx, rfl⟩ := Option.map_eq_some_iff.1 hy
    have h4 := h2 i x hx
    have e9 : (keepE x).op = 9 ↔ x.op = 9 := by unfold keepE; simp only; split <;> omega
    have e8 : (keepE x).op = 8 ↔ x.op = 8 := by unfold keepE; simp only; split <;> omega
    have e10 : (keepE x).op = 10 ↔ x.op = 10 := by unfold keepE; simp only; split <;> omega
    have en : (keepE x).n = x.n := rfl
    have hl : ((l.map keepE).length : Nat) = l.length := by simp
    unfold insE at h4 ⊢
    split at h4
    · cases h4
    · rename_i c1
      rw [if_neg (by unfold keepE; simp only; split <;> omega)]
      split at h4
      · cases h4
      · rename_i c2
        have hr : regsE (keepE x) = true := by
          have hk := keep_is x
          unfold regsE
          simp only [Bool.and_eq_true, Bool.or_eq_true, decide_eq_true_eq]
          refine ⟨by have := hk.1; omega, by have := hk.2.1; omega, ?_⟩
          by_cases h9 : (keepE x).op = 9
          · exact .inl h9
          · exact .inr (by have := hk.2.2.1 h9; omega)
        rw [if_neg (by simp [hr])]
        split at h4
        · cases h4
        · rename_i c3
          rw [if_neg ?_]
          · split at h4
            · cases h4
            · rename_i c4
              rw [if_neg (by rw [e10, en]; exact c4)]
          · rintro (⟨g9, g⟩ | ⟨g8, g⟩)
            · refine c3 (.inl ⟨e9.1 g9, ?_⟩)
              have hb : (keepE x).b = x.b := by unfold keepE; simp [e9.1 g9]
              unfold loopE at g ⊢
              rw [keep_body, hl, hb, en] at g
              exact g
            · refine c3 (.inr ⟨e8.1 g8, ?_⟩)
              unfold skipE at g ⊢
              rw [keep_body, keep_body, hl, en] at g
              exact g
  · unfold fuelE at h3 ⊢
    rw [List.length_map, List.map_map]
    have : (Ins.turns ∘ keepE) = Ins.turns := by
      funext x
      have e9 : (keepE x).op = 9 ↔ x.op = 9 := by unfold keepE; simp only; split <;> omega
      unfold Function.comp Ins.turns
      by_cases h9 : x.op = 9
      · have hb : (keepE x).b = x.b := by unfold keepE; simp [h9]
        rw [if_pos (e9.2 h9), if_pos h9, hb]; rfl
      · rw [if_neg (fun h => h9 (e9.1 h)), if_neg h9]
    rw [this]
    exact h3

theorem steps_bad (rep : List Ins → Nat → (Nat → Int) → Out) (s : Int) (hrep : ∀ l n r e m, rep l n r = .bad e m → e = 14 ∨ e = 16) :
    ∀ (l : List Ins) (k : Nat) (r : Nat → Int) (e : Nat) (m : Int), stepsE rep s l k r = .bad e m → e = 14 ∨ e = 16
  | [], k, r, e, m, h => by simp [stepsE] at h
  | x :: l, k + 1, r, e, m, h => steps_bad rep s hrep l k r e m (by rw [stepsE] at h; exact h)
  | x :: l, 0, r, e, m, h => by
    have ih := fun k r h => steps_bad rep s hrep l k r e m h
    rw [stepsE] at h
    split at h
    · cases h
    · split at h
      · exact ih _ _ h
      · split at h
        · split at h
          · cases h
          · exact ih _ _ h
          · rename_i e2 m2 h2
            cases h
            exact hrep _ _ _ _ _ h2
        · split at h
          · split at h
            · exact ih _ _ h
            · cases h; exact .inr rfl
          · split at h
            · exact ih _ _ h
            · cases h; exact .inl rfl

theorem rep_bad (f : (Nat → Int) → Out) (hf : ∀ r e m, f r = .bad e m → e = 14 ∨ e = 16) : ∀ (n : Nat) (r : Nat → Int) (e : Nat) (m : Int), repE f n r = .bad e m → e = 14 ∨ e = 16
  | 0, r, e, m, h => by simp [repE] at h
  | n + 1, r, e, m, h => by
    rw [repE] at h
    split at h
    · exact rep_bad f hf n _ e m h
    · cases h
    · rename_i e2 m2 h2
      cases h
      exact hf _ _ _ h2

theorem run_bad (s : Int) : ∀ (d : Nat) (l : List Ins) (r : Nat → Int) (e : Nat) (m : Int), runE s d l r = .bad e m → e = 14 ∨ e = 16
  | 0, l, r, e, m, h => steps_bad _ s (fun _ _ _ _ _ h => by cases h) l 0 r e m h
  | d + 1, l, r, e, m, h => steps_bad _ s (fun l n r e m h => rep_bad _ (fun r e m h => run_bad s d l r e m h) n r e m h) l 0 r e m h

theorem run_append (s : Int) (p q : List Ins) (r : Nat → Int) (h : Inside p) : runE s 1 (p ++ q) r = andThen (runE s 1 p r) (fun r' => runE s 1 q r') := by
  rw [runE_steps, runE_steps, steps_append _ _ _ _ _ _ h (Nat.zero_le _)]
  simp only [runE_steps]

end Go.Proofs.Ytedadjlmmnikaaa

/-
  The laws' Program: whatever small instructions come in, it makes a program that may be.
-/
namespace Go.Proofs.Ytedadjlmmnikaaa
open Go.RowKit
set_option linter.unusedVariables false

structure Sm where
  op : Nat
  dst : Nat
  a : Nat
  b : Nat
  n : Int
  raw : Bool

structure Sm.Fits (x : Sm) : Prop where
  op : x.op ≤ 255
  dst : x.dst ≤ 255
  a : x.a ≤ 255
  b : x.b ≤ 255
  lo : -32768 ≤ x.n
  hi : x.n ≤ 32767

def SmAt (w : World) (g off : Nat) (l : List Sm) : Prop :=
  ∀ i x, l[i]? = some x → x.Fits ∧ w.cell? ⟨g, off + i * 6, none⟩ = some (.int .u8 x.op) ∧ w.cell? ⟨g, off + i * 6 + 1, none⟩ = some (.int .u8 x.dst) ∧ w.cell? ⟨g, off + i * 6 + 2, none⟩ = some (.int .u8 x.a) ∧
    w.cell? ⟨g, off + i * 6 + 3, none⟩ = some (.int .u8 x.b) ∧ w.cell? ⟨g, off + i * 6 + 4, none⟩ = some (.int .i16 x.n) ∧ w.cell? ⟨g, off + i * 6 + 5, none⟩ = some (.bool x.raw)

/-- The slice v shows these small instructions. -/
def SmSees (w : World) (v : Value) (l : List Sm) : Prop :=
  l.length ≤ maxLen ∧ ((l = [] ∧ ∃ a c, v = .slice a 0 c) ∨ ∃ g off cap, v = .slice (some ⟨g, off, none⟩) l.length cap ∧ l.length ≤ cap ∧ SmAt w g off l)

theorem SmAt.fr0 {w w' : World} {g off : Nat} {l : List Sm} (h : SmAt w g off l) (hf : Fr (fun _ => False) w w') : SmAt w' g off l := by
  intro i x hx
  obtain ⟨h0, h1, h2, h3, h4, h5, h6⟩ := h i x hx
  exact ⟨h0, cell_fr0 hf h1, cell_fr0 hf h2, cell_fr0 hf h3, cell_fr0 hf h4, cell_fr0 hf h5, cell_fr0 hf h6⟩

theorem SmSees.fr0 {w w' : World} {v : Value} {l : List Sm} (h : SmSees w v l) (hf : Fr (fun _ => False) w w') : SmSees w' v l := by
  obtain ⟨h1, h | ⟨g, off, cap, rfl, hle, hc⟩⟩ := h
  · exact ⟨h1, .inl h⟩
  · exact ⟨h1, .inr ⟨g, off, cap, rfl, hle, hc.fr0 hf⟩⟩

theorem SmSees.shape {w : World} {v : Value} {l : List Sm} (h : SmSees w v l) : ∃ a c, v = .slice a l.length c ∧ (l = [] ∨ ∃ g off, a = some ⟨g, off, none⟩ ∧ l.length ≤ c ∧ SmAt w g off l) := by
  obtain ⟨_, ⟨rfl, a, c, rfl⟩ | ⟨g, off, cap, rfl, hle, hc⟩⟩ := h
  · exact ⟨a, c, rfl, .inl rfl⟩
  · exact ⟨_, cap, rfl, .inr ⟨g, off, rfl, hle, hc⟩⟩

theorem and_small (n : Int) (m : Nat) (hm : m ≤ 32767) : 0 ≤ bits .and .i16 n m ∧ bits .and .i16 n m ≤ m := by
  have h2 : (BitVec.ofInt IntKind.i16.bits (m : Int)).toNat = m := by
    show (BitVec.ofInt 16 (m : Int)).toNat = m
    simp; omega
  have h1 : (BitVec.ofInt IntKind.i16.bits n &&& BitVec.ofInt IntKind.i16.bits (m : Int)).toNat ≤ m := by
    rw [BitVec.toNat_and]
    exact Nat.le_trans Nat.and_le_right (by omega)
  have h3 : bits .and .i16 n m = IntKind.i16.wrap ((BitVec.ofInt IntKind.i16.bits n &&& BitVec.ofInt IntKind.i16.bits (m : Int)).toNat : Int) := rfl
  generalize (BitVec.ofInt IntKind.i16.bits n &&& BitVec.ofInt IntKind.i16.bits (m : Int)).toNat = q at h1 h3
  have h4 : IntKind.i16.wrap (q : Int) = q := by
    simp [IntKind.wrap, IntKind.bits, IntKind.signed]; omega
  rw [h3, h4]
  omega

theorem sees_one {w : World} {g : Nat} {cs : Array Value} {t : TypeId} {f : Nat × Nat} (h : w.heap[g]? = some (.cells cs t f)) (x : Ins) (hf : x.Fits) (hc : cs.toList = insC x) : PSees w (.slice (some ⟨g, 0, none⟩) 1 1) [x] := by
  have hcs : cs = (insC x).toArray := Array.ext' (by rw [hc])
  subst hcs
  have key : ∀ j u, (insC x)[j]? = some u → w.cell? ⟨g, j, none⟩ = some u := by
    intro j u hu
    rw [cell_of_row w g j _ t f h]
    simpa using hu
  refine .inr ⟨g, 1, rfl, by simp, fun i y hy => ?_⟩
  match i with
  | 0 => cases hy; exact ⟨hf, key 0 _ rfl, key 1 _ rfl, key 2 _ rfl, key 3 _ rfl, key 4 _ rfl⟩
  | i + 1 => cases hy

theorem pre_snoc {l : List Ins} {x : Ins} (h : ∀ y ∈ l, Pre y) (hx : Pre x) : ∀ y ∈ l ++ [x], Pre y := by
  intro y hy
  rcases List.mem_append.1 hy with h1 | h1
  · exact h y h1
  · rw [List.mem_singleton.1 h1]; exact hx

theorem PTold.frozen {w wr : World} {g n cap : Nat} {l : List Ins} (h : PTold w wr (.slice (some ⟨g, 0, none⟩) n cap) l) (k : Nat) : wr.frozen? ⟨g, k, none⟩ = false := by
  obtain ⟨_, ⟨e, _⟩ | ⟨g', cap', cur, e, hb, hg, _⟩⟩ := h.1
  · cases e
  · simp at e
    obtain ⟨rfl, _⟩ := e
    simp [World.frozen?, hg]

theorem PTold.sees {w wr : World} {v : Value} {l : List Ins} (h : PTold w wr v l) (hp : ∀ x ∈ l, Pre x) : PSees wr v l := h.1.sees (fun x hx => (hp x hx).fits)

theorem PTold.at_ {w wr : World} {g n cap : Nat} {l : List Ins} (h : PTold w wr (.slice (some ⟨g, 0, none⟩) n cap) l) (hp : ∀ x ∈ l, Pre x) : PAt wr g l := by
  rcases h.sees hp with ⟨rfl, _⟩ | ⟨g', cap', e, _, hat⟩
  · intro i x hx; simp at hx
  · simp at e
    obtain ⟨rfl, _⟩ := e
    exact hat

theorem PTold.shape {w wr : World} {v : Value} {l : List Ins} (h : PTold w wr v l) : ∃ a c, v = .slice a l.length c ∧ (l.length = 0 ∨ ∃ g, a = some ⟨g, 0, none⟩ ∧ l.length ≤ c ∧ w.heap.size ≤ g) := by
  obtain ⟨⟨_, ⟨rfl, e⟩ | ⟨g, cap, cur, rfl, _, hg, hle, _⟩⟩, _, hk⟩ := h
  · exact ⟨none, 0, by rw [e], .inl e⟩
  · exact ⟨_, cap, rfl, .inr ⟨g, rfl, hle, hk g rfl⟩⟩

theorem pre_set {l : List Ins} (h : ∀ y ∈ l, Pre y) (i : Nat) : ∀ y ∈ l.set i ⟨2, 0, 0, 0, 0⟩, Pre y := by
  intro y hy
  rcases List.mem_or_eq_of_mem_set hy with h1 | rfl
  · exact h y h1
  · exact ⟨⟨by decide, by decide, by decide, by decide, by decide, by decide⟩, by decide, by decide, by decide, .inr (by decide), fun h => by cases h⟩

theorem op_cases (o : Nat) : (o = 9) ∨ (o = 8) ∨ (((o : Int) == 9) = false ∧ ((o : Int) == 8) = false) := by
  by_cases h : o = 9
  · exact .inl h
  · by_cases h' : o = 8
    · exact .inr (.inl h')
    · exact .inr (.inr (by constructor <;> (simp; omega)))

theorem sees_take {w : World} {g N cap i : Nat} {l : List Ins} (h : PAt w g l) (hl : l.length = N) (hi : i < N) (hc : N ≤ cap) : PSees w (.slice (some ⟨g, 0, none⟩) (i + 1) cap) (l.take (i + 1)) :=
  .inr ⟨g, cap, by rw [List.length_take]; congr 1; omega, by rw [List.length_take]; omega, h.take _⟩

theorem own_empty (w : World) : POwn (w.alloc (.cells #[] 84)) (.slice (some ⟨w.heap.size, 0, none⟩) 0 0) [] :=
  ⟨rfl, .inr ⟨w.heap.size, 0, #[], rfl, Nat.zero_le _, heap_alloc_new w _, Nat.le_refl _, by unfold maxLen; omega, rfl, rfl⟩⟩

theorem fr_append {w w' : World} {o : Obj} {n c : Nat} (h : (w.alloc o).grownBy w' (Value.ownBlock (.slice (some ⟨w.heap.size, 0, none⟩) n c))) : Fr (fun _ => False) w w' :=
  ((Fr.refl _ _).alloc _).trans (Fr.of_grown h) (fun i hi e => by simp [Value.ownBlock] at e; omega)

set_option maxRecDepth 100000 in
set_option maxHeartbeats 16000000 in
theorem program_any (sm : List Sm) (v : Value) (w : World) (h : SmSees w v sm) :
    Calls Try.prog 25 #[v] w fun e w' => ∃ v' l, e = .returned v' ∧ PTold w w' v' l ∧ l.length ≤ 16 ∧ l.length ≤ sm.length ∧ (∀ x ∈ l, x.Fits) ∧ pcheckE l = 0 := by
  have hm := h.1
  unfold maxLen at hm
  obtain ⟨a, cap, rfl, hs⟩ := h.shape
  have Hs := Lib.hid hs
  clear h hs
  go_enter Try.func25, Try.ntmps25
  go_wp2
  go_loopg [3, 4, 5, 6, 14] sm.length (fun G u3 u4 u5 u6 u14 wr => ∃ (k : Nat) (l : List Ins), k ≤ sm.length ∧ G = sm.length - k ∧ u14 = .int .i64 k ∧ Hid (PTold w wr u3 l ∧ l.length ≤ k ∧ l.length ≤ 16 ∧ ∀ x ∈ l, Pre x))
  case atStart => exact ⟨0, [], Nat.zero_le _, rfl, rfl, Lib.hid ⟨⟨POwn.nil _, Fr.refl _ _, by simp [Value.ownBlock]⟩, Nat.le_refl _, by simp, by simp⟩⟩
  case round =>
    obtain ⟨k, l, hk, rfl, rfl, HI⟩ := hrel
    by_cases hlt : k < sm.length
    · rcases Hs.out with rfl | ⟨g, off, rfl, hcap, hat⟩
      · simp at hlt
      obtain ⟨x, hx⟩ : ∃ x, sm[k]? = some x := ⟨_, List.getElem?_eq_getElem hlt⟩
      obtain ⟨hf, c0, c1, c2, c3, c4, c5⟩ := hat.fr0 HI.out.1.2.1 k x hx
      obtain ⟨f1, f2, f3, f4, f5, f6⟩ := hf
      clear hx hat
      obtain ⟨op, dst, aa, b, n, raw⟩ := x
      dsimp only at *
      by_cases h16 : k < 16
      · obtain ⟨o, ho, ho12⟩ : ∃ o : Nat, (op : Int) % 12 = o ∧ o < 12 := ⟨op % 12, by omega, by omega⟩
        obtain ⟨d, hd, hd16⟩ : ∃ o : Nat, (dst : Int) % 16 = o ∧ o < 16 := ⟨dst % 16, by omega, by omega⟩
        obtain ⟨a1, ha, ha16⟩ : ∃ o : Nat, (aa : Int) % 16 = o ∧ o < 16 := ⟨aa % 16, by omega, by omega⟩
        obtain ⟨b1, hb, hb16⟩ : ∃ o : Nat, (b : Int) % 16 = o ∧ o < 16 := ⟨b % 16, by omega, by omega⟩
        by_cases h9 : o = 9
        · subst h9
          obtain ⟨m, hm7, hm0, hm8⟩ : ∃ m : Int, bits .and .i16 n 7 = m ∧ 0 ≤ m ∧ m ≤ 7 := ⟨_, rfl, and_small n 7 (by omega)⟩
          obtain ⟨b4, hb4, hb5⟩ : ∃ q : Nat, Int.tmod b 4 = q ∧ q < 4 := ⟨b % 4, (Int.ofNat_tmod b 4).symm, by omega⟩
          have hb6 : (b : Int) % 4 = b4 := by rw [← hb4]; rfl
          have HP : Hid (Pre ⟨9, d, a1, 1 + b4, 1 + m⟩) := Lib.hid ⟨⟨by show 9 ≤ 255; omega, by show d ≤ 255; omega, by show a1 ≤ 255; omega, by show 1 + b4 ≤ 255; omega, by show -32768 ≤ 1 + m; omega, by show 1 + m ≤ 32767; omega⟩, ho12, hd16, ha16, .inl rfl, fun h => absurd h (by simp)⟩
          clear ho12
          go_wp2
          go_region
          go_wp2_with (at_builtin; refine wpList_append_ins rfl (.tmp 63) (.tmp 65) rfl u3 l rfl ?own _ [⟨9, d, a1, 1 + b4, 1 + m⟩] rfl ?src ?len ?grow)
          case own => exact HI.out.1.1.fr (S := fun _ => False) (by (repeat first | exact Fr.refl _ _ | refine Fr.drew ?_ | refine Fr.alloc ?_ _ | refine Fr.setCell ?_ (fun h => absurd h (by simp)) _)) (fun _ _ h => h)
          case src => exact (sees_one (new_three wr _ _ _) _ HP.out.fits rfl).fr ((Fr.refl _ _).drew) (fun _ _ h => h)
          case len => have := HI.out.2.1; simp; omega
          case grow =>
            intro v' w3 hown' hgrow hcase
            have HO := Lib.hid (HI.out.1.append (by (repeat first | exact Fr.refl _ _ | refine Fr.drew ?_ | refine Fr.alloc ?_ _ | refine Fr.setCell ?_ (fun h => absurd h (by simp)) _)) hown' hgrow hcase (by omega))
            clear hown' hgrow hcase
            go_wp2
            go_roundg (sm.length - (k + 1))
            case measure => omega
            case rel => exact ⟨k + 1, _, by omega, rfl, by go_num, Lib.hid ⟨HO.out, by have := HI.out.2.1; simp; omega, by have := HI.out.2.1; simp; omega, pre_snoc HI.out.2.2.2 HP.out⟩⟩
        · by_cases h8 : o = 8
          · subst h8
            obtain ⟨m, hm7, hm0, hm8⟩ : ∃ m : Int, bits .and .i16 n 3 = m ∧ 0 ≤ m ∧ m ≤ 3 := ⟨_, rfl, and_small n 3 (by omega)⟩
            have HP : Hid (Pre ⟨8, d, a1, b1, 1 + m⟩) := Lib.hid ⟨⟨by show 8 ≤ 255; omega, by show d ≤ 255; omega, by show a1 ≤ 255; omega, by show b1 ≤ 255; omega, by show -32768 ≤ 1 + m; omega, by show 1 + m ≤ 32767; omega⟩, ho12, hd16, ha16, .inr hb16, fun h => absurd h (by simp)⟩
            clear h9 ho12
            go_wp2_with (at_builtin; refine wpList_append_ins rfl (.tmp 63) (.tmp 65) rfl u3 l rfl ?own _ [⟨8, d, a1, b1, 1 + m⟩] rfl ?src ?len ?grow)
            case own => exact HI.out.1.1.fr (S := fun _ => False) (by (repeat first | exact Fr.refl _ _ | refine Fr.drew ?_ | refine Fr.alloc ?_ _ | refine Fr.setCell ?_ (fun h => absurd h (by simp)) _)) (fun _ _ h => h)
            case src => exact sees_one (new_three wr _ _ _) _ HP.out.fits rfl
            case len => have := HI.out.2.1; simp; omega
            case grow =>
              intro v' w3 hown' hgrow hcase
              have HO := Lib.hid (HI.out.1.append (by (repeat first | exact Fr.refl _ _ | refine Fr.drew ?_ | refine Fr.alloc ?_ _ | refine Fr.setCell ?_ (fun h => absurd h (by simp)) _)) hown' hgrow hcase (by omega))
              clear hown' hgrow hcase
              go_wp2
              go_roundg (sm.length - (k + 1))
              case measure => omega
              case rel => exact ⟨k + 1, _, by omega, rfl, by go_num, Lib.hid ⟨HO.out, by have := HI.out.2.1; simp; omega, by have := HI.out.2.1; simp; omega, pre_snoc HI.out.2.2.2 HP.out⟩⟩
          · by_cases h10 : o = 10
            · subst h10
              obtain ⟨m, hm7, hm0, hm8⟩ : ∃ m : Int, bits .and .i16 n 31 = m ∧ 0 ≤ m ∧ m ≤ 31 := ⟨_, rfl, and_small n 31 (by omega)⟩
              have HP : Hid (Pre ⟨10, d, a1, b1, m⟩) := Lib.hid ⟨⟨by show 10 ≤ 255; omega, by show d ≤ 255; omega, by show a1 ≤ 255; omega, by show b1 ≤ 255; omega, by show -32768 ≤ m; omega, by show m ≤ 32767; omega⟩, ho12, hd16, ha16, .inr hb16, fun _ => hm0⟩
              clear h9 h8 ho12
              go_wp2_with (at_builtin; refine wpList_append_ins rfl (.tmp 63) (.tmp 65) rfl u3 l rfl ?own _ [⟨10, d, a1, b1, m⟩] rfl ?src ?len ?grow)
              case own => exact HI.out.1.1.fr (S := fun _ => False) (by (repeat first | exact Fr.refl _ _ | refine Fr.drew ?_ | refine Fr.alloc ?_ _ | refine Fr.setCell ?_ (fun h => absurd h (by simp)) _)) (fun _ _ h => h)
              case src => exact sees_one (new_three wr _ _ _) _ HP.out.fits rfl
              case len => have := HI.out.2.1; simp; omega
              case grow =>
                intro v' w3 hown' hgrow hcase
                have HO := Lib.hid (HI.out.1.append (by (repeat first | exact Fr.refl _ _ | refine Fr.drew ?_ | refine Fr.alloc ?_ _ | refine Fr.setCell ?_ (fun h => absurd h (by simp)) _)) hown' hgrow hcase (by omega))
                clear hown' hgrow hcase
                go_wp2
                go_roundg (sm.length - (k + 1))
                case measure => omega
                case rel => exact ⟨k + 1, _, by omega, rfl, by go_num, Lib.hid ⟨HO.out, by have := HI.out.2.1; simp; omega, by have := HI.out.2.1; simp; omega, pre_snoc HI.out.2.2.2 HP.out⟩⟩
            · have e9 : ((o : Int) == 9) = false := by simp; omega
              have e8 : ((o : Int) == 8) = false := by simp; omega
              have e10 : ((o : Int) == 10) = false := by simp; omega
              have HP : Hid (Pre ⟨o, d, a1, b1, n⟩) := Lib.hid ⟨⟨by show o ≤ 255; omega, by show d ≤ 255; omega, by show a1 ≤ 255; omega, by show b1 ≤ 255; omega, f5, f6⟩, ho12, hd16, ha16, .inr hb16, fun h => absurd h h10⟩
              clear h9 h8 h10
              go_wp2_with (at_builtin; refine wpList_append_ins rfl (.tmp 63) (.tmp 65) rfl u3 l rfl ?own _ [⟨o, d, a1, b1, n⟩] rfl ?src ?len ?grow)
              case own => exact HI.out.1.1.fr (S := fun _ => False) (by (repeat first | exact Fr.refl _ _ | refine Fr.drew ?_ | refine Fr.alloc ?_ _ | refine Fr.setCell ?_ (fun h => absurd h (by simp)) _)) (fun _ _ h => h)
              case src => exact sees_one (new_three wr _ _ _) _ HP.out.fits rfl
              case len => have := HI.out.2.1; simp; omega
              case grow =>
                intro v' w3 hown' hgrow hcase
                have HO := Lib.hid (HI.out.1.append (by (repeat first | exact Fr.refl _ _ | refine Fr.drew ?_ | refine Fr.alloc ?_ _ | refine Fr.setCell ?_ (fun h => absurd h (by simp)) _)) hown' hgrow hcase (by omega))
                clear hown' hgrow hcase
                go_wp2
                go_roundg (sm.length - (k + 1))
                case measure => omega
                case rel => exact ⟨k + 1, _, by omega, rfl, by go_num, Lib.hid ⟨HO.out, by have := HI.out.2.1; simp; omega, by have := HI.out.2.1; simp; omega, pre_snoc HI.out.2.2.2 HP.out⟩⟩
      · have FB := Lib.hid (HI.out.1.fr (((Fr.refl (fun _ => False) wr).alloc (.cells #[.int .u8 op, .int .u8 dst, .int .u8 aa, .int .u8 b, .int .i16 n, .bool raw] 111))))
        go_wp2
        go_roundg (sm.length - (k + 1))
        case measure => omega
        case rel => exact ⟨k + 1, l, by omega, rfl, by go_num, Lib.hid ⟨FB.out, by have := HI.out.2.1; omega, HI.out.2.2⟩⟩
    · obtain rfl : k = sm.length := by omega
      have hN : l.length ≤ 16 := HI.out.2.2.1
      have hNs : l.length ≤ sm.length := HI.out.2.1
      obtain ⟨a3, c3, rfl, hS3⟩ := HI.out.1.shape
      obtain ⟨N, hNe⟩ : ∃ N, l.length = N := ⟨_, rfl⟩
      have H1 := HI.out.1
      rw [hNe] at hN hNs hS3 H1
      have HS3 := Lib.hid hS3
      have H1 := Lib.hid (show PTold w wr (.slice a3 N c3) l ∧ l.length = N ∧ ∀ x ∈ l, Pre x from ⟨H1, hNe, HI.out.2.2.2⟩)
      rw [hNe]
      clear hS3 HI Hs hNe
      go_wp2
      go_loopg [7, 8, 9, 10, 68] 40 (fun G u7 u8 u9 u10 u68 wr => ∃ (j : Nat) (l2 : List Ins), j ≤ 40 ∧ G = 40 - j ∧ u68 = .int .i64 j ∧ Hid (PTold w wr (.slice a3 N c3) l2 ∧ l2.length = N ∧ ∀ x ∈ l2, Pre x))
      case atStart => exact ⟨0, l, Nat.zero_le _, rfl, rfl, H1⟩
      case round =>
        obtain ⟨j, l2, hj, rfl, rfl, H2⟩ := hrel
        clear H1
        by_cases hlt2 : j < 40
        · have hd40 : decide ((j : Int) < 40) = true := by simp; omega
          have HL := Lib.hid hlt2
          clear hlt2
          go_wp2
          clear hd40
          go_loopg [7, 8, 9, 10, 72] N (fun G u7 u8 u9 u10 u72 wx => ∃ (i : Nat) (bad : Int), i ≤ N ∧ G = N - i ∧ u72 = .int .i64 i ∧ u7 = .int .i64 bad ∧ -1 ≤ bad ∧ bad < N ∧ Hid (PTold w wx (.slice a3 N c3) l2 ∧ l2.length = N ∧ ∀ x ∈ l2, Pre x))
          case atStart => exact ⟨0, -1, Nat.zero_le _, rfl, rfl, rfl, by omega, by omega, H2⟩
          case round =>
            obtain ⟨i, bad, hi, rfl, rfl, rfl, hb0, hb1, HJ⟩ := hrel
            obtain ⟨wx, rfl⟩ : ∃ wx : World, wx = wr := ⟨_, rfl⟩
            clear H2
            by_cases hlt3 : i < N
            · rcases HS3.out with hz | ⟨g3, rfl, hcap3, hold⟩
              · omega
              by_cases hbn : bad < 0
              · obtain rfl : bad = -1 := by omega
                have HC := Lib.hid (pcheck_any l2 _ wx (by have := HJ.out.2.1; omega) (HJ.out.1.sees HJ.out.2.2))
                have hle := checkE_le l2
                obtain ⟨x, hx⟩ : ∃ x, l2[i]? = some x := ⟨_, List.getElem?_eq_getElem (by have := HJ.out.2.1; omega)⟩
                have hat := HJ.out.1.at_ HJ.out.2.2
                obtain ⟨hf, c0, -, -, -, -⟩ := hat i x hx
                have hop := hf.op
                have HX := Lib.hid hx
                clear hat hf hx
                obtain ⟨op, xd, xa, xb, xn⟩ := x
                dsimp only at *
                generalize pcheckE l2 = E at HC hle
                by_cases hE : E = 0
                · subst hE
                  go_wp2_with fail
                  refine HC.out.mono ?_
                  rintro r w1 ⟨rfl, q1⟩
                  have Q1 := Lib.hid q1
                  go_wp2
                  go_roundg (N - (i + 1))
                  case measure => omega
                  case rel => exact ⟨i + 1, -1, by omega, rfl, by go_num, rfl, by omega, by omega, Lib.hid ⟨HJ.out.1.fr Q1.out, HJ.out.2⟩⟩
                · have e0 : ((E : Int) == 0) = false := by simp; omega
                  have e1 : ((E : Int) != 0) = true := by simp; omega
                  clear hE
                  rcases op_cases op with rfl | rfl | ⟨e9, e8⟩
                  · go_wp2_with fail
                    refine HC.out.mono ?_
                    rintro r w1 ⟨rfl, q1⟩
                    have Q1 := Lib.hid q1
                    clear q1
                    go_wp2_with (at_builtin; refine wpList_append_ins rfl (.tmp 95) (.tmp 99) rfl (.slice (some ⟨w1.heap.size, 0, none⟩) 0 0) [] rfl (own_empty w1) (.slice (some ⟨g3, 0, none⟩) (i + 1) c3) (l2.take (i + 1)) rfl ?src ?len ?grow)
                    case src => exact sees_take ((HJ.out.1.at_ HJ.out.2.2).fr (Q1.out.alloc _) (fun h => h)) HJ.out.2.1 (by omega) hcap3
                    case len => rw [List.length_nil, List.length_take]; omega
                    case grow =>
                      intro v' w3 hown' hgrow hcase
                      have Q3 := Lib.hid (Q1.out.trans (fr_append hgrow) (fun _ _ h => h))
                      have HO := Lib.hid hown'
                      clear hown' hgrow hcase
                      go_wp2
                      go_roundg (N - (i + 1))
                      case measure => omega
                      case rel => exact ⟨i + 1, i, by omega, rfl, by go_num, rfl, by omega, by omega, Lib.hid ⟨HJ.out.1.fr Q3.out, HJ.out.2⟩⟩
                  · go_wp2_with fail
                    refine HC.out.mono ?_
                    rintro r w1 ⟨rfl, q1⟩
                    have Q1 := Lib.hid q1
                    clear q1
                    go_wp2_with (at_builtin; refine wpList_append_ins rfl (.tmp 95) (.tmp 99) rfl (.slice (some ⟨w1.heap.size, 0, none⟩) 0 0) [] rfl (own_empty w1) (.slice (some ⟨g3, 0, none⟩) (i + 1) c3) (l2.take (i + 1)) rfl ?src ?len ?grow)
                    case src => exact sees_take ((HJ.out.1.at_ HJ.out.2.2).fr (Q1.out.alloc _) (fun h => h)) HJ.out.2.1 (by omega) hcap3
                    case len => rw [List.length_nil, List.length_take]; omega
                    case grow =>
                      intro v' w3 hown' hgrow hcase
                      have Q3 := Lib.hid (Q1.out.trans (fr_append hgrow) (fun _ _ h => h))
                      have HO := Lib.hid hown'
                      clear hown' hgrow hcase
                      have HK := Lib.hid (pcheck_any (l2.take (i + 1)) v' w3 (by rw [List.length_take]; omega) (POwn.sees HO.out (fun x hx => (HJ.out.2.2 x (List.mem_of_mem_take hx)).fits)))
                      have hle2 := checkE_le (l2.take (i + 1))
                      generalize pcheckE (l2.take (i + 1)) = E2 at HK hle2
                      by_cases hE2 : E2 = 0
                      · subst hE2
                        by_cases hlast : i + 1 = N
                        · have el : ((i : Int) == (N : Int) - 1) = true := by simp; omega
                          clear hlast
                          go_wp2_with fail
                          refine HK.out.mono ?_
                          rintro r w4 ⟨rfl, q4⟩
                          have Q4 := Lib.hid (Q3.out.trans q4 (fun _ _ h => h))
                          go_wp2
                          go_roundg (N - (i + 1))
                          case measure => omega
                          case rel => exact ⟨i + 1, i, by omega, rfl, by go_num, rfl, by omega, by omega, Lib.hid ⟨HJ.out.1.fr Q4.out, HJ.out.2⟩⟩
                        · have el : ((i : Int) == (N : Int) - 1) = false := by simp; omega
                          clear hlast
                          go_wp2_with fail
                          refine HK.out.mono ?_
                          rintro r w4 ⟨rfl, q4⟩
                          have Q4 := Lib.hid (Q3.out.trans q4 (fun _ _ h => h))
                          go_wp2
                          go_roundg (N - (i + 1))
                          case measure => omega
                          case rel => exact ⟨i + 1, -1, by omega, rfl, by go_num, rfl, by omega, by omega, Lib.hid ⟨HJ.out.1.fr Q4.out, HJ.out.2⟩⟩
                      · have k0 : ((E2 : Int) == 0) = false := by simp; omega
                        have k1 : ((E2 : Int) != 0) = true := by simp; omega
                        clear hE2
                        go_wp2_with fail
                        refine HK.out.mono ?_
                        rintro r w4 ⟨rfl, q4⟩
                        have Q4 := Lib.hid (Q3.out.trans q4 (fun _ _ h => h))
                        go_wp2
                        go_roundg (N - (i + 1))
                        case measure => omega
                        case rel => exact ⟨i + 1, i, by omega, rfl, by go_num, rfl, by omega, by omega, Lib.hid ⟨HJ.out.1.fr Q4.out, HJ.out.2⟩⟩
                  · go_wp2_with fail
                    refine HC.out.mono ?_
                    rintro r w1 ⟨rfl, q1⟩
                    have Q1 := Lib.hid q1
                    clear q1
                    go_wp2
                    go_roundg (N - (i + 1))
                    case measure => omega
                    case rel => exact ⟨i + 1, -1, by omega, rfl, by go_num, rfl, by omega, by omega, Lib.hid ⟨HJ.out.1.fr Q1.out, HJ.out.2⟩⟩
              · have HC := HJ
                obtain ⟨x, hx⟩ : ∃ x, l2[i]? = some x := ⟨_, List.getElem?_eq_getElem (by have := HJ.out.2.1; omega)⟩
                have hat := HJ.out.1.at_ HJ.out.2.2
                obtain ⟨hf, c0, -, -, -, -⟩ := hat i x hx
                have hop := hf.op
                have HX := Lib.hid hx
                clear hat hf hx
                obtain ⟨op, xd, xa, xb, xn⟩ := x
                dsimp only at *
                go_wp2
                go_roundg (N - (i + 1))
                case measure => omega
                case rel => exact ⟨i + 1, bad, by omega, rfl, by go_num, rfl, by omega, by omega, Lib.hid ⟨HJ.out.1.fr (Fr.refl _ _), HJ.out.2⟩⟩
            · obtain rfl : N = i := by omega
              by_cases hbn : bad < 0
              · have H2 := HJ
                go_wp2
                go_loopg [11, 126] N (fun G u11 u126 wr => ∃ (i : Nat) (l3 : List Ins), i ≤ N ∧ G = N - i ∧ u126 = .int .i64 i ∧ Hid (PTold w wr (.slice a3 N c3) l3 ∧ l3.length = N ∧ (∀ x ∈ l3, Pre x) ∧ (pcheckE l3 = 0 ∨ ∀ j x, j < i → l3[j]? = some x → x.op ≠ 8 ∧ x.op ≠ 9)))
                case atStart => exact ⟨0, l2, Nat.zero_le _, rfl, rfl, Lib.hid ⟨H2.out.1, H2.out.2.1, H2.out.2.2, .inr (fun j x hj => by omega)⟩⟩
                case round =>
                  obtain ⟨i, l3, hi, rfl, rfl, H3⟩ := hrel
                  by_cases hlt3 : i < N
                  · rcases HS3.out with hz | ⟨g3, rfl, hcap3, hold⟩
                    · omega
                    have HC := Lib.hid (pcheck_any l3 _ wr (by have := H3.out.2.1; omega) (H3.out.1.sees H3.out.2.2.1))
                    have hle := checkE_le l3
                    obtain ⟨x, hx⟩ : ∃ x, l3[i]? = some x := ⟨_, List.getElem?_eq_getElem (by have := H3.out.2.1; omega)⟩
                    have hat := H3.out.1.at_ H3.out.2.2.1
                    obtain ⟨hf, c0, -, -, -, -⟩ := hat i x hx
                    have hop := hf.op
                    have HX := Lib.hid hx
                    clear hat hf hx
                    obtain ⟨op, xd, xa, xb, xn⟩ := x
                    dsimp only at *
                    by_cases hE : pcheckE l3 = 0
                    · rw [hE] at HC
                      have HE := Lib.hid hE
                      clear hE hle
                      go_wp2_with fail
                      refine HC.out.mono ?_
                      rintro r w1 ⟨rfl, q1⟩
                      have Q1 := Lib.hid q1
                      go_wp2
                      go_roundg (N - (i + 1))
                      case measure => omega
                      case rel => exact ⟨i + 1, l3, by omega, rfl, by go_num, Lib.hid ⟨H3.out.1.fr Q1.out, H3.out.2.1, H3.out.2.2.1, .inl HE.out⟩⟩
                    · have HN := Lib.hid hE
                      obtain ⟨E, hEE⟩ : ∃ E, E = pcheckE l3 := ⟨_, rfl⟩
                      rw [← hEE] at HC hE hle
                      have e0 : ((E : Int) == 0) = false := by simp; omega
                      have e1 : ((E : Int) != 0) = true := by simp; omega
                      clear hE hEE
                      have store : ∀ w1, Fr (fun _ => False) wr w1 → PTold w (setIns w1 g3 i ⟨2, 0, 0, 0, 0⟩) (.slice (some ⟨g3, 0, none⟩) N c3) (l3.set i ⟨2, 0, 0, 0, 0⟩) ∧ (l3.set i ⟨2, 0, 0, 0, 0⟩).length = N ∧ (∀ x ∈ l3.set i ⟨2, 0, 0, 0, 0⟩, Pre x) ∧
                          (pcheckE (l3.set i ⟨2, 0, 0, 0, 0⟩) = 0 ∨ ∀ j x, j < i + 1 → (l3.set i ⟨2, 0, 0, 0, 0⟩)[j]? = some x → x.op ≠ 8 ∧ x.op ≠ 9) := by
                        intro w1 f
                        refine ⟨(H3.out.1.fr f).set i (by have := H3.out.2.1; omega) _, by rw [List.length_set]; exact H3.out.2.1, pre_set H3.out.2.2.1 i, .inr (fun j x hj hx => ?_)⟩
                        rw [List.getElem?_set] at hx
                        by_cases hij : i = j
                        · subst hij
                          rw [if_pos rfl, if_pos (by have := H3.out.2.1; omega)] at hx
                          cases hx
                          exact ⟨by decide, by decide⟩
                        · rw [if_neg hij] at hx
                          rcases H3.out.2.2.2 with h | h
                          · exact absurd h HN.out
                          · exact h j x (by omega) hx
                      have HST := Lib.hid store
                      clear store
                      rcases op_cases op with rfl | rfl | ⟨e9, e8⟩
                      · go_wp2_with fail
                        refine HC.out.mono ?_
                        rintro r w1 ⟨rfl, q1⟩
                        have Q1 := Lib.hid q1
                        replace c0 := cell_fr0 q1 c0
                        have z0 := (H3.out.1.fr q1).frozen (i * 5)
                        have z1 := (H3.out.1.fr q1).frozen (i * 5 + 1)
                        have z2 := (H3.out.1.fr q1).frozen (i * 5 + 2)
                        have z3 := (H3.out.1.fr q1).frozen (i * 5 + 3)
                        have z4 := (H3.out.1.fr q1).frozen (i * 5 + 4)
                        have hgs : g3 < w1.heap.size := (H3.out.1.fr q1).1.lt g3 rfl
                        have d1 := cell_fr0 q1 (H3.out.1.at_ H3.out.2.2.1 i _ HX.out).2.2.1
                        have d2 := cell_fr0 q1 (H3.out.1.at_ H3.out.2.2.1 i _ HX.out).2.2.2.1
                        have d3 := cell_fr0 q1 (H3.out.1.at_ H3.out.2.2.1 i _ HX.out).2.2.2.2.1
                        have d4 := cell_fr0 q1 (H3.out.1.at_ H3.out.2.2.1 i _ HX.out).2.2.2.2.2
                        clear q1
                        go_wp2
                        go_roundg (N - (i + 1))
                        case measure => omega
                        case rel => exact ⟨i + 1, l3.set i ⟨2, 0, 0, 0, 0⟩, by omega, rfl, by go_num, Lib.hid (HST.out w1 Q1.out)⟩
                      · go_wp2_with fail
                        refine HC.out.mono ?_
                        rintro r w1 ⟨rfl, q1⟩
                        have Q1 := Lib.hid q1
                        replace c0 := cell_fr0 q1 c0
                        have z0 := (H3.out.1.fr q1).frozen (i * 5)
                        have z1 := (H3.out.1.fr q1).frozen (i * 5 + 1)
                        have z2 := (H3.out.1.fr q1).frozen (i * 5 + 2)
                        have z3 := (H3.out.1.fr q1).frozen (i * 5 + 3)
                        have z4 := (H3.out.1.fr q1).frozen (i * 5 + 4)
                        have hgs : g3 < w1.heap.size := (H3.out.1.fr q1).1.lt g3 rfl
                        have d1 := cell_fr0 q1 (H3.out.1.at_ H3.out.2.2.1 i _ HX.out).2.2.1
                        have d2 := cell_fr0 q1 (H3.out.1.at_ H3.out.2.2.1 i _ HX.out).2.2.2.1
                        have d3 := cell_fr0 q1 (H3.out.1.at_ H3.out.2.2.1 i _ HX.out).2.2.2.2.1
                        have d4 := cell_fr0 q1 (H3.out.1.at_ H3.out.2.2.1 i _ HX.out).2.2.2.2.2
                        clear q1
                        go_wp2
                        go_roundg (N - (i + 1))
                        case measure => omega
                        case rel => exact ⟨i + 1, l3.set i ⟨2, 0, 0, 0, 0⟩, by omega, rfl, by go_num, Lib.hid (HST.out w1 Q1.out)⟩
                      · have HO := Lib.hid e9
                        have HO8 := Lib.hid e8
                        go_wp2_with fail
                        refine HC.out.mono ?_
                        rintro r w1 ⟨rfl, q1⟩
                        have Q1 := Lib.hid q1
                        replace c0 := cell_fr0 q1 c0
                        clear q1
                        go_wp2
                        go_roundg (N - (i + 1))
                        case measure => omega
                        case rel => exact ⟨i + 1, l3, by omega, rfl, by go_num, Lib.hid ⟨H3.out.1.fr Q1.out, H3.out.2.1, H3.out.2.2.1, by
                          rcases H3.out.2.2.2 with h | h
                          · exact .inl h
                          · refine .inr (fun j x hj hx => ?_)
                            by_cases hij : j < i
                            · exact h j x hij hx
                            · obtain rfl : j = i := by omega
                              have hx' := HX.out
                              rw [hx] at hx'
                              cases hx'
                              have a9 := HO.out
                              have a8 := HO8.out
                              simp at a9 a8
                              exact ⟨by show op ≠ 8; omega, by show op ≠ 9; omega⟩⟩⟩
                  · obtain rfl : i = N := by omega
                    have HE : Hid (pcheckE l3 = 0) := Lib.hid (by
                      rcases H3.out.2.2.2 with h | h
                      · exact h
                      · refine pre_check l3 (by have := H3.out.2.1; omega) H3.out.2.2.1 (fun x hx => ?_)
                        obtain ⟨j, hj, rfl⟩ := List.mem_iff_getElem.1 hx
                        exact h j _ (by have := H3.out.2.1; omega) (List.getElem?_eq_getElem hj))
                    go_wp2
                    go_ret
                    exact ⟨_, l3, rfl, H3.out.1, by have := H3.out.2.1; omega, by have := H3.out.2.1; omega, fun x hx => (H3.out.2.2.1 x hx).fits, HE.out⟩
              · obtain ⟨bd, rfl⟩ : ∃ q : Nat, bad = q := ⟨bad.toNat, by omega⟩
                rcases HS3.out with hz | ⟨g3, rfl, hcap3, hold⟩
                · omega
                have z0 := HJ.out.1.frozen (bd * 5)
                have z1 := HJ.out.1.frozen (bd * 5 + 1)
                have z2 := HJ.out.1.frozen (bd * 5 + 2)
                have z3 := HJ.out.1.frozen (bd * 5 + 3)
                have z4 := HJ.out.1.frozen (bd * 5 + 4)
                have hgs : g3 < wx.heap.size := HJ.out.1.1.lt g3 rfl
                obtain ⟨x, hx⟩ : ∃ x, l2[bd]? = some x := ⟨_, List.getElem?_eq_getElem (by have := HJ.out.2.1; omega)⟩
                obtain ⟨-, d0, d1, d2, d3, d4⟩ := HJ.out.1.at_ HJ.out.2.2 bd x hx
                clear hx
                go_wp2
                have hlt2 := HL.out
                go_roundg (40 - (j + 1))
                case measure => omega
                case rel => exact ⟨j + 1, l2.set bd ⟨2, 0, 0, 0, 0⟩, by omega, rfl, by go_num, Lib.hid ⟨HJ.out.1.set bd (by have := HJ.out.2.1; omega) ⟨2, 0, 0, 0, 0⟩, by rw [List.length_set]; exact HJ.out.2.1, pre_set HJ.out.2.2 bd⟩⟩
        · obtain rfl : j = 40 := by omega
          go_wp2
          go_loopg [11, 126] N (fun G u11 u126 wr => ∃ (i : Nat) (l3 : List Ins), i ≤ N ∧ G = N - i ∧ u126 = .int .i64 i ∧ Hid (PTold w wr (.slice a3 N c3) l3 ∧ l3.length = N ∧ (∀ x ∈ l3, Pre x) ∧ (pcheckE l3 = 0 ∨ ∀ j x, j < i → l3[j]? = some x → x.op ≠ 8 ∧ x.op ≠ 9)))
          case atStart => exact ⟨0, l2, Nat.zero_le _, rfl, rfl, Lib.hid ⟨H2.out.1, H2.out.2.1, H2.out.2.2, .inr (fun j x hj => by omega)⟩⟩
          case round =>
            obtain ⟨i, l3, hi, rfl, rfl, H3⟩ := hrel
            by_cases hlt3 : i < N
            · rcases HS3.out with hz | ⟨g3, rfl, hcap3, hold⟩
              · omega
              have HC := Lib.hid (pcheck_any l3 _ wr (by have := H3.out.2.1; omega) (H3.out.1.sees H3.out.2.2.1))
              have hle := checkE_le l3
              obtain ⟨x, hx⟩ : ∃ x, l3[i]? = some x := ⟨_, List.getElem?_eq_getElem (by have := H3.out.2.1; omega)⟩
              have hat := H3.out.1.at_ H3.out.2.2.1
              obtain ⟨hf, c0, -, -, -, -⟩ := hat i x hx
              have hop := hf.op
              have HX := Lib.hid hx
              clear hat hf hx
              obtain ⟨op, xd, xa, xb, xn⟩ := x
              dsimp only at *
              by_cases hE : pcheckE l3 = 0
              · rw [hE] at HC
                have HE := Lib.hid hE
                clear hE hle
                go_wp2_with fail
                refine HC.out.mono ?_
                rintro r w1 ⟨rfl, q1⟩
                have Q1 := Lib.hid q1
                go_wp2
                go_roundg (N - (i + 1))
                case measure => omega
                case rel => exact ⟨i + 1, l3, by omega, rfl, by go_num, Lib.hid ⟨H3.out.1.fr Q1.out, H3.out.2.1, H3.out.2.2.1, .inl HE.out⟩⟩
              · have HN := Lib.hid hE
                obtain ⟨E, hEE⟩ : ∃ E, E = pcheckE l3 := ⟨_, rfl⟩
                rw [← hEE] at HC hE hle
                have e0 : ((E : Int) == 0) = false := by simp; omega
                have e1 : ((E : Int) != 0) = true := by simp; omega
                clear hE hEE
                have store : ∀ w1, Fr (fun _ => False) wr w1 → PTold w (setIns w1 g3 i ⟨2, 0, 0, 0, 0⟩) (.slice (some ⟨g3, 0, none⟩) N c3) (l3.set i ⟨2, 0, 0, 0, 0⟩) ∧ (l3.set i ⟨2, 0, 0, 0, 0⟩).length = N ∧ (∀ x ∈ l3.set i ⟨2, 0, 0, 0, 0⟩, Pre x) ∧
                    (pcheckE (l3.set i ⟨2, 0, 0, 0, 0⟩) = 0 ∨ ∀ j x, j < i + 1 → (l3.set i ⟨2, 0, 0, 0, 0⟩)[j]? = some x → x.op ≠ 8 ∧ x.op ≠ 9) := by
                  intro w1 f
                  refine ⟨(H3.out.1.fr f).set i (by have := H3.out.2.1; omega) _, by rw [List.length_set]; exact H3.out.2.1, pre_set H3.out.2.2.1 i, .inr (fun j x hj hx => ?_)⟩
                  rw [List.getElem?_set] at hx
                  by_cases hij : i = j
                  · subst hij
                    rw [if_pos rfl, if_pos (by have := H3.out.2.1; omega)] at hx
                    cases hx
                    exact ⟨by decide, by decide⟩
                  · rw [if_neg hij] at hx
                    rcases H3.out.2.2.2 with h | h
                    · exact absurd h HN.out
                    · exact h j x (by omega) hx
                have HST := Lib.hid store
                clear store
                rcases op_cases op with rfl | rfl | ⟨e9, e8⟩
                · go_wp2_with fail
                  refine HC.out.mono ?_
                  rintro r w1 ⟨rfl, q1⟩
                  have Q1 := Lib.hid q1
                  replace c0 := cell_fr0 q1 c0
                  have z0 := (H3.out.1.fr q1).frozen (i * 5)
                  have z1 := (H3.out.1.fr q1).frozen (i * 5 + 1)
                  have z2 := (H3.out.1.fr q1).frozen (i * 5 + 2)
                  have z3 := (H3.out.1.fr q1).frozen (i * 5 + 3)
                  have z4 := (H3.out.1.fr q1).frozen (i * 5 + 4)
                  have hgs : g3 < w1.heap.size := (H3.out.1.fr q1).1.lt g3 rfl
                  have d1 := cell_fr0 q1 (H3.out.1.at_ H3.out.2.2.1 i _ HX.out).2.2.1
                  have d2 := cell_fr0 q1 (H3.out.1.at_ H3.out.2.2.1 i _ HX.out).2.2.2.1
                  have d3 := cell_fr0 q1 (H3.out.1.at_ H3.out.2.2.1 i _ HX.out).2.2.2.2.1
                  have d4 := cell_fr0 q1 (H3.out.1.at_ H3.out.2.2.1 i _ HX.out).2.2.2.2.2
                  clear q1
                  go_wp2
                  go_roundg (N - (i + 1))
                  case measure => omega
                  case rel => exact ⟨i + 1, l3.set i ⟨2, 0, 0, 0, 0⟩, by omega, rfl, by go_num, Lib.hid (HST.out w1 Q1.out)⟩
                · go_wp2_with fail
                  refine HC.out.mono ?_
                  rintro r w1 ⟨rfl, q1⟩
                  have Q1 := Lib.hid q1
                  replace c0 := cell_fr0 q1 c0
                  have z0 := (H3.out.1.fr q1).frozen (i * 5)
                  have z1 := (H3.out.1.fr q1).frozen (i * 5 + 1)
                  have z2 := (H3.out.1.fr q1).frozen (i * 5 + 2)
                  have z3 := (H3.out.1.fr q1).frozen (i * 5 + 3)
                  have z4 := (H3.out.1.fr q1).frozen (i * 5 + 4)
                  have hgs : g3 < w1.heap.size := (H3.out.1.fr q1).1.lt g3 rfl
                  have d1 := cell_fr0 q1 (H3.out.1.at_ H3.out.2.2.1 i _ HX.out).2.2.1
                  have d2 := cell_fr0 q1 (H3.out.1.at_ H3.out.2.2.1 i _ HX.out).2.2.2.1
                  have d3 := cell_fr0 q1 (H3.out.1.at_ H3.out.2.2.1 i _ HX.out).2.2.2.2.1
                  have d4 := cell_fr0 q1 (H3.out.1.at_ H3.out.2.2.1 i _ HX.out).2.2.2.2.2
                  clear q1
                  go_wp2
                  go_roundg (N - (i + 1))
                  case measure => omega
                  case rel => exact ⟨i + 1, l3.set i ⟨2, 0, 0, 0, 0⟩, by omega, rfl, by go_num, Lib.hid (HST.out w1 Q1.out)⟩
                · have HO := Lib.hid e9
                  have HO8 := Lib.hid e8
                  go_wp2_with fail
                  refine HC.out.mono ?_
                  rintro r w1 ⟨rfl, q1⟩
                  have Q1 := Lib.hid q1
                  replace c0 := cell_fr0 q1 c0
                  clear q1
                  go_wp2
                  go_roundg (N - (i + 1))
                  case measure => omega
                  case rel => exact ⟨i + 1, l3, by omega, rfl, by go_num, Lib.hid ⟨H3.out.1.fr Q1.out, H3.out.2.1, H3.out.2.2.1, by
                    rcases H3.out.2.2.2 with h | h
                    · exact .inl h
                    · refine .inr (fun j x hj hx => ?_)
                      by_cases hij : j < i
                      · exact h j x hij hx
                      · obtain rfl : j = i := by omega
                        have hx' := HX.out
                        rw [hx] at hx'
                        cases hx'
                        have a9 := HO.out
                        have a8 := HO8.out
                        simp at a9 a8
                        exact ⟨by show op ≠ 8; omega, by show op ≠ 9; omega⟩⟩⟩
            · obtain rfl : i = N := by omega
              have HE : Hid (pcheckE l3 = 0) := Lib.hid (by
                rcases H3.out.2.2.2 with h | h
                · exact h
                · refine pre_check l3 (by have := H3.out.2.1; omega) H3.out.2.2.1 (fun x hx => ?_)
                  obtain ⟨j, hj, rfl⟩ := List.mem_iff_getElem.1 hx
                  exact h j _ (by have := H3.out.2.1; omega) (List.getElem?_eq_getElem hj))
              go_wp2
              go_ret
              exact ⟨_, l3, rfl, H3.out.1, by have := H3.out.2.1; omega, by have := H3.out.2.1; omega, fun x hx => (H3.out.2.2.1 x hx).fits, HE.out⟩


end Go.Proofs.Ytedadjlmmnikaaa

/-
  PlayJoins: what the law keeps of a program.
-/
namespace Go.Proofs.Ytedadjlmmnikaaa
open Go.RowKit
set_option linter.unusedVariables false
set_option linter.unusedSimpArgs false

theorem take_keep (l : List Ins) (j : Nat) (x : Ins) (hx : l[j]? = some x) : (l.take (j + 1)).map keepE = (l.take j).map keepE ++ [keepE x] := by
  rw [List.take_add_one, hx, List.map_append]; rfl

set_option maxRecDepth 100000 in
set_option maxHeartbeats 4000000 in
theorem keep_any (sm : List Sm) (v : Value) (w : World) (h : SmSees w v sm) :
    Calls Try.prog 24 #[v] w fun e w' => ∃ v' l, e = .returned v' ∧ PTold w w' v' (l.map keepE) ∧ l.length ≤ 16 ∧ l.length ≤ sm.length ∧ (∀ x ∈ l, x.Fits) ∧ pcheckE l = 0 := by
  have h0 := Lib.hid h
  obtain ⟨a, cap, rfl, hx⟩ := h.shape
  clear h hx
  go_enter Try.func24, Try.ntmps24
  go_wp2_with fail
  refine (program_any sm _ w h0.out).mono ?_
  rintro e w1 ⟨v1, l, rfl, t1, ln16, lnm, hf, hc⟩
  obtain ⟨a1, c1, rfl, hat⟩ := t1.shape
  have hsees := t1.1.sees hf
  have T1 := Lib.hid (And.intro t1 (And.intro hsees (And.intro hf hc)))
  have HAT := Lib.hid hat
  have LNM := Lib.hid lnm
  clear t1 hat hf hc lnm hsees
  go_wp2_with fail
  go_loopg [3, 9] l.length (fun G u3 u9 wr => ∃ (j : Nat), j ≤ l.length ∧ G = l.length - j ∧ u9 = .int .i64 j ∧ Hid (PTold w1 wr u3 ((l.take j).map keepE)))
  case atStart => exact ⟨0, by omega, rfl, rfl, Lib.hid ⟨POwn.nil _, Fr.refl _ _, by simp [Value.ownBlock]⟩⟩
  case round =>
    obtain ⟨j, hj, rfl, rfl, HI⟩ := hrel
    by_cases hlt : j < l.length
    · obtain ⟨x, hx⟩ : ∃ x, l[j]? = some x := ⟨_, List.getElem?_eq_getElem hlt⟩
      rcases HAT.out with h00 | ⟨g, rfl, hcap, hgw⟩
      · omega
      have hat : PAt w1 g l := by
        rcases T1.out.2.1 with ⟨h00, _⟩ | ⟨g', cap', e, _, hat⟩
        · subst h00; simp at hlt
        · simp at e
          obtain ⟨rfl, _⟩ := e
          exact hat
      obtain ⟨hfx, c0, c1', c2, c3, c4⟩ := hat j x hx
      have c0 := cell_fr0 HI.out.2.1 c0
      have c1' := cell_fr0 HI.out.2.1 c1'
      have c2 := cell_fr0 HI.out.2.1 c2
      have c3 := cell_fr0 HI.out.2.1 c3
      have c4 := cell_fr0 HI.out.2.1 c4
      have HT := Lib.hid (take_keep l j x hx)
      obtain ⟨f1, f2, f3, f4, f5, f6⟩ := hfx
      clear hx hat
      obtain ⟨op, dst, aa, b, n⟩ := x
      dsimp only at *
      obtain ⟨d, hd, hd8⟩ : ∃ o : Nat, (dst : Int) % 8 = o ∧ o = dst % 8 := ⟨dst % 8, by omega, rfl⟩
      obtain ⟨a2, ha, ha8⟩ : ∃ o : Nat, (aa : Int) % 8 = o ∧ o = aa % 8 := ⟨aa % 8, by omega, rfl⟩
      obtain ⟨b2, hb, hb8⟩ : ∃ o : Nat, (b : Int) % 8 = o ∧ o = b % 8 := ⟨b % 8, by omega, rfl⟩
      obtain ⟨y, hy⟩ : ∃ y : Ins, keepE ⟨op, dst, aa, b, n⟩ = y := ⟨_, rfl⟩
      have HFY : Hid (y.Fits) := Lib.hid (hy ▸ keep_fits ⟨op, dst, aa, b, n⟩ ⟨f1, f2, f3, f4, f5, f6⟩)
      rw [hy] at HT
      have hy' := hy
      unfold keepE at hy'
      simp only at hy'
      rw [← hd8, ← ha8, ← hb8] at hy'
      have HLT : Hid (((l.take j).map keepE).length + 1 ≤ 4000) := Lib.hid (by simp; omega)
      clear hy hd8 ha8 hb8 f2 f3 f4
      generalize hacc : (l.take j).map keepE = acc at *
      clear hacc
      by_cases h9 : op = 9
      · subst h9
        rw [if_neg (by omega), if_pos rfl] at hy'
        subst hy'
        go_wp2_with (at_builtin; refine wpList_append_ins rfl (.tmp 37) (.tmp 39) rfl u3 acc rfl ?own _ [⟨9, d, a2, b, n⟩] rfl ?src ?len ?grow)
        case own => exact HI.out.1.fr (S := fun _ => False) (((Fr.refl _ _).alloc _).alloc _) (fun _ _ h => h)
        case src => exact sees_one (new_two wr _ _) _ HFY.out rfl
        case len => exact HLT.out
        case grow =>
          intro v' w3 hown' hgrow hcase
          have HO := Lib.hid (HI.out.append (((Fr.refl _ _).alloc _).alloc _) hown' hgrow hcase (by omega))
          clear hown' hgrow hcase
          go_wp2
          go_roundg (l.length - (j + 1))
          case measure => omega
          case rel => exact ⟨j + 1, by omega, rfl, by go_num, Lib.hid (by rw [HT.out]; exact HO.out)⟩
      · have n9 : ((op : Int) == 9) = false := by simp; omega
        have m9 : ((op : Int) != 9) = true := by simp; omega
        rw [if_neg h9] at hy'
        by_cases h00 : op = 0
        · subst h00
          rw [if_pos (.inl rfl)] at hy'
          subst hy'
          go_wp2_with (at_builtin; refine wpList_append_ins rfl (.tmp 37) (.tmp 39) rfl u3 acc rfl ?own _ [⟨2, d, a2, b2, n⟩] rfl ?src ?len ?grow)
          case own => exact HI.out.1.fr (S := fun _ => False) (((Fr.refl _ _).alloc _).alloc _) (fun _ _ h => h)
          case src => exact sees_one (new_two wr _ _) _ HFY.out rfl
          case len => exact HLT.out
          case grow =>
            intro v' w3 hown' hgrow hcase
            have HO := Lib.hid (HI.out.append (((Fr.refl _ _).alloc _).alloc _) hown' hgrow hcase (by omega))
            clear hown' hgrow hcase
            go_wp2
            go_roundg (l.length - (j + 1))
            case measure => omega
            case rel => exact ⟨j + 1, by omega, rfl, by go_num, Lib.hid (by rw [HT.out]; exact HO.out)⟩
        · have n0 : ((op : Int) == 0) = false := by simp; omega
          by_cases h11 : op = 11
          · subst h11
            rw [if_pos (.inr rfl)] at hy'
            subst hy'
            go_wp2_with (at_builtin; refine wpList_append_ins rfl (.tmp 37) (.tmp 39) rfl u3 acc rfl ?own _ [⟨2, d, a2, b2, n⟩] rfl ?src ?len ?grow)
            case own => exact HI.out.1.fr (S := fun _ => False) (((Fr.refl _ _).alloc _).alloc _) (fun _ _ h => h)
            case src => exact sees_one (new_two wr _ _) _ HFY.out rfl
            case len => exact HLT.out
            case grow =>
              intro v' w3 hown' hgrow hcase
              have HO := Lib.hid (HI.out.append (((Fr.refl _ _).alloc _).alloc _) hown' hgrow hcase (by omega))
              clear hown' hgrow hcase
              go_wp2
              go_roundg (l.length - (j + 1))
              case measure => omega
              case rel => exact ⟨j + 1, by omega, rfl, by go_num, Lib.hid (by rw [HT.out]; exact HO.out)⟩
          · have n11 : ((op : Int) == 11) = false := by simp; omega
            rw [if_neg (by omega)] at hy'
            subst hy'
            clear h9 h00 h11
            go_wp2_with (at_builtin; refine wpList_append_ins rfl (.tmp 37) (.tmp 39) rfl u3 acc rfl ?own _ [⟨op, d, a2, b2, n⟩] rfl ?src ?len ?grow)
            case own => exact HI.out.1.fr (S := fun _ => False) (((Fr.refl _ _).alloc _).alloc _) (fun _ _ h => h)
            case src => exact sees_one (new_two wr _ _) _ HFY.out rfl
            case len => exact HLT.out
            case grow =>
              intro v' w3 hown' hgrow hcase
              have HO := Lib.hid (HI.out.append (((Fr.refl _ _).alloc _).alloc _) hown' hgrow hcase (by omega))
              clear hown' hgrow hcase
              go_wp2
              go_roundg (l.length - (j + 1))
              case measure => omega
              case rel => exact ⟨j + 1, by omega, rfl, by go_num, Lib.hid (by rw [HT.out]; exact HO.out)⟩
    · obtain rfl : j = l.length := by omega
      go_wp2
      go_ret
      refine ⟨_, l, rfl, ?_, ln16, LNM.out, T1.out.2.2.1, T1.out.2.2.2⟩
      have := HI.out
      rw [List.take_length] at this
      exact ⟨this.1, T1.out.1.2.1.trans this.2.1 (fun _ _ h => h), fun k hk => Nat.le_trans T1.out.1.2.1.size (this.2.2 k hk)⟩

end Go.Proofs.Ytedadjlmmnikaaa

/-
  PlayJoins, walked.
-/
namespace Go.Proofs.Ytedadjlmmnikaaa
open Go.RowKit
set_option linter.unusedVariables false
set_option linter.unusedSimpArgs false

/-- An outcome's cells, as far as the laws look at them. -/
def JLit (e : Nat) (n : Int) (v : Value) : Prop := ∃ zn zf zs za zc zcap, v = .agg #[.int .i64 e, .int .i64 n, .int .i64 zn, .float .f64 zf, .string zs, .slice za zc zcap]

theorem OShows.jlit {R : Nat → Prop} {w : World} {o : OC} {v : Value} (h : OShows R w o v) : JLit o.e o.n v := by
  obtain ⟨x0, x1, x2, x3, rfl, hv⟩ := h
  obtain ⟨zn, zf, zs, za, zc, zcap, e4⟩ := hv.lit
  simp at e4
  obtain ⟨rfl, rfl, rfl, rfl⟩ := e4
  exact ⟨zn, zf, zs, za, zc, zcap, rfl⟩

/-- A call of a program alone. -/
def jE (p : List Ins) (s : Nat → Int) : (Nat → Int) × OC := playE (leafK 0) (leafK 0) p (numT 0) s

theorem jE_ok {p : List Ins} {s r : Nat → Int} {b : Bool} (h0 : pcheckE p = 0) (h2 : runE (sumE [0]) 1 p (loadE s [0]) = .ok b r) : jE p s = (r, ⟨0, 0, BuildE (regs r) (leafK 0)⟩) :=
  playE_ok h0 (by rw [leaf_val0]; decide) (leaf_flat 0 (by decide) 0) h2

theorem jE_bad {p : List Ins} {s : Nat → Int} {e : Nat} {n : Int} (h0 : pcheckE p = 0) (h2 : runE (sumE [0]) 1 p (loadE s [0]) = .bad e n) : jE p s = (s, ⟨e, n, zeroV⟩) :=
  playE_bad h0 (by rw [leaf_val0]; decide) (leaf_flat 0 (by decide) 0) h2

theorem j_in (p : List Ins) (s : Nat → Int) (hf : ∀ x ∈ p, x.Fits) (h0 : pcheckE p = 0) (hs : ∀ k, k < 8 → -9223372036854775808 ≤ s k ∧ s k ≤ 9223372036854775807) : ∀ k, k < 8 → -9223372036854775808 ≤ (jE p s).1 k ∧ (jE p s).1 k ≤ 9223372036854775807 := by
  cases hr : runE (sumE [0]) 1 p (loadE s [0]) with
  | bad e n => rw [jE_bad h0 hr]; exact hs
  | ok b r =>
    rw [jE_ok h0 hr]
    intro k _
    exact prun_in (sumE [0]) (sum_in _) 1 p (loadE s [0]) b r hf (load_in s [0] hs (by intro x hx; rw [List.mem_singleton.1 hx]; omega)) hr k

/-- What the law says of two programs, one behind the other. -/
theorem j_joins (p q : List Ins) (s : Nat → Int) (hp : pcheckE p = 0) (hq : pcheckE q = 0) (hpq : pcheckE (p ++ q) = 0) (hkp : ∀ x ∈ p, KeepI x) :
    ((jE p s).2.e ≠ 0 ∧ (jE (p ++ q) s).2.e = (jE p s).2.e ∧ (jE (p ++ q) s).2.n = (jE p s).2.n ∧ stC (jE (p ++ q) s).1 = stC s) ∨
    ((jE p s).2.e = 0 ∧ (jE q (jE p s).1).2.e ≠ 0 ∧ (jE (p ++ q) s).2.e = (jE q (jE p s).1).2.e ∧ (jE (p ++ q) s).2.n = (jE q (jE p s).1).2.n ∧ stC (jE (p ++ q) s).1 = stC s) ∨
    ((jE p s).2.e = 0 ∧ (jE q (jE p s).1).2.e = 0 ∧ (jE (p ++ q) s).2.e = 0 ∧ stC (jE (p ++ q) s).1 = stC (jE q (jE p s).1).1) := by
  have ha := run_append (sumE [0]) p q (loadE s [0]) (inside_check p hp)
  cases hr : runE (sumE [0]) 1 p (loadE s [0]) with
  | bad e n =>
    rw [hr] at ha
    rw [jE_bad hp hr, jE_bad hpq ha]
    have := run_bad _ _ _ _ _ _ hr
    exact .inl ⟨by show e ≠ 0; omega, rfl, rfl, rfl⟩
  | ok b r =>
    obtain ⟨rfl, h8⟩ := keep_run _ _ _ _ hkp (load_is_nil s) _ _ hr
    rw [hr] at ha
    rw [jE_ok hp hr]
    have hl := load_nil r h8
    have ha' : runE (sumE [0]) 1 (p ++ q) (loadE s [0]) = runE (sumE [0]) 1 q (loadE r [0]) := by rw [ha, hl]; rfl
    cases hr2 : runE (sumE [0]) 1 q (loadE r [0]) with
    | bad e n =>
      rw [hr2] at ha'
      rw [jE_bad hq hr2, jE_bad hpq ha']
      have := run_bad _ _ _ _ _ _ hr2
      exact .inr (.inl ⟨rfl, by show e ≠ 0; omega, rfl, rfl, rfl⟩)
    | ok b2 r2 =>
      rw [hr2] at ha'
      rw [jE_ok hq hr2, jE_ok hpq ha']
      exact .inr (.inr ⟨rfl, rfl, rfl, rfl⟩)

theorem play_alone (p : List Ins) (hf : ∀ x ∈ p, x.Fits) (hl : p.length ≤ 100) (s : Nat → Int) (pv : Value) (w : World) (hp : PSees w pv p) (hs : ∀ k, k < 8 → -9223372036854775808 ≤ s k ∧ s k ≤ 9223372036854775807) :
    Calls Try.prog 17 #[.agg #[.int .u8 0, .int .i64 0, .slice none 0 0, .slice none 0 0, .int .u8 0, .int .i64 0, .slice none 0 0, .slice none 0 0, pv], .agg (stC s), .agg #[.int .i64 0, .float .f64 0, .string ⟨#[]⟩, .slice none 0 0]] w fun e w' =>
      ∃ ov, e = .returned (.tuple #[.agg (stC (jE p s).1), ov]) ∧ JLit (jE p s).2.e (jE p s).2.n ov ∧ Fr (fun _ => False) w w' := by
  refine (Play_any (fun _ => True) (leafK 0) (leafK 0) p (numT 0) s _ _ _ _ _ _ _ _ _ _ _ _ _ w hp hf hl (leaf_shows 0 (by decide) _ _) (leaf_shows 0 (by decide) _ _) (num_shows 0 (by omega) _ _) (by simp [szV, numT]) (leaf_cost 0 (by decide)) leaf_build_val hs).mono ?_
  rintro e w' ⟨⟨ov, rfl, ho⟩, f⟩
  exact ⟨ov, rfl, ho.jlit, f⟩

theorem jstEq_of {s s' : Nat → Int} (h : stC s = stC s') : stEq s s' = true := by
  rw [stEq_iff]
  unfold stC at h
  simp at h
  intro i hi
  have : i = 0 ∨ i = 1 ∨ i = 2 ∨ i = 3 ∨ i = 4 ∨ i = 5 ∨ i = 6 ∨ i = 7 := by omega
  obtain ⟨h0, h1, h2, h3, h4, h5, h6, h7⟩ := h
  rcases this with rfl | rfl | rfl | rfl | rfl | rfl | rfl | rfl <;> assumption

attribute [local go_sem] run_store_float

set_option maxRecDepth 100000 in
set_option maxHeartbeats 8000000 in
theorem joins_walk (a c : List Sm) (va vc : Value) (s : Nat → Int) (w : World) (ha : SmSees w va a) (hc : SmSees w vc c) (hs : ∀ k, k < 8 → -9223372036854775808 ≤ s k ∧ s k ≤ 9223372036854775807) (la : a.length ≤ 10) (lc : c.length ≤ 10) :
    Calls Try.prog 5 #[va, vc, .agg (stC s)] w fun e w' => e = .returned (.bool true) ∧ Fr (fun _ => False) w w' := by
  obtain ⟨aa, ca, rfl, hx⟩ := ha.shape
  clear hx
  obtain ⟨ac, cc, rfl, hx⟩ := hc.shape
  clear hx
  have HA := Lib.hid ha
  have HC := Lib.hid hc
  have HSI := Lib.hid hs
  clear ha hc hs
  simp only [stC]
  go_enter Try.func5, Try.ntmps5
  go_wp2_with fail
  refine (pawake_any _).mono ?_
  rintro e w1 ⟨rfl, f1⟩
  have q1 := pbox_kept (heap_alloc_new w _) f1 (fun h => h)
  have F1 := Lib.hid (And.intro (((Fr.refl (fun _ => False) _).alloc _).trans f1 (fun _ _ h => h)) q1)
  clear f1 q1
  have gx : (10 : Int) < (a.length : Int) → False := fun h => by omega
  have gy : (10 : Int) < (c.length : Int) → False := fun h => by omega
  clear gx gy
  go_wp2_with fail
  refine (keep_any a _ w1 (HA.out.fr0 F1.out.1)).mono ?_
  rintro e w2 ⟨v1, l1, rfl, t1, k1, m1, hf1, hc1⟩
  have F2 := Lib.hid (F1.out.1.trans t1.2.1 (fun _ _ h => h))
  have G2 := Lib.hid t1.2.1
  go_wp2_with fail
  refine (keep_any c _ w2 (HC.out.fr0 F2.out)).mono ?_
  rintro e w3 ⟨v2, l2, rfl, t2, k2, m2, hf2, hc2⟩
  have F3 := Lib.hid (F2.out.trans t2.2.1 (fun _ _ h => h))
  have G3 := Lib.hid (G2.out.trans t2.2.1 (fun _ _ h => h))
  have hfp : ∀ x ∈ l1.map keepE, x.Fits := fun x hx => by obtain ⟨y, hy, rfl⟩ := List.mem_map.1 hx; exact keep_fits y (hf1 y hy)
  have hfq : ∀ x ∈ l2.map keepE, x.Fits := fun x hx => by obtain ⟨y, hy, rfl⟩ := List.mem_map.1 hx; exact keep_fits y (hf2 y hy)
  have hkp : ∀ x ∈ l1.map keepE, KeepI x := fun x hx => by obtain ⟨y, _, rfl⟩ := List.mem_map.1 hx; exact keep_is y
  have hcp := keep_check l1 hc1
  have hcq := keep_check l2 hc2
  have hlp : (l1.map keepE).length ≤ 10 := by rw [List.length_map]; omega
  have hlq : (l2.map keepE).length ≤ 10 := by rw [List.length_map]; omega
  generalize l1.map keepE = p at *
  generalize l2.map keepE = q at *
  obtain ⟨u1, y1, e1, hz1⟩ := t1.shape
  obtain ⟨u2, y2, e2, hz2⟩ := t2.shape
  clear hz1 hz2
  subst e1 e2
  have S1 : Hid (∀ w', Fr (fun _ => False) w3 w' → PSees w' (.slice u1 p.length y1) p) := Lib.hid (fun w' f => ((t1.1.sees hfp).fr t2.2.1 (fun _ _ h => h)).fr f (fun _ _ h => h))
  have S2 : Hid (∀ w', Fr (fun _ => False) w3 w' → PSees w' (.slice u2 q.length y2) q) := Lib.hid (fun w' f => (t2.1.sees hfq).fr f (fun _ _ h => h))
  have HH := Lib.hid (show ∀ x ∈ p ++ q, x.Fits from fun x hx => (List.mem_append.1 hx).elim (hfp x) (hfq x))
  have HP := Lib.hid (And.intro hfp (And.intro hfq (And.intro hkp (And.intro hcp (And.intro hcq (And.intro hlp hlq))))))
  clear t1 t2 hc1 hc2 hf1 hf2 hfp hfq hkp hcp hcq k1 k2 m1 m2 l1 l2
  go_wp2_with (at_builtin; refine wpList_append_ins rfl (.tmp 33) (.tmp 34) rfl (.slice (some ⟨w3.heap.size, 0, none⟩) 0 0) [] rfl (own_empty w3) (.slice u1 p.length y1) p rfl ?src ?len ?grow)
  case src => exact S1.out _ ((Fr.refl _ _).alloc _)
  case len => rw [List.length_nil]; omega
  case grow =>
    intro v3 w4 hown hgrow hcase
    have Q4 := Lib.hid (fr_append hgrow)
    have HO := Lib.hid hown
    have hfresh : ∀ k, v3.ownBlock = some k → w3.heap.size ≤ k := by
      intro k hk
      rcases hcase with e | e
      · rw [e] at hk; simp [Value.ownBlock] at hk; omega
      · rw [e] at hk; simp at hk; omega
    have HK := Lib.hid hfresh
    clear hown hgrow hcase hfresh
    go_wp2_with (at_builtin; refine wpList_append_ins rfl (.tmp 35) (.tmp 36) rfl v3 p rfl HO.out (.slice u2 q.length y2) q rfl ?src2 ?len2 ?grow2)
    case src2 => exact S2.out _ Q4.out
    case len2 => omega
    case grow2 =>
      intro v5 w5 hown hgrow hcase
      obtain ⟨u5, y5, e5⟩ := slice_of_own hown
      subst e5
      have Q5 : Hid (Fr (fun _ => False) w3 w5) := Lib.hid (Q4.out.trans (Fr.of_grown hgrow) (fun i hi e => by have := HK.out i e.symm; omega))
      have S5 : Hid (∀ w', Fr (fun _ => False) w5 w' → PSees w' (.slice u5 (p ++ q).length y5) (p ++ q)) := Lib.hid (fun w' f => (hown.sees HH.out).fr f (fun _ _ h => h))
      have hln : (p ++ q).length ≤ 24 := by rw [List.length_append]; omega
      have LN := Lib.hid (And.intro hlp (And.intro hlq hln))
      have HCK := Lib.hid (pcheck_any (p ++ q) _ w5 (by omega) (S5.out w5 (Fr.refl _ _)))
      have F5 := Lib.hid (F3.out.trans Q5.out (fun _ _ h => h))
      have G5 := Lib.hid (G3.out.trans Q5.out (fun _ _ h => h))
      have HQ1 := Lib.hid (fun w' (f : Fr (fun _ => False) w5 w') => S1.out w' (Q5.out.trans f (fun _ _ h => h)))
      have HQ2 := Lib.hid (fun w' (f : Fr (fun _ => False) w5 w') => S2.out w' (Q5.out.trans f (fun _ _ h => h)))
      have hsb : w.heap.size < w1.heap.size := lt_of_block F1.out.2
      have HS0 := Lib.hid (fun w' (f : Fr (fun _ => False) w1 w') => pbox_kept F1.out.2 f (fun h => h))
      have HJJ := Lib.hid (fun h0 => j_joins p q s HP.out.2.2.2.1 HP.out.2.2.2.2.1 h0 HP.out.2.2.1)
      clear hown hgrow hcase HO HK hlp hlq hln S1 S2 Q4 hsb
      generalize p ++ q = pq at *
      go_wp2_with fail
      refine HCK.out.mono ?_
      rintro e w6 ⟨rfl, f6⟩
      by_cases h0 : pcheckE pq = 0
      · rw [h0]
        have J := HJJ.out h0
        have I1 := Lib.hid (j_in p s HP.out.1 HP.out.2.2.2.1 HSI.out)
        have F6 := Lib.hid f6
        have P1 := Lib.hid (play_alone p HP.out.1 (by have := LN.out; omega) s _ w6 (HQ1.out w6 f6) HSI.out)
        have P2 := Lib.hid (fun wx (fx : Fr (fun _ => False) w6 wx) => play_alone q HP.out.2.1 (by have := LN.out; omega) (jE p s).1 _ wx (HQ2.out wx (f6.trans fx (fun _ _ h => h))) I1.out)
        have P3 := Lib.hid (fun wx (fx : Fr (fun _ => False) w6 wx) => play_alone pq HH.out (by have := LN.out; omega) s _ wx (S5.out wx (f6.trans fx (fun _ _ h => h))) HSI.out)
        generalize hJ1 : jE p s = J1 at *
        obtain ⟨r1, o1⟩ := J1
        simp only at J P1 P2 I1
        generalize hJ2 : jE q r1 = J2 at *
        obtain ⟨r2, o2⟩ := J2
        generalize hJ3 : jE pq s = J3 at *
        obtain ⟨r3, o3⟩ := J3
        simp only at J P2 P3
        have HJ := Lib.hid J
        have H0 := Lib.hid h0
        clear J hJ1 hJ2 hJ3 h0 f6
        simp only [stC] at P1 P2 P3
        have qs6 := HS0.out w6 (G5.out.trans F6.out (fun _ _ h => h))
        have p0 := pcells_row (qs6) 0 _ rfl
        have p1 := pcells_row (qs6) 1 _ rfl
        have p2 := pcells_row (qs6) 2 _ rfl
        have p3 := pcells_row (qs6) 3 _ rfl
        have p4 := pcells_row (qs6) 4 _ rfl
        have p5 := pcells_row (qs6) 5 _ rfl
        have p6 := pcells_row (qs6) 6 _ rfl
        have p7 := pcells_row (qs6) 7 _ rfl
        clear qs6
        go_wp2_with fail
        refine P1.out.mono ?_
        rintro e w7 ⟨ov, rfl, ⟨xn, xf, xs, xa, xc, xp, rfl⟩, f7⟩
        have F7 := Lib.hid f7
        clear f7 p0 p1 p2 p3 p4 p5 p6 p7
        obtain ⟨w8, hw8⟩ : ∃ w8, w8 = (w7.alloc (.cells #[.int .i64 (r1 0), .int .i64 (r1 1), .int .i64 (r1 2), .int .i64 (r1 3), .int .i64 (r1 4), .int .i64 (r1 5), .int .i64 (r1 6), .int .i64 (r1 7)] 27)).alloc (.cells #[.int .i64 o1.e, .int .i64 o1.n, .int .i64 xn, .float .f64 xf, .string xs, .slice xa xc xp] 65) := ⟨_, rfl⟩
        have F8 : Hid (Fr (fun _ => False) w7 w8 ∧ w8.heap[w7.heap.size]? = some (.cells #[.int .i64 (r1 0), .int .i64 (r1 1), .int .i64 (r1 2), .int .i64 (r1 3), .int .i64 (r1 4), .int .i64 (r1 5), .int .i64 (r1 6), .int .i64 (r1 7)] 27 (0, 0)) ∧ w8.heap[w7.heap.size + 1]? = some (.cells #[.int .i64 o1.e, .int .i64 o1.n, .int .i64 xn, .float .f64 xf, .string xs, .slice xa xc xp] 65 (0, 0))) := Lib.hid (by
          have f : ∀ (w : World) (o : Obj), Fr (fun _ => False) w (w.alloc o) := fun w o => (Fr.refl _ _).alloc _
          rw [hw8]
          exact ⟨(f _ _).alloc _, pbox_kept (heap_alloc_new _ _) (f _ _) (fun h => h), new_two _ _ _⟩)
        go_upto_region 11 with fail
        rw [← hw8]
        clear hw8
        generalize hg7 : w7.heap.size = g7 at *
        have G7 := Lib.hid hg7
        clear hg7
        have F68 := Lib.hid (F7.out.trans F8.out.1 (fun _ _ h => h))
        have p0 := pcells_row (F8.out.2.1) 0 _ rfl
        have p1 := pcells_row (F8.out.2.1) 1 _ rfl
        have p2 := pcells_row (F8.out.2.1) 2 _ rfl
        have p3 := pcells_row (F8.out.2.1) 3 _ rfl
        have p4 := pcells_row (F8.out.2.1) 4 _ rfl
        have p5 := pcells_row (F8.out.2.1) 5 _ rfl
        have p6 := pcells_row (F8.out.2.1) 6 _ rfl
        have p7 := pcells_row (F8.out.2.1) 7 _ rfl
        go_wp2_with fail
        refine (P2.out w8 F68.out).mono ?_
        rintro e w9 ⟨ov, rfl, ⟨yn, yf, ys, ya, yc, yp, rfl⟩, f9⟩
        have F9 := Lib.hid f9
        clear f9 p0 p1 p2 p3 p4 p5 p6 p7
        obtain ⟨w10, hw10⟩ : ∃ w10, w10 = (w9.alloc (.cells #[.int .i64 (r2 0), .int .i64 (r2 1), .int .i64 (r2 2), .int .i64 (r2 3), .int .i64 (r2 4), .int .i64 (r2 5), .int .i64 (r2 6), .int .i64 (r2 7)] 27)).alloc (.cells #[.int .i64 o2.e, .int .i64 o2.n, .int .i64 yn, .float .f64 yf, .string ys, .slice ya yc yp] 65) := ⟨_, rfl⟩
        have F10 : Hid (Fr (fun _ => False) w9 w10 ∧ w10.heap[w9.heap.size]? = some (.cells #[.int .i64 (r2 0), .int .i64 (r2 1), .int .i64 (r2 2), .int .i64 (r2 3), .int .i64 (r2 4), .int .i64 (r2 5), .int .i64 (r2 6), .int .i64 (r2 7)] 27 (0, 0)) ∧ w10.heap[w9.heap.size + 1]? = some (.cells #[.int .i64 o2.e, .int .i64 o2.n, .int .i64 yn, .float .f64 yf, .string ys, .slice ya yc yp] 65 (0, 0))) := Lib.hid (by
          have f : ∀ (w : World) (o : Obj), Fr (fun _ => False) w (w.alloc o) := fun w o => (Fr.refl _ _).alloc _
          rw [hw10]
          exact ⟨(f _ _).alloc _, pbox_kept (heap_alloc_new _ _) (f _ _) (fun h => h), new_two _ _ _⟩)
        go_upto_region 12 with fail
        rw [← hw10]
        clear hw10
        generalize hg9 : w9.heap.size = g9 at *
        have G9 := Lib.hid hg9
        clear hg9
        have F610 := Lib.hid (F68.out.trans (F9.out.trans F10.out.1 (fun _ _ h => h)) (fun _ _ h => h))
        have qs10 := HS0.out w10 ((G5.out.trans F6.out (fun _ _ h => h)).trans F610.out (fun _ _ h => h))
        have p0 := pcells_row (qs10) 0 _ rfl
        have p1 := pcells_row (qs10) 1 _ rfl
        have p2 := pcells_row (qs10) 2 _ rfl
        have p3 := pcells_row (qs10) 3 _ rfl
        have p4 := pcells_row (qs10) 4 _ rfl
        have p5 := pcells_row (qs10) 5 _ rfl
        have p6 := pcells_row (qs10) 6 _ rfl
        have p7 := pcells_row (qs10) 7 _ rfl
        clear qs10
        go_wp2_with fail
        refine (P3.out w10 F610.out).mono ?_
        rintro e w11 ⟨ov, rfl, ⟨zn, zf, zs, za, zc, zp, rfl⟩, f11⟩
        have F11 := Lib.hid f11
        clear f11 p0 p1 p2 p3 p4 p5 p6 p7
        obtain ⟨w12, hw12⟩ : ∃ w12, w12 = (w11.alloc (.cells #[.int .i64 (r3 0), .int .i64 (r3 1), .int .i64 (r3 2), .int .i64 (r3 3), .int .i64 (r3 4), .int .i64 (r3 5), .int .i64 (r3 6), .int .i64 (r3 7)] 27)).alloc (.cells #[.int .i64 o3.e, .int .i64 o3.n, .int .i64 zn, .float .f64 zf, .string zs, .slice za zc zp] 65) := ⟨_, rfl⟩
        have F12 : Hid (Fr (fun _ => False) w11 w12 ∧ w12.heap[w11.heap.size]? = some (.cells #[.int .i64 (r3 0), .int .i64 (r3 1), .int .i64 (r3 2), .int .i64 (r3 3), .int .i64 (r3 4), .int .i64 (r3 5), .int .i64 (r3 6), .int .i64 (r3 7)] 27 (0, 0)) ∧ w12.heap[w11.heap.size + 1]? = some (.cells #[.int .i64 o3.e, .int .i64 o3.n, .int .i64 zn, .float .f64 zf, .string zs, .slice za zc zp] 65 (0, 0))) := Lib.hid (by
          have f : ∀ (w : World) (o : Obj), Fr (fun _ => False) w (w.alloc o) := fun w o => (Fr.refl _ _).alloc _
          rw [hw12]
          exact ⟨(f _ _).alloc _, pbox_kept (heap_alloc_new _ _) (f _ _) (fun h => h), new_two _ _ _⟩)
        go_upto_region 13 with fail
        rw [← hw12]
        clear hw12
        generalize hg11 : w11.heap.size = g11 at *
        have G11 := Lib.hid hg11
        clear hg11
        have F1012 := Lib.hid (F11.out.trans F12.out.1 (fun _ _ h => h))
        have F612 := Lib.hid (F610.out.trans F1012.out (fun _ _ h => h))
        have FF := Lib.hid (((F5.out.trans F6.out (fun _ _ h => h)).trans F612.out (fun _ _ h => h)))
        have qs12 := HS0.out w12 ((G5.out.trans F6.out (fun _ _ h => h)).trans F612.out (fun _ _ h => h))
        have p0 := pcells_row (qs12) 0 _ rfl
        have p1 := pcells_row (qs12) 1 _ rfl
        have p2 := pcells_row (qs12) 2 _ rfl
        have p3 := pcells_row (qs12) 3 _ rfl
        have p4 := pcells_row (qs12) 4 _ rfl
        have p5 := pcells_row (qs12) 5 _ rfl
        have p6 := pcells_row (qs12) 6 _ rfl
        have p7 := pcells_row (qs12) 7 _ rfl
        have d0 := pcells_row (pbox_kept F8.out.2.2 ((F9.out.trans F10.out.1 (fun _ _ h => h)).trans F1012.out (fun _ _ h => h)) (fun h => h)) 0 _ rfl
        have d1 := pcells_row (pbox_kept F8.out.2.2 ((F9.out.trans F10.out.1 (fun _ _ h => h)).trans F1012.out (fun _ _ h => h)) (fun h => h)) 1 _ rfl
        have e0 := pcells_row (pbox_kept F10.out.2.2 F1012.out (fun h => h)) 0 _ rfl
        have e1 := pcells_row (pbox_kept F10.out.2.2 F1012.out (fun h => h)) 1 _ rfl
        have t0 := pcells_row (pbox_kept F10.out.2.1 F1012.out (fun h => h)) 0 _ rfl
        have t1 := pcells_row (pbox_kept F10.out.2.1 F1012.out (fun h => h)) 1 _ rfl
        have t2 := pcells_row (pbox_kept F10.out.2.1 F1012.out (fun h => h)) 2 _ rfl
        have t3 := pcells_row (pbox_kept F10.out.2.1 F1012.out (fun h => h)) 3 _ rfl
        have t4 := pcells_row (pbox_kept F10.out.2.1 F1012.out (fun h => h)) 4 _ rfl
        have t5 := pcells_row (pbox_kept F10.out.2.1 F1012.out (fun h => h)) 5 _ rfl
        have t6 := pcells_row (pbox_kept F10.out.2.1 F1012.out (fun h => h)) 6 _ rfl
        have t7 := pcells_row (pbox_kept F10.out.2.1 F1012.out (fun h => h)) 7 _ rfl
        have u0 := pcells_row (F12.out.2.1) 0 _ rfl
        have u1 := pcells_row (F12.out.2.1) 1 _ rfl
        have u2 := pcells_row (F12.out.2.1) 2 _ rfl
        have u3 := pcells_row (F12.out.2.1) 3 _ rfl
        have u4 := pcells_row (F12.out.2.1) 4 _ rfl
        have u5 := pcells_row (F12.out.2.1) 5 _ rfl
        have u6 := pcells_row (F12.out.2.1) 6 _ rfl
        have u7 := pcells_row (F12.out.2.1) 7 _ rfl
        have f0 := pcells_row (F12.out.2.2) 0 _ rfl
        have f1 := pcells_row (F12.out.2.2) 1 _ rfl
        clear qs12
        have heq1 : ∀ w, (Op.equalIn 10000 27 (.agg #[.int .i64 (r3 0), .int .i64 (r3 1), .int .i64 (r3 2), .int .i64 (r3 3), .int .i64 (r3 4), .int .i64 (r3 5), .int .i64 (r3 6), .int .i64 (r3 7)]) (.agg #[.int .i64 (s 0), .int .i64 (s 1), .int .i64 (s 2), .int .i64 (s 3), .int .i64 (s 4), .int .i64 (s 5), .int .i64 (s 6), .int .i64 (s 7)])).run Try.prog w = .ok (stEq r3 s) w := fun w => equal_states 9998 r3 s w
        have heq2 : ∀ w, (Op.equalIn 10000 27 (.agg #[.int .i64 (r3 0), .int .i64 (r3 1), .int .i64 (r3 2), .int .i64 (r3 3), .int .i64 (r3 4), .int .i64 (r3 5), .int .i64 (r3 6), .int .i64 (r3 7)]) (.agg #[.int .i64 (r2 0), .int .i64 (r2 1), .int .i64 (r2 2), .int .i64 (r2 3), .int .i64 (r2 4), .int .i64 (r2 5), .int .i64 (r2 6), .int .i64 (r2 7)])).run Try.prog w = .ok (stEq r3 r2) w := fun w => equal_states 9998 r3 r2 w
        clear la lc
        rcases HJ.out with ⟨j1, j2, j3, j4⟩ | ⟨j1, j2, j3, j4, j5⟩ | ⟨j1, j2, j3, j4⟩
        · have hq := jstEq_of j4
          obtain ⟨b0, hb1, hb0⟩ : ∃ b0, ((o1.e : Int) != 0) = b0 ∧ b0 = true := ⟨_, rfl, by simpa using j1⟩
          have h1 : ((o3.e : Int) == (o1.e : Int)) = true := by simp; omega
          have h2 : (o3.n == o1.n) = true := by simp [j3]
          clear j1 j2 j3 j4
          go_wp2
          go_ret
          exact ⟨rfl, FF.out⟩
        · have hq := jstEq_of j5
          have h0 : ((o1.e : Int) != 0) = false := by simp; omega
          obtain ⟨b0, hb1, hb0⟩ : ∃ b0, ((o2.e : Int) != 0) = b0 ∧ b0 = true := ⟨_, rfl, by simpa using j2⟩
          have h1 : ((o3.e : Int) == (o2.e : Int)) = true := by simp; omega
          have h2 : (o3.n == o2.n) = true := by simp [j4]
          clear j1 j2 j3 j4 j5
          go_wp2
          go_ret
          exact ⟨rfl, FF.out⟩
        · have hq := jstEq_of j4
          have h0 : ((o1.e : Int) != 0) = false := by simp; omega
          have h1 : ((o2.e : Int) != 0) = false := by simp; omega
          have h2 : ((o3.e : Int) == 0) = true := by simp; omega
          clear j1 j2 j3 j4
          go_wp2
          go_ret
          exact ⟨rfl, FF.out⟩
      · have h1 : ((pcheckE pq : Nat) : Int) ≠ 0 := by omega
        obtain ⟨b0, hb1, hb0⟩ : ∃ b0, (((pcheckE pq : Nat) : Int) != 0) = b0 ∧ b0 = true := ⟨_, rfl, by simpa using h0⟩
        have F6 := Lib.hid (F5.out.trans f6 (fun _ _ h => h))
        clear h0 h1 f6
        go_wp2
        go_ret
        exact ⟨rfl, F6.out⟩

end Go.Proofs.Ytedadjlmmnikaaa

/-
  The laws' arguments opened: slices of small instructions.
-/
namespace Go.Proofs.Ytedadjlmmnikaaa
open Go.ChangeShapes Go.WideShapes Go.ChangeAt Go.RowKit
set_option maxRecDepth 100000

theorem cellsOf_sm : Try.prog.cellsOf 111 = 6 := by kernel_rfl
theorem pcellsOf_byte : Try.prog.cellsOf 5 = 1 := by kernel_rfl
theorem cellsOf_half : Try.prog.cellsOf 82 = 1 := by kernel_rfl
theorem cellsOf_bool : Try.prog.cellsOf 4 = 1 := by kernel_rfl

section
variable {H : Type} (enc : TypeId × Value → H) (w : World)

theorem pbyte_reads {fuel : Nat} {cs : List Value} {x : DataW H × List MemPlace} (h : DataW.trod enc Try.prog w 0 (fun _ => true) true fuel 5 cs = some x) : ∃ k : Nat, k ≤ 255 ∧ cs = [.int .u8 k] := by
  obtain ⟨n, hw, rfl⟩ := pint_reads enc w Try.underlying5 h
  have := bounds_u8 hw
  exact ⟨n.toNat, by omega, by rw [Int.toNat_of_nonneg this.1]⟩

set_option maxRecDepth 100000 in
theorem sm_shows {fuel : Nat} {cs : List Value} {x : DataW H × List MemPlace} (h : DataW.trod enc Try.prog w 0 (fun _ => true) true fuel 111 cs = some x) :
    ∃ s : Sm, s.Fits ∧ cs = [.int .u8 s.op, .int .u8 s.dst, .int .u8 s.a, .int .u8 s.b, .int .i16 s.n, .bool s.raw] := by
  obtain ⟨xs, n, rfl, rfl, hl, hlen, hf⟩ := DataW.trod_struct Try.underlying111 h
  rw [cellsOf_sm] at hl
  match cs, hl with
  | [c0, c1, c2, c3, c4, c5], _ =>
  have f0 : DataW.trod enc Try.prog w 0 (fun _ => true) true n 5 (List.take (Try.prog.cellsOf 5) (List.drop 0 [c0, c1, c2, c3, c4, c5])) = xs[0]? := hf 0 _ rfl
  have f1 : DataW.trod enc Try.prog w 0 (fun _ => true) true n 5 (List.take (Try.prog.cellsOf 5) (List.drop 1 [c0, c1, c2, c3, c4, c5])) = xs[1]? := hf 1 _ rfl
  have f2 : DataW.trod enc Try.prog w 0 (fun _ => true) true n 5 (List.take (Try.prog.cellsOf 5) (List.drop 2 [c0, c1, c2, c3, c4, c5])) = xs[2]? := hf 2 _ rfl
  have f3 : DataW.trod enc Try.prog w 0 (fun _ => true) true n 5 (List.take (Try.prog.cellsOf 5) (List.drop 3 [c0, c1, c2, c3, c4, c5])) = xs[3]? := hf 3 _ rfl
  have f4 : DataW.trod enc Try.prog w 0 (fun _ => true) true n 82 (List.take (Try.prog.cellsOf 82) (List.drop 4 [c0, c1, c2, c3, c4, c5])) = xs[4]? := hf 4 _ rfl
  have f5 : DataW.trod enc Try.prog w 0 (fun _ => true) true n 4 (List.take (Try.prog.cellsOf 4) (List.drop 5 [c0, c1, c2, c3, c4, c5])) = xs[5]? := hf 5 _ rfl
  have hl3 : xs.length = 6 := hlen
  rw [List.getElem?_eq_getElem (by omega)] at f0 f1 f2 f3 f4 f5
  simp only [pcellsOf_byte, cellsOf_half, cellsOf_bool, List.drop_zero, List.drop_succ_cons, List.take_succ_cons, List.take_zero] at f0 f1 f2 f3 f4 f5
  obtain ⟨k0, h0, e⟩ := pbyte_reads enc w f0
  simp at e
  subst e
  obtain ⟨k1, h1, e⟩ := pbyte_reads enc w f1
  simp at e
  subst e
  obtain ⟨k2, h2, e⟩ := pbyte_reads enc w f2
  simp at e
  subst e
  obtain ⟨k3, h3, e⟩ := pbyte_reads enc w f3
  simp at e
  subst e
  obtain ⟨k4, h4, e⟩ := pint_reads enc w Try.underlying82 f4
  simp at e
  subst e
  obtain ⟨k5, e⟩ := pbool_reads enc w Try.underlying4 f5
  simp at e
  subst e
  have := bounds_i16 h4
  exact ⟨⟨k0, k1, k2, k3, k4, k5⟩, ⟨h0, h1, h2, h3, this.1, this.2⟩, rfl⟩

theorem smalls_shows {fuel : Nat} {cs : List Value} {x : DataW H × List MemPlace} (h : DataW.trod enc Try.prog w 0 (fun _ => true) true fuel 25 cs = some x) : ∃ l v, cs = [v] ∧ SmSees w v l := by
  rcases slice_each enc w Try.underlying25 cellsOf_sm (by omega) h with ⟨a, rfl⟩ | ⟨a, len, cap, n', hn, rfl, hle, hc, rfl | ⟨b, o, rfl, each⟩⟩
  · exact ⟨[], _, rfl, by unfold maxLen; simp, .inl ⟨rfl, _, _, rfl⟩⟩
  · exact ⟨[], _, rfl, by unfold maxLen; simp, .inl ⟨rfl, _, _, rfl⟩⟩
  · have ch : ∀ i, ∃ s : Sm, i < len → s.Fits ∧ w.cell? ⟨b, o + i * 6, none⟩ = some (.int .u8 s.op) ∧ w.cell? ⟨b, o + i * 6 + 1, none⟩ = some (.int .u8 s.dst) ∧ w.cell? ⟨b, o + i * 6 + 2, none⟩ = some (.int .u8 s.a) ∧
        w.cell? ⟨b, o + i * 6 + 3, none⟩ = some (.int .u8 s.b) ∧ w.cell? ⟨b, o + i * 6 + 4, none⟩ = some (.int .i16 s.n) ∧ w.cell? ⟨b, o + i * 6 + 5, none⟩ = some (.bool s.raw) := by
      intro i
      by_cases hi : i < len
      · obtain ⟨cs', y, h3, hcell⟩ := each i hi
        obtain ⟨s, hs, rfl⟩ := sm_shows enc w h3
        exact ⟨s, fun _ => ⟨hs, hcell 0 _ rfl (by omega), hcell 1 _ rfl (by omega), hcell 2 _ rfl (by omega), hcell 3 _ rfl (by omega), hcell 4 _ rfl (by omega), hcell 5 _ rfl (by omega)⟩⟩
      · exact ⟨⟨0, 0, 0, 0, 0, false⟩, fun h => absurd h hi⟩
    obtain ⟨of, hof⟩ := Classical.axiomOfChoice ch
    have el : ((List.range len).map of).length = len := by simp
    refine ⟨(List.range len).map of, _, rfl, by rw [el]; omega, .inr ⟨b, o, cap, by rw [el], by rw [el]; exact hle, fun i t hi => ?_⟩⟩
    rw [List.getElem?_map] at hi
    by_cases hlt : i < len
    · rw [List.getElem?_range hlt] at hi
      cases hi
      exact hof i hlt
    · rw [List.getElem?_eq_none (by simpa using hlt)] at hi
      cases hi
end

/-- Whatever is handed in as a slice of small instructions shows them. -/
theorem smalls_any {H : Type} (enc : TypeId × Value → H) (w : World) {v : Value} {d : DataW H} {p : List MemPlace} {base : Nat} (hval : Value.okWide Try.prog w .any base 25 v)
    (h : DataW.Trod enc Try.prog w 0 (fun _ => true) true 25 v d p) : ∃ l, SmSees w v l := by
  obtain ⟨a, len, cap, rfl⟩ := okWide_slice Try.underlying25 hval
  obtain ⟨fuel, hf⟩ := h
  obtain ⟨l, v, e, hl⟩ := smalls_shows enc w hf
  have hcs : (Value.slice a len cap).cells.toList = [.slice a len cap] := rfl
  rw [hcs] at e
  simp at e
  subst e
  exact ⟨l, hl⟩

end Go.Proofs.Ytedadjlmmnikaaa

/-
  PlayJoins: whatever is handed in.
-/
namespace Go.Proofs.Ytedadjlmmnikaaa
open Go.RowKit
set_option linter.unusedVariables false
set_option linter.unusedSimpArgs false

set_option maxRecDepth 100000 in
set_option maxHeartbeats 4000000 in
theorem joins_long (a c : List Sm) (va vc : Value) (s : Nat → Int) (w : World) (ha : SmSees w va a) (hc : SmSees w vc c) (hl : 10 < a.length ∨ 10 < c.length) :
    Calls Try.prog 5 #[va, vc, .agg (stC s)] w fun e w' => e = .returned (.bool true) ∧ Fr (fun _ => False) w w' := by
  obtain ⟨aa, ca, rfl, hx⟩ := ha.shape
  clear hx
  obtain ⟨ac, cc, rfl, hx⟩ := hc.shape
  clear hx ha hc
  simp only [stC]
  by_cases la : 10 < a.length
  · have h1 : decide ((10 : Int) < (a.length : Int)) = true := by simp; omega
    clear hl la
    go_enter Try.func5, Try.ntmps5
    go_wp2_with fail
    refine (pawake_any _).mono ?_
    rintro e w1 ⟨rfl, f1⟩
    have F1 := Lib.hid (((Fr.refl (fun _ => False) _).alloc _).trans f1 (fun _ _ h => h))
    clear f1
    go_wp2_with fail
    go_ret
    exact ⟨rfl, F1.out⟩
  · have h1 : decide ((10 : Int) < (a.length : Int)) = false := by simp; omega
    have h2 : decide ((10 : Int) < (c.length : Int)) = true := by simp; omega
    clear hl la
    go_enter Try.func5, Try.ntmps5
    go_wp2_with fail
    refine (pawake_any _).mono ?_
    rintro e w1 ⟨rfl, f1⟩
    have F1 := Lib.hid (((Fr.refl (fun _ => False) _).alloc _).trans f1 (fun _ _ h => h))
    clear f1
    go_wp2_with fail
    go_ret
    exact ⟨rfl, F1.out⟩

theorem joins_all {W : World} (a : List Sm) (va : Value) (ha : SmSees W va a) (c : List Sm) (vc : Value) (hc : SmSees W vc c) (s : Nat → Int) (vs : Value) (hs : StShows W s vs) :
    Calls Try.prog 5 #[va, vc, vs] W fun e w' => e = .returned (.bool true) ∧ Fr (fun _ => False) W w' := by
  obtain ⟨rfl, hin⟩ := hs
  by_cases h : 10 < a.length ∨ 10 < c.length
  · exact joins_long a c va vc s W ha hc h
  · exact joins_walk a c va vc s W ha hc hin (by omega) (by omega)

end Go.Proofs.Ytedadjlmmnikaaa
