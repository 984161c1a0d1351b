/-
  CouBack, part 13 of what it rests on: KindRow, Float.
-/
import Derived.Test.YtplipjijaaejlaaGreatS12
import Derived.Test.YtplipjijaaejlaaGreatS10
import Derived.Laws.FloatArith
set_option linter.unusedVariables false
set_option linter.unusedSimpArgs false
set_option maxHeartbeats 64000000
namespace Go.Proofs.YtplipjijaaejlaaGreat
open Go.RowKit
open Go.Lib (hid)
section
/-- What an item's cells show, and where: it goes on where these blocks are left. -/
structure Shown (α : Type) where
  sh : (Nat → Prop) → World → α → List Value → Prop
  fr : ∀ {R S : Nat → Prop} {w w' : World} {x : α} {xs : List Value}, sh R w x xs → Fr S w w' → (∀ k, R k → ¬ S k) → sh R w' x xs
  mono : ∀ {R S : Nat → Prop} {w : World} {x : α} {xs : List Value}, sh R w x xs → (∀ k, k < w.heap.size → R k → S k) → sh S w x xs

/-- A row of items alone from block B on, off the blocks X. -/
def ItRow {α : Type} (D : Shown α) (e : TypeId) (size B : Nat) (X : Nat → Prop) (w : World) (pv : Value) (l : List α) : Prop :=
  ∃ cs : List Value, w.ownsRow B e size pv l.length cs ∧ (∀ k, pv.ownBlock = some k → ¬ X k) ∧ ∀ (i : Nat) (x : α), l[i]? = some x → ∃ xs : List Value, xs.length = size ∧ (∀ (j : Nat) (u : Value), xs[j]? = some u → cs[i * size + j]? = some u) ∧
    D.sh (fun k => B ≤ k ∧ ¬ X k ∧ pv.ownBlock ≠ some k) w x xs

section
variable {α : Type} {D : Shown α} {e : TypeId} {size B : Nat} {X : Nat → Prop} {w w' : World} {pv : Value} {l : List α}

theorem ItRow.nil (D : Shown α) (e : TypeId) (size B : Nat) (X : Nat → Prop) (w : World) : ItRow D e size B X w (.slice none 0 0) [] := ⟨[], World.ownsRow_nil w B e size, by simp [Value.ownBlock], by simp⟩

theorem ItRow.fr {S : Nat → Prop} (h : ItRow D e size B X w pv l) (f : Fr S w w') (hS : ∀ k, B ≤ k → S k → X k) : ItRow D e size B X w' pv l := by
  obtain ⟨cs, h1, h0, h2⟩ := h
  refine ⟨cs, ownsRow_fr h1 f (fun k hk hs => h0 k hk (hS k (World.ownsRow.lt h1 k hk).1 hs)), h0, fun i x hi => ?_⟩
  obtain ⟨xs, a, b, hx⟩ := h2 i x hi
  exact ⟨xs, a, b, D.fr hx f (fun k hk hs => hk.2.1 (hS k hk.1 hs))⟩

/-- Other blocks to be kept off. -/
theorem ItRow.off {Y : Nat → Prop} (h : ItRow D e size B X w pv l) (hY : ∀ k, k < w.heap.size → Y k → X k) : ItRow D e size B Y w pv l := by
  obtain ⟨cs, h1, h0, h2⟩ := h
  refine ⟨cs, h1, fun k hk hy => h0 k hk (hY k (World.ownsRow.lt h1 k hk).2 hy), fun i x hi => ?_⟩
  obtain ⟨xs, a, b, hx⟩ := h2 i x hi
  exact ⟨xs, a, b, D.mono hx (fun k hk h => ⟨h.1, fun hy => h.2.1 (hY k hk hy), h.2.2⟩)⟩

theorem ItRow.slice (h : ItRow D e size B X w pv l) : ∃ a c, pv = .slice a l.length c := by
  obtain ⟨cs, h1, _⟩ := h
  exact slice_of_own h1

theorem ItRow.own (h : ItRow D e size B X w pv l) (k : Nat) (hk : pv.ownBlock = some k) : B ≤ k ∧ k < w.heap.size ∧ ¬ X k := by
  obtain ⟨cs, h1, h0, _⟩ := h
  exact ⟨(World.ownsRow.lt h1 k hk).1, (World.ownsRow.lt h1 k hk).2, h0 k hk⟩

/-- One item more, behind an append. -/
theorem ItRow.push {pv' : Value} {x : α} {news : List Value} (h : ItRow D e size B X w pv l) (hx : D.sh (fun k => B ≤ k ∧ ¬ X k ∧ pv.ownBlock ≠ some k) w x news) (hn : news.length = size)
    {cs : List Value} (hc : w.ownsRow B e size pv l.length cs) (ho : w'.ownsRow B e size pv' (l.length + 1) (cs ++ news)) (hg : w.grownBy w' pv.ownBlock) (hv : pv'.ownBlock = pv.ownBlock ∨ pv'.ownBlock = some w.heap.size) (hX : ∀ k, X k → k < w.heap.size) : ItRow D e size B X w' pv' (l ++ [x]) := by
  obtain ⟨cs', h1, h0, h2⟩ := h
  have hcs : cs' = cs := by
    have e1 := h1
    have e2 := hc
    have l1 := h1.1
    have l2 := hc.1
    by_cases hz : l.length = 0
    · rw [hz, Nat.zero_mul] at l1 l2
      rw [List.eq_nil_of_length_eq_zero l1, List.eq_nil_of_length_eq_zero l2]
    · rcases h1.2 with ⟨_, h0⟩ | ⟨g, cap, cur, rfl, hb, hgg, hle, _⟩
      · exact absurd h0 hz
      · refine List.ext_getElem? fun j => ?_
        by_cases hj : j < l.length * size
        · have q1 := World.ownsRow.cells (g := g) h1 rfl j _ (List.getElem?_eq_getElem (by rw [l1]; exact hj))
          have q2 := World.ownsRow.cells (g := g) hc rfl j _ (List.getElem?_eq_getElem (by rw [l2]; exact hj))
          rw [q1] at q2
          rw [List.getElem?_eq_getElem (by rw [l1]; exact hj), List.getElem?_eq_getElem (by rw [l2]; exact hj)]
          exact q2
        · rw [List.getElem?_eq_none (by rw [l1]; omega), List.getElem?_eq_none (by rw [l2]; omega)]
  subst hcs
  have key : ∀ (y : α) (ys : List Value), D.sh (fun k => B ≤ k ∧ ¬ X k ∧ pv.ownBlock ≠ some k) w y ys → D.sh (fun k => B ≤ k ∧ ¬ X k ∧ pv'.ownBlock ≠ some k) w' y ys := by
    intro y ys h
    have h3 := D.fr (D.mono h (S := fun k => (B ≤ k ∧ ¬ X k ∧ pv.ownBlock ≠ some k) ∧ k < w.heap.size) (fun k hk h => ⟨h, hk⟩)) (Fr.of_grown hg) (fun k hk e => hk.1.2.2 e.symm)
    refine D.mono h3 (fun k _ h => ⟨h.1.1, h.1.2.1, fun e => ?_⟩)
    rcases hv with e' | e'
    · rw [e'] at e; exact h.1.2.2 e
    · rw [e'] at e; cases e; exact absurd h.2 (Nat.lt_irrefl _)
  have l1 := h1.1
  refine ⟨cs' ++ news, by rw [List.length_append]; exact ho, ?_, fun i y hi => ?_⟩
  · intro k hk hxk
    rcases hv with e' | e'
    · rw [e'] at hk; exact h0 k hk hxk
    · rw [e'] at hk; cases hk; exact absurd (hX _ hxk) (Nat.lt_irrefl _)
  by_cases hlt : i < l.length
  · rw [List.getElem?_append_left hlt] at hi
    obtain ⟨xs, a, b, hy⟩ := h2 i y hi
    refine ⟨xs, a, fun j u hu => ?_, key _ _ hy⟩
    have := b j u hu
    rw [List.getElem?_append_left (List.getElem?_eq_some_iff.1 this).1]
    exact this
  · have hi' := (List.getElem?_eq_some_iff.1 hi).1
    obtain rfl : i = l.length := by simp at hi'; omega
    rw [List.getElem?_append_right (Nat.le_refl _)] at hi
    simp at hi
    subst hi
    refine ⟨news, hn, fun j u hu => ?_, key _ _ hx⟩
    rw [List.getElem?_append_right (by omega), show l.length * size + j - cs'.length = j by omega]
    exact hu

/-- The row's cells, in memory. -/
theorem ItRow.cells (h : ItRow D e size B X w pv l) : (l = [] ∧ ∃ a c, pv = .slice a 0 c) ∨
    ∃ g cap, (B ≤ g ∧ ¬ X g ∧ g < w.heap.size) ∧ pv = .slice (some ⟨g, 0, none⟩) l.length cap ∧ l.length ≤ cap ∧ ∀ (i : Nat) (x : α), l[i]? = some x → ∃ xs : List Value, xs.length = size ∧ (∀ (j : Nat) (u : Value), xs[j]? = some u → w.cell? ⟨g, 0 + i * size + j, none⟩ = some u) ∧
      D.sh (fun k => B ≤ k ∧ ¬ X k ∧ k < w.heap.size) w x xs := by
  obtain ⟨cs, h1, h0, h2⟩ := h
  rcases h1.2 with ⟨rfl, hz⟩ | ⟨g, cap, cur, rfl, hb, hgg, hle, _⟩
  · exact .inl ⟨List.eq_nil_of_length_eq_zero hz, none, 0, rfl⟩
  · refine .inr ⟨g, cap, ⟨hb, h0 g rfl, (World.ownsRow.lt h1 g rfl).2⟩, rfl, hle, fun i x hi => ?_⟩
    obtain ⟨xs, a, b, hx⟩ := h2 i x hi
    refine ⟨xs, a, fun j u hu => ?_, D.mono hx (fun k hk h => ⟨h.1, h.2.1, hk⟩)⟩
    have := World.ownsRow.cells (g := g) h1 rfl (i * size + j) u (b j u hu)
    rw [plain_add] at this
    rw [Nat.zero_add]
    exact this

theorem first_one {P : Program} {w : World} {g : Nat} {news : List Value} {t : TypeId} {fr : Nat × Nat} (c size : Nat) (hn : news.length = size) (h : w.heap[g]? = some (.cells news.toArray t fr)) :
    (Builtin.firstCells size 1 (.slice (some ⟨g, 0, none⟩) 1 c)).run P w = .ok news.toArray w := by
  have := run_firstCells_some (P := P) w size 1 ⟨g, 0, none⟩ 1 c news (by rw [hn, Nat.one_mul]) (by
    intro j v hj
    rw [plain_add, cell_of_row w g j _ t fr h]
    simpa using hj)
  simpa using this

/-- The append of one item as an operation of a region. -/
theorem opWp_push {P : Program} {o : Oper} {a : Act} {K : Act → World → Prop} {Q : Exit → Act → World → Prop} (s x : Operand) (t u : TypeId)
    (ho : o.op = .call { callee := .builtin .append, args := #[s, x], argTypes := #[t, u] })
    {z : Value} {bytes : Nat} (ht : P.underlying t = some (.slice e)) (hu : P.underlying u = some (.slice e))
    (hi : (P.info? e).map (fun i => (i.zero, i.size, i.bytes)) = some (some z, size, bytes)) (hzs : z.cells.size = size) (hsz : 0 < size)
    (hs : a.eval s = pv) (h : ItRow D e size B X w pv l) (gg : Nat) (hx : a.eval x = .slice (some ⟨gg, 0, none⟩) 1 1) {news : List Value} {tt : TypeId} {ff : Nat × Nat} (hgg : w.heap[gg]? = some (.cells news.toArray tt ff)) (hn : news.length = size) (h1 : ∀ u ∈ news, u.oneCell' = true)
    (hl : l.length ≤ 1000) (hb : bytes ≤ 1000) (hB : B ≤ w.heap.size) (hX : ∀ k, X k → k < w.heap.size) (y : α) (hy : D.sh (fun k => B ≤ k ∧ ¬ X k ∧ pv.ownBlock ≠ some k) w y news)
    (hK : ∀ v' w', ItRow D e size B X w' v' (l ++ [y]) → Fr (fun k => pv.ownBlock = some k) w w' → (v'.ownBlock = pv.ownBlock ∨ v'.ownBlock = some w.heap.size) → K (a.put o.dst v') w') : o.wp P a w K Q := by
  obtain ⟨i0, hi0, hz0, hz1, hz2⟩ := info_parts hi
  have hr := h
  obtain ⟨cs, hown, _⟩ := hr
  refine opWp_append (P := P) s x t u ho B e i0 z size bytes ht _ hu (.inr ⟨_, rfl⟩) hi0 hz0 hz1 hz2 hzs hsz pv l.length cs hs hown (.slice (some ⟨gg, 0, none⟩) 1 1) 1 news hx (lenOf_slice _ _ _) (by omega) (first_one 1 size hn hgg) (first_one 1 size hn hgg) h1 (by unfold maxLen; omega) ?_ hB ?_
  · have : (l.length + 1) * bytes ≤ 1001 * 1000 := Nat.mul_le_mul (by omega) hb
    omega
  · intro v' w' ho' hg hv
    exact hK v' w' (h.push hy hn hown ho' hg hv hX) ((Fr.of_grown hg).mono (fun _ _ e => e.symm)) hv

end

/-- A cell of a block is stored. -/
theorem setCell_row {w : World} {b : Nat} {cs : Array Value} {t : TypeId} {f : Nat × Nat} (i : Nat) (y : Value) (h : w.heap[b]? = some (.cells cs t f)) :
    (w.setCell ⟨b, i, none⟩ y).heap[b]? = some (.cells (cs.setIfInBounds i y) t f) := by
  unfold World.setCell
  simp only [Array.getElem?_modify, if_true, h, Option.map_some]
  simp

def tyShown : Shown KT where
  sh R w t xs := ∃ x0 x1 x2 x3, xs = [x0, x1, x2, x3] ∧ Shows R w t (.agg #[x0, x1, x2, x3])
  fr := by
    rintro R S w w' x xs ⟨x0, x1, x2, x3, rfl, h⟩ f hS
    exact ⟨x0, x1, x2, x3, rfl, Shows.fr f hS _ _ h⟩
  mono := by
    rintro R S w x xs ⟨x0, x1, x2, x3, rfl, h⟩ hS
    exact ⟨x0, x1, x2, x3, rfl, Shows.mono hS _ _ h⟩

def txShown : Shown Txt where
  sh _ _ t xs := xs = [sv t]
  fr := fun h _ _ => h
  mono := fun h _ => h

/-- A row of texts. -/
theorem ItRow.texts {B : Nat} {X : Nat → Prop} {w : World} {pv : Value} {l : List Txt} (h : ItRow txShown 9 1 B X w pv l) (h1 : l.length ≤ 1000) (h2 : ∀ s ∈ l, s.length ≤ 1000) : Texts (fun k => B ≤ k ∧ ¬ X k ∧ k < w.heap.size) w l pv := by
  refine ⟨h1, h2, ?_⟩
  rcases h.cells with ⟨h3, a, c, h4⟩ | ⟨g, cap, hg, rfl, hle, hc⟩
  · exact .inl ⟨h3, a, c, h4⟩
  · refine .inr ⟨g, 0, cap, hg, rfl, hle, fun j s hj => ?_⟩
    obtain ⟨xs, _, hc, rfl⟩ := hc j s hj
    have := hc 0 _ rfl
    simpa using this

/-- A row of types as a type's parts. -/
theorem ItRow.parts {B : Nat} {X : Nat → Prop} {w : World} {pv vn : Value} {ts : List KT} {k n : Nat} {m : Int} {ns : List Txt} (h : ItRow tyShown 34 4 B X w pv ts) (hn : ts.length = n) (hk : k ≤ 255) (hn1 : n ≤ 1000) (ht : Texts (fun k => B ≤ k) w ns vn) (of : Nat → KT) (hof : ∀ i x, ts[i]? = some x → of i = x) :
    Shows (fun k => B ≤ k) w (.mk k m ns n of) (.agg #[.int .u8 k, .int .i64 m, vn, pv]) := by
  subst hn
  refine ⟨vn, pv, rfl, hk, hn1, ht, ?_⟩
  rcases h.cells with ⟨rfl, a, c, h4⟩ | ⟨g, cap, hg, rfl, hle, hc⟩
  · exact .inl ⟨rfl, a, c, h4⟩
  · refine .inr ⟨g, 0, cap, hg.1, rfl, hle, fun i hi => ?_⟩
    obtain ⟨xs, _, hc, x0, x1, x2, x3, rfl, hx⟩ := hc i ts[i] (List.getElem?_eq_getElem hi)
    refine ⟨x0, x1, x2, x3, hc 0 _ rfl, hc 1 _ rfl, hc 2 _ rfl, hc 3 _ rfl, ?_⟩
    rw [hof i _ (List.getElem?_eq_getElem hi)]
    exact Shows.mono (fun k _ h => h.1) _ _ hx
end
section
namespace Fl
open Ieee

theorem sw_eq : double.signWeight = 9223372036854775808 := by decide +kernel
theorem bin_eq : double.binade = 4503599627370496 := by decide +kernel
theorem inf_eq : double.infRung = 9218868437227405312 := by decide +kernel
theorem least_eq : double.leastPlace = -1074 := by decide +kernel
theorem frac_eq : double.fractionBits = 52 := rfl

def mag (r : Nat) : Nat := if r < 4503599627370496 then r else 4503599627370496 + r % 4503599627370496
def ex (r : Nat) : Nat := if r < 4503599627370496 then 0 else r / 4503599627370496 - 1
def V (r : Nat) : Nat := mag r * 2 ^ ex r
def neg (b : Nat) : Bool := b / 9223372036854775808 % 2 == 1
def rung (b : Nat) : Nat := b % 9223372036854775808
def isNaN (b : Nat) : Bool := decide (9218868437227405312 < rung b)
/-- A word as a whole number: the rung with the sign. -/
def key (b : Nat) : Int := if neg b then -(rung b : Int) else rung b

theorem rung_lt (b : Nat) : rung b < 9223372036854775808 := Nat.mod_lt _ (by decide)

theorem nan_iff {b : Nat} : isNaN b = true ↔ 9218868437227405312 < rung b := by simp [isNaN]
theorem not_nan_iff {b : Nat} : isNaN b = false ↔ rung b ≤ 9218868437227405312 := by simp [isNaN]

theorem read_num {b : Nat} (h : rung b < 9218868437227405312) : double.read b = .number (neg b) (mag (rung b)) (-1074 + (ex (rung b) : Int)) := by
  have h' : b % 9223372036854775808 < 9218868437227405312 := h
  unfold Format.read
  simp only [sw_eq, bin_eq, inf_eq, least_eq, rung, neg, mag, ex]
  by_cases hs : b % 9223372036854775808 < 4503599627370496
  · simp [hs]
  · simp [hs, h']

theorem read_inf {b : Nat} (h : rung b = 9218868437227405312) : double.read b = .infinity (neg b) := by
  have h' : b % 9223372036854775808 = 9218868437227405312 := h
  unfold Format.read
  simp only [sw_eq, bin_eq, inf_eq, neg, h']
  simp

theorem read_nan {b : Nat} (h : isNaN b = true) : double.read b = .nan (neg b) (rung b - 9218868437227405312) := by
  have h' : 9218868437227405312 < b % 9223372036854775808 := nan_iff.1 h
  have h1 : ¬ b % 9223372036854775808 < 4503599627370496 := by omega
  have h2 : ¬ b % 9223372036854775808 < 9218868437227405312 := by omega
  have h3 : ¬ b % 9223372036854775808 = 9218868437227405312 := by omega
  unfold Format.read
  simp only [sw_eq, bin_eq, inf_eq, neg, rung]
  rw [if_neg h1, if_neg h2, if_neg h3]

/-- A word is told by its sign and its rung. -/
theorem word_of (b : Nat) (hb : b < 18446744073709551616) : double.word (neg b) (rung b) = b := by
  unfold Format.word neg rung
  rw [sw_eq]
  by_cases h : b / 9223372036854775808 % 2 = 1
  · simp only [h, beq_self_eq_true, if_true]; omega
  · have h0 : (b / 9223372036854775808 % 2 == 1) = false := by simpa using h
    simp only [h0]; simp only [Bool.false_eq_true, if_false]; omega

theorem neg_word (s : Bool) (r : Nat) (h : r < 9223372036854775808) : neg (double.word s r) = s := by
  unfold neg Format.word
  rw [sw_eq]
  cases s
  · simp; omega
  · simp; omega
theorem rung_word (s : Bool) (r : Nat) (h : r < 9223372036854775808) : rung (double.word s r) = r := by
  unfold rung Format.word
  rw [sw_eq]
  cases s
  · simp; omega
  · simp; omega
theorem word_lt (s : Bool) (r : Nat) (h : r < 9223372036854775808) : double.word s r < 18446744073709551616 := by
  unfold Format.word
  rw [sw_eq]
  split <;> omega

theorem same_word {a b : Nat} (ha : a < 18446744073709551616) (hb : b < 18446744073709551616) (hn : neg a = neg b) (hr : rung a = rung b) : a = b := by
  rw [← word_of a ha, ← word_of b hb, hn, hr]

theorem mag_ex (r : Nat) : r = ex r * 4503599627370496 + mag r := by
  unfold ex mag
  split <;> omega

theorem mag_zero {r : Nat} : mag r = 0 ↔ r = 0 := by
  unfold mag
  split <;> omega

theorem mag_lt (r : Nat) : mag r < 9007199254740992 := by
  unfold mag
  split <;> omega

theorem mag_ge {r : Nat} (h : 0 < ex r) : 4503599627370496 ≤ mag r := by
  unfold ex at h
  unfold mag
  split at h
  · omega
  · rename_i h'; rw [if_neg h']; omega

theorem V_succ (r : Nat) : V r < V (r + 1) := by
  unfold V
  by_cases h1 : r + 1 < 4503599627370496
  · simp [mag, ex, h1, show r < 4503599627370496 by omega]
  · by_cases h2 : r + 1 = 4503599627370496
    · obtain rfl : r = 4503599627370495 := by omega
      decide +kernel
    · have e0 : mag r = 4503599627370496 + r % 4503599627370496 := by unfold mag; rw [if_neg (by omega)]
      have e1 : mag (r + 1) = 4503599627370496 + (r + 1) % 4503599627370496 := by unfold mag; rw [if_neg (by omega)]
      have x0 : ex r = r / 4503599627370496 - 1 := by unfold ex; rw [if_neg (by omega)]
      have x1 : ex (r + 1) = (r + 1) / 4503599627370496 - 1 := by unfold ex; rw [if_neg (by omega)]
      by_cases h3 : r % 4503599627370496 + 1 = 4503599627370496
      · have x2 : ex (r + 1) = ex r + 1 := by omega
        have m1 : mag (r + 1) = 4503599627370496 := by omega
        have m0 : mag r = 9007199254740991 := by omega
        rw [x2, m1, m0, Nat.pow_succ]
        have : 0 < 2 ^ ex r := Nat.two_pow_pos _
        omega
      · have x2 : ex (r + 1) = ex r := by omega
        have m1 : mag (r + 1) = mag r + 1 := by omega
        rw [x2, m1, Nat.add_mul]
        have : 0 < 2 ^ ex r := Nat.two_pow_pos _
        omega

theorem V_lt {a b : Nat} (h : a < b) : V a < V b := by
  induction b with
  | zero => omega
  | succ n ih =>
    have := V_succ n
    by_cases e : a = n
    · subst e; exact this
    · have := ih (by omega); omega

theorem V_lt_iff {a b : Nat} : V a < V b ↔ a < b := by
  refine ⟨fun h => ?_, V_lt⟩
  rcases Nat.lt_trichotomy a b with h' | h' | h'
  · exact h'
  · subst h'; omega
  · have := V_lt h'; omega

theorem V_zero : V 0 = 0 := by decide +kernel
theorem V_pos {r : Nat} : V r = 0 ↔ r = 0 := by
  refine ⟨fun h => ?_, fun h => by subst h; exact V_zero⟩
  rcases Nat.eq_zero_or_pos r with h' | h'
  · exact h'
  · have := V_lt h'; rw [V_zero] at this; omega

theorem signed_eq (s : Bool) (m u : Nat) : signed s m u = if s then -((m * 2 ^ u : Nat) : Int) else ((m * 2 ^ u : Nat) : Int) := by
  unfold signed
  rw [Nat.shiftLeft_eq]

theorem compare_int (x y x' y' : Int) (h : x < y ↔ x' < y') (h' : y < x ↔ y' < x') : compare x y = compare x' y' := by
  show compareOfLessAndEq x y = compareOfLessAndEq x' y'
  unfold compareOfLessAndEq
  by_cases h1 : x < y
  · rw [if_pos h1, if_pos (h.1 h1)]
  · rw [if_neg h1, if_neg (fun q => h1 (h.2 q))]
    by_cases h2 : x = y
    · rw [if_pos h2, if_pos (by omega)]
    · rw [if_neg h2, if_neg (by omega)]

theorem order_nan {a b : Nat} (h : isNaN a = true ∨ isNaN b = true) : double.order a b = none := by
  unfold Format.order
  rcases h with h | h
  · rw [read_nan h]; rfl
  · rw [read_nan h]; cases double.read a <;> rfl

theorem order_num_num (s t : Bool) (m n : Nat) (i j : Int) : (Datum.number s m i).order (.number t n j) = some (compare (signed s m (i - min i j).toNat) (signed t n (j - min i j).toNat)) := rfl

theorem order_finite {a b : Nat} (ha : rung a < 9218868437227405312) (hb : rung b < 9218868437227405312) : double.order a b = some (compare (key a) (key b)) := by
  unfold Format.order
  rw [read_num ha, read_num hb, order_num_num]
  generalize hra : rung a = ra at *
  generalize hrb : rung b = rb at *
  congr 1
  have hd : ∃ d : Nat, d ≤ ex ra ∧ d ≤ ex rb ∧ (-1074 + (ex ra : Int) - min (-1074 + (ex ra : Int)) (-1074 + (ex rb : Int))).toNat = ex ra - d ∧ (-1074 + (ex rb : Int) - min (-1074 + (ex ra : Int)) (-1074 + (ex rb : Int))).toNat = ex rb - d :=
    ⟨min (ex ra) (ex rb), by omega, by omega, by omega, by omega⟩
  obtain ⟨d, h1, h2, e1, e2⟩ := hd
  rw [e1, e2, signed_eq, signed_eq]
  have v1 : V ra = mag ra * 2 ^ (ex ra - d) * 2 ^ d := by
    unfold V; rw [Nat.mul_assoc, ← Nat.pow_add, Nat.sub_add_cancel h1]
  have v2 : V rb = mag rb * 2 ^ (ex rb - d) * 2 ^ d := by
    unfold V; rw [Nat.mul_assoc, ← Nat.pow_add, Nat.sub_add_cancel h2]
  generalize mag ra * 2 ^ (ex ra - d) = X at *
  generalize mag rb * 2 ^ (ex rb - d) = Y at *
  have hp : 0 < 2 ^ d := Nat.two_pow_pos _
  have c1 : X < Y ↔ ra < rb := by rw [← @V_lt_iff ra rb, v1, v2]; exact (Nat.mul_lt_mul_right hp).symm
  have c2 : Y < X ↔ rb < ra := by rw [← @V_lt_iff rb ra, v1, v2]; exact (Nat.mul_lt_mul_right hp).symm
  have z1 : X = 0 ↔ ra = 0 := by
    rw [← @V_pos ra, v1, Nat.mul_eq_zero]; constructor
    · exact Or.inl
    · rintro (h | h); exact h; omega
  have z2 : Y = 0 ↔ rb = 0 := by
    rw [← @V_pos rb, v2, Nat.mul_eq_zero]; constructor
    · exact Or.inl
    · rintro (h | h); exact h; omega
  unfold key
  rw [hra, hrb]
  refine compare_int _ _ _ _ ?_ ?_ <;> cases neg a <;> cases neg b <;> simp only [if_true, if_false, Bool.false_eq_true] <;> omega

theorem order_num {a b : Nat} (ha : isNaN a = false) (hb : isNaN b = false) : double.order a b = some (compare (key a) (key b)) := by
  have ha' := not_nan_iff.1 ha
  have hb' := not_nan_iff.1 hb
  by_cases h1 : rung a = 9218868437227405312
  · by_cases h2 : rung b = 9218868437227405312
    · unfold Format.order
      rw [read_inf h1, read_inf h2]
      unfold key
      rw [h1, h2]
      cases neg a <;> cases neg b <;> rfl
    · have h2' : rung b < 9218868437227405312 := by omega
      unfold Format.order
      rw [read_inf h1, read_num h2']
      show some (if neg a then Ordering.lt else .gt) = _
      congr 1
      unfold key
      rw [h1]
      show _ = compareOfLessAndEq _ _
      unfold compareOfLessAndEq
      cases neg a <;> cases neg b <;> simp only [if_true, if_false, Bool.false_eq_true]
      · rw [if_neg (by omega), if_neg (by omega)]
      · rw [if_neg (by omega), if_neg (by omega)]
      · rw [if_pos (by omega)]
      · rw [if_pos (by omega)]
  · have h1' : rung a < 9218868437227405312 := by omega
    by_cases h2 : rung b = 9218868437227405312
    · unfold Format.order
      rw [read_num h1', read_inf h2]
      show some (if neg b then Ordering.gt else .lt) = _
      congr 1
      unfold key
      rw [h2]
      show _ = compareOfLessAndEq _ _
      unfold compareOfLessAndEq
      cases neg a <;> cases neg b <;> simp only [if_true, if_false, Bool.false_eq_true]
      · rw [if_pos (by omega)]
      · rw [if_neg (by omega), if_neg (by omega)]
      · rw [if_pos (by omega)]
      · rw [if_neg (by omega), if_neg (by omega)]
    · exact order_finite h1' (by omega)

theorem compare_lt {x y : Int} : (some (compare x y) == some Ordering.lt) = decide (x < y) := by
  show (some (compareOfLessAndEq x y) == _) = _
  unfold compareOfLessAndEq
  by_cases h : x < y
  · simp [h]
  · by_cases h' : x = y <;> simp [h, h']
theorem compare_eq {x y : Int} : (some (compare x y) == some Ordering.eq) = decide (x = y) := by
  show (some (compareOfLessAndEq x y) == _) = _
  unfold compareOfLessAndEq
  by_cases h : x < y
  · have : ¬ x = y := by omega
    simp [h, this]
  · by_cases h' : x = y <;> simp [h, h']
theorem compare_gt {x y : Int} : (some (compare x y) == some Ordering.gt) = decide (y < x) := by
  show (some (compareOfLessAndEq x y) == _) = _
  unfold compareOfLessAndEq
  by_cases h : x < y
  · have : ¬ y < x := by omega
    simp [h, this]
  · by_cases h' : x = y
    · subst h'; simp
    · have : y < x := by omega
      simp [h, h', this]

/-- 'x != x': just a NaN. -/
theorem self_ne (b : Nat) : (double.order b b != some .eq) = isNaN b := by
  cases h : isNaN b
  · rw [order_num h h]
    show (!_) = _
    rw [compare_eq]; simp
  · rw [order_nan (.inl h)]; rfl

theorem log2_mul (m k : Nat) (h0 : m ≠ 0) : (m * 2 ^ k).log2 = m.log2 + k := by
  have h2k : 0 < 2 ^ k := Nat.two_pow_pos _
  have hne : m * 2 ^ k ≠ 0 := Nat.mul_ne_zero h0 (by omega)
  have a1 : 2 ^ m.log2 ≤ m := (Nat.le_log2 h0).1 (Nat.le_refl _)
  have a2 : m < 2 ^ (m.log2 + 1) := (Nat.log2_lt h0).1 (Nat.lt_succ_self _)
  apply Nat.le_antisymm
  · have : (m * 2 ^ k).log2 < m.log2 + 1 + k := by
      rw [Nat.log2_lt hne, Nat.pow_add]
      exact Nat.mul_lt_mul_of_pos_right a2 h2k
    omega
  · rw [Nat.le_log2 hne, Nat.pow_add]
    exact Nat.mul_le_mul_right _ a1

theorem cut_exact (s : Bool) (m k : Nat) (h0 : m ≠ 0) : Toward.even.cut s (m * 2 ^ k) k = m := by
  have h2k : 0 < 2 ^ k := Nat.two_pow_pos _
  unfold Toward.cut
  have g : 1 <<< min k ((m * 2 ^ k).log2 + 2) = 2 ^ k := by
    rw [log2_mul m k h0, Nat.min_eq_left (by omega), Nat.shiftLeft_eq, Nat.one_mul]
  simp only [g]
  rw [Nat.mul_div_cancel _ h2k, Nat.mul_mod_left]
  have e1 : decide (2 ^ k < 2 * 0) = false := by simp
  have e2 : (2 ^ k == 2 * 0) = false := by simp
  simp only [e1, e2]
  rfl

theorem nearest_zero (s : Bool) (place : Int) : double.nearest s 0 place = double.word s 0 := by
  unfold Format.nearest
  rw [if_pos rfl]

theorem nearest_last (s : Bool) (m : Nat) (place last : Int) (h0 : m ≠ 0) (hl : max (place + (m.log2 : Int) - 52) (-1074) = last) :
    double.nearest s m place = double.word s (min ((last + 1074).toNat * 4503599627370496 + Toward.even.cut s (m <<< (place - last).toNat) (last - place).toNat) 9218868437227405312) := by
  unfold Format.nearest
  rw [if_neg h0, bin_eq, inf_eq, least_eq, frac_eq]
  have hl' : max (place + (m.log2 : Int) - ((52 : Nat) : Int)) (-1074) = last := hl
  simp only [hl']
  rw [show last - -1074 = last + 1074 by omega]

/-- What is read is written as the same word: also with 'mag * 2 ^ k' at 'place - k'. -/
theorem nearest_exact (s : Bool) (r k : Nat) (hr : r < 9218868437227405312) (place : Int) (hp : place = -1074 + (ex r : Int) - k) :
    double.nearest s (mag r * 2 ^ k) place = double.word s r := by
  have hme := mag_ex r
  by_cases h0 : mag r = 0
  · have hr0 : r = 0 := mag_zero.1 h0
    rw [h0, Nat.zero_mul, nearest_zero, hr0]
  have h2k : 0 < 2 ^ k := Nat.two_pow_pos _
  have hne : mag r * 2 ^ k ≠ 0 := Nat.mul_ne_zero h0 (by omega)
  have hl52 : (mag r).log2 < 53 := by rw [Nat.log2_lt h0]; exact mag_lt r
  have hge : 0 < ex r → 52 ≤ (mag r).log2 := by
    intro hx
    rw [Nat.le_log2 h0]; exact mag_ge hx
  have hlast : max (place + ((mag r * 2 ^ k).log2 : Int) - 52) (-1074) = -1074 + (ex r : Int) := by
    rw [log2_mul _ k h0, hp]
    omega
  rw [nearest_last s _ place _ hne hlast]
  have t1 : (place - (-1074 + (ex r : Int))).toNat = 0 := by omega
  have t2 : (-1074 + (ex r : Int) - place).toNat = k := by omega
  have t3 : (-1074 + (ex r : Int) + 1074).toNat = ex r := by omega
  rw [t1, t2, t3, Nat.shiftLeft_zero, cut_exact s _ k h0, ← hme, Nat.min_eq_left (by omega)]

end Fl
end
end Go.Proofs.YtplipjijaaejlaaGreat
