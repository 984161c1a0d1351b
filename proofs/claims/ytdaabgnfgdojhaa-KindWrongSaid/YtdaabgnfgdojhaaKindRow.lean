/-
  Rows of items that are owned alone, whose items lie in memory of their own, kept off some blocks; an append of one item.
-/
import Derived.Test.YtdaabgnfgdojhaaKindSame
import Derived.Test.YtdaabgnfgdojhaaKindWhole2
import Derived.Test.YtdaabgnfgdojhaaRegionC
namespace Go.Proofs.Ytdaabgnfgdojhaa
open Go.RowKit
set_option linter.unusedVariables false

/-- What an item's cells show, and where: it goes on where these blocks are left. -/
structure Shown (α : Type) where
  sh : (Nat → Prop) → World → α → List Value → Prop
  fr : ∀ {R S : Nat → Prop} {w w' : World} {x : α} {xs : List Value}, sh R w x xs → Fr S w w' → (∀ k, R k → ¬ S k) → sh R w' x xs
  mono : ∀ {R S : Nat → Prop} {w : World} {x : α} {xs : List Value}, sh R w x xs → (∀ k, k < w.heap.size → R k → S k) → sh S w x xs

/-- A row of items alone from block B on, off the blocks X. -/
def ItRow {α : Type} (D : Shown α) (e : TypeId) (size B : Nat) (X : Nat → Prop) (w : World) (pv : Value) (l : List α) : Prop :=
  ∃ cs : List Value, w.ownsRow B e size pv l.length cs ∧ (∀ k, pv.ownBlock = some k → ¬ X k) ∧ ∀ (i : Nat) (x : α), l[i]? = some x → ∃ xs : List Value, xs.length = size ∧ (∀ (j : Nat) (u : Value), xs[j]? = some u → cs[i * size + j]? = some u) ∧
    D.sh (fun k => B ≤ k ∧ ¬ X k ∧ pv.ownBlock ≠ some k) w x xs

section
variable {α : Type} {D : Shown α} {e : TypeId} {size B : Nat} {X : Nat → Prop} {w w' : World} {pv : Value} {l : List α}

theorem ItRow.nil (D : Shown α) (e : TypeId) (size B : Nat) (X : Nat → Prop) (w : World) : ItRow D e size B X w (.slice none 0 0) [] := ⟨[], World.ownsRow_nil w B e size, by simp [Value.ownBlock], by simp⟩

theorem ItRow.fr {S : Nat → Prop} (h : ItRow D e size B X w pv l) (f : Fr S w w') (hS : ∀ k, B ≤ k → S k → X k) : ItRow D e size B X w' pv l := by
  obtain ⟨cs, h1, h0, h2⟩ := h
  refine ⟨cs, ownsRow_fr h1 f (fun k hk hs => h0 k hk (hS k (World.ownsRow.lt h1 k hk).1 hs)), h0, fun i x hi => ?_⟩
  obtain ⟨xs, a, b, hx⟩ := h2 i x hi
  exact ⟨xs, a, b, D.fr hx f (fun k hk hs => hk.2.1 (hS k hk.1 hs))⟩

/-- Other blocks to be kept off. -/
theorem ItRow.off {Y : Nat → Prop} (h : ItRow D e size B X w pv l) (hY : ∀ k, k < w.heap.size → Y k → X k) : ItRow D e size B Y w pv l := by
  obtain ⟨cs, h1, h0, h2⟩ := h
  refine ⟨cs, h1, fun k hk hy => h0 k hk (hY k (World.ownsRow.lt h1 k hk).2 hy), fun i x hi => ?_⟩
  obtain ⟨xs, a, b, hx⟩ := h2 i x hi
  exact ⟨xs, a, b, D.mono hx (fun k hk h => ⟨h.1, fun hy => h.2.1 (hY k hk hy), h.2.2⟩)⟩

theorem ItRow.slice (h : ItRow D e size B X w pv l) : ∃ a c, pv = .slice a l.length c := by
  obtain ⟨cs, h1, _⟩ := h
  exact slice_of_own h1

theorem ItRow.own (h : ItRow D e size B X w pv l) (k : Nat) (hk : pv.ownBlock = some k) : B ≤ k ∧ k < w.heap.size ∧ ¬ X k := by
  obtain ⟨cs, h1, h0, _⟩ := h
  exact ⟨(World.ownsRow.lt h1 k hk).1, (World.ownsRow.lt h1 k hk).2, h0 k hk⟩

/-- One item more, behind an append. -/
theorem ItRow.push {pv' : Value} {x : α} {news : List Value} (h : ItRow D e size B X w pv l) (hx : D.sh (fun k => B ≤ k ∧ ¬ X k ∧ pv.ownBlock ≠ some k) w x news) (hn : news.length = size)
    {cs : List Value} (hc : w.ownsRow B e size pv l.length cs) (ho : w'.ownsRow B e size pv' (l.length + 1) (cs ++ news)) (hg : w.grownBy w' pv.ownBlock) (hv : pv'.ownBlock = pv.ownBlock ∨ pv'.ownBlock = some w.heap.size) (hX : ∀ k, X k → k < w.heap.size) : ItRow D e size B X w' pv' (l ++ [x]) := by
  obtain ⟨cs', h1, h0, h2⟩ := h
  have hcs : cs' = cs := by
    have e1 := h1
    have e2 := hc
    have l1 := h1.1
    have l2 := hc.1
    by_cases hz : l.length = 0
    · rw [hz, Nat.zero_mul] at l1 l2
      rw [List.eq_nil_of_length_eq_zero l1, List.eq_nil_of_length_eq_zero l2]
    · rcases h1.2 with ⟨_, h0⟩ | ⟨g, cap, cur, rfl, hb, hgg, hle, _⟩
      · exact absurd h0 hz
      · refine List.ext_getElem? fun j => ?_
        by_cases hj : j < l.length * size
        · have q1 := World.ownsRow.cells (g := g) h1 rfl j _ (List.getElem?_eq_getElem (by rw [l1]; exact hj))
          have q2 := World.ownsRow.cells (g := g) hc rfl j _ (List.getElem?_eq_getElem (by rw [l2]; exact hj))
          rw [q1] at q2
          rw [List.getElem?_eq_getElem (by rw [l1]; exact hj), List.getElem?_eq_getElem (by rw [l2]; exact hj)]
          exact q2
        · rw [List.getElem?_eq_none (by rw [l1]; omega), List.getElem?_eq_none (by rw [l2]; omega)]
  subst hcs
  have key : ∀ (y : α) (ys : List Value), D.sh (fun k => B ≤ k ∧ ¬ X k ∧ pv.ownBlock ≠ some k) w y ys → D.sh (fun k => B ≤ k ∧ ¬ X k ∧ pv'.ownBlock ≠ some k) w' y ys := by
    intro y ys h
    have h3 := D.fr (D.mono h (S := fun k => (B ≤ k ∧ ¬ X k ∧ pv.ownBlock ≠ some k) ∧ k < w.heap.size) (fun k hk h => ⟨h, hk⟩)) (Fr.of_grown hg) (fun k hk e => hk.1.2.2 e.symm)
    refine D.mono h3 (fun k _ h => ⟨h.1.1, h.1.2.1, fun e => ?_⟩)
    rcases hv with e' | e'
    · rw [e'] at e; exact h.1.2.2 e
    · rw [e'] at e; cases e; exact absurd h.2 (Nat.lt_irrefl _)
  have l1 := h1.1
  refine ⟨cs' ++ news, by rw [List.length_append]; exact ho, ?_, fun i y hi => ?_⟩
  · intro k hk hxk
    rcases hv with e' | e'
    · rw [e'] at hk; exact h0 k hk hxk
    · rw [e'] at hk; cases hk; exact absurd (hX _ hxk) (Nat.lt_irrefl _)
  by_cases hlt : i < l.length
  · rw [List.getElem?_append_left hlt] at hi
    obtain ⟨xs, a, b, hy⟩ := h2 i y hi
    refine ⟨xs, a, fun j u hu => ?_, key _ _ hy⟩
    have := b j u hu
    rw [List.getElem?_append_left (List.getElem?_eq_some_iff.1 this).1]
    exact this
  · have hi' := (List.getElem?_eq_some_iff.1 hi).1
    obtain rfl : i = l.length := by simp at hi'; omega
    rw [List.getElem?_append_right (Nat.le_refl _)] at hi
    simp at hi
    subst hi
    refine ⟨news, hn, fun j u hu => ?_, key _ _ hx⟩
    rw [List.getElem?_append_right (by omega), show l.length * size + j - cs'.length = j by omega]
    exact hu

/-- The row's cells, in memory. -/
theorem ItRow.cells (h : ItRow D e size B X w pv l) : (l = [] ∧ ∃ a c, pv = .slice a 0 c) ∨
    ∃ g cap, (B ≤ g ∧ ¬ X g ∧ g < w.heap.size) ∧ pv = .slice (some ⟨g, 0, none⟩) l.length cap ∧ l.length ≤ cap ∧ ∀ (i : Nat) (x : α), l[i]? = some x → ∃ xs : List Value, xs.length = size ∧ (∀ (j : Nat) (u : Value), xs[j]? = some u → w.cell? ⟨g, 0 + i * size + j, none⟩ = some u) ∧
      D.sh (fun k => B ≤ k ∧ ¬ X k ∧ k < w.heap.size) w x xs := by
  obtain ⟨cs, h1, h0, h2⟩ := h
  rcases h1.2 with ⟨rfl, hz⟩ | ⟨g, cap, cur, rfl, hb, hgg, hle, _⟩
  · exact .inl ⟨List.eq_nil_of_length_eq_zero hz, none, 0, rfl⟩
  · refine .inr ⟨g, cap, ⟨hb, h0 g rfl, (World.ownsRow.lt h1 g rfl).2⟩, rfl, hle, fun i x hi => ?_⟩
    obtain ⟨xs, a, b, hx⟩ := h2 i x hi
    refine ⟨xs, a, fun j u hu => ?_, D.mono hx (fun k hk h => ⟨h.1, h.2.1, hk⟩)⟩
    have := World.ownsRow.cells (g := g) h1 rfl (i * size + j) u (b j u hu)
    rw [plain_add] at this
    rw [Nat.zero_add]
    exact this

theorem first_one {P : Program} {w : World} {g : Nat} {news : List Value} {t : TypeId} {fr : Nat × Nat} (c size : Nat) (hn : news.length = size) (h : w.heap[g]? = some (.cells news.toArray t fr)) :
    (Builtin.firstCells size 1 (.slice (some ⟨g, 0, none⟩) 1 c)).run P w = .ok news.toArray w := by
  have := run_firstCells_some (P := P) w size 1 ⟨g, 0, none⟩ 1 c news (by rw [hn, Nat.one_mul]) (by
    intro j v hj
    rw [plain_add, cell_of_row w g j _ t fr h]
    simpa using hj)
  simpa using this

/-- The append of one item as an operation of a region. -/
theorem opWp_push {P : Program} {o : Oper} {a : Act} {K : Act → World → Prop} {Q : Exit → Act → World → Prop} (s x : Operand) (t u : TypeId)
    (ho : o.op = .call { callee := .builtin .append, args := #[s, x], argTypes := #[t, u] })
    {z : Value} {bytes : Nat} (ht : P.underlying t = some (.slice e)) (hu : P.underlying u = some (.slice e))
    (hi : (P.info? e).map (fun i => (i.zero, i.size, i.bytes)) = some (some z, size, bytes)) (hzs : z.cells.size = size) (hsz : 0 < size)
    (hs : a.eval s = pv) (h : ItRow D e size B X w pv l) (gg : Nat) (hx : a.eval x = .slice (some ⟨gg, 0, none⟩) 1 1) {news : List Value} {tt : TypeId} {ff : Nat × Nat} (hgg : w.heap[gg]? = some (.cells news.toArray tt ff)) (hn : news.length = size) (h1 : ∀ u ∈ news, u.oneCell' = true)
    (hl : l.length ≤ 1000) (hb : bytes ≤ 1000) (hB : B ≤ w.heap.size) (hX : ∀ k, X k → k < w.heap.size) (y : α) (hy : D.sh (fun k => B ≤ k ∧ ¬ X k ∧ pv.ownBlock ≠ some k) w y news)
    (hK : ∀ v' w', ItRow D e size B X w' v' (l ++ [y]) → Fr (fun k => pv.ownBlock = some k) w w' → (v'.ownBlock = pv.ownBlock ∨ v'.ownBlock = some w.heap.size) → K (a.put o.dst v') w') : o.wp P a w K Q := by
  obtain ⟨i0, hi0, hz0, hz1, hz2⟩ := info_parts hi
  have hr := h
  obtain ⟨cs, hown, _⟩ := hr
  refine opWp_append (P := P) s x t u ho B e i0 z size bytes ht _ hu (.inr ⟨_, rfl⟩) hi0 hz0 hz1 hz2 hzs hsz pv l.length cs hs hown (.slice (some ⟨gg, 0, none⟩) 1 1) 1 news hx (lenOf_slice _ _ _) (by omega) (first_one 1 size hn hgg) (first_one 1 size hn hgg) h1 (by unfold maxLen; omega) ?_ hB ?_
  · have : (l.length + 1) * bytes ≤ 1001 * 1000 := Nat.mul_le_mul (by omega) hb
    omega
  · intro v' w' ho' hg hv
    exact hK v' w' (h.push hy hn hown ho' hg hv hX) ((Fr.of_grown hg).mono (fun _ _ e => e.symm)) hv

end

/-- A cell of a block is stored. -/
theorem setCell_row {w : World} {b : Nat} {cs : Array Value} {t : TypeId} {f : Nat × Nat} (i : Nat) (y : Value) (h : w.heap[b]? = some (.cells cs t f)) :
    (w.setCell ⟨b, i, none⟩ y).heap[b]? = some (.cells (cs.setIfInBounds i y) t f) := by
  unfold World.setCell
  simp only [Array.getElem?_modify, if_true, h, Option.map_some]
  simp

def tyShown : Shown KT where
  sh R w t xs := ∃ x0 x1 x2 x3, xs = [x0, x1, x2, x3] ∧ Shows R w t (.agg #[x0, x1, x2, x3])
  fr := by
    rintro R S w w' x xs ⟨x0, x1, x2, x3, rfl, h⟩ f hS
    exact ⟨x0, x1, x2, x3, rfl, Shows.fr f hS _ _ h⟩
  mono := by
    rintro R S w x xs ⟨x0, x1, x2, x3, rfl, h⟩ hS
    exact ⟨x0, x1, x2, x3, rfl, Shows.mono hS _ _ h⟩

def txShown : Shown Txt where
  sh _ _ t xs := xs = [sv t]
  fr := fun h _ _ => h
  mono := fun h _ => h

/-- A row of texts. -/
theorem ItRow.texts {B : Nat} {X : Nat → Prop} {w : World} {pv : Value} {l : List Txt} (h : ItRow txShown 9 1 B X w pv l) (h1 : l.length ≤ 1000) (h2 : ∀ s ∈ l, s.length ≤ 1000) : Texts (fun k => B ≤ k ∧ ¬ X k ∧ k < w.heap.size) w l pv := by
  refine ⟨h1, h2, ?_⟩
  rcases h.cells with ⟨h3, a, c, h4⟩ | ⟨g, cap, hg, rfl, hle, hc⟩
  · exact .inl ⟨h3, a, c, h4⟩
  · refine .inr ⟨g, 0, cap, hg, rfl, hle, fun j s hj => ?_⟩
    obtain ⟨xs, _, hc, rfl⟩ := hc j s hj
    have := hc 0 _ rfl
    simpa using this

/-- A row of types as a type's parts. -/
theorem ItRow.parts {B : Nat} {X : Nat → Prop} {w : World} {pv vn : Value} {ts : List KT} {k n : Nat} {m : Int} {ns : List Txt} (h : ItRow tyShown 38 4 B X w pv ts) (hn : ts.length = n) (hk : k ≤ 255) (hn1 : n ≤ 1000) (ht : Texts (fun k => B ≤ k) w ns vn) (of : Nat → KT) (hof : ∀ i x, ts[i]? = some x → of i = x) :
    Shows (fun k => B ≤ k) w (.mk k m ns n of) (.agg #[.int .u8 k, .int .i64 m, vn, pv]) := by
  subst hn
  refine ⟨vn, pv, rfl, hk, hn1, ht, ?_⟩
  rcases h.cells with ⟨rfl, a, c, h4⟩ | ⟨g, cap, hg, rfl, hle, hc⟩
  · exact .inl ⟨rfl, a, c, h4⟩
  · refine .inr ⟨g, 0, cap, hg.1, rfl, hle, fun i hi => ?_⟩
    obtain ⟨xs, _, hc, x0, x1, x2, x3, rfl, hx⟩ := hc i ts[i] (List.getElem?_eq_getElem hi)
    refine ⟨x0, x1, x2, x3, hc 0 _ rfl, hc 1 _ rfl, hc 2 _ rfl, hc 3 _ rfl, ?_⟩
    rw [hof i _ (List.getElem?_eq_getElem hi)]
    exact Shows.mono (fun k _ h => h.1) _ _ hx

end Go.Proofs.Ytdaabgnfgdojhaa
