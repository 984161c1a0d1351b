/-
  package prog: instructions in memory.
-/
import Derived.Test.YtjifeopiaghmbaaGen
import Derived.Test.YtjifeopiaghmbaaProgMath
namespace Go.Proofs.Ytjifeopiaghmbaa
open Go.RowKit
set_option linter.unusedVariables false

theorem lt_of_block {w : World} {b : Nat} {o : Obj} (h : w.heap[b]? = some o) : b < w.heap.size := (Array.getElem?_eq_some_iff.1 h).1

theorem box_kept {S : Nat → Prop} {w0 w1 : World} {b : Nat} {o : Obj} (h : w0.heap[b]? = some o) (f : Fr S w0 w1) (hb : ¬ S b) : w1.heap[b]? = some o := by
  rw [f.block b (lt_of_block h) hb]; exact h

theorem cells_row {w : World} {b : Nat} {cs : Array Value} {t : TypeId} (h : w.heap[b]? = some (.cells cs t (0, 0))) (i : Nat) (u : Value) (hu : cs[i]? = some u) : w.cell? ⟨b, i, none⟩ = some u := by
  rw [cell_of_row w b i cs t (0, 0) h]; exact hu

theorem cell_fr0 {w w' : World} (hf : Fr (fun _ => False) w w') {g o : Nat} {u : Value} (h : w.cell? ⟨g, o, none⟩ = some u) : w'.cell? ⟨g, o, none⟩ = some u := by
  rw [← h]; exact hf.cell (World.block_lt_of_cell? w _ h) (fun h => h)

theorem plain_add (g o j : Nat) : (⟨g, o, none⟩ : Addr).add j = ⟨g, o + j, none⟩ := by unfold Addr.add; split <;> simp_all

theorem Fr.drewN {S : Nat → Prop} {a b : World} (h : Fr S a b) (n : Nat) : Fr S a (b.drewN n) := ⟨h.os, h.tape, h.output, h.size, h.block⟩

/-- An instruction's cells. -/
def insC (x : Ins) : List Value := [.int .u8 x.op, .int .u8 x.dst, .int .u8 x.a, .int .u8 x.b, .int .i16 x.n]

/-- The block g shows these instructions. -/
def PAt (w : World) (g : Nat) (l : List Ins) : Prop :=
  ∀ i x, l[i]? = some x → x.Fits ∧ w.cell? ⟨g, i * 5, none⟩ = some (.int .u8 x.op) ∧ w.cell? ⟨g, i * 5 + 1, none⟩ = some (.int .u8 x.dst) ∧ w.cell? ⟨g, i * 5 + 2, none⟩ = some (.int .u8 x.a) ∧
    w.cell? ⟨g, i * 5 + 3, none⟩ = some (.int .u8 x.b) ∧ w.cell? ⟨g, i * 5 + 4, none⟩ = some (.int .i16 x.n)

/-- The slice v shows these instructions. -/
def PSees (w : World) (v : Value) (l : List Ins) : Prop :=
  (l = [] ∧ ∃ a c, v = .slice a 0 c) ∨ ∃ g cap, v = .slice (some ⟨g, 0, none⟩) l.length cap ∧ l.length ≤ cap ∧ PAt w g l

theorem PAt.lt {w : World} {g : Nat} {l : List Ins} (h : PAt w g l) (hl : l ≠ []) : g < w.heap.size := by
  cases l with
  | nil => exact absurd rfl hl
  | cons x l => exact World.block_lt_of_cell? w _ (h 0 x rfl).2.1

theorem PAt.fr {S : Nat → Prop} {w w' : World} {g : Nat} {l : List Ins} (h : PAt w g l) (hf : Fr S w w') (hS : ¬ S g) : PAt w' g l := by
  intro i x hx
  obtain ⟨h0, h1, h2, h3, h4, h5⟩ := h i x hx
  have hg : g < w.heap.size := World.block_lt_of_cell? w _ h1
  exact ⟨h0, by rw [hf.cell hg hS]; exact h1, by rw [hf.cell hg hS]; exact h2, by rw [hf.cell hg hS]; exact h3, by rw [hf.cell hg hS]; exact h4, by rw [hf.cell hg hS]; exact h5⟩

theorem PAt.take {w : World} {g : Nat} {l : List Ins} (h : PAt w g l) (n : Nat) : PAt w g (l.take n) := by
  intro i x hx
  refine h i x ?_
  rw [List.getElem?_take] at hx
  split at hx
  · exact hx
  · cases hx

theorem PSees.fr {S : Nat → Prop} {w w' : World} {v : Value} {l : List Ins} (h : PSees w v l) (hf : Fr S w w') (hS : ∀ k, v.ownBlock = some k → ¬ S k) : PSees w' v l := by
  rcases h with h | ⟨g, cap, rfl, hle, hc⟩
  · exact .inl h
  · exact .inr ⟨g, cap, rfl, hle, hc.fr hf (hS g rfl)⟩

theorem PSees.shape {w : World} {v : Value} {l : List Ins} (h : PSees w v l) : ∃ a c, v = .slice a l.length c ∧ (l = [] ∨ ∃ g, a = some ⟨g, 0, none⟩ ∧ l.length ≤ c ∧ PAt w g l) := by
  rcases h with ⟨rfl, a, c, rfl⟩ | ⟨g, cap, rfl, hle, hc⟩
  · exact ⟨a, c, rfl, .inl rfl⟩
  · exact ⟨_, cap, rfl, .inr ⟨g, rfl, hle, hc⟩⟩

theorem flat_at (l : List Ins) : ∀ (i j : Nat), j < 5 → (l.flatMap insC)[i * 5 + j]? = (l[i]?).bind (fun x => (insC x)[j]?) := by
  induction l with
  | nil => simp
  | cons x l ih =>
    intro i j hj
    rw [List.flatMap_cons]
    cases i with
    | zero => rw [List.getElem?_append_left (by simp [insC]; omega)]; simp
    | succ i =>
      rw [List.getElem?_append_right (by simp [insC]; omega), show (i + 1) * 5 + j - (insC x).length = i * 5 + j by simp [insC]; omega, ih i j hj]
      simp

theorem flat_length (l : List Ins) : (l.flatMap insC).length = l.length * 5 := by
  induction l with
  | nil => rfl
  | cons x l ih => rw [List.flatMap_cons, List.length_append, ih]; simp [insC]; omega

theorem flat_one (l : List Ins) : ∀ u ∈ l.flatMap insC, u.oneCell' = true := by
  intro u hu
  obtain ⟨x, _, hx⟩ := List.mem_flatMap.1 hu
  simp [insC] at hx
  rcases hx with rfl | rfl | rfl | rfl | rfl <;> rfl

theorem PAt.flat {w : World} {g : Nat} {l : List Ins} (h : PAt w g l) (j : Nat) (u : Value) (hj : (l.flatMap insC)[j]? = some u) : w.cell? ⟨g, j, none⟩ = some u := by
  have e : j = j / 5 * 5 + j % 5 := by omega
  rw [e, flat_at l _ _ (by omega)] at hj
  obtain ⟨x, hx, hu⟩ := Option.bind_eq_some_iff.1 hj
  obtain ⟨_, h1, h2, h3, h4, h5⟩ := h _ x hx
  rw [e]
  have : j % 5 = 0 ∨ j % 5 = 1 ∨ j % 5 = 2 ∨ j % 5 = 3 ∨ j % 5 = 4 := by omega
  rcases this with c | c | c | c | c <;> rw [c] at hu ⊢ <;> simp [insC] at hu <;> subst hu <;> assumption

theorem PSees.first {P : Program} {w : World} {v : Value} {l : List Ins} (h : PSees w v l) : (Builtin.firstCells 5 l.length v).run P w = .ok (l.flatMap insC).toArray w := by
  rcases h with ⟨rfl, a, c, rfl⟩ | ⟨g, cap, rfl, hle, hc⟩
  · cases a with
    | none => simp [Builtin.firstCells]
    | some a => exact run_firstCells_some (P := P) w 5 0 a 0 c [] rfl (by simp)
  · refine run_firstCells_some (P := P) w 5 l.length ⟨g, 0, none⟩ l.length cap (l.flatMap insC) (flat_length l) ?_
    intro j u hj
    rw [plain_add, Nat.zero_add]
    exact hc.flat j u hj

/-- The slice v owns a row of instructions alone. -/
def POwn (w : World) (v : Value) (l : List Ins) : Prop := w.ownsRow 0 34 5 v l.length (l.flatMap insC)

theorem Try.infoIns : (Try.prog.info? 34).map (fun i => (i.zero, i.size, i.bytes)) = some (some (.agg #[.int .u8 0, .int .u8 0, .int .u8 0, .int .u8 0, .int .i16 0]), 5, 6) := by kernel_rfl

theorem POwn.nil (w : World) : POwn w (.slice none 0 0) [] := World.ownsRow_nil w 0 34 5

theorem POwn.fr {S : Nat → Prop} {w w' : World} {v : Value} {l : List Ins} (h : POwn w v l) (hf : Fr S w w') (hS : ∀ k, v.ownBlock = some k → ¬ S k) : POwn w' v l := by
  refine ⟨h.1, ?_⟩
  rcases h.2 with hn | ⟨g, cap, cur, rfl, hb, hgg, rest⟩
  · exact .inl hn
  · refine .inr ⟨g, cap, cur, rfl, hb, ?_, rest⟩
    rw [hf.block g (Array.getElem?_eq_some_iff.1 hgg).1 (hS g rfl)]
    exact hgg

theorem POwn.lt {w : World} {v : Value} {l : List Ins} (h : POwn w v l) : ∀ k, v.ownBlock = some k → k < w.heap.size := fun k hk => (World.ownsRow.lt h k hk).2

theorem POwn.sees {w : World} {v : Value} {l : List Ins} (h : POwn w v l) (hf : ∀ x ∈ l, x.Fits) : PSees w v l := by
  obtain ⟨_, h2⟩ := h
  rcases h2 with ⟨rfl, h0⟩ | ⟨g, cap, cur, rfl, _, hg, hn, _, hs, ht⟩
  · exact .inl ⟨List.eq_nil_of_length_eq_zero h0, none, 0, rfl⟩
  · refine .inr ⟨g, cap, rfl, hn, fun i x hx => ?_⟩
    have hi := (List.getElem?_eq_some_iff.1 hx).1
    have key : ∀ j u, j < 5 → (insC x)[j]? = some u → w.cell? ⟨g, i * 5 + j, none⟩ = some u := by
      intro j u hj hu
      rw [cell_of_row w g (i * 5 + j) cur _ (0, 0) hg]
      have e : (cur.toList.take (l.length * 5))[i * 5 + j]? = (l.flatMap insC)[i * 5 + j]? := by rw [ht]
      rw [List.getElem?_take, if_pos (by omega), flat_at l i j hj, hx] at e
      rw [← Array.getElem?_toList, e]
      exact hu
    exact ⟨hf x (List.mem_of_getElem? hx), key 0 _ (by omega) rfl, key 1 _ (by omega) rfl, key 2 _ (by omega) rfl, key 3 _ (by omega) rfl, key 4 _ (by omega) rfl⟩

/-- An append of instructions onto a row that is owned alone. -/
theorem wpList_append_ins {w : World} {ops : Array Oper} {rest : List Oper} {o : Oper} {a : Act} {Q : Exit → Act → World → Prop} (hgd : o.guard = none) (s x : Operand)
    (ho : o.op = .call { callee := .builtin .append, args := #[s, x], argTypes := #[25, 25] })
    (v : Value) (acc : List Ins) (hs : a.eval s = v) (hown : POwn w v acc) (u : Value) (news : List Ins) (hx : a.eval x = u) (hu : PSees w u news) (hl : acc.length + news.length ≤ 4000)
    (h : ∀ v' w', POwn w' v' (acc ++ news) → w.grownBy w' v.ownBlock → (v'.ownBlock = v.ownBlock ∨ v'.ownBlock = some w.heap.size) → wpList Try.prog ops Q rest (a.put o.dst v') w') : wpList Try.prog ops Q (o :: rest) a w := by
  obtain ⟨i0, hi, hz0, hz1, hz2⟩ := info_parts Try.infoIns
  obtain ⟨ua, uc, rfl, _⟩ := hu.shape
  refine wpList_append_sep (P := Try.prog) hgd s x 25 25 ho 0 34 i0 (.agg #[.int .u8 0, .int .u8 0, .int .u8 0, .int .u8 0, .int .i16 0]) 5 6 Try.underlying25 _ Try.underlying25 (.inr ⟨_, rfl⟩) hi hz0 hz1 hz2 rfl (by decide)
    v acc.length _ hs hown _ news.length (news.flatMap insC) hx (fun w => lenOf_slice _ _ _ _) (flat_length _) hu.first (hu.fr (w' := w.drew) (S := fun _ => False) ((Fr.refl _ w).drew) (fun _ _ h => h)).first (flat_one news) (by unfold maxLen; omega) (by omega) (Nat.zero_le _) ?_
  intro v' w' h1 h2 h3
  refine h v' w' ?_ h2 h3
  unfold POwn
  rw [List.flatMap_append, List.length_append]
  exact h1

/-- Made by a call, from a world on. -/
def PTold (w w' : World) (v : Value) (l : List Ins) : Prop := POwn w' v l ∧ Fr (fun _ => False) w w' ∧ ∀ k, v.ownBlock = some k → w.heap.size ≤ k

theorem PTold.append {w wr w' w3 : World} {v v' : Value} {acc news : List Ins} (h : PTold w wr v acc) (f : Fr (fun _ => False) wr w') (hown' : POwn w3 v' (acc ++ news)) (hg : w'.grownBy w3 v.ownBlock)
    {n : Nat} (hc : v'.ownBlock = v.ownBlock ∨ v'.ownBlock = some n) (hn : wr.heap.size ≤ n) : PTold w w3 v' (acc ++ news) := by
  have F := h.2.1.trans f (fun _ _ h => h)
  refine ⟨hown', F.trans (Fr.of_grown hg) (fun i hi e => by have := h.2.2 i e.symm; omega), ?_⟩
  intro k hk
  rcases hc with e | e
  · exact h.2.2 k (e ▸ hk)
  · rw [e] at hk; cases hk; exact Nat.le_trans h.2.1.size hn

theorem new_two (w : World) (o1 o2 : Obj) : ((w.alloc o1).alloc o2).heap[w.heap.size + 1]? = some o2 := by
  have := heap_alloc_new (w.alloc o1) o2
  rwa [World.size_alloc] at this

theorem new_three (w : World) (o1 o2 o3 : Obj) : (((w.alloc o1).alloc o2).alloc o3).heap[w.heap.size + 1 + 1]? = some o3 := by
  have := new_two (w.alloc o1) o2 o3
  rwa [World.size_alloc] at this

theorem PTold.fr {w wr w' : World} {v : Value} {l : List Ins} (h : PTold w wr v l) (f : Fr (fun _ => False) wr w') : PTold w w' v l :=
  ⟨h.1.fr f (fun _ _ h => h), h.2.1.trans f (fun _ _ h => h), h.2.2⟩

theorem setCell_row {w : World} {b : Nat} {cs : Array Value} {t : TypeId} {f : Nat × Nat} (i : Nat) (y : Value) (h : w.heap[b]? = some (.cells cs t f)) :
    (w.setCell ⟨b, i, none⟩ y).heap[b]? = some (.cells (cs.setIfInBounds i y) t f) := by
  unfold World.setCell
  simp only [Array.getElem?_modify, if_true, h, Option.map_some]
  simp

/-- A store of an instruction, cell by cell. -/
def setIns (w : World) (g i : Nat) (x : Ins) : World :=
  ((((w.setCell ⟨g, i * 5, none⟩ (.int .u8 x.op)).setCell ⟨g, i * 5 + 1, none⟩ (.int .u8 x.dst)).setCell ⟨g, i * 5 + 2, none⟩ (.int .u8 x.a)).setCell ⟨g, i * 5 + 3, none⟩ (.int .u8 x.b)).setCell ⟨g, i * 5 + 4, none⟩ (.int .i16 x.n)

theorem setIns_row {w : World} {g : Nat} {cs : Array Value} {t : TypeId} {f : Nat × Nat} (i : Nat) (x : Ins) (h : w.heap[g]? = some (.cells cs t f)) :
    (setIns w g i x).heap[g]? = some (.cells (((((cs.setIfInBounds (i * 5) (.int .u8 x.op)).setIfInBounds (i * 5 + 1) (.int .u8 x.dst)).setIfInBounds (i * 5 + 2) (.int .u8 x.a)).setIfInBounds (i * 5 + 3) (.int .u8 x.b)).setIfInBounds (i * 5 + 4) (.int .i16 x.n)) t f) :=
  setCell_row _ _ (setCell_row _ _ (setCell_row _ _ (setCell_row _ _ (setCell_row _ _ h))))

theorem setIns_fr {w0 w : World} {g i : Nat} {x : Ins} {S : Nat → Prop} (h : Fr S w0 w) (hg : g < w0.heap.size → S g) : Fr S w0 (setIns w g i x) :=
  ((((h.setCell (p := ⟨g, i * 5, none⟩) hg _).setCell (p := ⟨g, i * 5 + 1, none⟩) hg _).setCell (p := ⟨g, i * 5 + 2, none⟩) hg _).setCell (p := ⟨g, i * 5 + 3, none⟩) hg _).setCell (p := ⟨g, i * 5 + 4, none⟩) hg _

theorem POwn.set {w : World} {g n cap : Nat} {l : List Ins} (h : POwn w (.slice (some ⟨g, 0, none⟩) n cap) l) (i : Nat) (hi : i < l.length) (x : Ins) : POwn (setIns w g i x) (.slice (some ⟨g, 0, none⟩) n cap) (l.set i x) := by
  obtain ⟨h1, h2⟩ := h
  rcases h2 with ⟨e, _⟩ | ⟨g', cap', cur, e, hb, hg, hn, hm, hs, ht⟩
  · cases e
  · simp at e
    obtain ⟨rfl, e1, rfl⟩ := e
    refine ⟨by rw [flat_length], .inr ⟨g, cap, _, by rw [List.length_set, e1], hb, setIns_row i x hg, by rw [List.length_set]; exact hn, hm, by simp [hs], ?_⟩⟩
    refine List.ext_getElem? fun k => ?_
    have hc : (cur.toList.take (l.length * 5))[k]? = (l.flatMap insC)[k]? := by rw [ht]
    have ek : k = k / 5 * 5 + k % 5 := by omega
    by_cases hk : k < l.length * 5
    · rw [List.getElem?_take, if_pos (by rw [List.length_set]; exact hk)]
      rw [List.getElem?_take, if_pos hk] at hc
      rw [ek, flat_at _ _ _ (by omega), ← ek, List.getElem?_set]
      rw [ek, flat_at _ _ _ (by omega), ← ek] at hc
      have hcur : k < cur.size := by rw [hs]; omega
      simp only [Array.getElem?_toList, Array.getElem?_setIfInBounds] at hc ⊢
      have five : k % 5 = 0 ∨ k % 5 = 1 ∨ k % 5 = 2 ∨ k % 5 = 3 ∨ k % 5 = 4 := by omega
      by_cases hq : i = k / 5
      · subst hq
        rw [if_pos rfl, if_pos hi]
        rcases five with c | c | c | c | c
        · rw [if_neg (by omega), if_neg (by omega), if_neg (by omega), if_neg (by omega), if_pos (by omega), if_pos (by omega), c]; rfl
        · rw [if_neg (by omega), if_neg (by omega), if_neg (by omega), if_pos (by omega), if_pos (by simp only [Array.size_setIfInBounds]; omega), c]; rfl
        · rw [if_neg (by omega), if_neg (by omega), if_pos (by omega), if_pos (by simp only [Array.size_setIfInBounds]; omega), c]; rfl
        · rw [if_neg (by omega), if_pos (by omega), if_pos (by simp only [Array.size_setIfInBounds]; omega), c]; rfl
        · rw [if_pos (by omega), if_pos (by simp only [Array.size_setIfInBounds]; omega), c]; rfl
      · rw [if_neg hq, if_neg (by omega), if_neg (by omega), if_neg (by omega), if_neg (by omega), if_neg (by omega)]
        exact hc
    · rw [List.getElem?_eq_none (by rw [List.length_take, List.length_set]; omega), List.getElem?_eq_none (by rw [flat_length, List.length_set]; omega)]

theorem PTold.set {w wr : World} {g n cap : Nat} {l : List Ins} (h : PTold w wr (.slice (some ⟨g, 0, none⟩) n cap) l) (i : Nat) (hi : i < l.length) (x : Ins) : PTold w (setIns wr g i x) (.slice (some ⟨g, 0, none⟩) n cap) (l.set i x) :=
  ⟨h.1.set i hi x, setIns_fr h.2.1 (fun hg => by have := h.2.2 g rfl; omega), h.2.2⟩

end Go.Proofs.Ytjifeopiaghmbaa
