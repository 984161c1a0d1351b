/-
  PostPlays: the law's own row of flights in memory; acts in a box.
-/
import Derived.Test.YtojfabhbkdddpaaPoOrderLaw
import Derived.Test.YtojfabhbkdddpaaPoSpoil
namespace Go.Proofs.Ytojfabhbkdddpaa
open Go.RowKit
set_option maxRecDepth 100000
set_option linter.unusedSimpArgs false
set_option linter.unusedVariables false

def rcells (x : PF) : List Value := [.int .i64 x.1, .string ⟨x.2.1.toArray⟩, .bool x.2.2]
theorem rlen (x : PF) : (rcells x).length = 3 := rfl
theorem r_length (R : List PF) : (R.flatMap rcells).length = R.length * 3 := flat_len rcells 3 rlen R
theorem r_one (R : List PF) : ∀ u ∈ R.flatMap rcells, u.oneCell' = true := by
  intro u hu
  obtain ⟨x, _, hm⟩ := List.mem_flatMap.1 hu
  unfold rcells at hm
  simp only [List.mem_cons, List.not_mem_nil, or_false] at hm
  rcases hm with rfl | rfl | rfl <;> rfl

/-- The slice v owns the law's row of flights alone. -/
def RowOwn (w : World) (B : Nat) (v : Value) (R : List PF) : Prop := w.ownsRow B 34 3 v R.length (R.flatMap rcells)

theorem Try.infoLf : (Try.prog.info? 34).map (fun i => (i.zero, i.size, i.bytes)) = some (some (.agg #[.int .i64 0, .string ⟨#[]⟩, .bool false]), 3, 32) := by kernel_rfl

abbrev oLf (x : PF) : Obj := Obj.cells #[.int .i64 x.1, .string ⟨x.2.1.toArray⟩, .bool x.2.2] 34 (0, 0)

theorem first_lf {P : Program} {w : World} {g : Nat} {x : PF} (h : w.heap[g]? = some (oLf x)) (c : Nat) : (Builtin.firstCells 3 1 (.slice (some ⟨g, 0, none⟩) 1 c)).run P w = .ok (rcells x).toArray w := by
  refine run_firstCells_some (P := P) w 3 1 ⟨g, 0, none⟩ 1 c (rcells x) rfl (by
    intro j u hj
    have hplain : (⟨g, 0, none⟩ : Addr).add j = ⟨g, j, none⟩ := by unfold Addr.add; split <;> simp_all
    rw [hplain, cell_of_row w g j _ _ _ h]
    unfold rcells at hj
    simpa using hj)

/-- Append of one flight onto the law's row. -/
theorem wpList_append_row {w : World} {ops : Array Oper} {rest : List Oper} {o : Oper} {a : Act} {Q : Exit → Act → World → Prop} (hgd : o.guard = none) (s x : Operand)
    (ho : o.op = .call { callee := .builtin .append, args := #[s, x], argTypes := #[28, 28] })
    (B : Nat) (v : Value) (acc : List PF) (hs : a.eval s = v) (hown : RowOwn w B v acc) (g c : Nat) (t : PF) (hx : a.eval x = .slice (some ⟨g, 0, none⟩) 1 c)
    (hg : w.heap[g]? = some (oLf t)) (hl : acc.length ≤ 100000) (hB : B ≤ w.heap.size)
    (h : ∀ v' w', RowOwn w' B v' (acc ++ [t]) → w.grownBy w' v.ownBlock → (v'.ownBlock = v.ownBlock ∨ v'.ownBlock = some w.heap.size) → wpList Try.prog ops Q rest (a.put o.dst v') w') : wpList Try.prog ops Q (o :: rest) a w := by
  obtain ⟨i0, hi, hz0, hz1, hz2⟩ := info_parts Try.infoLf
  refine wpList_append_sep (P := Try.prog) hgd s x 28 28 ho B 34 i0 _ 3 32 Try.underlying28 _ Try.underlying28 (.inr ⟨_, rfl⟩) hi hz0 hz1 hz2 rfl (by decide)
    v acc.length _ hs hown _ 1 (rcells t) hx (fun w => lenOf_slice _ _ _ _) rfl (first_lf hg c) (first_lf (w := w.drew) hg c) (fun u hu => r_one [t] u (by simpa using hu)) (by unfold maxLen; omega) (by omega) hB ?_
  intro v' w' k1 k2 k3
  refine h v' w' ?_ k2 k3
  unfold RowOwn
  rw [List.length_append, List.flatMap_append, List.flatMap_cons, List.flatMap_nil, List.append_nil]
  exact k1

/-- Append of some flights onto the law's row. -/
theorem opWp_rows {w : World} {o : Oper} {a : Act} {K : Act → World → Prop} {Q : Exit → Act → World → Prop} (s x : Operand)
    (ho : o.op = .call { callee := .builtin .append, args := #[s, x], argTypes := #[28, 28] })
    (B : Nat) (v : Value) (acc : List PF) (hs : a.eval s = v) (hown : RowOwn w B v acc) (news : List PF) (xv : Value) (hx : a.eval x = xv) (hlen : ∀ w, (Builtin.lenOf xv).run Try.prog w = .ok news.length w)
    (hc : (Builtin.firstCells 3 news.length xv).run Try.prog w = .ok (news.flatMap rcells).toArray w) (hc' : (Builtin.firstCells 3 news.length xv).run Try.prog w.drew = .ok (news.flatMap rcells).toArray w.drew)
    (hl : acc.length + news.length ≤ 100000) (hB : B ≤ w.heap.size)
    (h : ∀ v' w', RowOwn w' B v' (acc ++ news) → w.grownBy w' v.ownBlock → (v'.ownBlock = v.ownBlock ∨ v'.ownBlock = some w.heap.size) → K (a.put o.dst v') w') : o.wp Try.prog a w K Q := by
  obtain ⟨i0, hi, hz0, hz1, hz2⟩ := info_parts Try.infoLf
  obtain ⟨v', w', hr, k2, k3, k4⟩ := run_append_sep (P := Try.prog) w B 28 28 o.type 34 i0 _ 3 32 Try.underlying28 _ Try.underlying28 (.inr ⟨_, rfl⟩) hi hz0 hz1 hz2 rfl (by decide) v acc.length _
    hown xv news.length (news.flatMap rcells) hlen (r_length news) hc hc' (r_one news) (by unfold maxLen; omega) (by omega) hB
  have k5 : RowOwn w' B v' (acc ++ news) := by
    unfold RowOwn
    rw [List.length_append, List.flatMap_append]
    exact k2
  unfold Oper.wp execOp
  simp only [ho, resolve, invoke, builtin, Sem.run_bind, Sem.run_pure, Result.andThen_ok, List.map_toArray, List.map_cons, List.map_nil, hs, hx, hr]
  exact h v' w' k5 k3 k4

theorem row_cells {w : World} {B g cap n : Nat} {R : List PF} (h : RowOwn w B (.slice (some ⟨g, 0, none⟩) n cap) R) {i : Nat} {x : PF} (hi : R[i]? = some x) :
    w.cell? ⟨g, i * 3, none⟩ = some (.int .i64 x.1) ∧ w.cell? ⟨g, i * 3 + 1, none⟩ = some (.string ⟨x.2.1.toArray⟩) ∧ w.cell? ⟨g, i * 3 + 2, none⟩ = some (.bool x.2.2) := by
  have hr : w.ownsRow B 34 3 (.slice (some ⟨g, 0, none⟩) n cap) R.length (R.flatMap rcells) := h
  have hplain : ∀ j, (⟨g, 0, none⟩ : Addr).add (3 * i + j) = ⟨g, i * 3 + j, none⟩ := by
    intro j
    unfold Addr.add
    rw [Nat.mul_comm]
    split <;> simp_all
  have key : ∀ j u, j < 3 → (rcells x)[j]? = some u → w.cell? ⟨g, i * 3 + j, none⟩ = some u := by
    intro j u hj hu
    have h1 := World.ownsRow.cells (h := hr) (g := g) rfl (3 * i + j) u (by rw [flat_at rcells 3 rlen R i j _ hi hj]; exact hu)
    rw [hplain] at h1
    exact h1
  exact ⟨key 0 _ (by omega) rfl, key 1 _ (by omega) rfl, key 2 _ (by omega) rfl⟩

theorem row_shape {w : World} {B : Nat} {v : Value} {R : List PF} (h : RowOwn w B v R) (h0 : 0 < R.length) : ∃ g cap, v = .slice (some ⟨g, 0, none⟩) R.length cap ∧ R.length ≤ cap := by
  rcases h.2 with ⟨_, hz⟩ | ⟨g, cap, cur, rfl, hbb, hgg, hle, _⟩
  · omega
  · exact ⟨g, cap, rfl, hle⟩

theorem row_set (R : List PF) (i : Nat) (hi : i < R.length) (t : Int) (l l' : List UInt8) (s : Bool) (he : R[i]? = some (t, l, s)) : (R.set i (t, l', true)).flatMap rcells = ((R.flatMap rcells).set (i * 3 + 1) (.string ⟨l'.toArray⟩)).set (i * 3 + 2) (.bool true) := by
  induction R generalizing i with
  | nil => simp at hi
  | cons a L ih =>
    cases i with
    | zero =>
      simp at he
      subst he
      rfl
    | succ i =>
      have := ih i (by simpa using hi) (by simpa using he)
      simp only [List.set_cons_succ, List.flatMap_cons]
      rw [this, show (i + 1) * 3 + 1 = (rcells a).length + (i * 3 + 1) by rw [rlen]; omega, List.set_append_right _ _ (by omega), show (i + 1) * 3 + 2 = (rcells a).length + (i * 3 + 2) by rw [rlen]; omega, List.set_append_right _ _ (by omega)]
      congr 3
      · congr 1
        omega
      · omega

/-- A flight of the row is spoilt. -/
theorem row_spoil {w : World} {B g cap : Nat} {R : List PF} (h : RowOwn w B (.slice (some ⟨g, 0, none⟩) R.length cap) R) (i : Nat) (hi : i < R.length) (t : Int) (l l' : List UInt8) (s : Bool) (he : R[i]? = some (t, l, s)) :
    RowOwn ((w.setCell ⟨g, i * 3 + 1, none⟩ (.string ⟨l'.toArray⟩)).setCell ⟨g, i * 3 + 2, none⟩ (.bool true)) B (.slice (some ⟨g, 0, none⟩) R.length cap) (R.set i (t, l', true)) := by
  have h1 := (World.ownsRow.stored h (i * 3 + 1) (.string ⟨l'.toArray⟩)).1
  have h2 := (World.ownsRow.stored h1 (i * 3 + 2) (.bool true)).1
  unfold RowOwn
  rw [List.length_set, row_set R i hi t l l' s he]
  exact h2

theorem row_frozen {w : World} {B g cap : Nat} {R : List PF} (h : RowOwn w B (.slice (some ⟨g, 0, none⟩) R.length cap) R) (j : Nat) : w.frozen? ⟨g, j, none⟩ = false := World.ownsRow.frozenAt h j

/-- Some flights of the row, as append takes them. -/
theorem first_row3 {P : Program} {w : World} {B g cap n : Nat} {R : List PF} (h : RowOwn w B (.slice (some ⟨g, 0, none⟩) n cap) R) (a b c q : Nat) (hq : q = a * 3 ∨ b = 0) (hab : a + b ≤ R.length) :
    (Builtin.firstCells 3 b (.slice (some ⟨g, q, none⟩) b c)).run P w = .ok (((R.drop a).take b).flatMap rcells).toArray w := by
  refine run_firstCells_some (P := P) w 3 b ⟨g, q, none⟩ b c _ ?_ ?_
  · rw [r_length, List.length_take, List.length_drop]
    congr 1
    omega
  · intro j v hj
    have hlt : j < b * 3 := by
      have h1 := (List.getElem?_eq_some_iff.1 hj).1
      rw [r_length, List.length_take, List.length_drop] at h1
      have : min b (R.length - a) = b := by omega
      rw [this] at h1
      exact h1
    have hq' : q = a * 3 := by rcases hq with h | h; · exact h
                               · omega
    subst hq'
    have h2 : (R.flatMap rcells)[3 * a + j]? = some v := by
      rw [← flat_take rcells 3 rlen, ← flat_drop rcells 3 rlen, List.getElem?_take_of_lt (by omega), List.getElem?_drop] at hj
      exact hj
    have h3 := World.ownsRow.cells (h := h) (g := g) rfl (3 * a + j) v h2
    have e1 : (⟨g, 0, none⟩ : Addr).add (3 * a + j) = ⟨g, a * 3 + j, none⟩ := by
      unfold Addr.add
      rw [Nat.mul_comm]
      split <;> simp_all
    have e2 : (⟨g, a * 3, none⟩ : Addr).add j = ⟨g, a * 3 + j, none⟩ := by unfold Addr.add; split <;> simp_all
    rw [e1] at h3
    rw [e2]
    exact h3

theorem sliceR2 (w : World) (g n c i : Nat) (h : n ≤ c) (hi : i < n) : (Instr.slice 28 (.slice (some ⟨g, 0, none⟩) n c) none (some (.int .i64 i)) none).run Try.prog w = .ok (.slice (some ⟨g, 0, none⟩) i c) w := by
  have hs : (sizeOf 34).run Try.prog w = .ok 3 w := by kernel_rfl
  have e0 : (⟨g, 0, none⟩ : Addr).add 0 = ⟨g, 0, none⟩ := by simp [Addr.add]
  have e1 : i ≤ c := by omega
  have e2 : ¬ c = 0 := by omega
  simp [Instr.slice, Instr.sliceBounds, Instr.sliceBound, run_underlying Try.underlying28, asIntOf, hs, e0, e1, e2, Result.andThen]

theorem sliceR3 (w : World) (g n c i : Nat) (h : n ≤ c) (hi : i < n) : (Instr.slice 28 (.slice (some ⟨g, 0, none⟩) n c) (some (.int .i64 ((i : Int) + 1))) none none).run Try.prog w = .ok (.slice (some ⟨g, if c = i + 1 then 0 else (i + 1) * 3, none⟩) (n - (i + 1)) (c - (i + 1))) w := by
  have hs : (sizeOf 34).run Try.prog w = .ok 3 w := by kernel_rfl
  have e1 : (0 : Int) ≤ (i : Int) + 1 ∧ (i : Int) + 1 ≤ (n : Int) := by omega
  have e3 : ((i : Int) + 1).toNat = i + 1 := by omega
  have e0 : (⟨g, 0, none⟩ : Addr).add ((i + 1) * 3) = ⟨g, (i + 1) * 3, none⟩ := by
    unfold Addr.add
    split
    · omega
    · simp
  by_cases hc : c = i + 1
  · subst hc
    simp [Instr.slice, Instr.sliceBounds, Instr.sliceBound, run_underlying Try.underlying28, asIntOf, hs, e0, e1, e3, Result.andThen]
  · simp [Instr.slice, Instr.sliceBounds, Instr.sliceBound, run_underlying Try.underlying28, asIntOf, hs, e0, e1, e3, hc, Result.andThen]

theorem empty_row (w : World) (base : Nat) (hb : base ≤ w.heap.size) (e : TypeId) (size : Nat) : (w.alloc (.cells #[] e)).ownsRow base e size (.slice (some ⟨w.heap.size, 0, none⟩) 0 0) 0 [] :=
  ⟨by simp, .inr ⟨w.heap.size, 0, #[], rfl, hb, heap_alloc_new w _, Nat.le_refl _, by unfold maxLen; omega, by simp, by simp⟩⟩

/-- What is done of the region that leaves a flight out. -/
def TkR (B : Nat) (R : List PF) (i : Nat) (w : World) : List Value → World → Prop
  | [], wx => wx = w.drew
  | [b], wx => RowOwn wx B b [] ∧ (∀ k, b.ownBlock = some k → w.heap.size ≤ k) ∧ Fr (fun _ => False) w wx
  | [_, b], wx => RowOwn wx B b (R.take i) ∧ (∀ k, b.ownBlock = some k → w.heap.size ≤ k) ∧ Fr (fun _ => False) w wx
  | [_, _, b], wx => RowOwn wx B b (R.take i ++ R.drop (i + 1)) ∧ (∀ k, b.ownBlock = some k → w.heap.size ≤ k) ∧ Fr (fun _ => False) w wx
  | [_, _, b, c], wx => c = b ∧ RowOwn wx B b (R.take i ++ R.drop (i + 1)) ∧ (∀ k, b.ownBlock = some k → w.heap.size ≤ k) ∧ Fr (fun _ => False) w wx
  | _, _ => False
theorem TkR.fr {B : Nat} {R : List PF} {i : Nat} {w wx : World} : ∀ {c : List Value}, TkR B R i w c wx → Fr (fun _ => False) w wx
  | [], h => by
    have e : wx = w.drew := h
    rw [e]
    exact (Fr.refl _ w).drew
  | [_], h => h.2.2
  | [_, _], h => h.2.2
  | [_, _, _], h => h.2.2
  | [_, _, _, _], h => h.2.2.2
  | _ :: _ :: _ :: _ :: _ :: _, h => h.elim

abbrev oAct (x : AcE) : Obj := Obj.cells #[.int .u8 x.k, .int .u8 x.t, .int .u8 x.i, .int .i64 x.f, .int .u32 x.m, x.sl] 32 (0, 0)
theorem cell6 {w : World} {b : Nat} {x0 x1 x2 x3 x4 x5 : Value} {t : TypeId} (h : w.heap[b]? = some (.cells #[x0, x1, x2, x3, x4, x5] t (0, 0))) :
    w.cell? ⟨b, 0, none⟩ = some x0 ∧ w.cell? ⟨b, 1, none⟩ = some x1 ∧ w.cell? ⟨b, 2, none⟩ = some x2 ∧ w.cell? ⟨b, 3, none⟩ = some x3 ∧ w.cell? ⟨b, 4, none⟩ = some x4 ∧ w.cell? ⟨b, 5, none⟩ = some x5 := by
  simp [World.cell?, h]

theorem Fr.drewN0 {w : World} (n : Nat) : Fr (fun _ => False) w (w.drewN n) := ⟨rfl, rfl, rfl, Nat.le_refl _, fun _ _ _ => rfl⟩

/-- What is put behind the law's row, beside a block that stays. -/
theorem PW.grown2 {w0 w w' : World} {b g : Nat} {R : List PF} {v v' : Value} (h : PW w0 w b R (fun k => v.ownBlock = some k ∨ k = g)) (gr : w.grownBy w' v.ownBlock) (e : v'.ownBlock = v.ownBlock ∨ v'.ownBlock = some w.heap.size) (hlt : ∀ k, v'.ownBlock = some k → k < w'.heap.size) : PW w0 w' b R (fun k => v'.ownBlock = some k ∨ k = g) :=
  h.other (Fr.of_grown gr) (fun k _ hk => .inl hk.symm) (fun k hk => by
    rcases hk with hk | hk
    · rcases e with e | e
      · exact .inl (.inl (e ▸ hk))
      · right
        have := hlt k hk
        rw [e] at hk
        simp at hk
        omega
    · exact .inl (.inr hk))

theorem PW.small {w0 w : World} {b : Nat} {R : List PF} {K : Nat → Prop} (h : PW w0 w b R K) : ∀ y ∈ R, y.2.1.length ≤ 100000 := by
  obtain ⟨v, L, h1, rfl, h3, h4⟩ := h
  intro y hy
  obtain ⟨x, hx, rfl⟩ := List.mem_map.1 hy
  exact (h1.own x hx).2.1

/-- The bytes y stand at the beginning of the block g, which may be written there. -/
def BRow (w : World) (g : Nat) (y : List UInt8) : Prop := ∃ cs fr, w.heap[g]? = some (.cells cs 5 fr) ∧ y.length ≤ fr.1 ∧ ∀ j, j < y.length → cs[j]? = some (bv (y.getD j 0))

theorem BRow.cell {w : World} {g : Nat} {y : List UInt8} (h : BRow w g y) (j : Nat) (hj : j < y.length) : w.cell? ⟨g, j, none⟩ = some (bv (y.getD j 0)) := by
  obtain ⟨cs, fr, h1, h2, h3⟩ := h
  rw [cell_of_row w g j cs _ fr h1]
  exact h3 j hj
theorem BRow.frozen {w : World} {g : Nat} {y : List UInt8} (h : BRow w g y) (j : Nat) (hj : j < y.length) : w.frozen? ⟨g, j, none⟩ = false := by
  obtain ⟨cs, fr, h1, h2, h3⟩ := h
  simp only [World.frozen?, h1]
  simp
  omega
theorem heap_setCell_fr (w : World) (g i : Nat) (cs : Array Value) (t : TypeId) (fr : Nat × Nat) (v : Value) (h : w.heap[g]? = some (.cells cs t fr)) : (w.setCell ⟨g, i, none⟩ v).heap[g]? = some (.cells (cs.setIfInBounds i v) t fr) := by
  simp [World.setCell, Array.getElem?_modify, h]

theorem BRow.set {w : World} {g : Nat} {y : List UInt8} (h : BRow w g y) (k : Nat) (hk : k < y.length) (u : UInt8) : BRow (w.setCell ⟨g, k, none⟩ (bv u)) g (y.set k u) := by
  obtain ⟨cs, fr, h1, h2, h3⟩ := h
  refine ⟨_, fr, heap_setCell_fr w g k cs _ fr (bv u) h1, by rw [List.length_set]; exact h2, fun j hj => ?_⟩
  rw [List.length_set] at hj
  by_cases e : j = k
  · subst e
    have hc : j < cs.size := by
      have := h3 j hj
      exact (Array.getElem?_eq_some_iff.1 this).1
    simp [List.getD, hj, hc, Array.getElem?_setIfInBounds]
  · have e' : k ≠ j := fun h => e h.symm
    have := h3 j hj
    simp only [List.getD] at this ⊢
    rw [List.getElem?_set_ne e', Array.getElem?_setIfInBounds_ne e']
    exact this
theorem BRow.sees {w : World} {g c : Nat} {y : List UInt8} (h : BRow w g y) (hc : y.length ≤ c) : Sees w (.slice (some ⟨g, 0, none⟩) y.length c) y :=
  .inr ⟨g, 0, c, rfl, hc, fun j hj => by rw [Nat.zero_add]; exact h.cell j hj⟩

theorem brow_new (w : World) (y : List UInt8) : ∃ cap w', (convert 9 30 (.string ⟨y.toArray⟩)).run Try.prog w = .ok (.slice (some ⟨w.heap.size, 0, none⟩) y.length cap) w' ∧ BRow w' w.heap.size y ∧ y.length ≤ cap ∧ Fr (fun _ => False) w w' := by
  refine ⟨_, _, run_bytes_of_string (P := Try.prog) w 9 30 5 ⟨y.toArray⟩ Try.underlying9 Try.underlying30 Try.underlying5, ⟨_, _, heap_alloc_new w.drew _, ?_, ?_⟩, grownCap_ge w _ 0 _, (Fr.refl _ _).drew.alloc _⟩
  · unfold bytesRow
    simp
  · intro j hj
    unfold bytesRow
    rw [Array.getElem?_append_left (by simpa using hj), Array.getElem?_map]
    simp [List.getD, hj, bv]

theorem emod_tmod (n r : Int) (h0 : 0 < r) : n % r = if n.tmod r < 0 then n.tmod r + r else n.tmod r := by
  obtain ⟨x, hx⟩ : ∃ x, x = n.tmod r := ⟨_, rfl⟩
  have e3 := Int.tmod_lt_of_pos n h0
  have e4 := Int.lt_tmod_of_pos n h0
  have e5 : n % r = (n.tmod r) % r := by
    conv => lhs; rw [← Int.tmod_add_mul_tdiv n r, Int.add_mul_emod_self_left]
  rw [e5, ← hx]
  rw [← hx] at e3 e4
  split
  · rw [← Int.add_emod_right x r]
    exact Int.emod_eq_of_lt (by omega) (by omega)
  · exact Int.emod_eq_of_lt (by omega) (by omega)

theorem law_bit (m : Nat) (j : Nat) : (((m : Int) / 2 ^ j).tmod 2 == 1) = m.testBit j := by
  have e0 : (m : Int) / 2 ^ j = ((m / 2 ^ j : Nat) : Int) := by simp
  have hn : 0 ≤ (m : Int) / 2 ^ j := by rw [e0]; exact Int.natCast_nonneg _
  rw [Int.tmod_eq_emod_of_nonneg hn]
  clear e0 hn
  have e : (m : Int) / 2 ^ j % 2 = ((m / 2 ^ j % 2 : Nat) : Int) := by simp
  rw [e, Nat.testBit_eq_decide_div_mod_eq, Bool.eq_iff_iff]
  simp
  omega
end Go.Proofs.Ytojfabhbkdddpaa
