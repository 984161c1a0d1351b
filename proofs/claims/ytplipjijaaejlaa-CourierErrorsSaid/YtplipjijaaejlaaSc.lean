/-
  CouAny, part 3 of what it rests on: RegionV, KindLite, RegionC, KindRow, Float, FloatOps, Real, Val.
-/
import Derived.Test.YtplipjijaaejlaaSb
import Derived.BigRegion
import Derived.IntWalk
import Derived.Deep.Cut
import Derived.Deep.CutRange
import Derived.Laws.FloatArith
import Derived.WalkLawsBesides
set_option linter.unusedVariables false
set_option linter.unusedSimpArgs false
set_option maxHeartbeats 32000000
namespace Go.Proofs.Ytplipjijaaejlaa
open Go.RowKit
open Go.Lib (hid)
section
section
variable {P : Program} {ops : Array Oper} {Q : Exit → Act → World → Prop}

/-- What the walk keeps: the frame is 'fr vals', the world is a later one, and of each operation that was carried out its predicate holds. -/
structure RelInvV (ops : Array Oper) (Le : World → World → Prop) (fr : (Nat → Value) → Act) (U : Nat → Value → World → Prop) (V : Nat → Value → World → Prop) (w0 : World) (listed : Array Bool) (vals : Nat → Value) (w : World) : Prop where
  le : Le w0 w
  all : ∀ i, i < ops.size → listed.getD i true = true → V i (vals i) w
  rest : ∀ i, i < ops.size → listed.getD i true = false → U i (vals i) w
  closed : ∀ i o, ops[i]? = some o → listed.getD i true = true → ∀ e ∈ o.after, Region.binds .any e = true → listed.getD e.on true = true

def RelStepV (P : Program) (ops : Array Oper) (Q : Exit → Act → World → Prop) (Le : World → World → Prop) (fr : (Nat → Value) → Act) (U : Nat → Value → World → Prop) (V : Nat → Value → World → Prop) (w0 : World) (i : Nat) (o : Oper) : Prop :=
  ∀ (vals : Nat → Value) (w : World), Le w0 w → (∀ e ∈ o.after.toList, Region.binds .any e = true → V e.on (vals e.on) w) →
    U i (vals i) w → (∀ j, waits ops j i = true → U j (vals j) w) →
    ∀ K : Act → World → Prop, (∀ v w', Le w w' → V i v w' → (∀ j u, j ≠ i → U j u w → U j u w') → (∀ j u, j ≠ i → waits ops j i = false → V j u w → V j u w') → K ((fr vals).put o.dst v) w') →
    if Region.wanted o (yielded ops (fr vals).tmps) = true then o.wp P (fr vals) w K Q else K ((fr vals).put o.dst undef) w

theorem wpAny_relV {Le : World → World → Prop} (htrans : ∀ a b c, Le a b → Le b c → Le a c) {fr : (Nat → Value) → Act}
    (hput : ∀ i o, ops[i]? = some o → ∀ vals v, (fr vals).put o.dst v = fr (fun j => if j = i then v else vals j))
    {U : Nat → Value → World → Prop} {V : Nat → Value → World → Prop} {w0 : World} (hdown : edgesDown ops = true)
    (step : ∀ i o, ops[i]? = some o → RelStepV P ops Q Le fr U V w0 i o)
    (fin : ∀ vals w, Le w0 w → (∀ i, i < ops.size → V i (vals i) w) → Q .normal (fr vals) w) :
    ∀ (fuel : Nat) (listed : Array Bool) (vals : Nat → Value) (w : World), listed.size = ops.size → (listed.toList.filter (! ·)).length = fuel → RelInvV ops Le fr U V w0 listed vals w → wpAny P .any ops Q fuel listed (fr vals) w := by
  have done : ∀ (listed : Array Bool) (vals : Nat → Value) (w : World), listed.size = ops.size → RelInvV ops Le fr U V w0 listed vals w → Region.ready .any ops listed = [] → Q .normal (fr vals) w := by
    intro listed vals w hs hI hr
    refine fin vals w hI.le ?_
    have hall : ∀ n i, i < n → i < ops.size → listed.getD i true = true := by
      intro n
      induction n with
      | zero => intro i hi; omega
      | succ n ih =>
        intro i hi hio
        by_cases h : listed.getD i true = true
        · exact h
        · exfalso
          have hno : i ∉ Region.ready .any ops listed := by rw [hr]; exact List.not_mem_nil
          refine hno ?_
          unfold Region.ready
          rw [List.mem_filter]
          refine ⟨List.mem_range.2 hio, ?_⟩
          have ho : ops[i]? = some ops[i] := Array.getElem?_eq_getElem hio
          simp only [Bool.and_eq_true, ho, Option.map_some, Option.getD_some]
          refine ⟨by simpa using h, ?_⟩
          rw [Array.all_eq_true']
          intro e he
          by_cases hb : Region.binds .any e = true
          · have hlt := edgesDown_spec hdown ho he hb
            have h1 := ih e.on (by omega) (by omega)
            have h2 : e.on < listed.size := by omega
            rw [Array.getD_eq_getD_getElem?, Array.getElem?_eq_getElem h2, Option.getD_some] at h1
            simp [h2, h1]
          · simp [hb]
    intro i hi
    exact hI.all i hi (hall (i + 1) i (by omega) hi)
  intro fuel
  induction fuel with
  | zero =>
    intro listed vals w hs hf hI
    have hr : Region.ready .any ops listed = [] := by
      unfold Region.ready
      rw [List.filter_eq_nil_iff]
      intro i hi
      have hio := List.mem_range.1 hi
      have h0 : listed.toList.filter (! ·) = [] := List.eq_nil_of_length_eq_zero hf
      rw [List.filter_eq_nil_iff] at h0
      have hl : i < listed.size := by omega
      have h1 := h0 listed[i] (by simp)
      simp at h1
      simp [Array.getD, hl, h1]
    exact ⟨hr, done listed vals w hs hI hr⟩
  | succ fuel ih =>
    intro listed vals w hs hf hI
    refine ⟨fun hr => done listed vals w hs hI hr, ?_⟩
    intro i hi
    unfold Region.ready at hi
    rw [List.mem_filter] at hi
    obtain ⟨hio, hi2⟩ := hi
    have hio := List.mem_range.1 hio
    have ho : ops[i]? = some ops[i] := Array.getElem?_eq_getElem hio
    simp only [Bool.and_eq_true, ho, Option.map_some, Option.getD_some] at hi2
    obtain ⟨hn, ha⟩ := hi2
    have hil : i < listed.size := by omega
    have hnl : listed[i] = false := by simpa [Array.getD, hil] using hn
    have hcount : ((listed.setIfInBounds i true).toList.filter (! ·)).length = fuel := by
      have e : (listed.setIfInBounds i true).toList = listed.toList.set i true := by simp
      rw [e]
      have hd : listed.toList = listed.toList.take i ++ listed[i] :: listed.toList.drop (i + 1) := by
        have hl' : i < listed.toList.length := by simpa using hil
        have := (List.take_append_drop i listed.toList).symm
        rw [List.drop_eq_getElem_cons hl'] at this
        simpa using this
      have hset : listed.toList.set i true = listed.toList.take i ++ true :: listed.toList.drop (i + 1) := by
        rw [List.set_eq_take_append_cons_drop, if_pos (by simpa using hil)]
      rw [hset]
      rw [hd, hnl] at hf
      simp at hf ⊢
      omega
    have hnd : ∀ e ∈ ops[i].after, Region.binds .any e = true → listed.getD e.on true = true := by
      intro e he hb
      rw [Array.all_eq_true'] at ha
      have h1 := ha e he
      simp [hb] at h1
      have hlt := edgesDown_spec hdown ho he hb
      have h2 : e.on < listed.size := by omega
      simpa [Array.getD, h2] using h1
    have hnext : ∀ v w', Le w w' → V i v w' → (∀ j u, j ≠ i → U j u w → U j u w') → (∀ j u, j ≠ i → waits ops j i = false → V j u w → V j u w') → wpAny P .any ops Q fuel (listed.setIfInBounds i true) ((fr vals).put ops[i].dst v) w' := by
      intro v w' hle hv hu hpres
      rw [hput i _ ho]
      refine ih _ _ _ (by simpa using hs) hcount ⟨htrans _ _ _ hI.le hle, ?_, ?_, ?_⟩
      · intro j hj hlj
        rw [getD_set _ _ _ hil] at hlj
        by_cases hji : j = i
        · subst hji; simpa using hv
        · rw [if_neg hji] at hlj
          simp only [if_neg hji]
          refine hpres j _ hji ?_ (hI.all j hj hlj)
          cases hw : waits ops j i with
          | false => rfl
          | true =>
            exfalso
            unfold waits at hw
            cases hjo : ops[j]? with
            | none => rw [hjo] at hw; cases hw
            | some o =>
              rw [hjo] at hw
              simp only [Array.any_eq_true', Bool.and_eq_true, decide_eq_true_eq] at hw
              obtain ⟨e, he, hb, hei⟩ := hw
              have := hI.closed j o hjo hlj e he hb
              rw [hei, Array.getD_eq_getD_getElem?, Array.getElem?_eq_getElem hil, hnl] at this
              cases this
      · intro j hj hlj
        rw [getD_set _ _ _ hil] at hlj
        by_cases hji : j = i
        · rw [if_pos hji] at hlj; cases hlj
        · rw [if_neg hji] at hlj
          simp only [if_neg hji]
          exact hu j _ hji (hI.rest j hj hlj)
      · intro j o hjo hlj e he hb
        rw [getD_set _ _ _ hil] at hlj ⊢
        by_cases hei : e.on = i
        · rw [if_pos hei]
        · rw [if_neg hei]
          by_cases hji : j = i
          · subst hji
            rw [ho] at hjo
            cases hjo
            exact hnd e he hb
          · rw [if_neg hji] at hlj
            exact hI.closed j o hjo hlj e he hb
    have hst := step i _ ho vals w hI.le (by
      intro e he hb
      have hlt := edgesDown_spec hdown ho (by simpa using he) hb
      exact hI.all e.on (by omega) (hnd e (by simpa using he) hb)) (by
      refine hI.rest i hio ?_
      rw [Array.getD_eq_getD_getElem?, Array.getElem?_eq_getElem hil, hnl]; rfl) (by
      intro j hw
      unfold waits at hw
      cases hjo : ops[j]? with
      | none => rw [hjo] at hw; cases hw
      | some o =>
        rw [hjo] at hw
        simp only [Array.any_eq_true', Bool.and_eq_true, decide_eq_true_eq] at hw
        obtain ⟨e, he, hb, hei⟩ := hw
        have hjs : j < ops.size := (Array.getElem?_eq_some_iff.1 hjo).1
        cases hlj : listed.getD j true with
        | false => exact hI.rest j hjs hlj
        | true =>
          have := hI.closed j o hjo hlj e he hb
          rw [hei, Array.getD_eq_getD_getElem?, Array.getElem?_eq_getElem hil, hnl] at this
          cases this) _ hnext
    unfold wpOp
    simp only [ho]
    split
    · rename_i hw
      rw [if_pos hw] at hst
      exact .inl hst
    · rename_i hw
      rw [if_neg hw] at hst
      exact hst

/-- THE REGION: whatever order is drawn. -/
theorem wp_region_relV {id : Nat} {a : Act} {w : World} (hm : P.follows .mixedOrders = true) (Le : World → World → Prop) (hrefl : ∀ w, Le w w) (htrans : ∀ a b c, Le a b → Le b c → Le a c)
    (fr : (Nat → Value) → Act) (vals : Nat → Value) (ha : a = fr vals)
    (hput : ∀ i o, ops[i]? = some o → ∀ vals v, (fr vals).put o.dst v = fr (fun j => if j = i then v else vals j))
    (U : Nat → Value → World → Prop) (V : Nat → Value → World → Prop) (hdown : edgesDown ops = true) (hU : ∀ i, i < ops.size → U i (vals i) w.drew)
    (step : ∀ i o, ops[i]? = some o → RelStepV P ops Q Le fr U V w.drew i o)
    (fin : ∀ vals w', Le w.drew w' → (∀ i, i < ops.size → V i (vals i) w') → Q .normal (fr vals) w') : (Code.region id ops true).wp P Q a w := by
  refine wp_region_any hm ?_
  subst ha
  have hfalse : ∀ i, i < ops.size → ¬ (Array.replicate ops.size false).getD i true = true := by
    intro i hi h
    simp [Array.getD, hi] at h
  refine wpAny_relV (U := U) htrans hput hdown step fin _ _ vals _ (by simp) ?_ ⟨hrefl _, ?_, ?_, ?_⟩
  · simp
  · intro i hi hl
    exact absurd hl (hfalse i hi)
  · intro i hi _
    exact hU i hi
  · intro i o ho hl
    exact absurd hl (hfalse i (Array.getElem?_eq_some_iff.1 ho).1)

/-- One operation, from a frame: what stands behind it is a variable. -/
def RelOpV (P : Program) (ops : Array Oper) (Q : Exit → Act → World → Prop) (Le : World → World → Prop) (U : Nat → Value → World → Prop) (V : Nat → Value → World → Prop) (w0 : World) (a : Act) (vals : Nat → Value) (i : Nat) (o : Oper) : Prop :=
  ∀ (w : World), Le w0 w → (∀ e ∈ o.after.toList, Region.binds .any e = true → V e.on (vals e.on) w) → U i (vals i) w → (∀ j, waits ops j i = true → U j (vals j) w) →
    ∀ K : Act → World → Prop, (∀ v w', Le w w' → V i v w' → (∀ j u, j ≠ i → U j u w → U j u w') → (∀ j u, j ≠ i → waits ops j i = false → V j u w → V j u w') → K (a.put o.dst v) w') →
    if Region.wanted o (yielded ops a.tmps) = true then o.wp P a w K Q else K (a.put o.dst undef) w

/-- THE REGION AS THE WALK WANTS IT: the operations written out, their slots 'ds'; what holds ahead of each ('U'), what each leaves ('V'); each operation, from whatever values the earlier ones left. -/
theorem wp_region_toldV {id : Nat} {l : List Oper} {a : Act} {w : World} (hm : P.follows .mixedOrders = true) (Le : World → World → Prop) (hrefl : ∀ w, Le w w) (htrans : ∀ a b c, Le a b → Le b c → Le a c)
    (ds : List (Option Nat)) (hds : l.map (·.dst) = ds) (hnd : noTwice ds = true) (hlt : ∀ d, some d ∈ ds → d < a.tmps.size)
    (U : Nat → Value → World → Prop) (V : Nat → Value → World → Prop) (hdown : edgesDown l.toArray = true) (hU : ∀ i, i < l.length → U i (((ds[i]?.bind fun x => x).bind (a.tmps[·]?)).getD undef) w.drew)
    (step : ∀ vals : Nat → Value, AllOps (RelOpV P l.toArray Q Le U V w.drew (frOfU a ds vals) vals) l 0)
    (fin : ∀ vals w', Le w.drew w' → (∀ i, i < l.length → V i (vals i) w') → Q .normal (frOfU a ds vals) w') : (Code.region id l.toArray true).wp P Q a w := by
  have hdst : ∀ (i : Nat) (o : Oper), l[i]? = some o → ds[i]? = some o.dst := by
    intro i o ho
    rw [← hds]
    simp [ho]
  refine wp_region_relV hm Le hrefl htrans (frOfU a ds) (fun j => ((ds[j]?.bind fun x => x).bind (a.tmps[·]?)).getD undef) ?_ ?_ U V hdown (by simpa using hU) ?_ (by simpa using fin)
  · unfold frOfU
    have : fillU (fun j => ((ds[j]?.bind fun x => x).bind (a.tmps[·]?)).getD undef) ds 0 a.tmps = a.tmps := by
      apply Array.ext_getElem?
      intro x
      by_cases hx : some x ∈ ds
      · obtain ⟨j, hj, hjx⟩ := List.getElem_of_mem hx
        have hd : ds[j]? = some (some x) := by rw [List.getElem?_eq_getElem hj, hjx]
        rw [fillU_at _ ds 0 a.tmps hnd hlt j _ hd, Nat.zero_add, hd]
        have hb := hlt x hx
        simp [Array.getElem?_eq_getElem hb]
      · exact fillU_other _ _ _ _ _ hx
    rw [this]
  · intro i o ho vals v
    have h1 := hdst i o (by simpa using ho)
    unfold frOfU Act.put
    cases h2 : o.dst with
    | none =>
      rw [h2] at h1
      simp only
      congr 1
      apply Array.ext_getElem?
      intro x
      by_cases hx : some x ∈ ds
      · obtain ⟨j, hj, hjx⟩ := List.getElem_of_mem hx
        have hd : ds[j]? = some (some x) := by rw [List.getElem?_eq_getElem hj, hjx]
        rw [fillU_at _ ds 0 a.tmps hnd hlt j _ hd, fillU_at _ ds 0 a.tmps hnd hlt j _ hd, Nat.zero_add]
        have hne : j ≠ i := by
          intro e
          subst e
          rw [h1] at hd
          cases hd
        rw [if_neg hne]
      · rw [fillU_other _ _ _ _ _ hx, fillU_other _ _ _ _ _ hx]
    | some d =>
      rw [h2] at h1
      simp only
      congr 1
      apply Array.ext_getElem?
      intro x
      have hd : d < a.tmps.size := hlt d (List.mem_of_getElem? h1)
      rw [Array.getElem?_setIfInBounds]
      by_cases hx : some x ∈ ds
      · obtain ⟨j, hj, hjx⟩ := List.getElem_of_mem hx
        have hdj : ds[j]? = some (some x) := by rw [List.getElem?_eq_getElem hj, hjx]
        rw [fillU_at _ ds 0 a.tmps hnd hlt j _ hdj, fillU_at _ ds 0 a.tmps hnd hlt j _ hdj, Nat.zero_add]
        by_cases e : j = i
        · subst e
          rw [h1] at hdj
          simp only [Option.some.injEq] at hdj
          rw [if_pos hdj, if_pos (by rw [fillU_size]; exact hdj ▸ hd), if_pos rfl]
        · have hne : d ≠ x := by
            intro e2
            subst e2
            exact e (noTwice_inj hnd hdj h1)
          rw [if_neg hne, if_neg e]
      · have hne : d ≠ x := fun e => hx (e ▸ List.mem_of_getElem? h1)
        rw [if_neg hne, fillU_other _ _ _ _ _ hx, fillU_other _ _ _ _ _ hx]
  · intro i o ho vals w' hle he hu hw K hK
    have := (step vals).get i o (by simpa using ho)
    rw [Nat.zero_add] at this
    exact this w' hle he hu hw K hK

end
end
section
theorem plain_add (g j : Nat) : (⟨g, 0, none⟩ : Addr).add j = ⟨g, j, none⟩ := by unfold Addr.add; split <;> simp_all

/-- How many types there are in one. -/
def sz : KT → Nat
  | .nil => 1
  | .mk _ _ _ n of => 1 + ((List.range n).map fun i => sz (of i)).sum

theorem sz_pos (t : KT) : 1 ≤ sz t := by cases t <;> simp [sz]

theorem heap_alloc_first (w : World) (o o' : Obj) : ((w.alloc o).alloc o').heap[w.heap.size]? = some o := by
  rw [Below.heap_alloc _ _ _ (by simp)]; exact heap_alloc_new w o

theorem opWp_append {P : Program} {w : World} {o : Oper} {a : Act} {K : Act → World → Prop} {Q : Exit → Act → World → Prop} (s x : Operand) (t u : TypeId)
    (ho : o.op = .call { callee := .builtin .append, args := #[s, x], argTypes := #[t, u] })
    (base : Nat) (e : TypeId) (i : TypeInfo) (z : Value) (size bytes : Nat) (ht : P.underlying t = some (.slice e)) (du : TypeDesc) (hu : P.underlying u = some du) (hud : du = .string ∨ ∃ e', du = .slice e')
    (hi : P.info? e = some i) (hz : i.zero = some z)
    (hsize : i.size = size) (hby : i.bytes = bytes) (hzs : z.cells.size = size) (hsz : 0 < size)
    (v : Value) (n : Nat) (xs : List Value) (hs : a.eval s = v) (hown : w.ownsRow base e size v n xs)
    (xv : Value) (m : Nat) (news : List Value) (hx : a.eval x = xv) (hlen : ∀ w, (Builtin.lenOf xv).run P w = .ok m w) (hl : news.length = m * size)
    (hc : (Builtin.firstCells size m xv).run P w = .ok news.toArray w) (hc' : (Builtin.firstCells size m xv).run P w.drew = .ok news.toArray w.drew) (h1 : ∀ u ∈ news, u.oneCell' = true)
    (h63 : n + m ≤ maxLen) (hbytes : (n + m) * bytes ≤ 140737488355328) (hbase : base ≤ w.heap.size)
    (h : ∀ v' w', w'.ownsRow base e size v' (n + m) (xs ++ news) → w.grownBy w' v.ownBlock → (v'.ownBlock = v.ownBlock ∨ v'.ownBlock = some w.heap.size) → K (a.put o.dst v') w') : o.wp P a w K Q := by
  obtain ⟨v', w', hr, h2, h3, h4⟩ := run_append_sep (P := P) w base t u o.type e i z size bytes ht du hu hud hi hz hsize hby hzs hsz v n xs hown xv m news hlen hl hc hc' h1 h63 hbytes hbase
  unfold Oper.wp execOp
  simp only [ho, resolve, invoke, builtin, Sem.run_bind, Sem.run_pure, Result.andThen_ok, List.map_toArray, List.map_cons, List.map_nil, hs, hx, hr]
  exact h v' w' h2 h3 h4

theorem first_one8 {P : Program} {w : World} {g : Nat} {y0 y1 y2 y3 y4 y5 y6 y7 : Value} {t : TypeId} {fr : Nat × Nat} (c : Nat) (h : w.heap[g]? = some (.cells #[y0, y1, y2, y3, y4, y5, y6, y7] t fr)) :
    (Builtin.firstCells 8 1 (.slice (some ⟨g, 0, none⟩) 1 c)).run P w = .ok #[y0, y1, y2, y3, y4, y5, y6, y7] w := by
  have := run_firstCells_some (P := P) w 8 1 ⟨g, 0, none⟩ 1 c [y0, y1, y2, y3, y4, y5, y6, y7] rfl (by
    intro j v hj
    rw [plain_add, cell_of_row w g j _ t fr h]
    simpa using hj)
  simpa using this

/-- As pres_list, but for two places. -/
theorem pres_but {L : List (Value → World → Prop)} {w w' : World} (k k' : Nat) {j : Nat} (hj : j ≠ k) (hj' : j ≠ k') (h : ∀ p ∈ (L.set k (fun _ _ => True)).set k' (fun _ _ => True), ∀ u, p u w → p u w') : ∀ (u : Value), L.getD j (fun _ _ => True) u w → L.getD j (fun _ _ => True) u w' := by
  intro u hu
  have e : L.getD j (fun _ _ => True) = ((L.set k (fun _ _ => True)).set k' (fun _ _ => True)).getD j (fun _ _ => True) := by
    rw [List.getD_eq_getElem?_getD, List.getD_eq_getElem?_getD, List.getElem?_set_ne (Ne.symm hj'), List.getElem?_set_ne (Ne.symm hj)]
  rw [e] at hu ⊢
  exact pres_list h j u hu

/-- The parts of a type, in memory. -/
def Kids (R : Nat → Prop) (w : World) (of : Nat → KT) (a' : Option Addr) (n c' : Nat) : Prop :=
  n = 0 ∨ n ≤ c' ∧ ∃ g off, R g ∧ a' = some ⟨g, off, none⟩ ∧ ∀ i, i < n → ∃ x0 x1 x2 x3,
      w.cell? ⟨g, off + i * 4, none⟩ = some x0 ∧ w.cell? ⟨g, off + i * 4 + 1, none⟩ = some x1 ∧ w.cell? ⟨g, off + i * 4 + 2, none⟩ = some x2 ∧ w.cell? ⟨g, off + i * 4 + 3, none⟩ = some x3 ∧
      Shows R w (of i) (.agg #[x0, x1, x2, x3])

theorem Kids.fr {R S : Nat → Prop} {w w' : World} {of : Nat → KT} {a' : Option Addr} {n c' : Nat} (h : Kids R w of a' n c') (hf : Fr S w w') (hS : ∀ k, R k → ¬ S k) : Kids R w' of a' n c' := by
  rcases h with h | ⟨h1, g, off, hg, rfl, hc⟩
  · exact .inl h
  · refine .inr ⟨h1, g, off, hg, rfl, fun i hi => ?_⟩
    obtain ⟨x0, x1, x2, x3, c0, c1, c2, c3, hx⟩ := hc i hi
    exact ⟨x0, x1, x2, x3, cell_fr hf hS hg c0, cell_fr hf hS hg c1, cell_fr hf hS hg c2, cell_fr hf hS hg c3, Shows.fr hf hS _ _ hx⟩

/-- A type's value, opened. -/
theorem shows_open {R : Nat → Prop} {w : World} {t : KT} {x0 x1 x2 x3 : Value} (h : Shows R w t (.agg #[x0, x1, x2, x3])) :
    ∃ (k : Nat) (m : Int) (ns : List Txt) (of : Nat → KT) (a : Option Addr) (c : Nat) (a' : Option Addr) (n c' : Nat), t = .mk k m ns n of ∧ x0 = .int .u8 k ∧ x1 = .int .i64 m ∧ x2 = .slice a ns.length c ∧ x3 = .slice a' n c' ∧ Texts R w ns (.slice a ns.length c) ∧
      n ≤ 1000 ∧ Kids R w of a' n c' := by
  cases t with
  | nil => exact h.elim
  | mk k m ns n of =>
    obtain ⟨vn, vo, e, _, hn, ht, ho⟩ := h
    simp at e
    obtain ⟨rfl, rfl, rfl, rfl⟩ := e
    obtain ⟨a, c, rfl, _⟩ := ht.shape
    rcases ho with ⟨rfl, a', c', rfl⟩ | ⟨g, off, cap, hg, rfl, hle, hc⟩
    · exact ⟨k, m, ns, of, a, c, a', 0, c', rfl, rfl, rfl, rfl, rfl, ht, hn, .inl rfl⟩
    · exact ⟨k, m, ns, of, a, c, _, n, cap, rfl, rfl, rfl, rfl, rfl, ht, hn, .inr ⟨hle, g, off, hg, rfl, hc⟩⟩
end
section
/-- An operation is free (and yields this value), or a link of the chain (and yields this value, if it is said). -/
inductive OpSort where
  | free (v : Value)
  | link (v : Option Value)

def OpSort.val : OpSort → Option Value
  | .free v => some v
  | .link v => v

def OpSort.isLink : OpSort → Bool
  | .free _ => false
  | .link _ => true

section
variable {P : Program} {ops : Array Oper} {Q : Exit → Act → World → Prop}

/-- What the walk keeps: so many of the chain are carried out, and what holds then; the free ones that are carried out have their values. -/
structure RelInvC (ops : Array Oper) (chain : List Nat) (S : List Value → World → Prop) (F : Nat → OpSort) (orig : Nat → Value) (listed : Array Bool) (vals : Nat → Value) (w : World) : Prop where
  done : ∃ k, k ≤ chain.length ∧ (∀ m i, chain[m]? = some i → listed.getD i true = decide (m < k)) ∧ S ((chain.take k).map vals) w
  free : ∀ i v, i < ops.size → listed.getD i true = true → (F i).val = some v → vals i = v
  rest : ∀ i, i < ops.size → listed.getD i true = false → vals i = orig i
  closed : ∀ i o, ops[i]? = some o → listed.getD i true = true → ∀ e ∈ o.after, Region.binds .any e = true → listed.getD e.on true = true

/-- One operation of number i, from a frame. -/
def RelOpC (P : Program) (ops : Array Oper) (Q : Exit → Act → World → Prop) (chain : List Nat) (S : List Value → World → Prop) (F : Nat → OpSort) (orig : Nat → Value) (a : Act) (vals : Nat → Value) (i : Nat) (o : Oper) : Prop :=
  ∀ (cvs : List Value) (w : World), S cvs w → (∀ e ∈ o.after.toList, Region.binds .any e = true → ∀ v, (F e.on).val = some v → vals e.on = v) → (∀ j, j < ops.size → waits ops j i = true → vals j = orig j) →
    match F i with
    | .free v => (∀ m j, chain[m]? = some j → waits ops j i = true → cvs.length ≤ m) → ∀ K : Act → World → Prop, K (a.put o.dst v) w →
        if Region.wanted o (yielded ops a.tmps) = true then o.wp P a w K Q else K (a.put o.dst undef) w
    | .link u => (∀ k, chain[k]? = some i → cvs = (chain.take k).map vals) → ∀ K : Act → World → Prop, (∀ v w', (∀ x, u = some x → v = x) → S (cvs ++ [v]) w' → K (a.put o.dst v) w') →
        if Region.wanted o (yielded ops a.tmps) = true then o.wp P a w K Q else K (a.put o.dst undef) w

/-- Is it a chain: those that are not free, each once, each but the first waits for the one ahead? -/
def chainOK (ops : Array Oper) (chain : List Nat) (F : Nat → Bool) : Bool :=
  chain.all (fun i => decide (i < ops.size) && F i) && (List.range ops.size).all (fun i => !F i || chain.contains i) &&
  (List.range (chain.length - 1)).all (fun m => waits ops (chain.getD (m + 1) 0) (chain.getD m 0)) && (List.range chain.length).all (fun m => (List.range chain.length).all fun m' => decide (m = m') || decide (chain.getD m 0 ≠ chain.getD m' 0))

theorem chainOK_in {chain : List Nat} {F : Nat → Bool} (h : chainOK ops chain F = true) {m i : Nat} (hm : chain[m]? = some i) : i < ops.size ∧ F i = true := by
  unfold chainOK at h
  simp only [Bool.and_eq_true, List.all_eq_true] at h
  simpa using h.1.1.1 i (List.mem_of_getElem? hm)

theorem chainOK_all {chain : List Nat} {F : Nat → Bool} (h : chainOK ops chain F = true) {i : Nat} (hi : i < ops.size) (hF : F i = true) : ∃ m : Nat, chain[m]? = some i := by
  unfold chainOK at h
  simp only [Bool.and_eq_true, List.all_eq_true] at h
  have := h.1.1.2 i (List.mem_range.2 hi)
  simp [hF] at this
  exact List.getElem?_of_mem this

theorem chainOK_waits {chain : List Nat} {F : Nat → Bool} (h : chainOK ops chain F = true) {m i j : Nat} (hi : chain[m]? = some i) (hj : chain[m + 1]? = some j) : waits ops j i = true := by
  unfold chainOK at h
  simp only [Bool.and_eq_true, List.all_eq_true] at h
  have hl := (List.getElem?_eq_some_iff.1 hj).1
  have := h.1.2 m (List.mem_range.2 (by omega))
  rw [List.getD_eq_getElem?_getD, List.getD_eq_getElem?_getD, hi, hj] at this
  exact this

theorem chainOK_once {chain : List Nat} {F : Nat → Bool} (h : chainOK ops chain F = true) {m m' i : Nat} (hi : chain[m]? = some i) (hj : chain[m']? = some i) : m = m' := by
  unfold chainOK at h
  simp only [Bool.and_eq_true, List.all_eq_true] at h
  have hl := (List.getElem?_eq_some_iff.1 hi).1
  have hl' := (List.getElem?_eq_some_iff.1 hj).1
  have := h.2 m (List.mem_range.2 hl) m' (List.mem_range.2 hl')
  rw [List.getD_eq_getElem?_getD, List.getD_eq_getElem?_getD, hi, hj] at this
  simpa using this

theorem wpAny_chain {fr : (Nat → Value) → Act}
    (hput : ∀ i o, ops[i]? = some o → ∀ vals v, (fr vals).put o.dst v = fr (fun j => if j = i then v else vals j))
    {chain : List Nat} {S : List Value → World → Prop} {F : Nat → OpSort} {orig : Nat → Value} (hdown : edgesDown ops = true) (hch : chainOK ops chain (fun i => (F i).isLink) = true)
    (step : ∀ i o, ops[i]? = some o → ∀ vals, RelOpC P ops Q chain S F orig (fr vals) vals i o)
    (fin : ∀ vals w, S (chain.map vals) w → (∀ i v, i < ops.size → (F i).val = some v → vals i = v) → Q .normal (fr vals) w) :
    ∀ (fuel : Nat) (listed : Array Bool) (vals : Nat → Value) (w : World), listed.size = ops.size → (listed.toList.filter (! ·)).length = fuel → RelInvC ops chain S F orig listed vals w → wpAny P .any ops Q fuel listed (fr vals) w := by
  have done : ∀ (listed : Array Bool) (vals : Nat → Value) (w : World), listed.size = ops.size → RelInvC ops chain S F orig listed vals w → Region.ready .any ops listed = [] → Q .normal (fr vals) w := by
    intro listed vals w hs hI hr
    have hall : ∀ n i, i < n → i < ops.size → listed.getD i true = true := by
      intro n
      induction n with
      | zero => intro i hi; omega
      | succ n ih =>
        intro i hi hio
        by_cases h : listed.getD i true = true
        · exact h
        · exfalso
          have hno : i ∉ Region.ready .any ops listed := by rw [hr]; exact List.not_mem_nil
          refine hno ?_
          unfold Region.ready
          rw [List.mem_filter]
          refine ⟨List.mem_range.2 hio, ?_⟩
          have ho : ops[i]? = some ops[i] := Array.getElem?_eq_getElem hio
          simp only [Bool.and_eq_true, ho, Option.map_some, Option.getD_some]
          refine ⟨by simpa using h, ?_⟩
          rw [Array.all_eq_true']
          intro e he
          by_cases hb : Region.binds .any e = true
          · have hlt := edgesDown_spec hdown ho he hb
            have h1 := ih e.on (by omega) (by omega)
            have h2 : e.on < listed.size := by omega
            rw [Array.getD_eq_getD_getElem?, Array.getElem?_eq_getElem h2, Option.getD_some] at h1
            simp [h2, h1]
          · simp [hb]
    obtain ⟨k, hk, hl, hS⟩ := hI.done
    have hkl : k = chain.length := by
      rcases Nat.lt_or_ge k chain.length with h | h
      · have h1 := hl k chain[k] (List.getElem?_eq_getElem h)
        have h2 := (chainOK_in hch (List.getElem?_eq_getElem h)).1
        rw [hall (chain[k] + 1) _ (by omega) h2] at h1
        simp at h1
      · omega
    rw [hkl, List.take_length] at hS
    exact fin vals w hS (fun i v hi hv => hI.free i v hi (hall (i + 1) i (by omega) hi) hv)
  intro fuel
  induction fuel with
  | zero =>
    intro listed vals w hs hf hI
    have hr : Region.ready .any ops listed = [] := by
      unfold Region.ready
      rw [List.filter_eq_nil_iff]
      intro i hi
      have hio := List.mem_range.1 hi
      have h0 : listed.toList.filter (! ·) = [] := List.eq_nil_of_length_eq_zero hf
      rw [List.filter_eq_nil_iff] at h0
      have hl : i < listed.size := by omega
      have h1 := h0 listed[i] (by simp)
      simp at h1
      simp [Array.getD, hl, h1]
    exact ⟨hr, done listed vals w hs hI hr⟩
  | succ fuel ih =>
    intro listed vals w hs hf hI
    refine ⟨fun hr => done listed vals w hs hI hr, ?_⟩
    intro i hi
    unfold Region.ready at hi
    rw [List.mem_filter] at hi
    obtain ⟨hio, hi2⟩ := hi
    have hio := List.mem_range.1 hio
    have ho : ops[i]? = some ops[i] := Array.getElem?_eq_getElem hio
    simp only [Bool.and_eq_true, ho, Option.map_some, Option.getD_some] at hi2
    obtain ⟨hn, ha⟩ := hi2
    have hil : i < listed.size := by omega
    have hnl : listed[i] = false := by simpa [Array.getD, hil] using hn
    have hni : listed.getD i true = false := by rw [Array.getD_eq_getD_getElem?, Array.getElem?_eq_getElem hil, hnl]; rfl
    have hcount : ((listed.setIfInBounds i true).toList.filter (! ·)).length = fuel := by
      have e : (listed.setIfInBounds i true).toList = listed.toList.set i true := by simp
      rw [e]
      have hd : listed.toList = listed.toList.take i ++ listed[i] :: listed.toList.drop (i + 1) := by
        have hl' : i < listed.toList.length := by simpa using hil
        have := (List.take_append_drop i listed.toList).symm
        rw [List.drop_eq_getElem_cons hl'] at this
        simpa using this
      have hset : listed.toList.set i true = listed.toList.take i ++ true :: listed.toList.drop (i + 1) := by
        rw [List.set_eq_take_append_cons_drop, if_pos (by simpa using hil)]
      rw [hset]
      rw [hd, hnl] at hf
      simp at hf ⊢
      omega
    have hnd : ∀ e ∈ ops[i].after, Region.binds .any e = true → listed.getD e.on true = true := by
      intro e he hb
      rw [Array.all_eq_true'] at ha
      have h1 := ha e he
      simp [hb] at h1
      have hlt := edgesDown_spec hdown ho he hb
      have h2 : e.on < listed.size := by omega
      simpa [Array.getD, h2] using h1
    have hwt : ∀ j, j < ops.size → waits ops j i = true → listed.getD j true = false := by
      intro j hjs hw
      unfold waits at hw
      have hjo : ops[j]? = some ops[j] := Array.getElem?_eq_getElem hjs
      rw [hjo] at hw
      simp only [Array.any_eq_true', Bool.and_eq_true, decide_eq_true_eq] at hw
      obtain ⟨e, he, hb, hei⟩ := hw
      cases hlj : listed.getD j true with
      | false => rfl
      | true =>
        have := hI.closed j _ hjo hlj e he hb
        rw [hei, hni] at this
        cases this
    obtain ⟨k, hk, hl, hS⟩ := hI.done
    have hnext : ∀ v w', (∃ k', k' ≤ chain.length ∧ (∀ m j, chain[m]? = some j → (if j = i then true else listed.getD j true) = decide (m < k')) ∧ S ((chain.take k').map (fun j => if j = i then v else vals j)) w') → (∀ u, (F i).val = some u → v = u) →
        wpAny P .any ops Q fuel (listed.setIfInBounds i true) ((fr vals).put ops[i].dst v) w' := by
      intro v w' hd hu
      rw [hput i _ ho]
      refine ih _ _ _ (by simpa using hs) hcount ⟨?_, ?_, ?_, ?_⟩
      · obtain ⟨k', h1, h2, h3⟩ := hd
        exact ⟨k', h1, fun m j hj => by rw [getD_set _ _ _ hil]; exact h2 m j hj, h3⟩
      · intro j u hj hlj hF
        rw [getD_set _ _ _ hil] at hlj
        by_cases hji : j = i
        · subst hji; simpa using hu u hF
        · rw [if_neg hji] at hlj
          simp only [if_neg hji]
          exact hI.free j u hj hlj hF
      · intro j hj hlj
        rw [getD_set _ _ _ hil] at hlj
        by_cases hji : j = i
        · rw [if_pos hji] at hlj; cases hlj
        · rw [if_neg hji] at hlj
          simp only [if_neg hji]
          exact hI.rest j hj hlj
      · intro j o hjo hlj e he hb
        rw [getD_set _ _ _ hil] at hlj ⊢
        by_cases hei : e.on = i
        · rw [if_pos hei]
        · rw [if_neg hei]
          by_cases hji : j = i
          · subst hji
            rw [ho] at hjo
            cases hjo
            exact hnd e he hb
          · rw [if_neg hji] at hlj
            exact hI.closed j o hjo hlj e he hb
    have hst := step i _ ho vals _ w hS (by
      intro e he hb v hv
      have hlt := edgesDown_spec hdown ho (by simpa using he) hb
      exact hI.free e.on v (by omega) (hnd e (by simpa using he) hb) hv) (fun j hjs hw => hI.rest j hjs (hwt j hjs hw))
    have hkey : if Region.wanted ops[i] (yielded ops (fr vals).tmps) = true then ops[i].wp P (fr vals) w (fun a' w' => wpAny P .any ops Q fuel (listed.setIfInBounds i true) a' w') Q else wpAny P .any ops Q fuel (listed.setIfInBounds i true) ((fr vals).put ops[i].dst undef) w := by
      cases hF : F i with
      | free v =>
        simp only [hF] at hst
        have hnin : ∀ (m j : Nat), chain[m]? = some j → j ≠ i := by
          intro m j hj e
          have := (chainOK_in hch hj).2
          rw [e, hF] at this
          cases this
        refine hst ?_ _ (hnext v w ⟨k, hk, ?_, ?_⟩ ?_)
        · intro m j hj hw
          have h1 := hl m j hj
          rw [hwt j (chainOK_in hch hj).1 hw] at h1
          have : ¬ m < k := by simpa using h1.symm
          rw [List.length_map, List.length_take]
          omega
        · intro m j hj
          rw [if_neg (hnin m j hj)]
          exact hl m j hj
        · have : (chain.take k).map (fun j => if j = i then v else vals j) = (chain.take k).map vals := by
            refine List.map_congr_left fun j hj => ?_
            obtain ⟨m, hm⟩ := List.getElem?_of_mem (List.mem_of_mem_take hj)
            rw [if_neg (hnin m j hm)]
          rw [this]
          exact hS
        · intro u hu
          rw [hF] at hu
          simpa [OpSort.val] using hu
      | link u =>
        simp only [hF] at hst
        obtain ⟨m, hm⟩ := chainOK_all (F := fun i => (F i).isLink) hch hio (by rw [hF]; rfl)
        have hmk : ¬ m < k := by
          have h1 := hl m i hm
          rw [hni] at h1
          simpa using h1.symm
        obtain rfl : m = k := by
          cases m with
          | zero => omega
          | succ m =>
            have hml : m < chain.length := by have := (List.getElem?_eq_some_iff.1 hm).1; omega
            have h0 := List.getElem?_eq_getElem hml
            have hw := chainOK_waits hch h0 hm
            unfold waits at hw
            rw [ho] at hw
            simp only [Array.any_eq_true', Bool.and_eq_true, decide_eq_true_eq] at hw
            obtain ⟨e, he, hb, hei⟩ := hw
            have h1 := hnd e he hb
            rw [hei, hl m _ h0] at h1
            have : m < k := by simpa using h1
            omega
        refine hst ?_ _ (fun v w' hv' hS' => hnext v w' ⟨m + 1, (List.getElem?_eq_some_iff.1 hm).1, ?_, ?_⟩ ?_)
        · intro m' hm'
          rw [chainOK_once hch hm' hm]
        · intro m' j hj
          by_cases hji : j = i
          · subst hji
            rw [if_pos rfl, chainOK_once hch hj hm]
            simp
          · rw [if_neg hji, hl m' j hj]
            have hne : m' ≠ m := fun e => by rw [e, hm] at hj; cases hj; exact hji rfl
            simp only [decide_eq_decide]
            omega
        · have e1 : chain.take (m + 1) = chain.take m ++ [i] := by rw [List.take_add_one, hm]; rfl
          rw [e1, List.map_append, List.map_singleton, if_pos rfl]
          have : (chain.take m).map (fun j => if j = i then v else vals j) = (chain.take m).map vals := by
            refine List.map_congr_left fun j hj => ?_
            obtain ⟨m', hm'⟩ := List.getElem?_of_mem hj
            have h2 := (List.getElem?_eq_some_iff.1 hm').1
            rw [List.length_take] at h2
            rw [List.getElem?_take, if_pos (by omega)] at hm'
            rw [if_neg]
            intro e
            subst e
            have := chainOK_once hch hm' hm
            omega
          rw [this]
          exact hS'
        · intro u' hu
          rw [hF] at hu
          exact hv' u' (by simpa [OpSort.val] using hu)
    unfold wpOp
    simp only [ho]
    split
    · rename_i hw
      rw [if_pos hw] at hkey
      exact .inl hkey
    · rename_i hw
      rw [if_neg hw] at hkey
      exact hkey

/-- THE REGION: the operations written out, their slots 'ds', the chain, what holds when so many of it are carried out ('S', over their values), the free ones' values ('FL'). -/
theorem wp_region_chain {id : Nat} {l : List Oper} {a : Act} {w : World} (hm : P.follows .mixedOrders = true)
    (ds : List (Option Nat)) (hds : l.map (·.dst) = ds) (hnd : noTwice ds = true) (hlt : ∀ d, some d ∈ ds → d < a.tmps.size)
    (chain : List Nat) (S : List Value → World → Prop) (FL : List OpSort) (hdown : edgesDown l.toArray = true) (hch : chainOK l.toArray chain (fun i => (FL.getD i (.link none)).isLink) = true)
    (h0 : S [] w.drew)
    (step : ∀ vals : Nat → Value, AllOps (RelOpC P l.toArray Q chain S (fun i => FL.getD i (.link none)) (fun i => ((ds[i]?.bind fun x => x).bind (a.tmps[·]?)).getD undef) (frOfU a ds vals) vals) l 0)
    (fin : ∀ vals w', S (chain.map vals) w' → (∀ i v, i < l.length → (FL.getD i (.link none)).val = some v → vals i = v) → Q .normal (frOfU a ds vals) w') : (Code.region id l.toArray true).wp P Q a w := by
  have hdst : ∀ (i : Nat) (o : Oper), l[i]? = some o → ds[i]? = some o.dst := by
    intro i o ho
    rw [← hds]
    simp [ho]
  refine wp_region_any hm ?_
  have ha : a = frOfU a ds (fun i => ((ds[i]?.bind fun x => x).bind (a.tmps[·]?)).getD undef) := by
    unfold frOfU
    have : fillU (fun j => ((ds[j]?.bind fun x => x).bind (a.tmps[·]?)).getD undef) ds 0 a.tmps = a.tmps := by
      apply Array.ext_getElem?
      intro x
      by_cases hx : some x ∈ ds
      · obtain ⟨j, hj, hjx⟩ := List.getElem_of_mem hx
        have hd : ds[j]? = some (some x) := by rw [List.getElem?_eq_getElem hj, hjx]
        rw [fillU_at _ ds 0 a.tmps hnd hlt j _ hd, Nat.zero_add, hd]
        have hb := hlt x hx
        simp [Array.getElem?_eq_getElem hb]
      · exact fillU_other _ _ _ _ _ hx
    rw [this]
  have hput : ∀ i o, l.toArray[i]? = some o → ∀ vals v, (frOfU a ds vals).put o.dst v = frOfU a ds (fun j => if j = i then v else vals j) := by
    intro i o ho vals v
    have h1 := hdst i o (by simpa using ho)
    unfold frOfU Act.put
    cases h2 : o.dst with
    | none =>
      rw [h2] at h1
      simp only
      congr 1
      apply Array.ext_getElem?
      intro x
      by_cases hx : some x ∈ ds
      · obtain ⟨j, hj, hjx⟩ := List.getElem_of_mem hx
        have hd : ds[j]? = some (some x) := by rw [List.getElem?_eq_getElem hj, hjx]
        rw [fillU_at _ ds 0 a.tmps hnd hlt j _ hd, fillU_at _ ds 0 a.tmps hnd hlt j _ hd, Nat.zero_add]
        have hne : j ≠ i := by
          intro e
          subst e
          rw [h1] at hd
          cases hd
        rw [if_neg hne]
      · rw [fillU_other _ _ _ _ _ hx, fillU_other _ _ _ _ _ hx]
    | some d =>
      rw [h2] at h1
      simp only
      congr 1
      apply Array.ext_getElem?
      intro x
      have hd : d < a.tmps.size := hlt d (List.mem_of_getElem? h1)
      rw [Array.getElem?_setIfInBounds]
      by_cases hx : some x ∈ ds
      · obtain ⟨j, hj, hjx⟩ := List.getElem_of_mem hx
        have hdj : ds[j]? = some (some x) := by rw [List.getElem?_eq_getElem hj, hjx]
        rw [fillU_at _ ds 0 a.tmps hnd hlt j _ hdj, fillU_at _ ds 0 a.tmps hnd hlt j _ hdj, Nat.zero_add]
        by_cases e : j = i
        · subst e
          rw [h1] at hdj
          simp only [Option.some.injEq] at hdj
          rw [if_pos hdj, if_pos (by rw [fillU_size]; exact hdj ▸ hd), if_pos rfl]
        · have hne : d ≠ x := by
            intro e2
            subst e2
            exact e (noTwice_inj hnd hdj h1)
          rw [if_neg hne, if_neg e]
      · have hne : d ≠ x := fun e => hx (e ▸ List.mem_of_getElem? h1)
        rw [if_neg hne, fillU_other _ _ _ _ _ hx, fillU_other _ _ _ _ _ hx]
  have hfalse : ∀ i, i < l.toArray.size → ¬ (Array.replicate l.toArray.size false).getD i true = true := by
    intro i hi h
    have hi' : i < l.length := by simpa using hi
    simp [Array.getD, hi'] at h
  have hmain := wpAny_chain (P := P) (ops := l.toArray) (Q := Q) (fr := frOfU a ds) hput (chain := chain) (S := S) (F := fun i => FL.getD i (.link none)) (orig := fun i => ((ds[i]?.bind fun x => x).bind (a.tmps[·]?)).getD undef) hdown hch (by
      intro i o ho vals
      have := (step vals).get i o (by simpa using ho)
      rw [Nat.zero_add] at this
      exact this) (fun vals w h1 h2 => fin vals w h1 (fun i v hi => h2 i v (by simpa using hi))) l.toArray.size (Array.replicate l.toArray.size false) (fun i => ((ds[i]?.bind fun x => x).bind (a.tmps[·]?)).getD undef) w.drew (by simp) (by simp) ⟨?_, ?_, ?_, ?_⟩
  · rw [← ha] at hmain
    exact hmain
  · refine ⟨0, Nat.zero_le _, fun m i hi => ?_, by simpa using h0⟩
    have h1 := hfalse i (chainOK_in hch hi).1
    simpa using h1
  · intro i v hi hl
    exact absurd hl (hfalse i hi)
  · intro i _ _
    rfl
  · intro i o ho hl
    exact absurd hl (hfalse i (Array.getElem?_eq_some_iff.1 ho).1)

end
end
section
/-- What an item's cells show, and where: it goes on where these blocks are left. -/
structure Shown (α : Type) where
  sh : (Nat → Prop) → World → α → List Value → Prop
  fr : ∀ {R S : Nat → Prop} {w w' : World} {x : α} {xs : List Value}, sh R w x xs → Fr S w w' → (∀ k, R k → ¬ S k) → sh R w' x xs
  mono : ∀ {R S : Nat → Prop} {w : World} {x : α} {xs : List Value}, sh R w x xs → (∀ k, k < w.heap.size → R k → S k) → sh S w x xs

/-- A row of items alone from block B on, off the blocks X. -/
def ItRow {α : Type} (D : Shown α) (e : TypeId) (size B : Nat) (X : Nat → Prop) (w : World) (pv : Value) (l : List α) : Prop :=
  ∃ cs : List Value, w.ownsRow B e size pv l.length cs ∧ (∀ k, pv.ownBlock = some k → ¬ X k) ∧ ∀ (i : Nat) (x : α), l[i]? = some x → ∃ xs : List Value, xs.length = size ∧ (∀ (j : Nat) (u : Value), xs[j]? = some u → cs[i * size + j]? = some u) ∧
    D.sh (fun k => B ≤ k ∧ ¬ X k ∧ pv.ownBlock ≠ some k) w x xs

section
variable {α : Type} {D : Shown α} {e : TypeId} {size B : Nat} {X : Nat → Prop} {w w' : World} {pv : Value} {l : List α}

theorem ItRow.nil (D : Shown α) (e : TypeId) (size B : Nat) (X : Nat → Prop) (w : World) : ItRow D e size B X w (.slice none 0 0) [] := ⟨[], World.ownsRow_nil w B e size, by simp [Value.ownBlock], by simp⟩

theorem ItRow.fr {S : Nat → Prop} (h : ItRow D e size B X w pv l) (f : Fr S w w') (hS : ∀ k, B ≤ k → S k → X k) : ItRow D e size B X w' pv l := by
  obtain ⟨cs, h1, h0, h2⟩ := h
  refine ⟨cs, ownsRow_fr h1 f (fun k hk hs => h0 k hk (hS k (World.ownsRow.lt h1 k hk).1 hs)), h0, fun i x hi => ?_⟩
  obtain ⟨xs, a, b, hx⟩ := h2 i x hi
  exact ⟨xs, a, b, D.fr hx f (fun k hk hs => hk.2.1 (hS k hk.1 hs))⟩

/-- Other blocks to be kept off. -/
theorem ItRow.off {Y : Nat → Prop} (h : ItRow D e size B X w pv l) (hY : ∀ k, k < w.heap.size → Y k → X k) : ItRow D e size B Y w pv l := by
  obtain ⟨cs, h1, h0, h2⟩ := h
  refine ⟨cs, h1, fun k hk hy => h0 k hk (hY k (World.ownsRow.lt h1 k hk).2 hy), fun i x hi => ?_⟩
  obtain ⟨xs, a, b, hx⟩ := h2 i x hi
  exact ⟨xs, a, b, D.mono hx (fun k hk h => ⟨h.1, fun hy => h.2.1 (hY k hk hy), h.2.2⟩)⟩

theorem ItRow.slice (h : ItRow D e size B X w pv l) : ∃ a c, pv = .slice a l.length c := by
  obtain ⟨cs, h1, _⟩ := h
  exact slice_of_own h1

theorem ItRow.own (h : ItRow D e size B X w pv l) (k : Nat) (hk : pv.ownBlock = some k) : B ≤ k ∧ k < w.heap.size ∧ ¬ X k := by
  obtain ⟨cs, h1, h0, _⟩ := h
  exact ⟨(World.ownsRow.lt h1 k hk).1, (World.ownsRow.lt h1 k hk).2, h0 k hk⟩

/-- One item more, behind an append. -/
theorem ItRow.push {pv' : Value} {x : α} {news : List Value} (h : ItRow D e size B X w pv l) (hx : D.sh (fun k => B ≤ k ∧ ¬ X k ∧ pv.ownBlock ≠ some k) w x news) (hn : news.length = size)
    {cs : List Value} (hc : w.ownsRow B e size pv l.length cs) (ho : w'.ownsRow B e size pv' (l.length + 1) (cs ++ news)) (hg : w.grownBy w' pv.ownBlock) (hv : pv'.ownBlock = pv.ownBlock ∨ pv'.ownBlock = some w.heap.size) (hX : ∀ k, X k → k < w.heap.size) : ItRow D e size B X w' pv' (l ++ [x]) := by
  obtain ⟨cs', h1, h0, h2⟩ := h
  have hcs : cs' = cs := by
    have e1 := h1
    have e2 := hc
    have l1 := h1.1
    have l2 := hc.1
    by_cases hz : l.length = 0
    · rw [hz, Nat.zero_mul] at l1 l2
      rw [List.eq_nil_of_length_eq_zero l1, List.eq_nil_of_length_eq_zero l2]
    · rcases h1.2 with ⟨_, h0⟩ | ⟨g, cap, cur, rfl, hb, hgg, hle, _⟩
      · exact absurd h0 hz
      · refine List.ext_getElem? fun j => ?_
        by_cases hj : j < l.length * size
        · have q1 := World.ownsRow.cells (g := g) h1 rfl j _ (List.getElem?_eq_getElem (by rw [l1]; exact hj))
          have q2 := World.ownsRow.cells (g := g) hc rfl j _ (List.getElem?_eq_getElem (by rw [l2]; exact hj))
          rw [q1] at q2
          rw [List.getElem?_eq_getElem (by rw [l1]; exact hj), List.getElem?_eq_getElem (by rw [l2]; exact hj)]
          exact q2
        · rw [List.getElem?_eq_none (by rw [l1]; omega), List.getElem?_eq_none (by rw [l2]; omega)]
  subst hcs
  have key : ∀ (y : α) (ys : List Value), D.sh (fun k => B ≤ k ∧ ¬ X k ∧ pv.ownBlock ≠ some k) w y ys → D.sh (fun k => B ≤ k ∧ ¬ X k ∧ pv'.ownBlock ≠ some k) w' y ys := by
    intro y ys h
    have h3 := D.fr (D.mono h (S := fun k => (B ≤ k ∧ ¬ X k ∧ pv.ownBlock ≠ some k) ∧ k < w.heap.size) (fun k hk h => ⟨h, hk⟩)) (Fr.of_grown hg) (fun k hk e => hk.1.2.2 e.symm)
    refine D.mono h3 (fun k _ h => ⟨h.1.1, h.1.2.1, fun e => ?_⟩)
    rcases hv with e' | e'
    · rw [e'] at e; exact h.1.2.2 e
    · rw [e'] at e; cases e; exact absurd h.2 (Nat.lt_irrefl _)
  have l1 := h1.1
  refine ⟨cs' ++ news, by rw [List.length_append]; exact ho, ?_, fun i y hi => ?_⟩
  · intro k hk hxk
    rcases hv with e' | e'
    · rw [e'] at hk; exact h0 k hk hxk
    · rw [e'] at hk; cases hk; exact absurd (hX _ hxk) (Nat.lt_irrefl _)
  by_cases hlt : i < l.length
  · rw [List.getElem?_append_left hlt] at hi
    obtain ⟨xs, a, b, hy⟩ := h2 i y hi
    refine ⟨xs, a, fun j u hu => ?_, key _ _ hy⟩
    have := b j u hu
    rw [List.getElem?_append_left (List.getElem?_eq_some_iff.1 this).1]
    exact this
  · have hi' := (List.getElem?_eq_some_iff.1 hi).1
    obtain rfl : i = l.length := by simp at hi'; omega
    rw [List.getElem?_append_right (Nat.le_refl _)] at hi
    simp at hi
    subst hi
    refine ⟨news, hn, fun j u hu => ?_, key _ _ hx⟩
    rw [List.getElem?_append_right (by omega), show l.length * size + j - cs'.length = j by omega]
    exact hu

/-- The row's cells, in memory. -/
theorem ItRow.cells (h : ItRow D e size B X w pv l) : (l = [] ∧ ∃ a c, pv = .slice a 0 c) ∨
    ∃ g cap, (B ≤ g ∧ ¬ X g ∧ g < w.heap.size) ∧ pv = .slice (some ⟨g, 0, none⟩) l.length cap ∧ l.length ≤ cap ∧ ∀ (i : Nat) (x : α), l[i]? = some x → ∃ xs : List Value, xs.length = size ∧ (∀ (j : Nat) (u : Value), xs[j]? = some u → w.cell? ⟨g, 0 + i * size + j, none⟩ = some u) ∧
      D.sh (fun k => B ≤ k ∧ ¬ X k ∧ k < w.heap.size) w x xs := by
  obtain ⟨cs, h1, h0, h2⟩ := h
  rcases h1.2 with ⟨rfl, hz⟩ | ⟨g, cap, cur, rfl, hb, hgg, hle, _⟩
  · exact .inl ⟨List.eq_nil_of_length_eq_zero hz, none, 0, rfl⟩
  · refine .inr ⟨g, cap, ⟨hb, h0 g rfl, (World.ownsRow.lt h1 g rfl).2⟩, rfl, hle, fun i x hi => ?_⟩
    obtain ⟨xs, a, b, hx⟩ := h2 i x hi
    refine ⟨xs, a, fun j u hu => ?_, D.mono hx (fun k hk h => ⟨h.1, h.2.1, hk⟩)⟩
    have := World.ownsRow.cells (g := g) h1 rfl (i * size + j) u (b j u hu)
    rw [plain_add] at this
    rw [Nat.zero_add]
    exact this

theorem first_one {P : Program} {w : World} {g : Nat} {news : List Value} {t : TypeId} {fr : Nat × Nat} (c size : Nat) (hn : news.length = size) (h : w.heap[g]? = some (.cells news.toArray t fr)) :
    (Builtin.firstCells size 1 (.slice (some ⟨g, 0, none⟩) 1 c)).run P w = .ok news.toArray w := by
  have := run_firstCells_some (P := P) w size 1 ⟨g, 0, none⟩ 1 c news (by rw [hn, Nat.one_mul]) (by
    intro j v hj
    rw [plain_add, cell_of_row w g j _ t fr h]
    simpa using hj)
  simpa using this

/-- The append of one item as an operation of a region. -/
theorem opWp_push {P : Program} {o : Oper} {a : Act} {K : Act → World → Prop} {Q : Exit → Act → World → Prop} (s x : Operand) (t u : TypeId)
    (ho : o.op = .call { callee := .builtin .append, args := #[s, x], argTypes := #[t, u] })
    {z : Value} {bytes : Nat} (ht : P.underlying t = some (.slice e)) (hu : P.underlying u = some (.slice e))
    (hi : (P.info? e).map (fun i => (i.zero, i.size, i.bytes)) = some (some z, size, bytes)) (hzs : z.cells.size = size) (hsz : 0 < size)
    (hs : a.eval s = pv) (h : ItRow D e size B X w pv l) (gg : Nat) (hx : a.eval x = .slice (some ⟨gg, 0, none⟩) 1 1) {news : List Value} {tt : TypeId} {ff : Nat × Nat} (hgg : w.heap[gg]? = some (.cells news.toArray tt ff)) (hn : news.length = size) (h1 : ∀ u ∈ news, u.oneCell' = true)
    (hl : l.length ≤ 1000) (hb : bytes ≤ 1000) (hB : B ≤ w.heap.size) (hX : ∀ k, X k → k < w.heap.size) (y : α) (hy : D.sh (fun k => B ≤ k ∧ ¬ X k ∧ pv.ownBlock ≠ some k) w y news)
    (hK : ∀ v' w', ItRow D e size B X w' v' (l ++ [y]) → Fr (fun k => pv.ownBlock = some k) w w' → (v'.ownBlock = pv.ownBlock ∨ v'.ownBlock = some w.heap.size) → K (a.put o.dst v') w') : o.wp P a w K Q := by
  obtain ⟨i0, hi0, hz0, hz1, hz2⟩ := info_parts hi
  have hr := h
  obtain ⟨cs, hown, _⟩ := hr
  refine opWp_append (P := P) s x t u ho B e i0 z size bytes ht _ hu (.inr ⟨_, rfl⟩) hi0 hz0 hz1 hz2 hzs hsz pv l.length cs hs hown (.slice (some ⟨gg, 0, none⟩) 1 1) 1 news hx (lenOf_slice _ _ _) (by omega) (first_one 1 size hn hgg) (first_one 1 size hn hgg) h1 (by unfold maxLen; omega) ?_ hB ?_
  · have : (l.length + 1) * bytes ≤ 1001 * 1000 := Nat.mul_le_mul (by omega) hb
    omega
  · intro v' w' ho' hg hv
    exact hK v' w' (h.push hy hn hown ho' hg hv hX) ((Fr.of_grown hg).mono (fun _ _ e => e.symm)) hv

end

/-- A cell of a block is stored. -/
theorem setCell_row {w : World} {b : Nat} {cs : Array Value} {t : TypeId} {f : Nat × Nat} (i : Nat) (y : Value) (h : w.heap[b]? = some (.cells cs t f)) :
    (w.setCell ⟨b, i, none⟩ y).heap[b]? = some (.cells (cs.setIfInBounds i y) t f) := by
  unfold World.setCell
  simp only [Array.getElem?_modify, if_true, h, Option.map_some]
  simp

def tyShown : Shown KT where
  sh R w t xs := ∃ x0 x1 x2 x3, xs = [x0, x1, x2, x3] ∧ Shows R w t (.agg #[x0, x1, x2, x3])
  fr := by
    rintro R S w w' x xs ⟨x0, x1, x2, x3, rfl, h⟩ f hS
    exact ⟨x0, x1, x2, x3, rfl, Shows.fr f hS _ _ h⟩
  mono := by
    rintro R S w x xs ⟨x0, x1, x2, x3, rfl, h⟩ hS
    exact ⟨x0, x1, x2, x3, rfl, Shows.mono hS _ _ h⟩

def txShown : Shown Txt where
  sh _ _ t xs := xs = [sv t]
  fr := fun h _ _ => h
  mono := fun h _ => h

/-- A row of texts. -/
theorem ItRow.texts {B : Nat} {X : Nat → Prop} {w : World} {pv : Value} {l : List Txt} (h : ItRow txShown 9 1 B X w pv l) (h1 : l.length ≤ 1000) (h2 : ∀ s ∈ l, s.length ≤ 1000) : Texts (fun k => B ≤ k ∧ ¬ X k ∧ k < w.heap.size) w l pv := by
  refine ⟨h1, h2, ?_⟩
  rcases h.cells with ⟨h3, a, c, h4⟩ | ⟨g, cap, hg, rfl, hle, hc⟩
  · exact .inl ⟨h3, a, c, h4⟩
  · refine .inr ⟨g, 0, cap, hg, rfl, hle, fun j s hj => ?_⟩
    obtain ⟨xs, _, hc, rfl⟩ := hc j s hj
    have := hc 0 _ rfl
    simpa using this

/-- A row of types as a type's parts. -/
theorem ItRow.parts {B : Nat} {X : Nat → Prop} {w : World} {pv vn : Value} {ts : List KT} {k n : Nat} {m : Int} {ns : List Txt} (h : ItRow tyShown 34 4 B X w pv ts) (hn : ts.length = n) (hk : k ≤ 255) (hn1 : n ≤ 1000) (ht : Texts (fun k => B ≤ k) w ns vn) (of : Nat → KT) (hof : ∀ i x, ts[i]? = some x → of i = x) :
    Shows (fun k => B ≤ k) w (.mk k m ns n of) (.agg #[.int .u8 k, .int .i64 m, vn, pv]) := by
  subst hn
  refine ⟨vn, pv, rfl, hk, hn1, ht, ?_⟩
  rcases h.cells with ⟨rfl, a, c, h4⟩ | ⟨g, cap, hg, rfl, hle, hc⟩
  · exact .inl ⟨rfl, a, c, h4⟩
  · refine .inr ⟨g, 0, cap, hg.1, rfl, hle, fun i hi => ?_⟩
    obtain ⟨xs, _, hc, x0, x1, x2, x3, rfl, hx⟩ := hc i ts[i] (List.getElem?_eq_getElem hi)
    refine ⟨x0, x1, x2, x3, hc 0 _ rfl, hc 1 _ rfl, hc 2 _ rfl, hc 3 _ rfl, ?_⟩
    rw [hof i _ (List.getElem?_eq_getElem hi)]
    exact Shows.mono (fun k _ h => h.1) _ _ hx
end
section
namespace Fl
open Ieee

theorem sw_eq : double.signWeight = 9223372036854775808 := by decide +kernel
theorem bin_eq : double.binade = 4503599627370496 := by decide +kernel
theorem inf_eq : double.infRung = 9218868437227405312 := by decide +kernel
theorem least_eq : double.leastPlace = -1074 := by decide +kernel
theorem frac_eq : double.fractionBits = 52 := rfl

def mag (r : Nat) : Nat := if r < 4503599627370496 then r else 4503599627370496 + r % 4503599627370496
def ex (r : Nat) : Nat := if r < 4503599627370496 then 0 else r / 4503599627370496 - 1
def V (r : Nat) : Nat := mag r * 2 ^ ex r
def neg (b : Nat) : Bool := b / 9223372036854775808 % 2 == 1
def rung (b : Nat) : Nat := b % 9223372036854775808
def isNaN (b : Nat) : Bool := decide (9218868437227405312 < rung b)
/-- A word as a whole number: the rung with the sign. -/
def key (b : Nat) : Int := if neg b then -(rung b : Int) else rung b

theorem rung_lt (b : Nat) : rung b < 9223372036854775808 := Nat.mod_lt _ (by decide)

theorem nan_iff {b : Nat} : isNaN b = true ↔ 9218868437227405312 < rung b := by simp [isNaN]
theorem not_nan_iff {b : Nat} : isNaN b = false ↔ rung b ≤ 9218868437227405312 := by simp [isNaN]

theorem read_num {b : Nat} (h : rung b < 9218868437227405312) : double.read b = .number (neg b) (mag (rung b)) (-1074 + (ex (rung b) : Int)) := by
  have h' : b % 9223372036854775808 < 9218868437227405312 := h
  unfold Format.read
  simp only [sw_eq, bin_eq, inf_eq, least_eq, rung, neg, mag, ex]
  by_cases hs : b % 9223372036854775808 < 4503599627370496
  · simp [hs]
  · simp [hs, h']

theorem read_inf {b : Nat} (h : rung b = 9218868437227405312) : double.read b = .infinity (neg b) := by
  have h' : b % 9223372036854775808 = 9218868437227405312 := h
  unfold Format.read
  simp only [sw_eq, bin_eq, inf_eq, neg, h']
  simp

theorem read_nan {b : Nat} (h : isNaN b = true) : double.read b = .nan (neg b) (rung b - 9218868437227405312) := by
  have h' : 9218868437227405312 < b % 9223372036854775808 := nan_iff.1 h
  have h1 : ¬ b % 9223372036854775808 < 4503599627370496 := by omega
  have h2 : ¬ b % 9223372036854775808 < 9218868437227405312 := by omega
  have h3 : ¬ b % 9223372036854775808 = 9218868437227405312 := by omega
  unfold Format.read
  simp only [sw_eq, bin_eq, inf_eq, neg, rung]
  rw [if_neg h1, if_neg h2, if_neg h3]

/-- A word is told by its sign and its rung. -/
theorem word_of (b : Nat) (hb : b < 18446744073709551616) : double.word (neg b) (rung b) = b := by
  unfold Format.word neg rung
  rw [sw_eq]
  by_cases h : b / 9223372036854775808 % 2 = 1
  · simp only [h, beq_self_eq_true, if_true]; omega
  · have h0 : (b / 9223372036854775808 % 2 == 1) = false := by simpa using h
    simp only [h0]; simp only [Bool.false_eq_true, if_false]; omega

theorem neg_word (s : Bool) (r : Nat) (h : r < 9223372036854775808) : neg (double.word s r) = s := by
  unfold neg Format.word
  rw [sw_eq]
  cases s
  · simp; omega
  · simp; omega
theorem rung_word (s : Bool) (r : Nat) (h : r < 9223372036854775808) : rung (double.word s r) = r := by
  unfold rung Format.word
  rw [sw_eq]
  cases s
  · simp; omega
  · simp; omega
theorem word_lt (s : Bool) (r : Nat) (h : r < 9223372036854775808) : double.word s r < 18446744073709551616 := by
  unfold Format.word
  rw [sw_eq]
  split <;> omega

theorem same_word {a b : Nat} (ha : a < 18446744073709551616) (hb : b < 18446744073709551616) (hn : neg a = neg b) (hr : rung a = rung b) : a = b := by
  rw [← word_of a ha, ← word_of b hb, hn, hr]

theorem mag_ex (r : Nat) : r = ex r * 4503599627370496 + mag r := by
  unfold ex mag
  split <;> omega

theorem mag_zero {r : Nat} : mag r = 0 ↔ r = 0 := by
  unfold mag
  split <;> omega

theorem mag_lt (r : Nat) : mag r < 9007199254740992 := by
  unfold mag
  split <;> omega

theorem mag_ge {r : Nat} (h : 0 < ex r) : 4503599627370496 ≤ mag r := by
  unfold ex at h
  unfold mag
  split at h
  · omega
  · rename_i h'; rw [if_neg h']; omega

theorem V_succ (r : Nat) : V r < V (r + 1) := by
  unfold V
  by_cases h1 : r + 1 < 4503599627370496
  · simp [mag, ex, h1, show r < 4503599627370496 by omega]
  · by_cases h2 : r + 1 = 4503599627370496
    · obtain rfl : r = 4503599627370495 := by omega
      decide +kernel
    · have e0 : mag r = 4503599627370496 + r % 4503599627370496 := by unfold mag; rw [if_neg (by omega)]
      have e1 : mag (r + 1) = 4503599627370496 + (r + 1) % 4503599627370496 := by unfold mag; rw [if_neg (by omega)]
      have x0 : ex r = r / 4503599627370496 - 1 := by unfold ex; rw [if_neg (by omega)]
      have x1 : ex (r + 1) = (r + 1) / 4503599627370496 - 1 := by unfold ex; rw [if_neg (by omega)]
      by_cases h3 : r % 4503599627370496 + 1 = 4503599627370496
      · have x2 : ex (r + 1) = ex r + 1 := by omega
        have m1 : mag (r + 1) = 4503599627370496 := by omega
        have m0 : mag r = 9007199254740991 := by omega
        rw [x2, m1, m0, Nat.pow_succ]
        have : 0 < 2 ^ ex r := Nat.two_pow_pos _
        omega
      · have x2 : ex (r + 1) = ex r := by omega
        have m1 : mag (r + 1) = mag r + 1 := by omega
        rw [x2, m1, Nat.add_mul]
        have : 0 < 2 ^ ex r := Nat.two_pow_pos _
        omega

theorem V_lt {a b : Nat} (h : a < b) : V a < V b := by
  induction b with
  | zero => omega
  | succ n ih =>
    have := V_succ n
    by_cases e : a = n
    · subst e; exact this
    · have := ih (by omega); omega

theorem V_lt_iff {a b : Nat} : V a < V b ↔ a < b := by
  refine ⟨fun h => ?_, V_lt⟩
  rcases Nat.lt_trichotomy a b with h' | h' | h'
  · exact h'
  · subst h'; omega
  · have := V_lt h'; omega

theorem V_zero : V 0 = 0 := by decide +kernel
theorem V_pos {r : Nat} : V r = 0 ↔ r = 0 := by
  refine ⟨fun h => ?_, fun h => by subst h; exact V_zero⟩
  rcases Nat.eq_zero_or_pos r with h' | h'
  · exact h'
  · have := V_lt h'; rw [V_zero] at this; omega

theorem signed_eq (s : Bool) (m u : Nat) : signed s m u = if s then -((m * 2 ^ u : Nat) : Int) else ((m * 2 ^ u : Nat) : Int) := by
  unfold signed
  rw [Nat.shiftLeft_eq]

theorem compare_int (x y x' y' : Int) (h : x < y ↔ x' < y') (h' : y < x ↔ y' < x') : compare x y = compare x' y' := by
  show compareOfLessAndEq x y = compareOfLessAndEq x' y'
  unfold compareOfLessAndEq
  by_cases h1 : x < y
  · rw [if_pos h1, if_pos (h.1 h1)]
  · rw [if_neg h1, if_neg (fun q => h1 (h.2 q))]
    by_cases h2 : x = y
    · rw [if_pos h2, if_pos (by omega)]
    · rw [if_neg h2, if_neg (by omega)]

theorem order_nan {a b : Nat} (h : isNaN a = true ∨ isNaN b = true) : double.order a b = none := by
  unfold Format.order
  rcases h with h | h
  · rw [read_nan h]; rfl
  · rw [read_nan h]; cases double.read a <;> rfl

theorem order_num_num (s t : Bool) (m n : Nat) (i j : Int) : (Datum.number s m i).order (.number t n j) = some (compare (signed s m (i - min i j).toNat) (signed t n (j - min i j).toNat)) := rfl

theorem order_finite {a b : Nat} (ha : rung a < 9218868437227405312) (hb : rung b < 9218868437227405312) : double.order a b = some (compare (key a) (key b)) := by
  unfold Format.order
  rw [read_num ha, read_num hb, order_num_num]
  generalize hra : rung a = ra at *
  generalize hrb : rung b = rb at *
  congr 1
  have hd : ∃ d : Nat, d ≤ ex ra ∧ d ≤ ex rb ∧ (-1074 + (ex ra : Int) - min (-1074 + (ex ra : Int)) (-1074 + (ex rb : Int))).toNat = ex ra - d ∧ (-1074 + (ex rb : Int) - min (-1074 + (ex ra : Int)) (-1074 + (ex rb : Int))).toNat = ex rb - d :=
    ⟨min (ex ra) (ex rb), by omega, by omega, by omega, by omega⟩
  obtain ⟨d, h1, h2, e1, e2⟩ := hd
  rw [e1, e2, signed_eq, signed_eq]
  have v1 : V ra = mag ra * 2 ^ (ex ra - d) * 2 ^ d := by
    unfold V; rw [Nat.mul_assoc, ← Nat.pow_add, Nat.sub_add_cancel h1]
  have v2 : V rb = mag rb * 2 ^ (ex rb - d) * 2 ^ d := by
    unfold V; rw [Nat.mul_assoc, ← Nat.pow_add, Nat.sub_add_cancel h2]
  generalize mag ra * 2 ^ (ex ra - d) = X at *
  generalize mag rb * 2 ^ (ex rb - d) = Y at *
  have hp : 0 < 2 ^ d := Nat.two_pow_pos _
  have c1 : X < Y ↔ ra < rb := by rw [← @V_lt_iff ra rb, v1, v2]; exact (Nat.mul_lt_mul_right hp).symm
  have c2 : Y < X ↔ rb < ra := by rw [← @V_lt_iff rb ra, v1, v2]; exact (Nat.mul_lt_mul_right hp).symm
  have z1 : X = 0 ↔ ra = 0 := by
    rw [← @V_pos ra, v1, Nat.mul_eq_zero]; constructor
    · exact Or.inl
    · rintro (h | h); exact h; omega
  have z2 : Y = 0 ↔ rb = 0 := by
    rw [← @V_pos rb, v2, Nat.mul_eq_zero]; constructor
    · exact Or.inl
    · rintro (h | h); exact h; omega
  unfold key
  rw [hra, hrb]
  refine compare_int _ _ _ _ ?_ ?_ <;> cases neg a <;> cases neg b <;> simp only [if_true, if_false, Bool.false_eq_true] <;> omega

theorem order_num {a b : Nat} (ha : isNaN a = false) (hb : isNaN b = false) : double.order a b = some (compare (key a) (key b)) := by
  have ha' := not_nan_iff.1 ha
  have hb' := not_nan_iff.1 hb
  by_cases h1 : rung a = 9218868437227405312
  · by_cases h2 : rung b = 9218868437227405312
    · unfold Format.order
      rw [read_inf h1, read_inf h2]
      unfold key
      rw [h1, h2]
      cases neg a <;> cases neg b <;> rfl
    · have h2' : rung b < 9218868437227405312 := by omega
      unfold Format.order
      rw [read_inf h1, read_num h2']
      show some (if neg a then Ordering.lt else .gt) = _
      congr 1
      unfold key
      rw [h1]
      show _ = compareOfLessAndEq _ _
      unfold compareOfLessAndEq
      cases neg a <;> cases neg b <;> simp only [if_true, if_false, Bool.false_eq_true]
      · rw [if_neg (by omega), if_neg (by omega)]
      · rw [if_neg (by omega), if_neg (by omega)]
      · rw [if_pos (by omega)]
      · rw [if_pos (by omega)]
  · have h1' : rung a < 9218868437227405312 := by omega
    by_cases h2 : rung b = 9218868437227405312
    · unfold Format.order
      rw [read_num h1', read_inf h2]
      show some (if neg b then Ordering.gt else .lt) = _
      congr 1
      unfold key
      rw [h2]
      show _ = compareOfLessAndEq _ _
      unfold compareOfLessAndEq
      cases neg a <;> cases neg b <;> simp only [if_true, if_false, Bool.false_eq_true]
      · rw [if_pos (by omega)]
      · rw [if_neg (by omega), if_neg (by omega)]
      · rw [if_pos (by omega)]
      · rw [if_neg (by omega), if_neg (by omega)]
    · exact order_finite h1' (by omega)

theorem compare_lt {x y : Int} : (some (compare x y) == some Ordering.lt) = decide (x < y) := by
  show (some (compareOfLessAndEq x y) == _) = _
  unfold compareOfLessAndEq
  by_cases h : x < y
  · simp [h]
  · by_cases h' : x = y <;> simp [h, h']
theorem compare_eq {x y : Int} : (some (compare x y) == some Ordering.eq) = decide (x = y) := by
  show (some (compareOfLessAndEq x y) == _) = _
  unfold compareOfLessAndEq
  by_cases h : x < y
  · have : ¬ x = y := by omega
    simp [h, this]
  · by_cases h' : x = y <;> simp [h, h']
theorem compare_gt {x y : Int} : (some (compare x y) == some Ordering.gt) = decide (y < x) := by
  show (some (compareOfLessAndEq x y) == _) = _
  unfold compareOfLessAndEq
  by_cases h : x < y
  · have : ¬ y < x := by omega
    simp [h, this]
  · by_cases h' : x = y
    · subst h'; simp
    · have : y < x := by omega
      simp [h, h', this]

/-- 'x != x': just a NaN. -/
theorem self_ne (b : Nat) : (double.order b b != some .eq) = isNaN b := by
  cases h : isNaN b
  · rw [order_num h h]
    show (!_) = _
    rw [compare_eq]; simp
  · rw [order_nan (.inl h)]; rfl

theorem log2_mul (m k : Nat) (h0 : m ≠ 0) : (m * 2 ^ k).log2 = m.log2 + k := by
  have h2k : 0 < 2 ^ k := Nat.two_pow_pos _
  have hne : m * 2 ^ k ≠ 0 := Nat.mul_ne_zero h0 (by omega)
  have a1 : 2 ^ m.log2 ≤ m := (Nat.le_log2 h0).1 (Nat.le_refl _)
  have a2 : m < 2 ^ (m.log2 + 1) := (Nat.log2_lt h0).1 (Nat.lt_succ_self _)
  apply Nat.le_antisymm
  · have : (m * 2 ^ k).log2 < m.log2 + 1 + k := by
      rw [Nat.log2_lt hne, Nat.pow_add]
      exact Nat.mul_lt_mul_of_pos_right a2 h2k
    omega
  · rw [Nat.le_log2 hne, Nat.pow_add]
    exact Nat.mul_le_mul_right _ a1

theorem cut_exact (s : Bool) (m k : Nat) (h0 : m ≠ 0) : Toward.even.cut s (m * 2 ^ k) k = m := by
  have h2k : 0 < 2 ^ k := Nat.two_pow_pos _
  unfold Toward.cut
  have g : 1 <<< min k ((m * 2 ^ k).log2 + 2) = 2 ^ k := by
    rw [log2_mul m k h0, Nat.min_eq_left (by omega), Nat.shiftLeft_eq, Nat.one_mul]
  simp only [g]
  rw [Nat.mul_div_cancel _ h2k, Nat.mul_mod_left]
  have e1 : decide (2 ^ k < 2 * 0) = false := by simp
  have e2 : (2 ^ k == 2 * 0) = false := by simp
  simp only [e1, e2]
  rfl

theorem nearest_zero (s : Bool) (place : Int) : double.nearest s 0 place = double.word s 0 := by
  unfold Format.nearest
  rw [if_pos rfl]

theorem nearest_last (s : Bool) (m : Nat) (place last : Int) (h0 : m ≠ 0) (hl : max (place + (m.log2 : Int) - 52) (-1074) = last) :
    double.nearest s m place = double.word s (min ((last + 1074).toNat * 4503599627370496 + Toward.even.cut s (m <<< (place - last).toNat) (last - place).toNat) 9218868437227405312) := by
  unfold Format.nearest
  rw [if_neg h0, bin_eq, inf_eq, least_eq, frac_eq]
  have hl' : max (place + (m.log2 : Int) - ((52 : Nat) : Int)) (-1074) = last := hl
  simp only [hl']
  rw [show last - -1074 = last + 1074 by omega]

/-- What is read is written as the same word: also with 'mag * 2 ^ k' at 'place - k'. -/
theorem nearest_exact (s : Bool) (r k : Nat) (hr : r < 9218868437227405312) (place : Int) (hp : place = -1074 + (ex r : Int) - k) :
    double.nearest s (mag r * 2 ^ k) place = double.word s r := by
  have hme := mag_ex r
  by_cases h0 : mag r = 0
  · have hr0 : r = 0 := mag_zero.1 h0
    rw [h0, Nat.zero_mul, nearest_zero, hr0]
  have h2k : 0 < 2 ^ k := Nat.two_pow_pos _
  have hne : mag r * 2 ^ k ≠ 0 := Nat.mul_ne_zero h0 (by omega)
  have hl52 : (mag r).log2 < 53 := by rw [Nat.log2_lt h0]; exact mag_lt r
  have hge : 0 < ex r → 52 ≤ (mag r).log2 := by
    intro hx
    rw [Nat.le_log2 h0]; exact mag_ge hx
  have hlast : max (place + ((mag r * 2 ^ k).log2 : Int) - 52) (-1074) = -1074 + (ex r : Int) := by
    rw [log2_mul _ k h0, hp]
    omega
  rw [nearest_last s _ place _ hne hlast]
  have t1 : (place - (-1074 + (ex r : Int))).toNat = 0 := by omega
  have t2 : (-1074 + (ex r : Int) - place).toNat = k := by omega
  have t3 : (-1074 + (ex r : Int) + 1074).toNat = ex r := by omega
  rw [t1, t2, t3, Nat.shiftLeft_zero, cut_exact s _ k h0, ← hme, Nat.min_eq_left (by omega)]

end Fl
end
section
namespace Fl
open Ieee

/-- The word that real takes for a float. -/
def canon (b : Nat) : Nat := if isNaN b then 9221120237041090560 else b
/-- What real answers for an operation's outcome. -/
def res : Option Nat → Nat
  | some r => canon r
  | none => 9221120237041090560

theorem canon_canon (b : Nat) : canon (canon b) = canon b := by
  unfold canon
  by_cases h : isNaN b = true
  · rw [if_pos h]; rfl
  · rw [if_neg h, if_neg h]
theorem canon_res (o : Option Nat) : canon (res o) = res o := by
  cases o with
  | none => rfl
  | some r => exact canon_canon r
theorem canon_of_not {b : Nat} (h : isNaN b = false) : canon b = b := by unfold canon; rw [h]; rfl
theorem canon_of_nan {b : Nat} (h : isNaN b = true) : canon b = 9221120237041090560 := by unfold canon; rw [h]; rfl
theorem canon_lt {b : Nat} (h : b < 18446744073709551616) : canon b < 18446744073709551616 := by
  unfold canon; split <;> omega
theorem nan_canon (b : Nat) : isNaN (canon b) = isNaN b := by
  unfold canon
  cases h : isNaN b
  · simp [h]
  · rfl

/-- Every NaN that the model may draw is a NaN. -/
theorem drawn_nan (t : Nat) : isNaN (t % 2 * 2 ^ 63 + 9218868437227405312 + 1 + t / 2 % (2 ^ 52 - 1)) = true := by
  rw [nan_iff]
  unfold rung
  show 9218868437227405312 < (t % 2 * 9223372036854775808 + 9218868437227405312 + 1 + t / 2 % 4503599627370495) % 9223372036854775808
  generalize ht : t % 2 = p
  generalize hq : t / 2 % 4503599627370495 = q
  have h1 : p = 0 ∨ p = 1 := by omega
  have h2 : q < 4503599627370495 := by omega
  rcases h1 with rfl | rfl <;> omega
theorem canon_drawn (k : Nat) (x y : Nat) : canon (Question.cut (.nanBits .f64 x y) k) = 9221120237041090560 :=
  canon_of_nan (drawn_nan k)

theorem map_write_lt {o : Option Datum} {r : Nat} (h : o.map double.write = some r) : r < 18446744073709551616 := double.map_write_lt h

theorem res_lt {o : Option Datum} : res (o.map double.write) < 18446744073709551616 := by
  cases h : o.map double.write with
  | none => show 9221120237041090560 < _; omega
  | some r => exact canon_lt (map_write_lt h)

/-- The sign turned. -/
def opp (b : Nat) : Nat := b ^^^ 9223372036854775808

theorem opp_neg (b : Nat) : neg (opp b) = !neg b := by
  have e : ∀ x : Nat, neg x = x.testBit 63 := by
    intro x
    unfold neg
    rw [Nat.testBit_eq_decide_div_mod_eq]
    show _ = decide (x / 9223372036854775808 % 2 = 1)
    by_cases h : x / 9223372036854775808 % 2 = 1 <;> simp [h]
  rw [e, e]
  unfold opp
  rw [Nat.testBit_xor, show Nat.testBit 9223372036854775808 63 = true by decide +kernel]
  simp
theorem opp_rung (b : Nat) : rung (opp b) = rung b := by
  unfold opp rung
  rw [show (9223372036854775808 : Nat) = 2 ^ 63 from rfl, Nat.xor_mod_two_pow, Nat.mod_self, Nat.xor_zero]
theorem opp_lt {b : Nat} (h : b < 18446744073709551616) : opp b < 18446744073709551616 :=
  Nat.xor_lt_two_pow (n := 64) h (by decide)
theorem opp_nan (b : Nat) : isNaN (opp b) = isNaN b := by unfold isNaN; rw [opp_rung]
theorem opp_key (b : Nat) : key (opp b) = -key b := by
  unfold key
  rw [opp_neg, opp_rung]
  cases neg b <;> simp

theorem read_opp (b : Nat) : double.read (opp b) = (double.read b).opposite := by
  cases h : isNaN b
  · have h' := not_nan_iff.1 h
    by_cases hi : rung b = 9218868437227405312
    · rw [read_inf hi, read_inf (by rw [opp_rung]; exact hi), opp_neg]; rfl
    · rw [read_num (b := b) (by omega), read_num (b := opp b) (by rw [opp_rung]; omega), opp_neg, opp_rung]; rfl
  · rw [read_nan h, read_nan (b := opp b) (by rw [opp_nan]; exact h), opp_neg, opp_rung]; rfl

theorem sum_comm (x y : Datum) : x.sum y = y.sum x := by
  cases x with
  | nan s t => cases y <;> rfl
  | infinity s =>
    cases y with
    | nan => rfl
    | infinity t =>
      show (if s = t then some (Datum.infinity s) else none) = if t = s then some (Datum.infinity t) else none
      cases s <;> cases t <;> rfl
    | number => rfl
  | number s m i =>
    cases y with
    | nan => rfl
    | infinity t => rfl
    | number t n j =>
      unfold Datum.sum
      simp only [Int.min_comm j i, Int.add_comm (signed t n _), Bool.and_comm t s]

theorem product_comm (x y : Datum) : x.product y = y.product x := by
  cases x with
  | nan s t => cases y <;> rfl
  | infinity s =>
    cases y with
    | nan => rfl
    | infinity t => show some (Datum.infinity (s ^^ t)) = some (Datum.infinity (t ^^ s)); rw [Bool.xor_comm]
    | number t n j => rfl
  | number s m i =>
    cases y with
    | nan => rfl
    | infinity t => rfl
    | number t n j =>
      show some (Datum.number (s ^^ t) (m * n) (i + j)) = some (Datum.number (t ^^ s) (n * m) (j + i))
      rw [Bool.xor_comm, Nat.mul_comm, Int.add_comm]

theorem product_opp (x y : Datum) : x.opposite.product y = x.product y.opposite := by
  cases x with
  | nan s t => cases y <;> rfl
  | infinity s =>
    cases y with
    | nan => rfl
    | infinity t => show some (Datum.infinity (!s ^^ t)) = some (Datum.infinity (s ^^ !t)); cases s <;> cases t <;> rfl
    | number t n j => show (if n = 0 then none else some (Datum.infinity (!s ^^ t))) = if n = 0 then none else some (Datum.infinity (s ^^ !t)); cases s <;> cases t <;> rfl
  | number s m i =>
    cases y with
    | nan => rfl
    | infinity t => show (if m = 0 then none else some (Datum.infinity (t ^^ !s))) = if m = 0 then none else some (Datum.infinity ((!t) ^^ s)); cases s <;> cases t <;> rfl
    | number t n j => show some (Datum.number (!s ^^ t) (m * n) (i + j)) = some (Datum.number (s ^^ !t) (m * n) (i + j)); cases s <;> cases t <;> rfl

theorem add_comm (a b : Nat) : double.add a b = double.add b a := by unfold Format.add; rw [sum_comm]
theorem mul_comm (a b : Nat) : double.mul a b = double.mul b a := by unfold Format.mul; rw [product_comm]
theorem mul_opp (a b : Nat) : double.mul (opp a) b = double.mul a (opp b) := by unfold Format.mul; rw [read_opp, read_opp, product_opp]

theorem add_nan {a : Nat} (b : Nat) (h : isNaN a = true) : double.add a b = none := by
  unfold Format.add; rw [read_nan h]; rfl
theorem mul_nan {a : Nat} (b : Nat) (h : isNaN a = true) : double.mul a b = none := by
  unfold Format.mul; rw [read_nan h]; rfl
theorem div_nan {a : Nat} (b : Nat) (h : isNaN a = true) : double.div a b = none := by
  unfold Format.div; rw [read_nan h]; rfl

theorem write_number (s : Bool) (r k : Nat) (hr : r < 9218868437227405312) (m : Nat) (hm : m = mag r * 2 ^ k) (place : Int) (hp : place = -1074 + (ex r : Int) - k) :
    double.write (.number s m place) = double.word s r := by
  subst hm
  exact nearest_exact s r k hr place hp

theorem read_mzero : double.read 9223372036854775808 = .number true 0 (-1074) := by decide +kernel
theorem read_zero : double.read 0 = .number false 0 (-1074) := by decide +kernel
theorem read_one : double.read 4607182418800017408 = .number false 4503599627370496 (-52) := by decide +kernel
theorem read_infp : double.read 9218868437227405312 = .infinity false := by decide +kernel

theorem sum_num_num (s t : Bool) (m n : Nat) (i j : Int) : (Datum.number s m i).sum (.number t n j) =
    some (.number (if signed s m (i - min i j).toNat + signed t n (j - min i j).toNat = 0 then s && t else decide (signed s m (i - min i j).toNat + signed t n (j - min i j).toNat < 0)) (signed s m (i - min i j).toNat + signed t n (j - min i j).toNat).natAbs (min i j)) := rfl

/-- 'a + -0' is a. -/
theorem add_mzero {a : Nat} (ha : a < 18446744073709551616) (h : isNaN a = false) : double.add a 9223372036854775808 = some a := by
  have h' := not_nan_iff.1 h
  unfold Format.add
  rw [read_mzero]
  by_cases hi : rung a = 9218868437227405312
  · rw [read_inf hi]
    show some (double.word (neg a) double.infRung) = some a
    rw [inf_eq, ← hi, word_of a ha]
  · have hr : rung a < 9218868437227405312 := by omega
    rw [read_num hr, sum_num_num]
    have e1 : min (-1074 + (ex (rung a) : Int)) (-1074) = -1074 := by omega
    have e2 : (-1074 + (ex (rung a) : Int) - -1074).toNat = ex (rung a) := by omega
    rw [e1, e2, signed_eq, signed_eq]
    show some (double.write _) = some a
    congr 1
    rw [← word_of a ha]
    rw [neg_word _ _ (rung_lt a), rung_word _ _ (rung_lt a)]
    have hz : mag (rung a) * 2 ^ ex (rung a) = 0 ↔ mag (rung a) = 0 := by
      rw [Nat.mul_eq_zero]; have : 0 < 2 ^ ex (rung a) := Nat.two_pow_pos _; omega
    have hs : (if (if neg a = true then -((mag (rung a) * 2 ^ ex (rung a) : Nat) : Int) else ((mag (rung a) * 2 ^ ex (rung a) : Nat) : Int)) + (if true = true then -((0 * 2 ^ ((-1074 : Int) - -1074).toNat : Nat) : Int) else ((0 * 2 ^ ((-1074 : Int) - -1074).toNat : Nat) : Int)) = 0 then neg a && true else decide ((if neg a = true then -((mag (rung a) * 2 ^ ex (rung a) : Nat) : Int) else ((mag (rung a) * 2 ^ ex (rung a) : Nat) : Int)) + (if true = true then -((0 * 2 ^ ((-1074 : Int) - -1074).toNat : Nat) : Int) else ((0 * 2 ^ ((-1074 : Int) - -1074).toNat : Nat) : Int)) < 0)) = neg a := by
      rw [Nat.zero_mul]
      generalize mag (rung a) * 2 ^ ex (rung a) = X
      cases neg a
      · simp
      · simp; omega
    rw [hs]
    refine write_number (neg a) (rung a) (ex (rung a)) hr _ ?_ _ (by omega)
    rw [Nat.zero_mul]
    generalize mag (rung a) * 2 ^ ex (rung a) = X
    cases neg a <;> simp

/-- 'a * 1' is a. -/
theorem mul_one {a : Nat} (ha : a < 18446744073709551616) (h : isNaN a = false) : double.mul a 4607182418800017408 = some a := by
  have h' := not_nan_iff.1 h
  unfold Format.mul
  rw [read_one]
  by_cases hi : rung a = 9218868437227405312
  · rw [read_inf hi]
    show some (double.word (neg a ^^ false) double.infRung) = some a
    rw [inf_eq, Bool.xor_false, ← hi, word_of a ha]
  · have hr : rung a < 9218868437227405312 := by omega
    rw [read_num hr]
    show some (double.write (.number (neg a ^^ false) (mag (rung a) * 4503599627370496) (-1074 + (ex (rung a) : Int) + -52))) = some a
    rw [Bool.xor_false, write_number (neg a) (rung a) 52 hr _ rfl _ (by omega), word_of a ha]

theorem quotient_zero (d : Nat) (s t : Bool) (m : Nat) (i j : Int) : (Datum.number s m i).quotient d (.number t 0 j) = if m = 0 then none else some (.infinity (s ^^ t)) := rfl

/-- 'a / 0': a NaN where a is a zero; else infinity with a's sign. -/
theorem div_zero_zero {a : Nat} (h : rung a = 0) : double.div a 0 = none := by
  unfold Format.div
  rw [read_zero, read_num (by omega), h]
  rfl
theorem div_zero {a : Nat} (h : isNaN a = false) (h0 : rung a ≠ 0) : double.div a 0 = some (double.word (neg a) 9218868437227405312) := by
  have h' := not_nan_iff.1 h
  unfold Format.div
  rw [read_zero]
  by_cases hi : rung a = 9218868437227405312
  · rw [read_inf hi]
    show some (double.word (neg a ^^ false) double.infRung) = _
    rw [inf_eq, Bool.xor_false]
  · rw [read_num (by omega)]
    rw [quotient_zero, if_neg (fun e => h0 (mag_zero.1 e)), Bool.xor_false]
    show some (double.word (neg a) double.infRung) = _
    rw [inf_eq]

/-- 'a / +Inf' of a finite a: a zero with a's sign. -/
theorem div_inf {a : Nat} (h : rung a < 9218868437227405312) : double.div a 9218868437227405312 = some (double.word (neg a) 0) := by
  unfold Format.div
  rw [read_infp, read_num h]
  show some (double.nearest (neg a ^^ false) 0 0) = _
  rw [nearest_zero, Bool.xor_false]
theorem div_inf_inf {a : Nat} (h : rung a = 9218868437227405312) (b : Nat) (hb : rung b = 9218868437227405312) : double.div a b = none := by
  unfold Format.div
  rw [read_inf h, read_inf hb]
  rfl

/-- 'a / a': 1 of a finite a that is no zero; else a NaN. -/
theorem div_self {a : Nat} (h : rung a < 9218868437227405312) (h0 : rung a ≠ 0) : double.div a a = some 4607182418800017408 := by
  have hm : mag (rung a) ≠ 0 := fun e => h0 (mag_zero.1 e)
  unfold Format.div
  rw [read_num h]
  generalize mag (rung a) = m at *
  generalize (-1074 + (ex (rung a) : Int)) = i
  generalize neg a = s
  unfold Datum.quotient
  simp only [if_neg hm]
  have e1 : double.fractionBits + 2 + m.log2 - m.log2 = 54 := by rw [frac_eq]; omega
  have e2 : m <<< 54 = 18014398509481984 * m := by rw [Nat.shiftLeft_eq, Nat.mul_comm]
  simp only [e1, e2]
  have e3 : 18014398509481984 * m / m = 18014398509481984 := Nat.mul_div_cancel _ (by omega)
  have e4 : 18014398509481984 * m % m = 0 := Nat.mul_mod_left _ _
  rw [e3, e4, Bool.xor_self, show i - i - ((54 : Nat) : Int) - 1 = -55 by omega]
  decide +kernel
theorem div_self_none {a : Nat} (h : rung a = 0 ∨ 9218868437227405312 ≤ rung a) : double.div a a = none := by
  by_cases hn : isNaN a = true
  · exact div_nan a hn
  have hn' := not_nan_iff.1 (by simpa using hn)
  by_cases hi : rung a = 9218868437227405312
  · exact div_inf_inf hi a hi
  have h0 : rung a = 0 := by omega
  unfold Format.div
  rw [read_num (by omega), h0]
  rfl

/-- Cut towards zero. -/
def tr (b : Nat) : Int :=
  match (double.read b).toInt .zero with
  | some n => n
  | none => 0

theorem toInt_num (s : Bool) (m : Nat) (i : Int) : (Datum.number s m i).toInt .zero = some (signed s (Toward.zero.cut s (m <<< i.toNat) (-i).toNat) 0) := rfl
theorem cut_zero (s : Bool) (n d : Nat) : Toward.zero.cut s n d = n / (1 <<< min d (n.log2 + 2)) := rfl

theorem toInt_small {b : Nat} (h : rung b ≤ 4746794007248502784) : ∃ c : Nat, c < 9007199254740992 ∧ (double.read b).toInt .zero = some (if neg b then -(c : Int) else c) ∧ (double.read (opp b)).toInt .zero = some (if neg b then (c : Int) else -(c : Int)) := by
  have hx : ex (rung b) ≤ 1053 := by unfold ex; split <;> omega
  rw [read_opp, read_num (by omega)]
  refine ⟨Toward.zero.cut (neg b) (mag (rung b) <<< (-1074 + (ex (rung b) : Int)).toNat) (-(-1074 + (ex (rung b) : Int))).toNat, ?_, ?_, ?_⟩
  · rw [cut_zero, show (-1074 + (ex (rung b) : Int)).toNat = 0 by omega, Nat.shiftLeft_zero]
    exact Nat.lt_of_le_of_lt (Nat.div_le_self _ _) (mag_lt _)
  · rw [toInt_num, signed_eq]
    simp
  · show (Datum.number (!neg b) _ _).toInt .zero = _
    rw [toInt_num, signed_eq, cut_zero, cut_zero]
    cases neg b <;> simp

theorem toInt_val {b : Nat} (h : rung b ≤ 4746794007248502784) : floatToIntVal .f64 b .i64 = some (tr b) := by
  obtain ⟨c, hc, e, _⟩ := toInt_small h
  unfold floatToIntVal tr
  have e' : (FloatKind.decode .f64 b).toInt .zero = some (if neg b then -(c : Int) else c) := e
  rw [e', e]
  have : IntKind.i64.min ≤ (if neg b then -(c : Int) else c) ∧ (if neg b then -(c : Int) else c) ≤ IntKind.i64.max := by
    rw [show IntKind.i64.min = -9223372036854775808 from rfl, show IntKind.i64.max = 9223372036854775807 from rfl]
    cases neg b <;> simp <;> omega
  simp only [this, and_self, if_true]
theorem tr_opp {b : Nat} (h : rung b ≤ 4746794007248502784) : tr (opp b) = -tr b := by
  obtain ⟨c, _, e1, e2⟩ := toInt_small h
  unfold tr
  rw [e1, e2]
  cases neg b <;> simp

/-- What real's Whole answers. -/
def whole (b : Nat) : Int :=
  if isNaN b then 0
  else if 4746794007248502784 ≤ key b then 2147483648
  else if key b ≤ -4746794007248502784 then -2147483648
  else tr b

theorem whole_opp {b : Nat} : whole (opp b) = -whole b := by
  unfold whole
  rw [opp_nan, opp_key]
  cases h : isNaN b
  · simp only [Bool.false_eq_true, if_false]
    by_cases h1 : 4746794007248502784 ≤ key b
    · rw [if_neg (by omega), if_pos (by omega), if_pos h1]
    · by_cases h2 : key b ≤ -4746794007248502784
      · rw [if_pos (by omega), if_neg h1, if_pos h2]; rfl
      · rw [if_neg (by omega), if_neg (by omega), if_neg h1, if_neg h2]
        refine tr_opp ?_
        unfold key at h1 h2
        cases hn : neg b <;> simp [hn] at h1 h2 <;> omega
  · rfl

/-- real's Same, as Go's own comparison tells it. -/
theorem same_iff {a b : Nat} (ha : a < 18446744073709551616) (hb : b < 18446744073709551616) :
    (canon a = canon b) ↔ (isNaN a = true ∧ isNaN b = true) ∨ ((isNaN a = false ∧ isNaN b = false) ∧ key a = key b ∧ neg a = neg b) := by
  cases h1 : isNaN a
  · cases h2 : isNaN b
    · rw [canon_of_not h1, canon_of_not h2]
      simp only [Bool.false_eq_true, and_self, false_or, true_and]
      refine ⟨fun e => by subst e; exact ⟨rfl, rfl⟩, fun ⟨e, e'⟩ => same_word ha hb e' ?_⟩
      unfold key at e
      rw [e'] at e
      cases hn : neg b <;> simp [hn] at e <;> omega
    · have hne : canon a ≠ canon b := by
        intro e
        have := nan_canon a
        rw [e, nan_canon, h1, h2] at this
        exact absurd this (by decide)
      simp [hne]
  · cases h2 : isNaN b
    · have hne : canon a ≠ canon b := by
        intro e
        have := nan_canon a
        rw [e, nan_canon, h1, h2] at this
        exact absurd this (by decide)
      simp [hne]
    · rw [canon_of_nan h1, canon_of_nan h2]; simp

end Fl
end
section
theorem f64_bits (b : Nat) (w : World) : (callFunc 57 #[.float .f64 b]).run Try.prog w = .ok (.value (.int .u64 b)) w := by
  rw [run_callFunc_extern Try.func57 (e := Extern.MathFloatBits.float64bits) (by kernel_rfl) (by kernel_rfl) (by kernel_rfl) (by kernel_rfl)]
  rfl
theorem f64_of (n : Int) (w : World) : (callFunc 68 #[.int .u64 n]).run Try.prog w = .ok (.value (.float .f64 n.toNat)) w := by
  rw [run_callFunc_extern Try.func68 (e := Extern.MathFloatBits.float64frombits) (by kernel_rfl) (by kernel_rfl) (by kernel_rfl) (by kernel_rfl)]
  rfl
theorem f64_neg (b : Nat) (w : World) : (Op.unary .neg (.float .f64 b)).run Try.prog w = .ok (.float .f64 (Fl.opp b)) w := rfl
attribute [go_sem] f64_bits f64_of f64_neg

theorem isNaN_any (b : Nat) (w : World) : Calls Try.prog 67 #[.float .f64 b] w fun e w' => e = .returned (.bool (Fl.isNaN b)) ∧ w = w' := by
  have hb : ((FloatKind.f64.format.order b b != some .eq) : Bool) = Fl.isNaN b := Fl.self_ne b
  go_enter Try.func67, Try.ntmps67
  go_wp2_with (rw [hb])
  all_goals (go_ret; exact ⟨rfl, rfl⟩)

theorem canonical_any (b : Nat) (w : World) : Calls Try.prog 58 #[.float .f64 b] w fun e w' => e = .returned (.float .f64 (Fl.canon b)) ∧ w = w' := by
  go_enter Try.func58, Try.ntmps58
  go_wp2_with fail
  refine (isNaN_any b w).mono ?_
  rintro e w1 ⟨rfl, rfl⟩
  cases h : Fl.isNaN b
  · go_wp2_with fail
    go_ret
    exact ⟨by simp [Fl.canon, h], rfl⟩
  · go_wp2_with fail
    go_ret
    exact ⟨by simp [Fl.canon, h], rfl⟩

theorem bits_any (b : Nat) (w : World) : Calls Try.prog 31 #[.float .f64 b] w fun e w' => e = .returned (.int .u64 (Fl.canon b)) ∧ w = w' := by
  go_enter Try.func31, Try.ntmps31
  go_wp2_with fail
  refine (canonical_any b w).mono ?_
  rintro e w1 ⟨rfl, rfl⟩
  go_wp2_with fail
  go_ret
  exact ⟨rfl, rfl⟩

theorem of_int (n : Int) (w : World) : Calls Try.prog 64 #[.int .u64 n] w fun e w' => e = .returned (.tuple #[.float .f64 (Fl.canon n.toNat), .bool ((Fl.canon n.toNat : Int) == n)]) ∧ w = w' := by
  go_enter Try.func64, Try.ntmps64
  go_wp2_with fail
  refine (canonical_any _ w).mono ?_
  rintro e w1 ⟨rfl, rfl⟩
  go_wp2_with fail
  go_ret2
  exact ⟨rfl, rfl⟩
theorem of_any (n : Nat) (w : World) : Calls Try.prog 64 #[.int .u64 n] w fun e w' => e = .returned (.tuple #[.float .f64 (Fl.canon n), .bool ((Fl.canon n : Int) == n)]) ∧ w = w' :=
  of_int n w

theorem rsame_any (a b : Nat) (w : World) : Calls Try.prog 23 #[.float .f64 a, .float .f64 b] w fun e w' => e = .returned (.bool ((Fl.canon a : Int) == Fl.canon b)) ∧ w = w' := by
  go_enter Try.func23, Try.ntmps23
  go_wp2_with fail
  refine (bits_any _ w).mono ?_
  rintro e w1 ⟨rfl, rfl⟩
  go_wp2_with fail
  refine (bits_any _ _).mono ?_
  rintro e w1 ⟨rfl, rfl⟩
  go_wp2_with fail
  go_ret
  exact ⟨rfl, rfl⟩

/-- What an operation on floats comes to in the machine: the outcome's word, or a NaN that is drawn. -/
theorem arith_run (op : BinOp) (o : Option Nat) (t : TypeId) (a b : Nat) (ho : floatBits op .f64 a b = o) (hop : op = .add ∨ op = .mul ∨ op = .quo) (w : World) :
    ∃ (r : Nat) (w' : World), (binOp op t (.float .f64 a) (.float .f64 b)).run Try.prog w = .ok (.float .f64 r) w' ∧ Fl.canon r = Fl.res o ∧ Fr (fun _ => False) w w' := by
  cases o with
  | some r => exact ⟨r, w, run_float_arith w op t .f64 a b r ho, rfl, Fr.refl _ _⟩
  | none =>
    refine ⟨Question.cut (.nanBits .f64 a b) (w.tape w.drawn (.nanBits .f64 a b)), w.drew, ?_, Fl.canon_drawn _ a b, (Fr.refl _ _).drew⟩
    unfold floatBits at ho
    rcases hop with rfl | rfl | rfl <;> simp only at ho <;> simp [binOp, Op.floatArith, ho, Question.forced]

theorem conv_self (b : Nat) (w : World) : (convert 39 39 (.float .f64 b)).run Try.prog w = .ok (.float .f64 b) w :=
  run_convert_float_float w _ _ .f64 .f64 b b (by rw [Try.underlying39]; rfl) Try.underlying39 rfl

theorem key_low : Fl.key 13970166044103278592 = -4746794007248502784 := by decide +kernel
theorem key_high : Fl.key 4746794007248502784 = 4746794007248502784 := by decide +kernel
theorem nan_low : Fl.isNaN 13970166044103278592 = false := by decide +kernel
theorem nan_high : Fl.isNaN 4746794007248502784 = false := by decide +kernel

theorem same_key {a b : Nat} (ha : a < 18446744073709551616) (hb : b < 18446744073709551616) (h0 : Fl.rung b ≠ 0) (h : Fl.key a = Fl.key b) : a = b := by
  unfold Fl.key at h
  refine Fl.same_word ha hb ?_ ?_ <;> cases h1 : Fl.neg a <;> cases h2 : Fl.neg b <;> simp [h1, h2] at h ⊢ <;> omega

theorem run_max_low (b : Nat) (hb : b < 18446744073709551616) (hn : Fl.isNaN b = false) (ts : Array TypeId) (t : TypeId) (w : World) :
    (Builtin.max_ ts t #[.float .f64 b, .float .f64 13970166044103278592]).run Try.prog w = .ok (.float .f64 (if Fl.key b ≤ -4746794007248502784 then 13970166044103278592 else b)) w := by
  have ho : FloatKind.f64.format.order b 13970166044103278592 = some (compare (Fl.key b) (-4746794007248502784)) := by rw [← key_low]; exact Fl.order_num hn nan_low
  unfold Builtin.max_
  simp only [List.foldlM, Builtin.max2, ho]
  have hc : compare (Fl.key b) (-4746794007248502784) = if Fl.key b < -4746794007248502784 then .lt else if Fl.key b = -4746794007248502784 then .eq else .gt := rfl
  rw [hc]
  by_cases h1 : Fl.key b < -4746794007248502784
  · simp [h1, show Fl.key b ≤ -4746794007248502784 by omega]
  · by_cases h2 : Fl.key b = -4746794007248502784
    · obtain rfl := same_key hb (by omega) (by decide +kernel) (h2.trans key_low.symm)
      simp [key_low]
    · simp [h1, h2, show ¬ Fl.key b ≤ -4746794007248502784 by omega]

theorem run_min_high (b : Nat) (hb : b < 18446744073709551616) (hn : Fl.isNaN b = false) (ts : Array TypeId) (t : TypeId) (w : World) :
    (Builtin.min_ ts t #[.float .f64 b, .float .f64 4746794007248502784]).run Try.prog w = .ok (.float .f64 (if 4746794007248502784 ≤ Fl.key b then 4746794007248502784 else b)) w := by
  have ho : FloatKind.f64.format.order b 4746794007248502784 = some (compare (Fl.key b) 4746794007248502784) := by
    have := Fl.order_num hn nan_high
    rw [key_high] at this
    exact this
  unfold Builtin.min_
  simp only [List.foldlM, Builtin.min2, ho]
  have hc : compare (Fl.key b) 4746794007248502784 = if Fl.key b < 4746794007248502784 then .lt else if Fl.key b = 4746794007248502784 then .eq else .gt := rfl
  rw [hc]
  by_cases h1 : Fl.key b < 4746794007248502784
  · simp [h1, show ¬ 4746794007248502784 ≤ Fl.key b by omega]
  · by_cases h2 : Fl.key b = 4746794007248502784
    · obtain rfl := same_key hb (by omega) (by decide +kernel) (h2.trans key_high.symm)
      simp [key_high]
    · simp [h1, h2, show 4746794007248502784 ≤ Fl.key b by omega]

theorem key_rung {b : Nat} (h1 : ¬ 4746794007248502784 ≤ Fl.key b) (h2 : ¬ Fl.key b ≤ -4746794007248502784) : Fl.rung b ≤ 4746794007248502784 := by
  unfold Fl.key at h1 h2
  cases hn : Fl.neg b <;> simp [hn] at h1 h2 <;> omega

theorem run_int (b : Nat) (n : Int) (h : floatToIntVal .f64 b .i64 = some n) (w : World) : (convert 39 2 (.float .f64 b)).run Try.prog w = .ok (.int .i64 n) w :=
  run_convert_float_int w _ _ .f64 .i64 b n (by rw [Try.underlying39]; rfl) Try.underlying2 h
end
section
theorem run_store_float (P : Program) (w : World) (a : Addr) (m : Mode) (k : FloatKind) (b : Nat) : (store a (.float k b) m).run P w = stored P w a (.float k b) m := run_store P w a _ m rfl

/-- A value: its number, its float's word, its text, how many values it consists of, and which ('nil' stands for those that there aren't). -/
inductive VT where
  | nil
  | mk (n : Int) (f : Nat) (s : Txt) (c : Nat) (of : Nat → VT)

/-- The numbers in bounds. -/
def VB (n : Int) (f : Nat) (s : Txt) (c : Nat) : Prop := -9223372036854775808 ≤ n ∧ n ≤ 9223372036854775807 ∧ f < 18446744073709551616 ∧ s.length ≤ maxLen ∧ c ≤ 100000

/-- The value v shows the value t, in memory of R. -/
def VShows (R : Nat → Prop) (w : World) : VT → Value → Prop
  | .nil, _ => False
  | .mk n f s c of, v => ∃ vo, v = .agg #[.int .i64 n, .float .f64 f, sv s, vo] ∧ VB n f s c ∧
    ((c = 0 ∧ ∃ a cap, vo = .slice a 0 cap) ∨
     ∃ g off cap, R g ∧ vo = .slice (some ⟨g, off, none⟩) c cap ∧ c ≤ cap ∧ ∀ i, i < c → ∃ x0 x1 x2 x3,
      w.cell? ⟨g, off + i * 4, none⟩ = some x0 ∧ w.cell? ⟨g, off + i * 4 + 1, none⟩ = some x1 ∧ w.cell? ⟨g, off + i * 4 + 2, none⟩ = some x2 ∧ w.cell? ⟨g, off + i * 4 + 3, none⟩ = some x3 ∧
      VShows R w (of i) (.agg #[x0, x1, x2, x3]))

/-- The parts of a value, in memory. -/
def VKids (R : Nat → Prop) (w : World) (of : Nat → VT) (a : Option Addr) (c cap : Nat) : Prop :=
  c = 0 ∨ c ≤ cap ∧ ∃ g off, R g ∧ a = some ⟨g, off, none⟩ ∧ ∀ i, i < c → ∃ x0 x1 x2 x3,
      w.cell? ⟨g, off + i * 4, none⟩ = some x0 ∧ w.cell? ⟨g, off + i * 4 + 1, none⟩ = some x1 ∧ w.cell? ⟨g, off + i * 4 + 2, none⟩ = some x2 ∧ w.cell? ⟨g, off + i * 4 + 3, none⟩ = some x3 ∧
      VShows R w (of i) (.agg #[x0, x1, x2, x3])

theorem VShows.fr {R S : Nat → Prop} {w w' : World} (hf : Fr S w w') (hS : ∀ k, R k → ¬ S k) (t : VT) : ∀ v, VShows R w t v → VShows R w' t v := by
  induction t with
  | nil => exact fun _ h => h.elim
  | mk n f s c of ih =>
    rintro v ⟨vo, rfl, hb, ho⟩
    refine ⟨vo, rfl, hb, ?_⟩
    rcases ho with h | ⟨g, off, cap, hg, rfl, hle, hc⟩
    · exact .inl h
    · refine .inr ⟨g, off, cap, hg, rfl, hle, fun i hi => ?_⟩
      obtain ⟨x0, x1, x2, x3, c0, c1, c2, c3, hx⟩ := hc i hi
      exact ⟨x0, x1, x2, x3, cell_fr hf hS hg c0, cell_fr hf hS hg c1, cell_fr hf hS hg c2, cell_fr hf hS hg c3, ih i _ hx⟩

theorem VShows.mono {R S : Nat → Prop} {w : World} (hS : ∀ k, k < w.heap.size → R k → S k) (t : VT) : ∀ v, VShows R w t v → VShows S w t v := by
  induction t with
  | nil => exact fun _ h => h.elim
  | mk n f s c of ih =>
    rintro v ⟨vo, rfl, hb, ho⟩
    refine ⟨vo, rfl, hb, ?_⟩
    rcases ho with h | ⟨g, off, cap, hg, rfl, hle, hc⟩
    · exact .inl h
    · cases c with
      | zero => exact .inl ⟨rfl, _, _, rfl⟩
      | succ c =>
        refine .inr ⟨g, off, cap, ?_, rfl, hle, fun i hi => ?_⟩
        · obtain ⟨x0, x1, x2, x3, c0, _⟩ := hc 0 (by omega)
          exact hS g (World.block_lt_of_cell? w _ c0) hg
        · obtain ⟨x0, x1, x2, x3, c0, c1, c2, c3, hx⟩ := hc i hi
          exact ⟨x0, x1, x2, x3, c0, c1, c2, c3, ih i _ hx⟩

theorem VKids.fr {R S : Nat → Prop} {w w' : World} {of : Nat → VT} {a' : Option Addr} {n c' : Nat} (h : VKids R w of a' n c') (hf : Fr S w w') (hS : ∀ k, R k → ¬ S k) : VKids R w' of a' n c' := by
  rcases h with h | ⟨h1, g, off, hg, rfl, hc⟩
  · exact .inl h
  · refine .inr ⟨h1, g, off, hg, rfl, fun i hi => ?_⟩
    obtain ⟨x0, x1, x2, x3, c0, c1, c2, c3, hx⟩ := hc i hi
    exact ⟨x0, x1, x2, x3, cell_fr hf hS hg c0, cell_fr hf hS hg c1, cell_fr hf hS hg c2, cell_fr hf hS hg c3, VShows.fr hf hS _ _ hx⟩

/-- A value's value, opened. -/
theorem vshows_open {R : Nat → Prop} {w : World} {t : VT} {v : Value} (h : VShows R w t v) :
    ∃ (n : Int) (f : Nat) (s : Txt) (c : Nat) (of : Nat → VT) (a : Option Addr) (cap : Nat), t = .mk n f s c of ∧ v = .agg #[.int .i64 n, .float .f64 f, sv s, .slice a c cap] ∧ VB n f s c ∧ VKids R w of a c cap := by
  cases t with
  | nil => exact h.elim
  | mk n f s c of =>
    obtain ⟨vo, rfl, hb, ho⟩ := h
    rcases ho with ⟨rfl, a, cap, rfl⟩ | ⟨g, off, cap, hg, rfl, hle, hc⟩
    · exact ⟨n, f, s, 0, of, a, cap, rfl, rfl, hb, .inl rfl⟩
    · exact ⟨n, f, s, c, of, _, cap, rfl, rfl, hb, .inr ⟨hle, g, off, hg, rfl, hc⟩⟩

/-- A value's value, out of its parts. -/
theorem vshows_mk {R : Nat → Prop} {w : World} {n : Int} {f : Nat} {s : Txt} {c : Nat} {of : Nat → VT} {a : Option Addr} {cap : Nat} (hb : VB n f s c) (hk : VKids R w of a c cap) : VShows R w (.mk n f s c of) (.agg #[.int .i64 n, .float .f64 f, sv s, .slice a c cap]) := by
  refine ⟨_, rfl, hb, ?_⟩
  rcases hk with rfl | ⟨hle, g, off, hg, rfl, hc⟩
  · exact .inl ⟨rfl, a, cap, rfl⟩
  · exact .inr ⟨g, off, cap, hg, rfl, hle, hc⟩

/-- A value's four cells, as literals. -/
theorem VShows.lit {R : Nat → Prop} {w : World} {t : VT} {v : Value} (h : VShows R w t v) :
    ∃ (n : Int) (f : Nat) (s : ByteArray) (a : Option Addr) (c cap : Nat), v = .agg #[.int .i64 n, .float .f64 f, .string s, .slice a c cap] := by
  obtain ⟨n, f, s, c, of, a, cap, _, rfl, _⟩ := vshows_open h
  exact ⟨n, f, _, a, c, cap, rfl⟩

/-- Are two values the same? -/
def sameV : VT → VT → Bool
  | .mk n f s c of, .mk n' f' s' c' of' => decide (n = n') && decide (Fl.canon f = Fl.canon f') && decide (s = s') && decide (c = c') && (List.range c).all (fun i => sameV (of i) (of' i))
  | .mk _ _ _ _ _, .nil => false
  | .nil, _ => false

/-- How many values there are in one. -/
def szV : VT → Nat
  | .nil => 1
  | .mk _ _ _ c of => 1 + ((List.range c).map fun i => szV (of i)).sum

theorem szV_pos (t : VT) : 1 ≤ szV t := by cases t <;> simp [szV]

def szVs (ps : List (VT × VT)) : Nat := (ps.map fun p => szV p.1).sum

theorem szVs_append (ps qs : List (VT × VT)) : szVs (ps ++ qs) = szVs ps + szVs qs := by simp [szVs]

theorem szVs_length (ps : List (VT × VT)) : ps.length ≤ szVs ps := by
  induction ps with
  | nil => simp
  | cons p ps ih =>
    have := szV_pos p.1
    unfold szVs at *
    simp only [List.map_cons, List.sum_cons, List.length_cons]
    omega

/-- The pairs of the first j parts of two values. -/
def vparts (of of' : Nat → VT) (j : Nat) : List (VT × VT) := (List.range j).map fun i => (of i, of' i)

theorem vparts_succ (of of' : Nat → VT) (j : Nat) : vparts of of' (j + 1) = vparts of of' j ++ [(of j, of' j)] := by
  unfold vparts; rw [List.range_succ, List.map_append]; rfl

theorem vparts_sz (n : Int) (f : Nat) (s : Txt) (c : Nat) (of of' : Nat → VT) : szVs (vparts of of' c) + 1 = szV (.mk n f s c of) := by
  unfold vparts szVs
  rw [szV, List.map_map]
  have : ((fun p : VT × VT => szV p.1) ∘ fun i => (of i, of' i)) = fun i => szV (of i) := rfl
  rw [this]
  omega

theorem vparts_mono (of of' : Nat → VT) (j n : Nat) (h : j ≤ n) : szVs (vparts of of' j) ≤ szVs (vparts of of' n) := by
  induction n with
  | zero => obtain rfl : j = 0 := by omega
            exact Nat.le_refl _
  | succ n ih =>
    by_cases e : j = n + 1
    · subst e; exact Nat.le_refl _
    · rw [vparts_succ, szVs_append]
      have := ih (by omega)
      omega

theorem sameV_parts (n : Int) (f f' : Nat) (s : Txt) (c : Nat) (of of' : Nat → VT) (h : Fl.canon f = Fl.canon f') : sameV (.mk n f s c of) (.mk n f' s c of') = (vparts of of' c).all fun p => sameV p.1 p.2 := by
  rw [sameV, decide_eq_true h]
  simp only [decide_true, Bool.true_and]
  unfold vparts
  rw [List.all_map]
  rfl

theorem sameV_refl : ∀ R w t v, VShows R w t v → sameV t t = true := by
  intro R w t
  induction t with
  | nil => exact fun _ h => h.elim
  | mk n f s c of ih =>
    intro v h
    rw [sameV_parts _ _ _ _ _ _ _ rfl]
    simp only [vparts, List.all_map, List.all_eq_true, List.mem_range, Function.comp]
    intro i hi
    obtain ⟨_, _, _, _, _, _, _, e, rfl, _, hk⟩ := vshows_open h
    cases e
    rcases hk with rfl | ⟨_, _, _, _, _, hc⟩
    · omega
    · obtain ⟨_, _, _, _, _, _, _, _, hx⟩ := hc i hi
      exact ih i _ hx

/-- The slice v owns a row of pairs of values alone. -/
def VPairRow (B : Nat) (R : Nat → Prop) (w : World) (v : Value) (ps : List (VT × VT)) : Prop :=
  ∃ cs : List Value, w.ownsRow B 73 8 v ps.length cs ∧ ∀ i p, ps[i]? = some p → ∃ x0 x1 x2 x3 y0 y1 y2 y3,
    (∀ j u, [x0, x1, x2, x3, y0, y1, y2, y3][j]? = some u → cs[i * 8 + j]? = some u) ∧ VShows R w p.1 (.agg #[x0, x1, x2, x3]) ∧ VShows R w p.2 (.agg #[y0, y1, y2, y3])

theorem VPairRow.fr {B : Nat} {R S : Nat → Prop} {w w' : World} {v : Value} {ps : List (VT × VT)} (h : VPairRow B R w v ps) (f : Fr S w w') (hR : ∀ k, R k → ¬ S k) (hv : ∀ k, v.ownBlock = some k → ¬ S k) : VPairRow B R w' v ps := by
  obtain ⟨cs, h1, h2⟩ := h
  refine ⟨cs, ownsRow_fr h1 f hv, fun i p hi => ?_⟩
  obtain ⟨x0, x1, x2, x3, y0, y1, y2, y3, a, hx, hy⟩ := h2 i p hi
  exact ⟨x0, x1, x2, x3, y0, y1, y2, y3, a, VShows.fr f hR _ _ hx, VShows.fr f hR _ _ hy⟩

theorem VPairRow_own {B : Nat} {R : Nat → Prop} {w : World} {v : Value} {ps : List (VT × VT)} (h : VPairRow B R w v ps) : w.ownsRow B 73 8 v ps.length h.choose := h.choose_spec.1

/-- All but the last pair. -/
theorem VPairRow.pop {B : Nat} {R : Nat → Prop} {w : World} {a : Option Addr} {n c : Nat} {qs : List (VT × VT)} {p : VT × VT} (h : VPairRow B R w (.slice a n c) (qs ++ [p])) : VPairRow B R w (.slice a qs.length c) qs := by
  obtain ⟨cs, h1, h2⟩ := h
  have hl := h1.1
  rw [List.length_append] at hl
  refine ⟨cs.take (qs.length * 8), ⟨by rw [List.length_take]; simp at hl; omega, ?_⟩, fun i q hi => ?_⟩
  · rcases h1.2 with ⟨e, h0⟩ | ⟨g, cap, cur, e, hb, hg, hle, hm, hs, ht⟩
    · simp at h0
    · cases e
      rw [List.length_append] at hle ht
      simp only [List.length_singleton] at hle ht
      refine .inr ⟨g, c, cur, rfl, hb, hg, by omega, hm, hs, ?_⟩
      rw [← ht, List.take_take]
      congr 1
      omega
  · have hq := (List.getElem?_eq_some_iff.1 hi).1
    obtain ⟨x0, x1, x2, x3, y0, y1, y2, y3, a, hx, hy⟩ := h2 i q (by rw [List.getElem?_append_left hq]; exact hi)
    refine ⟨x0, x1, x2, x3, y0, y1, y2, y3, fun j u hj => ?_, hx, hy⟩
    have hj8 : j < 8 := (List.getElem?_eq_some_iff.1 hj).1
    rw [List.getElem?_take, if_pos (by omega)]
    exact a j u hj

/-- One pair more. -/
theorem VPairRow.push {B : Nat} {R : Nat → Prop} {w w' : World} {v v' : Value} {ps : List (VT × VT)} {a b : VT} {cs : List Value} {x0 x1 x2 x3 y0 y1 y2 y3 : Value} {n : Nat}
    (h2 : ∀ i p, ps[i]? = some p → ∃ x0 x1 x2 x3 y0 y1 y2 y3, (∀ j u, [x0, x1, x2, x3, y0, y1, y2, y3][j]? = some u → cs[i * 8 + j]? = some u) ∧ VShows R w p.1 (.agg #[x0, x1, x2, x3]) ∧ VShows R w p.2 (.agg #[y0, y1, y2, y3]))
    (hl : cs.length = ps.length * 8) (hn : n = ps.length + 1) (ho : w'.ownsRow B 73 8 v' n (cs ++ [x0, x1, x2, x3, y0, y1, y2, y3])) (f : Fr (fun k => v.ownBlock = some k) w w') (hR : ∀ k, R k → v.ownBlock ≠ some k)
    (hx : VShows R w a (.agg #[x0, x1, x2, x3])) (hy : VShows R w b (.agg #[y0, y1, y2, y3])) : VPairRow B R w' v' (ps ++ [(a, b)]) := by
  refine ⟨cs ++ [x0, x1, x2, x3, y0, y1, y2, y3], by rw [List.length_append]; simpa [hn] using ho, fun i p hi => ?_⟩
  by_cases hlt : i < ps.length
  · rw [List.getElem?_append_left hlt] at hi
    obtain ⟨z0, z1, z2, z3, u0, u1, u2, u3, q, hz, hu⟩ := h2 i p hi
    refine ⟨z0, z1, z2, z3, u0, u1, u2, u3, fun j u hj => ?_, VShows.fr f (fun k hk => hR k hk) _ _ hz, VShows.fr f (fun k hk => hR k hk) _ _ hu⟩
    have hj8 : j < 8 := (List.getElem?_eq_some_iff.1 hj).1
    rw [List.getElem?_append_left (by omega)]
    exact q j u hj
  · have hi' := (List.getElem?_eq_some_iff.1 hi).1
    obtain rfl : i = ps.length := by simp at hi'; omega
    rw [List.getElem?_append_right (Nat.le_refl _)] at hi
    simp at hi
    subst hi
    refine ⟨x0, x1, x2, x3, y0, y1, y2, y3, fun j u hj => ?_, VShows.fr f (fun k hk => hR k hk) _ _ hx, VShows.fr f (fun k hk => hR k hk) _ _ hy⟩
    rw [List.getElem?_append_right (by omega), hl, Nat.add_sub_cancel_left]
    exact hj

/-- Values as items of a row. -/
def vShown : Shown VT where
  sh R w t xs := ∃ x0 x1 x2 x3, xs = [x0, x1, x2, x3] ∧ VShows R w t (.agg #[x0, x1, x2, x3])
  fr := by
    rintro R S w w' x xs ⟨x0, x1, x2, x3, rfl, h⟩ f hS
    exact ⟨x0, x1, x2, x3, rfl, VShows.fr f hS _ _ h⟩
  mono := by
    rintro R S w x xs ⟨x0, x1, x2, x3, rfl, h⟩ hS
    exact ⟨x0, x1, x2, x3, rfl, VShows.mono hS _ _ h⟩

/-- A row of values as a value's parts. -/
theorem ItRow.vkids {B : Nat} {X : Nat → Prop} {w : World} {a : Option Addr} {n cap : Nat} {ts : List VT} (h : ItRow vShown 42 4 B X w (.slice a n cap) ts) (of : Nat → VT) (hof : ∀ i x, ts[i]? = some x → of i = x) :
    VKids (fun k => B ≤ k) w of a n cap := by
  rcases h.cells with ⟨rfl, a', c, h4⟩ | ⟨g, cap', hg, e, hle, hc⟩
  · cases h4; exact .inl rfl
  · cases e
    refine .inr ⟨hle, g, 0, hg.1, rfl, fun i hi => ?_⟩
    obtain ⟨xs, _, hc, x0, x1, x2, x3, rfl, hx⟩ := hc i ts[i] (List.getElem?_eq_getElem hi)
    refine ⟨x0, x1, x2, x3, hc 0 _ rfl, hc 1 _ rfl, hc 2 _ rfl, hc 3 _ rfl, ?_⟩
    rw [hof i _ (List.getElem?_eq_getElem hi)]
    exact VShows.mono (fun k _ h => h.1) _ _ hx

theorem realSame_eq (a b : Nat) (w : World) (h : Fl.canon a = Fl.canon b) : Calls Try.prog 23 #[.float .f64 a, .float .f64 b] w fun e w' => e = .returned (.bool true) ∧ w = w' := by
  have := rsame_any a b w
  rw [show ((Fl.canon a : Int) == Fl.canon b) = true by simp [h]] at this
  exact this

theorem realSame_ne (a b : Nat) (w : World) (h : ¬ Fl.canon a = Fl.canon b) : Calls Try.prog 23 #[.float .f64 a, .float .f64 b] w fun e w' => e = .returned (.bool false) ∧ w = w' := by
  have := rsame_any a b w
  rw [show ((Fl.canon a : Int) == Fl.canon b) = false by simp; omega] at this
  exact this
end
end Go.Proofs.Ytplipjijaaejlaa
