/-
  A region that draws its order, some of whose operations change memory: of each operation it is said what holds while it is not yet carried out ('U'), and what it leaves ('V'); then whatever order is drawn, all of them hold at the end. (As YtojfabhbkdddpaaRegion, where nothing is changed.)
-/
import Derived.Test.YtojfabhbkdddpaaRegion
namespace Go.Proofs.Ytojfabhbkdddpaa
open Go.RowKit

section
variable {P : Program} {ops : Array Oper} {Q : Exit → Act → World → Prop}

/-- What the walk keeps: the frame is 'fr vals', the world is a later one, and of each operation that was carried out its predicate holds. -/
structure RelInvU (ops : Array Oper) (Le : World → World → Prop) (fr : (Nat → Value) → Act) (U : Nat → World → Prop) (V : Nat → Value → World → Prop) (w0 : World) (listed : Array Bool) (vals : Nat → Value) (w : World) : Prop where
  le : Le w0 w
  all : ∀ i, i < ops.size → listed.getD i true = true → V i (vals i) w
  rest : ∀ i, i < ops.size → listed.getD i true = false → U i w
  closed : ∀ i o, ops[i]? = some o → listed.getD i true = true → ∀ e ∈ o.after, Region.binds .any e = true → listed.getD e.on true = true

/-- Does operation j wait for operation i? -/
def waits (ops : Array Oper) (j i : Nat) : Bool := match ops[j]? with
  | some o => o.after.any fun e => Region.binds .any e && decide (e.on = i)
  | none => false

def RelStepU (P : Program) (ops : Array Oper) (Q : Exit → Act → World → Prop) (Le : World → World → Prop) (fr : (Nat → Value) → Act) (U : Nat → World → Prop) (V : Nat → Value → World → Prop) (w0 : World) (i : Nat) (o : Oper) : Prop :=
  ∀ (vals : Nat → Value) (w : World), Le w0 w → (∀ e ∈ o.after.toList, Region.binds .any e = true → V e.on (vals e.on) w) →
    U i w → (∀ j, waits ops j i = true → U j w) →
    ∀ K : Act → World → Prop, (∀ v w', Le w w' → V i v w' → (∀ j, j ≠ i → U j w → U j w') → (∀ j u, j ≠ i → V j u w → V j u w') → K ((fr vals).put o.dst v) w') →
    if Region.wanted o (yielded ops (fr vals).tmps) = true then o.wp P (fr vals) w K Q else K ((fr vals).put o.dst undef) w

theorem wpAny_relU {Le : World → World → Prop} (htrans : ∀ a b c, Le a b → Le b c → Le a c) {fr : (Nat → Value) → Act}
    (hput : ∀ i o, ops[i]? = some o → ∀ vals v, (fr vals).put o.dst v = fr (fun j => if j = i then v else vals j))
    {U : Nat → World → Prop} {V : Nat → Value → World → Prop} {w0 : World} (hdown : edgesDown ops = true)
    (step : ∀ i o, ops[i]? = some o → RelStepU P ops Q Le fr U V w0 i o)
    (fin : ∀ vals w, Le w0 w → (∀ i, i < ops.size → V i (vals i) w) → Q .normal (fr vals) w) :
    ∀ (fuel : Nat) (listed : Array Bool) (vals : Nat → Value) (w : World), listed.size = ops.size → (listed.toList.filter (! ·)).length = fuel → RelInvU ops Le fr U V w0 listed vals w → wpAny P .any ops Q fuel listed (fr vals) w := by
  have done : ∀ (listed : Array Bool) (vals : Nat → Value) (w : World), listed.size = ops.size → RelInvU ops Le fr U V w0 listed vals w → Region.ready .any ops listed = [] → Q .normal (fr vals) w := by
    intro listed vals w hs hI hr
    refine fin vals w hI.le ?_
    have hall : ∀ n i, i < n → i < ops.size → listed.getD i true = true := by
      intro n
      induction n with
      | zero => intro i hi; omega
      | succ n ih =>
        intro i hi hio
        by_cases h : listed.getD i true = true
        · exact h
        · exfalso
          have hno : i ∉ Region.ready .any ops listed := by rw [hr]; exact List.not_mem_nil
          refine hno ?_
          unfold Region.ready
          rw [List.mem_filter]
          refine ⟨List.mem_range.2 hio, ?_⟩
          have ho : ops[i]? = some ops[i] := Array.getElem?_eq_getElem hio
          simp only [Bool.and_eq_true, ho, Option.map_some, Option.getD_some]
          refine ⟨by simpa using h, ?_⟩
          rw [Array.all_eq_true']
          intro e he
          by_cases hb : Region.binds .any e = true
          · have hlt := edgesDown_spec hdown ho he hb
            have h1 := ih e.on (by omega) (by omega)
            have h2 : e.on < listed.size := by omega
            rw [Array.getD_eq_getD_getElem?, Array.getElem?_eq_getElem h2, Option.getD_some] at h1
            simp [h2, h1]
          · simp [hb]
    intro i hi
    exact hI.all i hi (hall (i + 1) i (by omega) hi)
  intro fuel
  induction fuel with
  | zero =>
    intro listed vals w hs hf hI
    have hr : Region.ready .any ops listed = [] := by
      unfold Region.ready
      rw [List.filter_eq_nil_iff]
      intro i hi
      have hio := List.mem_range.1 hi
      have h0 : listed.toList.filter (! ·) = [] := List.eq_nil_of_length_eq_zero hf
      rw [List.filter_eq_nil_iff] at h0
      have hl : i < listed.size := by omega
      have h1 := h0 listed[i] (by simp)
      simp at h1
      simp [Array.getD, hl, h1]
    exact ⟨hr, done listed vals w hs hI hr⟩
  | succ fuel ih =>
    intro listed vals w hs hf hI
    refine ⟨fun hr => done listed vals w hs hI hr, ?_⟩
    intro i hi
    unfold Region.ready at hi
    rw [List.mem_filter] at hi
    obtain ⟨hio, hi2⟩ := hi
    have hio := List.mem_range.1 hio
    have ho : ops[i]? = some ops[i] := Array.getElem?_eq_getElem hio
    simp only [Bool.and_eq_true, ho, Option.map_some, Option.getD_some] at hi2
    obtain ⟨hn, ha⟩ := hi2
    have hil : i < listed.size := by omega
    have hnl : listed[i] = false := by simpa [Array.getD, hil] using hn
    have hcount : ((listed.setIfInBounds i true).toList.filter (! ·)).length = fuel := by
      have e : (listed.setIfInBounds i true).toList = listed.toList.set i true := by simp
      rw [e]
      have hd : listed.toList = listed.toList.take i ++ listed[i] :: listed.toList.drop (i + 1) := by
        have hl' : i < listed.toList.length := by simpa using hil
        have := (List.take_append_drop i listed.toList).symm
        rw [List.drop_eq_getElem_cons hl'] at this
        simpa using this
      have hset : listed.toList.set i true = listed.toList.take i ++ true :: listed.toList.drop (i + 1) := by
        rw [List.set_eq_take_append_cons_drop, if_pos (by simpa using hil)]
      rw [hset]
      rw [hd, hnl] at hf
      simp at hf ⊢
      omega
    have hnd : ∀ e ∈ ops[i].after, Region.binds .any e = true → listed.getD e.on true = true := by
      intro e he hb
      rw [Array.all_eq_true'] at ha
      have h1 := ha e he
      simp [hb] at h1
      have hlt := edgesDown_spec hdown ho he hb
      have h2 : e.on < listed.size := by omega
      simpa [Array.getD, h2] using h1
    have hnext : ∀ v w', Le w w' → V i v w' → (∀ j, j ≠ i → U j w → U j w') → (∀ j u, j ≠ i → V j u w → V j u w') → wpAny P .any ops Q fuel (listed.setIfInBounds i true) ((fr vals).put ops[i].dst v) w' := by
      intro v w' hle hv hu hpres
      rw [hput i _ ho]
      refine ih _ _ _ (by simpa using hs) hcount ⟨htrans _ _ _ hI.le hle, ?_, ?_, ?_⟩
      · intro j hj hlj
        rw [getD_set _ _ _ hil] at hlj
        by_cases hji : j = i
        · subst hji; simpa using hv
        · rw [if_neg hji] at hlj
          simp only [if_neg hji]
          exact hpres j _ hji (hI.all j hj hlj)
      · intro j hj hlj
        rw [getD_set _ _ _ hil] at hlj
        by_cases hji : j = i
        · rw [if_pos hji] at hlj; cases hlj
        · rw [if_neg hji] at hlj
          exact hu j hji (hI.rest j hj hlj)
      · intro j o hjo hlj e he hb
        rw [getD_set _ _ _ hil] at hlj ⊢
        by_cases hei : e.on = i
        · rw [if_pos hei]
        · rw [if_neg hei]
          by_cases hji : j = i
          · subst hji
            rw [ho] at hjo
            cases hjo
            exact hnd e he hb
          · rw [if_neg hji] at hlj
            exact hI.closed j o hjo hlj e he hb
    have hst := step i _ ho vals w hI.le (by
      intro e he hb
      have hlt := edgesDown_spec hdown ho (by simpa using he) hb
      exact hI.all e.on (by omega) (hnd e (by simpa using he) hb)) (by
      refine hI.rest i hio ?_
      rw [Array.getD_eq_getD_getElem?, Array.getElem?_eq_getElem hil, hnl]; rfl) (by
      intro j hw
      unfold waits at hw
      cases hjo : ops[j]? with
      | none => rw [hjo] at hw; cases hw
      | some o =>
        rw [hjo] at hw
        simp only [Array.any_eq_true', Bool.and_eq_true, decide_eq_true_eq] at hw
        obtain ⟨e, he, hb, hei⟩ := hw
        have hjs : j < ops.size := (Array.getElem?_eq_some_iff.1 hjo).1
        cases hlj : listed.getD j true with
        | false => exact hI.rest j hjs hlj
        | true =>
          have := hI.closed j o hjo hlj e he hb
          rw [hei, Array.getD_eq_getD_getElem?, Array.getElem?_eq_getElem hil, hnl] at this
          cases this) _ hnext
    unfold wpOp
    simp only [ho]
    split
    · rename_i hw
      rw [if_pos hw] at hst
      exact .inl hst
    · rename_i hw
      rw [if_neg hw] at hst
      exact hst

/-- THE REGION: whatever order is drawn. -/
theorem wp_region_relU {id : Nat} {a : Act} {w : World} (hm : P.follows .mixedOrders = true) (Le : World → World → Prop) (hrefl : ∀ w, Le w w) (htrans : ∀ a b c, Le a b → Le b c → Le a c)
    (fr : (Nat → Value) → Act) (vals : Nat → Value) (ha : a = fr vals)
    (hput : ∀ i o, ops[i]? = some o → ∀ vals v, (fr vals).put o.dst v = fr (fun j => if j = i then v else vals j))
    (U : Nat → World → Prop) (V : Nat → Value → World → Prop) (hdown : edgesDown ops = true) (hU : ∀ i, i < ops.size → U i w.drew)
    (step : ∀ i o, ops[i]? = some o → RelStepU P ops Q Le fr U V w.drew i o)
    (fin : ∀ vals w', Le w.drew w' → (∀ i, i < ops.size → V i (vals i) w') → Q .normal (fr vals) w') : (Code.region id ops true).wp P Q a w := by
  refine wp_region_any hm ?_
  subst ha
  have hfalse : ∀ i, i < ops.size → ¬ (Array.replicate ops.size false).getD i true = true := by
    intro i hi h
    simp [Array.getD, hi] at h
  refine wpAny_relU (U := U) htrans hput hdown step fin _ _ vals _ (by simp) ?_ ⟨hrefl _, ?_, ?_, ?_⟩
  · simp
  · intro i hi hl
    exact absurd hl (hfalse i hi)
  · intro i hi _
    exact hU i hi
  · intro i o ho hl
    exact absurd hl (hfalse i (Array.getElem?_eq_some_iff.1 ho).1)

/-- The temporaries with the values vals in the slots ds (none: no slot), from number k on. -/
def fillU (vals : Nat → Value) : List (Option Nat) → Nat → Array Value → Array Value
  | [], _, t => t
  | none :: ds, k, t => fillU vals ds (k + 1) t
  | some d :: ds, k, t => fillU vals ds (k + 1) (t.setIfInBounds d (vals k))

def frOfU (a : Act) (ds : List (Option Nat)) (vals : Nat → Value) : Act := { a with tmps := fillU vals ds 0 a.tmps }

theorem fillU_size (vals : Nat → Value) : ∀ (ds : List (Option Nat)) (k : Nat) (t : Array Value), (fillU vals ds k t).size = t.size
  | [], _, _ => rfl
  | none :: ds, k, t => fillU_size vals ds _ _
  | some d :: ds, k, t => by rw [fillU, fillU_size vals ds, Array.size_setIfInBounds]

theorem fillU_other (vals : Nat → Value) : ∀ (ds : List (Option Nat)) (k : Nat) (t : Array Value) (x : Nat), some x ∉ ds → (fillU vals ds k t)[x]? = t[x]?
  | [], _, _, _, _ => rfl
  | none :: ds, k, t, x, h => by
    rw [List.mem_cons, not_or] at h
    exact fillU_other vals ds (k + 1) _ x h.2
  | some d :: ds, k, t, x, h => by
    rw [List.mem_cons, not_or] at h
    rw [fillU, fillU_other vals ds (k + 1) _ x h.2, Array.getElem?_setIfInBounds, if_neg (fun e => h.1 (by rw [e]))]

def noTwice : List (Option Nat) → Bool
  | [] => true
  | none :: ds => noTwice ds
  | some d :: ds => !ds.contains (some d) && noTwice ds

theorem fillU_at (vals : Nat → Value) : ∀ (ds : List (Option Nat)) (k : Nat) (t : Array Value), noTwice ds = true → (∀ d, some d ∈ ds → d < t.size) → ∀ j d, ds[j]? = some (some d) → (fillU vals ds k t)[d]? = some (vals (k + j))
  | [], _, _, _, _, j, d, h => by simp at h
  | none :: ds, k, t, hn, hb, 0, d, h => by simp at h
  | none :: ds, k, t, hn, hb, j + 1, d, h => by
    rw [fillU, fillU_at vals ds (k + 1) t hn (fun x hx => hb x (by simp [hx])) j d (by simpa using h)]
    congr 2
    omega
  | some d' :: ds, k, t, hn, hb, 0, d, h => by
    simp at h
    subst h
    simp only [noTwice, Bool.and_eq_true, Bool.not_eq_true', List.contains_eq_mem, decide_eq_false_iff_not] at hn
    rw [fillU, fillU_other vals ds (k + 1) _ _ hn.1, Array.getElem?_setIfInBounds, if_pos rfl, if_pos (hb _ (by simp)), Nat.add_zero]
  | some d' :: ds, k, t, hn, hb, j + 1, d, h => by
    simp only [noTwice, Bool.and_eq_true] at hn
    rw [fillU, fillU_at vals ds (k + 1) _ hn.2 (fun x hx => by rw [Array.size_setIfInBounds]; exact hb x (by simp [hx])) j d (by simpa using h)]
    congr 2
    omega

theorem noTwice_inj : ∀ {ds : List (Option Nat)}, noTwice ds = true → ∀ {i j d : Nat}, ds[i]? = some (some d) → ds[j]? = some (some d) → i = j
  | [], _, i, j, d, h, _ => by simp at h
  | none :: ds, hn, 0, j, d, h, _ => by simp at h
  | none :: ds, hn, i + 1, 0, d, _, h => by simp at h
  | none :: ds, hn, i + 1, j + 1, d, hi, hj => congrArg (· + 1) (noTwice_inj (ds := ds) (d := d) hn (by simpa using hi) (by simpa using hj))
  | some d' :: ds, hn, 0, 0, d, _, _ => rfl
  | some d' :: ds, hn, 0, j + 1, d, hi, hj => by
    simp at hi
    subst hi
    simp only [noTwice, Bool.and_eq_true, Bool.not_eq_true', List.contains_eq_mem, decide_eq_false_iff_not] at hn
    exact absurd (List.mem_of_getElem? (by simpa using hj)) hn.1
  | some d' :: ds, hn, i + 1, 0, d, hi, hj => by
    simp at hj
    subst hj
    simp only [noTwice, Bool.and_eq_true, Bool.not_eq_true', List.contains_eq_mem, decide_eq_false_iff_not] at hn
    exact absurd (List.mem_of_getElem? (by simpa using hi)) hn.1
  | some d' :: ds, hn, i + 1, j + 1, d, hi, hj => by
    simp only [noTwice, Bool.and_eq_true] at hn
    exact congrArg (· + 1) (noTwice_inj (ds := ds) (d := d) hn.2 (by simpa using hi) (by simpa using hj))

/-- One operation, from a frame: what stands behind it is a variable. -/
def RelOpU (P : Program) (ops : Array Oper) (Q : Exit → Act → World → Prop) (Le : World → World → Prop) (U : Nat → World → Prop) (V : Nat → Value → World → Prop) (w0 : World) (a : Act) (vals : Nat → Value) (i : Nat) (o : Oper) : Prop :=
  ∀ (w : World), Le w0 w → (∀ e ∈ o.after.toList, Region.binds .any e = true → V e.on (vals e.on) w) → U i w → (∀ j, waits ops j i = true → U j w) →
    ∀ K : Act → World → Prop, (∀ v w', Le w w' → V i v w' → (∀ j, j ≠ i → U j w → U j w') → (∀ j u, j ≠ i → V j u w → V j u w') → K (a.put o.dst v) w') →
    if Region.wanted o (yielded ops a.tmps) = true then o.wp P a w K Q else K (a.put o.dst undef) w

/-- THE REGION AS THE WALK WANTS IT: the operations written out, their slots 'ds'; what holds ahead of each ('U'), what each leaves ('V'); each operation, from whatever values the earlier ones left. -/
theorem wp_region_toldU {id : Nat} {l : List Oper} {a : Act} {w : World} (hm : P.follows .mixedOrders = true) (Le : World → World → Prop) (hrefl : ∀ w, Le w w) (htrans : ∀ a b c, Le a b → Le b c → Le a c)
    (ds : List (Option Nat)) (hds : l.map (·.dst) = ds) (hnd : noTwice ds = true) (hlt : ∀ d, some d ∈ ds → d < a.tmps.size)
    (U : Nat → World → Prop) (V : Nat → Value → World → Prop) (hdown : edgesDown l.toArray = true) (hU : ∀ i, i < l.length → U i w.drew)
    (step : ∀ vals : Nat → Value, AllOps (RelOpU P l.toArray Q Le U V w.drew (frOfU a ds vals) vals) l 0)
    (fin : ∀ vals w', Le w.drew w' → (∀ i, i < l.length → V i (vals i) w') → Q .normal (frOfU a ds vals) w') : (Code.region id l.toArray true).wp P Q a w := by
  have hdst : ∀ (i : Nat) (o : Oper), l[i]? = some o → ds[i]? = some o.dst := by
    intro i o ho
    rw [← hds]
    simp [ho]
  refine wp_region_relU hm Le hrefl htrans (frOfU a ds) (fun j => ((ds[j]?.bind fun x => x).bind (a.tmps[·]?)).getD undef) ?_ ?_ U V hdown (by simpa using hU) ?_ (by simpa using fin)
  · unfold frOfU
    have : fillU (fun j => ((ds[j]?.bind fun x => x).bind (a.tmps[·]?)).getD undef) ds 0 a.tmps = a.tmps := by
      apply Array.ext_getElem?
      intro x
      by_cases hx : some x ∈ ds
      · obtain ⟨j, hj, hjx⟩ := List.getElem_of_mem hx
        have hd : ds[j]? = some (some x) := by rw [List.getElem?_eq_getElem hj, hjx]
        rw [fillU_at _ ds 0 a.tmps hnd hlt j _ hd, Nat.zero_add, hd]
        have hb := hlt x hx
        simp [Array.getElem?_eq_getElem hb]
      · exact fillU_other _ _ _ _ _ hx
    rw [this]
  · intro i o ho vals v
    have h1 := hdst i o (by simpa using ho)
    unfold frOfU Act.put
    cases h2 : o.dst with
    | none =>
      rw [h2] at h1
      simp only
      congr 1
      apply Array.ext_getElem?
      intro x
      by_cases hx : some x ∈ ds
      · obtain ⟨j, hj, hjx⟩ := List.getElem_of_mem hx
        have hd : ds[j]? = some (some x) := by rw [List.getElem?_eq_getElem hj, hjx]
        rw [fillU_at _ ds 0 a.tmps hnd hlt j _ hd, fillU_at _ ds 0 a.tmps hnd hlt j _ hd, Nat.zero_add]
        have hne : j ≠ i := by
          intro e
          subst e
          rw [h1] at hd
          cases hd
        rw [if_neg hne]
      · rw [fillU_other _ _ _ _ _ hx, fillU_other _ _ _ _ _ hx]
    | some d =>
      rw [h2] at h1
      simp only
      congr 1
      apply Array.ext_getElem?
      intro x
      have hd : d < a.tmps.size := hlt d (List.mem_of_getElem? h1)
      rw [Array.getElem?_setIfInBounds]
      by_cases hx : some x ∈ ds
      · obtain ⟨j, hj, hjx⟩ := List.getElem_of_mem hx
        have hdj : ds[j]? = some (some x) := by rw [List.getElem?_eq_getElem hj, hjx]
        rw [fillU_at _ ds 0 a.tmps hnd hlt j _ hdj, fillU_at _ ds 0 a.tmps hnd hlt j _ hdj, Nat.zero_add]
        by_cases e : j = i
        · subst e
          rw [h1] at hdj
          simp only [Option.some.injEq] at hdj
          rw [if_pos hdj, if_pos (by rw [fillU_size]; exact hdj ▸ hd), if_pos rfl]
        · have hne : d ≠ x := by
            intro e2
            subst e2
            exact e (noTwice_inj hnd hdj h1)
          rw [if_neg hne, if_neg e]
      · have hne : d ≠ x := fun e => hx (e ▸ List.mem_of_getElem? h1)
        rw [if_neg hne, fillU_other _ _ _ _ _ hx, fillU_other _ _ _ _ _ hx]
  · intro i o ho vals w' hle he hu hw K hK
    have := (step vals).get i o (by simpa using ho)
    rw [Nat.zero_add] at this
    exact this w' hle he hu hw K hK

end
end Go.Proofs.Ytojfabhbkdddpaa
