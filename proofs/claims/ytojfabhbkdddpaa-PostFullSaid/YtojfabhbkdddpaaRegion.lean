/-
  A region that draws its order, whose operations may make memory but change none: what each operation leaves is told by a predicate that later worlds keep; then whatever order is drawn, all of them hold at the end.
-/
import Derived.Test.YtojfabhbkdddpaaApp
import Derived.Deep.QuietTactic
namespace Go.Proofs.Ytojfabhbkdddpaa
open Go.RowKit

/-- Each edge that binds leads to an operation that stands before. -/
def edgesDown (ops : Array Oper) : Bool := ops.toList.zipIdx.all fun (o, i) => o.after.all fun e => !Region.binds .any e || decide (e.on < i)

theorem edgesDown_spec {ops : Array Oper} (h : edgesDown ops = true) {i : Nat} {o : Oper} (ho : ops[i]? = some o) {e : Edge} (he : e ∈ o.after) (hb : Region.binds .any e = true) : e.on < i := by
  unfold edgesDown at h
  rw [List.all_eq_true] at h
  have hi := (Array.getElem?_eq_some_iff.1 ho)
  obtain ⟨hlt, hoi⟩ := hi
  have hm : (o, i) ∈ ops.toList.zipIdx := by
    rw [List.mem_zipIdx_iff_getElem?]
    simp [ho]
  have h1 := h _ hm
  simp only [Array.all_eq_true'] at h1
  have h2 := h1 e he
  simp [hb] at h2
  exact h2

section
variable {P : Program} {ops : Array Oper} {Q : Exit → Act → World → Prop}

/-- What the walk keeps: the frame is 'fr vals', the world is a later one, and of each operation that was carried out its predicate holds. -/
structure RelInv (ops : Array Oper) (Le : World → World → Prop) (fr : (Nat → Value) → Act) (V : Nat → Value → World → Prop) (w0 : World) (listed : Array Bool) (vals : Nat → Value) (w : World) : Prop where
  le : Le w0 w
  all : ∀ i, i < ops.size → listed.getD i true = true → V i (vals i) w

def RelStep (P : Program) (ops : Array Oper) (Q : Exit → Act → World → Prop) (Le : World → World → Prop) (fr : (Nat → Value) → Act) (V : Nat → Value → World → Prop) (w0 : World) (i : Nat) (o : Oper) : Prop :=
  ∀ (vals : Nat → Value) (w : World), Le w0 w → (∀ e ∈ o.after.toList, Region.binds .any e = true → V e.on (vals e.on) w) →
    ∀ K : Act → World → Prop, (∀ v w', Le w w' → V i v w' → K ((fr vals).put o.dst v) w') →
    if Region.wanted o (yielded ops (fr vals).tmps) = true then o.wp P (fr vals) w K Q else K ((fr vals).put o.dst undef) w

theorem getD_set (l : Array Bool) (i j : Nat) (hi : i < l.size) : (l.setIfInBounds i true).getD j true = if j = i then true else l.getD j true := by
  rw [Array.getD_eq_getD_getElem?, Array.getD_eq_getD_getElem?, Array.getElem?_setIfInBounds]
  by_cases h : j = i
  · subst h
    simp [hi]
  · rw [if_neg h, if_neg (Ne.symm h)]

theorem wpAny_rel {Le : World → World → Prop} (htrans : ∀ a b c, Le a b → Le b c → Le a c) {fr : (Nat → Value) → Act}
    (hput : ∀ i o, ops[i]? = some o → ∀ vals v, (fr vals).put o.dst v = fr (fun j => if j = i then v else vals j))
    {V : Nat → Value → World → Prop} (mono : ∀ i v w w', Le w w' → V i v w → V i v w') {w0 : World} (hdown : edgesDown ops = true)
    (step : ∀ i o, ops[i]? = some o → RelStep P ops Q Le fr V w0 i o)
    (fin : ∀ vals w, Le w0 w → (∀ i, i < ops.size → V i (vals i) w) → Q .normal (fr vals) w) :
    ∀ (fuel : Nat) (listed : Array Bool) (vals : Nat → Value) (w : World), listed.size = ops.size → (listed.toList.filter (! ·)).length = fuel → RelInv ops Le fr V w0 listed vals w → wpAny P .any ops Q fuel listed (fr vals) w := by
  have done : ∀ (listed : Array Bool) (vals : Nat → Value) (w : World), listed.size = ops.size → RelInv ops Le fr V w0 listed vals w → Region.ready .any ops listed = [] → Q .normal (fr vals) w := by
    intro listed vals w hs hI hr
    refine fin vals w hI.le ?_
    have hall : ∀ n i, i < n → i < ops.size → listed.getD i true = true := by
      intro n
      induction n with
      | zero => intro i hi; omega
      | succ n ih =>
        intro i hi hio
        by_cases h : listed.getD i true = true
        · exact h
        · exfalso
          have hno : i ∉ Region.ready .any ops listed := by rw [hr]; exact List.not_mem_nil
          refine hno ?_
          unfold Region.ready
          rw [List.mem_filter]
          refine ⟨List.mem_range.2 hio, ?_⟩
          have ho : ops[i]? = some ops[i] := Array.getElem?_eq_getElem hio
          simp only [Bool.and_eq_true, ho, Option.map_some, Option.getD_some]
          refine ⟨by simpa using h, ?_⟩
          rw [Array.all_eq_true']
          intro e he
          by_cases hb : Region.binds .any e = true
          · have hlt := edgesDown_spec hdown ho he hb
            have h1 := ih e.on (by omega) (by omega)
            have h2 : e.on < listed.size := by omega
            rw [Array.getD_eq_getD_getElem?, Array.getElem?_eq_getElem h2, Option.getD_some] at h1
            simp [h2, h1]
          · simp [hb]
    intro i hi
    exact hI.all i hi (hall (i + 1) i (by omega) hi)
  intro fuel
  induction fuel with
  | zero =>
    intro listed vals w hs hf hI
    have hr : Region.ready .any ops listed = [] := by
      unfold Region.ready
      rw [List.filter_eq_nil_iff]
      intro i hi
      have hio := List.mem_range.1 hi
      have h0 : listed.toList.filter (! ·) = [] := List.eq_nil_of_length_eq_zero hf
      rw [List.filter_eq_nil_iff] at h0
      have hl : i < listed.size := by omega
      have h1 := h0 listed[i] (by simp)
      simp at h1
      simp [Array.getD, hl, h1]
    exact ⟨hr, done listed vals w hs hI hr⟩
  | succ fuel ih =>
    intro listed vals w hs hf hI
    refine ⟨fun hr => done listed vals w hs hI hr, ?_⟩
    intro i hi
    unfold Region.ready at hi
    rw [List.mem_filter] at hi
    obtain ⟨hio, hi2⟩ := hi
    have hio := List.mem_range.1 hio
    have ho : ops[i]? = some ops[i] := Array.getElem?_eq_getElem hio
    simp only [Bool.and_eq_true, ho, Option.map_some, Option.getD_some] at hi2
    obtain ⟨hn, ha⟩ := hi2
    have hil : i < listed.size := by omega
    have hnl : listed[i] = false := by simpa [Array.getD, hil] using hn
    have hcount : ((listed.setIfInBounds i true).toList.filter (! ·)).length = fuel := by
      have e : (listed.setIfInBounds i true).toList = listed.toList.set i true := by simp
      rw [e]
      have hd : listed.toList = listed.toList.take i ++ listed[i] :: listed.toList.drop (i + 1) := by
        have hl' : i < listed.toList.length := by simpa using hil
        have := (List.take_append_drop i listed.toList).symm
        rw [List.drop_eq_getElem_cons hl'] at this
        simpa using this
      have hset : listed.toList.set i true = listed.toList.take i ++ true :: listed.toList.drop (i + 1) := by
        rw [List.set_eq_take_append_cons_drop, if_pos (by simpa using hil)]
      rw [hset]
      rw [hd, hnl] at hf
      simp at hf ⊢
      omega
    have hnext : ∀ v w', Le w w' → V i v w' → wpAny P .any ops Q fuel (listed.setIfInBounds i true) ((fr vals).put ops[i].dst v) w' := by
      intro v w' hle hv
      rw [hput i _ ho]
      refine ih _ _ _ (by simpa using hs) hcount ⟨htrans _ _ _ hI.le hle, ?_⟩
      intro j hj hlj
      rw [getD_set _ _ _ hil] at hlj
      by_cases hji : j = i
      · subst hji; simpa using hv
      · rw [if_neg hji] at hlj
        simp only [if_neg hji]
        exact mono _ _ _ _ hle (hI.all j hj hlj)
    have hst := step i _ ho vals w hI.le (by
      intro e he hb
      rw [Array.all_eq_true'] at ha
      have h1 := ha e (by simpa using he)
      simp [hb] at h1
      have hlt := edgesDown_spec hdown ho (by simpa using he) hb
      refine hI.all e.on (by omega) ?_
      have h2 : e.on < listed.size := by omega
      simpa [Array.getD, h2] using h1) _ hnext
    unfold wpOp
    simp only [ho]
    split
    · rename_i hw
      rw [if_pos hw] at hst
      exact .inl hst
    · rename_i hw
      rw [if_neg hw] at hst
      exact hst

/-- THE REGION: whatever order is drawn. -/
theorem wp_region_rel {id : Nat} {a : Act} {w : World} (hm : P.follows .mixedOrders = true) (Le : World → World → Prop) (hrefl : ∀ w, Le w w) (htrans : ∀ a b c, Le a b → Le b c → Le a c)
    (fr : (Nat → Value) → Act) (vals : Nat → Value) (ha : a = fr vals)
    (hput : ∀ i o, ops[i]? = some o → ∀ vals v, (fr vals).put o.dst v = fr (fun j => if j = i then v else vals j))
    (V : Nat → Value → World → Prop) (mono : ∀ i v w w', Le w w' → V i v w → V i v w') (hdown : edgesDown ops = true)
    (step : ∀ i o, ops[i]? = some o → RelStep P ops Q Le fr V w.drew i o)
    (fin : ∀ vals w', Le w.drew w' → (∀ i, i < ops.size → V i (vals i) w') → Q .normal (fr vals) w') : (Code.region id ops true).wp P Q a w := by
  refine wp_region_any hm ?_
  subst ha
  refine wpAny_rel htrans hput mono hdown step fin _ _ vals _ (by simp) ?_ ⟨hrefl _, ?_⟩
  · simp
  · intro i hi hl
    exfalso
    simp [Array.getD, hi] at hl

/-- The temporaries with the values vals in the slots ds, from number k on. -/
def fill (vals : Nat → Value) : List Nat → Nat → Array Value → Array Value
  | [], _, t => t
  | d :: ds, k, t => fill vals ds (k + 1) (t.setIfInBounds d (vals k))

def frOf (a : Act) (ds : List Nat) (vals : Nat → Value) : Act := { a with tmps := fill vals ds 0 a.tmps }

theorem fill_size (vals : Nat → Value) : ∀ (ds : List Nat) (k : Nat) (t : Array Value), (fill vals ds k t).size = t.size
  | [], _, _ => rfl
  | d :: ds, k, t => by rw [fill, fill_size vals ds, Array.size_setIfInBounds]

theorem fill_other (vals : Nat → Value) : ∀ (ds : List Nat) (k : Nat) (t : Array Value) (x : Nat), x ∉ ds → (fill vals ds k t)[x]? = t[x]?
  | [], _, _, _, _ => rfl
  | d :: ds, k, t, x, h => by
    rw [List.mem_cons, not_or] at h
    rw [fill, fill_other vals ds (k + 1) _ x h.2, Array.getElem?_setIfInBounds, if_neg (Ne.symm h.1)]

theorem fill_at (vals : Nat → Value) : ∀ (ds : List Nat) (k : Nat) (t : Array Value), ds.Nodup → (∀ d ∈ ds, d < t.size) → ∀ j d, ds[j]? = some d → (fill vals ds k t)[d]? = some (vals (k + j))
  | [], _, _, _, _, j, d, h => by simp at h
  | d' :: ds, k, t, hn, hb, 0, d, h => by
    simp at h
    subst h
    rw [fill, fill_other vals ds (k + 1) _ _ (List.nodup_cons.1 hn).1, Array.getElem?_setIfInBounds, if_pos rfl, if_pos (hb _ (by simp)), Nat.add_zero]
  | d' :: ds, k, t, hn, hb, j + 1, d, h => by
    rw [fill, fill_at vals ds (k + 1) _ (List.nodup_cons.1 hn).2 (fun x hx => by rw [Array.size_setIfInBounds]; exact hb x (by simp [hx])) j d (by simpa using h)]
    congr 2
    omega

/-- Every operation of a list, with its number. -/
def AllOps (T : Nat → Oper → Prop) : List Oper → Nat → Prop
  | [], _ => True
  | o :: l, k => T k o ∧ AllOps T l (k + 1)
theorem AllOps.nil {T : Nat → Oper → Prop} {k : Nat} : AllOps T [] k := trivial
theorem AllOps.cons {T : Nat → Oper → Prop} {o : Oper} {l : List Oper} {k : Nat} (h : T k o) (hl : AllOps T l (k + 1)) : AllOps T (o :: l) k := ⟨h, hl⟩
theorem AllOps.get {T : Nat → Oper → Prop} : ∀ {l : List Oper} {k : Nat}, AllOps T l k → ∀ i o, l[i]? = some o → T (k + i) o
  | [], _, _, i, o, h => by simp at h
  | o' :: l, k, ⟨h0, _⟩, 0, o, h => by simp at h; subst h; exact h0
  | o' :: l, k, ⟨_, hl⟩, i + 1, o, h => by have := AllOps.get hl i o (by simpa using h); rwa [show k + 1 + i = k + (i + 1) by omega] at this

/-- One operation, from a frame: what stands behind it is a variable. -/
def RelOp (P : Program) (ops : Array Oper) (Q : Exit → Act → World → Prop) (Le : World → World → Prop) (V : Nat → Value → World → Prop) (w0 : World) (a : Act) (vals : Nat → Value) (i : Nat) (o : Oper) : Prop :=
  ∀ (w : World), Le w0 w → (∀ e ∈ o.after.toList, Region.binds .any e = true → V e.on (vals e.on) w) →
    ∀ K : Act → World → Prop, (∀ v w', Le w w' → V i v w' → K (a.put o.dst v) w') →
    if Region.wanted o (yielded ops a.tmps) = true then o.wp P a w K Q else K (a.put o.dst undef) w

/-- THE REGION AS THE WALK WANTS IT: the operations written out, their slots 'ds'; what each leaves ('V'); each operation, from whatever values the earlier ones left. -/
theorem wp_region_told {id : Nat} {l : List Oper} {a : Act} {w : World} (hm : P.follows .mixedOrders = true) (Le : World → World → Prop) (hrefl : ∀ w, Le w w) (htrans : ∀ a b c, Le a b → Le b c → Le a c)
    (ds : List Nat) (hds : l.map (·.dst) = ds.map some) (hnd : ds.Nodup) (hlt : ∀ d ∈ ds, d < a.tmps.size)
    (V : Nat → Value → World → Prop) (mono : ∀ i v w w', Le w w' → V i v w → V i v w') (hdown : edgesDown l.toArray = true)
    (step : ∀ vals : Nat → Value, AllOps (RelOp P l.toArray Q Le V w.drew (frOf a ds vals) vals) l 0)
    (fin : ∀ vals w', Le w.drew w' → (∀ i, i < l.length → V i (vals i) w') → Q .normal (frOf a ds vals) w') : (Code.region id l.toArray true).wp P Q a w := by
  have hdst : ∀ (i : Nat) (o : Oper), l[i]? = some o → ∃ d, ds[i]? = some d ∧ o.dst = some d := by
    intro i o ho
    have h1 : (l.map (·.dst))[i]? = some o.dst := by simp [ho]
    rw [hds] at h1
    simp only [List.getElem?_map, Option.map_eq_some_iff] at h1
    obtain ⟨d, h2, h3⟩ := h1
    exact ⟨d, h2, h3.symm⟩
  refine wp_region_rel hm Le hrefl htrans (frOf a ds) (fun j => (ds[j]?.bind (a.tmps[·]?)).getD undef) ?_ ?_ V mono hdown ?_ (by simpa using fin)
  · unfold frOf
    have : fill (fun j => (ds[j]?.bind (a.tmps[·]?)).getD undef) ds 0 a.tmps = a.tmps := by
      apply Array.ext_getElem?
      intro x
      by_cases hx : x ∈ ds
      · obtain ⟨j, hj, rfl⟩ := List.getElem_of_mem hx
        have hd := List.getElem?_eq_getElem hj
        rw [fill_at _ ds 0 a.tmps hnd hlt j _ hd, Nat.zero_add, hd]
        have hb := hlt ds[j] hx
        simp [Array.getElem?_eq_getElem hb]
      · exact fill_other _ _ _ _ _ hx
    rw [this]
  · intro i o ho vals v
    obtain ⟨d, h1, h2⟩ := hdst i o (by simpa using ho)
    rw [h2]
    unfold frOf Act.put
    simp only
    congr 1
    apply Array.ext_getElem?
    intro x
    have hd : d < a.tmps.size := hlt d (List.mem_of_getElem? h1)
    rw [Array.getElem?_setIfInBounds]
    by_cases hx : x ∈ ds
    · obtain ⟨j, hj, rfl⟩ := List.getElem_of_mem hx
      have hdj := List.getElem?_eq_getElem hj
      rw [fill_at _ ds 0 a.tmps hnd hlt j _ hdj, fill_at _ ds 0 a.tmps hnd hlt j _ hdj, Nat.zero_add]
      by_cases e : j = i
      · subst e
        rw [h1] at hdj
        simp only [Option.some.injEq] at hdj
        rw [if_pos hdj, if_pos (by rw [fill_size]; exact hd), if_pos rfl]
      · have hne : d ≠ ds[j] := by
          intro e2
          refine e ?_
          have hi : i < ds.length := (List.getElem?_eq_some_iff.1 h1).1
          have h3 : ds[i] = ds[j] := by rw [(List.getElem?_eq_some_iff.1 h1).2]; exact e2
          exact ((List.getElem_inj hnd).1 h3).symm
        rw [if_neg hne, if_neg e]
    · have hne : d ≠ x := fun e => hx (e ▸ List.mem_of_getElem? h1)
      rw [if_neg hne, fill_other _ _ _ _ _ hx, fill_other _ _ _ _ _ hx]
  · intro i o ho vals w' hle he K hK
    have := (step vals).get i o (by simpa using ho)
    rw [Nat.zero_add] at this
    exact this w' hle he K hK

end
end Go.Proofs.Ytojfabhbkdddpaa
