/-
  A region that draws its order, whose operations are of two sorts: the free ones (each yields one value and changes nothing), and links, in whatever order: it is said what holds when some of them are carried out, and what each leaves.
-/
import Derived.Test.YtojfabhbkdddpaaRegionC
namespace Go.Proofs.Ytojfabhbkdddpaa
open Go.RowKit

section
variable {P : Program} {ops : Array Oper} {Q : Exit → Act → World → Prop}

/-- The links that are carried out, with their values. -/
def linksDone (n : Nat) (F : Nat → OpSort) (listed : Array Bool) (vals : Nat → Value) (j : Nat) : Option Value :=
  if decide (j < n) && (F j).isLink && listed.getD j true then some (vals j) else none

/-- What the walk keeps: what holds when these links are carried out; the free ones that are carried out have their values. -/
structure RelInvL (ops : Array Oper) (S : (Nat → Option Value) → World → Prop) (F : Nat → OpSort) (orig : Nat → Value) (listed : Array Bool) (vals : Nat → Value) (w : World) : Prop where
  done : S (linksDone ops.size F listed vals) w
  free : ∀ i v, i < ops.size → listed.getD i true = true → (F i).val = some v → vals i = v
  rest : ∀ i, i < ops.size → listed.getD i true = false → vals i = orig i
  closed : ∀ i o, ops[i]? = some o → listed.getD i true = true → ∀ e ∈ o.after, Region.binds .any e = true → listed.getD e.on true = true

/-- One operation of number i, from a frame. -/
def RelOpL (P : Program) (ops : Array Oper) (Q : Exit → Act → World → Prop) (S : (Nat → Option Value) → World → Prop) (F : Nat → OpSort) (orig : Nat → Value) (a : Act) (vals : Nat → Value) (i : Nat) (o : Oper) : Prop :=
  ∀ (st : Nat → Option Value) (w : World), S st w → (∀ e ∈ o.after.toList, Region.binds .any e = true → (∀ v, (F e.on).val = some v → vals e.on = v) ∧ ((F e.on).isLink = true → st e.on = some (vals e.on))) → (∀ j, j < ops.size → waits ops j i = true → vals j = orig j ∧ st j = none) → st i = none →
    match F i with
    | .free v => ∀ K : Act → World → Prop, K (a.put o.dst v) w →
        if Region.wanted o (yielded ops a.tmps) = true then o.wp P a w K Q else K (a.put o.dst undef) w
    | .link u => ∀ K : Act → World → Prop, (∀ v w', (∀ x, u = some x → v = x) → S (fun j => if j = i then some v else st j) w' → K (a.put o.dst v) w') →
        if Region.wanted o (yielded ops a.tmps) = true then o.wp P a w K Q else K (a.put o.dst undef) w

theorem wpAny_links {fr : (Nat → Value) → Act}
    (hput : ∀ i o, ops[i]? = some o → ∀ vals v, (fr vals).put o.dst v = fr (fun j => if j = i then v else vals j))
    {S : (Nat → Option Value) → World → Prop} {F : Nat → OpSort} {orig : Nat → Value} (hdown : edgesDown ops = true)
    (step : ∀ i o, ops[i]? = some o → ∀ vals, RelOpL P ops Q S F orig (fr vals) vals i o)
    (fin : ∀ vals w, S (fun j => if decide (j < ops.size) && (F j).isLink then some (vals j) else none) w → (∀ i v, i < ops.size → (F i).val = some v → vals i = v) → Q .normal (fr vals) w) :
    ∀ (fuel : Nat) (listed : Array Bool) (vals : Nat → Value) (w : World), listed.size = ops.size → (listed.toList.filter (! ·)).length = fuel → RelInvL ops S F orig listed vals w → wpAny P .any ops Q fuel listed (fr vals) w := by
  have done : ∀ (listed : Array Bool) (vals : Nat → Value) (w : World), listed.size = ops.size → RelInvL ops S F orig listed vals w → Region.ready .any ops listed = [] → Q .normal (fr vals) w := by
    intro listed vals w hs hI hr
    have hall : ∀ n i, i < n → i < ops.size → listed.getD i true = true := by
      intro n
      induction n with
      | zero => intro i hi; omega
      | succ n ih =>
        intro i hi hio
        by_cases h : listed.getD i true = true
        · exact h
        · exfalso
          have hno : i ∉ Region.ready .any ops listed := by rw [hr]; exact List.not_mem_nil
          refine hno ?_
          unfold Region.ready
          rw [List.mem_filter]
          refine ⟨List.mem_range.2 hio, ?_⟩
          have ho : ops[i]? = some ops[i] := Array.getElem?_eq_getElem hio
          simp only [Bool.and_eq_true, ho, Option.map_some, Option.getD_some]
          refine ⟨by simpa using h, ?_⟩
          rw [Array.all_eq_true']
          intro e he
          by_cases hb : Region.binds .any e = true
          · have hlt := edgesDown_spec hdown ho he hb
            have h1 := ih e.on (by omega) (by omega)
            have h2 : e.on < listed.size := by omega
            rw [Array.getD_eq_getD_getElem?, Array.getElem?_eq_getElem h2, Option.getD_some] at h1
            simp [h2, h1]
          · simp [hb]
    refine fin vals w ?_ (fun i v hi hv => hI.free i v hi (hall (i + 1) i (by omega) hi) hv)
    have hS := hI.done
    have e : linksDone ops.size F listed vals = fun j => if decide (j < ops.size) && (F j).isLink then some (vals j) else none := by
      funext j
      unfold linksDone
      by_cases hj : j < ops.size
      · rw [hall (j + 1) j (by omega) hj, Bool.and_true]
      · simp [hj]
    rw [e] at hS
    exact hS
  intro fuel
  induction fuel with
  | zero =>
    intro listed vals w hs hf hI
    have hr : Region.ready .any ops listed = [] := by
      unfold Region.ready
      rw [List.filter_eq_nil_iff]
      intro i hi
      have hio := List.mem_range.1 hi
      have h0 : listed.toList.filter (! ·) = [] := List.eq_nil_of_length_eq_zero hf
      rw [List.filter_eq_nil_iff] at h0
      have hl : i < listed.size := by omega
      have h1 := h0 listed[i] (by simp)
      simp at h1
      simp [Array.getD, hl, h1]
    exact ⟨hr, done listed vals w hs hI hr⟩
  | succ fuel ih =>
    intro listed vals w hs hf hI
    refine ⟨fun hr => done listed vals w hs hI hr, ?_⟩
    intro i hi
    unfold Region.ready at hi
    rw [List.mem_filter] at hi
    obtain ⟨hio, hi2⟩ := hi
    have hio := List.mem_range.1 hio
    have ho : ops[i]? = some ops[i] := Array.getElem?_eq_getElem hio
    simp only [Bool.and_eq_true, ho, Option.map_some, Option.getD_some] at hi2
    obtain ⟨hn, ha⟩ := hi2
    have hil : i < listed.size := by omega
    have hnl : listed[i] = false := by simpa [Array.getD, hil] using hn
    have hni : listed.getD i true = false := by rw [Array.getD_eq_getD_getElem?, Array.getElem?_eq_getElem hil, hnl]; rfl
    have hcount : ((listed.setIfInBounds i true).toList.filter (! ·)).length = fuel := by
      have e : (listed.setIfInBounds i true).toList = listed.toList.set i true := by simp
      rw [e]
      have hd : listed.toList = listed.toList.take i ++ listed[i] :: listed.toList.drop (i + 1) := by
        have hl' : i < listed.toList.length := by simpa using hil
        have := (List.take_append_drop i listed.toList).symm
        rw [List.drop_eq_getElem_cons hl'] at this
        simpa using this
      have hset : listed.toList.set i true = listed.toList.take i ++ true :: listed.toList.drop (i + 1) := by
        rw [List.set_eq_take_append_cons_drop, if_pos (by simpa using hil)]
      rw [hset]
      rw [hd, hnl] at hf
      simp at hf ⊢
      omega
    have hnd : ∀ e ∈ ops[i].after, Region.binds .any e = true → listed.getD e.on true = true := by
      intro e he hb
      rw [Array.all_eq_true'] at ha
      have h1 := ha e he
      simp [hb] at h1
      have hlt := edgesDown_spec hdown ho he hb
      have h2 : e.on < listed.size := by omega
      simpa [Array.getD, h2] using h1
    have hwt : ∀ j, j < ops.size → waits ops j i = true → listed.getD j true = false := by
      intro j hjs hw
      unfold waits at hw
      have hjo : ops[j]? = some ops[j] := Array.getElem?_eq_getElem hjs
      rw [hjo] at hw
      simp only [Array.any_eq_true', Bool.and_eq_true, decide_eq_true_eq] at hw
      obtain ⟨e, he, hb, hei⟩ := hw
      cases hlj : listed.getD j true with
      | false => rfl
      | true =>
        have := hI.closed j _ hjo hlj e he hb
        rw [hei, hni] at this
        cases this
    have hnext : ∀ v w', S (linksDone ops.size F (listed.setIfInBounds i true) (fun j => if j = i then v else vals j)) w' → (∀ u, (F i).val = some u → v = u) →
        wpAny P .any ops Q fuel (listed.setIfInBounds i true) ((fr vals).put ops[i].dst v) w' := by
      intro v w' hd hu
      rw [hput i _ ho]
      refine ih _ _ _ (by simpa using hs) hcount ⟨hd, ?_, ?_, ?_⟩
      · intro j u hj hlj hF
        rw [getD_set _ _ _ hil] at hlj
        by_cases hji : j = i
        · subst hji; simpa using hu u hF
        · rw [if_neg hji] at hlj
          simp only [if_neg hji]
          exact hI.free j u hj hlj hF
      · intro j hj hlj
        rw [getD_set _ _ _ hil] at hlj
        by_cases hji : j = i
        · rw [if_pos hji] at hlj; cases hlj
        · rw [if_neg hji] at hlj
          simp only [if_neg hji]
          exact hI.rest j hj hlj
      · intro j o hjo hlj e he hb
        rw [getD_set _ _ _ hil] at hlj ⊢
        by_cases hei : e.on = i
        · rw [if_pos hei]
        · rw [if_neg hei]
          by_cases hji : j = i
          · subst hji
            rw [ho] at hjo
            cases hjo
            exact hnd e he hb
          · rw [if_neg hji] at hlj
            exact hI.closed j o hjo hlj e he hb
    have hst := step i _ ho vals _ w hI.done (by
      intro e he hb
      have hlt := edgesDown_spec hdown ho (by simpa using he) hb
      have hle := hnd e (by simpa using he) hb
      refine ⟨fun v hv => hI.free e.on v (by omega) hle hv, fun hL => ?_⟩
      unfold linksDone
      rw [hle, hL, decide_eq_true (show e.on < ops.size by omega)]
      rfl) (fun j hjs hw => ⟨hI.rest j hjs (hwt j hjs hw), by unfold linksDone; rw [hwt j hjs hw]; simp⟩) (by unfold linksDone; rw [hni]; simp)
    have hkey : if Region.wanted ops[i] (yielded ops (fr vals).tmps) = true then ops[i].wp P (fr vals) w (fun a' w' => wpAny P .any ops Q fuel (listed.setIfInBounds i true) a' w') Q else wpAny P .any ops Q fuel (listed.setIfInBounds i true) ((fr vals).put ops[i].dst undef) w := by
      cases hF : F i with
      | free v =>
        simp only [hF] at hst
        refine hst _ (hnext v w ?_ ?_)
        · have e : linksDone ops.size F (listed.setIfInBounds i true) (fun j => if j = i then v else vals j) = linksDone ops.size F listed vals := by
            funext j
            unfold linksDone
            rw [getD_set _ _ _ hil]
            by_cases hji : j = i
            · subst hji
              rw [hF]
              simp [OpSort.isLink]
            · simp only [if_neg hji]
          rw [e]
          exact hI.done
        · intro u hu
          rw [hF] at hu
          simpa [OpSort.val] using hu
      | link u =>
        simp only [hF] at hst
        refine hst _ (fun v w' hv' hS' => hnext v w' ?_ ?_)
        · have e : linksDone ops.size F (listed.setIfInBounds i true) (fun j => if j = i then v else vals j) = fun j => if j = i then some v else linksDone ops.size F listed vals j := by
            funext j
            unfold linksDone
            rw [getD_set _ _ _ hil]
            by_cases hji : j = i
            · subst hji
              rw [hF]
              simp [OpSort.isLink, hio]
            · simp only [if_neg hji]
          rw [e]
          exact hS'
        · intro u' hu
          rw [hF] at hu
          exact hv' u' (by simpa [OpSort.val] using hu)
    unfold wpOp
    simp only [ho]
    split
    · rename_i hw
      rw [if_pos hw] at hkey
      exact .inl hkey
    · rename_i hw
      rw [if_neg hw] at hkey
      exact hkey

/-- THE REGION: the operations written out, their slots 'ds', what holds when some links are carried out ('S', over their values), the free ones' values ('FL'). -/
theorem wp_region_links {id : Nat} {l : List Oper} {a : Act} {w : World} (hm : P.follows .mixedOrders = true)
    (ds : List (Option Nat)) (hds : l.map (·.dst) = ds) (hnd : noTwice ds = true) (hlt : ∀ d, some d ∈ ds → d < a.tmps.size)
    (S : (Nat → Option Value) → World → Prop) (FL : List OpSort) (hdown : edgesDown l.toArray = true)
    (h0 : S (fun _ => none) w.drew)
    (step : ∀ vals : Nat → Value, AllOps (RelOpL P l.toArray Q S (fun i => FL.getD i (.link none)) (fun i => ((ds[i]?.bind fun x => x).bind (a.tmps[·]?)).getD undef) (frOfU a ds vals) vals) l 0)
    (fin : ∀ vals w', S (fun j => if decide (j < l.length) && (FL.getD j (.link none)).isLink then some (vals j) else none) w' → (∀ i v, i < l.length → (FL.getD i (.link none)).val = some v → vals i = v) → Q .normal (frOfU a ds vals) w') : (Code.region id l.toArray true).wp P Q a w := by
  have hdst : ∀ (i : Nat) (o : Oper), l[i]? = some o → ds[i]? = some o.dst := by
    intro i o ho
    rw [← hds]
    simp [ho]
  refine wp_region_any hm ?_
  have ha : a = frOfU a ds (fun i => ((ds[i]?.bind fun x => x).bind (a.tmps[·]?)).getD undef) := by
    unfold frOfU
    have : fillU (fun j => ((ds[j]?.bind fun x => x).bind (a.tmps[·]?)).getD undef) ds 0 a.tmps = a.tmps := by
      apply Array.ext_getElem?
      intro x
      by_cases hx : some x ∈ ds
      · obtain ⟨j, hj, hjx⟩ := List.getElem_of_mem hx
        have hd : ds[j]? = some (some x) := by rw [List.getElem?_eq_getElem hj, hjx]
        rw [fillU_at _ ds 0 a.tmps hnd hlt j _ hd, Nat.zero_add, hd]
        have hb := hlt x hx
        simp [Array.getElem?_eq_getElem hb]
      · exact fillU_other _ _ _ _ _ hx
    rw [this]
  have hput : ∀ i o, l.toArray[i]? = some o → ∀ vals v, (frOfU a ds vals).put o.dst v = frOfU a ds (fun j => if j = i then v else vals j) := by
    intro i o ho vals v
    have h1 := hdst i o (by simpa using ho)
    unfold frOfU Act.put
    cases h2 : o.dst with
    | none =>
      rw [h2] at h1
      simp only
      congr 1
      apply Array.ext_getElem?
      intro x
      by_cases hx : some x ∈ ds
      · obtain ⟨j, hj, hjx⟩ := List.getElem_of_mem hx
        have hd : ds[j]? = some (some x) := by rw [List.getElem?_eq_getElem hj, hjx]
        rw [fillU_at _ ds 0 a.tmps hnd hlt j _ hd, fillU_at _ ds 0 a.tmps hnd hlt j _ hd, Nat.zero_add]
        have hne : j ≠ i := by
          intro e
          subst e
          rw [h1] at hd
          cases hd
        rw [if_neg hne]
      · rw [fillU_other _ _ _ _ _ hx, fillU_other _ _ _ _ _ hx]
    | some d =>
      rw [h2] at h1
      simp only
      congr 1
      apply Array.ext_getElem?
      intro x
      have hd : d < a.tmps.size := hlt d (List.mem_of_getElem? h1)
      rw [Array.getElem?_setIfInBounds]
      by_cases hx : some x ∈ ds
      · obtain ⟨j, hj, hjx⟩ := List.getElem_of_mem hx
        have hdj : ds[j]? = some (some x) := by rw [List.getElem?_eq_getElem hj, hjx]
        rw [fillU_at _ ds 0 a.tmps hnd hlt j _ hdj, fillU_at _ ds 0 a.tmps hnd hlt j _ hdj, Nat.zero_add]
        by_cases e : j = i
        · subst e
          rw [h1] at hdj
          simp only [Option.some.injEq] at hdj
          rw [if_pos hdj, if_pos (by rw [fillU_size]; exact hdj ▸ hd), if_pos rfl]
        · have hne : d ≠ x := by
            intro e2
            subst e2
            exact e (noTwice_inj hnd hdj h1)
          rw [if_neg hne, if_neg e]
      · have hne : d ≠ x := fun e => hx (e ▸ List.mem_of_getElem? h1)
        rw [if_neg hne, fillU_other _ _ _ _ _ hx, fillU_other _ _ _ _ _ hx]
  have hfalse : ∀ i, i < l.toArray.size → ¬ (Array.replicate l.toArray.size false).getD i true = true := by
    intro i hi h
    have hi' : i < l.length := by simpa using hi
    simp [Array.getD, hi'] at h
  have hmain := wpAny_links (P := P) (ops := l.toArray) (Q := Q) (fr := frOfU a ds) hput (S := S) (F := fun i => FL.getD i (.link none)) (orig := fun i => ((ds[i]?.bind fun x => x).bind (a.tmps[·]?)).getD undef) hdown (by
      intro i o ho vals
      have := (step vals).get i o (by simpa using ho)
      rw [Nat.zero_add] at this
      exact this) (fun vals w h1 h2 => fin vals w (by simpa using h1) (fun i v hi => h2 i v (by simpa using hi))) l.toArray.size (Array.replicate l.toArray.size false) (fun i => ((ds[i]?.bind fun x => x).bind (a.tmps[·]?)).getD undef) w.drew (by simp) (by simp) ⟨?_, ?_, ?_, ?_⟩
  · rw [← ha] at hmain
    exact hmain
  · have e : linksDone l.toArray.size (fun i => FL.getD i (.link none)) (Array.replicate l.toArray.size false) (fun i => ((ds[i]?.bind fun x => x).bind (a.tmps[·]?)).getD undef) = fun _ => none := by
      funext j
      unfold linksDone
      by_cases hj : j < l.toArray.size
      · have := hfalse j hj
        rw [Bool.not_eq_true] at this
        rw [this, Bool.and_false]
        rfl
      · rw [decide_eq_false hj]
        rfl
    rw [e]
    exact h0
  · intro i v hi hl
    exact absurd hl (hfalse i hi)
  · intro i _ _
    rfl
  · intro i o ho hl
    exact absurd hl (hfalse i (Array.getElem?_eq_some_iff.1 ho).1)

end
end Go.Proofs.Ytojfabhbkdddpaa
