/-
  What ParAny, ParChk, ParBack, ParOnce rests on, part 7: RegionC, RegionL, Two, ParWant.
-/
import Derived.Test.YtjegdbkkojaacaaS06
import Derived.Test.YtjegdbkkojaacaaS04
import Derived.Test.YtjegdbkkojaacaaS05
set_option linter.unusedVariables false
set_option linter.unusedSimpArgs false
set_option maxHeartbeats 64000000
namespace Go.Proofs.Ytjegdbkkojaacaa
open Go.RowKit
open Go.Lib (hid)
section
/-- An operation is free (and yields this value), or a link of the chain (and yields this value, if it is said). -/
inductive OpSort where
  | free (v : Value)
  | link (v : Option Value)

def OpSort.val : OpSort → Option Value
  | .free v => some v
  | .link v => v

def OpSort.isLink : OpSort → Bool
  | .free _ => false
  | .link _ => true

section
variable {P : Program} {ops : Array Oper} {Q : Exit → Act → World → Prop}

/-- What the walk keeps: so many of the chain are carried out, and what holds then; the free ones that are carried out have their values. -/
structure RelInvC (ops : Array Oper) (chain : List Nat) (S : List Value → World → Prop) (F : Nat → OpSort) (orig : Nat → Value) (listed : Array Bool) (vals : Nat → Value) (w : World) : Prop where
  done : ∃ k, k ≤ chain.length ∧ (∀ m i, chain[m]? = some i → listed.getD i true = decide (m < k)) ∧ S ((chain.take k).map vals) w
  free : ∀ i v, i < ops.size → listed.getD i true = true → (F i).val = some v → vals i = v
  rest : ∀ i, i < ops.size → listed.getD i true = false → vals i = orig i
  closed : ∀ i o, ops[i]? = some o → listed.getD i true = true → ∀ e ∈ o.after, Region.binds .any e = true → listed.getD e.on true = true

/-- One operation of number i, from a frame. -/
def RelOpC (P : Program) (ops : Array Oper) (Q : Exit → Act → World → Prop) (chain : List Nat) (S : List Value → World → Prop) (F : Nat → OpSort) (orig : Nat → Value) (a : Act) (vals : Nat → Value) (i : Nat) (o : Oper) : Prop :=
  ∀ (cvs : List Value) (w : World), S cvs w → (∀ e ∈ o.after.toList, Region.binds .any e = true → ∀ v, (F e.on).val = some v → vals e.on = v) → (∀ j, j < ops.size → waits ops j i = true → vals j = orig j) →
    match F i with
    | .free v => (∀ m j, chain[m]? = some j → waits ops j i = true → cvs.length ≤ m) → ∀ K : Act → World → Prop, K (a.put o.dst v) w →
        if Region.wanted o (yielded ops a.tmps) = true then o.wp P a w K Q else K (a.put o.dst undef) w
    | .link u => (∀ k, chain[k]? = some i → cvs = (chain.take k).map vals) → ∀ K : Act → World → Prop, (∀ v w', (∀ x, u = some x → v = x) → S (cvs ++ [v]) w' → K (a.put o.dst v) w') →
        if Region.wanted o (yielded ops a.tmps) = true then o.wp P a w K Q else K (a.put o.dst undef) w

/-- Is it a chain: those that are not free, each once, each but the first waits for the one ahead? -/
def chainOK (ops : Array Oper) (chain : List Nat) (F : Nat → Bool) : Bool :=
  chain.all (fun i => decide (i < ops.size) && F i) && (List.range ops.size).all (fun i => !F i || chain.contains i) &&
  (List.range (chain.length - 1)).all (fun m => waits ops (chain.getD (m + 1) 0) (chain.getD m 0)) && (List.range chain.length).all (fun m => (List.range chain.length).all fun m' => decide (m = m') || decide (chain.getD m 0 ≠ chain.getD m' 0))

theorem chainOK_in {chain : List Nat} {F : Nat → Bool} (h : chainOK ops chain F = true) {m i : Nat} (hm : chain[m]? = some i) : i < ops.size ∧ F i = true := by
  unfold chainOK at h
  simp only [Bool.and_eq_true, List.all_eq_true] at h
  simpa using h.1.1.1 i (List.mem_of_getElem? hm)

theorem chainOK_all {chain : List Nat} {F : Nat → Bool} (h : chainOK ops chain F = true) {i : Nat} (hi : i < ops.size) (hF : F i = true) : ∃ m : Nat, chain[m]? = some i := by
  unfold chainOK at h
  simp only [Bool.and_eq_true, List.all_eq_true] at h
  have := h.1.1.2 i (List.mem_range.2 hi)
  simp [hF] at this
  exact List.getElem?_of_mem this

theorem chainOK_waits {chain : List Nat} {F : Nat → Bool} (h : chainOK ops chain F = true) {m i j : Nat} (hi : chain[m]? = some i) (hj : chain[m + 1]? = some j) : waits ops j i = true := by
  unfold chainOK at h
  simp only [Bool.and_eq_true, List.all_eq_true] at h
  have hl := (List.getElem?_eq_some_iff.1 hj).1
  have := h.1.2 m (List.mem_range.2 (by omega))
  rw [List.getD_eq_getElem?_getD, List.getD_eq_getElem?_getD, hi, hj] at this
  exact this

theorem chainOK_once {chain : List Nat} {F : Nat → Bool} (h : chainOK ops chain F = true) {m m' i : Nat} (hi : chain[m]? = some i) (hj : chain[m']? = some i) : m = m' := by
  unfold chainOK at h
  simp only [Bool.and_eq_true, List.all_eq_true] at h
  have hl := (List.getElem?_eq_some_iff.1 hi).1
  have hl' := (List.getElem?_eq_some_iff.1 hj).1
  have := h.2 m (List.mem_range.2 hl) m' (List.mem_range.2 hl')
  rw [List.getD_eq_getElem?_getD, List.getD_eq_getElem?_getD, hi, hj] at this
  simpa using this

theorem wpAny_chain {fr : (Nat → Value) → Act}
    (hput : ∀ i o, ops[i]? = some o → ∀ vals v, (fr vals).put o.dst v = fr (fun j => if j = i then v else vals j))
    {chain : List Nat} {S : List Value → World → Prop} {F : Nat → OpSort} {orig : Nat → Value} (hdown : edgesDown ops = true) (hch : chainOK ops chain (fun i => (F i).isLink) = true)
    (step : ∀ i o, ops[i]? = some o → ∀ vals, RelOpC P ops Q chain S F orig (fr vals) vals i o)
    (fin : ∀ vals w, S (chain.map vals) w → (∀ i v, i < ops.size → (F i).val = some v → vals i = v) → Q .normal (fr vals) w) :
    ∀ (fuel : Nat) (listed : Array Bool) (vals : Nat → Value) (w : World), listed.size = ops.size → (listed.toList.filter (! ·)).length = fuel → RelInvC ops chain S F orig listed vals w → wpAny P .any ops Q fuel listed (fr vals) w := by
  have done : ∀ (listed : Array Bool) (vals : Nat → Value) (w : World), listed.size = ops.size → RelInvC ops chain S F orig listed vals w → Region.ready .any ops listed = [] → Q .normal (fr vals) w := by
    intro listed vals w hs hI hr
    have hall : ∀ n i, i < n → i < ops.size → listed.getD i true = true := by
      intro n
      induction n with
      | zero => intro i hi; omega
      | succ n ih =>
        intro i hi hio
        by_cases h : listed.getD i true = true
        · exact h
        · exfalso
          have hno : i ∉ Region.ready .any ops listed := by rw [hr]; exact List.not_mem_nil
          refine hno ?_
          unfold Region.ready
          rw [List.mem_filter]
          refine ⟨List.mem_range.2 hio, ?_⟩
          have ho : ops[i]? = some ops[i] := Array.getElem?_eq_getElem hio
          simp only [Bool.and_eq_true, ho, Option.map_some, Option.getD_some]
          refine ⟨by simpa using h, ?_⟩
          rw [Array.all_eq_true']
          intro e he
          by_cases hb : Region.binds .any e = true
          · have hlt := edgesDown_spec hdown ho he hb
            have h1 := ih e.on (by omega) (by omega)
            have h2 : e.on < listed.size := by omega
            rw [Array.getD_eq_getD_getElem?, Array.getElem?_eq_getElem h2, Option.getD_some] at h1
            simp [h2, h1]
          · simp [hb]
    obtain ⟨k, hk, hl, hS⟩ := hI.done
    have hkl : k = chain.length := by
      rcases Nat.lt_or_ge k chain.length with h | h
      · have h1 := hl k chain[k] (List.getElem?_eq_getElem h)
        have h2 := (chainOK_in hch (List.getElem?_eq_getElem h)).1
        rw [hall (chain[k] + 1) _ (by omega) h2] at h1
        simp at h1
      · omega
    rw [hkl, List.take_length] at hS
    exact fin vals w hS (fun i v hi hv => hI.free i v hi (hall (i + 1) i (by omega) hi) hv)
  intro fuel
  induction fuel with
  | zero =>
    intro listed vals w hs hf hI
    have hr : Region.ready .any ops listed = [] := by
      unfold Region.ready
      rw [List.filter_eq_nil_iff]
      intro i hi
      have hio := List.mem_range.1 hi
      have h0 : listed.toList.filter (! ·) = [] := List.eq_nil_of_length_eq_zero hf
      rw [List.filter_eq_nil_iff] at h0
      have hl : i < listed.size := by omega
      have h1 := h0 listed[i] (by simp)
      simp at h1
      simp [Array.getD, hl, h1]
    exact ⟨hr, done listed vals w hs hI hr⟩
  | succ fuel ih =>
    intro listed vals w hs hf hI
    refine ⟨fun hr => done listed vals w hs hI hr, ?_⟩
    intro i hi
    unfold Region.ready at hi
    rw [List.mem_filter] at hi
    obtain ⟨hio, hi2⟩ := hi
    have hio := List.mem_range.1 hio
    have ho : ops[i]? = some ops[i] := Array.getElem?_eq_getElem hio
    simp only [Bool.and_eq_true, ho, Option.map_some, Option.getD_some] at hi2
    obtain ⟨hn, ha⟩ := hi2
    have hil : i < listed.size := by omega
    have hnl : listed[i] = false := by simpa [Array.getD, hil] using hn
    have hni : listed.getD i true = false := by rw [Array.getD_eq_getD_getElem?, Array.getElem?_eq_getElem hil, hnl]; rfl
    have hcount : ((listed.setIfInBounds i true).toList.filter (! ·)).length = fuel := by
      have e : (listed.setIfInBounds i true).toList = listed.toList.set i true := by simp
      rw [e]
      have hd : listed.toList = listed.toList.take i ++ listed[i] :: listed.toList.drop (i + 1) := by
        have hl' : i < listed.toList.length := by simpa using hil
        have := (List.take_append_drop i listed.toList).symm
        rw [List.drop_eq_getElem_cons hl'] at this
        simpa using this
      have hset : listed.toList.set i true = listed.toList.take i ++ true :: listed.toList.drop (i + 1) := by
        rw [List.set_eq_take_append_cons_drop, if_pos (by simpa using hil)]
      rw [hset]
      rw [hd, hnl] at hf
      simp at hf ⊢
      omega
    have hnd : ∀ e ∈ ops[i].after, Region.binds .any e = true → listed.getD e.on true = true := by
      intro e he hb
      rw [Array.all_eq_true'] at ha
      have h1 := ha e he
      simp [hb] at h1
      have hlt := edgesDown_spec hdown ho he hb
      have h2 : e.on < listed.size := by omega
      simpa [Array.getD, h2] using h1
    have hwt : ∀ j, j < ops.size → waits ops j i = true → listed.getD j true = false := by
      intro j hjs hw
      unfold waits at hw
      have hjo : ops[j]? = some ops[j] := Array.getElem?_eq_getElem hjs
      rw [hjo] at hw
      simp only [Array.any_eq_true', Bool.and_eq_true, decide_eq_true_eq] at hw
      obtain ⟨e, he, hb, hei⟩ := hw
      cases hlj : listed.getD j true with
      | false => rfl
      | true =>
        have := hI.closed j _ hjo hlj e he hb
        rw [hei, hni] at this
        cases this
    obtain ⟨k, hk, hl, hS⟩ := hI.done
    have hnext : ∀ v w', (∃ k', k' ≤ chain.length ∧ (∀ m j, chain[m]? = some j → (if j = i then true else listed.getD j true) = decide (m < k')) ∧ S ((chain.take k').map (fun j => if j = i then v else vals j)) w') → (∀ u, (F i).val = some u → v = u) →
        wpAny P .any ops Q fuel (listed.setIfInBounds i true) ((fr vals).put ops[i].dst v) w' := by
      intro v w' hd hu
      rw [hput i _ ho]
      refine ih _ _ _ (by simpa using hs) hcount ⟨?_, ?_, ?_, ?_⟩
      · obtain ⟨k', h1, h2, h3⟩ := hd
        exact ⟨k', h1, fun m j hj => by rw [getD_set _ _ _ hil]; exact h2 m j hj, h3⟩
      · intro j u hj hlj hF
        rw [getD_set _ _ _ hil] at hlj
        by_cases hji : j = i
        · subst hji; simpa using hu u hF
        · rw [if_neg hji] at hlj
          simp only [if_neg hji]
          exact hI.free j u hj hlj hF
      · intro j hj hlj
        rw [getD_set _ _ _ hil] at hlj
        by_cases hji : j = i
        · rw [if_pos hji] at hlj; cases hlj
        · rw [if_neg hji] at hlj
          simp only [if_neg hji]
          exact hI.rest j hj hlj
      · intro j o hjo hlj e he hb
        rw [getD_set _ _ _ hil] at hlj ⊢
        by_cases hei : e.on = i
        · rw [if_pos hei]
        · rw [if_neg hei]
          by_cases hji : j = i
          · subst hji
            rw [ho] at hjo
            cases hjo
            exact hnd e he hb
          · rw [if_neg hji] at hlj
            exact hI.closed j o hjo hlj e he hb
    have hst := step i _ ho vals _ w hS (by
      intro e he hb v hv
      have hlt := edgesDown_spec hdown ho (by simpa using he) hb
      exact hI.free e.on v (by omega) (hnd e (by simpa using he) hb) hv) (fun j hjs hw => hI.rest j hjs (hwt j hjs hw))
    have hkey : if Region.wanted ops[i] (yielded ops (fr vals).tmps) = true then ops[i].wp P (fr vals) w (fun a' w' => wpAny P .any ops Q fuel (listed.setIfInBounds i true) a' w') Q else wpAny P .any ops Q fuel (listed.setIfInBounds i true) ((fr vals).put ops[i].dst undef) w := by
      cases hF : F i with
      | free v =>
        simp only [hF] at hst
        have hnin : ∀ (m j : Nat), chain[m]? = some j → j ≠ i := by
          intro m j hj e
          have := (chainOK_in hch hj).2
          rw [e, hF] at this
          cases this
        refine hst ?_ _ (hnext v w ⟨k, hk, ?_, ?_⟩ ?_)
        · intro m j hj hw
          have h1 := hl m j hj
          rw [hwt j (chainOK_in hch hj).1 hw] at h1
          have : ¬ m < k := by simpa using h1.symm
          rw [List.length_map, List.length_take]
          omega
        · intro m j hj
          rw [if_neg (hnin m j hj)]
          exact hl m j hj
        · have : (chain.take k).map (fun j => if j = i then v else vals j) = (chain.take k).map vals := by
            refine List.map_congr_left fun j hj => ?_
            obtain ⟨m, hm⟩ := List.getElem?_of_mem (List.mem_of_mem_take hj)
            rw [if_neg (hnin m j hm)]
          rw [this]
          exact hS
        · intro u hu
          rw [hF] at hu
          simpa [OpSort.val] using hu
      | link u =>
        simp only [hF] at hst
        obtain ⟨m, hm⟩ := chainOK_all (F := fun i => (F i).isLink) hch hio (by rw [hF]; rfl)
        have hmk : ¬ m < k := by
          have h1 := hl m i hm
          rw [hni] at h1
          simpa using h1.symm
        obtain rfl : m = k := by
          cases m with
          | zero => omega
          | succ m =>
            have hml : m < chain.length := by have := (List.getElem?_eq_some_iff.1 hm).1; omega
            have h0 := List.getElem?_eq_getElem hml
            have hw := chainOK_waits hch h0 hm
            unfold waits at hw
            rw [ho] at hw
            simp only [Array.any_eq_true', Bool.and_eq_true, decide_eq_true_eq] at hw
            obtain ⟨e, he, hb, hei⟩ := hw
            have h1 := hnd e he hb
            rw [hei, hl m _ h0] at h1
            have : m < k := by simpa using h1
            omega
        refine hst ?_ _ (fun v w' hv' hS' => hnext v w' ⟨m + 1, (List.getElem?_eq_some_iff.1 hm).1, ?_, ?_⟩ ?_)
        · intro m' hm'
          rw [chainOK_once hch hm' hm]
        · intro m' j hj
          by_cases hji : j = i
          · subst hji
            rw [if_pos rfl, chainOK_once hch hj hm]
            simp
          · rw [if_neg hji, hl m' j hj]
            have hne : m' ≠ m := fun e => by rw [e, hm] at hj; cases hj; exact hji rfl
            simp only [decide_eq_decide]
            omega
        · have e1 : chain.take (m + 1) = chain.take m ++ [i] := by rw [List.take_add_one, hm]; rfl
          rw [e1, List.map_append, List.map_singleton, if_pos rfl]
          have : (chain.take m).map (fun j => if j = i then v else vals j) = (chain.take m).map vals := by
            refine List.map_congr_left fun j hj => ?_
            obtain ⟨m', hm'⟩ := List.getElem?_of_mem hj
            have h2 := (List.getElem?_eq_some_iff.1 hm').1
            rw [List.length_take] at h2
            rw [List.getElem?_take, if_pos (by omega)] at hm'
            rw [if_neg]
            intro e
            subst e
            have := chainOK_once hch hm' hm
            omega
          rw [this]
          exact hS'
        · intro u' hu
          rw [hF] at hu
          exact hv' u' (by simpa [OpSort.val] using hu)
    unfold wpOp
    simp only [ho]
    split
    · rename_i hw
      rw [if_pos hw] at hkey
      exact .inl hkey
    · rename_i hw
      rw [if_neg hw] at hkey
      exact hkey

/-- THE REGION: the operations written out, their slots 'ds', the chain, what holds when so many of it are carried out ('S', over their values), the free ones' values ('FL'). -/
theorem wp_region_chain {id : Nat} {l : List Oper} {a : Act} {w : World} (hm : P.follows .mixedOrders = true)
    (ds : List (Option Nat)) (hds : l.map (·.dst) = ds) (hnd : noTwice ds = true) (hlt : ∀ d, some d ∈ ds → d < a.tmps.size)
    (chain : List Nat) (S : List Value → World → Prop) (FL : List OpSort) (hdown : edgesDown l.toArray = true) (hch : chainOK l.toArray chain (fun i => (FL.getD i (.link none)).isLink) = true)
    (h0 : S [] w.drew)
    (step : ∀ vals : Nat → Value, AllOps (RelOpC P l.toArray Q chain S (fun i => FL.getD i (.link none)) (fun i => ((ds[i]?.bind fun x => x).bind (a.tmps[·]?)).getD undef) (frOfU a ds vals) vals) l 0)
    (fin : ∀ vals w', S (chain.map vals) w' → (∀ i v, i < l.length → (FL.getD i (.link none)).val = some v → vals i = v) → Q .normal (frOfU a ds vals) w') : (Code.region id l.toArray true).wp P Q a w := by
  have hdst : ∀ (i : Nat) (o : Oper), l[i]? = some o → ds[i]? = some o.dst := by
    intro i o ho
    rw [← hds]
    simp [ho]
  refine wp_region_any hm ?_
  have ha : a = frOfU a ds (fun i => ((ds[i]?.bind fun x => x).bind (a.tmps[·]?)).getD undef) := by
    unfold frOfU
    have : fillU (fun j => ((ds[j]?.bind fun x => x).bind (a.tmps[·]?)).getD undef) ds 0 a.tmps = a.tmps := by
      apply Array.ext_getElem?
      intro x
      by_cases hx : some x ∈ ds
      · obtain ⟨j, hj, hjx⟩ := List.getElem_of_mem hx
        have hd : ds[j]? = some (some x) := by rw [List.getElem?_eq_getElem hj, hjx]
        rw [fillU_at _ ds 0 a.tmps hnd hlt j _ hd, Nat.zero_add, hd]
        have hb := hlt x hx
        simp [Array.getElem?_eq_getElem hb]
      · exact fillU_other _ _ _ _ _ hx
    rw [this]
  have hput : ∀ i o, l.toArray[i]? = some o → ∀ vals v, (frOfU a ds vals).put o.dst v = frOfU a ds (fun j => if j = i then v else vals j) := by
    intro i o ho vals v
    have h1 := hdst i o (by simpa using ho)
    unfold frOfU Act.put
    cases h2 : o.dst with
    | none =>
      rw [h2] at h1
      simp only
      congr 1
      apply Array.ext_getElem?
      intro x
      by_cases hx : some x ∈ ds
      · obtain ⟨j, hj, hjx⟩ := List.getElem_of_mem hx
        have hd : ds[j]? = some (some x) := by rw [List.getElem?_eq_getElem hj, hjx]
        rw [fillU_at _ ds 0 a.tmps hnd hlt j _ hd, fillU_at _ ds 0 a.tmps hnd hlt j _ hd, Nat.zero_add]
        have hne : j ≠ i := by
          intro e
          subst e
          rw [h1] at hd
          cases hd
        rw [if_neg hne]
      · rw [fillU_other _ _ _ _ _ hx, fillU_other _ _ _ _ _ hx]
    | some d =>
      rw [h2] at h1
      simp only
      congr 1
      apply Array.ext_getElem?
      intro x
      have hd : d < a.tmps.size := hlt d (List.mem_of_getElem? h1)
      rw [Array.getElem?_setIfInBounds]
      by_cases hx : some x ∈ ds
      · obtain ⟨j, hj, hjx⟩ := List.getElem_of_mem hx
        have hdj : ds[j]? = some (some x) := by rw [List.getElem?_eq_getElem hj, hjx]
        rw [fillU_at _ ds 0 a.tmps hnd hlt j _ hdj, fillU_at _ ds 0 a.tmps hnd hlt j _ hdj, Nat.zero_add]
        by_cases e : j = i
        · subst e
          rw [h1] at hdj
          simp only [Option.some.injEq] at hdj
          rw [if_pos hdj, if_pos (by rw [fillU_size]; exact hdj ▸ hd), if_pos rfl]
        · have hne : d ≠ x := by
            intro e2
            subst e2
            exact e (noTwice_inj hnd hdj h1)
          rw [if_neg hne, if_neg e]
      · have hne : d ≠ x := fun e => hx (e ▸ List.mem_of_getElem? h1)
        rw [if_neg hne, fillU_other _ _ _ _ _ hx, fillU_other _ _ _ _ _ hx]
  have hfalse : ∀ i, i < l.toArray.size → ¬ (Array.replicate l.toArray.size false).getD i true = true := by
    intro i hi h
    have hi' : i < l.length := by simpa using hi
    simp [Array.getD, hi'] at h
  have hmain := wpAny_chain (P := P) (ops := l.toArray) (Q := Q) (fr := frOfU a ds) hput (chain := chain) (S := S) (F := fun i => FL.getD i (.link none)) (orig := fun i => ((ds[i]?.bind fun x => x).bind (a.tmps[·]?)).getD undef) hdown hch (by
      intro i o ho vals
      have := (step vals).get i o (by simpa using ho)
      rw [Nat.zero_add] at this
      exact this) (fun vals w h1 h2 => fin vals w h1 (fun i v hi => h2 i v (by simpa using hi))) l.toArray.size (Array.replicate l.toArray.size false) (fun i => ((ds[i]?.bind fun x => x).bind (a.tmps[·]?)).getD undef) w.drew (by simp) (by simp) ⟨?_, ?_, ?_, ?_⟩
  · rw [← ha] at hmain
    exact hmain
  · refine ⟨0, Nat.zero_le _, fun m i hi => ?_, by simpa using h0⟩
    have h1 := hfalse i (chainOK_in hch hi).1
    simpa using h1
  · intro i v hi hl
    exact absurd hl (hfalse i hi)
  · intro i _ _
    rfl
  · intro i o ho hl
    exact absurd hl (hfalse i (Array.getElem?_eq_some_iff.1 ho).1)

end
end
section
section
variable {P : Program} {ops : Array Oper} {Q : Exit → Act → World → Prop}

/-- The links that are carried out, with their values. -/
def linksDone (n : Nat) (F : Nat → OpSort) (listed : Array Bool) (vals : Nat → Value) (j : Nat) : Option Value :=
  if decide (j < n) && (F j).isLink && listed.getD j true then some (vals j) else none

/-- What the walk keeps: what holds when these links are carried out; the free ones that are carried out have their values. -/
structure RelInvL (ops : Array Oper) (S : (Nat → Option Value) → World → Prop) (F : Nat → OpSort) (orig : Nat → Value) (listed : Array Bool) (vals : Nat → Value) (w : World) : Prop where
  done : S (linksDone ops.size F listed vals) w
  free : ∀ i v, i < ops.size → listed.getD i true = true → (F i).val = some v → vals i = v
  rest : ∀ i, i < ops.size → listed.getD i true = false → vals i = orig i
  closed : ∀ i o, ops[i]? = some o → listed.getD i true = true → ∀ e ∈ o.after, Region.binds .any e = true → listed.getD e.on true = true

/-- One operation of number i, from a frame. -/
def RelOpL (P : Program) (ops : Array Oper) (Q : Exit → Act → World → Prop) (S : (Nat → Option Value) → World → Prop) (F : Nat → OpSort) (orig : Nat → Value) (a : Act) (vals : Nat → Value) (i : Nat) (o : Oper) : Prop :=
  ∀ (st : Nat → Option Value) (w : World), S st w → (∀ e ∈ o.after.toList, Region.binds .any e = true → (∀ v, (F e.on).val = some v → vals e.on = v) ∧ ((F e.on).isLink = true → st e.on = some (vals e.on))) → (∀ j, j < ops.size → waits ops j i = true → vals j = orig j ∧ st j = none) → st i = none →
    match F i with
    | .free v => ∀ K : Act → World → Prop, K (a.put o.dst v) w →
        if Region.wanted o (yielded ops a.tmps) = true then o.wp P a w K Q else K (a.put o.dst undef) w
    | .link u => ∀ K : Act → World → Prop, (∀ v w', (∀ x, u = some x → v = x) → S (fun j => if j = i then some v else st j) w' → K (a.put o.dst v) w') →
        if Region.wanted o (yielded ops a.tmps) = true then o.wp P a w K Q else K (a.put o.dst undef) w

theorem wpAny_links {fr : (Nat → Value) → Act}
    (hput : ∀ i o, ops[i]? = some o → ∀ vals v, (fr vals).put o.dst v = fr (fun j => if j = i then v else vals j))
    {S : (Nat → Option Value) → World → Prop} {F : Nat → OpSort} {orig : Nat → Value} (hdown : edgesDown ops = true)
    (step : ∀ i o, ops[i]? = some o → ∀ vals, RelOpL P ops Q S F orig (fr vals) vals i o)
    (fin : ∀ vals w, S (fun j => if decide (j < ops.size) && (F j).isLink then some (vals j) else none) w → (∀ i v, i < ops.size → (F i).val = some v → vals i = v) → Q .normal (fr vals) w) :
    ∀ (fuel : Nat) (listed : Array Bool) (vals : Nat → Value) (w : World), listed.size = ops.size → (listed.toList.filter (! ·)).length = fuel → RelInvL ops S F orig listed vals w → wpAny P .any ops Q fuel listed (fr vals) w := by
  have done : ∀ (listed : Array Bool) (vals : Nat → Value) (w : World), listed.size = ops.size → RelInvL ops S F orig listed vals w → Region.ready .any ops listed = [] → Q .normal (fr vals) w := by
    intro listed vals w hs hI hr
    have hall : ∀ n i, i < n → i < ops.size → listed.getD i true = true := by
      intro n
      induction n with
      | zero => intro i hi; omega
      | succ n ih =>
        intro i hi hio
        by_cases h : listed.getD i true = true
        · exact h
        · exfalso
          have hno : i ∉ Region.ready .any ops listed := by rw [hr]; exact List.not_mem_nil
          refine hno ?_
          unfold Region.ready
          rw [List.mem_filter]
          refine ⟨List.mem_range.2 hio, ?_⟩
          have ho : ops[i]? = some ops[i] := Array.getElem?_eq_getElem hio
          simp only [Bool.and_eq_true, ho, Option.map_some, Option.getD_some]
          refine ⟨by simpa using h, ?_⟩
          rw [Array.all_eq_true']
          intro e he
          by_cases hb : Region.binds .any e = true
          · have hlt := edgesDown_spec hdown ho he hb
            have h1 := ih e.on (by omega) (by omega)
            have h2 : e.on < listed.size := by omega
            rw [Array.getD_eq_getD_getElem?, Array.getElem?_eq_getElem h2, Option.getD_some] at h1
            simp [h2, h1]
          · simp [hb]
    refine fin vals w ?_ (fun i v hi hv => hI.free i v hi (hall (i + 1) i (by omega) hi) hv)
    have hS := hI.done
    have e : linksDone ops.size F listed vals = fun j => if decide (j < ops.size) && (F j).isLink then some (vals j) else none := by
      funext j
      unfold linksDone
      by_cases hj : j < ops.size
      · rw [hall (j + 1) j (by omega) hj, Bool.and_true]
      · simp [hj]
    rw [e] at hS
    exact hS
  intro fuel
  induction fuel with
  | zero =>
    intro listed vals w hs hf hI
    have hr : Region.ready .any ops listed = [] := by
      unfold Region.ready
      rw [List.filter_eq_nil_iff]
      intro i hi
      have hio := List.mem_range.1 hi
      have h0 : listed.toList.filter (! ·) = [] := List.eq_nil_of_length_eq_zero hf
      rw [List.filter_eq_nil_iff] at h0
      have hl : i < listed.size := by omega
      have h1 := h0 listed[i] (by simp)
      simp at h1
      simp [Array.getD, hl, h1]
    exact ⟨hr, done listed vals w hs hI hr⟩
  | succ fuel ih =>
    intro listed vals w hs hf hI
    refine ⟨fun hr => done listed vals w hs hI hr, ?_⟩
    intro i hi
    unfold Region.ready at hi
    rw [List.mem_filter] at hi
    obtain ⟨hio, hi2⟩ := hi
    have hio := List.mem_range.1 hio
    have ho : ops[i]? = some ops[i] := Array.getElem?_eq_getElem hio
    simp only [Bool.and_eq_true, ho, Option.map_some, Option.getD_some] at hi2
    obtain ⟨hn, ha⟩ := hi2
    have hil : i < listed.size := by omega
    have hnl : listed[i] = false := by simpa [Array.getD, hil] using hn
    have hni : listed.getD i true = false := by rw [Array.getD_eq_getD_getElem?, Array.getElem?_eq_getElem hil, hnl]; rfl
    have hcount : ((listed.setIfInBounds i true).toList.filter (! ·)).length = fuel := by
      have e : (listed.setIfInBounds i true).toList = listed.toList.set i true := by simp
      rw [e]
      have hd : listed.toList = listed.toList.take i ++ listed[i] :: listed.toList.drop (i + 1) := by
        have hl' : i < listed.toList.length := by simpa using hil
        have := (List.take_append_drop i listed.toList).symm
        rw [List.drop_eq_getElem_cons hl'] at this
        simpa using this
      have hset : listed.toList.set i true = listed.toList.take i ++ true :: listed.toList.drop (i + 1) := by
        rw [List.set_eq_take_append_cons_drop, if_pos (by simpa using hil)]
      rw [hset]
      rw [hd, hnl] at hf
      simp at hf ⊢
      omega
    have hnd : ∀ e ∈ ops[i].after, Region.binds .any e = true → listed.getD e.on true = true := by
      intro e he hb
      rw [Array.all_eq_true'] at ha
      have h1 := ha e he
      simp [hb] at h1
      have hlt := edgesDown_spec hdown ho he hb
      have h2 : e.on < listed.size := by omega
      simpa [Array.getD, h2] using h1
    have hwt : ∀ j, j < ops.size → waits ops j i = true → listed.getD j true = false := by
      intro j hjs hw
      unfold waits at hw
      have hjo : ops[j]? = some ops[j] := Array.getElem?_eq_getElem hjs
      rw [hjo] at hw
      simp only [Array.any_eq_true', Bool.and_eq_true, decide_eq_true_eq] at hw
      obtain ⟨e, he, hb, hei⟩ := hw
      cases hlj : listed.getD j true with
      | false => rfl
      | true =>
        have := hI.closed j _ hjo hlj e he hb
        rw [hei, hni] at this
        cases this
    have hnext : ∀ v w', S (linksDone ops.size F (listed.setIfInBounds i true) (fun j => if j = i then v else vals j)) w' → (∀ u, (F i).val = some u → v = u) →
        wpAny P .any ops Q fuel (listed.setIfInBounds i true) ((fr vals).put ops[i].dst v) w' := by
      intro v w' hd hu
      rw [hput i _ ho]
      refine ih _ _ _ (by simpa using hs) hcount ⟨hd, ?_, ?_, ?_⟩
      · intro j u hj hlj hF
        rw [getD_set _ _ _ hil] at hlj
        by_cases hji : j = i
        · subst hji; simpa using hu u hF
        · rw [if_neg hji] at hlj
          simp only [if_neg hji]
          exact hI.free j u hj hlj hF
      · intro j hj hlj
        rw [getD_set _ _ _ hil] at hlj
        by_cases hji : j = i
        · rw [if_pos hji] at hlj; cases hlj
        · rw [if_neg hji] at hlj
          simp only [if_neg hji]
          exact hI.rest j hj hlj
      · intro j o hjo hlj e he hb
        rw [getD_set _ _ _ hil] at hlj ⊢
        by_cases hei : e.on = i
        · rw [if_pos hei]
        · rw [if_neg hei]
          by_cases hji : j = i
          · subst hji
            rw [ho] at hjo
            cases hjo
            exact hnd e he hb
          · rw [if_neg hji] at hlj
            exact hI.closed j o hjo hlj e he hb
    have hst := step i _ ho vals _ w hI.done (by
      intro e he hb
      have hlt := edgesDown_spec hdown ho (by simpa using he) hb
      have hle := hnd e (by simpa using he) hb
      refine ⟨fun v hv => hI.free e.on v (by omega) hle hv, fun hL => ?_⟩
      unfold linksDone
      rw [hle, hL, decide_eq_true (show e.on < ops.size by omega)]
      rfl) (fun j hjs hw => ⟨hI.rest j hjs (hwt j hjs hw), by unfold linksDone; rw [hwt j hjs hw]; simp⟩) (by unfold linksDone; rw [hni]; simp)
    have hkey : if Region.wanted ops[i] (yielded ops (fr vals).tmps) = true then ops[i].wp P (fr vals) w (fun a' w' => wpAny P .any ops Q fuel (listed.setIfInBounds i true) a' w') Q else wpAny P .any ops Q fuel (listed.setIfInBounds i true) ((fr vals).put ops[i].dst undef) w := by
      cases hF : F i with
      | free v =>
        simp only [hF] at hst
        refine hst _ (hnext v w ?_ ?_)
        · have e : linksDone ops.size F (listed.setIfInBounds i true) (fun j => if j = i then v else vals j) = linksDone ops.size F listed vals := by
            funext j
            unfold linksDone
            rw [getD_set _ _ _ hil]
            by_cases hji : j = i
            · subst hji
              rw [hF]
              simp [OpSort.isLink]
            · simp only [if_neg hji]
          rw [e]
          exact hI.done
        · intro u hu
          rw [hF] at hu
          simpa [OpSort.val] using hu
      | link u =>
        simp only [hF] at hst
        refine hst _ (fun v w' hv' hS' => hnext v w' ?_ ?_)
        · have e : linksDone ops.size F (listed.setIfInBounds i true) (fun j => if j = i then v else vals j) = fun j => if j = i then some v else linksDone ops.size F listed vals j := by
            funext j
            unfold linksDone
            rw [getD_set _ _ _ hil]
            by_cases hji : j = i
            · subst hji
              rw [hF]
              simp [OpSort.isLink, hio]
            · simp only [if_neg hji]
          rw [e]
          exact hS'
        · intro u' hu
          rw [hF] at hu
          exact hv' u' (by simpa [OpSort.val] using hu)
    unfold wpOp
    simp only [ho]
    split
    · rename_i hw
      rw [if_pos hw] at hkey
      exact .inl hkey
    · rename_i hw
      rw [if_neg hw] at hkey
      exact hkey

/-- THE REGION: the operations written out, their slots 'ds', what holds when some links are carried out ('S', over their values), the free ones' values ('FL'). -/
theorem wp_region_links {id : Nat} {l : List Oper} {a : Act} {w : World} (hm : P.follows .mixedOrders = true)
    (ds : List (Option Nat)) (hds : l.map (·.dst) = ds) (hnd : noTwice ds = true) (hlt : ∀ d, some d ∈ ds → d < a.tmps.size)
    (S : (Nat → Option Value) → World → Prop) (FL : List OpSort) (hdown : edgesDown l.toArray = true)
    (h0 : S (fun _ => none) w.drew)
    (step : ∀ vals : Nat → Value, AllOps (RelOpL P l.toArray Q S (fun i => FL.getD i (.link none)) (fun i => ((ds[i]?.bind fun x => x).bind (a.tmps[·]?)).getD undef) (frOfU a ds vals) vals) l 0)
    (fin : ∀ vals w', S (fun j => if decide (j < l.length) && (FL.getD j (.link none)).isLink then some (vals j) else none) w' → (∀ i v, i < l.length → (FL.getD i (.link none)).val = some v → vals i = v) → Q .normal (frOfU a ds vals) w') : (Code.region id l.toArray true).wp P Q a w := by
  have hdst : ∀ (i : Nat) (o : Oper), l[i]? = some o → ds[i]? = some o.dst := by
    intro i o ho
    rw [← hds]
    simp [ho]
  refine wp_region_any hm ?_
  have ha : a = frOfU a ds (fun i => ((ds[i]?.bind fun x => x).bind (a.tmps[·]?)).getD undef) := by
    unfold frOfU
    have : fillU (fun j => ((ds[j]?.bind fun x => x).bind (a.tmps[·]?)).getD undef) ds 0 a.tmps = a.tmps := by
      apply Array.ext_getElem?
      intro x
      by_cases hx : some x ∈ ds
      · obtain ⟨j, hj, hjx⟩ := List.getElem_of_mem hx
        have hd : ds[j]? = some (some x) := by rw [List.getElem?_eq_getElem hj, hjx]
        rw [fillU_at _ ds 0 a.tmps hnd hlt j _ hd, Nat.zero_add, hd]
        have hb := hlt x hx
        simp [Array.getElem?_eq_getElem hb]
      · exact fillU_other _ _ _ _ _ hx
    rw [this]
  have hput : ∀ i o, l.toArray[i]? = some o → ∀ vals v, (frOfU a ds vals).put o.dst v = frOfU a ds (fun j => if j = i then v else vals j) := by
    intro i o ho vals v
    have h1 := hdst i o (by simpa using ho)
    unfold frOfU Act.put
    cases h2 : o.dst with
    | none =>
      rw [h2] at h1
      simp only
      congr 1
      apply Array.ext_getElem?
      intro x
      by_cases hx : some x ∈ ds
      · obtain ⟨j, hj, hjx⟩ := List.getElem_of_mem hx
        have hd : ds[j]? = some (some x) := by rw [List.getElem?_eq_getElem hj, hjx]
        rw [fillU_at _ ds 0 a.tmps hnd hlt j _ hd, fillU_at _ ds 0 a.tmps hnd hlt j _ hd, Nat.zero_add]
        have hne : j ≠ i := by
          intro e
          subst e
          rw [h1] at hd
          cases hd
        rw [if_neg hne]
      · rw [fillU_other _ _ _ _ _ hx, fillU_other _ _ _ _ _ hx]
    | some d =>
      rw [h2] at h1
      simp only
      congr 1
      apply Array.ext_getElem?
      intro x
      have hd : d < a.tmps.size := hlt d (List.mem_of_getElem? h1)
      rw [Array.getElem?_setIfInBounds]
      by_cases hx : some x ∈ ds
      · obtain ⟨j, hj, hjx⟩ := List.getElem_of_mem hx
        have hdj : ds[j]? = some (some x) := by rw [List.getElem?_eq_getElem hj, hjx]
        rw [fillU_at _ ds 0 a.tmps hnd hlt j _ hdj, fillU_at _ ds 0 a.tmps hnd hlt j _ hdj, Nat.zero_add]
        by_cases e : j = i
        · subst e
          rw [h1] at hdj
          simp only [Option.some.injEq] at hdj
          rw [if_pos hdj, if_pos (by rw [fillU_size]; exact hdj ▸ hd), if_pos rfl]
        · have hne : d ≠ x := by
            intro e2
            subst e2
            exact e (noTwice_inj hnd hdj h1)
          rw [if_neg hne, if_neg e]
      · have hne : d ≠ x := fun e => hx (e ▸ List.mem_of_getElem? h1)
        rw [if_neg hne, fillU_other _ _ _ _ _ hx, fillU_other _ _ _ _ _ hx]
  have hfalse : ∀ i, i < l.toArray.size → ¬ (Array.replicate l.toArray.size false).getD i true = true := by
    intro i hi h
    have hi' : i < l.length := by simpa using hi
    simp [Array.getD, hi'] at h
  have hmain := wpAny_links (P := P) (ops := l.toArray) (Q := Q) (fr := frOfU a ds) hput (S := S) (F := fun i => FL.getD i (.link none)) (orig := fun i => ((ds[i]?.bind fun x => x).bind (a.tmps[·]?)).getD undef) hdown (by
      intro i o ho vals
      have := (step vals).get i o (by simpa using ho)
      rw [Nat.zero_add] at this
      exact this) (fun vals w h1 h2 => fin vals w (by simpa using h1) (fun i v hi => h2 i v (by simpa using hi))) l.toArray.size (Array.replicate l.toArray.size false) (fun i => ((ds[i]?.bind fun x => x).bind (a.tmps[·]?)).getD undef) w.drew (by simp) (by simp) ⟨?_, ?_, ?_, ?_⟩
  · rw [← ha] at hmain
    exact hmain
  · have e : linksDone l.toArray.size (fun i => FL.getD i (.link none)) (Array.replicate l.toArray.size false) (fun i => ((ds[i]?.bind fun x => x).bind (a.tmps[·]?)).getD undef) = fun _ => none := by
      funext j
      unfold linksDone
      by_cases hj : j < l.toArray.size
      · have := hfalse j hj
        rw [Bool.not_eq_true] at this
        rw [this, Bool.and_false]
        rfl
      · rw [decide_eq_false hj]
        rfl
    rw [e]
    exact h0
  · intro i v hi hl
    exact absurd hl (hfalse i hi)
  · intro i _ _
    rfl
  · intro i o ho hl
    exact absurd hl (hfalse i (Array.getElem?_eq_some_iff.1 ho).1)

end
end
section
theorem qmode_gc : (Region.Mode.any == Region.Mode.gc) = false := rfl

def qptr (g : Nat) : Value := .pointer (some ⟨g, 0, none⟩)
theorem qptr_inj {g g' : Nat} (h : qptr g = qptr g') : g = g' := by unfold qptr at h; simpa using h
def qupd (st : Nat → Option Value) (i : Nat) (v : Value) : Nat → Option Value := fun j => if j = i then some v else st j
theorem qupd_at (st : Nat → Option Value) (i : Nat) (v : Value) : qupd st i v i = some v := by unfold qupd; rw [if_pos rfl]
theorem qupd_ne (st : Nat → Option Value) (i j : Nat) (v : Value) (h : j ≠ i) : qupd st i v j = st j := by unfold qupd; rw [if_neg h]

/-- Two blocks made since w, of these cells. -/
def Two (w : World) (x y : Value) (cx cy : Array Value) (tx ty : TypeId) (wx : World) : Prop :=
  ∃ g1 g2, x = .pointer (some ⟨g1, 0, none⟩) ∧ y = .pointer (some ⟨g2, 0, none⟩) ∧ g1 ≠ g2 ∧ w.heap.size ≤ g1 ∧ w.heap.size ≤ g2 ∧ Fr (fun _ => False) w wx ∧ wx.heap[g1]? = some (.cells cx tx (0, 0)) ∧ wx.heap[g2]? = some (.cells cy ty (0, 0))

structure PX (tx ty : TypeId) (zx zy cx cy : Array Value) (a1 a2 s1 s2 : Nat) (w : World) (st : Nat → Option Value) (wx : World) : Prop where
  fr : Fr (fun _ => False) w wx
  p1 : ∀ v, st a1 = some v → ∃ g, v = qptr g ∧ w.heap.size ≤ g ∧ wx.heap[g]? = some (.cells (if (st s1).isNone then zx else cx) tx (0, 0))
  p2 : ∀ v, st a2 = some v → ∃ g, v = qptr g ∧ w.heap.size ≤ g ∧ wx.heap[g]? = some (.cells (if (st s2).isNone then zy else cy) ty (0, 0))
  ne : ∀ v, st a1 = some v → st a2 ≠ some v

theorem kept_box {S : Nat → Prop} {w0 w1 : World} {b : Nat} {o : Obj} (h : w0.heap[b]? = some o) (f : Fr S w0 w1) (hb : ¬ S b) : w1.heap[b]? = some o := by
  rw [f.block b (Array.getElem?_eq_some_iff.1 h).1 hb]; exact h

theorem qfree {w : World} {b : Nat} {cs : Array Value} {t : TypeId} (h : w.heap[b]? = some (.cells cs t (0, 0))) (i : Nat) : w.frozen? ⟨b, i, none⟩ = false := by
  simp [World.frozen?, h]
theorem qrow {w : World} {b : Nat} {cs : Array Value} {t : TypeId} (h : w.heap[b]? = some (.cells cs t (0, 0))) (i : Nat) (u : Value) (hu : cs[i]? = some u) : w.cell? ⟨b, i, none⟩ = some u := by
  simp only [World.cell?, h]
  simpa using hu

section
variable {tx ty : TypeId} {zx zy cx cy : Array Value} {a1 a2 s1 s2 : Nat} {w wx wy : World} {st : Nat → Option Value}

theorem PX.start : PX tx ty zx zy cx cy a1 a2 s1 s2 w (fun _ => none) w.drew :=
  ⟨(Fr.refl _ _).drew, fun v h => (by cases h), fun v h => (by cases h), fun v h => (by cases h)⟩

theorem PX.call (h : PX tx ty zx zy cx cy a1 a2 s1 s2 w st wx) (i : Nat) (v : Value) (f : Fr (fun _ => False) wx wy) (h1 : i ≠ a1) (h2 : i ≠ a2) (h3 : i ≠ s1) (h4 : i ≠ s2) : PX tx ty zx zy cx cy a1 a2 s1 s2 w (qupd st i v) wy := by
  refine ⟨h.fr.trans f (fun _ _ h => h), fun u hu => ?_, fun u hu => ?_, fun u hu => ?_⟩
  · rw [qupd_ne _ _ _ _ h1.symm] at hu
    obtain ⟨g, e, hg, hc⟩ := h.p1 u hu
    exact ⟨g, e, hg, by rw [qupd_ne _ _ _ _ h3.symm]; exact kept_box hc f (fun h => h)⟩
  · rw [qupd_ne _ _ _ _ h2.symm] at hu
    obtain ⟨g, e, hg, hc⟩ := h.p2 u hu
    exact ⟨g, e, hg, by rw [qupd_ne _ _ _ _ h4.symm]; exact kept_box hc f (fun h => h)⟩
  · rw [qupd_ne _ _ _ _ h1.symm] at hu
    rw [qupd_ne _ _ _ _ h2.symm]
    exact h.ne u hu

theorem PX.alloc1 (h : PX tx ty zx zy cx cy a1 a2 s1 s2 w st wx) (h0 : st s1 = none) (h2 : a1 ≠ a2) (h3 : a1 ≠ s1) (h4 : a1 ≠ s2) : PX tx ty zx zy cx cy a1 a2 s1 s2 w (qupd st a1 (.pointer (some ⟨wx.heap.size, 0, none⟩))) (wx.alloc (.cells zx tx)) := by
  have f : Fr (fun _ => False) wx (wx.alloc (.cells zx tx)) := (Fr.refl _ _).alloc _
  refine ⟨h.fr.trans f (fun _ _ h => h), fun u hu => ?_, fun u hu => ?_, fun u hu => ?_⟩
  · rw [qupd_at] at hu
    cases hu
    refine ⟨_, rfl, h.fr.size, ?_⟩
    rw [qupd_ne _ _ _ _ h3.symm, h0]
    exact heap_alloc_new wx _
  · rw [qupd_ne _ _ _ _ h2.symm] at hu
    obtain ⟨g, e, hg, hc⟩ := h.p2 u hu
    exact ⟨g, e, hg, by rw [qupd_ne _ _ _ _ h4.symm]; exact kept_box hc f (fun h => h)⟩
  · rw [qupd_at] at hu
    cases hu
    rw [qupd_ne _ _ _ _ h2.symm]
    intro hu
    obtain ⟨g, e, hg, hc⟩ := h.p2 _ hu
    have := qptr_inj e
    have := (Array.getElem?_eq_some_iff.1 hc).1
    omega

theorem PX.alloc2 (h : PX tx ty zx zy cx cy a1 a2 s1 s2 w st wx) (h0 : st s2 = none) (h2 : a1 ≠ a2) (h3 : a2 ≠ s1) (h4 : a2 ≠ s2) : PX tx ty zx zy cx cy a1 a2 s1 s2 w (qupd st a2 (.pointer (some ⟨wx.heap.size, 0, none⟩))) (wx.alloc (.cells zy ty)) := by
  have f : Fr (fun _ => False) wx (wx.alloc (.cells zy ty)) := (Fr.refl _ _).alloc _
  refine ⟨h.fr.trans f (fun _ _ h => h), fun u hu => ?_, fun u hu => ?_, fun u hu => ?_⟩
  · rw [qupd_ne _ _ _ _ h2] at hu
    obtain ⟨g, e, hg, hc⟩ := h.p1 u hu
    exact ⟨g, e, hg, by rw [qupd_ne _ _ _ _ h3.symm]; exact kept_box hc f (fun h => h)⟩
  · rw [qupd_at] at hu
    cases hu
    refine ⟨_, rfl, h.fr.size, ?_⟩
    rw [qupd_ne _ _ _ _ h4.symm, h0]
    exact heap_alloc_new wx _
  · rw [qupd_ne _ _ _ _ h2] at hu
    rw [qupd_at]
    intro hv
    cases hv
    obtain ⟨g, e, hg, hc⟩ := h.p1 _ hu
    have := qptr_inj e
    have := (Array.getElem?_eq_some_iff.1 hc).1
    omega

theorem PX.at1 (h : PX tx ty zx zy cx cy a1 a2 s1 s2 w st wx) (h0 : st s1 = none) {v : Value} (hv : st a1 = some v) : ∃ g, v = .pointer (some ⟨g, 0, none⟩) ∧ wx.heap[g]? = some (.cells zx tx (0, 0)) := by
  obtain ⟨g, e, _, hc⟩ := h.p1 v hv
  rw [h0] at hc
  exact ⟨g, e, hc⟩
theorem PX.at2 (h : PX tx ty zx zy cx cy a1 a2 s1 s2 w st wx) (h0 : st s2 = none) {v : Value} (hv : st a2 = some v) : ∃ g, v = .pointer (some ⟨g, 0, none⟩) ∧ wx.heap[g]? = some (.cells zy ty (0, 0)) := by
  obtain ⟨g, e, _, hc⟩ := h.p2 v hv
  rw [h0] at hc
  exact ⟨g, e, hc⟩

theorem PX.store1 (h : PX tx ty zx zy cx cy a1 a2 s1 s2 w st wx) {g : Nat} (hv : st a1 = some (.pointer (some ⟨g, 0, none⟩))) (u : Value) (h1 : s1 ≠ a1) (h2 : s1 ≠ a2) (h3 : s1 ≠ s2)
    (hy : wy.heap[g]? = some (.cells cx tx (0, 0))) (f : Fr (fun k => k = g) wx wy) : PX tx ty zx zy cx cy a1 a2 s1 s2 w (qupd st s1 u) wy := by
  obtain ⟨g', e, hg, _⟩ := h.p1 _ hv
  obtain rfl := qptr_inj (g := g) e
  refine ⟨h.fr.trans f (fun i hi e => by omega), fun x hx => ?_, fun x hx => ?_, fun x hx => ?_⟩
  · rw [qupd_ne _ _ _ _ h1.symm, hv] at hx
    cases hx
    refine ⟨g, rfl, hg, ?_⟩
    rw [qupd_at]
    exact hy
  · rw [qupd_ne _ _ _ _ h2.symm] at hx
    obtain ⟨g', e, hg', hc⟩ := h.p2 x hx
    refine ⟨g', e, hg', ?_⟩
    rw [qupd_ne _ _ _ _ h3.symm]
    refine kept_box hc f (fun e' => h.ne _ hv ?_)
    rw [hx, e, e']
    rfl
  · rw [qupd_ne _ _ _ _ h1.symm] at hx
    rw [qupd_ne _ _ _ _ h2.symm]
    exact h.ne x hx

theorem PX.store2 (h : PX tx ty zx zy cx cy a1 a2 s1 s2 w st wx) {g : Nat} (hv : st a2 = some (.pointer (some ⟨g, 0, none⟩))) (u : Value) (h1 : s2 ≠ a1) (h2 : s2 ≠ a2) (h3 : s2 ≠ s1)
    (hy : wy.heap[g]? = some (.cells cy ty (0, 0))) (f : Fr (fun k => k = g) wx wy) : PX tx ty zx zy cx cy a1 a2 s1 s2 w (qupd st s2 u) wy := by
  obtain ⟨g', e, hg, _⟩ := h.p2 _ hv
  obtain rfl := qptr_inj (g := g) e
  refine ⟨h.fr.trans f (fun i hi e => by omega), fun x hx => ?_, fun x hx => ?_, fun x hx => ?_⟩
  · rw [qupd_ne _ _ _ _ h1.symm] at hx
    obtain ⟨g', e, hg', hc⟩ := h.p1 x hx
    refine ⟨g', e, hg', ?_⟩
    rw [qupd_ne _ _ _ _ h3.symm]
    refine kept_box hc f (fun e' => h.ne _ hx ?_)
    rw [hv, e, e']
    rfl
  · rw [qupd_ne _ _ _ _ h2.symm, hv] at hx
    cases hx
    refine ⟨g, rfl, hg, ?_⟩
    rw [qupd_at]
    exact hy
  · rw [qupd_ne _ _ _ _ h1.symm] at hx
    rw [qupd_ne _ _ _ _ h2.symm]
    exact h.ne x hx

theorem PX.fin (h : PX tx ty zx zy cx cy a1 a2 s1 s2 w st wx) {x y u v : Value} (e1 : st a1 = some x) (e2 : st a2 = some y) (e3 : st s1 = some u) (e4 : st s2 = some v) : Two w x y cx cy tx ty wx := by
  obtain ⟨g1, e, hg1, hc1⟩ := h.p1 _ e1
  obtain ⟨g2, e', hg2, hc2⟩ := h.p2 _ e2
  rw [e3] at hc1
  rw [e4] at hc2
  refine ⟨g1, g2, e, e', fun hh => h.ne _ e1 (by rw [e2, e, e', hh]), hg1, hg2, h.fr, hc1, hc2⟩
end
end
section
theorem Made.plain {v : Value} {L : List UInt8} {w w1 w2 : World} (h : Made v L w w1) (f : Fr (fun _ => False) w1 w2) : Made v L w w2 :=
  ⟨h.1.fr f (fun _ _ h => h), h.2.1.trans0 f, h.2.2⟩

theorem Made.base {v : Value} {L : List UInt8} {w w1 w2 : World} (f : Fr (fun _ => False) w w1) (h : Made v L w1 w2) : Made v L w w2 :=
  ⟨h.1, f.trans0 h.2.1, fun k hk => Nat.le_trans f.size (h.2.2 k hk)⟩

theorem opWp_made {w wb wm : World} {o : Oper} {a : Act} {K : Act → World → Prop} {Q : Exit → Act → World → Prop} (s x : Operand)
    (ho : o.op = .call { callee := .builtin .append, args := #[s, x], argTypes := #[23, 23] })
    (v : Value) (hs : a.eval s = v) (xv : Value) (hx : a.eval x = xv) (L l : List UInt8) (h1 : Made v L wb wm) (h2 : Made xv l wm w) (hlen : L.length + l.length ≤ 100000)
    (h : ∀ v' w', Made v' (L ++ l) wb w' → K (a.put o.dst v') w') : o.wp Try.prog a w K Q := by
  obtain ⟨i0, hi, hz0, hz1, hz2⟩ := info_parts Try.infoU8
  obtain ⟨ax, cx, e⟩ := slice_of_own h2.1
  have hown := h1.1.fr h2.2.1 (fun _ _ h => h)
  obtain ⟨v', w', hr, k2, k3, k4⟩ := run_append_sep (P := Try.prog) w 0 23 23 o.type 5 i0 (.int .u8 0) 1 1 Try.underlying23 _ Try.underlying23 (.inr ⟨_, rfl⟩) hi hz0 hz1 hz2 rfl (by decide) v L.length (L.map bv) hown xv l.length (l.map bv) (fun w => by rw [e]; exact lenOf_slice _ _ _ _) (by simp) h2.1.sees.first (h2.1.sees.drew).first (bv_one _) (by unfold maxLen; omega) (by omega) (Nat.zero_le _)
  unfold Oper.wp execOp
  simp only [ho, resolve, invoke, builtin, Sem.run_bind, Sem.run_pure, Result.andThen_ok, List.map_toArray, List.map_cons, List.map_nil, hs, hx, hr]
  exact h v' w' (Made.append h1 h2.2.1 rfl k2 k3 k4)

/-- 'append(f(), g()..)'. -/
def WA (wb : World) (q1 q2 : List UInt8) : List Value → World → Prop
  | [], wx => Fr (fun _ => False) wb wx
  | [v1], wx => Made v1 q1 wb wx
  | [v1, v2], wx => ∃ wm, Made v1 q1 wb wm ∧ Made v2 q2 wm wx
  | [_, _, v3], wx => Made v3 (q1 ++ q2) wb wx
  | [_, _, _, v4], wx => Made v4 (q1 ++ q2) wb wx
  | _, _ => False

/-- 'append(append(u, f()..), g()..)'. -/
def WB (wb : World) (u : Value) (L q1 q2 : List UInt8) : List Value → World → Prop
  | [], wx => Made u L wb wx
  | [v1], wx => ∃ wm, Made u L wb wm ∧ Made v1 q1 wm wx
  | [_, v2], wx => Made v2 (L ++ q1) wb wx
  | [_, v2, v3], wx => ∃ wm, Made v2 (L ++ q1) wb wm ∧ Made v3 q2 wm wx
  | [_, _, _, v4], wx => Made v4 (L ++ q1 ++ q2) wb wx
  | [_, _, _, _, v5], wx => Made v5 (L ++ q1 ++ q2) wb wx
  | _, _ => False

theorem WA.fr {wb wx : World} {q1 q2 : List UInt8} : ∀ {c : List Value}, WA wb q1 q2 c wx → Fr (fun _ => False) wb wx
  | [], h => h
  | [_], h => h.2.1
  | [_, _], ⟨_, h1, h2⟩ => h1.2.1.trans0 h2.2.1
  | [_, _, _], h => h.2.1
  | [_, _, _, _], h => h.2.1
  | _ :: _ :: _ :: _ :: _ :: _, h => h.elim

theorem WB.fr {wb wx : World} {u : Value} {L q1 q2 : List UInt8} : ∀ {c : List Value}, WB wb u L q1 q2 c wx → Fr (fun _ => False) wb wx
  | [], h => h.2.1
  | [_], ⟨_, h1, h2⟩ => h1.2.1.trans0 h2.2.1
  | [_, _], h => h.2.1
  | [_, _, _], ⟨_, h1, h2⟩ => h1.2.1.trans0 h2.2.1
  | [_, _, _, _], h => h.2.1
  | [_, _, _, _, _], h => h.2.1
  | _ :: _ :: _ :: _ :: _ :: _ :: _, h => h.elim

/-- All values are known but one, of which something is known. -/
def oneV (k : Nat) (Pk : Value → World → Prop) (vs : List Value) (i : Nat) (v : Value) (wx : World) : Prop := (i = k → Pk v wx) ∧ (i ≠ k → v = vs.getD i undef)

/-- What is read as this text, in whatever later world. -/
def readsAs (s : ByteArray) (v : Value) (wx : World) : Prop := ∀ W, Fr (fun _ => False) wx W → (convert 23 9 v).run Try.prog W = .ok (.string s) W

theorem oneV_reads (k : Nat) (s : ByteArray) (vs : List Value) : ∀ i v w w', Fr (fun _ => False) w w' → oneV k (readsAs s) vs i v w → oneV k (readsAs s) vs i v w' :=
  fun _ _ _ _ f h => ⟨fun e W hW => h.1 e W (f.trans0 hW), h.2⟩
end
end Go.Proofs.Ytjegdbkkojaacaa
