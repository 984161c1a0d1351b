/-
  What ChOnce rests on, part 4: RegionC, RegionL, VotEntry, VotEntry2.
-/
import Derived.Test.YtcjfinabffpgkaaS03
import Derived.Test.YtcjfinabffpgkaaS02
set_option linter.unusedVariables false
set_option linter.unusedSimpArgs false
set_option maxHeartbeats 64000000
namespace Go.Proofs.Ytcjfinabffpgkaa
open Go.RowKit
open Go.Lib (hid)
section
/-- An operation is free (and yields this value), or a link of the chain (and yields this value, if it is said). -/
inductive OpSort where
  | free (v : Value)
  | link (v : Option Value)

def OpSort.val : OpSort → Option Value
  | .free v => some v
  | .link v => v

def OpSort.isLink : OpSort → Bool
  | .free _ => false
  | .link _ => true

section
variable {P : Program} {ops : Array Oper} {Q : Exit → Act → World → Prop}

/-- What the walk keeps: so many of the chain are carried out, and what holds then; the free ones that are carried out have their values. -/
structure RelInvC (ops : Array Oper) (chain : List Nat) (S : List Value → World → Prop) (F : Nat → OpSort) (orig : Nat → Value) (listed : Array Bool) (vals : Nat → Value) (w : World) : Prop where
  done : ∃ k, k ≤ chain.length ∧ (∀ m i, chain[m]? = some i → listed.getD i true = decide (m < k)) ∧ S ((chain.take k).map vals) w
  free : ∀ i v, i < ops.size → listed.getD i true = true → (F i).val = some v → vals i = v
  rest : ∀ i, i < ops.size → listed.getD i true = false → vals i = orig i
  closed : ∀ i o, ops[i]? = some o → listed.getD i true = true → ∀ e ∈ o.after, Region.binds .any e = true → listed.getD e.on true = true

/-- One operation of number i, from a frame. -/
def RelOpC (P : Program) (ops : Array Oper) (Q : Exit → Act → World → Prop) (chain : List Nat) (S : List Value → World → Prop) (F : Nat → OpSort) (orig : Nat → Value) (a : Act) (vals : Nat → Value) (i : Nat) (o : Oper) : Prop :=
  ∀ (cvs : List Value) (w : World), S cvs w → (∀ e ∈ o.after.toList, Region.binds .any e = true → ∀ v, (F e.on).val = some v → vals e.on = v) → (∀ j, j < ops.size → waits ops j i = true → vals j = orig j) →
    match F i with
    | .free v => (∀ m j, chain[m]? = some j → waits ops j i = true → cvs.length ≤ m) → ∀ K : Act → World → Prop, K (a.put o.dst v) w →
        if Region.wanted o (yielded ops a.tmps) = true then o.wp P a w K Q else K (a.put o.dst undef) w
    | .link u => (∀ k, chain[k]? = some i → cvs = (chain.take k).map vals) → ∀ K : Act → World → Prop, (∀ v w', (∀ x, u = some x → v = x) → S (cvs ++ [v]) w' → K (a.put o.dst v) w') →
        if Region.wanted o (yielded ops a.tmps) = true then o.wp P a w K Q else K (a.put o.dst undef) w

/-- Is it a chain: those that are not free, each once, each but the first waits for the one ahead? -/
def chainOK (ops : Array Oper) (chain : List Nat) (F : Nat → Bool) : Bool :=
  chain.all (fun i => decide (i < ops.size) && F i) && (List.range ops.size).all (fun i => !F i || chain.contains i) &&
  (List.range (chain.length - 1)).all (fun m => waits ops (chain.getD (m + 1) 0) (chain.getD m 0)) && (List.range chain.length).all (fun m => (List.range chain.length).all fun m' => decide (m = m') || decide (chain.getD m 0 ≠ chain.getD m' 0))

theorem chainOK_in {chain : List Nat} {F : Nat → Bool} (h : chainOK ops chain F = true) {m i : Nat} (hm : chain[m]? = some i) : i < ops.size ∧ F i = true := by
  unfold chainOK at h
  simp only [Bool.and_eq_true, List.all_eq_true] at h
  simpa using h.1.1.1 i (List.mem_of_getElem? hm)

theorem chainOK_all {chain : List Nat} {F : Nat → Bool} (h : chainOK ops chain F = true) {i : Nat} (hi : i < ops.size) (hF : F i = true) : ∃ m : Nat, chain[m]? = some i := by
  unfold chainOK at h
  simp only [Bool.and_eq_true, List.all_eq_true] at h
  have := h.1.1.2 i (List.mem_range.2 hi)
  simp [hF] at this
  exact List.getElem?_of_mem this

theorem chainOK_waits {chain : List Nat} {F : Nat → Bool} (h : chainOK ops chain F = true) {m i j : Nat} (hi : chain[m]? = some i) (hj : chain[m + 1]? = some j) : waits ops j i = true := by
  unfold chainOK at h
  simp only [Bool.and_eq_true, List.all_eq_true] at h
  have hl := (List.getElem?_eq_some_iff.1 hj).1
  have := h.1.2 m (List.mem_range.2 (by omega))
  rw [List.getD_eq_getElem?_getD, List.getD_eq_getElem?_getD, hi, hj] at this
  exact this

theorem chainOK_once {chain : List Nat} {F : Nat → Bool} (h : chainOK ops chain F = true) {m m' i : Nat} (hi : chain[m]? = some i) (hj : chain[m']? = some i) : m = m' := by
  unfold chainOK at h
  simp only [Bool.and_eq_true, List.all_eq_true] at h
  have hl := (List.getElem?_eq_some_iff.1 hi).1
  have hl' := (List.getElem?_eq_some_iff.1 hj).1
  have := h.2 m (List.mem_range.2 hl) m' (List.mem_range.2 hl')
  rw [List.getD_eq_getElem?_getD, List.getD_eq_getElem?_getD, hi, hj] at this
  simpa using this

theorem wpAny_chain {fr : (Nat → Value) → Act}
    (hput : ∀ i o, ops[i]? = some o → ∀ vals v, (fr vals).put o.dst v = fr (fun j => if j = i then v else vals j))
    {chain : List Nat} {S : List Value → World → Prop} {F : Nat → OpSort} {orig : Nat → Value} (hdown : edgesDown ops = true) (hch : chainOK ops chain (fun i => (F i).isLink) = true)
    (step : ∀ i o, ops[i]? = some o → ∀ vals, RelOpC P ops Q chain S F orig (fr vals) vals i o)
    (fin : ∀ vals w, S (chain.map vals) w → (∀ i v, i < ops.size → (F i).val = some v → vals i = v) → Q .normal (fr vals) w) :
    ∀ (fuel : Nat) (listed : Array Bool) (vals : Nat → Value) (w : World), listed.size = ops.size → (listed.toList.filter (! ·)).length = fuel → RelInvC ops chain S F orig listed vals w → wpAny P .any ops Q fuel listed (fr vals) w := by
  have done : ∀ (listed : Array Bool) (vals : Nat → Value) (w : World), listed.size = ops.size → RelInvC ops chain S F orig listed vals w → Region.ready .any ops listed = [] → Q .normal (fr vals) w := by
    intro listed vals w hs hI hr
    have hall : ∀ n i, i < n → i < ops.size → listed.getD i true = true := by
      intro n
      induction n with
      | zero => intro i hi; omega
      | succ n ih =>
        intro i hi hio
        by_cases h : listed.getD i true = true
        · exact h
        · exfalso
          have hno : i ∉ Region.ready .any ops listed := by rw [hr]; exact List.not_mem_nil
          refine hno ?_
          unfold Region.ready
          rw [List.mem_filter]
          refine ⟨List.mem_range.2 hio, ?_⟩
          have ho : ops[i]? = some ops[i] := Array.getElem?_eq_getElem hio
          simp only [Bool.and_eq_true, ho, Option.map_some, Option.getD_some]
          refine ⟨by simpa using h, ?_⟩
          rw [Array.all_eq_true']
          intro e he
          by_cases hb : Region.binds .any e = true
          · have hlt := edgesDown_spec hdown ho he hb
            have h1 := ih e.on (by omega) (by omega)
            have h2 : e.on < listed.size := by omega
            rw [Array.getD_eq_getD_getElem?, Array.getElem?_eq_getElem h2, Option.getD_some] at h1
            simp [h2, h1]
          · simp [hb]
    obtain ⟨k, hk, hl, hS⟩ := hI.done
    have hkl : k = chain.length := by
      rcases Nat.lt_or_ge k chain.length with h | h
      · have h1 := hl k chain[k] (List.getElem?_eq_getElem h)
        have h2 := (chainOK_in hch (List.getElem?_eq_getElem h)).1
        rw [hall (chain[k] + 1) _ (by omega) h2] at h1
        simp at h1
      · omega
    rw [hkl, List.take_length] at hS
    exact fin vals w hS (fun i v hi hv => hI.free i v hi (hall (i + 1) i (by omega) hi) hv)
  intro fuel
  induction fuel with
  | zero =>
    intro listed vals w hs hf hI
    have hr : Region.ready .any ops listed = [] := by
      unfold Region.ready
      rw [List.filter_eq_nil_iff]
      intro i hi
      have hio := List.mem_range.1 hi
      have h0 : listed.toList.filter (! ·) = [] := List.eq_nil_of_length_eq_zero hf
      rw [List.filter_eq_nil_iff] at h0
      have hl : i < listed.size := by omega
      have h1 := h0 listed[i] (by simp)
      simp at h1
      simp [Array.getD, hl, h1]
    exact ⟨hr, done listed vals w hs hI hr⟩
  | succ fuel ih =>
    intro listed vals w hs hf hI
    refine ⟨fun hr => done listed vals w hs hI hr, ?_⟩
    intro i hi
    unfold Region.ready at hi
    rw [List.mem_filter] at hi
    obtain ⟨hio, hi2⟩ := hi
    have hio := List.mem_range.1 hio
    have ho : ops[i]? = some ops[i] := Array.getElem?_eq_getElem hio
    simp only [Bool.and_eq_true, ho, Option.map_some, Option.getD_some] at hi2
    obtain ⟨hn, ha⟩ := hi2
    have hil : i < listed.size := by omega
    have hnl : listed[i] = false := by simpa [Array.getD, hil] using hn
    have hni : listed.getD i true = false := by rw [Array.getD_eq_getD_getElem?, Array.getElem?_eq_getElem hil, hnl]; rfl
    have hcount : ((listed.setIfInBounds i true).toList.filter (! ·)).length = fuel := by
      have e : (listed.setIfInBounds i true).toList = listed.toList.set i true := by simp
      rw [e]
      have hd : listed.toList = listed.toList.take i ++ listed[i] :: listed.toList.drop (i + 1) := by
        have hl' : i < listed.toList.length := by simpa using hil
        have := (List.take_append_drop i listed.toList).symm
        rw [List.drop_eq_getElem_cons hl'] at this
        simpa using this
      have hset : listed.toList.set i true = listed.toList.take i ++ true :: listed.toList.drop (i + 1) := by
        rw [List.set_eq_take_append_cons_drop, if_pos (by simpa using hil)]
      rw [hset]
      rw [hd, hnl] at hf
      simp at hf ⊢
      omega
    have hnd : ∀ e ∈ ops[i].after, Region.binds .any e = true → listed.getD e.on true = true := by
      intro e he hb
      rw [Array.all_eq_true'] at ha
      have h1 := ha e he
      simp [hb] at h1
      have hlt := edgesDown_spec hdown ho he hb
      have h2 : e.on < listed.size := by omega
      simpa [Array.getD, h2] using h1
    have hwt : ∀ j, j < ops.size → waits ops j i = true → listed.getD j true = false := by
      intro j hjs hw
      unfold waits at hw
      have hjo : ops[j]? = some ops[j] := Array.getElem?_eq_getElem hjs
      rw [hjo] at hw
      simp only [Array.any_eq_true', Bool.and_eq_true, decide_eq_true_eq] at hw
      obtain ⟨e, he, hb, hei⟩ := hw
      cases hlj : listed.getD j true with
      | false => rfl
      | true =>
        have := hI.closed j _ hjo hlj e he hb
        rw [hei, hni] at this
        cases this
    obtain ⟨k, hk, hl, hS⟩ := hI.done
    have hnext : ∀ v w', (∃ k', k' ≤ chain.length ∧ (∀ m j, chain[m]? = some j → (if j = i then true else listed.getD j true) = decide (m < k')) ∧ S ((chain.take k').map (fun j => if j = i then v else vals j)) w') → (∀ u, (F i).val = some u → v = u) →
        wpAny P .any ops Q fuel (listed.setIfInBounds i true) ((fr vals).put ops[i].dst v) w' := by
      intro v w' hd hu
      rw [hput i _ ho]
      refine ih _ _ _ (by simpa using hs) hcount ⟨?_, ?_, ?_, ?_⟩
      · obtain ⟨k', h1, h2, h3⟩ := hd
        exact ⟨k', h1, fun m j hj => by rw [getD_set _ _ _ hil]; exact h2 m j hj, h3⟩
      · intro j u hj hlj hF
        rw [getD_set _ _ _ hil] at hlj
        by_cases hji : j = i
        · subst hji; simpa using hu u hF
        · rw [if_neg hji] at hlj
          simp only [if_neg hji]
          exact hI.free j u hj hlj hF
      · intro j hj hlj
        rw [getD_set _ _ _ hil] at hlj
        by_cases hji : j = i
        · rw [if_pos hji] at hlj; cases hlj
        · rw [if_neg hji] at hlj
          simp only [if_neg hji]
          exact hI.rest j hj hlj
      · intro j o hjo hlj e he hb
        rw [getD_set _ _ _ hil] at hlj ⊢
        by_cases hei : e.on = i
        · rw [if_pos hei]
        · rw [if_neg hei]
          by_cases hji : j = i
          · subst hji
            rw [ho] at hjo
            cases hjo
            exact hnd e he hb
          · rw [if_neg hji] at hlj
            exact hI.closed j o hjo hlj e he hb
    have hst := step i _ ho vals _ w hS (by
      intro e he hb v hv
      have hlt := edgesDown_spec hdown ho (by simpa using he) hb
      exact hI.free e.on v (by omega) (hnd e (by simpa using he) hb) hv) (fun j hjs hw => hI.rest j hjs (hwt j hjs hw))
    have hkey : if Region.wanted ops[i] (yielded ops (fr vals).tmps) = true then ops[i].wp P (fr vals) w (fun a' w' => wpAny P .any ops Q fuel (listed.setIfInBounds i true) a' w') Q else wpAny P .any ops Q fuel (listed.setIfInBounds i true) ((fr vals).put ops[i].dst undef) w := by
      cases hF : F i with
      | free v =>
        simp only [hF] at hst
        have hnin : ∀ (m j : Nat), chain[m]? = some j → j ≠ i := by
          intro m j hj e
          have := (chainOK_in hch hj).2
          rw [e, hF] at this
          cases this
        refine hst ?_ _ (hnext v w ⟨k, hk, ?_, ?_⟩ ?_)
        · intro m j hj hw
          have h1 := hl m j hj
          rw [hwt j (chainOK_in hch hj).1 hw] at h1
          have : ¬ m < k := by simpa using h1.symm
          rw [List.length_map, List.length_take]
          omega
        · intro m j hj
          rw [if_neg (hnin m j hj)]
          exact hl m j hj
        · have : (chain.take k).map (fun j => if j = i then v else vals j) = (chain.take k).map vals := by
            refine List.map_congr_left fun j hj => ?_
            obtain ⟨m, hm⟩ := List.getElem?_of_mem (List.mem_of_mem_take hj)
            rw [if_neg (hnin m j hm)]
          rw [this]
          exact hS
        · intro u hu
          rw [hF] at hu
          simpa [OpSort.val] using hu
      | link u =>
        simp only [hF] at hst
        obtain ⟨m, hm⟩ := chainOK_all (F := fun i => (F i).isLink) hch hio (by rw [hF]; rfl)
        have hmk : ¬ m < k := by
          have h1 := hl m i hm
          rw [hni] at h1
          simpa using h1.symm
        obtain rfl : m = k := by
          cases m with
          | zero => omega
          | succ m =>
            have hml : m < chain.length := by have := (List.getElem?_eq_some_iff.1 hm).1; omega
            have h0 := List.getElem?_eq_getElem hml
            have hw := chainOK_waits hch h0 hm
            unfold waits at hw
            rw [ho] at hw
            simp only [Array.any_eq_true', Bool.and_eq_true, decide_eq_true_eq] at hw
            obtain ⟨e, he, hb, hei⟩ := hw
            have h1 := hnd e he hb
            rw [hei, hl m _ h0] at h1
            have : m < k := by simpa using h1
            omega
        refine hst ?_ _ (fun v w' hv' hS' => hnext v w' ⟨m + 1, (List.getElem?_eq_some_iff.1 hm).1, ?_, ?_⟩ ?_)
        · intro m' hm'
          rw [chainOK_once hch hm' hm]
        · intro m' j hj
          by_cases hji : j = i
          · subst hji
            rw [if_pos rfl, chainOK_once hch hj hm]
            simp
          · rw [if_neg hji, hl m' j hj]
            have hne : m' ≠ m := fun e => by rw [e, hm] at hj; cases hj; exact hji rfl
            simp only [decide_eq_decide]
            omega
        · have e1 : chain.take (m + 1) = chain.take m ++ [i] := by rw [List.take_add_one, hm]; rfl
          rw [e1, List.map_append, List.map_singleton, if_pos rfl]
          have : (chain.take m).map (fun j => if j = i then v else vals j) = (chain.take m).map vals := by
            refine List.map_congr_left fun j hj => ?_
            obtain ⟨m', hm'⟩ := List.getElem?_of_mem hj
            have h2 := (List.getElem?_eq_some_iff.1 hm').1
            rw [List.length_take] at h2
            rw [List.getElem?_take, if_pos (by omega)] at hm'
            rw [if_neg]
            intro e
            subst e
            have := chainOK_once hch hm' hm
            omega
          rw [this]
          exact hS'
        · intro u' hu
          rw [hF] at hu
          exact hv' u' (by simpa [OpSort.val] using hu)
    unfold wpOp
    simp only [ho]
    split
    · rename_i hw
      rw [if_pos hw] at hkey
      exact .inl hkey
    · rename_i hw
      rw [if_neg hw] at hkey
      exact hkey

/-- THE REGION: the operations written out, their slots 'ds', the chain, what holds when so many of it are carried out ('S', over their values), the free ones' values ('FL'). -/
theorem wp_region_chain {id : Nat} {l : List Oper} {a : Act} {w : World} (hm : P.follows .mixedOrders = true)
    (ds : List (Option Nat)) (hds : l.map (·.dst) = ds) (hnd : noTwice ds = true) (hlt : ∀ d, some d ∈ ds → d < a.tmps.size)
    (chain : List Nat) (S : List Value → World → Prop) (FL : List OpSort) (hdown : edgesDown l.toArray = true) (hch : chainOK l.toArray chain (fun i => (FL.getD i (.link none)).isLink) = true)
    (h0 : S [] w.drew)
    (step : ∀ vals : Nat → Value, AllOps (RelOpC P l.toArray Q chain S (fun i => FL.getD i (.link none)) (fun i => ((ds[i]?.bind fun x => x).bind (a.tmps[·]?)).getD undef) (frOfU a ds vals) vals) l 0)
    (fin : ∀ vals w', S (chain.map vals) w' → (∀ i v, i < l.length → (FL.getD i (.link none)).val = some v → vals i = v) → Q .normal (frOfU a ds vals) w') : (Code.region id l.toArray true).wp P Q a w := by
  have hdst : ∀ (i : Nat) (o : Oper), l[i]? = some o → ds[i]? = some o.dst := by
    intro i o ho
    rw [← hds]
    simp [ho]
  refine wp_region_any hm ?_
  have ha : a = frOfU a ds (fun i => ((ds[i]?.bind fun x => x).bind (a.tmps[·]?)).getD undef) := by
    unfold frOfU
    have : fillU (fun j => ((ds[j]?.bind fun x => x).bind (a.tmps[·]?)).getD undef) ds 0 a.tmps = a.tmps := by
      apply Array.ext_getElem?
      intro x
      by_cases hx : some x ∈ ds
      · obtain ⟨j, hj, hjx⟩ := List.getElem_of_mem hx
        have hd : ds[j]? = some (some x) := by rw [List.getElem?_eq_getElem hj, hjx]
        rw [fillU_at _ ds 0 a.tmps hnd hlt j _ hd, Nat.zero_add, hd]
        have hb := hlt x hx
        simp [Array.getElem?_eq_getElem hb]
      · exact fillU_other _ _ _ _ _ hx
    rw [this]
  have hput : ∀ i o, l.toArray[i]? = some o → ∀ vals v, (frOfU a ds vals).put o.dst v = frOfU a ds (fun j => if j = i then v else vals j) := by
    intro i o ho vals v
    have h1 := hdst i o (by simpa using ho)
    unfold frOfU Act.put
    cases h2 : o.dst with
    | none =>
      rw [h2] at h1
      simp only
      congr 1
      apply Array.ext_getElem?
      intro x
      by_cases hx : some x ∈ ds
      · obtain ⟨j, hj, hjx⟩ := List.getElem_of_mem hx
        have hd : ds[j]? = some (some x) := by rw [List.getElem?_eq_getElem hj, hjx]
        rw [fillU_at _ ds 0 a.tmps hnd hlt j _ hd, fillU_at _ ds 0 a.tmps hnd hlt j _ hd, Nat.zero_add]
        have hne : j ≠ i := by
          intro e
          subst e
          rw [h1] at hd
          cases hd
        rw [if_neg hne]
      · rw [fillU_other _ _ _ _ _ hx, fillU_other _ _ _ _ _ hx]
    | some d =>
      rw [h2] at h1
      simp only
      congr 1
      apply Array.ext_getElem?
      intro x
      have hd : d < a.tmps.size := hlt d (List.mem_of_getElem? h1)
      rw [Array.getElem?_setIfInBounds]
      by_cases hx : some x ∈ ds
      · obtain ⟨j, hj, hjx⟩ := List.getElem_of_mem hx
        have hdj : ds[j]? = some (some x) := by rw [List.getElem?_eq_getElem hj, hjx]
        rw [fillU_at _ ds 0 a.tmps hnd hlt j _ hdj, fillU_at _ ds 0 a.tmps hnd hlt j _ hdj, Nat.zero_add]
        by_cases e : j = i
        · subst e
          rw [h1] at hdj
          simp only [Option.some.injEq] at hdj
          rw [if_pos hdj, if_pos (by rw [fillU_size]; exact hdj ▸ hd), if_pos rfl]
        · have hne : d ≠ x := by
            intro e2
            subst e2
            exact e (noTwice_inj hnd hdj h1)
          rw [if_neg hne, if_neg e]
      · have hne : d ≠ x := fun e => hx (e ▸ List.mem_of_getElem? h1)
        rw [if_neg hne, fillU_other _ _ _ _ _ hx, fillU_other _ _ _ _ _ hx]
  have hfalse : ∀ i, i < l.toArray.size → ¬ (Array.replicate l.toArray.size false).getD i true = true := by
    intro i hi h
    have hi' : i < l.length := by simpa using hi
    simp [Array.getD, hi'] at h
  have hmain := wpAny_chain (P := P) (ops := l.toArray) (Q := Q) (fr := frOfU a ds) hput (chain := chain) (S := S) (F := fun i => FL.getD i (.link none)) (orig := fun i => ((ds[i]?.bind fun x => x).bind (a.tmps[·]?)).getD undef) hdown hch (by
      intro i o ho vals
      have := (step vals).get i o (by simpa using ho)
      rw [Nat.zero_add] at this
      exact this) (fun vals w h1 h2 => fin vals w h1 (fun i v hi => h2 i v (by simpa using hi))) l.toArray.size (Array.replicate l.toArray.size false) (fun i => ((ds[i]?.bind fun x => x).bind (a.tmps[·]?)).getD undef) w.drew (by simp) (by simp) ⟨?_, ?_, ?_, ?_⟩
  · rw [← ha] at hmain
    exact hmain
  · refine ⟨0, Nat.zero_le _, fun m i hi => ?_, by simpa using h0⟩
    have h1 := hfalse i (chainOK_in hch hi).1
    simpa using h1
  · intro i v hi hl
    exact absurd hl (hfalse i hi)
  · intro i _ _
    rfl
  · intro i o ho hl
    exact absurd hl (hfalse i (Array.getElem?_eq_some_iff.1 ho).1)

end
end
section
section
variable {P : Program} {ops : Array Oper} {Q : Exit → Act → World → Prop}

/-- The links that are carried out, with their values. -/
def linksDone (n : Nat) (F : Nat → OpSort) (listed : Array Bool) (vals : Nat → Value) (j : Nat) : Option Value :=
  if decide (j < n) && (F j).isLink && listed.getD j true then some (vals j) else none

/-- What the walk keeps: what holds when these links are carried out; the free ones that are carried out have their values. -/
structure RelInvL (ops : Array Oper) (S : (Nat → Option Value) → World → Prop) (F : Nat → OpSort) (orig : Nat → Value) (listed : Array Bool) (vals : Nat → Value) (w : World) : Prop where
  done : S (linksDone ops.size F listed vals) w
  free : ∀ i v, i < ops.size → listed.getD i true = true → (F i).val = some v → vals i = v
  rest : ∀ i, i < ops.size → listed.getD i true = false → vals i = orig i
  closed : ∀ i o, ops[i]? = some o → listed.getD i true = true → ∀ e ∈ o.after, Region.binds .any e = true → listed.getD e.on true = true

/-- One operation of number i, from a frame. -/
def RelOpL (P : Program) (ops : Array Oper) (Q : Exit → Act → World → Prop) (S : (Nat → Option Value) → World → Prop) (F : Nat → OpSort) (orig : Nat → Value) (a : Act) (vals : Nat → Value) (i : Nat) (o : Oper) : Prop :=
  ∀ (st : Nat → Option Value) (w : World), S st w → (∀ e ∈ o.after.toList, Region.binds .any e = true → (∀ v, (F e.on).val = some v → vals e.on = v) ∧ ((F e.on).isLink = true → st e.on = some (vals e.on))) → (∀ j, j < ops.size → waits ops j i = true → vals j = orig j ∧ st j = none) → st i = none →
    match F i with
    | .free v => ∀ K : Act → World → Prop, K (a.put o.dst v) w →
        if Region.wanted o (yielded ops a.tmps) = true then o.wp P a w K Q else K (a.put o.dst undef) w
    | .link u => ∀ K : Act → World → Prop, (∀ v w', (∀ x, u = some x → v = x) → S (fun j => if j = i then some v else st j) w' → K (a.put o.dst v) w') →
        if Region.wanted o (yielded ops a.tmps) = true then o.wp P a w K Q else K (a.put o.dst undef) w

theorem wpAny_links {fr : (Nat → Value) → Act}
    (hput : ∀ i o, ops[i]? = some o → ∀ vals v, (fr vals).put o.dst v = fr (fun j => if j = i then v else vals j))
    {S : (Nat → Option Value) → World → Prop} {F : Nat → OpSort} {orig : Nat → Value} (hdown : edgesDown ops = true)
    (step : ∀ i o, ops[i]? = some o → ∀ vals, RelOpL P ops Q S F orig (fr vals) vals i o)
    (fin : ∀ vals w, S (fun j => if decide (j < ops.size) && (F j).isLink then some (vals j) else none) w → (∀ i v, i < ops.size → (F i).val = some v → vals i = v) → Q .normal (fr vals) w) :
    ∀ (fuel : Nat) (listed : Array Bool) (vals : Nat → Value) (w : World), listed.size = ops.size → (listed.toList.filter (! ·)).length = fuel → RelInvL ops S F orig listed vals w → wpAny P .any ops Q fuel listed (fr vals) w := by
  have done : ∀ (listed : Array Bool) (vals : Nat → Value) (w : World), listed.size = ops.size → RelInvL ops S F orig listed vals w → Region.ready .any ops listed = [] → Q .normal (fr vals) w := by
    intro listed vals w hs hI hr
    have hall : ∀ n i, i < n → i < ops.size → listed.getD i true = true := by
      intro n
      induction n with
      | zero => intro i hi; omega
      | succ n ih =>
        intro i hi hio
        by_cases h : listed.getD i true = true
        · exact h
        · exfalso
          have hno : i ∉ Region.ready .any ops listed := by rw [hr]; exact List.not_mem_nil
          refine hno ?_
          unfold Region.ready
          rw [List.mem_filter]
          refine ⟨List.mem_range.2 hio, ?_⟩
          have ho : ops[i]? = some ops[i] := Array.getElem?_eq_getElem hio
          simp only [Bool.and_eq_true, ho, Option.map_some, Option.getD_some]
          refine ⟨by simpa using h, ?_⟩
          rw [Array.all_eq_true']
          intro e he
          by_cases hb : Region.binds .any e = true
          · have hlt := edgesDown_spec hdown ho he hb
            have h1 := ih e.on (by omega) (by omega)
            have h2 : e.on < listed.size := by omega
            rw [Array.getD_eq_getD_getElem?, Array.getElem?_eq_getElem h2, Option.getD_some] at h1
            simp [h2, h1]
          · simp [hb]
    refine fin vals w ?_ (fun i v hi hv => hI.free i v hi (hall (i + 1) i (by omega) hi) hv)
    have hS := hI.done
    have e : linksDone ops.size F listed vals = fun j => if decide (j < ops.size) && (F j).isLink then some (vals j) else none := by
      funext j
      unfold linksDone
      by_cases hj : j < ops.size
      · rw [hall (j + 1) j (by omega) hj, Bool.and_true]
      · simp [hj]
    rw [e] at hS
    exact hS
  intro fuel
  induction fuel with
  | zero =>
    intro listed vals w hs hf hI
    have hr : Region.ready .any ops listed = [] := by
      unfold Region.ready
      rw [List.filter_eq_nil_iff]
      intro i hi
      have hio := List.mem_range.1 hi
      have h0 : listed.toList.filter (! ·) = [] := List.eq_nil_of_length_eq_zero hf
      rw [List.filter_eq_nil_iff] at h0
      have hl : i < listed.size := by omega
      have h1 := h0 listed[i] (by simp)
      simp at h1
      simp [Array.getD, hl, h1]
    exact ⟨hr, done listed vals w hs hI hr⟩
  | succ fuel ih =>
    intro listed vals w hs hf hI
    refine ⟨fun hr => done listed vals w hs hI hr, ?_⟩
    intro i hi
    unfold Region.ready at hi
    rw [List.mem_filter] at hi
    obtain ⟨hio, hi2⟩ := hi
    have hio := List.mem_range.1 hio
    have ho : ops[i]? = some ops[i] := Array.getElem?_eq_getElem hio
    simp only [Bool.and_eq_true, ho, Option.map_some, Option.getD_some] at hi2
    obtain ⟨hn, ha⟩ := hi2
    have hil : i < listed.size := by omega
    have hnl : listed[i] = false := by simpa [Array.getD, hil] using hn
    have hni : listed.getD i true = false := by rw [Array.getD_eq_getD_getElem?, Array.getElem?_eq_getElem hil, hnl]; rfl
    have hcount : ((listed.setIfInBounds i true).toList.filter (! ·)).length = fuel := by
      have e : (listed.setIfInBounds i true).toList = listed.toList.set i true := by simp
      rw [e]
      have hd : listed.toList = listed.toList.take i ++ listed[i] :: listed.toList.drop (i + 1) := by
        have hl' : i < listed.toList.length := by simpa using hil
        have := (List.take_append_drop i listed.toList).symm
        rw [List.drop_eq_getElem_cons hl'] at this
        simpa using this
      have hset : listed.toList.set i true = listed.toList.take i ++ true :: listed.toList.drop (i + 1) := by
        rw [List.set_eq_take_append_cons_drop, if_pos (by simpa using hil)]
      rw [hset]
      rw [hd, hnl] at hf
      simp at hf ⊢
      omega
    have hnd : ∀ e ∈ ops[i].after, Region.binds .any e = true → listed.getD e.on true = true := by
      intro e he hb
      rw [Array.all_eq_true'] at ha
      have h1 := ha e he
      simp [hb] at h1
      have hlt := edgesDown_spec hdown ho he hb
      have h2 : e.on < listed.size := by omega
      simpa [Array.getD, h2] using h1
    have hwt : ∀ j, j < ops.size → waits ops j i = true → listed.getD j true = false := by
      intro j hjs hw
      unfold waits at hw
      have hjo : ops[j]? = some ops[j] := Array.getElem?_eq_getElem hjs
      rw [hjo] at hw
      simp only [Array.any_eq_true', Bool.and_eq_true, decide_eq_true_eq] at hw
      obtain ⟨e, he, hb, hei⟩ := hw
      cases hlj : listed.getD j true with
      | false => rfl
      | true =>
        have := hI.closed j _ hjo hlj e he hb
        rw [hei, hni] at this
        cases this
    have hnext : ∀ v w', S (linksDone ops.size F (listed.setIfInBounds i true) (fun j => if j = i then v else vals j)) w' → (∀ u, (F i).val = some u → v = u) →
        wpAny P .any ops Q fuel (listed.setIfInBounds i true) ((fr vals).put ops[i].dst v) w' := by
      intro v w' hd hu
      rw [hput i _ ho]
      refine ih _ _ _ (by simpa using hs) hcount ⟨hd, ?_, ?_, ?_⟩
      · intro j u hj hlj hF
        rw [getD_set _ _ _ hil] at hlj
        by_cases hji : j = i
        · subst hji; simpa using hu u hF
        · rw [if_neg hji] at hlj
          simp only [if_neg hji]
          exact hI.free j u hj hlj hF
      · intro j hj hlj
        rw [getD_set _ _ _ hil] at hlj
        by_cases hji : j = i
        · rw [if_pos hji] at hlj; cases hlj
        · rw [if_neg hji] at hlj
          simp only [if_neg hji]
          exact hI.rest j hj hlj
      · intro j o hjo hlj e he hb
        rw [getD_set _ _ _ hil] at hlj ⊢
        by_cases hei : e.on = i
        · rw [if_pos hei]
        · rw [if_neg hei]
          by_cases hji : j = i
          · subst hji
            rw [ho] at hjo
            cases hjo
            exact hnd e he hb
          · rw [if_neg hji] at hlj
            exact hI.closed j o hjo hlj e he hb
    have hst := step i _ ho vals _ w hI.done (by
      intro e he hb
      have hlt := edgesDown_spec hdown ho (by simpa using he) hb
      have hle := hnd e (by simpa using he) hb
      refine ⟨fun v hv => hI.free e.on v (by omega) hle hv, fun hL => ?_⟩
      unfold linksDone
      rw [hle, hL, decide_eq_true (show e.on < ops.size by omega)]
      rfl) (fun j hjs hw => ⟨hI.rest j hjs (hwt j hjs hw), by unfold linksDone; rw [hwt j hjs hw]; simp⟩) (by unfold linksDone; rw [hni]; simp)
    have hkey : if Region.wanted ops[i] (yielded ops (fr vals).tmps) = true then ops[i].wp P (fr vals) w (fun a' w' => wpAny P .any ops Q fuel (listed.setIfInBounds i true) a' w') Q else wpAny P .any ops Q fuel (listed.setIfInBounds i true) ((fr vals).put ops[i].dst undef) w := by
      cases hF : F i with
      | free v =>
        simp only [hF] at hst
        refine hst _ (hnext v w ?_ ?_)
        · have e : linksDone ops.size F (listed.setIfInBounds i true) (fun j => if j = i then v else vals j) = linksDone ops.size F listed vals := by
            funext j
            unfold linksDone
            rw [getD_set _ _ _ hil]
            by_cases hji : j = i
            · subst hji
              rw [hF]
              simp [OpSort.isLink]
            · simp only [if_neg hji]
          rw [e]
          exact hI.done
        · intro u hu
          rw [hF] at hu
          simpa [OpSort.val] using hu
      | link u =>
        simp only [hF] at hst
        refine hst _ (fun v w' hv' hS' => hnext v w' ?_ ?_)
        · have e : linksDone ops.size F (listed.setIfInBounds i true) (fun j => if j = i then v else vals j) = fun j => if j = i then some v else linksDone ops.size F listed vals j := by
            funext j
            unfold linksDone
            rw [getD_set _ _ _ hil]
            by_cases hji : j = i
            · subst hji
              rw [hF]
              simp [OpSort.isLink, hio]
            · simp only [if_neg hji]
          rw [e]
          exact hS'
        · intro u' hu
          rw [hF] at hu
          exact hv' u' (by simpa [OpSort.val] using hu)
    unfold wpOp
    simp only [ho]
    split
    · rename_i hw
      rw [if_pos hw] at hkey
      exact .inl hkey
    · rename_i hw
      rw [if_neg hw] at hkey
      exact hkey

/-- THE REGION: the operations written out, their slots 'ds', what holds when some links are carried out ('S', over their values), the free ones' values ('FL'). -/
theorem wp_region_links {id : Nat} {l : List Oper} {a : Act} {w : World} (hm : P.follows .mixedOrders = true)
    (ds : List (Option Nat)) (hds : l.map (·.dst) = ds) (hnd : noTwice ds = true) (hlt : ∀ d, some d ∈ ds → d < a.tmps.size)
    (S : (Nat → Option Value) → World → Prop) (FL : List OpSort) (hdown : edgesDown l.toArray = true)
    (h0 : S (fun _ => none) w.drew)
    (step : ∀ vals : Nat → Value, AllOps (RelOpL P l.toArray Q S (fun i => FL.getD i (.link none)) (fun i => ((ds[i]?.bind fun x => x).bind (a.tmps[·]?)).getD undef) (frOfU a ds vals) vals) l 0)
    (fin : ∀ vals w', S (fun j => if decide (j < l.length) && (FL.getD j (.link none)).isLink then some (vals j) else none) w' → (∀ i v, i < l.length → (FL.getD i (.link none)).val = some v → vals i = v) → Q .normal (frOfU a ds vals) w') : (Code.region id l.toArray true).wp P Q a w := by
  have hdst : ∀ (i : Nat) (o : Oper), l[i]? = some o → ds[i]? = some o.dst := by
    intro i o ho
    rw [← hds]
    simp [ho]
  refine wp_region_any hm ?_
  have ha : a = frOfU a ds (fun i => ((ds[i]?.bind fun x => x).bind (a.tmps[·]?)).getD undef) := by
    unfold frOfU
    have : fillU (fun j => ((ds[j]?.bind fun x => x).bind (a.tmps[·]?)).getD undef) ds 0 a.tmps = a.tmps := by
      apply Array.ext_getElem?
      intro x
      by_cases hx : some x ∈ ds
      · obtain ⟨j, hj, hjx⟩ := List.getElem_of_mem hx
        have hd : ds[j]? = some (some x) := by rw [List.getElem?_eq_getElem hj, hjx]
        rw [fillU_at _ ds 0 a.tmps hnd hlt j _ hd, Nat.zero_add, hd]
        have hb := hlt x hx
        simp [Array.getElem?_eq_getElem hb]
      · exact fillU_other _ _ _ _ _ hx
    rw [this]
  have hput : ∀ i o, l.toArray[i]? = some o → ∀ vals v, (frOfU a ds vals).put o.dst v = frOfU a ds (fun j => if j = i then v else vals j) := by
    intro i o ho vals v
    have h1 := hdst i o (by simpa using ho)
    unfold frOfU Act.put
    cases h2 : o.dst with
    | none =>
      rw [h2] at h1
      simp only
      congr 1
      apply Array.ext_getElem?
      intro x
      by_cases hx : some x ∈ ds
      · obtain ⟨j, hj, hjx⟩ := List.getElem_of_mem hx
        have hd : ds[j]? = some (some x) := by rw [List.getElem?_eq_getElem hj, hjx]
        rw [fillU_at _ ds 0 a.tmps hnd hlt j _ hd, fillU_at _ ds 0 a.tmps hnd hlt j _ hd, Nat.zero_add]
        have hne : j ≠ i := by
          intro e
          subst e
          rw [h1] at hd
          cases hd
        rw [if_neg hne]
      · rw [fillU_other _ _ _ _ _ hx, fillU_other _ _ _ _ _ hx]
    | some d =>
      rw [h2] at h1
      simp only
      congr 1
      apply Array.ext_getElem?
      intro x
      have hd : d < a.tmps.size := hlt d (List.mem_of_getElem? h1)
      rw [Array.getElem?_setIfInBounds]
      by_cases hx : some x ∈ ds
      · obtain ⟨j, hj, hjx⟩ := List.getElem_of_mem hx
        have hdj : ds[j]? = some (some x) := by rw [List.getElem?_eq_getElem hj, hjx]
        rw [fillU_at _ ds 0 a.tmps hnd hlt j _ hdj, fillU_at _ ds 0 a.tmps hnd hlt j _ hdj, Nat.zero_add]
        by_cases e : j = i
        · subst e
          rw [h1] at hdj
          simp only [Option.some.injEq] at hdj
          rw [if_pos hdj, if_pos (by rw [fillU_size]; exact hdj ▸ hd), if_pos rfl]
        · have hne : d ≠ x := by
            intro e2
            subst e2
            exact e (noTwice_inj hnd hdj h1)
          rw [if_neg hne, if_neg e]
      · have hne : d ≠ x := fun e => hx (e ▸ List.mem_of_getElem? h1)
        rw [if_neg hne, fillU_other _ _ _ _ _ hx, fillU_other _ _ _ _ _ hx]
  have hfalse : ∀ i, i < l.toArray.size → ¬ (Array.replicate l.toArray.size false).getD i true = true := by
    intro i hi h
    have hi' : i < l.length := by simpa using hi
    simp [Array.getD, hi'] at h
  have hmain := wpAny_links (P := P) (ops := l.toArray) (Q := Q) (fr := frOfU a ds) hput (S := S) (F := fun i => FL.getD i (.link none)) (orig := fun i => ((ds[i]?.bind fun x => x).bind (a.tmps[·]?)).getD undef) hdown (by
      intro i o ho vals
      have := (step vals).get i o (by simpa using ho)
      rw [Nat.zero_add] at this
      exact this) (fun vals w h1 h2 => fin vals w (by simpa using h1) (fun i v hi => h2 i v (by simpa using hi))) l.toArray.size (Array.replicate l.toArray.size false) (fun i => ((ds[i]?.bind fun x => x).bind (a.tmps[·]?)).getD undef) w.drew (by simp) (by simp) ⟨?_, ?_, ?_, ?_⟩
  · rw [← ha] at hmain
    exact hmain
  · have e : linksDone l.toArray.size (fun i => FL.getD i (.link none)) (Array.replicate l.toArray.size false) (fun i => ((ds[i]?.bind fun x => x).bind (a.tmps[·]?)).getD undef) = fun _ => none := by
      funext j
      unfold linksDone
      by_cases hj : j < l.toArray.size
      · have := hfalse j hj
        rw [Bool.not_eq_true] at this
        rw [this, Bool.and_false]
        rfl
      · rw [decide_eq_false hj]
        rfl
    rw [e]
    exact h0
  · intro i v hi hl
    exact absurd hl (hfalse i hi)
  · intro i _ _
    rfl
  · intro i o ho hl
    exact absurd hl (hfalse i (Array.getElem?_eq_some_iff.1 ho).1)

end
end
section
set_option maxRecDepth 100000

/-- An entry, a ballot, a voter's block. -/
abbrev ev (k t n p : Int) (v u : Value) : Value := .agg #[.int .u8 k, .int .u16 t, .int .u16 n, .int .i64 p, v, u]
abbrev ball (r n : Int) : Value := .agg #[.int .i64 r, .int .i64 n]
abbrev oBa (r n : Int) : Obj := Obj.cells #[.int .i64 r, .int .i64 n] 40 (0, 0)
abbrev oEn (k t n p : Int) (v u : Value) : Obj := Obj.cells #[.int .u8 k, .int .u16 t, .int .u16 n, .int .i64 p, v, u] 47 (0, 0)
abbrev nilS : Value := .slice none 0 0
abbrev eZ : Value := ev 0 0 0 0 nilS nilS

structure En where
  k : Int
  t : Int
  n : Int
  p : Int
  l : List UInt8
  m : List Int

abbrev En.val (x : En) (v u : Value) : Value := ev x.k x.t x.n x.p v u
abbrev En.obj (x : En) (v u : Value) : Obj := oEn x.k x.t x.n x.p v u
def En.zero : En := ⟨0, 0, 0, 0, [], []⟩

def En.same (x y : En) : Bool := decide (x.k = y.k ∧ (x.t = y.t ∧ x.n = y.n ∧ x.p = y.p ∧ x.l = y.l) ∧ x.m = y.m)
theorem En.same_iff (x y : En) : x.same y = true ↔ x = y := by
  unfold En.same
  cases x; cases y
  simp [and_assoc]
theorem En.same_refl (x : En) : x.same x = true := (En.same_iff x x).2 rfl

/-- The value of x, of these two slices, shows x. -/
def ES (w : World) (x : En) (v u : Value) : Prop := Sees w v x.l ∧ SI w u x.m

theorem ES.fr {w w' : World} {x : En} {v u : Value} (h : ES w x v u) (hf : Fr (fun _ => False) w w') : ES w' x v u := ⟨h.1.fr hf (fun _ _ h => h), h.2.fr hf⟩

theorem es_zero (w : World) : ES w En.zero nilS nilS := ⟨.inl ⟨rfl, _, _, rfl⟩, .inl ⟨rfl, _, _, rfl⟩⟩

theorem en_cells {w : World} {g : Nat} {k t n p : Int} {v u : Value} {T : TypeId} (h : w.heap[g]? = some (Obj.cells #[.int .u8 k, .int .u16 t, .int .u16 n, .int .i64 p, v, u] T (0, 0))) :
    w.cell? ⟨g, 0, none⟩ = some (.int .u8 k) ∧ w.cell? ⟨g, 1, none⟩ = some (.int .u16 t) ∧ w.cell? ⟨g, 2, none⟩ = some (.int .u16 n) ∧ w.cell? ⟨g, 3, none⟩ = some (.int .i64 p) ∧ w.cell? ⟨g, 4, none⟩ = some v ∧ w.cell? ⟨g, 5, none⟩ = some u := by
  simp [World.cell?, h]

theorem vsame_any (x y : En) (v u v' u' : Value) (w : World) (h1 : ES w x v u) (h2 : ES w y v' u') (hs : x.m.length ≤ 1000) :
    Calls Try.prog 17 #[x.val v u, y.val v' u'] w fun e w' => e = .returned (.bool (x.same y)) ∧ Fr (fun _ => False) w w' := by
  obtain ⟨h1, g1⟩ := h1
  obtain ⟨h2, g2⟩ := h2
  have H1 := Lib.hid h1
  have H2 := Lib.hid h2
  obtain ⟨a, c, hu, k1⟩ := g1.shape
  obtain ⟨b, d, hu', k2⟩ := g2.shape
  subst hu hu'
  have G1 := Lib.hid k1
  have G2 := Lib.hid k2
  have HS := Lib.hid hs
  clear h1 h2 g1 g2 k1 k2 hs
  have q0 := heap_alloc_new w (x.obj v (.slice a x.m.length c))
  have q1 := heap_alloc_new (w.alloc (x.obj v (.slice a x.m.length c))) (y.obj v' (.slice b y.m.length d))
  have f0 : Fr (fun _ => False) w (w.alloc (x.obj v (.slice a x.m.length c))) := (Fr.refl _ _).alloc _
  have f1 : Fr (fun _ => False) (w.alloc (x.obj v (.slice a x.m.length c))) ((w.alloc (x.obj v (.slice a x.m.length c))).alloc (y.obj v' (.slice b y.m.length d))) := (Fr.refl _ _).alloc _
  have q0' := crow_kept q0 f1 (fun h => h)
  have hz : (w.alloc (x.obj v (.slice a x.m.length c))).heap.size = w.heap.size + 1 := by simp
  rw [hz] at q1
  have F := Lib.hid (f0.trans f1 (fun _ _ h => h))
  have Q := Lib.hid (And.intro q0' q1)
  clear q0 q1 q0' f0 f1 hz
  have HE : Hid (∀ B, (decide (x.k = y.k) && (decide (x.t = y.t ∧ x.n = y.n ∧ x.p = y.p ∧ x.l = y.l) && decide (x.m = y.m))) = B → Ending.returned (.bool B) = .returned (.bool (x.same y))) := Lib.hid (by
    rintro B rfl
    unfold En.same
    congr 2
    simp only [Bool.decide_and])
  go_enter Try.func17, Try.ntmps17
  go_upto_region 1 with fail
  generalize (w.alloc (x.obj v (.slice a x.m.length c))).alloc (y.obj v' (.slice b y.m.length d)) = w0 at *
  obtain ⟨c00, c01, c02, c03, c04, c05⟩ := en_cells Q.out.1
  obtain ⟨c10, c11, c12, c13, c14, c15⟩ := en_cells Q.out.2
  go_wp2_with fail
  case isTrue =>
    have HK : Hid (x.k = y.k) := Lib.hid (by first | assumption | omega)
    obtain ⟨B, hB⟩ : ∃ B, B = decide (x.t = y.t ∧ x.n = y.n ∧ x.p = y.p ∧ x.l = y.l) := ⟨_, rfl⟩
    have HB := Lib.hid hB
    refine (csame_any x.t x.n x.p y.t y.n y.p v v' x.l y.l w0 (H1.out.fr F.out (fun _ _ h => h)) (H2.out.fr F.out (fun _ _ h => h))).mono ?_
    rintro e w1 ⟨rfl, f1⟩
    rw [← hB]
    clear hB
    have Q1 := Lib.hid (And.intro (crow_kept Q.out.1 f1 (fun h => h)) (crow_kept Q.out.2 f1 (fun h => h)))
    have F1 := Lib.hid (F.out.trans f1 (fun _ _ h => h))
    clear f1 c00 c01 c02 c03 c04 c05 c10 c11 c12 c13 c14 c15
    obtain ⟨c00, c01, c02, c03, c04, c05⟩ := en_cells Q1.out.1
    obtain ⟨c10, c11, c12, c13, c14, c15⟩ := en_cells Q1.out.2
    cases B with
    | true =>
      go_wp2_with fail
      refine (lequal_any x.m y.m a b c d w1 (G1.out.fr F1.out) (G2.out.fr F1.out) HS.out).mono ?_
      rintro e w2 ⟨rfl, f2⟩
      have F2 := Lib.hid (F1.out.trans f2 (fun _ _ h => h))
      clear f2
      go_wp2_with fail
      go_ret
      exact ⟨HE.out _ (by rw [← HB.out, decide_eq_true HK.out]; rfl), F2.out⟩
    | false =>
      go_wp2_with fail
      go_ret
      exact ⟨HE.out _ (by rw [← HB.out]; simp), F1.out⟩
  all_goals
    go_ret
    refine ⟨HE.out _ ?_, F.out⟩
    have hk : ¬ x.k = y.k := by assumption
    simp [hk]
end
section
set_option maxRecDepth 100000

/-- The first error of an entry. -/
def En.chk (x : En) : Int :=
  if 3 ≤ x.k then 5
  else if (x.k ≠ 1 ∧ ¬ (x.t = 0 ∧ x.n = 0 ∧ x.p = 0 ∧ x.l = [])) ∨ (x.k ≠ 2 ∧ x.m ≠ []) then 4
  else if x.k = 1 then cchk x.p x.l.length
  else if x.k = 2 then chkM x.m else 0
end
end Go.Proofs.Ytcjfinabffpgkaa
