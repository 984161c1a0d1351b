/-
  CouBack, part 37 of what it rests on: Put5, EncMath, RegionL.
-/
import Derived.Test.YtplipjijaaejlaaGreatS36
import Derived.Test.YtplipjijaaejlaaGreatS33
import Derived.Test.YtplipjijaaejlaaGreatS12
set_option linter.unusedVariables false
set_option linter.unusedSimpArgs false
set_option maxHeartbeats 64000000
namespace Go.Proofs.YtplipjijaaejlaaGreat
open Go.RowKit
open Go.Lib (hid)
section
attribute [local go_sem] run_store_float
set_option maxRecDepth 100000

/-- THE ERROR OF Put. -/
def putErr (t : KT) (T : VT) : Nat := if isVal t T then (if (encE t T).length ≤ 4000 then 0 else 6) else 17

/-- A slice that shows bytes, made since. -/
def NewB (w w' : World) (v : Value) (l : List UInt8) : Prop := Own w' v l ∧ (∀ k, v.ownBlock = some k → w.heap.size ≤ k)

theorem Put_any (R0 : Nat → Prop) (t : KT) (T : VT) (v vv : Value) (w : World) (hsh : Shows R0 w t v) (hvs : VShows R0 w T vv) (hg : goodE t) (hsz : szV T ≤ 100000) :
    Calls Tryz.prog 14 #[v, vv] w fun e w' => ∃ pv, e = .returned (.tuple #[pv, .int .i64 (putErr t T : Nat)]) ∧ NewB w w' pv (if putErr t T = 0 then encE t T else []) ∧ Fr (fun _ => False) w w' := by
  obtain ⟨P, hP⟩ : ∃ P, (if putErr t T = 0 then encE t T else []) = P := ⟨_, rfl⟩
  obtain ⟨E, hE⟩ : ∃ E, putErr t T = E := ⟨_, rfl⟩
  rw [hP, hE]
  rw [hE] at hP
  have HP := Lib.hid hP
  have HE := Lib.hid hE
  clear hP hE
  obtain ⟨k, m, a, n, c, a', n', c', rfl⟩ := hsh.four
  obtain ⟨N, f, s, va, vc, cap, rfl⟩ := hvs.lit
  obtain ⟨w1, hw1⟩ : ∃ w1, w1 = (w.alloc (.cells #[.int .u8 k, .int .i64 m, .slice a n c, .slice a' n' c'] 34)).alloc (.cells #[.int .i64 N, .float .f64 f, .string s, .slice va vc cap] 39) := ⟨_, rfl⟩
  have f1 : Fr (fun _ => False) w w1 := by rw [hw1]; exact ((Fr.refl _ _).alloc _).alloc _
  have q1 : w1.heap[w.heap.size]? = some (.cells #[.int .u8 k, .int .i64 m, .slice a n c, .slice a' n' c'] 34 (0, 0)) := by rw [hw1]; exact heap_alloc_first _ _ _
  have v1 : w1.heap[w.heap.size + 1]? = some (.cells #[.int .i64 N, .float .f64 f, .string s, .slice va vc cap] 39 (0, 0)) := by rw [hw1]; exact heap_alloc_two _ _ _
  have H0 := Lib.hid (And.intro (Shows.fr f1 (fun _ _ h => h) _ _ (Shows.mono (S := fun k => k < w.heap.size) (fun k hk _ => hk) _ _ hsh)) (VShows.fr f1 (fun _ _ h => h) _ _ (VShows.mono (S := fun k => k < w.heap.size) (fun k hk _ => hk) _ _ hvs)))
  have HG := Lib.hid hg
  have HSZ := Lib.hid hsz
  have F1 := Lib.hid f1
  clear hsh hvs hg hsz f1
  go_enter Tryz.func14, Tryz.ntmps14
  go_upto_region 1 with fail
  rw [← hw1]
  clear hw1
  obtain ⟨vb, hvb⟩ : ∃ vb, w.heap.size + 1 = vb := ⟨_, rfl⟩
  rw [hvb] at v1 ⊢
  obtain ⟨tb, htb⟩ : ∃ tb, w.heap.size = tb := ⟨_, rfl⟩
  rw [htb] at q1 hvb H0 ⊢
  have HTV := Lib.hid (And.intro htb hvb)
  clear htb hvb
  obtain ⟨c0, c1, c2, c3⟩ := cell_of_four q1
  obtain ⟨d0, d1, d2, d3⟩ := cell_of_four v1
  have HB := Lib.hid (And.intro q1 v1)
  clear q1 v1
  go_wp2_with fail
  refine (vcheck_any (fun k => k < tb) t T _ _ w1 H0.out.1 H0.out.2 HSZ.out).mono ?_
  rintro e w2 ⟨rfl, f2⟩
  have HB2 := Lib.hid (And.intro (box_kept HB.out.1 f2 (fun h => h)) (box_kept HB.out.2 f2 (fun h => h)))
  have H2 := Lib.hid (And.intro (Shows.fr f2 (fun _ _ h => h) _ _ H0.out.1) (VShows.fr f2 (fun _ _ h => h) _ _ H0.out.2))
  have F2 := Lib.hid (F1.out.trans f2 (fun _ _ h => h))
  clear c0 c1 c2 c3 d0 d1 d2 d3 f2
  by_cases hv : isVal t T = true
  case neg =>
    have h17 : valE t T = 17 := by unfold valE; rw [if_neg hv]
    have HE17 : Hid (E = 17 ∧ P = []) := Lib.hid (by
      have h1 : E = 17 := by rw [← HE.out]; unfold putErr; rw [if_neg hv]
      refine ⟨h1, ?_⟩
      rw [← HP.out, h1]; rfl)
    rw [h17]
    clear hv h17
    go_wp2_with fail
    go_ret2
    exact ⟨_, by rw [HE17.out.1]; rfl, by rw [HE17.out.2]; exact ⟨World.ownsRow_nil _ 0 5 1, fun k hk => by cases hk⟩, F2.out⟩
  have h0 : valE t T = 0 := by unfold valE; rw [if_pos hv]
  have his : isE t T = true := by
    unfold isVal at hv
    rw [Bool.and_eq_true] at hv
    rw [← fits_is t HG.out]; exact hv.2
  have HEE : Hid (E = if (encE t T).length ≤ 4000 then 0 else 6) := Lib.hid (by rw [← HE.out]; unfold putErr; rw [if_pos hv])
  rw [h0]
  have HIS := Lib.hid his
  clear hv h0 his
  have q3 : (w2.alloc (.cells #[.slice none 0 0, .int .i64 0] 81)).heap[w2.heap.size]? = some (.cells #[.slice none 0 0, .int .i64 0] 81 (0, 0)) := heap_alloc_new _ _
  have f3 : Fr (fun _ => False) w2 (w2.alloc (.cells #[.slice none 0 0, .int .i64 0] 81)) := (Fr.refl _ _).alloc _
  go_upto_region 5 with fail
  generalize w2.alloc (.cells #[.slice none 0 0, .int .i64 0] 81) = w3 at *
  have HFB : Hid (tb < w2.heap.size ∧ vb < w2.heap.size) := Lib.hid ⟨lt_of_block HB2.out.1, lt_of_block HB2.out.2⟩
  have HSW := Lib.hid F2.out.size
  generalize hfb : w2.heap.size = fb at *
  have HST : Hid (PkSt fb w3 0 (.slice none 0 0) []) := Lib.hid ⟨q3, World.ownsRow_nil _ 0 5 1, by simp [Value.ownBlock]⟩
  have HB3 := Lib.hid (And.intro (box_kept HB2.out.1 f3 (fun h => h)) (box_kept HB2.out.2 f3 (fun h => h)))
  have H3 := Lib.hid (And.intro (Shows.fr f3 (fun _ _ h => h) _ _ H2.out.1) (VShows.fr f3 (fun _ _ h => h) _ _ H2.out.2))
  have F3 := Lib.hid (F2.out.trans f3 (fun _ _ h => h))
  clear q3 f3 hfb
  obtain ⟨c0, c1, c2, c3⟩ := cell_of_four HB3.out.1
  obtain ⟨d0, d1, d2, d3⟩ := cell_of_four HB3.out.2
  go_wp2_with fail
  refine (put_any t (fun k => k < tb) _ _ w3 T fb 0 (.slice none 0 0) [] H3.out.1 H3.out.2 HG.out HIS.out HST.out (fun k hk => ⟨by have := HFB.out; omega, by simp [Value.ownBlock]⟩) (by simp) (by have := HSZ.out; omega)).mono ?_
  rintro e w4 ⟨rfl, nv2, l2, c4, hp, hok⟩
  rw [List.nil_append] at hok ⊢
  have HF4 : Hid (Fr (fun _ => False) w w4) := Lib.hid (F3.out.trans hp.2.1 (fun k hk h => by
    rcases h with h | h
    · have := HSW.out; omega
    · simp [Value.ownBlock] at h))
  have HPK := Lib.hid hp
  have HOK := Lib.hid hok
  clear c0 c1 c2 c3 d0 d1 d2 d3 hp hok
  by_cases hfit : (encE t T).length ≤ 4000
  · rw [decide_eq_true hfit]
    have HE0 : Hid (E = 0 ∧ P = encE t T ∧ l2 = encE t T) := Lib.hid (by
      have h1 : E = 0 := by rw [HEE.out, if_pos hfit]
      refine ⟨h1, by rw [← HP.out, h1]; rfl, (HOK.out (decide_eq_true hfit)).1⟩)
    have HLE := Lib.hid hfit
    clear hfit
    go_wp2_with fail
    refine (pbytes_any (c4 : Int) fb nv2 l2 _ HPK.out.1 (by rw [HE0.out.2.2]; have := HLE.out; omega)).mono ?_
    rintro e w5 ⟨v5, rfl, ho, f5, hk5⟩
    have H5 := Lib.hid (And.intro ho (And.intro f5 hk5))
    clear ho f5 hk5
    go_wp2_with fail
    go_ret2
    refine ⟨v5, by rw [HE0.out.1]; rfl, ⟨by rw [HE0.out.2.1, ← HE0.out.2.2]; exact H5.out.1, fun k hk => Nat.le_trans HF4.out.size (H5.out.2.2 k hk)⟩, HF4.out.trans H5.out.2.1 (fun _ _ h => h)⟩
  · rw [decide_eq_false hfit]
    have HE6 : Hid (E = 6 ∧ P = []) := Lib.hid (by
      have h1 : E = 6 := by rw [HEE.out, if_neg hfit]
      exact ⟨h1, by rw [← HP.out, h1]; rfl⟩)
    clear hfit
    go_wp2_with fail
    go_ret2
    exact ⟨_, by rw [HE6.out.1]; rfl, by rw [HE6.out.2]; exact ⟨World.ownsRow_nil _ 0 5 1, fun k hk => by cases hk⟩, HF4.out⟩
end
section
/-- A float's word is in bounds, and a text's length. -/
def VBs : VT → Prop
  | .nil => False
  | .mk n f s c of => f < 18446744073709551616 ∧ ∀ i, i < c → VBs (of i)
end
section
section
variable {P : Program} {ops : Array Oper} {Q : Exit → Act → World → Prop}

/-- The links that are carried out, with their values. -/
def linksDone (n : Nat) (F : Nat → OpSort) (listed : Array Bool) (vals : Nat → Value) (j : Nat) : Option Value :=
  if decide (j < n) && (F j).isLink && listed.getD j true then some (vals j) else none

/-- What the walk keeps: what holds when these links are carried out; the free ones that are carried out have their values. -/
structure RelInvL (ops : Array Oper) (S : (Nat → Option Value) → World → Prop) (F : Nat → OpSort) (orig : Nat → Value) (listed : Array Bool) (vals : Nat → Value) (w : World) : Prop where
  done : S (linksDone ops.size F listed vals) w
  free : ∀ i v, i < ops.size → listed.getD i true = true → (F i).val = some v → vals i = v
  rest : ∀ i, i < ops.size → listed.getD i true = false → vals i = orig i
  closed : ∀ i o, ops[i]? = some o → listed.getD i true = true → ∀ e ∈ o.after, Region.binds .any e = true → listed.getD e.on true = true

/-- One operation of number i, from a frame. -/
def RelOpL (P : Program) (ops : Array Oper) (Q : Exit → Act → World → Prop) (S : (Nat → Option Value) → World → Prop) (F : Nat → OpSort) (orig : Nat → Value) (a : Act) (vals : Nat → Value) (i : Nat) (o : Oper) : Prop :=
  ∀ (st : Nat → Option Value) (w : World), S st w → (∀ e ∈ o.after.toList, Region.binds .any e = true → (∀ v, (F e.on).val = some v → vals e.on = v) ∧ ((F e.on).isLink = true → st e.on = some (vals e.on))) → (∀ j, j < ops.size → waits ops j i = true → vals j = orig j ∧ st j = none) → st i = none →
    match F i with
    | .free v => ∀ K : Act → World → Prop, K (a.put o.dst v) w →
        if Region.wanted o (yielded ops a.tmps) = true then o.wp P a w K Q else K (a.put o.dst undef) w
    | .link u => ∀ K : Act → World → Prop, (∀ v w', (∀ x, u = some x → v = x) → S (fun j => if j = i then some v else st j) w' → K (a.put o.dst v) w') →
        if Region.wanted o (yielded ops a.tmps) = true then o.wp P a w K Q else K (a.put o.dst undef) w

theorem wpAny_links {fr : (Nat → Value) → Act}
    (hput : ∀ i o, ops[i]? = some o → ∀ vals v, (fr vals).put o.dst v = fr (fun j => if j = i then v else vals j))
    {S : (Nat → Option Value) → World → Prop} {F : Nat → OpSort} {orig : Nat → Value} (hdown : edgesDown ops = true)
    (step : ∀ i o, ops[i]? = some o → ∀ vals, RelOpL P ops Q S F orig (fr vals) vals i o)
    (fin : ∀ vals w, S (fun j => if decide (j < ops.size) && (F j).isLink then some (vals j) else none) w → (∀ i v, i < ops.size → (F i).val = some v → vals i = v) → Q .normal (fr vals) w) :
    ∀ (fuel : Nat) (listed : Array Bool) (vals : Nat → Value) (w : World), listed.size = ops.size → (listed.toList.filter (! ·)).length = fuel → RelInvL ops S F orig listed vals w → wpAny P .any ops Q fuel listed (fr vals) w := by
  have done : ∀ (listed : Array Bool) (vals : Nat → Value) (w : World), listed.size = ops.size → RelInvL ops S F orig listed vals w → Region.ready .any ops listed = [] → Q .normal (fr vals) w := by
    intro listed vals w hs hI hr
    have hall : ∀ n i, i < n → i < ops.size → listed.getD i true = true := by
      intro n
      induction n with
      | zero => intro i hi; omega
      | succ n ih =>
        intro i hi hio
        by_cases h : listed.getD i true = true
        · exact h
        · exfalso
          have hno : i ∉ Region.ready .any ops listed := by rw [hr]; exact List.not_mem_nil
          refine hno ?_
          unfold Region.ready
          rw [List.mem_filter]
          refine ⟨List.mem_range.2 hio, ?_⟩
          have ho : ops[i]? = some ops[i] := Array.getElem?_eq_getElem hio
          simp only [Bool.and_eq_true, ho, Option.map_some, Option.getD_some]
          refine ⟨by simpa using h, ?_⟩
          rw [Array.all_eq_true']
          intro e he
          by_cases hb : Region.binds .any e = true
          · have hlt := edgesDown_spec hdown ho he hb
            have h1 := ih e.on (by omega) (by omega)
            have h2 : e.on < listed.size := by omega
            rw [Array.getD_eq_getD_getElem?, Array.getElem?_eq_getElem h2, Option.getD_some] at h1
            simp [h2, h1]
          · simp [hb]
    refine fin vals w ?_ (fun i v hi hv => hI.free i v hi (hall (i + 1) i (by omega) hi) hv)
    have hS := hI.done
    have e : linksDone ops.size F listed vals = fun j => if decide (j < ops.size) && (F j).isLink then some (vals j) else none := by
      funext j
      unfold linksDone
      by_cases hj : j < ops.size
      · rw [hall (j + 1) j (by omega) hj, Bool.and_true]
      · simp [hj]
    rw [e] at hS
    exact hS
  intro fuel
  induction fuel with
  | zero =>
    intro listed vals w hs hf hI
    have hr : Region.ready .any ops listed = [] := by
      unfold Region.ready
      rw [List.filter_eq_nil_iff]
      intro i hi
      have hio := List.mem_range.1 hi
      have h0 : listed.toList.filter (! ·) = [] := List.eq_nil_of_length_eq_zero hf
      rw [List.filter_eq_nil_iff] at h0
      have hl : i < listed.size := by omega
      have h1 := h0 listed[i] (by simp)
      simp at h1
      simp [Array.getD, hl, h1]
    exact ⟨hr, done listed vals w hs hI hr⟩
  | succ fuel ih =>
    intro listed vals w hs hf hI
    refine ⟨fun hr => done listed vals w hs hI hr, ?_⟩
    intro i hi
    unfold Region.ready at hi
    rw [List.mem_filter] at hi
    obtain ⟨hio, hi2⟩ := hi
    have hio := List.mem_range.1 hio
    have ho : ops[i]? = some ops[i] := Array.getElem?_eq_getElem hio
    simp only [Bool.and_eq_true, ho, Option.map_some, Option.getD_some] at hi2
    obtain ⟨hn, ha⟩ := hi2
    have hil : i < listed.size := by omega
    have hnl : listed[i] = false := by simpa [Array.getD, hil] using hn
    have hni : listed.getD i true = false := by rw [Array.getD_eq_getD_getElem?, Array.getElem?_eq_getElem hil, hnl]; rfl
    have hcount : ((listed.setIfInBounds i true).toList.filter (! ·)).length = fuel := by
      have e : (listed.setIfInBounds i true).toList = listed.toList.set i true := by simp
      rw [e]
      have hd : listed.toList = listed.toList.take i ++ listed[i] :: listed.toList.drop (i + 1) := by
        have hl' : i < listed.toList.length := by simpa using hil
        have := (List.take_append_drop i listed.toList).symm
        rw [List.drop_eq_getElem_cons hl'] at this
        simpa using this
      have hset : listed.toList.set i true = listed.toList.take i ++ true :: listed.toList.drop (i + 1) := by
        rw [List.set_eq_take_append_cons_drop, if_pos (by simpa using hil)]
      rw [hset]
      rw [hd, hnl] at hf
      simp at hf ⊢
      omega
    have hnd : ∀ e ∈ ops[i].after, Region.binds .any e = true → listed.getD e.on true = true := by
      intro e he hb
      rw [Array.all_eq_true'] at ha
      have h1 := ha e he
      simp [hb] at h1
      have hlt := edgesDown_spec hdown ho he hb
      have h2 : e.on < listed.size := by omega
      simpa [Array.getD, h2] using h1
    have hwt : ∀ j, j < ops.size → waits ops j i = true → listed.getD j true = false := by
      intro j hjs hw
      unfold waits at hw
      have hjo : ops[j]? = some ops[j] := Array.getElem?_eq_getElem hjs
      rw [hjo] at hw
      simp only [Array.any_eq_true', Bool.and_eq_true, decide_eq_true_eq] at hw
      obtain ⟨e, he, hb, hei⟩ := hw
      cases hlj : listed.getD j true with
      | false => rfl
      | true =>
        have := hI.closed j _ hjo hlj e he hb
        rw [hei, hni] at this
        cases this
    have hnext : ∀ v w', S (linksDone ops.size F (listed.setIfInBounds i true) (fun j => if j = i then v else vals j)) w' → (∀ u, (F i).val = some u → v = u) →
        wpAny P .any ops Q fuel (listed.setIfInBounds i true) ((fr vals).put ops[i].dst v) w' := by
      intro v w' hd hu
      rw [hput i _ ho]
      refine ih _ _ _ (by simpa using hs) hcount ⟨hd, ?_, ?_, ?_⟩
      · intro j u hj hlj hF
        rw [getD_set _ _ _ hil] at hlj
        by_cases hji : j = i
        · subst hji; simpa using hu u hF
        · rw [if_neg hji] at hlj
          simp only [if_neg hji]
          exact hI.free j u hj hlj hF
      · intro j hj hlj
        rw [getD_set _ _ _ hil] at hlj
        by_cases hji : j = i
        · rw [if_pos hji] at hlj; cases hlj
        · rw [if_neg hji] at hlj
          simp only [if_neg hji]
          exact hI.rest j hj hlj
      · intro j o hjo hlj e he hb
        rw [getD_set _ _ _ hil] at hlj ⊢
        by_cases hei : e.on = i
        · rw [if_pos hei]
        · rw [if_neg hei]
          by_cases hji : j = i
          · subst hji
            rw [ho] at hjo
            cases hjo
            exact hnd e he hb
          · rw [if_neg hji] at hlj
            exact hI.closed j o hjo hlj e he hb
    have hst := step i _ ho vals _ w hI.done (by
      intro e he hb
      have hlt := edgesDown_spec hdown ho (by simpa using he) hb
      have hle := hnd e (by simpa using he) hb
      refine ⟨fun v hv => hI.free e.on v (by omega) hle hv, fun hL => ?_⟩
      unfold linksDone
      rw [hle, hL, decide_eq_true (show e.on < ops.size by omega)]
      rfl) (fun j hjs hw => ⟨hI.rest j hjs (hwt j hjs hw), by unfold linksDone; rw [hwt j hjs hw]; simp⟩) (by unfold linksDone; rw [hni]; simp)
    have hkey : if Region.wanted ops[i] (yielded ops (fr vals).tmps) = true then ops[i].wp P (fr vals) w (fun a' w' => wpAny P .any ops Q fuel (listed.setIfInBounds i true) a' w') Q else wpAny P .any ops Q fuel (listed.setIfInBounds i true) ((fr vals).put ops[i].dst undef) w := by
      cases hF : F i with
      | free v =>
        simp only [hF] at hst
        refine hst _ (hnext v w ?_ ?_)
        · have e : linksDone ops.size F (listed.setIfInBounds i true) (fun j => if j = i then v else vals j) = linksDone ops.size F listed vals := by
            funext j
            unfold linksDone
            rw [getD_set _ _ _ hil]
            by_cases hji : j = i
            · subst hji
              rw [hF]
              simp [OpSort.isLink]
            · simp only [if_neg hji]
          rw [e]
          exact hI.done
        · intro u hu
          rw [hF] at hu
          simpa [OpSort.val] using hu
      | link u =>
        simp only [hF] at hst
        refine hst _ (fun v w' hv' hS' => hnext v w' ?_ ?_)
        · have e : linksDone ops.size F (listed.setIfInBounds i true) (fun j => if j = i then v else vals j) = fun j => if j = i then some v else linksDone ops.size F listed vals j := by
            funext j
            unfold linksDone
            rw [getD_set _ _ _ hil]
            by_cases hji : j = i
            · subst hji
              rw [hF]
              simp [OpSort.isLink, hio]
            · simp only [if_neg hji]
          rw [e]
          exact hS'
        · intro u' hu
          rw [hF] at hu
          exact hv' u' (by simpa [OpSort.val] using hu)
    unfold wpOp
    simp only [ho]
    split
    · rename_i hw
      rw [if_pos hw] at hkey
      exact .inl hkey
    · rename_i hw
      rw [if_neg hw] at hkey
      exact hkey

/-- THE REGION: the operations written out, their slots 'ds', what holds when some links are carried out ('S', over their values), the free ones' values ('FL'). -/
theorem wp_region_links {id : Nat} {l : List Oper} {a : Act} {w : World} (hm : P.follows .mixedOrders = true)
    (ds : List (Option Nat)) (hds : l.map (·.dst) = ds) (hnd : noTwice ds = true) (hlt : ∀ d, some d ∈ ds → d < a.tmps.size)
    (S : (Nat → Option Value) → World → Prop) (FL : List OpSort) (hdown : edgesDown l.toArray = true)
    (h0 : S (fun _ => none) w.drew)
    (step : ∀ vals : Nat → Value, AllOps (RelOpL P l.toArray Q S (fun i => FL.getD i (.link none)) (fun i => ((ds[i]?.bind fun x => x).bind (a.tmps[·]?)).getD undef) (frOfU a ds vals) vals) l 0)
    (fin : ∀ vals w', S (fun j => if decide (j < l.length) && (FL.getD j (.link none)).isLink then some (vals j) else none) w' → (∀ i v, i < l.length → (FL.getD i (.link none)).val = some v → vals i = v) → Q .normal (frOfU a ds vals) w') : (Code.region id l.toArray true).wp P Q a w := by
  have hdst : ∀ (i : Nat) (o : Oper), l[i]? = some o → ds[i]? = some o.dst := by
    intro i o ho
    rw [← hds]
    simp [ho]
  refine wp_region_any hm ?_
  have ha : a = frOfU a ds (fun i => ((ds[i]?.bind fun x => x).bind (a.tmps[·]?)).getD undef) := by
    unfold frOfU
    have : fillU (fun j => ((ds[j]?.bind fun x => x).bind (a.tmps[·]?)).getD undef) ds 0 a.tmps = a.tmps := by
      apply Array.ext_getElem?
      intro x
      by_cases hx : some x ∈ ds
      · obtain ⟨j, hj, hjx⟩ := List.getElem_of_mem hx
        have hd : ds[j]? = some (some x) := by rw [List.getElem?_eq_getElem hj, hjx]
        rw [fillU_at _ ds 0 a.tmps hnd hlt j _ hd, Nat.zero_add, hd]
        have hb := hlt x hx
        simp [Array.getElem?_eq_getElem hb]
      · exact fillU_other _ _ _ _ _ hx
    rw [this]
  have hput : ∀ i o, l.toArray[i]? = some o → ∀ vals v, (frOfU a ds vals).put o.dst v = frOfU a ds (fun j => if j = i then v else vals j) := by
    intro i o ho vals v
    have h1 := hdst i o (by simpa using ho)
    unfold frOfU Act.put
    cases h2 : o.dst with
    | none =>
      rw [h2] at h1
      simp only
      congr 1
      apply Array.ext_getElem?
      intro x
      by_cases hx : some x ∈ ds
      · obtain ⟨j, hj, hjx⟩ := List.getElem_of_mem hx
        have hd : ds[j]? = some (some x) := by rw [List.getElem?_eq_getElem hj, hjx]
        rw [fillU_at _ ds 0 a.tmps hnd hlt j _ hd, fillU_at _ ds 0 a.tmps hnd hlt j _ hd, Nat.zero_add]
        have hne : j ≠ i := by
          intro e
          subst e
          rw [h1] at hd
          cases hd
        rw [if_neg hne]
      · rw [fillU_other _ _ _ _ _ hx, fillU_other _ _ _ _ _ hx]
    | some d =>
      rw [h2] at h1
      simp only
      congr 1
      apply Array.ext_getElem?
      intro x
      have hd : d < a.tmps.size := hlt d (List.mem_of_getElem? h1)
      rw [Array.getElem?_setIfInBounds]
      by_cases hx : some x ∈ ds
      · obtain ⟨j, hj, hjx⟩ := List.getElem_of_mem hx
        have hdj : ds[j]? = some (some x) := by rw [List.getElem?_eq_getElem hj, hjx]
        rw [fillU_at _ ds 0 a.tmps hnd hlt j _ hdj, fillU_at _ ds 0 a.tmps hnd hlt j _ hdj, Nat.zero_add]
        by_cases e : j = i
        · subst e
          rw [h1] at hdj
          simp only [Option.some.injEq] at hdj
          rw [if_pos hdj, if_pos (by rw [fillU_size]; exact hdj ▸ hd), if_pos rfl]
        · have hne : d ≠ x := by
            intro e2
            subst e2
            exact e (noTwice_inj hnd hdj h1)
          rw [if_neg hne, if_neg e]
      · have hne : d ≠ x := fun e => hx (e ▸ List.mem_of_getElem? h1)
        rw [if_neg hne, fillU_other _ _ _ _ _ hx, fillU_other _ _ _ _ _ hx]
  have hfalse : ∀ i, i < l.toArray.size → ¬ (Array.replicate l.toArray.size false).getD i true = true := by
    intro i hi h
    have hi' : i < l.length := by simpa using hi
    simp [Array.getD, hi'] at h
  have hmain := wpAny_links (P := P) (ops := l.toArray) (Q := Q) (fr := frOfU a ds) hput (S := S) (F := fun i => FL.getD i (.link none)) (orig := fun i => ((ds[i]?.bind fun x => x).bind (a.tmps[·]?)).getD undef) hdown (by
      intro i o ho vals
      have := (step vals).get i o (by simpa using ho)
      rw [Nat.zero_add] at this
      exact this) (fun vals w h1 h2 => fin vals w (by simpa using h1) (fun i v hi => h2 i v (by simpa using hi))) l.toArray.size (Array.replicate l.toArray.size false) (fun i => ((ds[i]?.bind fun x => x).bind (a.tmps[·]?)).getD undef) w.drew (by simp) (by simp) ⟨?_, ?_, ?_, ?_⟩
  · rw [← ha] at hmain
    exact hmain
  · have e : linksDone l.toArray.size (fun i => FL.getD i (.link none)) (Array.replicate l.toArray.size false) (fun i => ((ds[i]?.bind fun x => x).bind (a.tmps[·]?)).getD undef) = fun _ => none := by
      funext j
      unfold linksDone
      by_cases hj : j < l.toArray.size
      · have := hfalse j hj
        rw [Bool.not_eq_true] at this
        rw [this, Bool.and_false]
        rfl
      · rw [decide_eq_false hj]
        rfl
    rw [e]
    exact h0
  · intro i v hi hl
    exact absurd hl (hfalse i hi)
  · intro i _ _
    rfl
  · intro i o ho hl
    exact absurd hl (hfalse i (Array.getElem?_eq_some_iff.1 ho).1)

end
end
end Go.Proofs.YtplipjijaaejlaaGreat
