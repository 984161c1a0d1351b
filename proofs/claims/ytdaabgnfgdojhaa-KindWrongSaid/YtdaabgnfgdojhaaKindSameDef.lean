/-
  Slices of texts compared; when two types are the same, as a plain function; the pairs of types that are still to be compared.
-/
import Derived.Test.YtdaabgnfgdojhaaKindCheck
namespace Go.Proofs.Ytdaabgnfgdojhaa
open Go.RowKit

set_option maxRecDepth 100000 in
set_option maxHeartbeats 4000000 in
theorem eqTexts_any (R : Nat → Prop) (l1 l2 : List Txt) (v1 v2 : Value) (w : World) (h1 : Texts R w l1 v1) (h2 : Texts R w l2 v2) :
    Calls Try.prog 44 #[v1, v2] w fun e w' => e = .returned (.bool (decide (l1 = l2))) ∧ Fr (fun _ => False) w w' := by
  have q1 : l1.length ≤ 1000 := h1.1
  have q2 : l2.length ≤ 1000 := h2.1
  obtain ⟨a1, c1, rfl, s1⟩ := h1.shape
  obtain ⟨a2, c2, rfl, s2⟩ := h2.shape
  have S1 := Lib.hid s1
  have S2 := Lib.hid s2
  clear s1 s2 h1 h2
  by_cases hl : l1.length = l2.length
  · have HL := Lib.hid hl
    clear hl
    obtain ⟨n, hn⟩ : ∃ n, n = l1.length := ⟨_, rfl⟩
    have HN := Lib.hid hn
    rw [← HL.out, ← hn]
    clear hn
    have hn1 : n ≤ 1000 := by rw [HN.out]; exact q1
    clear q1 q2
    go_enter Try.func44, Try.ntmps44
    go_wp2
    go_loopg [5, 13] n (fun G u5 u13 wr => ∃ k : Nat, k ≤ n ∧ G = n - k ∧ u13 = .int .i64 k ∧ Hid ((∀ j, j < k → l1[j]? = l2[j]?) ∧ Fr (fun _ => False) w wr))
    case atStart => exact ⟨0, Nat.zero_le _, rfl, by go_num, Lib.hid ⟨fun j hj => by omega, Fr.refl _ _⟩⟩
    case round =>
      obtain ⟨k, hk, rfl, rfl, HI⟩ := hrel
      by_cases hlt : k < n
      · obtain ⟨d1, hd1⟩ : ∃ d, l1[k]? = some d := ⟨l1[k]'(by rw [← HN.out]; exact hlt), List.getElem?_eq_getElem _⟩
        obtain ⟨d2, hd2⟩ : ∃ d, l2[k]? = some d := ⟨l2[k]'(by rw [← HL.out, ← HN.out]; exact hlt), List.getElem?_eq_getElem _⟩
        rcases S1.out with hz | ⟨hc1, g1, o1, _, rfl, e1⟩
        · have := HN.out; omega
        rcases S2.out with hz | ⟨hc2, g2, o2, _, rfl, e2⟩
        · have := HN.out; have := HL.out; omega
        have e1 := cell_fr (R := fun _ => True) HI.out.2 (fun _ _ h => h) trivial (e1 k d1 hd1)
        have e2 := cell_fr (R := fun _ => True) HI.out.2 (fun _ _ h => h) trivial (e2 k d2 hd2)
        unfold sv at e1 e2
        have HD := Lib.hid (And.intro hd1 hd2)
        clear hd1 hd2 hc1 hc2
        have i1 : (k : Int) < (n : Int) := by omega
        by_cases he : d1 = d2
        · have b1 : (d1 == d2) = true := by simpa using he
          have b2 : (d1 != d2) = false := by unfold bne; rw [b1]; rfl
          have HE := Lib.hid he
          clear he
          go_wp2
          go_quiet (fail)
          go_wp2
          go_roundg (n - (k + 1))
          case measure => omega
          case rel => exact ⟨k + 1, by omega, rfl, by go_num, Lib.hid ⟨fun j hj => by
            by_cases h : j < k
            · exact HI.out.1 j h
            · obtain rfl : j = k := by omega
              rw [HD.out.1, HD.out.2, HE.out], HI.out.2.drewN _⟩⟩
        · have b1 : (d1 == d2) = false := by simpa using he
          have b2 : (d1 != d2) = true := by unfold bne; rw [b1]; rfl
          have HE := Lib.hid he
          clear he
          go_wp2
          go_quiet (fail)
          go_wp2
          go_ret
          refine ⟨ret_bool ?_, HI.out.2.drewN _⟩
          symm
          apply decide_eq_false
          intro e
          have := HD.out.1
          rw [e, HD.out.2] at this
          exact HE.out (by injection this with this; exact this.symm)
      · obtain rfl : k = n := by omega
        go_wp2
        go_ret
        refine ⟨ret_bool ?_, HI.out.2⟩
        symm
        apply decide_eq_true
        apply List.ext_getElem?
        intro j
        by_cases h : j < k
        · exact HI.out.1 j h
        · rw [List.getElem?_eq_none (by rw [← HN.out]; omega), List.getElem?_eq_none (by rw [← HL.out, ← HN.out]; omega)]
  · have b1 : ((l1.length : Int) == (l2.length : Int)) = false := by simp; omega
    have b2 : ((l1.length : Int) != (l2.length : Int)) = true := by unfold bne; rw [b1]; rfl
    have HL := Lib.hid hl
    clear hl
    go_enter Try.func44, Try.ntmps44
    go_wp2
    go_ret
    refine ⟨ret_bool ?_, Fr.refl _ _⟩
    symm
    apply decide_eq_false
    intro e
    exact HL.out (by rw [e])

theorem plain_add (g j : Nat) : (⟨g, 0, none⟩ : Addr).add j = ⟨g, j, none⟩ := by unfold Addr.add; split <;> simp_all

/-- Are two types the same? -/
def sameE : KT → KT → Bool
  | .mk k m ns n of, .mk k' m' ns' n' of' => decide (k = k') && decide (m = m') && decide (ns = ns') && decide (n = n') && (List.range n).all (fun i => sameE (of i) (of' i))
  | .mk _ _ _ _ _, .nil => false
  | .nil, _ => false

/-- How many types there are in one. -/
def sz : KT → Nat
  | .nil => 1
  | .mk _ _ _ n of => 1 + ((List.range n).map fun i => sz (of i)).sum

theorem sz_pos (t : KT) : 1 ≤ sz t := by cases t <;> simp [sz]

/-- How many types there are in the pairs' first ones. -/
def szAll (ps : List (KT × KT)) : Nat := (ps.map fun p => sz p.1).sum

theorem szAll_append (ps qs : List (KT × KT)) : szAll (ps ++ qs) = szAll ps + szAll qs := by simp [szAll]

theorem szAll_length (ps : List (KT × KT)) : ps.length ≤ szAll ps := by
  induction ps with
  | nil => simp
  | cons p ps ih =>
    have := sz_pos p.1
    unfold szAll at *
    simp only [List.map_cons, List.sum_cons, List.length_cons]
    omega

/-- The pairs of the first j parts of two types. -/
def partsOf (of of' : Nat → KT) (j : Nat) : List (KT × KT) := (List.range j).map fun i => (of i, of' i)

theorem partsOf_succ (of of' : Nat → KT) (j : Nat) : partsOf of of' (j + 1) = partsOf of of' j ++ [(of j, of' j)] := by
  unfold partsOf; rw [List.range_succ, List.map_append]; rfl

theorem partsOf_sz (k : Nat) (m : Int) (ns : List Txt) (n : Nat) (of of' : Nat → KT) : szAll (partsOf of of' n) + 1 = sz (.mk k m ns n of) := by
  unfold partsOf szAll
  rw [sz, List.map_map]
  have : ((fun p : KT × KT => sz p.1) ∘ fun i => (of i, of' i)) = fun i => sz (of i) := rfl
  rw [this]
  omega

theorem partsOf_mono (of of' : Nat → KT) (j n : Nat) (h : j ≤ n) : szAll (partsOf of of' j) ≤ szAll (partsOf of of' n) := by
  induction n with
  | zero => obtain rfl : j = 0 := by omega
            exact Nat.le_refl _
  | succ n ih =>
    by_cases e : j = n + 1
    · subst e; exact Nat.le_refl _
    · rw [partsOf_succ, szAll_append]
      have := ih (by omega)
      omega

theorem sameE_parts (k : Nat) (m : Int) (ns : List Txt) (n : Nat) (of of' : Nat → KT) : sameE (.mk k m ns n of) (.mk k m ns n of') = (partsOf of of' n).all fun p => sameE p.1 p.2 := by
  rw [sameE]
  simp only [decide_true, Bool.true_and]
  unfold partsOf
  rw [List.all_map]
  rfl

/-- The slice v owns a row of pairs of types alone. -/
def PairRow (B : Nat) (R : Nat → Prop) (w : World) (v : Value) (ps : List (KT × KT)) : Prop :=
  ∃ cs : List Value, w.ownsRow B 96 8 v ps.length cs ∧ ∀ i p, ps[i]? = some p → ∃ x0 x1 x2 x3 y0 y1 y2 y3,
    (∀ j u, [x0, x1, x2, x3, y0, y1, y2, y3][j]? = some u → cs[i * 8 + j]? = some u) ∧ Shows R w p.1 (.agg #[x0, x1, x2, x3]) ∧ Shows R w p.2 (.agg #[y0, y1, y2, y3])

theorem PairRow.fr {B : Nat} {R S : Nat → Prop} {w w' : World} {v : Value} {ps : List (KT × KT)} (h : PairRow B R w v ps) (f : Fr S w w') (hR : ∀ k, R k → ¬ S k) (hv : ∀ k, v.ownBlock = some k → ¬ S k) : PairRow B R w' v ps := by
  obtain ⟨cs, h1, h2⟩ := h
  refine ⟨cs, ownsRow_fr h1 f hv, fun i p hi => ?_⟩
  obtain ⟨x0, x1, x2, x3, y0, y1, y2, y3, a, hx, hy⟩ := h2 i p hi
  exact ⟨x0, x1, x2, x3, y0, y1, y2, y3, a, Shows.fr f hR _ _ hx, Shows.fr f hR _ _ hy⟩

theorem PairRow_own {B : Nat} {R : Nat → Prop} {w : World} {v : Value} {ps : List (KT × KT)} (h : PairRow B R w v ps) : w.ownsRow B 96 8 v ps.length h.choose := h.choose_spec.1

/-- All but the last pair. -/
theorem PairRow.pop {B : Nat} {R : Nat → Prop} {w : World} {a : Option Addr} {n c : Nat} {qs : List (KT × KT)} {p : KT × KT} (h : PairRow B R w (.slice a n c) (qs ++ [p])) : PairRow B R w (.slice a qs.length c) qs := by
  obtain ⟨cs, h1, h2⟩ := h
  have hl := h1.1
  rw [List.length_append] at hl
  refine ⟨cs.take (qs.length * 8), ⟨by rw [List.length_take]; simp at hl; omega, ?_⟩, fun i q hi => ?_⟩
  · rcases h1.2 with ⟨e, h0⟩ | ⟨g, cap, cur, e, hb, hg, hle, hm, hs, ht⟩
    · simp at h0
    · cases e
      rw [List.length_append] at hle ht
      simp only [List.length_singleton] at hle ht
      refine .inr ⟨g, c, cur, rfl, hb, hg, by omega, hm, hs, ?_⟩
      rw [← ht, List.take_take]
      congr 1
      omega
  · have hq := (List.getElem?_eq_some_iff.1 hi).1
    obtain ⟨x0, x1, x2, x3, y0, y1, y2, y3, a, hx, hy⟩ := h2 i q (by rw [List.getElem?_append_left hq]; exact hi)
    refine ⟨x0, x1, x2, x3, y0, y1, y2, y3, fun j u hj => ?_, hx, hy⟩
    have hj8 : j < 8 := (List.getElem?_eq_some_iff.1 hj).1
    rw [List.getElem?_take, if_pos (by omega)]
    exact a j u hj

/-- One pair more. -/
theorem PairRow.push {B : Nat} {R : Nat → Prop} {w w' : World} {v v' : Value} {ps : List (KT × KT)} {a b : KT} {cs : List Value} {x0 x1 x2 x3 y0 y1 y2 y3 : Value} {n : Nat}
    (h2 : ∀ i p, ps[i]? = some p → ∃ x0 x1 x2 x3 y0 y1 y2 y3, (∀ j u, [x0, x1, x2, x3, y0, y1, y2, y3][j]? = some u → cs[i * 8 + j]? = some u) ∧ Shows R w p.1 (.agg #[x0, x1, x2, x3]) ∧ Shows R w p.2 (.agg #[y0, y1, y2, y3]))
    (hl : cs.length = ps.length * 8) (hn : n = ps.length + 1) (ho : w'.ownsRow B 96 8 v' n (cs ++ [x0, x1, x2, x3, y0, y1, y2, y3])) (f : Fr (fun k => v.ownBlock = some k) w w') (hR : ∀ k, R k → v.ownBlock ≠ some k)
    (hx : Shows R w a (.agg #[x0, x1, x2, x3])) (hy : Shows R w b (.agg #[y0, y1, y2, y3])) : PairRow B R w' v' (ps ++ [(a, b)]) := by
  refine ⟨cs ++ [x0, x1, x2, x3, y0, y1, y2, y3], by rw [List.length_append]; simpa [hn] using ho, fun i p hi => ?_⟩
  by_cases hlt : i < ps.length
  · rw [List.getElem?_append_left hlt] at hi
    obtain ⟨z0, z1, z2, z3, u0, u1, u2, u3, q, hz, hu⟩ := h2 i p hi
    refine ⟨z0, z1, z2, z3, u0, u1, u2, u3, fun j u hj => ?_, Shows.fr f (fun k hk => hR k hk) _ _ hz, Shows.fr f (fun k hk => hR k hk) _ _ hu⟩
    have hj8 : j < 8 := (List.getElem?_eq_some_iff.1 hj).1
    rw [List.getElem?_append_left (by omega)]
    exact q j u hj
  · have hi' := (List.getElem?_eq_some_iff.1 hi).1
    obtain rfl : i = ps.length := by simp at hi'; omega
    rw [List.getElem?_append_right (Nat.le_refl _)] at hi
    simp at hi
    subst hi
    refine ⟨x0, x1, x2, x3, y0, y1, y2, y3, fun j u hj => ?_, Shows.fr f (fun k hk => hR k hk) _ _ hx, Shows.fr f (fun k hk => hR k hk) _ _ hy⟩
    rw [List.getElem?_append_right (by omega), hl, Nat.add_sub_cancel_left]
    exact hj

end Go.Proofs.Ytdaabgnfgdojhaa
