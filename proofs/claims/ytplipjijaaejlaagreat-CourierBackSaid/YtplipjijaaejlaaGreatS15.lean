/-
  CouBack, part 15 of what it rests on: Val.
-/
import Derived.Test.YtplipjijaaejlaaGreatS13
import Derived.Test.YtplipjijaaejlaaGreatS14
set_option linter.unusedVariables false
set_option linter.unusedSimpArgs false
set_option maxHeartbeats 64000000
namespace Go.Proofs.YtplipjijaaejlaaGreat
open Go.RowKit
open Go.Lib (hid)
section
theorem run_store_float (P : Program) (w : World) (a : Addr) (m : Mode) (k : FloatKind) (b : Nat) : (store a (.float k b) m).run P w = stored P w a (.float k b) m := run_store P w a _ m rfl

/-- A value: its number, its float's word, its text, how many values it consists of, and which ('nil' stands for those that there aren't). -/
inductive VT where
  | nil
  | mk (n : Int) (f : Nat) (s : Txt) (c : Nat) (of : Nat → VT)

/-- The numbers in bounds. -/
def VB (n : Int) (f : Nat) (s : Txt) (c : Nat) : Prop := -9223372036854775808 ≤ n ∧ n ≤ 9223372036854775807 ∧ f < 18446744073709551616 ∧ s.length ≤ maxLen ∧ c ≤ 100000

/-- The value v shows the value t, in memory of R. -/
def VShows (R : Nat → Prop) (w : World) : VT → Value → Prop
  | .nil, _ => False
  | .mk n f s c of, v => ∃ vo, v = .agg #[.int .i64 n, .float .f64 f, sv s, vo] ∧ VB n f s c ∧
    ((c = 0 ∧ ∃ a cap, vo = .slice a 0 cap) ∨
     ∃ g off cap, R g ∧ vo = .slice (some ⟨g, off, none⟩) c cap ∧ c ≤ cap ∧ ∀ i, i < c → ∃ x0 x1 x2 x3,
      w.cell? ⟨g, off + i * 4, none⟩ = some x0 ∧ w.cell? ⟨g, off + i * 4 + 1, none⟩ = some x1 ∧ w.cell? ⟨g, off + i * 4 + 2, none⟩ = some x2 ∧ w.cell? ⟨g, off + i * 4 + 3, none⟩ = some x3 ∧
      VShows R w (of i) (.agg #[x0, x1, x2, x3]))

/-- The parts of a value, in memory. -/
def VKids (R : Nat → Prop) (w : World) (of : Nat → VT) (a : Option Addr) (c cap : Nat) : Prop :=
  c = 0 ∨ c ≤ cap ∧ ∃ g off, R g ∧ a = some ⟨g, off, none⟩ ∧ ∀ i, i < c → ∃ x0 x1 x2 x3,
      w.cell? ⟨g, off + i * 4, none⟩ = some x0 ∧ w.cell? ⟨g, off + i * 4 + 1, none⟩ = some x1 ∧ w.cell? ⟨g, off + i * 4 + 2, none⟩ = some x2 ∧ w.cell? ⟨g, off + i * 4 + 3, none⟩ = some x3 ∧
      VShows R w (of i) (.agg #[x0, x1, x2, x3])

theorem VShows.fr {R S : Nat → Prop} {w w' : World} (hf : Fr S w w') (hS : ∀ k, R k → ¬ S k) (t : VT) : ∀ v, VShows R w t v → VShows R w' t v := by
  induction t with
  | nil => exact fun _ h => h.elim
  | mk n f s c of ih =>
    rintro v ⟨vo, rfl, hb, ho⟩
    refine ⟨vo, rfl, hb, ?_⟩
    rcases ho with h | ⟨g, off, cap, hg, rfl, hle, hc⟩
    · exact .inl h
    · refine .inr ⟨g, off, cap, hg, rfl, hle, fun i hi => ?_⟩
      obtain ⟨x0, x1, x2, x3, c0, c1, c2, c3, hx⟩ := hc i hi
      exact ⟨x0, x1, x2, x3, cell_fr hf hS hg c0, cell_fr hf hS hg c1, cell_fr hf hS hg c2, cell_fr hf hS hg c3, ih i _ hx⟩

theorem VShows.mono {R S : Nat → Prop} {w : World} (hS : ∀ k, k < w.heap.size → R k → S k) (t : VT) : ∀ v, VShows R w t v → VShows S w t v := by
  induction t with
  | nil => exact fun _ h => h.elim
  | mk n f s c of ih =>
    rintro v ⟨vo, rfl, hb, ho⟩
    refine ⟨vo, rfl, hb, ?_⟩
    rcases ho with h | ⟨g, off, cap, hg, rfl, hle, hc⟩
    · exact .inl h
    · cases c with
      | zero => exact .inl ⟨rfl, _, _, rfl⟩
      | succ c =>
        refine .inr ⟨g, off, cap, ?_, rfl, hle, fun i hi => ?_⟩
        · obtain ⟨x0, x1, x2, x3, c0, _⟩ := hc 0 (by omega)
          exact hS g (World.block_lt_of_cell? w _ c0) hg
        · obtain ⟨x0, x1, x2, x3, c0, c1, c2, c3, hx⟩ := hc i hi
          exact ⟨x0, x1, x2, x3, c0, c1, c2, c3, ih i _ hx⟩

theorem VKids.fr {R S : Nat → Prop} {w w' : World} {of : Nat → VT} {a' : Option Addr} {n c' : Nat} (h : VKids R w of a' n c') (hf : Fr S w w') (hS : ∀ k, R k → ¬ S k) : VKids R w' of a' n c' := by
  rcases h with h | ⟨h1, g, off, hg, rfl, hc⟩
  · exact .inl h
  · refine .inr ⟨h1, g, off, hg, rfl, fun i hi => ?_⟩
    obtain ⟨x0, x1, x2, x3, c0, c1, c2, c3, hx⟩ := hc i hi
    exact ⟨x0, x1, x2, x3, cell_fr hf hS hg c0, cell_fr hf hS hg c1, cell_fr hf hS hg c2, cell_fr hf hS hg c3, VShows.fr hf hS _ _ hx⟩

/-- A value's value, opened. -/
theorem vshows_open {R : Nat → Prop} {w : World} {t : VT} {v : Value} (h : VShows R w t v) :
    ∃ (n : Int) (f : Nat) (s : Txt) (c : Nat) (of : Nat → VT) (a : Option Addr) (cap : Nat), t = .mk n f s c of ∧ v = .agg #[.int .i64 n, .float .f64 f, sv s, .slice a c cap] ∧ VB n f s c ∧ VKids R w of a c cap := by
  cases t with
  | nil => exact h.elim
  | mk n f s c of =>
    obtain ⟨vo, rfl, hb, ho⟩ := h
    rcases ho with ⟨rfl, a, cap, rfl⟩ | ⟨g, off, cap, hg, rfl, hle, hc⟩
    · exact ⟨n, f, s, 0, of, a, cap, rfl, rfl, hb, .inl rfl⟩
    · exact ⟨n, f, s, c, of, _, cap, rfl, rfl, hb, .inr ⟨hle, g, off, hg, rfl, hc⟩⟩

/-- A value's value, out of its parts. -/
theorem vshows_mk {R : Nat → Prop} {w : World} {n : Int} {f : Nat} {s : Txt} {c : Nat} {of : Nat → VT} {a : Option Addr} {cap : Nat} (hb : VB n f s c) (hk : VKids R w of a c cap) : VShows R w (.mk n f s c of) (.agg #[.int .i64 n, .float .f64 f, sv s, .slice a c cap]) := by
  refine ⟨_, rfl, hb, ?_⟩
  rcases hk with rfl | ⟨hle, g, off, hg, rfl, hc⟩
  · exact .inl ⟨rfl, a, cap, rfl⟩
  · exact .inr ⟨g, off, cap, hg, rfl, hle, hc⟩

/-- A value's four cells, as literals. -/
theorem VShows.lit {R : Nat → Prop} {w : World} {t : VT} {v : Value} (h : VShows R w t v) :
    ∃ (n : Int) (f : Nat) (s : ByteArray) (a : Option Addr) (c cap : Nat), v = .agg #[.int .i64 n, .float .f64 f, .string s, .slice a c cap] := by
  obtain ⟨n, f, s, c, of, a, cap, _, rfl, _⟩ := vshows_open h
  exact ⟨n, f, _, a, c, cap, rfl⟩

/-- Are two values the same? -/
def sameV : VT → VT → Bool
  | .mk n f s c of, .mk n' f' s' c' of' => decide (n = n') && decide (Fl.canon f = Fl.canon f') && decide (s = s') && decide (c = c') && (List.range c).all (fun i => sameV (of i) (of' i))
  | .mk _ _ _ _ _, .nil => false
  | .nil, _ => false

/-- How many values there are in one. -/
def szV : VT → Nat
  | .nil => 1
  | .mk _ _ _ c of => 1 + ((List.range c).map fun i => szV (of i)).sum

theorem szV_pos (t : VT) : 1 ≤ szV t := by cases t <;> simp [szV]

def szVs (ps : List (VT × VT)) : Nat := (ps.map fun p => szV p.1).sum

theorem szVs_append (ps qs : List (VT × VT)) : szVs (ps ++ qs) = szVs ps + szVs qs := by simp [szVs]

theorem szVs_length (ps : List (VT × VT)) : ps.length ≤ szVs ps := by
  induction ps with
  | nil => simp
  | cons p ps ih =>
    have := szV_pos p.1
    unfold szVs at *
    simp only [List.map_cons, List.sum_cons, List.length_cons]
    omega

/-- The pairs of the first j parts of two values. -/
def vparts (of of' : Nat → VT) (j : Nat) : List (VT × VT) := (List.range j).map fun i => (of i, of' i)

theorem vparts_succ (of of' : Nat → VT) (j : Nat) : vparts of of' (j + 1) = vparts of of' j ++ [(of j, of' j)] := by
  unfold vparts; rw [List.range_succ, List.map_append]; rfl

theorem vparts_sz (n : Int) (f : Nat) (s : Txt) (c : Nat) (of of' : Nat → VT) : szVs (vparts of of' c) + 1 = szV (.mk n f s c of) := by
  unfold vparts szVs
  rw [szV, List.map_map]
  have : ((fun p : VT × VT => szV p.1) ∘ fun i => (of i, of' i)) = fun i => szV (of i) := rfl
  rw [this]
  omega

theorem vparts_mono (of of' : Nat → VT) (j n : Nat) (h : j ≤ n) : szVs (vparts of of' j) ≤ szVs (vparts of of' n) := by
  induction n with
  | zero => obtain rfl : j = 0 := by omega
            exact Nat.le_refl _
  | succ n ih =>
    by_cases e : j = n + 1
    · subst e; exact Nat.le_refl _
    · rw [vparts_succ, szVs_append]
      have := ih (by omega)
      omega

theorem sameV_parts (n : Int) (f f' : Nat) (s : Txt) (c : Nat) (of of' : Nat → VT) (h : Fl.canon f = Fl.canon f') : sameV (.mk n f s c of) (.mk n f' s c of') = (vparts of of' c).all fun p => sameV p.1 p.2 := by
  rw [sameV, decide_eq_true h]
  simp only [decide_true, Bool.true_and]
  unfold vparts
  rw [List.all_map]
  rfl

theorem sameV_refl : ∀ R w t v, VShows R w t v → sameV t t = true := by
  intro R w t
  induction t with
  | nil => exact fun _ h => h.elim
  | mk n f s c of ih =>
    intro v h
    rw [sameV_parts _ _ _ _ _ _ _ rfl]
    simp only [vparts, List.all_map, List.all_eq_true, List.mem_range, Function.comp]
    intro i hi
    obtain ⟨_, _, _, _, _, _, _, e, rfl, _, hk⟩ := vshows_open h
    cases e
    rcases hk with rfl | ⟨_, _, _, _, _, hc⟩
    · omega
    · obtain ⟨_, _, _, _, _, _, _, _, hx⟩ := hc i hi
      exact ih i _ hx

/-- The slice v owns a row of pairs of values alone. -/
def VPairRow (B : Nat) (R : Nat → Prop) (w : World) (v : Value) (ps : List (VT × VT)) : Prop :=
  ∃ cs : List Value, w.ownsRow B 90 8 v ps.length cs ∧ ∀ i p, ps[i]? = some p → ∃ x0 x1 x2 x3 y0 y1 y2 y3,
    (∀ j u, [x0, x1, x2, x3, y0, y1, y2, y3][j]? = some u → cs[i * 8 + j]? = some u) ∧ VShows R w p.1 (.agg #[x0, x1, x2, x3]) ∧ VShows R w p.2 (.agg #[y0, y1, y2, y3])

theorem VPairRow.fr {B : Nat} {R S : Nat → Prop} {w w' : World} {v : Value} {ps : List (VT × VT)} (h : VPairRow B R w v ps) (f : Fr S w w') (hR : ∀ k, R k → ¬ S k) (hv : ∀ k, v.ownBlock = some k → ¬ S k) : VPairRow B R w' v ps := by
  obtain ⟨cs, h1, h2⟩ := h
  refine ⟨cs, ownsRow_fr h1 f hv, fun i p hi => ?_⟩
  obtain ⟨x0, x1, x2, x3, y0, y1, y2, y3, a, hx, hy⟩ := h2 i p hi
  exact ⟨x0, x1, x2, x3, y0, y1, y2, y3, a, VShows.fr f hR _ _ hx, VShows.fr f hR _ _ hy⟩

theorem VPairRow_own {B : Nat} {R : Nat → Prop} {w : World} {v : Value} {ps : List (VT × VT)} (h : VPairRow B R w v ps) : w.ownsRow B 90 8 v ps.length h.choose := h.choose_spec.1

/-- All but the last pair. -/
theorem VPairRow.pop {B : Nat} {R : Nat → Prop} {w : World} {a : Option Addr} {n c : Nat} {qs : List (VT × VT)} {p : VT × VT} (h : VPairRow B R w (.slice a n c) (qs ++ [p])) : VPairRow B R w (.slice a qs.length c) qs := by
  obtain ⟨cs, h1, h2⟩ := h
  have hl := h1.1
  rw [List.length_append] at hl
  refine ⟨cs.take (qs.length * 8), ⟨by rw [List.length_take]; simp at hl; omega, ?_⟩, fun i q hi => ?_⟩
  · rcases h1.2 with ⟨e, h0⟩ | ⟨g, cap, cur, e, hb, hg, hle, hm, hs, ht⟩
    · simp at h0
    · cases e
      rw [List.length_append] at hle ht
      simp only [List.length_singleton] at hle ht
      refine .inr ⟨g, c, cur, rfl, hb, hg, by omega, hm, hs, ?_⟩
      rw [← ht, List.take_take]
      congr 1
      omega
  · have hq := (List.getElem?_eq_some_iff.1 hi).1
    obtain ⟨x0, x1, x2, x3, y0, y1, y2, y3, a, hx, hy⟩ := h2 i q (by rw [List.getElem?_append_left hq]; exact hi)
    refine ⟨x0, x1, x2, x3, y0, y1, y2, y3, fun j u hj => ?_, hx, hy⟩
    have hj8 : j < 8 := (List.getElem?_eq_some_iff.1 hj).1
    rw [List.getElem?_take, if_pos (by omega)]
    exact a j u hj

/-- One pair more. -/
theorem VPairRow.push {B : Nat} {R : Nat → Prop} {w w' : World} {v v' : Value} {ps : List (VT × VT)} {a b : VT} {cs : List Value} {x0 x1 x2 x3 y0 y1 y2 y3 : Value} {n : Nat}
    (h2 : ∀ i p, ps[i]? = some p → ∃ x0 x1 x2 x3 y0 y1 y2 y3, (∀ j u, [x0, x1, x2, x3, y0, y1, y2, y3][j]? = some u → cs[i * 8 + j]? = some u) ∧ VShows R w p.1 (.agg #[x0, x1, x2, x3]) ∧ VShows R w p.2 (.agg #[y0, y1, y2, y3]))
    (hl : cs.length = ps.length * 8) (hn : n = ps.length + 1) (ho : w'.ownsRow B 90 8 v' n (cs ++ [x0, x1, x2, x3, y0, y1, y2, y3])) (f : Fr (fun k => v.ownBlock = some k) w w') (hR : ∀ k, R k → v.ownBlock ≠ some k)
    (hx : VShows R w a (.agg #[x0, x1, x2, x3])) (hy : VShows R w b (.agg #[y0, y1, y2, y3])) : VPairRow B R w' v' (ps ++ [(a, b)]) := by
  refine ⟨cs ++ [x0, x1, x2, x3, y0, y1, y2, y3], by rw [List.length_append]; simpa [hn] using ho, fun i p hi => ?_⟩
  by_cases hlt : i < ps.length
  · rw [List.getElem?_append_left hlt] at hi
    obtain ⟨z0, z1, z2, z3, u0, u1, u2, u3, q, hz, hu⟩ := h2 i p hi
    refine ⟨z0, z1, z2, z3, u0, u1, u2, u3, fun j u hj => ?_, VShows.fr f (fun k hk => hR k hk) _ _ hz, VShows.fr f (fun k hk => hR k hk) _ _ hu⟩
    have hj8 : j < 8 := (List.getElem?_eq_some_iff.1 hj).1
    rw [List.getElem?_append_left (by omega)]
    exact q j u hj
  · have hi' := (List.getElem?_eq_some_iff.1 hi).1
    obtain rfl : i = ps.length := by simp at hi'; omega
    rw [List.getElem?_append_right (Nat.le_refl _)] at hi
    simp at hi
    subst hi
    refine ⟨x0, x1, x2, x3, y0, y1, y2, y3, fun j u hj => ?_, VShows.fr f (fun k hk => hR k hk) _ _ hx, VShows.fr f (fun k hk => hR k hk) _ _ hy⟩
    rw [List.getElem?_append_right (by omega), hl, Nat.add_sub_cancel_left]
    exact hj

/-- Values as items of a row. -/
def vShown : Shown VT where
  sh R w t xs := ∃ x0 x1 x2 x3, xs = [x0, x1, x2, x3] ∧ VShows R w t (.agg #[x0, x1, x2, x3])
  fr := by
    rintro R S w w' x xs ⟨x0, x1, x2, x3, rfl, h⟩ f hS
    exact ⟨x0, x1, x2, x3, rfl, VShows.fr f hS _ _ h⟩
  mono := by
    rintro R S w x xs ⟨x0, x1, x2, x3, rfl, h⟩ hS
    exact ⟨x0, x1, x2, x3, rfl, VShows.mono hS _ _ h⟩

/-- A row of values as a value's parts. -/
theorem ItRow.vkids {B : Nat} {X : Nat → Prop} {w : World} {a : Option Addr} {n cap : Nat} {ts : List VT} (h : ItRow vShown 39 4 B X w (.slice a n cap) ts) (of : Nat → VT) (hof : ∀ i x, ts[i]? = some x → of i = x) :
    VKids (fun k => B ≤ k) w of a n cap := by
  rcases h.cells with ⟨rfl, a', c, h4⟩ | ⟨g, cap', hg, e, hle, hc⟩
  · cases h4; exact .inl rfl
  · cases e
    refine .inr ⟨hle, g, 0, hg.1, rfl, fun i hi => ?_⟩
    obtain ⟨xs, _, hc, x0, x1, x2, x3, rfl, hx⟩ := hc i ts[i] (List.getElem?_eq_getElem hi)
    refine ⟨x0, x1, x2, x3, hc 0 _ rfl, hc 1 _ rfl, hc 2 _ rfl, hc 3 _ rfl, ?_⟩
    rw [hof i _ (List.getElem?_eq_getElem hi)]
    exact VShows.mono (fun k _ h => h.1) _ _ hx

theorem realSame_eq (a b : Nat) (w : World) (h : Fl.canon a = Fl.canon b) : Calls Tryz.prog 36 #[.float .f64 a, .float .f64 b] w fun e w' => e = .returned (.bool true) ∧ w = w' := by
  have := rsame_any a b w
  rw [show ((Fl.canon a : Int) == Fl.canon b) = true by simp [h]] at this
  exact this

theorem realSame_ne (a b : Nat) (w : World) (h : ¬ Fl.canon a = Fl.canon b) : Calls Tryz.prog 36 #[.float .f64 a, .float .f64 b] w fun e w' => e = .returned (.bool false) ∧ w = w' := by
  have := rsame_any a b w
  rw [show ((Fl.canon a : Int) == Fl.canon b) = false by simp; omega] at this
  exact this
end
end Go.Proofs.YtplipjijaaejlaaGreat
