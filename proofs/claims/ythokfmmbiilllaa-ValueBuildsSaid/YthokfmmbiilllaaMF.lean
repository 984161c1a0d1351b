/-
  Values as plain trees; a value's value in memory; when two are the same; the pairs of values that are still to be compared.
-/
import Derived.Test.YthokfmmbiilllaaMD
import Derived.Test.YthokfmmbiilllaaMA
import Derived.Test.YthokfmmbiilllaaMC
import Derived.BigRegion
import Derived.IntWalk
import Derived.Deep.Cut
import Derived.Deep.CutRange
import Derived.Deep.OwnRows
import Derived.Deep.QuietTactic
import Derived.BigQuiet
set_option linter.unusedSimpArgs false
set_option linter.unusedVariables false
namespace Go.Proofs.Ythokfmmbiilllaa
open Go.RowKit

theorem run_store_float (P : Program) (w : World) (a : Addr) (m : Mode) (k : FloatKind) (b : Nat) : (store a (.float k b) m).run P w = stored P w a (.float k b) m := run_store P w a _ m rfl

/-- A value: its number, its float's word, its text, how many values it consists of, and which ('nil' stands for those that there aren't). -/
inductive VT where
  | nil
  | mk (n : Int) (f : Nat) (s : Txt) (c : Nat) (of : Nat → VT)

/-- The numbers in bounds. -/
def VB (n : Int) (f : Nat) (s : Txt) (c : Nat) : Prop := -9223372036854775808 ≤ n ∧ n ≤ 9223372036854775807 ∧ f < 18446744073709551616 ∧ s.length ≤ maxLen ∧ c ≤ 100000

/-- The value v shows the value t, in memory of R. -/
def VShows (R : Nat → Prop) (w : World) : VT → Value → Prop
  | .nil, _ => False
  | .mk n f s c of, v => ∃ vo, v = .agg #[.int .i64 n, .float .f64 f, sv s, vo] ∧ VB n f s c ∧
    ((c = 0 ∧ ∃ a cap, vo = .slice a 0 cap) ∨
     ∃ g off cap, R g ∧ vo = .slice (some ⟨g, off, none⟩) c cap ∧ c ≤ cap ∧ ∀ i, i < c → ∃ x0 x1 x2 x3,
      w.cell? ⟨g, off + i * 4, none⟩ = some x0 ∧ w.cell? ⟨g, off + i * 4 + 1, none⟩ = some x1 ∧ w.cell? ⟨g, off + i * 4 + 2, none⟩ = some x2 ∧ w.cell? ⟨g, off + i * 4 + 3, none⟩ = some x3 ∧
      VShows R w (of i) (.agg #[x0, x1, x2, x3]))

/-- The parts of a value, in memory. -/
def VKids (R : Nat → Prop) (w : World) (of : Nat → VT) (a : Option Addr) (c cap : Nat) : Prop :=
  c = 0 ∨ c ≤ cap ∧ ∃ g off, R g ∧ a = some ⟨g, off, none⟩ ∧ ∀ i, i < c → ∃ x0 x1 x2 x3,
      w.cell? ⟨g, off + i * 4, none⟩ = some x0 ∧ w.cell? ⟨g, off + i * 4 + 1, none⟩ = some x1 ∧ w.cell? ⟨g, off + i * 4 + 2, none⟩ = some x2 ∧ w.cell? ⟨g, off + i * 4 + 3, none⟩ = some x3 ∧
      VShows R w (of i) (.agg #[x0, x1, x2, x3])

theorem VShows.fr {R S : Nat → Prop} {w w' : World} (hf : Fr S w w') (hS : ∀ k, R k → ¬ S k) (t : VT) : ∀ v, VShows R w t v → VShows R w' t v := by
  induction t with
  | nil => exact fun _ h => h.elim
  | mk n f s c of ih =>
    rintro v ⟨vo, rfl, hb, ho⟩
    refine ⟨vo, rfl, hb, ?_⟩
    rcases ho with h | ⟨g, off, cap, hg, rfl, hle, hc⟩
    · exact .inl h
    · refine .inr ⟨g, off, cap, hg, rfl, hle, fun i hi => ?_⟩
      obtain ⟨x0, x1, x2, x3, c0, c1, c2, c3, hx⟩ := hc i hi
      exact ⟨x0, x1, x2, x3, cell_fr hf hS hg c0, cell_fr hf hS hg c1, cell_fr hf hS hg c2, cell_fr hf hS hg c3, ih i _ hx⟩

theorem VShows.mono {R S : Nat → Prop} {w : World} (hS : ∀ k, k < w.heap.size → R k → S k) (t : VT) : ∀ v, VShows R w t v → VShows S w t v := by
  induction t with
  | nil => exact fun _ h => h.elim
  | mk n f s c of ih =>
    rintro v ⟨vo, rfl, hb, ho⟩
    refine ⟨vo, rfl, hb, ?_⟩
    rcases ho with h | ⟨g, off, cap, hg, rfl, hle, hc⟩
    · exact .inl h
    · cases c with
      | zero => exact .inl ⟨rfl, _, _, rfl⟩
      | succ c =>
        refine .inr ⟨g, off, cap, ?_, rfl, hle, fun i hi => ?_⟩
        · obtain ⟨x0, x1, x2, x3, c0, _⟩ := hc 0 (by omega)
          exact hS g (World.block_lt_of_cell? w _ c0) hg
        · obtain ⟨x0, x1, x2, x3, c0, c1, c2, c3, hx⟩ := hc i hi
          exact ⟨x0, x1, x2, x3, c0, c1, c2, c3, ih i _ hx⟩

theorem VKids.fr {R S : Nat → Prop} {w w' : World} {of : Nat → VT} {a' : Option Addr} {n c' : Nat} (h : VKids R w of a' n c') (hf : Fr S w w') (hS : ∀ k, R k → ¬ S k) : VKids R w' of a' n c' := by
  rcases h with h | ⟨h1, g, off, hg, rfl, hc⟩
  · exact .inl h
  · refine .inr ⟨h1, g, off, hg, rfl, fun i hi => ?_⟩
    obtain ⟨x0, x1, x2, x3, c0, c1, c2, c3, hx⟩ := hc i hi
    exact ⟨x0, x1, x2, x3, cell_fr hf hS hg c0, cell_fr hf hS hg c1, cell_fr hf hS hg c2, cell_fr hf hS hg c3, VShows.fr hf hS _ _ hx⟩

/-- A value's value, opened. -/
theorem vshows_open {R : Nat → Prop} {w : World} {t : VT} {v : Value} (h : VShows R w t v) :
    ∃ (n : Int) (f : Nat) (s : Txt) (c : Nat) (of : Nat → VT) (a : Option Addr) (cap : Nat), t = .mk n f s c of ∧ v = .agg #[.int .i64 n, .float .f64 f, sv s, .slice a c cap] ∧ VB n f s c ∧ VKids R w of a c cap := by
  cases t with
  | nil => exact h.elim
  | mk n f s c of =>
    obtain ⟨vo, rfl, hb, ho⟩ := h
    rcases ho with ⟨rfl, a, cap, rfl⟩ | ⟨g, off, cap, hg, rfl, hle, hc⟩
    · exact ⟨n, f, s, 0, of, a, cap, rfl, rfl, hb, .inl rfl⟩
    · exact ⟨n, f, s, c, of, _, cap, rfl, rfl, hb, .inr ⟨hle, g, off, hg, rfl, hc⟩⟩

/-- A value's value, out of its parts. -/
theorem vshows_mk {R : Nat → Prop} {w : World} {n : Int} {f : Nat} {s : Txt} {c : Nat} {of : Nat → VT} {a : Option Addr} {cap : Nat} (hb : VB n f s c) (hk : VKids R w of a c cap) : VShows R w (.mk n f s c of) (.agg #[.int .i64 n, .float .f64 f, sv s, .slice a c cap]) := by
  refine ⟨_, rfl, hb, ?_⟩
  rcases hk with rfl | ⟨hle, g, off, hg, rfl, hc⟩
  · exact .inl ⟨rfl, a, cap, rfl⟩
  · exact .inr ⟨g, off, cap, hg, rfl, hle, hc⟩

/-- A value's four cells, as literals. -/
theorem VShows.lit {R : Nat → Prop} {w : World} {t : VT} {v : Value} (h : VShows R w t v) :
    ∃ (n : Int) (f : Nat) (s : ByteArray) (a : Option Addr) (c cap : Nat), v = .agg #[.int .i64 n, .float .f64 f, .string s, .slice a c cap] := by
  obtain ⟨n, f, s, c, of, a, cap, _, rfl, _⟩ := vshows_open h
  exact ⟨n, f, _, a, c, cap, rfl⟩

/-- Are two values the same? -/
def sameV : VT → VT → Bool
  | .mk n f s c of, .mk n' f' s' c' of' => decide (n = n') && decide (Fl.canon f = Fl.canon f') && decide (s = s') && decide (c = c') && (List.range c).all (fun i => sameV (of i) (of' i))
  | .mk _ _ _ _ _, .nil => false
  | .nil, _ => false

/-- How many values there are in one. -/
def szV : VT → Nat
  | .nil => 1
  | .mk _ _ _ c of => 1 + ((List.range c).map fun i => szV (of i)).sum

theorem szV_pos (t : VT) : 1 ≤ szV t := by cases t <;> simp [szV]

def szVs (ps : List (VT × VT)) : Nat := (ps.map fun p => szV p.1).sum

theorem szVs_append (ps qs : List (VT × VT)) : szVs (ps ++ qs) = szVs ps + szVs qs := by simp [szVs]

theorem szVs_length (ps : List (VT × VT)) : ps.length ≤ szVs ps := by
  induction ps with
  | nil => simp
  | cons p ps ih =>
    have := szV_pos p.1
    unfold szVs at *
    simp only [List.map_cons, List.sum_cons, List.length_cons]
    omega

/-- The pairs of the first j parts of two values. -/
def vparts (of of' : Nat → VT) (j : Nat) : List (VT × VT) := (List.range j).map fun i => (of i, of' i)

theorem vparts_succ (of of' : Nat → VT) (j : Nat) : vparts of of' (j + 1) = vparts of of' j ++ [(of j, of' j)] := by
  unfold vparts; rw [List.range_succ, List.map_append]; rfl

theorem vparts_sz (n : Int) (f : Nat) (s : Txt) (c : Nat) (of of' : Nat → VT) : szVs (vparts of of' c) + 1 = szV (.mk n f s c of) := by
  unfold vparts szVs
  rw [szV, List.map_map]
  have : ((fun p : VT × VT => szV p.1) ∘ fun i => (of i, of' i)) = fun i => szV (of i) := rfl
  rw [this]
  omega

theorem vparts_mono (of of' : Nat → VT) (j n : Nat) (h : j ≤ n) : szVs (vparts of of' j) ≤ szVs (vparts of of' n) := by
  induction n with
  | zero => obtain rfl : j = 0 := by omega
            exact Nat.le_refl _
  | succ n ih =>
    by_cases e : j = n + 1
    · subst e; exact Nat.le_refl _
    · rw [vparts_succ, szVs_append]
      have := ih (by omega)
      omega

theorem sameV_parts (n : Int) (f f' : Nat) (s : Txt) (c : Nat) (of of' : Nat → VT) (h : Fl.canon f = Fl.canon f') : sameV (.mk n f s c of) (.mk n f' s c of') = (vparts of of' c).all fun p => sameV p.1 p.2 := by
  rw [sameV, decide_eq_true h]
  simp only [decide_true, Bool.true_and]
  unfold vparts
  rw [List.all_map]
  rfl

theorem sameV_refl : ∀ R w t v, VShows R w t v → sameV t t = true := by
  intro R w t
  induction t with
  | nil => exact fun _ h => h.elim
  | mk n f s c of ih =>
    intro v h
    rw [sameV_parts _ _ _ _ _ _ _ rfl]
    simp only [vparts, List.all_map, List.all_eq_true, List.mem_range, Function.comp]
    intro i hi
    obtain ⟨_, _, _, _, _, _, _, e, rfl, _, hk⟩ := vshows_open h
    cases e
    rcases hk with rfl | ⟨_, _, _, _, _, hc⟩
    · omega
    · obtain ⟨_, _, _, _, _, _, _, _, hx⟩ := hc i hi
      exact ih i _ hx

/-- The slice v owns a row of pairs of values alone. -/
def VPairRow (B : Nat) (R : Nat → Prop) (w : World) (v : Value) (ps : List (VT × VT)) : Prop :=
  ∃ cs : List Value, w.ownsRow B 72 8 v ps.length cs ∧ ∀ i p, ps[i]? = some p → ∃ x0 x1 x2 x3 y0 y1 y2 y3,
    (∀ j u, [x0, x1, x2, x3, y0, y1, y2, y3][j]? = some u → cs[i * 8 + j]? = some u) ∧ VShows R w p.1 (.agg #[x0, x1, x2, x3]) ∧ VShows R w p.2 (.agg #[y0, y1, y2, y3])

theorem VPairRow.fr {B : Nat} {R S : Nat → Prop} {w w' : World} {v : Value} {ps : List (VT × VT)} (h : VPairRow B R w v ps) (f : Fr S w w') (hR : ∀ k, R k → ¬ S k) (hv : ∀ k, v.ownBlock = some k → ¬ S k) : VPairRow B R w' v ps := by
  obtain ⟨cs, h1, h2⟩ := h
  refine ⟨cs, ownsRow_fr h1 f hv, fun i p hi => ?_⟩
  obtain ⟨x0, x1, x2, x3, y0, y1, y2, y3, a, hx, hy⟩ := h2 i p hi
  exact ⟨x0, x1, x2, x3, y0, y1, y2, y3, a, VShows.fr f hR _ _ hx, VShows.fr f hR _ _ hy⟩

theorem VPairRow_own {B : Nat} {R : Nat → Prop} {w : World} {v : Value} {ps : List (VT × VT)} (h : VPairRow B R w v ps) : w.ownsRow B 72 8 v ps.length h.choose := h.choose_spec.1

/-- All but the last pair. -/
theorem VPairRow.pop {B : Nat} {R : Nat → Prop} {w : World} {a : Option Addr} {n c : Nat} {qs : List (VT × VT)} {p : VT × VT} (h : VPairRow B R w (.slice a n c) (qs ++ [p])) : VPairRow B R w (.slice a qs.length c) qs := by
  obtain ⟨cs, h1, h2⟩ := h
  have hl := h1.1
  rw [List.length_append] at hl
  refine ⟨cs.take (qs.length * 8), ⟨by rw [List.length_take]; simp at hl; omega, ?_⟩, fun i q hi => ?_⟩
  · rcases h1.2 with ⟨e, h0⟩ | ⟨g, cap, cur, e, hb, hg, hle, hm, hs, ht⟩
    · simp at h0
    · cases e
      rw [List.length_append] at hle ht
      simp only [List.length_singleton] at hle ht
      refine .inr ⟨g, c, cur, rfl, hb, hg, by omega, hm, hs, ?_⟩
      rw [← ht, List.take_take]
      congr 1
      omega
  · have hq := (List.getElem?_eq_some_iff.1 hi).1
    obtain ⟨x0, x1, x2, x3, y0, y1, y2, y3, a, hx, hy⟩ := h2 i q (by rw [List.getElem?_append_left hq]; exact hi)
    refine ⟨x0, x1, x2, x3, y0, y1, y2, y3, fun j u hj => ?_, hx, hy⟩
    have hj8 : j < 8 := (List.getElem?_eq_some_iff.1 hj).1
    rw [List.getElem?_take, if_pos (by omega)]
    exact a j u hj

/-- One pair more. -/
theorem VPairRow.push {B : Nat} {R : Nat → Prop} {w w' : World} {v v' : Value} {ps : List (VT × VT)} {a b : VT} {cs : List Value} {x0 x1 x2 x3 y0 y1 y2 y3 : Value} {n : Nat}
    (h2 : ∀ i p, ps[i]? = some p → ∃ x0 x1 x2 x3 y0 y1 y2 y3, (∀ j u, [x0, x1, x2, x3, y0, y1, y2, y3][j]? = some u → cs[i * 8 + j]? = some u) ∧ VShows R w p.1 (.agg #[x0, x1, x2, x3]) ∧ VShows R w p.2 (.agg #[y0, y1, y2, y3]))
    (hl : cs.length = ps.length * 8) (hn : n = ps.length + 1) (ho : w'.ownsRow B 72 8 v' n (cs ++ [x0, x1, x2, x3, y0, y1, y2, y3])) (f : Fr (fun k => v.ownBlock = some k) w w') (hR : ∀ k, R k → v.ownBlock ≠ some k)
    (hx : VShows R w a (.agg #[x0, x1, x2, x3])) (hy : VShows R w b (.agg #[y0, y1, y2, y3])) : VPairRow B R w' v' (ps ++ [(a, b)]) := by
  refine ⟨cs ++ [x0, x1, x2, x3, y0, y1, y2, y3], by rw [List.length_append]; simpa [hn] using ho, fun i p hi => ?_⟩
  by_cases hlt : i < ps.length
  · rw [List.getElem?_append_left hlt] at hi
    obtain ⟨z0, z1, z2, z3, u0, u1, u2, u3, q, hz, hu⟩ := h2 i p hi
    refine ⟨z0, z1, z2, z3, u0, u1, u2, u3, fun j u hj => ?_, VShows.fr f (fun k hk => hR k hk) _ _ hz, VShows.fr f (fun k hk => hR k hk) _ _ hu⟩
    have hj8 : j < 8 := (List.getElem?_eq_some_iff.1 hj).1
    rw [List.getElem?_append_left (by omega)]
    exact q j u hj
  · have hi' := (List.getElem?_eq_some_iff.1 hi).1
    obtain rfl : i = ps.length := by simp at hi'; omega
    rw [List.getElem?_append_right (Nat.le_refl _)] at hi
    simp at hi
    subst hi
    refine ⟨x0, x1, x2, x3, y0, y1, y2, y3, fun j u hj => ?_, VShows.fr f (fun k hk => hR k hk) _ _ hx, VShows.fr f (fun k hk => hR k hk) _ _ hy⟩
    rw [List.getElem?_append_right (by omega), hl, Nat.add_sub_cancel_left]
    exact hj

/-- Values as items of a row. -/
def vShown : Shown VT where
  sh R w t xs := ∃ x0 x1 x2 x3, xs = [x0, x1, x2, x3] ∧ VShows R w t (.agg #[x0, x1, x2, x3])
  fr := by
    rintro R S w w' x xs ⟨x0, x1, x2, x3, rfl, h⟩ f hS
    exact ⟨x0, x1, x2, x3, rfl, VShows.fr f hS _ _ h⟩
  mono := by
    rintro R S w x xs ⟨x0, x1, x2, x3, rfl, h⟩ hS
    exact ⟨x0, x1, x2, x3, rfl, VShows.mono hS _ _ h⟩

/-- A row of values as a value's parts. -/
theorem ItRow.vkids {B : Nat} {X : Nat → Prop} {w : World} {a : Option Addr} {n cap : Nat} {ts : List VT} (h : ItRow vShown 37 4 B X w (.slice a n cap) ts) (of : Nat → VT) (hof : ∀ i x, ts[i]? = some x → of i = x) :
    VKids (fun k => B ≤ k) w of a n cap := by
  rcases h.cells with ⟨rfl, a', c, h4⟩ | ⟨g, cap', hg, e, hle, hc⟩
  · cases h4; exact .inl rfl
  · cases e
    refine .inr ⟨hle, g, 0, hg.1, rfl, fun i hi => ?_⟩
    obtain ⟨xs, _, hc, x0, x1, x2, x3, rfl, hx⟩ := hc i ts[i] (List.getElem?_eq_getElem hi)
    refine ⟨x0, x1, x2, x3, hc 0 _ rfl, hc 1 _ rfl, hc 2 _ rfl, hc 3 _ rfl, ?_⟩
    rw [hof i _ (List.getElem?_eq_getElem hi)]
    exact VShows.mono (fun k _ h => h.1) _ _ hx

theorem realSame_eq (a b : Nat) (w : World) (h : Fl.canon a = Fl.canon b) : Calls Try.prog 22 #[.float .f64 a, .float .f64 b] w fun e w' => e = .returned (.bool true) ∧ w = w' := by
  have := rsame_any a b w
  rw [show ((Fl.canon a : Int) == Fl.canon b) = true by simp [h]] at this
  exact this

theorem realSame_ne (a b : Nat) (w : World) (h : ¬ Fl.canon a = Fl.canon b) : Calls Try.prog 22 #[.float .f64 a, .float .f64 b] w fun e w' => e = .returned (.bool false) ∧ w = w' := by
  have := rsame_any a b w
  rw [show ((Fl.canon a : Int) == Fl.canon b) = false by simp; omega] at this
  exact this

end Go.Proofs.Ythokfmmbiilllaa

/-
  package value: Same.
-/
namespace Go.Proofs.Ythokfmmbiilllaa
open Go.RowKit
attribute [local go_sem] run_store_float

theorem Try.infoPair : (Try.prog.info? 72).map (fun i => (i.zero, i.size, i.bytes)) = some (some (.agg #[.int .i64 0, .float .f64 0, .string ⟨#[]⟩, .slice none 0 0, .int .i64 0, .float .f64 0, .string ⟨#[]⟩, .slice none 0 0]), 8, 112) := by kernel_rfl

set_option maxRecDepth 100000 in
set_option maxHeartbeats 32000000 in
theorem vsame_any (R : Nat → Prop) (a b : VT) (va vb : Value) (w : World) (ha : VShows R w a va) (hb : VShows R w b vb) (hsz : szV a ≤ 100000) :
    Calls Try.prog 14 #[va, vb] w fun e w' => e = .returned (.bool (sameV a b)) ∧ Fr (fun _ => False) w w' := by
  have HA := Lib.hid (VShows.mono (S := fun k => R k ∧ k < w.heap.size) (fun k hk h => ⟨h, hk⟩) _ _ ha)
  have HB := Lib.hid (VShows.mono (S := fun k => R k ∧ k < w.heap.size) (fun k hk h => ⟨h, hk⟩) _ _ hb)
  obtain ⟨k1, m1, s1, a2, n2, c2, rfl⟩ := ha.lit
  obtain ⟨k3, m3, s3, a4, n4, c4, rfl⟩ := hb.lit
  clear ha hb
  have HSZ := Lib.hid hsz
  clear hsz
  go_enter Try.func14, Try.ntmps14
  go_wp2
  obtain ⟨w3, hw3⟩ : ∃ w3, w3 = ((w.alloc (.cells #[.int .i64 k1, .float .f64 m1, .string s1, .slice a2 n2 c2] 37)).alloc (.cells #[.int .i64 k3, .float .f64 m3, .string s3, .slice a4 n4 c4] 37)).alloc (.cells #[.int .i64 k1, .float .f64 m1, .string s1, .slice a2 n2 c2, .int .i64 k3, .float .f64 m3, .string s3, .slice a4 n4 c4] 72) := ⟨_, rfl⟩
  rw [← hw3]
  have f3 : Fr (fun _ => False) w w3 := by rw [hw3]; exact (((Fr.refl _ _).alloc _).alloc _).alloc _
  have g3 : w3.heap[w.heap.size + 2]? = some (.cells #[.int .i64 k1, .float .f64 m1, .string s1, .slice a2 n2 c2, .int .i64 k3, .float .f64 m3, .string s3, .slice a4 n4 c4] 72 (0, 0)) := by
    have := heap_alloc_new ((w.alloc (.cells #[.int .i64 k1, .float .f64 m1, .string s1, .slice a2 n2 c2] 37)).alloc (.cells #[.int .i64 k3, .float .f64 m3, .string s3, .slice a4 n4 c4] 37)) (.cells #[.int .i64 k1, .float .f64 m1, .string s1, .slice a2 n2 c2, .int .i64 k3, .float .f64 m3, .string s3, .slice a4 n4 c4] 72)
    rw [← hw3] at this
    simpa using this
  have hp3 : VPairRow (w.heap.size + 2) (fun k => R k ∧ k < w.heap.size) w3 (.slice (some ⟨w.heap.size + 2, 0, none⟩) 1 1) [(a, b)] := by
    refine ⟨_, ⟨rfl, .inr ⟨w.heap.size + 2, 1, _, rfl, Nat.le_refl _, g3, Nat.le_refl _, by unfold maxLen; omega, rfl, rfl⟩⟩, fun i p hi => ?_⟩
    have hi0 := (List.getElem?_eq_some_iff.1 hi).1
    obtain rfl : i = 0 := by simpa using hi0
    simp at hi
    subst hi
    exact ⟨_, _, _, _, _, _, _, _, fun j u hj => by simpa using hj, VShows.fr f3 (fun _ _ h => h) _ _ HA.out, VShows.fr f3 (fun _ _ h => h) _ _ HB.out⟩
  have H3 := Lib.hid (And.intro f3 hp3)
  clear hw3 f3 g3 hp3
  go_loopg [5, 6, 7, 8, 9] (szV a) (fun G u5 u6 u7 u8 u9 wr => ∃ (ps : List (VT × VT)) (ua : Option Addr) (n uc : Nat), G = szVs ps ∧ u5 = .slice ua n uc ∧ Hid (n = ps.length ∧ szVs ps ≤ 100000 ∧ VPairRow (w.heap.size + 2) (fun k => R k ∧ k < w.heap.size) wr (.slice ua n uc) ps ∧ Fr (fun _ => False) w wr ∧ ps.all (fun p => sameV p.1 p.2) = sameV a b))
  case atStart => exact ⟨[(a, b)], _, 1, 1, by simp [szVs], rfl, Lib.hid ⟨rfl, by simpa [szVs] using HSZ.out, H3.out.2, H3.out.1, by simp⟩⟩
  case round =>
    obtain ⟨ps, ua, n, uc, rfl, rfl, HI⟩ := hrel
    rcases List.eq_nil_or_concat ps with hps | ⟨qs, ⟨x, y⟩, hps⟩
    · obtain rfl : n = 0 := by rw [HI.out.1, hps]; rfl
      have HP := Lib.hid hps
      clear hps
      go_wp2
      go_ret
      refine ⟨ret_bool ?_, HI.out.2.2.2.1⟩
      rw [← HI.out.2.2.2.2, HP.out]
      rfl
    · rw [List.concat_eq_append] at hps
      obtain ⟨m, rfl⟩ : ∃ m, n = m + 1 := ⟨qs.length, by rw [HI.out.1, hps]; simp⟩
      have hm : m = qs.length := by have := HI.out.1; rw [hps] at this; simp at this; exact this
      have hrow := HI.out.2.2.1
      rw [hps] at hrow
      have HROW := Lib.hid hrow
      obtain ⟨cs, ho, hcs⟩ := hrow
      obtain ⟨x0, x1, x2, x3, y0, y1, y2, y3, q, hx, hy⟩ := hcs m (x, y) (by rw [List.getElem?_append_right (by omega), hm]; simp)
      obtain ⟨g, rfl, hgB⟩ : ∃ g, ua = some ⟨g, 0, none⟩ ∧ w.heap.size + 2 ≤ g := by
        rcases ho.2 with ⟨e, _⟩ | ⟨g, cap, cur, e, hb, _⟩
        · cases e
        · simp only [Value.slice.injEq] at e; obtain ⟨rfl, _, rfl⟩ := e; exact ⟨g, rfl, hb⟩
      have hmc : m + 1 ≤ uc := by
        rcases ho.2 with ⟨e, _⟩ | ⟨g, cap, cur, e, hb, hgg, hle, _⟩
        · cases e
        · simp only [Value.slice.injEq] at e; obtain ⟨_, h1, rfl⟩ := e; omega
      have hgl : g < wr.heap.size := (World.ownsRow.lt ho g rfl).2
      have hc := fun (j : Nat) (u : Value) (hu : [x0, x1, x2, x3, y0, y1, y2, y3][j]? = some u) => World.ownsRow.cells (g := g) ho rfl (m * 8 + j) u (q j u hu)
      simp only [plain_add] at hc
      obtain ⟨pk, pm, pns, pn2, pof, pa2, pc2, rfl, ex, htx, hox⟩ := vshows_open hx
      obtain ⟨qk, qm, qns, qn2, qof, qa2, qc2, rfl, ey, hty, hoy⟩ := vshows_open hy
      simp only [Value.agg.injEq, Array.mk.injEq, List.cons.injEq, and_true] at ex ey
      obtain ⟨rfl, rfl, rfl, rfl⟩ := ex
      obtain ⟨rfl, rfl, rfl, rfl⟩ := ey
      have r0 := hc 0 _ rfl
      have r1 := hc 1 _ rfl
      have r2 := hc 2 _ rfl
      have r3 := hc 3 _ rfl
      have r4 := hc 4 _ rfl
      have r5 := hc 5 _ rfl
      have r6 := hc 6 _ rfl
      have r7 := hc 7 _ rfl
      rw [Nat.add_zero] at r0
      unfold sv at r2 r6
      have HXY := Lib.hid (And.intro htx (And.intro hox (And.intro hty (And.intro hoy (And.intro hps hm)))))
      clear hc q hx hy hps hm ho hcs htx hox hty hoy
      have hm5 : m ≤ 100000 := by have := szVs_length ps; have := HI.out.2.1; have := HI.out.1; omega
      have hw1 : wrap64 (m : Int) = m := IntWalk.wrap64_in _ (by omega)
      have hw2 : IntKind.i64.wrap (m : Int) = m := IntWalk.i64_in _ (by omega)
      have i0 : (0 : Int) ≤ (m : Int) := by omega
      have i1 : (m : Int) < (m : Int) + 1 := by omega
      have i2 : m < m + 1 := by omega
      go_upto_region 4 with fail
      go_cut [7, 8] from 14 to 82 (fun s7 s8 wx => ∃ g7 g8, s7 = .pointer (some ⟨g7, 0, none⟩) ∧ s8 = .pointer (some ⟨g8, 0, none⟩) ∧ Hid (wx.heap[g7]? = some (.cells #[.int .i64 pk, .float .f64 pm, .string ⟨pns.toArray⟩, .slice pa2 pn2 pc2] 37 (0, 0)) ∧ wx.heap[g8]? = some (.cells #[.int .i64 qk, .float .f64 qm, .string ⟨qns.toArray⟩, .slice qa2 qn2 qc2] 37 (0, 0)) ∧ wr.heap.size ≤ g7 ∧ wr.heap.size ≤ g8 ∧ Fr (fun _ => False) wr wx))
      case first =>
        go_region
        all_goals go_wp2
        all_goals go_meet
        all_goals (case rel => first | exact ⟨_, _, rfl, rfl, Lib.hid ⟨heap_alloc_first _ _ _, heap_alloc_two _ _ _, by omega, by omega, (((Fr.refl _ _).alloc _).alloc _).drew⟩⟩ | exact ⟨_, _, rfl, rfl, Lib.hid ⟨heap_alloc_two _ _ _, heap_alloc_first _ _ _, by omega, by omega, (((Fr.refl _ _).alloc _).alloc _).drew⟩⟩)
      case rest =>
        obtain ⟨g7, g8, rfl, rfl, HC⟩ := hcut
        clear r0 r1 r2 r3 r4 r5 r6 r7
        obtain ⟨wo, rfl⟩ : ∃ wo : World, wo = wc := ⟨_, rfl⟩
        have FW := Lib.hid (HI.out.2.2.2.1.trans HC.out.2.2.2.2 (fun _ _ h => h))
        have u0 := cells_row HC.out.1 0 _ rfl
        have u1 := cells_row HC.out.1 1 _ rfl
        have u2 := cells_row HC.out.1 2 _ rfl
        have u3 := cells_row HC.out.1 3 _ rfl
        have t0 := cells_row HC.out.2.1 0 _ rfl
        have t1 := cells_row HC.out.2.1 1 _ rfl
        have t2 := cells_row HC.out.2.1 2 _ rfl
        have t3 := cells_row HC.out.2.1 3 _ rfl
        have i4 : (m : Int) ≤ (uc : Int) := by omega
        have hfalse : sameV (.mk pk pm pns pn2 pof) (.mk qk qm qns qn2 qof) = false → false = sameV a b := by
          intro h
          rw [← HI.out.2.2.2.2, HXY.out.2.2.2.2.1]
          simp [h]
        have HFA := Lib.hid hfalse
        clear hfalse
        by_cases e1 : pk = qk
        case neg =>
          have b1 : (pk == qk) = false := by simpa using e1
          have b2 : (pk != qk) = true := by unfold bne; rw [b1]; rfl
          have E1 := Lib.hid e1
          clear e1
          go_wp2
          go_ret
          exact ⟨ret_bool (HFA.out (by rw [sameV, decide_eq_false E1.out]; rfl)), FW.out⟩
        subst e1
        by_cases e2 : Fl.canon pm = Fl.canon qm
        case neg =>
          have E1 := Lib.hid e2
          clear e2
          go_wp2_with fail
          refine (realSame_ne pm qm _ E1.out).mono ?_
          rintro e w5 ⟨rfl, rfl⟩
          go_wp2
          go_ret
          exact ⟨ret_bool (HFA.out (by rw [sameV, decide_eq_false E1.out]; simp)), FW.out⟩
        have E2 := Lib.hid e2
        clear e2
        by_cases e3 : pns = qns
        case neg =>
          have b1 : (pns == qns) = false := by simpa using e3
          have b2 : (pns != qns) = true := by unfold bne; rw [b1]; rfl
          have E1 := Lib.hid e3
          clear e3
          go_wp2_with fail
          refine (realSame_eq pm qm _ E2.out).mono ?_
          rintro e w5 ⟨rfl, rfl⟩
          go_wp2
          go_ret
          exact ⟨ret_bool (HFA.out (by rw [sameV, decide_eq_false E1.out]; simp)), FW.out⟩
        subst e3
        by_cases e4 : pn2 = qn2
        case neg =>
          have b1 : ((pn2 : Int) == (qn2 : Int)) = false := by simp; omega
          have b2 : ((pn2 : Int) != (qn2 : Int)) = true := by unfold bne; rw [b1]; rfl
          have E1 := Lib.hid e4
          clear e4
          go_wp2_with fail
          refine (realSame_eq pm qm _ E2.out).mono ?_
          rintro e w5 ⟨rfl, rfl⟩
          go_wp2
          go_ret
          exact ⟨ret_bool (HFA.out (by rw [sameV, decide_eq_false E1.out]; simp)), FW.out⟩
        subst e4
        go_wp2_with fail
        refine (realSame_eq pm qm _ E2.out).mono ?_
        rintro e w5 ⟨rfl, rfl⟩
        have q7 := HC.out.1
        have q8 := HC.out.2.1
        have hrow5 := VPairRow.fr (VPairRow.pop HROW.out) HC.out.2.2.2.2 (fun _ _ h => h) (fun _ _ h => h)
        have H5 := Lib.hid (And.intro q7 (And.intro q8 (And.intro hrow5 FW.out)))
        have HKX := Lib.hid (VKids.fr HXY.out.2.1 HC.out.2.2.2.2 (fun _ _ h => h))
        have HKY := Lib.hid (VKids.fr HXY.out.2.2.2.1 HC.out.2.2.2.2 (fun _ _ h => h))
        have hg7 := HC.out.2.2.1
        have hg8 := HC.out.2.2.2.1
        obtain ⟨w5, rfl⟩ : ∃ w5 : World, w5 = wo := ⟨_, rfl⟩
        clear q7 q8 hrow5 u0 u1 t0 t1
        obtain ⟨i0', hi, hz0, hz1, hz2⟩ := info_parts Try.infoPair
        have hgg7 : g ≠ g7 := by omega
        have hgg8 : g ≠ g8 := by omega
        have hm5' : qs.length ≤ 100000 := by have := HXY.out.2.2.2.2.2; omega
        have hpn : szVs (qs ++ vparts pof qof pn2) + 1 ≤ 100000 ∧ szVs (qs ++ vparts pof qof pn2) + 1 = szVs ps := by
          have e1 := vparts_sz pk pm pns pn2 pof qof
          have e2 := HI.out.2.1
          rw [HXY.out.2.2.2.2.1, szVs_append] at e2
          rw [HXY.out.2.2.2.2.1, szVs_append, szVs_append]
          have e3 : szVs [(VT.mk pk pm pns pn2 pof, VT.mk pk qm pns pn2 qof)] = szV (.mk pk pm pns pn2 pof) := by simp [szVs]
          rw [e3] at e2 ⊢
          omega
        have HPN := Lib.hid hpn
        clear hpn
        go_wp2
        have k3 := u3
        have l3 := t3
        clear u2 u3 t2 t3
        go_loopg [5, 9, 65] pn2 (fun G u5 u9 u65 wr => ∃ (j : Nat) (ua : Option Addr) (n uc : Nat), j ≤ pn2 ∧ G = pn2 - j ∧ u65 = .int .i64 j ∧ u5 = .slice ua n uc ∧ Hid (n = (qs ++ vparts pof qof j).length ∧ VPairRow (w.heap.size + 2) (fun k => R k ∧ k < w.heap.size) wr (.slice ua n uc) (qs ++ vparts pof qof j) ∧ Fr (fun k => w.heap.size + 2 ≤ k) w5 wr ∧
          wr.heap[g7]? = some (.cells #[.int .i64 pk, .float .f64 pm, .string ⟨pns.toArray⟩, .slice pa2 pn2 pc2] 37 (0, 0)) ∧ wr.heap[g8]? = some (.cells #[.int .i64 pk, .float .f64 qm, .string ⟨pns.toArray⟩, .slice qa2 pn2 qc2] 37 (0, 0)) ∧ ∀ k, (Value.slice ua n uc).ownBlock = some k → k ≠ g7 ∧ k ≠ g8))
        case atStart => exact ⟨0, some ⟨g, 0, none⟩, m, uc, Nat.zero_le _, rfl, by go_num, rfl, Lib.hid ⟨by rw [HXY.out.2.2.2.2.2]; simp [vparts], by rw [HXY.out.2.2.2.2.2]; simpa [vparts] using H5.out.2.2.1, Fr.refl _ _, H5.out.1, H5.out.2.1, fun k hk => by simp [Value.ownBlock] at hk; omega⟩⟩
        case round =>
          obtain ⟨j, ua, n, uc', hj, rfl, rfl, rfl, HJ⟩ := hrel
          by_cases hlt : j < pn2
          · rcases VKids.fr HKX.out HJ.out.2.2.1 (fun k hk h => by omega) with hz | ⟨hcx, gx, ox, hgx, rfl, hcellx⟩
            · omega
            rcases VKids.fr HKY.out HJ.out.2.2.1 (fun k hk h => by omega) with hz | ⟨hcy, gy, oy, hgy, rfl, hcelly⟩
            · omega
            obtain ⟨x0, x1, x2, x3, p0, p1, p2, p3, hx⟩ := hcellx j hlt
            obtain ⟨y0, y1, y2, y3, q0, q1, q2, q3, hy⟩ := hcelly j hlt
            obtain ⟨zk, zm, zs, za2, zn2, zc2, ex⟩ := hx.lit
            simp only [Value.agg.injEq, Array.mk.injEq, List.cons.injEq, and_true] at ex
            obtain ⟨rfl, rfl, rfl, rfl⟩ := ex
            obtain ⟨yk, ym, ys, ya2, yn2, yc2, ey⟩ := hy.lit
            simp only [Value.agg.injEq, Array.mk.injEq, List.cons.injEq, and_true] at ey
            obtain ⟨rfl, rfl, rfl, rfl⟩ := ey
            obtain ⟨cs, ho, hcs⟩ := HJ.out.2.1
            rw [← HJ.out.1] at ho
            have hnb : n ≤ 100000 := by
              have e1 := szVs_length (qs ++ vparts pof qof j)
              have e2 := vparts_mono pof qof j pn2 (by omega)
              have e3 := HPN.out.1
              rw [szVs_append] at e1 e3
              have := HJ.out.1
              omega
            have hwsz : w.heap.size + 2 ≤ wr.heap.size := by have := lt_of_block HJ.out.2.2.2.1; have := HC.out.2.2.1; have := (World.ownsRow.lt (VPairRow_own HROW.out) g rfl); omega
            have HLT := Lib.hid (show j + 1 ≤ pn2 from hlt)
            have hj1 : j ≤ 100000 := by have := HXY.out.1.2.2.2.2; have := HLT.out; omega
            have jx : (j : Int) < (pn2 : Int) := by omega
            have j0 : (0 : Int) ≤ (j : Int) := by omega
            have HP := Lib.hid (And.intro p0 (And.intro p1 (And.intro p2 (And.intro p3 (And.intro q0 (And.intro q1 (And.intro q2 q3)))))))
            have HXX := Lib.hid (And.intro hx (And.intro hy (And.intro ho hcs)))
            have nown : ∀ k, (R k ∧ k < w.heap.size) → (Value.slice ua n uc').ownBlock ≠ some k := fun k hk e => by have := (World.ownsRow.lt ho k e).1; omega
            have HNO := Lib.hid nown
            clear p0 p1 p2 p3 q0 q1 q2 q3 hx hy ho hcs hcellx hcelly nown k3 l3
            have HQ := Lib.hid (fun (wx : World) (f : Fr (fun k => (Value.slice ua n uc').ownBlock = some k) wr.drew wx) =>
              have fw : Fr (fun k => (Value.slice ua n uc').ownBlock = some k) wr wx := ⟨f.os, f.tape, f.output, f.size, f.block⟩
              have up : ∀ {gg o : Nat} {u : Value}, (R gg ∧ gg < w.heap.size) → wr.cell? ⟨gg, o, none⟩ = some u → wx.cell? ⟨gg, o, none⟩ = some u := fun hgg h => cell_fr (R := fun k => R k ∧ k < w.heap.size) fw (fun k hk e => HNO.out k hk e) hgg h
              And.intro fw (And.intro (cells_row (box_kept HJ.out.2.2.2.1 fw (fun e => (HJ.out.2.2.2.2.2 _ e).1 rfl)) 3 _ rfl) (And.intro (cells_row (box_kept HJ.out.2.2.2.2.1 fw (fun e => (HJ.out.2.2.2.2.2 _ e).2 rfl)) 3 _ rfl)
                (And.intro (up hgx HP.out.1) (And.intro (up hgx HP.out.2.1) (And.intro (up hgx HP.out.2.2.1) (And.intro (up hgx HP.out.2.2.2.1) (And.intro (up hgy HP.out.2.2.2.2.1) (And.intro (up hgy HP.out.2.2.2.2.2.1) (And.intro (up hgy HP.out.2.2.2.2.2.2.1) (up hgy HP.out.2.2.2.2.2.2.2)))))))))))
            go_wp2_with fail
            refine wp_region_toldV (by kernel_rfl) (fun a b => Fr (fun k => (Value.slice ua n uc').ownBlock = some k) a b) (fun w => Fr.refl _ w) (fun _ _ _ h k => h.trans k (fun _ _ h => h))
              [some 68, some 69, some 70, some 71, some 72, some 73, some 74, some 75, some 76, some 77, some 78, some 79, some 80, some 81, some 5] rfl (by decide) (by intro d hd; simp at hd ⊢; omega)
              (fun i v wx => (i = 13 → wx.ownsRow (w.heap.size + 2) 72 8 (.slice ua n uc') n cs) ∧ (i = 14 → v = .slice ua n uc'))
              (fun i v wx => ([fun v _ => v = .slice ua n uc', fun v _ => v = .pointer (some ⟨g7, 3, none⟩), fun v _ => v = .slice (some ⟨gx, ox, none⟩) pn2 pc2, fun v _ => v = .int .i64 j, fun v _ => v = .pointer (some ⟨gx, ox + j * 4, none⟩), fun v _ => v = .agg #[.int .i64 zk, .float .f64 zm, .string zs, .slice za2 zn2 zc2],
                fun v _ => v = .pointer (some ⟨g8, 3, none⟩), fun v _ => v = .slice (some ⟨gy, oy, none⟩) pn2 qc2, fun v _ => v = .int .i64 j, fun v _ => v = .pointer (some ⟨gy, oy + j * 4, none⟩), fun v _ => v = .agg #[.int .i64 yk, .float .f64 ym, .string ys, .slice ya2 yn2 yc2],
                fun v _ => v = .agg #[.int .i64 zk, .float .f64 zm, .string zs, .slice za2 zn2 zc2, .int .i64 yk, .float .f64 ym, .string ys, .slice ya2 yn2 yc2],
                fun v wx => ∃ gg, v = .slice (some ⟨gg, 0, none⟩) 1 1 ∧ (Value.slice ua n uc').ownBlock ≠ some gg ∧ wx.heap[gg]? = some (.cells #[.int .i64 zk, .float .f64 zm, .string zs, .slice za2 zn2 zc2, .int .i64 yk, .float .f64 ym, .string ys, .slice ya2 yn2 yc2] 72 (0, 0)),
                fun v wx => ∃ ub uc2, v = .slice ub (n + 1) uc2 ∧ VPairRow (w.heap.size + 2) (fun k => R k ∧ k < w.heap.size) wx v (qs ++ vparts pof qof (j + 1)) ∧ (v.ownBlock = (Value.slice ua n uc').ownBlock ∨ ∃ k, v.ownBlock = some k ∧ wr.heap.size ≤ k),
                fun v wx => ∃ ub uc2, v = .slice ub (n + 1) uc2 ∧ VPairRow (w.heap.size + 2) (fun k => R k ∧ k < w.heap.size) wx v (qs ++ vparts pof qof (j + 1)) ∧ (v.ownBlock = (Value.slice ua n uc').ownBlock ∨ ∃ k, v.ownBlock = some k ∧ wr.heap.size ≤ k)] : List (Value → World → Prop)).getD i (fun _ _ => True) v wx)
              (by kernel_rfl) ?u0 ?step ?fin
            case u0 => exact fun i _ => ⟨fun _ => HXX.out.2.2.1, fun e => by subst e; rfl⟩
            case step =>
              intro vals
              simp only [frOfU, fillU, List.setIfInBounds_toArray, List.set_cons_succ, List.set_cons_zero]
              repeat' (first | exact AllOps.nil | refine AllOps.cons ?_ ?_)
              all_goals
                intro wx hle he hu hw K hK
                simp only [Act.put, List.setIfInBounds_toArray, List.set_cons_succ, List.set_cons_zero, List.getD_cons_zero, List.getD_cons_succ] at hK
                simp only [List.mem_cons, List.not_mem_nil, or_false, forall_eq_or_imp, forall_eq, Region.binds, forall_const, false_imp_iff, List.getD_cons_zero, List.getD_cons_succ] at he
                obtain ⟨fw, v7, v8, p0, p1, p2, p3, q0, q1, q2, q3⟩ := HQ.out wx hle
                have FW5 := Lib.hid fw
                clear fw hle
              · have h5 := (hw 14 (by kernel_rfl)).2 rfl
                clear hw
                simp only [h5] at hK ⊢
                go_simp
                exact hK _ _ (Fr.refl _ _) rfl (fun _ _ _ h => h) (fun _ _ _ _ h => h)
              all_goals clear hw
              all_goals first | ((try simp only [he] at hK ⊢); go_simp; exact hK _ _ (Fr.refl _ _) rfl (fun _ _ _ h => h) (fun _ _ _ _ h => h)) | skip
              · simp only [he] at hK ⊢
                go_simp
                have fa : Fr (fun _ => False) wx (wx.alloc (.cells #[.int .i64 zk, .float .f64 zm, .string zs, .slice za2 zn2 zc2, .int .i64 yk, .float .f64 ym, .string ys, .slice ya2 yn2 yc2] 72)) := (Fr.refl _ _).alloc _
                refine hK _ _ (fa.mono (fun _ _ h => absurd h (fun h => h))) ⟨wx.heap.size, rfl, ?_, heap_alloc_new _ _⟩ ?_ ?_
                · intro e
                  have h1 := (World.ownsRow.lt HXX.out.2.2.1 _ e).2
                  have h2 := FW5.out.size
                  omega
                · exact fun i u hi h => ⟨fun e => ownsRow_fr (h.1 e) fa (fun _ _ h => h), h.2⟩
                · refine fun i u hi _ => pres_list ?_ i u
                  simp only [List.mem_cons, List.not_mem_nil, or_false, forall_eq_or_imp, forall_eq, imp_self, implies_true, true_and]
                  refine ⟨fun u h => ?_, fun u h => ?_, fun u h => ?_⟩
                  · obtain ⟨gg, e1, e2, e3⟩ := h
                    exact ⟨gg, e1, e2, box_kept e3 fa (fun h => h)⟩
                  · obtain ⟨ub, uc2, e1, e2, e3⟩ := h
                    exact ⟨ub, uc2, e1, e2.fr fa (fun _ _ h => h) (fun _ _ h => h), e3⟩
                  · obtain ⟨ub, uc2, e1, e2, e3⟩ := h
                    exact ⟨ub, uc2, e1, e2.fr fa (fun _ _ h => h) (fun _ _ h => h), e3⟩
              · obtain ⟨h0, gg, h12, hgne, hgg⟩ := he
                have ho := hu.1 rfl
                rw [if_pos (by rfl)]
                refine opWp_append (.tmp 68) (.tmp 80) 73 73 rfl (w.heap.size + 2) 72 i0' (.agg #[.int .i64 0, .float .f64 0, .string ⟨#[]⟩, .slice none 0 0, .int .i64 0, .float .f64 0, .string ⟨#[]⟩, .slice none 0 0]) 8 112 Try.underlying73 _ Try.underlying73 (.inr ⟨_, rfl⟩) hi hz0 hz1 hz2 rfl (by decide) (.slice ua n uc') n cs h0 ho (.slice (some ⟨gg, 0, none⟩) 1 1) 1 [.int .i64 zk, .float .f64 zm, .string zs, .slice za2 zn2 zc2, .int .i64 yk, .float .f64 ym, .string ys, .slice ya2 yn2 yc2] h12 (lenOf_slice _ _ _) rfl (first_one8 1 hgg) (first_one8 1 (by exact hgg)) ?one (by unfold maxLen; omega) (by omega) (by have := FW5.out.size; omega) ?grow
                case one => intro u hu; simp at hu; rcases hu with rfl | rfl | rfl | rfl | rfl | rfl | rfl | rfl <;> rfl
                case grow =>
                  intro v' w6 hown hg hv
                  have f6 : Fr (fun k => (Value.slice ua n uc').ownBlock = some k) wx w6 := (Fr.of_grown hg).mono (fun _ _ e => e.symm)
                  obtain ⟨ub, uc2, e1⟩ := slice_of_own hown
                  have hpr : VPairRow (w.heap.size + 2) (fun k => R k ∧ k < w.heap.size) w6 v' (qs ++ vparts pof qof (j + 1)) := by
                    rw [vparts_succ, ← List.append_assoc]
                    exact VPairRow.push HXX.out.2.2.2 (by rw [HXX.out.2.2.1.1, HJ.out.1]) (by rw [HJ.out.1]) hown (FW5.out.trans f6 (fun _ _ h => h)) (fun k hk e => HNO.out k hk e) HXX.out.1 HXX.out.2.1
                  have hvv : v'.ownBlock = (Value.slice ua n uc').ownBlock ∨ ∃ k, v'.ownBlock = some k ∧ wr.heap.size ≤ k := by
                    rcases hv with h | h
                    · exact .inl h
                    · exact .inr ⟨_, h, FW5.out.size⟩
                  refine hK _ _ f6 ⟨ub, uc2, e1, hpr, hvv⟩ ?_ ?_
                  · exact fun i u hi h => ⟨fun e => absurd e hi, h.2⟩
                  · intro i u hi hwt
                    by_cases h14 : i = 14
                    · subst h14
                      exact absurd hwt (by decide +kernel)
                    · refine pres_but 14 13 h14 hi ?_ u
                      simp only [List.set_cons_succ, List.set_cons_zero, List.mem_cons, List.not_mem_nil, or_false, forall_eq_or_imp, forall_eq, imp_self, implies_true, true_and, and_true]
                      intro u h
                      obtain ⟨g1, e2, e3, e4⟩ := h
                      exact ⟨g1, e2, e3, box_kept e4 f6 e3⟩
              · have h13 := he.1
                clear he
                obtain ⟨ub, uc2, e13, hpr, hvv⟩ := h13
                rw [e13] at hpr hvv
                go_simp
                simp only [Nat.reduceAdd, Nat.zero_add, e13] at hK ⊢
                exact hK _ _ (Fr.refl _ _) ⟨ub, uc2, rfl, hpr, hvv⟩ (fun _ _ _ h => h) (fun _ _ _ _ h => h)
            case fin =>
              intro vals w' hle hV
              obtain ⟨ub, uc2, e14, hpr, hvv⟩ := hV 14 (by decide)
              clear hV
              obtain ⟨fw, _⟩ := HQ.out w' hle
              have HF := Lib.hid (And.intro fw (And.intro hpr hvv))
              clear hpr hvv hle fw
              simp only [frOfU, fillU, List.setIfInBounds_toArray, List.set_cons_succ, List.set_cons_zero]
              simp only [Nat.reduceAdd, e14]
              go_wp2
              go_roundg (pn2 - (j + 1))
              case measure => omega
              case rel =>
                have hpr := HF.out.2.1
                rw [e14] at hpr
                have hvv := HF.out.2.2
                rw [e14] at hvv
                have hfw : Fr (fun k => w.heap.size + 2 ≤ k) w5 w' := HJ.out.2.2.1.trans HF.out.1 (fun i hi e => (World.ownsRow.lt HXX.out.2.2.1 i e).1)
                exact ⟨j + 1, ub, n + 1, uc2, HLT.out, rfl, by go_num, rfl, Lib.hid ⟨by rw [vparts_succ, ← List.append_assoc, List.length_append, ← HJ.out.1]; rfl, hpr, hfw, box_kept HJ.out.2.2.2.1 HF.out.1 (fun e => (HJ.out.2.2.2.2.2 _ e).1 rfl), box_kept HJ.out.2.2.2.2.1 HF.out.1 (fun e => (HJ.out.2.2.2.2.2 _ e).2 rfl), fun k hk => by
                  rcases hvv with h | ⟨k', h, hk'⟩
                  · rw [h] at hk; exact HJ.out.2.2.2.2.2 k hk
                  · rw [h] at hk; cases hk
                    have h1 := lt_of_block HJ.out.2.2.2.1
                    have h2 := lt_of_block HJ.out.2.2.2.2.1
                    exact ⟨by omega, by omega⟩⟩⟩
          · obtain rfl : j = pn2 := by omega
            go_wp2
            go_roundg (szVs (qs ++ vparts pof qof j))
            case measure => have := HPN.out.2; omega
            case rel =>
              refine ⟨qs ++ vparts pof qof j, ua, n, uc', rfl, rfl, Lib.hid ⟨HJ.out.1, by have := HPN.out.1; omega, HJ.out.2.1, H5.out.2.2.2.trans HJ.out.2.2.1 (fun i hi h => by omega), ?_⟩⟩
              rw [← HI.out.2.2.2.2, HXY.out.2.2.2.2.1, List.all_append, List.all_append, ← sameV_parts pk pm qm pns j pof qof E2.out]
              simp

end Go.Proofs.Ythokfmmbiilllaa

/-
  package value: whether a type would be right if its parts were (rightAlone).
-/
namespace Go.Proofs.Ythokfmmbiilllaa
open Go.RowKit

def tZero : Array Value := #[.int .u8 0, .int .i64 0, .slice none 0 0, .slice none 0 0]

/-- make of n types. -/
theorem run_make4 (n : Nat) (hn : n ≤ 1000) (w : World) :
    (Instr.makeSlice 30 (.int .i64 (n : Int)) (.int .i64 (n : Int))).run Try.prog w = .ok (.slice (some ⟨w.heap.size, 0, none⟩) n n) (w.alloc (.cells (madeCells tZero (n * 4)) 32)) := by
  obtain ⟨i, hi, hz0, hz1, hz2⟩ := info_parts Try.infoType
  have hr := run_make (P := Try.prog) w 30 32 i _ Try.underlying30 hi hz0 .i64 .i64 n n (by omega) (Int.le_refl _) (by rw [hz2]; omega) (by omega)
  simp only [Int.toNat_natCast, hz1] at hr
  exact hr

theorem made_cell (n i j : Nat) (hi : i < n) (hj : j < 4) : (madeCells tZero (n * 4))[i * 4 + j]? = tZero[j]? := by
  have h4 : tZero.size = 4 := rfl
  have hlt : i * 4 + j < n * 4 := by omega
  have e : (i * 4 + j) % 4 = j := by omega
  rw [madeCells, h4, Array.getElem?_map, Array.getElem?_range, if_pos hlt]
  simp only [Option.map_some, e]
  rcases (by omega : j = 0 ∨ j = 1 ∨ j = 2 ∨ j = 3) with rfl | rfl | rfl | rfl <;> rfl

def aloneT (k : Nat) (m : Int) (ns : List Txt) (n : Nat) : KTab := ⟨[97], 0, 0, [([116], .mk k m ns n (fun _ => zeroT))], [], []⟩

/-- Would it be right if its parts were? -/
def aloneE : KT → Bool
  | .nil => false
  | .mk k m ns n _ => decide (n ≤ 12) && decide (checkE (aloneT k m ns n) = 0)

set_option maxRecDepth 100000 in
set_option maxHeartbeats 16000000 in
theorem alone_any (R : Nat → Prop) (t : KT) (v : Value) (w : World) (h : Shows R w t v) :
    Calls Try.prog 27 #[v] w fun e w' => e = .returned (.bool (aloneE t)) ∧ Fr (fun _ => False) w w' := by
  cases t with
  | nil => exact h.elim
  | mk k m ns n of =>
  obtain ⟨vn, vo, rfl, hk, hn, ht, ho⟩ := h
  obtain ⟨a, c, rfl, _⟩ := ht.shape
  obtain ⟨a', c', rfl⟩ : ∃ a' c', vo = .slice a' n c' := by
    rcases ho with ⟨rfl, a', c', rfl⟩ | ⟨g, off, cap, _, rfl, _⟩
    · exact ⟨a', c', rfl⟩
    · exact ⟨_, cap, rfl⟩
  clear ho
  have HT := Lib.hid ht
  clear ht
  by_cases h12 : 12 < n
  · have b : 12 < (n : Int) := by omega
    have E : Hid (aloneE (.mk k m ns n of) = false) := Lib.hid (by show (decide (n ≤ 12) && _) = false; rw [decide_eq_false (by omega)]; rfl)
    clear h12
    go_enter Try.func27, Try.ntmps27
    go_wp2
    go_ret
    rw [E.out]
    exact ⟨rfl, (Fr.refl _ _).alloc _⟩
  · have b : ¬ 12 < (n : Int) := by omega
    have E : Hid (aloneE (.mk k m ns n of) = decide (checkE (aloneT k m ns n) = 0)) := Lib.hid (by show (decide (n ≤ 12) && _) = _; rw [decide_eq_true (by omega)]; rfl)
    have mk := run_make4 n hn
    go_enter Try.func27, Try.ntmps27
    go_upto_region 3 with fail
    obtain ⟨w1, hw1⟩ : ∃ w1, w1 = w.alloc (.cells #[.int .u8 k, .int .i64 m, .slice a ns.length c, .slice a' n c'] 32) := ⟨_, rfl⟩
    rw [← hw1]
    have q1 : w1.heap[w.heap.size]? = some (.cells #[.int .u8 k, .int .i64 m, .slice a ns.length c, .slice a' n c'] 32 (0, 0)) := by rw [hw1]; exact heap_alloc_new _ _
    have f1 : Fr (fun _ => False) w w1 := by rw [hw1]; exact (Fr.refl _ _).alloc _
    have s1 : w.heap.size < w1.heap.size := lt_of_block q1
    have c3 := cells_row q1 3 _ rfl
    have z3 : w1.frozen? ⟨w.heap.size, 3, none⟩ = false := by simp [World.frozen?, q1]
    have n1 : w.heap.size ≠ w1.heap.size := by omega
    have n2 : w1.heap.size ≠ w.heap.size := by omega
    have Q1 := Lib.hid (And.intro q1 f1)
    clear hw1 q1 f1
    go_upto_region 4 with fail
    obtain ⟨w2, hw2⟩ : ∃ w2, w2 = (w1.setCell ⟨w.heap.size, 3, none⟩ (.slice (some ⟨w1.heap.size, 0, none⟩) n n)).alloc (.cells (madeCells tZero (n * 4)) 32) := ⟨_, rfl⟩
    rw [← hw2]
    have sz1 : (w1.setCell ⟨w.heap.size, 3, none⟩ (.slice (some ⟨w1.heap.size, 0, none⟩) n n)).heap.size = w1.heap.size := by simp [World.setCell]
    have f2 : Fr (fun k => k = w.heap.size) w1 w2 := by rw [hw2]; exact ((Fr.refl _ _).set1 _ _).alloc _
    have m2 : w2.heap[w1.heap.size]? = some (.cells (madeCells tZero (n * 4)) 32 (0, 0)) := by
      rw [hw2]
      have := heap_alloc_new (w1.setCell ⟨w.heap.size, 3, none⟩ (.slice (some ⟨w1.heap.size, 0, none⟩) n n)) (.cells (madeCells tZero (n * 4)) 32)
      rw [sz1] at this
      exact this
    have q2 : w2.heap[w.heap.size]? = some (.cells #[.int .u8 k, .int .i64 m, .slice a ns.length c, .slice (some ⟨w1.heap.size, 0, none⟩) n n] 32 (0, 0)) := by
      rw [hw2, Below.heap_alloc _ _ _ (by rw [sz1]; exact s1), setCell_row 3 _ Q1.out.1]
      rfl
    have F2 := Lib.hid (Q1.out.2.trans f2 (fun i hi h => by omega))
    have d0 := cells_row q2 0 _ rfl
    have d1 := cells_row q2 1 _ rfl
    have d2 := cells_row q2 2 _ rfl
    have d3 := cells_row q2 3 _ rfl
    have M2 := Lib.hid m2
    clear hw2 sz1 f2 m2 q2 c3 z3 n1 n2 mk
    obtain ⟨w4, hw4⟩ : ∃ w4, w4 = (w2.alloc (.cells #[.string ⟨#[116]⟩, .int .u8 k, .int .i64 m, .slice a ns.length c, .slice (some ⟨w1.heap.size, 0, none⟩) n n] 93)).alloc (.cells #[.string ⟨#[97]⟩, .int .i64 0, .int .i64 0, .slice (some ⟨w2.heap.size, 0, none⟩) 1 1, .slice none 0 0, .slice none 0 0] 98) := ⟨_, rfl⟩
    have f4 : Fr (fun _ => False) w2 w4 := by rw [hw4]; exact ((Fr.refl _ _).alloc _).alloc _
    have qa : w4.heap[w2.heap.size]? = some (.cells #[.string ⟨#[116]⟩, .int .u8 k, .int .i64 m, .slice a ns.length c, .slice (some ⟨w1.heap.size, 0, none⟩) n n] 93 (0, 0)) := by rw [hw4]; exact heap_alloc_first _ _ _
    have m4 := box_kept M2.out f4 (fun h => h)
    have ht4 := (HT.out.fr F2.out (fun _ _ h => h)).fr f4 (fun _ _ h => h)
    have htab : Tabled (fun _ => True) w4 (aloneT k m ns n) (.agg #[.string ⟨#[97]⟩, .int .i64 0, .int .i64 0, .slice (some ⟨w2.heap.size, 0, none⟩) 1 1, .slice none 0 0, .slice none 0 0]) := by
      refine ⟨_, _, _, rfl, by simp [aloneT], ⟨by simp [aloneT], by simp [aloneT], .inr ⟨w2.heap.size, 0, 1, trivial, rfl, Nat.le_refl _, fun i x hi => ?_⟩⟩, ⟨by simp [aloneT], by simp [aloneT], .inl ⟨rfl, _, _, rfl⟩⟩, ⟨by simp [aloneT], by simp [aloneT], .inl ⟨rfl, _, _, rfl⟩⟩⟩
      have hi0 := (List.getElem?_eq_some_iff.1 hi).1
      obtain rfl : i = 0 := by simpa [aloneT] using hi0
      simp [aloneT] at hi
      subst hi
      refine ⟨_, _, _, _, cells_row qa 0 _ rfl, cells_row qa 1 _ rfl, cells_row qa 2 _ rfl, cells_row qa 3 _ rfl, cells_row qa 4 _ rfl, _, _, rfl, hk, hn, ht4.mono (fun _ _ _ => trivial), .inr ⟨w1.heap.size, 0, n, trivial, rfl, Nat.le_refl _, fun i hi => ?_⟩⟩
      have hcell : ∀ j, j < 4 → w4.cell? ⟨w1.heap.size, 0 + i * 4 + j, none⟩ = tZero[j]? := fun j hj => by
        rw [cell_of_row w4 _ _ _ _ _ m4, Nat.zero_add, made_cell n i j hi hj]
      exact ⟨_, _, _, _, hcell 0 (by omega), hcell 1 (by omega), hcell 2 (by omega), hcell 3 (by omega), zero_shows _ _⟩
    have hck := check_any (fun _ => True) (aloneT k m ns n) _ w4 htab
    have F4 := Lib.hid (F2.out.trans f4 (fun _ _ h => h))
    have HW4 := Lib.hid hw4
    clear f4 qa m4 ht4 htab
    rw [hw4] at hck
    clear hw4
    go_wp2_with fail
    refine hck.mono ?_
    rintro e w5 ⟨rfl, f5⟩
    rw [← HW4.out] at f5
    have F5 := Lib.hid (F4.out.trans f5 (fun _ _ h => h))
    clear f5 hck d0 d1 d2 d3
    obtain ⟨E0, hE0⟩ : ∃ E0, E0 = checkE (aloneT k m ns n) := ⟨_, rfl⟩
    have EE := Lib.hid (E.out.trans (show _ = decide (E0 = 0) by rw [hE0]))
    rw [← hE0]
    clear hE0
    go_wp2
    go_ret
    refine ⟨ret_bool ?_, F5.out⟩
    rw [EE.out, Bool.eq_iff_iff]
    simp

end Go.Proofs.Ythokfmmbiilllaa

/-
  package value: the survey of a type: whether it and all its parts are right alone.
-/
namespace Go.Proofs.Ythokfmmbiilllaa
open Go.RowKit

/-- The parts in order, as long as all are right. -/
def surveyL (f : Nat → Nat → Bool × Nat) : Nat → Nat → Bool × Nat
  | 0, p => (true, p)
  | j + 1, p => if (surveyL f j p).1 then f j (surveyL f j p).2 else surveyL f j p

/-- Is it right, and how many types were begun by then? -/
def surveyE : KT → Nat → Nat → Bool × Nat
  | .nil, _, p => (false, p)
  | .mk k m ns n of, lv, p =>
    if 1048576 < p + 1 ∨ lv = 0 ∨ aloneE (.mk k m ns n of) = false then (false, p + 1)
    else surveyL (fun i => surveyE (of i) (lv - 1)) n (p + 1)

theorem surveyL_le (f : Nat → Nat → Bool × Nat) (h : ∀ i p, p ≤ 1048576 → (f i p).1 = true → (f i p).2 ≤ 1048576) (j p : Nat) (hp : p ≤ 1048576) : (surveyL f j p).1 = true → (surveyL f j p).2 ≤ 1048576 := by
  induction j with
  | zero => intro _; exact hp
  | succ j ih =>
    unfold surveyL
    split
    · intro h1
      exact h j _ (ih ‹_›) h1
    · intro h1
      exact ih h1

theorem surveyE_le (t : KT) : ∀ lv p, p ≤ 1048576 → (surveyE t lv p).1 = true → (surveyE t lv p).2 ≤ 1048576 := by
  induction t with
  | nil => intro lv p hp h; exact hp
  | mk k m ns n of ih =>
    intro lv p hp
    unfold surveyE
    split
    · intro h; cases h
    · exact surveyL_le _ (fun i q hq => ih i _ q hq) n (p + 1) (by omega)

theorem surveyL_stop (f : Nat → Nat → Bool × Nat) (n j p : Nat) (hj : j < n) (h : (surveyL f (j + 1) p).1 = false) : surveyL f n p = surveyL f (j + 1) p := by
  induction n with
  | zero => omega
  | succ n ih =>
    by_cases e : j = n
    · subst e; rfl
    · rw [surveyL, ih (by omega), h]
      rfl

set_option maxRecDepth 100000 in
set_option maxHeartbeats 16000000 in
theorem survey_any (t : KT) : ∀ (R : Nat → Prop) (v : Value) (w : World) (b lv : Nat) (lz : Int) (p : Nat), lz = lv → lv ≤ 1000 → p ≤ 1048576 → ¬ R b → Shows R w t v → w.heap[b]? = some (.cells #[.int .i64 (p : Nat)] 61 (0, 0)) →
    Calls Try.prog 17 #[.pointer (some ⟨b, 0, none⟩), v, .int .i64 lz] w fun e w' => e = .returned (.bool (surveyE t lv p).1) ∧ Fr (fun k => k = b) w w' ∧ w'.heap[b]? = some (.cells #[.int .i64 ((surveyE t lv p).2 : Nat)] 61 (0, 0)) := by
  induction t with
  | nil => exact fun _ _ _ _ _ _ _ _ _ _ _ h => h.elim
  | mk k m ns n of ih =>
  intro R v w b lv lz p hlz hlv hp hRb hsh hb
  have HSH := Lib.hid hsh
  obtain ⟨vn, vo, rfl, hk, hn, ht, ho⟩ := hsh
  obtain ⟨a, c, rfl, _⟩ := ht.shape
  obtain ⟨a', c', rfl, hs⟩ : ∃ a' c', vo = .slice a' n c' ∧ Kids R w of a' n c' := by
    rcases ho with ⟨rfl, a', c', rfl⟩ | ⟨g, off, cap, hg, rfl, hle, hc⟩
    · exact ⟨a', c', rfl, .inl rfl⟩
    · exact ⟨_, cap, rfl, .inr ⟨hle, g, off, hg, rfl, hc⟩⟩
  have HS := Lib.hid hs
  have HLZ := Lib.hid hlz
  have HB := Lib.hid hb
  have HRB := Lib.hid hRb
  have hbl : b < w.heap.size := lt_of_block hb
  have r0 := cells_row hb 0 _ rfl
  have z0 : w.frozen? ⟨b, 0, none⟩ = false := by simp [World.frozen?, hb]
  have n1 : b ≠ w.heap.size := by omega
  have n2 : w.heap.size ≠ b := by omega
  have lz0 : 0 ≤ lz := by omega
  have lz1 : lz ≤ 1000 := by omega
  clear ho hs hlz hb ht hRb
  go_enter Try.func17, Try.ntmps17
  go_upto_region 2 with fail
  obtain ⟨w1, hw1⟩ : ∃ w1, w1 = (w.setCell ⟨b, 0, none⟩ (.int .i64 ((p : Int) + 1))).alloc (.cells #[.int .u8 k, .int .i64 m, .slice a ns.length c, .slice a' n c'] 32) := ⟨_, rfl⟩
  rw [← hw1]
  have sz1 : (w.setCell ⟨b, 0, none⟩ (.int .i64 ((p : Int) + 1))).heap.size = w.heap.size := by simp [World.setCell]
  have f1 : Fr (fun k => k = b) w w1 := by rw [hw1]; exact ((Fr.refl _ _).set1 _ _).alloc _
  have q1 : w1.heap[w.heap.size]? = some (.cells #[.int .u8 k, .int .i64 m, .slice a ns.length c, .slice a' n c'] 32 (0, 0)) := by
    rw [hw1]
    have := heap_alloc_new (w.setCell ⟨b, 0, none⟩ (.int .i64 ((p : Int) + 1))) (.cells #[.int .u8 k, .int .i64 m, .slice a ns.length c, .slice a' n c'] 32)
    rw [sz1] at this
    exact this
  have b1 : w1.heap[b]? = some (.cells #[.int .i64 ((p + 1 : Nat) : Int)] 61 (0, 0)) := by
    rw [hw1, Below.heap_alloc _ _ _ (by rw [sz1]; exact hbl), setCell_row 0 _ HB.out]
    simp
  obtain ⟨q, hq⟩ : ∃ q : Nat, p + 1 = q := ⟨_, rfl⟩
  rw [hq] at b1
  have HQ := Lib.hid hq
  have HP := Lib.hid hp
  have r1 := cells_row b1 0 _ rfl
  have c3 := cells_row q1 3 _ rfl
  have c0 := cells_row q1 0 _ rfl
  have c1 := cells_row q1 1 _ rfl
  have c2 := cells_row q1 2 _ rfl
  have Q1 := Lib.hid (And.intro q1 (And.intro b1 f1))
  clear hw1 sz1 f1 q1 b1 r0 z0 n1 n2 hq hp
  by_cases h1 : 1048576 < q
  · have h1' : 1048576 < (q : Int) := by omega
    have E : Hid (surveyE (.mk k m ns n of) lv p = (false, q)) := Lib.hid (by rw [surveyE, HQ.out, if_pos (.inl h1)])
    clear h1
    go_wp2
    go_ret
    rw [E.out]
    exact ⟨rfl, Q1.out.2.2, Q1.out.2.1⟩
  have h1' : ¬ 1048576 < (q : Int) := by omega
  by_cases h2 : lv = 0
  · have h2' : lz = 0 := by have := HLZ.out; omega
    have E : Hid (surveyE (.mk k m ns n of) lv p = (false, q)) := Lib.hid (by rw [surveyE, HQ.out, if_pos (.inr (.inl h2))])
    clear h1 h2
    subst h2'
    go_wp2
    go_ret
    rw [E.out]
    exact ⟨rfl, Q1.out.2.2, Q1.out.2.1⟩
  have h2' : ¬ lz = 0 := by have := HLZ.out; omega
  have b2' : (lz == 0) = false := by simpa using h2'
  have H12 := Lib.hid (And.intro h1 h2)
  clear h1 h2
  have hal := alone_any R (.mk k m ns n of) _ w1 (Shows.fr Q1.out.2.2 (fun k hk e => HRB.out (by rw [← e]; exact hk)) _ _ HSH.out)
  cases hB : aloneE (.mk k m ns n of) with
  | false =>
    have E : Hid (surveyE (.mk k m ns n of) lv p = (false, q)) := Lib.hid (by rw [surveyE, HQ.out, if_pos (.inr (.inr hB))])
    rw [hB] at hal
    clear hB
    go_wp2_with fail
    refine hal.mono ?_
    rintro e w2 ⟨rfl, f2⟩
    have F2 := Lib.hid f2
    clear f2 hal
    go_wp2
    go_ret
    rw [E.out]
    exact ⟨rfl, Q1.out.2.2.trans F2.out (fun i _ h => h.elim), box_kept Q1.out.2.1 F2.out (fun h => h)⟩
  | true =>
    have E : Hid (surveyE (.mk k m ns n of) lv p = surveyL (fun i => surveyE (of i) (lv - 1)) n q) := Lib.hid (by rw [surveyE, HQ.out, if_neg (by rw [hB]; have := H12.out; simp; omega)])
    rw [hB] at hal
    clear hB
    go_wp2_with fail
    refine hal.mono ?_
    rintro e w2 ⟨rfl, f2⟩
    have q2 := box_kept Q1.out.1 f2 (fun h => h)
    have e3 := cells_row q2 3 _ rfl
    have F2 := Lib.hid (And.intro (Q1.out.2.2.trans f2 (fun i _ h => h.elim)) (And.intro q2 (box_kept Q1.out.2.1 f2 (fun h => h))))
    clear f2 hal q2 c0 c1 c2 c3 r1
    go_wp2
    clear e3
    obtain ⟨f, hf⟩ : ∃ f : Nat → Nat → Bool × Nat, f = (fun i => surveyE (of i) (lv - 1)) := ⟨_, rfl⟩
    have HF := Lib.hid hf
    have E2 : Hid (surveyE (.mk k m ns n of) lv p = surveyL f n q) := Lib.hid (by rw [E.out, hf])
    clear hf
    go_loopg [8, 33] n (fun G u8 u33 wr => ∃ j : Nat, j ≤ n ∧ G = n - j ∧ u33 = .int .i64 j ∧ Hid ((surveyL f j q).1 = true ∧ (surveyL f j q).2 ≤ 1048576 ∧ Fr (fun k => k = b) w wr ∧ wr.heap[b]? = some (.cells #[.int .i64 ((surveyL f j q).2 : Nat)] 61 (0, 0))))
    case atStart => exact ⟨0, Nat.zero_le _, rfl, by go_num, Lib.hid ⟨rfl, by have := H12.out; show q ≤ _; omega, F2.out.1, F2.out.2.2⟩⟩
    case round =>
      obtain ⟨j, hj, rfl, rfl, HI⟩ := hrel
      by_cases hlt : j < n
      · rcases HS.out with hz | ⟨hcap, g, off, hg, rfl, hcell⟩
        · omega
        have hgb : ∀ k, R k → ¬ k = b := fun k hk e => HRB.out (by rw [← e]; exact hk)
        obtain ⟨x0, x1, x2, x3, y0, y1, y2, y3, hx⟩ := hcell j hlt
        have y0 := cell_fr HI.out.2.2.1 hgb hg y0
        have y1 := cell_fr HI.out.2.2.1 hgb hg y1
        have y2 := cell_fr HI.out.2.2.1 hgb hg y2
        have y3 := cell_fr HI.out.2.2.1 hgb hg y3
        obtain ⟨xk, xm, xa, xn, xc, xa', xn', xc', rfl, rfl, rfl, rfl⟩ := hx.cells
        obtain ⟨wz, hwz⟩ : ∃ wz, wz = wr.alloc (.cells #[.int .u8 xk, .int .i64 xm, .slice xa xn xc, .slice xa' xn' xc'] 32) := ⟨_, rfl⟩
        have fz : Fr (fun k => k = b) wr wz := by rw [hwz]; exact (Fr.refl _ _).alloc _
        have bz : wz.heap[b]? = some (.cells #[.int .i64 ((surveyL f j q).2 : Nat)] 61 (0, 0)) := by
          rw [hwz, Below.heap_alloc _ _ _ (lt_of_block HI.out.2.2.2)]; exact HI.out.2.2.2
        have hxz := Shows.fr fz hgb _ _ (Shows.fr HI.out.2.2.1 hgb _ _ hx)
        have hrec := ih j R _ wz b (lv - 1) (lz - 1) ((surveyL f j q).2) (by have := HLZ.out; have := H12.out; omega) (by omega) HI.out.2.1 HRB.out hxz bz
        have e1 : surveyE (of j) (lv - 1) (surveyL f j q).2 = surveyL f (j + 1) q := by
          have h1 : f j (surveyL f j q).2 = surveyE (of j) (lv - 1) (surveyL f j q).2 := by rw [HF.out]
          rw [← h1, surveyL, if_pos HI.out.1]
        rw [e1] at hrec
        have hle : (surveyL f (j + 1) q).1 = true → (surveyL f (j + 1) q).2 ≤ 1048576 := surveyL_le f (by rw [HF.out]; exact fun i q hq => surveyE_le (of i) _ q hq) _ _ (by have := H12.out; omega)
        have HLE := Lib.hid hle
        have FZ := Lib.hid (HI.out.2.2.1.trans fz (fun _ _ h => h))
        have HLT := Lib.hid hlt
        rw [hwz] at hrec
        have HWZ := Lib.hid hwz
        clear hcell hx hxz bz fz hwz e1 hle
        cases hB : (surveyL f (j + 1) q).1 with
        | true =>
          rw [hB] at hrec
          have HB2 := Lib.hid hB
          clear hB
          go_wp2_with fail
          refine hrec.mono ?_
          rintro e w5 ⟨rfl, f5, b5⟩
          rw [← HWZ.out] at f5
          have F5 := Lib.hid (And.intro f5 b5)
          clear f5 b5 hrec
          go_wp2
          go_roundg (n - (j + 1))
          case measure => omega
          case rel => exact ⟨j + 1, by omega, rfl, by go_num, Lib.hid ⟨HB2.out, HLE.out HB2.out, FZ.out.trans F5.out.1 (fun _ _ h => h), F5.out.2⟩⟩
        | false =>
          have E3 : Hid (surveyE (.mk k m ns n of) lv p = surveyL f (j + 1) q) := Lib.hid (by rw [E2.out]; exact surveyL_stop f n j _ hlt hB)
          have HB2 := Lib.hid hB
          rw [hB] at hrec
          clear hB
          go_wp2_with fail
          refine hrec.mono ?_
          rintro e w5 ⟨rfl, f5, b5⟩
          rw [← HWZ.out] at f5
          have F5 := Lib.hid (And.intro f5 b5)
          clear f5 b5 hrec
          go_wp2
          go_ret
          rw [E3.out]
          exact ⟨ret_bool HB2.out.symm, FZ.out.trans F5.out.1 (fun _ _ h => h), F5.out.2⟩
      · obtain rfl : j = n := by omega
        go_wp2
        go_ret
        rw [E2.out]
        exact ⟨ret_bool HI.out.1.symm, HI.out.2.2.1, HI.out.2.2.2⟩

end Go.Proofs.Ythokfmmbiilllaa

/-
  Which types are right alone, by their parts; what is built of a type and of numbers, as plain functions.
-/
namespace Go.Proofs.Ythokfmmbiilllaa
open Go.RowKit

theorem firstE_zero (n : Nat) (f : Nat → Nat) (h : ∀ i, i < n → f i = 0) : firstE f n = 0 := by
  induction n with
  | zero => rfl
  | succ n ih => exact firstE_step f n (ih (fun i hi => h i (by omega))) (h n (by omega))

/-- Are a type's own kind, length and names right? -/
def ownOK (k : Nat) (m : Int) (ns : List Txt) (n : Nat) : Bool := decide (k ≤ 8) && sizedB k m && formedB k ns.length n && (if k = 6 ∨ k = 7 ∨ k = 8 then decide (checkNamesE ns = 0) else true)

theorem check_alone (k : Nat) (m : Int) (ns : List Txt) (n : Nat) : checkE (aloneT k m ns n) = rightE [] (.mk k m ns n (fun _ => zeroT)) 5 := by
  have h0 : aliasE (aloneT k m ns n).types 0 = rightE [] (.mk k m ns n (fun _ => zeroT)) 5 := by
    unfold aliasE aloneT
    simp only [List.take_zero, List.map_nil]
    have : nameE [] [116] = 0 := by kernel_rfl
    rw [show (([([116], KT.mk k m ns n (fun _ => zeroT))] : List (Txt × KT)).getD 0 ([], .nil)) = ([116], KT.mk k m ns n (fun _ => zeroT)) from rfl, if_pos this]
  have h1 : firstE (aliasE (aloneT k m ns n).types) (aloneT k m ns n).types.length = rightE [] (.mk k m ns n (fun _ => zeroT)) 5 := by
    show firstE (aliasE (aloneT k m ns n).types) 1 = _
    rw [firstE, if_pos (by rfl), h0]
  unfold checkE
  have n1 : named (aloneT k m ns n).name = true := by
    have : named [97] = true := by kernel_rfl
    exact this
  rw [n1, h1]
  have v1 : validN (aloneT k m ns n).number = true := rfl
  have v2 : validN (aloneT k m ns n).version = true := rfl
  rw [v1, v2]
  simp only [Bool.not_true, Bool.or_self, Bool.false_eq_true, if_false]
  rw [if_neg (by simp [aloneT])]
  split
  · rfl
  · rename_i h
    have h' : rightE [] (.mk k m ns n (fun _ => zeroT)) 5 = 0 := by simpa using h
    rw [h']
    rfl

theorem right_own (k : Nat) (m : Int) (ns : List Txt) (n : Nat) : decide (rightE [] (.mk k m ns n (fun _ => zeroT)) 5 = 0) = ownOK k m ns n := by
  have hz : firstE (fun _ => rightE [] zeroT 4) n = 0 := firstE_zero n _ (fun _ _ => by kernel_rfl)
  by_cases hk : 10 ≤ k
  · rw [rightE, if_pos (.inl hk)]
    unfold ownOK
    rw [decide_eq_false (by omega : ¬ k ≤ 8)]
    rfl
  · rw [rightE, if_neg (by omega)]
    unfold ownOK
    by_cases hs : sizedB k m = true
    · rw [hs]
      by_cases hf : formedB k ns.length n = true
      · rw [hf]
        simp only [Bool.not_true, Bool.false_eq_true, if_false, Bool.and_true]
        by_cases h9 : k = 9
        · subst h9
          have : (if standsN [] ns < 0 then 10 else 0) = 10 := by
            rw [if_pos]
            unfold standsN
            split
            · unfold firstAt; rw [if_neg (by simp)]; decide
            · decide
          simp [this]
        · by_cases h6 : k = 6 ∨ k = 7 ∨ k = 8
          · simp only [if_pos h6]
            rw [decide_eq_true (by omega : k ≤ 8), Bool.true_and]
            by_cases hc : checkNamesE ns = 0
            · rw [hc]; simp only [if_true]; rw [hz]; simp
            · simp [hc]
          · simp only [if_neg h6, if_neg h9]
            rw [decide_eq_true (by omega : k ≤ 8), if_pos trivial, hz]
            rfl
      · simp [hf]
    · simp [hs]

theorem alone_own (k : Nat) (m : Int) (ns : List Txt) (n : Nat) (of : Nat → KT) : aloneE (.mk k m ns n of) = (decide (n ≤ 12) && ownOK k m ns n) := by
  show (decide (n ≤ 12) && decide (checkE (aloneT k m ns n) = 0)) = _
  rw [check_alone, right_own]

/-- All types in it are right alone. -/
def goodE : KT → Prop
  | .nil => False
  | .mk k m ns n of => (n ≤ 12 ∧ ownOK k m ns n = true) ∧ ∀ i, i < n → goodE (of i)

theorem surveyL_good (f : Nat → Nat → Bool × Nat) (j p : Nat) : (surveyL f j p).1 = true → ∀ i, i < j → ∃ q, (f i q).1 = true := by
  induction j with
  | zero => intro _ i hi; omega
  | succ j ih =>
    unfold surveyL
    split
    · intro h i hi
      by_cases e : i = j
      · subst e; exact ⟨_, h⟩
      · exact ih ‹_› i (by omega)
    · intro h
      exact absurd h ‹_›

theorem survey_good (t : KT) : ∀ lv p, (surveyE t lv p).1 = true → goodE t := by
  induction t with
  | nil => intro lv p h; exact absurd h (by simp [surveyE])
  | mk k m ns n of ih =>
    intro lv p h
    unfold surveyE at h
    split at h
    · cases h
    · rename_i hc
      have ha : aloneE (.mk k m ns n of) = true := by
        cases hB : aloneE (.mk k m ns n of) with
        | true => rfl
        | false => exact absurd (.inr (.inr hB)) hc
      rw [alone_own, Bool.and_eq_true, decide_eq_true_eq] at ha
      refine ⟨ha, fun i hi => ?_⟩
      obtain ⟨q, hq⟩ := surveyL_good _ n _ h i hi
      exact ih i _ _ hq

/-- What a type that is right alone is like. -/
theorem own_facts {k : Nat} {m : Int} {ns : List Txt} {n : Nat} (h : ownOK k m ns n = true) : k ≤ 8 ∧ (k = 4 ∨ k = 5 → 1 ≤ m ∧ m ≤ 60) ∧ (k = 5 → n = 1) ∧ (k = 6 ∨ k = 8 → n = ns.length) ∧ (k = 6 ∨ k = 7 ∨ k = 8 → 1 ≤ ns.length ∧ ns.length ≤ 12) ∧ (¬ (k = 5 ∨ k = 6 ∨ k = 8) → n = 0) := by
  unfold ownOK at h
  simp only [Bool.and_eq_true, decide_eq_true_eq] at h
  obtain ⟨⟨⟨hk, hs⟩, hf⟩, hc⟩ := h
  unfold sizedB at hs
  unfold formedB at hf
  refine ⟨hk, fun h => ?_, fun h => ?_, fun h => ?_, fun h => ?_, fun h => ?_⟩
  · rw [if_pos h] at hs; simpa using hs
  · rw [if_pos h] at hf; simp at hf; exact hf.2
  · rw [if_neg (by omega), if_pos h] at hf; simpa using hf
  · rw [if_pos h] at hc
    simp only [decide_eq_true_eq] at hc
    unfold checkNamesE at hc
    by_cases hl : ns.length < 1 ∨ 12 < ns.length
    · rw [if_pos hl] at hc; cases hc
    · omega
  · rw [if_neg (by omega), if_neg (by omega)] at hf
    split at hf
    · simpa using hf
    · split at hf
      · simp at hf; exact hf.2
      · simp at hf; exact hf.2

/-- The next number. -/
def numE (l : List Int) (tk : Nat) : Int := if l = [] then 0 else l.getD (tk % l.length) 0

def nextE (l : List Int) (tk : Nat) : Nat := if l = [] then tk else tk + 1

/-- A value that is a number alone. -/
def vnum (x : Int) : VT := .mk x 0 [] 0 (fun _ => .nil)

/-- Thirty-two bits, with a sign. -/
def long32 (x : Int) : Int := if x < 2147483648 then x else x - 4294967296

/-- So many letters. -/
def lettersE (n : Nat) : Txt := (List.range n).map fun i => UInt8.ofNat (97 + i % 26)

/-- Parts that are built one behind the other. -/
def partsL (f : Nat → Nat × Nat → VT × (Nat × Nat)) : Nat → Nat × Nat → List VT × (Nat × Nat)
  | 0, s => ([], s)
  | j + 1, s => ((partsL f j s).1 ++ [(f j (partsL f j s).2).1], (f j (partsL f j s).2).2)

def listV (L : List VT) : VT := .mk 0 0 [] L.length (fun i => L.getD i .nil)

/-- WHAT IS BUILT, and how many numbers were taken and values begun by then. -/
def buildE (l : List Int) : KT → Nat × Nat → VT × (Nat × Nat)
  | .nil, s => (.nil, s)
  | .mk k m ns n of, s =>
    if k = 0 then (vnum (numE l s.1 % 2), nextE l s.1, s.2 + 1)
    else if k = 1 then (vnum (numE l s.1 % 65536), nextE l s.1, s.2 + 1)
    else if k = 2 then (vnum (long32 (numE l s.1 % 4294967296)), nextE l s.1, s.2 + 1)
    else if k = 3 then (.mk 0 (floatOfInt .f64 (numE l s.1)) [] 0 (fun _ => .nil), nextE l s.1, s.2 + 1)
    else if k = 4 then (.mk 0 0 (lettersE (numE l s.1 % (m + 1)).toNat) 0 (fun _ => .nil), nextE l s.1, s.2 + 1)
    else if k = 5 then
      if 100 < s.2 + 1 then (listV [], s.1, s.2 + 1)
      else
        let r := partsL (fun _ q => buildE l (of 0) q) (min (numE l s.1 % 4) m).toNat (nextE l s.1, s.2 + 1)
        (listV r.1, r.2)
    else if k = 6 then
      let r := partsL (fun i q => buildE l (of i) q) n (s.1, s.2 + 1)
      (listV r.1, r.2)
    else if k = 7 then (vnum (numE l s.1 % ns.length), nextE l s.1, s.2 + 1)
    else
      let r := buildE l (of (numE l s.1 % n).toNat) (nextE l s.1, s.2 + 1)
      (.mk (numE l s.1 % n) 0 [] 1 (fun _ => r.1), r.2)

theorem buildE_record (l : List Int) (m : Int) (ns : List Txt) (n : Nat) (of : Nat → KT) (s : Nat × Nat) : buildE l (.mk 6 m ns n of) s = (listV (partsL (fun i q => buildE l (of i) q) n (s.1, s.2 + 1)).1, (partsL (fun i q => buildE l (of i) q) n (s.1, s.2 + 1)).2) := by
  rw [buildE, if_neg (by decide), if_neg (by decide), if_neg (by decide), if_neg (by decide), if_neg (by decide), if_neg (by decide), if_pos rfl]

theorem buildE_none (l : List Int) (m : Int) (ns : List Txt) (n : Nat) (of : Nat → KT) (s : Nat × Nat) (h : 100 < s.2 + 1) : buildE l (.mk 5 m ns n of) s = (listV [], s.1, s.2 + 1) := by
  rw [buildE, if_neg (by decide), if_neg (by decide), if_neg (by decide), if_neg (by decide), if_neg (by decide), if_pos rfl, if_pos h]

theorem buildE_seq (l : List Int) (m : Int) (ns : List Txt) (n : Nat) (of : Nat → KT) (s : Nat × Nat) (h : ¬ 100 < s.2 + 1) : buildE l (.mk 5 m ns n of) s = (listV (partsL (fun _ q => buildE l (of 0) q) (min (numE l s.1 % 4) m).toNat (nextE l s.1, s.2 + 1)).1, (partsL (fun _ q => buildE l (of 0) q) (min (numE l s.1 % 4) m).toNat (nextE l s.1, s.2 + 1)).2) := by
  rw [buildE, if_neg (by decide), if_neg (by decide), if_neg (by decide), if_neg (by decide), if_neg (by decide), if_pos rfl, if_neg h]

theorem buildE_choice (l : List Int) (m : Int) (ns : List Txt) (n : Nat) (of : Nat → KT) (s : Nat × Nat) : buildE l (.mk 8 m ns n of) s = (.mk (numE l s.1 % n) 0 [] 1 (fun _ => (buildE l (of (numE l s.1 % n).toNat) (nextE l s.1, s.2 + 1)).1), (buildE l (of (numE l s.1 % n).toNat) (nextE l s.1, s.2 + 1)).2) := by
  rw [buildE, if_neg (by decide), if_neg (by decide), if_neg (by decide), if_neg (by decide), if_neg (by decide), if_neg (by decide), if_neg (by decide), if_neg (by decide)]

/-- How many values are built at most. -/
def costE : KT → Nat
  | .nil => 1
  | .mk k _ _ n of => 1 + (if k = 5 then 3 * costE (of 0) else ((List.range n).map fun i => costE (of i)).sum)

theorem partsL_length (f : Nat → Nat × Nat → VT × (Nat × Nat)) (j : Nat) (s : Nat × Nat) : (partsL f j s).1.length = j := by
  induction j with
  | zero => rfl
  | succ j ih => simp [partsL, ih]

end Go.Proofs.Ythokfmmbiilllaa

/-
  How many numbers are taken, and values begun, at most, while a type's value is built; how large it is.
-/
namespace Go.Proofs.Ythokfmmbiilllaa
open Go.RowKit

def sumTo (c : Nat → Nat) (j : Nat) : Nat := ((List.range j).map c).sum

theorem sumTo_succ (c : Nat → Nat) (j : Nat) : sumTo c (j + 1) = sumTo c j + c j := by
  unfold sumTo; rw [List.range_succ, List.map_append, List.sum_append]; simp

theorem sumTo_le (c : Nat → Nat) (j n : Nat) (h : j < n) : sumTo c j + c j ≤ sumTo c n := by
  induction n with
  | zero => omega
  | succ n ih =>
    rw [sumTo_succ]
    by_cases e : j = n
    · subst e; exact Nat.le_refl _
    · have := ih (by omega); omega

theorem sumTo_mono (c : Nat → Nat) (j n : Nat) (h : j ≤ n) : sumTo c j ≤ sumTo c n := by
  by_cases e : j = n
  · subst e; exact Nat.le_refl _
  · have := sumTo_le c j n (by omega); omega

theorem sumTo_const (c j : Nat) : sumTo (fun _ => c) j = j * c := by
  induction j with
  | zero => simp [sumTo]
  | succ j ih => rw [sumTo_succ, ih, Nat.add_mul]; omega

theorem partsL_le (f : Nat → Nat × Nat → VT × (Nat × Nat)) (c : Nat → Nat) (n : Nat) (h : ∀ i s, i < n → (f i s).2.1 ≤ s.1 + c i ∧ (f i s).2.2 ≤ s.2 + c i) (s : Nat × Nat) :
    ∀ j, j ≤ n → (partsL f j s).2.1 ≤ s.1 + sumTo c j ∧ (partsL f j s).2.2 ≤ s.2 + sumTo c j := by
  intro j
  induction j with
  | zero => intro _; exact ⟨by simp [partsL], by simp [partsL]⟩
  | succ j ih =>
    intro hj
    have h1 := ih (by omega)
    have h2 := h j (partsL f j s).2 (by omega)
    rw [sumTo_succ]
    simp only [partsL]
    omega

theorem szV_list (L : List VT) : szV (listV L) = 1 + (L.map szV).sum := by
  unfold listV
  rw [szV]
  congr 1
  have : ((List.range L.length).map fun i => szV (L.getD i .nil)) = L.map szV := by
    apply List.ext_getElem
    · simp
    · intro i h1 h2
      simp at h1
      simp [List.getD, h1]
  rw [this]

theorem partsL_sz (f : Nat → Nat × Nat → VT × (Nat × Nat)) (c : Nat → Nat) (n : Nat) (h : ∀ i s, i < n → szV (f i s).1 ≤ c i) (s : Nat × Nat) : ∀ j, j ≤ n → ((partsL f j s).1.map szV).sum ≤ sumTo c j := by
  intro j
  induction j with
  | zero => intro _; simp [partsL, sumTo]
  | succ j ih =>
    intro hj
    have h1 := ih (by omega)
    have h2 := h j (partsL f j s).2 (by omega)
    rw [sumTo_succ]
    simp only [partsL, List.map_append, List.sum_append, List.map_cons, List.map_nil, List.sum_cons, List.sum_nil]
    omega

theorem nextE_le (l : List Int) (tk : Nat) : nextE l tk ≤ tk + 1 := by unfold nextE; split <;> omega

/-- How often a Seq's part is built. -/
theorem seq_times (x m : Int) : (min (x % 4) m).toNat ≤ 3 := by
  have h1 := Int.emod_lt_of_pos x (show (0 : Int) < 4 by omega)
  omega

theorem choice_index (x : Int) (n : Nat) (hn : 1 ≤ n) : (x % (n : Int)).toNat < n := by
  have h1 := Int.emod_lt_of_pos x (show (0 : Int) < (n : Int) by omega)
  have h2 := Int.emod_nonneg x (show (n : Int) ≠ 0 by omega)
  omega

theorem cost_parts (k : Nat) (m : Int) (ns : List Txt) (n : Nat) (of : Nat → KT) (h : k ≠ 5) : costE (.mk k m ns n of) = 1 + sumTo (fun i => costE (of i)) n := by
  rw [costE, if_neg h]; rfl

theorem cost_seq (m : Int) (ns : List Txt) (n : Nat) (of : Nat → KT) : costE (.mk 5 m ns n of) = 1 + 3 * costE (of 0) := by
  rw [costE, if_pos rfl]

theorem build_le (l : List Int) (t : KT) : goodE t → ∀ s, ((buildE l t s).2.1 ≤ s.1 + costE t ∧ (buildE l t s).2.2 ≤ s.2 + costE t) ∧ szV (buildE l t s).1 ≤ costE t := by
  induction t with
  | nil => exact fun h => h.elim
  | mk k m ns n of ih =>
    intro hg s
    obtain ⟨⟨hn12, hown⟩, hkids⟩ := hg
    obtain ⟨hk8, hmost, hone, hparts, hnames, hnone⟩ := own_facts hown
    have hnx := nextE_le l s.1
    have hone' : 1 ≤ costE (.mk k m ns n of) := by unfold costE; omega
    have hleaf : ∀ x f tx, szV (.mk x f tx 0 (fun _ => .nil)) = 1 := fun _ _ _ => by simp [szV]
    unfold buildE
    split
    · refine ⟨?_, ?_⟩
      · show nextE l s.1 ≤ _ ∧ s.2 + 1 ≤ _
        omega
      · rw [show szV (vnum (numE l s.1 % 2)) = 1 from hleaf _ _ _]; exact hone'
    split
    · refine ⟨?_, ?_⟩
      · show nextE l s.1 ≤ _ ∧ s.2 + 1 ≤ _
        omega
      · rw [show szV (vnum (numE l s.1 % 65536)) = 1 from hleaf _ _ _]; exact hone'
    split
    · refine ⟨?_, ?_⟩
      · show nextE l s.1 ≤ _ ∧ s.2 + 1 ≤ _
        omega
      · rw [show szV (vnum (long32 (numE l s.1 % 4294967296))) = 1 from hleaf _ _ _]; exact hone'
    split
    · refine ⟨?_, ?_⟩
      · show nextE l s.1 ≤ _ ∧ s.2 + 1 ≤ _
        omega
      · show szV (.mk _ _ _ 0 _) ≤ _
        rw [hleaf]; exact hone'
    split
    · refine ⟨?_, ?_⟩
      · show nextE l s.1 ≤ _ ∧ s.2 + 1 ≤ _
        omega
      · show szV (.mk _ _ _ 0 _) ≤ _
        rw [hleaf]; exact hone'
    split
    · rename_i h5
      subst h5
      rw [cost_seq]
      split
      · refine ⟨?_, ?_⟩
        · show s.1 ≤ _ ∧ s.2 + 1 ≤ _
          omega
        · rw [szV_list]; simp
      · have hj := seq_times (numE l s.1) m
        have h0 : 0 < n := by have := hone rfl; omega
        have hi := fun s => ih 0 (hkids 0 h0) s
        have a := partsL_le (fun _ q => buildE l (of 0) q) (fun _ => costE (of 0)) 3 (fun i s _ => (hi s).1) (nextE l s.1, s.2 + 1) _ hj
        have b := partsL_sz (fun _ q => buildE l (of 0) q) (fun _ => costE (of 0)) 3 (fun i s _ => (hi s).2) (nextE l s.1, s.2 + 1) _ hj
        have c := sumTo_mono (fun _ => costE (of 0)) _ _ hj
        rw [sumTo_const (costE (of 0)) 3] at c
        refine ⟨?_, ?_⟩
        · have a1 := a.1
          have a2 := a.2
          simp only at a1 a2 ⊢
          omega
        · simp only
          rw [szV_list]
          omega
    split
    · rename_i h6
      have hk5 : k ≠ 5 := by omega
      rw [cost_parts _ _ _ _ _ hk5]
      have a := partsL_le (fun i q => buildE l (of i) q) (fun i => costE (of i)) n (fun i s hi => (ih i (hkids i hi) s).1) (s.1, s.2 + 1) n (Nat.le_refl _)
      have b := partsL_sz (fun i q => buildE l (of i) q) (fun i => costE (of i)) n (fun i s hi => (ih i (hkids i hi) s).2) (s.1, s.2 + 1) n (Nat.le_refl _)
      refine ⟨?_, ?_⟩
      · have a1 := a.1
        have a2 := a.2
        simp only at a1 a2 ⊢
        omega
      · simp only
        rw [szV_list]
        omega
    split
    · refine ⟨?_, ?_⟩
      · show nextE l s.1 ≤ _ ∧ s.2 + 1 ≤ _
        omega
      · rw [show szV (vnum (numE l s.1 % ns.length)) = 1 from hleaf _ _ _]; exact hone'
    · have hk : k = 8 := by omega
      have hn1 : 1 ≤ n := by have := hparts (.inr hk); have := (hnames (.inr (.inr hk))).1; omega
      have hi := choice_index (numE l s.1) n hn1
      obtain ⟨⟨a, b⟩, c⟩ := ih _ (hkids _ hi) (nextE l s.1, s.2 + 1)
      have d := sumTo_le (fun i => costE (of i)) _ _ hi
      rw [cost_parts _ _ _ _ _ (by omega : k ≠ 5)]
      refine ⟨?_, ?_⟩
      · simp only at a b d ⊢
        omega
      · simp only [szV]
        have e : ((List.range 1).map fun _ : Nat => szV (buildE l (of (numE l s.1 % (n : Int)).toNat) (nextE l s.1, s.2 + 1)).1).sum = szV (buildE l (of (numE l s.1 % (n : Int)).toNat) (nextE l s.1, s.2 + 1)).1 := by simp
        rw [e]
        omega

end Go.Proofs.Ythokfmmbiilllaa

/-
  package value: the builder's next number (number), and it modulo another one (take).
-/
namespace Go.Proofs.Ythokfmmbiilllaa
open Go.RowKit

/-- The slice v shows these numbers, in memory of R. -/
def Nums (R : Nat → Prop) (w : World) (l : List Int) (v : Value) : Prop :=
  l.length ≤ 1000 ∧ (∀ x ∈ l, -9223372036854775808 ≤ x ∧ x ≤ 9223372036854775807) ∧
  ((l = [] ∧ ∃ a c, v = .slice a 0 c) ∨
   ∃ g off cap, R g ∧ v = .slice (some ⟨g, off, none⟩) l.length cap ∧ l.length ≤ cap ∧ ∀ j x, l[j]? = some x → w.cell? ⟨g, off + j, none⟩ = some (.int .i64 x))

theorem Nums.fr {R S : Nat → Prop} {w w' : World} {l : List Int} {v : Value} (h : Nums R w l v) (hf : Fr S w w') (hS : ∀ k, R k → ¬ S k) : Nums R w' l v := by
  obtain ⟨h1, h2, h3 | ⟨g, off, cap, hg, rfl, hle, hc⟩⟩ := h
  · exact ⟨h1, h2, .inl h3⟩
  · exact ⟨h1, h2, .inr ⟨g, off, cap, hg, rfl, hle, fun j s hj => cell_fr hf hS hg (hc j s hj)⟩⟩

theorem Nums.mono {R S : Nat → Prop} {w : World} {l : List Int} {v : Value} (h : Nums R w l v) (hS : ∀ k, k < w.heap.size → R k → S k) : Nums S w l v := by
  obtain ⟨h1, h2, h3 | ⟨g, off, cap, hg, rfl, hle, hc⟩⟩ := h
  · exact ⟨h1, h2, .inl h3⟩
  · cases l with
    | nil => exact ⟨h1, h2, .inl ⟨rfl, _, _, rfl⟩⟩
    | cons x l => exact ⟨h1, h2, .inr ⟨g, off, cap, hS g (World.block_lt_of_cell? w _ (hc 0 x rfl)) hg, rfl, hle, hc⟩⟩

theorem Nums.shape {R : Nat → Prop} {w : World} {l : List Int} {v : Value} (h : Nums R w l v) : ∃ a c, v = .slice a l.length c := by
  obtain ⟨_, _, ⟨rfl, a, c, rfl⟩ | ⟨g, off, cap, _, rfl, _⟩⟩ := h
  · exact ⟨a, c, rfl⟩
  · exact ⟨_, cap, rfl⟩

theorem numE_in {R : Nat → Prop} {w : World} {l : List Int} {v : Value} (h : Nums R w l v) (tk : Nat) : -9223372036854775808 ≤ numE l tk ∧ numE l tk ≤ 9223372036854775807 := by
  unfold numE
  split
  · omega
  · rename_i hl
    have hlt : tk % l.length < l.length := Nat.mod_lt _ (by cases l; exact absurd rfl hl; simp)
    have : l.getD (tk % l.length) 0 = l[tk % l.length] := by simp [List.getD, hlt]
    rw [this]
    exact h.2.1 _ (List.getElem_mem hlt)

/-- The builder in block b. -/
def BBox (w : World) (b : Nat) (nv : Value) (tk bg : Nat) : Prop := w.heap[b]? = some (.cells #[nv, .int .i64 (tk : Nat), .int .i64 (bg : Nat)] 64 (0, 0))

theorem BBox.drewN {w : World} {b : Nat} {nv : Value} {tk bg : Nat} (h : BBox w b nv tk bg) (n : Nat) : BBox (w.drewN n) b nv tk bg := h

theorem BBox.fr {S : Nat → Prop} {w w' : World} {b : Nat} {nv : Value} {tk bg : Nat} (h : BBox w b nv tk bg) (f : Fr S w w') (hS : ¬ S b) : BBox w' b nv tk bg := box_kept h f hS

set_option maxRecDepth 100000 in
set_option maxHeartbeats 8000000 in
theorem number_any (R : Nat → Prop) (l : List Int) (nv : Value) (b tk bg : Nat) (w : World) (hb : BBox w b nv tk bg) (hl : Nums R w l nv) (htk : tk ≤ 100000) :
    Calls Try.prog 29 #[.pointer (some ⟨b, 0, none⟩)] w fun e w' => e = .returned (.int .i64 (numE l tk)) ∧ Fr (fun k => k = b) w w' ∧ BBox w' b nv (nextE l tk) bg := by
  obtain ⟨n, hn⟩ : ∃ n, n = l.length := ⟨_, rfl⟩
  have HL := Lib.hid hl
  have HB := Lib.hid hb
  obtain ⟨h1, h2, h3⟩ := hl
  unfold BBox at hb
  have r1 := cells_row hb 1 _ rfl
  have r0 := cells_row hb 0 _ rfl
  have z1 : w.frozen? ⟨b, 1, none⟩ = false := by simp [World.frozen?, hb]
  clear hb
  rcases h3 with ⟨rfl, a, c, rfl⟩ | ⟨g, off, cap, hg, rfl, hle, hc⟩
  · clear hn h1 h2
    go_enter Try.func29, Try.ntmps29
    go_wp2
    go_ret
    exact ⟨rfl, Fr.refl _ _, HB.out⟩
  · rw [← hn] at r0 h1 hle HB HL
    by_cases h0 : n = 0
    · have HN := Lib.hid hn
      clear hn
      subst h0
      have e : l = [] := List.eq_nil_of_length_eq_zero HN.out.symm
      go_enter Try.func29, Try.ntmps29
      go_wp2
      go_ret
      subst e
      exact ⟨rfl, Fr.refl _ _, HB.out⟩
    · have hne : l ≠ [] := by intro e; rw [e] at hn; exact h0 hn
      obtain ⟨q, hq⟩ : ∃ q, tk % n = q := ⟨_, rfl⟩
      have hqn : q < n := by rw [← hq]; exact Nat.mod_lt _ (by omega)
      have e1 : (tk : Int).tmod (n : Int) = (q : Int) := by rw [← hq]; exact (Int.ofNat_tmod tk n).symm
      have e2 : (tk : Int) % (n : Int) = (q : Int) := by rw [← hq]; omega
      have x0 : l[q]? = some (numE l tk) := by
        unfold numE
        rw [if_neg hne, ← hn, hq, List.getD, List.getElem?_eq_getElem (by omega)]
        rfl
      have y0 := hc q _ x0
      have nx : nextE l tk = tk + 1 := by unfold nextE; rw [if_neg hne]
      have NX := Lib.hid nx
      have hn0 : ¬ (n : Int) = 0 := by omega
      have hn1 : ((n : Int) == 0) = false := by simpa using h0
      have q0 : 0 ≤ (q : Int) := by omega
      have q1 : (q : Int) < (n : Int) := by omega
      have HN := Lib.hid (And.intro hn hq)
      obtain ⟨x, hx⟩ : ∃ x, x = numE l tk := ⟨_, rfl⟩
      rw [← hx] at y0
      have HX := Lib.hid hx
      clear hn hq hx nx x0 hc hne h2
      have hb1 : b < w.heap.size := lt_of_block HB.out
      go_enter Try.func29, Try.ntmps29
      go_wp2
      go_quiet (fail)
      go_wp2
      go_ret
      refine ⟨show Ending.returned (.int .i64 x) = _ by rw [HX.out], ?_, ?_⟩
      · exact ((Fr.refl _ _).drewN _).set1 _ _
      · unfold BBox
        rw [setCell_row 1 _ (HB.out.drewN _), NX.out]
        simp
        exact HN.out.1

set_option maxRecDepth 100000 in
set_option maxHeartbeats 8000000 in
theorem take_any (R : Nat → Prop) (l : List Int) (nv : Value) (b tk bg : Nat) (m : Int) (w : World) (hb : BBox w b nv tk bg) (hl : Nums R w l nv) (htk : tk ≤ 100000) (hm0 : 0 < m) (hm1 : m ≤ 4294967296) :
    Calls Try.prog 28 #[.pointer (some ⟨b, 0, none⟩), .int .i64 m] w fun e w' => e = .returned (.int .i64 (numE l tk % m)) ∧ Fr (fun k => k = b) w w' ∧ BBox w' b nv (nextE l tk) bg := by
  have hnum := number_any R l nv b tk bg w hb hl htk
  have hin := numE_in hl tk
  obtain ⟨x, hx⟩ : ∃ x, numE l tk = x := ⟨_, rfl⟩
  rw [hx] at hnum hin ⊢
  clear hx hb hl
  obtain ⟨h1, h2⟩ := hin
  obtain ⟨y, hy⟩ : ∃ y, x.tmod m = y := ⟨_, rfl⟩
  have hy0 : -m < y ∧ y < m := by
    rw [← hy]
    have e1 := Int.tmod_lt_of_pos x hm0
    have e2 := Int.lt_tmod_of_pos x hm0
    exact ⟨e2, e1⟩
  have hye : (if y < 0 then y + m else y) = x % m := by
    have e := Int.tmod_eq_emod (a := x) (b := m)
    have p0 := Int.emod_nonneg x (show m ≠ 0 by omega)
    have p1 := Int.emod_lt_of_pos x hm0
    have habs : ((m.natAbs : Nat) : Int) = m := by omega
    rw [hy] at e
    by_cases hc : 0 ≤ x ∨ m ∣ x
    · rw [if_pos hc] at e
      split <;> omega
    · rw [if_neg hc] at e
      split <;> omega
  obtain ⟨y0, y1⟩ := hy0
  have HE := Lib.hid hye
  have hm00 : ¬ m = 0 := by omega
  have hm01 : (m == 0) = false := by simpa using hm00
  clear hye
  by_cases hneg : y < 0
  · have HN := Lib.hid hneg
    go_enter Try.func28, Try.ntmps28
    go_wp2_with fail
    refine hnum.mono ?_
    rintro e w2 ⟨rfl, f2, b2⟩
    have F2 := Lib.hid (And.intro f2 b2)
    clear f2 b2 hnum
    go_wp2
    go_ret
    refine ⟨?_, F2.out.1, F2.out.2⟩
    have := HE.out
    rw [if_pos HN.out] at this
    rw [← this]
    rfl
  · have HN := Lib.hid hneg
    go_enter Try.func28, Try.ntmps28
    go_wp2_with fail
    refine hnum.mono ?_
    rintro e w2 ⟨rfl, f2, b2⟩
    have F2 := Lib.hid (And.intro f2 b2)
    clear f2 b2 hnum
    go_wp2
    go_ret
    refine ⟨?_, F2.out.1, F2.out.2⟩
    have := HE.out
    rw [if_neg (by have := HN.out; omega)] at this
    rw [← this]
    rfl

end Go.Proofs.Ythokfmmbiilllaa

/-
  package value: so many letters (letters).
-/
namespace Go.Proofs.Ythokfmmbiilllaa
open Go.RowKit

theorem lettersE_length (n : Nat) : (lettersE n).length = n := by simp [lettersE]

theorem lettersE_at (n i : Nat) (hi : i < n) : (lettersE n).getD i 0 = UInt8.ofNat (97 + i % 26) := by
  unfold lettersE
  rw [List.getD_eq_getElem?_getD, List.getElem?_map, List.getElem?_range hi]
  rfl

set_option maxRecDepth 100000 in
set_option maxHeartbeats 8000000 in
theorem letters_any (n : Nat) (hn : n ≤ 100) (w : World) :
    Calls Try.prog 30 #[.int .i64 (n : Nat)] w fun e w' => e = .returned (.string ⟨(lettersE n).toArray⟩) ∧ Fr (fun _ => False) w w' := by
  have mk := run_make_row' (P := Try.prog) 91 5 (.int .u8 0) 1 Try.underlying91 Try.infoU8 rfl .i64 .i64 n (by omega) (by omega)
  go_enter Try.func30, Try.ntmps30
  go_wp2
  clear mk
  obtain ⟨w1, hw1⟩ : ∃ w1, w1 = w.alloc (.cells (madeCells #[.int .u8 0] n) 5) := ⟨_, rfl⟩
  rw [← hw1]
  have g1 : w1.heap[w.heap.size]? = some (.cells (madeCells #[.int .u8 0] n) 5 (0, 0)) := by rw [hw1]; exact heap_alloc_new _ _
  have f1 : Fr (fun k => k = w.heap.size) w w1 := by rw [hw1]; exact (Fr.refl _ _).alloc _
  have H1 := Lib.hid (And.intro g1 f1)
  clear hw1 g1 f1
  go_loopg [4, 9] n (fun G u4 u9 wr => ∃ j : Nat, j ≤ n ∧ G = n - j ∧ u9 = .int .i64 j ∧ Hid (Fr (fun k => k = w.heap.size) w wr ∧ ∃ cs : Array Value, cs.size = n ∧ wr.heap[w.heap.size]? = some (.cells cs 5 (0, 0)) ∧ ∀ i, i < j → cs[i]? = some (bv (UInt8.ofNat (97 + i % 26)))))
  case atStart => exact ⟨0, Nat.zero_le _, rfl, by go_num, Lib.hid ⟨H1.out.2, _, size_madeCells _ _, H1.out.1, fun i hi => by omega⟩⟩
  case round =>
    obtain ⟨j, hj, rfl, rfl, HI⟩ := hrel
    obtain ⟨cs, hsz, hg, hcs⟩ := HI.out.2
    have lt0 : w.heap.size < wr.heap.size := lt_of_block hg
    by_cases hlt : j < n
    · obtain ⟨u, hu⟩ : ∃ u, cs[j]? = some u := ⟨_, Array.getElem?_eq_getElem (by omega)⟩
      have r0 := cells_row hg j u hu
      have z0 : wr.frozen? ⟨w.heap.size, j, none⟩ = false := by simp [World.frozen?, hg]
      obtain ⟨q, hq⟩ : ∃ q : Nat, j % 26 = q := ⟨_, rfl⟩
      have e1 : (j : Int) % 26 = (q : Int) := by omega
      have e2 : (j : Int).tmod 26 = (q : Int) := by rw [← hq]; exact (Int.ofNat_tmod j 26).symm
      have q1 : q ≤ 25 := by omega
      have HQ := Lib.hid hq
      have HC := Lib.hid (And.intro hsz (And.intro hg hcs))
      clear hsz hg hcs hu hq
      go_wp2
      go_roundg (n - (j + 1))
      case measure => omega
      case rel =>
        refine ⟨j + 1, by omega, rfl, by go_num, Lib.hid ⟨HI.out.1.trans ((Fr.refl _ _).set1 _ _) (fun _ _ h => h), _, ?_, setCell_row j _ HC.out.2.1, fun i hi => ?_⟩⟩
        · simp [HC.out.1]
        · by_cases e : i = j
          · subst e
            rw [Array.getElem?_setIfInBounds_self, if_pos (by rw [HC.out.1]; exact hlt)]
            rw [HQ.out]
            unfold bv
            have : (UInt8.ofNat (97 + q)).toNat = 97 + q := by simp; omega
            rw [this]
            simp
          · rw [Array.getElem?_setIfInBounds_ne (fun h => e h.symm)]
            exact HC.out.2.2 i (by omega)
    · obtain rfl : j = n := by omega
      have hsee := sees_new (w := wr) (l := lettersE j) (c := j) w.heap.size hg (fun i hi => by rw [lettersE_length] at hi; rw [lettersE_at j i hi]; exact hcs i hi) (by rw [lettersE_length]; exact Nat.le_refl _)
      rw [lettersE_length] at hsee
      have hstr := hsee.string (P := Try.prog) 91 5 9 Try.underlying91 Try.underlying5 Try.underlying9
      have HC := Lib.hid (And.intro hsz (And.intro hg hcs))
      clear hsz hg hcs hsee
      go_wp2
      go_ret
      exact ⟨rfl, HI.out.1.mono (fun i hi h => by omega)⟩

end Go.Proofs.Ythokfmmbiilllaa

/-
  package value: what is built of the plain kinds.
-/
namespace Go.Proofs.Ythokfmmbiilllaa
open Go.RowKit
attribute [local go_sem] run_store_float
set_option linter.unusedVariables false
set_option linter.unusedSimpArgs false

theorem wrap32_long (x : Int) (h0 : 0 ≤ x) (h1 : x < 4294967296) : IntKind.i32.wrap x = long32 x := by
  unfold long32 IntKind.wrap
  simp [IntKind.bits, IntKind.signed]
  split <;> omega

/-- What a call of build leaves: a value in new memory; the builder as it then is. -/
def BuiltAs (l : List Int) (t : KT) (w : World) (b : Nat) (nv : Value) (tk bg : Nat) (e : Ending) (w' : World) : Prop :=
  ∃ v', e = .returned v' ∧ VShows (fun k => w.heap.size ≤ k) w' (buildE l t (tk, bg)).1 v' ∧ Fr (fun k => k = b) w w' ∧ BBox w' b nv (buildE l t (tk, bg)).2.1 (buildE l t (tk, bg)).2.2

def BuildAt (l : List Int) (t : KT) : Prop := ∀ (R : Nat → Prop) (v nv : Value) (w : World) (b tk bg : Nat), goodE t → tk + costE t ≤ 100000 → bg + costE t ≤ 100000 → Shows R w t v → ¬ R b → Nums R w l nv → BBox w b nv tk bg →
  Calls Try.prog 18 #[.pointer (some ⟨b, 0, none⟩), v] w (BuiltAs l t w b nv tk bg)

theorem build_box (kz m : Int) (a : Option Addr) (nl c : Nat) (a' : Option Addr) (n c' : Nat) {w w1 : World} {b : Nat} {nv : Value} {tk bg : Nat} (h : BBox w b nv tk bg)
    (hw1 : w1 = ((w.setCell ⟨b, 2, none⟩ (.int .i64 ((bg : Int) + 1))).alloc (.cells #[.int .u8 kz, .int .i64 m, .slice a nl c, .slice a' n c'] 32)).alloc (.cells #[.int .i64 0, .float .f64 0, .string ⟨#[]⟩, .slice none 0 0] 37)) :
    w1.heap[w.heap.size]? = some (.cells #[.int .u8 kz, .int .i64 m, .slice a nl c, .slice a' n c'] 32 (0, 0)) ∧ w1.heap[w.heap.size + 1]? = some (.cells #[.int .i64 0, .float .f64 0, .string ⟨#[]⟩, .slice none 0 0] 37 (0, 0)) ∧
    BBox w1 b nv tk (bg + 1) ∧ Fr (fun k => k = b) w w1 := by
  have hbl : b < w.heap.size := lt_of_block h
  have sz : (w.setCell ⟨b, 2, none⟩ (.int .i64 ((bg : Int) + 1))).heap.size = w.heap.size := by simp [World.setCell]
  subst hw1
  have h1 := heap_alloc_first (w.setCell ⟨b, 2, none⟩ (.int .i64 ((bg : Int) + 1))) (.cells #[.int .u8 kz, .int .i64 m, .slice a nl c, .slice a' n c'] 32) (.cells #[.int .i64 0, .float .f64 0, .string ⟨#[]⟩, .slice none 0 0] 37)
  have h2 := heap_alloc_two (w.setCell ⟨b, 2, none⟩ (.int .i64 ((bg : Int) + 1))) (.cells #[.int .u8 kz, .int .i64 m, .slice a nl c, .slice a' n c'] 32) (.cells #[.int .i64 0, .float .f64 0, .string ⟨#[]⟩, .slice none 0 0] 37)
  rw [sz] at h1 h2
  refine ⟨h1, h2, ?_, (((Fr.refl _ _).set1 _ _).alloc _).alloc _⟩
  unfold BBox
  rw [Below.heap_alloc _ _ _ (by simp [World.setCell]; omega), Below.heap_alloc _ _ _ (by rw [sz]; exact hbl), setCell_row 2 _ h]
  simp

theorem build_done {l : List Int} {t : KT} {w w2 : World} {b rb tk bg tk2 bg2 : Nat} {nv : Value} {x0 x1 x2 x3 : Value} {n : Int} {f : Nat} {s : Txt} {c : Nat} {of : Nat → VT} {a : Option Addr} {cap : Nat}
    (p : w2.heap[rb]? = some (.cells #[x0, x1, x2, x3] 37 (0, 0))) (f2 : Fr (fun k => k = b) w w2) (b2 : BBox w2 b nv tk2 bg2) (hrb : rb ≠ b) (hrb0 : w.heap.size ≤ rb)
    (hE : buildE l t (tk, bg) = (.mk n f s c of, tk2, bg2)) (hB : VB n f s c)
    (hk : VKids (fun k => w.heap.size ≤ k ∧ k ≠ rb) w2 of a c cap) :
    BuiltAs l t w b nv tk bg (.returned (.agg #[.int .i64 n, .float .f64 f, .string ⟨s.toArray⟩, .slice a c cap])) ((((w2.setCell ⟨rb, 0, none⟩ (.int .i64 n)).setCell ⟨rb, 1, none⟩ (.float .f64 f)).setCell ⟨rb, 2, none⟩ (.string ⟨s.toArray⟩)).setCell ⟨rb, 3, none⟩ (.slice a c cap)) := by
  have fs : Fr (fun k => k = rb) w2 ((((w2.setCell ⟨rb, 0, none⟩ (.int .i64 n)).setCell ⟨rb, 1, none⟩ (.float .f64 f)).setCell ⟨rb, 2, none⟩ (.string ⟨s.toArray⟩)).setCell ⟨rb, 3, none⟩ (.slice a c cap)) := fr_four _ _ _ _ (Fr.refl _ _) (fun _ => rfl)
  refine ⟨_, rfl, ?_, f2.trans fs (fun i hi e => by omega), ?_⟩
  · rw [hE]
    have hk2 := hk.fr fs (fun k hk e => hk.2 e)
    refine VShows.mono (fun k _ h => h.1) _ _ (vshows_mk hB hk2)
  · rw [hE]
    unfold BBox
    rw [other_four _ _ _ _ _ (fun e => hrb e.symm)]
    exact b2

set_option maxRecDepth 100000 in
set_option maxHeartbeats 16000000 in
theorem build_k0 (l : List Int) (k : Nat) (m : Int) (ns : List Txt) (n : Nat) (of : Nat → KT) (hk0 : k = 0) : BuildAt l (.mk k m ns n of) := by
  intro R v nv w b tk bg hgood htk hbg hsh hRb hnum hbox
  obtain ⟨⟨hn12, hown⟩, hkids⟩ := hgood
  obtain ⟨hk8, hmost, hone, hparts, hnames, hnone⟩ := own_facts hown
  have hcost : 1 ≤ costE (.mk k m ns n of) := by unfold costE; omega
  have htk' : tk ≤ 100000 := by omega
  have hbg' : bg + 1 ≤ 100000 := by omega
  obtain ⟨vn, vo, rfl, hk, hn, ht, ho⟩ := hsh
  obtain ⟨a, c, rfl, _⟩ := ht.shape
  obtain ⟨a', c', rfl, hs⟩ : ∃ a' c', vo = .slice a' n c' ∧ Kids R w of a' n c' := by
    rcases ho with ⟨rfl, a', c', rfl⟩ | ⟨g, off, cap, hg, rfl, hle, hc⟩
    · exact ⟨a', c', rfl, .inl rfl⟩
    · exact ⟨_, cap, rfl, .inr ⟨hle, g, off, hg, rfl, hc⟩⟩
  have HS := Lib.hid hs
  have HRB := Lib.hid (show ∀ i, R i → ¬ i = b from fun i hi e => hRb (by rw [← e]; exact hi))
  have HN := Lib.hid hnum
  have HBX := Lib.hid hbox
  have hbl : b < w.heap.size := lt_of_block hbox
  unfold BBox at hbox
  have r0 := cells_row hbox 2 _ rfl
  have z0 : w.frozen? ⟨b, 2, none⟩ = false := by simp [World.frozen?, hbox]
  have n1 : b ≠ w.heap.size := by omega
  have n2 : w.heap.size ≠ b := by omega
  have n3 : b ≠ w.heap.size + 1 := by omega
  have n4 : w.heap.size + 1 ≠ b := by omega
  have HK := Lib.hid (And.intro hk0 (And.intro hmost (And.intro hone (And.intro hparts (And.intro hnames hnone)))))
  have HKIDS := Lib.hid hkids
  have HCST := Lib.hid (And.intro htk hbg)
  have HT := Lib.hid ht
  obtain ⟨kz, hkz⟩ : ∃ kz : Int, (k : Int) = kz := ⟨_, rfl⟩
  rw [hkz]
  have e0 : (kz == 0) = true := by simp; omega
  clear ho hs ht hRb hnum hbox hk0 hmost hone hparts hnames hnone hkids htk hbg hkz hown hcost hk
  go_enter Try.func18, Try.ntmps18
  go_upto_region 2 with fail
  obtain ⟨w1, hw1⟩ : ∃ w1, w1 = ((w.setCell ⟨b, 2, none⟩ (.int .i64 ((bg : Int) + 1))).alloc (.cells #[.int .u8 kz, .int .i64 m, .slice a ns.length c, .slice a' n c'] 32)).alloc (.cells #[.int .i64 0, .float .f64 0, .string ⟨#[]⟩, .slice none 0 0] 37) := ⟨_, rfl⟩
  rw [← hw1]
  obtain ⟨q1, p1, b1, f1⟩ := build_box kz m a ns.length c a' n c' HBX.out hw1
  obtain ⟨rb, hrb⟩ : ∃ rb, w.heap.size + 1 = rb := ⟨_, rfl⟩
  rw [hrb] at p1 ⊢
  have hrbb : rb ≠ b := by omega
  have hrb0 : w.heap.size ≤ rb := by omega
  have HRBX := Lib.hid hrb
  have c0 := cells_row q1 0 _ rfl
  have c1 := cells_row q1 1 _ rfl
  have c2 := cells_row q1 2 _ rfl
  have c3 := cells_row q1 3 _ rfl
  have HW1 := Lib.hid (And.intro q1 (And.intro p1 (And.intro b1 f1)))
  clear hw1 r0 z0 n1 n2 n3 n4 hrb q1 p1 b1 f1
  have htake := take_any R l nv b tk (bg + 1) (2 : Int) w1 HW1.out.2.2.1 (HN.out.fr HW1.out.2.2.2 HRB.out) htk' (by omega) (by omega)
  obtain ⟨x, hx⟩ : ∃ x, numE l tk % (2 : Int) = x := ⟨_, rfl⟩
  have hx0 : 0 ≤ x := by rw [← hx]; exact Int.emod_nonneg _ (by omega)
  have hx1 : x < 2 := by rw [← hx]; exact Int.emod_lt_of_pos _ (by omega)
  rw [hx] at htake
  have HX := Lib.hid hx
  clear hx
  go_wp2_with fail
  refine htake.mono ?_
  rintro e w2 ⟨rfl, f2, b2⟩
  clear htake
  have p2 := box_kept HW1.out.2.1 f2 (fun e => hrbb e)
  have t0 := cells_row p2 0 _ rfl
  have t1 := cells_row p2 1 _ rfl
  have t2 := cells_row p2 2 _ rfl
  have t3 := cells_row p2 3 _ rfl
  have u0 : w2.frozen? ⟨rb, 0, none⟩ = false := by simp [World.frozen?, p2]
  have u1 : w2.frozen? ⟨rb, 1, none⟩ = false := by simp [World.frozen?, p2]
  have u2 : w2.frozen? ⟨rb, 2, none⟩ = false := by simp [World.frozen?, p2]
  have u3 : w2.frozen? ⟨rb, 3, none⟩ = false := by simp [World.frozen?, p2]
  have H2 := Lib.hid (And.intro p2 (And.intro (HW1.out.2.2.2.trans f2 (fun _ _ h => h)) b2))
  clear f2 b2 p2 c0 c1 c2 c3
  go_wp2
  refine bodyPost_ret (results_cell_row rfl _ _ rb 37 _ _ _ rfl (store_four H2.out.1) Try.underlying37 rfl (by kernel_rfl)) rfl ?_
  refine build_done H2.out.1 H2.out.2.1 H2.out.2.2 hrbb hrb0 (by unfold buildE; have hk := HK.out.1; subst hk; simp only [vnum]; rw [← HX.out]; rfl) (by unfold VB maxLen; simp; first | omega | skip) (.inl rfl)

set_option maxRecDepth 100000 in
set_option maxHeartbeats 16000000 in
theorem build_k1 (l : List Int) (k : Nat) (m : Int) (ns : List Txt) (n : Nat) (of : Nat → KT) (hk0 : k = 1) : BuildAt l (.mk k m ns n of) := by
  intro R v nv w b tk bg hgood htk hbg hsh hRb hnum hbox
  obtain ⟨⟨hn12, hown⟩, hkids⟩ := hgood
  obtain ⟨hk8, hmost, hone, hparts, hnames, hnone⟩ := own_facts hown
  have hcost : 1 ≤ costE (.mk k m ns n of) := by unfold costE; omega
  have htk' : tk ≤ 100000 := by omega
  have hbg' : bg + 1 ≤ 100000 := by omega
  obtain ⟨vn, vo, rfl, hk, hn, ht, ho⟩ := hsh
  obtain ⟨a, c, rfl, _⟩ := ht.shape
  obtain ⟨a', c', rfl, hs⟩ : ∃ a' c', vo = .slice a' n c' ∧ Kids R w of a' n c' := by
    rcases ho with ⟨rfl, a', c', rfl⟩ | ⟨g, off, cap, hg, rfl, hle, hc⟩
    · exact ⟨a', c', rfl, .inl rfl⟩
    · exact ⟨_, cap, rfl, .inr ⟨hle, g, off, hg, rfl, hc⟩⟩
  have HS := Lib.hid hs
  have HRB := Lib.hid (show ∀ i, R i → ¬ i = b from fun i hi e => hRb (by rw [← e]; exact hi))
  have HN := Lib.hid hnum
  have HBX := Lib.hid hbox
  have hbl : b < w.heap.size := lt_of_block hbox
  unfold BBox at hbox
  have r0 := cells_row hbox 2 _ rfl
  have z0 : w.frozen? ⟨b, 2, none⟩ = false := by simp [World.frozen?, hbox]
  have n1 : b ≠ w.heap.size := by omega
  have n2 : w.heap.size ≠ b := by omega
  have n3 : b ≠ w.heap.size + 1 := by omega
  have n4 : w.heap.size + 1 ≠ b := by omega
  have HK := Lib.hid (And.intro hk0 (And.intro hmost (And.intro hone (And.intro hparts (And.intro hnames hnone)))))
  have HKIDS := Lib.hid hkids
  have HCST := Lib.hid (And.intro htk hbg)
  have HT := Lib.hid ht
  obtain ⟨kz, hkz⟩ : ∃ kz : Int, (k : Int) = kz := ⟨_, rfl⟩
  rw [hkz]
  have e0 : (kz == 0) = false := by simp; omega
  have e1 : (kz == 1) = true := by simp; omega
  clear ho hs ht hRb hnum hbox hk0 hmost hone hparts hnames hnone hkids htk hbg hkz hown hcost hk
  go_enter Try.func18, Try.ntmps18
  go_upto_region 2 with fail
  obtain ⟨w1, hw1⟩ : ∃ w1, w1 = ((w.setCell ⟨b, 2, none⟩ (.int .i64 ((bg : Int) + 1))).alloc (.cells #[.int .u8 kz, .int .i64 m, .slice a ns.length c, .slice a' n c'] 32)).alloc (.cells #[.int .i64 0, .float .f64 0, .string ⟨#[]⟩, .slice none 0 0] 37) := ⟨_, rfl⟩
  rw [← hw1]
  obtain ⟨q1, p1, b1, f1⟩ := build_box kz m a ns.length c a' n c' HBX.out hw1
  obtain ⟨rb, hrb⟩ : ∃ rb, w.heap.size + 1 = rb := ⟨_, rfl⟩
  rw [hrb] at p1 ⊢
  have hrbb : rb ≠ b := by omega
  have hrb0 : w.heap.size ≤ rb := by omega
  have HRBX := Lib.hid hrb
  have c0 := cells_row q1 0 _ rfl
  have c1 := cells_row q1 1 _ rfl
  have c2 := cells_row q1 2 _ rfl
  have c3 := cells_row q1 3 _ rfl
  have HW1 := Lib.hid (And.intro q1 (And.intro p1 (And.intro b1 f1)))
  clear hw1 r0 z0 n1 n2 n3 n4 hrb q1 p1 b1 f1
  have htake := take_any R l nv b tk (bg + 1) (65536 : Int) w1 HW1.out.2.2.1 (HN.out.fr HW1.out.2.2.2 HRB.out) htk' (by omega) (by omega)
  obtain ⟨x, hx⟩ : ∃ x, numE l tk % (65536 : Int) = x := ⟨_, rfl⟩
  have hx0 : 0 ≤ x := by rw [← hx]; exact Int.emod_nonneg _ (by omega)
  have hx1 : x < 65536 := by rw [← hx]; exact Int.emod_lt_of_pos _ (by omega)
  rw [hx] at htake
  have HX := Lib.hid hx
  clear hx
  go_wp2_with fail
  refine htake.mono ?_
  rintro e w2 ⟨rfl, f2, b2⟩
  clear htake
  have p2 := box_kept HW1.out.2.1 f2 (fun e => hrbb e)
  have t0 := cells_row p2 0 _ rfl
  have t1 := cells_row p2 1 _ rfl
  have t2 := cells_row p2 2 _ rfl
  have t3 := cells_row p2 3 _ rfl
  have u0 : w2.frozen? ⟨rb, 0, none⟩ = false := by simp [World.frozen?, p2]
  have u1 : w2.frozen? ⟨rb, 1, none⟩ = false := by simp [World.frozen?, p2]
  have u2 : w2.frozen? ⟨rb, 2, none⟩ = false := by simp [World.frozen?, p2]
  have u3 : w2.frozen? ⟨rb, 3, none⟩ = false := by simp [World.frozen?, p2]
  have H2 := Lib.hid (And.intro p2 (And.intro (HW1.out.2.2.2.trans f2 (fun _ _ h => h)) b2))
  clear f2 b2 p2 c0 c1 c2 c3
  go_wp2
  refine bodyPost_ret (results_cell_row rfl _ _ rb 37 _ _ _ rfl (store_four H2.out.1) Try.underlying37 rfl (by kernel_rfl)) rfl ?_
  refine build_done H2.out.1 H2.out.2.1 H2.out.2.2 hrbb hrb0 (by unfold buildE; have hk := HK.out.1; subst hk; simp only [vnum]; rw [← HX.out]; rfl) (by unfold VB maxLen; simp; first | omega | skip) (.inl rfl)

set_option maxRecDepth 100000 in
set_option maxHeartbeats 16000000 in
theorem build_k7 (l : List Int) (k : Nat) (m : Int) (ns : List Txt) (n : Nat) (of : Nat → KT) (hk0 : k = 7) : BuildAt l (.mk k m ns n of) := by
  intro R v nv w b tk bg hgood htk hbg hsh hRb hnum hbox
  obtain ⟨⟨hn12, hown⟩, hkids⟩ := hgood
  obtain ⟨hk8, hmost, hone, hparts, hnames, hnone⟩ := own_facts hown
  have hcost : 1 ≤ costE (.mk k m ns n of) := by unfold costE; omega
  have htk' : tk ≤ 100000 := by omega
  have hbg' : bg + 1 ≤ 100000 := by omega
  obtain ⟨vn, vo, rfl, hk, hn, ht, ho⟩ := hsh
  obtain ⟨a, c, rfl, _⟩ := ht.shape
  obtain ⟨a', c', rfl, hs⟩ : ∃ a' c', vo = .slice a' n c' ∧ Kids R w of a' n c' := by
    rcases ho with ⟨rfl, a', c', rfl⟩ | ⟨g, off, cap, hg, rfl, hle, hc⟩
    · exact ⟨a', c', rfl, .inl rfl⟩
    · exact ⟨_, cap, rfl, .inr ⟨hle, g, off, hg, rfl, hc⟩⟩
  have HS := Lib.hid hs
  have HRB := Lib.hid (show ∀ i, R i → ¬ i = b from fun i hi e => hRb (by rw [← e]; exact hi))
  have HN := Lib.hid hnum
  have HBX := Lib.hid hbox
  have hbl : b < w.heap.size := lt_of_block hbox
  unfold BBox at hbox
  have r0 := cells_row hbox 2 _ rfl
  have z0 : w.frozen? ⟨b, 2, none⟩ = false := by simp [World.frozen?, hbox]
  have n1 : b ≠ w.heap.size := by omega
  have n2 : w.heap.size ≠ b := by omega
  have n3 : b ≠ w.heap.size + 1 := by omega
  have n4 : w.heap.size + 1 ≠ b := by omega
  have HK := Lib.hid (And.intro hk0 (And.intro hmost (And.intro hone (And.intro hparts (And.intro hnames hnone)))))
  have HKIDS := Lib.hid hkids
  have HCST := Lib.hid (And.intro htk hbg)
  have HT := Lib.hid ht
  obtain ⟨kz, hkz⟩ : ∃ kz : Int, (k : Int) = kz := ⟨_, rfl⟩
  rw [hkz]
  have e0 : (kz == 0) = false := by simp; omega
  have e1 : (kz == 1) = false := by simp; omega
  have e2 : (kz == 2) = false := by simp; omega
  have e3 : (kz == 3) = false := by simp; omega
  have e4 : (kz == 4) = false := by simp; omega
  have e5 : (kz == 5) = false := by simp; omega
  have e6 : (kz == 6) = false := by simp; omega
  have e7 : (kz == 7) = true := by simp; omega
  clear ho hs ht hRb hnum hbox hk0 hmost hone hparts hnames hnone hkids htk hbg hkz hown hcost hk
  go_enter Try.func18, Try.ntmps18
  go_upto_region 2 with fail
  obtain ⟨w1, hw1⟩ : ∃ w1, w1 = ((w.setCell ⟨b, 2, none⟩ (.int .i64 ((bg : Int) + 1))).alloc (.cells #[.int .u8 kz, .int .i64 m, .slice a ns.length c, .slice a' n c'] 32)).alloc (.cells #[.int .i64 0, .float .f64 0, .string ⟨#[]⟩, .slice none 0 0] 37) := ⟨_, rfl⟩
  rw [← hw1]
  obtain ⟨q1, p1, b1, f1⟩ := build_box kz m a ns.length c a' n c' HBX.out hw1
  obtain ⟨rb, hrb⟩ : ∃ rb, w.heap.size + 1 = rb := ⟨_, rfl⟩
  rw [hrb] at p1 ⊢
  have hrbb : rb ≠ b := by omega
  have hrb0 : w.heap.size ≤ rb := by omega
  have HRBX := Lib.hid hrb
  have c0 := cells_row q1 0 _ rfl
  have c1 := cells_row q1 1 _ rfl
  have c2 := cells_row q1 2 _ rfl
  have c3 := cells_row q1 3 _ rfl
  have HW1 := Lib.hid (And.intro q1 (And.intro p1 (And.intro b1 f1)))
  clear hw1 r0 z0 n1 n2 n3 n4 hrb q1 p1 b1 f1
  have hl0 := (HK.out.2.2.2.2.1 (by have := HK.out.1; omega)).1
  have hl1 := (HK.out.2.2.2.2.1 (by have := HK.out.1; omega)).2
  have htake := take_any R l nv b tk (bg + 1) ((ns.length : Nat) : Int) w1 HW1.out.2.2.1 (HN.out.fr HW1.out.2.2.2 HRB.out) htk' (by omega) (by omega)
  obtain ⟨x, hx⟩ : ∃ x, numE l tk % ((ns.length : Nat) : Int) = x := ⟨_, rfl⟩
  have hx0 : 0 ≤ x := by rw [← hx]; exact Int.emod_nonneg _ (by omega)
  have hx1 : x < (ns.length : Nat) := by rw [← hx]; exact Int.emod_lt_of_pos _ (by omega)
  rw [hx] at htake
  have HX := Lib.hid hx
  clear hx
  go_wp2_with fail
  refine htake.mono ?_
  rintro e w2 ⟨rfl, f2, b2⟩
  clear htake
  have p2 := box_kept HW1.out.2.1 f2 (fun e => hrbb e)
  have t0 := cells_row p2 0 _ rfl
  have t1 := cells_row p2 1 _ rfl
  have t2 := cells_row p2 2 _ rfl
  have t3 := cells_row p2 3 _ rfl
  have u0 : w2.frozen? ⟨rb, 0, none⟩ = false := by simp [World.frozen?, p2]
  have u1 : w2.frozen? ⟨rb, 1, none⟩ = false := by simp [World.frozen?, p2]
  have u2 : w2.frozen? ⟨rb, 2, none⟩ = false := by simp [World.frozen?, p2]
  have u3 : w2.frozen? ⟨rb, 3, none⟩ = false := by simp [World.frozen?, p2]
  have H2 := Lib.hid (And.intro p2 (And.intro (HW1.out.2.2.2.trans f2 (fun _ _ h => h)) b2))
  clear f2 b2 p2 c0 c1 c2 c3
  go_wp2
  refine bodyPost_ret (results_cell_row rfl _ _ rb 37 _ _ _ rfl (store_four H2.out.1) Try.underlying37 rfl (by kernel_rfl)) rfl ?_
  refine build_done H2.out.1 H2.out.2.1 H2.out.2.2 hrbb hrb0 (by unfold buildE; have hk := HK.out.1; subst hk; simp only [vnum]; rw [← HX.out]; rfl) (by unfold VB maxLen; simp; first | omega | skip) (.inl rfl)

set_option maxRecDepth 100000 in
set_option maxHeartbeats 16000000 in
theorem build_k2 (l : List Int) (k : Nat) (m : Int) (ns : List Txt) (n : Nat) (of : Nat → KT) (hk0 : k = 2) : BuildAt l (.mk k m ns n of) := by
  intro R v nv w b tk bg hgood htk hbg hsh hRb hnum hbox
  obtain ⟨⟨hn12, hown⟩, hkids⟩ := hgood
  obtain ⟨hk8, hmost, hone, hparts, hnames, hnone⟩ := own_facts hown
  have hcost : 1 ≤ costE (.mk k m ns n of) := by unfold costE; omega
  have htk' : tk ≤ 100000 := by omega
  have hbg' : bg + 1 ≤ 100000 := by omega
  obtain ⟨vn, vo, rfl, hk, hn, ht, ho⟩ := hsh
  obtain ⟨a, c, rfl, _⟩ := ht.shape
  obtain ⟨a', c', rfl, hs⟩ : ∃ a' c', vo = .slice a' n c' ∧ Kids R w of a' n c' := by
    rcases ho with ⟨rfl, a', c', rfl⟩ | ⟨g, off, cap, hg, rfl, hle, hc⟩
    · exact ⟨a', c', rfl, .inl rfl⟩
    · exact ⟨_, cap, rfl, .inr ⟨hle, g, off, hg, rfl, hc⟩⟩
  have HS := Lib.hid hs
  have HRB := Lib.hid (show ∀ i, R i → ¬ i = b from fun i hi e => hRb (by rw [← e]; exact hi))
  have HN := Lib.hid hnum
  have HBX := Lib.hid hbox
  have hbl : b < w.heap.size := lt_of_block hbox
  unfold BBox at hbox
  have r0 := cells_row hbox 2 _ rfl
  have z0 : w.frozen? ⟨b, 2, none⟩ = false := by simp [World.frozen?, hbox]
  have n1 : b ≠ w.heap.size := by omega
  have n2 : w.heap.size ≠ b := by omega
  have n3 : b ≠ w.heap.size + 1 := by omega
  have n4 : w.heap.size + 1 ≠ b := by omega
  have HK := Lib.hid (And.intro hk0 (And.intro hmost (And.intro hone (And.intro hparts (And.intro hnames hnone)))))
  have HKIDS := Lib.hid hkids
  have HCST := Lib.hid (And.intro htk hbg)
  have HT := Lib.hid ht
  obtain ⟨kz, hkz⟩ : ∃ kz : Int, (k : Int) = kz := ⟨_, rfl⟩
  rw [hkz]
  have e0 : (kz == 0) = false := by simp; omega
  have e1 : (kz == 1) = false := by simp; omega
  have e2 : (kz == 2) = true := by simp; omega
  clear ho hs ht hRb hnum hbox hk0 hmost hone hparts hnames hnone hkids htk hbg hkz hown hcost hk
  go_enter Try.func18, Try.ntmps18
  go_upto_region 2 with fail
  obtain ⟨w1, hw1⟩ : ∃ w1, w1 = ((w.setCell ⟨b, 2, none⟩ (.int .i64 ((bg : Int) + 1))).alloc (.cells #[.int .u8 kz, .int .i64 m, .slice a ns.length c, .slice a' n c'] 32)).alloc (.cells #[.int .i64 0, .float .f64 0, .string ⟨#[]⟩, .slice none 0 0] 37) := ⟨_, rfl⟩
  rw [← hw1]
  obtain ⟨q1, p1, b1, f1⟩ := build_box kz m a ns.length c a' n c' HBX.out hw1
  obtain ⟨rb, hrb⟩ : ∃ rb, w.heap.size + 1 = rb := ⟨_, rfl⟩
  rw [hrb] at p1 ⊢
  have hrbb : rb ≠ b := by omega
  have hrb0 : w.heap.size ≤ rb := by omega
  have HRBX := Lib.hid hrb
  have c0 := cells_row q1 0 _ rfl
  have c1 := cells_row q1 1 _ rfl
  have c2 := cells_row q1 2 _ rfl
  have c3 := cells_row q1 3 _ rfl
  have HW1 := Lib.hid (And.intro q1 (And.intro p1 (And.intro b1 f1)))
  clear hw1 r0 z0 n1 n2 n3 n4 hrb q1 p1 b1 f1
  have htake := take_any R l nv b tk (bg + 1) (4294967296 : Int) w1 HW1.out.2.2.1 (HN.out.fr HW1.out.2.2.2 HRB.out) htk' (by omega) (by omega)
  obtain ⟨x, hx⟩ : ∃ x, numE l tk % (4294967296 : Int) = x := ⟨_, rfl⟩
  have hx0 : 0 ≤ x := by rw [← hx]; exact Int.emod_nonneg _ (by omega)
  have hx1 : x < 4294967296 := by rw [← hx]; exact Int.emod_lt_of_pos _ (by omega)
  rw [hx] at htake
  have HX := Lib.hid hx
  clear hx
  obtain ⟨y, hy⟩ : ∃ y, long32 x = y := ⟨_, rfl⟩
  have HY := Lib.hid hy
  have hy0 : -2147483648 ≤ y := by rw [← hy]; unfold long32; split <;> omega
  have hy1 : y ≤ 2147483647 := by rw [← hy]; unfold long32; split <;> omega
  have hw : IntKind.i32.wrap x = y := by rw [← hy]; exact wrap32_long x hx0 hx1
  have HWR := Lib.hid hw
  clear hy hw
  go_wp2_with fail
  refine htake.mono ?_
  rintro e w2 ⟨rfl, f2, b2⟩
  clear htake
  have hw : IntKind.i32.wrap x = y := HWR.out
  have p2 := box_kept HW1.out.2.1 f2 (fun e => hrbb e)
  have t0 := cells_row p2 0 _ rfl
  have t1 := cells_row p2 1 _ rfl
  have t2 := cells_row p2 2 _ rfl
  have t3 := cells_row p2 3 _ rfl
  have u0 : w2.frozen? ⟨rb, 0, none⟩ = false := by simp [World.frozen?, p2]
  have u1 : w2.frozen? ⟨rb, 1, none⟩ = false := by simp [World.frozen?, p2]
  have u2 : w2.frozen? ⟨rb, 2, none⟩ = false := by simp [World.frozen?, p2]
  have u3 : w2.frozen? ⟨rb, 3, none⟩ = false := by simp [World.frozen?, p2]
  have H2 := Lib.hid (And.intro p2 (And.intro (HW1.out.2.2.2.trans f2 (fun _ _ h => h)) b2))
  clear f2 b2 p2 c0 c1 c2 c3
  go_wp2
  clear hw
  refine bodyPost_ret (results_cell_row rfl _ _ rb 37 _ _ _ rfl (store_four H2.out.1) Try.underlying37 rfl (by kernel_rfl)) rfl ?_
  refine build_done H2.out.1 H2.out.2.1 H2.out.2.2 hrbb hrb0 (by unfold buildE; have hk := HK.out.1; subst hk; simp only [vnum]; rw [← HY.out, ← HX.out]; rfl) (by unfold VB maxLen; simp; first | omega | skip) (.inl rfl)

set_option maxRecDepth 100000 in
set_option maxHeartbeats 16000000 in
theorem build_k3 (l : List Int) (k : Nat) (m : Int) (ns : List Txt) (n : Nat) (of : Nat → KT) (hk0 : k = 3) : BuildAt l (.mk k m ns n of) := by
  intro R v nv w b tk bg hgood htk hbg hsh hRb hnum hbox
  obtain ⟨⟨hn12, hown⟩, hkids⟩ := hgood
  obtain ⟨hk8, hmost, hone, hparts, hnames, hnone⟩ := own_facts hown
  have hcost : 1 ≤ costE (.mk k m ns n of) := by unfold costE; omega
  have htk' : tk ≤ 100000 := by omega
  have hbg' : bg + 1 ≤ 100000 := by omega
  obtain ⟨vn, vo, rfl, hk, hn, ht, ho⟩ := hsh
  obtain ⟨a, c, rfl, _⟩ := ht.shape
  obtain ⟨a', c', rfl, hs⟩ : ∃ a' c', vo = .slice a' n c' ∧ Kids R w of a' n c' := by
    rcases ho with ⟨rfl, a', c', rfl⟩ | ⟨g, off, cap, hg, rfl, hle, hc⟩
    · exact ⟨a', c', rfl, .inl rfl⟩
    · exact ⟨_, cap, rfl, .inr ⟨hle, g, off, hg, rfl, hc⟩⟩
  have HS := Lib.hid hs
  have HRB := Lib.hid (show ∀ i, R i → ¬ i = b from fun i hi e => hRb (by rw [← e]; exact hi))
  have HN := Lib.hid hnum
  have HBX := Lib.hid hbox
  have hbl : b < w.heap.size := lt_of_block hbox
  unfold BBox at hbox
  have r0 := cells_row hbox 2 _ rfl
  have z0 : w.frozen? ⟨b, 2, none⟩ = false := by simp [World.frozen?, hbox]
  have n1 : b ≠ w.heap.size := by omega
  have n2 : w.heap.size ≠ b := by omega
  have n3 : b ≠ w.heap.size + 1 := by omega
  have n4 : w.heap.size + 1 ≠ b := by omega
  have HK := Lib.hid (And.intro hk0 (And.intro hmost (And.intro hone (And.intro hparts (And.intro hnames hnone)))))
  have HKIDS := Lib.hid hkids
  have HCST := Lib.hid (And.intro htk hbg)
  have HT := Lib.hid ht
  obtain ⟨kz, hkz⟩ : ∃ kz : Int, (k : Int) = kz := ⟨_, rfl⟩
  rw [hkz]
  have e0 : (kz == 0) = false := by simp; omega
  have e1 : (kz == 1) = false := by simp; omega
  have e2 : (kz == 2) = false := by simp; omega
  have e3 : (kz == 3) = true := by simp; omega
  clear ho hs ht hRb hnum hbox hk0 hmost hone hparts hnames hnone hkids htk hbg hkz hown hcost hk
  go_enter Try.func18, Try.ntmps18
  go_upto_region 2 with fail
  obtain ⟨w1, hw1⟩ : ∃ w1, w1 = ((w.setCell ⟨b, 2, none⟩ (.int .i64 ((bg : Int) + 1))).alloc (.cells #[.int .u8 kz, .int .i64 m, .slice a ns.length c, .slice a' n c'] 32)).alloc (.cells #[.int .i64 0, .float .f64 0, .string ⟨#[]⟩, .slice none 0 0] 37) := ⟨_, rfl⟩
  rw [← hw1]
  obtain ⟨q1, p1, b1, f1⟩ := build_box kz m a ns.length c a' n c' HBX.out hw1
  obtain ⟨rb, hrb⟩ : ∃ rb, w.heap.size + 1 = rb := ⟨_, rfl⟩
  rw [hrb] at p1 ⊢
  have hrbb : rb ≠ b := by omega
  have hrb0 : w.heap.size ≤ rb := by omega
  have HRBX := Lib.hid hrb
  have c0 := cells_row q1 0 _ rfl
  have c1 := cells_row q1 1 _ rfl
  have c2 := cells_row q1 2 _ rfl
  have c3 := cells_row q1 3 _ rfl
  have HW1 := Lib.hid (And.intro q1 (And.intro p1 (And.intro b1 f1)))
  clear hw1 r0 z0 n1 n2 n3 n4 hrb q1 p1 b1 f1
  have hnum := number_any R l nv b tk (bg + 1) w1 HW1.out.2.2.1 (HN.out.fr HW1.out.2.2.2 HRB.out) htk'
  have hxb := numE_in HN.out tk
  obtain ⟨x, hx⟩ : ∃ x, numE l tk = x := ⟨_, rfl⟩
  have hfl := float_of_int x
  rw [hx] at hnum hxb
  obtain ⟨hx0, hx1⟩ := hxb
  have HFL := Lib.hid hfl
  have HX := Lib.hid hx
  clear hx hfl
  go_wp2_with fail
  refine hnum.mono ?_
  rintro e w2 ⟨rfl, f2, b2⟩
  clear hnum
  have p2 := box_kept HW1.out.2.1 f2 (fun e => hrbb e)
  have t0 := cells_row p2 0 _ rfl
  have t1 := cells_row p2 1 _ rfl
  have t2 := cells_row p2 2 _ rfl
  have t3 := cells_row p2 3 _ rfl
  have u0 : w2.frozen? ⟨rb, 0, none⟩ = false := by simp [World.frozen?, p2]
  have u1 : w2.frozen? ⟨rb, 1, none⟩ = false := by simp [World.frozen?, p2]
  have u2 : w2.frozen? ⟨rb, 2, none⟩ = false := by simp [World.frozen?, p2]
  have u3 : w2.frozen? ⟨rb, 3, none⟩ = false := by simp [World.frozen?, p2]
  have H2 := Lib.hid (And.intro p2 (And.intro (HW1.out.2.2.2.trans f2 (fun _ _ h => h)) b2))
  clear f2 b2 p2 c0 c1 c2 c3
  go_wp2
  refine bodyPost_ret (results_cell_row rfl _ _ rb 37 _ _ _ rfl (store_four H2.out.1) Try.underlying37 rfl (by kernel_rfl)) rfl ?_
  refine build_done H2.out.1 H2.out.2.1 H2.out.2.2 hrbb hrb0 (by unfold buildE; have hk := HK.out.1; subst hk; rw [← HX.out]; rfl) (by unfold VB maxLen; exact ⟨by omega, by omega, HFL.out, by simp, by omega⟩) (.inl rfl)

set_option maxRecDepth 100000 in
set_option maxHeartbeats 16000000 in
theorem build_k4 (l : List Int) (k : Nat) (m : Int) (ns : List Txt) (n : Nat) (of : Nat → KT) (hk0 : k = 4) : BuildAt l (.mk k m ns n of) := by
  intro R v nv w b tk bg hgood htk hbg hsh hRb hnum hbox
  obtain ⟨⟨hn12, hown⟩, hkids⟩ := hgood
  obtain ⟨hk8, hmost, hone, hparts, hnames, hnone⟩ := own_facts hown
  have hcost : 1 ≤ costE (.mk k m ns n of) := by unfold costE; omega
  have htk' : tk ≤ 100000 := by omega
  have hbg' : bg + 1 ≤ 100000 := by omega
  obtain ⟨vn, vo, rfl, hk, hn, ht, ho⟩ := hsh
  obtain ⟨a, c, rfl, _⟩ := ht.shape
  obtain ⟨a', c', rfl, hs⟩ : ∃ a' c', vo = .slice a' n c' ∧ Kids R w of a' n c' := by
    rcases ho with ⟨rfl, a', c', rfl⟩ | ⟨g, off, cap, hg, rfl, hle, hc⟩
    · exact ⟨a', c', rfl, .inl rfl⟩
    · exact ⟨_, cap, rfl, .inr ⟨hle, g, off, hg, rfl, hc⟩⟩
  have HS := Lib.hid hs
  have HRB := Lib.hid (show ∀ i, R i → ¬ i = b from fun i hi e => hRb (by rw [← e]; exact hi))
  have HN := Lib.hid hnum
  have HBX := Lib.hid hbox
  have hbl : b < w.heap.size := lt_of_block hbox
  unfold BBox at hbox
  have r0 := cells_row hbox 2 _ rfl
  have z0 : w.frozen? ⟨b, 2, none⟩ = false := by simp [World.frozen?, hbox]
  have n1 : b ≠ w.heap.size := by omega
  have n2 : w.heap.size ≠ b := by omega
  have n3 : b ≠ w.heap.size + 1 := by omega
  have n4 : w.heap.size + 1 ≠ b := by omega
  have HK := Lib.hid (And.intro hk0 (And.intro hmost (And.intro hone (And.intro hparts (And.intro hnames hnone)))))
  have HKIDS := Lib.hid hkids
  have HCST := Lib.hid (And.intro htk hbg)
  have HT := Lib.hid ht
  obtain ⟨kz, hkz⟩ : ∃ kz : Int, (k : Int) = kz := ⟨_, rfl⟩
  rw [hkz]
  have e0 : (kz == 0) = false := by simp; omega
  have e1 : (kz == 1) = false := by simp; omega
  have e2 : (kz == 2) = false := by simp; omega
  have e3 : (kz == 3) = false := by simp; omega
  have e4 : (kz == 4) = true := by simp; omega
  clear ho hs ht hRb hnum hbox hk0 hmost hone hparts hnames hnone hkids htk hbg hkz hown hcost hk
  go_enter Try.func18, Try.ntmps18
  go_upto_region 2 with fail
  obtain ⟨w1, hw1⟩ : ∃ w1, w1 = ((w.setCell ⟨b, 2, none⟩ (.int .i64 ((bg : Int) + 1))).alloc (.cells #[.int .u8 kz, .int .i64 m, .slice a ns.length c, .slice a' n c'] 32)).alloc (.cells #[.int .i64 0, .float .f64 0, .string ⟨#[]⟩, .slice none 0 0] 37) := ⟨_, rfl⟩
  rw [← hw1]
  obtain ⟨q1, p1, b1, f1⟩ := build_box kz m a ns.length c a' n c' HBX.out hw1
  obtain ⟨rb, hrb⟩ : ∃ rb, w.heap.size + 1 = rb := ⟨_, rfl⟩
  rw [hrb] at p1 ⊢
  have hrbb : rb ≠ b := by omega
  have hrb0 : w.heap.size ≤ rb := by omega
  have HRBX := Lib.hid hrb
  have c0 := cells_row q1 0 _ rfl
  have c1 := cells_row q1 1 _ rfl
  have c2 := cells_row q1 2 _ rfl
  have c3 := cells_row q1 3 _ rfl
  have HW1 := Lib.hid (And.intro q1 (And.intro p1 (And.intro b1 f1)))
  clear hw1 r0 z0 n1 n2 n3 n4 hrb q1 p1 b1 f1
  obtain ⟨hm0, hm1⟩ := HK.out.2.1 (.inl HK.out.1)
  have htake := take_any R l nv b tk (bg + 1) (m + 1) w1 HW1.out.2.2.1 (HN.out.fr HW1.out.2.2.2 HRB.out) htk' (by omega) (by omega)
  obtain ⟨x, hx⟩ : ∃ x : Nat, numE l tk % (m + 1) = x := ⟨(numE l tk % (m + 1)).toNat, by have := Int.emod_nonneg (numE l tk) (show m + 1 ≠ 0 by omega); omega⟩
  have hx1 : x ≤ 60 := by have := Int.emod_lt_of_pos (numE l tk) (show 0 < m + 1 by omega); omega
  rw [hx] at htake
  have HX := Lib.hid hx
  clear hx
  go_wp2_with fail
  refine htake.mono ?_
  rintro e wt ⟨rfl, ft, bt⟩
  go_wp2_with fail
  refine (letters_any x (by omega) _).mono ?_
  rintro e w2 ⟨rfl, fl⟩
  have f2 : Fr (fun k => k = b) w1 w2 := ft.trans fl (fun _ _ h => h.elim)
  have b2 := bt.fr fl (fun h => h)
  clear htake ft fl bt
  have p2 := box_kept HW1.out.2.1 f2 (fun e => hrbb e)
  have t0 := cells_row p2 0 _ rfl
  have t1 := cells_row p2 1 _ rfl
  have t2 := cells_row p2 2 _ rfl
  have t3 := cells_row p2 3 _ rfl
  have u0 : w2.frozen? ⟨rb, 0, none⟩ = false := by simp [World.frozen?, p2]
  have u1 : w2.frozen? ⟨rb, 1, none⟩ = false := by simp [World.frozen?, p2]
  have u2 : w2.frozen? ⟨rb, 2, none⟩ = false := by simp [World.frozen?, p2]
  have u3 : w2.frozen? ⟨rb, 3, none⟩ = false := by simp [World.frozen?, p2]
  have H2 := Lib.hid (And.intro p2 (And.intro (HW1.out.2.2.2.trans f2 (fun _ _ h => h)) b2))
  clear f2 b2 p2 c0 c1 c2 c3
  go_wp2
  refine bodyPost_ret (results_cell_row rfl _ _ rb 37 _ _ _ rfl (store_four H2.out.1) Try.underlying37 rfl (by kernel_rfl)) rfl ?_
  refine build_done H2.out.1 H2.out.2.1 H2.out.2.2 hrbb hrb0 (by unfold buildE; have hk := HK.out.1; subst hk; simp only [HX.out, Int.toNat_natCast]; rfl) (by unfold VB maxLen; rw [lettersE_length]; omega) (.inl rfl)

end Go.Proofs.Ythokfmmbiilllaa
