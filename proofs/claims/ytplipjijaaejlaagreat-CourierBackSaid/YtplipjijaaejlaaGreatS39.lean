/-
  CouBack, part 39 of what it rests on: KindArg, CouApartArg, ValAwake, ValCells.
-/
import Derived.Test.YtplipjijaaejlaaGreatS38
import Derived.ProofKit
import Derived.OpenShut
import Derived.Deep.Slices
import Derived.Test.YtplipjijaaejlaaGreatS28
import Derived.Test.YtplipjijaaejlaaGreatS13
set_option linter.unusedVariables false
set_option linter.unusedSimpArgs false
set_option maxHeartbeats 64000000
namespace Go.Proofs.YtplipjijaaejlaaGreat
open Go.RowKit
open Go.Lib (hid)
section
open Go.ChangeShapes Go.WideShapes Go.ChangeAt Go.RowKit

theorem cellsOf_node : Tryz.prog.cellsOf 24 = 3 := by kernel_rfl
theorem cellsOf_nodes : Tryz.prog.cellsOf 22 = 1 := by kernel_rfl
theorem cellsOf_byte : Tryz.prog.cellsOf 5 = 1 := by kernel_rfl
theorem cellsOf_word : Tryz.prog.cellsOf 117 = 1 := by kernel_rfl

theorem spot_none {w : World} {a : Addr} {m : Nat} {cs : List Value} (h : w.cells? 0 a m = some cs) (hm : 0 < m) : a.spot = none := by
  obtain ⟨_, hl, h1⟩ := World.cells?_some h
  have h2 := h1 0 hm
  have e0 : a.add 0 = a := by simp [Addr.add]
  obtain ⟨v, hv⟩ : ∃ v, cs[0]? = some v := ⟨_, List.getElem?_eq_getElem (by omega)⟩
  rw [e0, hv] at h2
  have := addr_plain h2
  obtain ⟨b, o, s⟩ := a
  simp at this
  exact this

theorem cell_at {w : World} {b o : Nat} {m k : Nat} {cs : List Value} (h : w.cells? 0 ((⟨b, o, none⟩ : Addr).add k) m = some cs) (i : Nat) (v : Value) (hv : cs[i]? = some v) (hi : i < m) : w.cell? ⟨b, o + k + i, none⟩ = some v := by
  have h1 := (World.cells?_some h).2.2 i hi
  rw [hv] at h1
  have e : ((⟨b, o, none⟩ : Addr).add k).add i = ⟨b, o + k + i, none⟩ := by
    unfold Addr.add
    split <;> split <;> simp_all
  rw [e] at h1
  exact h1

section
variable {H : Type} (enc : TypeId × Value → H) (w : World)

/-- A slice of whatever: each element reads by a smaller fuel. -/
theorem slice_each {t e : TypeId} {fuel m : Nat} {cs : List Value} {x : DataW H × List MemPlace} (ht : Tryz.prog.underlying t = some (.slice e)) (hm : Tryz.prog.cellsOf e = m) (h0 : 0 < m) (h : DataW.trod enc Tryz.prog w 0 (fun _ => true) true fuel t cs = some x) :
    (∃ a, cs = [.slice a 0 0]) ∨ ∃ a len cap n, n < fuel ∧ cs = [.slice a len cap] ∧ len ≤ cap ∧ cap ≤ maxLen ∧ (len = 0 ∨ ∃ b o, a = some ⟨b, o, none⟩ ∧ ∀ i, i < len → ∃ cs' y, DataW.trod enc Tryz.prog w 0 (fun _ => true) true n e cs' = some y ∧
      ∀ j v, cs'[j]? = some v → j < m → w.cell? ⟨b, o + i * m + j, none⟩ = some v) := by
  rcases DataW.trod_slice ht h with ⟨rfl, _⟩ | ⟨a, len, cap, elems, rest, n, rfl, rfl, _, hb, hl, hc, hlen, hel, _, _⟩
  · exact .inl ⟨_, rfl⟩
  · refine .inr ⟨some a, len, cap, n, by omega, rfl, hl, hc, ?_⟩
    by_cases hz : len = 0
    · exact .inl hz
    right
    have each : ∀ i, i < len → ∃ cs' y, w.cells? 0 (a.add (i * m)) m = some cs' ∧ DataW.trod enc Tryz.prog w 0 (fun _ => true) true n e cs' = some y := by
      intro i hi
      have h1 := hel i hi
      rw [List.getElem?_eq_getElem (by omega), hm] at h1
      obtain ⟨cs', h2, h3⟩ := Option.bind_eq_some_iff.1 h1
      exact ⟨cs', _, h2, h3⟩
    obtain ⟨b, o, s⟩ := a
    obtain ⟨cs0, _, hc0, _⟩ := each 0 (by omega)
    have e0 : ((⟨b, o, s⟩ : Addr).add (0 * m)) = ⟨b, o, s⟩ := by simp [Addr.add]
    rw [e0] at hc0
    have hs := spot_none hc0 h0
    simp at hs
    subst hs
    refine ⟨b, o, rfl, fun i hi => ?_⟩
    obtain ⟨cs', y, h2, h3⟩ := each i hi
    exact ⟨cs', y, h3, fun j v hv hj => cell_at h2 j v hv hj⟩

theorem byte_reads {fuel : Nat} {cs : List Value} {x : DataW H × List MemPlace} (h : DataW.trod enc Tryz.prog w 0 (fun _ => true) true fuel 5 cs = some x) : ∃ k : Nat, k ≤ 255 ∧ cs = [.int .u8 k] := by
  obtain ⟨n, rfl, _, hw⟩ := DataW.trod_int Tryz.underlying5 h
  have := bounds_u8 hw
  exact ⟨n.toNat, by omega, by rw [Int.toNat_of_nonneg this.1]⟩

theorem word_reads {fuel : Nat} {cs : List Value} {x : DataW H × List MemPlace} (h : DataW.trod enc Tryz.prog w 0 (fun _ => true) true fuel 117 cs = some x) : ∃ k : Nat, k ≤ 65535 ∧ cs = [.int .u16 k] := by
  obtain ⟨n, rfl, _, hw⟩ := DataW.trod_int Tryz.underlying117 h
  have := bounds_u16 hw
  exact ⟨n.toNat, by omega, by rw [Int.toNat_of_nonneg this.1]⟩

set_option maxRecDepth 100000 in
theorem node_shows : ∀ (fuel : Nat) (cs : List Value) (x : DataW H × List MemPlace), DataW.trod enc Tryz.prog w 0 (fun _ => true) true fuel 24 cs = some x →
    ∃ t c0 c1 c2, cs = [c0, c1, c2] ∧ NShows w t (.agg #[c0, c1, c2]) := by
  intro fuel
  induction fuel using Nat.strongRecOn with
  | _ fuel ih =>
  intro cs x h
  obtain ⟨xs, n, rfl, rfl, hl, hlen, hf⟩ := DataW.trod_struct Tryz.underlying24 h
  rw [cellsOf_node] at hl
  match cs, hl with
  | [c0, c1, c2], _ =>
  have f0 : DataW.trod enc Tryz.prog w 0 (fun _ => true) true n 5 (List.take (Tryz.prog.cellsOf 5) (List.drop 0 [c0, c1, c2])) = xs[0]? := hf 0 _ rfl
  have f1 : DataW.trod enc Tryz.prog w 0 (fun _ => true) true n 5 (List.take (Tryz.prog.cellsOf 5) (List.drop 1 [c0, c1, c2])) = xs[1]? := hf 1 _ rfl
  have f2 : DataW.trod enc Tryz.prog w 0 (fun _ => true) true n 22 (List.take (Tryz.prog.cellsOf 22) (List.drop 2 [c0, c1, c2])) = xs[2]? := hf 2 _ rfl
  have hl3 : xs.length = 3 := hlen
  rw [List.getElem?_eq_getElem (by omega)] at f0 f1 f2
  simp only [cellsOf_byte, cellsOf_nodes, List.drop_zero, List.drop_succ_cons, List.take_succ_cons, List.take_zero] at f0 f1 f2
  obtain ⟨k, hk, e⟩ := byte_reads enc w f0
  simp at e
  subst e
  obtain ⟨m, hm, e⟩ := byte_reads enc w f1
  simp at e
  subst e
  rcases slice_each enc w Tryz.underlying22 cellsOf_node (by omega) f2 with ⟨a, e⟩ | ⟨a, len, cap, n', hn, e, hle, hc, hz | ⟨b, o, rfl, each⟩⟩
  · simp at e
    subst e
    exact ⟨.mk k m 0 (fun _ => .nil), _, _, _, rfl, _, rfl, hk, hm, by unfold maxLen; omega, .inl ⟨rfl, _, _, rfl⟩⟩
  · simp at e
    subst e hz
    exact ⟨.mk k m 0 (fun _ => .nil), _, _, _, rfl, _, rfl, hk, hm, by unfold maxLen; omega, .inl ⟨rfl, _, _, rfl⟩⟩
  · simp at e
    subst e
    have ch : ∀ i, ∃ t, i < len → ∃ x0 x1 x2, w.cell? ⟨b, o + i * 3, none⟩ = some x0 ∧ w.cell? ⟨b, o + i * 3 + 1, none⟩ = some x1 ∧ w.cell? ⟨b, o + i * 3 + 2, none⟩ = some x2 ∧ NShows w t (.agg #[x0, x1, x2]) := by
      intro i
      by_cases hi : i < len
      · obtain ⟨cs', y, h3, hcell⟩ := each i hi
        obtain ⟨t, x0, x1, x2, rfl, ht⟩ := ih n' (by omega) cs' y h3
        exact ⟨t, fun _ => ⟨x0, x1, x2, hcell 0 _ rfl (by omega), hcell 1 _ rfl (by omega), hcell 2 _ rfl (by omega), ht⟩⟩
      · exact ⟨.nil, fun h => absurd h hi⟩
    obtain ⟨of, hof⟩ := Classical.axiomOfChoice ch
    exact ⟨.mk k m len of, _, _, _, rfl, _, rfl, hk, hm, by omega, .inr ⟨b, o, cap, rfl, hle, hof⟩⟩

set_option maxRecDepth 100000 in
theorem nodes_show {fuel : Nat} {cs : List Value} {x : DataW H × List MemPlace} (h : DataW.trod enc Tryz.prog w 0 (fun _ => true) true fuel 22 cs = some x) : ∃ l v, cs = [v] ∧ Nodes w l v := by
  rcases slice_each enc w Tryz.underlying22 cellsOf_node (by omega) h with ⟨a, rfl⟩ | ⟨a, len, cap, n', hn, rfl, hle, hc, rfl | ⟨b, o, rfl, each⟩⟩
  · exact ⟨[], _, rfl, by unfold maxLen; simp, .inl ⟨rfl, _, _, rfl⟩⟩
  · exact ⟨[], _, rfl, by unfold maxLen; simp, .inl ⟨rfl, _, _, rfl⟩⟩
  · have ch : ∀ i, ∃ t, i < len → ∃ x0 x1 x2, w.cell? ⟨b, o + i * 3, none⟩ = some x0 ∧ w.cell? ⟨b, o + i * 3 + 1, none⟩ = some x1 ∧ w.cell? ⟨b, o + i * 3 + 2, none⟩ = some x2 ∧ NShows w t (.agg #[x0, x1, x2]) := by
      intro i
      by_cases hi : i < len
      · obtain ⟨cs', y, h3, hcell⟩ := each i hi
        obtain ⟨t, x0, x1, x2, rfl, ht⟩ := node_shows enc w n' cs' y h3
        exact ⟨t, fun _ => ⟨x0, x1, x2, hcell 0 _ rfl (by omega), hcell 1 _ rfl (by omega), hcell 2 _ rfl (by omega), ht⟩⟩
      · exact ⟨.nil, fun h => absurd h hi⟩
    obtain ⟨of, hof⟩ := Classical.axiomOfChoice ch
    have el : ((List.range len).map of).length = len := by simp
    refine ⟨(List.range len).map of, _, rfl, by rw [el]; omega, .inr ⟨b, o, cap, by rw [el], by rw [el]; exact hle, fun i t hi => ?_⟩⟩
    rw [List.getElem?_map] at hi
    by_cases hlt : i < len
    · rw [List.getElem?_range hlt] at hi
      cases hi
      exact hof i hlt
    · rw [List.getElem?_eq_none (by simp; omega)] at hi
      cases hi

end
end
section
open Go.ChangeShapes Go.WideShapes Go.ChangeAt Go.RowKit

set_option maxRecDepth 100000 in
/-- Whatever is handed in as a node shows plain data. -/
theorem node_any {H : Type} (enc : TypeId × Value → H) (w : World) {v : Value} {d : DataW H} {p : List MemPlace} {base : Nat} (hval : Value.okWide Tryz.prog w .any base 24 v)
    (h : DataW.Trod enc Tryz.prog w 0 (fun _ => true) true 24 v d p) : ∃ t, NShows w t v := by
  obtain ⟨cs, rfl, _⟩ := okWide_struct Tryz.underlying24 hval
  obtain ⟨fuel, hf⟩ := h
  obtain ⟨t, c0, c1, c2, e, ht⟩ := node_shows enc w fuel _ _ hf
  have hcs : (Value.agg cs).cells.toList = cs.toList := rfl
  rw [hcs] at e
  obtain ⟨cs⟩ := cs
  simp only at e
  subst e
  exact ⟨t, ht⟩
end
section
attribute [local go_sem] run_store_float

def cardT : KT := .mk 1 0 [] 0 (fun _ => .nil)

def twoT : KT := .mk 6 0 [[97], [98]] 2 (fun _ => cardT)

def seven : VT := listV [vnum 7, vnum 7]

theorem two_right : (surveyE twoT 1000 0).1 = true := by kernel_rfl

theorem two_built : BuildE [7] twoT = seven := by
  have h : BuildE [7] twoT = (buildE [7] twoT (0, 0)).1 := by unfold BuildE; rw [two_right]; rfl
  rw [h]
  rfl

theorem two_not : valE cardT seven = 17 := by kernel_rfl
end
section
theorem flat_get {α : Type} (f : Nat → List α) (k : Nat) : ∀ n, (∀ i, i < n → (f i).length = k) → ((List.range n).flatMap f).length = n * k ∧ ∀ i, i < n → ∀ j, j < k → ((List.range n).flatMap f)[i * k + j]? = (f i)[j]? := by
  intro n
  induction n with
  | zero => exact fun _ => ⟨by simp, fun i hi => by omega⟩
  | succ n ih =>
    intro h
    obtain ⟨h1, h2⟩ := ih (fun i hi => h i (by omega))
    rw [List.range_succ, List.flatMap_append, List.flatMap_singleton]
    have hn := h n (by omega)
    refine ⟨by rw [List.length_append, h1, hn, Nat.succ_mul], fun i hi j hj => ?_⟩
    by_cases e : i = n
    · subst e
      rw [List.getElem?_append_right (by rw [h1]; omega), h1, Nat.add_sub_cancel_left]
    · have : i * k + j < n * k := by
        have : (i + 1) * k ≤ n * k := Nat.mul_le_mul_right _ (by omega)
        rw [Nat.succ_mul] at this
        omega
      rw [List.getElem?_append_left (by rw [h1]; exact this)]
      exact h2 i (by omega) j hj

theorem row_cells {α : Type} (D : Shown α) {R : Nat → Prop} {w : World} {size : Nat} (hs : 0 < size) (l : List α) (g off : Nat)
    (hc : ∀ (i : Nat) (x : α), l[i]? = some x → ∃ xs : List Value, xs.length = size ∧ (∀ (j : Nat) (u : Value), xs[j]? = some u → w.cell? ⟨g, off + i * size + j, none⟩ = some u) ∧ D.sh R w x xs) :
    ∃ cs : List Value, cs.length = l.length * size ∧ (∀ (m : Nat) (u : Value), cs[m]? = some u → w.cell? ⟨g, off + m, none⟩ = some u) ∧
      (∀ (i : Nat) (x : α), l[i]? = some x → ∃ xs : List Value, xs.length = size ∧ (∀ (j : Nat) (u : Value), xs[j]? = some u → cs[i * size + j]? = some u) ∧ D.sh R w x xs) ∧
      ∀ u ∈ cs, ∃ (i : Nat) (x : α) (xs : List Value), l[i]? = some x ∧ D.sh R w x xs ∧ u ∈ xs := by
  have ch : ∀ i : Nat, ∃ xs : List Value, ∀ x, l[i]? = some x → xs.length = size ∧ (∀ (j : Nat) (u : Value), xs[j]? = some u → w.cell? ⟨g, off + i * size + j, none⟩ = some u) ∧ D.sh R w x xs := by
    intro i
    cases hx : l[i]? with
    | none => exact ⟨[], fun x h => by cases h⟩
    | some x =>
      obtain ⟨xs, h⟩ := hc i x hx
      exact ⟨xs, fun y hy => by cases hy; exact h⟩
  obtain ⟨f, hf⟩ := Classical.axiomOfChoice ch
  have hlen : ∀ i, i < l.length → (f i).length = size := fun i hi => (hf i _ (List.getElem?_eq_getElem hi)).1
  obtain ⟨h1, h2⟩ := flat_get f size l.length hlen
  refine ⟨(List.range l.length).flatMap f, h1, fun m u hu => ?_, fun i x hx => ?_, fun u hu => ?_⟩
  · have hm := (List.getElem?_eq_some_iff.1 hu).1
    rw [h1] at hm
    have hi : m / size < l.length := (Nat.div_lt_iff_lt_mul hs).2 hm
    have hj : m % size < size := Nat.mod_lt _ hs
    have e : m / size * size + m % size = m := by rw [Nat.mul_comm]; exact Nat.div_add_mod m size
    have h3 := h2 _ hi _ hj
    rw [e, hu] at h3
    have h4 := (hf _ _ (List.getElem?_eq_getElem hi)).2.1 _ u h3.symm
    rw [Nat.add_assoc, e] at h4
    exact h4
  · have hi := (List.getElem?_eq_some_iff.1 hx).1
    obtain ⟨a, b, c⟩ := hf i x hx
    refine ⟨f i, a, fun j u hu => ?_, c⟩
    have hj := (List.getElem?_eq_some_iff.1 hu).1
    rw [a] at hj
    rw [h2 i hi j hj]
    exact hu
  · obtain ⟨i, hi, hu⟩ := List.mem_flatMap.1 hu
    have hi := List.mem_range.1 hi
    exact ⟨i, _, f i, List.getElem?_eq_getElem hi, (hf i _ (List.getElem?_eq_getElem hi)).2.2, hu⟩

/-- A slice that shows items: its cells as a list, and what the append reads. -/
theorem items_first {α : Type} (D : Shown α) {R : Nat → Prop} {w : World} {size : Nat} (hs : 0 < size) (l : List α) (v : Value)
    (h : (l = [] ∧ ∃ a c, v = .slice a 0 c) ∨ ∃ g off cap, R g ∧ v = .slice (some ⟨g, off, none⟩) l.length cap ∧ ∀ (i : Nat) (x : α), l[i]? = some x → ∃ xs : List Value, xs.length = size ∧ (∀ (j : Nat) (u : Value), xs[j]? = some u → w.cell? ⟨g, off + i * size + j, none⟩ = some u) ∧ D.sh R w x xs)
    (hone : ∀ x xs, D.sh R w x xs → ∀ u ∈ xs, u.oneCell' = true) :
    ∃ (a : Option Addr) (c : Nat) (cs : List Value), v = .slice a l.length c ∧ cs.length = l.length * size ∧ (∀ u ∈ cs, u.oneCell' = true) ∧
      (∀ w' : World, (∀ g o u, R g → w.cell? ⟨g, o, none⟩ = some u → w'.cell? ⟨g, o, none⟩ = some u) → (Builtin.firstCells size l.length v).run Tryz.prog w' = .ok cs.toArray w') ∧
      ∀ (i : Nat) (x : α), l[i]? = some x → ∃ xs : List Value, xs.length = size ∧ (∀ (j : Nat) (u : Value), xs[j]? = some u → cs[i * size + j]? = some u) ∧ D.sh R w x xs := by
  rcases h with ⟨rfl, a, c, rfl⟩ | ⟨g, off, cap, hR, rfl, hc⟩
  · refine ⟨a, c, [], rfl, by simp, by simp, fun w' _ => ?_, by simp⟩
    cases a with
    | none => simp [Builtin.firstCells]
    | some a =>
      obtain ⟨g, o, sp⟩ := a
      have := run_firstCells_some (P := Tryz.prog) w' size 0 ⟨g, o, sp⟩ 0 c [] (by simp) (by simp)
      simpa using this
  · obtain ⟨cs, h1, h2, h3, h4⟩ := row_cells D hs l g off hc
    refine ⟨_, cap, cs, rfl, h1, fun u hu => ?_, fun w' hw => ?_, h3⟩
    · obtain ⟨i, x, xs, _, h5, h6⟩ := h4 u hu
      exact hone x xs h5 u h6
    · refine run_firstCells_some (P := Tryz.prog) w' size l.length ⟨g, off, none⟩ l.length cap cs h1 (fun j u hj => ?_)
      have := hw _ _ _ hR (h2 j u hj)
      have e : (⟨g, off, none⟩ : Addr).add j = ⟨g, off + j, none⟩ := by unfold Addr.add; split <;> simp_all
      rw [e]
      exact this

/-- What an append of such cells onto an empty row leaves. -/
theorem ItRow.of_cells {α : Type} {D : Shown α} {e : TypeId} {size B : Nat} {R S : Nat → Prop} {w w' : World} {v' : Value} {l : List α} {cs : List Value} (ho : w'.ownsRow B e size v' l.length cs) (f : Fr S w w') (hS : ∀ k, R k → ¬ S k) (hv : ∀ k, R k → v'.ownBlock ≠ some k) (hR : ∀ k, R k → B ≤ k)
    (hc : ∀ (i : Nat) (x : α), l[i]? = some x → ∃ xs : List Value, xs.length = size ∧ (∀ (j : Nat) (u : Value), xs[j]? = some u → cs[i * size + j]? = some u) ∧ D.sh R w x xs) : ItRow D e size B (fun _ => False) w' v' l := by
  refine ⟨cs, ho, fun _ _ h => h, fun i x hx => ?_⟩
  obtain ⟨xs, a, b, hd⟩ := hc i x hx
  exact ⟨xs, a, b, D.mono (D.fr hd f hS) (fun k _ h => ⟨hR k h, fun h => h, hv k h⟩)⟩

/-- A row that is owned alone, whose items lie elsewhere. -/
def CpRow {α : Type} (D : Shown α) (e : TypeId) (size N : Nat) (R : Nat → Prop) (w : World) (v : Value) (l : List α) : Prop :=
  ∃ cs : List Value, w.ownsRow N e size v l.length cs ∧ ∀ (i : Nat) (x : α), l[i]? = some x → ∃ xs : List Value, xs.length = size ∧ (∀ (j : Nat) (u : Value), xs[j]? = some u → cs[i * size + j]? = some u) ∧ D.sh R w x xs

theorem CpRow.fr {α : Type} {D : Shown α} {e : TypeId} {size N : Nat} {R S : Nat → Prop} {w w' : World} {v : Value} {l : List α} (h : CpRow D e size N R w v l) (f : Fr S w w') (hS : ∀ k, R k → ¬ S k) (hv : ∀ k, v.ownBlock = some k → ¬ S k) : CpRow D e size N R w' v l := by
  obtain ⟨cs, h1, h2⟩ := h
  refine ⟨cs, ownsRow_fr h1 f hv, fun i x hx => ?_⟩
  obtain ⟨xs, a, b, hd⟩ := h2 i x hx
  exact ⟨xs, a, b, D.fr hd f hS⟩

theorem CpRow.slice {α : Type} {D : Shown α} {e : TypeId} {size N : Nat} {R : Nat → Prop} {w : World} {v : Value} {l : List α} (h : CpRow D e size N R w v l) : ∃ a c, v = .slice a l.length c := by
  obtain ⟨cs, h1, _⟩ := h
  exact slice_of_own h1

theorem CpRow.own {α : Type} {D : Shown α} {e : TypeId} {size N : Nat} {R : Nat → Prop} {w : World} {v : Value} {l : List α} (h : CpRow D e size N R w v l) (k : Nat) (hk : v.ownBlock = some k) : N ≤ k ∧ k < w.heap.size := by
  obtain ⟨cs, h1, _⟩ := h
  exact World.ownsRow.lt h1 k hk

/-- The row's cells in memory. -/
theorem CpRow.cells {α : Type} {D : Shown α} {e : TypeId} {size N : Nat} {R : Nat → Prop} {w : World} {v : Value} {l : List α} (h : CpRow D e size N R w v l) : (l = [] ∧ ∃ a c, v = .slice a 0 c) ∨
    ∃ g cap cur, N ≤ g ∧ v = .slice (some ⟨g, 0, none⟩) l.length cap ∧ l.length ≤ cap ∧ w.heap[g]? = some (.cells cur e (0, 0)) ∧ ∀ (i : Nat) (x : α), l[i]? = some x → ∃ xs : List Value, xs.length = size ∧ (∀ (j : Nat) (u : Value), xs[j]? = some u → cur[i * size + j]? = some u) ∧ D.sh R w x xs := by
  obtain ⟨cs, h1, h2⟩ := h
  have hh := h1
  rcases hh.2 with ⟨rfl, hz⟩ | ⟨g, cap, cur, rfl, hb, hgg, hle, _⟩
  · exact .inl ⟨List.eq_nil_of_length_eq_zero hz, none, 0, rfl⟩
  · refine .inr ⟨g, cap, cur, hb, rfl, hle, hgg, fun i x hx => ?_⟩
    obtain ⟨xs, a, b, hd⟩ := h2 i x hx
    refine ⟨xs, a, fun j u hu => ?_, hd⟩
    have := World.ownsRow.cells (g := g) h1 rfl (i * size + j) u (b j u hu)
    rw [plain_add, cell_of_row w g _ _ _ _ hgg] at this
    exact this
end
end Go.Proofs.YtplipjijaaejlaaGreat
