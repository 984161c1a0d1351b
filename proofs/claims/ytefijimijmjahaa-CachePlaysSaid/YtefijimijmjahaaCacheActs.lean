/-
  The law's acts, opened.
-/
import Derived.Test.YtefijimijmjahaaCacheArg
namespace Go.Proofs.Ytefijimijmjahaa
open Go.ChangeShapes Go.WideShapes Go.ChangeAt Go.RowKit
set_option maxRecDepth 100000

/-- An act: whose call, whether it is looked for, and the answer. -/
structure AcE where
  t : Int
  n : Int
  look : Bool
  e : Int
  r : Int
  l : List UInt8
  a : Option Addr
  c : Nat

def AcE.sl (x : AcE) : Value := .slice x.a x.l.length x.c
def AcE.cells (x : AcE) : List Value := [.int .u8 x.t, .int .u8 x.n, .bool x.look, .int .u16 x.e, .int .u16 x.r, x.sl]

def AcOk (w : World) (x : AcE) : Prop := ((0 ≤ x.t ∧ x.t ≤ 255) ∧ (0 ≤ x.n ∧ x.n ≤ 255)) ∧ ((0 ≤ x.e ∧ x.e ≤ 65535) ∧ (0 ≤ x.r ∧ x.r ≤ 65535)) ∧ SeesO w x.sl x.l ∧ x.l.length ≤ reachBytes

def ActsV (w : World) (l : List AcE) (v : Value) : Prop :=
  (l = [] ∧ ∃ a c, v = .slice a 0 c) ∨
  ∃ g off cap, v = .slice (some ⟨g, off, none⟩) l.length cap ∧ l.length ≤ cap ∧ ∀ j x, l[j]? = some x → AcOk w x ∧ ∀ i v, x.cells[i]? = some v → w.cell? ⟨g, off + j * 6 + i, none⟩ = some v

theorem cellsOf_Act : Try.prog.cellsOf 34 = 6 := by kernel_rfl
theorem cellsOf_bool : Try.prog.cellsOf 4 = 1 := by kernel_rfl

section
variable {H : Type} (enc : TypeId × Value → H) (w : World)

theorem bool_reads1 {fuel : Nat} {c : Value} {x : Option (DataW H × List MemPlace)} {y : DataW H × List MemPlace} (hx : x = some y) (h : DataW.trod enc Try.prog w 0 (fun _ => true) true fuel 4 [c] = x) : ∃ b, c = .bool b := by
  subst hx
  cases fuel with
  | zero => simp [DataW.trod] at h
  | succ n =>
    unfold DataW.trod at h
    rw [Try.underlying4] at h
    cases c <;> simp at h
    exact ⟨_, rfl⟩

theorem all_app {P Q : List Nat} (h : (P ++ Q).all (· ≤ reachBytes) = true) : P.all (· ≤ reachBytes) = true ∧ Q.all (· ≤ reachBytes) = true := by
  rw [List.all_append, Bool.and_eq_true] at h
  exact h

theorem u8s_sized {fuel : Nat} {cs : List Value} {x : DataW H × List MemPlace} (h : DataW.trod enc Try.prog w 0 (fun _ => true) true fuel 30 cs = some x) (hz : (x.1.weights Try.prog 30).all (· ≤ reachBytes) = true) {a : Option Addr} {n c : Nat} (e : cs = [.slice a n c]) : n ≤ reachBytes := by
  rcases DataW.trod_slice Try.underlying30 h with ⟨rfl, _⟩ | ⟨a', len, cap, elems, rest, m, _, rfl, rfl, _, _, _, hlen, _⟩
  · simp at e
    omega
  · simp at e
    obtain ⟨-, rfl, -⟩ := e
    have hb : Try.prog.bytesOf 5 = 1 := by kernel_rfl
    simp only [DataW.weights, Try.underlying30, hb, List.all_cons, Bool.and_eq_true, decide_eq_true_eq, List.length_map] at hz
    omega

theorem act_reads {fuel : Nat} {cs : List Value} {y : DataW H × List MemPlace} (h : DataW.trod enc Try.prog w 0 (fun _ => true) true fuel 34 cs = some y) (hz : (y.1.weights Try.prog 34).all (· ≤ reachBytes) = true) : ∃ x : AcE, cs = x.cells ∧ AcOk w x := by
  obtain ⟨xs, n, rfl, hy0, hl, hlen, hf⟩ := DataW.trod_struct Try.underlying34 h
  rw [cellsOf_Act] at hl
  match cs, hl with
  | [c0, c1, c2, c3, c4, c5], _ =>
  have f0 : DataW.trod enc Try.prog w 0 (fun _ => true) true n 5 (List.take (Try.prog.cellsOf 5) (List.drop 0 [c0, c1, c2, c3, c4, c5])) = xs[0]? := hf 0 _ rfl
  have f1 : DataW.trod enc Try.prog w 0 (fun _ => true) true n 5 (List.take (Try.prog.cellsOf 5) (List.drop 1 [c0, c1, c2, c3, c4, c5])) = xs[1]? := hf 1 _ rfl
  have f2 : DataW.trod enc Try.prog w 0 (fun _ => true) true n 4 (List.take (Try.prog.cellsOf 4) (List.drop 2 [c0, c1, c2, c3, c4, c5])) = xs[2]? := hf 2 _ rfl
  have f3 : DataW.trod enc Try.prog w 0 (fun _ => true) true n 32 (List.take (Try.prog.cellsOf 32) (List.drop 3 [c0, c1, c2, c3, c4, c5])) = xs[3]? := hf 3 _ rfl
  have hl5 : xs.length = 4 := hlen
  rw [List.getElem?_eq_getElem (by omega)] at f0 f1 f2 f3
  simp only [cellsOf_u8, cellsOf_bool, cellsOf_Sa, List.drop_zero, List.drop_succ_cons, List.take_succ_cons, List.take_zero] at f0 f1 f2 f3
  obtain ⟨k0, h0, e0⟩ := int_reads enc w Try.underlying5 f0
  obtain ⟨k1, h1, e1⟩ := int_reads enc w Try.underlying5 f1
  obtain ⟨k2, e2⟩ := bool_reads1 enc w rfl f2
  obtain ⟨ys, m, hy, hy1, _, hlen2, hg⟩ := DataW.trod_struct Try.underlying32 f3
  have g0 : DataW.trod enc Try.prog w 0 (fun _ => true) true m 29 (List.take (Try.prog.cellsOf 29) (List.drop 0 [c3, c4, c5])) = ys[0]? := hg 0 _ rfl
  have g1 : DataW.trod enc Try.prog w 0 (fun _ => true) true m 29 (List.take (Try.prog.cellsOf 29) (List.drop 1 [c3, c4, c5])) = ys[1]? := hg 1 _ rfl
  have g2 : DataW.trod enc Try.prog w 0 (fun _ => true) true m 30 (List.take (Try.prog.cellsOf 30) (List.drop 2 [c3, c4, c5])) = ys[2]? := hg 2 _ rfl
  have hl6 : ys.length = 3 := hlen2
  rw [List.getElem?_eq_getElem (by omega)] at g0 g1 g2
  simp only [cellsOf_u16, cellsOf_u8s, List.drop_zero, List.drop_succ_cons, List.take_succ_cons, List.take_zero] at g0 g1 g2
  obtain ⟨k3, h3, e3⟩ := int_reads enc w Try.underlying29 g0
  obtain ⟨k4, h4, e4⟩ := int_reads enc w Try.underlying29 g1
  obtain ⟨l, a, c, e5, hs⟩ := u8s_reads enc w g2
  have hw : l.length ≤ reachBytes := by
    refine u8s_sized enc w g2 ?_ e5
    have z3 : (xs[3].1.weights Try.prog 32).all (· ≤ reachBytes) = true := by
      subst hy0
      match xs, hl5 with
      | [x0, x1, x2, x3], _ =>
      simp only [DataW.weights, Try.underlying34, List.map_cons, List.map_nil, DataW.weightsEach, List.append_nil] at hz
      exact (all_app (all_app (all_app hz).2).2).2
    have hy2 := congrArg Prod.fst hy1
    rw [hy2] at z3
    match ys, hl6 with
    | [y0, y1, y2], _ =>
    simp only [DataW.weights, Try.underlying32, List.map_cons, List.map_nil, DataW.weightsEach, List.append_nil] at z3
    exact (all_app (all_app z3).2).2
  simp at e0 e1 e3 e4 e5
  subst e0 e1 e2 e3 e4 e5
  exact ⟨⟨k0, k1, k2, k3, k4, l, a, c⟩, rfl, ⟨bounds_u8 h0, bounds_u8 h1⟩, ⟨bounds_u16 h3, bounds_u16 h4⟩, hs, hw⟩

theorem acts_each {fuel : Nat} {cs : List Value} {x : DataW H × List MemPlace} (h : DataW.trod enc Try.prog w 0 (fun _ => true) true fuel 22 cs = some x) (hz : (x.1.weights Try.prog 22).all (· ≤ reachBytes) = true) :
    (∃ a, cs = [.slice a 0 0]) ∨ ∃ a len cap, cs = [.slice a len cap] ∧ len ≤ cap ∧ (len = 0 ∨ ∃ b o, a = some ⟨b, o, none⟩ ∧ ∀ i, i < len → ∃ y : AcE, AcOk w y ∧ ∀ j v, y.cells[j]? = some v → w.cell? ⟨b, o + i * 6 + j, none⟩ = some v) := by
  rcases DataW.trod_slice Try.underlying22 h with ⟨rfl, _⟩ | ⟨a, len, cap, elems, rest, n, rfl, rfl, rfl, hb, hl, hc, hlen, hel, _, _⟩
  · exact .inl ⟨_, rfl⟩
  · refine .inr ⟨some a, len, cap, rfl, hl, ?_⟩
    by_cases hz0 : len = 0
    · exact .inl hz0
    right
    have hza : ∀ (i : Nat) (y : DataW H × List MemPlace), elems[i]? = some y → (y.1.weights Try.prog 34).all (· ≤ reachBytes) = true := by
      simp only [DataW.weights, Try.underlying22, List.all_cons, Bool.and_eq_true] at hz
      have h1 := (all_app hz.2).1
      clear hz hel hlen h
      intro i y hi
      induction elems generalizing i with
      | nil => simp at hi
      | cons e es ih =>
        simp only [List.map_cons, DataW.weightsAll] at h1
        cases i with
        | zero => simp at hi; subst hi; exact (all_app h1).1
        | succ i => exact ih (all_app h1).2 i (by simpa using hi)
    have each : ∀ i, i < len → ∃ cs' y, w.cells? 0 (a.add (i * 6)) 6 = some cs' ∧ DataW.trod enc Try.prog w 0 (fun _ => true) true n 34 cs' = some y ∧ (y.1.weights Try.prog 34).all (· ≤ reachBytes) = true := by
      intro i hi
      have h1 := hel i hi
      rw [List.getElem?_eq_getElem (by omega), cellsOf_Act] at h1
      obtain ⟨cs', h2, h3⟩ := Option.bind_eq_some_iff.1 h1
      exact ⟨cs', _, h2, h3, hza i _ (List.getElem?_eq_getElem (by omega))⟩
    obtain ⟨b, o, s⟩ := a
    obtain ⟨cs0, _, hc0, _⟩ := each 0 (by omega)
    have e0 : ((⟨b, o, s⟩ : Addr).add (0 * 6)) = ⟨b, o, s⟩ := by simp [Addr.add]
    rw [e0] at hc0
    have hs := spot_none hc0 (by omega)
    simp at hs
    subst hs
    refine ⟨b, o, rfl, fun i hi => ?_⟩
    obtain ⟨cs', y, h2, h3, h4⟩ := each i hi
    obtain ⟨z, rfl, hok⟩ := act_reads enc w h3 h4
    exact ⟨z, hok, fun j v hv => cell_at h2 j v hv (by have := (List.getElem?_eq_some_iff.1 hv).1; simpa [AcE.cells] using this)⟩

theorem acts_any {v : Value} {d : DataW H} {p : List MemPlace} {base : Nat} (hval : Value.okWide Try.prog w .any base 22 v)
    (h : DataW.Trod enc Try.prog w 0 (fun _ => true) true 22 v d p) (hz : (d.weights Try.prog 22).all (· ≤ reachBytes) = true) : ∃ l, ActsV w l v := by
  obtain ⟨a, len, cap, rfl⟩ := okWide_slice Try.underlying22 hval
  obtain ⟨fuel, hf⟩ := h
  rcases acts_each enc w hf hz with ⟨a', e⟩ | ⟨a', len', cap', e, hle, hc | ⟨b, o, rfl, each⟩⟩
  · simp [Value.cells] at e
    obtain ⟨rfl, rfl, rfl⟩ := e
    exact ⟨[], .inl ⟨rfl, _, _, rfl⟩⟩
  · simp [Value.cells] at e
    obtain ⟨rfl, rfl, rfl⟩ := e
    subst hc
    exact ⟨[], .inl ⟨rfl, _, _, rfl⟩⟩
  · simp [Value.cells] at e
    obtain ⟨rfl, rfl, rfl⟩ := e
    have ch : ∀ i, ∃ x : AcE, i < len → AcOk w x ∧ ∀ j v, x.cells[j]? = some v → w.cell? ⟨b, o + i * 6 + j, none⟩ = some v := by
      intro i
      by_cases hi : i < len
      · obtain ⟨x, hok, hcell⟩ := each i hi
        exact ⟨x, fun _ => ⟨hok, hcell⟩⟩
      · exact ⟨⟨0, 0, false, 0, 0, [], none, 0⟩, fun h => absurd h hi⟩
    obtain ⟨of, hof⟩ := Classical.axiomOfChoice ch
    refine ⟨(List.range len).map of, .inr ⟨b, o, cap, by simp, by simpa using hle, fun j x hj => ?_⟩⟩
    rw [List.getElem?_map] at hj
    by_cases hlt : j < len
    · rw [List.getElem?_range hlt] at hj
      cases hj
      exact hof j hlt
    · rw [List.getElem?_eq_none (by simp; omega)] at hj
      cases hj
end
end Go.Proofs.Ytefijimijmjahaa
