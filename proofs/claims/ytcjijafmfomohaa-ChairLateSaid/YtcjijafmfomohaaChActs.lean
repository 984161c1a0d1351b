/-
  ChairLate's acts, ChairOnce's moves and entries, opened.
-/
import Derived.Test.YtcjijafmfomohaaVotArg
namespace Go.Proofs.Ytcjijafmfomohaa
open Go.ChangeShapes Go.WideShapes Go.ChangeAt Go.RowKit
set_option maxRecDepth 100000

/-- An act: its numbers, the entry. -/
structure CaE where
  k : Int
  n : Int
  r : Int
  o : Int
  so : Bool
  s : Sm
  a : Option Addr
  c : Nat

abbrev CaE.sl (x : CaE) : Value := x.s.sl x.a x.c
abbrev CaE.arr (x : CaE) : Array Value := #[.int .u8 x.k, .int .u8 x.n, .int .u8 x.r, .int .u8 x.o, .bool x.so, .int .u8 x.s.kind, .int .u16 x.s.c.t, .int .u16 x.s.c.n, .int .u16 x.s.c.p, x.sl, .int .u16 x.s.mb]
def CaE.cells (x : CaE) : List Value := [.int .u8 x.k, .int .u8 x.n, .int .u8 x.r, .int .u8 x.o, .bool x.so, .int .u8 x.s.kind, .int .u16 x.s.c.t, .int .u16 x.s.c.n, .int .u16 x.s.c.p, x.sl, .int .u16 x.s.mb]

def CaOk (w : World) (x : CaE) : Prop := ((0 ≤ x.k ∧ x.k ≤ 255) ∧ (0 ≤ x.n ∧ x.n ≤ 255) ∧ (0 ≤ x.r ∧ x.r ≤ 255) ∧ (0 ≤ x.o ∧ x.o ≤ 255)) ∧ SeesO w x.sl x.s.c.l ∧ x.s.ok

/-- A move. -/
structure MvE where
  n : Int
  l : Int
  op : Bool
  ag : Bool
abbrev MvE.arr (x : MvE) : Array Value := #[.int .u8 x.n, .int .u8 x.l, .bool x.op, .bool x.ag]
def MvE.cells (x : MvE) : List Value := [.int .u8 x.n, .int .u8 x.l, .bool x.op, .bool x.ag]
def MvOk (_ : World) (x : MvE) : Prop := (0 ≤ x.n ∧ x.n ≤ 255) ∧ (0 ≤ x.l ∧ x.l ≤ 255)

theorem cellsOf_bool : Try.prog.cellsOf 4 = 1 := by kernel_rfl

def CaActs (w : World) (l : List CaE) (v : Value) : Prop :=
  (l = [] ∧ ∃ a c, v = .slice a 0 c) ∨
  ∃ g off cap, v = .slice (some ⟨g, off, none⟩) l.length cap ∧ l.length ≤ cap ∧ ∀ j x, l[j]? = some x → CaOk w x ∧ ∀ i v, x.cells[i]? = some v → w.cell? ⟨g, off + j * 11 + i, none⟩ = some v

theorem cellsOf_CaE : Try.prog.cellsOf 71 = 11 := by kernel_rfl

section
variable {H : Type} (enc : TypeId × Value → H) (w : World)

theorem ca_reads {fuel : Nat} {cs : List Value} {y : DataW H × List MemPlace} (h : DataW.trod enc Try.prog w 0 (fun _ => true) true fuel 71 cs = some y) : ∃ x : CaE, cs = x.cells ∧ CaOk w x := by
  obtain ⟨xs, n, rfl, hy0, hl, hlen, hf⟩ := DataW.trod_struct Try.underlying71 h
  rw [cellsOf_CaE] at hl
  match cs, hl with
  | [c0, c1, c2, c3, c4, c5, c6, c7, c8, c9, c10], _ =>
  have f0 : DataW.trod enc Try.prog w 0 (fun _ => true) true n 5 (List.take (Try.prog.cellsOf 5) (List.drop 0 [c0, c1, c2, c3, c4, c5, c6, c7, c8, c9, c10])) = xs[0]? := hf 0 _ rfl
  have f1 : DataW.trod enc Try.prog w 0 (fun _ => true) true n 5 (List.take (Try.prog.cellsOf 5) (List.drop 1 [c0, c1, c2, c3, c4, c5, c6, c7, c8, c9, c10])) = xs[1]? := hf 1 _ rfl
  have f2 : DataW.trod enc Try.prog w 0 (fun _ => true) true n 5 (List.take (Try.prog.cellsOf 5) (List.drop 2 [c0, c1, c2, c3, c4, c5, c6, c7, c8, c9, c10])) = xs[2]? := hf 2 _ rfl
  have f3 : DataW.trod enc Try.prog w 0 (fun _ => true) true n 5 (List.take (Try.prog.cellsOf 5) (List.drop 3 [c0, c1, c2, c3, c4, c5, c6, c7, c8, c9, c10])) = xs[3]? := hf 3 _ rfl
  have f4 : DataW.trod enc Try.prog w 0 (fun _ => true) true n 4 (List.take (Try.prog.cellsOf 4) (List.drop 4 [c0, c1, c2, c3, c4, c5, c6, c7, c8, c9, c10])) = xs[4]? := hf 4 _ rfl
  have f5 : DataW.trod enc Try.prog w 0 (fun _ => true) true n 27 (List.take (Try.prog.cellsOf 27) (List.drop 5 [c0, c1, c2, c3, c4, c5, c6, c7, c8, c9, c10])) = xs[5]? := hf 5 _ rfl
  have hl5 : xs.length = 6 := hlen
  rw [List.getElem?_eq_getElem (by omega)] at f0 f1 f2 f3 f4 f5
  simp only [cellsOf_u8, cellsOf_bool, cellsOf_Sm, List.drop_zero, List.drop_succ_cons, List.take_succ_cons, List.take_zero] at f0 f1 f2 f3 f4 f5
  obtain ⟨k0, h0, e0⟩ := int_reads enc w Try.underlying5 f0
  obtain ⟨k1, h1, e1⟩ := int_reads enc w Try.underlying5 f1
  obtain ⟨k2, h2, e2⟩ := int_reads enc w Try.underlying5 f2
  obtain ⟨k3, h3, e3⟩ := int_reads enc w Try.underlying5 f3
  obtain ⟨k4, e4⟩ := bool_reads enc w Try.underlying4 f4
  obtain ⟨s, a, c, e5, hs, hok⟩ := sm_reads enc w f5
  simp at e0 e1 e2 e3 e4 e5
  obtain ⟨e30, e31, e32, e33, e34, e35⟩ := e5
  subst e0 e1 e2 e3 e4 e30 e31 e32 e33 e34 e35
  exact ⟨⟨k0, k1, k2, k3, k4, s, a, c⟩, rfl, ⟨bounds_u8 h0, bounds_u8 h1, bounds_u8 h2, bounds_u8 h3⟩, hs, hok⟩

theorem ca_each {fuel : Nat} {cs : List Value} {x : DataW H × List MemPlace} (h : DataW.trod enc Try.prog w 0 (fun _ => true) true fuel 69 cs = some x) :
    (∃ a, cs = [.slice a 0 0]) ∨ ∃ a len cap, cs = [.slice a len cap] ∧ len ≤ cap ∧ (len = 0 ∨ ∃ b o, a = some ⟨b, o, none⟩ ∧ ∀ i, i < len → ∃ y : CaE, CaOk w y ∧ ∀ j v, y.cells[j]? = some v → w.cell? ⟨b, o + i * 11 + j, none⟩ = some v) := by
  rcases slice_each enc w Try.underlying69 cellsOf_CaE (by omega) h with ⟨a, rfl⟩ | ⟨a, len, cap, n', hn, rfl, hle, hc, rfl | ⟨b, o, rfl, each⟩⟩
  · exact .inl ⟨_, rfl⟩
  · exact .inr ⟨a, 0, cap, rfl, hle, .inl rfl⟩
  · refine .inr ⟨_, len, cap, rfl, hle, .inr ⟨b, o, rfl, fun i hi => ?_⟩⟩
    obtain ⟨cs', y, h3, hcell⟩ := each i hi
    obtain ⟨z, rfl, hok⟩ := ca_reads enc w h3
    exact ⟨z, hok, fun j v hv => hcell j v hv (by have := (List.getElem?_eq_some_iff.1 hv).1; simpa [CaE.cells] using this)⟩

theorem ca_any {v : Value} {d : DataW H} {p : List MemPlace} {base : Nat} (hval : Value.okWide Try.prog w .any base 69 v)
    (h : DataW.Trod enc Try.prog w 0 (fun _ => true) true 69 v d p) : ∃ l, CaActs w l v := by
  obtain ⟨a, len, cap, rfl⟩ := okWide_slice Try.underlying69 hval
  obtain ⟨fuel, hf⟩ := h
  rcases ca_each enc w hf with ⟨a', e⟩ | ⟨a', len', cap', e, hle, hc | ⟨b, o, rfl, each⟩⟩
  · simp [Value.cells] at e
    obtain ⟨rfl, rfl, rfl⟩ := e
    exact ⟨[], .inl ⟨rfl, _, _, rfl⟩⟩
  · simp [Value.cells] at e
    obtain ⟨rfl, rfl, rfl⟩ := e
    subst hc
    exact ⟨[], .inl ⟨rfl, _, _, rfl⟩⟩
  · simp [Value.cells] at e
    obtain ⟨rfl, rfl, rfl⟩ := e
    have ch : ∀ i, ∃ x : CaE, i < len → CaOk w x ∧ ∀ j v, x.cells[j]? = some v → w.cell? ⟨b, o + i * 11 + j, none⟩ = some v := by
      intro i
      by_cases hi : i < len
      · obtain ⟨x, hok, hcell⟩ := each i hi
        exact ⟨x, fun _ => ⟨hok, hcell⟩⟩
      · exact ⟨⟨0, 0, 0, 0, false, ⟨0, ⟨0, 0, 0, []⟩, 0⟩, none, 0⟩, fun h => absurd h hi⟩
    obtain ⟨of, hof⟩ := Classical.axiomOfChoice ch
    refine ⟨(List.range len).map of, .inr ⟨b, o, cap, by simp, by simpa using hle, fun j x hj => ?_⟩⟩
    rw [List.getElem?_map] at hj
    by_cases hlt : j < len
    · rw [List.getElem?_range hlt] at hj
      cases hj
      exact hof j hlt
    · rw [List.getElem?_eq_none (by simp; omega)] at hj
      cases hj
end

def MvActs (w : World) (l : List MvE) (v : Value) : Prop :=
  (l = [] ∧ ∃ a c, v = .slice a 0 c) ∨
  ∃ g off cap, v = .slice (some ⟨g, off, none⟩) l.length cap ∧ l.length ≤ cap ∧ ∀ j x, l[j]? = some x → MvOk w x ∧ ∀ i v, x.cells[i]? = some v → w.cell? ⟨g, off + j * 4 + i, none⟩ = some v

theorem cellsOf_MvE : Try.prog.cellsOf 53 = 4 := by kernel_rfl

section
variable {H : Type} (enc : TypeId × Value → H) (w : World)

theorem mv_reads {fuel : Nat} {cs : List Value} {y : DataW H × List MemPlace} (h : DataW.trod enc Try.prog w 0 (fun _ => true) true fuel 53 cs = some y) : ∃ x : MvE, cs = x.cells ∧ MvOk w x := by
  obtain ⟨xs, n, rfl, hy0, hl, hlen, hf⟩ := DataW.trod_struct Try.underlying53 h
  rw [cellsOf_MvE] at hl
  match cs, hl with
  | [c0, c1, c2, c3], _ =>
  have f0 : DataW.trod enc Try.prog w 0 (fun _ => true) true n 5 (List.take (Try.prog.cellsOf 5) (List.drop 0 [c0, c1, c2, c3])) = xs[0]? := hf 0 _ rfl
  have f1 : DataW.trod enc Try.prog w 0 (fun _ => true) true n 5 (List.take (Try.prog.cellsOf 5) (List.drop 1 [c0, c1, c2, c3])) = xs[1]? := hf 1 _ rfl
  have f2 : DataW.trod enc Try.prog w 0 (fun _ => true) true n 4 (List.take (Try.prog.cellsOf 4) (List.drop 2 [c0, c1, c2, c3])) = xs[2]? := hf 2 _ rfl
  have f3 : DataW.trod enc Try.prog w 0 (fun _ => true) true n 4 (List.take (Try.prog.cellsOf 4) (List.drop 3 [c0, c1, c2, c3])) = xs[3]? := hf 3 _ rfl
  have hl5 : xs.length = 4 := hlen
  rw [List.getElem?_eq_getElem (by omega)] at f0 f1 f2 f3
  simp only [cellsOf_u8, cellsOf_bool, cellsOf_Sm, List.drop_zero, List.drop_succ_cons, List.take_succ_cons, List.take_zero] at f0 f1 f2 f3
  obtain ⟨k0, h0, e0⟩ := int_reads enc w Try.underlying5 f0
  obtain ⟨k1, h1, e1⟩ := int_reads enc w Try.underlying5 f1
  obtain ⟨k2, e2⟩ := bool_reads enc w Try.underlying4 f2
  obtain ⟨k3, e3⟩ := bool_reads enc w Try.underlying4 f3
  simp at e0 e1 e2 e3
  subst e0 e1 e2 e3
  exact ⟨⟨k0, k1, k2, k3⟩, rfl, bounds_u8 h0, bounds_u8 h1⟩

theorem mv_each {fuel : Nat} {cs : List Value} {x : DataW H × List MemPlace} (h : DataW.trod enc Try.prog w 0 (fun _ => true) true fuel 29 cs = some x) :
    (∃ a, cs = [.slice a 0 0]) ∨ ∃ a len cap, cs = [.slice a len cap] ∧ len ≤ cap ∧ (len = 0 ∨ ∃ b o, a = some ⟨b, o, none⟩ ∧ ∀ i, i < len → ∃ y : MvE, MvOk w y ∧ ∀ j v, y.cells[j]? = some v → w.cell? ⟨b, o + i * 4 + j, none⟩ = some v) := by
  rcases slice_each enc w Try.underlying29 cellsOf_MvE (by omega) h with ⟨a, rfl⟩ | ⟨a, len, cap, n', hn, rfl, hle, hc, rfl | ⟨b, o, rfl, each⟩⟩
  · exact .inl ⟨_, rfl⟩
  · exact .inr ⟨a, 0, cap, rfl, hle, .inl rfl⟩
  · refine .inr ⟨_, len, cap, rfl, hle, .inr ⟨b, o, rfl, fun i hi => ?_⟩⟩
    obtain ⟨cs', y, h3, hcell⟩ := each i hi
    obtain ⟨z, rfl, hok⟩ := mv_reads enc w h3
    exact ⟨z, hok, fun j v hv => hcell j v hv (by have := (List.getElem?_eq_some_iff.1 hv).1; simpa [MvE.cells] using this)⟩

theorem mv_any {v : Value} {d : DataW H} {p : List MemPlace} {base : Nat} (hval : Value.okWide Try.prog w .any base 29 v)
    (h : DataW.Trod enc Try.prog w 0 (fun _ => true) true 29 v d p) : ∃ l, MvActs w l v := by
  obtain ⟨a, len, cap, rfl⟩ := okWide_slice Try.underlying29 hval
  obtain ⟨fuel, hf⟩ := h
  rcases mv_each enc w hf with ⟨a', e⟩ | ⟨a', len', cap', e, hle, hc | ⟨b, o, rfl, each⟩⟩
  · simp [Value.cells] at e
    obtain ⟨rfl, rfl, rfl⟩ := e
    exact ⟨[], .inl ⟨rfl, _, _, rfl⟩⟩
  · simp [Value.cells] at e
    obtain ⟨rfl, rfl, rfl⟩ := e
    subst hc
    exact ⟨[], .inl ⟨rfl, _, _, rfl⟩⟩
  · simp [Value.cells] at e
    obtain ⟨rfl, rfl, rfl⟩ := e
    have ch : ∀ i, ∃ x : MvE, i < len → MvOk w x ∧ ∀ j v, x.cells[j]? = some v → w.cell? ⟨b, o + i * 4 + j, none⟩ = some v := by
      intro i
      by_cases hi : i < len
      · obtain ⟨x, hok, hcell⟩ := each i hi
        exact ⟨x, fun _ => ⟨hok, hcell⟩⟩
      · exact ⟨⟨0, 0, false, false⟩, fun h => absurd h hi⟩
    obtain ⟨of, hof⟩ := Classical.axiomOfChoice ch
    refine ⟨(List.range len).map of, .inr ⟨b, o, cap, by simp, by simpa using hle, fun j x hj => ?_⟩⟩
    rw [List.getElem?_map] at hj
    by_cases hlt : j < len
    · rw [List.getElem?_range hlt] at hj
      cases hj
      exact hof j hlt
    · rw [List.getElem?_eq_none (by simp; omega)] at hj
      cases hj
end

end Go.Proofs.Ytcjijafmfomohaa
