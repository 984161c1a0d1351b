/-
  VoterPlays' acts, opened.
-/
import Derived.Test.YtmpnomngnfffbaaVotArg
namespace Go.Proofs.Ytmpnomngnfffbaa
open Go.ChangeShapes Go.WideShapes Go.ChangeAt Go.RowKit
set_option maxRecDepth 100000

/-- An act: a ballot's numbers, whether it is a vote, the entry. -/
structure AcE where
  r : Int
  n : Int
  vote : Bool
  s : Sm
  a : Option Addr
  c : Nat

abbrev AcE.sl (x : AcE) : Value := x.s.sl x.a x.c
abbrev AcE.arr (x : AcE) : Array Value := #[.int .u8 x.r, .int .u8 x.n, .bool x.vote, .int .u8 x.s.kind, .int .u16 x.s.c.t, .int .u16 x.s.c.n, .int .u16 x.s.c.p, x.sl, .int .u16 x.s.mb]
def AcE.cells (x : AcE) : List Value := [.int .u8 x.r, .int .u8 x.n, .bool x.vote, .int .u8 x.s.kind, .int .u16 x.s.c.t, .int .u16 x.s.c.n, .int .u16 x.s.c.p, x.sl, .int .u16 x.s.mb]

def AcOk (w : World) (x : AcE) : Prop := ((0 ≤ x.r ∧ x.r ≤ 255) ∧ (0 ≤ x.n ∧ x.n ≤ 255)) ∧ SeesO w x.sl x.s.c.l ∧ x.s.ok

def ActsV (w : World) (l : List AcE) (v : Value) : Prop :=
  (l = [] ∧ ∃ a c, v = .slice a 0 c) ∨
  ∃ g off cap, v = .slice (some ⟨g, off, none⟩) l.length cap ∧ l.length ≤ cap ∧ ∀ j x, l[j]? = some x → AcOk w x ∧ ∀ i v, x.cells[i]? = some v → w.cell? ⟨g, off + j * 9 + i, none⟩ = some v

theorem cellsOf_Act : Try.prog.cellsOf 61 = 9 := by kernel_rfl
theorem cellsOf_bool : Try.prog.cellsOf 4 = 1 := by kernel_rfl

section
variable {H : Type} (enc : TypeId × Value → H) (w : World)

theorem act_reads {fuel : Nat} {cs : List Value} {y : DataW H × List MemPlace} (h : DataW.trod enc Try.prog w 0 (fun _ => true) true fuel 61 cs = some y) : ∃ x : AcE, cs = x.cells ∧ AcOk w x := by
  obtain ⟨xs, n, rfl, hy0, hl, hlen, hf⟩ := DataW.trod_struct Try.underlying61 h
  rw [cellsOf_Act] at hl
  match cs, hl with
  | [c0, c1, c2, c3, c4, c5, c6, c7, c8], _ =>
  have f0 : DataW.trod enc Try.prog w 0 (fun _ => true) true n 5 (List.take (Try.prog.cellsOf 5) (List.drop 0 [c0, c1, c2, c3, c4, c5, c6, c7, c8])) = xs[0]? := hf 0 _ rfl
  have f1 : DataW.trod enc Try.prog w 0 (fun _ => true) true n 5 (List.take (Try.prog.cellsOf 5) (List.drop 1 [c0, c1, c2, c3, c4, c5, c6, c7, c8])) = xs[1]? := hf 1 _ rfl
  have f2 : DataW.trod enc Try.prog w 0 (fun _ => true) true n 4 (List.take (Try.prog.cellsOf 4) (List.drop 2 [c0, c1, c2, c3, c4, c5, c6, c7, c8])) = xs[2]? := hf 2 _ rfl
  have f3 : DataW.trod enc Try.prog w 0 (fun _ => true) true n 27 (List.take (Try.prog.cellsOf 27) (List.drop 3 [c0, c1, c2, c3, c4, c5, c6, c7, c8])) = xs[3]? := hf 3 _ rfl
  have hl5 : xs.length = 4 := hlen
  rw [List.getElem?_eq_getElem (by omega)] at f0 f1 f2 f3
  simp only [cellsOf_u8, cellsOf_bool, cellsOf_Sm, List.drop_zero, List.drop_succ_cons, List.take_succ_cons, List.take_zero] at f0 f1 f2 f3
  obtain ⟨k0, h0, e0⟩ := int_reads enc w Try.underlying5 f0
  obtain ⟨k1, h1, e1⟩ := int_reads enc w Try.underlying5 f1
  obtain ⟨k2, e2⟩ := bool_reads enc w Try.underlying4 f2
  obtain ⟨s, a, c, e3, hs, hok⟩ := sm_reads enc w f3
  simp at e0 e1 e2 e3
  obtain ⟨e30, e31, e32, e33, e34, e35⟩ := e3
  subst e0 e1 e2 e30 e31 e32 e33 e34 e35
  exact ⟨⟨k0, k1, k2, s, a, c⟩, rfl, ⟨bounds_u8 h0, bounds_u8 h1⟩, hs, hok⟩

theorem acts_each {fuel : Nat} {cs : List Value} {x : DataW H × List MemPlace} (h : DataW.trod enc Try.prog w 0 (fun _ => true) true fuel 54 cs = some x) :
    (∃ a, cs = [.slice a 0 0]) ∨ ∃ a len cap, cs = [.slice a len cap] ∧ len ≤ cap ∧ (len = 0 ∨ ∃ b o, a = some ⟨b, o, none⟩ ∧ ∀ i, i < len → ∃ y : AcE, AcOk w y ∧ ∀ j v, y.cells[j]? = some v → w.cell? ⟨b, o + i * 9 + j, none⟩ = some v) := by
  rcases slice_each enc w Try.underlying54 cellsOf_Act (by omega) h with ⟨a, rfl⟩ | ⟨a, len, cap, n', hn, rfl, hle, hc, rfl | ⟨b, o, rfl, each⟩⟩
  · exact .inl ⟨_, rfl⟩
  · exact .inr ⟨a, 0, cap, rfl, hle, .inl rfl⟩
  · refine .inr ⟨_, len, cap, rfl, hle, .inr ⟨b, o, rfl, fun i hi => ?_⟩⟩
    obtain ⟨cs', y, h3, hcell⟩ := each i hi
    obtain ⟨z, rfl, hok⟩ := act_reads enc w h3
    exact ⟨z, hok, fun j v hv => hcell j v hv (by have := (List.getElem?_eq_some_iff.1 hv).1; simpa [AcE.cells] using this)⟩

theorem acts_any {v : Value} {d : DataW H} {p : List MemPlace} {base : Nat} (hval : Value.okWide Try.prog w .any base 54 v)
    (h : DataW.Trod enc Try.prog w 0 (fun _ => true) true 54 v d p) : ∃ l, ActsV w l v := by
  obtain ⟨a, len, cap, rfl⟩ := okWide_slice Try.underlying54 hval
  obtain ⟨fuel, hf⟩ := h
  rcases acts_each enc w hf with ⟨a', e⟩ | ⟨a', len', cap', e, hle, hc | ⟨b, o, rfl, each⟩⟩
  · simp [Value.cells] at e
    obtain ⟨rfl, rfl, rfl⟩ := e
    exact ⟨[], .inl ⟨rfl, _, _, rfl⟩⟩
  · simp [Value.cells] at e
    obtain ⟨rfl, rfl, rfl⟩ := e
    subst hc
    exact ⟨[], .inl ⟨rfl, _, _, rfl⟩⟩
  · simp [Value.cells] at e
    obtain ⟨rfl, rfl, rfl⟩ := e
    have ch : ∀ i, ∃ x : AcE, i < len → AcOk w x ∧ ∀ j v, x.cells[j]? = some v → w.cell? ⟨b, o + i * 9 + j, none⟩ = some v := by
      intro i
      by_cases hi : i < len
      · obtain ⟨x, hok, hcell⟩ := each i hi
        exact ⟨x, fun _ => ⟨hok, hcell⟩⟩
      · exact ⟨⟨0, 0, false, ⟨0, ⟨0, 0, 0, []⟩, 0⟩, none, 0⟩, fun h => absurd h hi⟩
    obtain ⟨of, hof⟩ := Classical.axiomOfChoice ch
    refine ⟨(List.range len).map of, .inr ⟨b, o, cap, by simp, by simpa using hle, fun j x hj => ?_⟩⟩
    rw [List.getElem?_map] at hj
    by_cases hlt : j < len
    · rw [List.getElem?_range hlt] at hj
      cases hj
      exact hof j hlt
    · rw [List.getElem?_eq_none (by simp; omega)] at hj
      cases hj
end
end Go.Proofs.Ytmpnomngnfffbaa
