/-
  The laws' arguments opened: slices of slices of bytes; acts.
-/
import Derived.Test.YtojfabhbkdddpaaPoPW
import Derived.Test.YtojfabhbkdddpaaArg
import Derived.WideShapes
namespace Go.Proofs.Ytojfabhbkdddpaa
open Go.ChangeShapes Go.WideShapes Go.ChangeAt Go.RowKit
set_option maxRecDepth 100000

/-- The slice v shows bytes that were there before. -/
def SeesO (w : World) (v : Value) (l : List UInt8) : Prop := Sees w v l ∧ (l = [] ∨ ∀ k, v.ownBlock = some k → k < w.heap.size)

theorem SeesO.fr {w w' : World} {v : Value} {l : List UInt8} (h : SeesO w v l) (hf : Fr (fun _ => False) w w') : SeesO w' v l :=
  ⟨h.1.fr hf (fun _ _ h => h), h.2.imp id (fun h k hk => Nat.lt_of_lt_of_le (h k hk) hf.size)⟩

theorem seesO_u8 {w : World} {v : Value} {l : List Int} (h : SeesL w v (l.map (Value.int .u8))) (hw : ∀ n ∈ l, (Lit.int .u8 n).wf = true) : SeesO w v (l.map fun n => UInt8.ofNat n.toNat) :=
  ⟨sees_u8 h hw, h.old.imp (fun e => by cases l with | nil => rfl | cons _ _ => simp at e) id⟩

theorem cellsOf_u8s : Try.prog.cellsOf 30 = 1 := by kernel_rfl

theorem cellsOf_u8 : Try.prog.cellsOf 5 = 1 := by kernel_rfl

/-- A slice of bytes that an argument holds. -/
structure BL where
  l : List UInt8
  a : Option Addr
  c : Nat
def BL.sl (x : BL) : Value := .slice x.a x.l.length x.c

def LLV (w : World) (l : List BL) (v : Value) : Prop :=
  (l = [] ∧ ∃ a c, v = .slice a 0 c) ∨
  ∃ g off cap, v = .slice (some ⟨g, off, none⟩) l.length cap ∧ l.length ≤ cap ∧ ∀ j x, l[j]? = some x → SeesO w x.sl x.l ∧ w.cell? ⟨g, off + j, none⟩ = some x.sl

/-- An act. -/
structure AcE where
  k : Int
  t : Int
  i : Int
  f : Int
  m : Int
  l : List UInt8
  a : Option Addr
  c : Nat
def AcE.sl (x : AcE) : Value := .slice x.a x.l.length x.c
def AcE.cells (x : AcE) : List Value := [.int .u8 x.k, .int .u8 x.t, .int .u8 x.i, .int .i64 x.f, .int .u32 x.m, x.sl]
def AcOk (w : World) (x : AcE) : Prop := ((0 ≤ x.k ∧ x.k ≤ 255) ∧ (0 ≤ x.t ∧ x.t ≤ 255) ∧ (0 ≤ x.i ∧ x.i ≤ 255)) ∧ ((-9223372036854775808 ≤ x.f ∧ x.f ≤ 9223372036854775807) ∧ (0 ≤ x.m ∧ x.m ≤ 4294967295)) ∧ SeesO w x.sl x.l

def ActsV (w : World) (l : List AcE) (v : Value) : Prop :=
  (l = [] ∧ ∃ a c, v = .slice a 0 c) ∨
  ∃ g off cap, v = .slice (some ⟨g, off, none⟩) l.length cap ∧ l.length ≤ cap ∧ ∀ j x, l[j]? = some x → AcOk w x ∧ ∀ i v, x.cells[i]? = some v → w.cell? ⟨g, off + j * 6 + i, none⟩ = some v

theorem cellsOf_Act : Try.prog.cellsOf 32 = 6 := by kernel_rfl
theorem cellsOf_int : Try.prog.cellsOf 3 = 1 := by kernel_rfl
theorem cellsOf_u32 : Try.prog.cellsOf 29 = 1 := by kernel_rfl

section
variable {H : Type} (enc : TypeId × Value → H) (w : World)

theorem u8s_reads {fuel : Nat} {cs : List Value} {x : DataW H × List MemPlace} (h : DataW.trod enc Try.prog w 0 (fun _ => true) true fuel 30 cs = some x) : ∃ (l : List UInt8) (a : Option Addr) (c : Nat), cs = [.slice a l.length c] ∧ SeesO w (.slice a l.length c) l := by
  rcases slice_each enc w Try.underlying30 cellsOf_u8 (by omega) h with ⟨a, rfl⟩ | ⟨a, len, cap, n', hn, rfl, hle, hc, rfl | ⟨b, o, rfl, each⟩⟩
  · exact ⟨[], a, 0, rfl, .inl ⟨rfl, _, _, rfl⟩, .inl rfl⟩
  · exact ⟨[], a, cap, rfl, .inl ⟨rfl, _, _, rfl⟩, .inl rfl⟩
  · have ch : ∀ i, ∃ n : Int, i < len → ((Lit.int .u8 n).wf = true) ∧ w.cell? ⟨b, o + i, none⟩ = some (.int .u8 n) := by
      intro i
      by_cases hi : i < len
      · obtain ⟨cs', y, h3, hcell⟩ := each i hi
        obtain ⟨n, hw, rfl⟩ := int_reads enc w Try.underlying5 h3
        refine ⟨n, fun _ => ⟨hw, ?_⟩⟩
        have := hcell 0 _ rfl (by omega)
        rwa [Nat.mul_one, Nat.add_zero] at this
      · exact ⟨0, fun h => absurd h hi⟩
    obtain ⟨of, hof⟩ := Classical.axiomOfChoice ch
    have hs : SeesL w (.slice (some ⟨b, o, none⟩) len cap) (((List.range len).map of).map (Value.int .u8)) := .inr ⟨b, o, cap, by simp, by simpa using hle, fun i t hi => by
      rw [List.getElem?_map, List.getElem?_map] at hi
      by_cases hlt : i < len
      · rw [List.getElem?_range hlt] at hi
        cases hi
        exact (hof i hlt).2
      · rw [List.getElem?_eq_none (by simp; omega)] at hi
        cases hi⟩
    have hw : ∀ n ∈ (List.range len).map of, (Lit.int .u8 n).wf = true := by
      intro n hn
      obtain ⟨i, hi, rfl⟩ := List.mem_map.1 hn
      exact (hof i (List.mem_range.1 hi)).1
    have := seesO_u8 hs hw
    have hl : (((List.range len).map of).map fun n => UInt8.ofNat n.toNat).length = len := by simp
    exact ⟨_, some ⟨b, o, none⟩, cap, by rw [hl], by rw [hl]; exact this⟩

theorem lists_any {v : Value} {d : DataW H} {p : List MemPlace} {base : Nat} (hval : Value.okWide Try.prog w .any base 45 v)
    (h : DataW.Trod enc Try.prog w 0 (fun _ => true) true 45 v d p) : ∃ l, LLV w l v := by
  obtain ⟨a, len, cap, rfl⟩ := okWide_slice Try.underlying45 hval
  obtain ⟨fuel, hf⟩ := h
  rcases slice_each enc w Try.underlying45 cellsOf_u8s (by omega) hf with ⟨a', e⟩ | ⟨a', len', cap', n', hn, e, hle, hc, rfl | ⟨b, o, rfl, each⟩⟩
  · simp [Value.cells] at e
    obtain ⟨rfl, rfl, rfl⟩ := e
    exact ⟨[], .inl ⟨rfl, _, _, rfl⟩⟩
  · simp [Value.cells] at e
    obtain ⟨rfl, rfl, rfl⟩ := e
    exact ⟨[], .inl ⟨rfl, _, _, rfl⟩⟩
  · simp [Value.cells] at e
    obtain ⟨rfl, rfl, rfl⟩ := e
    have ch : ∀ i, ∃ x : BL, i < len → SeesO w x.sl x.l ∧ w.cell? ⟨b, o + i, none⟩ = some x.sl := by
      intro i
      by_cases hi : i < len
      · obtain ⟨cs', y, h3, hcell⟩ := each i hi
        obtain ⟨l, a, c, rfl, hs⟩ := u8s_reads enc w h3
        refine ⟨⟨l, a, c⟩, fun _ => ⟨hs, ?_⟩⟩
        have := hcell 0 _ rfl (by omega)
        rwa [Nat.mul_one, Nat.add_zero] at this
      · exact ⟨⟨[], none, 0⟩, fun h => absurd h hi⟩
    obtain ⟨of, hof⟩ := Classical.axiomOfChoice ch
    refine ⟨(List.range len).map of, .inr ⟨b, o, cap, by simp, by simpa using hle, fun j x hj => ?_⟩⟩
    rw [List.getElem?_map] at hj
    by_cases hlt : j < len
    · rw [List.getElem?_range hlt] at hj
      cases hj
      exact hof j hlt
    · rw [List.getElem?_eq_none (by simp; omega)] at hj
      cases hj

theorem act_reads {fuel : Nat} {cs : List Value} {y : DataW H × List MemPlace} (h : DataW.trod enc Try.prog w 0 (fun _ => true) true fuel 32 cs = some y) : ∃ x : AcE, cs = x.cells ∧ AcOk w x := by
  obtain ⟨xs, n, rfl, hy0, hl, hlen, hf⟩ := DataW.trod_struct Try.underlying32 h
  rw [cellsOf_Act] at hl
  match cs, hl with
  | [c0, c1, c2, c3, c4, c5], _ =>
  have f0 : DataW.trod enc Try.prog w 0 (fun _ => true) true n 5 (List.take (Try.prog.cellsOf 5) (List.drop 0 [c0, c1, c2, c3, c4, c5])) = xs[0]? := hf 0 _ rfl
  have f1 : DataW.trod enc Try.prog w 0 (fun _ => true) true n 5 (List.take (Try.prog.cellsOf 5) (List.drop 1 [c0, c1, c2, c3, c4, c5])) = xs[1]? := hf 1 _ rfl
  have f2 : DataW.trod enc Try.prog w 0 (fun _ => true) true n 5 (List.take (Try.prog.cellsOf 5) (List.drop 2 [c0, c1, c2, c3, c4, c5])) = xs[2]? := hf 2 _ rfl
  have f3 : DataW.trod enc Try.prog w 0 (fun _ => true) true n 3 (List.take (Try.prog.cellsOf 3) (List.drop 3 [c0, c1, c2, c3, c4, c5])) = xs[3]? := hf 3 _ rfl
  have f4 : DataW.trod enc Try.prog w 0 (fun _ => true) true n 29 (List.take (Try.prog.cellsOf 29) (List.drop 4 [c0, c1, c2, c3, c4, c5])) = xs[4]? := hf 4 _ rfl
  have f5 : DataW.trod enc Try.prog w 0 (fun _ => true) true n 30 (List.take (Try.prog.cellsOf 30) (List.drop 5 [c0, c1, c2, c3, c4, c5])) = xs[5]? := hf 5 _ rfl
  have hl5 : xs.length = 6 := hlen
  rw [List.getElem?_eq_getElem (by omega)] at f0 f1 f2 f3 f4 f5
  simp only [cellsOf_u8, cellsOf_u8s, cellsOf_int, cellsOf_u32, List.drop_zero, List.drop_succ_cons, List.take_succ_cons, List.take_zero] at f0 f1 f2 f3 f4 f5
  obtain ⟨k0, h0, e0⟩ := int_reads enc w Try.underlying5 f0
  obtain ⟨k1, h1, e1⟩ := int_reads enc w Try.underlying5 f1
  obtain ⟨k2, h2, e2⟩ := int_reads enc w Try.underlying5 f2
  obtain ⟨k3, h3, e3⟩ := int_reads enc w Try.underlying3 f3
  obtain ⟨k4, h4, e4⟩ := int_reads enc w Try.underlying29 f4
  obtain ⟨l, a, c, e5, hs⟩ := u8s_reads enc w f5
  simp at e0 e1 e2 e3 e4 e5
  subst e0 e1 e2 e3 e4 e5
  exact ⟨⟨k0, k1, k2, k3, k4, l, a, c⟩, rfl, ⟨bounds_u8 h0, bounds_u8 h1, bounds_u8 h2⟩, ⟨bounds_i64 h3, bounds_u32 h4⟩, hs⟩

theorem acts_any {v : Value} {d : DataW H} {p : List MemPlace} {base : Nat} (hval : Value.okWide Try.prog w .any base 22 v)
    (h : DataW.Trod enc Try.prog w 0 (fun _ => true) true 22 v d p) : ∃ l, ActsV w l v := by
  obtain ⟨a, len, cap, rfl⟩ := okWide_slice Try.underlying22 hval
  obtain ⟨fuel, hf⟩ := h
  rcases slice_each enc w Try.underlying22 cellsOf_Act (by omega) hf with ⟨a', e⟩ | ⟨a', len', cap', n', hn, e, hle, hc, rfl | ⟨b, o, rfl, each⟩⟩
  · simp [Value.cells] at e
    obtain ⟨rfl, rfl, rfl⟩ := e
    exact ⟨[], .inl ⟨rfl, _, _, rfl⟩⟩
  · simp [Value.cells] at e
    obtain ⟨rfl, rfl, rfl⟩ := e
    exact ⟨[], .inl ⟨rfl, _, _, rfl⟩⟩
  · simp [Value.cells] at e
    obtain ⟨rfl, rfl, rfl⟩ := e
    have ch : ∀ i, ∃ x : AcE, i < len → AcOk w x ∧ ∀ j v, x.cells[j]? = some v → w.cell? ⟨b, o + i * 6 + j, none⟩ = some v := by
      intro i
      by_cases hi : i < len
      · obtain ⟨cs', y, h3, hcell⟩ := each i hi
        obtain ⟨x, rfl, hok⟩ := act_reads enc w h3
        exact ⟨x, fun _ => ⟨hok, fun j v hv => hcell j v hv (by have := (List.getElem?_eq_some_iff.1 hv).1; simpa [AcE.cells] using this)⟩⟩
      · exact ⟨⟨0, 0, 0, 0, 0, [], none, 0⟩, fun h => absurd h hi⟩
    obtain ⟨of, hof⟩ := Classical.axiomOfChoice ch
    refine ⟨(List.range len).map of, .inr ⟨b, o, cap, by simp, by simpa using hle, fun j x hj => ?_⟩⟩
    rw [List.getElem?_map] at hj
    by_cases hlt : j < len
    · rw [List.getElem?_range hlt] at hj
      cases hj
      exact hof j hlt
    · rw [List.getElem?_eq_none (by simp; omega)] at hj
      cases hj
end
end Go.Proofs.Ytojfabhbkdddpaa
