/-
  The laws' arguments opened: calls and answers of small numbers.
-/
import Derived.Test.YtcjijafmfomohaaCallTake
import Derived.Test.YtcjijafmfomohaaArg
import Derived.WideShapes
namespace Go.Proofs.Ytcjijafmfomohaa
open Go.ChangeShapes Go.WideShapes Go.ChangeAt Go.RowKit
set_option maxRecDepth 100000

/-- A call of small numbers, an answer of small numbers. -/
structure Sc where
  t : Int
  n : Int
  p : Int
  l : List UInt8
structure Sa where
  e : Int
  r : Int
  l : List UInt8

/-- The slice v shows bytes that were there before. -/
def SeesO (w : World) (v : Value) (l : List UInt8) : Prop := Sees w v l ∧ (l = [] ∨ ∀ k, v.ownBlock = some k → k < w.heap.size)

def ScV (w : World) (s : Sc) (v : Value) : Prop := ∃ a c, v = .agg #[.int .u16 s.t, .int .u16 s.n, .int .u16 s.p, .slice a s.l.length c] ∧ SeesO w (.slice a s.l.length c) s.l ∧ 0 ≤ s.t ∧ s.t ≤ 65535 ∧ 0 ≤ s.n ∧ s.n ≤ 65535 ∧ 0 ≤ s.p ∧ s.p ≤ 65535
def SaV (w : World) (s : Sa) (v : Value) : Prop := ∃ a c, v = .agg #[.int .u16 s.e, .int .u16 s.r, .slice a s.l.length c] ∧ SeesO w (.slice a s.l.length c) s.l ∧ 0 ≤ s.e ∧ s.e ≤ 65535 ∧ 0 ≤ s.r ∧ s.r ≤ 65535

theorem SeesO.fr {w w' : World} {v : Value} {l : List UInt8} (h : SeesO w v l) (hf : Fr (fun _ => False) w w') : SeesO w' v l :=
  ⟨h.1.fr hf (fun _ _ h => h), h.2.imp id (fun h k hk => Nat.lt_of_lt_of_le (h k hk) hf.size)⟩

theorem seesO_u8 {w : World} {v : Value} {l : List Int} (h : SeesL w v (l.map (Value.int .u8))) (hw : ∀ n ∈ l, (Lit.int .u8 n).wf = true) : SeesO w v (l.map fun n => UInt8.ofNat n.toNat) :=
  ⟨sees_u8 h hw, h.old.imp (fun e => by cases l with | nil => rfl | cons _ _ => simp at e) id⟩

theorem cellsOf_Sc : Try.prog.cellsOf 25 = 4 := by kernel_rfl
theorem cellsOf_u16 : Try.prog.cellsOf 22 = 1 := by kernel_rfl
theorem cellsOf_u8s : Try.prog.cellsOf 23 = 1 := by kernel_rfl
theorem cellsOf_u8 : Try.prog.cellsOf 5 = 1 := by kernel_rfl

section
variable {H : Type} (enc : TypeId × Value → H) (w : World)

theorem u8s_reads {fuel : Nat} {cs : List Value} {x : DataW H × List MemPlace} (h : DataW.trod enc Try.prog w 0 (fun _ => true) true fuel 23 cs = some x) : ∃ (l : List UInt8) (a : Option Addr) (c : Nat), cs = [.slice a l.length c] ∧ SeesO w (.slice a l.length c) l := by
  rcases slice_each enc w Try.underlying23 cellsOf_u8 (by omega) h with ⟨a, rfl⟩ | ⟨a, len, cap, n', hn, rfl, hle, hc, rfl | ⟨b, o, rfl, each⟩⟩
  · exact ⟨[], a, 0, rfl, .inl ⟨rfl, _, _, rfl⟩, .inl rfl⟩
  · exact ⟨[], a, cap, rfl, .inl ⟨rfl, _, _, rfl⟩, .inl rfl⟩
  · have ch : ∀ i, ∃ n : Int, i < len → ((Lit.int .u8 n).wf = true) ∧ w.cell? ⟨b, o + i, none⟩ = some (.int .u8 n) := by
      intro i
      by_cases hi : i < len
      · obtain ⟨cs', y, h3, hcell⟩ := each i hi
        obtain ⟨n, hw, rfl⟩ := int_reads enc w Try.underlying5 h3
        refine ⟨n, fun _ => ⟨hw, ?_⟩⟩
        have := hcell 0 _ rfl (by omega)
        rwa [Nat.mul_one, Nat.add_zero] at this
      · exact ⟨0, fun h => absurd h hi⟩
    obtain ⟨of, hof⟩ := Classical.axiomOfChoice ch
    have hs : SeesL w (.slice (some ⟨b, o, none⟩) len cap) (((List.range len).map of).map (Value.int .u8)) := .inr ⟨b, o, cap, by simp, by simpa using hle, fun i t hi => by
      rw [List.getElem?_map, List.getElem?_map] at hi
      by_cases hlt : i < len
      · rw [List.getElem?_range hlt] at hi
        cases hi
        exact (hof i hlt).2
      · rw [List.getElem?_eq_none (by simp; omega)] at hi
        cases hi⟩
    have hw : ∀ n ∈ (List.range len).map of, (Lit.int .u8 n).wf = true := by
      intro n hn
      obtain ⟨i, hi, rfl⟩ := List.mem_map.1 hn
      exact (hof i (List.mem_range.1 hi)).1
    have := seesO_u8 hs hw
    have hl : (((List.range len).map of).map fun n => UInt8.ofNat n.toNat).length = len := by simp
    exact ⟨_, some ⟨b, o, none⟩, cap, by rw [hl], by rw [hl]; exact this⟩

theorem sc_any {v : Value} {d : DataW H} {p : List MemPlace} {base : Nat} (hval : Value.okWide Try.prog w .any base 25 v)
    (h : DataW.Trod enc Try.prog w 0 (fun _ => true) true 25 v d p) : ∃ x, ScV w x v := by
  obtain ⟨cs, rfl, _⟩ := okWide_struct Try.underlying25 hval
  obtain ⟨fuel, hf⟩ := h
  obtain ⟨xs, n, rfl, _, hl, hlen, hf⟩ := DataW.trod_struct Try.underlying25 hf
  rw [cellsOf_Sc] at hl
  have hcs : (Value.agg cs).cells.toList = cs.toList := rfl
  rw [hcs] at hl hf
  obtain ⟨cs⟩ := cs
  match cs, hl with
  | [c0, c1, c2, c3], _ =>
  have f0 : DataW.trod enc Try.prog w 0 (fun _ => true) true n 22 (List.take (Try.prog.cellsOf 22) (List.drop 0 [c0, c1, c2, c3])) = xs[0]? := hf 0 _ rfl
  have f1 : DataW.trod enc Try.prog w 0 (fun _ => true) true n 22 (List.take (Try.prog.cellsOf 22) (List.drop 1 [c0, c1, c2, c3])) = xs[1]? := hf 1 _ rfl
  have f2 : DataW.trod enc Try.prog w 0 (fun _ => true) true n 22 (List.take (Try.prog.cellsOf 22) (List.drop 2 [c0, c1, c2, c3])) = xs[2]? := hf 2 _ rfl
  have f3 : DataW.trod enc Try.prog w 0 (fun _ => true) true n 23 (List.take (Try.prog.cellsOf 23) (List.drop 3 [c0, c1, c2, c3])) = xs[3]? := hf 3 _ rfl
  have hl5 : xs.length = 4 := hlen
  rw [List.getElem?_eq_getElem (by omega)] at f0 f1 f2 f3
  simp only [cellsOf_u16, cellsOf_u8s, List.drop_zero, List.drop_succ_cons, List.take_succ_cons, List.take_zero] at f0 f1 f2 f3
  obtain ⟨k0, h0, e0⟩ := int_reads enc w Try.underlying22 f0
  obtain ⟨k1, h1, e1⟩ := int_reads enc w Try.underlying22 f1
  obtain ⟨k2, h2, e2⟩ := int_reads enc w Try.underlying22 f2
  obtain ⟨l, a, c, e3, hs⟩ := u8s_reads enc w f3
  simp at e0 e1 e2 e3
  subst e0 e1 e2 e3
  have b0 := bounds_u16 h0
  have b1 := bounds_u16 h1
  have b2 := bounds_u16 h2
  exact ⟨⟨k0, k1, k2, l⟩, a, c, rfl, hs, b0.1, b0.2, b1.1, b1.2, b2.1, b2.2⟩

end
end Go.Proofs.Ytcjijafmfomohaa
