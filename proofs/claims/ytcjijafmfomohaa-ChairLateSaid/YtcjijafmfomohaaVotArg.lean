/-
  The laws' arguments, opened: ballots, entries of small numbers, acts.
-/
import Derived.Test.YtcjijafmfomohaaVotSmall
namespace Go.Proofs.Ytcjijafmfomohaa
open Go.ChangeShapes Go.WideShapes Go.ChangeAt Go.RowKit
set_option maxRecDepth 100000

structure BaN where
  r : Int
  n : Int
def BaV (_ : World) (x : BaN) (v : Value) : Prop := v = ball x.r x.n

abbrev Sm.sl (s : Sm) (a : Option Addr) (c : Nat) : Value := .slice a s.c.l.length c
def SmV (w : World) (s : Sm) (v : Value) : Prop := ∃ a c, v = smV s (s.sl a c) ∧ SeesO w (s.sl a c) s.c.l ∧ s.ok

theorem cellsOf_Ba : Try.prog.cellsOf 40 = 2 := by kernel_rfl
theorem cellsOf_int : Try.prog.cellsOf 3 = 1 := by kernel_rfl
theorem cellsOf_Sm : Try.prog.cellsOf 27 = 6 := by kernel_rfl

section
variable {H : Type} (enc : TypeId × Value → H) (w : World)

theorem ba_any {v : Value} {d : DataW H} {p : List MemPlace} {base : Nat} (hval : Value.okWide Try.prog w .any base 40 v)
    (h : DataW.Trod enc Try.prog w 0 (fun _ => true) true 40 v d p) : ∃ x, BaV w x v := by
  obtain ⟨cs, rfl, _⟩ := okWide_struct Try.underlying40 hval
  obtain ⟨fuel, hf⟩ := h
  obtain ⟨xs, n, rfl, _, hl, hlen, hf⟩ := DataW.trod_struct Try.underlying40 hf
  rw [cellsOf_Ba] at hl
  have hcs : (Value.agg cs).cells.toList = cs.toList := rfl
  rw [hcs] at hl hf
  obtain ⟨cs⟩ := cs
  match cs, hl with
  | [c0, c1], _ =>
  have f0 : DataW.trod enc Try.prog w 0 (fun _ => true) true n 3 (List.take (Try.prog.cellsOf 3) (List.drop 0 [c0, c1])) = xs[0]? := hf 0 _ rfl
  have f1 : DataW.trod enc Try.prog w 0 (fun _ => true) true n 3 (List.take (Try.prog.cellsOf 3) (List.drop 1 [c0, c1])) = xs[1]? := hf 1 _ rfl
  have hl5 : xs.length = 2 := hlen
  rw [List.getElem?_eq_getElem (by omega)] at f0 f1
  simp only [cellsOf_int, List.drop_zero, List.drop_succ_cons, List.take_succ_cons, List.take_zero] at f0 f1
  obtain ⟨k0, h0, e0⟩ := int_reads enc w Try.underlying3 f0
  obtain ⟨k1, h1, e1⟩ := int_reads enc w Try.underlying3 f1
  simp at e0 e1
  subst e0 e1
  exact ⟨⟨k0, k1⟩, rfl⟩

theorem sc_reads {fuel : Nat} {cs : List Value} {x : DataW H × List MemPlace} (h : DataW.trod enc Try.prog w 0 (fun _ => true) true fuel 25 cs = some x) :
    ∃ (s : Sc) (a : Option Addr) (c : Nat), cs = [.int .u16 s.t, .int .u16 s.n, .int .u16 s.p, .slice a s.l.length c] ∧ SeesO w (.slice a s.l.length c) s.l ∧ 0 ≤ s.t ∧ s.t ≤ 65535 ∧ 0 ≤ s.n ∧ s.n ≤ 65535 ∧ 0 ≤ s.p ∧ s.p ≤ 65535 := by
  obtain ⟨xs, n, rfl, _, hl, hlen, hf⟩ := DataW.trod_struct Try.underlying25 h
  rw [cellsOf_Sc] at hl
  match cs, hl with
  | [c0, c1, c2, c3], _ =>
  have f0 : DataW.trod enc Try.prog w 0 (fun _ => true) true n 22 (List.take (Try.prog.cellsOf 22) (List.drop 0 [c0, c1, c2, c3])) = xs[0]? := hf 0 _ rfl
  have f1 : DataW.trod enc Try.prog w 0 (fun _ => true) true n 22 (List.take (Try.prog.cellsOf 22) (List.drop 1 [c0, c1, c2, c3])) = xs[1]? := hf 1 _ rfl
  have f2 : DataW.trod enc Try.prog w 0 (fun _ => true) true n 22 (List.take (Try.prog.cellsOf 22) (List.drop 2 [c0, c1, c2, c3])) = xs[2]? := hf 2 _ rfl
  have f3 : DataW.trod enc Try.prog w 0 (fun _ => true) true n 23 (List.take (Try.prog.cellsOf 23) (List.drop 3 [c0, c1, c2, c3])) = xs[3]? := hf 3 _ rfl
  have hl5 : xs.length = 4 := hlen
  rw [List.getElem?_eq_getElem (by omega)] at f0 f1 f2 f3
  simp only [cellsOf_u16, cellsOf_u8s, List.drop_zero, List.drop_succ_cons, List.take_succ_cons, List.take_zero] at f0 f1 f2 f3
  obtain ⟨k0, h0, e0⟩ := int_reads enc w Try.underlying22 f0
  obtain ⟨k1, h1, e1⟩ := int_reads enc w Try.underlying22 f1
  obtain ⟨k2, h2, e2⟩ := int_reads enc w Try.underlying22 f2
  obtain ⟨l, a, c, e3, hs⟩ := u8s_reads enc w f3
  simp at e0 e1 e2 e3
  subst e0 e1 e2 e3
  have b0 := bounds_u16 h0
  have b1 := bounds_u16 h1
  have b2 := bounds_u16 h2
  exact ⟨⟨k0, k1, k2, l⟩, a, c, rfl, hs, b0.1, b0.2, b1.1, b1.2, b2.1, b2.2⟩

theorem sm_reads {fuel : Nat} {cs : List Value} {x : DataW H × List MemPlace} (h : DataW.trod enc Try.prog w 0 (fun _ => true) true fuel 27 cs = some x) :
    ∃ (s : Sm) (a : Option Addr) (c : Nat), cs = [.int .u8 s.kind, .int .u16 s.c.t, .int .u16 s.c.n, .int .u16 s.c.p, s.sl a c, .int .u16 s.mb] ∧ SeesO w (s.sl a c) s.c.l ∧ s.ok := by
  obtain ⟨xs, n, rfl, _, hl, hlen, hf⟩ := DataW.trod_struct Try.underlying27 h
  rw [cellsOf_Sm] at hl
  match cs, hl with
  | [c0, c1, c2, c3, c4, c5], _ =>
  have f0 : DataW.trod enc Try.prog w 0 (fun _ => true) true n 5 (List.take (Try.prog.cellsOf 5) (List.drop 0 [c0, c1, c2, c3, c4, c5])) = xs[0]? := hf 0 _ rfl
  have f1 : DataW.trod enc Try.prog w 0 (fun _ => true) true n 25 (List.take (Try.prog.cellsOf 25) (List.drop 1 [c0, c1, c2, c3, c4, c5])) = xs[1]? := hf 1 _ rfl
  have f2 : DataW.trod enc Try.prog w 0 (fun _ => true) true n 22 (List.take (Try.prog.cellsOf 22) (List.drop 5 [c0, c1, c2, c3, c4, c5])) = xs[2]? := hf 2 _ rfl
  have hl5 : xs.length = 3 := hlen
  rw [List.getElem?_eq_getElem (by omega)] at f0 f1 f2
  simp only [cellsOf_u8, cellsOf_Sc, cellsOf_u16, List.drop_zero, List.drop_succ_cons, List.take_succ_cons, List.take_zero] at f0 f1 f2
  obtain ⟨k0, h0, e0⟩ := int_reads enc w Try.underlying5 f0
  obtain ⟨s, a, c, e1, hs, p0, p1, p2, p3, p4, p5⟩ := sc_reads enc w f1
  obtain ⟨k2, h2, e2⟩ := int_reads enc w Try.underlying22 f2
  simp at e0 e1 e2
  obtain ⟨e10, e11, e12, e13⟩ := e1
  subst e0 e10 e11 e12 e13 e2
  have b0 := bounds_u8 h0
  have b2 := bounds_u16 h2
  obtain ⟨k, rfl⟩ : ∃ k : Nat, k2 = k := ⟨k2.toNat, by omega⟩
  exact ⟨⟨k0, s, k⟩, a, c, rfl, hs, ⟨b0.1, b0.2, p0, p1, p2, p3, p4, p5, by have := b2.2; show k < 65536; omega⟩⟩

theorem sm_any {v : Value} {d : DataW H} {p : List MemPlace} {base : Nat} (hval : Value.okWide Try.prog w .any base 27 v)
    (h : DataW.Trod enc Try.prog w 0 (fun _ => true) true 27 v d p) : ∃ x, SmV w x v := by
  obtain ⟨cs, rfl, _⟩ := okWide_struct Try.underlying27 hval
  obtain ⟨fuel, hf⟩ := h
  have hcs : (Value.agg cs).cells.toList = cs.toList := rfl
  rw [hcs] at hf
  obtain ⟨s, a, c, e, hs, hok⟩ := sm_reads enc w hf
  obtain ⟨cs⟩ := cs
  simp at e
  subst e
  exact ⟨s, a, c, rfl, hs, hok⟩

end
end Go.Proofs.Ytcjijafmfomohaa
