/-
  The laws' arguments opened: calls' numbers.
-/
import Derived.Test.YtefijimijmjahaaMapRaw
import Derived.Test.YtefijimijmjahaaCallArg
namespace Go.Proofs.Ytefijimijmjahaa
open Go.ChangeShapes Go.WideShapes Go.ChangeAt Go.RowKit
set_option maxRecDepth 100000

def IdV (_ : World) (x : IdN) (v : Value) : Prop := v = kv x ∧ IdOk x

section
variable {H : Type} (enc : TypeId × Value → H) (w : World)

theorem id_any {v : Value} {d : DataW H} {p : List MemPlace} {base : Nat} (hval : Value.okWide Try.prog w .any base 36 v)
    (h : DataW.Trod enc Try.prog w 0 (fun _ => true) true 36 v d p) : ∃ x, IdV w x v := by
  obtain ⟨cs, rfl, _⟩ := okWide_struct Try.underlying36 hval
  obtain ⟨fuel, hf⟩ := h
  obtain ⟨xs, n, rfl, _, hl, hlen, hf⟩ := DataW.trod_struct Try.underlying36 hf
  rw [Try.cellsId] at hl
  have hcs : (Value.agg cs).cells.toList = cs.toList := rfl
  rw [hcs] at hl hf
  obtain ⟨cs⟩ := cs
  match cs, hl with
  | [c0, c1], _ =>
  have f0 : DataW.trod enc Try.prog w 0 (fun _ => true) true n 29 (List.take (Try.prog.cellsOf 29) (List.drop 0 [c0, c1])) = xs[0]? := hf 0 _ rfl
  have f1 : DataW.trod enc Try.prog w 0 (fun _ => true) true n 29 (List.take (Try.prog.cellsOf 29) (List.drop 1 [c0, c1])) = xs[1]? := hf 1 _ rfl
  have hl5 : xs.length = 2 := hlen
  rw [List.getElem?_eq_getElem (by omega)] at f0 f1
  simp only [Try.cellsU16, List.drop_zero, List.drop_succ_cons, List.take_succ_cons, List.take_zero] at f0 f1
  obtain ⟨k0, h0, e0⟩ := int_reads enc w Try.underlying29 f0
  obtain ⟨k1, h1, e1⟩ := int_reads enc w Try.underlying29 f1
  simp at e0 e1
  subst e0 e1
  exact ⟨(k0, k1), rfl, bounds_u16 h0, bounds_u16 h1⟩
end
end Go.Proofs.Ytefijimijmjahaa
