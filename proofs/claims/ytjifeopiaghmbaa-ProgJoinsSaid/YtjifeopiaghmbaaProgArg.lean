/-
  The laws' arguments opened: slices of small instructions.
-/
import Derived.Test.YtjifeopiaghmbaaProgLaws
import Derived.Test.YtjifeopiaghmbaaArg
namespace Go.Proofs.Ytjifeopiaghmbaa
open Go.ChangeShapes Go.WideShapes Go.ChangeAt Go.RowKit

theorem cellsOf_sm : Try.prog.cellsOf 37 = 6 := by kernel_rfl
theorem cellsOf_byte : Try.prog.cellsOf 5 = 1 := by kernel_rfl
theorem cellsOf_half : Try.prog.cellsOf 32 = 1 := by kernel_rfl
theorem cellsOf_bool : Try.prog.cellsOf 4 = 1 := by kernel_rfl

section
variable {H : Type} (enc : TypeId × Value → H) (w : World)

theorem byte_reads {fuel : Nat} {cs : List Value} {x : DataW H × List MemPlace} (h : DataW.trod enc Try.prog w 0 (fun _ => true) true fuel 5 cs = some x) : ∃ k : Nat, k ≤ 255 ∧ cs = [.int .u8 k] := by
  obtain ⟨n, hw, rfl⟩ := int_reads enc w Try.underlying5 h
  have := bounds_u8 hw
  exact ⟨n.toNat, by omega, by rw [Int.toNat_of_nonneg this.1]⟩

set_option maxRecDepth 100000 in
theorem sm_shows {fuel : Nat} {cs : List Value} {x : DataW H × List MemPlace} (h : DataW.trod enc Try.prog w 0 (fun _ => true) true fuel 37 cs = some x) :
    ∃ s : Sm, s.Fits ∧ cs = [.int .u8 s.op, .int .u8 s.dst, .int .u8 s.a, .int .u8 s.b, .int .i16 s.n, .bool s.raw] := by
  obtain ⟨xs, n, rfl, rfl, hl, hlen, hf⟩ := DataW.trod_struct Try.underlying37 h
  rw [cellsOf_sm] at hl
  match cs, hl with
  | [c0, c1, c2, c3, c4, c5], _ =>
  have f0 : DataW.trod enc Try.prog w 0 (fun _ => true) true n 5 (List.take (Try.prog.cellsOf 5) (List.drop 0 [c0, c1, c2, c3, c4, c5])) = xs[0]? := hf 0 _ rfl
  have f1 : DataW.trod enc Try.prog w 0 (fun _ => true) true n 5 (List.take (Try.prog.cellsOf 5) (List.drop 1 [c0, c1, c2, c3, c4, c5])) = xs[1]? := hf 1 _ rfl
  have f2 : DataW.trod enc Try.prog w 0 (fun _ => true) true n 5 (List.take (Try.prog.cellsOf 5) (List.drop 2 [c0, c1, c2, c3, c4, c5])) = xs[2]? := hf 2 _ rfl
  have f3 : DataW.trod enc Try.prog w 0 (fun _ => true) true n 5 (List.take (Try.prog.cellsOf 5) (List.drop 3 [c0, c1, c2, c3, c4, c5])) = xs[3]? := hf 3 _ rfl
  have f4 : DataW.trod enc Try.prog w 0 (fun _ => true) true n 32 (List.take (Try.prog.cellsOf 32) (List.drop 4 [c0, c1, c2, c3, c4, c5])) = xs[4]? := hf 4 _ rfl
  have f5 : DataW.trod enc Try.prog w 0 (fun _ => true) true n 4 (List.take (Try.prog.cellsOf 4) (List.drop 5 [c0, c1, c2, c3, c4, c5])) = xs[5]? := hf 5 _ rfl
  have hl3 : xs.length = 6 := hlen
  rw [List.getElem?_eq_getElem (by omega)] at f0 f1 f2 f3 f4 f5
  simp only [cellsOf_byte, cellsOf_half, cellsOf_bool, List.drop_zero, List.drop_succ_cons, List.take_succ_cons, List.take_zero] at f0 f1 f2 f3 f4 f5
  obtain ⟨k0, h0, e⟩ := byte_reads enc w f0
  simp at e
  subst e
  obtain ⟨k1, h1, e⟩ := byte_reads enc w f1
  simp at e
  subst e
  obtain ⟨k2, h2, e⟩ := byte_reads enc w f2
  simp at e
  subst e
  obtain ⟨k3, h3, e⟩ := byte_reads enc w f3
  simp at e
  subst e
  obtain ⟨k4, h4, e⟩ := int_reads enc w Try.underlying32 f4
  simp at e
  subst e
  obtain ⟨k5, e⟩ := bool_reads enc w Try.underlying4 f5
  simp at e
  subst e
  have := bounds_i16 h4
  exact ⟨⟨k0, k1, k2, k3, k4, k5⟩, ⟨h0, h1, h2, h3, this.1, this.2⟩, rfl⟩

theorem smalls_shows {fuel : Nat} {cs : List Value} {x : DataW H × List MemPlace} (h : DataW.trod enc Try.prog w 0 (fun _ => true) true fuel 22 cs = some x) : ∃ l v, cs = [v] ∧ SmSees w v l := by
  rcases slice_each enc w Try.underlying22 cellsOf_sm (by omega) h with ⟨a, rfl⟩ | ⟨a, len, cap, n', hn, rfl, hle, hc, rfl | ⟨b, o, rfl, each⟩⟩
  · exact ⟨[], _, rfl, by unfold maxLen; simp, .inl ⟨rfl, _, _, rfl⟩⟩
  · exact ⟨[], _, rfl, by unfold maxLen; simp, .inl ⟨rfl, _, _, rfl⟩⟩
  · have ch : ∀ i, ∃ s : Sm, i < len → s.Fits ∧ w.cell? ⟨b, o + i * 6, none⟩ = some (.int .u8 s.op) ∧ w.cell? ⟨b, o + i * 6 + 1, none⟩ = some (.int .u8 s.dst) ∧ w.cell? ⟨b, o + i * 6 + 2, none⟩ = some (.int .u8 s.a) ∧
        w.cell? ⟨b, o + i * 6 + 3, none⟩ = some (.int .u8 s.b) ∧ w.cell? ⟨b, o + i * 6 + 4, none⟩ = some (.int .i16 s.n) ∧ w.cell? ⟨b, o + i * 6 + 5, none⟩ = some (.bool s.raw) := by
      intro i
      by_cases hi : i < len
      · obtain ⟨cs', y, h3, hcell⟩ := each i hi
        obtain ⟨s, hs, rfl⟩ := sm_shows enc w h3
        exact ⟨s, fun _ => ⟨hs, hcell 0 _ rfl (by omega), hcell 1 _ rfl (by omega), hcell 2 _ rfl (by omega), hcell 3 _ rfl (by omega), hcell 4 _ rfl (by omega), hcell 5 _ rfl (by omega)⟩⟩
      · exact ⟨⟨0, 0, 0, 0, 0, false⟩, fun h => absurd h hi⟩
    obtain ⟨of, hof⟩ := Classical.axiomOfChoice ch
    have el : ((List.range len).map of).length = len := by simp
    refine ⟨(List.range len).map of, _, rfl, by rw [el]; omega, .inr ⟨b, o, cap, by rw [el], by rw [el]; exact hle, fun i t hi => ?_⟩⟩
    rw [List.getElem?_map] at hi
    by_cases hlt : i < len
    · rw [List.getElem?_range hlt] at hi
      cases hi
      exact hof i hlt
    · rw [List.getElem?_eq_none (by simpa using hlt)] at hi
      cases hi
end

/-- Whatever is handed in as a slice of small instructions shows them. -/
theorem smalls_any {H : Type} (enc : TypeId × Value → H) (w : World) {v : Value} {d : DataW H} {p : List MemPlace} {base : Nat} (hval : Value.okWide Try.prog w .any base 22 v)
    (h : DataW.Trod enc Try.prog w 0 (fun _ => true) true 22 v d p) : ∃ l, SmSees w v l := by
  obtain ⟨a, len, cap, rfl⟩ := okWide_slice Try.underlying22 hval
  obtain ⟨fuel, hf⟩ := h
  obtain ⟨l, v, e, hl⟩ := smalls_shows enc w hf
  have hcs : (Value.slice a len cap).cells.toList = [.slice a len cap] := rfl
  rw [hcs] at e
  simp at e
  subst e
  exact ⟨l, hl⟩

theorem joins_all {W : World} (a : List Sm) (va : Value) (ha : SmSees W va a) (b : List Sm) (vb : Value) (hb : SmSees W vb b) :
    Calls Try.prog 3 #[va, vb] W fun e w' => e = .returned (.bool true) ∧ Fr (fun _ => False) W w' := joins_any a b va vb W ha hb

theorem more_all {W : World} (a : List Sm) (va : Value) (ha : SmSees W va a) (n : Int) (hn0 : 0 ≤ n) (hn1 : n ≤ 255) :
    Calls Try.prog 4 #[va, .int .u8 n] W fun e w' => e = .returned (.bool true) ∧ Fr (fun _ => False) W w' := more_any a va W ha n hn0 hn1

end Go.Proofs.Ytjifeopiaghmbaa
