/-
  The laws' argument opened: whatever is handed in is plain data.
-/
import Derived.Test.YtdaabgnfgdojhaaKindSmallArg
import Derived.ProofKit
import Derived.OpenShut
import Derived.Deep.Slices
namespace Go.Proofs.Ytdaabgnfgdojhaa
open Go.ChangeShapes Go.WideShapes Go.ChangeAt Go.RowKit

theorem cellsOf_node : Try.prog.cellsOf 77 = 3 := by kernel_rfl
theorem cellsOf_nodes : Try.prog.cellsOf 23 = 1 := by kernel_rfl
theorem cellsOf_procs : Try.prog.cellsOf 24 = 1 := by kernel_rfl
theorem cellsOf_proc : Try.prog.cellsOf 80 = 8 := by kernel_rfl
theorem cellsOf_small : Try.prog.cellsOf 26 = 4 := by kernel_rfl
theorem cellsOf_byte : Try.prog.cellsOf 5 = 1 := by kernel_rfl
theorem cellsOf_word : Try.prog.cellsOf 22 = 1 := by kernel_rfl

theorem spot_none {w : World} {a : Addr} {m : Nat} {cs : List Value} (h : w.cells? 0 a m = some cs) (hm : 0 < m) : a.spot = none := by
  obtain ⟨_, hl, h1⟩ := World.cells?_some h
  have h2 := h1 0 hm
  have e0 : a.add 0 = a := by simp [Addr.add]
  obtain ⟨v, hv⟩ : ∃ v, cs[0]? = some v := ⟨_, List.getElem?_eq_getElem (by omega)⟩
  rw [e0, hv] at h2
  have := addr_plain h2
  obtain ⟨b, o, s⟩ := a
  simp at this
  exact this

theorem cell_at {w : World} {b o : Nat} {m k : Nat} {cs : List Value} (h : w.cells? 0 ((⟨b, o, none⟩ : Addr).add k) m = some cs) (i : Nat) (v : Value) (hv : cs[i]? = some v) (hi : i < m) : w.cell? ⟨b, o + k + i, none⟩ = some v := by
  have h1 := (World.cells?_some h).2.2 i hi
  rw [hv] at h1
  have e : ((⟨b, o, none⟩ : Addr).add k).add i = ⟨b, o + k + i, none⟩ := by
    unfold Addr.add
    split <;> split <;> simp_all
  rw [e] at h1
  exact h1

section
variable {H : Type} (enc : TypeId × Value → H) (w : World)

/-- A slice of whatever: each element reads by a smaller fuel. -/
theorem slice_each {t e : TypeId} {fuel m : Nat} {cs : List Value} {x : DataW H × List MemPlace} (ht : Try.prog.underlying t = some (.slice e)) (hm : Try.prog.cellsOf e = m) (h0 : 0 < m) (h : DataW.trod enc Try.prog w 0 (fun _ => true) true fuel t cs = some x) :
    (∃ a, cs = [.slice a 0 0]) ∨ ∃ a len cap n, n < fuel ∧ cs = [.slice a len cap] ∧ len ≤ cap ∧ cap ≤ maxLen ∧ (len = 0 ∨ ∃ b o, a = some ⟨b, o, none⟩ ∧ ∀ i, i < len → ∃ cs' y, DataW.trod enc Try.prog w 0 (fun _ => true) true n e cs' = some y ∧
      ∀ j v, cs'[j]? = some v → j < m → w.cell? ⟨b, o + i * m + j, none⟩ = some v) := by
  rcases DataW.trod_slice ht h with ⟨rfl, _⟩ | ⟨a, len, cap, elems, rest, n, rfl, rfl, _, hb, hl, hc, hlen, hel, _, _⟩
  · exact .inl ⟨_, rfl⟩
  · refine .inr ⟨some a, len, cap, n, by omega, rfl, hl, hc, ?_⟩
    by_cases hz : len = 0
    · exact .inl hz
    right
    have each : ∀ i, i < len → ∃ cs' y, w.cells? 0 (a.add (i * m)) m = some cs' ∧ DataW.trod enc Try.prog w 0 (fun _ => true) true n e cs' = some y := by
      intro i hi
      have h1 := hel i hi
      rw [List.getElem?_eq_getElem (by omega), hm] at h1
      obtain ⟨cs', h2, h3⟩ := Option.bind_eq_some_iff.1 h1
      exact ⟨cs', _, h2, h3⟩
    obtain ⟨b, o, s⟩ := a
    obtain ⟨cs0, _, hc0, _⟩ := each 0 (by omega)
    have e0 : ((⟨b, o, s⟩ : Addr).add (0 * m)) = ⟨b, o, s⟩ := by simp [Addr.add]
    rw [e0] at hc0
    have hs := spot_none hc0 h0
    simp at hs
    subst hs
    refine ⟨b, o, rfl, fun i hi => ?_⟩
    obtain ⟨cs', y, h2, h3⟩ := each i hi
    exact ⟨cs', y, h3, fun j v hv hj => cell_at h2 j v hv hj⟩

theorem byte_reads {fuel : Nat} {cs : List Value} {x : DataW H × List MemPlace} (h : DataW.trod enc Try.prog w 0 (fun _ => true) true fuel 5 cs = some x) : ∃ k : Nat, k ≤ 255 ∧ cs = [.int .u8 k] := by
  obtain ⟨n, rfl, _, hw⟩ := DataW.trod_int Try.underlying5 h
  have := bounds_u8 hw
  exact ⟨n.toNat, by omega, by rw [Int.toNat_of_nonneg this.1]⟩

theorem word_reads {fuel : Nat} {cs : List Value} {x : DataW H × List MemPlace} (h : DataW.trod enc Try.prog w 0 (fun _ => true) true fuel 22 cs = some x) : ∃ k : Nat, k ≤ 65535 ∧ cs = [.int .u16 k] := by
  obtain ⟨n, rfl, _, hw⟩ := DataW.trod_int Try.underlying22 h
  have := bounds_u16 hw
  exact ⟨n.toNat, by omega, by rw [Int.toNat_of_nonneg this.1]⟩

set_option maxRecDepth 100000 in
theorem node_shows : ∀ (fuel : Nat) (cs : List Value) (x : DataW H × List MemPlace), DataW.trod enc Try.prog w 0 (fun _ => true) true fuel 77 cs = some x →
    ∃ t c0 c1 c2, cs = [c0, c1, c2] ∧ NShows w t (.agg #[c0, c1, c2]) := by
  intro fuel
  induction fuel using Nat.strongRecOn with
  | _ fuel ih =>
  intro cs x h
  obtain ⟨xs, n, rfl, rfl, hl, hlen, hf⟩ := DataW.trod_struct Try.underlying77 h
  rw [cellsOf_node] at hl
  match cs, hl with
  | [c0, c1, c2], _ =>
  have f0 : DataW.trod enc Try.prog w 0 (fun _ => true) true n 5 (List.take (Try.prog.cellsOf 5) (List.drop 0 [c0, c1, c2])) = xs[0]? := hf 0 _ rfl
  have f1 : DataW.trod enc Try.prog w 0 (fun _ => true) true n 5 (List.take (Try.prog.cellsOf 5) (List.drop 1 [c0, c1, c2])) = xs[1]? := hf 1 _ rfl
  have f2 : DataW.trod enc Try.prog w 0 (fun _ => true) true n 23 (List.take (Try.prog.cellsOf 23) (List.drop 2 [c0, c1, c2])) = xs[2]? := hf 2 _ rfl
  have hl3 : xs.length = 3 := hlen
  rw [List.getElem?_eq_getElem (by omega)] at f0 f1 f2
  simp only [cellsOf_byte, cellsOf_nodes, List.drop_zero, List.drop_succ_cons, List.take_succ_cons, List.take_zero] at f0 f1 f2
  obtain ⟨k, hk, e⟩ := byte_reads enc w f0
  simp at e
  subst e
  obtain ⟨m, hm, e⟩ := byte_reads enc w f1
  simp at e
  subst e
  rcases slice_each enc w Try.underlying23 cellsOf_node (by omega) f2 with ⟨a, e⟩ | ⟨a, len, cap, n', hn, e, hle, hc, hz | ⟨b, o, rfl, each⟩⟩
  · simp at e
    subst e
    exact ⟨.mk k m 0 (fun _ => .nil), _, _, _, rfl, _, rfl, hk, hm, by unfold maxLen; omega, .inl ⟨rfl, _, _, rfl⟩⟩
  · simp at e
    subst e hz
    exact ⟨.mk k m 0 (fun _ => .nil), _, _, _, rfl, _, rfl, hk, hm, by unfold maxLen; omega, .inl ⟨rfl, _, _, rfl⟩⟩
  · simp at e
    subst e
    have ch : ∀ i, ∃ t, i < len → ∃ x0 x1 x2, w.cell? ⟨b, o + i * 3, none⟩ = some x0 ∧ w.cell? ⟨b, o + i * 3 + 1, none⟩ = some x1 ∧ w.cell? ⟨b, o + i * 3 + 2, none⟩ = some x2 ∧ NShows w t (.agg #[x0, x1, x2]) := by
      intro i
      by_cases hi : i < len
      · obtain ⟨cs', y, h3, hcell⟩ := each i hi
        obtain ⟨t, x0, x1, x2, rfl, ht⟩ := ih n' (by omega) cs' y h3
        exact ⟨t, fun _ => ⟨x0, x1, x2, hcell 0 _ rfl (by omega), hcell 1 _ rfl (by omega), hcell 2 _ rfl (by omega), ht⟩⟩
      · exact ⟨.nil, fun h => absurd h hi⟩
    obtain ⟨of, hof⟩ := Classical.axiomOfChoice ch
    exact ⟨.mk k m len of, _, _, _, rfl, _, rfl, hk, hm, by omega, .inr ⟨b, o, cap, rfl, hle, hof⟩⟩

set_option maxRecDepth 100000 in
theorem nodes_show {fuel : Nat} {cs : List Value} {x : DataW H × List MemPlace} (h : DataW.trod enc Try.prog w 0 (fun _ => true) true fuel 23 cs = some x) : ∃ l v, cs = [v] ∧ Nodes w l v := by
  rcases slice_each enc w Try.underlying23 cellsOf_node (by omega) h with ⟨a, rfl⟩ | ⟨a, len, cap, n', hn, rfl, hle, hc, rfl | ⟨b, o, rfl, each⟩⟩
  · exact ⟨[], _, rfl, by unfold maxLen; simp, .inl ⟨rfl, _, _, rfl⟩⟩
  · exact ⟨[], _, rfl, by unfold maxLen; simp, .inl ⟨rfl, _, _, rfl⟩⟩
  · have ch : ∀ i, ∃ t, i < len → ∃ x0 x1 x2, w.cell? ⟨b, o + i * 3, none⟩ = some x0 ∧ w.cell? ⟨b, o + i * 3 + 1, none⟩ = some x1 ∧ w.cell? ⟨b, o + i * 3 + 2, none⟩ = some x2 ∧ NShows w t (.agg #[x0, x1, x2]) := by
      intro i
      by_cases hi : i < len
      · obtain ⟨cs', y, h3, hcell⟩ := each i hi
        obtain ⟨t, x0, x1, x2, rfl, ht⟩ := node_shows enc w n' cs' y h3
        exact ⟨t, fun _ => ⟨x0, x1, x2, hcell 0 _ rfl (by omega), hcell 1 _ rfl (by omega), hcell 2 _ rfl (by omega), ht⟩⟩
      · exact ⟨.nil, fun h => absurd h hi⟩
    obtain ⟨of, hof⟩ := Classical.axiomOfChoice ch
    have el : ((List.range len).map of).length = len := by simp
    refine ⟨(List.range len).map of, _, rfl, by rw [el]; omega, .inr ⟨b, o, cap, by rw [el], by rw [el]; exact hle, fun i t hi => ?_⟩⟩
    rw [List.getElem?_map] at hi
    by_cases hlt : i < len
    · rw [List.getElem?_range hlt] at hi
      cases hi
      exact hof i hlt
    · rw [List.getElem?_eq_none (by simp; omega)] at hi
      cases hi

set_option maxRecDepth 100000 in
theorem procs_show {fuel : Nat} {cs : List Value} {x : DataW H × List MemPlace} (h : DataW.trod enc Try.prog w 0 (fun _ => true) true fuel 24 cs = some x) : ∃ l v, cs = [v] ∧ SProcs w l v := by
  rcases slice_each enc w Try.underlying24 cellsOf_proc (by omega) h with ⟨a, rfl⟩ | ⟨a, len, cap, n', hn, rfl, hle, hc, rfl | ⟨b, o, rfl, each⟩⟩
  · exact ⟨[], _, rfl, by unfold maxLen; simp, by simp, .inl ⟨rfl, _, _, rfl⟩⟩
  · exact ⟨[], _, rfl, by unfold maxLen; simp, by simp, .inl ⟨rfl, _, _, rfl⟩⟩
  · have ch : ∀ i, ∃ p : KSP, i < len → (p.collate ≤ 255 ∧ p.timeout ≤ 65535) ∧ ∃ x0 x1 x2 y0 y1 y2,
      (∀ j u, [x0, x1, x2, y0, y1, y2, .int .u8 p.collate, .int .u16 p.timeout][j]? = some u → w.cell? ⟨b, o + i * 8 + j, none⟩ = some u) ∧
      NShows w p.takes (.agg #[x0, x1, x2]) ∧ NShows w p.answers (.agg #[y0, y1, y2]) := by
      intro i
      by_cases hi : i < len
      · obtain ⟨cs', y, h3, hcell⟩ := each i hi
        obtain ⟨xs, n, rfl, rfl, hl, hlen, hf⟩ := DataW.trod_struct Try.underlying80 h3
        rw [cellsOf_proc] at hl
        match cs', hl with
        | [c0, c1, c2, c3, c4, c5, c6, c7], _ =>
        have f0 : DataW.trod enc Try.prog w 0 (fun _ => true) true n 77 (List.take (Try.prog.cellsOf 77) (List.drop 0 [c0, c1, c2, c3, c4, c5, c6, c7])) = xs[0]? := hf 0 _ rfl
        have f1 : DataW.trod enc Try.prog w 0 (fun _ => true) true n 77 (List.take (Try.prog.cellsOf 77) (List.drop 3 [c0, c1, c2, c3, c4, c5, c6, c7])) = xs[1]? := hf 1 _ rfl
        have f2 : DataW.trod enc Try.prog w 0 (fun _ => true) true n 5 (List.take (Try.prog.cellsOf 5) (List.drop 6 [c0, c1, c2, c3, c4, c5, c6, c7])) = xs[2]? := hf 2 _ rfl
        have f3 : DataW.trod enc Try.prog w 0 (fun _ => true) true n 22 (List.take (Try.prog.cellsOf 22) (List.drop 7 [c0, c1, c2, c3, c4, c5, c6, c7])) = xs[3]? := hf 3 _ rfl
        have hl3 : xs.length = 4 := hlen
        rw [List.getElem?_eq_getElem (by omega)] at f0 f1 f2 f3
        simp only [cellsOf_byte, cellsOf_word, cellsOf_node, List.drop_zero, List.drop_succ_cons, List.take_succ_cons, List.take_zero] at f0 f1 f2 f3
        obtain ⟨t, x0, x1, x2, e, ht⟩ := node_shows enc w _ _ _ f0
        obtain ⟨t', y0, y1, y2, e', ht'⟩ := node_shows enc w _ _ _ f1
        obtain ⟨k, hk, ek⟩ := byte_reads enc w f2
        obtain ⟨m, hm, em⟩ := word_reads enc w f3
        simp at e e' ek em
        obtain ⟨rfl, rfl, rfl⟩ := e
        obtain ⟨rfl, rfl, rfl⟩ := e'
        subst ek em
        refine ⟨⟨t, t', k, m⟩, fun _ => ⟨⟨hk, hm⟩, _, _, _, _, _, _, fun j u hu => hcell j u hu ?_, ht, ht'⟩⟩
        have := (List.getElem?_eq_some_iff.1 hu).1
        simpa using this
      · exact ⟨⟨.nil, .nil, 0, 0⟩, fun h => absurd h hi⟩
    obtain ⟨of, hof⟩ := Classical.axiomOfChoice ch
    have el : ((List.range len).map of).length = len := by simp
    refine ⟨(List.range len).map of, _, rfl, by rw [el]; omega, ?_, .inr ⟨b, o, cap, by rw [el], by rw [el]; exact hle, fun i t hi => ?_⟩⟩
    · intro p hp
      obtain ⟨i, hi, rfl⟩ := List.mem_map.1 hp
      exact (hof i (List.mem_range.1 hi)).1
    · rw [List.getElem?_map] at hi
      by_cases hlt : i < len
      · rw [List.getElem?_range hlt] at hi
        cases hi
        exact (hof i hlt).2
      · rw [List.getElem?_eq_none (by simp; omega)] at hi
        cases hi

set_option maxRecDepth 100000 in
/-- Whatever is handed in as the laws' argument shows plain data. -/
theorem small_shows {v : Value} {d : DataW H} {p : List MemPlace} {base : Nat} (hval : Value.okWide Try.prog w .any base 26 v)
    (h : DataW.Trod enc Try.prog w 0 (fun _ => true) true 26 v d p) : ∃ s, SShows w s v := by
  obtain ⟨cs, rfl, _⟩ := okWide_struct Try.underlying26 hval
  obtain ⟨fuel, hf⟩ := h
  obtain ⟨xs, n, rfl, _, hl, hlen, hf⟩ := DataW.trod_struct Try.underlying26 hf
  rw [cellsOf_small] at hl
  have hcs : (Value.agg cs).cells.toList = cs.toList := rfl
  rw [hcs] at hl hf
  obtain ⟨cs⟩ := cs
  match cs, hl with
  | [c0, c1, c2, c3], _ =>
  have f0 : DataW.trod enc Try.prog w 0 (fun _ => true) true n 22 (List.take (Try.prog.cellsOf 22) (List.drop 0 [c0, c1, c2, c3])) = xs[0]? := hf 0 _ rfl
  have f1 : DataW.trod enc Try.prog w 0 (fun _ => true) true n 23 (List.take (Try.prog.cellsOf 23) (List.drop 1 [c0, c1, c2, c3])) = xs[1]? := hf 1 _ rfl
  have f2 : DataW.trod enc Try.prog w 0 (fun _ => true) true n 5 (List.take (Try.prog.cellsOf 5) (List.drop 2 [c0, c1, c2, c3])) = xs[2]? := hf 2 _ rfl
  have f3 : DataW.trod enc Try.prog w 0 (fun _ => true) true n 24 (List.take (Try.prog.cellsOf 24) (List.drop 3 [c0, c1, c2, c3])) = xs[3]? := hf 3 _ rfl
  have hl3 : xs.length = 4 := hlen
  rw [List.getElem?_eq_getElem (by omega)] at f0 f1 f2 f3
  simp only [cellsOf_byte, cellsOf_word, cellsOf_nodes, cellsOf_procs, List.drop_zero, List.drop_succ_cons, List.take_succ_cons, List.take_zero] at f0 f1 f2 f3
  obtain ⟨k, hk, ek⟩ := word_reads enc w f0
  obtain ⟨al, va, ea, ha⟩ := nodes_show enc w f1
  obtain ⟨m, hm, em⟩ := byte_reads enc w f2
  obtain ⟨pl, vp, ep, hp⟩ := procs_show enc w f3
  simp at ek ea em ep
  subst ek ea em ep
  exact ⟨⟨k, al, m, pl⟩, _, _, rfl, hk, hm, ha, hp⟩

end
end Go.Proofs.Ytdaabgnfgdojhaa
