/-
  slices.DeleteFunc on a row of integers that is owned alone; a slice's parts.
-/
import Derived.Test.YtlcdmaehedhipaaTrFunc
namespace Go.Proofs.Ytlcdmaehedhipaa
open Go.RowKit
set_option maxRecDepth 100000

theorem addr_add (g o j : Nat) : (⟨g, o, none⟩ : Addr).add j = ⟨g, o + j, none⟩ := by unfold Addr.add; split <;> simp_all

theorem sizeInt (w : World) : (sizeOf 3).run Try.prog w = .ok 1 w := by kernel_rfl

theorem lslice_from (w : World) (g o n c i : Nat) (h1 : i ≤ n) (h2 : i < c) : (Instr.slice 24 (.slice (some ⟨g, o, none⟩) n c) (some (.int .i64 i)) none none).run Try.prog w = .ok (.slice (some ⟨g, o + i, none⟩) (n - i) (c - i)) w := by
  have hs := sizeInt w
  have e2 := addr_add g o i
  have e3 : ¬ c = i := by omega
  simp [Instr.slice, Instr.sliceBounds, Instr.sliceBound, run_underlying Try.underlying24, asIntOf, hs, h1, e2, e3, Result.andThen]

theorem lslice_to (w : World) (g o n c i : Nat) (h1 : i ≤ c) : (Instr.slice 24 (.slice (some ⟨g, o, none⟩) n c) none (some (.int .i64 i)) none).run Try.prog w = .ok (.slice (some ⟨g, o, none⟩) i c) w := by
  have hs := sizeInt w
  have e2 := addr_add g o 0
  rw [Nat.add_zero] at e2
  simp [Instr.slice, Instr.sliceBounds, Instr.sliceBound, run_underlying Try.underlying24, asIntOf, hs, h1, e2, Result.andThen]

theorem zeroInt : ∀ w, (zeroValue 3).run Try.prog w = .ok (.int .i64 0) w := fun w => by kernel_rfl

/-- A row of integers, opened. -/
def Row (w : World) (g cap : Nat) (cur : Array Value) : Prop := w.heap[g]? = some (.cells cur 3 (0, 0)) ∧ cur.size = cap ∧ cap ≤ maxLen

theorem oi_open {w : World} {base : Nat} {v : Value} {l : List Int} (h : OI w base v l) (h0 : l ≠ []) :
    ∃ g cap cur, v = .slice (some ⟨g, 0, none⟩) l.length cap ∧ base ≤ g ∧ l.length ≤ cap ∧ Row w g cap cur ∧ ∀ j, (hj : j < l.length) → cur[j]? = some (.int .i64 l[j]) := by
  rcases h.2 with ⟨_, h1⟩ | ⟨g, cap, cur, rfl, hb, hg, hle, hm, hs, ht⟩
  · exact absurd (List.eq_nil_of_length_eq_zero h1) h0
  · refine ⟨g, cap, cur, rfl, hb, hle, ⟨hg, by omega, hm⟩, fun j hj => ?_⟩
    have e : (cur.toList.take (l.length * 1))[j]? = (l.map (Value.int .i64))[j]? := by rw [ht]
    rw [List.getElem?_take, if_pos (by omega), List.getElem?_map, List.getElem?_eq_getElem hj] at e
    rw [← Array.getElem?_toList, e]
    rfl

theorem si_row {w : World} {g cap : Nat} {cur : Array Value} {l : List Int} (h : Row w g cap cur) (hl : l.length ≤ cap) (hc : ∀ j, (hj : j < l.length) → cur[j]? = some (.int .i64 l[j])) : SI w (.slice (some ⟨g, 0, none⟩) l.length cap) l :=
  SIc.sees (fun _ => ⟨hl, g, 0, rfl, fun j hj => by rw [Nat.zero_add, cell_of_row w g j cur _ (0, 0) h.1]; exact hc j hj⟩)

/-- 'clear' of a part of a row. -/
theorem lrun_clear {P : Program} (w : World) (t e ty : TypeId) (z : Value) (zs : List Value) (ht : P.underlying t = some (.slice e)) (hv : ∀ w, (zeroValue e).run P w = .ok z w) (n : Nat) (hn : 0 < n) (hzs : (Builtin.zeroCells z.cells n).toList = zs) (h1 : ∀ u ∈ zs, u.oneCell' = true)
    (g o c : Nat) (cur : Array Value) (hg : w.heap[g]? = some (.cells cur e (0, 0))) (hfit : o + zs.length ≤ cur.size) :
    (Builtin.clear_ #[t] ty #[.slice (some ⟨g, o, none⟩) n c]).run P w = .ok (.tuple #[]) (w.setRow g (cur.toList.take o ++ zs ++ cur.toList.drop (o + zs.length)).toArray) := by
  have hst := run_storeCells_at P g o e zs 0 cur w hg (by simpa using hfit) h1
  simp only [Nat.add_zero] at hst
  obtain ⟨m, rfl⟩ : ∃ m, n = m + 1 := ⟨n - 1, by omega⟩
  simp [Builtin.clear_, run_underlying ht, hv, hzs, hst]

theorem lfr_setRow {S : Nat → Prop} {w0 w : World} (f : Fr S w0 w) {g : Nat} (hg : g < w0.heap.size → S g) (cs : Array Value) : Fr S w0 (w.setRow g cs) :=
  ⟨f.os, f.tape, f.output, by have := f.size; simpa [World.setRow] using this, fun k hk hs => by
    rw [setRow_other _ _ _ _ (fun e => hs (by subst e; exact hg hk))]; exact f.block k hk hs⟩

/-- A part cleared: what stood ahead stands. -/
theorem clear_part (w : World) (g i k c cap : Nat) (cur : Array Value) (h : Row w g cap cur) (hk : 0 < k) (hik : i + k ≤ cap) :
    ∃ w', (Builtin.clear_ #[24] 0 #[.slice (some ⟨g, i, none⟩) k c]).run Try.prog w = .ok (.tuple #[]) w' ∧ Fr (fun b => b = g) w w' ∧ ∃ cur', Row w' g cap cur' ∧ ∀ j, j < i → cur'[j]? = cur[j]? := by
  have hzl : ((Builtin.zeroCells (Value.int .i64 0).cells k).toList).length = k := by
    have := size_zeroCells (Value.int .i64 0).cells k
    simp [Value.cells] at this ⊢
    exact this
  have hz1 : ∀ u ∈ (Builtin.zeroCells (Value.int .i64 0).cells k).toList, u.oneCell' = true := by
    intro u hu
    obtain ⟨j, hj, rfl⟩ := List.getElem_of_mem hu
    simp [Builtin.zeroCells, Value.cells, Nat.mod_one, Value.oneCell']
  have hs := h.2.1
  have hcl := lrun_clear (P := Try.prog) w 24 3 0 _ _ Try.underlying24 zeroInt k hk rfl hz1 g i c cur h.1 (by omega)
  refine ⟨_, hcl, lfr_setRow (S := fun b => b = g) (Fr.refl _ _) (fun _ => rfl) _, _, ⟨setRow_heap w g cur _ 3 (0, 0) h.1, ?_, h.2.2⟩, fun j hj => ?_⟩
  · simp only [List.size_toArray, List.length_append, List.length_take, List.length_drop, hzl, Array.length_toList]
    omega
  · rw [List.append_assoc]
    simp only [List.getElem?_toArray]
    rw [List.getElem?_append_left (by simp; omega), List.getElem?_take, if_pos hj, Array.getElem?_toList]

theorem filt_step (p : Int → Bool) (l : List Int) (k : Nat) (hk : k < l.length) : (l.take (k + 1)).filter p = (l.take k).filter p ++ (if p l[k] then [l[k]] else []) := by
  rw [List.take_succ_eq_append_getElem hk, List.filter_append]
  cases hp : p l[k] <;> simp [hp]

theorem filt_le (p : Int → Bool) (l : List Int) (k : Nat) : ((l.take k).filter p).length ≤ k := by
  have := List.length_filter_le p (l.take k)
  simp at this
  omega

theorem row_store {w : World} {g cap : Nat} {cur : Array Value} (h : Row w g cap cur) (i : Nat) (u : Value) : Row (w.setCell ⟨g, i, none⟩ u) g cap (cur.setIfInBounds i u) :=
  ⟨setCell_two i h.1, by rw [Array.size_setIfInBounds]; exact h.2.1, h.2.2⟩

theorem row_free {w : World} {g cap : Nat} {cur : Array Value} (h : Row w g cap cur) (i : Nat) : w.frozen? ⟨g, i, none⟩ = false := by simp [World.frozen?, h.1]
theorem row_cell {w : World} {g cap : Nat} {cur : Array Value} (h : Row w g cap cur) (i : Nat) (u : Value) (hu : cur[i]? = some u) : w.cell? ⟨g, i, none⟩ = some u := by
  rw [cell_of_row w g i cur _ (0, 0) h.1]; exact hu

/-- What the round of DeleteFunc keeps: i of the first j were kept, they stand in front; from j on all is as it was. -/
structure DelAt (l : List Int) (n : Int) (g cap i j : Nat) (w : World) : Prop where
  row : ∃ cur, Row w g cap cur ∧ (∀ q, (hq : q < ((l.take j).filter (fun x => decide (x ≠ n))).length) → cur[q]? = some (.int .i64 ((l.take j).filter (fun x => decide (x ≠ n)))[q])) ∧ (∀ q, (hq : q < l.length) → j ≤ q → cur[q]? = some (.int .i64 l[q]))
  many : ((l.take j).filter (fun x => decide (x ≠ n))).length = i
  lt : i < j
  le : j ≤ l.length
  fit : l.length ≤ cap

theorem DelAt.skip {l : List Int} {n : Int} {g cap i j : Nat} {w : World} (h : DelAt l n g cap i j w) (hj : j < l.length) (hn : l[j] = n) : DelAt l n g cap i (j + 1) w := by
  obtain ⟨cur, h1, h2, h3⟩ := h.row
  have e : (l.take (j + 1)).filter (fun x => decide (x ≠ n)) = (l.take j).filter (fun x => decide (x ≠ n)) := by
    rw [filt_step _ l j hj, hn]; simp
  refine ⟨⟨cur, h1, ?_, fun q hq hjq => h3 q hq (by omega)⟩, by rw [e]; exact h.many, by have := h.lt; omega, hj, h.fit⟩
  rw [e]
  exact h2

theorem DelAt.keep {l : List Int} {n : Int} {g cap i j : Nat} {w : World} (h : DelAt l n g cap i j w) (hj : j < l.length) (hn : l[j] ≠ n) : DelAt l n g cap (i + 1) (j + 1) (w.setCell ⟨g, i, none⟩ (.int .i64 l[j])) := by
  obtain ⟨cur, h1, h2, h3⟩ := h.row
  have hm := h.many
  have hlt := h.lt
  have hfit := h.fit
  have hsz := h1.2.1
  have e : (l.take (j + 1)).filter (fun x => decide (x ≠ n)) = (l.take j).filter (fun x => decide (x ≠ n)) ++ [l[j]] := by
    rw [filt_step _ l j hj]; simp [hn]
  refine ⟨⟨_, row_store h1 i _, ?_, fun q hq hjq => ?_⟩, by rw [e, List.length_append, hm]; rfl, by omega, hj, hfit⟩
  · rw [e]
    intro q hq
    rw [List.length_append, hm] at hq
    simp at hq
    by_cases hqi : q = i
    · subst hqi
      rw [Array.getElem?_setIfInBounds, if_pos rfl, if_pos (by omega)]
      congr 2
      rw [List.getElem_append_right (by omega)]
      simp [hm]
    · rw [Array.getElem?_setIfInBounds, if_neg (by omega), h2 q (by omega)]
      congr 2
      rw [List.getElem_append_left]
  · rw [Array.getElem?_setIfInBounds, if_neg (by omega)]
    exact h3 q hq (by omega)

set_option maxHeartbeats 8000000 in
theorem delete_any (n : Int) (gn g cap base : Nat) (l : List Int) (cur : Array Value) (w : World) (hI : w.heap[gn]? = some (oInt n)) (hne : gn ≠ g) (hr : Row w g cap cur) (hle : l.length ≤ cap) (hc : ∀ j, (hj : j < l.length) → cur[j]? = some (.int .i64 l[j])) (hs : l.length ≤ 1000) :
    Calls Try.prog 24 #[.slice (some ⟨g, 0, none⟩) l.length cap, .func (.func 25) #[] #[.pointer (some ⟨gn, 0, none⟩)]] w fun e w' =>
      ∃ v, e = .returned v ∧ SI w' v (l.filter (fun x => decide (x ≠ n))) ∧ Fr (fun k => k = g) w w' := by
  have HS0 := Lib.hid (si_row hr hle hc).shape
  have HR := Lib.hid hr
  have HC := Lib.hid hc
  have HI := Lib.hid hI
  have hcap := hr.2.2
  unfold maxLen at hcap
  clear hr hc hI
  go_enter Try.func24, Try.ntmps24
  go_wp2_with fail
  obtain ⟨a0, c0, e0, hs0⟩ := HS0.out
  simp only [Value.slice.injEq, true_and] at e0
  obtain ⟨e1, e2⟩ := e0
  rw [← e1, ← e2] at hs0
  clear e1 e2 HS0
  refine (first_is n gn l _ cap _ HI.out hs0 hs).mono ?_
  rintro e w1 ⟨rfl, rfl⟩
  clear hs0
  by_cases hmem : n ∈ l
  case neg =>
    have hf : firstI (fun x => decide (x = n)) l = -1 := firstI_none _ l (fun j hj => by
      have : l[j] ≠ n := fun e => hmem (e ▸ List.getElem_mem hj)
      simp [this])
    have HF : Hid (l.filter (fun x => decide (x ≠ n)) = l) := Lib.hid (List.filter_eq_self.2 (fun x hx => by
      have : x ≠ n := fun e => hmem (e ▸ hx)
      simp [this]))
    rw [hf]
    clear hf hmem
    go_wp2_with fail
    go_ret
    exact ⟨_, rfl, by rw [HF.out]; exact si_row HR.out hle HC.out, Fr.refl _ _⟩
  obtain ⟨i, hi, hin, hbef⟩ : ∃ i, ∃ hi : i < l.length, l[i] = n ∧ ∀ j, (hj : j < l.length) → j < i → l[j] ≠ n := by
    refine ⟨l.findIdx (fun x => decide (x = n)), ?_, ?_, ?_⟩
    · exact List.findIdx_lt_length_of_exists ⟨n, hmem, by simp⟩
    · have := List.findIdx_getElem (xs := l) (p := fun x => decide (x = n)) (w := List.findIdx_lt_length_of_exists ⟨n, hmem, by simp⟩)
      simpa using this
    · intro j hj hji
      have := List.not_of_lt_findIdx hji
      simpa using this
  have hf : firstI (fun x => decide (x = n)) l = i := firstI_found _ l i hi (fun j hj hji => by simp [hbef j hj hji]) (by simp [hin])
  have HD : Hid (DelAt l n g cap i (i + 1) w) := Lib.hid (by
    have e0 : (l.take i).filter (fun x => decide (x ≠ n)) = l.take i := List.filter_eq_self.2 (fun x hx => by
      obtain ⟨j, hj, e⟩ := List.mem_take_iff_getElem.1 hx
      have : x ≠ n := by rw [← e]; exact hbef j (by omega) (by omega)
      simp [this])
    have e1 : (l.take (i + 1)).filter (fun x => decide (x ≠ n)) = l.take i := by
      rw [filt_step _ l i hi, hin, e0]; simp
    refine ⟨⟨cur, HR.out, ?_, fun q hq _ => HC.out q hq⟩, by rw [e1]; simp; omega, by omega, hi, hle⟩
    rw [e1]
    intro q hq
    simp at hq
    rw [HC.out q (by omega)]
    congr 2
    simp)
  rw [hf]
  clear hf hmem hin hbef HR HC
  have hi1 : ¬ ((i : Int) = -1) := by omega
  go_wp2_with fail
  clear hi1
  have HI1 := Lib.hid hi
  clear hi
  go_loopg [5, 6] (l.length - (i + 1)) (fun gh u5 u6 wr => ∃ i j : Nat, gh = l.length - j ∧ u5 = .int .i64 i ∧ u6 = .int .i64 j ∧ Hid (DelAt l n g cap i j wr) ∧ Hid (Fr (fun k => k = g) w wr))
  case atStart => exact ⟨i, i + 1, rfl, rfl, by congr 1, HD, Lib.hid (Fr.refl _ _)⟩
  case round =>
    clear HD HI1
    obtain ⟨i, j, rfl, rfl, rfl, HD, F⟩ := hrel
    obtain ⟨cur, hr, hc1, hc2⟩ := HD.out.row
    have hij := HD.out.lt
    have hjl := HD.out.le
    by_cases hlt : j < l.length
    case pos =>
      obtain ⟨x, hx⟩ : ∃ x, x = l[j] := ⟨_, rfl⟩
      have hck := row_cell hr j _ (hc2 j hlt (Nat.le_refl _))
      rw [← hx] at hck
      have HIx : Hid (wr.heap[gn]? = some (oInt n)) := Lib.hid (lblock_kept HI.out F.out hne)
      have HSK := Lib.hid (fun h => HD.out.skip hlt h)
      have HKP := Lib.hid (fun h => HD.out.keep hlt h)
      have hci : ∃ u, wr.cell? ⟨g, i, none⟩ = some u := ⟨_, row_cell hr i _ (Array.getElem?_eq_getElem (by have := hr.2.1; omega))⟩
      obtain ⟨ui, hci⟩ := hci
      have hfi := row_free hr i
      rw [← hx] at HSK HKP
      clear hr hc1 hc2 hx
      go_wp2_with fail
      refine (is_any n x gn _ HIx.out).mono ?_
      rintro e w1 ⟨rfl, rfl⟩
      by_cases hxn : x = n
      · have he : decide (x = n) = true := by simp [hxn]
        have HD2 := Lib.hid (HSK.out hxn)
        rw [he]
        clear he hxn hci hfi HSK HKP HD
        go_wp2_with fail
        go_roundg (l.length - (j + 1))
        case measure => omega
        case rel => exact ⟨i, j + 1, rfl, rfl, by congr 1, HD2, F⟩
      · have he : decide (x = n) = false := by simp [hxn]
        have HD2 := Lib.hid (HKP.out hxn)
        rw [he]
        clear he hxn HSK HKP HD
        go_wp2_with fail
        go_roundg (l.length - (j + 1))
        case measure => omega
        case rel => exact ⟨i + 1, j + 1, rfl, by congr 1, by congr 1, HD2, Lib.hid (F.out.set1 i _)⟩
    case neg =>
      obtain rfl : j = l.length := by omega
      have hm := HD.out.many
      rw [List.take_length] at hc1 hm
      have hcapr := hr.2.1
      obtain ⟨w2, hcl, f2, cur', hr', hc'⟩ := clear_part wr g i (l.length - i) (cap - i) cap cur hr (by omega) (by omega)
      have s1 := fun w => lslice_from w g 0 l.length cap i (by omega) (by omega)
      have s2 := fun w => lslice_to w g 0 l.length cap i (by omega)
      rw [Nat.zero_add] at s1
      have HF : Hid (SI w2 (.slice (some ⟨g, 0, none⟩) i cap) (l.filter (fun x => decide (x ≠ n)))) := Lib.hid (by
        have h1 := si_row (l := l.filter (fun x => decide (x ≠ n))) hr' (by omega) (fun q hq => by rw [hc' q (by omega)]; exact hc1 q hq)
        rw [hm] at h1
        exact h1)
      have F2 := Lib.hid (F.out.trans f2 (fun _ _ h => h))
      clear hr hr' hc1 hc2 hc' hm hcapr f2 HD HI F
      go_wp2_with fail
      go_ret
      exact ⟨_, rfl, HF.out, F2.out⟩

end Go.Proofs.Ytlcdmaehedhipaa
