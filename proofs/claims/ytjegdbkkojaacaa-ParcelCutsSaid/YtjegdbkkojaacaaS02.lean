/-
  What ParAny, ParChk, ParBack, ParOnce rests on, part 2: CrcPut, CrcAwake, Open, CrcMixes, CrcRight, Writer.
-/
import Derived.Test.YtjegdbkkojaacaaS01
import Derived.Lib.AppendZerosOnto
import Derived.Lib.SlBytesConst
import Derived.ProofKit
import Derived.OpenShut
import Derived.SliceStrings
import Derived.Deep.RegionWith
import Derived.Deep.Cut
import Derived.Deep.CutRange
import Derived.BigRegion
import Derived.Deep.QuietTactic
import Derived.BigQuiet
import Derived.Deep.OwnRows
import Derived.Stop.BytesEq
set_option linter.unusedVariables false
set_option linter.unusedSimpArgs false
set_option maxHeartbeats 64000000
namespace Go.Proofs.Ytjegdbkkojaacaa
open Go.RowKit
open Go.Lib (hid)
section
set_option maxRecDepth 100000

/-- The bytes of a sum as an array's value. -/
def arr (l : List UInt8) : Value := .agg (l.map bv).toArray

theorem bv_nat (n : Nat) (h : n < 256) : bv (UInt8.ofNat n) = .int .u8 (n : Int) := by
  unfold bv
  rw [show (UInt8.ofNat n).toNat = n by simp; omega]

theorem encoded_any (n : Nat) (hn : n < 4294967296) (w : World) :
    Calls Try.prog 41 #[.int .u32 (n : Int)] w fun e w' => e = .returned (arr (be4 n)) ∧ Fr (fun _ => False) w w' := by
  go_enter Try.func41, Try.ntmps41
  go_wp2_with fail
  refine bodyPost_ret (results_cell_row rfl _ _ w.heap.size 88 _ _ _ rfl (heap_alloc_new _ _) Try.underlying88 rfl (by kernel_rfl)) rfl ?_
  refine ⟨?_, (Fr.refl _ _).alloc _⟩
  congr 1
  unfold arr be4 be2
  simp only [List.cons_append, List.nil_append, List.map_cons, List.map_nil]
  rw [bv_nat _ (by omega), bv_nat _ (by omega), bv_nat _ (by omega), bv_nat _ (by omega)]
  simp only [Value.agg.injEq, Array.mk.injEq, List.cons.injEq, Value.int.injEq, true_and, and_true]
  omega

theorem grow_nil (n : Nat) (h0 : 0 < n) (hn : n ≤ 100000) (w : World) :
    Calls Try.prog 53 #[.slice none 0 0, .int .i64 (n : Int)] w fun e w' => ∃ v, e = .returned v ∧ Own w' v [] ∧ Fr (fun _ => False) w w' ∧ ∀ k, v.ownBlock = some k → w.heap.size ≤ k := by
  obtain ⟨i0, hi, hz0, hz1, hz2⟩ := info_parts Try.infoU8
  have hrz := Lib.run_append_nil_zeros w 23 3 23 5 i0 (.int .u8 0) .i64 .i64 Try.underlying23 Try.underlying3 hi hz0 n h0 (by omega) (by omega) (by rw [hz2]; omega)
  have hge := grownCap_ge w n 0 5
  have hle := grownCap_le_maxLen w n 0 5 (by unfold maxLen; omega)
  generalize hG : grownCap w n 0 5 = G at *
  have HG := Lib.hid hG; clear hG
  have hG63 : G ≤ 9223372036854775807 := by unfold maxLen at hle; omega
  go_enter Try.func53, Try.ntmps53
  go_wp2_with (at_builtin; refine Lib.wpList_append_run _ rfl _ _ _ _ rfl _ _ rfl rfl _ _ hrz ?_)
  go_ret
  refine ⟨_, rfl, ?_, (Fr.refl _ _).drew.alloc _, by simp [Value.ownBlock]⟩
  refine ⟨rfl, .inr ⟨w.heap.size, G, _, rfl, Nat.zero_le _, heap_alloc_new w.drew _, Nat.zero_le _, hle, ?_, by simp⟩⟩
  rw [Array.size_append, size_zeroCells, size_zeroCells]
  show n * 1 + (G - n) * 1 = G * 1
  omega

/-- How many bytes the first k rows hold. -/
def flen (ls : List (List UInt8)) (k : Nat) : Nat := (ls.take k).flatten.length

theorem flen_le (ls : List (List UInt8)) (k : Nat) : flen ls k ≤ ls.flatten.length := by
  unfold flen
  conv => rhs; rw [← List.take_append_drop k ls]
  rw [List.flatten_append, List.length_append]
  omega

theorem flat_take_succ (ls : List (List UInt8)) (k : Nat) (h : k < ls.length) : (ls.take (k + 1)).flatten = (ls.take k).flatten ++ ls.getD k [] := by
  rw [List.take_succ_eq_append_getElem h, List.flatten_append]
  simp [List.getD, h]

/-- slices.Concat of slices of bytes: their bytes, in a row of its own. -/
theorem concat_any (vs : List Value) (ls : List (List UInt8)) (w : World) (g : Nat) (hl : vs.length = ls.length) (hg : w.heap[g]? = some (.cells vs.toArray 23)) (hs : ∀ j, j < ls.length → Sees w (vs.getD j undef) (ls.getD j []))
    (n : Nat) (hln : ls.length = n) (h0 : 0 < ls.flatten.length) (hn : ls.flatten.length ≤ 100000) (hm : n ≤ 100000) :
    Calls Try.prog 43 #[.slice (some ⟨g, 0, none⟩) n n] w fun e w' => ∃ v, e = .returned v ∧ Made v ls.flatten w w' := by
  obtain ⟨i0, hi, hz0, hz1, hz2⟩ := info_parts Try.infoU8
  have hgs : g < w.heap.size := (Array.getElem?_eq_some_iff.1 hg).1
  have HG := Lib.hid hg
  have HS := Lib.hid hs
  have H0 := Lib.hid h0
  have HN := Lib.hid hn
  have HL := Lib.hid hl
  have HLN := Lib.hid hln
  clear hg hs h0 hn hl hln
  go_enter Try.func43, Try.ntmps43
  go_wp2_with fail
  go_loopg [3, 5, 11] n (fun gg u s i wr => ∃ k : Nat, k ≤ n ∧ gg = n - k ∧ i = .int .i64 k ∧ u = .int .i64 (flen ls k : Nat) ∧ w = wr)
  case atStart => exact ⟨0, Nat.zero_le _, rfl, rfl, rfl, rfl⟩
  case round =>
    obtain ⟨k, hk, rfl, rfl, rfl, rfl⟩ := hrel
    by_cases hlt : k < n
    · obtain ⟨c, cc, hv, _⟩ := (HS.out k (by rw [HLN.out]; exact hlt)).shape
      have hc : w.cell? ⟨g, k, none⟩ = some (.slice c (ls.getD k []).length cc) := by
        rw [cell_of_row w g k _ _ (0, 0) HG.out, ← hv]
        have := HL.out; have := HLN.out
        simp [List.getD, show k < vs.length by omega]
      have h1 : flen ls (k + 1) ≤ 100000 := Nat.le_trans (flen_le ls (k + 1)) HN.out
      have h4 : flen ls (k + 1) = flen ls k + (ls.getD k []).length := by unfold flen; rw [flat_take_succ ls k (by rw [HLN.out]; exact hlt), List.length_append]
      rw [h4] at h1
      have H4 := Lib.hid h4
      clear h4 hv
      generalize flen ls k = p at *
      generalize (ls.getD k []).length = q at *
      go_wp2_with fail
      go_roundg (n - (k + 1))
      case measure => omega
      case rel => exact ⟨k + 1, by omega, rfl, by simp, by rw [H4.out]; simp, rfl⟩
    · obtain rfl : k = n := by omega
      obtain ⟨T, hT⟩ : ∃ T, T = flen ls k := ⟨_, rfl⟩
      rw [← hT]
      have hT2 : T = ls.flatten.length := by rw [hT]; unfold flen; rw [← HLN.out, List.take_length]
      have hT0 : 0 < T := by have := H0.out; omega
      have hT1 : T ≤ 100000 := by have := HN.out; omega
      clear hT hT2
      go_wp2_with fail
      refine (grow_nil _ hT0 hT1 _).mono ?_
      rintro e w1 ⟨v1, rfl, ho1, f1, k1⟩
      have K1 := Lib.hid k1; clear k1
      go_wp2_with fail
      go_loopg [6, 8, 27] k (fun gg u s i w2 => ∃ j : Nat, j ≤ k ∧ gg = k - j ∧ i = .int .i64 j ∧ Made u (ls.take j).flatten w w2)
      case atStart => exact ⟨0, Nat.zero_le _, rfl, rfl, by simpa using ho1, f1, K1.out⟩
      case round =>
        clear ho1 f1 K1
        obtain ⟨j, hj, rfl, rfl, hM⟩ := hrel
        by_cases hlt : j < k
        · obtain ⟨c, cc, hv, _⟩ := (HS.out j (by rw [HLN.out]; exact hlt)).shape
          obtain ⟨ho, hf, hk6⟩ := hM
          have hsj := (HS.out j (by rw [HLN.out]; exact hlt)).fr hf (fun _ _ h => h)
          rw [hv] at hsj
          have hc : wr.cell? ⟨g, j, none⟩ = some (.slice c (ls.getD j []).length cc) := by
            rw [hf.cell (p := ⟨g, j, none⟩) hgs (fun h => h), cell_of_row w g j _ _ (0, 0) HG.out, ← hv]
            have := HL.out; have := HLN.out
            simp [List.getD, show j < vs.length by omega]
          have h1 : flen ls (j + 1) ≤ 100000 := Nat.le_trans (flen_le ls (j + 1)) HN.out
          have h3 := flat_take_succ ls j (by rw [HLN.out]; exact hlt)
          have h4 : flen ls (j + 1) = (ls.take j).flatten.length + (ls.getD j []).length := by unfold flen; rw [h3, List.length_append]
          rw [h4] at h1
          have H1 := Lib.hid h1
          have H3 := Lib.hid h3
          have HF := Lib.hid hf
          have HK := Lib.hid hk6
          clear h1 h3 h4 hv hf hk6
          generalize (ls.take j).flatten = p at *
          generalize ls.getD j [] = q at *
          have hq : q.length ≤ 100000 := by have := H1.out; omega
          go_wp2_with (at_builtin; refine wpList_append_sep rfl (.tmp 31) (.tmp 32) 23 23 rfl 0 5 i0 (.int .u8 0) 1 1 Try.underlying23 _ Try.underlying23 (.inr ⟨_, rfl⟩) hi hz0 hz1 hz2 rfl (by decide) u6 _ _ rfl ho _ q.length (q.map bv) rfl (lenOf_slice _ _ _) (by simp) (by exact hsj.first) (by exact hsj.drew.first) (bv_one _) ?b1 ?b2 (Nat.zero_le _) ?grow)
          case b1 => have := H1.out; unfold maxLen; omega
          case b2 => have := H1.out; omega
          case grow =>
            intro v' w3 hown hg hv
            have m := Made.append (w := w) ⟨ho, HF.out, HK.out⟩ (Fr.refl _ _) rfl hown hg hv
            rw [← H3.out] at m
            clear hown hg hv hsj ho
            go_wp2_with fail
            go_roundg (k - (j + 1))
            case measure => omega
            case rel => exact ⟨j + 1, by omega, rfl, by simp, m⟩
        · obtain rfl : j = k := by omega
          rw [← HLN.out, List.take_length] at hM
          have HM := Lib.hid hM; clear hM
          go_wp2_with fail
          go_ret
          exact ⟨_, rfl, HM.out⟩

theorem put_any (v : Value) (l : List UInt8) (w : World) (hs : Sees w v l) (hl : l.length ≤ 1000) :
    Calls Try.prog 22 #[v] w fun e w' => ∃ v', e = .returned v' ∧ Made v' (Crc.summed l) w w' := by
  obtain ⟨a, c, rfl, hn⟩ := hs.shape
  clear hn
  go_enter Try.func22, Try.ntmps22
  go_wp2_with fail
  refine (sum_any _ l _ hs (by omega)).mono ?_
  rintro e w1 ⟨rfl, rfl⟩
  have hlt := Crc.sum_lt l
  go_wp2_with fail
  refine (encoded_any (Crc.sum l) hlt _).mono ?_
  rintro e w2 ⟨rfl, f2⟩
  obtain ⟨c0, c1, c2, c3, hb⟩ : ∃ c0 c1 c2 c3, be4 (Crc.sum l) = [c0, c1, c2, c3] := ⟨_, _, _, _, rfl⟩
  have HB := Lib.hid hb
  rw [hb]
  unfold arr bv
  simp only [List.map_cons, List.map_nil]
  clear hb
  go_wp2_with fail
  have hb : Sees (w2.alloc (.cells #[.int .u8 c0.toNat, .int .u8 c1.toNat, .int .u8 c2.toNat, .int .u8 c3.toNat] 88)) (.slice (some ⟨w2.heap.size, 0, none⟩) 4 4) [c0, c1, c2, c3] := by
    refine sees_new (l := [c0, c1, c2, c3]) (c := 4) w2.heap.size (heap_alloc_new w2 _) ?_ (by simp)
    intro j hj
    match j, hj with
    | 0, _ | 1, _ | 2, _ | 3, _ => rfl
  generalize hw3 : w2.alloc (.cells #[.int .u8 c0.toNat, .int .u8 c1.toNat, .int .u8 c2.toNat, .int .u8 c3.toNat] 88) = w3 at *
  have hw3s : w3.heap.size = w2.heap.size + 1 := by rw [← hw3]; exact World.size_alloc _ _
  have f3 : Fr (fun _ => False) w1 w3 := by rw [← hw3]; exact f2.alloc _
  clear hw3
  rw [← hw3s]
  have f4 : ∀ o, Fr (fun _ => False) w3 (w3.alloc o) := fun o => (Fr.refl _ _).alloc o
  refine (concat_any [.slice a l.length c, .slice (some ⟨w2.heap.size, 0, none⟩) 4 4] [l, [c0, c1, c2, c3]] _ w3.heap.size rfl (heap_alloc_new w3 _) ?_ 2 rfl (by simp) (by simp; omega) (by omega)).mono ?_
  · intro j hj
    match j, hj with
    | 0, _ => exact (hs.fr f3 (fun _ _ h => h)).fr (f4 _) (fun _ _ h => h)
    | 1, _ => exact hb.fr (f4 _) (fun _ _ h => h)
  rintro e w4 ⟨v, rfl, hM⟩
  have hflat : [l, [c0, c1, c2, c3]].flatten = Crc.summed l := by
    unfold Crc.summed
    rw [HB.out]
    simp
  rw [hflat] at hM
  obtain ⟨m1, m2, m3⟩ := hM
  have m : Made v (Crc.summed l) w1 w4 := ⟨m1, (f3.trans (f4 _) (fun _ _ h => h)).trans m2 (fun _ _ h => h), fun k hk => by
    have h1 := m3 k hk
    have h2 := f3.size
    have h3 := (f4 (.cells #[.slice a l.length c, .slice (some ⟨w2.heap.size, 0, none⟩) 4 4] 23)).size
    exact Nat.le_trans h2 (Nat.le_trans h3 h1)⟩
  clear m1 m2 m3 hb hs f3 f4 hw3s hflat
  go_wp2_with fail
  go_ret
  exact ⟨_, rfl, m⟩
end
section
set_option maxRecDepth 100000

theorem Crc.sum_awake : Crc.sum [49, 50, 51, 52, 53, 54, 55, 56, 57] = 4236843288 := by decide +kernel
end
section
open Go.RowKit Go.WideShapes Go.ChangeShapes

/-- The slice value v shows the values xs. -/
def SeesL (w : World) (v : Value) (xs : List Value) : Prop :=
  (xs = [] ∧ ∃ a c, v = .slice a 0 c) ∨
  ∃ g off cap, v = .slice (some ⟨g, off, none⟩) xs.length cap ∧ xs.length ≤ cap ∧ ∀ j u, xs[j]? = some u → w.cell? ⟨g, off + j, none⟩ = some u

theorem SeesL.old {w : World} {v : Value} {xs : List Value} (h : SeesL w v xs) : xs = [] ∨ ∀ k, v.ownBlock = some k → k < w.heap.size := by
  rcases h with ⟨h, _⟩ | ⟨g, off, cap, rfl, hle, hc⟩
  · exact .inl h
  · cases xs with
    | nil => exact .inl rfl
    | cons x xs =>
      right
      intro k hk
      simp [Value.ownBlock] at hk
      subst hk
      exact World.block_lt_of_cell? w _ (hc 0 x rfl)

theorem SeesL.fr0 {w w' : World} {v : Value} {xs : List Value} (h : SeesL w v xs) (hf : Fr (fun _ => False) w w') : SeesL w' v xs := by
  rcases h with h | ⟨g, off, cap, rfl, hle, hc⟩
  · exact .inl h
  · refine .inr ⟨g, off, cap, rfl, hle, fun j u hj => ?_⟩
    have h1 := hc j u hj
    rw [← h1]
    exact hf.cell (World.block_lt_of_cell? w _ h1) (fun h => h)

theorem addr_plain {w : World} {a : Addr} {u : Value} (h : w.cell? a = some u) : a = ⟨a.block, a.off, none⟩ := by
  obtain ⟨b, o, s⟩ := a
  cases s with
  | none => rfl
  | some s =>
    exfalso
    unfold World.cell? at h
    split at h
    · simp at h
    · cases h

theorem seesL_of {w : World} {a : Addr} {cap : Nat} {xs : List Value} (hle : xs.length ≤ cap) (hc : ∀ j u, xs[j]? = some u → w.cell? (a.add j) = some u) : SeesL w (.slice (some a) xs.length cap) xs := by
  cases xs with
  | nil => exact .inl ⟨rfl, _, _, rfl⟩
  | cons x xs =>
    have h0 := hc 0 x rfl
    have e0 : a.add 0 = a := by simp [Addr.add]
    rw [e0] at h0
    obtain ⟨b, o, s⟩ := a
    have e := addr_plain h0
    simp at e
    subst e
    refine .inr ⟨b, o, cap, rfl, hle, fun j u hj => ?_⟩
    have h1 := hc j u hj
    have e1 : (⟨b, o, none⟩ : Addr).add j = ⟨b, o + j, none⟩ := by unfold Addr.add; split <;> simp_all
    rw [e1] at h1
    exact h1

section
variable {P : Program} {H : Type} {enc : TypeId × Value → H} {W : World}

theorem sees_ints {t e : TypeId} {k : IntKind} {v : Value} {d : DataW H} {p : List MemPlace} {base : Nat} (ht : P.underlying t = some (.slice e)) (he : P.underlying e = some (.int k)) (hc : P.cellsOf e = 1)
    (hval : Value.okWide P W .any base t v) (hd : DataW.Trod enc P W 0 (fun _ => true) true t v d p) :
    ∃ l : List Int, SeesL W v (l.map (Value.int k)) ∧ ∀ n ∈ l, (Lit.int k n).wf = true := by
  obtain ⟨a, len, cap, rfl⟩ := okWide_slice ht hval
  obtain ⟨fuel, hf⟩ := hd
  rcases open_ints ht he hc hf with ⟨hcs, _⟩ | ⟨x, l, c, zs, hcs, _, hl, hm, hz, _, hcell, hwz⟩
  · simp [Value.cells] at hcs
    obtain ⟨rfl, rfl, rfl⟩ := hcs
    exact ⟨[], .inl ⟨rfl, _, _, rfl⟩, by simp⟩
  · simp [Value.cells] at hcs
    obtain ⟨rfl, rfl, rfl⟩ := hcs
    have hz' : zs.length = cap := by simpa using hz
    refine ⟨zs.take len, ?_, fun n hn => hwz n (List.mem_of_mem_take hn)⟩
    have hlen : ((zs.take len).map (Value.int k)).length = len := by simp; omega
    have := seesL_of (w := W) (a := x) (cap := cap) (xs := (zs.take len).map (Value.int k)) (by rw [hlen]; exact hl) (by
      intro j u hj
      have hjl : j < len := by have := (List.getElem?_eq_some_iff.1 hj).1; rw [hlen] at this; exact this
      rw [hcell j (by omega), ← hj]
      simp [List.getD, hjl, show j < zs.length by omega])
    rw [hlen] at this
    exact this

theorem sees_strs {t e : TypeId} {v : Value} {d : DataW H} {p : List MemPlace} {base : Nat} (ht : P.underlying t = some (.slice e)) (he : P.underlying e = some .string) (hc : P.cellsOf e = 1)
    (hval : Value.okWide P W .any base t v) (hd : DataW.Trod enc P W 0 (fun _ => true) true t v d p) :
    ∃ l : List ByteArray, SeesL W v (l.map Value.string) ∧ ∀ s ∈ l, s.size ≤ maxLen := by
  obtain ⟨a, len, cap, rfl⟩ := okWide_slice ht hval
  obtain ⟨fuel, hf⟩ := hd
  rcases open_strings ht he hc hf with ⟨hcs, _⟩ | ⟨x, l, c, zs, hcs, _, hl, hm, hz, _, hcell, hwz⟩
  · simp [Value.cells] at hcs
    obtain ⟨rfl, rfl, rfl⟩ := hcs
    exact ⟨[], .inl ⟨rfl, _, _, rfl⟩, by simp⟩
  · simp [Value.cells] at hcs
    obtain ⟨rfl, rfl, rfl⟩ := hcs
    have hz' : zs.length = cap := by simpa using hz
    refine ⟨zs.take len, ?_, fun n hn => hwz n (List.mem_of_mem_take hn)⟩
    have hlen : ((zs.take len).map Value.string).length = len := by simp; omega
    have := seesL_of (w := W) (a := x) (cap := cap) (xs := (zs.take len).map Value.string) (by rw [hlen]; exact hl) (by
      intro j u hj
      have hjl : j < len := by have := (List.getElem?_eq_some_iff.1 hj).1; rw [hlen] at this; exact this
      rw [hcell j (by omega), ← hj]
      simp [List.getD, hjl, show j < zs.length by omega])
    rw [hlen] at this
    exact this
end

/-- A slice of bytes that came in, as a list of bytes. -/
theorem sees_u8 {w : World} {v : Value} {l : List Int} (h : SeesL w v (l.map (Value.int .u8))) (hw : ∀ n ∈ l, (Lit.int .u8 n).wf = true) : Sees w v (l.map fun n => UInt8.ofNat n.toNat) := by
  rcases h with ⟨h, a, c, rfl⟩ | ⟨g, off, cap, rfl, hle, hc⟩
  · left
    have : l = [] := by cases l with | nil => rfl | cons _ _ => simp at h
    subst this
    exact ⟨rfl, a, c, rfl⟩
  · right
    refine ⟨g, off, cap, by simp, by simpa using hle, fun j hj => ?_⟩
    simp at hj
    have hb := bounds_u8 (hw _ (List.getElem_mem hj))
    rw [hc j (.int .u8 l[j]) (by simp [hj])]
    have := bv_of l[j] hb.1 hb.2
    simp [List.getD, hj, this]
end
section
theorem own_made (w : World) (n : Nat) (hn : n ≤ 100000) : Own (w.alloc (.cells (madeCells #[.int .u8 0] n) 5)) (.slice (some ⟨w.heap.size, 0, none⟩) n n) (List.replicate n 0) := by
  unfold Own
  rw [List.length_replicate]
  refine ⟨by simp, .inr ⟨w.heap.size, n, _, rfl, Nat.zero_le _, heap_alloc_new w _, Nat.le_refl _, by unfold maxLen; omega, by rw [size_madeCells]; omega, ?_⟩⟩
  rw [toList_madeCells_one, Nat.mul_one, List.take_of_length_le (by simp), List.map_replicate]
  rfl

/-- What the law's loop keeps: one row, of what has been mixed. -/
def mixed (a m : List UInt8) (n k : Nat) : List UInt8 := Crc.xorb (a.take k) (m.take k) ++ List.replicate (n - k) 0

theorem mixed_length (a m : List UInt8) (n k : Nat) (hk : k ≤ n) (ha : n ≤ a.length) (hm : n ≤ m.length) : (mixed a m n k).length = n := by
  unfold mixed
  rw [List.length_append, Crc.xorb_length _ _ (by simp; omega)]
  simp
  omega

theorem xorb_snoc : ∀ (l m : List UInt8) (x y : UInt8), l.length = m.length → Crc.xorb (l ++ [x]) (m ++ [y]) = Crc.xorb l m ++ [x ^^^ y]
  | [], [], _, _, _ => rfl
  | c :: l, d :: m, x, y, h => by
    show (c ^^^ d) :: Crc.xorb (l ++ [x]) (m ++ [y]) = (c ^^^ d) :: (Crc.xorb l m ++ [x ^^^ y])
    rw [xorb_snoc l m x y (by simpa using h)]
  | [], _ :: _, _, _, h => by simp at h
  | _ :: _, [], _, _, h => by simp at h

theorem mixed_step (a m : List UInt8) (n k : Nat) (hk : k < n) (ha : n ≤ a.length) (hm : n ≤ m.length) : (mixed a m n k).set k (a.getD k 0 ^^^ m.getD k 0) = mixed a m n (k + 1) := by
  unfold mixed
  have hl : (Crc.xorb (a.take k) (m.take k)).length = k := by rw [Crc.xorb_length _ _ (by simp; omega)]; simp; omega
  have ea : a.take (k + 1) = a.take k ++ [a.getD k 0] := by rw [List.take_succ_eq_append_getElem (by omega)]; simp [List.getD, show k < a.length by omega]
  have em : m.take (k + 1) = m.take k ++ [m.getD k 0] := by rw [List.take_succ_eq_append_getElem (by omega)]; simp [List.getD, show k < m.length by omega]
  rw [ea, em, xorb_snoc _ _ _ _ (by simp; omega), List.set_append_right _ _ (by omega), hl, Nat.sub_self, show n - k = (n - (k + 1)) + 1 by omega, List.replicate_succ, List.set_cons_zero, List.append_assoc]
  rfl

theorem mixed_end (a m : List UInt8) (n : Nat) : mixed a m n n = Crc.xorb (a.take n) (m.take n) := by simp [mixed]

theorem sees_at {w : World} {a : Option Addr} {n c : Nat} {l : List UInt8} (h : Sees w (.slice a n c) l) (k : Nat) (hk : k < l.length) : ∃ g o, a = some ⟨g, o, none⟩ ∧ w.cell? ⟨g, o + k, none⟩ = some (bv (l.getD k 0)) := by
  rcases h with ⟨rfl, _⟩ | ⟨g, off, cap, e, hle, hc⟩
  · simp at hk
  · simp only [Value.slice.injEq] at e
    exact ⟨g, off, e.1, hc k hk⟩

theorem sees_lt {w : World} {g o n c : Nat} {l : List UInt8} (h : Sees w (.slice (some ⟨g, o, none⟩) n c) l) (k : Nat) (hk : k < l.length) : g < w.heap.size := by
  obtain ⟨g', o', e, hc⟩ := sees_at h k hk
  simp only [Option.some.injEq, Addr.mk.injEq] at e
  obtain ⟨rfl, _⟩ := e
  exact World.block_lt_of_cell? w _ hc

theorem own_at {w : World} {g n c : Nat} {l : List UInt8} (h : Own w (.slice (some ⟨g, 0, none⟩) n c) l) (k : Nat) (hk : k < l.length) : w.cell? ⟨g, 0 + k, none⟩ = some (bv (l.getD k 0)) := by
  obtain ⟨g', o', e, hc⟩ := sees_at h.sees k hk
  simp only [Option.some.injEq, Addr.mk.injEq] at e
  obtain ⟨rfl, rfl, _⟩ := e
  exact hc

theorem own_len {w : World} {g n c : Nat} {l : List UInt8} (h : Own w (.slice (some ⟨g, 0, none⟩) n c) l) : n = l.length := by
  rcases h.2 with ⟨e, _⟩ | ⟨g', cap', cur, h', _⟩
  · simp at e
  · simp at h'; exact h'.2.1

theorem own_frozen {w : World} {g n c : Nat} {l : List UInt8} (h : Own w (.slice (some ⟨g, 0, none⟩) n c) l) (k : Nat) : w.frozen? ⟨g, k, none⟩ = false := by
  obtain rfl := own_len h
  exact World.ownsRow.frozenAt h k

theorem own_set {w : World} {g n c : Nat} {l : List UInt8} (h : Own w (.slice (some ⟨g, 0, none⟩) n c) l) (k : Nat) (u : UInt8) : Own (w.setCell ⟨g, k, none⟩ (bv u)) (.slice (some ⟨g, 0, none⟩) n c) (l.set k u) := by
  obtain rfl := own_len h
  have := (World.ownsRow.stored h k (bv u)).1
  unfold Own
  rw [List.length_set, List.map_set]
  exact this

theorem own_other {w : World} {v : Value} {l : List UInt8} (h : Own w v l) {a : Addr} (ha : v.ownBlock ≠ some a.block) (u : Value) : Own (w.setCell a u) v l := ownsRow_setCell_other h ha u

theorem sees_drewN {w : World} {v : Value} {l : List UInt8} (h : Sees w v l) (j : Nat) : Sees (w.drewN j) v l := h

theorem sees_take {w : World} {a : Option Addr} {n c : Nat} {l : List UInt8} (h : Sees w (.slice a n c) l) (k : Nat) (hk : k ≤ l.length) : Sees w (.slice a k c) (l.take k) := by
  have hl : (l.take k).length = k := by simp; omega
  rcases h with ⟨rfl, a', c', e⟩ | ⟨g, off, cap, e, hle, hc⟩
  · obtain rfl : k = 0 := by simpa using hk
    exact .inl ⟨rfl, a, c, rfl⟩
  · simp only [Value.slice.injEq] at e
    obtain ⟨rfl, _, rfl⟩ := e
    refine .inr ⟨g, off, c, by rw [hl], by omega, fun j hj => ?_⟩
    rw [hl] at hj
    rw [hc j (by omega)]
    simp [List.getD, hj]

theorem own_drew {w : World} {v : Value} {l : List UInt8} (h : Own w v l) : Own w.drew v l := h

theorem Fr.drewN {S : Nat → Prop} {a b : World} (h : Fr S a b) (n : Nat) : Fr S a (b.drewN n) := ⟨h.os, h.tape, h.output, h.size, h.block⟩

theorem Crc.sum_xor (l m : List UInt8) (h : l.length = m.length) : Crc.sum (Crc.xorb l m) ^^^ Crc.sum l = (Crc.cbs 0#32 (Crc.bits m)).toNat := by
  unfold Crc.sum
  rw [← BitVec.toNat_xor, Crc.reg_xor l m h]
  congr 1
  generalize Crc.reg l = R
  generalize Crc.cbs 0#32 (Crc.bits m) = D
  apply BitVec.eq_of_getLsbD_eq
  intro i hi
  simp only [BitVec.getLsbD_xor, BitVec.getLsbD_not, hi, decide_true, Bool.true_and]
  cases R.getLsbD i <;> cases D.getLsbD i <;> rfl
end
section
set_option maxRecDepth 100000

theorem right_any (v : Value) (l : List UInt8) (w : World) (hs : Sees w v l) (hl : l.length ≤ 1000) :
    Calls Try.prog 24 #[v] w fun e w' => e = .returned (.bool (Crc.right l)) ∧ Fr (fun _ => False) w w' := by
  obtain ⟨a, c, rfl, hn⟩ := hs.shape
  by_cases h4 : 4 ≤ l.length
  · clear hn
    obtain ⟨h, hh⟩ : ∃ h, l.length = h + 4 := ⟨l.length - 4, by omega⟩
    rcases hs with ⟨h0, _⟩ | ⟨g, off, cap, e, hle, hc⟩
    · rw [h0] at hh; simp at hh
    simp only [Value.slice.injEq] at e
    obtain ⟨rfl, _, rfl⟩ := e
    have hsh : Sees w (.slice (some ⟨g, off, none⟩) h c) (l.take h) := by
      have := sees_take (w := w) (a := some ⟨g, off, none⟩) (n := l.length) (c := c) (l := l) (.inr ⟨g, off, c, rfl, hle, hc⟩) h (by omega)
      exact this
    have c0 := hc h (by omega)
    have c1 := hc (h + 1) (by omega)
    have c2 := hc (h + 2) (by omega)
    have c3 := hc (h + 3) (by omega)
    rw [← Nat.add_assoc] at c1 c2 c3
    have hsl : l.drop h = [l.getD h 0, l.getD (h + 1) 0, l.getD (h + 2) 0, l.getD (h + 3) 0] := by
      rw [List.drop_eq_getElem_cons (by omega), List.drop_eq_getElem_cons (by omega), List.drop_eq_getElem_cons (by omega), List.drop_eq_getElem_cons (by omega), List.drop_of_length_le (by omega)]
      simp [List.getD, show h < l.length by omega, show h + 1 < l.length by omega, show h + 2 < l.length by omega, show h + 3 < l.length by omega]
    have hlt := Crc.sum_lt (l.take h)
    have hr : Crc.right l = decide ([l.getD h 0, l.getD (h + 1) 0, l.getD (h + 2) 0, l.getD (h + 3) 0] = be4 (Crc.sum (l.take h))) := by
      unfold Crc.right
      rw [decide_eq_true h4, Bool.true_and, show l.length - 4 = h by omega, hsl]
    have hsum : ∀ W, Sees W (.slice (some ⟨g, off, none⟩) h c) (l.take h) → Calls Try.prog 42 #[.slice (some ⟨g, off, none⟩) h c] W fun e w' => e = .returned (.int .u32 (Crc.sum (l.take h))) ∧ w' = W :=
      fun W hW => sum_any _ (l.take h) W hW (by rw [List.length_take]; omega)
    have HSH := Lib.hid hsh
    clear hsl hc hsh
    rw [hh] at hle ⊢
    clear h4
    have hh2 : h ≤ 1000 := by omega
    clear hh hl
    unfold bv at c0 c1 c2 c3
    generalize l.getD h 0 = x0 at *
    generalize l.getD (h + 1) 0 = x1 at *
    generalize l.getD (h + 2) 0 = x2 at *
    generalize l.getD (h + 3) 0 = x3 at *
    generalize Crc.sum (l.take h) = s at *
    obtain ⟨d0, d1, d2, d3, hb⟩ : ∃ d0 d1 d2 d3, be4 s = [d0, d1, d2, d3] := ⟨_, _, _, _, rfl⟩
    have he := encoded_any s hlt
    rw [hb] at he hr
    have HSM := Lib.hid hsum
    clear hsum
    unfold arr bv at he
    simp only [List.map_cons, List.map_nil] at he
    have HE := Lib.hid he
    clear he hb
    have heq : ∀ W : World, (Op.equalIn 10000 88 (.agg #[.int .u8 x0.toNat, .int .u8 x1.toNat, .int .u8 x2.toNat, .int .u8 x3.toNat]) (.agg #[.int .u8 d0.toNat, .int .u8 d1.toNat, .int .u8 d2.toNat, .int .u8 d3.toNat])).run Try.prog W = .ok ([x0, x1, x2, x3] == [d0, d1, d2, d3]) W :=
      fun W => run_equalIn_bytes W 9998 88 5 4 Try.underlying88 Try.underlying5 Try.sizeOf5 [x0, x1, x2, x3] [d0, d1, d2, d3] rfl rfl
    have hbb : ([x0, x1, x2, x3] == [d0, d1, d2, d3]) = Crc.right l := by rw [hr, Bool.eq_iff_iff]; simp
    rw [hbb] at heq
    clear hbb
    have HR := Lib.hid hr
    clear hr
    generalize hrr : Crc.right l = rr at *
    have HRR := Lib.hid hrr
    clear hrr
    have hcc : ∀ W, Fr (fun _ => False) w.drew W → W.cell? ⟨g, off + h, none⟩ = some (.int .u8 x0.toNat) ∧ W.cell? ⟨g, off + h + 1, none⟩ = some (.int .u8 x1.toNat) ∧ W.cell? ⟨g, off + h + 2, none⟩ = some (.int .u8 x2.toNat) ∧ W.cell? ⟨g, off + h + 3, none⟩ = some (.int .u8 x3.toNat) := by
      intro W hf
      have hg : g < w.heap.size := World.block_lt_of_cell? w _ c0
      exact ⟨(hf.cell (p := ⟨g, off + h, none⟩) hg (fun h => h)).trans c0, (hf.cell (p := ⟨g, off + h + 1, none⟩) hg (fun h => h)).trans c1, (hf.cell (p := ⟨g, off + h + 2, none⟩) hg (fun h => h)).trans c2, (hf.cell (p := ⟨g, off + h + 3, none⟩) hg (fun h => h)).trans c3⟩
    have hch : ¬ c = h := by omega
    have HCC := Lib.hid hcc
    clear hcc
    have hat : ∀ (W : World) (cp : Nat), (Instr.arrayAt 88 (.slice (some ⟨g, off + h, none⟩) 4 cp)).run Try.prog W = .ok (.pointer (some ⟨g, off + h, none⟩)) W := fun W cp => run_arrayAt W 88 _ 4 _ 4 cp Try.underlying88 (Nat.le_refl _)
    go_enter Try.func24, Try.ntmps24
    go_wp2_with fail
    go_cut [2] from 9 to 19 (fun r wx => r = .bool rr ∧ Fr (fun _ => False) w wx)
    case first =>
      go_region_with (first
        | (go_at_call 42; refine (HSM.out _ ?_).mono ?_; exact HSH.out; rintro e wa ⟨rfl, rfl⟩)
        | (go_at_call 41; refine (HE.out _).mono ?_; rintro e wa ⟨rfl, fa⟩; obtain ⟨k0, k1, k2, k3⟩ := HCC.out _ fa))
      all_goals (go_wp2_with fail; go_meet; exact ⟨rfl, fa.os, fa.tape, fa.output, fa.size, fa.block⟩)
    case rest =>
      obtain ⟨rfl, fw⟩ := hcut
      clear HSM HSH HE HCC heq hat c0 c1 c2 c3
      go_wp2_with fail
      go_ret
      exact ⟨rfl, fw⟩
  · clear hn
    have hr : Crc.right l = false := by unfold Crc.right; rw [decide_eq_false h4]; rfl
    rw [hr]
    go_enter Try.func24, Try.ntmps24
    go_wp2_with fail
    go_ret
    exact ⟨rfl, Fr.refl _ _⟩
end
section
/-- Block b is a Writer whose bytes are l, in the slice v that it owns alone. -/
structure Wr (w : World) (b : Nat) (v : Value) (l : List UInt8) : Prop where
  here : w.heap[b]? = some (.cells #[v] 60 (0, 0))
  own : Own w v l
  apart : v.ownBlock ≠ some b

/-- What a call of the Writer leaves. -/
def Wrote (b : Nat) (v : Value) (l : List UInt8) (w : World) (w' : World) : Prop :=
  ∃ v', Wr w' b v' l ∧ Fr (fun k => k = b ∨ v.ownBlock = some k) w w' ∧ (v'.ownBlock = v.ownBlock ∨ ∀ k, v'.ownBlock = some k → w.heap.size ≤ k)

theorem wrote_of {b : Nat} {v : Value} {l m : List UInt8} {w w1 : World} {o : Obj} {a : Option Addr} {c k : Nat} (h : Wr w b v l) (hk : w1.heap[b]? = some (.cells #[v] 60 (0, 0)))
    (hown : w1.ownsRow 0 5 1 (.slice a (l.length + k) c) (l.length + k) (l.map bv ++ m.map bv)) (hg : (w.alloc o).grownBy w1 v.ownBlock)
    (hv : (Value.slice a (l.length + k) c).ownBlock = v.ownBlock ∨ (Value.slice a (l.length + k) c).ownBlock = some (w.heap.size + 1)) :
    Wrote b v (l ++ m) w (w1.setCell ⟨b, 0, none⟩ (.slice a (l.length + k) c)) := by
  have hb := lt_of_block h.here
  have hm : k = m.length := by have := hown.1; simp at this; omega
  have hfr : Fr (fun k => k = b ∨ v.ownBlock = some k) w w1 := ((Fr.refl _ _).alloc o).trans (Fr.of_grown hg) (fun i _ e => .inr e.symm)
  have hne : (Value.slice a (l.length + k) c).ownBlock ≠ some b := by
    rcases hv with e | e
    · rw [e]; exact h.apart
    · rw [e]; intro e; simp at e; omega
  refine ⟨_, ⟨one_setCell hk, ?_, hne⟩, hfr.setCell (fun _ => .inl rfl) _, ?_⟩
  · have := ownsRow_setCell_other hown (a := ⟨b, 0, none⟩) hne (.slice a (l.length + k) c)
    unfold Own
    rw [List.length_append, List.map_append, ← hm]
    exact this
  · rcases hv with e | e
    · exact .inl e
    · right; intro k hk; rw [e] at hk; simp at hk; omega

theorem wrote_of' {b : Nat} {v : Value} {l m : List UInt8} {w w1 : World} {a : Option Addr} {c k : Nat} (h : Wr w b v l) (hk : w1.heap[b]? = some (.cells #[v] 60 (0, 0)))
    (hown : w1.ownsRow 0 5 1 (.slice a (l.length + k) c) (l.length + k) (l.map bv ++ m.map bv)) (hg : w.grownBy w1 v.ownBlock)
    (hv : (Value.slice a (l.length + k) c).ownBlock = v.ownBlock ∨ (Value.slice a (l.length + k) c).ownBlock = some w.heap.size) :
    Wr (w1.setCell ⟨b, 0, none⟩ (.slice a (l.length + k) c)) b (.slice a (l.length + k) c) (l ++ m) ∧ Fr (fun k => k = b ∨ v.ownBlock = some k) w (w1.setCell ⟨b, 0, none⟩ (.slice a (l.length + k) c)) ∧
      ((Value.slice a (l.length + k) c).ownBlock = v.ownBlock ∨ ∀ j, (Value.slice a (l.length + k) c).ownBlock = some j → w.heap.size ≤ j) := by
  have hb := lt_of_block h.here
  have hm : k = m.length := by have := hown.1; simp at this; omega
  have hfr : Fr (fun k => k = b ∨ v.ownBlock = some k) w w1 := (Fr.refl _ _).trans (Fr.of_grown hg) (fun i _ e => .inr e.symm)
  have hne : (Value.slice a (l.length + k) c).ownBlock ≠ some b := by
    rcases hv with e | e
    · rw [e]; exact h.apart
    · rw [e]; intro e; simp at e; omega
  refine ⟨⟨one_setCell hk, ?_, hne⟩, hfr.setCell (fun _ => .inl rfl) _, ?_⟩
  · have := ownsRow_setCell_other hown (a := ⟨b, 0, none⟩) hne (.slice a (l.length + k) c)
    unfold Own
    rw [List.length_append, List.map_append, ← hm]
    exact this
  · rcases hv with e | e
    · exact .inl e
    · right; intro k hk; rw [e] at hk; simp at hk; omega

/-- The list of bytes in two parts: what is owned, said of each part. -/
theorem own_split {w : World} {v : Value} {l : List UInt8} {s : ByteArray} (h : Own w v (l ++ s.data.toList)) : w.ownsRow 0 5 1 v (l.length + s.size) (l.map bv ++ s.data.toList.map bv) := by
  unfold Own at h
  rw [List.length_append, List.map_append] at h
  exact h

theorem word_any (b : Nat) (v : Value) (l : List UInt8) (n : Int) (h0 : 0 ≤ n) (h1 : n ≤ 65535) (w : World) (h : Wr w b v l) (hl : l.length ≤ 1000000000) :
    Calls Try.prog 19 #[.pointer (some ⟨b, 0, none⟩), .int .u16 n] w fun e w' => e = .returned (.tuple #[]) ∧ Wrote b v (l ++ be2 n.toNat) w w' := by
  obtain ⟨i0, hi, hz0, hz1, hz2⟩ := info_parts Try.infoU8
  have hc := cell_of_one h.here
  have hf := free_of_one h.here
  go_enter Try.func19, Try.ntmps19
  go_wp2_with (at_builtin; refine wpList_append_sep rfl (.tmp 10) (.tmp 16) 23 23 rfl 0 5 i0 (.int .u8 0) 1 1 Try.underlying23 _ Try.underlying23 (.inr ⟨_, rfl⟩) hi hz0 hz1 hz2 rfl (by decide) v l.length (l.map bv) rfl ?own _ 2 ((be2 n.toNat).map bv) rfl (lenOf_slice _ _ _) rfl ?c1 ?c2 (bv_one _) ?b1 ?b2 (Nat.zero_le _) ?grow)
  case own => exact World.ownsRow.alloc h.own _
  case c1 => exact be2_new h0 h1 w
  case c2 => exact be2_new h0 h1 w.drew
  case b1 => unfold maxLen; omega
  case b2 => omega
  case grow =>
    intro v' w1 hown hg hv
    obtain ⟨a, c, rfl⟩ := slice_of_own hown
    have hb := lt_of_block h.here
    have hk : w1.heap[b]? = some (.cells #[v] 60 (0, 0)) := by
      rw [hg.block b (by show b < (w.heap.push _).size; simp; omega) (fun e => h.apart e.symm), Below.heap_alloc _ _ _ hb]; exact h.here
    have hc1 := cell_of_one hk
    have hf1 := free_of_one hk
    clear hc hf
    have Hk := Lib.hid hk; clear hk
    have Hv := Lib.hid hv; clear hv
    have Hg := Lib.hid hg; clear hg
    have Ho := Lib.hid hown; clear hown
    go_wp2
    go_end0
    exact ⟨rfl, wrote_of h Hk.out Ho.out Hg.out Hv.out⟩
theorem Wrote.size {b : Nat} {v : Value} {l : List UInt8} {w w' : World} (h : Wrote b v l w w') : w.heap.size ≤ w'.heap.size := by
  obtain ⟨_, _, hf, _⟩ := h; exact hf.size

theorem Wrote.trans {b : Nat} {v v1 : Value} {l2 : List UInt8} {w w1 w2 : World} (hf : Fr (fun k => k = b ∨ v.ownBlock = some k) w w1) (hv : v1.ownBlock = v.ownBlock ∨ ∀ k, v1.ownBlock = some k → w.heap.size ≤ k)
    (h2 : Wrote b v1 l2 w1 w2) : Wrote b v l2 w w2 := by
  obtain ⟨v2, hw2, hf2, hv2⟩ := h2
  refine ⟨v2, hw2, hf.trans hf2 ?_, ?_⟩
  · rintro i hi (rfl | e)
    · exact .inl rfl
    · rcases hv with e1 | e1
      · exact .inr (e1 ▸ e)
      · have := e1 i e; omega
  · rcases hv2 with e2 | e2
    · rcases hv with e1 | e1
      · exact .inl (e2.trans e1)
      · right; intro k hk; exact e1 k (e2 ▸ hk)
    · right; intro k hk; have := e2 k hk; have := hf.size; omega

theorem long_any (b : Nat) (v : Value) (l : List UInt8) (n : Int) (h0 : 0 ≤ n) (h1 : n ≤ 4294967295) (w : World) (h : Wr w b v l) (hl : l.length ≤ 999999998) :
    Calls Try.prog 20 #[.pointer (some ⟨b, 0, none⟩), .int .u32 n] w fun e w' => e = .returned (.tuple #[]) ∧ Wrote b v (l ++ be4 n.toNat) w w' := by
  have hwr : IntKind.u16.wrap n = n % 65536 := IntKind.wrap_u16 n
  go_enter Try.func20, Try.ntmps20
  go_wp2_with fail
  refine (word_any b v l _ (by omega) (by omega) _ h (by omega)).mono ?_
  rintro e w1 ⟨rfl, v1, hw1, hf1, hv1⟩
  have Hv := Lib.hid hv1; clear hv1
  go_wp2_with fail
  refine (word_any b v1 _ _ (by omega) (by omega) _ hw1 (by rw [List.length_append, be2_length]; omega)).mono ?_
  rintro e w2 ⟨rfl, h2⟩
  go_wp2_with fail
  go_end0
  refine ⟨rfl, Wrote.trans hf1 Hv.out ?_⟩
  have e1 : (n / 65536).toNat = n.toNat / 65536 := by omega
  have e2 : (n % 65536).toNat = n.toNat % 65536 := by omega
  rw [e1, e2, List.append_assoc] at h2
  exact h2

/-- A Writer that is nil does nothing. -/
theorem word_nil (n : Int) (w : World) : Calls Try.prog 19 #[.pointer none, .int .u16 n] w fun e w' => e = .returned (.tuple #[]) ∧ w' = w := by
  go_enter Try.func19, Try.ntmps19
  go_wp2
  go_returns
  exact ⟨rfl, rfl⟩
theorem long_nil (n : Int) (h0 : 0 ≤ n) (h1 : n ≤ 4294967295) (w : World) : Calls Try.prog 20 #[.pointer none, .int .u32 n] w fun e w' => e = .returned (.tuple #[]) ∧ w' = w := by
  go_enter Try.func20, Try.ntmps20
  go_wp2_with (go_at_call 19; refine (word_nil _ _).mono ?_; rintro e w' ⟨rfl, rfl⟩)
  go_end0
  exact ⟨rfl, rfl⟩
theorem text_nil (s : ByteArray) (w : World) : Calls Try.prog 21 #[.pointer none, .string s] w fun e w' => e = .returned (.tuple #[]) ∧ w' = w := by
  go_enter Try.func21, Try.ntmps21
  go_wp2
  go_returns
  exact ⟨rfl, rfl⟩
theorem bytes_nil (w : World) : Calls Try.prog 23 #[.pointer none] w fun e w' => e = .returned (.slice none 0 0) ∧ w' = w := by
  go_enter Try.func23, Try.ntmps23
  go_wp2
  go_ret
  exact ⟨rfl, rfl⟩

/-- The bytes of a text as a Writer lays them. -/
def txt (s : List UInt8) : List UInt8 := be2 s.length ++ s ++ (if s.length % 2 = 1 then [0] else [])

theorem bv_length (s : ByteArray) : (s.data.toList.map bv).length = s.size * 1 := by
  rw [List.length_map, Nat.mul_one]; rfl

theorem txt_even (l : List UInt8) (s : ByteArray) (h : ¬ s.size % 2 = 1) : l ++ txt s.data.toList = l ++ be2 (s.size : Int).toNat ++ s.data.toList := by
  unfold txt
  have e : s.data.toList.length = s.size := rfl
  rw [e, if_neg h, List.append_nil, Int.toNat_natCast]
  simp only [List.append_assoc]
theorem txt_odd (l : List UInt8) (s : ByteArray) (h : s.size % 2 = 1) : l ++ txt s.data.toList = l ++ be2 (s.size : Int).toNat ++ s.data.toList ++ [0] := by
  unfold txt
  have e : s.data.toList.length = s.size := rfl
  rw [e, if_pos h, Int.toNat_natCast]
  simp only [List.append_assoc]

theorem wrote_of_split {b : Nat} {v : Value} {l : List UInt8} {s : ByteArray} {w w1 : World} {o : Obj} {a : Option Addr} {c k : Nat} (h : Wr w b v (l ++ s.data.toList)) (hk : w1.heap[b]? = some (.cells #[v] 60 (0, 0)))
    (hown : w1.ownsRow 0 5 1 (.slice a (l.length + s.size + k) c) (l.length + s.size + k) (l.map bv ++ (s.data.toList.map bv ++ [bv 0]))) (hg : (w.alloc o).grownBy w1 v.ownBlock)
    (hv : (Value.slice a (l.length + s.size + k) c).ownBlock = v.ownBlock ∨ (Value.slice a (l.length + s.size + k) c).ownBlock = some (w.heap.size + 1)) :
    Wrote b v (l ++ s.data.toList ++ [0]) w (w1.setCell ⟨b, 0, none⟩ (.slice a (l.length + s.size + k) c)) := by
  have e : (l ++ s.data.toList).length = l.length + s.size := by rw [List.length_append]; rfl
  rw [← e] at hown hv ⊢
  have hown' : w1.ownsRow 0 5 1 (.slice a ((l ++ s.data.toList).length + k) c) ((l ++ s.data.toList).length + k) ((l ++ s.data.toList).map bv ++ [(0 : UInt8)].map bv) := by
    rw [List.map_append, List.append_assoc]; exact hown
  exact wrote_of h hk hown' hg hv

theorem text_any (b : Nat) (v : Value) (l : List UInt8) (s : ByteArray) (hs : s.size ≤ 65535) (w : World) (h : Wr w b v l) (hl : l.length ≤ 900000000) :
    Calls Try.prog 21 #[.pointer (some ⟨b, 0, none⟩), .string s] w fun e w' => e = .returned (.tuple #[]) ∧ Wrote b v (l ++ txt s.data.toList) w w' := by
  obtain ⟨i0, hi, hz0, hz1, hz2⟩ := info_parts Try.infoU8
  have hcond : decide ((65535 : Int) < (s.size : Int)) = false := by simp; omega
  have hwr : IntKind.u16.wrap (s.size : Int) = (s.size : Int) := by rw [IntKind.wrap_u16]; omega
  go_enter Try.func21, Try.ntmps21
  go_wp2_with fail
  refine (word_any b v l _ (by omega) (by omega) _ h (by omega)).mono ?_
  rintro e w1 ⟨rfl, v1, hw1, hf1, hv1⟩
  have Hv := Lib.hid hv1; clear hv1
  obtain ⟨l1, hl1⟩ : ∃ l1, l1 = l ++ be2 (s.size : Int).toNat := ⟨_, rfl⟩
  have hlen1 : l1.length ≤ 900000002 := by rw [hl1, List.length_append, be2_length]; omega
  rw [← hl1] at hw1
  have Hl1 := Lib.hid hl1; clear hl1
  have hc := cell_of_one hw1.here
  have hf := free_of_one hw1.here
  go_wp2_with (at_builtin; refine wpList_append_sep rfl (.tmp 20) (.tmp 21) 23 9 rfl 0 5 i0 (.int .u8 0) 1 1 Try.underlying23 _ Try.underlying9 (.inl rfl) hi hz0 hz1 hz2 rfl (by decide) v1 _ _ rfl hw1.own _ s.size (s.data.toList.map bv) rfl (lenOf_string _) (bv_length s) (string_first _ _) (string_first _ _) (bv_one _) ?b1 ?b2 (Nat.zero_le _) ?grow)
  case b1 => unfold maxLen; omega
  case b2 => omega
  case grow =>
    intro v' w2 hown hg hv
    obtain ⟨a, c, rfl⟩ := slice_of_own hown
    have hb := lt_of_block hw1.here
    have hk : w2.heap[b]? = some (.cells #[v1] 60 (0, 0)) := by
      rw [hg.block b hb (fun e => hw1.apart e.symm)]; exact hw1.here
    have hc2 := cell_of_one hk
    have hf2 := free_of_one hk
    clear hc hf
    have h2 := Lib.hid (wrote_of' hw1 hk hown hg hv)
    have Hg := Lib.hid hg
    have Ho := Lib.hid hown
    have Hk := Lib.hid hk
    have Hvv := Lib.hid hv
    clear hk hown hg hv
    by_cases hodd : s.size % 2 = 1
    · have h21 : ((s.size : Int) % 2 == 1) = true := by simp; omega
      go_wp2_with (at_builtin; refine wpList_append_sep rfl (.tmp 33) (.tmp 34) 23 23 rfl 0 5 i0 (.int .u8 0) 1 1 Try.underlying23 _ Try.underlying23 (.inr ⟨_, rfl⟩) hi hz0 hz1 hz2 rfl (by decide) _ (l1.length + s.size) (l1.map bv ++ s.data.toList.map bv) rfl ?own _ 1 ([0].map bv) rfl (lenOf_slice _ _ _) rfl ?c1 ?c2 (bv_one _) ?b1 ?b2 (Nat.zero_le _) ?grow)
      case own => exact World.ownsRow.alloc (own_split h2.out.1.own) _
      case c1 =>
        have z := zero_new (P := Try.prog) (w2.setCell ⟨b, 0, none⟩ (.slice a (l1.length + s.size) c))
        rw [World.size_setCell] at z
        exact z
      case c2 =>
        have z := zero_new (P := Try.prog) (w2.setCell ⟨b, 0, none⟩ (.slice a (l1.length + s.size) c)).drew
        rw [show (w2.setCell ⟨b, 0, none⟩ (.slice a (l1.length + s.size) c)).drew.heap.size = w2.heap.size from World.size_setCell _ _ _] at z
        exact z
      case b1 => unfold maxLen; omega
      case b2 => omega
      case grow =>
        intro v' w4 hown hg hv
        obtain ⟨a4, c4, rfl⟩ := slice_of_own hown
        have hb4 := lt_of_block h2.out.1.here
        have hk4 : w4.heap[b]? = some (.cells #[.slice a (l1.length + s.size) c] 60 (0, 0)) := by
          rw [hg.block b (by show b < (Array.push _ _).size; rw [Array.size_push]; omega) (fun e => h2.out.1.apart e.symm), Below.heap_alloc _ _ _ hb4]; exact h2.out.1.here
        have hc4 := cell_of_one hk4
        have hf4 := free_of_one hk4
        clear hc2 hf2
        have Ho4 := Lib.hid hown
        have Hg4 := Lib.hid hg
        have Hk4 := Lib.hid hk4
        have Hv4 := Lib.hid hv
        clear hown hg hk4 hv
        go_wp2
        go_end0
        refine ⟨rfl, Wrote.trans hf1 Hv.out (Wrote.trans h2.out.2.1 h2.out.2.2 ?_)⟩
        rw [show l ++ txt s.data.toList = l1 ++ s.data.toList ++ [0] by rw [Hl1.out]; exact txt_odd l s hodd]
        exact wrote_of_split h2.out.1 Hk4.out Ho4.out Hg4.out (by rw [World.size_setCell]; exact Hv4.out)
    · have h21 : ((s.size : Int) % 2 == 1) = false := by simp; omega
      go_wp2
      go_end0
      refine ⟨rfl, Wrote.trans hf1 Hv.out ?_⟩
      rw [show l ++ txt s.data.toList = l1 ++ s.data.toList by rw [Hl1.out]; exact txt_even l s hodd]
      exact ⟨_, h2.out⟩
end
end Go.Proofs.Ytjegdbkkojaacaa
