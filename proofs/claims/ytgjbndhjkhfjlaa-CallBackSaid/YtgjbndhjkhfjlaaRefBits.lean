/-
  Rows of bits: what the document's answer for a checksum keeps; append of zeros, 'append(l, make([]byte, n)...)', onto a row that is owned alone.
-/
import Derived.Test.YtgjbndhjkhfjlaaCrcPut
import Derived.Test.YtgjbndhjkhfjlaaCrcMixes
import Derived.Test.YtgjbndhjkhfjlaaCrcDiv
namespace Go.Proofs.Ytgjbndhjkhfjlaa
open Go.RowKit

set_option maxHeartbeats 1000000 in
/-- Append of k zero values onto a slice that is owned alone. -/
theorem run_append_zeros {P : Program} (w : World) (base : Nat) (t tn ty e : TypeId) (i : TypeInfo) (z : Value) (size bytes k : Nat) (kq kn : IntKind) (ht : P.underlying t = some (.slice e)) (htn : P.underlying tn = some (.int kn))
    (hi : P.info? e = some i) (hz : i.zero = some z)
    (hsize : i.size = size) (hby : i.bytes = bytes) (hzs : z.cells.size = size) (hsz : 0 < size) (hone : ∀ u ∈ (Builtin.zeroCells z.cells k).toList, u.oneCell' = true)
    (v : Value) (n : Nat) (xs : List Value) (hown : w.ownsRow base e size v n xs) (h0 : 0 < k)
    (h63 : n + k ≤ maxLen) (hbytes : (n + k) * bytes ≤ 140737488355328) (hbase : base ≤ w.heap.size) :
    ∃ v' w', (Builtin.append_ #[t, tn] ty #[v, .int kq (k : Nat)]).run P w = .ok v' w' ∧ w'.ownsRow base e size v' (n + k) (xs ++ (Builtin.zeroCells z.cells k).toList) ∧ w.grownBy w' v.ownBlock ∧
      (v'.ownBlock = v.ownBlock ∨ v'.ownBlock = some w.heap.size) := by
  subst hsize
  subst hby
  have hsmall : n + k ≤ 9223372036854775807 := by simp only [maxLen] at h63; omega
  have hzl : (Builtin.zeroCells z.cells k).toList.length = k * i.size := by rw [Array.length_toList, size_zeroCells, hzs]
  have hlen2 : (xs ++ (Builtin.zeroCells z.cells k).toList).length = (n + k) * i.size := by rw [List.length_append, hown.1, hzl, Nat.add_mul]
  have hkb : k * i.bytes ≤ 281474976710656 := by
    have : k * i.bytes ≤ (n + k) * i.bytes := Nat.mul_le_mul_right _ (by omega)
    omega
  have grown : ∀ (old : Nat), old < n + k → ∀ (row : Option Nat),
      (w.drew.alloc (.cells (xs.toArray ++ Builtin.zeroCells z.cells k ++ Builtin.zeroCells z.cells (grownCap w (n + k) old e - (n + k))) e)).ownsRow base e i.size
        (.slice (some ⟨w.heap.size, 0, none⟩) (n + k) (grownCap w (n + k) old e)) (n + k) (xs ++ (Builtin.zeroCells z.cells k).toList) ∧
      w.grownBy (w.drew.alloc (.cells (xs.toArray ++ Builtin.zeroCells z.cells k ++ Builtin.zeroCells z.cells (grownCap w (n + k) old e - (n + k))) e)) row := by
    intro old ho row
    have hge := grownCap_ge w (n + k) old e
    have hcm : grownCap w (n + k) old e ≤ maxLen := grownCap_le_maxLen w (n + k) old e h63
    refine ⟨⟨hlen2, .inr ⟨w.heap.size, _, _, rfl, hbase, heap_alloc_new w.drew _, hge, hcm, ?_, ?_⟩⟩, ⟨rfl, rfl, rfl, by simp, fun j hj _ => Below.heap_alloc w.drew _ j hj⟩⟩
    · simp only [Array.size_append, List.size_toArray, size_zeroCells, hzs, hown.1, ← Nat.add_mul]
      congr 1
      omega
    · simp only [Array.toList_append, List.append_assoc]
      rw [← List.append_assoc, ← hlen2]
      exact List.take_left
  rcases hown.2 with ⟨rfl, rfl⟩ | ⟨g, cap, cur, rfl, hbg, hg, hnc, hcm, hcs, htake⟩
  · have hx : xs = [] := List.eq_nil_of_length_eq_zero (by simpa using hown.1)
    subst hx
    have hgr := grown 0 (by omega) (Value.ownBlock (.slice none 0 0))
    simp only [Nat.zero_add, List.nil_append, Array.empty_append] at hgr ⊢
    exact ⟨_, _, Lib.run_append_nil_zeros w t tn ty e i z kq kn ht htn hi hz k h0 hsz (by omega) hkb, hgr.1, hgr.2, .inr rfl⟩
  · by_cases hroom : n + k ≤ cap
    · have hfit : n * i.size + (Builtin.zeroCells z.cells k).toList.length ≤ cur.size := by rw [hzl, hcs, ← Nat.add_mul]; exact Nat.mul_le_mul_right _ hroom
      have hst := run_storeCells_at P g (n * i.size) e (Builtin.zeroCells z.cells k).toList 0 cur w hg (by simpa using hfit) hone
      simp only [Nat.add_zero] at hst
      have hw : IntKind.i64.wrap (k : Int) = k := by rw [IntKind.wrap_i64]; omega
      have hneg : ¬ ((k : Int) < 0) := by omega
      have h48i : ¬ (281474976710656 < (k : Int) * (i.bytes : Int)) := by rw [← Int.natCast_mul]; omega
      have hns : ¬ (k * i.size = 0) := Nat.mul_ne_zero (by omega) (by omega)
      refine ⟨.slice (some ⟨g, 0, none⟩) (n + k) cap, w.setRow g (cur.toList.take (n * i.size) ++ (Builtin.zeroCells z.cells k).toList ++ cur.toList.drop (n * i.size + (Builtin.zeroCells z.cells k).toList.length)).toArray, ?_, ⟨hlen2, .inr ⟨g, cap, _, rfl, hbg, setRow_heap w g cur _ e _ hg, hroom, hcm, ?_, ?_⟩⟩, ⟨rfl, rfl, rfl, by simp, fun j _ hj => setRow_other w g j _ (fun e => hj (by simp [Value.ownBlock, e]))⟩, .inl rfl⟩
      · simp [Builtin.append_, run_underlying ht, run_underlying htn, sizeOf, typeInfo, zeroValue, hi, hz, asInt, asIntOf, hw, hneg, h48i, hns, hroom, Addr.add_lit, hst]
      · simp only [List.size_toArray, List.length_append, List.length_take, List.length_drop, Array.length_toList]
        have := hfit
        simp only [Array.length_toList] at this
        omega
      · rw [htake, ← hlen2]
        exact List.take_left
    · have holds : ∀ j u, xs[j]? = some u → w.cell? ((⟨g, 0, none⟩ : Addr).add j) = some u := hown.cells (g := g) rfl
      have hfo := run_firstCells_some (P := P) w.drew i.size n ⟨g, 0, none⟩ n cap xs hown.1 (by simpa using holds)
      have hgr := grown cap (by omega) (Value.ownBlock (.slice (some ⟨g, 0, none⟩) n cap))
      refine ⟨_, _, Lib.run_append_grow_zeros w t tn ty e i z kq kn ht htn hi hz (some ⟨g, 0, none⟩) n cap xs hfo k h0 hsz (by omega) (by omega) hkb (growslice_fits (by omega) hbytes), hgr.1, hgr.2, .inr rfl⟩

def bitv (b : Bool) : Value := .int .u8 (if b then 1 else 0)
/-- The slice u owns a row of bits alone. -/
def RowB (w : World) (u : Value) (ms : List Bool) : Prop := w.ownsRow 0 5 1 u ms.length (ms.map bitv)

theorem bitv_one (ms : List Bool) : ∀ u ∈ ms.map bitv, u.oneCell' = true := by
  intro u hu
  obtain ⟨c, _, rfl⟩ := List.mem_map.1 hu
  rfl

theorem zeros_bits (k : Nat) : (Builtin.zeroCells (Value.int .u8 0).cells k).toList = (List.replicate k false).map bitv := by
  have h : Builtin.zeroCells (Value.int .u8 0).cells k = (List.replicate k (Value.int .u8 0)).toArray := by
    unfold Builtin.zeroCells
    show (Array.range (k * 1)).map _ = _
    rw [Nat.mul_one]
    apply Array.ext'
    rw [Array.toList_map, Array.toList_range]
    apply List.ext_getElem
    · simp
    · intro j h1 h2
      simp [Value.cells, Nat.mod_one]
  rw [h, List.map_replicate]
  rfl

/-- A row of n bits, told by a function. -/
def rowOf (n : Nat) (F : Nat → Bool) : List Bool := (List.range n).map F

theorem rowOf_length (n : Nat) (F : Nat → Bool) : (rowOf n F).length = n := by simp [rowOf]

theorem rowOf_of (ms : List Bool) (k : Nat) : ms ++ List.replicate k false = rowOf (ms.length + k) fun x => ms.getD x false := by
  apply List.ext_getElem
  · simp [rowOf]
  · intro j h1 h2
    simp only [rowOf, List.getElem_map, List.getElem_range]
    by_cases h : j < ms.length
    · rw [List.getElem_append_left h]
      simp [List.getD, h]
    · rw [List.getElem_append_right (by omega)]
      simp [List.getD, h]

theorem rowOf_flip (n : Nat) (F : Nat → Bool) (i : Nat) : (rowOf n F).set i (!F i) = rowOf n fun x => F x ^^ decide (x = i) := by
  apply List.ext_getElem
  · simp [rowOf]
  · intro j h1 h2
    rw [List.getElem_set]
    simp only [rowOf, List.getElem_map, List.getElem_range]
    by_cases h : i = j
    · subst h; simp
    · rw [if_neg h, decide_eq_false (fun e => h e.symm)]; simp

theorem rowb_at {w : World} {g n c N : Nat} {F : Nat → Bool} (h : RowB w (.slice (some ⟨g, 0, none⟩) n c) (rowOf N F)) (k : Nat) (hk : k < N) : w.cell? ⟨g, k, none⟩ = some (bitv (F k)) := by
  have hc := World.ownsRow.cells (g := g) h rfl k (bitv (F k)) (by simp [rowOf, hk])
  have hplain : (⟨g, 0, none⟩ : Addr).add k = ⟨g, k, none⟩ := by unfold Addr.add; split <;> simp_all
  rwa [hplain] at hc

theorem rowb_len {w : World} {g n c : Nat} {ms : List Bool} (h : RowB w (.slice (some ⟨g, 0, none⟩) n c) ms) : n = ms.length := by
  rcases h.2 with ⟨e, _⟩ | ⟨g', cap', cur, h', _⟩
  · simp at e
  · simp at h'; exact h'.2.1

theorem rowb_frozen {w : World} {g n c : Nat} {ms : List Bool} (h : RowB w (.slice (some ⟨g, 0, none⟩) n c) ms) (k : Nat) : w.frozen? ⟨g, k, none⟩ = false := by
  obtain rfl := rowb_len h
  exact World.ownsRow.frozenAt h k

theorem rowb_flip {w : World} {g n c N : Nat} {F : Nat → Bool} (h : RowB w (.slice (some ⟨g, 0, none⟩) n c) (rowOf N F)) (i : Nat) : RowB (w.setCell ⟨g, i, none⟩ (bitv (!F i))) (.slice (some ⟨g, 0, none⟩) n c) (rowOf N fun x => F x ^^ decide (x = i)) := by
  obtain rfl := rowb_len h
  have := (World.ownsRow.stored h i (bitv (!F i))).1
  unfold RowB
  rw [← rowOf_flip, List.length_set, List.map_set]
  exact this

theorem not_bitv (b : Bool) : Value.int .u8 (1 - (if b then (1 : Int) else 0)) = bitv (!b) := by cases b <;> rfl

end Go.Proofs.Ytgjbndhjkhfjlaa
