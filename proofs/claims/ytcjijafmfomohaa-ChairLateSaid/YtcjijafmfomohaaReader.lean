/-
  What the calls of the Reader do: Clone, Bytes, Read, Err, Left, End, Fail, Word, Long, Quad, Within, Text.
-/
import Derived.Test.YtcjijafmfomohaaWriter
namespace Go.Proofs.Ytcjijafmfomohaa
open Go.RowKit

theorem cell_of_two {w : World} {b : Nat} {v u : Value} {t : TypeId} (h : w.heap[b]? = some (.cells #[v, u] t (0, 0))) : w.cell? ⟨b, 0, none⟩ = some v ∧ w.cell? ⟨b, 1, none⟩ = some u ∧ w.frozen? ⟨b, 0, none⟩ = false ∧ w.frozen? ⟨b, 1, none⟩ = false := by
  simp [World.cell?, World.frozen?, h]

theorem two_setCell0 {w : World} {b : Nat} {v u : Value} {t : TypeId} (h : w.heap[b]? = some (.cells #[v, u] t (0, 0))) (x : Value) : (w.setCell ⟨b, 0, none⟩ x).heap[b]? = some (.cells #[x, u] t (0, 0)) := by
  rw [heap_setCell_same w b 0 _ t x h]; rfl
theorem two_setCell1 {w : World} {b : Nat} {v u : Value} {t : TypeId} (h : w.heap[b]? = some (.cells #[v, u] t (0, 0))) (x : Value) : (w.setCell ⟨b, 1, none⟩ x).heap[b]? = some (.cells #[v, x] t (0, 0)) := by
  rw [heap_setCell_same w b 1 _ t x h]; rfl

set_option maxHeartbeats 400000 in
theorem clone_any (v : Value) (l : List UInt8) (w : World) (h : Sees w v l) (hl : l.length ≤ 2000000000) :
    Calls Try.prog 27 #[v] w fun e w' => ∃ v', e = .returned v' ∧ Own w' v' l ∧ Fr (fun _ => False) w w' ∧ (∀ k, v'.ownBlock = some k → w.heap.size ≤ k) := by
  obtain ⟨i0, hi, hz0, hz1, hz2⟩ := info_parts Try.infoU8
  obtain ⟨a, c, rfl, hn⟩ := h.shape
  have q1 : ∀ (w : World) (a : Option Addr) (n c : Nat), (binOp .eql 23 (.slice a n c) (.slice none 0 0)).run Try.prog w = .ok (.bool a.isNone) w := fun w a n c => Lib.run_eql_slice_nil w _ _ a n c 0 0 Try.underlying23
  cases a with
  | none =>
    have hl := hn rfl
    subst hl
    go_enter Try.func27, Try.ntmps27
    go_wp2
    go_ret
    exact ⟨_, rfl, World.ownsRow_nil _ _ _ _, Fr.refl _ _, fun k hk => by cases hk⟩
  | some a =>
    have Hn := Lib.hid hn; clear hn
    go_enter Try.func27, Try.ntmps27
    go_wp2_with (at_builtin; refine wpList_append_sep rfl (.tmp 5) (.tmp 6) 23 23 rfl 0 5 i0 (.int .u8 0) 1 1 Try.underlying23 _ Try.underlying23 (.inr ⟨_, rfl⟩) hi hz0 hz1 hz2 rfl (by decide) (.slice (some ⟨w.heap.size, 0, none⟩) 0 0) 0 [] rfl ?own _ l.length (l.map bv) rfl (lenOf_slice _ _ _) (by simp) ?c1 ?c2 (bv_one _) ?b1 ?b2 (Nat.zero_le _) ?grow)
    case own => exact World.ownsRow_made w #[] 0 (Nat.zero_le _) (by unfold maxLen; omega) rfl
    case c1 => exact (h.fr ((Fr.refl (fun _ => False) w).alloc _) (fun _ _ h => h)).first
    case c2 => exact (h.fr ((Fr.refl (fun _ => False) w).alloc _) (fun _ _ h => h)).drew.first
    case b1 => unfold maxLen; omega
    case b2 => omega
    case grow =>
      intro v' w1 hown hg hv
      have Ho := Lib.hid hown
      have Hg := Lib.hid hg
      have Hv := Lib.hid hv
      clear hown hg hv
      go_wp2
      go_ret
      refine ⟨v', rfl, Ho.out, ?_, ?_⟩
      · exact ((Fr.refl _ _).alloc (.cells #[] 5)).trans (Fr.of_grown Hg.out) (fun i hi e => by simp [Value.ownBlock] at e; omega)
      · intro k hk
        rcases Hv.out with e | e
        · rw [e] at hk; simp [Value.ownBlock] at hk; omega
        · rw [e] at hk; simp at hk; omega

/-- Fail, told of the bytes and the error. -/
def failS (st : List UInt8 × Int) (x : Int) : List UInt8 × Int := if x = 0 ∨ st.2 ≠ 0 then st else ([], x)

/-- The next k bytes, told of the bytes and the error. -/
def nextS (st : List UInt8 × Int) (k : Nat) : List UInt8 × (List UInt8 × Int) :=
  if st.1.length < k then ([], failS st 3) else (st.1.take k, (st.1.drop k, st.2))

theorem Sees.take {w : World} {a : Option Addr} {c k : Nat} {l : List UInt8} (h : Sees w (.slice a l.length c) l) (hk : k ≤ l.length) : Sees w (.slice a k c) (l.take k) := by
  rcases h with ⟨rfl, _⟩ | ⟨g, off, cap, e, hle, hc⟩
  · left; simp at hk; subst hk; exact ⟨rfl, _, _, rfl⟩
  · simp at e; obtain ⟨rfl, rfl⟩ := e
    right
    have hl : (l.take k).length = k := by simp; omega
    refine ⟨g, off, _, by rw [hl], by omega, fun j hj => ?_⟩
    rw [hc j (by omega)]
    simp [List.getD, show j < k by omega]

theorem Sees.drop_full {w : World} {a : Option Addr} {k : Nat} {l : List UInt8} (h : Sees w (.slice a l.length k) l) (hk : k ≤ l.length) :
    l.length = k := by
  rcases h with ⟨rfl, _⟩ | ⟨g, off, cap, e, hle, hc⟩
  · simp at hk; simp [hk]
  · simp at e; omega

theorem Sees.drop_part {w : World} {a : Option Addr} {c k : Nat} {l : List UInt8} (h : Sees w (.slice a l.length c) l) (hk : k ≤ l.length) :
    Sees w (.slice (a.map fun x => x.add k) (l.length - k) (c - k)) (l.drop k) := by
  rcases h with ⟨rfl, _⟩ | ⟨g, off, cap, e, hle, hc⟩
  · left; simp at hk; subst hk; exact ⟨by simp, _, _, rfl⟩
  · simp at e; obtain ⟨rfl, rfl⟩ := e
    right
    have hplain : (⟨g, off, none⟩ : Addr).add k = ⟨g, off + k, none⟩ := by unfold Addr.add; split <;> simp_all
    refine ⟨g, off + k, c - k, ?_, by simp; omega, fun j hj => ?_⟩
    · rw [Option.map_some, hplain, List.length_drop]
    · simp at hj
      rw [show off + k + j = off + (k + j) by omega, hc (k + j) (by omega)]
      simp [List.getD]

theorem part_block {a : Option Addr} {n c n' c' k : Nat} : (Value.slice (a.map fun x => x.add k) n c').ownBlock = (Value.slice a n' c).ownBlock := by
  cases a with
  | none => rfl
  | some a =>
    simp only [Option.map_some, Value.ownBlock, Addr.add]
    split <;> rfl

theorem or8 (n c : Nat) (hn : n < 256 ^ 7) (hc : c < 2 ^ 8) : bits .or .u64 ((n : Int) * 256) (c : Int) = ((n * 256 + c : Nat) : Int) := by
  have e : ((n : Int) * 256) = ((n * 256 : Nat) : Int) := by omega
  rw [e, u64_or_nat (n * 256) c (by omega) (by omega)]
  congr 1
  have h := Nat.two_pow_add_eq_or_of_lt (i := 8) (b := c) hc n
  rw [show n * 256 = 2 ^ 8 * n by omega]
  exact h.symm

/-- A number of k bytes. -/
def numS (st : List UInt8 × Int) (k : Nat) : Nat × (List UInt8 × Int) := (beNum (nextS st k).1, (nextS st k).2)

theorem nextS_len (st : List UInt8 × Int) (k : Nat) : (nextS st k).1.length ≤ k := by
  unfold nextS; split
  · simp
  · simp; omega

theorem nextS_full (st : List UInt8 × Int) (k : Nat) : (nextS st k).2.2 = 0 → (nextS st k).1.length = k := by
  unfold nextS
  split
  · unfold failS
    intro h
    exfalso
    split at h
    · rename_i h2; rcases h2 with h2 | h2
      · omega
      · exact h2 h
    · simp at h
  · intro _; simp; omega

theorem numS_small (st : List UInt8 × Int) (k : Nat) : (numS st k).1 < 256 ^ k := beNum_small _ _ (nextS_len st k)

/-- A Word that is at most most. -/
def withinS (st : List UInt8 × Int) (most : Int) : Nat × (List UInt8 × Int) :=
  if most < (numS st 2).1 then (0, failS (numS st 2).2 7) else numS st 2

/-- A text of at most most bytes. -/
def textS (st : List UInt8 × Int) (most : Int) : List UInt8 × (List UInt8 × Int) :=
  let n := withinS st most
  let p := nextS n.2 (n.1 + n.1 % 2)
  if p.2.2 ≠ 0 then ([], p.2) else if n.1 % 2 = 1 ∧ p.1.getD n.1 0 ≠ 0 then ([], failS p.2 4) else (p.1.take n.1, p.2)

theorem withinS_small (st : List UInt8 × Int) (most : Int) : (withinS st most).1 < 65536 := by
  unfold withinS; split
  · simp
  · exact numS_small _ _

end Go.Proofs.Ytcjijafmfomohaa
