/-
  What the calls of the Writer do: Word, Long, Quad, Text, Len, Bytes.
-/
import Derived.Test.YtmpnomngnfffbaaMade
namespace Go.Proofs.Ytmpnomngnfffbaa
open Go.RowKit

/-- Block b is a Writer whose bytes are l, in the slice v that it owns alone. -/
structure Wr (w : World) (b : Nat) (v : Value) (l : List UInt8) : Prop where
  here : w.heap[b]? = some (.cells #[v] 40 (0, 0))
  own : Own w v l
  apart : v.ownBlock ≠ some b

/-- What a call of the Writer leaves. -/
def Wrote (b : Nat) (v : Value) (l : List UInt8) (w : World) (w' : World) : Prop :=
  ∃ v', Wr w' b v' l ∧ Fr (fun k => k = b ∨ v.ownBlock = some k) w w' ∧ (v'.ownBlock = v.ownBlock ∨ ∀ k, v'.ownBlock = some k → w.heap.size ≤ k)

theorem wrote_of {b : Nat} {v : Value} {l m : List UInt8} {w w1 : World} {o : Obj} {a : Option Addr} {c k : Nat} (h : Wr w b v l) (hk : w1.heap[b]? = some (.cells #[v] 40 (0, 0)))
    (hown : w1.ownsRow 0 5 1 (.slice a (l.length + k) c) (l.length + k) (l.map bv ++ m.map bv)) (hg : (w.alloc o).grownBy w1 v.ownBlock)
    (hv : (Value.slice a (l.length + k) c).ownBlock = v.ownBlock ∨ (Value.slice a (l.length + k) c).ownBlock = some (w.heap.size + 1)) :
    Wrote b v (l ++ m) w (w1.setCell ⟨b, 0, none⟩ (.slice a (l.length + k) c)) := by
  have hb := lt_of_block h.here
  have hm : k = m.length := by have := hown.1; simp at this; omega
  have hfr : Fr (fun k => k = b ∨ v.ownBlock = some k) w w1 := ((Fr.refl _ _).alloc o).trans (Fr.of_grown hg) (fun i _ e => .inr e.symm)
  have hne : (Value.slice a (l.length + k) c).ownBlock ≠ some b := by
    rcases hv with e | e
    · rw [e]; exact h.apart
    · rw [e]; intro e; simp at e; omega
  refine ⟨_, ⟨one_setCell hk, ?_, hne⟩, hfr.setCell (fun _ => .inl rfl) _, ?_⟩
  · have := ownsRow_setCell_other hown (a := ⟨b, 0, none⟩) hne (.slice a (l.length + k) c)
    unfold Own
    rw [List.length_append, List.map_append, ← hm]
    exact this
  · rcases hv with e | e
    · exact .inl e
    · right; intro k hk; rw [e] at hk; simp at hk; omega

theorem wrote_of' {b : Nat} {v : Value} {l m : List UInt8} {w w1 : World} {a : Option Addr} {c k : Nat} (h : Wr w b v l) (hk : w1.heap[b]? = some (.cells #[v] 40 (0, 0)))
    (hown : w1.ownsRow 0 5 1 (.slice a (l.length + k) c) (l.length + k) (l.map bv ++ m.map bv)) (hg : w.grownBy w1 v.ownBlock)
    (hv : (Value.slice a (l.length + k) c).ownBlock = v.ownBlock ∨ (Value.slice a (l.length + k) c).ownBlock = some w.heap.size) :
    Wr (w1.setCell ⟨b, 0, none⟩ (.slice a (l.length + k) c)) b (.slice a (l.length + k) c) (l ++ m) ∧ Fr (fun k => k = b ∨ v.ownBlock = some k) w (w1.setCell ⟨b, 0, none⟩ (.slice a (l.length + k) c)) ∧
      ((Value.slice a (l.length + k) c).ownBlock = v.ownBlock ∨ ∀ j, (Value.slice a (l.length + k) c).ownBlock = some j → w.heap.size ≤ j) := by
  have hb := lt_of_block h.here
  have hm : k = m.length := by have := hown.1; simp at this; omega
  have hfr : Fr (fun k => k = b ∨ v.ownBlock = some k) w w1 := (Fr.refl _ _).trans (Fr.of_grown hg) (fun i _ e => .inr e.symm)
  have hne : (Value.slice a (l.length + k) c).ownBlock ≠ some b := by
    rcases hv with e | e
    · rw [e]; exact h.apart
    · rw [e]; intro e; simp at e; omega
  refine ⟨⟨one_setCell hk, ?_, hne⟩, hfr.setCell (fun _ => .inl rfl) _, ?_⟩
  · have := ownsRow_setCell_other hown (a := ⟨b, 0, none⟩) hne (.slice a (l.length + k) c)
    unfold Own
    rw [List.length_append, List.map_append, ← hm]
    exact this
  · rcases hv with e | e
    · exact .inl e
    · right; intro k hk; rw [e] at hk; simp at hk; omega

/-- The list of bytes in two parts: what is owned, said of each part. -/
theorem own_split {w : World} {v : Value} {l : List UInt8} {s : ByteArray} (h : Own w v (l ++ s.data.toList)) : w.ownsRow 0 5 1 v (l.length + s.size) (l.map bv ++ s.data.toList.map bv) := by
  unfold Own at h
  rw [List.length_append, List.map_append] at h
  exact h

set_option maxHeartbeats 400000 in
theorem word_any (b : Nat) (v : Value) (l : List UInt8) (n : Int) (h0 : 0 ≤ n) (h1 : n ≤ 65535) (w : World) (h : Wr w b v l) (hl : l.length ≤ 1000000000) :
    Calls Try.prog 25 #[.pointer (some ⟨b, 0, none⟩), .int .u16 n] w fun e w' => e = .returned (.tuple #[]) ∧ Wrote b v (l ++ be2 n.toNat) w w' := by
  obtain ⟨i0, hi, hz0, hz1, hz2⟩ := info_parts Try.infoU8
  have hc := cell_of_one h.here
  have hf := free_of_one h.here
  go_enter Try.func25, Try.ntmps25
  go_wp2_with (at_builtin; refine wpList_append_sep rfl (.tmp 10) (.tmp 16) 23 23 rfl 0 5 i0 (.int .u8 0) 1 1 Try.underlying23 _ Try.underlying23 (.inr ⟨_, rfl⟩) hi hz0 hz1 hz2 rfl (by decide) v l.length (l.map bv) rfl ?own _ 2 ((be2 n.toNat).map bv) rfl (lenOf_slice _ _ _) rfl ?c1 ?c2 (bv_one _) ?b1 ?b2 (Nat.zero_le _) ?grow)
  case own => exact World.ownsRow.alloc h.own _
  case c1 => exact be2_new h0 h1 w
  case c2 => exact be2_new h0 h1 w.drew
  case b1 => unfold maxLen; omega
  case b2 => omega
  case grow =>
    intro v' w1 hown hg hv
    obtain ⟨a, c, rfl⟩ := slice_of_own hown
    have hb := lt_of_block h.here
    have hk : w1.heap[b]? = some (.cells #[v] 40 (0, 0)) := by
      rw [hg.block b (by show b < (w.heap.push _).size; simp; omega) (fun e => h.apart e.symm), Below.heap_alloc _ _ _ hb]; exact h.here
    have hc1 := cell_of_one hk
    have hf1 := free_of_one hk
    clear hc hf
    have Hk := Lib.hid hk; clear hk
    have Hv := Lib.hid hv; clear hv
    have Hg := Lib.hid hg; clear hg
    have Ho := Lib.hid hown; clear hown
    go_wp2
    go_end0
    exact ⟨rfl, wrote_of h Hk.out Ho.out Hg.out Hv.out⟩
theorem Wrote.size {b : Nat} {v : Value} {l : List UInt8} {w w' : World} (h : Wrote b v l w w') : w.heap.size ≤ w'.heap.size := by
  obtain ⟨_, _, hf, _⟩ := h; exact hf.size

theorem Wrote.trans {b : Nat} {v v1 : Value} {l2 : List UInt8} {w w1 w2 : World} (hf : Fr (fun k => k = b ∨ v.ownBlock = some k) w w1) (hv : v1.ownBlock = v.ownBlock ∨ ∀ k, v1.ownBlock = some k → w.heap.size ≤ k)
    (h2 : Wrote b v1 l2 w1 w2) : Wrote b v l2 w w2 := by
  obtain ⟨v2, hw2, hf2, hv2⟩ := h2
  refine ⟨v2, hw2, hf.trans hf2 ?_, ?_⟩
  · rintro i hi (rfl | e)
    · exact .inl rfl
    · rcases hv with e1 | e1
      · exact .inr (e1 ▸ e)
      · have := e1 i e; omega
  · rcases hv2 with e2 | e2
    · rcases hv with e1 | e1
      · exact .inl (e2.trans e1)
      · right; intro k hk; exact e1 k (e2 ▸ hk)
    · right; intro k hk; have := e2 k hk; have := hf.size; omega

/-- A Writer that is nil does nothing. -/
theorem word_nil (n : Int) (w : World) : Calls Try.prog 25 #[.pointer none, .int .u16 n] w fun e w' => e = .returned (.tuple #[]) ∧ w' = w := by
  go_enter Try.func25, Try.ntmps25
  go_wp2
  go_returns
  exact ⟨rfl, rfl⟩
theorem text_nil (s : ByteArray) (w : World) : Calls Try.prog 37 #[.pointer none, .string s] w fun e w' => e = .returned (.tuple #[]) ∧ w' = w := by
  go_enter Try.func37, Try.ntmps37
  go_wp2
  go_returns
  exact ⟨rfl, rfl⟩
theorem bytes_nil (w : World) : Calls Try.prog 12 #[.pointer none] w fun e w' => e = .returned (.slice none 0 0) ∧ w' = w := by
  go_enter Try.func12, Try.ntmps12
  go_wp2
  go_ret
  exact ⟨rfl, rfl⟩

/-- The bytes of a text as a Writer lays them. -/
def txt (s : List UInt8) : List UInt8 := be2 s.length ++ s ++ (if s.length % 2 = 1 then [0] else [])

theorem bv_length (s : ByteArray) : (s.data.toList.map bv).length = s.size * 1 := by
  rw [List.length_map, Nat.mul_one]; rfl

theorem txt_even (l : List UInt8) (s : ByteArray) (h : ¬ s.size % 2 = 1) : l ++ txt s.data.toList = l ++ be2 (s.size : Int).toNat ++ s.data.toList := by
  unfold txt
  have e : s.data.toList.length = s.size := rfl
  rw [e, if_neg h, List.append_nil, Int.toNat_natCast]
  simp only [List.append_assoc]
theorem txt_odd (l : List UInt8) (s : ByteArray) (h : s.size % 2 = 1) : l ++ txt s.data.toList = l ++ be2 (s.size : Int).toNat ++ s.data.toList ++ [0] := by
  unfold txt
  have e : s.data.toList.length = s.size := rfl
  rw [e, if_pos h, Int.toNat_natCast]
  simp only [List.append_assoc]

theorem wrote_of_split {b : Nat} {v : Value} {l : List UInt8} {s : ByteArray} {w w1 : World} {o : Obj} {a : Option Addr} {c k : Nat} (h : Wr w b v (l ++ s.data.toList)) (hk : w1.heap[b]? = some (.cells #[v] 40 (0, 0)))
    (hown : w1.ownsRow 0 5 1 (.slice a (l.length + s.size + k) c) (l.length + s.size + k) (l.map bv ++ (s.data.toList.map bv ++ [bv 0]))) (hg : (w.alloc o).grownBy w1 v.ownBlock)
    (hv : (Value.slice a (l.length + s.size + k) c).ownBlock = v.ownBlock ∨ (Value.slice a (l.length + s.size + k) c).ownBlock = some (w.heap.size + 1)) :
    Wrote b v (l ++ s.data.toList ++ [0]) w (w1.setCell ⟨b, 0, none⟩ (.slice a (l.length + s.size + k) c)) := by
  have e : (l ++ s.data.toList).length = l.length + s.size := by rw [List.length_append]; rfl
  rw [← e] at hown hv ⊢
  have hown' : w1.ownsRow 0 5 1 (.slice a ((l ++ s.data.toList).length + k) c) ((l ++ s.data.toList).length + k) ((l ++ s.data.toList).map bv ++ [(0 : UInt8)].map bv) := by
    rw [List.map_append, List.append_assoc]; exact hown
  exact wrote_of h hk hown' hg hv

set_option maxHeartbeats 1000000 in
theorem text_any (b : Nat) (v : Value) (l : List UInt8) (s : ByteArray) (hs : s.size ≤ 65535) (w : World) (h : Wr w b v l) (hl : l.length ≤ 900000000) :
    Calls Try.prog 37 #[.pointer (some ⟨b, 0, none⟩), .string s] w fun e w' => e = .returned (.tuple #[]) ∧ Wrote b v (l ++ txt s.data.toList) w w' := by
  obtain ⟨i0, hi, hz0, hz1, hz2⟩ := info_parts Try.infoU8
  have hcond : decide ((65535 : Int) < (s.size : Int)) = false := by simp; omega
  have hwr : IntKind.u16.wrap (s.size : Int) = (s.size : Int) := by rw [IntKind.wrap_u16]; omega
  go_enter Try.func37, Try.ntmps37
  go_wp2_with fail
  refine (word_any b v l _ (by omega) (by omega) _ h (by omega)).mono ?_
  rintro e w1 ⟨rfl, v1, hw1, hf1, hv1⟩
  have Hv := Lib.hid hv1; clear hv1
  obtain ⟨l1, hl1⟩ : ∃ l1, l1 = l ++ be2 (s.size : Int).toNat := ⟨_, rfl⟩
  have hlen1 : l1.length ≤ 900000002 := by rw [hl1, List.length_append, be2_length]; omega
  rw [← hl1] at hw1
  have Hl1 := Lib.hid hl1; clear hl1
  have hc := cell_of_one hw1.here
  have hf := free_of_one hw1.here
  go_wp2_with (at_builtin; refine wpList_append_sep rfl (.tmp 20) (.tmp 21) 23 9 rfl 0 5 i0 (.int .u8 0) 1 1 Try.underlying23 _ Try.underlying9 (.inl rfl) hi hz0 hz1 hz2 rfl (by decide) v1 _ _ rfl hw1.own _ s.size (s.data.toList.map bv) rfl (lenOf_string _) (bv_length s) (string_first _ _) (string_first _ _) (bv_one _) ?b1 ?b2 (Nat.zero_le _) ?grow)
  case b1 => unfold maxLen; omega
  case b2 => omega
  case grow =>
    intro v' w2 hown hg hv
    obtain ⟨a, c, rfl⟩ := slice_of_own hown
    have hb := lt_of_block hw1.here
    have hk : w2.heap[b]? = some (.cells #[v1] 40 (0, 0)) := by
      rw [hg.block b hb (fun e => hw1.apart e.symm)]; exact hw1.here
    have hc2 := cell_of_one hk
    have hf2 := free_of_one hk
    clear hc hf
    have h2 := Lib.hid (wrote_of' hw1 hk hown hg hv)
    have Hg := Lib.hid hg
    have Ho := Lib.hid hown
    have Hk := Lib.hid hk
    have Hvv := Lib.hid hv
    clear hk hown hg hv
    by_cases hodd : s.size % 2 = 1
    · have h21 : ((s.size : Int) % 2 == 1) = true := by simp; omega
      go_wp2_with (at_builtin; refine wpList_append_sep rfl (.tmp 33) (.tmp 34) 23 23 rfl 0 5 i0 (.int .u8 0) 1 1 Try.underlying23 _ Try.underlying23 (.inr ⟨_, rfl⟩) hi hz0 hz1 hz2 rfl (by decide) _ (l1.length + s.size) (l1.map bv ++ s.data.toList.map bv) rfl ?own _ 1 ([0].map bv) rfl (lenOf_slice _ _ _) rfl ?c1 ?c2 (bv_one _) ?b1 ?b2 (Nat.zero_le _) ?grow)
      case own => exact World.ownsRow.alloc (own_split h2.out.1.own) _
      case c1 =>
        have z := zero_new (P := Try.prog) (w2.setCell ⟨b, 0, none⟩ (.slice a (l1.length + s.size) c))
        rw [World.size_setCell] at z
        exact z
      case c2 =>
        have z := zero_new (P := Try.prog) (w2.setCell ⟨b, 0, none⟩ (.slice a (l1.length + s.size) c)).drew
        rw [show (w2.setCell ⟨b, 0, none⟩ (.slice a (l1.length + s.size) c)).drew.heap.size = w2.heap.size from World.size_setCell _ _ _] at z
        exact z
      case b1 => unfold maxLen; omega
      case b2 => omega
      case grow =>
        intro v' w4 hown hg hv
        obtain ⟨a4, c4, rfl⟩ := slice_of_own hown
        have hb4 := lt_of_block h2.out.1.here
        have hk4 : w4.heap[b]? = some (.cells #[.slice a (l1.length + s.size) c] 40 (0, 0)) := by
          rw [hg.block b (by show b < (Array.push _ _).size; rw [Array.size_push]; omega) (fun e => h2.out.1.apart e.symm), Below.heap_alloc _ _ _ hb4]; exact h2.out.1.here
        have hc4 := cell_of_one hk4
        have hf4 := free_of_one hk4
        clear hc2 hf2
        have Ho4 := Lib.hid hown
        have Hg4 := Lib.hid hg
        have Hk4 := Lib.hid hk4
        have Hv4 := Lib.hid hv
        clear hown hg hk4 hv
        go_wp2
        go_end0
        refine ⟨rfl, Wrote.trans hf1 Hv.out (Wrote.trans h2.out.2.1 h2.out.2.2 ?_)⟩
        rw [show l ++ txt s.data.toList = l1 ++ s.data.toList ++ [0] by rw [Hl1.out]; exact txt_odd l s hodd]
        exact wrote_of_split h2.out.1 Hk4.out Ho4.out Hg4.out (by rw [World.size_setCell]; exact Hv4.out)
    · have h21 : ((s.size : Int) % 2 == 1) = false := by simp; omega
      go_wp2
      go_end0
      refine ⟨rfl, Wrote.trans hf1 Hv.out ?_⟩
      rw [show l ++ txt s.data.toList = l1 ++ s.data.toList by rw [Hl1.out]; exact txt_even l s hodd]
      exact ⟨_, h2.out⟩

end Go.Proofs.Ytmpnomngnfffbaa
