/-
  CouBack, part 4 of what it rests on: PMade, PWriter, KindWholeDef.
-/
import Derived.Test.YtplipjijaaejlaaGreatS03
set_option linter.unusedVariables false
set_option linter.unusedSimpArgs false
set_option maxHeartbeats 64000000
namespace Go.Proofs.YtplipjijaaejlaaGreat
open Go.RowKit
open Go.Lib (hid)
section
theorem be2_new {P : Program} {n : Int} (h0 : 0 ≤ n) (h1 : n ≤ 65535) (w : World) : (Builtin.firstCells 1 2 (.slice (some ⟨w.heap.size, 0, none⟩) 2 2)).run P (w.alloc (.cells #[.int .u8 (n / 256), .int .u8 (n % 256)] 5)) =
    .ok ((be2 n.toNat).map bv).toArray (w.alloc (.cells #[.int .u8 (n / 256), .int .u8 (n % 256)] 5)) := by
  rw [first_row (heap_alloc_new w _) 2 2 rfl]
  have e1 := bv_of (n / 256) (by omega) (by omega)
  have e2 := bv_of (n % 256) (by omega) (by omega)
  rw [show (n / 256).toNat = n.toNat / 256 by omega] at e1
  rw [show (n % 256).toNat = n.toNat % 256 by omega] at e2
  simp [be2, e1, e2]

theorem zero_new {P : Program} (w : World) : (Builtin.firstCells 1 1 (.slice (some ⟨w.heap.size, 0, none⟩) 1 1)).run P (w.alloc (.cells #[.int .u8 0] 5)) =
    .ok ([(0 : UInt8)].map bv).toArray (w.alloc (.cells #[.int .u8 0] 5)) := first_row (heap_alloc_new w _) 1 1 rfl

/-- The call made the slice v of the bytes l, anew. -/
def Made (v : Value) (l : List UInt8) (w w' : World) : Prop := Own w' v l ∧ Fr (fun _ => False) w w' ∧ (∀ k, v.ownBlock = some k → w.heap.size ≤ k)

theorem own_new2 {n : Int} (h0 : 0 ≤ n) (h1 : n ≤ 65535) (w : World) : Own (w.alloc (.cells #[.int .u8 (n / 256), .int .u8 (n % 256)] 5)) (.slice (some ⟨w.heap.size, 0, none⟩) 2 2) (be2 n.toNat) := by
  have e1 := bv_of (n / 256) (by omega) (by omega)
  have e2 := bv_of (n % 256) (by omega) (by omega)
  rw [show (n / 256).toNat = n.toNat / 256 by omega] at e1
  rw [show (n % 256).toNat = n.toNat % 256 by omega] at e2
  refine ⟨rfl, .inr ⟨w.heap.size, 2, _, rfl, Nat.zero_le _, heap_alloc_new w _, Nat.le_refl _, by unfold maxLen; omega, rfl, ?_⟩⟩
  simp [be2, e1, e2]

/-- Behind an append of bytes that were made anew to a slice that was made anew. -/
theorem Made.append {v1 v' : Value} {l1 l2 : List UInt8} {n : Nat} {w w1 w2 w3 : World} (h1 : Made v1 l1 w w1) (h2 : Fr (fun _ => False) w1 w2) (hn : n = l1.length + l2.length)
    (ho : w3.ownsRow 0 5 1 v' n (l1.map bv ++ l2.map bv)) (hg : w2.grownBy w3 v1.ownBlock) (hv : v'.ownBlock = v1.ownBlock ∨ v'.ownBlock = some w2.heap.size) : Made v' (l1 ++ l2) w w3 := by
  obtain ⟨o1, f1, k1⟩ := h1
  refine ⟨?_, (f1.trans h2 (fun _ _ h => h)).trans (Fr.of_grown hg) (fun i hi e => by have := k1 i e.symm; omega), ?_⟩
  · unfold Own
    rw [List.length_append, List.map_append, ← hn]
    exact ho
  · intro k hk
    rcases hv with e | e
    · exact k1 k (e ▸ hk)
    · rw [e] at hk; simp at hk; have := f1.size; have := h2.size; omega
end
section
theorem cell_of_pk {w : World} {b : Nat} {v u : Value} {t : TypeId} (h : w.heap[b]? = some (.cells #[v, u] t (0, 0))) : w.cell? ⟨b, 0, none⟩ = some v := by simp [World.cell?, h]
theorem free_of_pk {w : World} {b : Nat} {v u : Value} {t : TypeId} (h : w.heap[b]? = some (.cells #[v, u] t (0, 0))) : w.frozen? ⟨b, 0, none⟩ = false := by simp [World.frozen?, h]
theorem pk_setCell {w : World} {b : Nat} {v u x : Value} {t : TypeId} (h : w.heap[b]? = some (.cells #[v, x] t (0, 0))) : (w.setCell ⟨b, 0, none⟩ u).heap[b]? = some (.cells #[u, x] t (0, 0)) := by
  unfold World.setCell
  simp only [Array.getElem?_modify, if_true, h, Option.map_some]
  simp

/-- Block b is a Writer whose bytes are l, in the slice v that it owns alone. -/
structure PWr (q : Int) (w : World) (b : Nat) (v : Value) (l : List UInt8) : Prop where
  here : w.heap[b]? = some (.cells #[v, .int .i64 q] 81 (0, 0))
  own : Own w v l
  apart : v.ownBlock ≠ some b

/-- What a call of the Writer leaves. -/
def PWrote (q : Int) (b : Nat) (v : Value) (l : List UInt8) (w : World) (w' : World) : Prop :=
  ∃ v', PWr q w' b v' l ∧ Fr (fun k => k = b ∨ v.ownBlock = some k) w w' ∧ (v'.ownBlock = v.ownBlock ∨ ∀ k, v'.ownBlock = some k → w.heap.size ≤ k)

theorem pwrote_of {q : Int} {b : Nat} {v : Value} {l m : List UInt8} {w w1 : World} {o : Obj} {a : Option Addr} {c k : Nat} (h : PWr q w b v l) (hk : w1.heap[b]? = some (.cells #[v, .int .i64 q] 81 (0, 0)))
    (hown : w1.ownsRow 0 5 1 (.slice a (l.length + k) c) (l.length + k) (l.map bv ++ m.map bv)) (hg : (w.alloc o).grownBy w1 v.ownBlock)
    (hv : (Value.slice a (l.length + k) c).ownBlock = v.ownBlock ∨ (Value.slice a (l.length + k) c).ownBlock = some (w.heap.size + 1)) :
    PWrote q b v (l ++ m) w (w1.setCell ⟨b, 0, none⟩ (.slice a (l.length + k) c)) := by
  have hb := lt_of_block h.here
  have hm : k = m.length := by have := hown.1; simp at this; omega
  have hfr : Fr (fun k => k = b ∨ v.ownBlock = some k) w w1 := ((Fr.refl _ _).alloc o).trans (Fr.of_grown hg) (fun i _ e => .inr e.symm)
  have hne : (Value.slice a (l.length + k) c).ownBlock ≠ some b := by
    rcases hv with e | e
    · rw [e]; exact h.apart
    · rw [e]; intro e; simp at e; omega
  refine ⟨_, ⟨pk_setCell hk, ?_, hne⟩, hfr.setCell (fun _ => .inl rfl) _, ?_⟩
  · have := ownsRow_setCell_other hown (a := ⟨b, 0, none⟩) hne (.slice a (l.length + k) c)
    unfold Own
    rw [List.length_append, List.map_append, ← hm]
    exact this
  · rcases hv with e | e
    · exact .inl e
    · right; intro k hk; rw [e] at hk; simp at hk; omega

theorem pwrote_of' {q : Int} {b : Nat} {v : Value} {l m : List UInt8} {w w1 : World} {a : Option Addr} {c k : Nat} (h : PWr q w b v l) (hk : w1.heap[b]? = some (.cells #[v, .int .i64 q] 81 (0, 0)))
    (hown : w1.ownsRow 0 5 1 (.slice a (l.length + k) c) (l.length + k) (l.map bv ++ m.map bv)) (hg : w.grownBy w1 v.ownBlock)
    (hv : (Value.slice a (l.length + k) c).ownBlock = v.ownBlock ∨ (Value.slice a (l.length + k) c).ownBlock = some w.heap.size) :
    PWr q (w1.setCell ⟨b, 0, none⟩ (.slice a (l.length + k) c)) b (.slice a (l.length + k) c) (l ++ m) ∧ Fr (fun k => k = b ∨ v.ownBlock = some k) w (w1.setCell ⟨b, 0, none⟩ (.slice a (l.length + k) c)) ∧
      ((Value.slice a (l.length + k) c).ownBlock = v.ownBlock ∨ ∀ j, (Value.slice a (l.length + k) c).ownBlock = some j → w.heap.size ≤ j) := by
  have hb := lt_of_block h.here
  have hm : k = m.length := by have := hown.1; simp at this; omega
  have hfr : Fr (fun k => k = b ∨ v.ownBlock = some k) w w1 := (Fr.refl _ _).trans (Fr.of_grown hg) (fun i _ e => .inr e.symm)
  have hne : (Value.slice a (l.length + k) c).ownBlock ≠ some b := by
    rcases hv with e | e
    · rw [e]; exact h.apart
    · rw [e]; intro e; simp at e; omega
  refine ⟨⟨pk_setCell hk, ?_, hne⟩, hfr.setCell (fun _ => .inl rfl) _, ?_⟩
  · have := ownsRow_setCell_other hown (a := ⟨b, 0, none⟩) hne (.slice a (l.length + k) c)
    unfold Own
    rw [List.length_append, List.map_append, ← hm]
    exact this
  · rcases hv with e | e
    · exact .inl e
    · right; intro k hk; rw [e] at hk; simp at hk; omega

/-- The list of bytes in two parts: what is owned, said of each part. -/
theorem own_split {w : World} {v : Value} {l : List UInt8} {s : ByteArray} (h : Own w v (l ++ s.data.toList)) : w.ownsRow 0 5 1 v (l.length + s.size) (l.map bv ++ s.data.toList.map bv) := by
  unfold Own at h
  rw [List.length_append, List.map_append] at h
  exact h

theorem pword_any (q : Int) (b : Nat) (v : Value) (l : List UInt8) (n : Int) (h0 : 0 ≤ n) (h1 : n ≤ 65535) (w : World) (h : PWr q w b v l) (hl : l.length ≤ 1000000000) :
    Calls Tryz.prog 69 #[.pointer (some ⟨b, 0, none⟩), .int .u16 n] w fun e w' => e = .returned (.tuple #[]) ∧ PWrote q b v (l ++ be2 n.toNat) w w' := by
  obtain ⟨i0, hi, hz0, hz1, hz2⟩ := info_parts Tryz.infoU8
  have hc := cell_of_pk h.here
  have hf := free_of_pk h.here
  go_enter Tryz.func69, Tryz.ntmps69
  go_wp2_with (at_builtin; refine wpList_append_sep rfl (.tmp 10) (.tmp 16) 26 26 rfl 0 5 i0 (.int .u8 0) 1 1 Tryz.underlying26 _ Tryz.underlying26 (.inr ⟨_, rfl⟩) hi hz0 hz1 hz2 rfl (by decide) v l.length (l.map bv) rfl ?own _ 2 ((be2 n.toNat).map bv) rfl (lenOf_slice _ _ _) rfl ?c1 ?c2 (bv_one _) ?b1 ?b2 (Nat.zero_le _) ?grow)
  case own => exact World.ownsRow.alloc h.own _
  case c1 => exact be2_new h0 h1 w
  case c2 => exact be2_new h0 h1 w.drew
  case b1 => unfold maxLen; omega
  case b2 => omega
  case grow =>
    intro v' w1 hown hg hv
    obtain ⟨a, c, rfl⟩ := slice_of_own hown
    have hb := lt_of_block h.here
    have hk : w1.heap[b]? = some (.cells #[v, .int .i64 q] 81 (0, 0)) := by
      rw [hg.block b (by show b < (w.heap.push _).size; simp; omega) (fun e => h.apart e.symm), Below.heap_alloc _ _ _ hb]; exact h.here
    have hc1 := cell_of_pk hk
    have hf1 := free_of_pk hk
    clear hc hf
    have Hk := Lib.hid hk; clear hk
    have Hv := Lib.hid hv; clear hv
    have Hg := Lib.hid hg; clear hg
    have Ho := Lib.hid hown; clear hown
    go_wp2
    go_end0
    exact ⟨rfl, pwrote_of h Hk.out Ho.out Hg.out Hv.out⟩
theorem PWrote.size {q : Int} {b : Nat} {v : Value} {l : List UInt8} {w w' : World} (h : PWrote q b v l w w') : w.heap.size ≤ w'.heap.size := by
  obtain ⟨_, _, hf, _⟩ := h; exact hf.size

theorem PWrote.trans {q : Int} {b : Nat} {v v1 : Value} {l2 : List UInt8} {w w1 w2 : World} (hf : Fr (fun k => k = b ∨ v.ownBlock = some k) w w1) (hv : v1.ownBlock = v.ownBlock ∨ ∀ k, v1.ownBlock = some k → w.heap.size ≤ k)
    (h2 : PWrote q b v1 l2 w1 w2) : PWrote q b v l2 w w2 := by
  obtain ⟨v2, hw2, hf2, hv2⟩ := h2
  refine ⟨v2, hw2, hf.trans hf2 ?_, ?_⟩
  · rintro i hi (rfl | e)
    · exact .inl rfl
    · rcases hv with e1 | e1
      · exact .inr (e1 ▸ e)
      · have := e1 i e; omega
  · rcases hv2 with e2 | e2
    · rcases hv with e1 | e1
      · exact .inl (e2.trans e1)
      · right; intro k hk; exact e1 k (e2 ▸ hk)
    · right; intro k hk; have := e2 k hk; have := hf.size; omega

theorem plong_any (q : Int) (b : Nat) (v : Value) (l : List UInt8) (n : Int) (h0 : 0 ≤ n) (h1 : n ≤ 4294967295) (w : World) (h : PWr q w b v l) (hl : l.length ≤ 999999998) :
    Calls Tryz.prog 50 #[.pointer (some ⟨b, 0, none⟩), .int .u32 n] w fun e w' => e = .returned (.tuple #[]) ∧ PWrote q b v (l ++ be4 n.toNat) w w' := by
  have hwr : IntKind.u16.wrap n = n % 65536 := IntKind.wrap_u16 n
  go_enter Tryz.func50, Tryz.ntmps50
  go_wp2_with fail
  refine (pword_any q b v l _ (by omega) (by omega) _ h (by omega)).mono ?_
  rintro e w1 ⟨rfl, v1, hw1, hf1, hv1⟩
  have Hv := Lib.hid hv1; clear hv1
  go_wp2_with fail
  refine (pword_any q b v1 _ _ (by omega) (by omega) _ hw1 (by rw [List.length_append, be2_length]; omega)).mono ?_
  rintro e w2 ⟨rfl, h2⟩
  go_wp2_with fail
  go_end0
  refine ⟨rfl, PWrote.trans hf1 Hv.out ?_⟩
  have e1 : (n / 65536).toNat = n.toNat / 65536 := by omega
  have e2 : (n % 65536).toNat = n.toNat % 65536 := by omega
  rw [e1, e2, List.append_assoc] at h2
  exact h2

theorem pquad_any (q : Int) (b : Nat) (v : Value) (l : List UInt8) (n : Int) (h0 : 0 ≤ n) (h1 : n ≤ 18446744073709551615) (w : World) (h : PWr q w b v l) (hl : l.length ≤ 999999990) :
    Calls Tryz.prog 51 #[.pointer (some ⟨b, 0, none⟩), .int .u64 n] w fun e w' => e = .returned (.tuple #[]) ∧ PWrote q b v (l ++ be8 n.toNat) w w' := by
  have hwr : IntKind.u32.wrap n = n % 4294967296 := IntKind.wrap_u32 n
  go_enter Tryz.func51, Tryz.ntmps51
  go_wp2_with fail
  refine (plong_any q b v l _ (by omega) (by omega) _ h (by omega)).mono ?_
  rintro e w1 ⟨rfl, v1, hw1, hf1, hv1⟩
  have Hv := Lib.hid hv1; clear hv1
  go_wp2_with fail
  refine (plong_any q b v1 _ _ (by omega) (by omega) _ hw1 (by rw [List.length_append, be4_length]; omega)).mono ?_
  rintro e w2 ⟨rfl, h2⟩
  go_wp2_with fail
  go_end0
  refine ⟨rfl, PWrote.trans hf1 Hv.out ?_⟩
  have e1 : (n / 4294967296).toNat = n.toNat / 4294967296 := by omega
  have e2 : (n % 4294967296).toNat = n.toNat % 4294967296 := by omega
  rw [e1, e2, List.append_assoc] at h2
  exact h2

theorem plen_any (q : Int) (b : Nat) (v : Value) (l : List UInt8) (w : World) (h : PWr q w b v l) :
    Calls Tryz.prog 73 #[.pointer (some ⟨b, 0, none⟩)] w fun e w' => e = .returned (.int .i64 l.length) ∧ w' = w := by
  obtain ⟨a, c, rfl⟩ := slice_of_own h.own
  have hc := cell_of_pk h.here
  go_enter Tryz.func73, Tryz.ntmps73
  go_wp2
  go_ret
  exact ⟨rfl, rfl⟩

/-- The bytes of a text as a Writer lays them. -/
def txt (s : List UInt8) : List UInt8 := be2 s.length ++ s ++ (if s.length % 2 = 1 then [0] else [])

theorem bv_length (s : ByteArray) : (s.data.toList.map bv).length = s.size * 1 := by
  rw [List.length_map, Nat.mul_one]; rfl

theorem txt_even (l : List UInt8) (s : ByteArray) (h : ¬ s.size % 2 = 1) : l ++ txt s.data.toList = l ++ be2 (s.size : Int).toNat ++ s.data.toList := by
  unfold txt
  have e : s.data.toList.length = s.size := rfl
  rw [e, if_neg h, List.append_nil, Int.toNat_natCast]
  simp only [List.append_assoc]
theorem txt_odd (l : List UInt8) (s : ByteArray) (h : s.size % 2 = 1) : l ++ txt s.data.toList = l ++ be2 (s.size : Int).toNat ++ s.data.toList ++ [0] := by
  unfold txt
  have e : s.data.toList.length = s.size := rfl
  rw [e, if_pos h, Int.toNat_natCast]
  simp only [List.append_assoc]

theorem pwrote_of_split {q : Int} {b : Nat} {v : Value} {l : List UInt8} {s : ByteArray} {w w1 : World} {o : Obj} {a : Option Addr} {c k : Nat} (h : PWr q w b v (l ++ s.data.toList)) (hk : w1.heap[b]? = some (.cells #[v, .int .i64 q] 81 (0, 0)))
    (hown : w1.ownsRow 0 5 1 (.slice a (l.length + s.size + k) c) (l.length + s.size + k) (l.map bv ++ (s.data.toList.map bv ++ [bv 0]))) (hg : (w.alloc o).grownBy w1 v.ownBlock)
    (hv : (Value.slice a (l.length + s.size + k) c).ownBlock = v.ownBlock ∨ (Value.slice a (l.length + s.size + k) c).ownBlock = some (w.heap.size + 1)) :
    PWrote q b v (l ++ s.data.toList ++ [0]) w (w1.setCell ⟨b, 0, none⟩ (.slice a (l.length + s.size + k) c)) := by
  have e : (l ++ s.data.toList).length = l.length + s.size := by rw [List.length_append]; rfl
  rw [← e] at hown hv ⊢
  have hown' : w1.ownsRow 0 5 1 (.slice a ((l ++ s.data.toList).length + k) c) ((l ++ s.data.toList).length + k) ((l ++ s.data.toList).map bv ++ [(0 : UInt8)].map bv) := by
    rw [List.map_append, List.append_assoc]; exact hown
  exact pwrote_of h hk hown' hg hv

theorem ptext_any (q : Int) (b : Nat) (v : Value) (l : List UInt8) (s : ByteArray) (hs : s.size ≤ 65535) (w : World) (h : PWr q w b v l) (hl : l.length ≤ 900000000) :
    Calls Tryz.prog 71 #[.pointer (some ⟨b, 0, none⟩), .string s] w fun e w' => e = .returned (.tuple #[]) ∧ PWrote q b v (l ++ txt s.data.toList) w w' := by
  obtain ⟨i0, hi, hz0, hz1, hz2⟩ := info_parts Tryz.infoU8
  have hcond : decide ((65535 : Int) < (s.size : Int)) = false := by simp; omega
  have hwr : IntKind.u16.wrap (s.size : Int) = (s.size : Int) := by rw [IntKind.wrap_u16]; omega
  go_enter Tryz.func71, Tryz.ntmps71
  go_wp2_with fail
  refine (pword_any q b v l _ (by omega) (by omega) _ h (by omega)).mono ?_
  rintro e w1 ⟨rfl, v1, hw1, hf1, hv1⟩
  have Hv := Lib.hid hv1; clear hv1
  obtain ⟨l1, hl1⟩ : ∃ l1, l1 = l ++ be2 (s.size : Int).toNat := ⟨_, rfl⟩
  have hlen1 : l1.length ≤ 900000002 := by rw [hl1, List.length_append, be2_length]; omega
  rw [← hl1] at hw1
  have Hl1 := Lib.hid hl1; clear hl1
  have hc := cell_of_pk hw1.here
  have hf := free_of_pk hw1.here
  go_wp2_with (at_builtin; refine wpList_append_sep rfl (.tmp 20) (.tmp 21) 26 9 rfl 0 5 i0 (.int .u8 0) 1 1 Tryz.underlying26 _ Tryz.underlying9 (.inl rfl) hi hz0 hz1 hz2 rfl (by decide) v1 _ _ rfl hw1.own _ s.size (s.data.toList.map bv) rfl (lenOf_string _) (bv_length s) (string_first _ _) (string_first _ _) (bv_one _) ?b1 ?b2 (Nat.zero_le _) ?grow)
  case b1 => unfold maxLen; omega
  case b2 => omega
  case grow =>
    intro v' w2 hown hg hv
    obtain ⟨a, c, rfl⟩ := slice_of_own hown
    have hb := lt_of_block hw1.here
    have hk : w2.heap[b]? = some (.cells #[v1, .int .i64 q] 81 (0, 0)) := by
      rw [hg.block b hb (fun e => hw1.apart e.symm)]; exact hw1.here
    have hc2 := cell_of_pk hk
    have hf2 := free_of_pk hk
    clear hc hf
    have h2 := Lib.hid (pwrote_of' hw1 hk hown hg hv)
    have Hg := Lib.hid hg
    have Ho := Lib.hid hown
    have Hk := Lib.hid hk
    have Hvv := Lib.hid hv
    clear hk hown hg hv
    by_cases hodd : s.size % 2 = 1
    · have h21 : ((s.size : Int) % 2 == 1) = true := by simp; omega
      go_wp2_with (at_builtin; refine wpList_append_sep rfl (.tmp 33) (.tmp 34) 26 26 rfl 0 5 i0 (.int .u8 0) 1 1 Tryz.underlying26 _ Tryz.underlying26 (.inr ⟨_, rfl⟩) hi hz0 hz1 hz2 rfl (by decide) _ (l1.length + s.size) (l1.map bv ++ s.data.toList.map bv) rfl ?own _ 1 ([0].map bv) rfl (lenOf_slice _ _ _) rfl ?c1 ?c2 (bv_one _) ?b1 ?b2 (Nat.zero_le _) ?grow)
      case own => exact World.ownsRow.alloc (own_split h2.out.1.own) _
      case c1 =>
        have z := zero_new (P := Tryz.prog) (w2.setCell ⟨b, 0, none⟩ (.slice a (l1.length + s.size) c))
        rw [World.size_setCell] at z
        exact z
      case c2 =>
        have z := zero_new (P := Tryz.prog) (w2.setCell ⟨b, 0, none⟩ (.slice a (l1.length + s.size) c)).drew
        rw [show (w2.setCell ⟨b, 0, none⟩ (.slice a (l1.length + s.size) c)).drew.heap.size = w2.heap.size from World.size_setCell _ _ _] at z
        exact z
      case b1 => unfold maxLen; omega
      case b2 => omega
      case grow =>
        intro v' w4 hown hg hv
        obtain ⟨a4, c4, rfl⟩ := slice_of_own hown
        have hb4 := lt_of_block h2.out.1.here
        have hk4 : w4.heap[b]? = some (.cells #[.slice a (l1.length + s.size) c, .int .i64 q] 81 (0, 0)) := by
          rw [hg.block b (by show b < (Array.push _ _).size; rw [Array.size_push]; omega) (fun e => h2.out.1.apart e.symm), Below.heap_alloc _ _ _ hb4]; exact h2.out.1.here
        have hc4 := cell_of_pk hk4
        have hf4 := free_of_pk hk4
        clear hc2 hf2
        have Ho4 := Lib.hid hown
        have Hg4 := Lib.hid hg
        have Hk4 := Lib.hid hk4
        have Hv4 := Lib.hid hv
        clear hown hg hk4 hv
        go_wp2
        go_end0
        refine ⟨rfl, PWrote.trans hf1 Hv.out (PWrote.trans h2.out.2.1 h2.out.2.2 ?_)⟩
        rw [show l ++ txt s.data.toList = l1 ++ s.data.toList ++ [0] by rw [Hl1.out]; exact txt_odd l s hodd]
        exact pwrote_of_split h2.out.1 Hk4.out Ho4.out Hg4.out (by rw [World.size_setCell]; exact Hv4.out)
    · have h21 : ((s.size : Int) % 2 == 1) = false := by simp; omega
      go_wp2
      go_end0
      refine ⟨rfl, PWrote.trans hf1 Hv.out ?_⟩
      rw [show l ++ txt s.data.toList = l1 ++ s.data.toList by rw [Hl1.out]; exact txt_even l s hodd]
      exact ⟨_, h2.out⟩

theorem pclone_any (v : Value) (l : List UInt8) (w : World) (h : Sees w v l) (hl : l.length ≤ 2000000000) :
    Calls Tryz.prog 56 #[v] w fun e w' => ∃ v', e = .returned v' ∧ Own w' v' l ∧ Fr (fun _ => False) w w' ∧ (∀ k, v'.ownBlock = some k → w.heap.size ≤ k) := by
  obtain ⟨i0, hi, hz0, hz1, hz2⟩ := info_parts Tryz.infoU8
  obtain ⟨a, c, rfl, hn⟩ := h.shape
  have q1 : ∀ (w : World) (a : Option Addr) (n c : Nat), (binOp .eql 26 (.slice a n c) (.slice none 0 0)).run Tryz.prog w = .ok (.bool a.isNone) w := fun w a n c => Lib.run_eql_slice_nil w _ _ a n c 0 0 Tryz.underlying26
  cases a with
  | none =>
    have hl := hn rfl
    subst hl
    go_enter Tryz.func56, Tryz.ntmps56
    go_wp2
    go_ret
    exact ⟨_, rfl, World.ownsRow_nil _ _ _ _, Fr.refl _ _, fun k hk => by cases hk⟩
  | some a =>
    have Hn := Lib.hid hn; clear hn
    go_enter Tryz.func56, Tryz.ntmps56
    go_wp2_with (at_builtin; refine wpList_append_sep rfl (.tmp 5) (.tmp 6) 26 26 rfl 0 5 i0 (.int .u8 0) 1 1 Tryz.underlying26 _ Tryz.underlying26 (.inr ⟨_, rfl⟩) hi hz0 hz1 hz2 rfl (by decide) (.slice (some ⟨w.heap.size, 0, none⟩) 0 0) 0 [] rfl ?own _ l.length (l.map bv) rfl (lenOf_slice _ _ _) (by simp) ?c1 ?c2 (bv_one _) ?b1 ?b2 (Nat.zero_le _) ?grow)
    case own => exact World.ownsRow_made w #[] 0 (Nat.zero_le _) (by unfold maxLen; omega) rfl
    case c1 => exact (h.fr ((Fr.refl (fun _ => False) w).alloc _) (fun _ _ h => h)).first
    case c2 => exact (h.fr ((Fr.refl (fun _ => False) w).alloc _) (fun _ _ h => h)).drew.first
    case b1 => unfold maxLen; omega
    case b2 => omega
    case grow =>
      intro v' w1 hown hg hv
      have Ho := Lib.hid hown
      have Hg := Lib.hid hg
      have Hv := Lib.hid hv
      clear hown hg hv
      go_wp2
      go_ret
      refine ⟨v', rfl, Ho.out, ?_, ?_⟩
      · exact ((Fr.refl _ _).alloc (.cells #[] 5)).trans (Fr.of_grown Hg.out) (fun i hi e => by simp [Value.ownBlock] at e; omega)
      · intro k hk
        rcases Hv.out with e | e
        · rw [e] at hk; simp [Value.ownBlock] at hk; omega
        · rw [e] at hk; simp at hk; omega

theorem pbytes_any (q : Int) (b : Nat) (v : Value) (l : List UInt8) (w : World) (h : PWr q w b v l) (hl : l.length ≤ 2000000000) :
    Calls Tryz.prog 32 #[.pointer (some ⟨b, 0, none⟩)] w fun e w' => ∃ v', e = .returned v' ∧ Own w' v' l ∧ Fr (fun _ => False) w w' ∧ (∀ k, v'.ownBlock = some k → w.heap.size ≤ k) := by
  obtain ⟨a, c, rfl⟩ := slice_of_own h.own
  have hc := cell_of_pk h.here
  go_enter Tryz.func32, Tryz.ntmps32
  go_wp2_with fail
  refine (pclone_any _ l _ h.own.sees hl).mono ?_
  rintro e w1 ⟨v', rfl, ho, hf, hv⟩
  have Hv := Lib.hid hv; clear hv
  go_wp2
  go_ret
  exact ⟨_, rfl, ho, hf, Hv.out⟩
end
section
/-- What Whole finds: an error (0: none), the type, and how many more types there may be. -/
structure WR where
  e : Nat
  t : KT
  left : Nat

structure WP where
  e : Nat
  ts : List KT
  left : Nat

def zeroT : KT := .mk 0 0 [] 0 (fun _ => .nil)

/-- The parts of a type, made whole one by one. -/
def wholeAll (f : Nat → Nat → WR) : Nat → Nat → WP
  | 0, l => ⟨0, [], l⟩
  | n + 1, l =>
    let r := wholeAll f n l
    if r.e = 0 then (let q := f n r.left; if q.e = 0 then ⟨0, r.ts ++ [q.t], q.left⟩ else ⟨q.e, [], q.left⟩) else r

def wholeE : Nat → List (Txt × KT) → KT → Nat → WR
  | 0, _, _, l => ⟨5, zeroT, l⟩
  | lv + 1, al, t, l => match t with
    | .nil => ⟨0, .nil, l⟩
    | .mk k m ns n of =>
      if k = 9 then
        if standsN al ns < 0 then ⟨10, zeroT, l⟩
        else wholeE lv (al.take (standsN al ns).toNat) (al.getD (standsN al ns).toNat ([], .nil)).2 l
      else if l = 0 then ⟨6, zeroT, l⟩
      else
        let r := wholeAll (fun i l => wholeE lv al (of i) l) n (l - 1)
        if r.e = 0 then ⟨0, .mk k m ns n (fun i => r.ts.getD i .nil), r.left⟩ else ⟨r.e, zeroT, r.left⟩

theorem wholeAll_stop (f : Nat → Nat → WR) (n k l : Nat) (hk : k < n) (h0 : (wholeAll f k l).e = 0) (h : (f k (wholeAll f k l).left).e ≠ 0) : wholeAll f n l = ⟨(f k (wholeAll f k l).left).e, [], (f k (wholeAll f k l).left).left⟩ := by
  induction n with
  | zero => omega
  | succ n ih =>
    by_cases e : k = n
    · subst e
      simp only [wholeAll, h0, if_true, if_neg h]
    · have := ih (by omega)
      simp only [wholeAll]
      rw [this]
      exact if_neg h

theorem wholeAll_step (f : Nat → Nat → WR) (k l : Nat) (h0 : (wholeAll f k l).e = 0) (h : (f k (wholeAll f k l).left).e = 0) : wholeAll f (k + 1) l = ⟨0, (wholeAll f k l).ts ++ [(f k (wholeAll f k l).left).t], (f k (wholeAll f k l).left).left⟩ := by
  simp only [wholeAll, h0, if_true, h]

theorem standsN_lt {al : List (Txt × KT)} {ns : List Txt} (h : ¬ standsN al ns < 0) : (standsN al ns).toNat < al.length ∧ ((standsN al ns).toNat : Int) = standsN al ns := by
  refine ⟨?_, by omega⟩
  unfold standsN firstAt at *
  split at h
  · split at h
    · rename_i s h1
      rw [if_pos h1]
      have := List.findIdx_lt_length_of_exists (p := fun x : Txt × KT => decide (x.1 = s)) (xs := al) (by
        obtain ⟨x, hx, hp⟩ := List.any_eq_true.1 h1
        exact ⟨x, hx, hp⟩)
      simpa using this
    · omega
  · omega
end
end Go.Proofs.YtplipjijaaejlaaGreat
