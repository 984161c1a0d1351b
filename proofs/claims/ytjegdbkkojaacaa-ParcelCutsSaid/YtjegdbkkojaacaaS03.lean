/-
  What ParAny, ParChk, ParBack, ParOnce rests on, part 3: Reader, RefLong, Ref, Facts, ParDef.
-/
import Derived.Test.YtjegdbkkojaacaaS02
import Derived.Test.YtjegdbkkojaacaaS01
import Derived.Deep.LoopGhost
set_option linter.unusedVariables false
set_option linter.unusedSimpArgs false
set_option maxHeartbeats 64000000
namespace Go.Proofs.Ytjegdbkkojaacaa
open Go.RowKit
open Go.Lib (hid)
section
/-- Block b is a Reader of the bytes l, with the error e. -/
structure Rd (w : World) (b : Nat) (v : Value) (l : List UInt8) (e : Int) : Prop where
  here : w.heap[b]? = some (.cells #[v, .int .i64 e] 92 (0, 0))
  sees : Sees w v l
  apart : v.ownBlock ≠ some b
  clean : e ≠ 0 → l = []
  old : ∀ k, v.ownBlock = some k → k < w.heap.size

theorem cell_of_two {w : World} {b : Nat} {v u : Value} {t : TypeId} (h : w.heap[b]? = some (.cells #[v, u] t (0, 0))) : w.cell? ⟨b, 0, none⟩ = some v ∧ w.cell? ⟨b, 1, none⟩ = some u ∧ w.frozen? ⟨b, 0, none⟩ = false ∧ w.frozen? ⟨b, 1, none⟩ = false := by
  simp [World.cell?, World.frozen?, h]

theorem two_setCell0 {w : World} {b : Nat} {v u : Value} {t : TypeId} (h : w.heap[b]? = some (.cells #[v, u] t (0, 0))) (x : Value) : (w.setCell ⟨b, 0, none⟩ x).heap[b]? = some (.cells #[x, u] t (0, 0)) := by
  rw [heap_setCell_same w b 0 _ t x h]; rfl
theorem two_setCell1 {w : World} {b : Nat} {v u : Value} {t : TypeId} (h : w.heap[b]? = some (.cells #[v, u] t (0, 0))) (x : Value) : (w.setCell ⟨b, 1, none⟩ x).heap[b]? = some (.cells #[v, x] t (0, 0)) := by
  rw [heap_setCell_same w b 1 _ t x h]; rfl

theorem clone_any (v : Value) (l : List UInt8) (w : World) (h : Sees w v l) (hl : l.length ≤ 2000000000) :
    Calls Try.prog 33 #[v] w fun e w' => ∃ v', e = .returned v' ∧ Own w' v' l ∧ Fr (fun _ => False) w w' ∧ (∀ k, v'.ownBlock = some k → w.heap.size ≤ k) := by
  obtain ⟨i0, hi, hz0, hz1, hz2⟩ := info_parts Try.infoU8
  obtain ⟨a, c, rfl, hn⟩ := h.shape
  have q1 : ∀ (w : World) (a : Option Addr) (n c : Nat), (binOp .eql 23 (.slice a n c) (.slice none 0 0)).run Try.prog w = .ok (.bool a.isNone) w := fun w a n c => Lib.run_eql_slice_nil w _ _ a n c 0 0 Try.underlying23
  cases a with
  | none =>
    have hl := hn rfl
    subst hl
    go_enter Try.func33, Try.ntmps33
    go_wp2
    go_ret
    exact ⟨_, rfl, World.ownsRow_nil _ _ _ _, Fr.refl _ _, fun k hk => by cases hk⟩
  | some a =>
    have Hn := Lib.hid hn; clear hn
    go_enter Try.func33, Try.ntmps33
    go_wp2_with (at_builtin; refine wpList_append_sep rfl (.tmp 5) (.tmp 6) 23 23 rfl 0 5 i0 (.int .u8 0) 1 1 Try.underlying23 _ Try.underlying23 (.inr ⟨_, rfl⟩) hi hz0 hz1 hz2 rfl (by decide) (.slice (some ⟨w.heap.size, 0, none⟩) 0 0) 0 [] rfl ?own _ l.length (l.map bv) rfl (lenOf_slice _ _ _) (by simp) ?c1 ?c2 (bv_one _) ?b1 ?b2 (Nat.zero_le _) ?grow)
    case own => exact World.ownsRow_made w #[] 0 (Nat.zero_le _) (by unfold maxLen; omega) rfl
    case c1 => exact (h.fr ((Fr.refl (fun _ => False) w).alloc _) (fun _ _ h => h)).first
    case c2 => exact (h.fr ((Fr.refl (fun _ => False) w).alloc _) (fun _ _ h => h)).drew.first
    case b1 => unfold maxLen; omega
    case b2 => omega
    case grow =>
      intro v' w1 hown hg hv
      have Ho := Lib.hid hown
      have Hg := Lib.hid hg
      have Hv := Lib.hid hv
      clear hown hg hv
      go_wp2
      go_ret
      refine ⟨v', rfl, Ho.out, ?_, ?_⟩
      · exact ((Fr.refl _ _).alloc (.cells #[] 5)).trans (Fr.of_grown Hg.out) (fun i hi e => by simp [Value.ownBlock] at e; omega)
      · intro k hk
        rcases Hv.out with e | e
        · rw [e] at hk; simp [Value.ownBlock] at hk; omega
        · rw [e] at hk; simp at hk; omega

theorem bytes_any (b : Nat) (v : Value) (l : List UInt8) (w : World) (h : Wr w b v l) (hl : l.length ≤ 2000000000) :
    Calls Try.prog 23 #[.pointer (some ⟨b, 0, none⟩)] w fun e w' => ∃ v', e = .returned v' ∧ Own w' v' l ∧ Fr (fun _ => False) w w' ∧ (∀ k, v'.ownBlock = some k → w.heap.size ≤ k) := by
  obtain ⟨a, c, rfl⟩ := slice_of_own h.own
  have hc := cell_of_one h.here
  go_enter Try.func23, Try.ntmps23
  go_wp2_with fail
  refine (clone_any _ l _ h.own.sees hl).mono ?_
  rintro e w1 ⟨v', rfl, ho, hf, hv⟩
  have Hv := Lib.hid hv; clear hv
  go_wp2
  go_ret
  exact ⟨_, rfl, ho, hf, Hv.out⟩

theorem read_any (v : Value) (l : List UInt8) (w : World) (h : Sees w v l) (hl : l.length ≤ 2000000000) :
    Calls Try.prog 25 #[v] w fun e w' => ∃ b v', e = .returned (.pointer (some ⟨b, 0, none⟩)) ∧ Rd w' b v' l 0 ∧ Fr (fun _ => False) w w' ∧ w.heap.size ≤ b ∧ (∀ k, v'.ownBlock = some k → w.heap.size ≤ k) := by
  go_enter Try.func25, Try.ntmps25
  go_wp2_with fail
  refine (clone_any _ l _ h hl).mono ?_
  rintro e w1 ⟨v', rfl, ho, hf, hv⟩
  obtain ⟨a, c, rfl⟩ := slice_of_own ho
  have Hv := Lib.hid hv; clear hv
  go_wp2
  go_ret
  refine ⟨_, _, rfl, ⟨heap_alloc_new w1 _, ?_, ?_, fun h => absurd rfl h, fun k hk => by have := ho.lt k hk; rw [World.size_alloc]; omega⟩, hf.alloc _, hf.size, Hv.out⟩
  · exact ho.sees.fr ((Fr.refl (fun _ => False) w1).alloc _) (fun _ _ h => h)
  · intro e; have := ho.lt _ e; omega

theorem err_any (b : Nat) (v : Value) (l : List UInt8) (x : Int) (w : World) (h : Rd w b v l x) :
    Calls Try.prog 48 #[.pointer (some ⟨b, 0, none⟩)] w fun e w' => e = .returned (.int .i64 x) ∧ w = w' := by
  obtain ⟨c0, c1, f0, f1⟩ := cell_of_two h.here
  go_enter Try.func48, Try.ntmps48
  go_wp2
  go_ret
  exact ⟨rfl, rfl⟩

theorem left_any (b : Nat) (v : Value) (l : List UInt8) (x : Int) (w : World) (h : Rd w b v l x) :
    Calls Try.prog 47 #[.pointer (some ⟨b, 0, none⟩)] w fun e w' => e = .returned (.int .i64 l.length) ∧ w = w' := by
  obtain ⟨c0, c1, f0, f1⟩ := cell_of_two h.here
  obtain ⟨a, c, rfl, hn⟩ := h.sees.shape
  clear hn
  go_enter Try.func47, Try.ntmps47
  go_wp2
  go_ret
  exact ⟨rfl, rfl⟩

theorem end_any (b : Nat) (v : Value) (l : List UInt8) (x : Int) (w : World) (h : Rd w b v l x) :
    Calls Try.prog 27 #[.pointer (some ⟨b, 0, none⟩)] w fun e w' => e = .returned (.int .i64 (if l = [] then x else 12)) ∧ w = w' := by
  by_cases hl : l = []
  · subst hl
    go_enter Try.func27, Try.ntmps27
    go_wp2_with (first | (go_at_call 47; refine (left_any b v [] x _ h).mono ?_; rintro e w' ⟨rfl, rfl⟩) | (go_at_call 48; refine (err_any b v [] x _ h).mono ?_; rintro e w' ⟨rfl, rfl⟩))
    go_ret
    exact ⟨rfl, rfl⟩
  · have hl0 : (0 : Int) < l.length := by have := List.length_pos_iff.2 hl; omega
    have Hl := Lib.hid hl; clear hl
    go_enter Try.func27, Try.ntmps27
    go_wp2_with (go_at_call 47; refine (left_any b v l x _ h).mono ?_; rintro e w' ⟨rfl, rfl⟩)
    go_ret
    exact ⟨rfl, rfl⟩

/-- The same Reader behind a call that may have changed it: the block of its bytes stays, or goes. -/
def Reads (b : Nat) (v : Value) (l : List UInt8) (x : Int) (w w' : World) : Prop :=
  ∃ v', Rd w' b v' l x ∧ Fr (fun k => k = b) w w' ∧ (v'.ownBlock = v.ownBlock ∨ v'.ownBlock = none)

theorem Reads.refl {b : Nat} {v : Value} {l : List UInt8} {x : Int} {w : World} (h : Rd w b v l x) : Reads b v l x w w := ⟨v, h, Fr.refl _ _, .inl rfl⟩
theorem Reads.trans {b : Nat} {v v1 : Value} {l2 : List UInt8} {x2 : Int} {w w1 w2 : World} (hf : Fr (fun k => k = b) w w1) (hv : v1.ownBlock = v.ownBlock ∨ v1.ownBlock = none) (h : Reads b v1 l2 x2 w1 w2) : Reads b v l2 x2 w w2 := by
  obtain ⟨v2, h2, hf2, hv2⟩ := h
  refine ⟨v2, h2, hf.trans hf2 (fun _ _ e => e), ?_⟩
  rcases hv2 with e | e
  · rw [e]; exact hv
  · exact .inr e

/-- Fail, told of the bytes and the error. -/
def failS (st : List UInt8 × Int) (x : Int) : List UInt8 × Int := if x = 0 ∨ st.2 ≠ 0 then st else ([], x)

theorem fail_any (b : Nat) (v : Value) (l : List UInt8) (x y : Int) (w : World) (h : Rd w b v l x) :
    Calls Try.prog 57 #[.pointer (some ⟨b, 0, none⟩), .int .i64 y] w fun e w' => e = .returned (.tuple #[]) ∧ Reads b v (failS (l, x) y).1 (failS (l, x) y).2 w w' := by
  obtain ⟨c0, c1, f0, f1⟩ := cell_of_two h.here
  by_cases hy : y = 0
  · subst hy
    go_enter Try.func57, Try.ntmps57
    go_wp2
    go_returns
    exact ⟨rfl, by simpa [failS] using Reads.refl h⟩
  by_cases hx : x = 0
  · have hy' : (y == 0) = false := by simpa using hy
    have hx' : (x != 0) = false := by simpa using hx
    have Hx := Lib.hid hx; clear hx
    have Hy := Lib.hid hy; clear hy
    go_enter Try.func57, Try.ntmps57
    go_wp2
    go_returns
    have e : failS (l, x) y = ([], y) := if_neg (by simp [Hx.out, Hy.out])
    rw [e]
    refine ⟨rfl, .slice none 0 0, ⟨two_setCell0 (two_setCell1 h.here _) _, .inl ⟨rfl, _, _, rfl⟩, by simp [Value.ownBlock], fun _ => rfl, fun k hk => by cases hk⟩, ?_, .inr rfl⟩
    exact ((Fr.refl _ _).set1 1 _).set1 0 _
  · have hy' : (y == 0) = false := by simpa using hy
    have hx' : (x != 0) = true := by simpa using hx
    have Hx := Lib.hid hx; clear hx
    have Hy := Lib.hid hy; clear hy
    go_enter Try.func57, Try.ntmps57
    go_wp2
    go_returns
    exact ⟨rfl, by simpa [failS, Hx.out, Hy.out] using Reads.refl h⟩

/-- The next k bytes, told of the bytes and the error. -/
def nextS (st : List UInt8 × Int) (k : Nat) : List UInt8 × (List UInt8 × Int) :=
  if st.1.length < k then ([], failS st 3) else (st.1.take k, (st.1.drop k, st.2))

theorem Sees.take {w : World} {a : Option Addr} {c k : Nat} {l : List UInt8} (h : Sees w (.slice a l.length c) l) (hk : k ≤ l.length) : Sees w (.slice a k c) (l.take k) := by
  rcases h with ⟨rfl, _⟩ | ⟨g, off, cap, e, hle, hc⟩
  · left; simp at hk; subst hk; exact ⟨rfl, _, _, rfl⟩
  · simp at e; obtain ⟨rfl, rfl⟩ := e
    right
    have hl : (l.take k).length = k := by simp; omega
    refine ⟨g, off, _, by rw [hl], by omega, fun j hj => ?_⟩
    rw [hc j (by omega)]
    simp [List.getD, show j < k by omega]

theorem Sees.drop_full {w : World} {a : Option Addr} {k : Nat} {l : List UInt8} (h : Sees w (.slice a l.length k) l) (hk : k ≤ l.length) :
    l.length = k := by
  rcases h with ⟨rfl, _⟩ | ⟨g, off, cap, e, hle, hc⟩
  · simp at hk; simp [hk]
  · simp at e; omega

theorem Sees.drop_part {w : World} {a : Option Addr} {c k : Nat} {l : List UInt8} (h : Sees w (.slice a l.length c) l) (hk : k ≤ l.length) :
    Sees w (.slice (a.map fun x => x.add k) (l.length - k) (c - k)) (l.drop k) := by
  rcases h with ⟨rfl, _⟩ | ⟨g, off, cap, e, hle, hc⟩
  · left; simp at hk; subst hk; exact ⟨by simp, _, _, rfl⟩
  · simp at e; obtain ⟨rfl, rfl⟩ := e
    right
    have hplain : (⟨g, off, none⟩ : Addr).add k = ⟨g, off + k, none⟩ := by unfold Addr.add; split <;> simp_all
    refine ⟨g, off + k, c - k, ?_, by simp; omega, fun j hj => ?_⟩
    · rw [Option.map_some, hplain, List.length_drop]
    · simp at hj
      rw [show off + k + j = off + (k + j) by omega, hc (k + j) (by omega)]
      simp [List.getD]

theorem part_block {a : Option Addr} {n c n' c' k : Nat} : (Value.slice (a.map fun x => x.add k) n c').ownBlock = (Value.slice a n' c).ownBlock := by
  cases a with
  | none => rfl
  | some a =>
    simp only [Option.map_some, Value.ownBlock, Addr.add]
    split <;> rfl

theorem Rd.next {w : World} {b : Nat} {a a' : Option Addr} {c c' k : Nat} {l : List UInt8} {x : Int} (h : Rd w b (.slice a l.length c) l x) (hk : k ≤ l.length)
    (hs : Sees w (.slice a' (l.length - k) c') (l.drop k)) (hb : (Value.slice a' (l.length - k) c').ownBlock = (Value.slice a l.length c).ownBlock) :
    Sees (w.setCell ⟨b, 0, none⟩ (.slice a' (l.length - k) c')) (.slice a k c) (l.take k) ∧ ((Value.slice a k c).ownBlock = (Value.slice a l.length c).ownBlock ∨ (Value.slice a k c).ownBlock = none) ∧
      Reads b (.slice a l.length c) (l.drop k) x w (w.setCell ⟨b, 0, none⟩ (.slice a' (l.length - k) c')) := by
  have hfr := (Fr.refl (fun k => k = b) w).set1 0 (.slice a' (l.length - k) c')
  have e1 : (Value.slice a k c).ownBlock = (Value.slice a l.length c).ownBlock := by cases a <;> rfl
  refine ⟨(h.sees.take hk).fr hfr ?_, .inl e1, _, ⟨two_setCell0 h.here _, hs.fr hfr ?_, ?_, ?_, fun k hk => by rw [World.size_setCell]; exact h.old k (hb ▸ hk)⟩, hfr, .inl hb⟩
  · rintro i hi rfl; exact h.apart (e1 ▸ hi)
  · rintro i hi rfl; exact h.apart (hb ▸ hi)
  · rw [hb]; exact h.apart
  · intro hx; rw [h.clean hx]; simp

theorem next_any (b : Nat) (v : Value) (l : List UInt8) (x k : Int) (h0 : 0 ≤ k) (w : World) (hR : Rd w b v l x) :
    Calls Try.prog 56 #[.pointer (some ⟨b, 0, none⟩), .int .i64 k] w fun e w' => ∃ r, e = .returned r ∧ Sees w' r (nextS (l, x) k.toNat).1 ∧ (r.ownBlock = v.ownBlock ∨ r.ownBlock = none) ∧
      Reads b v (nextS (l, x) k.toNat).2.1 (nextS (l, x) k.toNat).2.2 w w' := by
  obtain ⟨k, rfl⟩ := Int.eq_ofNat_of_zero_le h0
  rw [Int.toNat_natCast]
  obtain ⟨c0, c1, f0, f1⟩ := cell_of_two hR.here
  obtain ⟨a, c, rfl, hn⟩ := hR.sees.shape
  clear hn
  by_cases hk : l.length < k
  · have e : nextS (l, x) k = ([], failS (l, x) 3) := if_pos hk
    have E := Lib.hid e; clear e
    go_enter Try.func56, Try.ntmps56
    go_wp2_with (go_at_call 57; refine (fail_any b _ l x 3 _ hR).mono ?_; rintro e w1 ⟨rfl, hr⟩)
    go_ret
    rw [E.out]
    exact ⟨_, rfl, .inl ⟨rfl, _, _, rfl⟩, .inr rfl, hr⟩
  · have e : nextS (l, x) k = (l.take k, (l.drop k, x)) := if_neg hk
    have E := Lib.hid e; clear e
    have hcap : l.length ≤ c := by
      rcases hR.sees with ⟨rfl, _⟩ | ⟨g, off, cap, e, hle, _⟩
      · simp
      · simp at e; omega
    by_cases hck : c = k
    · subst hck
      have hlc := hR.sees.drop_full (by omega)
      subst hlc
      go_enter Try.func56, Try.ntmps56
      go_wp2_with fail
      go_ret
      rw [E.out]
      exact ⟨.slice a l.length l.length, rfl, by simpa using hR.next (c' := 0) (a' := a) (Nat.le_refl _) (.inl ⟨by simp, _, _, by rw [Nat.sub_self]⟩) (by cases a <;> rfl)⟩
    · go_enter Try.func56, Try.ntmps56
      go_wp2_with fail
      go_ret
      rw [E.out]
      exact ⟨.slice a k c, rfl, hR.next (by omega) (hR.sees.drop_part (k := k) (by omega)) part_block⟩

theorem or8 (n c : Nat) (hn : n < 256 ^ 7) (hc : c < 2 ^ 8) : bits .or .u64 ((n : Int) * 256) (c : Int) = ((n * 256 + c : Nat) : Int) := by
  have e : ((n : Int) * 256) = ((n * 256 : Nat) : Int) := by omega
  rw [e, u64_or_nat (n * 256) c (by omega) (by omega)]
  congr 1
  have h := Nat.two_pow_add_eq_or_of_lt (i := 8) (b := c) hc n
  rw [show n * 256 = 2 ^ 8 * n by omega]
  exact h.symm

/-- A number of k bytes. -/
def numS (st : List UInt8 × Int) (k : Nat) : Nat × (List UInt8 × Int) := (beNum (nextS st k).1, (nextS st k).2)

theorem number_any (b : Nat) (v : Value) (l : List UInt8) (x k : Int) (h0 : 0 ≤ k) (h8 : k ≤ 8) (w : World) (hR : Rd w b v l x) :
    Calls Try.prog 54 #[.pointer (some ⟨b, 0, none⟩), .int .i64 k] w fun e w' => e = .returned (.int .u64 (numS (l, x) k.toNat).1) ∧
      Reads b v (numS (l, x) k.toNat).2.1 (numS (l, x) k.toNat).2.2 w w' := by
  go_enter Try.func54, Try.ntmps54
  go_wp2_with fail
  refine (next_any b v l x k h0 _ hR).mono ?_
  rintro e w1 ⟨r, rfl, hs, hb, hr⟩
  have hlen : (nextS (l, x) k.toNat).1.length ≤ 8 := by unfold nextS; split <;> simp; omega
  have hnum : numS (l, x) k.toNat = (beNum (nextS (l, x) k.toNat).1, (nextS (l, x) k.toNat).2) := rfl
  generalize hp : nextS (l, x) k.toNat = p at *
  have Hp := Lib.hid hp; clear hp
  have Hn := Lib.hid hnum; clear hnum
  clear hb
  rcases hs with ⟨h0, a, c, rfl⟩ | ⟨g, off, c, rfl, hle, hc⟩
  · have Hz := Lib.hid h0; clear h0
    go_wp2_with fail
    refine wp_loop_rounds 1 ?_
    rw [rounds_succ]
    go_wp2
    go_ret
    rw [Hn.out, Hz.out]
    exact ⟨rfl, hr⟩
  go_wp2_with fail
  go_loop [5, 12] (fun n i => ∃ j : Nat, j ≤ p.1.length ∧ i = .int .i64 j ∧ n = .int .u64 (beNum (p.1.take j))) (fun _ i => p.1.length - (intOf i).toNat)
  case atStart => exact ⟨0, Nat.zero_le _, rfl, rfl⟩
  case round =>
    obtain ⟨j, hj, rfl, rfl⟩ := hrel
    by_cases hlt : j < p.1.length
    · have hsm := beNum_small (p.1.take j) 7 (by simp; omega)
      have hcell := hc j hlt
      clear hc
      have hsn : beNum (p.1.take (j + 1)) = beNum (p.1.take j) * 256 + (p.1.getD j 0).toNat := by
        rw [List.take_succ_eq_append_getElem hlt, beNum_snoc]
        simp [List.getD, hlt]
      have Hsn := Lib.hid hsn; clear hsn
      generalize p.1.getD j 0 = ch at *
      generalize beNum (p.1.take j) = n at *
      have hb := ch.toNat_lt
      unfold bv at hcell
      have hor := or8 n ch.toNat hsm hb
      go_wp2
      go_round
      case rel => exact ⟨j + 1, by omega, by go_num, by rw [Hsn.out]; exact congrArg (Value.int .u64) (by omega)⟩
      case measure => simp [intOf]; omega
    · go_wp2
      go_ret
      rw [Hn.out]
      have e : p.1.take j = p.1 := List.take_of_length_le (by omega)
      rw [e]
      exact ⟨rfl, hr⟩

theorem nextS_len (st : List UInt8 × Int) (k : Nat) : (nextS st k).1.length ≤ k := by
  unfold nextS; split
  · simp
  · simp; omega

theorem nextS_full (st : List UInt8 × Int) (k : Nat) : (nextS st k).2.2 = 0 → (nextS st k).1.length = k := by
  unfold nextS
  split
  · unfold failS
    intro h
    exfalso
    split at h
    · rename_i h2; rcases h2 with h2 | h2
      · omega
      · exact h2 h
    · simp at h
  · intro _; simp; omega

theorem numS_small (st : List UInt8 × Int) (k : Nat) : (numS st k).1 < 256 ^ k := beNum_small _ _ (nextS_len st k)

theorem rword_any (b : Nat) (v : Value) (l : List UInt8) (x : Int) (w : World) (hR : Rd w b v l x) :
    Calls Try.prog 44 #[.pointer (some ⟨b, 0, none⟩)] w fun e w' => e = .returned (.int .u16 (numS (l, x) 2).1) ∧ Reads b v (numS (l, x) 2).2.1 (numS (l, x) 2).2.2 w w' := by
  have hs : (numS (l, x) 2).1 < 256 ^ 2 := numS_small _ _
  go_enter Try.func44, Try.ntmps44
  go_wp2_with fail
  refine (number_any b v l x 2 (by omega) (by omega) _ hR).mono ?_
  rintro e w1 ⟨rfl, hr⟩
  rw [show (2 : Int).toNat = 2 from rfl] at hr ⊢
  generalize hp : numS (l, x) 2 = p at *
  have Hp := Lib.hid hp; clear hp
  go_wp2
  go_ret
  rw [Hp.out]
  exact ⟨rfl, hr⟩

theorem rlong_any (b : Nat) (v : Value) (l : List UInt8) (x : Int) (w : World) (hR : Rd w b v l x) :
    Calls Try.prog 45 #[.pointer (some ⟨b, 0, none⟩)] w fun e w' => e = .returned (.int .u32 (numS (l, x) 4).1) ∧ Reads b v (numS (l, x) 4).2.1 (numS (l, x) 4).2.2 w w' := by
  have hs : (numS (l, x) 4).1 < 256 ^ 4 := numS_small _ _
  go_enter Try.func45, Try.ntmps45
  go_wp2_with fail
  refine (number_any b v l x 4 (by omega) (by omega) _ hR).mono ?_
  rintro e w1 ⟨rfl, hr⟩
  rw [show (4 : Int).toNat = 4 from rfl] at hr ⊢
  generalize hp : numS (l, x) 4 = p at *
  have Hp := Lib.hid hp; clear hp
  go_wp2
  go_ret
  rw [Hp.out]
  exact ⟨rfl, hr⟩

/-- A Word that is at most most. -/
def withinS (st : List UInt8 × Int) (most : Int) : Nat × (List UInt8 × Int) :=
  if most < (numS st 2).1 then (0, failS (numS st 2).2 7) else numS st 2

theorem within_any (b : Nat) (v : Value) (l : List UInt8) (x most : Int) (w : World) (hR : Rd w b v l x) :
    Calls Try.prog 55 #[.pointer (some ⟨b, 0, none⟩), .int .i64 most] w fun e w' => e = .returned (.int .i64 (withinS (l, x) most).1) ∧ Reads b v (withinS (l, x) most).2.1 (withinS (l, x) most).2.2 w w' := by
  have hs : (numS (l, x) 2).1 < 256 ^ 2 := numS_small _ _
  have hw : withinS (l, x) most = if most < (numS (l, x) 2).1 then (0, failS (numS (l, x) 2).2 7) else numS (l, x) 2 := rfl
  have Hw := Lib.hid hw; clear hw
  go_enter Try.func55, Try.ntmps55
  go_wp2_with fail
  refine (rword_any b v l x _ hR).mono ?_
  rintro e w1 ⟨rfl, hr⟩
  generalize numS (l, x) 2 = p at *
  obtain ⟨v1, hR1, hf1, hv1⟩ := hr
  have Hv := Lib.hid hv1; clear hv1
  by_cases hm : most < p.1
  · have Hw' : Hid (withinS (l, x) most = (0, failS p.2 7)) := Lib.hid (by rw [Hw.out, if_pos hm])
    clear Hw
    go_wp2_with fail
    refine (fail_any b v1 p.2.1 p.2.2 7 _ hR1).mono ?_
    rintro e w2 ⟨rfl, hr⟩
    go_wp2
    go_ret
    rw [Hw'.out]
    exact ⟨rfl, hr.trans hf1 Hv.out⟩
  · have Hw' : Hid (withinS (l, x) most = p) := Lib.hid (by rw [Hw.out, if_neg hm])
    clear Hw
    go_wp2_with fail
    go_ret
    rw [Hw'.out]
    exact ⟨rfl, v1, hR1, hf1, Hv.out⟩

/-- A text of at most most bytes. -/
def textS (st : List UInt8 × Int) (most : Int) : List UInt8 × (List UInt8 × Int) :=
  let n := withinS st most
  let p := nextS n.2 (n.1 + n.1 % 2)
  if p.2.2 ≠ 0 then ([], p.2) else if n.1 % 2 = 1 ∧ p.1.getD n.1 0 ≠ 0 then ([], failS p.2 4) else (p.1.take n.1, p.2)

theorem withinS_small (st : List UInt8 × Int) (most : Int) : (withinS st most).1 < 65536 := by
  unfold withinS; split
  · simp
  · exact numS_small _ _

theorem rtext_any (b : Nat) (v : Value) (l : List UInt8) (x most : Int) (w : World) (hR : Rd w b v l x) :
    Calls Try.prog 46 #[.pointer (some ⟨b, 0, none⟩), .int .i64 most] w fun e w' => e = .returned (.string ⟨(textS (l, x) most).1.toArray⟩) ∧ Reads b v (textS (l, x) most).2.1 (textS (l, x) most).2.2 w w' := by
  have hs := withinS_small (l, x) most
  have ht : textS (l, x) most = (if (nextS (withinS (l, x) most).2 ((withinS (l, x) most).1 + (withinS (l, x) most).1 % 2)).2.2 ≠ 0 then ([], (nextS (withinS (l, x) most).2 ((withinS (l, x) most).1 + (withinS (l, x) most).1 % 2)).2) else if (withinS (l, x) most).1 % 2 = 1 ∧ (nextS (withinS (l, x) most).2 ((withinS (l, x) most).1 + (withinS (l, x) most).1 % 2)).1.getD (withinS (l, x) most).1 0 ≠ 0 then ([], failS (nextS (withinS (l, x) most).2 ((withinS (l, x) most).1 + (withinS (l, x) most).1 % 2)).2 4) else ((nextS (withinS (l, x) most).2 ((withinS (l, x) most).1 + (withinS (l, x) most).1 % 2)).1.take (withinS (l, x) most).1, (nextS (withinS (l, x) most).2 ((withinS (l, x) most).1 + (withinS (l, x) most).1 % 2)).2)) := rfl
  have Ht := Lib.hid ht; clear ht
  go_enter Try.func46, Try.ntmps46
  go_wp2_with fail
  refine (within_any b v l x most _ hR).mono ?_
  rintro e w1 ⟨rfl, hr⟩
  generalize withinS (l, x) most = p at *
  obtain ⟨v1, hR1, hf1, hv1⟩ := hr
  have Hv1 := Lib.hid hv1; clear hv1
  go_wp2_with fail
  refine (next_any b v1 p.2.1 p.2.2 _ (by omega) _ hR1).mono ?_
  rintro e w2 ⟨r, rfl, hs2, hb2, hr2⟩
  rw [show ((p.1 : Int) + (p.1 : Int) % 2).toNat = p.1 + p.1 % 2 by omega] at hs2 hr2
  have hlen : (nextS (p.2.1, p.2.2) (p.1 + p.1 % 2)).2.2 = 0 → (nextS (p.2.1, p.2.2) (p.1 + p.1 % 2)).1.length = p.1 + p.1 % 2 := nextS_full _ _
  have hq : nextS p.2 (p.1 + p.1 % 2) = nextS (p.2.1, p.2.2) (p.1 + p.1 % 2) := rfl
  rw [hq] at Ht
  generalize nextS (p.2.1, p.2.2) (p.1 + p.1 % 2) = q at *
  clear hq
  obtain ⟨v2, hR2, hf2, hv2⟩ := hr2
  have Hv2 := Lib.hid hv2; clear hv2
  have Hb2 := Lib.hid hb2; clear hb2
  have Hlen := Lib.hid hlen; clear hlen
  by_cases he : q.2.2 = 0
  · have he' : (q.2.2 != 0) = false := by simpa using he
    have hl := Hlen.out he
    have He := Lib.hid he; clear he Hlen
    obtain ⟨a, c, rfl, hnil⟩ := hs2.shape
    clear hnil
    have hcap := hs2.cap.2
    have hcv : (convert 23 9 (.slice a p.1 c)).run Try.prog w2 = .ok (.string ⟨(q.1.take p.1).toArray⟩) w2 := (hs2.take (by omega)).string _ _ _ Try.underlying23 Try.underlying5 Try.underlying9
    have hlq := hl
    have Hl := Lib.hid hl; clear hl
    have hle : p.1 ≤ c := by omega
    clear hcap
    by_cases hodd : p.1 % 2 = 1
    · have h1 : ((p.1 : Int) % 2 == 1) = true := by simp; omega
      rcases hs2 with ⟨h0, _⟩ | ⟨g, off, cap, e, hle2, hc⟩
      · exfalso; rw [h0] at hlq; simp at hlq; omega
      have hcell := hc p.1 (by omega)
      simp only [Value.slice.injEq] at e
      obtain ⟨rfl, _, rfl⟩ := e
      clear hc
      have hlt : p.1 < q.1.length := by omega
      have Hlq := Lib.hid hlq; clear hlq
      have Hodd := Lib.hid hodd; clear hodd
      generalize hch : q.1.getD p.1 0 = ch at *
      have Hch := Lib.hid hch; clear hch
      unfold bv at hcell
      by_cases hz : ch = 0
      · have Ht' : Hid (textS (l, x) most = (q.1.take p.1, q.2)) := Lib.hid (by rw [Ht.out, if_neg (fun h => h He.out), if_neg (fun h => h.2 hz)])
        clear Ht
        subst hz
        go_wp2_with (go_at_call 48; refine (err_any b v2 q.2.1 q.2.2 _ hR2).mono ?_; rintro e w' ⟨rfl, rfl⟩)
        go_ret
        rw [Ht'.out]
        exact ⟨rfl, Reads.trans hf1 Hv1.out ⟨v2, hR2, hf2, Hv2.out⟩⟩
      · have Ht' : Hid (textS (l, x) most = ([], failS q.2 4)) := Lib.hid (by rw [Ht.out, if_neg (fun h => h He.out), if_pos ⟨Hodd.out, hz⟩])
        clear Ht
        have hz' : ((ch.toNat : Int) != 0) = true := by
          have : ch.toNat ≠ 0 := fun h => hz (UInt8.toNat_inj.1 h)
          simp; omega
        clear hz
        go_wp2_with (first | (go_at_call 48; refine (err_any b v2 q.2.1 q.2.2 _ hR2).mono ?_; rintro e w' ⟨rfl, rfl⟩) | (go_at_call 57; refine (fail_any b v2 q.2.1 q.2.2 4 _ hR2).mono ?_; rintro e w3 ⟨rfl, hr3⟩))
        go_ret
        rw [Ht'.out]
        exact ⟨rfl, Reads.trans hf1 Hv1.out (Reads.trans hf2 Hv2.out hr3)⟩
    · have h1 : ((p.1 : Int) % 2 == 1) = false := by simp; omega
      have Ht' : Hid (textS (l, x) most = (q.1.take p.1, q.2)) := Lib.hid (by rw [Ht.out, if_neg (fun h => h He.out), if_neg (fun h => hodd h.1)])
      clear Ht
      have Hlq := Lib.hid hlq; clear hlq
      have Hodd := Lib.hid hodd; clear hodd
      go_wp2_with (go_at_call 48; refine (err_any b v2 q.2.1 q.2.2 _ hR2).mono ?_; rintro e w' ⟨rfl, rfl⟩)
      go_ret
      rw [Ht'.out]
      exact ⟨rfl, Reads.trans hf1 Hv1.out ⟨v2, hR2, hf2, Hv2.out⟩⟩
  · have Ht' : Hid (textS (l, x) most = ([], q.2)) := Lib.hid (by rw [Ht.out, if_pos he])
    clear Ht
    have he' : (q.2.2 != 0) = true := by simpa using he
    have He := Lib.hid he; clear he
    go_wp2_with (go_at_call 48; refine (err_any b v2 q.2.1 q.2.2 _ hR2).mono ?_; rintro e w' ⟨rfl, rfl⟩)
    go_ret
    rw [Ht'.out]
    exact ⟨rfl, Reads.trans hf1 Hv1.out ⟨v2, hR2, hf2, Hv2.out⟩⟩

theorem Rd.lt {w : World} {b : Nat} {v : Value} {l : List UInt8} {e : Int} (h : Rd w b v l e) : b < w.heap.size := lt_of_block h.here

theorem Rd.fr {S : Nat → Prop} {w w' : World} {b : Nat} {v : Value} {l : List UInt8} {e : Int} (h : Rd w b v l e) (hf : Fr S w w') (hb : ¬ S b) (hv : ∀ k, v.ownBlock = some k → ¬ S k) : Rd w' b v l e :=
  ⟨by rw [hf.block b (lt_of_block h.here) hb]; exact h.here, h.sees.fr hf hv, h.apart, h.clean, fun k hk => Nat.lt_of_lt_of_le (h.old k hk) hf.size⟩

/-- What a nil Reader answers. -/
theorem err_nil (w : World) : Calls Try.prog 48 #[.pointer none] w fun e w' => e = .returned (.int .i64 1) ∧ w = w' := by
  go_enter Try.func48, Try.ntmps48
  go_wp2
  go_ret
  exact ⟨rfl, rfl⟩
theorem left_nil (w : World) : Calls Try.prog 47 #[.pointer none] w fun e w' => e = .returned (.int .i64 0) ∧ w = w' := by
  go_enter Try.func47, Try.ntmps47
  go_wp2
  go_ret
  exact ⟨rfl, rfl⟩
theorem end_nil (w : World) : Calls Try.prog 27 #[.pointer none] w fun e w' => e = .returned (.int .i64 1) ∧ w = w' := by
  go_enter Try.func27, Try.ntmps27
  go_wp2_with (first | (go_at_call 47; refine (left_nil _).mono ?_; rintro e w' ⟨rfl, rfl⟩) | (go_at_call 48; refine (err_nil _).mono ?_; rintro e w' ⟨rfl, rfl⟩))
  go_ret
  exact ⟨rfl, rfl⟩
theorem rfail_nil (y : Int) (w : World) : Calls Try.prog 57 #[.pointer none, .int .i64 y] w fun e w' => e = .returned (.tuple #[]) ∧ w = w' := by
  go_enter Try.func57, Try.ntmps57
  go_wp2
  go_returns
  exact ⟨rfl, rfl⟩
theorem next_nil (k : Int) (w : World) : Calls Try.prog 56 #[.pointer none, .int .i64 k] w fun e w' => e = .returned (.slice none 0 0) ∧ w = w' := by
  go_enter Try.func56, Try.ntmps56
  go_wp2
  go_ret
  exact ⟨rfl, rfl⟩
theorem number_nil (k : Int) (w : World) : Calls Try.prog 54 #[.pointer none, .int .i64 k] w fun e w' => e = .returned (.int .u64 0) ∧ w = w' := by
  go_enter Try.func54, Try.ntmps54
  go_wp2_with (go_at_call 56; refine (next_nil _ _).mono ?_; rintro e w' ⟨rfl, rfl⟩)
  refine wp_loop_rounds 1 ?_
  rw [rounds_succ]
  go_wp2
  go_ret
  exact ⟨rfl, rfl⟩
theorem rword_nil (w : World) : Calls Try.prog 44 #[.pointer none] w fun e w' => e = .returned (.int .u16 0) ∧ w = w' := by
  go_enter Try.func44, Try.ntmps44
  go_wp2_with (go_at_call 54; refine (number_nil _ _).mono ?_; rintro e w' ⟨rfl, rfl⟩)
  go_ret
  exact ⟨rfl, rfl⟩
theorem within_nil (most : Int) (hm : 0 ≤ most) (w : World) : Calls Try.prog 55 #[.pointer none, .int .i64 most] w fun e w' => e = .returned (.int .i64 0) ∧ w = w' := by
  go_enter Try.func55, Try.ntmps55
  go_wp2_with (go_at_call 44; refine (rword_nil _).mono ?_; rintro e w' ⟨rfl, rfl⟩)
  go_ret
  exact ⟨rfl, rfl⟩
theorem rtext_nil (most : Int) (hm : 0 ≤ most) (w : World) : Calls Try.prog 46 #[.pointer none, .int .i64 most] w fun e w' => e = .returned (.string ⟨#[]⟩) ∧ w = w' := by
  go_enter Try.func46, Try.ntmps46
  go_wp2_with (first | (go_at_call 55; refine (within_nil _ hm _).mono ?_; rintro e w' ⟨rfl, rfl⟩) | (go_at_call 56; refine (next_nil _ _).mono ?_; rintro e w' ⟨rfl, rfl⟩) | (go_at_call 48; refine (err_nil _).mono ?_; rintro e w' ⟨rfl, rfl⟩))
  go_ret
  exact ⟨rfl, rfl⟩
end
section
theorem refword_any (n : Int) (h0 : 0 ≤ n) (h1 : n ≤ 65535) (w : World) :
    Calls Try.prog 29 #[.int .i64 n] w fun e w' => ∃ v, e = .returned v ∧ Made v (be2 n.toNat) w w' := by
  have e0 : n / 256 % 256 = n / 256 := by omega
  go_enter Try.func29, Try.ntmps29
  go_wp2
  go_ret
  exact ⟨.slice (some ⟨w.heap.size, 0, none⟩) 2 2, rfl, own_new2 h0 h1 w, (Fr.refl _ _).alloc _, by simp [Value.ownBlock]⟩

theorem reflong_any (n : Int) (h0 : 0 ≤ n) (h1 : n ≤ 4294967295) (w : World) :
    Calls Try.prog 30 #[.int .u32 n] w fun e w' => ∃ v, e = .returned v ∧ Made v (be4 n.toNat) w w' := by
  obtain ⟨i0, hi, hz0, hz1, hz2⟩ := info_parts Try.infoU8
  go_enter Try.func30, Try.ntmps30
  go_wp2_with fail
  refine (refword_any _ (by omega) (by omega) _).mono ?_
  rintro e w1 ⟨v1, rfl, m1⟩
  have e1 : (n / 65536).toNat = n.toNat / 65536 := by omega
  have e2 : (n % 65536).toNat = n.toNat % 65536 := by omega
  rw [e1] at m1
  clear e1
  have E2 := Lib.hid e2; clear e2
  go_wp2_with fail
  refine (refword_any _ (by omega) (by omega) _).mono ?_
  rintro e w2 ⟨v2, rfl, m2⟩
  rw [E2.out] at m2
  obtain ⟨o2, f2, k2⟩ := m2
  have o1 := m1.1.fr f2 (fun _ _ h => h)
  have hl2 := o2.sees.shape
  obtain ⟨a2, c2, rfl, hn2⟩ := hl2
  clear hn2
  have K2 := Lib.hid k2; clear k2
  go_wp2_with (at_builtin; refine wpList_append_sep rfl (.tmp 6) (.tmp 10) 23 23 rfl 0 5 i0 (.int .u8 0) 1 1 Try.underlying23 _ Try.underlying23 (.inr ⟨_, rfl⟩) hi hz0 hz1 hz2 rfl (by decide) v1 _ _ rfl o1 _ 2 ((be2 (n.toNat % 65536)).map bv) rfl (lenOf_slice _ _ _) rfl (by exact o2.sees.first) (by exact o2.sees.drew.first) (bv_one _) ?b1 ?b2 (Nat.zero_le _) ?grow)
  case b1 => rw [be2_length]; unfold maxLen; omega
  case b2 => rw [be2_length]; omega
  case grow =>
    intro v' w3 hown hg hv
    have m := Made.append m1 f2 rfl hown hg hv
    clear hown hg hv
    go_wp2
    go_ret
    exact ⟨v', rfl, m⟩
end
section
/-- A Writer just made. -/
theorem wr_new (w : World) : Wr (w.alloc (.cells #[.slice none 0 0] 60)) w.heap.size (.slice none 0 0) [] :=
  ⟨heap_alloc_new w _, World.ownsRow_nil _ _ _ _, by simp [Value.ownBlock]⟩

theorem Wrote.fresh {b : Nat} {v : Value} {l : List UInt8} {w0 w w' : World} (h : Wrote b v l w w') (hf : Fr (fun _ => False) w0 w) (hb : w0.heap.size ≤ b) (hv : ∀ k, v.ownBlock = some k → w0.heap.size ≤ k) :
    ∃ v', Wr w' b v' l ∧ Fr (fun _ => False) w0 w' ∧ (∀ k, v'.ownBlock = some k → w0.heap.size ≤ k) := by
  obtain ⟨v', h1, h2, h3⟩ := h
  refine ⟨v', h1, hf.trans h2 ?_, ?_⟩
  · rintro i hi (rfl | e)
    · omega
    · have := hv i e; omega
  · intro k hk
    rcases h3 with e | e
    · exact hv k (e ▸ hk)
    · have := e k hk; have := hf.size; omega

theorem reftext_any (s : ByteArray) (hs : s.size ≤ 65535) (w : World) :
    Calls Try.prog 31 #[.string s] w fun e w' => ∃ v, e = .returned v ∧ Made v (txt s.data.toList) w w' := by
  obtain ⟨i0, hi, hz0, hz1, hz2⟩ := info_parts Try.infoU8
  go_enter Try.func31, Try.ntmps31
  go_wp2_with fail
  refine (refword_any _ (by omega) (by omega) _).mono ?_
  rintro e w1 ⟨v1, rfl, m1⟩
  have o1 := m1.1
  go_wp2_with (at_builtin; refine wpList_append_sep rfl (.tmp 6) (.tmp 7) 23 9 rfl 0 5 i0 (.int .u8 0) 1 1 Try.underlying23 _ Try.underlying9 (.inl rfl) hi hz0 hz1 hz2 rfl (by decide) v1 _ _ rfl o1 _ s.size (s.data.toList.map bv) rfl (lenOf_string _) (bv_length s) (string_first _ _) (string_first _ _) (bv_one _) ?b1 ?b2 (Nat.zero_le _) ?grow)
  case b1 => rw [be2_length]; unfold maxLen; omega
  case b2 => rw [be2_length]; omega
  case grow =>
    intro v2 w2 hown hg hv
    have m2 : Made v2 (be2 (s.size : Int).toNat ++ s.data.toList) w w2 := Made.append m1 (Fr.refl _ _) rfl hown hg hv
    have hlen : (be2 (s.size : Int).toNat ++ s.data.toList).length = 2 + s.size := by rw [List.length_append]; rfl
    have Hlen := Lib.hid hlen; clear hlen
    generalize hl2 : be2 (s.size : Int).toNat ++ s.data.toList = l2 at *
    have Hl2 := Lib.hid hl2; clear hl2
    have o2 := m2.1
    clear hown hg hv o1 m1
    by_cases hodd : s.size % 2 = 1
    · have h21 : ((s.size : Int) % 2 == 1) = true := by simp; omega
      go_wp2_with (at_builtin; refine wpList_append_sep rfl (.tmp 13) (.tmp 14) 23 23 rfl 0 5 i0 (.int .u8 0) 1 1 Try.underlying23 _ Try.underlying23 (.inr ⟨_, rfl⟩) hi hz0 hz1 hz2 rfl (by decide) v2 _ _ rfl (World.ownsRow.alloc o2 _) _ 1 ([0].map bv) rfl (lenOf_slice _ _ _) rfl (by exact zero_new _) (by exact zero_new w2.drew) (bv_one _) ?b1 ?b2 (Nat.zero_le _) ?grow)
      case b1 => rw [Hlen.out]; unfold maxLen; omega
      case b2 => rw [Hlen.out]; omega
      case grow =>
        intro v3 w3 hown hg hv
        have m3 : Made v3 (l2 ++ [0]) w w3 := Made.append m2 ((Fr.refl _ _).alloc _) rfl hown hg (by simpa using hv)
        clear hown hg hv
        go_wp2
        go_ret
        refine ⟨v3, rfl, ?_⟩
        have e := txt_odd [] s hodd
        rw [List.nil_append, List.nil_append, Hl2.out] at e
        rw [e]
        exact m3
    · have h21 : ((s.size : Int) % 2 == 1) = false := by simp; omega
      go_wp2
      go_ret
      refine ⟨v2, rfl, ?_⟩
      have e := txt_even [] s hodd
      rw [List.nil_append, List.nil_append, Hl2.out] at e
      rw [e]
      exact m2

/-- Two Writers that share no memory. -/
structure Off (b : Nat) (v : Value) (b' : Nat) (v' : Value) : Prop where
  ne : b ≠ b'
  own1 : v.ownBlock ≠ some b'
  own2 : v'.ownBlock ≠ some b
  both : ∀ k, v.ownBlock = some k → v'.ownBlock ≠ some k

theorem Off.symm {b : Nat} {v : Value} {b' : Nat} {v' : Value} (h : Off b v b' v') : Off b' v' b v :=
  ⟨fun e => h.ne e.symm, h.own2, h.own1, fun k hk e => h.both k e hk⟩

theorem Wr.lt {w : World} {b : Nat} {v : Value} {l : List UInt8} (h : Wr w b v l) : b < w.heap.size ∧ ∀ k, v.ownBlock = some k → k < w.heap.size := ⟨lt_of_block h.here, h.own.lt⟩

theorem Wr.fr {S : Nat → Prop} {w w' : World} {b : Nat} {v : Value} {l : List UInt8} (h : Wr w b v l) (hf : Fr S w w') (hb : ¬ S b) (hv : ∀ k, v.ownBlock = some k → ¬ S k) : Wr w' b v l :=
  ⟨by rw [hf.block b (lt_of_block h.here) hb]; exact h.here, h.own.fr hf hv, h.apart⟩

theorem Off.wrote {w : World} {b b' : Nat} {v v1 v' : Value} {l' : List UInt8} (h : Off b v b' v') (hB : Wr w b' v' l') (hv : v1.ownBlock = v.ownBlock ∨ ∀ k, v1.ownBlock = some k → w.heap.size ≤ k) : Off b v1 b' v' := by
  obtain ⟨h1, h2⟩ := hB.lt
  rcases hv with e | e
  · exact ⟨h.ne, by rw [e]; exact h.own1, h.own2, by rw [e]; exact h.both⟩
  · exact ⟨h.ne, fun hk => by have := e _ hk; omega, h.own2, fun k hk hk' => by have := e k hk; have := h2 k hk'; omega⟩

theorem Wr.other {w w1 : World} {b b' : Nat} {v v' : Value} {l' : List UInt8} (hB : Wr w b' v' l') (h : Off b v b' v') (hf : Fr (fun k => k = b ∨ v.ownBlock = some k) w w1) : Wr w1 b' v' l' :=
  hB.fr hf (by rintro (e | e); exact h.ne e.symm; exact h.own1 e) (by rintro k hk (e | e); exact h.own2 (e ▸ hk); exact h.both k e hk)

/-- One of two Writers made since w0 was written to: the other one stands as it was. -/
theorem Wrote.two {w0 w w' : World} {b b' : Nat} {v v' : Value} {l l' : List UInt8} (h : Wrote b v l w w') (hO : Off b v b' v') (hB : Wr w b' v' l') (g : Fr (fun _ => False) w0 w) (hb : w0.heap.size ≤ b) (hv : ∀ k, v.ownBlock = some k → w0.heap.size ≤ k) :
    ∃ v1, Wr w' b v1 l ∧ Off b v1 b' v' ∧ Wr w' b' v' l' ∧ Fr (fun _ => False) w0 w' ∧ ∀ k, v1.ownBlock = some k → w0.heap.size ≤ k := by
  obtain ⟨v1, h1, h2, h3⟩ := h
  refine ⟨v1, h1, hO.wrote hB h3, hB.other hO h2, g.trans h2 ?_, ?_⟩
  · rintro i hi (e | e)
    · omega
    · have := hv i e; omega
  · intro k hk
    rcases h3 with e | e
    · exact hv k (e ▸ hk)
    · have := e k hk; have := g.size; omega

theorem Fr.trans0 {a b c : World} (h : Fr (fun _ => False) a b) (k : Fr (fun _ => False) b c) : Fr (fun _ => False) a c := h.trans k (fun _ _ h => h)

/-- Bytes, as it is used in 'string(w.Bytes())': what the slice reads as a string, in whatever later world. -/
theorem bytes_str (b : Nat) (v : Value) (l : List UInt8) (w w0 : World) (h : Wr w0 b v l) (hf : Fr (fun _ => False) w0 w) (hl : l.length ≤ 2000000000) :
    Calls Try.prog 23 #[.pointer (some ⟨b, 0, none⟩)] w fun e w' => ∃ v', e = .returned v' ∧ Fr (fun _ => False) w w' ∧ Fr (fun _ => False) w0 w' ∧
      (convert 23 9 v').run Try.prog w' = .ok (.string ⟨l.toArray⟩) w' ∧ (∀ W, Fr (fun _ => False) w' W → (convert 23 9 v').run Try.prog W = .ok (.string ⟨l.toArray⟩) W) := by
  refine (bytes_any b v l w (h.fr hf (fun h => h) (fun _ _ h => h)) hl).mono ?_
  rintro e w1 ⟨v', rfl, ho, hf1, _⟩
  have hs : ∀ W, Fr (fun _ => False) w1 W → (convert 23 9 v').run Try.prog W = .ok (.string ⟨l.toArray⟩) W := fun W hW =>
    (ho.sees.fr hW (fun _ _ h => h)).string _ _ _ Try.underlying23 Try.underlying5 Try.underlying9
  exact ⟨v', rfl, hf1, hf.trans0 hf1, hs w1 (Fr.refl _ _), hs⟩

/-! What a Reader takes of bytes that begin as a Writer laid them. -/

theorem nextS_pre (p rest : List UInt8) (e : Int) : nextS (p ++ rest, e) p.length = (p, (rest, e)) := by
  unfold nextS
  rw [if_neg (by simp)]
  simp

theorem numS_be2 (n : Nat) (h : n < 65536) (rest : List UInt8) (e : Int) : numS (be2 n ++ rest, e) 2 = (n, (rest, e)) := by
  unfold numS
  rw [show (2 : Nat) = (be2 n).length from rfl, nextS_pre, beNum_be2 n h]
theorem numS_be4 (n : Nat) (h : n < 4294967296) (rest : List UInt8) (e : Int) : numS (be4 n ++ rest, e) 4 = (n, (rest, e)) := by
  unfold numS
  rw [show (4 : Nat) = (be4 n).length from rfl, nextS_pre, beNum_be4 n h]
theorem numS_be8 (n : Nat) (h : n < 18446744073709551616) (rest : List UInt8) (e : Int) : numS (be8 n ++ rest, e) 8 = (n, (rest, e)) := by
  unfold numS
  rw [show (8 : Nat) = (be8 n).length from rfl, nextS_pre, beNum_be8 n h]

theorem withinS_be2 (n : Nat) (h : n < 65536) (rest : List UInt8) (most : Int) (hm : (n : Int) ≤ most) (e : Int) : withinS (be2 n ++ rest, e) most = (n, (rest, e)) := by
  unfold withinS
  rw [numS_be2 n h, if_neg (by show ¬ most < (n : Int); omega)]

theorem textS_txt (s rest : List UInt8) (h : s.length < 65536) (most : Int) (hm : (s.length : Int) ≤ most) : textS (txt s ++ rest, 0) most = (s, (rest, 0)) := by
  unfold textS txt
  have hw : withinS (be2 s.length ++ s ++ (if s.length % 2 = 1 then [0] else []) ++ rest, 0) most = (s.length, (s ++ (if s.length % 2 = 1 then [0] else []) ++ rest, 0)) := by
    rw [List.append_assoc, List.append_assoc, withinS_be2 s.length h _ most hm, List.append_assoc]
  rw [hw]
  by_cases ho : s.length % 2 = 1
  · rw [if_pos ho]
    have hn : nextS (s ++ [0] ++ rest, 0) (s.length + s.length % 2) = (s ++ [0], (rest, 0)) := by
      rw [ho, show s.length + 1 = (s ++ [(0 : UInt8)]).length by simp, nextS_pre]
    simp only [hn]
    simp
  · rw [if_neg ho]
    have hn : nextS (s ++ [] ++ rest, 0) (s.length + s.length % 2) = (s, (rest, 0)) := by
      rw [show s.length % 2 = 0 by omega, Nat.add_zero, List.append_nil, nextS_pre]
    simp only [hn]
    simp [ho]

theorem txt_length (s : List UInt8) : (txt s).length = 2 + s.length + s.length % 2 := by
  unfold txt
  rw [List.length_append, List.length_append, be2_length]
  split
  · simp; omega
  · simp; omega

theorem str_of (s : ByteArray) : (⟨s.data.toList.toArray⟩ : ByteArray) = s := by simp
end
section
theorem nextS_two (l : List UInt8) (e : Int) (k : Nat) (hc : e ≠ 0 → l = []) :
    ((nextS (l, e) k).2.2 = 0 ∧ e = 0 ∧ k ≤ l.length ∧ (nextS (l, e) k).1 = l.take k ∧ (nextS (l, e) k).2.1 = l.drop k) ∨
    ((nextS (l, e) k).2.2 ≠ 0 ∧ (nextS (l, e) k).2.1 = [] ∧ (nextS (l, e) k).1 = [] ∧ (e ≠ 0 → (nextS (l, e) k).2.2 = e)) := by
  unfold nextS failS
  by_cases he : e = 0
  · subst he
    by_cases hk : l.length < k
    · right; simp [hk]
    · left; simp [hk]; omega
  · have hl := hc he
    subst hl
    right
    by_cases hk : (0 : Nat) < k
    · simp [hk, he]
    · simp [hk, he]

theorem numS_two (l : List UInt8) (e : Int) (k : Nat) (hc : e ≠ 0 → l = []) :
    ((numS (l, e) k).2.2 = 0 ∧ e = 0 ∧ k ≤ l.length ∧ (numS (l, e) k).1 = beNum (l.take k) ∧ (numS (l, e) k).2.1 = l.drop k) ∨
    ((numS (l, e) k).2.2 ≠ 0 ∧ (numS (l, e) k).2.1 = [] ∧ (numS (l, e) k).1 = 0 ∧ (e ≠ 0 → (numS (l, e) k).2.2 = e)) := by
  unfold numS
  rcases nextS_two l e k hc with ⟨h1, h2, h3, h4, h5⟩ | ⟨h1, h2, h3, h4⟩
  · left; exact ⟨h1, h2, h3, by rw [h4], h5⟩
  · right; exact ⟨h1, h2, by rw [h3]; rfl, h4⟩

theorem withinS_two (l : List UInt8) (e : Int) (most : Int) (hc : e ≠ 0 → l = []) :
    ((withinS (l, e) most).2.2 = 0 ∧ e = 0 ∧ 2 ≤ l.length ∧ (withinS (l, e) most).1 = beNum (l.take 2) ∧ ((withinS (l, e) most).1 : Int) ≤ most ∧ (withinS (l, e) most).2.1 = l.drop 2) ∨
    ((withinS (l, e) most).2.2 ≠ 0 ∧ (withinS (l, e) most).2.1 = [] ∧ (withinS (l, e) most).1 = 0 ∧ (e ≠ 0 → (withinS (l, e) most).2.2 = e)) := by
  unfold withinS
  rcases numS_two l e 2 hc with ⟨h1, h2, h3, h4, h5⟩ | ⟨h1, h2, h3, h4⟩
  · by_cases hm : most < ((numS (l, e) 2).1 : Int)
    · right
      rw [if_pos hm]
      subst h2
      unfold failS
      simp [h1]
    · left
      rw [if_neg hm]
      exact ⟨h1, h2, h3, h4, by omega, h5⟩
  · right
    by_cases hm : most < ((numS (l, e) 2).1 : Int)
    · rw [if_pos hm]
      unfold failS
      simp [h1, h2]
      exact h4
    · rw [if_neg hm]
      exact ⟨h1, h2, h3, h4⟩

theorem textS_two (l : List UInt8) (e : Int) (most : Int) (hc : e ≠ 0 → l = []) :
    ((textS (l, e) most).2.2 = 0 ∧ e = 0 ∧ l = txt (textS (l, e) most).1 ++ (textS (l, e) most).2.1 ∧ ((textS (l, e) most).1.length : Int) ≤ most ∧ (textS (l, e) most).1.length < 65536) ∨
    ((textS (l, e) most).2.2 ≠ 0 ∧ (textS (l, e) most).2.1 = [] ∧ (textS (l, e) most).1 = [] ∧ (e ≠ 0 → (textS (l, e) most).2.2 = e)) := by
  have hsm := withinS_small (l, e) most
  have ht : textS (l, e) most = (if (nextS ((withinS (l, e) most).2.1, (withinS (l, e) most).2.2) ((withinS (l, e) most).1 + (withinS (l, e) most).1 % 2)).2.2 ≠ 0 then ([], (nextS ((withinS (l, e) most).2.1, (withinS (l, e) most).2.2) ((withinS (l, e) most).1 + (withinS (l, e) most).1 % 2)).2) else if (withinS (l, e) most).1 % 2 = 1 ∧ (nextS ((withinS (l, e) most).2.1, (withinS (l, e) most).2.2) ((withinS (l, e) most).1 + (withinS (l, e) most).1 % 2)).1.getD (withinS (l, e) most).1 0 ≠ 0 then ([], failS (nextS ((withinS (l, e) most).2.1, (withinS (l, e) most).2.2) ((withinS (l, e) most).1 + (withinS (l, e) most).1 % 2)).2 4) else ((nextS ((withinS (l, e) most).2.1, (withinS (l, e) most).2.2) ((withinS (l, e) most).1 + (withinS (l, e) most).1 % 2)).1.take (withinS (l, e) most).1, (nextS ((withinS (l, e) most).2.1, (withinS (l, e) most).2.2) ((withinS (l, e) most).1 + (withinS (l, e) most).1 % 2)).2)) := rfl
  have hw := withinS_two l e most hc
  rw [ht]
  clear ht
  generalize withinS (l, e) most = p at *
  have hn := nextS_two p.2.1 p.2.2 (p.1 + p.1 % 2) (by
    intro h
    rcases hw with ⟨h1, _⟩ | ⟨_, h2, _⟩
    · exact absurd h1 h
    · exact h2)
  generalize nextS (p.2.1, p.2.2) (p.1 + p.1 % 2) = r at *
  rcases hn with ⟨n1, n2, n3, n4, n5⟩ | ⟨n1, n2, n3, n4⟩
  · rcases hw with ⟨w1, w2, w3, w4, w5, w6⟩ | ⟨w1, _⟩
    · by_cases hpad : p.1 % 2 = 1 ∧ r.1.getD p.1 0 ≠ 0
      · right
        rw [if_neg (by simpa using n1), if_pos hpad]
        unfold failS
        simp [n1, w2]
      · left
        rw [if_neg (by simpa using n1), if_neg hpad]
        have hlen : (r.1.take p.1).length = p.1 := by rw [n4]; simp; omega
        refine ⟨n1, w2, ?_, by rw [hlen]; exact w5, by rw [hlen]; exact hsm⟩
        show l = txt (r.1.take p.1) ++ r.2.1
        have e1 : l = l.take 2 ++ p.2.1 := by rw [w6, List.take_append_drop]
        have e2 : p.2.1 = r.1 ++ r.2.1 := by rw [n4, n5, List.take_append_drop]
        have e3 : be2 p.1 = l.take 2 := by rw [w4]; exact be2_beNum _ (by simp; omega)
        have e4 : r.1 = r.1.take p.1 ++ (if p.1 % 2 = 1 then [0] else []) := by
          have hr : r.1.length = p.1 + p.1 % 2 := by rw [n4]; simp; omega
          by_cases ho : p.1 % 2 = 1
          · rw [if_pos ho]
            have hz : r.1.getD p.1 0 = 0 := by
              by_cases hz : r.1.getD p.1 0 = 0
              · exact hz
              · exact absurd ⟨ho, hz⟩ hpad
            have hlt : p.1 < r.1.length := by omega
            have e5 : r.1.drop p.1 = [0] := by
              rw [List.drop_eq_getElem_cons hlt, List.drop_eq_nil_of_le (by omega)]
              simp [List.getD, hlt] at hz
              rw [hz]
            conv => lhs; rw [← List.take_append_drop p.1 r.1, e5]
          · rw [if_neg ho, List.append_nil, List.take_of_length_le (by omega)]
        unfold txt
        rw [hlen, e3, List.append_assoc, List.append_assoc]
        conv => lhs; rw [e1, e2]
        conv => lhs; rw [e4]
        rw [List.append_assoc]
    · exact absurd n2 w1
  · right
    rw [if_pos n1]
    refine ⟨n1, n2, rfl, ?_⟩
    intro he
    rcases hw with ⟨_, w2, _⟩ | ⟨w1, _, _, w4⟩
    · exact absurd w2 he
    · show r.2.2 = e
      rw [n4 w1, w4 he]
end
section
set_option maxRecDepth 100000

abbrev nilS : Value := .slice none 0 0
abbrev pv (f k p m : Int) (v : Value) : Value := .agg #[.int .i64 f, .int .u32 k, .int .i64 p, .int .i64 m, v]
abbrev oPv (f k p m : Int) (v : Value) : Obj := Obj.cells #[.int .i64 f, .int .u32 k, .int .i64 p, .int .i64 m, v] 29 (0, 0)

theorem new_two (w : World) (A B : Obj) : ((w.alloc A).alloc B).heap[w.heap.size + 1]? = some B := by
  have := heap_alloc_new (w.alloc A) B
  rw [World.size_alloc] at this
  exact this

theorem crow_kept {S : Nat → Prop} {w0 w1 : World} {b : Nat} {o : Obj} (h : w0.heap[b]? = some o) (f : Fr S w0 w1) (hb : ¬ S b) : w1.heap[b]? = some o := by
  rw [f.block b (Array.getElem?_eq_some_iff.1 h).1 hb]; exact h
theorem crow {w : World} {b : Nat} {cs : Array Value} {t : TypeId} (h : w.heap[b]? = some (.cells cs t (0, 0))) (i : Nat) (u : Value) (hu : cs[i]? = some u) : w.cell? ⟨b, i, none⟩ = some u := by
  rw [cell_of_row w b i cs t _ h]; exact hu
theorem vt_lt {w : World} {b : Nat} {o : Obj} (h : w.heap[b]? = some o) : b < w.heap.size := (Array.getElem?_eq_some_iff.1 h).1
theorem vfree {w : World} {g : Nat} {cs : Array Value} {t : TypeId} (h : w.heap[g]? = some (.cells cs t (0, 0))) (i : Nat) : w.frozen? ⟨g, i, none⟩ = false := by
  simp [World.frozen?, h]

theorem cst5 {w : World} {b : Nat} {x0 x1 x2 x3 x4 y0 y1 y2 y3 y4 : Value} {t : TypeId} (h : w.heap[b]? = some (.cells #[x0, x1, x2, x3, x4] t (0, 0))) :
    (((((w.setCell ⟨b, 0, none⟩ y0).setCell ⟨b, 1, none⟩ y1).setCell ⟨b, 2, none⟩ y2).setCell ⟨b, 3, none⟩ y3).setCell ⟨b, 4, none⟩ y4).heap[b]? = some (.cells #[y0, y1, y2, y3, y4] t (0, 0)) := by
  have h0 : (w.setCell ⟨b, 0, none⟩ y0).heap[b]? = some (.cells #[y0, x1, x2, x3, x4] t (0, 0)) := by rw [heap_setCell_same w b 0 _ t y0 h]; rfl
  have h1 : ((w.setCell ⟨b, 0, none⟩ y0).setCell ⟨b, 1, none⟩ y1).heap[b]? = some (.cells #[y0, y1, x2, x3, x4] t (0, 0)) := by rw [heap_setCell_same _ b 1 _ t y1 h0]; rfl
  have h2 : (((w.setCell ⟨b, 0, none⟩ y0).setCell ⟨b, 1, none⟩ y1).setCell ⟨b, 2, none⟩ y2).heap[b]? = some (.cells #[y0, y1, y2, x3, x4] t (0, 0)) := by rw [heap_setCell_same _ b 2 _ t y2 h1]; rfl
  have h3 : ((((w.setCell ⟨b, 0, none⟩ y0).setCell ⟨b, 1, none⟩ y1).setCell ⟨b, 2, none⟩ y2).setCell ⟨b, 3, none⟩ y3).heap[b]? = some (.cells #[y0, y1, y2, y3, x4] t (0, 0)) := by rw [heap_setCell_same _ b 3 _ t y3 h2]; rfl
  rw [heap_setCell_same _ b 4 _ t y4 h3]; rfl
theorem cfr5 {w : World} {b : Nat} (y0 y1 y2 y3 y4 : Value) {S : Nat → Prop} {w0 : World} (f : Fr S w0 w) (hb : b < w0.heap.size → S b) :
    Fr S w0 (((((w.setCell ⟨b, 0, none⟩ y0).setCell ⟨b, 1, none⟩ y1).setCell ⟨b, 2, none⟩ y2).setCell ⟨b, 3, none⟩ y3).setCell ⟨b, 4, none⟩ y4) :=
  ((((f.setCell (p := ⟨b, 0, none⟩) hb _).setCell (p := ⟨b, 1, none⟩) hb _).setCell (p := ⟨b, 2, none⟩) hb _).setCell (p := ⟨b, 3, none⟩) hb _).setCell (p := ⟨b, 4, none⟩) hb _

theorem par_cells {w : World} {g : Nat} {x0 x1 x2 x3 x4 : Value} {T : TypeId} (h : w.heap[g]? = some (Obj.cells #[x0, x1, x2, x3, x4] T (0, 0))) :
    w.cell? ⟨g, 0, none⟩ = some x0 ∧ w.cell? ⟨g, 1, none⟩ = some x1 ∧ w.cell? ⟨g, 2, none⟩ = some x2 ∧ w.cell? ⟨g, 3, none⟩ = some x3 ∧ w.cell? ⟨g, 4, none⟩ = some x4 := by
  simp [World.cell?, h]
theorem par_free {w : World} {g : Nat} {cs : Array Value} {t : TypeId} (h : w.heap[g]? = some (.cells cs t (0, 0))) :
    w.frozen? ⟨g, 0, none⟩ = false ∧ w.frozen? ⟨g, 1, none⟩ = false ∧ w.frozen? ⟨g, 2, none⟩ = false ∧ w.frozen? ⟨g, 3, none⟩ = false ∧ w.frozen? ⟨g, 4, none⟩ = false :=
  ⟨vfree h 0, vfree h 1, vfree h 2, vfree h 3, vfree h 4⟩

/-- A parcel's first error. -/
def pchk (f p m : Int) (n : Nat) : Int :=
  if (0 ≤ f ∧ f < 16) ∧ 1 ≤ m ∧ m ≤ 100 ∧ 0 ≤ p ∧ p < m then (if 48 < n then 6 else if n < 48 ∧ p < m - 1 then 6 else if n = 0 ∧ 1 < m then 6 else 0) else 2

def nodeB (n : Int) : Bool := decide (0 ≤ n ∧ n < 16)

theorem node_any (n : Int) (w : World) : Calls Try.prog 28 #[.int .i64 n] w fun e w' => e = .returned (.bool (nodeB n)) ∧ w = w' := by
  by_cases h0 : 0 ≤ n
  · by_cases h1 : n < 16
    · have hr : nodeB n = true := by simp [nodeB, h0, h1]
      rw [hr]
      go_enter Try.func28, Try.ntmps28
      go_wp2_with fail
      go_ret
      exact ⟨rfl, rfl⟩
    · have hr : nodeB n = false := by simp [nodeB, h1]
      rw [hr]
      go_enter Try.func28, Try.ntmps28
      go_wp2_with fail
      go_ret
      exact ⟨rfl, rfl⟩
  · have hr : nodeB n = false := by simp [nodeB, h0]
    rw [hr]
    go_enter Try.func28, Try.ntmps28
    go_wp2_with fail
    go_ret
    exact ⟨rfl, rfl⟩

theorem pcheck_any (f k p m : Int) (a : Option Addr) (n c : Nat) (w : World) :
    Calls Try.prog 12 #[pv f k p m (.slice a n c)] w fun e w' => e = .returned (.int .i64 (pchk f p m n)) ∧ Fr (fun _ => False) w w' := by
  have q0 := heap_alloc_new w (oPv f k p m (.slice a n c))
  have f0 : Fr (fun _ => False) w (w.alloc (oPv f k p m (.slice a n c))) := (Fr.refl _ _).alloc _
  obtain ⟨R, hR⟩ : ∃ R, R = pchk f p m n := ⟨_, rfl⟩
  rw [← hR]
  have HR := Lib.hid hR
  clear hR
  go_enter Try.func12, Try.ntmps12
  go_upto_region 1 with fail
  generalize w.alloc (oPv f k p m (.slice a n c)) = w0 at *
  generalize w.heap.size = g at *
  have F := Lib.hid f0
  clear f0
  obtain ⟨c0, c1, c2, c3, c4⟩ := par_cells q0
  go_wp2_with fail
  refine (node_any f w0).mono ?_
  rintro e w1 ⟨rfl, rfl⟩
  by_cases hf : 0 ≤ f ∧ f < 16
  case neg =>
    have hn : nodeB f = false := by simp only [nodeB, decide_eq_false_iff_not]; exact hf
    obtain rfl : R = 2 := by rw [HR.out]; unfold pchk; rw [if_neg (fun h => hf h.1)]
    rw [hn]
    clear hn hf
    go_wp2_with fail
    go_ret
    exact ⟨rfl, F.out⟩
  have hn : nodeB f = true := by simp only [nodeB, decide_eq_true_eq]; exact hf
  rw [hn]
  clear hn
  have HF := Lib.hid hf
  clear hf
  by_cases hm1 : m < 1
  case pos =>
    obtain rfl : R = 2 := by rw [HR.out]; unfold pchk; rw [if_neg (fun h => by omega)]
    go_wp2_with fail
    go_ret
    exact ⟨rfl, F.out⟩
  by_cases hm2 : 100 < m
  case pos =>
    obtain rfl : R = 2 := by rw [HR.out]; unfold pchk; rw [if_neg (fun h => by omega)]
    go_wp2_with fail
    go_ret
    exact ⟨rfl, F.out⟩
  by_cases hp1 : p < 0
  case pos =>
    obtain rfl : R = 2 := by rw [HR.out]; unfold pchk; rw [if_neg (fun h => by omega)]
    go_wp2_with fail
    go_ret
    exact ⟨rfl, F.out⟩
  by_cases hp2 : m ≤ p
  case pos =>
    obtain rfl : R = 2 := by rw [HR.out]; unfold pchk; rw [if_neg (fun h => by omega)]
    go_wp2_with fail
    go_ret
    exact ⟨rfl, F.out⟩
  have hr : R = (if 48 < n then 6 else if n < 48 ∧ p < m - 1 then 6 else if n = 0 ∧ 1 < m then 6 else 0) := by
    rw [HR.out]; unfold pchk; rw [if_pos ⟨HF.out, by omega, by omega, by omega, by omega⟩]
  by_cases h1 : 48 < n
  case pos =>
    rw [if_pos h1] at hr
    subst hr
    have h1' : (48 : Int) < (n : Int) := by omega
    clear h1
    go_wp2_with fail
    go_ret
    exact ⟨rfl, F.out⟩
  rw [if_neg h1] at hr
  have h1' : ¬ (48 : Int) < (n : Int) := by omega
  by_cases h2 : n < 48
  case pos =>
    have h2' : (n : Int) < 48 := by omega
    by_cases h3 : p < m - 1
    case pos =>
      rw [if_pos ⟨h2, h3⟩] at hr
      subst hr
      clear h1 h2
      go_wp2_with fail
      go_ret
      exact ⟨rfl, F.out⟩
    rw [if_neg (fun h => h3 h.2)] at hr
    by_cases h4 : n = 0
    case pos =>
      subst h4
      by_cases h5 : 1 < m
      case pos =>
        rw [if_pos ⟨rfl, h5⟩] at hr
        subst hr
        clear h1 h2 h1' h2'
        go_wp2_with fail
        go_ret
        exact ⟨rfl, F.out⟩
      rw [if_neg (fun h => h5 h.2)] at hr
      subst hr
      clear h1 h2 h1' h2'
      go_wp2_with fail
      go_ret
      exact ⟨rfl, F.out⟩
    rw [if_neg (fun h => h4 h.1)] at hr
    subst hr
    have h4' : ((n : Int) == 0) = false := by simp; omega
    clear h1 h2 h4
    go_wp2_with fail
    go_ret
    exact ⟨rfl, F.out⟩
  have h2' : ¬ (n : Int) < 48 := by omega
  rw [if_neg (fun h => h2 h.1), if_neg (fun h => by omega)] at hr
  subst hr
  have h4' : ((n : Int) == 0) = false := by simp; omega
  clear h1 h2
  go_wp2_with fail
  go_ret
  exact ⟨rfl, F.out⟩
end
end Go.Proofs.Ytjegdbkkojaacaa
