/-
  LetAny, part 2 of what it rests on: Reader, RefLong, Ref, Call, CallChk, CallPut.
-/
import Derived.Test.YtjnbpgadgdjobaaS01
import Derived.LoopN
import Derived.Deep.LoopGhost
set_option linter.unusedVariables false
set_option linter.unusedSimpArgs false
set_option maxHeartbeats 64000000
namespace Go.Proofs.Ytjnbpgadgdjobaa
open Go.RowKit
open Go.Lib (hid)
section
/-- Block b is a Reader of the bytes l, with the error e. -/
structure Rd (w : World) (b : Nat) (v : Value) (l : List UInt8) (e : Int) : Prop where
  here : w.heap[b]? = some (.cells #[v, .int .i64 e] 102 (0, 0))
  sees : Sees w v l
  apart : v.ownBlock ≠ some b
  clean : e ≠ 0 → l = []
  old : ∀ k, v.ownBlock = some k → k < w.heap.size

theorem cell_of_two {w : World} {b : Nat} {v u : Value} {t : TypeId} (h : w.heap[b]? = some (.cells #[v, u] t (0, 0))) : w.cell? ⟨b, 0, none⟩ = some v ∧ w.cell? ⟨b, 1, none⟩ = some u ∧ w.frozen? ⟨b, 0, none⟩ = false ∧ w.frozen? ⟨b, 1, none⟩ = false := by
  simp [World.cell?, World.frozen?, h]

theorem two_setCell0 {w : World} {b : Nat} {v u : Value} {t : TypeId} (h : w.heap[b]? = some (.cells #[v, u] t (0, 0))) (x : Value) : (w.setCell ⟨b, 0, none⟩ x).heap[b]? = some (.cells #[x, u] t (0, 0)) := by
  rw [heap_setCell_same w b 0 _ t x h]; rfl
theorem two_setCell1 {w : World} {b : Nat} {v u : Value} {t : TypeId} (h : w.heap[b]? = some (.cells #[v, u] t (0, 0))) (x : Value) : (w.setCell ⟨b, 1, none⟩ x).heap[b]? = some (.cells #[v, x] t (0, 0)) := by
  rw [heap_setCell_same w b 1 _ t x h]; rfl

theorem clone_any (v : Value) (l : List UInt8) (w : World) (h : Sees w v l) (hl : l.length ≤ 2000000000) :
    Calls Try.prog 47 #[v] w fun e w' => ∃ v', e = .returned v' ∧ Own w' v' l ∧ Fr (fun _ => False) w w' ∧ (∀ k, v'.ownBlock = some k → w.heap.size ≤ k) := by
  obtain ⟨i0, hi, hz0, hz1, hz2⟩ := info_parts Try.infoU8
  obtain ⟨a, c, rfl, hn⟩ := h.shape
  have q1 : ∀ (w : World) (a : Option Addr) (n c : Nat), (binOp .eql 24 (.slice a n c) (.slice none 0 0)).run Try.prog w = .ok (.bool a.isNone) w := fun w a n c => Lib.run_eql_slice_nil w _ _ a n c 0 0 Try.underlying24
  cases a with
  | none =>
    have hl := hn rfl
    subst hl
    go_enter Try.func47, Try.ntmps47
    go_wp2
    go_ret
    exact ⟨_, rfl, World.ownsRow_nil _ _ _ _, Fr.refl _ _, fun k hk => by cases hk⟩
  | some a =>
    have Hn := Lib.hid hn; clear hn
    go_enter Try.func47, Try.ntmps47
    go_wp2_with (at_builtin; refine wpList_append_sep rfl (.tmp 5) (.tmp 6) 24 24 rfl 0 5 i0 (.int .u8 0) 1 1 Try.underlying24 _ Try.underlying24 (.inr ⟨_, rfl⟩) hi hz0 hz1 hz2 rfl (by decide) (.slice (some ⟨w.heap.size, 0, none⟩) 0 0) 0 [] rfl ?own _ l.length (l.map bv) rfl (lenOf_slice _ _ _) (by simp) ?c1 ?c2 (bv_one _) ?b1 ?b2 (Nat.zero_le _) ?grow)
    case own => exact World.ownsRow_made w #[] 0 (Nat.zero_le _) (by unfold maxLen; omega) rfl
    case c1 => exact (h.fr ((Fr.refl (fun _ => False) w).alloc _) (fun _ _ h => h)).first
    case c2 => exact (h.fr ((Fr.refl (fun _ => False) w).alloc _) (fun _ _ h => h)).drew.first
    case b1 => unfold maxLen; omega
    case b2 => omega
    case grow =>
      intro v' w1 hown hg hv
      have Ho := Lib.hid hown
      have Hg := Lib.hid hg
      have Hv := Lib.hid hv
      clear hown hg hv
      go_wp2
      go_ret
      refine ⟨v', rfl, Ho.out, ?_, ?_⟩
      · exact ((Fr.refl _ _).alloc (.cells #[] 5)).trans (Fr.of_grown Hg.out) (fun i hi e => by simp [Value.ownBlock] at e; omega)
      · intro k hk
        rcases Hv.out with e | e
        · rw [e] at hk; simp [Value.ownBlock] at hk; omega
        · rw [e] at hk; simp at hk; omega

theorem bytes_any (b : Nat) (v : Value) (l : List UInt8) (w : World) (h : Wr w b v l) (hl : l.length ≤ 2000000000) :
    Calls Try.prog 19 #[.pointer (some ⟨b, 0, none⟩)] w fun e w' => ∃ v', e = .returned v' ∧ Own w' v' l ∧ Fr (fun _ => False) w w' ∧ (∀ k, v'.ownBlock = some k → w.heap.size ≤ k) := by
  obtain ⟨a, c, rfl⟩ := slice_of_own h.own
  have hc := cell_of_one h.here
  go_enter Try.func19, Try.ntmps19
  go_wp2_with fail
  refine (clone_any _ l _ h.own.sees hl).mono ?_
  rintro e w1 ⟨v', rfl, ho, hf, hv⟩
  have Hv := Lib.hid hv; clear hv
  go_wp2
  go_ret
  exact ⟨_, rfl, ho, hf, Hv.out⟩

theorem read_any (v : Value) (l : List UInt8) (w : World) (h : Sees w v l) (hl : l.length ≤ 2000000000) :
    Calls Try.prog 24 #[v] w fun e w' => ∃ b v', e = .returned (.pointer (some ⟨b, 0, none⟩)) ∧ Rd w' b v' l 0 ∧ Fr (fun _ => False) w w' ∧ w.heap.size ≤ b ∧ (∀ k, v'.ownBlock = some k → w.heap.size ≤ k) := by
  go_enter Try.func24, Try.ntmps24
  go_wp2_with fail
  refine (clone_any _ l _ h hl).mono ?_
  rintro e w1 ⟨v', rfl, ho, hf, hv⟩
  obtain ⟨a, c, rfl⟩ := slice_of_own ho
  have Hv := Lib.hid hv; clear hv
  go_wp2
  go_ret
  refine ⟨_, _, rfl, ⟨heap_alloc_new w1 _, ?_, ?_, fun h => absurd rfl h, fun k hk => by have := ho.lt k hk; rw [World.size_alloc]; omega⟩, hf.alloc _, hf.size, Hv.out⟩
  · exact ho.sees.fr ((Fr.refl (fun _ => False) w1).alloc _) (fun _ _ h => h)
  · intro e; have := ho.lt _ e; omega

theorem err_any (b : Nat) (v : Value) (l : List UInt8) (x : Int) (w : World) (h : Rd w b v l x) :
    Calls Try.prog 67 #[.pointer (some ⟨b, 0, none⟩)] w fun e w' => e = .returned (.int .i64 x) ∧ w = w' := by
  obtain ⟨c0, c1, f0, f1⟩ := cell_of_two h.here
  go_enter Try.func67, Try.ntmps67
  go_wp2
  go_ret
  exact ⟨rfl, rfl⟩

theorem left_any (b : Nat) (v : Value) (l : List UInt8) (x : Int) (w : World) (h : Rd w b v l x) :
    Calls Try.prog 66 #[.pointer (some ⟨b, 0, none⟩)] w fun e w' => e = .returned (.int .i64 l.length) ∧ w = w' := by
  obtain ⟨c0, c1, f0, f1⟩ := cell_of_two h.here
  obtain ⟨a, c, rfl, hn⟩ := h.sees.shape
  clear hn
  go_enter Try.func66, Try.ntmps66
  go_wp2
  go_ret
  exact ⟨rfl, rfl⟩

theorem end_any (b : Nat) (v : Value) (l : List UInt8) (x : Int) (w : World) (h : Rd w b v l x) :
    Calls Try.prog 26 #[.pointer (some ⟨b, 0, none⟩)] w fun e w' => e = .returned (.int .i64 (if l = [] then x else 12)) ∧ w = w' := by
  by_cases hl : l = []
  · subst hl
    go_enter Try.func26, Try.ntmps26
    go_wp2_with (first | (go_at_call 66; refine (left_any b v [] x _ h).mono ?_; rintro e w' ⟨rfl, rfl⟩) | (go_at_call 67; refine (err_any b v [] x _ h).mono ?_; rintro e w' ⟨rfl, rfl⟩))
    go_ret
    exact ⟨rfl, rfl⟩
  · have hl0 : (0 : Int) < l.length := by have := List.length_pos_iff.2 hl; omega
    have Hl := Lib.hid hl; clear hl
    go_enter Try.func26, Try.ntmps26
    go_wp2_with (go_at_call 66; refine (left_any b v l x _ h).mono ?_; rintro e w' ⟨rfl, rfl⟩)
    go_ret
    exact ⟨rfl, rfl⟩

/-- The same Reader behind a call that may have changed it: the block of its bytes stays, or goes. -/
def Reads (b : Nat) (v : Value) (l : List UInt8) (x : Int) (w w' : World) : Prop :=
  ∃ v', Rd w' b v' l x ∧ Fr (fun k => k = b) w w' ∧ (v'.ownBlock = v.ownBlock ∨ v'.ownBlock = none)

theorem Reads.refl {b : Nat} {v : Value} {l : List UInt8} {x : Int} {w : World} (h : Rd w b v l x) : Reads b v l x w w := ⟨v, h, Fr.refl _ _, .inl rfl⟩
theorem Reads.trans {b : Nat} {v v1 : Value} {l2 : List UInt8} {x2 : Int} {w w1 w2 : World} (hf : Fr (fun k => k = b) w w1) (hv : v1.ownBlock = v.ownBlock ∨ v1.ownBlock = none) (h : Reads b v1 l2 x2 w1 w2) : Reads b v l2 x2 w w2 := by
  obtain ⟨v2, h2, hf2, hv2⟩ := h
  refine ⟨v2, h2, hf.trans hf2 (fun _ _ e => e), ?_⟩
  rcases hv2 with e | e
  · rw [e]; exact hv
  · exact .inr e

/-- Fail, told of the bytes and the error. -/
def failS (st : List UInt8 × Int) (x : Int) : List UInt8 × Int := if x = 0 ∨ st.2 ≠ 0 then st else ([], x)

theorem fail_any (b : Nat) (v : Value) (l : List UInt8) (x y : Int) (w : World) (h : Rd w b v l x) :
    Calls Try.prog 76 #[.pointer (some ⟨b, 0, none⟩), .int .i64 y] w fun e w' => e = .returned (.tuple #[]) ∧ Reads b v (failS (l, x) y).1 (failS (l, x) y).2 w w' := by
  obtain ⟨c0, c1, f0, f1⟩ := cell_of_two h.here
  by_cases hy : y = 0
  · subst hy
    go_enter Try.func76, Try.ntmps76
    go_wp2
    go_returns
    exact ⟨rfl, by simpa [failS] using Reads.refl h⟩
  by_cases hx : x = 0
  · have hy' : (y == 0) = false := by simpa using hy
    have hx' : (x != 0) = false := by simpa using hx
    have Hx := Lib.hid hx; clear hx
    have Hy := Lib.hid hy; clear hy
    go_enter Try.func76, Try.ntmps76
    go_wp2
    go_returns
    have e : failS (l, x) y = ([], y) := if_neg (by simp [Hx.out, Hy.out])
    rw [e]
    refine ⟨rfl, .slice none 0 0, ⟨two_setCell0 (two_setCell1 h.here _) _, .inl ⟨rfl, _, _, rfl⟩, by simp [Value.ownBlock], fun _ => rfl, fun k hk => by cases hk⟩, ?_, .inr rfl⟩
    exact ((Fr.refl _ _).set1 1 _).set1 0 _
  · have hy' : (y == 0) = false := by simpa using hy
    have hx' : (x != 0) = true := by simpa using hx
    have Hx := Lib.hid hx; clear hx
    have Hy := Lib.hid hy; clear hy
    go_enter Try.func76, Try.ntmps76
    go_wp2
    go_returns
    exact ⟨rfl, by simpa [failS, Hx.out, Hy.out] using Reads.refl h⟩

/-- The next k bytes, told of the bytes and the error. -/
def nextS (st : List UInt8 × Int) (k : Nat) : List UInt8 × (List UInt8 × Int) :=
  if st.1.length < k then ([], failS st 3) else (st.1.take k, (st.1.drop k, st.2))

theorem Sees.take {w : World} {a : Option Addr} {c k : Nat} {l : List UInt8} (h : Sees w (.slice a l.length c) l) (hk : k ≤ l.length) : Sees w (.slice a k c) (l.take k) := by
  rcases h with ⟨rfl, _⟩ | ⟨g, off, cap, e, hle, hc⟩
  · left; simp at hk; subst hk; exact ⟨rfl, _, _, rfl⟩
  · simp at e; obtain ⟨rfl, rfl⟩ := e
    right
    have hl : (l.take k).length = k := by simp; omega
    refine ⟨g, off, _, by rw [hl], by omega, fun j hj => ?_⟩
    rw [hc j (by omega)]
    simp [List.getD, show j < k by omega]

theorem Sees.drop_full {w : World} {a : Option Addr} {k : Nat} {l : List UInt8} (h : Sees w (.slice a l.length k) l) (hk : k ≤ l.length) :
    l.length = k := by
  rcases h with ⟨rfl, _⟩ | ⟨g, off, cap, e, hle, hc⟩
  · simp at hk; simp [hk]
  · simp at e; omega

theorem Sees.drop_part {w : World} {a : Option Addr} {c k : Nat} {l : List UInt8} (h : Sees w (.slice a l.length c) l) (hk : k ≤ l.length) :
    Sees w (.slice (a.map fun x => x.add k) (l.length - k) (c - k)) (l.drop k) := by
  rcases h with ⟨rfl, _⟩ | ⟨g, off, cap, e, hle, hc⟩
  · left; simp at hk; subst hk; exact ⟨by simp, _, _, rfl⟩
  · simp at e; obtain ⟨rfl, rfl⟩ := e
    right
    have hplain : (⟨g, off, none⟩ : Addr).add k = ⟨g, off + k, none⟩ := by unfold Addr.add; split <;> simp_all
    refine ⟨g, off + k, c - k, ?_, by simp; omega, fun j hj => ?_⟩
    · rw [Option.map_some, hplain, List.length_drop]
    · simp at hj
      rw [show off + k + j = off + (k + j) by omega, hc (k + j) (by omega)]
      simp [List.getD]

theorem part_block {a : Option Addr} {n c n' c' k : Nat} : (Value.slice (a.map fun x => x.add k) n c').ownBlock = (Value.slice a n' c).ownBlock := by
  cases a with
  | none => rfl
  | some a =>
    simp only [Option.map_some, Value.ownBlock, Addr.add]
    split <;> rfl

theorem Rd.next {w : World} {b : Nat} {a a' : Option Addr} {c c' k : Nat} {l : List UInt8} {x : Int} (h : Rd w b (.slice a l.length c) l x) (hk : k ≤ l.length)
    (hs : Sees w (.slice a' (l.length - k) c') (l.drop k)) (hb : (Value.slice a' (l.length - k) c').ownBlock = (Value.slice a l.length c).ownBlock) :
    Sees (w.setCell ⟨b, 0, none⟩ (.slice a' (l.length - k) c')) (.slice a k c) (l.take k) ∧ ((Value.slice a k c).ownBlock = (Value.slice a l.length c).ownBlock ∨ (Value.slice a k c).ownBlock = none) ∧
      Reads b (.slice a l.length c) (l.drop k) x w (w.setCell ⟨b, 0, none⟩ (.slice a' (l.length - k) c')) := by
  have hfr := (Fr.refl (fun k => k = b) w).set1 0 (.slice a' (l.length - k) c')
  have e1 : (Value.slice a k c).ownBlock = (Value.slice a l.length c).ownBlock := by cases a <;> rfl
  refine ⟨(h.sees.take hk).fr hfr ?_, .inl e1, _, ⟨two_setCell0 h.here _, hs.fr hfr ?_, ?_, ?_, fun k hk => by rw [World.size_setCell]; exact h.old k (hb ▸ hk)⟩, hfr, .inl hb⟩
  · rintro i hi rfl; exact h.apart (e1 ▸ hi)
  · rintro i hi rfl; exact h.apart (hb ▸ hi)
  · rw [hb]; exact h.apart
  · intro hx; rw [h.clean hx]; simp

theorem next_any (b : Nat) (v : Value) (l : List UInt8) (x k : Int) (h0 : 0 ≤ k) (w : World) (hR : Rd w b v l x) :
    Calls Try.prog 80 #[.pointer (some ⟨b, 0, none⟩), .int .i64 k] w fun e w' => ∃ r, e = .returned r ∧ Sees w' r (nextS (l, x) k.toNat).1 ∧ (r.ownBlock = v.ownBlock ∨ r.ownBlock = none) ∧
      Reads b v (nextS (l, x) k.toNat).2.1 (nextS (l, x) k.toNat).2.2 w w' := by
  obtain ⟨k, rfl⟩ := Int.eq_ofNat_of_zero_le h0
  rw [Int.toNat_natCast]
  obtain ⟨c0, c1, f0, f1⟩ := cell_of_two hR.here
  obtain ⟨a, c, rfl, hn⟩ := hR.sees.shape
  clear hn
  by_cases hk : l.length < k
  · have e : nextS (l, x) k = ([], failS (l, x) 3) := if_pos hk
    have E := Lib.hid e; clear e
    go_enter Try.func80, Try.ntmps80
    go_wp2_with (go_at_call 76; refine (fail_any b _ l x 3 _ hR).mono ?_; rintro e w1 ⟨rfl, hr⟩)
    go_ret
    rw [E.out]
    exact ⟨_, rfl, .inl ⟨rfl, _, _, rfl⟩, .inr rfl, hr⟩
  · have e : nextS (l, x) k = (l.take k, (l.drop k, x)) := if_neg hk
    have E := Lib.hid e; clear e
    have hcap : l.length ≤ c := by
      rcases hR.sees with ⟨rfl, _⟩ | ⟨g, off, cap, e, hle, _⟩
      · simp
      · simp at e; omega
    by_cases hck : c = k
    · subst hck
      have hlc := hR.sees.drop_full (by omega)
      subst hlc
      go_enter Try.func80, Try.ntmps80
      go_wp2_with fail
      go_ret
      rw [E.out]
      exact ⟨.slice a l.length l.length, rfl, by simpa using hR.next (c' := 0) (a' := a) (Nat.le_refl _) (.inl ⟨by simp, _, _, by rw [Nat.sub_self]⟩) (by cases a <;> rfl)⟩
    · go_enter Try.func80, Try.ntmps80
      go_wp2_with fail
      go_ret
      rw [E.out]
      exact ⟨.slice a k c, rfl, hR.next (by omega) (hR.sees.drop_part (k := k) (by omega)) part_block⟩

theorem or8 (n c : Nat) (hn : n < 256 ^ 7) (hc : c < 2 ^ 8) : bits .or .u64 ((n : Int) * 256) (c : Int) = ((n * 256 + c : Nat) : Int) := by
  have e : ((n : Int) * 256) = ((n * 256 : Nat) : Int) := by omega
  rw [e, u64_or_nat (n * 256) c (by omega) (by omega)]
  congr 1
  have h := Nat.two_pow_add_eq_or_of_lt (i := 8) (b := c) hc n
  rw [show n * 256 = 2 ^ 8 * n by omega]
  exact h.symm

/-- A number of k bytes. -/
def numS (st : List UInt8 × Int) (k : Nat) : Nat × (List UInt8 × Int) := (beNum (nextS st k).1, (nextS st k).2)

theorem number_any (b : Nat) (v : Value) (l : List UInt8) (x k : Int) (h0 : 0 ≤ k) (h8 : k ≤ 8) (w : World) (hR : Rd w b v l x) :
    Calls Try.prog 77 #[.pointer (some ⟨b, 0, none⟩), .int .i64 k] w fun e w' => e = .returned (.int .u64 (numS (l, x) k.toNat).1) ∧
      Reads b v (numS (l, x) k.toNat).2.1 (numS (l, x) k.toNat).2.2 w w' := by
  go_enter Try.func77, Try.ntmps77
  go_wp2_with fail
  refine (next_any b v l x k h0 _ hR).mono ?_
  rintro e w1 ⟨r, rfl, hs, hb, hr⟩
  have hlen : (nextS (l, x) k.toNat).1.length ≤ 8 := by unfold nextS; split <;> simp; omega
  have hnum : numS (l, x) k.toNat = (beNum (nextS (l, x) k.toNat).1, (nextS (l, x) k.toNat).2) := rfl
  generalize hp : nextS (l, x) k.toNat = p at *
  have Hp := Lib.hid hp; clear hp
  have Hn := Lib.hid hnum; clear hnum
  clear hb
  rcases hs with ⟨h0, a, c, rfl⟩ | ⟨g, off, c, rfl, hle, hc⟩
  · have Hz := Lib.hid h0; clear h0
    go_wp2_with fail
    refine wp_loop_rounds 1 ?_
    rw [rounds_succ]
    go_wp2
    go_ret
    rw [Hn.out, Hz.out]
    exact ⟨rfl, hr⟩
  go_wp2_with fail
  go_loop [5, 12] (fun n i => ∃ j : Nat, j ≤ p.1.length ∧ i = .int .i64 j ∧ n = .int .u64 (beNum (p.1.take j))) (fun _ i => p.1.length - (intOf i).toNat)
  case atStart => exact ⟨0, Nat.zero_le _, rfl, rfl⟩
  case round =>
    obtain ⟨j, hj, rfl, rfl⟩ := hrel
    by_cases hlt : j < p.1.length
    · have hsm := beNum_small (p.1.take j) 7 (by simp; omega)
      have hcell := hc j hlt
      clear hc
      have hsn : beNum (p.1.take (j + 1)) = beNum (p.1.take j) * 256 + (p.1.getD j 0).toNat := by
        rw [List.take_succ_eq_append_getElem hlt, beNum_snoc]
        simp [List.getD, hlt]
      have Hsn := Lib.hid hsn; clear hsn
      generalize p.1.getD j 0 = ch at *
      generalize beNum (p.1.take j) = n at *
      have hb := ch.toNat_lt
      unfold bv at hcell
      have hor := or8 n ch.toNat hsm hb
      go_wp2
      go_round
      case rel => exact ⟨j + 1, by omega, by go_num, by rw [Hsn.out]; exact congrArg (Value.int .u64) (by omega)⟩
      case measure => simp [intOf]; omega
    · go_wp2
      go_ret
      rw [Hn.out]
      have e : p.1.take j = p.1 := List.take_of_length_le (by omega)
      rw [e]
      exact ⟨rfl, hr⟩

theorem nextS_len (st : List UInt8 × Int) (k : Nat) : (nextS st k).1.length ≤ k := by
  unfold nextS; split
  · simp
  · simp; omega

theorem nextS_full (st : List UInt8 × Int) (k : Nat) : (nextS st k).2.2 = 0 → (nextS st k).1.length = k := by
  unfold nextS
  split
  · unfold failS
    intro h
    exfalso
    split at h
    · rename_i h2; rcases h2 with h2 | h2
      · omega
      · exact h2 h
    · simp at h
  · intro _; simp; omega

theorem numS_small (st : List UInt8 × Int) (k : Nat) : (numS st k).1 < 256 ^ k := beNum_small _ _ (nextS_len st k)

theorem rword_any (b : Nat) (v : Value) (l : List UInt8) (x : Int) (w : World) (hR : Rd w b v l x) :
    Calls Try.prog 58 #[.pointer (some ⟨b, 0, none⟩)] w fun e w' => e = .returned (.int .u16 (numS (l, x) 2).1) ∧ Reads b v (numS (l, x) 2).2.1 (numS (l, x) 2).2.2 w w' := by
  have hs : (numS (l, x) 2).1 < 256 ^ 2 := numS_small _ _
  go_enter Try.func58, Try.ntmps58
  go_wp2_with fail
  refine (number_any b v l x 2 (by omega) (by omega) _ hR).mono ?_
  rintro e w1 ⟨rfl, hr⟩
  rw [show (2 : Int).toNat = 2 from rfl] at hr ⊢
  generalize hp : numS (l, x) 2 = p at *
  have Hp := Lib.hid hp; clear hp
  go_wp2
  go_ret
  rw [Hp.out]
  exact ⟨rfl, hr⟩

theorem rlong_any (b : Nat) (v : Value) (l : List UInt8) (x : Int) (w : World) (hR : Rd w b v l x) :
    Calls Try.prog 59 #[.pointer (some ⟨b, 0, none⟩)] w fun e w' => e = .returned (.int .u32 (numS (l, x) 4).1) ∧ Reads b v (numS (l, x) 4).2.1 (numS (l, x) 4).2.2 w w' := by
  have hs : (numS (l, x) 4).1 < 256 ^ 4 := numS_small _ _
  go_enter Try.func59, Try.ntmps59
  go_wp2_with fail
  refine (number_any b v l x 4 (by omega) (by omega) _ hR).mono ?_
  rintro e w1 ⟨rfl, hr⟩
  rw [show (4 : Int).toNat = 4 from rfl] at hr ⊢
  generalize hp : numS (l, x) 4 = p at *
  have Hp := Lib.hid hp; clear hp
  go_wp2
  go_ret
  rw [Hp.out]
  exact ⟨rfl, hr⟩

/-- A Word that is at most most. -/
def withinS (st : List UInt8 × Int) (most : Int) : Nat × (List UInt8 × Int) :=
  if most < (numS st 2).1 then (0, failS (numS st 2).2 7) else numS st 2

theorem within_any (b : Nat) (v : Value) (l : List UInt8) (x most : Int) (w : World) (hR : Rd w b v l x) :
    Calls Try.prog 61 #[.pointer (some ⟨b, 0, none⟩), .int .i64 most] w fun e w' => e = .returned (.int .i64 (withinS (l, x) most).1) ∧ Reads b v (withinS (l, x) most).2.1 (withinS (l, x) most).2.2 w w' := by
  have hs : (numS (l, x) 2).1 < 256 ^ 2 := numS_small _ _
  have hw : withinS (l, x) most = if most < (numS (l, x) 2).1 then (0, failS (numS (l, x) 2).2 7) else numS (l, x) 2 := rfl
  have Hw := Lib.hid hw; clear hw
  go_enter Try.func61, Try.ntmps61
  go_wp2_with fail
  refine (rword_any b v l x _ hR).mono ?_
  rintro e w1 ⟨rfl, hr⟩
  generalize numS (l, x) 2 = p at *
  obtain ⟨v1, hR1, hf1, hv1⟩ := hr
  have Hv := Lib.hid hv1; clear hv1
  by_cases hm : most < p.1
  · have Hw' : Hid (withinS (l, x) most = (0, failS p.2 7)) := Lib.hid (by rw [Hw.out, if_pos hm])
    clear Hw
    go_wp2_with fail
    refine (fail_any b v1 p.2.1 p.2.2 7 _ hR1).mono ?_
    rintro e w2 ⟨rfl, hr⟩
    go_wp2
    go_ret
    rw [Hw'.out]
    exact ⟨rfl, hr.trans hf1 Hv.out⟩
  · have Hw' : Hid (withinS (l, x) most = p) := Lib.hid (by rw [Hw.out, if_neg hm])
    clear Hw
    go_wp2_with fail
    go_ret
    rw [Hw'.out]
    exact ⟨rfl, v1, hR1, hf1, Hv.out⟩

/-- A text of at most most bytes. -/
def textS (st : List UInt8 × Int) (most : Int) : List UInt8 × (List UInt8 × Int) :=
  let n := withinS st most
  let p := nextS n.2 (n.1 + n.1 % 2)
  if p.2.2 ≠ 0 then ([], p.2) else if n.1 % 2 = 1 ∧ p.1.getD n.1 0 ≠ 0 then ([], failS p.2 4) else (p.1.take n.1, p.2)

theorem withinS_small (st : List UInt8 × Int) (most : Int) : (withinS st most).1 < 65536 := by
  unfold withinS; split
  · simp
  · exact numS_small _ _

theorem rtext_any (b : Nat) (v : Value) (l : List UInt8) (x most : Int) (w : World) (hR : Rd w b v l x) :
    Calls Try.prog 79 #[.pointer (some ⟨b, 0, none⟩), .int .i64 most] w fun e w' => e = .returned (.string ⟨(textS (l, x) most).1.toArray⟩) ∧ Reads b v (textS (l, x) most).2.1 (textS (l, x) most).2.2 w w' := by
  have hs := withinS_small (l, x) most
  have ht : textS (l, x) most = (if (nextS (withinS (l, x) most).2 ((withinS (l, x) most).1 + (withinS (l, x) most).1 % 2)).2.2 ≠ 0 then ([], (nextS (withinS (l, x) most).2 ((withinS (l, x) most).1 + (withinS (l, x) most).1 % 2)).2) else if (withinS (l, x) most).1 % 2 = 1 ∧ (nextS (withinS (l, x) most).2 ((withinS (l, x) most).1 + (withinS (l, x) most).1 % 2)).1.getD (withinS (l, x) most).1 0 ≠ 0 then ([], failS (nextS (withinS (l, x) most).2 ((withinS (l, x) most).1 + (withinS (l, x) most).1 % 2)).2 4) else ((nextS (withinS (l, x) most).2 ((withinS (l, x) most).1 + (withinS (l, x) most).1 % 2)).1.take (withinS (l, x) most).1, (nextS (withinS (l, x) most).2 ((withinS (l, x) most).1 + (withinS (l, x) most).1 % 2)).2)) := rfl
  have Ht := Lib.hid ht; clear ht
  go_enter Try.func79, Try.ntmps79
  go_wp2_with fail
  refine (within_any b v l x most _ hR).mono ?_
  rintro e w1 ⟨rfl, hr⟩
  generalize withinS (l, x) most = p at *
  obtain ⟨v1, hR1, hf1, hv1⟩ := hr
  have Hv1 := Lib.hid hv1; clear hv1
  go_wp2_with fail
  refine (next_any b v1 p.2.1 p.2.2 _ (by omega) _ hR1).mono ?_
  rintro e w2 ⟨r, rfl, hs2, hb2, hr2⟩
  rw [show ((p.1 : Int) + (p.1 : Int) % 2).toNat = p.1 + p.1 % 2 by omega] at hs2 hr2
  have hlen : (nextS (p.2.1, p.2.2) (p.1 + p.1 % 2)).2.2 = 0 → (nextS (p.2.1, p.2.2) (p.1 + p.1 % 2)).1.length = p.1 + p.1 % 2 := nextS_full _ _
  have hq : nextS p.2 (p.1 + p.1 % 2) = nextS (p.2.1, p.2.2) (p.1 + p.1 % 2) := rfl
  rw [hq] at Ht
  generalize nextS (p.2.1, p.2.2) (p.1 + p.1 % 2) = q at *
  clear hq
  obtain ⟨v2, hR2, hf2, hv2⟩ := hr2
  have Hv2 := Lib.hid hv2; clear hv2
  have Hb2 := Lib.hid hb2; clear hb2
  have Hlen := Lib.hid hlen; clear hlen
  by_cases he : q.2.2 = 0
  · have he' : (q.2.2 != 0) = false := by simpa using he
    have hl := Hlen.out he
    have He := Lib.hid he; clear he Hlen
    obtain ⟨a, c, rfl, hnil⟩ := hs2.shape
    clear hnil
    have hcap := hs2.cap.2
    have hcv : (convert 24 9 (.slice a p.1 c)).run Try.prog w2 = .ok (.string ⟨(q.1.take p.1).toArray⟩) w2 := (hs2.take (by omega)).string _ _ _ Try.underlying24 Try.underlying5 Try.underlying9
    have hlq := hl
    have Hl := Lib.hid hl; clear hl
    have hle : p.1 ≤ c := by omega
    clear hcap
    by_cases hodd : p.1 % 2 = 1
    · have h1 : ((p.1 : Int) % 2 == 1) = true := by simp; omega
      rcases hs2 with ⟨h0, _⟩ | ⟨g, off, cap, e, hle2, hc⟩
      · exfalso; rw [h0] at hlq; simp at hlq; omega
      have hcell := hc p.1 (by omega)
      simp only [Value.slice.injEq] at e
      obtain ⟨rfl, _, rfl⟩ := e
      clear hc
      have hlt : p.1 < q.1.length := by omega
      have Hlq := Lib.hid hlq; clear hlq
      have Hodd := Lib.hid hodd; clear hodd
      generalize hch : q.1.getD p.1 0 = ch at *
      have Hch := Lib.hid hch; clear hch
      unfold bv at hcell
      by_cases hz : ch = 0
      · have Ht' : Hid (textS (l, x) most = (q.1.take p.1, q.2)) := Lib.hid (by rw [Ht.out, if_neg (fun h => h He.out), if_neg (fun h => h.2 hz)])
        clear Ht
        subst hz
        go_wp2_with (go_at_call 67; refine (err_any b v2 q.2.1 q.2.2 _ hR2).mono ?_; rintro e w' ⟨rfl, rfl⟩)
        go_ret
        rw [Ht'.out]
        exact ⟨rfl, Reads.trans hf1 Hv1.out ⟨v2, hR2, hf2, Hv2.out⟩⟩
      · have Ht' : Hid (textS (l, x) most = ([], failS q.2 4)) := Lib.hid (by rw [Ht.out, if_neg (fun h => h He.out), if_pos ⟨Hodd.out, hz⟩])
        clear Ht
        have hz' : ((ch.toNat : Int) != 0) = true := by
          have : ch.toNat ≠ 0 := fun h => hz (UInt8.toNat_inj.1 h)
          simp; omega
        clear hz
        go_wp2_with (first | (go_at_call 67; refine (err_any b v2 q.2.1 q.2.2 _ hR2).mono ?_; rintro e w' ⟨rfl, rfl⟩) | (go_at_call 76; refine (fail_any b v2 q.2.1 q.2.2 4 _ hR2).mono ?_; rintro e w3 ⟨rfl, hr3⟩))
        go_ret
        rw [Ht'.out]
        exact ⟨rfl, Reads.trans hf1 Hv1.out (Reads.trans hf2 Hv2.out hr3)⟩
    · have h1 : ((p.1 : Int) % 2 == 1) = false := by simp; omega
      have Ht' : Hid (textS (l, x) most = (q.1.take p.1, q.2)) := Lib.hid (by rw [Ht.out, if_neg (fun h => h He.out), if_neg (fun h => hodd h.1)])
      clear Ht
      have Hlq := Lib.hid hlq; clear hlq
      have Hodd := Lib.hid hodd; clear hodd
      go_wp2_with (go_at_call 67; refine (err_any b v2 q.2.1 q.2.2 _ hR2).mono ?_; rintro e w' ⟨rfl, rfl⟩)
      go_ret
      rw [Ht'.out]
      exact ⟨rfl, Reads.trans hf1 Hv1.out ⟨v2, hR2, hf2, Hv2.out⟩⟩
  · have Ht' : Hid (textS (l, x) most = ([], q.2)) := Lib.hid (by rw [Ht.out, if_pos he])
    clear Ht
    have he' : (q.2.2 != 0) = true := by simpa using he
    have He := Lib.hid he; clear he
    go_wp2_with (go_at_call 67; refine (err_any b v2 q.2.1 q.2.2 _ hR2).mono ?_; rintro e w' ⟨rfl, rfl⟩)
    go_ret
    rw [Ht'.out]
    exact ⟨rfl, Reads.trans hf1 Hv1.out ⟨v2, hR2, hf2, Hv2.out⟩⟩

theorem Rd.lt {w : World} {b : Nat} {v : Value} {l : List UInt8} {e : Int} (h : Rd w b v l e) : b < w.heap.size := lt_of_block h.here

theorem Rd.fr {S : Nat → Prop} {w w' : World} {b : Nat} {v : Value} {l : List UInt8} {e : Int} (h : Rd w b v l e) (hf : Fr S w w') (hb : ¬ S b) (hv : ∀ k, v.ownBlock = some k → ¬ S k) : Rd w' b v l e :=
  ⟨by rw [hf.block b (lt_of_block h.here) hb]; exact h.here, h.sees.fr hf hv, h.apart, h.clean, fun k hk => Nat.lt_of_lt_of_le (h.old k hk) hf.size⟩

/-- What a nil Reader answers. -/
theorem err_nil (w : World) : Calls Try.prog 67 #[.pointer none] w fun e w' => e = .returned (.int .i64 1) ∧ w = w' := by
  go_enter Try.func67, Try.ntmps67
  go_wp2
  go_ret
  exact ⟨rfl, rfl⟩
theorem left_nil (w : World) : Calls Try.prog 66 #[.pointer none] w fun e w' => e = .returned (.int .i64 0) ∧ w = w' := by
  go_enter Try.func66, Try.ntmps66
  go_wp2
  go_ret
  exact ⟨rfl, rfl⟩
theorem end_nil (w : World) : Calls Try.prog 26 #[.pointer none] w fun e w' => e = .returned (.int .i64 1) ∧ w = w' := by
  go_enter Try.func26, Try.ntmps26
  go_wp2_with (first | (go_at_call 66; refine (left_nil _).mono ?_; rintro e w' ⟨rfl, rfl⟩) | (go_at_call 67; refine (err_nil _).mono ?_; rintro e w' ⟨rfl, rfl⟩))
  go_ret
  exact ⟨rfl, rfl⟩
theorem rfail_nil (y : Int) (w : World) : Calls Try.prog 76 #[.pointer none, .int .i64 y] w fun e w' => e = .returned (.tuple #[]) ∧ w = w' := by
  go_enter Try.func76, Try.ntmps76
  go_wp2
  go_returns
  exact ⟨rfl, rfl⟩
theorem next_nil (k : Int) (w : World) : Calls Try.prog 80 #[.pointer none, .int .i64 k] w fun e w' => e = .returned (.slice none 0 0) ∧ w = w' := by
  go_enter Try.func80, Try.ntmps80
  go_wp2
  go_ret
  exact ⟨rfl, rfl⟩
theorem number_nil (k : Int) (w : World) : Calls Try.prog 77 #[.pointer none, .int .i64 k] w fun e w' => e = .returned (.int .u64 0) ∧ w = w' := by
  go_enter Try.func77, Try.ntmps77
  go_wp2_with (go_at_call 80; refine (next_nil _ _).mono ?_; rintro e w' ⟨rfl, rfl⟩)
  refine wp_loop_rounds 1 ?_
  rw [rounds_succ]
  go_wp2
  go_ret
  exact ⟨rfl, rfl⟩
theorem rword_nil (w : World) : Calls Try.prog 58 #[.pointer none] w fun e w' => e = .returned (.int .u16 0) ∧ w = w' := by
  go_enter Try.func58, Try.ntmps58
  go_wp2_with (go_at_call 77; refine (number_nil _ _).mono ?_; rintro e w' ⟨rfl, rfl⟩)
  go_ret
  exact ⟨rfl, rfl⟩
theorem within_nil (most : Int) (hm : 0 ≤ most) (w : World) : Calls Try.prog 61 #[.pointer none, .int .i64 most] w fun e w' => e = .returned (.int .i64 0) ∧ w = w' := by
  go_enter Try.func61, Try.ntmps61
  go_wp2_with (go_at_call 58; refine (rword_nil _).mono ?_; rintro e w' ⟨rfl, rfl⟩)
  go_ret
  exact ⟨rfl, rfl⟩
theorem rtext_nil (most : Int) (hm : 0 ≤ most) (w : World) : Calls Try.prog 79 #[.pointer none, .int .i64 most] w fun e w' => e = .returned (.string ⟨#[]⟩) ∧ w = w' := by
  go_enter Try.func79, Try.ntmps79
  go_wp2_with (first | (go_at_call 61; refine (within_nil _ hm _).mono ?_; rintro e w' ⟨rfl, rfl⟩) | (go_at_call 80; refine (next_nil _ _).mono ?_; rintro e w' ⟨rfl, rfl⟩) | (go_at_call 67; refine (err_nil _).mono ?_; rintro e w' ⟨rfl, rfl⟩))
  go_ret
  exact ⟨rfl, rfl⟩
end
section
theorem refword_any (n : Int) (h0 : 0 ≤ n) (h1 : n ≤ 65535) (w : World) :
    Calls Try.prog 35 #[.int .i64 n] w fun e w' => ∃ v, e = .returned v ∧ Made v (be2 n.toNat) w w' := by
  have e0 : n / 256 % 256 = n / 256 := by omega
  go_enter Try.func35, Try.ntmps35
  go_wp2
  go_ret
  exact ⟨.slice (some ⟨w.heap.size, 0, none⟩) 2 2, rfl, own_new2 h0 h1 w, (Fr.refl _ _).alloc _, by simp [Value.ownBlock]⟩

theorem reflong_any (n : Int) (h0 : 0 ≤ n) (h1 : n ≤ 4294967295) (w : World) :
    Calls Try.prog 37 #[.int .u32 n] w fun e w' => ∃ v, e = .returned v ∧ Made v (be4 n.toNat) w w' := by
  obtain ⟨i0, hi, hz0, hz1, hz2⟩ := info_parts Try.infoU8
  go_enter Try.func37, Try.ntmps37
  go_wp2_with fail
  refine (refword_any _ (by omega) (by omega) _).mono ?_
  rintro e w1 ⟨v1, rfl, m1⟩
  have e1 : (n / 65536).toNat = n.toNat / 65536 := by omega
  have e2 : (n % 65536).toNat = n.toNat % 65536 := by omega
  rw [e1] at m1
  clear e1
  have E2 := Lib.hid e2; clear e2
  go_wp2_with fail
  refine (refword_any _ (by omega) (by omega) _).mono ?_
  rintro e w2 ⟨v2, rfl, m2⟩
  rw [E2.out] at m2
  obtain ⟨o2, f2, k2⟩ := m2
  have o1 := m1.1.fr f2 (fun _ _ h => h)
  have hl2 := o2.sees.shape
  obtain ⟨a2, c2, rfl, hn2⟩ := hl2
  clear hn2
  have K2 := Lib.hid k2; clear k2
  go_wp2_with (at_builtin; refine wpList_append_sep rfl (.tmp 6) (.tmp 10) 24 24 rfl 0 5 i0 (.int .u8 0) 1 1 Try.underlying24 _ Try.underlying24 (.inr ⟨_, rfl⟩) hi hz0 hz1 hz2 rfl (by decide) v1 _ _ rfl o1 _ 2 ((be2 (n.toNat % 65536)).map bv) rfl (lenOf_slice _ _ _) rfl (by exact o2.sees.first) (by exact o2.sees.drew.first) (bv_one _) ?b1 ?b2 (Nat.zero_le _) ?grow)
  case b1 => rw [be2_length]; unfold maxLen; omega
  case b2 => rw [be2_length]; omega
  case grow =>
    intro v' w3 hown hg hv
    have m := Made.append m1 f2 rfl hown hg hv
    clear hown hg hv
    go_wp2
    go_ret
    exact ⟨v', rfl, m⟩
end
section
/-- A Writer just made. -/
theorem wr_new (w : World) : Wr (w.alloc (.cells #[.slice none 0 0] 67)) w.heap.size (.slice none 0 0) [] :=
  ⟨heap_alloc_new w _, World.ownsRow_nil _ _ _ _, by simp [Value.ownBlock]⟩

theorem Wrote.fresh {b : Nat} {v : Value} {l : List UInt8} {w0 w w' : World} (h : Wrote b v l w w') (hf : Fr (fun _ => False) w0 w) (hb : w0.heap.size ≤ b) (hv : ∀ k, v.ownBlock = some k → w0.heap.size ≤ k) :
    ∃ v', Wr w' b v' l ∧ Fr (fun _ => False) w0 w' ∧ (∀ k, v'.ownBlock = some k → w0.heap.size ≤ k) := by
  obtain ⟨v', h1, h2, h3⟩ := h
  refine ⟨v', h1, hf.trans h2 ?_, ?_⟩
  · rintro i hi (rfl | e)
    · omega
    · have := hv i e; omega
  · intro k hk
    rcases h3 with e | e
    · exact hv k (e ▸ hk)
    · have := e k hk; have := hf.size; omega

theorem reftext_any (s : ByteArray) (hs : s.size ≤ 65535) (w : World) :
    Calls Try.prog 41 #[.string s] w fun e w' => ∃ v, e = .returned v ∧ Made v (txt s.data.toList) w w' := by
  obtain ⟨i0, hi, hz0, hz1, hz2⟩ := info_parts Try.infoU8
  go_enter Try.func41, Try.ntmps41
  go_wp2_with fail
  refine (refword_any _ (by omega) (by omega) _).mono ?_
  rintro e w1 ⟨v1, rfl, m1⟩
  have o1 := m1.1
  go_wp2_with (at_builtin; refine wpList_append_sep rfl (.tmp 6) (.tmp 7) 24 9 rfl 0 5 i0 (.int .u8 0) 1 1 Try.underlying24 _ Try.underlying9 (.inl rfl) hi hz0 hz1 hz2 rfl (by decide) v1 _ _ rfl o1 _ s.size (s.data.toList.map bv) rfl (lenOf_string _) (bv_length s) (string_first _ _) (string_first _ _) (bv_one _) ?b1 ?b2 (Nat.zero_le _) ?grow)
  case b1 => rw [be2_length]; unfold maxLen; omega
  case b2 => rw [be2_length]; omega
  case grow =>
    intro v2 w2 hown hg hv
    have m2 : Made v2 (be2 (s.size : Int).toNat ++ s.data.toList) w w2 := Made.append m1 (Fr.refl _ _) rfl hown hg hv
    have hlen : (be2 (s.size : Int).toNat ++ s.data.toList).length = 2 + s.size := by rw [List.length_append]; rfl
    have Hlen := Lib.hid hlen; clear hlen
    generalize hl2 : be2 (s.size : Int).toNat ++ s.data.toList = l2 at *
    have Hl2 := Lib.hid hl2; clear hl2
    have o2 := m2.1
    clear hown hg hv o1 m1
    by_cases hodd : s.size % 2 = 1
    · have h21 : ((s.size : Int) % 2 == 1) = true := by simp; omega
      go_wp2_with (at_builtin; refine wpList_append_sep rfl (.tmp 13) (.tmp 14) 24 24 rfl 0 5 i0 (.int .u8 0) 1 1 Try.underlying24 _ Try.underlying24 (.inr ⟨_, rfl⟩) hi hz0 hz1 hz2 rfl (by decide) v2 _ _ rfl (World.ownsRow.alloc o2 _) _ 1 ([0].map bv) rfl (lenOf_slice _ _ _) rfl (by exact zero_new _) (by exact zero_new w2.drew) (bv_one _) ?b1 ?b2 (Nat.zero_le _) ?grow)
      case b1 => rw [Hlen.out]; unfold maxLen; omega
      case b2 => rw [Hlen.out]; omega
      case grow =>
        intro v3 w3 hown hg hv
        have m3 : Made v3 (l2 ++ [0]) w w3 := Made.append m2 ((Fr.refl _ _).alloc _) rfl hown hg (by simpa using hv)
        clear hown hg hv
        go_wp2
        go_ret
        refine ⟨v3, rfl, ?_⟩
        have e := txt_odd [] s hodd
        rw [List.nil_append, List.nil_append, Hl2.out] at e
        rw [e]
        exact m3
    · have h21 : ((s.size : Int) % 2 == 1) = false := by simp; omega
      go_wp2
      go_ret
      refine ⟨v2, rfl, ?_⟩
      have e := txt_even [] s hodd
      rw [List.nil_append, List.nil_append, Hl2.out] at e
      rw [e]
      exact m2

/-- Two Writers that share no memory. -/
structure Off (b : Nat) (v : Value) (b' : Nat) (v' : Value) : Prop where
  ne : b ≠ b'
  own1 : v.ownBlock ≠ some b'
  own2 : v'.ownBlock ≠ some b
  both : ∀ k, v.ownBlock = some k → v'.ownBlock ≠ some k

theorem Off.symm {b : Nat} {v : Value} {b' : Nat} {v' : Value} (h : Off b v b' v') : Off b' v' b v :=
  ⟨fun e => h.ne e.symm, h.own2, h.own1, fun k hk e => h.both k e hk⟩

theorem Wr.lt {w : World} {b : Nat} {v : Value} {l : List UInt8} (h : Wr w b v l) : b < w.heap.size ∧ ∀ k, v.ownBlock = some k → k < w.heap.size := ⟨lt_of_block h.here, h.own.lt⟩

theorem Wr.fr {S : Nat → Prop} {w w' : World} {b : Nat} {v : Value} {l : List UInt8} (h : Wr w b v l) (hf : Fr S w w') (hb : ¬ S b) (hv : ∀ k, v.ownBlock = some k → ¬ S k) : Wr w' b v l :=
  ⟨by rw [hf.block b (lt_of_block h.here) hb]; exact h.here, h.own.fr hf hv, h.apart⟩

theorem Off.wrote {w : World} {b b' : Nat} {v v1 v' : Value} {l' : List UInt8} (h : Off b v b' v') (hB : Wr w b' v' l') (hv : v1.ownBlock = v.ownBlock ∨ ∀ k, v1.ownBlock = some k → w.heap.size ≤ k) : Off b v1 b' v' := by
  obtain ⟨h1, h2⟩ := hB.lt
  rcases hv with e | e
  · exact ⟨h.ne, by rw [e]; exact h.own1, h.own2, by rw [e]; exact h.both⟩
  · exact ⟨h.ne, fun hk => by have := e _ hk; omega, h.own2, fun k hk hk' => by have := e k hk; have := h2 k hk'; omega⟩

theorem Wr.other {w w1 : World} {b b' : Nat} {v v' : Value} {l' : List UInt8} (hB : Wr w b' v' l') (h : Off b v b' v') (hf : Fr (fun k => k = b ∨ v.ownBlock = some k) w w1) : Wr w1 b' v' l' :=
  hB.fr hf (by rintro (e | e); exact h.ne e.symm; exact h.own1 e) (by rintro k hk (e | e); exact h.own2 (e ▸ hk); exact h.both k e hk)

/-- One of two Writers made since w0 was written to: the other one stands as it was. -/
theorem Wrote.two {w0 w w' : World} {b b' : Nat} {v v' : Value} {l l' : List UInt8} (h : Wrote b v l w w') (hO : Off b v b' v') (hB : Wr w b' v' l') (g : Fr (fun _ => False) w0 w) (hb : w0.heap.size ≤ b) (hv : ∀ k, v.ownBlock = some k → w0.heap.size ≤ k) :
    ∃ v1, Wr w' b v1 l ∧ Off b v1 b' v' ∧ Wr w' b' v' l' ∧ Fr (fun _ => False) w0 w' ∧ ∀ k, v1.ownBlock = some k → w0.heap.size ≤ k := by
  obtain ⟨v1, h1, h2, h3⟩ := h
  refine ⟨v1, h1, hO.wrote hB h3, hB.other hO h2, g.trans h2 ?_, ?_⟩
  · rintro i hi (e | e)
    · omega
    · have := hv i e; omega
  · intro k hk
    rcases h3 with e | e
    · exact hv k (e ▸ hk)
    · have := e k hk; have := g.size; omega

theorem Fr.trans0 {a b c : World} (h : Fr (fun _ => False) a b) (k : Fr (fun _ => False) b c) : Fr (fun _ => False) a c := h.trans k (fun _ _ h => h)

/-- Bytes, as it is used in 'string(w.Bytes())': what the slice reads as a string, in whatever later world. -/
theorem bytes_str (b : Nat) (v : Value) (l : List UInt8) (w w0 : World) (h : Wr w0 b v l) (hf : Fr (fun _ => False) w0 w) (hl : l.length ≤ 2000000000) :
    Calls Try.prog 19 #[.pointer (some ⟨b, 0, none⟩)] w fun e w' => ∃ v', e = .returned v' ∧ Fr (fun _ => False) w w' ∧ Fr (fun _ => False) w0 w' ∧
      (convert 24 9 v').run Try.prog w' = .ok (.string ⟨l.toArray⟩) w' ∧ (∀ W, Fr (fun _ => False) w' W → (convert 24 9 v').run Try.prog W = .ok (.string ⟨l.toArray⟩) W) := by
  refine (bytes_any b v l w (h.fr hf (fun h => h) (fun _ _ h => h)) hl).mono ?_
  rintro e w1 ⟨v', rfl, ho, hf1, _⟩
  have hs : ∀ W, Fr (fun _ => False) w1 W → (convert 24 9 v').run Try.prog W = .ok (.string ⟨l.toArray⟩) W := fun W hW =>
    (ho.sees.fr hW (fun _ _ h => h)).string _ _ _ Try.underlying24 Try.underlying5 Try.underlying9
  exact ⟨v', rfl, hf1, hf.trans0 hf1, hs w1 (Fr.refl _ _), hs⟩

/-! What a Reader takes of bytes that begin as a Writer laid them. -/

theorem nextS_pre (p rest : List UInt8) (e : Int) : nextS (p ++ rest, e) p.length = (p, (rest, e)) := by
  unfold nextS
  rw [if_neg (by simp)]
  simp

theorem numS_be2 (n : Nat) (h : n < 65536) (rest : List UInt8) (e : Int) : numS (be2 n ++ rest, e) 2 = (n, (rest, e)) := by
  unfold numS
  rw [show (2 : Nat) = (be2 n).length from rfl, nextS_pre, beNum_be2 n h]
theorem numS_be4 (n : Nat) (h : n < 4294967296) (rest : List UInt8) (e : Int) : numS (be4 n ++ rest, e) 4 = (n, (rest, e)) := by
  unfold numS
  rw [show (4 : Nat) = (be4 n).length from rfl, nextS_pre, beNum_be4 n h]
theorem numS_be8 (n : Nat) (h : n < 18446744073709551616) (rest : List UInt8) (e : Int) : numS (be8 n ++ rest, e) 8 = (n, (rest, e)) := by
  unfold numS
  rw [show (8 : Nat) = (be8 n).length from rfl, nextS_pre, beNum_be8 n h]

theorem withinS_be2 (n : Nat) (h : n < 65536) (rest : List UInt8) (most : Int) (hm : (n : Int) ≤ most) (e : Int) : withinS (be2 n ++ rest, e) most = (n, (rest, e)) := by
  unfold withinS
  rw [numS_be2 n h, if_neg (by show ¬ most < (n : Int); omega)]

theorem textS_txt (s rest : List UInt8) (h : s.length < 65536) (most : Int) (hm : (s.length : Int) ≤ most) : textS (txt s ++ rest, 0) most = (s, (rest, 0)) := by
  unfold textS txt
  have hw : withinS (be2 s.length ++ s ++ (if s.length % 2 = 1 then [0] else []) ++ rest, 0) most = (s.length, (s ++ (if s.length % 2 = 1 then [0] else []) ++ rest, 0)) := by
    rw [List.append_assoc, List.append_assoc, withinS_be2 s.length h _ most hm, List.append_assoc]
  rw [hw]
  by_cases ho : s.length % 2 = 1
  · rw [if_pos ho]
    have hn : nextS (s ++ [0] ++ rest, 0) (s.length + s.length % 2) = (s ++ [0], (rest, 0)) := by
      rw [ho, show s.length + 1 = (s ++ [(0 : UInt8)]).length by simp, nextS_pre]
    simp only [hn]
    simp
  · rw [if_neg ho]
    have hn : nextS (s ++ [] ++ rest, 0) (s.length + s.length % 2) = (s, (rest, 0)) := by
      rw [show s.length % 2 = 0 by omega, Nat.add_zero, List.append_nil, nextS_pre]
    simp only [hn]
    simp [ho]

theorem txt_length (s : List UInt8) : (txt s).length = 2 + s.length + s.length % 2 := by
  unfold txt
  rw [List.length_append, List.length_append, be2_length]
  split
  · simp; omega
  · simp; omega

theorem str_of (s : ByteArray) : (⟨s.data.toList.toArray⟩ : ByteArray) = s := by simp
end
section
/-- A call and an answer, as values. -/
def cv (t n p : Int) (v : Value) : Value := .agg #[.int .u16 t, .int .u16 n, .int .i64 p, v]
def av (e r : Int) (v : Value) : Value := .agg #[.int .i64 e, .int .i64 r, v]

/-- Their encoding. -/
def callB (t n p : Int) (l : List UInt8) : List UInt8 := be2 t.toNat ++ be2 n.toNat ++ be2 p.toNat ++ txt l
def ansB (e r : Int) (l : List UInt8) : List UInt8 := be2 e.toNat ++ be2 r.toNat ++ txt l

/-- The first error of numbers that are Words, and so many bytes. -/
def okN (p : Int) : Bool := decide (0 ≤ p) && decide (p ≤ 65535)
def sizeN (n : Nat) : Int := if n ≤ 4000 then 0 else 6
def cchk (p : Int) (n : Nat) : Int := if okN p = true then sizeN n else 2
def achk (e r : Int) (n : Nat) : Int := if okN e = true then cchk r n else 2

theorem crow {w : World} {b : Nat} {cs : Array Value} {t : TypeId} (h : w.heap[b]? = some (.cells cs t (0, 0))) (i : Nat) (u : Value) (hu : cs[i]? = some u) : w.cell? ⟨b, i, none⟩ = some u := by
  simp only [World.cell?, h]
  simpa using hu

set_option maxRecDepth 100000 in
theorem check1_any (a : Option Addr) (n c : Nat) (g : Nat) (p : Int) (w : World) (hg : w.heap[g]? = some (.cells #[.int .i64 p] 3 (0, 0))) :
    Calls Try.prog 70 #[.slice a n c, .slice (some ⟨g, 0, none⟩) 1 1] w fun e w' => e = .returned (.int .i64 (cchk p n)) ∧ Fr (fun _ => False) w w' := by
  have c0 := crow hg 0 _ rfl
  by_cases h0 : p < 0
  · have hE : cchk p n = 2 := by unfold cchk okN; simp; omega
    have HE := Lib.hid hE; clear hE
    go_enter Try.func70, Try.ntmps70
    go_wp2
    refine wp_loop_rounds 1 ?_
    rw [rounds_succ]
    go_wp2
    go_ret
    rw [HE.out]
    exact ⟨rfl, Fr.refl _ _⟩
  by_cases h1 : 65535 < p
  · have hE : cchk p n = 2 := by unfold cchk okN; simp; omega
    have HE := Lib.hid hE; clear hE
    have h0' : decide (p < 0) = false := by simp; omega
    clear h0
    go_enter Try.func70, Try.ntmps70
    go_wp2
    refine wp_loop_rounds 1 ?_
    rw [rounds_succ]
    go_wp2
    go_ret
    rw [HE.out]
    exact ⟨rfl, Fr.refl _ _⟩
  have hE : cchk p n = sizeN n := by unfold cchk okN; simp; omega
  have HE := Lib.hid hE; clear hE
  have h0' : decide (p < 0) = false := by simp; omega
  have h1' : decide (65535 < p) = false := by simp; omega
  clear h0 h1
  by_cases h2 : (4000 : Int) < n
  · have hZ : sizeN n = 6 := by unfold sizeN; rw [if_neg (by omega)]
    have HZ := Lib.hid hZ; clear hZ
    go_enter Try.func70, Try.ntmps70
    go_wp2
    refine wp_loop_rounds 2 ?_
    rw [rounds_succ]
    go_wp2
    rw [rounds_succ]
    go_wp2
    go_ret
    rw [HE.out, HZ.out]
    exact ⟨rfl, Fr.refl _ _⟩
  · have hZ : sizeN n = 0 := by unfold sizeN; rw [if_pos (by omega)]
    have HZ := Lib.hid hZ; clear hZ
    have h2' : decide ((4000 : Int) < n) = false := by simp; omega
    clear h2
    go_enter Try.func70, Try.ntmps70
    go_wp2
    refine wp_loop_rounds 2 ?_
    rw [rounds_succ]
    go_wp2
    rw [rounds_succ]
    go_wp2
    go_ret
    rw [HE.out, HZ.out]
    exact ⟨rfl, Fr.refl _ _⟩

/-- The three ways of a number: below, above, a Word. -/
theorem three (p : Int) : (p < 0 ∧ okN p = false) ∨ ((decide (p < 0) = false ∧ (65535 : Int) < p) ∧ okN p = false) ∨ ((decide (p < 0) = false ∧ decide ((65535 : Int) < p) = false) ∧ okN p = true) := by
  unfold okN
  by_cases h0 : p < 0
  · left; simp; omega
  · by_cases h1 : 65535 < p
    · right; left; simp; omega
    · right; right; simp; omega

set_option maxRecDepth 100000 in
theorem check2_any (a : Option Addr) (n c : Nat) (g : Nat) (p r : Int) (w : World) (hg : w.heap[g]? = some (.cells #[.int .i64 p, .int .i64 r] 3 (0, 0))) :
    Calls Try.prog 70 #[.slice a n c, .slice (some ⟨g, 0, none⟩) 2 2] w fun e w' => e = .returned (.int .i64 (achk p r n)) ∧ Fr (fun _ => False) w w' := by
  have c0 := crow hg 0 _ rfl
  have c1 := crow hg 1 _ rfl
  rcases three p with ⟨h0, hE⟩ | ⟨⟨h0, h1⟩, hE⟩ | ⟨⟨h0, h1⟩, hE⟩
  · have HE : Hid (achk p r n = 2) := Lib.hid (by unfold achk; rw [hE]; rfl)
    clear hE
    go_enter Try.func70, Try.ntmps70
    go_wp2
    refine wp_loop_rounds 1 ?_
    rw [rounds_succ]
    go_wp2
    go_ret
    rw [HE.out]
    exact ⟨rfl, Fr.refl _ _⟩
  · have HE : Hid (achk p r n = 2) := Lib.hid (by unfold achk; rw [hE]; rfl)
    clear hE
    go_enter Try.func70, Try.ntmps70
    go_wp2
    refine wp_loop_rounds 1 ?_
    rw [rounds_succ]
    go_wp2
    go_ret
    rw [HE.out]
    exact ⟨rfl, Fr.refl _ _⟩
  · have HE : Hid (achk p r n = cchk r n) := Lib.hid (by unfold achk; rw [if_pos hE])
    clear hE
    rcases three r with ⟨k0, kE⟩ | ⟨⟨k0, k1⟩, kE⟩ | ⟨⟨k0, k1⟩, kE⟩
    · have KE : Hid (cchk r n = 2) := Lib.hid (by unfold cchk; rw [kE]; rfl)
      clear kE
      go_enter Try.func70, Try.ntmps70
      go_wp2
      refine wp_loop_rounds 2 ?_
      rw [rounds_succ]
      go_wp2
      rw [rounds_succ]
      go_wp2
      go_ret
      rw [HE.out, KE.out]
      exact ⟨rfl, Fr.refl _ _⟩
    · have KE : Hid (cchk r n = 2) := Lib.hid (by unfold cchk; rw [kE]; rfl)
      clear kE
      go_enter Try.func70, Try.ntmps70
      go_wp2
      refine wp_loop_rounds 2 ?_
      rw [rounds_succ]
      go_wp2
      rw [rounds_succ]
      go_wp2
      go_ret
      rw [HE.out, KE.out]
      exact ⟨rfl, Fr.refl _ _⟩
    · have KE : Hid (cchk r n = sizeN n) := Lib.hid (by unfold cchk; rw [if_pos kE])
      clear kE
      by_cases h2 : (4000 : Int) < n
      · have hZ : sizeN n = 6 := by unfold sizeN; rw [if_neg (by omega)]
        have HZ := Lib.hid hZ; clear hZ
        go_enter Try.func70, Try.ntmps70
        go_wp2
        refine wp_loop_rounds 3 ?_
        rw [rounds_succ]
        go_wp2
        rw [rounds_succ]
        go_wp2
        rw [rounds_succ]
        go_wp2
        go_ret
        rw [HE.out, KE.out, HZ.out]
        exact ⟨rfl, Fr.refl _ _⟩
      · have hZ : sizeN n = 0 := by unfold sizeN; rw [if_pos (by omega)]
        have HZ := Lib.hid hZ; clear hZ
        have h2' : decide ((4000 : Int) < n) = false := by simp; omega
        clear h2
        go_enter Try.func70, Try.ntmps70
        go_wp2
        refine wp_loop_rounds 3 ?_
        rw [rounds_succ]
        go_wp2
        rw [rounds_succ]
        go_wp2
        rw [rounds_succ]
        go_wp2
        go_ret
        rw [HE.out, KE.out, HZ.out]
        exact ⟨rfl, Fr.refl _ _⟩
end
section
theorem new_two (w : World) (A B : Obj) : ((w.alloc A).alloc B).heap[w.heap.size + 1]? = some B := by
  have := heap_alloc_new (w.alloc A) B
  rw [World.size_alloc] at this
  exact this

/-- A call's check. -/
theorem ccheck_any (t n p : Int) (a : Option Addr) (k c : Nat) (w : World) :
    Calls Try.prog 32 #[cv t n p (.slice a k c)] w fun e w' => e = .returned (.int .i64 (cchk p k)) ∧ Fr (fun _ => False) w w' := by
  unfold cv
  go_enter Try.func32, Try.ntmps32
  go_wp2_with fail
  have hg := new_two w (Obj.cells #[.int .u16 t, .int .u16 n, .int .i64 p, .slice a k c] 41 (0, 0)) (Obj.cells #[.int .i64 p] 3 (0, 0))
  have hf : Fr (fun _ => False) w ((w.alloc (Obj.cells #[.int .u16 t, .int .u16 n, .int .i64 p, .slice a k c] 41 (0, 0))).alloc (Obj.cells #[.int .i64 p] 3 (0, 0))) := ((Fr.refl _ _).alloc _).alloc _
  refine (check1_any a k c _ p _ hg).mono ?_
  rintro e w1 ⟨rfl, f1⟩
  have F := Lib.hid (hf.trans f1 (fun _ _ h => h))
  clear hg hf f1
  go_wp2
  go_ret
  exact ⟨rfl, F.out⟩

/-- An answer's check. -/
theorem acheck_any (x r : Int) (a : Option Addr) (k c : Nat) (w : World) :
    Calls Try.prog 33 #[av x r (.slice a k c)] w fun e w' => e = .returned (.int .i64 (achk x r k)) ∧ Fr (fun _ => False) w w' := by
  unfold av
  go_enter Try.func33, Try.ntmps33
  go_wp2_with fail
  have hg := new_two w (Obj.cells #[.int .i64 x, .int .i64 r, .slice a k c] 49 (0, 0)) (Obj.cells #[.int .i64 x, .int .i64 r] 3 (0, 0))
  have hf : Fr (fun _ => False) w ((w.alloc (Obj.cells #[.int .i64 x, .int .i64 r, .slice a k c] 49 (0, 0))).alloc (Obj.cells #[.int .i64 x, .int .i64 r] 3 (0, 0))) := ((Fr.refl _ _).alloc _).alloc _
  refine (check2_any a k c _ x r _ hg).mono ?_
  rintro e w1 ⟨rfl, f1⟩
  have F := Lib.hid (hf.trans f1 (fun _ _ h => h))
  clear hg hf f1
  go_wp2
  go_ret
  exact ⟨rfl, F.out⟩
end
section
theorem Sees.none {w w' : World} {v : Value} {l : List UInt8} (h : Sees w v l) (hl : l = []) : Sees w' v l := by
  subst hl
  rcases h with ⟨_, a, c, rfl⟩ | ⟨g, off, cap, rfl, _, _⟩
  · exact .inl ⟨rfl, _, _, rfl⟩
  · exact .inl ⟨rfl, _, _, rfl⟩

theorem ok_bounds {p : Int} (h : okN p = true) : 0 ≤ p ∧ p ≤ 65535 := by unfold okN at h; simpa using h
theorem cchk_ok {p : Int} {n : Nat} (h : okN p = true) (hn : n ≤ 4000) : cchk p n = 0 := by unfold cchk sizeN; rw [if_pos h, if_pos hn]
theorem achk_ok {e r : Int} {n : Nat} (h : okN e = true) (h' : okN r = true) (hn : n ≤ 4000) : achk e r n = 0 := by unfold achk; rw [if_pos h]; exact cchk_ok h' hn

theorem crow_kept {S : Nat → Prop} {w0 w1 : World} {b : Nat} {o : Obj} (h : w0.heap[b]? = some o) (f : Fr S w0 w1) (hb : ¬ S b) : w1.heap[b]? = some o := by
  rw [f.block b (Array.getElem?_eq_some_iff.1 h).1 hb]; exact h
theorem cell4 {w : World} {b : Nat} {x0 x1 x2 x3 : Value} {t : TypeId} (h : w.heap[b]? = some (.cells #[x0, x1, x2, x3] t (0, 0))) :
    w.cell? ⟨b, 0, none⟩ = some x0 ∧ w.cell? ⟨b, 1, none⟩ = some x1 ∧ w.cell? ⟨b, 2, none⟩ = some x2 ∧ w.cell? ⟨b, 3, none⟩ = some x3 := by
  simp [World.cell?, h]
theorem cell3 {w : World} {b : Nat} {x0 x1 x2 : Value} {t : TypeId} (h : w.heap[b]? = some (.cells #[x0, x1, x2] t (0, 0))) :
    w.cell? ⟨b, 0, none⟩ = some x0 ∧ w.cell? ⟨b, 1, none⟩ = some x1 ∧ w.cell? ⟨b, 2, none⟩ = some x2 := by
  simp [World.cell?, h]

set_option maxRecDepth 100000 in
theorem cput_any (t n p : Int) (v : Value) (l : List UInt8) (b : Nat) (u : Value) (L : List UInt8) (w : World) (ht0 : 0 ≤ t) (ht1 : t ≤ 65535) (hn0 : 0 ≤ n) (hn1 : n ≤ 65535) (hp : okN p = true)
    (hs : Sees w v l) (hl : l.length ≤ 4000) (hW : Wr w b u L) (hL : L.length ≤ 800000000) (hvb : l = [] ∨ (v.ownBlock ≠ some b ∧ ∀ k, v.ownBlock = some k → u.ownBlock ≠ some k)) :
    Calls Try.prog 54 #[cv t n p v, .pointer (some ⟨b, 0, none⟩)] w fun e w' => e = .returned (.tuple #[]) ∧ Wrote b u (L ++ callB t n p l) w w' := by
  obtain ⟨a, c, rfl, hnn⟩ := hs.shape
  clear hnn
  have hck := cchk_ok hp hl
  obtain ⟨hp0, hp1⟩ := ok_bounds hp
  have HB := Lib.hid hvb; clear hvb
  have HS := Lib.hid hs; clear hs
  have Hl := Lib.hid hl; clear hl
  have hbl := hW.lt.1
  have hul := Lib.hid hW.lt.2
  unfold cv
  go_enter Try.func54, Try.ntmps54
  go_wp2_with fail
  have f0 : Fr (fun _ => False) w (w.alloc (Obj.cells #[.int .u16 t, .int .u16 n, .int .i64 p, .slice a l.length c] 41 (0, 0))) := (Fr.refl _ _).alloc _
  have q0 := heap_alloc_new w (Obj.cells #[.int .u16 t, .int .u16 n, .int .i64 p, .slice a l.length c] 41 (0, 0))
  generalize w.alloc (Obj.cells #[.int .u16 t, .int .u16 n, .int .i64 p, .slice a l.length c] 41 (0, 0)) = w0 at *
  generalize hgd : w.heap.size = g at *
  have Hgd := Lib.hid hgd; clear hgd
  refine (ccheck_any t n p a l.length c _).mono ?_
  rintro e w1 ⟨rfl, f1⟩
  rw [hck]
  clear hck
  have q1 := crow_kept q0 f1 (fun h => h)
  have F1 := Lib.hid (f0.trans f1 (fun _ _ h => h))
  clear q0 f0 f1
  obtain ⟨hb0, hb1, hb2, hb3⟩ := cell4 q1
  go_wp2_with fail
  have W1 := hW.fr F1.out (fun h => h) (fun _ _ h => h)
  refine (word_any b u L t ht0 ht1 _ W1 (by omega)).mono ?_
  rintro e w2 ⟨rfl, u2, W2, f2, v2⟩
  have gu : ¬ (g = b ∨ u.ownBlock = some g) := by
    rintro (e | e)
    · omega
    · have := hul.out g e; have := Hgd.out; omega
  have q2 := crow_kept q1 f2 gu
  obtain ⟨hb0, hb1, hb2, hb3⟩ := cell4 q2
  have F2 := Lib.hid f2; clear f2
  have V2 := Lib.hid v2; clear v2
  have Q1 := Lib.hid q1; clear q1
  have Q2 := Lib.hid q2; clear q2
  have s1 := Lib.hid F1.out.size
  go_wp2_with fail
  refine (word_any b u2 _ n hn0 hn1 _ W2 (by rw [List.length_append, be2_length]; omega)).mono ?_
  rintro e w3 ⟨rfl, h3⟩
  obtain ⟨u3, W3, f3, v3⟩ := Wrote.trans F2.out V2.out h3
  have q3 := crow_kept Q1.out f3 gu
  obtain ⟨hb0, hb1, hb2, hb3⟩ := cell4 q3
  have F3 := Lib.hid f3; clear f3
  have V3 := Lib.hid v3; clear v3
  have Q3 := Lib.hid q3; clear q3
  clear h3
  go_wp2_with fail
  refine (word_any b u3 _ p hp0 hp1 _ W3 (by rw [List.length_append, List.length_append, be2_length, be2_length]; omega)).mono ?_
  rintro e w4 ⟨rfl, h4⟩
  obtain ⟨u4, W4, f4, v4⟩ := Wrote.trans F3.out V3.out h4
  have q4 := crow_kept Q1.out f4 gu
  obtain ⟨hb0, hb1, hb2, hb3⟩ := cell4 q4
  have hs4 : Sees w4 (.slice a l.length c) l := by
    rcases HB.out with e0 | ⟨e1, e2⟩
    · exact (HS.out.fr F1.out (fun _ _ h => h)).none e0
    · exact (HS.out.fr F1.out (fun _ _ h => h)).fr f4 (fun k hk => by
        rintro (e | e)
        · exact e1 (e ▸ hk)
        · exact e2 k hk e)
  have hcv : (convert 24 9 (.slice a l.length c)).run Try.prog w4 = .ok (.string ⟨l.toArray⟩) w4 := hs4.string _ _ _ Try.underlying24 Try.underlying5 Try.underlying9
  have F4 := Lib.hid f4; clear f4
  have V4 := Lib.hid v4; clear v4
  clear h4 hs4 q4
  go_wp2_with fail
  refine (text_any b u4 _ ⟨l.toArray⟩ (by have := Hl.out; show l.length ≤ 65535; omega) _ W4 (by rw [List.length_append, List.length_append, List.length_append, be2_length, be2_length, be2_length]; omega)).mono ?_
  rintro e w5 ⟨rfl, h5⟩
  have H5 := Lib.hid (Wrote.trans F4.out V4.out h5)
  clear h5 hcv
  go_wp2_with fail
  go_end0
  refine ⟨rfl, Wrote.trans (F1.out.mono (fun _ _ h => h.elim)) (.inl rfl) ?_⟩
  have := H5.out
  unfold callB
  simpa only [List.append_assoc] using this

set_option maxRecDepth 100000 in
theorem aput_any (n p : Int) (v : Value) (l : List UInt8) (b : Nat) (u : Value) (L : List UInt8) (w : World) (hn : okN n = true) (hp : okN p = true)
    (hs : Sees w v l) (hl : l.length ≤ 4000) (hW : Wr w b u L) (hL : L.length ≤ 800000000) (hvb : l = [] ∨ (v.ownBlock ≠ some b ∧ ∀ k, v.ownBlock = some k → u.ownBlock ≠ some k)) :
    Calls Try.prog 56 #[av n p v, .pointer (some ⟨b, 0, none⟩)] w fun e w' => e = .returned (.tuple #[]) ∧ Wrote b u (L ++ ansB n p l) w w' := by
  obtain ⟨a, c, rfl, hnn⟩ := hs.shape
  clear hnn
  have hck := achk_ok hn hp hl
  obtain ⟨hn0, hn1⟩ := ok_bounds hn
  obtain ⟨hp0, hp1⟩ := ok_bounds hp
  have HB := Lib.hid hvb; clear hvb
  have HS := Lib.hid hs; clear hs
  have Hl := Lib.hid hl; clear hl
  have hbl := hW.lt.1
  have hul := Lib.hid hW.lt.2
  unfold av
  go_enter Try.func56, Try.ntmps56
  go_wp2_with fail
  have f0 : Fr (fun _ => False) w (w.alloc (Obj.cells #[.int .i64 n, .int .i64 p, .slice a l.length c] 49 (0, 0))) := (Fr.refl _ _).alloc _
  have q0 := heap_alloc_new w (Obj.cells #[.int .i64 n, .int .i64 p, .slice a l.length c] 49 (0, 0))
  generalize w.alloc (Obj.cells #[.int .i64 n, .int .i64 p, .slice a l.length c] 49 (0, 0)) = w0 at *
  generalize hgd : w.heap.size = g at *
  have Hgd := Lib.hid hgd; clear hgd
  refine (acheck_any n p a l.length c _).mono ?_
  rintro e w1 ⟨rfl, f1⟩
  rw [hck]
  clear hck
  have q1 := crow_kept q0 f1 (fun h => h)
  have F1 := Lib.hid (f0.trans f1 (fun _ _ h => h))
  clear q0 f0 f1
  obtain ⟨hb0, hb1, hb2⟩ := cell3 q1
  go_wp2_with fail
  have W1 := hW.fr F1.out (fun h => h) (fun _ _ h => h)
  refine (word_any b u L n hn0 hn1 _ W1 (by omega)).mono ?_
  rintro e w2 ⟨rfl, u2, W2, f2, v2⟩
  have gu : ¬ (g = b ∨ u.ownBlock = some g) := by
    rintro (e | e)
    · omega
    · have := hul.out g e; have := Hgd.out; omega
  have q2 := crow_kept q1 f2 gu
  obtain ⟨hb0, hb1, hb2⟩ := cell3 q2
  have F2 := Lib.hid f2; clear f2
  have V2 := Lib.hid v2; clear v2
  have Q1 := Lib.hid q1; clear q1
  have Q2 := Lib.hid q2; clear q2
  have s1 := Lib.hid F1.out.size
  go_wp2_with fail
  refine (word_any b u2 _ p hp0 hp1 _ W2 (by rw [List.length_append, be2_length]; omega)).mono ?_
  rintro e w4 ⟨rfl, h4⟩
  obtain ⟨u4, W4, f4, v4⟩ := Wrote.trans F2.out V2.out h4
  have q4 := crow_kept Q1.out f4 gu
  obtain ⟨hb0, hb1, hb2⟩ := cell3 q4
  have hs4 : Sees w4 (.slice a l.length c) l := by
    rcases HB.out with e0 | ⟨e1, e2⟩
    · exact (HS.out.fr F1.out (fun _ _ h => h)).none e0
    · exact (HS.out.fr F1.out (fun _ _ h => h)).fr f4 (fun k hk => by
        rintro (e | e)
        · exact e1 (e ▸ hk)
        · exact e2 k hk e)
  have hcv : (convert 24 9 (.slice a l.length c)).run Try.prog w4 = .ok (.string ⟨l.toArray⟩) w4 := hs4.string _ _ _ Try.underlying24 Try.underlying5 Try.underlying9
  have F4 := Lib.hid f4; clear f4
  have V4 := Lib.hid v4; clear v4
  clear h4 hs4 q4
  go_wp2_with fail
  refine (text_any b u4 _ ⟨l.toArray⟩ (by have := Hl.out; show l.length ≤ 65535; omega) _ W4 (by rw [List.length_append, List.length_append, be2_length, be2_length]; omega)).mono ?_
  rintro e w5 ⟨rfl, h5⟩
  have H5 := Lib.hid (Wrote.trans F4.out V4.out h5)
  clear h5 hcv
  go_wp2_with fail
  go_end0
  refine ⟨rfl, Wrote.trans (F1.out.mono (fun _ _ h => h.elim)) (.inl rfl) ?_⟩
  have := H5.out
  unfold ansB
  simpa only [List.append_assoc] using this

theorem callB_length (t n p : Int) (l : List UInt8) : (callB t n p l).length = 8 + l.length + l.length % 2 := by
  unfold callB
  rw [List.length_append, List.length_append, List.length_append, be2_length, be2_length, be2_length, txt_length]
  omega
theorem ansB_length (n p : Int) (l : List UInt8) : (ansB n p l).length = 6 + l.length + l.length % 2 := by
  unfold ansB
  rw [List.length_append, List.length_append, be2_length, be2_length, txt_length]
  omega
end
end Go.Proofs.Ytjnbpgadgdjobaa
