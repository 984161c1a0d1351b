/-
  CouBack, part 45 of what it rests on: ValSameMath, PReader.
-/
import Derived.Test.YtplipjijaaejlaaGreatS41
import Derived.Test.YtplipjijaaejlaaGreatS21
import Derived.Test.YtplipjijaaejlaaGreatS04
set_option linter.unusedVariables false
set_option linter.unusedSimpArgs false
set_option maxHeartbeats 64000000
namespace Go.Proofs.YtplipjijaaejlaaGreat
open Go.RowKit
open Go.Lib (hid)
section
theorem turn_sz (x : Int) (a : Nat) (s : Txt) (T : VT) : ∀ path, szV (turnE 1 x a s T path) = szV T := by
  induction T with
  | nil => intro path; rfl
  | mk N F S c ov ih =>
    intro path
    unfold turnE
    by_cases hc : path = [] ∨ c = 0
    · rw [if_pos hc]
      simp only [leafE, Nat.reduceMod, Nat.reduceEqDiff, if_false, if_true]
      rfl
    · rw [if_neg hc, szV, szV]
      congr 2
      apply List.map_congr_left
      intro i _
      by_cases e : i = (path.getD 0 0).toNat % c
      · rw [if_pos e, ih]
      · rw [if_neg e]
end
section
/-- Block b is a Reader of the bytes l, with the error e. -/
structure Rd (w : World) (b : Nat) (v : Value) (l : List UInt8) (e : Int) : Prop where
  here : w.heap[b]? = some (.cells #[v, .int .i64 e] 113 (0, 0))
  sees : Sees w v l
  apart : v.ownBlock ≠ some b
  clean : e ≠ 0 → l = []
  old : ∀ k, v.ownBlock = some k → k < w.heap.size

theorem cell_of_two {w : World} {b : Nat} {v u : Value} {t : TypeId} (h : w.heap[b]? = some (.cells #[v, u] t (0, 0))) : w.cell? ⟨b, 0, none⟩ = some v ∧ w.cell? ⟨b, 1, none⟩ = some u ∧ w.frozen? ⟨b, 0, none⟩ = false ∧ w.frozen? ⟨b, 1, none⟩ = false := by
  simp [World.cell?, World.frozen?, h]

theorem two_setCell0 {w : World} {b : Nat} {v u : Value} {t : TypeId} (h : w.heap[b]? = some (.cells #[v, u] t (0, 0))) (x : Value) : (w.setCell ⟨b, 0, none⟩ x).heap[b]? = some (.cells #[x, u] t (0, 0)) := by
  rw [heap_setCell_same w b 0 _ t x h]; rfl
theorem two_setCell1 {w : World} {b : Nat} {v u : Value} {t : TypeId} (h : w.heap[b]? = some (.cells #[v, u] t (0, 0))) (x : Value) : (w.setCell ⟨b, 1, none⟩ x).heap[b]? = some (.cells #[v, x] t (0, 0)) := by
  rw [heap_setCell_same w b 1 _ t x h]; rfl

theorem rdread_any (v : Value) (l : List UInt8) (w : World) (h : Sees w v l) (hl : l.length ≤ 2000000000) :
    Calls Tryz.prog 33 #[v] w fun e w' => ∃ b v', e = .returned (.pointer (some ⟨b, 0, none⟩)) ∧ Rd w' b v' l 0 ∧ Fr (fun _ => False) w w' ∧ w.heap.size ≤ b ∧ (∀ k, v'.ownBlock = some k → w.heap.size ≤ k) := by
  go_enter Tryz.func33, Tryz.ntmps33
  go_wp2_with fail
  refine (pclone_any _ l _ h hl).mono ?_
  rintro e w1 ⟨v', rfl, ho, hf, hv⟩
  obtain ⟨a, c, rfl⟩ := slice_of_own ho
  have Hv := Lib.hid hv; clear hv
  go_wp2
  go_ret
  refine ⟨_, _, rfl, ⟨heap_alloc_new w1 _, ?_, ?_, fun h => absurd rfl h, fun k hk => by have := ho.lt k hk; rw [World.size_alloc]; omega⟩, hf.alloc _, hf.size, Hv.out⟩
  · exact ho.sees.fr ((Fr.refl (fun _ => False) w1).alloc _) (fun _ _ h => h)
  · intro e; have := ho.lt _ e; omega

theorem rderr_any (b : Nat) (v : Value) (l : List UInt8) (x : Int) (w : World) (h : Rd w b v l x) :
    Calls Tryz.prog 67 #[.pointer (some ⟨b, 0, none⟩)] w fun e w' => e = .returned (.int .i64 x) ∧ w = w' := by
  obtain ⟨c0, c1, f0, f1⟩ := cell_of_two h.here
  go_enter Tryz.func67, Tryz.ntmps67
  go_wp2
  go_ret
  exact ⟨rfl, rfl⟩

theorem rdleft_any (b : Nat) (v : Value) (l : List UInt8) (x : Int) (w : World) (h : Rd w b v l x) :
    Calls Tryz.prog 66 #[.pointer (some ⟨b, 0, none⟩)] w fun e w' => e = .returned (.int .i64 l.length) ∧ w = w' := by
  obtain ⟨c0, c1, f0, f1⟩ := cell_of_two h.here
  obtain ⟨a, c, rfl, hn⟩ := h.sees.shape
  clear hn
  go_enter Tryz.func66, Tryz.ntmps66
  go_wp2
  go_ret
  exact ⟨rfl, rfl⟩

theorem rdend_any (b : Nat) (v : Value) (l : List UInt8) (x : Int) (w : World) (h : Rd w b v l x) :
    Calls Tryz.prog 35 #[.pointer (some ⟨b, 0, none⟩)] w fun e w' => e = .returned (.int .i64 (if l = [] then x else 12)) ∧ w = w' := by
  by_cases hl : l = []
  · subst hl
    go_enter Tryz.func35, Tryz.ntmps35
    go_wp2_with (first | (go_at_call 66; refine (rdleft_any b v [] x _ h).mono ?_; rintro e w' ⟨rfl, rfl⟩) | (go_at_call 67; refine (rderr_any b v [] x _ h).mono ?_; rintro e w' ⟨rfl, rfl⟩))
    go_ret
    exact ⟨rfl, rfl⟩
  · have hl0 : (0 : Int) < l.length := by have := List.length_pos_iff.2 hl; omega
    have Hl := Lib.hid hl; clear hl
    go_enter Tryz.func35, Tryz.ntmps35
    go_wp2_with (go_at_call 66; refine (rdleft_any b v l x _ h).mono ?_; rintro e w' ⟨rfl, rfl⟩)
    go_ret
    exact ⟨rfl, rfl⟩

/-- The same Reader behind a call that may have changed it: the block of its bytes stays, or goes. -/
def Reads (b : Nat) (v : Value) (l : List UInt8) (x : Int) (w w' : World) : Prop :=
  ∃ v', Rd w' b v' l x ∧ Fr (fun k => k = b) w w' ∧ (v'.ownBlock = v.ownBlock ∨ v'.ownBlock = none)

theorem Reads.refl {b : Nat} {v : Value} {l : List UInt8} {x : Int} {w : World} (h : Rd w b v l x) : Reads b v l x w w := ⟨v, h, Fr.refl _ _, .inl rfl⟩
theorem Reads.trans {b : Nat} {v v1 : Value} {l2 : List UInt8} {x2 : Int} {w w1 w2 : World} (hf : Fr (fun k => k = b) w w1) (hv : v1.ownBlock = v.ownBlock ∨ v1.ownBlock = none) (h : Reads b v1 l2 x2 w1 w2) : Reads b v l2 x2 w w2 := by
  obtain ⟨v2, h2, hf2, hv2⟩ := h
  refine ⟨v2, h2, hf.trans hf2 (fun _ _ e => e), ?_⟩
  rcases hv2 with e | e
  · rw [e]; exact hv
  · exact .inr e

/-- Fail, told of the bytes and the error. -/
def failS (st : List UInt8 × Int) (x : Int) : List UInt8 × Int := if x = 0 ∨ st.2 ≠ 0 then st else ([], x)

theorem rdfail_any (b : Nat) (v : Value) (l : List UInt8) (x y : Int) (w : World) (h : Rd w b v l x) :
    Calls Tryz.prog 57 #[.pointer (some ⟨b, 0, none⟩), .int .i64 y] w fun e w' => e = .returned (.tuple #[]) ∧ Reads b v (failS (l, x) y).1 (failS (l, x) y).2 w w' := by
  obtain ⟨c0, c1, f0, f1⟩ := cell_of_two h.here
  by_cases hy : y = 0
  · subst hy
    go_enter Tryz.func57, Tryz.ntmps57
    go_wp2
    go_returns
    exact ⟨rfl, by simpa [failS] using Reads.refl h⟩
  by_cases hx : x = 0
  · have hy' : (y == 0) = false := by simpa using hy
    have hx' : (x != 0) = false := by simpa using hx
    have Hx := Lib.hid hx; clear hx
    have Hy := Lib.hid hy; clear hy
    go_enter Tryz.func57, Tryz.ntmps57
    go_wp2
    go_returns
    have e : failS (l, x) y = ([], y) := if_neg (by simp [Hx.out, Hy.out])
    rw [e]
    refine ⟨rfl, .slice none 0 0, ⟨two_setCell0 (two_setCell1 h.here _) _, .inl ⟨rfl, _, _, rfl⟩, by simp [Value.ownBlock], fun _ => rfl, fun k hk => by cases hk⟩, ?_, .inr rfl⟩
    exact ((Fr.refl _ _).set1 1 _).set1 0 _
  · have hy' : (y == 0) = false := by simpa using hy
    have hx' : (x != 0) = true := by simpa using hx
    have Hx := Lib.hid hx; clear hx
    have Hy := Lib.hid hy; clear hy
    go_enter Tryz.func57, Tryz.ntmps57
    go_wp2
    go_returns
    exact ⟨rfl, by simpa [failS, Hx.out, Hy.out] using Reads.refl h⟩

/-- The next k bytes, told of the bytes and the error. -/
def nextS (st : List UInt8 × Int) (k : Nat) : List UInt8 × (List UInt8 × Int) :=
  if st.1.length < k then ([], failS st 3) else (st.1.take k, (st.1.drop k, st.2))

theorem Sees.take {w : World} {a : Option Addr} {c k : Nat} {l : List UInt8} (h : Sees w (.slice a l.length c) l) (hk : k ≤ l.length) : Sees w (.slice a k c) (l.take k) := by
  rcases h with ⟨rfl, _⟩ | ⟨g, off, cap, e, hle, hc⟩
  · left; simp at hk; subst hk; exact ⟨rfl, _, _, rfl⟩
  · simp at e; obtain ⟨rfl, rfl⟩ := e
    right
    have hl : (l.take k).length = k := by simp; omega
    refine ⟨g, off, _, by rw [hl], by omega, fun j hj => ?_⟩
    rw [hc j (by omega)]
    simp [List.getD, show j < k by omega]

theorem Sees.drop_full {w : World} {a : Option Addr} {k : Nat} {l : List UInt8} (h : Sees w (.slice a l.length k) l) (hk : k ≤ l.length) :
    l.length = k := by
  rcases h with ⟨rfl, _⟩ | ⟨g, off, cap, e, hle, hc⟩
  · simp at hk; simp [hk]
  · simp at e; omega

theorem Sees.drop_part {w : World} {a : Option Addr} {c k : Nat} {l : List UInt8} (h : Sees w (.slice a l.length c) l) (hk : k ≤ l.length) :
    Sees w (.slice (a.map fun x => x.add k) (l.length - k) (c - k)) (l.drop k) := by
  rcases h with ⟨rfl, _⟩ | ⟨g, off, cap, e, hle, hc⟩
  · left; simp at hk; subst hk; exact ⟨by simp, _, _, rfl⟩
  · simp at e; obtain ⟨rfl, rfl⟩ := e
    right
    have hplain : (⟨g, off, none⟩ : Addr).add k = ⟨g, off + k, none⟩ := by unfold Addr.add; split <;> simp_all
    refine ⟨g, off + k, c - k, ?_, by simp; omega, fun j hj => ?_⟩
    · rw [Option.map_some, hplain, List.length_drop]
    · simp at hj
      rw [show off + k + j = off + (k + j) by omega, hc (k + j) (by omega)]
      simp [List.getD]

theorem part_block {a : Option Addr} {n c n' c' k : Nat} : (Value.slice (a.map fun x => x.add k) n c').ownBlock = (Value.slice a n' c).ownBlock := by
  cases a with
  | none => rfl
  | some a =>
    simp only [Option.map_some, Value.ownBlock, Addr.add]
    split <;> rfl

theorem Rd.next {w : World} {b : Nat} {a a' : Option Addr} {c c' k : Nat} {l : List UInt8} {x : Int} (h : Rd w b (.slice a l.length c) l x) (hk : k ≤ l.length)
    (hs : Sees w (.slice a' (l.length - k) c') (l.drop k)) (hb : (Value.slice a' (l.length - k) c').ownBlock = (Value.slice a l.length c).ownBlock) :
    Sees (w.setCell ⟨b, 0, none⟩ (.slice a' (l.length - k) c')) (.slice a k c) (l.take k) ∧ ((Value.slice a k c).ownBlock = (Value.slice a l.length c).ownBlock ∨ (Value.slice a k c).ownBlock = none) ∧
      Reads b (.slice a l.length c) (l.drop k) x w (w.setCell ⟨b, 0, none⟩ (.slice a' (l.length - k) c')) := by
  have hfr := (Fr.refl (fun k => k = b) w).set1 0 (.slice a' (l.length - k) c')
  have e1 : (Value.slice a k c).ownBlock = (Value.slice a l.length c).ownBlock := by cases a <;> rfl
  refine ⟨(h.sees.take hk).fr hfr ?_, .inl e1, _, ⟨two_setCell0 h.here _, hs.fr hfr ?_, ?_, ?_, fun k hk => by rw [World.size_setCell]; exact h.old k (hb ▸ hk)⟩, hfr, .inl hb⟩
  · rintro i hi rfl; exact h.apart (e1 ▸ hi)
  · rintro i hi rfl; exact h.apart (hb ▸ hi)
  · rw [hb]; exact h.apart
  · intro hx; rw [h.clean hx]; simp

theorem rdnext_any (b : Nat) (v : Value) (l : List UInt8) (x k : Int) (h0 : 0 ≤ k) (w : World) (hR : Rd w b v l x) :
    Calls Tryz.prog 77 #[.pointer (some ⟨b, 0, none⟩), .int .i64 k] w fun e w' => ∃ r, e = .returned r ∧ Sees w' r (nextS (l, x) k.toNat).1 ∧ (r.ownBlock = v.ownBlock ∨ r.ownBlock = none) ∧
      Reads b v (nextS (l, x) k.toNat).2.1 (nextS (l, x) k.toNat).2.2 w w' := by
  obtain ⟨k, rfl⟩ := Int.eq_ofNat_of_zero_le h0
  rw [Int.toNat_natCast]
  obtain ⟨c0, c1, f0, f1⟩ := cell_of_two hR.here
  obtain ⟨a, c, rfl, hn⟩ := hR.sees.shape
  clear hn
  by_cases hk : l.length < k
  · have e : nextS (l, x) k = ([], failS (l, x) 3) := if_pos hk
    have E := Lib.hid e; clear e
    go_enter Tryz.func77, Tryz.ntmps77
    go_wp2_with (go_at_call 57; refine (rdfail_any b _ l x 3 _ hR).mono ?_; rintro e w1 ⟨rfl, hr⟩)
    go_ret
    rw [E.out]
    exact ⟨_, rfl, .inl ⟨rfl, _, _, rfl⟩, .inr rfl, hr⟩
  · have e : nextS (l, x) k = (l.take k, (l.drop k, x)) := if_neg hk
    have E := Lib.hid e; clear e
    have hcap : l.length ≤ c := by
      rcases hR.sees with ⟨rfl, _⟩ | ⟨g, off, cap, e, hle, _⟩
      · simp
      · simp at e; omega
    by_cases hck : c = k
    · subst hck
      have hlc := hR.sees.drop_full (by omega)
      subst hlc
      go_enter Tryz.func77, Tryz.ntmps77
      go_wp2_with fail
      go_ret
      rw [E.out]
      exact ⟨.slice a l.length l.length, rfl, by simpa using hR.next (c' := 0) (a' := a) (Nat.le_refl _) (.inl ⟨by simp, _, _, by rw [Nat.sub_self]⟩) (by cases a <;> rfl)⟩
    · go_enter Tryz.func77, Tryz.ntmps77
      go_wp2_with fail
      go_ret
      rw [E.out]
      exact ⟨.slice a k c, rfl, hR.next (by omega) (hR.sees.drop_part (k := k) (by omega)) part_block⟩

theorem or8 (n c : Nat) (hn : n < 256 ^ 7) (hc : c < 2 ^ 8) : bits .or .u64 ((n : Int) * 256) (c : Int) = ((n * 256 + c : Nat) : Int) := by
  have e : ((n : Int) * 256) = ((n * 256 : Nat) : Int) := by omega
  rw [e, u64_or_nat (n * 256) c (by omega) (by omega)]
  congr 1
  have h := Nat.two_pow_add_eq_or_of_lt (i := 8) (b := c) hc n
  rw [show n * 256 = 2 ^ 8 * n by omega]
  exact h.symm

/-- A number of k bytes. -/
def numS (st : List UInt8 × Int) (k : Nat) : Nat × (List UInt8 × Int) := (beNum (nextS st k).1, (nextS st k).2)

theorem rdnumber_any (b : Nat) (v : Value) (l : List UInt8) (x k : Int) (h0 : 0 ≤ k) (h8 : k ≤ 8) (w : World) (hR : Rd w b v l x) :
    Calls Tryz.prog 74 #[.pointer (some ⟨b, 0, none⟩), .int .i64 k] w fun e w' => e = .returned (.int .u64 (numS (l, x) k.toNat).1) ∧
      Reads b v (numS (l, x) k.toNat).2.1 (numS (l, x) k.toNat).2.2 w w' := by
  go_enter Tryz.func74, Tryz.ntmps74
  go_wp2_with fail
  refine (rdnext_any b v l x k h0 _ hR).mono ?_
  rintro e w1 ⟨r, rfl, hs, hb, hr⟩
  have hlen : (nextS (l, x) k.toNat).1.length ≤ 8 := by unfold nextS; split <;> simp; omega
  have hnum : numS (l, x) k.toNat = (beNum (nextS (l, x) k.toNat).1, (nextS (l, x) k.toNat).2) := rfl
  generalize hp : nextS (l, x) k.toNat = p at *
  have Hp := Lib.hid hp; clear hp
  have Hn := Lib.hid hnum; clear hnum
  clear hb
  rcases hs with ⟨h0, a, c, rfl⟩ | ⟨g, off, c, rfl, hle, hc⟩
  · have Hz := Lib.hid h0; clear h0
    go_wp2_with fail
    refine wp_loop_rounds 1 ?_
    rw [rounds_succ]
    go_wp2
    go_ret
    rw [Hn.out, Hz.out]
    exact ⟨rfl, hr⟩
  go_wp2_with fail
  go_loop [5, 12] (fun n i => ∃ j : Nat, j ≤ p.1.length ∧ i = .int .i64 j ∧ n = .int .u64 (beNum (p.1.take j))) (fun _ i => p.1.length - (intOf i).toNat)
  case atStart => exact ⟨0, Nat.zero_le _, rfl, rfl⟩
  case round =>
    obtain ⟨j, hj, rfl, rfl⟩ := hrel
    by_cases hlt : j < p.1.length
    · have hsm := beNum_small (p.1.take j) 7 (by simp; omega)
      have hcell := hc j hlt
      clear hc
      have hsn : beNum (p.1.take (j + 1)) = beNum (p.1.take j) * 256 + (p.1.getD j 0).toNat := by
        rw [List.take_succ_eq_append_getElem hlt, beNum_snoc]
        simp [List.getD, hlt]
      have Hsn := Lib.hid hsn; clear hsn
      generalize p.1.getD j 0 = ch at *
      generalize beNum (p.1.take j) = n at *
      have hb := ch.toNat_lt
      unfold bv at hcell
      have hor := or8 n ch.toNat hsm hb
      go_wp2
      go_round
      case rel => exact ⟨j + 1, by omega, by go_num, by rw [Hsn.out]; exact congrArg (Value.int .u64) (by omega)⟩
      case measure => simp [intOf]; omega
    · go_wp2
      go_ret
      rw [Hn.out]
      have e : p.1.take j = p.1 := List.take_of_length_le (by omega)
      rw [e]
      exact ⟨rfl, hr⟩

theorem nextS_len (st : List UInt8 × Int) (k : Nat) : (nextS st k).1.length ≤ k := by
  unfold nextS; split
  · simp
  · simp; omega

theorem nextS_full (st : List UInt8 × Int) (k : Nat) : (nextS st k).2.2 = 0 → (nextS st k).1.length = k := by
  unfold nextS
  split
  · unfold failS
    intro h
    exfalso
    split at h
    · rename_i h2; rcases h2 with h2 | h2
      · omega
      · exact h2 h
    · simp at h
  · intro _; simp; omega

theorem numS_small (st : List UInt8 × Int) (k : Nat) : (numS st k).1 < 256 ^ k := beNum_small _ _ (nextS_len st k)

theorem rword_any (b : Nat) (v : Value) (l : List UInt8) (x : Int) (w : World) (hR : Rd w b v l x) :
    Calls Tryz.prog 59 #[.pointer (some ⟨b, 0, none⟩)] w fun e w' => e = .returned (.int .u16 (numS (l, x) 2).1) ∧ Reads b v (numS (l, x) 2).2.1 (numS (l, x) 2).2.2 w w' := by
  have hs : (numS (l, x) 2).1 < 256 ^ 2 := numS_small _ _
  go_enter Tryz.func59, Tryz.ntmps59
  go_wp2_with fail
  refine (rdnumber_any b v l x 2 (by omega) (by omega) _ hR).mono ?_
  rintro e w1 ⟨rfl, hr⟩
  rw [show (2 : Int).toNat = 2 from rfl] at hr ⊢
  generalize hp : numS (l, x) 2 = p at *
  have Hp := Lib.hid hp; clear hp
  go_wp2
  go_ret
  rw [Hp.out]
  exact ⟨rfl, hr⟩

theorem rlong_any (b : Nat) (v : Value) (l : List UInt8) (x : Int) (w : World) (hR : Rd w b v l x) :
    Calls Tryz.prog 60 #[.pointer (some ⟨b, 0, none⟩)] w fun e w' => e = .returned (.int .u32 (numS (l, x) 4).1) ∧ Reads b v (numS (l, x) 4).2.1 (numS (l, x) 4).2.2 w w' := by
  have hs : (numS (l, x) 4).1 < 256 ^ 4 := numS_small _ _
  go_enter Tryz.func60, Tryz.ntmps60
  go_wp2_with fail
  refine (rdnumber_any b v l x 4 (by omega) (by omega) _ hR).mono ?_
  rintro e w1 ⟨rfl, hr⟩
  rw [show (4 : Int).toNat = 4 from rfl] at hr ⊢
  generalize hp : numS (l, x) 4 = p at *
  have Hp := Lib.hid hp; clear hp
  go_wp2
  go_ret
  rw [Hp.out]
  exact ⟨rfl, hr⟩

theorem rquad_any (b : Nat) (v : Value) (l : List UInt8) (x : Int) (w : World) (hR : Rd w b v l x) :
    Calls Tryz.prog 76 #[.pointer (some ⟨b, 0, none⟩)] w fun e w' => e = .returned (.int .u64 (numS (l, x) 8).1) ∧ Reads b v (numS (l, x) 8).2.1 (numS (l, x) 8).2.2 w w' := by
  go_enter Tryz.func76, Tryz.ntmps76
  go_wp2_with fail
  refine (rdnumber_any b v l x 8 (by omega) (by omega) _ hR).mono ?_
  rintro e w1 ⟨rfl, hr⟩
  rw [show (8 : Int).toNat = 8 from rfl] at hr ⊢
  generalize hp : numS (l, x) 8 = p at *
  have Hp := Lib.hid hp; clear hp
  go_wp2
  go_ret
  rw [Hp.out]
  exact ⟨rfl, hr⟩

/-- A Word that is at most most. -/
def withinS (st : List UInt8 × Int) (most : Int) : Nat × (List UInt8 × Int) :=
  if most < (numS st 2).1 then (0, failS (numS st 2).2 7) else numS st 2

theorem rdwithin_any (b : Nat) (v : Value) (l : List UInt8) (x most : Int) (w : World) (hR : Rd w b v l x) :
    Calls Tryz.prog 58 #[.pointer (some ⟨b, 0, none⟩), .int .i64 most] w fun e w' => e = .returned (.int .i64 (withinS (l, x) most).1) ∧ Reads b v (withinS (l, x) most).2.1 (withinS (l, x) most).2.2 w w' := by
  have hs : (numS (l, x) 2).1 < 256 ^ 2 := numS_small _ _
  have hw : withinS (l, x) most = if most < (numS (l, x) 2).1 then (0, failS (numS (l, x) 2).2 7) else numS (l, x) 2 := rfl
  have Hw := Lib.hid hw; clear hw
  go_enter Tryz.func58, Tryz.ntmps58
  go_wp2_with fail
  refine (rword_any b v l x _ hR).mono ?_
  rintro e w1 ⟨rfl, hr⟩
  generalize numS (l, x) 2 = p at *
  obtain ⟨v1, hR1, hf1, hv1⟩ := hr
  have Hv := Lib.hid hv1; clear hv1
  by_cases hm : most < p.1
  · have Hw' : Hid (withinS (l, x) most = (0, failS p.2 7)) := Lib.hid (by rw [Hw.out, if_pos hm])
    clear Hw
    go_wp2_with fail
    refine (rdfail_any b v1 p.2.1 p.2.2 7 _ hR1).mono ?_
    rintro e w2 ⟨rfl, hr⟩
    go_wp2
    go_ret
    rw [Hw'.out]
    exact ⟨rfl, hr.trans hf1 Hv.out⟩
  · have Hw' : Hid (withinS (l, x) most = p) := Lib.hid (by rw [Hw.out, if_neg hm])
    clear Hw
    go_wp2_with fail
    go_ret
    rw [Hw'.out]
    exact ⟨rfl, v1, hR1, hf1, Hv.out⟩

/-- A text of at most most bytes. -/
def textS (st : List UInt8 × Int) (most : Int) : List UInt8 × (List UInt8 × Int) :=
  let n := withinS st most
  let p := nextS n.2 (n.1 + n.1 % 2)
  if p.2.2 ≠ 0 then ([], p.2) else if n.1 % 2 = 1 ∧ p.1.getD n.1 0 ≠ 0 then ([], failS p.2 4) else (p.1.take n.1, p.2)

theorem withinS_small (st : List UInt8 × Int) (most : Int) : (withinS st most).1 < 65536 := by
  unfold withinS; split
  · simp
  · exact numS_small _ _

theorem rtext_any (b : Nat) (v : Value) (l : List UInt8) (x most : Int) (w : World) (hR : Rd w b v l x) :
    Calls Tryz.prog 62 #[.pointer (some ⟨b, 0, none⟩), .int .i64 most] w fun e w' => e = .returned (.string ⟨(textS (l, x) most).1.toArray⟩) ∧ Reads b v (textS (l, x) most).2.1 (textS (l, x) most).2.2 w w' := by
  have hs := withinS_small (l, x) most
  have ht : textS (l, x) most = (if (nextS (withinS (l, x) most).2 ((withinS (l, x) most).1 + (withinS (l, x) most).1 % 2)).2.2 ≠ 0 then ([], (nextS (withinS (l, x) most).2 ((withinS (l, x) most).1 + (withinS (l, x) most).1 % 2)).2) else if (withinS (l, x) most).1 % 2 = 1 ∧ (nextS (withinS (l, x) most).2 ((withinS (l, x) most).1 + (withinS (l, x) most).1 % 2)).1.getD (withinS (l, x) most).1 0 ≠ 0 then ([], failS (nextS (withinS (l, x) most).2 ((withinS (l, x) most).1 + (withinS (l, x) most).1 % 2)).2 4) else ((nextS (withinS (l, x) most).2 ((withinS (l, x) most).1 + (withinS (l, x) most).1 % 2)).1.take (withinS (l, x) most).1, (nextS (withinS (l, x) most).2 ((withinS (l, x) most).1 + (withinS (l, x) most).1 % 2)).2)) := rfl
  have Ht := Lib.hid ht; clear ht
  go_enter Tryz.func62, Tryz.ntmps62
  go_wp2_with fail
  refine (rdwithin_any b v l x most _ hR).mono ?_
  rintro e w1 ⟨rfl, hr⟩
  generalize withinS (l, x) most = p at *
  obtain ⟨v1, hR1, hf1, hv1⟩ := hr
  have Hv1 := Lib.hid hv1; clear hv1
  go_wp2_with fail
  refine (rdnext_any b v1 p.2.1 p.2.2 _ (by omega) _ hR1).mono ?_
  rintro e w2 ⟨r, rfl, hs2, hb2, hr2⟩
  rw [show ((p.1 : Int) + (p.1 : Int) % 2).toNat = p.1 + p.1 % 2 by omega] at hs2 hr2
  have hlen : (nextS (p.2.1, p.2.2) (p.1 + p.1 % 2)).2.2 = 0 → (nextS (p.2.1, p.2.2) (p.1 + p.1 % 2)).1.length = p.1 + p.1 % 2 := nextS_full _ _
  have hq : nextS p.2 (p.1 + p.1 % 2) = nextS (p.2.1, p.2.2) (p.1 + p.1 % 2) := rfl
  rw [hq] at Ht
  generalize nextS (p.2.1, p.2.2) (p.1 + p.1 % 2) = q at *
  clear hq
  obtain ⟨v2, hR2, hf2, hv2⟩ := hr2
  have Hv2 := Lib.hid hv2; clear hv2
  have Hb2 := Lib.hid hb2; clear hb2
  have Hlen := Lib.hid hlen; clear hlen
  by_cases he : q.2.2 = 0
  · have he' : (q.2.2 != 0) = false := by simpa using he
    have hl := Hlen.out he
    have He := Lib.hid he; clear he Hlen
    obtain ⟨a, c, rfl, hnil⟩ := hs2.shape
    clear hnil
    have hcap := hs2.cap.2
    have hcv : (convert 26 9 (.slice a p.1 c)).run Tryz.prog w2 = .ok (.string ⟨(q.1.take p.1).toArray⟩) w2 := (hs2.take (by omega)).string _ _ _ Tryz.underlying26 Tryz.underlying5 Tryz.underlying9
    have hlq := hl
    have Hl := Lib.hid hl; clear hl
    have hle : p.1 ≤ c := by omega
    clear hcap
    by_cases hodd : p.1 % 2 = 1
    · have h1 : ((p.1 : Int) % 2 == 1) = true := by simp; omega
      rcases hs2 with ⟨h0, _⟩ | ⟨g, off, cap, e, hle2, hc⟩
      · exfalso; rw [h0] at hlq; simp at hlq; omega
      have hcell := hc p.1 (by omega)
      simp only [Value.slice.injEq] at e
      obtain ⟨rfl, _, rfl⟩ := e
      clear hc
      have hlt : p.1 < q.1.length := by omega
      have Hlq := Lib.hid hlq; clear hlq
      have Hodd := Lib.hid hodd; clear hodd
      generalize hch : q.1.getD p.1 0 = ch at *
      have Hch := Lib.hid hch; clear hch
      unfold bv at hcell
      by_cases hz : ch = 0
      · have Ht' : Hid (textS (l, x) most = (q.1.take p.1, q.2)) := Lib.hid (by rw [Ht.out, if_neg (fun h => h He.out), if_neg (fun h => h.2 hz)])
        clear Ht
        subst hz
        go_wp2_with (go_at_call 67; refine (rderr_any b v2 q.2.1 q.2.2 _ hR2).mono ?_; rintro e w' ⟨rfl, rfl⟩)
        go_ret
        rw [Ht'.out]
        exact ⟨rfl, Reads.trans hf1 Hv1.out ⟨v2, hR2, hf2, Hv2.out⟩⟩
      · have Ht' : Hid (textS (l, x) most = ([], failS q.2 4)) := Lib.hid (by rw [Ht.out, if_neg (fun h => h He.out), if_pos ⟨Hodd.out, hz⟩])
        clear Ht
        have hz' : ((ch.toNat : Int) != 0) = true := by
          have : ch.toNat ≠ 0 := fun h => hz (UInt8.toNat_inj.1 h)
          simp; omega
        clear hz
        go_wp2_with (first | (go_at_call 67; refine (rderr_any b v2 q.2.1 q.2.2 _ hR2).mono ?_; rintro e w' ⟨rfl, rfl⟩) | (go_at_call 57; refine (rdfail_any b v2 q.2.1 q.2.2 4 _ hR2).mono ?_; rintro e w3 ⟨rfl, hr3⟩))
        go_ret
        rw [Ht'.out]
        exact ⟨rfl, Reads.trans hf1 Hv1.out (Reads.trans hf2 Hv2.out hr3)⟩
    · have h1 : ((p.1 : Int) % 2 == 1) = false := by simp; omega
      have Ht' : Hid (textS (l, x) most = (q.1.take p.1, q.2)) := Lib.hid (by rw [Ht.out, if_neg (fun h => h He.out), if_neg (fun h => hodd h.1)])
      clear Ht
      have Hlq := Lib.hid hlq; clear hlq
      have Hodd := Lib.hid hodd; clear hodd
      go_wp2_with (go_at_call 67; refine (rderr_any b v2 q.2.1 q.2.2 _ hR2).mono ?_; rintro e w' ⟨rfl, rfl⟩)
      go_ret
      rw [Ht'.out]
      exact ⟨rfl, Reads.trans hf1 Hv1.out ⟨v2, hR2, hf2, Hv2.out⟩⟩
  · have Ht' : Hid (textS (l, x) most = ([], q.2)) := Lib.hid (by rw [Ht.out, if_pos he])
    clear Ht
    have he' : (q.2.2 != 0) = true := by simpa using he
    have He := Lib.hid he; clear he
    go_wp2_with (go_at_call 67; refine (rderr_any b v2 q.2.1 q.2.2 _ hR2).mono ?_; rintro e w' ⟨rfl, rfl⟩)
    go_ret
    rw [Ht'.out]
    exact ⟨rfl, Reads.trans hf1 Hv1.out ⟨v2, hR2, hf2, Hv2.out⟩⟩

theorem Rd.lt {w : World} {b : Nat} {v : Value} {l : List UInt8} {e : Int} (h : Rd w b v l e) : b < w.heap.size := lt_of_block h.here

theorem Rd.fr {S : Nat → Prop} {w w' : World} {b : Nat} {v : Value} {l : List UInt8} {e : Int} (h : Rd w b v l e) (hf : Fr S w w') (hb : ¬ S b) (hv : ∀ k, v.ownBlock = some k → ¬ S k) : Rd w' b v l e :=
  ⟨by rw [hf.block b (lt_of_block h.here) hb]; exact h.here, h.sees.fr hf hv, h.apart, h.clean, fun k hk => Nat.lt_of_lt_of_le (h.old k hk) hf.size⟩

/-- What a nil Reader answers. -/
theorem err_nil (w : World) : Calls Tryz.prog 67 #[.pointer none] w fun e w' => e = .returned (.int .i64 1) ∧ w = w' := by
  go_enter Tryz.func67, Tryz.ntmps67
  go_wp2
  go_ret
  exact ⟨rfl, rfl⟩
theorem left_nil (w : World) : Calls Tryz.prog 66 #[.pointer none] w fun e w' => e = .returned (.int .i64 0) ∧ w = w' := by
  go_enter Tryz.func66, Tryz.ntmps66
  go_wp2
  go_ret
  exact ⟨rfl, rfl⟩
theorem end_nil (w : World) : Calls Tryz.prog 35 #[.pointer none] w fun e w' => e = .returned (.int .i64 1) ∧ w = w' := by
  go_enter Tryz.func35, Tryz.ntmps35
  go_wp2_with (first | (go_at_call 66; refine (left_nil _).mono ?_; rintro e w' ⟨rfl, rfl⟩) | (go_at_call 67; refine (err_nil _).mono ?_; rintro e w' ⟨rfl, rfl⟩))
  go_ret
  exact ⟨rfl, rfl⟩
theorem rfail_nil (y : Int) (w : World) : Calls Tryz.prog 57 #[.pointer none, .int .i64 y] w fun e w' => e = .returned (.tuple #[]) ∧ w = w' := by
  go_enter Tryz.func57, Tryz.ntmps57
  go_wp2
  go_returns
  exact ⟨rfl, rfl⟩
theorem next_nil (k : Int) (w : World) : Calls Tryz.prog 77 #[.pointer none, .int .i64 k] w fun e w' => e = .returned (.slice none 0 0) ∧ w = w' := by
  go_enter Tryz.func77, Tryz.ntmps77
  go_wp2
  go_ret
  exact ⟨rfl, rfl⟩
theorem number_nil (k : Int) (w : World) : Calls Tryz.prog 74 #[.pointer none, .int .i64 k] w fun e w' => e = .returned (.int .u64 0) ∧ w = w' := by
  go_enter Tryz.func74, Tryz.ntmps74
  go_wp2_with (go_at_call 77; refine (next_nil _ _).mono ?_; rintro e w' ⟨rfl, rfl⟩)
  refine wp_loop_rounds 1 ?_
  rw [rounds_succ]
  go_wp2
  go_ret
  exact ⟨rfl, rfl⟩
theorem rword_nil (w : World) : Calls Tryz.prog 59 #[.pointer none] w fun e w' => e = .returned (.int .u16 0) ∧ w = w' := by
  go_enter Tryz.func59, Tryz.ntmps59
  go_wp2_with (go_at_call 74; refine (number_nil _ _).mono ?_; rintro e w' ⟨rfl, rfl⟩)
  go_ret
  exact ⟨rfl, rfl⟩
theorem rquad_nil (w : World) : Calls Tryz.prog 76 #[.pointer none] w fun e w' => e = .returned (.int .u64 0) ∧ w = w' := by
  go_enter Tryz.func76, Tryz.ntmps76
  go_wp2_with (go_at_call 74; refine (number_nil _ _).mono ?_; rintro e w' ⟨rfl, rfl⟩)
  go_ret
  exact ⟨rfl, rfl⟩
theorem within_nil (most : Int) (hm : 0 ≤ most) (w : World) : Calls Tryz.prog 58 #[.pointer none, .int .i64 most] w fun e w' => e = .returned (.int .i64 0) ∧ w = w' := by
  go_enter Tryz.func58, Tryz.ntmps58
  go_wp2_with (go_at_call 59; refine (rword_nil _).mono ?_; rintro e w' ⟨rfl, rfl⟩)
  go_ret
  exact ⟨rfl, rfl⟩
theorem rtext_nil (most : Int) (hm : 0 ≤ most) (w : World) : Calls Tryz.prog 62 #[.pointer none, .int .i64 most] w fun e w' => e = .returned (.string ⟨#[]⟩) ∧ w = w' := by
  go_enter Tryz.func62, Tryz.ntmps62
  go_wp2_with (first | (go_at_call 58; refine (within_nil _ hm _).mono ?_; rintro e w' ⟨rfl, rfl⟩) | (go_at_call 77; refine (next_nil _ _).mono ?_; rintro e w' ⟨rfl, rfl⟩) | (go_at_call 67; refine (err_nil _).mono ?_; rintro e w' ⟨rfl, rfl⟩))
  go_ret
  exact ⟨rfl, rfl⟩
end
end Go.Proofs.YtplipjijaaejlaaGreat
