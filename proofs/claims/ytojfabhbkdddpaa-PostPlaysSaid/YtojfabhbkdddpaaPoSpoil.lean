/-
  Post: Spoil.
-/
import Derived.Test.YtojfabhbkdddpaaPoTake
namespace Go.Proofs.Ytojfabhbkdddpaa
open Go.RowKit
set_option maxRecDepth 100000
set_option linter.unusedSimpArgs false
set_option linter.unusedVariables false

/-- One bit turned, the most significant one of each byte first. -/
def flipB (y : List UInt8) (j : Nat) : List UInt8 := y.set (j / 8) (y.getD (j / 8) 0 ^^^ UInt8.ofNat (128 / 2 ^ (j % 8)))
/-- The first k bits of a mask turned, from bit f on. -/
def turnN (l : List UInt8) (f m : Nat) : Nat → List UInt8
  | 0 => l
  | k + 1 => if m.testBit (31 - k) then flipB (turnN l f m k) (f + k) else turnN l f m k
def turnL (l : List UInt8) (f m : Nat) : List UInt8 := turnN l f m 32
theorem turnN_length (l : List UInt8) (f m : Nat) : ∀ k, (turnN l f m k).length = l.length
  | 0 => rfl
  | k + 1 => by
    unfold turnN
    split
    · unfold flipB; rw [List.length_set, turnN_length l f m k]
    · exact turnN_length l f m k

theorem bits_and_nat (k : IntKind) (j : Nat) (hj : j ≤ k.bits) (hk : ∀ n : Int, 0 ≤ n → n < 2 ^ j → k.wrap n = n) (a b : Nat) (ha : a < 2 ^ j) (hb : b < 2 ^ j) :
    bits .and k a b = ((a &&& b : Nat) : Int) := by
  have hp : 2 ^ j ≤ 2 ^ k.bits := Nat.pow_le_pow_right (by decide) hj
  have ha' : a % 2 ^ k.bits = a := Nat.mod_eq_of_lt (Nat.lt_of_lt_of_le ha hp)
  have hb' : b % 2 ^ k.bits = b := Nat.mod_eq_of_lt (Nat.lt_of_lt_of_le hb hp)
  simp only [bits, BitVec.ofInt_natCast, BitVec.toNat_and, BitVec.toNat_ofNat, ha', hb']
  exact hk _ (Int.natCast_nonneg _) (by exact_mod_cast Nat.and_lt_two_pow a hb)

theorem wraps_u32n (n : Int) (h0 : 0 ≤ n) (h1 : n < 2 ^ 32) : IntKind.u32.wrap n = n := by
  rw [IntKind.wrap_u32]; omega

theorem mask_bit (m : Nat) (hm : m < 4294967296) (j : Nat) : (bits .and .u32 ((m : Int) / 2 ^ j) 1 == 1) = m.testBit j := by
  have e : (m : Int) / 2 ^ j = ((m / 2 ^ j : Nat) : Int) := by simp
  have hlt : m / 2 ^ j < 4294967296 := Nat.lt_of_le_of_lt (Nat.div_le_self _ _) hm
  rw [e, show (1 : Int) = ((1 : Nat) : Int) from rfl, bits_and_nat .u32 32 (by decide) wraps_u32n _ _ hlt (by decide), Nat.and_one_is_mod, Nat.testBit_eq_decide_div_mod_eq, Bool.eq_iff_iff]
  simp
  omega

/-- A number modulo another one, from 0 up. -/
theorem wrap_any (n r : Int) (w : World) (h0 : 0 < r) (h1 : r ≤ 1000000) (hn : -9223372036854775808 ≤ n ∧ n ≤ 9223372036854775807) : Calls Try.prog 18 #[.int .i64 n, .int .i64 r] w fun e w' => e = .returned (.int .i64 (n % r)) ∧ w = w' := by
  have hr0 : ¬ r = 0 := by omega
  have e1 := Int.emod_nonneg n hr0
  have e2 := Int.emod_lt_of_pos n h0
  have e3 := Int.tmod_lt_of_pos n h0
  obtain ⟨x, hx⟩ : ∃ x, x = n.tmod r := ⟨_, rfl⟩
  obtain ⟨y, hy⟩ : ∃ y, y = n % r := ⟨_, rfl⟩
  have hxy : y = if x < 0 then x + r else x := by
    have e4 := Int.lt_tmod_of_pos n h0
    have e5 : n % r = (n.tmod r) % r := by
      conv => lhs; rw [← Int.tmod_add_mul_tdiv n r, Int.add_mul_emod_self_left]
    rw [hy, e5, ← hx]
    rw [← hx] at e3 e4
    split
    · rw [← Int.add_emod_right x r]
      exact Int.emod_eq_of_lt (by omega) (by omega)
    · exact Int.emod_eq_of_lt (by omega) (by omega)
  rw [← hy]
  have e4 := Int.lt_tmod_of_pos n h0
  rw [hx] at hxy
  have HXY := Lib.hid hxy
  clear hxy hx hy x
  go_enter Try.func18, Try.ntmps18
  go_wp2_with fail
  · rename_i hlt
    go_ret
    rw [HXY.out, if_pos hlt]
    exact ⟨rfl, rfl⟩
  · rename_i hlt
    go_ret
    rw [HXY.out, if_neg (by omega)]
    exact ⟨rfl, rfl⟩

set_option maxHeartbeats 4000000 in
theorem turn_any (g c : Nat) (l : List UInt8) (w : World) (ho : Own w (.slice (some ⟨g, 0, none⟩) l.length c) l) (f : Nat) (hf : f + 32 ≤ 8 * l.length) (m : Nat) (hm : m < 4294967296) (hl : l.length ≤ 100000) :
    Calls Try.prog 17 #[.slice (some ⟨g, 0, none⟩) l.length c, .int .i64 f, .int .u32 m] w fun e w' => e = .returned (.tuple #[]) ∧ Own w' (.slice (some ⟨g, 0, none⟩) l.length c) (turnL l f m) ∧ Fr (fun k => k = g) w w' := by
  go_enter Try.func17, Try.ntmps17
  go_wp2_with fail
  go_loopg [6, 7] 32 (fun gg u i wr => ∃ (k : Nat), k ≤ 32 ∧ gg = 32 - k ∧ i = .int .i64 k ∧ Own wr (.slice (some ⟨g, 0, none⟩) l.length c) (turnN l f m k) ∧ Fr (fun k => k = g) w wr)
  case atStart => exact ⟨0, by omega, rfl, rfl, ho, Fr.refl _ _⟩
  case round =>
    clear ho
    obtain ⟨k, hk, rfl, rfl, ho, fw⟩ := hrel
    by_cases hlt : k < 32
    · have hyl := turnN_length l f m k
      obtain ⟨y, hy⟩ : ∃ y, y = turnN l f m k := ⟨_, rfl⟩
      rw [← hy] at ho hyl
      obtain ⟨q, hqd⟩ : ∃ q, q = (f + k) / 8 := ⟨_, rfl⟩
      obtain ⟨r, hrd⟩ : ∃ r, r = (f + k) % 8 := ⟨_, rfl⟩
      have hq : q < y.length := by omega
      have hc := own_at ho q hq
      have hz := own_frozen ho q
      rw [Nat.zero_add] at hc
      unfold bv at hc
      obtain ⟨D, hD⟩ : ∃ D : UInt8, D = UInt8.ofNat (128 / 2 ^ r) := ⟨_, rfl⟩
      have hS : Own (wr.setCell ⟨g, q, none⟩ (bv (y.getD q 0 ^^^ D))) (.slice (some ⟨g, 0, none⟩) l.length c) (flipB y (f + k)) := by
        have := own_set ho q (y.getD q 0 ^^^ D)
        rw [hD] at this ⊢
        unfold flipB
        rw [← hqd, ← hrd]
        exact this
      have hr9 : r < 8 := by omega
      have hD2 : (128 : Int) / 2 ^ r = (D.toNat : Int) := by
        rw [hD]
        have : ∀ a : Fin 8, (128 : Int) / 2 ^ a.val = ((UInt8.ofNat (128 / 2 ^ a.val)).toNat : Int) := by decide
        exact this ⟨_, hr9⟩
      generalize hd : y.getD q 0 = d at *
      have hx : Value.int .u8 (bits .xor .u8 (d.toNat : Int) (128 / 2 ^ r)) = bv (d ^^^ D) := by
        rw [hD2, xor_u8 _ _ (UInt8.toNat_lt _) (UInt8.toNat_lt _)]; unfold bv; rw [UInt8.toNat_xor]
      have hq8 : ((f : Int) + (k : Int)) / 8 = (q : Int) := by omega
      have hr8 : ((f : Int) + (k : Int)) % 8 = (r : Int) := by omega
      have hqn : q < l.length := by omega
      have HO := Lib.hid ho
      have HW := Lib.hid fw
      have HX := Lib.hid hx
      have HS := Lib.hid hS
      have HY := Lib.hid hy
      have HLT := Lib.hid hlt
      have HB := Lib.hid (mask_bit m hm (31 - k))
      clear hx hD hD2 hS ho hd fw hqd hrd hyl hq hy
      go_wp2_with fail
      · rename_i _ hb
        rw [HB.out] at hb
        go_region
        all_goals
          go_wp2_with fail
          rw [HX.out]
          go_roundg (32 - (k + 1))
          case measure => omega
          case rel =>
            refine ⟨k + 1, by omega, rfl, by simp, ?_, (HW.out.set1 q _).drew⟩
            have hs := HS.out
            unfold turnN
            rw [if_pos hb, ← HY.out]
            exact hs
      · rename_i _ hb
        rw [HB.out] at hb
        go_roundg (32 - (k + 1))
        case measure => omega
        case rel =>
          refine ⟨k + 1, by omega, rfl, by simp, ?_, HW.out⟩
          have hs := HO.out
          unfold turnN
          rw [if_neg (by rw [hb]; simp), ← HY.out]
          exact hs
    · obtain rfl : k = 32 := by omega
      have HO := Lib.hid ho
      have HW := Lib.hid fw
      clear ho fw
      go_wp2_with fail
      go_returns
      exact ⟨rfl, HO.out, HW.out⟩

/-- May it be spoilt? -/
def spoilB (R : List PF) (i : Int) (m : Nat) : Bool := hasB i R.length && (decide (m ≠ 0) && (!(lookP R i).2.2 && decide (4 ≤ (lookP R i).2.1.length)))
def spoilF (x : PF) (from_ : Int) (m : Nat) : PF := (x.1, turnL x.2.1 ((from_ % (8 * (x.2.1.length : Int) - 31)).toNat) m, true)
/-- What a post is behind a flight that is spoilt. -/
def spoilP (R : List PF) (i from_ : Int) (m : Nat) : List PF := if spoilB R i m then R.set i.toNat (spoilF (lookP R i) from_ m) else R

theorem flat_set (L : List Fl) (i : Nat) (hi : i < L.length) (l : List UInt8) : (L.set i ⟨L[i].t, l, true, L[i].v⟩).flatMap Fl.cells = (L.flatMap Fl.cells).set (i * 3 + 2) (.bool true) := by
  induction L generalizing i with
  | nil => simp at hi
  | cons a L ih =>
    cases i with
    | zero => rfl
    | succ i =>
      have := ih i (by simpa using hi)
      simp only [List.set_cons_succ, List.getElem_cons_succ, List.flatMap_cons]
      rw [this, show (i + 1) * 3 + 2 = a.cells.length + (i * 3 + 2) by rw [Fl.len]; omega, List.set_append_right _ _ (by omega)]
      congr 2
      omega

section
variable {w : World} {B b : Nat} {v : Value} {L : List Fl}

theorem spoil_has (p : Value) (i from_ : Int) (m : Nat) (w : World) (hn : Calls Try.prog 16 #[p, .int .i64 i] w fun e w' => e = .returned (.bool false) ∧ w = w') :
    Calls Try.prog 11 #[p, .int .i64 i, .int .i64 from_, .int .u32 m] w fun e w' => e = .returned (.bool false) ∧ Fr (fun _ => False) w w' := by
  go_enter Try.func11, Try.ntmps11
  go_wp2_with fail
  refine hn.mono ?_
  rintro e w1 ⟨rfl, rfl⟩
  go_wp2_with fail
  go_ret
  exact ⟨rfl, Fr.refl _ _⟩
theorem spoil_nil (i from_ : Int) (m : Nat) (w : World) : Calls Try.prog 11 #[nilP, .int .i64 i, .int .i64 from_, .int .u32 m] w fun e w' => e = .returned (.bool false) ∧ Fr (fun _ => False) w w' := spoil_has _ _ _ _ _ (has_nil w i)

theorem spoil_zero (h : PostIn w B b v L) (i from_ : Int) (hb : hasB i L.length = true) : Calls Try.prog 11 #[ptr b, .int .i64 i, .int .i64 from_, .int .u32 0] w fun e w' => e = .returned (.bool false) ∧ Fr (fun _ => False) w w' := by
  have HH := Lib.hid (has_any h i)
  rw [hb] at HH
  clear h hb
  go_enter Try.func11, Try.ntmps11
  go_wp2_with fail
  refine HH.out.mono ?_
  rintro e w1 ⟨rfl, rfl⟩
  go_wp2_with fail
  go_ret
  exact ⟨rfl, Fr.refl _ _⟩

set_option maxHeartbeats 4000000 in
theorem spoil_not (h : PostIn w B b v L) (i : Nat) (from_ : Int) (hi : i < L.length) (m : Nat) (hm : m < 4294967296) (hm0 : m ≠ 0) (hx : L[i].s = true ∨ L[i].l.length < 4) :
    Calls Try.prog 11 #[ptr b, .int .i64 i, .int .i64 from_, .int .u32 m] w fun e w' => e = .returned (.bool false) ∧ Fr (fun _ => False) w w' := by
  have HH := Lib.hid (has_any h i)
  rw [show hasB i L.length = true by unfold hasB; simp; omega] at HH
  have ho := h.own L[i] (List.getElem_mem hi)
  obtain ⟨x, hxe⟩ : ∃ x, x = L[i] := ⟨_, rfl⟩
  obtain ⟨gr, cap, rfl, hle, d0, d1, d2⟩ := h.at hi
  rw [← hxe] at ho hx d0 d1 d2
  obtain ⟨ax, cx, hvx⟩ := slice_of_own ho.1
  rw [hvx] at d1
  have hc := h.cell
  have hl := ho.2.1
  have hiL : (i : Int) < L.length := by omega
  have hmz : ((m : Int) == 0) = false := by simp; omega
  have hmz2 : ¬ ((m : Int) = 0) := by omega
  obtain ⟨xl, hxl⟩ : ∃ n, n = x.l.length := ⟨_, rfl⟩
  rw [← hxl] at d1 hx hl
  clear h ho hxe hvx hxl
  cases hs : x.s with
  | true =>
    rw [hs] at d2
    clear hs hx
    go_enter Try.func11, Try.ntmps11
    go_wp2_with fail
    refine HH.out.mono ?_
    rintro e w1 ⟨rfl, rfl⟩
    go_wp2_with fail
    go_ret
    exact ⟨rfl, Fr.refl _ _⟩
  | false =>
    rw [hs] at d2 hx
    have h4 : xl < 4 := by rcases hx with hx | hx; · cases hx
                           · exact hx
    clear hs hx
    go_enter Try.func11, Try.ntmps11
    go_wp2_with fail
    refine HH.out.mono ?_
    rintro e w1 ⟨rfl, rfl⟩
    go_wp2_with fail
    go_ret
    exact ⟨rfl, Fr.refl _ _⟩

/-- What is done of the region that turns bits. -/
def SpS (g c f m : Nat) (l : List UInt8) (w : World) : List Value → World → Prop
  | [], wx => wx = w.drew
  | [_], wx => Own wx (.slice (some ⟨g, 0, none⟩) l.length c) (turnL l f m) ∧ Fr (fun k => k = g) w wx
  | _, _ => False

theorem PostIn.apart {w : World} {B b : Nat} {v : Value} {L : List Fl} (h : PostIn w B b v L) {i j : Nat} (hi : i < L.length) (hj : j < L.length) (hij : i ≠ j) (k : Nat) (e : L[i].v.ownBlock = some k) : L[j].v.ownBlock ≠ some k := by
  have hp := List.pairwise_iff_getElem.1 h.ap
  rcases Nat.lt_or_ge i j with hlt | hge
  · exact hp i j hi hj hlt k e
  · intro e2
    exact hp j i hj hi (by omega) k e2 e

theorem map_set_v (L : List Fl) (i : Nat) (hi : i < L.length) (y : Fl) (hy : y.v = L[i].v) : (L.set i y).map Fl.v = L.map Fl.v := by
  apply List.ext_getElem
  · simp
  · intro j h1 h2
    simp only [List.getElem_map, List.getElem_set]
    split
    · rename_i e; subst e; exact hy
    · rfl

/-- The post behind a flight that is spoilt. -/
theorem spoil_done {w w4 : World} {B b gr cap g c i : Nat} {L : List Fl} {x : Fl} {l' : List UInt8} (h : PostIn w B b (.slice (some ⟨gr, 0, none⟩) L.length cap) L) (hi : i < L.length) (h1 : g ≠ gr) (h2 : g ≠ b) (h3 : gr ≠ b) (hx : x = L[i]) (hv : x.v = .slice (some ⟨g, 0, none⟩) x.l.length c) (h4 : gr ≠ g)
    (ho : Own w4 (.slice (some ⟨g, 0, none⟩) x.l.length c) l') (f : Fr (fun k => k = g) w w4) (hl : x.l.length ≤ 100000) (hll : l'.length = x.l.length) (hfs : (L.set i ⟨x.t, l', true, x.v⟩).flatMap Fl.cells = (L.flatMap Fl.cells).set (i * 3 + 2) (.bool true)) :
    PNew w (w4.setCell ⟨gr, i * 3 + 2, none⟩ (.bool true)) B b (.slice (some ⟨gr, 0, none⟩) L.length cap) L (.slice (some ⟨gr, 0, none⟩) L.length cap) (L.set i ⟨x.t, l', true, x.v⟩) := by
  obtain ⟨z, hz⟩ : ∃ z : Fl, z = ⟨x.t, l', true, x.v⟩ := ⟨_, rfl⟩
  have hzv : z.v = L[i].v := by rw [hz, hx]
  have hmv := map_set_v L i hi z hzv
  have fs : Fr (fun k => k = gr) w4 (w4.setCell ⟨gr, i * 3 + 2, none⟩ (.bool true)) := (Fr.refl (fun k => k = gr) w4).set1 _ _
  have fall : Fr (fun k => k = g ∨ k = gr) w (w4.setCell ⟨gr, i * 3 + 2, none⟩ (.bool true)) := f.comp fs (fun _ h => .inl h) (fun _ h => .inr h)
  have hg : L[i].v.ownBlock = some g := by rw [← hx, hv]; rfl
  have hblk : ∀ k, (∃ y ∈ L.set i z, y.v.ownBlock = some k) → ∃ y ∈ L, y.v.ownBlock = some k := by
    rintro k ⟨y, hy, hk⟩
    have : y.v ∈ L.map Fl.v := by rw [← hmv]; exact List.mem_map_of_mem hy
    obtain ⟨y', hy', e⟩ := List.mem_map.1 this
    exact ⟨y', hy', by rw [e]; exact hk⟩
  have hrow4 : FlOwn w4 B (.slice (some ⟨gr, 0, none⟩) L.length cap) L := ownsRow_fr h.row f (fun k hk e => by
    simp [Value.ownBlock] at hk
    omega)
  rw [← hz] at hfs ⊢
  refine ⟨⟨?_, h.bB, ?_, fun y hy => ?_, ?_, by rw [List.length_set]; exact h.many⟩, fall.mono (fun k _ hk => ?_), fun k hk => ?_⟩
  · exact crow_kept h.here fall (by omega)
  · have := (World.ownsRow.stored hrow4 (i * 3 + 2) (.bool true)).1
    unfold FlOwn
    rw [List.length_set, hfs]
    exact this
  · obtain ⟨j, hj, e⟩ := List.getElem_of_mem hy
    have hj' : j < L.length := by rw [List.length_set] at hj; exact hj
    rw [List.getElem_set] at e
    split at e
    · subst e
      have hB := (h.own L[i] (List.getElem_mem hi)).2.2
      refine ⟨?_, by rw [hz]; show l'.length ≤ _; omega, fun k hk => hB k (by rw [← hzv]; exact hk)⟩
      have e1 : z.v = .slice (some ⟨g, 0, none⟩) x.l.length c := by rw [hzv, ← hx, hv]
      have e2 : z.l = l' := by rw [hz]
      rw [e1, e2]
      exact ho.fr fs (fun k hk e => by
        simp [Value.ownBlock] at hk
        omega)
    · rename_i hne
      subst e
      obtain ⟨k1, k2, k3⟩ := h.own L[j] (List.getElem_mem hj')
      refine ⟨k1.fr fall (fun k hk e => ?_), k2, k3⟩
      rcases e with e | e
      · subst e; exact h.apart hi hj' hne _ hg hk
      · subst e; exact (h.rowNe rfl).2 _ (List.getElem_mem hj') hk
  · have h1 : (L.map Fl.v).Pairwise (fun a b => ∀ k, a.ownBlock = some k → b.ownBlock ≠ some k) := List.pairwise_map.2 h.ap
    rw [← hmv] at h1
    exact List.pairwise_map.1 h1
  · rcases hk with e | e
    · exact .inr (.inr ⟨L[i], List.getElem_mem hi, by rw [e]; exact hg⟩)
    · exact .inr (.inl (by rw [e]; rfl))
  · rcases hk with e | e | e
    · exact .inl (.inl e)
    · exact .inl (.inr (.inl e))
    · exact .inl (.inr (.inr (hblk k e)))

set_option maxHeartbeats 8000000 in
theorem spoil_do (h : PostIn w B b v L) (i : Nat) (from_ : Int) (hfr : -9223372036854775808 ≤ from_ ∧ from_ ≤ 9223372036854775807) (hi : i < L.length) (m : Nat) (hm : m < 4294967296) (hm0 : m ≠ 0) (hs : L[i].s = false) (h4 : 4 ≤ L[i].l.length) (f : Nat) (hf : from_ % (8 * (L[i].l.length : Int) - 31) = f) :
    Calls Try.prog 11 #[ptr b, .int .i64 i, .int .i64 from_, .int .u32 m] w fun e w' => e = .returned (.bool true) ∧ PNew w w' B b v L v (L.set i ⟨L[i].t, turnL L[i].l f m, true, L[i].v⟩) := by
  have HH := Lib.hid (has_any h i)
  rw [show hasB i L.length = true by unfold hasB; simp; omega] at HH
  have ho := h.own L[i] (List.getElem_mem hi)
  have hfs := flat_set L i hi (turnL L[i].l f m)
  obtain ⟨x, hxe⟩ : ∃ x, x = L[i] := ⟨_, rfl⟩
  have H := Lib.hid (And.intro h (And.intro ho hfs))
  have HXE := Lib.hid hxe
  obtain ⟨gr, cap, rfl, hle, d0, d1, d2⟩ := h.at hi
  rw [← hxe] at ho hs h4 hf d0 d1 d2 H ⊢
  obtain ⟨g, c, hvx⟩ : ∃ g c, x.v = .slice (some ⟨g, 0, none⟩) x.l.length c := by
    rcases ho.1.2 with ⟨_, e⟩ | ⟨g, cap, cur, e, _⟩
    · omega
    · exact ⟨g, cap, e⟩
  rw [hvx] at d1
  have hown : Own w (.slice (some ⟨g, 0, none⟩) x.l.length c) x.l := by rw [← hvx]; exact ho.1
  have hc := h.cell
  have hl := ho.2.1
  have hiL : (i : Int) < L.length := by omega
  have hmz : ((m : Int) == 0) = false := by simp; omega
  have hmz2 : ¬ ((m : Int) = 0) := by omega
  have hf32 : f + 32 ≤ 8 * x.l.length := by
    have := Int.emod_lt_of_pos from_ (show 0 < 8 * (x.l.length : Int) - 31 by omega)
    omega
  have hgg : g ≠ gr ∧ g ≠ b ∧ gr ≠ b := ⟨fun e => by
      have := (h.rowNe (k := gr) rfl).2 x (by rw [hxe]; exact List.getElem_mem hi)
      rw [hvx] at this
      simp [Value.ownBlock] at this
      omega, h.bytesNe (x := x) (by rw [hxe]; exact List.getElem_mem hi) (by rw [hvx]; rfl), (h.rowNe (k := gr) rfl).1⟩
  have hzr : w.frozen? ⟨gr, i * 3 + 2, none⟩ = false := World.ownsRow.frozenAt h.row _
  rw [hs] at d2
  have HO := Lib.hid (And.intro hown (And.intro hvx hs))
  have HF := Lib.hid hf
  have HF32 := Lib.hid hf32
  obtain ⟨xl, hxl⟩ : ∃ n, n = x.l.length := ⟨_, rfl⟩
  rw [← hxl] at d1 h4 hl
  have hroom : (8 * (xl : Int) - 32 + 1) = 8 * (xl : Int) - 31 := by omega
  have h5 : ¬ (8 * (xl : Int) - 32 + 1 < 1) := by omega
  have HW := Lib.hid (wrap_any from_ (8 * (xl : Int) - 32 + 1) w.drew (by omega) (by omega) hfr)
  have HXL := Lib.hid hxl
  clear h ho hxe hvx hown hf hf32 hfs hxl hs hroom hfr
  go_enter Try.func11, Try.ntmps11
  go_wp2_with fail
  refine HH.out.mono ?_
  rintro e w1 ⟨rfl, rfl⟩
  go_upto_region 7 with fail
  refine wp_region_chain (by kernel_rfl) [some 41, some 42, some 43, some 44, some 45, some 46, some 47, some 48, some 49] rfl (by decide) (by intro d hd; simp at hd ⊢; omega)
    [8] (fun cvs wx => SpS g c f m x.l w cvs wx)
    [.free (.pointer (some ⟨gr, i * 3, none⟩)), .free (.pointer (some ⟨gr, i * 3, none⟩)), .free (.pointer (some ⟨gr, i * 3 + 1, none⟩)), .free (.slice (some ⟨g, 0, none⟩) xl c), .free (.int .i64 from_), .free (.int .i64 (8 * (xl : Int) - 32 + 1)), .free (.int .i64 (from_ % (8 * (xl : Int) - 32 + 1))), .free (.int .u32 m), .link none]
    (by kernel_rfl) (by kernel_rfl) ?h7 ?step7 ?fin7
  case h7 => exact rfl
  case step7 =>
    intro vals
    simp only [frOfU, fillU, List.setIfInBounds_toArray, List.set_cons_succ, List.set_cons_zero]
    repeat' (first | exact AllOps.nil | refine AllOps.cons ?_ ?_)
    all_goals
      intro cvs wx hS he hu hlim Kc hK
      simp only [Act.put, List.setIfInBounds_toArray, List.set_cons_succ, List.set_cons_zero, List.getD_cons_zero, List.getD_cons_succ] at hK
      simp only [List.mem_cons, List.not_mem_nil, or_false, forall_eq_or_imp, forall_eq, Region.binds, forall_const, qmode_gc, Bool.false_eq_true, false_imp_iff, List.getD_cons_zero, List.getD_cons_succ, OpSort.val, Option.some.injEq, forall_eq', reduceCtorEq, implies_true, true_and, and_true] at he
      have HSX := Lib.hid hS
      clear hS
    all_goals first | (clear hlim hu; (try simp only [he] at hK ⊢); go_simp; exact hK) | skip
    · have hle : cvs.length ≤ 0 := hlim 0 8 rfl (by kernel_rfl)
      obtain rfl : cvs = [] := List.eq_nil_of_length_eq_zero (by omega)
      obtain rfl : wx = w.drew := HSX.out
      clear hlim hu hle HSX
      simp only [he] at hK ⊢
      go_simp
      exact hK
    · have hle : cvs.length ≤ 0 := hlim 0 8 rfl (by kernel_rfl)
      obtain rfl : cvs = [] := List.eq_nil_of_length_eq_zero (by omega)
      obtain rfl : wx = w.drew := HSX.out
      clear hlim hu hle HSX
      simp only [he] at hK ⊢
      go_simp
      go_at_call 18
      refine HW.out.mono ?_
      rintro y wa ⟨rfl, rfl⟩
      exact hK
    · obtain rfl := hlim (0 : Nat) rfl
      obtain rfl : wx = w.drew := HSX.out
      have ht := turn_any g c x.l w.drew (HO.out.1.fr (Fr.refl (fun _ => False) w).drew (fun _ _ h => h)) f HF32.out m hm (by have := HXL.out; omega)
      have hff : from_ % (8 * (xl : Int) - 32 + 1) = f := by rw [show 8 * (xl : Int) - 32 + 1 = 8 * (xl : Int) - 31 by omega, HXL.out]; exact HF.out
      rw [← HXL.out] at ht
      clear hlim hu HSX
      simp only [he, hff] at hK ⊢
      go_simp
      go_at_call 17
      refine ht.mono ?_
      rintro y wa ⟨rfl, k1, k2⟩
      refine hK _ _ (fun _ h => by cases h) ⟨?_, (Fr.refl (fun k => k = g) w).drew.trans k2 (fun _ _ h => h)⟩
      rw [← HXL.out]
      exact k1
  case fin7 =>
  intro vals w4 hS hV
  have v0 := hV 0 _ (by decide) rfl
  have v1 := hV 1 _ (by decide) rfl
  have v2 := hV 2 _ (by decide) rfl
  have v3 := hV 3 _ (by decide) rfl
  have v4 := hV 4 _ (by decide) rfl
  have v5 := hV 5 _ (by decide) rfl
  have v6 := hV 6 _ (by decide) rfl
  have v7 := hV 7 _ (by decide) rfl
  clear hV
  simp only [frOfU, fillU, List.setIfInBounds_toArray, List.set_cons_succ, List.set_cons_zero]
  simp only [Nat.reduceAdd, v0, v1, v2, v3, v4, v5, v6, v7]
  clear v0 v1 v2 v3 v4 v5 v6 v7
  have hd : Own w4 (.slice (some ⟨g, 0, none⟩) x.l.length c) (turnL x.l f m) ∧ Fr (fun k => k = g) w w4 := hS
  clear hS
  generalize vals 8 = z8 at *
  clear vals
  have d24 : w4.cell? ⟨gr, i * 3 + 2, none⟩ = some (.bool false) := by rw [hd.2.cell (World.block_lt_of_cell? w _ d2) (fun e => hgg.1 e.symm)]; exact d2
  have hr4 : FlOwn w4 B (.slice (some ⟨gr, 0, none⟩) L.length cap) L := ownsRow_fr H.out.1.row hd.2 (fun k hk e => by
    simp [Value.ownBlock] at hk
    omega)
  have hz4 : w4.frozen? ⟨gr, i * 3 + 2, none⟩ = false := World.ownsRow.frozenAt hr4 _
  have HD := Lib.hid (And.intro hd hr4)
  clear hd hr4
  go_wp2_with fail
  go_ret
  refine ⟨rfl, ?_⟩
  exact spoil_done H.out.1 hi hgg.1 hgg.2.1 hgg.2.2 HXE.out HO.out.2.1 (fun e => hgg.1 e.symm) HD.out.1.1 HD.out.1.2 H.out.2.1.2.1 (turnN_length _ _ _ 32) H.out.2.2

theorem spoil_any (h : PostIn w B b v L) (i from_ : Int) (hfr : -9223372036854775808 ≤ from_ ∧ from_ ≤ 9223372036854775807) (m : Nat) (hm : m < 4294967296) : Calls Try.prog 11 #[ptr b, .int .i64 i, .int .i64 from_, .int .u32 m] w fun e w' =>
    e = .returned (.bool (spoilB (L.map Fl.p) i m)) ∧ ∃ v' L', PNew w w' B b v L v' L' ∧ L'.map Fl.p = spoilP (L.map Fl.p) i from_ m := by
  have hl : (L.map Fl.p).length = L.length := List.length_map ..
  have stay : spoilB (L.map Fl.p) i m = false → (Calls Try.prog 11 #[ptr b, .int .i64 i, .int .i64 from_, .int .u32 m] w fun e w' => e = .returned (.bool false) ∧ Fr (fun _ => False) w w') →
      Calls Try.prog 11 #[ptr b, .int .i64 i, .int .i64 from_, .int .u32 m] w fun e w' =>
    e = .returned (.bool (spoilB (L.map Fl.p) i m)) ∧ ∃ v' L', PNew w w' B b v L v' L' ∧ L'.map Fl.p = spoilP (L.map Fl.p) i from_ m := by
    intro hs hc
    refine hc.mono ?_
    rintro e w1 ⟨rfl, f⟩
    rw [hs]
    refine ⟨rfl, v, L, PNew.same h f, ?_⟩
    unfold spoilP
    rw [hs]
    rfl
  cases hb : hasB i L.length with
  | false =>
    refine stay ?_ (spoil_has _ _ _ _ _ ?_)
    · unfold spoilB; rw [hl, hb]; rfl
    · have := has_any h i
      rw [hb] at this
      exact this
  | true =>
    by_cases hm0 : m = 0
    · subst hm0
      refine stay ?_ (spoil_zero h i from_ hb)
      unfold spoilB; simp
    obtain ⟨j, rfl, hj, e⟩ := lookP_in hl hb
    have hj' : j < L.length := by omega
    rw [List.getElem_map] at e
    have hB : spoilB (L.map Fl.p) j m = (!L[j].s && decide (4 ≤ L[j].l.length)) := by
      unfold spoilB
      rw [hl, hb, e]
      simp [hm0, Fl.p]
      try rfl
    by_cases hx : L[j].s = true ∨ L[j].l.length < 4
    · refine stay ?_ (spoil_not h j from_ hj' m hm hm0 hx)
      rw [hB]
      rcases hx with hx | hx
      · rw [hx]; rfl
      · simp; omega
    · have hs : L[j].s = false := by
        cases hs : L[j].s
        · rfl
        · exact absurd (.inl hs) hx
      have h4 : 4 ≤ L[j].l.length := by
        rcases Nat.lt_or_ge L[j].l.length 4 with h | h
        · exact absurd (.inr h) hx
        · exact h
      have hBt : spoilB (L.map Fl.p) j m = true := by rw [hB, hs]; simp [h4]
      have hnn := Int.emod_nonneg from_ (show 8 * (L[j].l.length : Int) - 31 ≠ 0 by omega)
      refine (spoil_do h j from_ hfr hj' m hm hm0 hs h4 (from_ % (8 * (L[j].l.length : Int) - 31)).toNat (by omega)).mono ?_
      rintro e' w1 ⟨rfl, hp⟩
      rw [hBt]
      refine ⟨rfl, _, _, hp, ?_⟩
      unfold spoilP
      rw [hBt, if_pos rfl, e]
      simp [List.map_set, Fl.p, spoilF]
end
end Go.Proofs.Ytojfabhbkdddpaa
