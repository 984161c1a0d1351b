/-
  LetAny, part 16 of what it rests on: LetAnyDef, LetAnyLaw.
-/
import Derived.Test.YtjnbpgadgdjobaaS15
import Derived.Test.YtjnbpgadgdjobaaS05
import Derived.BigRegion
set_option linter.unusedVariables false
set_option linter.unusedSimpArgs false
set_option maxHeartbeats 64000000
namespace Go.Proofs.Ytjnbpgadgdjobaa
open Go.RowKit
open Go.Lib (hid)
section
set_option maxRecDepth 100000

theorem sees_at {w : World} {a : Option Addr} {n c : Nat} {l : List UInt8} (h : Sees w (.slice a n c) l) (k : Nat) (hk : k < l.length) : ∃ g o, a = some ⟨g, o, none⟩ ∧ w.cell? ⟨g, o + k, none⟩ = some (bv (l.getD k 0)) := by
  rcases h with ⟨rfl, _⟩ | ⟨g, off, cap, e, hle, hc⟩
  · simp at hk
  · simp only [Value.slice.injEq] at e
    exact ⟨g, off, e.1, hc k hk⟩

theorem sees_lt {w : World} {g o n c : Nat} {l : List UInt8} (h : Sees w (.slice (some ⟨g, o, none⟩) n c) l) (k : Nat) (hk : k < l.length) : g < w.heap.size := by
  obtain ⟨g', o', e, hc⟩ := sees_at h k hk
  simp only [Option.some.injEq, Addr.mk.injEq] at e
  obtain ⟨rfl, _⟩ := e
  exact World.block_lt_of_cell? w _ hc

theorem own_at {w : World} {g n c : Nat} {l : List UInt8} (h : Own w (.slice (some ⟨g, 0, none⟩) n c) l) (k : Nat) (hk : k < l.length) : w.cell? ⟨g, 0 + k, none⟩ = some (bv (l.getD k 0)) := by
  obtain ⟨g', o', e, hc⟩ := sees_at h.sees k hk
  simp only [Option.some.injEq, Addr.mk.injEq] at e
  obtain ⟨rfl, rfl, _⟩ := e
  exact hc

theorem own_len {w : World} {g n c : Nat} {l : List UInt8} (h : Own w (.slice (some ⟨g, 0, none⟩) n c) l) : n = l.length := by
  rcases h.2 with ⟨e, _⟩ | ⟨g', cap', cur, h', _⟩
  · simp at e
  · simp at h'; exact h'.2.1

theorem own_frozen {w : World} {g n c : Nat} {l : List UInt8} (h : Own w (.slice (some ⟨g, 0, none⟩) n c) l) (k : Nat) : w.frozen? ⟨g, k, none⟩ = false := by
  obtain rfl := own_len h
  exact World.ownsRow.frozenAt h k

theorem own_set {w : World} {g n c : Nat} {l : List UInt8} (h : Own w (.slice (some ⟨g, 0, none⟩) n c) l) (k : Nat) (u : UInt8) : Own (w.setCell ⟨g, k, none⟩ (bv u)) (.slice (some ⟨g, 0, none⟩) n c) (l.set k u) := by
  obtain rfl := own_len h
  have := (World.ownsRow.stored h k (bv u)).1
  unfold Own
  rw [List.length_set, List.map_set]
  exact this

theorem empty_row8 (w : World) (base : Nat) (hb : base ≤ w.heap.size) (e : TypeId) (size : Nat) : (w.alloc (.cells #[] e)).ownsRow base e size (.slice (some ⟨w.heap.size, 0, none⟩) 0 0) 0 [] :=
  ⟨by simp, .inr ⟨w.heap.size, 0, #[], rfl, hb, heap_alloc_new w _, Nat.le_refl _, by unfold maxLen; omega, by simp, by simp⟩⟩

theorem awraps_u8 : ∀ n : Int, 0 ≤ n → n < 2 ^ 8 → IntKind.u8.wrap n = n := fun n h0 h1 => by rw [IntKind.wrap_u8]; omega

theorem abits_xor_nat (k : IntKind) (j : Nat) (hj : j ≤ k.bits) (hk : ∀ n : Int, 0 ≤ n → n < 2 ^ j → k.wrap n = n) (a b : Nat) (ha : a < 2 ^ j) (hb : b < 2 ^ j) :
    bits .xor k a b = ((a ^^^ b : Nat) : Int) := by
  have hp : 2 ^ j ≤ 2 ^ k.bits := Nat.pow_le_pow_right (by decide) hj
  have ha' : a % 2 ^ k.bits = a := Nat.mod_eq_of_lt (Nat.lt_of_lt_of_le ha hp)
  have hb' : b % 2 ^ k.bits = b := Nat.mod_eq_of_lt (Nat.lt_of_lt_of_le hb hp)
  simp only [bits, BitVec.ofInt_natCast, BitVec.toNat_xor, BitVec.toNat_ofNat, ha', hb']
  exact hk _ (Int.natCast_nonneg _) (by exact_mod_cast Nat.xor_lt_two_pow ha hb)

theorem axor_u8 (a b : Nat) (ha : a < 256) (hb : b < 256) : bits .xor .u8 (a : Int) (b : Int) = ((a ^^^ b : Nat) : Int) :=
  abits_xor_nat .u8 8 (by decide) awraps_u8 a b ha hb

theorem sees_old8 {w : World} {v : Value} {l : List UInt8} (h : Sees w v l) (hl : l ≠ []) : ∀ k, v.ownBlock = some k → k < w.heap.size := by
  rcases h with ⟨e, _⟩ | ⟨g, off, cap, rfl, _, hc⟩
  · exact absurd e hl
  · intro k hk
    have h0 := hc 0 (List.length_pos_iff.2 hl)
    cases hk
    exact World.block_lt_of_cell? w _ h0

theorem made_shape {v : Value} {l : List UInt8} {w w' : World} (h : Made v l w w') (hl : 0 < l.length) : ∃ g c, v = .slice (some ⟨g, 0, none⟩) l.length c ∧ l.length ≤ c := by
  rcases h.1.2 with ⟨_, h0⟩ | ⟨g, cap, cur, e, _, _, hle, _⟩
  · omega
  · exact ⟨g, cap, e, by omega⟩

theorem made_empty (w : World) : Made (.slice (some ⟨w.heap.size, 0, none⟩) 0 0) [] w (w.alloc (.cells #[] 5)) :=
  ⟨empty_row8 w 0 (Nat.zero_le _) 5 1, (Fr.refl _ _).alloc _, fun k hk => by have : w.heap.size = k := Option.some.inj hk; omega⟩

/-- Bytes put behind a row that was made. -/
theorem opWp_app {w wb wm : World} {o : Oper} {a : Act} {K : Act → World → Prop} {Q : Exit → Act → World → Prop} (s x : Operand)
    (ho : o.op = .call { callee := .builtin .append, args := #[s, x], argTypes := #[24, 24] })
    (v : Value) (hs : a.eval s = v) (xv : Value) (hx : a.eval x = xv) (L l : List UInt8) (h1 : Made v L wb wm) (hf : Fr (fun _ => False) wm w) (h2 : Sees w xv l) (hlen : L.length + l.length ≤ 100000)
    (h : ∀ v' w', Made v' (L ++ l) wb w' → K (a.put o.dst v') w') : o.wp Try.prog a w K Q := by
  obtain ⟨i0, hi, hz0, hz1, hz2⟩ := info_parts Try.infoU8
  obtain ⟨ax, cx, e, _⟩ := h2.shape
  subst e
  have hown := h1.1.fr hf (fun _ _ h => h)
  obtain ⟨v', w', hr, k2, k3, k4⟩ := run_append_sep (P := Try.prog) w 0 24 24 o.type 5 i0 (.int .u8 0) 1 1 Try.underlying24 _ Try.underlying24 (.inr ⟨_, rfl⟩) hi hz0 hz1 hz2 rfl (by decide) v L.length (L.map bv) hown (.slice ax l.length cx) l.length (l.map bv) (fun w => lenOf_slice _ _ _ _) (by simp) h2.first (h2.drew).first (bv_one _) (by unfold maxLen; omega) (by omega) (Nat.zero_le _)
  unfold Oper.wp execOp
  simp only [ho, resolve, invoke, builtin, Sem.run_bind, Sem.run_pure, Result.andThen_ok, List.map_toArray, List.map_cons, List.map_nil, hs, hx, hr]
  exact h v' w' (Made.append h1 hf rfl k2 k3 k4)


theorem ltB_pos8 (x : Lt) : 0 < (ltB x).length := by
  unfold ltB
  simp only [ltU, ltP, List.length_append, be2_length]
  omega

/-- What Take tells without an error: a letter that may be, of these bytes, with nothing else. -/
theorem takeL_good (l : List UInt8) (h : (takeL l).2 = 0) : (takeL l).1.chk = 0 ∧ LtT (takeL l).1 ∧ ltB (takeL l).1 = l ∧ (takeL l).1.only = (takeL l).1 := by
  have cl : Cl (l, 0) := fun h => absurd rfl h
  have hr := ok_rd7 (l, 0) cl
  have ht := rd_ty (l, 0) cl
  obtain ⟨Y, hY⟩ : ∃ Y, Y = (rdS 7 (l, 0)).1 := ⟨_, rfl⟩
  obtain ⟨T, hT⟩ : ∃ T, T = (rdS 7 (l, 0)).2 := ⟨_, rfl⟩
  have e := takeL_of hY hT
  rw [← hY, ← hT] at hr
  rw [← hY] at ht
  rw [e] at h ⊢
  by_cases h1 : endE T ≠ 0
  · rw [if_pos h1] at h
    exact absurd h h1
  rw [if_neg h1] at h ⊢
  by_cases h2 : Y.chk ≠ 0
  · rw [if_pos h2] at h
    exact absurd h h2
  rw [if_neg h2]
  have h1' : endE T = 0 := Decidable.not_not.1 h1
  have h2' : Y.chk = 0 := Decidable.not_not.1 h2
  have hT0 : T.1 = [] ∧ T.2 = 0 := by
    unfold endE at h1'
    split at h1'
    · exact ⟨by assumption, h1'⟩
    · cases h1'
  rcases hr with ⟨-, -, hb, -⟩ | ⟨hb, -⟩
  · rw [hT0.1, List.append_nil] at hb
    have ok := ok_of_chk ht.t h2'
    refine ⟨h2', ht, hb.symm, ?_⟩
    have h3 := rd_of Y.only (only_ok ht.t ok) (only_only Y) []
    rw [ltB_only, List.append_nil, ← hb] at h3
    rw [h3] at hY
    exact hY.symm
  · exact absurd hT0.2 hb

theorem takeL_bad (l : List UInt8) (h : (takeL l).2 ≠ 0) : (takeL l).1 = Lt.zero := by
  unfold takeL at h ⊢
  by_cases h1 : endE (rdS 7 (l, 0)).2 ≠ 0
  · rw [if_pos h1]
  rw [if_neg h1] at h ⊢
  by_cases h2 : (rdS 7 (l, 0)).1.chk ≠ 0
  · rw [if_pos h2]
  rw [if_neg h2] at h
  exact absurd rfl h

/-- Two rows of bytes that were made, each owned alone. -/
structure TwoR (w : World) (u v : Option (Value × List UInt8)) (wx : World) : Prop where
  fr : Fr (fun _ => False) w wx
  a : ∀ x L, u = some (x, L) → Made x L w wx
  b : ∀ x L, v = some (x, L) → Made x L w wx
  ne : ∀ x L y M, u = some (x, L) → v = some (y, M) → ∀ k, x.ownBlock = some k → y.ownBlock ≠ some k

theorem TwoR.swap {w : World} {u v : Option (Value × List UInt8)} {wx : World} (h : TwoR w u v wx) : TwoR w v u wx :=
  ⟨h.fr, h.b, h.a, fun x L y M e1 e2 k hx hy => h.ne y M x L e2 e1 k hy hx⟩

theorem TwoR.later {w : World} {u v : Option (Value × List UInt8)} {wx wy : World} (h : TwoR w u v wx) (f : Fr (fun _ => False) wx wy) : TwoR w u v wy :=
  ⟨h.fr.trans0 f, fun x L e => (h.a x L e).plain f, fun x L e => (h.b x L e).plain f, h.ne⟩

theorem TwoR.make {w : World} {v : Option (Value × List UInt8)} {wx wy : World} {x : Value} {L : List UInt8} (h : TwoR w none v wx) (m : Made x L wx wy) : TwoR w (some (x, L)) v wy := by
  refine ⟨h.fr.trans0 m.2.1, ?_, fun y M e => (h.b y M e).plain m.2.1, ?_⟩
  · rintro x' L' e
    cases e
    exact Made.base h.fr m
  · rintro x' L' y M e e2 k hx hy
    cases e
    have h1 := m.2.2 k hx
    have h2 := (h.b y M e2).1.lt k hy
    omega

theorem opWp_two {w wx : World} {o : Oper} {a : Act} {K : Act → World → Prop} {Q : Exit → Act → World → Prop} (s x : Operand)
    (ho : o.op = .call { callee := .builtin .append, args := #[s, x], argTypes := #[24, 24] })
    (v : Value) (hs : a.eval s = v) (xv : Value) (hx : a.eval x = xv) (L q : List UInt8) (u : Option (Value × List UInt8)) (h1 : TwoR w (some (v, L)) u wx) (h2 : Sees wx xv q) (hlen : L.length + q.length ≤ 1000000)
    (h : ∀ v' w', TwoR w (some (v', L ++ q)) u w' → K (a.put o.dst v') w') : o.wp Try.prog a wx K Q := by
  obtain ⟨i0, hi, hz0, hz1, hz2⟩ := info_parts Try.infoU8
  obtain ⟨ax, cx, e, -⟩ := h2.shape
  have hm := h1.a v L rfl
  obtain ⟨v', w', hr, k2, k3, k4⟩ := run_append_sep (P := Try.prog) wx 0 24 24 o.type 5 i0 (.int .u8 0) 1 1 Try.underlying24 _ Try.underlying24 (.inr ⟨_, rfl⟩) hi hz0 hz1 hz2 rfl (by decide) v L.length (L.map bv) hm.1 xv q.length (q.map bv) (fun w => by rw [e]; exact lenOf_slice _ _ _ _) (by simp) h2.first (h2.drew).first (bv_one _) (by unfold maxLen; omega) (by omega) (Nat.zero_le _)
  unfold Oper.wp execOp
  simp only [ho, resolve, invoke, builtin, Sem.run_bind, Sem.run_pure, Result.andThen_ok, List.map_toArray, List.map_cons, List.map_nil, hs, hx, hr]
  refine h v' w' ?_
  have hg : Fr (fun k => some k = v.ownBlock) wx w' := Fr.of_grown k3
  have m2 : Made v' (L ++ q) w w' := Made.append hm (Fr.refl _ _) rfl k2 k3 k4
  refine ⟨m2.2.1, ?_, ?_, ?_⟩
  · rintro x' L' e'
    cases e'
    exact m2
  · intro y M e'
    have hb := h1.b y M e'
    exact ⟨hb.1.fr hg (fun k hk e2 => h1.ne v L y M rfl e' k e2.symm hk), m2.2.1, hb.2.2⟩
  · rintro x' L' y M e' e2 k hk hy
    cases e'
    rcases k4 with e4 | e4
    · exact h1.ne v L y M rfl e2 k (e4 ▸ hk) hy
    · rw [e4] at hk
      have := Option.some.inj hk
      have := (h1.b y M e2).1.lt k hy
      omega

/-- What a later operation reads of a row. -/
theorem TwoR.sees {w : World} {v : Option (Value × List UInt8)} {wx : World} {x : Value} {L : List UInt8} (h : TwoR w (some (x, L)) v wx) : Sees wx x L := (h.a x L rfl).1.sees

def cur1 (G raw : List UInt8) : Option Value → Option Value → Option Value → Option (Value × List UInt8)
  | _, _, some v => some (v, G ++ raw)
  | _, some v, none => some (v, G)
  | some v, none, none => some (v, [])
  | none, none, none => none
def cur2 (six raw : List UInt8) : Option Value → Option Value → Option (Value × List UInt8)
  | _, some v => some (v, six ++ raw)
  | some v, none => some (v, six)
  | none, none => none

/-- The region of the five slices: how far it is. -/
structure AnS (G raw six : List UInt8) (rs ts gk : Value) (w : World) (st : Nat → Option Value) (wx : World) : Prop where
  d1 : st 11 = none → st 13 = none
  d2 : st 13 = none → st 18 = none
  d3 : st 18 = none → st 19 = none
  two : TwoR w (cur1 G raw (st 9) (st 11) (st 13)) (cur2 six raw (st 16) (st 18)) wx
  five : ∀ v, st 19 = some v → ∃ g x3 x4, v = .slice (some ⟨g, 0, none⟩) 5 5 ∧ wx.heap[g]? = some (.cells #[rs, ts, gk, x3, x4] 24 (0, 0)) ∧ Sees wx x3 (G ++ raw) ∧ Sees wx x4 (six ++ raw)

theorem AnS.fr {G raw six : List UInt8} {rs ts gk : Value} {w : World} {st : Nat → Option Value} {wx : World} (h : AnS G raw six rs ts gk w st wx) : Fr (fun _ => False) w wx := h.two.fr

theorem made_six (K : UInt8) (kk : Int) (hk : (K.toNat : Int) = kk) (w : World) : Made (.slice (some ⟨w.heap.size, 0, none⟩) 6 6) [0, K, 0, 1, 0, 2] w (w.alloc (.cells #[.int .u8 0, .int .u8 kk, .int .u8 0, .int .u8 1, .int .u8 0, .int .u8 2] 5)) := by
  refine ⟨⟨rfl, .inr ⟨w.heap.size, 6, _, rfl, Nat.zero_le _, heap_alloc_new w _, Nat.le_refl _, by unfold maxLen; omega, rfl, ?_⟩⟩, (Fr.refl _ _).alloc _, fun k hk => by have : w.heap.size = k := Option.some.inj hk; omega⟩
  have e : (.int .u8 kk : Value) = bv K := by unfold bv; rw [hk]
  rw [e]
  rfl

section
variable {G raw six : List UInt8} {rs ts gk : Value} {w : World} {st : Nat → Option Value} {wx : World}

theorem AnS.s9 (h : AnS G raw six rs ts gk w st wx) (h9 : st 9 = none) (h11 : st 11 = none) {v : Value} {wy : World} (m : Made v [] wx wy) : AnS G raw six rs ts gk w (fun j => if j = 9 then some v else st j) wy := by
  have h13 := h.d1 h11
  have h18 := h.d2 h13
  have h19 := h.d3 h18
  have t := h.two
  rw [h9, h11, h13] at t
  refine ⟨h.d1, h.d2, h.d3, ?_, fun u e => (by have e' : st 19 = some u := e; rw [h19] at e'; cases e')⟩
  show TwoR w (cur1 G raw (some v) (st 11) (st 13)) (cur2 six raw (st 16) (st 18)) wy
  rw [h11, h13]
  exact t.make m

theorem AnS.s16 (h : AnS G raw six rs ts gk w st wx) (h16 : st 16 = none) (h18 : st 18 = none) {v : Value} {wy : World} (m : Made v six wx wy) : AnS G raw six rs ts gk w (fun j => if j = 16 then some v else st j) wy := by
  have h19 := h.d3 h18
  have t := h.two
  rw [h16, h18] at t
  refine ⟨h.d1, h.d2, h.d3, ?_, fun u e => (by have e' : st 19 = some u := e; rw [h19] at e'; cases e')⟩
  show TwoR w (cur1 G raw (st 9) (st 11) (st 13)) (cur2 six raw (some v) (st 18)) wy
  rw [h18]
  exact (t.swap.make m).swap

theorem AnS.t11 (h : AnS G raw six rs ts gk w st wx) {x : Value} (h9 : st 9 = some x) (h11 : st 11 = none) (h13 : st 13 = none) : TwoR w (some (x, [])) (cur2 six raw (st 16) (st 18)) wx := by
  have t := h.two
  rw [h9, h11, h13] at t
  exact t
theorem AnS.s11 (h : AnS G raw six rs ts gk w st wx) (h13 : st 13 = none) {v : Value} {wy : World} (m : TwoR w (some (v, [] ++ G)) (cur2 six raw (st 16) (st 18)) wy) : AnS G raw six rs ts gk w (fun j => if j = 11 then some v else st j) wy := by
  have h18 := h.d2 h13
  have h19 := h.d3 h18
  refine ⟨fun e => (by cases e), h.d2, h.d3, ?_, fun u e => (by have e' : st 19 = some u := e; rw [h19] at e'; cases e')⟩
  show TwoR w (cur1 G raw (st 9) (some v) (st 13)) (cur2 six raw (st 16) (st 18)) wy
  rw [h13]
  exact m
theorem AnS.t13 (h : AnS G raw six rs ts gk w st wx) {x : Value} (h11 : st 11 = some x) (h13 : st 13 = none) : TwoR w (some (x, G)) (cur2 six raw (st 16) (st 18)) wx := by
  have t := h.two
  rw [h11, h13] at t
  exact t
theorem AnS.s13 (h : AnS G raw six rs ts gk w st wx) {x : Value} (h11 : st 11 = some x) (h13 : st 13 = none) {v : Value} {wy : World} (m : TwoR w (some (v, G ++ raw)) (cur2 six raw (st 16) (st 18)) wy) : AnS G raw six rs ts gk w (fun j => if j = 13 then some v else st j) wy := by
  have h18 := h.d2 h13
  have h19 := h.d3 h18
  refine ⟨fun e => (by have e' : st 11 = none := e; rw [h11] at e'; cases e'), fun e => (by cases e), h.d3, ?_, fun u e => (by have e' : st 19 = some u := e; rw [h19] at e'; cases e')⟩
  show TwoR w (cur1 G raw (st 9) (st 11) (some v)) (cur2 six raw (st 16) (st 18)) wy
  exact m
theorem AnS.t18 (h : AnS G raw six rs ts gk w st wx) {x : Value} (h16 : st 16 = some x) (h18 : st 18 = none) : TwoR w (some (x, six)) (cur1 G raw (st 9) (st 11) (st 13)) wx := by
  have t := h.two
  rw [h16, h18] at t
  exact t.swap
theorem AnS.s18 (h : AnS G raw six rs ts gk w st wx) {x : Value} (h13 : st 13 = some x) (h18 : st 18 = none) {v : Value} {wy : World} (m : TwoR w (some (v, six ++ raw)) (cur1 G raw (st 9) (st 11) (st 13)) wy) : AnS G raw six rs ts gk w (fun j => if j = 18 then some v else st j) wy := by
  have h19 := h.d3 h18
  refine ⟨h.d1, fun e => (by have e' : st 13 = none := e; rw [h13] at e'; cases e'), fun e => (by cases e), ?_, fun u e => (by have e' : st 19 = some u := e; rw [h19] at e'; cases e')⟩
  show TwoR w (cur1 G raw (st 9) (st 11) (st 13)) (cur2 six raw (st 16) (some v)) wy
  exact m.swap
theorem AnS.t19 (h : AnS G raw six rs ts gk w st wx) {x y : Value} (h13 : st 13 = some x) (h18 : st 18 = some y) : Sees wx x (G ++ raw) ∧ Sees wx y (six ++ raw) := by
  have t := h.two
  rw [h13, h18] at t
  exact ⟨t.sees, t.swap.sees⟩
theorem AnS.s19 (h : AnS G raw six rs ts gk w st wx) {x y : Value} (h13 : st 13 = some x) (h18 : st 18 = some y) {v : Value} {g : Nat} {wy : World} (f : Fr (fun _ => False) wx wy) (e : v = .slice (some ⟨g, 0, none⟩) 5 5) (q : wy.heap[g]? = some (.cells #[rs, ts, gk, x, y] 24 (0, 0))) : AnS G raw six rs ts gk w (fun j => if j = 19 then some v else st j) wy := by
  have hs := h.t19 h13 h18
  refine ⟨h.d1, h.d2, fun e => (by have e' : st 18 = none := e; rw [h18] at e'; cases e'), h.two.later f, ?_⟩
  intro u eu
  cases eu
  exact ⟨g, x, y, e, q, hs.1.fr f (fun _ _ h => h), hs.2.fr f (fun _ _ h => h)⟩
end
end
section
set_option maxRecDepth 100000

theorem any_walk {W : World} (bv0 : Value) (raw : List UInt8) (hb : Sees W bv0 raw) (y : S17) (v : Value) (h1 : S17V W y v) (at_ : Int) (ha0 : 0 ≤ at_) (ha1 : at_ ≤ 65535) (by_ : Int) (hb0 : 0 ≤ by_) (hb1 : by_ ≤ 255) (kind : Int) (hk0 : 0 ≤ kind) (hk1 : kind ≤ 255) :
    Calls Try.prog 4 #[bv0, v, .int .u16 at_, .int .u8 by_, .int .u8 kind] W fun e w' => e = .returned (.bool true) ∧ Fr (fun _ => False) W w' := by
  obtain ⟨ve, vc, va, rfl, hs1, ok1⟩ := h1
  obtain ⟨ba, bc, rfl, _⟩ := hb.shape
  have HR := Lib.hid hb
  have q0 := heap_alloc_new W (oS17 y ve vc va)
  have f0 : Fr (fun _ => False) W (W.alloc (oS17 y ve vc va)) := (Fr.refl _ _).alloc _
  have Q := Lib.hid q0
  have F := Lib.hid f0
  have HS := Lib.hid hs1
  have OK := Lib.hid ok1
  clear q0 f0 hs1 ok1 hb
  go_enter Try.func4, Try.ntmps4
  go_upto_region 1 with fail
  generalize W.alloc (oS17 y ve vc va) = w0 at *
  obtain ⟨gs, hgs⟩ : ∃ g, g = W.heap.size := ⟨_, rfl⟩
  rw [← hgs] at Q ⊢
  have HG : Hid (gs = W.heap.size) := Lib.hid hgs
  clear hgs
  go_wp2_with fail
  refine (lawake_any w0).mono ?_
  rintro e w1 ⟨rfl, f1⟩
  have Q1 := Lib.hid (crow_kept Q.out f1 (fun h => h))
  have F1 := Lib.hid (F.out.trans f1 (fun _ _ h => h))
  clear f1 F Q
  dsimp only
  by_cases h100 : 100 < raw.length
  · have b100 : (100 : Int) < (raw.length : Int) := by omega
    clear h100
    go_wp2_with fail
    go_ret
    exact ⟨rfl, F1.out⟩
  have b100 : ¬ (100 : Int) < (raw.length : Int) := by omega
  have HMR := Lib.hid h100
  clear h100
  go_wp2_with (refine load_ltg rfl 32 (.tmp 6) rfl gs (y.cs ve vc va) 32 (0, 0) rfl Q1.out _ Try.underlying32 rfl (by kernel_rfl) ?_)
  refine (light_any y ve vc va w1 (HS.out.fr F1.out)).mono ?_
  rintro e w2 ⟨rfl, f2⟩
  have Q2 := Lib.hid (crow_kept Q1.out f2 (fun h => h))
  have F2 := Lib.hid (F1.out.trans f2 (fun _ _ h => h))
  clear f2 F1 Q1
  by_cases l1 : y.light
  case neg =>
    have hL : (decide (y.e.c.l.length ≤ 100) && (decide (y.c.l.length ≤ 100) && decide (y.a.l.length ≤ 100))) = false := by
      unfold S17.light at l1
      simp only [Bool.and_eq_false_iff, decide_eq_false_iff_not]
      omega
    rw [hL]
    clear l1 hL
    dsimp only
    go_wp2_with fail
    go_ret
    exact ⟨rfl, F2.out⟩
  have hL : (decide (y.e.c.l.length ≤ 100) && (decide (y.c.l.length ≤ 100) && decide (y.a.l.length ≤ 100))) = true := by
    obtain ⟨a, b, c⟩ := l1
    simp [a, b, c]
  rw [hL]
  have L1 := Lib.hid l1
  clear l1 hL b100
  dsimp only
  go_wp2_with (refine load_lt rfl 32 (.tmp 6) rfl gs (y.cs ve vc va) 32 (0, 0) rfl Q2.out _ Try.underlying32 rfl (by kernel_rfl) ?_)
  refine (sletter_any y ve vc va w2 OK.out L1.out (HS.out.fr F2.out)).mono ?_
  rintro e w3 ⟨s, rfl, hl3, f3, -⟩
  obtain ⟨A, hA⟩ : ∃ A, A = y.all.only := ⟨_, rfl⟩
  have HA : Hid (LtOk A) := Lib.hid (by rw [hA]; exact only_ok (all_ty OK.out L1.out).t (all_ok OK.out L1.out))
  rw [← hA] at hl3 ⊢
  have F3 := Lib.hid (F2.out.trans f3 (fun _ _ h => h))
  have L3 := Lib.hid hl3
  clear hl3 f3 hA Q2 F2 HG HS OK L1
  dsimp only
  go_wp2_with fail
  refine (lbytes_any A s w3 HA.out L3.out).mono ?_
  rintro e w6 ⟨vg, rfl, m6⟩
  obtain ⟨P, hP⟩ : ∃ P, P = ltB A := ⟨_, rfl⟩
  rw [← hP] at m6
  have HP0 : Hid (P ≠ [] ∧ 0 < P.length) := Lib.hid (by have := ltB_pos8 A; rw [← hP] at this; exact ⟨List.length_pos_iff.1 this, this⟩)
  have HPL : Hid (P.length ≤ 50000) := Lib.hid (by have := ltU_length HA.out 7; rw [hP]; unfold ltB; omega)
  obtain ⟨ga, gc, hgv, _⟩ := m6.1.sees.shape
  subst hgv
  have S6 := Lib.hid m6.1.sees
  have F6 := Lib.hid (F3.out.trans m6.2.1 (fun _ _ h => h))
  have HTB : Hid (W.heap.size ≤ w6.heap.size) := Lib.hid F6.out.size
  clear m6 hP F3 L3 HA
  generalize A.cs s = acs at *
  dsimp only
  obtain ⟨i0, hi, hz0, hz1, hz2⟩ := info_parts Try.infoU8
  have hf7 : Fr (fun _ => False) w6 (w6.alloc (.cells #[] 5)) := (Fr.refl _ _).alloc _
  have M7 := Lib.hid (made_empty w6)
  have hs7 := Lib.hid (S6.out.fr hf7 (fun _ _ h => h))
  go_wp2_with (at_builtin; refine wpList_append_sep rfl (.tmp 32) (.tmp 33) 24 24 rfl 0 5 i0 (.int .u8 0) 1 1 Try.underlying24 _ Try.underlying24 (.inr ⟨_, rfl⟩) hi hz0 hz1 hz2 rfl (by decide) (.slice (some ⟨w6.heap.size, 0, none⟩) 0 0) 0 [] rfl M7.out.1 _ P.length (P.map bv) rfl (lenOf_slice _ _ _) (by simp) hs7.out.first (hs7.out.drew).first (bv_one _) ?b1 ?b2 (Nat.zero_le _) ?grow)
  case b1 => have := HPL.out; unfold maxLen; omega
  case b2 => have := HPL.out; omega
  case grow =>
  intro v8 w8 hown hg hv
  have m8 : Made v8 ([] ++ P) w6 w8 := Made.append M7.out (Fr.refl _ _) (by simp) hown hg (by rw [World.size_alloc]; exact hv)
  rw [List.nil_append] at m8
  have F8 := Lib.hid (F6.out.trans m8.2.1 (fun _ _ h => h))
  have S8 := Lib.hid (S6.out.fr m8.2.1 (fun _ _ h => h))
  have hgold : ∀ k, (Value.slice ga P.length gc).ownBlock = some k → k < w6.heap.size := sees_old8 S6.out HP0.out.1
  have HGO := Lib.hid hgold
  obtain ⟨gt, ct, hv8, hle8⟩ := made_shape m8 HP0.out.2
  subst hv8
  have O8 := Lib.hid m8.1
  have HGT : Hid (w6.heap.size ≤ gt ∧ gt < w8.heap.size) := Lib.hid ⟨m8.2.2 gt rfl, m8.1.lt gt rfl⟩
  clear hown hg hv m8 hf7 M7 hs7 hgold F6 S6
  go_upto_region 7 with fail
  obtain ⟨B, hB⟩ : ∃ B : UInt8, (B.toNat : Int) = by_ := ⟨UInt8.ofNat by_.toNat, by rw [UInt8.toNat_ofNat']; omega⟩
  subst hB
  obtain ⟨q, hq1, hq2⟩ : ∃ q : Nat, at_ % (P.length : Int) = q ∧ q < P.length := by
    have := HP0.out.2
    refine ⟨(at_ % (P.length : Int)).toNat, ?_, ?_⟩
    · rw [Int.toNat_of_nonneg (Int.emod_nonneg _ (by omega))]
    · have := Int.emod_lt_of_pos at_ (show 0 < (P.length : Int) by omega)
      have := Int.emod_nonneg at_ (show (P.length : Int) ≠ 0 by omega)
      omega
  have hq3 : at_.tmod (P.length : Int) = q := by rw [Int.tmod_eq_emod_of_nonneg ha0]; exact hq1
  have hq4 : (q : Int) < (P.length : Int) := by omega
  have hc := own_at O8.out q hq2
  have hz := own_frozen O8.out q
  rw [Nat.zero_add] at hc
  unfold bv at hc
  have hS := own_set O8.out q (P.getD q 0 ^^^ B)
  generalize hd : P.getD q 0 = d at *
  have hx : Value.int .u8 (bits .xor .u8 (d.toNat : Int) (B.toNat : Int)) = bv (d ^^^ B) := by
    rw [axor_u8 _ _ (UInt8.toNat_lt _) (UInt8.toNat_lt _)]; unfold bv; rw [UInt8.toNat_xor]
  have HX := Lib.hid hx; clear hx
  have HS := Lib.hid hS; clear hS
  have HQ := Lib.hid (And.intro hq1 (And.intro hq2 hq3))
  have hne0 := HP0.out.1
  clear hd
  go_upto_region 8 with fail
  rw [HX.out]
  have s9 : Fr (fun k => k = gt) w8 (w8.setCell ⟨gt, q, none⟩ (bv (d ^^^ B))) := (Fr.refl (fun k => k = gt) w8).setCell (p := ⟨gt, q, none⟩) (fun _ => rfl) _
  have O9 := Lib.hid HS.out
  have F9 := Lib.hid (F8.out.trans s9 (fun k hk e => by
    subst e
    have := HGT.out.1
    have := HTB.out
    omega))
  have S9 := Lib.hid (S8.out.fr s9 (fun k hk e => by have := HGO.out k hk; have := HGT.out.1; omega))
  generalize hL : P.set q (d ^^^ B) = L9 at *
  have HL9 : Hid (L9.length = P.length) := Lib.hid (by rw [← hL, List.length_set])
  generalize w8.setCell ⟨gt, q, none⟩ (bv (d ^^^ B)) = w9 at *
  have R9 := Lib.hid (HR.out.fr F9.out (fun _ _ h => h))
  clear s9 hL hc hz HX HS S8 O8 F8
  obtain ⟨hq1, hq2, hq3⟩ := HQ.out
  have hgc : P.length ≤ gc := by
    rcases S9.out with ⟨e, _⟩ | ⟨g, off, cap, e, hle, _⟩
    · exact absurd e HP0.out.1
    · simp only [Value.slice.injEq] at e
      omega
  have hq5 : (q : Int) ≤ (gc : Int) := by omega
  have hq6 : q ≤ gc := by omega
  have HWA : Hid (IntKind.i64.wrap at_ = at_) := Lib.hid (by rw [IntKind.wrap_i64]; omega)
  obtain ⟨K, hK9⟩ : ∃ K : UInt8, (K.toNat : Int) = kind % 9 := ⟨UInt8.ofNat (kind % 9).toNat, by rw [UInt8.toNat_ofNat']; omega⟩
  obtain ⟨kk, hkk⟩ : ∃ kk, kk = kind % 9 := ⟨_, rfl⟩
  rw [← hkk] at hK9
  have HKK : Hid (kind.tmod 9 = kk ∧ IntKind.u8.wrap kk = kk ∧ (K.toNat : Int) = kk) := Lib.hid ⟨by rw [Int.tmod_eq_emod_of_nonneg hk0, hkk], by rw [IntKind.wrap_u8]; omega, hK9⟩
  clear hK9 hkk hi hz0 hz1 hz2 hne0
  refine wp_region_links (by kernel_rfl) [some 46, some 47, some 48, some 49, some 50, some 51, some 52, some 53, some 54, some 55, some 56, some 57, some 58, some 59, some 60, some 61, some 62, some 63, some 64, some 65, some 66, some 67] rfl (by decide) (by intro d hd; simp at hd ⊢; omega)
    (fun st wx => AnS P raw [0, K, 0, 1, 0, 2] (.slice ba raw.length bc) (.slice (some ⟨gt, 0, none⟩) P.length ct) (.slice ga q gc) w9 st wx)
    [.free (.slice ba raw.length bc), .free (.slice (some ⟨gt, 0, none⟩) P.length ct), .free (.slice ga P.length gc), .free (.int .u16 at_), .free (.int .i64 at_), .free (.slice ga P.length gc), .free (.int .i64 P.length), .free (.int .i64 q), .free (.slice ga q gc), .link none, .free (.slice ga P.length gc), .link none, .free (.slice ba raw.length bc), .link none, .free (.int .u8 kind), .free (.int .u8 kk), .link none, .free (.slice ba raw.length bc), .link none, .link none, .free (.int .i64 5), .free (.int .i64 0)]
    (by kernel_rfl) ?h8 ?step8 ?fin8
  case h8 => exact ⟨fun _ => rfl, fun _ => rfl, fun _ => rfl, ⟨(Fr.refl _ _).drew, fun _ _ e => (by cases e), fun _ _ e => (by cases e), fun _ _ _ _ e => (by cases e)⟩, fun _ e => (by cases e)⟩
  case step8 =>
    intro vals
    simp only [frOfU, fillU, List.setIfInBounds_toArray, List.set_cons_succ, List.set_cons_zero]
    repeat' (first | exact AllOps.nil | refine AllOps.cons ?_ ?_)
    all_goals
      intro st wx hS he hu hn Kc hK
      simp only [Act.put, List.setIfInBounds_toArray, List.set_cons_succ, List.set_cons_zero, List.getD_cons_zero, List.getD_cons_succ] at hK
      simp only [List.mem_cons, List.not_mem_nil, or_false, forall_eq_or_imp, forall_eq, Region.binds, forall_const, qmode_gc, Bool.false_eq_true, false_imp_iff, List.getD_cons_zero, List.getD_cons_succ, OpSort.val, OpSort.isLink, Option.some.injEq, forall_eq', reduceCtorEq, implies_true, true_and, and_true] at he
      have hwa := HWA.out
      have hne0 := HP0.out.1
      have hkk := HKK.out.1
      have hkw := HKK.out.2.1
      have HSX := Lib.hid hS
      clear hS
    all_goals first | (clear hu hn; (try simp only [he] at hK ⊢); go_simp; exact hK) | skip
    · have h11 := (hu 11 (by simp) (by kernel_rfl)).2
      clear hu
      have hm := Lib.hid (HSX.out.s9 hn h11 (made_empty wx))
      clear hn h11
      (try simp only [he] at hK ⊢)
      go_simp
      exact hK _ _ (fun _ h => by cases h) hm.out
    · have h13 := (hu 13 (by simp) (by kernel_rfl)).2
      have s9 : st 9 = some (vals 9) := by first | exact he | exact he.1 | exact he.2 | exact he.1.1 | exact he.1.2 | exact he.2.1 | exact he.2.2 | exact he.2.1.1 | exact he.2.1.2 | exact he.2.2.1 | exact he.2.2.2 | exact he.2.2.2.1 | exact he.2.2.2.2
      have h9 : st 9 = some (vals 9) := s9
      clear hu
      have ht := Lib.hid (HSX.out.t11 h9 hn h13)
      have HH := Lib.hid h13
      have v10 : vals 10 = (.slice ga P.length gc) := by first | exact he | exact he.1 | exact he.2 | exact he.1.1 | exact he.1.2 | exact he.2.1 | exact he.2.2 | exact he.2.1.1 | exact he.2.1.2 | exact he.2.2.1 | exact he.2.2.2 | exact he.2.2.2.1 | exact he.2.2.2.2
      clear hn h13 s9 h9 he
      simp only [v10] at hK ⊢
      rw [if_pos (by rfl)]
      refine opWp_two (.tmp 55) (.tmp 56) rfl (vals 9) rfl (.slice ga P.length gc) rfl [] P _ ht.out (S9.out.fr HSX.out.fr (fun _ _ h => h)) (by have := HPL.out; simp; omega) ?_
      intro v' w' m'
      exact hK _ _ (fun _ h => by cases h) (HSX.out.s11 HH.out m')
    · have s11 : st 11 = some (vals 11) := by first | exact he | exact he.1 | exact he.2 | exact he.1.1 | exact he.1.2 | exact he.2.1 | exact he.2.2 | exact he.2.1.1 | exact he.2.1.2 | exact he.2.2.1 | exact he.2.2.2 | exact he.2.2.2.1 | exact he.2.2.2.2
      clear hu
      have ht := Lib.hid (HSX.out.t13 s11 hn)
      have HH := Lib.hid (And.intro s11 hn)
      have v12 : vals 12 = (.slice ba raw.length bc) := by first | exact he | exact he.1 | exact he.2 | exact he.1.1 | exact he.1.2 | exact he.2.1 | exact he.2.2 | exact he.2.1.1 | exact he.2.1.2 | exact he.2.2.1 | exact he.2.2.2 | exact he.2.2.2.1 | exact he.2.2.2.2
      clear hn s11 he
      simp only [v12] at hK ⊢
      rw [if_pos (by rfl)]
      refine opWp_two (.tmp 57) (.tmp 58) rfl (vals 11) rfl (.slice ba raw.length bc) rfl P raw _ ht.out (R9.out.fr HSX.out.fr (fun _ _ h => h)) (by have := HPL.out; have := HMR.out; omega) ?_
      intro v' w' m'
      exact hK _ _ (fun _ h => by cases h) (HSX.out.s13 HH.out.1 HH.out.2 m')
    · have h18 := (hu 18 (by simp) (by kernel_rfl)).2
      clear hu
      have hm := Lib.hid (HSX.out.s16 hn h18 (made_six K kk HKK.out.2.2 wx))
      clear hn h18
      (try simp only [he] at hK ⊢)
      go_simp
      exact hK _ _ (fun _ h => by cases h) hm.out
    · have s16 : st 16 = some (vals 16) := by first | exact he | exact he.1 | exact he.2 | exact he.1.1 | exact he.1.2 | exact he.2.1 | exact he.2.2 | exact he.2.1.1 | exact he.2.1.2 | exact he.2.2.1 | exact he.2.2.2 | exact he.2.2.2.1 | exact he.2.2.2.2
      have s13 : st 13 = some (vals 13) := by first | exact he | exact he.1 | exact he.2 | exact he.1.1 | exact he.1.2 | exact he.2.1 | exact he.2.2 | exact he.2.1.1 | exact he.2.1.2 | exact he.2.2.1 | exact he.2.2.2 | exact he.2.2.2.1 | exact he.2.2.2.2
      clear hu
      have ht := Lib.hid (HSX.out.t18 s16 hn)
      have HH := Lib.hid (And.intro s13 hn)
      have v17 : vals 17 = (.slice ba raw.length bc) := by first | exact he | exact he.1 | exact he.2 | exact he.1.1 | exact he.1.2 | exact he.2.1 | exact he.2.2 | exact he.2.1.1 | exact he.2.1.2 | exact he.2.2.1 | exact he.2.2.2 | exact he.2.2.2.1 | exact he.2.2.2.2
      clear hn s16 s13 he
      simp only [v17] at hK ⊢
      rw [if_pos (by rfl)]
      refine opWp_two (.tmp 62) (.tmp 63) rfl (vals 16) rfl (.slice ba raw.length bc) rfl [0, K, 0, 1, 0, 2] raw _ ht.out (R9.out.fr HSX.out.fr (fun _ _ h => h)) (by have := HMR.out; simp; omega) ?_
      intro v' w' m'
      exact hK _ _ (fun _ h => by cases h) (HSX.out.s18 HH.out.1 HH.out.2 m')
    · have s13 : st 13 = some (vals 13) := by first | exact he | exact he.1 | exact he.2 | exact he.1.1 | exact he.1.2 | exact he.2.1 | exact he.2.2 | exact he.2.1.1 | exact he.2.1.2 | exact he.2.2.1 | exact he.2.2.2 | exact he.2.2.2.1 | exact he.2.2.2.2
      have s18 : st 18 = some (vals 18) := by first | exact he | exact he.1 | exact he.2 | exact he.1.1 | exact he.1.2 | exact he.2.1 | exact he.2.2 | exact he.2.1.1 | exact he.2.1.2 | exact he.2.2.1 | exact he.2.2.2 | exact he.2.2.2.1 | exact he.2.2.2.2
      have v0 : vals 0 = (.slice ba raw.length bc) := by first | exact he | exact he.1 | exact he.2 | exact he.1.1 | exact he.1.2 | exact he.2.1 | exact he.2.2 | exact he.2.1.1 | exact he.2.1.2 | exact he.2.2.1 | exact he.2.2.2 | exact he.2.2.2.1 | exact he.2.2.2.2
      have v1 : vals 1 = (.slice (some ⟨gt, 0, none⟩) P.length ct) := by first | exact he | exact he.1 | exact he.2 | exact he.1.1 | exact he.1.2 | exact he.2.1 | exact he.2.2 | exact he.2.1.1 | exact he.2.1.2 | exact he.2.2.1 | exact he.2.2.2 | exact he.2.2.2.1 | exact he.2.2.2.2
      have v8 : vals 8 = (.slice ga q gc) := by first | exact he | exact he.1 | exact he.2 | exact he.1.1 | exact he.1.2 | exact he.2.1 | exact he.2.2 | exact he.2.1.1 | exact he.2.1.2 | exact he.2.2.1 | exact he.2.2.2 | exact he.2.2.2.1 | exact he.2.2.2.2
      clear hu
      have hs := HSX.out.t19 s13 s18
      obtain ⟨a3, c3, e3, -⟩ := hs.1.shape
      obtain ⟨a4, c4, e4, -⟩ := hs.2.shape
      obtain ⟨n3, hn3⟩ : ∃ n3, n3 = (P ++ raw).length := ⟨_, rfl⟩
      obtain ⟨n4, hn4⟩ : ∃ n4, n4 = ([0, K, 0, 1, 0, 2] ++ raw : List UInt8).length := ⟨_, rfl⟩
      rw [← hn3] at e3
      rw [← hn4] at e4
      have HH := Lib.hid (HSX.out.s19 s13 s18 (v := .slice (some ⟨wx.heap.size, 0, none⟩) 5 5) ((Fr.refl (fun _ => False) wx).alloc (.cells #[(.slice ba raw.length bc), (.slice (some ⟨gt, 0, none⟩) P.length ct), (.slice ga q gc), vals 13, vals 18] 24)) rfl (heap_alloc_new _ _))
      rw [e3, e4] at HH
      clear hn s13 s18 he hs hn3 hn4
      simp only [v0, v1, v8, e3, e4] at hK ⊢
      clear v0 v1 v8 e3 e4
      go_simp
      exact hK _ _ (fun _ h => by cases h) HH.out
    · have s19 : st 19 = some (vals 19) := by first | exact he | exact he.1 | exact he.2 | exact he.1.1 | exact he.1.2 | exact he.2.1 | exact he.2.2 | exact he.2.1.1 | exact he.2.1.2 | exact he.2.2.1 | exact he.2.2.2 | exact he.2.2.2.1 | exact he.2.2.2.2
      obtain ⟨g, x3, x4, e19, -⟩ := HSX.out.five _ s19
      clear hu hn he s19
      simp only [e19] at hK ⊢
      clear e19
      go_simp
      exact hK
  case fin8 =>
    intro vals w11 hS hV
    have v0 := hV 0 _ (by decide) rfl
    have v1 := hV 1 _ (by decide) rfl
    have v2 := hV 2 _ (by decide) rfl
    have v3 := hV 3 _ (by decide) rfl
    have v4 := hV 4 _ (by decide) rfl
    have v5 := hV 5 _ (by decide) rfl
    have v6 := hV 6 _ (by decide) rfl
    have v7 := hV 7 _ (by decide) rfl
    have v8 := hV 8 _ (by decide) rfl
    have v10 := hV 10 _ (by decide) rfl
    have v12 := hV 12 _ (by decide) rfl
    have v14 := hV 14 _ (by decide) rfl
    have v15 := hV 15 _ (by decide) rfl
    have v17 := hV 17 _ (by decide) rfl
    have v20 := hV 20 _ (by decide) rfl
    have v21 := hV 21 _ (by decide) rfl
    clear hV
    have hfr := AnS.fr hS
    obtain ⟨gr, x3, x4, e19, hq, hs3, hs4⟩ := hS.five (vals 19) rfl
    clear hS
    simp only [frOfU, fillU, List.setIfInBounds_toArray, List.set_cons_succ, List.set_cons_zero]
    simp only [Nat.reduceAdd, v0, v1, v2, v3, v4, v5, v6, v7, v8, v10, v12, v14, v15, v17, v20, v21, e19]
    clear e19 v0 v1 v2 v3 v4 v5 v6 v7 v8 v10 v12 v14 v15 v17 v20 v21
    have HQR := Lib.hid (And.intro hq (And.intro hs3 (And.intro hs4 hfr)))
    clear hq hs3 hs4 hfr
    generalize vals 9 = y9 at *
    generalize vals 11 = y11 at *
    generalize vals 13 = y13 at *
    generalize vals 16 = y16 at *
    generalize vals 18 = y18 at *
    clear vals
    obtain ⟨a3, c3, hv3, _⟩ := HQR.out.2.1.shape
    subst hv3
    obtain ⟨a4, c4, hv4, _⟩ := HQR.out.2.2.1.shape
    subst hv4
    have HX : Hid (∀ k : Nat, k < 5 → ∀ Wx, Fr (fun _ => False) w11 Wx → ∃ (ax : Option Addr) (lx : List UInt8) (cx : Nat), Wx.cell? ⟨gr, k, none⟩ = some (.slice ax lx.length cx) ∧ Sees Wx (.slice ax lx.length cx) lx ∧ lx.length ≤ 200000) := Lib.hid (by
      intro k hk Wx f
      obtain ⟨hq, hs3, hs4, hf⟩ := HQR.out
      have hqW := crow_kept hq f (fun h => h)
      have hf11 := hf.trans f (fun _ _ h => h)
      have hpl := HPL.out
      have hml := HMR.out
      match k, hk with
      | 0, _ => exact ⟨ba, raw, bc, crow hqW 0 _ rfl, R9.out.fr hf11 (fun _ _ h => h), by omega⟩
      | 1, _ => exact ⟨some ⟨gt, 0, none⟩, L9, ct, by rw [HL9.out]; exact crow hqW 1 _ rfl, by have h9 := (O9.out.fr hf11 (fun _ _ h => h)).sees; rw [← HL9.out] at h9; exact h9, by rw [HL9.out]; omega⟩
      | 2, _ =>
        have hlq : (P.take q).length = q := by rw [List.length_take]; omega
        exact ⟨ga, P.take q, gc, by rw [hlq]; exact crow hqW 2 _ rfl, by rw [hlq]; exact (S9.out.fr hf11 (fun _ _ h => h)).take (Nat.le_of_lt hq2), by omega⟩
      | 3, _ => exact ⟨a3, P ++ raw, c3, crow hqW 3 _ rfl, hs3.fr f (fun _ _ h => h), by rw [List.length_append]; omega⟩
      | 4, _ => exact ⟨a4, [0, K, 0, 1, 0, 2] ++ raw, c4, crow hqW 4 _ rfl, hs4.fr f (fun _ _ h => h), by rw [List.length_append]; simp; omega⟩)
    have F11 := Lib.hid (F9.out.trans HQR.out.2.2.2 (fun _ _ h => h))
    clear F9 R9 S9 O9 HL9 hq1 hq2 hq3 hq4 hq5 hq6 hgc HQ HQR HTB HGO HGT HWA HKK HMR HPL HP0 HR
    go_upto_region 9 with fail
    go_loopg [67] 5 (fun gh u67 wr => ∃ i : Nat, i ≤ 5 ∧ gh = 5 - i ∧ u67 = .int .i64 i ∧ Hid (Fr (fun _ => False) w11 wr))
    case atStart => exact ⟨0, by omega, rfl, rfl, Lib.hid (Fr.refl _ _)⟩
    case round =>
      obtain ⟨i, hi5, rfl, rfl, FR⟩ := hrel
      by_cases hilt : i < 5
      case neg =>
        obtain rfl : i = 5 := by omega
        go_wp2_with fail
        go_ret
        exact ⟨rfl, F11.out.trans FR.out (fun _ _ h => h)⟩
      obtain ⟨ax, lx, cx, hcx, sx, hlx⟩ := HX.out i hilt wr FR.out
      have SX := Lib.hid sx
      have HLX := Lib.hid hlx
      clear sx hlx
      go_wp2_with fail
      refine (ltake_any (.slice ax lx.length cx) lx wr SX.out (by have := HLX.out; omega)).mono ?_
      rintro er w12 ⟨sl, rfl, hl12, f12⟩
      obtain ⟨X, hX⟩ : ∃ X, X = (takeL lx).1 := ⟨_, rfl⟩
      obtain ⟨E, hE⟩ : ∃ E, E = (takeL lx).2 := ⟨_, rfl⟩
      rw [← hX] at hl12 ⊢
      rw [← hE]
      have HXE := Lib.hid (And.intro hX hE)
      have F12 := Lib.hid (FR.out.trans f12 (fun _ _ h => h))
      have FX12 := Lib.hid f12
      have L12 := Lib.hid hl12
      have hzb := heap_alloc_new w12 (zLt 0 0 0)
      have HZ := Lib.hid hzb
      clear hX hE hl12 f12 hzb hcx
      dsimp only
      go_upto_region 12 with (refine store_lt rfl 51 (.tmp 15) (.tmp 74) rfl w12.heap.size (X.cs sl) rfl rfl 51 _ HZ.out (by kernel_rfl) rfl L12.out.one ?_)
      have q13 := setRow_heap _ _ _ (X.cs sl) _ _ HZ.out
      have f13 : Fr (fun _ => False) w12 ((w12.alloc (zLt 0 0 0)).setRow w12.heap.size (X.cs sl)) := Fr.letRow ((Fr.refl _ _).alloc _) (fun h => absurd h (by omega)) _
      generalize (w12.alloc (zLt 0 0 0)).setRow w12.heap.size (X.cs sl) = w13 at *
      obtain ⟨gl, hgl⟩ : ∃ g, g = w12.heap.size := ⟨_, rfl⟩
      rw [← hgl] at q13 ⊢
      have Q13 := Lib.hid q13
      have F13 := Lib.hid (F12.out.trans f13 (fun _ _ h => h))
      have FX13 := Lib.hid (FX12.out.trans f13 (fun _ _ h => h))
      have L13 := Lib.hid (L12.out.fr f13)
      clear q13 f13 hgl HZ F12 L12 FX12
      by_cases hz : E = 0
      case neg =>
        have hb1 : (E == 0) = false := by simp [hz]
        have hXz : X = Lt.zero := by rw [HXE.out.1]; exact takeL_bad lx (by rw [← HXE.out.2]; exact hz)
        subst hXz
        clear hz
        go_wp2_with (refine load_lt rfl 51 (.tmp 15) rfl gl (Lt.zero.cs sl) 51 (0, 0) rfl Q13.out _ Try.underlying51 rfl (by kernel_rfl) ?_)
        refine (lsame_any Lt.zero Lt.zero sl Ls.nil w13 L13.out (LS.zero w13 0 0 0) (by decide) (by decide)).mono ?_
        rintro er w14 ⟨rfl, f14⟩
        rw [(Lt.same_iff _ _).2 rfl]
        have F14 := Lib.hid (F13.out.trans f14 (fun _ _ h => h))
        clear f14
        dsimp only
        go_wp2_with fail
        go_roundg (5 - (i + 1))
        case measure => omega
        case rel => exact ⟨i + 1, by omega, rfl, by congr 1, F14⟩
      subst hz
      have HGD := Lib.hid (takeL_good lx HXE.out.2.symm)
      rw [← HXE.out.1] at HGD
      go_wp2_with (refine load_lt rfl 51 (.tmp 15) rfl gl (X.cs sl) 51 (0, 0) rfl Q13.out _ Try.underlying51 rfl (by kernel_rfl) ?_)
      refine (lput_ok X sl w13 L13.out HGD.out.2.1.l HGD.out.2.1.t HGD.out.1).mono ?_
      rintro er w14 ⟨vy, rfl, ho14, f14, -⟩
      rw [HGD.out.2.2.1] at ho14
      have F14 := Lib.hid (F13.out.trans f14 (fun _ _ h => h))
      have Q14 := Lib.hid (crow_kept Q13.out f14 (fun h => h))
      have L14 := Lib.hid (L13.out.fr f14)
      have KY := Lib.hid (str_later ho14.sees)
      have KX := Lib.hid (str_later (SX.out.fr (FX13.out.trans f14 (fun _ _ h => h)) (fun _ _ h => h)))
      clear f14 ho14 F13 Q13 L13 FX13
      obtain ⟨SA, hSA⟩ : ∃ s : ByteArray, s = ⟨lx.toArray⟩ := ⟨_, rfl⟩
      rw [← hSA] at KY KX
      clear hSA
      have HM : Hid (X.e.m.length ≤ 1000 ∧ X.vm.length ≤ 1000) := Lib.hid ⟨HGD.out.2.1.l.em, HGD.out.2.1.l.vm⟩
      have HSE : Hid ((SA.toList == SA.toList) = true) := Lib.hid (by simp)
      obtain ⟨nx, hnx⟩ : ∃ nx, nx = lx.length := ⟨_, rfl⟩
      rw [← hnx] at KX ⊢
      clear hnx
      dsimp only
      go_upto_region 16 with fail
      refine wp_region_told (by kernel_rfl) (fun a b => Fr (fun _ => False) a b) (fun w => Fr.refl _ w) (fun _ _ _ h k => h.trans k (fun _ _ h => h)) [87, 88, 89, 90, 91, 92, 93, 94, 95, 96, 97, 98, 99, 100, 101, 102, 103, 104, 105, 106, 107] rfl (by decide) (by intro d hd; simp at hd ⊢; omega)
        (lvV [.is (.agg (X.cs sl)), .is (.int .i64 0), .is (.bool false), .is (.bool false), .is (.int .i64 0), .is (.bool false), .is (.bool false), .is (.bool false), .is vy, .is (.string SA), .is (.slice ax nx cx), .is (.string SA), .is (.bool false), .is (.bool false), .is (.bool false), .is (.agg (X.cs sl)), .is (.agg (X.cs sl)), .lt X, .is (.bool true), .is (.bool false), .is (.bool false)])
        (lvV_mono _) (by kernel_rfl) ?step16 ?fin16
      case step16 =>
        intro vals
        simp only [frOf, fill, List.setIfInBounds_toArray, List.set_cons_succ, List.set_cons_zero]
        repeat' (first | exact AllOps.nil | refine AllOps.cons ?_ ?_)
        all_goals
          intro wx hle he K' hK
          simp only [Act.put, List.setIfInBounds_toArray, List.set_cons_succ, List.set_cons_zero, lvV, LV.holds, List.getD_cons_zero, List.getD_cons_succ] at hK
          simp only [List.mem_cons, List.not_mem_nil, or_false, forall_eq_or_imp, forall_eq, Region.binds, forall_const, false_imp_iff, lvV, LV.holds, List.getD_cons_zero, List.getD_cons_succ] at he
          have hl5 := Fr.trans (Fr.drew (Fr.refl (fun _ => False) w14)) hle (fun _ _ h => h)
          have hl8 := Lib.hid hl5
          have ka := KY.out wx hl5
          have kb := KX.out wx hl5
          have hse := HSE.out
          clear hl5 hle
        · (try simp only [he] at hK ⊢)
          have hq := Lib.hid (crow_kept Q14.out hl8.out (fun h => h))
          refine wantedL rfl ?_
          exact wp_load_row 51 (.tmp 15) rfl gl rfl 51 (X.cs sl) (0, 0) _ hq.out Try.underlying51 rfl (by kernel_rfl) (hK _ _ (Fr.refl _ _) rfl)
        · (try simp only [he] at hK ⊢)
          clear he ka kb hse
          go_simp
          go_at_call 13
          refine (lcheck_any X sl wx (L14.out.fr hl8.out) HGD.out.2.1.l HGD.out.2.1.t.k0).mono ?_
          rintro er wa ⟨rfl, fra⟩
          exact hK _ _ fra (by rw [HGD.out.1])
        · (try simp only [he] at hK ⊢)
          clear he
          try go_simp
          exact hK _ _ (Fr.refl _ _) rfl
        · (try simp only [he] at hK ⊢)
          clear he
          try go_simp
          exact hK _ _ (Fr.refl _ _) rfl
        · (try simp only [he] at hK ⊢)
          clear he
          try go_simp
          exact hK _ _ (Fr.refl _ _) rfl
        · (try simp only [he] at hK ⊢)
          clear he
          try go_simp
          exact hK _ _ (Fr.refl _ _) rfl
        · (try simp only [he] at hK ⊢)
          clear he
          try go_simp
          exact hK _ _ (Fr.refl _ _) rfl
        · (try simp only [he] at hK ⊢)
          clear he
          try go_simp
          exact hK _ _ (Fr.refl _ _) rfl
        · (try simp only [he] at hK ⊢)
          clear he
          try go_simp
          exact hK _ _ (Fr.refl _ _) rfl
        · (try simp only [he] at hK ⊢)
          clear he
          try go_simp
          exact hK _ _ (Fr.refl _ _) rfl
        · (try simp only [he] at hK ⊢)
          clear he
          try go_simp
          exact hK _ _ (Fr.refl _ _) rfl
        · (try simp only [he] at hK ⊢)
          clear he
          try go_simp
          exact hK _ _ (Fr.refl _ _) rfl
        · (try simp only [he] at hK ⊢)
          clear he
          try go_simp
          exact hK _ _ (Fr.refl _ _) rfl
        · (try simp only [he] at hK ⊢)
          clear he
          try go_simp
          exact hK _ _ (Fr.refl _ _) rfl
        · (try simp only [he] at hK ⊢)
          clear he
          try go_simp
          exact hK _ _ (Fr.refl _ _) rfl
        · (try simp only [he] at hK ⊢)
          have hq := Lib.hid (crow_kept Q14.out hl8.out (fun h => h))
          refine wantedL rfl ?_
          exact wp_load_row 51 (.tmp 15) rfl gl rfl 51 (X.cs sl) (0, 0) _ hq.out Try.underlying51 rfl (by kernel_rfl) (hK _ _ (Fr.refl _ _) rfl)
        · (try simp only [he] at hK ⊢)
          have hq := Lib.hid (crow_kept Q14.out hl8.out (fun h => h))
          refine wantedL rfl ?_
          exact wp_load_row 51 (.tmp 15) rfl gl rfl 51 (X.cs sl) (0, 0) _ hq.out Try.underlying51 rfl (by kernel_rfl) (hK _ _ (Fr.refl _ _) rfl)
        · (try simp only [he] at hK ⊢)
          clear he ka kb hse
          go_simp
          go_at_call 16
          refine (only_any X sl wx (L14.out.fr hl8.out) HGD.out.2.1.l.el HGD.out.2.1.l.em HGD.out.2.1.l.vm HGD.out.2.1.l.cl HGD.out.2.1.l.al).mono ?_
          rintro er wa ⟨so, rfl, hlo, fro, -⟩
          rw [HGD.out.2.2.2] at hlo ⊢
          exact hK _ _ fro ⟨so, rfl, hlo⟩
        · obtain ⟨so, hso, hlo⟩ : ∃ so, vals 17 = .agg (X.cs so) ∧ LS wx X so := by
            first | exact he | exact he.1 | exact he.2 | exact he.2.1 | exact he.2.2 | exact he.2.2.1
          have hv : vals 15 = .agg (X.cs sl) := by
            first | exact he | exact he.1 | exact he.2 | exact he.2.1 | exact he.2.2
          have hv7 : vals 14 = .bool false := by first | exact he.2.2.2 | exact he.2.2.1 | exact he.2.1 | exact he.1
          clear he ka kb hse
          simp only [Nat.reduceAdd, hso, hv, hv7] at hK ⊢
          clear hv hso hv7
          go_simp
          go_at_call 15
          refine (lsame_any X X sl so wx (L14.out.fr hl8.out) hlo HM.out.1 HM.out.2).mono ?_
          rintro er wa ⟨rfl, fra⟩
          exact hK _ _ fra (by rw [(Lt.same_iff _ _).2 rfl])
        · (try simp only [he] at hK ⊢)
          clear he
          try go_simp
          exact hK _ _ (Fr.refl _ _) rfl
        · (try simp only [he] at hK ⊢)
          clear he
          try go_simp
          exact hK _ _ (Fr.refl _ _) rfl
      case fin16 =>
        intro vals' wz hle hV
        have h20 : vals' 20 = .bool false := hV 20 (by decide)
        clear hV
        have FZ := Lib.hid (F14.out.trans (Fr.trans (Fr.drew (Fr.refl (fun _ => False) w14)) hle (fun _ _ h => h)) (fun _ _ h => h))
        clear hle
        simp only [frOf, fill, List.setIfInBounds_toArray, List.set_cons_succ, List.set_cons_zero, Nat.reduceAdd]
        simp only [h20]
        clear h20
        generalize vals' 17 = z17 at *
        go_wp2_with fail
        go_roundg (5 - (i + 1))
        case measure => omega
        case rel => exact ⟨i + 1, by omega, rfl, by congr 1, FZ⟩

/-- The law at its arguments. -/
theorem any_all {W : World} (v0 : Value) (l0 : List Int) (w0 : SeesL W v0 (l0.map (Value.int .u8))) (wf0 : ∀ n ∈ l0, (Lit.int .u8 n).wf = true) (y : S17) (v : Value) (h1 : S17V W y v) (at_ : Int) (ha0 : 0 ≤ at_) (ha1 : at_ ≤ 65535) (by_ : Int) (hb0 : 0 ≤ by_) (hb1 : by_ ≤ 255) (kind : Int) (hk0 : 0 ≤ kind) (hk1 : kind ≤ 255) :
    Calls Try.prog 4 #[v0, v, .int .u16 at_, .int .u8 by_, .int .u8 kind] W fun e w' => e = .returned (.bool true) ∧ Fr (fun _ => False) W w' :=
  any_walk v0 _ (sees_u8 w0 wf0) y v h1 at_ ha0 ha1 by_ hb0 hb1 kind hk0 hk1
end
end Go.Proofs.Ytjnbpgadgdjobaa
