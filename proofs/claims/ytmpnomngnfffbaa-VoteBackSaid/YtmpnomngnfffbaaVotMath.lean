/-
  An entry's bytes.
-/
import Derived.Test.YtmpnomngnfffbaaVotVoter
import Derived.Test.YtmpnomngnfffbaaCallWant
import Derived.Test.YtmpnomngnfffbaaCallMath
namespace Go.Proofs.Ytmpnomngnfffbaa
open Go.RowKit

def memE : List Int → List UInt8
  | [] => []
  | x :: l => be2 x.toNat ++ memE l

theorem memE_append (a b : List Int) : memE (a ++ b) = memE a ++ memE b := by
  induction a with
  | nil => rfl
  | cons x l ih => rw [List.cons_append, memE, memE, ih, List.append_assoc]

theorem memE_step (m : List Int) (k : Nat) (hk : k < m.length) : memE (m.take (k + 1)) = memE (m.take k) ++ be2 m[k].toNat := by
  rw [List.take_succ_eq_append_getElem hk, memE_append]
  simp [memE]

theorem memE_length (m : List Int) : (memE m).length = 2 * m.length := by
  induction m with
  | nil => rfl
  | cons x l ih => rw [memE, List.length_append, ih, be2_length, List.length_cons]; omega

theorem be2_inj {a b : Nat} (ha : a < 65536) (hb : b < 65536) (h : be2 a = be2 b) : a = b := by
  have h1 := numS_be2 a ha [] 0
  have h2 := numS_be2 b hb [] 0
  rw [h, h2] at h1
  exact (congrArg Prod.fst h1).symm

theorem be2_app {a b : Nat} {p q : List UInt8} (ha : a < 65536) (hb : b < 65536) (h : be2 a ++ p = be2 b ++ q) : a = b ∧ p = q := by
  have := List.append_inj h (by rw [be2_length, be2_length])
  exact ⟨be2_inj ha hb this.1, this.2⟩

def In16 (m : List Int) : Prop := ∀ x ∈ m, 0 ≤ x ∧ x ≤ 65535

theorem memE_inj : ∀ (m m' : List Int), m.length = m'.length → In16 m → In16 m' → memE m = memE m' → m = m'
  | [], [], _, _, _, _ => rfl
  | [], _ :: _, h, _, _, _ => by simp at h
  | _ :: _, [], h, _, _, _ => by simp at h
  | x :: l, y :: l', h, h1, h2, he => by
    have hx := h1 x (by simp)
    have hy := h2 y (by simp)
    rw [memE, memE] at he
    obtain ⟨e1, e2⟩ := be2_app (by omega) (by omega) he
    rw [memE_inj l l' (by simpa using h) (fun z hz => h1 z (by simp [hz])) (fun z hz => h2 z (by simp [hz])) e2]
    congr 1
    omega

/-- An entry's bytes. -/
def entB (x : En) : List UInt8 := be2 x.k.toNat ++ (if x.k = 1 then callB x.t x.n x.p x.l else if x.k = 2 then be2 x.m.length ++ memE x.m else [])

/-- An entry that may be, of one of the three kinds. -/
structure EnOk (x : En) : Prop where
  k0 : 0 ≤ x.k
  k1 : x.k ≤ 2
  t0 : 0 ≤ x.t
  t1 : x.t ≤ 65535
  n0 : 0 ≤ x.n
  n1 : x.n ≤ 65535
  p0 : 0 ≤ x.p
  p1 : x.p ≤ 65535
  l1 : x.l.length ≤ 4000
  m1 : x.m.length ≤ 16
  mb : In16 x.m
  ck : x.chk = 0
  nc : x.k ≠ 1 → x.t = 0 ∧ x.n = 0 ∧ x.p = 0 ∧ x.l = []
  nm : x.k ≠ 2 → x.m = []

theorem bits_in16 (m : Nat) : In16 (bitsL m) := by
  intro x hx
  obtain ⟨i, h1, h2, _⟩ := mem_bitsL_range m x hx
  omega

theorem sm_ok {s : Sm} (h : s.ok) (hl : s.c.l.length ≤ 4000) : EnOk s.en := by
  have hb := bitsL_len s.mb h.m1
  have h0 := h.t0
  have h1 := h.t1
  have h2 := h.n0
  have h3 := h.n1
  have h4 := h.p0
  have h5 := h.p1
  unfold Sm.en
  by_cases hk : s.kind % 3 = 1
  · rw [if_pos hk]
    have hp : okN s.c.p = true := by unfold okN; simp [h4, h5]
    refine ⟨by show (0 : Int) ≤ 1; omega, by show (1 : Int) ≤ 2; omega, h0, h1, h2, h3, h4, h5, hl, Nat.zero_le _, (fun x hx => (by cases hx)), ?_, fun h => absurd rfl h, fun _ => rfl⟩
    unfold En.chk
    simp [cchk_ok hp hl]
  · rw [if_neg hk]
    by_cases hk2 : s.kind % 3 = 2
    · rw [if_pos hk2]
      refine ⟨by show (0 : Int) ≤ 2; omega, by show (2 : Int) ≤ 2; omega, Int.le_refl _, by show (0 : Int) ≤ 65535; decide, Int.le_refl _, by show (0 : Int) ≤ 65535; decide, Int.le_refl _, by show (0 : Int) ≤ 65535; decide, Nat.zero_le _, hb.2, bits_in16 _, ?_, fun _ => ⟨rfl, rfl, rfl, rfl⟩, fun h => absurd rfl h⟩
      unfold En.chk
      simp [bitsL_chk s.mb h.m1]
    · rw [if_neg hk2]
      exact ⟨by decide, by decide, by decide, by decide, by decide, by decide, by decide, by decide, by decide, by decide, (fun x hx => (by cases hx)), by decide, fun _ => ⟨rfl, rfl, rfl, rfl⟩, fun _ => rfl⟩

theorem entB_inj {x y : En} (hx : EnOk x) (hy : EnOk y) (h : entB x = entB y) : x = y := by
  obtain ⟨k0, k1, t0, t1, n0, n1, p0, p1, l1, m1, mb, ck, nc, nm⟩ := hx
  obtain ⟨k0', k1', t0', t1', n0', n1', p0', p1', l1', m1', mb', ck', nc', nm'⟩ := hy
  unfold entB at h
  obtain ⟨hk, hr⟩ := be2_app (by omega) (by omega) h
  have hk' : x.k = y.k := by omega
  rw [hk'] at hr nc nm
  cases x with
  | mk k t n p l m =>
  cases y with
  | mk k' t' n' p' l' m' =>
  simp only at *
  subst hk'
  by_cases h1 : k = 1
  · subst h1
    rw [if_pos rfl, if_pos rfl] at hr
    have e1 := takeS_call t n p l [] t0 t1 n0 n1 p0 p1 l1
    have e2 := takeS_call t' n' p' l' [] t0' t1' n0' n1' p0' p1' l1'
    rw [hr, e2] at e1
    simp only [Prod.mk.injEq] at e1
    have hm : m = [] := nm (by decide)
    have hm' : m' = [] := nm' (by decide)
    obtain ⟨⟨a1, a2, a3, a4⟩, _⟩ := e1
    subst hm hm' a4
    congr 1 <;> omega
  · rw [if_neg h1, if_neg h1] at hr
    obtain ⟨rfl, rfl, rfl, rfl⟩ := nc h1
    obtain ⟨rfl, rfl, rfl, rfl⟩ := nc' h1
    by_cases h2 : k = 2
    · subst h2
      rw [if_pos rfl, if_pos rfl] at hr
      obtain ⟨e1, e2⟩ := be2_app (by omega) (by omega) hr
      rw [memE_inj m m' e1 mb mb' e2]
    · rw [nm h2, nm' h2]

theorem entB_length {x : En} (h : EnOk x) : (entB x).length ≤ 5000 := by
  have h1 := h.l1
  have h2 := h.m1
  unfold entB
  rw [List.length_append, be2_length]
  by_cases hk : x.k = 1
  · rw [if_pos hk, callB_length]; omega
  · rw [if_neg hk]
    by_cases hk2 : x.k = 2
    · rw [if_pos hk2, List.length_append, be2_length, memE_length]; omega
    · rw [if_neg hk2]; simp

end Go.Proofs.Ytmpnomngnfffbaa
