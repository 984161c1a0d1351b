/-
  LetAny, part 13 of what it rests on: LetBytes.
-/
import Derived.Test.YtjnbpgadgdjobaaS10
import Derived.Test.YtjnbpgadgdjobaaS12
import Derived.Laws.EntriesVeiled
set_option linter.unusedVariables false
set_option linter.unusedSimpArgs false
set_option maxHeartbeats 64000000
namespace Go.Proofs.Ytjnbpgadgdjobaa
open Go.RowKit
open Go.Lib (hid)
section
set_option maxRecDepth 100000

/-- What is kept while the bytes are made. -/
structure OG (w0 : World) (x : Lt) (s : Ls) (g : Nat) (w : World) (v : Value) (l : List UInt8) : Prop where
  oc : OC g w v l
  box : w.heap[g]? = some (oLt x s)
  fr : Fr (fun _ => False) w0 w
  hg : g = w0.heap.size

theorem OG.outs {w0 : World} {x : Lt} {s : Ls} {g : Nat} {w w' : World} {v : Value} {l l' : List UInt8} (h : OG w0 x s g w v l) (ho : Outs (g + 1) v l' w w') : ∃ v', OG w0 x s g w' v' l' := by
  obtain ⟨v', h1, h2, h3⟩ := h.oc.outs ho
  refine ⟨v', h1, crow_kept h.box h2 ?_, h.fr.trans h2 ?_, h.hg⟩
  · rintro (e | e)
    · omega
    · have := h.oc.far _ e; omega
  · rintro i hi (e | e)
    · have := h.hg; omega
    · have := h.oc.far _ e; have := h.hg; omega

theorem OG.made {w0 : World} {x : Lt} {s : Ls} {g : Nat} {w : World} {v : Value} {l : List UInt8} (h : OG w0 x s g w v l) : Made v l w0 w :=
  ⟨h.oc.ob.own, h.fr, fun k hk => by have := h.oc.far k hk; have := h.hg; omega⟩

def S24 (w : World) (b : Nat) (v : Value) (L : List UInt8) (e : En) : List Value → World → Prop
  | [], wx => Fr (fun _ => False) w wx
  | [y], wx => Made y (entB e) w wx
  | [_, z], wx => Fr (fun _ => False) w wx ∧ Sees wx z ((entB e).drop 2)
  | [_, _, u], wx => ObA w b v (L ++ (entB e).drop 2) u wx
  | [_, _, _, _], wx => Outs b v (L ++ (entB e).drop 2) w wx
  | _, _ => False

theorem ObS.frv {w : World} {b : Nat} {v : Value} {L q : List UInt8} : ∀ {c : List Value} {wx : World}, ObS w b v L q c wx → Fr (fun k => k = b ∨ v.ownBlock = some k) w wx
  | [], wx, f => f.mono (fun _ _ h => h.elim)
  | [_], wx, m => m.2.1.mono (fun _ _ h => h.elim)
  | [_, _], wx, m => m.2.2.2.1
  | [_, _, _], wx, ⟨_, _, m, _⟩ => m
  | _ :: _ :: _ :: _ :: _, _, m => m.elim

theorem S24.kept {w : World} {b : Nat} {v : Value} {L : List UInt8} {e : En} {j : Nat} {o : Obj} (h : w.heap[j]? = some o) (hj : j ≠ b ∧ v.ownBlock ≠ some j) : ∀ {c : List Value} {wx : World}, S24 w b v L e c wx → wx.heap[j]? = some o
  | [], wx, f => crow_kept h f (fun h => h)
  | [_], wx, m => crow_kept h m.2.1 (fun h => h)
  | [_, _], wx, m => crow_kept h m.1 (fun h => h)
  | [_, _, _], wx, m => crow_kept h m.2.2.2.1 (fun e => e.elim hj.1 hj.2)
  | [_, _, _, _], wx, ⟨_, _, m, _⟩ => crow_kept h m (fun e => e.elim hj.1 hj.2)
  | _ :: _ :: _ :: _ :: _ :: _, _, m => m.elim

theorem S24.here {w : World} {b : Nat} {v : Value} {L : List UInt8} {e : En} (h : Ob w b v L) : ∀ {c : List Value} {wx : World}, c.length ≤ 3 → S24 w b v L e c wx → wx.heap[b]? = some (.cells #[v] 24 (0, 0))
  | [], wx, _, f => (h.fr f).here
  | [_], wx, _, m => (h.fr m.2.1).here
  | [_, _], wx, _, m => (h.fr m.1).here
  | [_, _, _], wx, _, m => m.1
  | _ :: _ :: _ :: _ :: _, _, hc, _ => by simp at hc

theorem entB_call (t n p : Int) (l : List UInt8) : (entB ⟨1, t, n, p, l, []⟩).drop 2 = callB t n p l := by
  unfold entB
  rw [if_pos rfl, List.drop_append, be2_length]
  simp [be2_length]

theorem OG.gb {w0 : World} {x : Lt} {s : Ls} {g : Nat} {w : World} {v : Value} {l : List UInt8} (h : OG w0 x s g w v l) : g ≠ g + 1 ∧ v.ownBlock ≠ some g := ⟨by omega, fun e => by have := h.oc.far g e; omega⟩

theorem okN_in {p : Int} (h : okN p = true) : 0 ≤ p ∧ p ≤ 65535 := by unfold okN at h; simpa using h

theorem alloc_size (w : World) (o : Obj) : (w.alloc o).heap.size = w.heap.size + 1 := by
  show (w.heap.push _).size = _
  rw [Array.size_push]

theorem og_four (w : World) (x : Lt) (s : Ls) (o2 o3 o4 : Obj) (h2 : o2 = .cells #[nilS] 24)
    (h3 : o3 = .cells #[.func (.func 34) #[] #[.pointer (some ⟨w.heap.size + 1, 0, none⟩)]] 82) (h4 : o4 = .cells #[.func (.func 36) #[] #[.pointer (some ⟨w.heap.size + 1, 0, none⟩)]] 82) :
    OG w x s w.heap.size ((((w.alloc (oLt x s)).alloc o2).alloc o3).alloc o4) nilS [] := by
  have e2 := alloc_size w (oLt x s)
  have e3 := alloc_size (w.alloc (oLt x s)) o2
  have e4 := alloc_size ((w.alloc (oLt x s)).alloc o2) o3
  have n1 := heap_alloc_new w (oLt x s)
  have n2 := heap_alloc_new (w.alloc (oLt x s)) o2
  have n3 := heap_alloc_new ((w.alloc (oLt x s)).alloc o2) o3
  have n4 := heap_alloc_new (((w.alloc (oLt x s)).alloc o2).alloc o3) o4
  have f : ∀ (W : World) (o : Obj), Fr (fun _ => False) W (W.alloc o) := fun W o => (Fr.refl _ _).alloc _
  have f1 := f w (oLt x s)
  have f2 := f (w.alloc (oLt x s)) o2
  have f3 := f ((w.alloc (oLt x s)).alloc o2) o3
  have f4 := f (((w.alloc (oLt x s)).alloc o2).alloc o3) o4
  generalize (((w.alloc (oLt x s)).alloc o2).alloc o3).alloc o4 = W4 at *
  generalize ((w.alloc (oLt x s)).alloc o2).alloc o3 = W3 at *
  generalize (w.alloc (oLt x s)).alloc o2 = W2 at *
  generalize w.alloc (oLt x s) = W1 at *
  rw [e2] at n2
  rw [e3, e2] at n3
  rw [e4, e3, e2] at n4
  subst h2 h3 h4
  exact ⟨⟨⟨crow_kept n2 (f3.trans0 f4) (fun h => h), World.ownsRow_nil _ _ _ _, fun e => by cases e⟩, crow_kept n3 f4 (fun h => h), n4, fun k hk => by cases hk⟩, crow_kept n1 (f2.trans0 (f3.trans0 f4)) (fun h => h), f1.trans0 (f2.trans0 (f3.trans0 f4)), rfl⟩

theorem lbytes_any (x : Lt) (s : Ls) (w : World) (ok : LtOk x) (hl : LS w x s) :
    Calls Try.prog 14 #[.agg (x.cs s)] w fun e w' => ∃ y, e = .returned y ∧ Made y (ltB x) w w' := by
  have HL := Lib.hid hl
  have OK := Lib.hid ok
  clear hl ok
  go_enter Try.func14, Try.ntmps14
  go_upto_region 6 with fail
  have hg0 := og_four w x s _ _ _ rfl rfl rfl
  generalize (((w.alloc (oLt x s)).alloc (.cells #[.slice none 0 0] 24)).alloc (.cells #[.func (.func 34) #[] #[.pointer (some ⟨w.heap.size + 1, 0, none⟩)]] 82)).alloc (.cells #[.func (.func 36) #[] #[.pointer (some ⟨w.heap.size + 1, 0, none⟩)]] 82) = w0 at *
  obtain ⟨g, hg⟩ : ∃ g, g = w.heap.size := ⟨_, rfl⟩
  rw [← hg] at hg0 ⊢
  clear hg
  obtain ⟨v0, hv0⟩ : ∃ v0, v0 = nilS := ⟨_, rfl⟩
  rw [← hv0] at hg0
  clear hv0
  obtain ⟨L0, hl⟩ : ∃ L0 : List UInt8, L0 = [] := ⟨_, rfl⟩
  rw [← hl] at hg0
  have HL0 := Lib.hid hl
  have HN0 : Hid (L0.length ≤ 0) := Lib.hid (by rw [hl]; exact Nat.le_refl _)
  have HG0 := Lib.hid hg0
  clear hg0 hl
  have HB : Hid ((0 ≤ x.k ∧ x.k ≤ 7) ∧ (0 ≤ x.f ∧ x.f ≤ 15) ∧ 0 ≤ x.t ∧ x.t ≤ 15) := Lib.hid ⟨⟨OK.out.k0, OK.out.k1⟩, ⟨OK.out.f0, OK.out.f1⟩, OK.out.t0, OK.out.t1⟩
  obtain ⟨⟨k0, k1⟩, -⟩ := HB.out
  obtain ⟨q_k, -, -, -, -, -, -, -, -⟩ := lt_cells HG0.out.box
  have q_c := crow HG0.out.oc.fw 0 _ rfl
  go_wp2_with fail
  refine (bword_any x.k (by omega) (by omega) (g + 1) v0 L0 w0 HG0.out.oc.ob (by have := HN0.out; omega)).mono ?_
  rintro e w1 ⟨rfl, ho⟩
  obtain ⟨v1, hg1⟩ := HG0.out.outs ho
  obtain ⟨L1, hl⟩ : ∃ L, L = L0 ++ (be2 (x.k).toNat) := ⟨_, rfl⟩
  rw [← hl] at hg1
  have HL1 := Lib.hid hl
  have HN1 : Hid (L1.length ≤ 2) := Lib.hid (by have := HN0.out; rw [hl, List.length_append]; rw [be2_length]; omega)
  have HG1 := Lib.hid hg1
  clear ho hl hg1 q_k q_c
  dsimp only
  obtain ⟨-, ⟨f0, f1⟩, -⟩ := HB.out
  obtain ⟨-, q_f, -, -, -, -, -, -, -⟩ := lt_cells HG1.out.box
  have q_c := crow HG1.out.oc.fw 0 _ rfl
  go_wp2_with fail
  refine (bword_any x.f (by omega) (by omega) (g + 1) v1 L1 w1 HG1.out.oc.ob (by have := HN1.out; omega)).mono ?_
  rintro e w2 ⟨rfl, ho⟩
  obtain ⟨v2, hg2⟩ := HG1.out.outs ho
  obtain ⟨L2, hl⟩ : ∃ L, L = L1 ++ (be2 (x.f).toNat) := ⟨_, rfl⟩
  rw [← hl] at hg2
  have HL2 := Lib.hid hl
  have HN2 : Hid (L2.length ≤ 4) := Lib.hid (by have := HN1.out; rw [hl, List.length_append]; rw [be2_length]; omega)
  have HG2 := Lib.hid hg2
  clear ho hl hg2 q_f q_c
  dsimp only
  obtain ⟨-, -, t0, t1⟩ := HB.out
  obtain ⟨-, -, q_t, -, -, -, -, -, -⟩ := lt_cells HG2.out.box
  have q_c := crow HG2.out.oc.fw 0 _ rfl
  go_wp2_with fail
  refine (bword_any x.t (by omega) (by omega) (g + 1) v2 L2 w2 HG2.out.oc.ob (by have := HN2.out; omega)).mono ?_
  rintro e w3 ⟨rfl, ho⟩
  obtain ⟨v3, hg3⟩ := HG2.out.outs ho
  obtain ⟨L3, hl⟩ : ∃ L, L = L2 ++ (be2 (x.t).toNat) := ⟨_, rfl⟩
  rw [← hl] at hg3
  have HL3 := Lib.hid hl
  have HN3 : Hid (L3.length ≤ 6) := Lib.hid (by have := HN2.out; rw [hl, List.length_append]; rw [be2_length]; omega)
  have HG3 := Lib.hid hg3
  clear ho hl hg3 q_t q_c
  dsimp only
  clear k0 k1 f0 f1 t0 t1
  rcases (show x.k = 0 ∨ x.k = 1 ∨ x.k = 2 ∨ x.k = 3 ∨ x.k = 4 ∨ x.k = 5 ∨ x.k = 6 ∨ x.k = 7 by have := HB.out.1; omega) with h | h | h | h | h | h | h | h
  · have HK := Lib.hid h
    clear h
    have HH : Hid (hasE x.k x.s 1 = true ∧ hasE x.k x.s 2 = true ∧ hasE x.k x.s 4 = false ∧ hasE x.k x.s 8 = false ∧ hasE x.k x.s 16 = false ∧ hasE x.k x.s 32 = false ∧ hasE x.k x.s 64 = false) := Lib.hid (by rw [HK.out]; cases x.s <;> decide)
    have HE : Hid (ltB x = be2 x.k.toNat ++ be2 x.f.toNat ++ be2 x.t.toNat ++ be4 x.p.toNat ++ (be4 x.b1.toNat ++ be2 x.b2.toNat)) := Lib.hid (by
      obtain ⟨e1, e2, e3, e4, e5, e6, e7⟩ := HH.out
      simp only [ltB, ltU, ltP, e1, e2, e3, e4, e5, e6, e7, if_true, Bool.false_eq_true, if_false, List.append_nil])
    obtain ⟨p0, p1⟩ := OK.out.p HH.out.1
    obtain ⟨⟨b0, b1⟩, b2, b3⟩ := OK.out.b HH.out.2.1
    obtain ⟨q_k, -, -, q_p, -, -, -, -, -⟩ := lt_cells HG3.out.box
    rw [HK.out] at q_k
    have q_c := crow HG3.out.oc.fl 0 _ rfl
    go_wp2_with fail
    refine (blong_any x.p (by omega) (by omega) (g + 1) v3 L3 w3 HG3.out.oc.ob (by have := HN3.out; omega)).mono ?_
    rintro e w4 ⟨rfl, ho⟩
    obtain ⟨v4, hg4⟩ := HG3.out.outs ho
    obtain ⟨L4, hl⟩ : ∃ L, L = L3 ++ (be4 (x.p).toNat) := ⟨_, rfl⟩
    rw [← hl] at hg4
    have HL4 := Lib.hid hl
    have HN4 : Hid (L4.length ≤ 10) := Lib.hid (by have := HN3.out; rw [hl, List.length_append]; rw [be4_length]; omega)
    have HG4 := Lib.hid hg4
    clear ho hl hg4 q_k q_p q_c
    dsimp only
    obtain ⟨q_k, -, -, -, q_b1, q_b2, -, -, -⟩ := lt_cells HG4.out.box
    rw [HK.out] at q_k
    go_wp2_with fail
    refine (bballot_any x.b1 x.b2 (by omega) (by omega) (by omega) (by omega) g v4 L4 w4 HG4.out.oc (by have := HN4.out; omega)).mono ?_
    rintro e w5 ⟨rfl, ho⟩
    obtain ⟨v5, hg5⟩ := HG4.out.outs ho
    obtain ⟨L5, hl⟩ : ∃ L, L = L4 ++ (be4 (x.b1).toNat ++ be2 (x.b2).toNat) := ⟨_, rfl⟩
    rw [← hl] at hg5
    have HL5 := Lib.hid hl
    have HN5 : Hid (L5.length ≤ 16) := Lib.hid (by have := HN4.out; rw [hl, List.length_append]; rw [List.length_append, be4_length, be2_length]; omega)
    have HG5 := Lib.hid hg5
    clear ho hl hg5 q_k q_b1 q_b2
    dsimp only
    obtain ⟨q_k, -, -, -, -, -, -, -, -⟩ := lt_cells HG5.out.box
    rw [HK.out] at q_k
    have q_o := crow HG5.out.oc.ob.here 0 _ rfl
    have HZ : Hid (Made v5 (ltB x) w w5) := Lib.hid (by
      have h := HG5.out.made
      rw [HL5.out, HL4.out, HL3.out, HL2.out, HL1.out, HL0.out] at h
      rw [HE.out]
      simp only [List.nil_append, List.append_assoc] at h ⊢
      exact h)
    clear HG0 HG1 HG2 HG3 HG4
    go_wp2_with fail
    go_ret
    exact ⟨_, rfl, HZ.out⟩
  · have HK := Lib.hid h
    clear h
    rcases hS : x.s with _ | _
    · have HH : Hid (hasE x.k x.s 1 = true ∧ hasE x.k x.s 2 = true ∧ hasE x.k x.s 4 = true ∧ hasE x.k x.s 8 = false ∧ hasE x.k x.s 16 = false ∧ hasE x.k x.s 32 = false ∧ hasE x.k x.s 64 = false) := Lib.hid (by rw [HK.out, hS]; decide)
      have HSS := Lib.hid hS
      clear hS
      have HE : Hid (ltB x = be2 x.k.toNat ++ be2 x.f.toNat ++ be2 x.t.toNat ++ be4 x.p.toNat ++ (be4 x.b1.toNat ++ be2 x.b2.toNat) ++ be2 (Int.toNat 0)) := Lib.hid (by
        obtain ⟨e1, e2, e3, e4, e5, e6, e7⟩ := HH.out
        simp only [ltB, ltU, ltP, e1, e2, e3, e4, e5, e6, e7, if_true, Bool.false_eq_true, if_false, List.append_nil]; rw [boolB, HSS.out]; rfl)
      obtain ⟨p0, p1⟩ := OK.out.p HH.out.1
      obtain ⟨⟨b0, b1⟩, b2, b3⟩ := OK.out.b HH.out.2.1
      obtain ⟨q_k, -, -, q_p, -, -, -, -, -⟩ := lt_cells HG3.out.box
      rw [HK.out] at q_k
      have q_c := crow HG3.out.oc.fl 0 _ rfl
      go_wp2_with fail
      refine (blong_any x.p (by omega) (by omega) (g + 1) v3 L3 w3 HG3.out.oc.ob (by have := HN3.out; omega)).mono ?_
      rintro e w4 ⟨rfl, ho⟩
      obtain ⟨v4, hg4⟩ := HG3.out.outs ho
      obtain ⟨L4, hl⟩ : ∃ L, L = L3 ++ (be4 (x.p).toNat) := ⟨_, rfl⟩
      rw [← hl] at hg4
      have HL4 := Lib.hid hl
      have HN4 : Hid (L4.length ≤ 10) := Lib.hid (by have := HN3.out; rw [hl, List.length_append]; rw [be4_length]; omega)
      have HG4 := Lib.hid hg4
      clear ho hl hg4 q_k q_p q_c
      dsimp only
      obtain ⟨q_k, -, -, -, q_b1, q_b2, -, -, -⟩ := lt_cells HG4.out.box
      rw [HK.out] at q_k
      go_wp2_with fail
      refine (bballot_any x.b1 x.b2 (by omega) (by omega) (by omega) (by omega) g v4 L4 w4 HG4.out.oc (by have := HN4.out; omega)).mono ?_
      rintro e w5 ⟨rfl, ho⟩
      obtain ⟨v5, hg5⟩ := HG4.out.outs ho
      obtain ⟨L5, hl⟩ : ∃ L, L = L4 ++ (be4 (x.b1).toNat ++ be2 (x.b2).toNat) := ⟨_, rfl⟩
      rw [← hl] at hg5
      have HL5 := Lib.hid hl
      have HN5 : Hid (L5.length ≤ 16) := Lib.hid (by have := HN4.out; rw [hl, List.length_append]; rw [List.length_append, be4_length, be2_length]; omega)
      have HG5 := Lib.hid hg5
      clear ho hl hg5 q_k q_b1 q_b2
      dsimp only
      obtain ⟨q_k, -, -, -, -, -, -, -, q_s⟩ := lt_cells HG5.out.box
      rw [HK.out] at q_k
      rw [HSS.out] at q_s
      have q_c := crow HG5.out.oc.fw 0 _ rfl
      go_wp2_with fail
      refine (bword_any 0 (by omega) (by omega) (g + 1) v5 L5 w5 HG5.out.oc.ob (by have := HN5.out; omega)).mono ?_
      rintro e w6 ⟨rfl, ho⟩
      obtain ⟨v6, hg6⟩ := HG5.out.outs ho
      obtain ⟨L6, hl⟩ : ∃ L, L = L5 ++ (be2 (Int.toNat 0)) := ⟨_, rfl⟩
      rw [← hl] at hg6
      have HL6 := Lib.hid hl
      have HN6 : Hid (L6.length ≤ 18) := Lib.hid (by have := HN5.out; rw [hl, List.length_append]; rw [be2_length]; omega)
      have HG6 := Lib.hid hg6
      clear ho hl hg6 q_k q_s q_c
      dsimp only
      have q_o := crow HG6.out.oc.ob.here 0 _ rfl
      have HZ : Hid (Made v6 (ltB x) w w6) := Lib.hid (by
        have h := HG6.out.made
        rw [HL6.out, HL5.out, HL4.out, HL3.out, HL2.out, HL1.out, HL0.out] at h
        rw [HE.out]
        simp only [List.nil_append, List.append_assoc] at h ⊢
        exact h)
      clear HG0 HG1 HG2 HG3 HG4 HG5
      go_wp2_with fail
      go_ret
      exact ⟨_, rfl, HZ.out⟩
    · have HH : Hid (hasE x.k x.s 1 = true ∧ hasE x.k x.s 2 = true ∧ hasE x.k x.s 4 = true ∧ hasE x.k x.s 8 = true ∧ hasE x.k x.s 16 = true ∧ hasE x.k x.s 32 = false ∧ hasE x.k x.s 64 = false) := Lib.hid (by rw [HK.out, hS]; decide)
      have HSS := Lib.hid hS
      clear hS
      have HE : Hid (ltB x = be2 x.k.toNat ++ be2 x.f.toNat ++ be2 x.t.toNat ++ be4 x.p.toNat ++ (be4 x.b1.toNat ++ be2 x.b2.toNat) ++ be2 (Int.toNat 1) ++ (be4 x.w1.toNat ++ be2 x.w2.toNat) ++ entB x.e) := Lib.hid (by
        obtain ⟨e1, e2, e3, e4, e5, e6, e7⟩ := HH.out
        simp only [ltB, ltU, ltP, e1, e2, e3, e4, e5, e6, e7, if_true, Bool.false_eq_true, if_false, List.append_nil]; rw [boolB, HSS.out]; rfl)
      obtain ⟨p0, p1⟩ := OK.out.p HH.out.1
      obtain ⟨⟨b0, b1⟩, b2, b3⟩ := OK.out.b HH.out.2.1
      have EOK := Lib.hid (OK.out.e HH.out.2.2.2.2.1)
      obtain ⟨q_k, -, -, q_p, -, -, -, -, -⟩ := lt_cells HG3.out.box
      rw [HK.out] at q_k
      have q_c := crow HG3.out.oc.fl 0 _ rfl
      go_wp2_with fail
      refine (blong_any x.p (by omega) (by omega) (g + 1) v3 L3 w3 HG3.out.oc.ob (by have := HN3.out; omega)).mono ?_
      rintro e w4 ⟨rfl, ho⟩
      obtain ⟨v4, hg4⟩ := HG3.out.outs ho
      obtain ⟨L4, hl⟩ : ∃ L, L = L3 ++ (be4 (x.p).toNat) := ⟨_, rfl⟩
      rw [← hl] at hg4
      have HL4 := Lib.hid hl
      have HN4 : Hid (L4.length ≤ 10) := Lib.hid (by have := HN3.out; rw [hl, List.length_append]; rw [be4_length]; omega)
      have HG4 := Lib.hid hg4
      clear ho hl hg4 q_k q_p q_c
      dsimp only
      obtain ⟨q_k, -, -, -, q_b1, q_b2, -, -, -⟩ := lt_cells HG4.out.box
      rw [HK.out] at q_k
      go_wp2_with fail
      refine (bballot_any x.b1 x.b2 (by omega) (by omega) (by omega) (by omega) g v4 L4 w4 HG4.out.oc (by have := HN4.out; omega)).mono ?_
      rintro e w5 ⟨rfl, ho⟩
      obtain ⟨v5, hg5⟩ := HG4.out.outs ho
      obtain ⟨L5, hl⟩ : ∃ L, L = L4 ++ (be4 (x.b1).toNat ++ be2 (x.b2).toNat) := ⟨_, rfl⟩
      rw [← hl] at hg5
      have HL5 := Lib.hid hl
      have HN5 : Hid (L5.length ≤ 16) := Lib.hid (by have := HN4.out; rw [hl, List.length_append]; rw [List.length_append, be4_length, be2_length]; omega)
      have HG5 := Lib.hid hg5
      clear ho hl hg5 q_k q_b1 q_b2
      dsimp only
      obtain ⟨q_k, -, -, -, -, -, -, -, q_s⟩ := lt_cells HG5.out.box
      rw [HK.out] at q_k
      rw [HSS.out] at q_s
      have q_c := crow HG5.out.oc.fw 0 _ rfl
      go_wp2_with fail
      refine (bword_any 1 (by omega) (by omega) (g + 1) v5 L5 w5 HG5.out.oc.ob (by have := HN5.out; omega)).mono ?_
      rintro e w6 ⟨rfl, ho⟩
      obtain ⟨v6, hg6⟩ := HG5.out.outs ho
      obtain ⟨L6, hl⟩ : ∃ L, L = L5 ++ (be2 (Int.toNat 1)) := ⟨_, rfl⟩
      rw [← hl] at hg6
      have HL6 := Lib.hid hl
      have HN6 : Hid (L6.length ≤ 18) := Lib.hid (by have := HN5.out; rw [hl, List.length_append]; rw [be2_length]; omega)
      have HG6 := Lib.hid hg6
      clear ho hl hg6 q_k q_s q_c
      dsimp only
      obtain ⟨⟨c0, c1⟩, c2, c3⟩ := OK.out.w HH.out.2.2.2.1
      obtain ⟨-, -, -, -, -, -, q_w1, q_w2, -⟩ := lt_cells HG6.out.box
      go_wp2_with fail
      refine (bballot_any x.w1 x.w2 (by omega) (by omega) (by omega) (by omega) g v6 L6 w6 HG6.out.oc (by have := HN6.out; omega)).mono ?_
      rintro e w7 ⟨rfl, ho⟩
      obtain ⟨v7, hg7⟩ := HG6.out.outs ho
      obtain ⟨L7, hl⟩ : ∃ L, L = L6 ++ (be4 (x.w1).toNat ++ be2 (x.w2).toNat) := ⟨_, rfl⟩
      rw [← hl] at hg7
      have HL7 := Lib.hid hl
      have HN7 : Hid (L7.length ≤ 24) := Lib.hid (by have := HN6.out; rw [hl, List.length_append]; rw [List.length_append, be4_length, be2_length]; omega)
      have HG7 := Lib.hid hg7
      clear ho hl hg7 q_w1 q_w2
      dsimp only
      obtain ⟨q_ek, q_et, q_en, q_ep, q_ea, q_em⟩ := lt_cells2 HG7.out.box
      go_wp2_with fail
      refine (bentry_any x.e s.ea s.em (g + 1) v7 L7 w7 EOK.out (HL.out.e.fr HG7.out.fr) HG7.out.oc.ob (by have := HN7.out; omega)).mono ?_
      rintro e w8 ⟨rfl, ho⟩
      obtain ⟨v8, hg8⟩ := HG7.out.outs ho
      obtain ⟨L8, hl⟩ : ∃ L, L = L7 ++ (entB x.e) := ⟨_, rfl⟩
      rw [← hl] at hg8
      have HL8 := Lib.hid hl
      have HN8 : Hid (L8.length ≤ 5024) := Lib.hid (by have := HN7.out; rw [hl, List.length_append]; have := entB_length EOK.out; omega)
      have HG8 := Lib.hid hg8
      clear ho hl hg8 q_ek q_et q_en q_ep q_ea q_em
      dsimp only
      have q_o := crow HG8.out.oc.ob.here 0 _ rfl
      have HZ : Hid (Made v8 (ltB x) w w8) := Lib.hid (by
        have h := HG8.out.made
        rw [HL8.out, HL7.out, HL6.out, HL5.out, HL4.out, HL3.out, HL2.out, HL1.out, HL0.out] at h
        rw [HE.out]
        simp only [List.nil_append, List.append_assoc] at h ⊢
        exact h)
      clear HG0 HG1 HG2 HG3 HG4 HG5 HG6 HG7
      go_wp2_with fail
      go_ret
      exact ⟨_, rfl, HZ.out⟩
  · have HK := Lib.hid h
    clear h
    have HH : Hid (hasE x.k x.s 1 = true ∧ hasE x.k x.s 2 = true ∧ hasE x.k x.s 4 = false ∧ hasE x.k x.s 8 = false ∧ hasE x.k x.s 16 = true ∧ hasE x.k x.s 32 = false ∧ hasE x.k x.s 64 = false) := Lib.hid (by rw [HK.out]; cases x.s <;> decide)
    have HE : Hid (ltB x = be2 x.k.toNat ++ be2 x.f.toNat ++ be2 x.t.toNat ++ be4 x.p.toNat ++ (be4 x.b1.toNat ++ be2 x.b2.toNat) ++ entB x.e) := Lib.hid (by
      obtain ⟨e1, e2, e3, e4, e5, e6, e7⟩ := HH.out
      simp only [ltB, ltU, ltP, e1, e2, e3, e4, e5, e6, e7, if_true, Bool.false_eq_true, if_false, List.append_nil])
    obtain ⟨p0, p1⟩ := OK.out.p HH.out.1
    obtain ⟨⟨b0, b1⟩, b2, b3⟩ := OK.out.b HH.out.2.1
    have EOK := Lib.hid (OK.out.e HH.out.2.2.2.2.1)
    obtain ⟨q_k, -, -, q_p, -, -, -, -, -⟩ := lt_cells HG3.out.box
    rw [HK.out] at q_k
    have q_c := crow HG3.out.oc.fl 0 _ rfl
    go_wp2_with fail
    refine (blong_any x.p (by omega) (by omega) (g + 1) v3 L3 w3 HG3.out.oc.ob (by have := HN3.out; omega)).mono ?_
    rintro e w4 ⟨rfl, ho⟩
    obtain ⟨v4, hg4⟩ := HG3.out.outs ho
    obtain ⟨L4, hl⟩ : ∃ L, L = L3 ++ (be4 (x.p).toNat) := ⟨_, rfl⟩
    rw [← hl] at hg4
    have HL4 := Lib.hid hl
    have HN4 : Hid (L4.length ≤ 10) := Lib.hid (by have := HN3.out; rw [hl, List.length_append]; rw [be4_length]; omega)
    have HG4 := Lib.hid hg4
    clear ho hl hg4 q_k q_p q_c
    dsimp only
    obtain ⟨q_k, -, -, -, q_b1, q_b2, -, -, -⟩ := lt_cells HG4.out.box
    rw [HK.out] at q_k
    go_wp2_with fail
    refine (bballot_any x.b1 x.b2 (by omega) (by omega) (by omega) (by omega) g v4 L4 w4 HG4.out.oc (by have := HN4.out; omega)).mono ?_
    rintro e w5 ⟨rfl, ho⟩
    obtain ⟨v5, hg5⟩ := HG4.out.outs ho
    obtain ⟨L5, hl⟩ : ∃ L, L = L4 ++ (be4 (x.b1).toNat ++ be2 (x.b2).toNat) := ⟨_, rfl⟩
    rw [← hl] at hg5
    have HL5 := Lib.hid hl
    have HN5 : Hid (L5.length ≤ 16) := Lib.hid (by have := HN4.out; rw [hl, List.length_append]; rw [List.length_append, be4_length, be2_length]; omega)
    have HG5 := Lib.hid hg5
    clear ho hl hg5 q_k q_b1 q_b2
    dsimp only
    obtain ⟨q_k, -, -, -, -, -, -, -, -⟩ := lt_cells HG5.out.box
    rw [HK.out] at q_k
    obtain ⟨q_ek, q_et, q_en, q_ep, q_ea, q_em⟩ := lt_cells2 HG5.out.box
    go_wp2_with fail
    refine (bentry_any x.e s.ea s.em (g + 1) v5 L5 w5 EOK.out (HL.out.e.fr HG5.out.fr) HG5.out.oc.ob (by have := HN5.out; omega)).mono ?_
    rintro e w6 ⟨rfl, ho⟩
    obtain ⟨v6, hg6⟩ := HG5.out.outs ho
    obtain ⟨L6, hl⟩ : ∃ L, L = L5 ++ (entB x.e) := ⟨_, rfl⟩
    rw [← hl] at hg6
    have HL6 := Lib.hid hl
    have HN6 : Hid (L6.length ≤ 5016) := Lib.hid (by have := HN5.out; rw [hl, List.length_append]; have := entB_length EOK.out; omega)
    have HG6 := Lib.hid hg6
    clear ho hl hg6 q_ek q_et q_en q_ep q_ea q_em
    dsimp only
    clear q_k
    have q_o := crow HG6.out.oc.ob.here 0 _ rfl
    have HZ : Hid (Made v6 (ltB x) w w6) := Lib.hid (by
      have h := HG6.out.made
      rw [HL6.out, HL5.out, HL4.out, HL3.out, HL2.out, HL1.out, HL0.out] at h
      rw [HE.out]
      simp only [List.nil_append, List.append_assoc] at h ⊢
      exact h)
    clear HG0 HG1 HG2 HG3 HG4 HG5
    go_wp2_with fail
    go_ret
    exact ⟨_, rfl, HZ.out⟩
  · have HK := Lib.hid h
    clear h
    have HH : Hid (hasE x.k x.s 1 = true ∧ hasE x.k x.s 2 = true ∧ hasE x.k x.s 4 = false ∧ hasE x.k x.s 8 = false ∧ hasE x.k x.s 16 = false ∧ hasE x.k x.s 32 = false ∧ hasE x.k x.s 64 = false) := Lib.hid (by rw [HK.out]; cases x.s <;> decide)
    have HE : Hid (ltB x = be2 x.k.toNat ++ be2 x.f.toNat ++ be2 x.t.toNat ++ be4 x.p.toNat ++ (be4 x.b1.toNat ++ be2 x.b2.toNat)) := Lib.hid (by
      obtain ⟨e1, e2, e3, e4, e5, e6, e7⟩ := HH.out
      simp only [ltB, ltU, ltP, e1, e2, e3, e4, e5, e6, e7, if_true, Bool.false_eq_true, if_false, List.append_nil])
    obtain ⟨p0, p1⟩ := OK.out.p HH.out.1
    obtain ⟨⟨b0, b1⟩, b2, b3⟩ := OK.out.b HH.out.2.1
    obtain ⟨q_k, -, -, q_p, -, -, -, -, -⟩ := lt_cells HG3.out.box
    rw [HK.out] at q_k
    have q_c := crow HG3.out.oc.fl 0 _ rfl
    go_wp2_with fail
    refine (blong_any x.p (by omega) (by omega) (g + 1) v3 L3 w3 HG3.out.oc.ob (by have := HN3.out; omega)).mono ?_
    rintro e w4 ⟨rfl, ho⟩
    obtain ⟨v4, hg4⟩ := HG3.out.outs ho
    obtain ⟨L4, hl⟩ : ∃ L, L = L3 ++ (be4 (x.p).toNat) := ⟨_, rfl⟩
    rw [← hl] at hg4
    have HL4 := Lib.hid hl
    have HN4 : Hid (L4.length ≤ 10) := Lib.hid (by have := HN3.out; rw [hl, List.length_append]; rw [be4_length]; omega)
    have HG4 := Lib.hid hg4
    clear ho hl hg4 q_k q_p q_c
    dsimp only
    obtain ⟨q_k, -, -, -, q_b1, q_b2, -, -, -⟩ := lt_cells HG4.out.box
    rw [HK.out] at q_k
    go_wp2_with fail
    refine (bballot_any x.b1 x.b2 (by omega) (by omega) (by omega) (by omega) g v4 L4 w4 HG4.out.oc (by have := HN4.out; omega)).mono ?_
    rintro e w5 ⟨rfl, ho⟩
    obtain ⟨v5, hg5⟩ := HG4.out.outs ho
    obtain ⟨L5, hl⟩ : ∃ L, L = L4 ++ (be4 (x.b1).toNat ++ be2 (x.b2).toNat) := ⟨_, rfl⟩
    rw [← hl] at hg5
    have HL5 := Lib.hid hl
    have HN5 : Hid (L5.length ≤ 16) := Lib.hid (by have := HN4.out; rw [hl, List.length_append]; rw [List.length_append, be4_length, be2_length]; omega)
    have HG5 := Lib.hid hg5
    clear ho hl hg5 q_k q_b1 q_b2
    dsimp only
    obtain ⟨q_k, -, -, -, -, -, -, -, -⟩ := lt_cells HG5.out.box
    rw [HK.out] at q_k
    have q_o := crow HG5.out.oc.ob.here 0 _ rfl
    have HZ : Hid (Made v5 (ltB x) w w5) := Lib.hid (by
      have h := HG5.out.made
      rw [HL5.out, HL4.out, HL3.out, HL2.out, HL1.out, HL0.out] at h
      rw [HE.out]
      simp only [List.nil_append, List.append_assoc] at h ⊢
      exact h)
    clear HG0 HG1 HG2 HG3 HG4
    go_wp2_with fail
    go_ret
    exact ⟨_, rfl, HZ.out⟩
  · have HK := Lib.hid h
    clear h
    have HH : Hid (hasE x.k x.s 1 = true ∧ hasE x.k x.s 2 = false ∧ hasE x.k x.s 4 = false ∧ hasE x.k x.s 8 = false ∧ hasE x.k x.s 16 = true ∧ hasE x.k x.s 32 = false ∧ hasE x.k x.s 64 = false) := Lib.hid (by rw [HK.out]; cases x.s <;> decide)
    have HE : Hid (ltB x = be2 x.k.toNat ++ be2 x.f.toNat ++ be2 x.t.toNat ++ be4 x.p.toNat ++ entB x.e) := Lib.hid (by
      obtain ⟨e1, e2, e3, e4, e5, e6, e7⟩ := HH.out
      simp only [ltB, ltU, ltP, e1, e2, e3, e4, e5, e6, e7, if_true, Bool.false_eq_true, if_false, List.append_nil])
    obtain ⟨p0, p1⟩ := OK.out.p HH.out.1
    have EOK := Lib.hid (OK.out.e HH.out.2.2.2.2.1)
    obtain ⟨q_k, -, -, q_p, -, -, -, -, -⟩ := lt_cells HG3.out.box
    rw [HK.out] at q_k
    have q_c := crow HG3.out.oc.fl 0 _ rfl
    go_wp2_with fail
    refine (blong_any x.p (by omega) (by omega) (g + 1) v3 L3 w3 HG3.out.oc.ob (by have := HN3.out; omega)).mono ?_
    rintro e w4 ⟨rfl, ho⟩
    obtain ⟨v4, hg4⟩ := HG3.out.outs ho
    obtain ⟨L4, hl⟩ : ∃ L, L = L3 ++ (be4 (x.p).toNat) := ⟨_, rfl⟩
    rw [← hl] at hg4
    have HL4 := Lib.hid hl
    have HN4 : Hid (L4.length ≤ 10) := Lib.hid (by have := HN3.out; rw [hl, List.length_append]; rw [be4_length]; omega)
    have HG4 := Lib.hid hg4
    clear ho hl hg4 q_k q_p q_c
    dsimp only
    obtain ⟨q_k, -, -, -, -, -, -, -, -⟩ := lt_cells HG4.out.box
    rw [HK.out] at q_k
    obtain ⟨q_ek, q_et, q_en, q_ep, q_ea, q_em⟩ := lt_cells2 HG4.out.box
    go_wp2_with fail
    refine (bentry_any x.e s.ea s.em (g + 1) v4 L4 w4 EOK.out (HL.out.e.fr HG4.out.fr) HG4.out.oc.ob (by have := HN4.out; omega)).mono ?_
    rintro e w5 ⟨rfl, ho⟩
    obtain ⟨v5, hg5⟩ := HG4.out.outs ho
    obtain ⟨L5, hl⟩ : ∃ L, L = L4 ++ (entB x.e) := ⟨_, rfl⟩
    rw [← hl] at hg5
    have HL5 := Lib.hid hl
    have HN5 : Hid (L5.length ≤ 5010) := Lib.hid (by have := HN4.out; rw [hl, List.length_append]; have := entB_length EOK.out; omega)
    have HG5 := Lib.hid hg5
    clear ho hl hg5 q_ek q_et q_en q_ep q_ea q_em
    dsimp only
    clear q_k
    have q_o := crow HG5.out.oc.ob.here 0 _ rfl
    have HZ : Hid (Made v5 (ltB x) w w5) := Lib.hid (by
      have h := HG5.out.made
      rw [HL5.out, HL4.out, HL3.out, HL2.out, HL1.out, HL0.out] at h
      rw [HE.out]
      simp only [List.nil_append, List.append_assoc] at h ⊢
      exact h)
    clear HG0 HG1 HG2 HG3 HG4
    go_wp2_with fail
    go_ret
    exact ⟨_, rfl, HZ.out⟩
  · have HK := Lib.hid h
    clear h
    have HH : Hid (hasE x.k x.s 1 = true ∧ hasE x.k x.s 2 = false ∧ hasE x.k x.s 4 = false ∧ hasE x.k x.s 8 = false ∧ hasE x.k x.s 16 = false ∧ hasE x.k x.s 32 = false ∧ hasE x.k x.s 64 = false) := Lib.hid (by rw [HK.out]; cases x.s <;> decide)
    have HE : Hid (ltB x = be2 x.k.toNat ++ be2 x.f.toNat ++ be2 x.t.toNat ++ be4 x.p.toNat) := Lib.hid (by
      obtain ⟨e1, e2, e3, e4, e5, e6, e7⟩ := HH.out
      simp only [ltB, ltU, ltP, e1, e2, e3, e4, e5, e6, e7, if_true, Bool.false_eq_true, if_false, List.append_nil])
    obtain ⟨p0, p1⟩ := OK.out.p HH.out.1
    obtain ⟨q_k, -, -, q_p, -, -, -, -, -⟩ := lt_cells HG3.out.box
    rw [HK.out] at q_k
    have q_c := crow HG3.out.oc.fl 0 _ rfl
    go_wp2_with fail
    refine (blong_any x.p (by omega) (by omega) (g + 1) v3 L3 w3 HG3.out.oc.ob (by have := HN3.out; omega)).mono ?_
    rintro e w4 ⟨rfl, ho⟩
    obtain ⟨v4, hg4⟩ := HG3.out.outs ho
    obtain ⟨L4, hl⟩ : ∃ L, L = L3 ++ (be4 (x.p).toNat) := ⟨_, rfl⟩
    rw [← hl] at hg4
    have HL4 := Lib.hid hl
    have HN4 : Hid (L4.length ≤ 10) := Lib.hid (by have := HN3.out; rw [hl, List.length_append]; rw [be4_length]; omega)
    have HG4 := Lib.hid hg4
    clear ho hl hg4 q_k q_p q_c
    dsimp only
    obtain ⟨q_k, -, -, -, -, -, -, -, -⟩ := lt_cells HG4.out.box
    rw [HK.out] at q_k
    have q_o := crow HG4.out.oc.ob.here 0 _ rfl
    have HZ : Hid (Made v4 (ltB x) w w4) := Lib.hid (by
      have h := HG4.out.made
      rw [HL4.out, HL3.out, HL2.out, HL1.out, HL0.out] at h
      rw [HE.out]
      simp only [List.nil_append, List.append_assoc] at h ⊢
      exact h)
    clear HG0 HG1 HG2 HG3
    go_wp2_with fail
    go_ret
    exact ⟨_, rfl, HZ.out⟩
  · have HK := Lib.hid h
    clear h
    have HH : Hid (hasE x.k x.s 1 = false ∧ hasE x.k x.s 2 = false ∧ hasE x.k x.s 4 = false ∧ hasE x.k x.s 8 = false ∧ hasE x.k x.s 16 = false ∧ hasE x.k x.s 32 = true ∧ hasE x.k x.s 64 = false) := Lib.hid (by rw [HK.out]; cases x.s <;> decide)
    have HE : Hid (ltB x = be2 x.k.toNat ++ be2 x.f.toNat ++ be2 x.t.toNat ++ callB x.ct x.cn x.cp x.cl) := Lib.hid (by
      obtain ⟨e1, e2, e3, e4, e5, e6, e7⟩ := HH.out
      simp only [ltB, ltU, ltP, e1, e2, e3, e4, e5, e6, e7, if_true, Bool.false_eq_true, if_false, List.append_nil])
    obtain ⟨⟨⟨a0, a1⟩, a2, a3⟩, hcp, hcl⟩ := OK.out.c HH.out.2.2.2.2.2.1
    have EOK : Hid (EnOk ⟨1, x.ct, x.cn, x.cp, x.cl, []⟩) := Lib.hid ⟨(show (0 : Int) ≤ 1 by decide), (show (1 : Int) ≤ 2 by decide), a0, a1, a2, a3, (okN_in hcp).1, (okN_in hcp).2, hcl, Nat.zero_le _, fun y hy => (by cases hy), (by unfold En.chk; rw [if_neg (show ¬ (3 : Int) ≤ 1 by decide), if_pos rfl]; exact cchk_ok hcp hcl), fun h => absurd rfl h, fun _ => rfl⟩
    clear a0 a1 a2 a3 hcp hcl
    obtain ⟨q_k, -, -, -, -, -, -, -, -⟩ := lt_cells HG3.out.box
    rw [HK.out] at q_k
    go_upto_region 24 with fail
    obtain ⟨ca, cc, hca, -⟩ := HL.out.c.shape
    have HCA := Lib.hid hca
    clear hca q_k
    have hown := HG3.out.oc.ob.own
    obtain ⟨va, vc, rfl⟩ := slice_of_own hown
    clear hown
    refine wp_region_chain (by kernel_rfl) [some 69, some 70, some 71, some 72, some 73, some 74, some 75, none] rfl (by decide) (by intro d hd; simp at hd ⊢; omega)
      [4, 5, 6, 7] (fun cvs wx => S24 w3 (g + 1) (.slice va L3.length vc) L3 ⟨1, x.ct, x.cn, x.cp, x.cl, []⟩ cvs wx)
      [.free (.slice va L3.length vc), .free (.pointer (some ⟨g, 17, none⟩)), .free (.agg #[.int .u16 x.ct, .int .u16 x.cn, .int .i64 x.cp, .slice ca x.cl.length cc]), .free (.agg #[.int .u8 1, .int .u16 x.ct, .int .u16 x.cn, .int .i64 x.cp, .slice ca x.cl.length cc, nilS]), .link none, .link none, .link none, .link none]
      (by kernel_rfl) (by kernel_rfl) ?h24 ?step24 ?fin24
    case h24 => exact (Fr.refl _ _).drew
    case step24 =>
      intro vals
      simp only [frOfU, fillU, List.setIfInBounds_toArray, List.set_cons_succ, List.set_cons_zero]
      repeat' (first | exact AllOps.nil | refine AllOps.cons ?_ ?_)
      all_goals
        intro cvs wx hS he hu hlim Kc hK
        simp only [Act.put, List.setIfInBounds_toArray, List.set_cons_succ, List.set_cons_zero, List.getD_cons_zero, List.getD_cons_succ] at hK
        simp only [List.mem_cons, List.not_mem_nil, or_false, forall_eq_or_imp, forall_eq, Region.binds, forall_const, qmode_gc, Bool.false_eq_true, false_imp_iff, List.getD_cons_zero, List.getD_cons_succ, OpSort.val, Option.some.injEq, forall_eq', reduceCtorEq, implies_true, true_and, and_true] at he
        have HSX := Lib.hid hS
        clear hS
      all_goals first | (clear hlim hu; (try simp only [he] at hK ⊢); go_simp; exact hK) | skip
      · have hle : cvs.length ≤ 3 := hlim 3 7 rfl (by kernel_rfl)
        have c0 := crow (S24.here HG3.out.oc.ob hle HSX.out) 0 _ rfl
        clear hlim hu hle
        try simp only [he] at hK ⊢
        go_simp
        exact hK
      · obtain ⟨-, -, c2, c3, c4, c5, -⟩ := lt_cells3 (S24.kept HG3.out.box HG3.out.gb HSX.out)
        rw [HCA.out] at c5
        clear hlim hu
        try simp only [he] at hK ⊢
        go_simp
        exact hK
      · obtain rfl := hlim (0 : Nat) rfl
        have h1 : Fr (fun _ => False) w3 wx := HSX.out
        clear hlim hu HSX
        try simp only [he] at hK ⊢
        go_simp
        have H1 := Lib.hid h1
        clear h1
        go_at_call 40
        refine (vbytes_any ⟨1, x.ct, x.cn, x.cp, x.cl, []⟩ (.slice ca x.cl.length cc) nilS wx EOK.out ⟨by have := HL.out.c.fr (HG3.out.fr.trans0 H1.out) (fun _ _ h => h); rw [HCA.out] at this; exact this, SI.nil _⟩).mono ?_
        rintro er wa ⟨v', rfl, hm⟩
        exact hK _ _ (fun _ h => by cases h) (Made.base H1.out hm)
      · obtain rfl := hlim (1 : Nat) rfl
        have h1 : Made (vals 4) (entB ⟨1, x.ct, x.cn, x.cp, x.cl, []⟩) w3 wx := HSX.out
        have hlen : 8 ≤ (entB ⟨1, x.ct, x.cn, x.cp, x.cl, []⟩).length := by unfold entB callB; rw [if_pos rfl]; simp only [List.length_append, be2_length]; omega
        rcases h1.1.sees with ⟨h0, _⟩ | ⟨B, off, cap, e5, hle, _⟩
        · rw [h0] at hlen
          exact absurd hlen (by decide)
        have hs := h1.1.sees
        rw [e5] at hs
        have hd := hs.drop_part (k := 2) (by omega)
        have hplain : (⟨B, off, none⟩ : Addr).add 2 = ⟨B, off + 2, none⟩ := by unfold Addr.add; split <;> simp_all
        rw [Option.map_some, hplain] at hd
        have R := Lib.hid (And.intro h1.2.1 hd)
        obtain ⟨n5, hn5⟩ : ∃ n, n = (entB ⟨1, x.ct, x.cn, x.cp, x.cl, []⟩).length := ⟨_, rfl⟩
        rw [← hn5] at e5 R hlen hle
        have hne : ¬ cap = 2 := by omega
        have hle2 : (2 : Int) ≤ (n5 : Int) := by omega
        have hle3 : 2 ≤ cap := by omega
        clear hlim hu HSX h1 hs hd hplain hn5 hlen
        simp only [he, e5] at hK ⊢
        go_simp
        exact hK _ _ (fun _ h => by cases h) R.out
      · obtain rfl := hlim (2 : Nat) rfl
        obtain ⟨h1, h2⟩ : Fr (fun _ => False) w3 wx ∧ Sees wx (vals 5) ((entB ⟨1, x.ct, x.cn, x.cp, x.cl, []⟩).drop 2) := HSX.out
        clear hlim hu HSX
        try simp only [he] at hK ⊢
        rw [if_pos (by rfl)]
        refine opWp_obs (.tmp 69) (.tmp 74) rfl (g + 1) (.slice va L3.length vc) rfl (vals 5) rfl L3 ((entB ⟨1, x.ct, x.cn, x.cp, x.cl, []⟩).drop 2) HG3.out.oc.ob h1 h2 (by have := HN3.out; have := entB_length EOK.out; rw [List.length_drop]; omega) ?_
        intro u w' hA
        exact hK _ _ (fun _ h => by cases h) hA
      · obtain rfl := hlim (3 : Nat) rfl
        have h1 : ObA w3 (g + 1) (.slice va L3.length vc) (L3 ++ (entB ⟨1, x.ct, x.cn, x.cp, x.cl, []⟩).drop 2) (vals 6) wx := HSX.out
        have c0 := crow h1.1 0 _ rfl
        have z0 := vfree h1.1 0
        obtain ⟨a2, n2, c2, e2⟩ : ∃ a n c, vals 6 = .slice a n c := by obtain ⟨a, c, e⟩ := slice_of_own h1.2.1; exact ⟨a, _, c, e⟩
        have R := Lib.hid (h1.store)
        clear hlim hu HSX h1
        simp only [he, e2] at hK R ⊢
        go_simp
        exact hK undef _ (fun _ h => by cases h) R.out
    case fin24 =>
    intro vals w4 hS hV
    have v0 := hV 0 _ (by decide) rfl
    have v1 := hV 1 _ (by decide) rfl
    have v2 := hV 2 _ (by decide) rfl
    have v3 := hV 3 _ (by decide) rfl
    clear hV
    simp only [frOfU, fillU, List.setIfInBounds_toArray, List.set_cons_succ, List.set_cons_zero]
    simp only [Nat.reduceAdd, v0, v1, v2, v3]
    clear v0 v1 v2 v3
    have ho : Outs (g + 1) (.slice va L3.length vc) (L3 ++ (entB ⟨1, x.ct, x.cn, x.cp, x.cl, []⟩).drop 2) w3 w4 := hS
    clear hS
    obtain ⟨v4, hg4⟩ := HG3.out.outs ho
    obtain ⟨L4, hl⟩ : ∃ L, L = L3 ++ ((entB ⟨1, x.ct, x.cn, x.cp, x.cl, []⟩).drop 2) := ⟨_, rfl⟩
    rw [← hl] at hg4
    have HL4 := Lib.hid hl
    have HG4 := Lib.hid hg4
    clear ho hl hg4
    have q_o := crow HG4.out.oc.ob.here 0 _ rfl
    have HZ : Hid (Made v4 (ltB x) w w4) := Lib.hid (by
      have h := HG4.out.made
      rw [HL4.out, HL3.out, HL2.out, HL1.out, HL0.out] at h
      rw [HE.out]
      simp only [List.nil_append, List.append_assoc] at h ⊢
      rw [entB_call] at h
      exact h)
    clear HG0 HG1 HG2 HG3
    go_wp2_with fail
    go_ret
    exact ⟨_, rfl, HZ.out⟩
  · have HK := Lib.hid h
    clear h
    have HH : Hid (hasE x.k x.s 1 = false ∧ hasE x.k x.s 2 = false ∧ hasE x.k x.s 4 = false ∧ hasE x.k x.s 8 = false ∧ hasE x.k x.s 16 = false ∧ hasE x.k x.s 32 = false ∧ hasE x.k x.s 64 = true) := Lib.hid (by rw [HK.out]; cases x.s <;> decide)
    have HE : Hid (ltB x = be2 x.k.toNat ++ be2 x.f.toNat ++ be2 x.t.toNat ++ (be2 x.it.toNat ++ be2 x.iN.toNat ++ viewB x.vn x.vm ++ ansB x.ae x.ar x.al)) := Lib.hid (by
      obtain ⟨e1, e2, e3, e4, e5, e6, e7⟩ := HH.out
      simp only [ltB, ltU, ltP, e1, e2, e3, e4, e5, e6, e7, if_true, Bool.false_eq_true, if_false, List.append_nil])
    obtain ⟨⟨⟨⟨a0, a1⟩, a2, a3⟩, ⟨b0, b1⟩, -, h16, hvm⟩, hae, har, hal⟩ := OK.out.a HH.out.2.2.2.2.2.2
    have HA := Lib.hid (And.intro (okN_in hae) (And.intro (okN_in har) hal))
    have H16 := Lib.hid h16
    have HVM := Lib.hid hvm
    clear hae har hal h16 hvm
    obtain ⟨va, vc, hva, hsi⟩ := HL.out.v.shape
    have HSI := Lib.hid hsi
    have HVA := Lib.hid hva
    clear hva hsi
    obtain ⟨aa, ac, haa, -⟩ := HL.out.a.shape
    have HAA := Lib.hid haa
    clear haa
    obtain ⟨q_k, -, -, -, -, -, -, -, -⟩ := lt_cells HG3.out.box
    obtain ⟨-, -, -, -, -, -, q_it, -, -, -, -⟩ := lt_cells3 HG3.out.box
    rw [HK.out] at q_k
    have q_c := crow HG3.out.oc.fw 0 _ rfl
    go_wp2_with fail
    refine (bword_any x.it a0 a1 (g + 1) v3 L3 w3 HG3.out.oc.ob (by have := HN3.out; omega)).mono ?_
    rintro e w4 ⟨rfl, ho⟩
    obtain ⟨v4, hg4⟩ := HG3.out.outs ho
    obtain ⟨L4, hl⟩ : ∃ L, L = L3 ++ (be2 (x.it).toNat) := ⟨_, rfl⟩
    rw [← hl] at hg4
    have HL4 := Lib.hid hl
    have HN4 : Hid (L4.length ≤ 8) := Lib.hid (by have := HN3.out; rw [hl, List.length_append]; rw [be2_length]; omega)
    have HG4 := Lib.hid hg4
    clear ho hl hg4 q_k q_it q_c
    dsimp only
    obtain ⟨-, -, -, -, -, -, -, q_iN, -, -, -⟩ := lt_cells3 HG4.out.box
    have q_c := crow HG4.out.oc.fw 0 _ rfl
    go_wp2_with fail
    refine (bword_any x.iN a2 a3 (g + 1) v4 L4 w4 HG4.out.oc.ob (by have := HN4.out; omega)).mono ?_
    rintro e w5 ⟨rfl, ho⟩
    obtain ⟨v5, hg5⟩ := HG4.out.outs ho
    obtain ⟨L5, hl⟩ : ∃ L, L = L4 ++ (be2 (x.iN).toNat) := ⟨_, rfl⟩
    rw [← hl] at hg5
    have HL5 := Lib.hid hl
    have HN5 : Hid (L5.length ≤ 10) := Lib.hid (by have := HN4.out; rw [hl, List.length_append]; rw [be2_length]; omega)
    have HG5 := Lib.hid hg5
    clear ho hl hg5 q_iN q_c
    dsimp only
    obtain ⟨q_vn, -, -, -, -, -, -, -, -, -, -⟩ := lt_cells3 HG5.out.box
    have q_c := crow HG5.out.oc.fl 0 _ rfl
    go_wp2_with fail
    refine (blong_any x.vn b0 b1 (g + 1) v5 L5 w5 HG5.out.oc.ob (by have := HN5.out; omega)).mono ?_
    rintro e w6 ⟨rfl, ho⟩
    obtain ⟨v6, hg6⟩ := HG5.out.outs ho
    obtain ⟨L6, hl⟩ : ∃ L, L = L5 ++ (be4 (x.vn).toNat) := ⟨_, rfl⟩
    rw [← hl] at hg6
    have HL6 := Lib.hid hl
    have HN6 : Hid (L6.length ≤ 14) := Lib.hid (by have := HN5.out; rw [hl, List.length_append]; rw [be4_length]; omega)
    have HG6 := Lib.hid hg6
    clear ho hl hg6 q_vn q_c
    dsimp only
    have hvm := HVM.out
    obtain ⟨-, q_va, -, -, -, -, -, -, -, -, -⟩ := lt_cells3 HG6.out.box
    rw [HVA.out] at q_va
    have q_c := crow HG6.out.oc.fw 0 _ rfl
    go_wp2_with fail
    refine (bword_any x.vm.length (by omega) (by omega) (g + 1) v6 L6 w6 HG6.out.oc.ob (by have := HN6.out; omega)).mono ?_
    rintro e w7 ⟨rfl, ho⟩
    obtain ⟨v7, hg7⟩ := HG6.out.outs ho
    obtain ⟨L7, hl⟩ : ∃ L, L = L6 ++ (be2 (x.vm.length : Int).toNat) := ⟨_, rfl⟩
    rw [← hl] at hg7
    have HL7 := Lib.hid hl
    have HN7 : Hid (L7.length ≤ 16) := Lib.hid (by have := HN6.out; rw [hl, List.length_append]; rw [be2_length]; omega)
    have HG7 := Lib.hid hg7
    clear ho hl hg7 q_va q_c
    dsimp only
    clear hvm
    obtain ⟨-, q_va, -, -, -, -, -, -, -, -, -⟩ := lt_cells3 HG7.out.box
    rw [HVA.out] at q_va
    go_upto_region 31 with fail
    clear q_va
    go_loopg [9, 105] x.vm.length (fun gh u9 u105 wr => ∃ k : Nat, k ≤ x.vm.length ∧ gh = x.vm.length - k ∧ u105 = .int .i64 k ∧ ∃ v, Hid (OG w x s g wr v (L7 ++ memE (x.vm.take k))))
    case atStart => exact ⟨0, Nat.zero_le _, rfl, rfl, v7, Lib.hid (by simpa [memE] using HG7.out)⟩
    case round =>
      obtain ⟨k, hk, rfl, rfl, v, HV⟩ := hrel
      by_cases hlt : k < x.vm.length
      case neg =>
        obtain rfl : k = x.vm.length := by omega
        have hfin := HV.out
        rw [List.take_length] at hfin
        obtain ⟨w8, rfl⟩ : ∃ w9 : World, w9 = wr := ⟨_, rfl⟩
        obtain ⟨v8, rfl⟩ : ∃ v9, v9 = v := ⟨_, rfl⟩
        obtain ⟨L8, hl⟩ : ∃ L, L = L7 ++ memE x.vm := ⟨_, rfl⟩
        rw [← hl] at hfin
        have HL8 := Lib.hid hl
        have HG8 := Lib.hid hfin
        have HN8 : Hid (L8.length ≤ 56) := Lib.hid (by have := HN7.out; have := HVM.out; rw [hl, List.length_append, memE_length]; omega)
        clear hl hfin HV
        obtain ⟨⟨e0, e1⟩, ⟨r0, r1⟩, -⟩ := HA.out
        obtain ⟨-, -, -, -, -, -, -, -, q_ae, -, -⟩ := lt_cells3 HG8.out.box
        have q_c := crow HG8.out.oc.fw 0 _ rfl
        go_wp2_with fail
        refine (bword_any x.ae e0 e1 (g + 1) v8 L8 w8 HG8.out.oc.ob (by have := HN8.out; omega)).mono ?_
        rintro e w9 ⟨rfl, ho⟩
        obtain ⟨v9, hg9⟩ := HG8.out.outs ho
        obtain ⟨L9, hl⟩ : ∃ L, L = L8 ++ (be2 (x.ae).toNat) := ⟨_, rfl⟩
        rw [← hl] at hg9
        have HL9 := Lib.hid hl
        have HN9 : Hid (L9.length ≤ 58) := Lib.hid (by have := HN8.out; rw [hl, List.length_append]; rw [be2_length]; omega)
        have HG9 := Lib.hid hg9
        clear ho hl hg9 q_ae q_c
        dsimp only
        obtain ⟨-, -, -, -, -, -, -, -, -, q_ar, -⟩ := lt_cells3 HG9.out.box
        have q_c := crow HG9.out.oc.fw 0 _ rfl
        go_wp2_with fail
        refine (bword_any x.ar r0 r1 (g + 1) v9 L9 w9 HG9.out.oc.ob (by have := HN9.out; omega)).mono ?_
        rintro e w10 ⟨rfl, ho⟩
        obtain ⟨v10, hg10⟩ := HG9.out.outs ho
        obtain ⟨L10, hl⟩ : ∃ L, L = L9 ++ (be2 (x.ar).toNat) := ⟨_, rfl⟩
        rw [← hl] at hg10
        have HL10 := Lib.hid hl
        have HN10 : Hid (L10.length ≤ 60) := Lib.hid (by have := HN9.out; rw [hl, List.length_append]; rw [be2_length]; omega)
        have HG10 := Lib.hid hg10
        clear ho hl hg10 q_ar q_c
        dsimp only
        go_upto_region 37 with fail
        have hown := HG10.out.oc.ob.own
        obtain ⟨va7, vc7, rfl⟩ := slice_of_own hown
        clear hown e0 e1 r0 r1
        refine wp_region_chain (by kernel_rfl) [some 123, some 124, some 125, some 126, some 127, some 128, some 129, none] rfl (by decide) (by intro d hd; simp at hd ⊢; omega)
          [5, 6, 7] (fun cvs wx => ObS w10 (g + 1) (.slice va7 L10.length vc7) L10 (txt x.al) cvs wx)
          [.free (.slice va7 L10.length vc7), .free (.pointer (some ⟨g, 23, none⟩)), .free (.pointer (some ⟨g, 25, none⟩)), .free (.slice aa x.al.length ac), .free (.string ⟨x.al.toArray⟩), .link none, .link none, .link none]
          (by kernel_rfl) (by kernel_rfl) ?h37 ?step37 ?fin37
        case h37 => exact (Fr.refl _ _).drew
        case step37 =>
          intro vals
          simp only [frOfU, fillU, List.setIfInBounds_toArray, List.set_cons_succ, List.set_cons_zero]
          repeat' (first | exact AllOps.nil | refine AllOps.cons ?_ ?_)
          all_goals
            intro cvs wx hS he hu hlim Kc hK
            simp only [Act.put, List.setIfInBounds_toArray, List.set_cons_succ, List.set_cons_zero, List.getD_cons_zero, List.getD_cons_succ] at hK
            simp only [List.mem_cons, List.not_mem_nil, or_false, forall_eq_or_imp, forall_eq, Region.binds, forall_const, qmode_gc, Bool.false_eq_true, false_imp_iff, List.getD_cons_zero, List.getD_cons_succ, OpSort.val, Option.some.injEq, forall_eq', reduceCtorEq, implies_true, true_and, and_true] at he
            have HSX := Lib.hid hS
            clear hS
          all_goals first | (clear hlim hu; (try simp only [he] at hK ⊢); go_simp; exact hK) | skip
          · have hle : cvs.length ≤ 2 := hlim 2 7 rfl (by kernel_rfl)
            have c0 := crow (ObS.here HG10.out.oc.ob hle HSX.out) 0 _ rfl
            clear hlim hu hle
            try simp only [he] at hK ⊢
            go_simp
            exact hK
          · obtain ⟨-, -, -, -, -, -, -, -, -, -, c5⟩ := lt_cells3 (ObS.kept HG10.out.box HG10.out.gb HSX.out)
            rw [HAA.out] at c5
            clear hlim hu
            try simp only [he] at hK ⊢
            go_simp
            exact hK
          · have hsee : Sees wx (.slice aa x.al.length ac) x.al := by
              have h := HL.out.a.keep (HG10.out.fr.trans (ObS.frv HSX.out) (fun i hi e => by
                have hh := HG10.out
                rcases e with e | e
                · have := hh.hg; omega
                · have := hh.oc.far _ e; have := hh.hg; omega)) (.inr fun _ _ h => h)
              rw [HAA.out] at h
              exact h
            have kc := hsee.string (P := Try.prog) 24 5 9 rfl rfl rfl
            clear hlim hu hsee
            try simp only [he] at hK ⊢
            go_simp
            exact hK
          · obtain rfl := hlim (0 : Nat) rfl
            have h1 : Fr (fun _ => False) w10 wx := HSX.out
            clear hlim hu HSX
            try simp only [he] at hK ⊢
            go_simp
            have H1 := Lib.hid h1
            clear h1
            go_at_call 41
            refine (reftext_any ⟨x.al.toArray⟩ (by have := HA.out.2.2; show x.al.toArray.size ≤ _; simp; omega) wx).mono ?_
            rintro er wa ⟨v', rfl, hm⟩
            exact hK _ _ (fun _ h => by cases h) (Made.base H1.out hm)
          · obtain rfl := hlim (1 : Nat) rfl
            have h1 : Made (vals 5) (txt x.al) w10 wx := HSX.out
            clear hlim hu HSX
            try simp only [he] at hK ⊢
            rw [if_pos (by rfl)]
            refine opWp_ob (.tmp 123) (.tmp 128) rfl (g + 1) (.slice va7 L10.length vc7) rfl (vals 5) rfl L10 (txt x.al) HG10.out.oc.ob h1 (by have := HN10.out; have := HA.out.2.2; rw [txt_length]; omega) ?_
            intro u w' hA
            exact hK _ _ (fun _ h => by cases h) hA
          · obtain rfl := hlim (2 : Nat) rfl
            have h1 : ObA w10 (g + 1) (.slice va7 L10.length vc7) (L10 ++ txt x.al) (vals 6) wx := HSX.out
            have c0 := crow h1.1 0 _ rfl
            have z0 := vfree h1.1 0
            obtain ⟨a2, n2, c2, e2⟩ : ∃ a n c, vals 6 = .slice a n c := by obtain ⟨a, c, e⟩ := slice_of_own h1.2.1; exact ⟨a, _, c, e⟩
            have R := Lib.hid (h1.store)
            clear hlim hu HSX h1
            simp only [he, e2] at hK R ⊢
            go_simp
            exact hK undef _ (fun _ h => by cases h) R.out
        case fin37 =>
        intro vals w11 hS hV
        have v0 := hV 0 _ (by decide) rfl
        have v1 := hV 1 _ (by decide) rfl
        have v2 := hV 2 _ (by decide) rfl
        have v3 := hV 3 _ (by decide) rfl
        have v4 := hV 4 _ (by decide) rfl
        clear hV
        simp only [frOfU, fillU, List.setIfInBounds_toArray, List.set_cons_succ, List.set_cons_zero]
        simp only [Nat.reduceAdd, v0, v1, v2, v3, v4]
        clear v0 v1 v2 v3 v4
        have ho : Outs (g + 1) (.slice va7 L10.length vc7) (L10 ++ txt x.al) w10 w11 := hS
        clear hS
        obtain ⟨v11, hg11⟩ := HG10.out.outs ho
        obtain ⟨L11, hl⟩ : ∃ L, L = L10 ++ (txt x.al) := ⟨_, rfl⟩
        rw [← hl] at hg11
        have HL11 := Lib.hid hl
        have HG11 := Lib.hid hg11
        clear ho hl hg11
        have q_o := crow HG11.out.oc.ob.here 0 _ rfl
        have HZ : Hid (Made v11 (ltB x) w w11) := Lib.hid (by
          have h := HG11.out.made
          rw [HL11.out, HL10.out, HL9.out, HL8.out, HL7.out, HL6.out, HL5.out, HL4.out, HL3.out, HL2.out, HL1.out, HL0.out] at h
          rw [HE.out]
          simp only [List.nil_append, List.append_assoc] at h ⊢
          rw [viewB, ansB]
          simp only [List.append_assoc, Int.toNat_natCast] at h ⊢
          exact h)
        clear HG0 HG1 HG2 HG3 HG4 HG5 HG6 HG7 HG8 HG9 HG10
        go_wp2_with fail
        go_ret
        exact ⟨_, rfl, HZ.out⟩
      obtain ⟨z, hz⟩ : ∃ z, z = x.vm[k] := ⟨_, rfl⟩
      obtain ⟨hcap, gm, off, hva2, hcell⟩ := SIc.keep HSI.out HV.out.fr (.inr fun _ _ h => h) (by omega)
      have ck := hcell k hlt
      rw [← hz] at ck
      have hzb : 0 ≤ z ∧ z ≤ 65535 := by rw [hz]; exact H16.out _ (List.getElem_mem hlt)
      obtain ⟨hz0, hz1⟩ := hzb
      have HST : Hid (memE (x.vm.take (k + 1)) = memE (x.vm.take k) ++ be2 z.toNat) := Lib.hid (by rw [memE_step x.vm k hlt, hz])
      have hLk : (L7 ++ memE (x.vm.take k)).length ≤ 100000 := by have := HN7.out; have := HVM.out; rw [List.length_append, memE_length, List.length_take]; omega
      have HLK := Lib.hid hLk
      subst hva2
      have hvm9 := HVM.out
      clear hLk hz hcell
      have q_c := crow HV.out.oc.fw 0 _ rfl
      go_wp2_with fail
      refine (bword_any z hz0 hz1 (g + 1) v _ wr HV.out.oc.ob (by have := HLK.out; omega)).mono ?_
      rintro e w9 ⟨rfl, ho⟩
      obtain ⟨v9, hg9⟩ := HV.out.outs ho
      have HG9 : Hid (OG w x s g w9 v9 (L7 ++ memE (x.vm.take (k + 1)))) := Lib.hid (by rw [HST.out, ← List.append_assoc]; exact hg9)
      clear ho hg9 q_c
      dsimp only
      go_wp2_with fail
      go_roundg (x.vm.length - (k + 1))
      case measure => omega
      case rel => exact ⟨k + 1, by omega, rfl, by congr 1, v9, HG9⟩
end
end Go.Proofs.Ytjnbpgadgdjobaa
