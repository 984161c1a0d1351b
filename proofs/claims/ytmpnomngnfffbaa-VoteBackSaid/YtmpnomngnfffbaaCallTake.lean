/-
  What Take and TakeAnswer read; the laws' fixed fact.
-/
import Derived.Test.YtmpnomngnfffbaaCallSmall
import Derived.Test.YtmpnomngnfffbaaFacts
namespace Go.Proofs.Ytmpnomngnfffbaa
open Go.RowKit

theorem cconv (w : World) (s : ByteArray) : ∃ cap w', (convert 9 23 (.string s)).run Try.prog w = .ok (.slice (some ⟨w.heap.size, 0, none⟩) s.size cap) w' ∧ Fr (fun _ => False) w w' ∧ Sees w' (.slice (some ⟨w.heap.size, 0, none⟩) s.size cap) s.data.toList ∧ w.heap.size < w'.heap.size :=
  ⟨_, _, run_bytes_of_string (P := Try.prog) w 9 23 5 s Try.underlying9 Try.underlying23 Try.underlying5, (Fr.refl _ _).drew.alloc _, sees_bytes w s 5, by rw [World.size_alloc]; exact Nat.lt_succ_self _⟩

theorem free4 {w : World} {b : Nat} {cs : Array Value} {t : TypeId} (h : w.heap[b]? = some (.cells cs t (0, 0))) (i : Nat) : w.frozen? ⟨b, i, none⟩ = false := by
  simp [World.frozen?, h]

/-- What a call, an answer reads as. -/
def takeS (st : List UInt8 × Int) : (Nat × Nat × Nat × List UInt8) × (List UInt8 × Int) :=
  (((numS st 2).1, (numS (numS st 2).2 2).1, (numS (numS (numS st 2).2 2).2 2).1, (textS (numS (numS (numS st 2).2 2).2 2).2 4000).1), (textS (numS (numS (numS st 2).2 2).2 2).2 4000).2)
def takeAS (st : List UInt8 × Int) : (Nat × Nat × List UInt8) × (List UInt8 × Int) :=
  (((numS st 2).1, (numS (numS st 2).2 2).1, (textS (numS (numS st 2).2 2).2 4000).1), (textS (numS (numS st 2).2 2).2 4000).2)

/-- The way of Take: block g0 is as it was, g1 holds what has been read. -/
structure Tk (T : TypeId) (g0 g1 : Nat) (z cs : Array Value) (b : Nat) (v : Value) (st : List UInt8 × Int) (w wk : World) : Prop where
  q0 : wk.heap[g0]? = some (.cells z T (0, 0))
  q1 : wk.heap[g1]? = some (.cells cs T (0, 0))
  rd : ∃ vk, Rd wk b vk st.1 st.2 ∧ (vk.ownBlock = v.ownBlock ∨ vk.ownBlock = none)
  fr : Fr (fun k => k = b) w wk
  n0 : g0 ≠ b
  n1 : g1 ≠ b
  n01 : g0 ≠ g1
  v1 : v.ownBlock ≠ some g1
  o1 : w.heap.size ≤ g1

theorem Tk.call {T : TypeId} {g0 g1 : Nat} {z cs : Array Value} {b : Nat} {v vk : Value} {st st' : List UInt8 × Int} {w wk w' : World} (h : Tk T g0 g1 z cs b v st w wk) (hv : vk.ownBlock = v.ownBlock ∨ vk.ownBlock = none) (hR : Reads b vk st'.1 st'.2 wk w') : Tk T g0 g1 z cs b v st' w w' := by
  obtain ⟨v2, R2, f2, o2⟩ := hR
  refine ⟨crow_kept h.q0 f2 h.n0, crow_kept h.q1 f2 h.n1, ⟨v2, R2, ?_⟩, h.fr.trans f2 (fun _ _ e => e), h.n0, h.n1, h.n01, h.v1, h.o1⟩
  rcases o2 with e | e
  · rw [e]; exact hv
  · exact .inr e

theorem Tk.plain {T : TypeId} {g0 g1 : Nat} {z cs : Array Value} {b : Nat} {v : Value} {st : List UInt8 × Int} {w wk w' : World} (h : Tk T g0 g1 z cs b v st w wk) (f : Fr (fun _ => False) wk w') : Tk T g0 g1 z cs b v st w w' := by
  obtain ⟨vk, R, o⟩ := h.rd
  exact ⟨crow_kept h.q0 f (fun h => h), crow_kept h.q1 f (fun h => h), ⟨vk, R.fr f (fun h => h) (fun _ _ h => h), o⟩, h.fr.trans f (fun _ _ e => e.elim), h.n0, h.n1, h.n01, h.v1, h.o1⟩

theorem Tk.store {T : TypeId} {g0 g1 : Nat} {z cs : Array Value} {b : Nat} {v : Value} {st : List UInt8 × Int} {w wk : World} (h : Tk T g0 g1 z cs b v st w wk) (i : Nat) (y : Value) : Tk T g0 g1 z (cs.setIfInBounds i y) b v st w (wk.setCell ⟨g1, i, none⟩ y) := by
  obtain ⟨vk, R, o⟩ := h.rd
  have f : Fr (fun k => k = g1) wk (wk.setCell ⟨g1, i, none⟩ y) := (Fr.refl (fun k => k = g1) wk).setCell (p := ⟨g1, i, none⟩) (fun _ => rfl) y
  refine ⟨crow_kept h.q0 f h.n01, heap_setCell_same wk g1 i _ T y h.q1, ⟨vk, R.fr f (fun e => h.n1 e.symm) (fun k hk e => ?_), o⟩, h.fr.trans f (fun k hk e => ?_), h.n0, h.n1, h.n01, h.v1, h.o1⟩
  · subst e
    rcases o with o | o
    · exact h.v1 (o ▸ hk)
    · rw [o] at hk; cases hk
  · have := h.o1; omega

theorem Tk.done {T : TypeId} {g0 g1 : Nat} {z cs : Array Value} {b : Nat} {v : Value} {st : List UInt8 × Int} {w wk w' : World} (h : Tk T g0 g1 z cs b v st w wk) (hv : v.ownBlock ≠ some g0) (ho : w.heap.size ≤ g0) (f : Fr (fun k => k = g0) wk w') : Reads b v st.1 st.2 w w' := by
  obtain ⟨vk, R, o⟩ := h.rd
  refine ⟨vk, R.fr f (fun e => h.n0 e.symm) (fun k hk e => ?_), h.fr.trans f (fun k hk e => ?_), o⟩
  · subst e
    rcases o with o | o
    · exact hv (o ▸ hk)
    · rw [o] at hk; cases hk
  · omega

theorem Tk.out {T : TypeId} {g0 g1 : Nat} {z cs : Array Value} {b : Nat} {v : Value} {st : List UInt8 × Int} {w wk : World} (h : Tk T g0 g1 z cs b v st w wk) : Reads b v st.1 st.2 w wk := by
  obtain ⟨vk, R, o⟩ := h.rd
  exact ⟨vk, R, h.fr, o⟩

set_option maxRecDepth 100000 in
set_option maxHeartbeats 4000000 in
theorem take_any (b : Nat) (v : Value) (l : List UInt8) (x : Int) (w : World) (hR : Rd w b v l x) :
    Calls Try.prog 39 #[.pointer (some ⟨b, 0, none⟩)] w fun e w' => ∃ u, e = .returned u ∧ Reads b v (takeS (l, x)).2.1 (takeS (l, x)).2.2 w w' ∧
      (((takeS (l, x)).2.2 = 0 ∧ ∃ v', u = cv (takeS (l, x)).1.1 (takeS (l, x)).1.2.1 (takeS (l, x)).1.2.2.1 v' ∧ Sees w' v' (takeS (l, x)).1.2.2.2 ∧ (∃ g, v'.ownBlock = some g ∧ w.heap.size ≤ g ∧ g < w'.heap.size)) ∨
       ((takeS (l, x)).2.2 ≠ 0 ∧ u = cv 0 0 0 (.slice none 0 0))) := by
  unfold cv
  have hbl := hR.lt
  have hvo := Lib.hid hR.old
  go_enter Try.func39, Try.ntmps39
  go_wp2_with fail
  have q1 := new_two w (Obj.cells #[.int .u16 0, .int .u16 0, .int .i64 0, .slice none 0 0] 33 (0, 0)) (Obj.cells #[.int .u16 0, .int .u16 0, .int .i64 0, .slice none 0 0] 33 (0, 0))
  have f1 : Fr (fun _ => False) w ((w.alloc (Obj.cells #[.int .u16 0, .int .u16 0, .int .i64 0, .slice none 0 0] 33 (0, 0))).alloc (Obj.cells #[.int .u16 0, .int .u16 0, .int .i64 0, .slice none 0 0] 33 (0, 0))) := ((Fr.refl _ _).alloc _).alloc _
  have q0 : ((w.alloc (Obj.cells #[.int .u16 0, .int .u16 0, .int .i64 0, .slice none 0 0] 33 (0, 0))).alloc (Obj.cells #[.int .u16 0, .int .u16 0, .int .i64 0, .slice none 0 0] 33 (0, 0))).heap[w.heap.size]? = some (Obj.cells #[.int .u16 0, .int .u16 0, .int .i64 0, .slice none 0 0] 33 (0, 0)) := by
    rw [Below.heap_alloc _ _ _ (by simp)]; exact heap_alloc_new w _
  generalize (w.alloc (Obj.cells #[.int .u16 0, .int .u16 0, .int .i64 0, .slice none 0 0] 33 (0, 0))).alloc (Obj.cells #[.int .u16 0, .int .u16 0, .int .i64 0, .slice none 0 0] 33 (0, 0)) = w1 at *
  generalize hg0 : w.heap.size = g0 at *
  generalize hg1 : g0 + 1 = g1 at *
  have k01 : g0 ≠ g1 := by omega
  have k10 : g1 ≠ g0 := by omega
  have kb0 : b ≠ g0 := by omega
  have kb1 : b ≠ g1 := by omega
  have Hg0 := Lib.hid hg0; clear hg0
  have Hg1 := Lib.hid hg1; clear hg1
  have R1 := hR.fr f1 (fun h => h) (fun _ _ h => h)
  have T1 : Tk 33 g0 g1 #[.int .u16 0, .int .u16 0, .int .i64 0, .slice none 0 0] #[.int .u16 0, .int .u16 0, .int .i64 0, .slice none 0 0] b v (l, x) w w1 := ⟨q0, q1, ⟨v, R1, .inl rfl⟩, f1.mono (fun _ _ h => h.elim), kb0.symm, kb1.symm, k01, fun e => by have := hvo.out _ e; have := Hg1.out; omega, by have := Hg0.out; have := Hg1.out; omega⟩
  clear q0 q1 f1
  refine (rword_any b v l x _ R1).mono ?_
  rintro e w2 ⟨rfl, h2⟩
  have T2 := T1.call (.inl rfl) h2
  obtain ⟨A, hA⟩ : ∃ A, A = numS (l, x) 2 := ⟨_, rfl⟩
  have s0 : (numS (l, x) 2).1 < 65536 := numS_small _ 2
  rw [← hA] at T2 s0 ⊢
  have HA := Lib.hid hA; clear hA
  clear h2 R1 T1
  have z2 := free4 T2.q1 0
  have y2 := crow T2.q1 0 _ rfl
  go_wp2_with fail
  have T3 := T2.store 0 (.int .u16 A.1)
  obtain ⟨v3, R3, o3⟩ := T3.rd
  refine (rword_any b v3 _ _ _ R3).mono ?_
  rintro e w4 ⟨rfl, h4⟩
  have T4 := T3.call o3 h4
  obtain ⟨B, hB⟩ : ∃ B, B = numS A.2 2 := ⟨_, rfl⟩
  rw [show numS (A.2.1, A.2.2) 2 = numS A.2 2 from rfl, ← hB] at T4 ⊢
  have HB := Lib.hid hB; clear hB
  clear h4 R3 T2 T3 o3
  have z4 := free4 T4.q1 1
  have y4 := crow T4.q1 1 _ rfl
  go_wp2_with fail
  have T5 := T4.store 1 (.int .u16 B.1)
  obtain ⟨v5, R5, o5⟩ := T5.rd
  refine (rword_any b v5 _ _ _ R5).mono ?_
  rintro e w6 ⟨rfl, h6⟩
  have T6 := T5.call o5 h6
  obtain ⟨C, hC⟩ : ∃ C, C = numS B.2 2 := ⟨_, rfl⟩
  have sC : C.1 < 65536 := by rw [hC]; exact numS_small _ 2
  rw [show numS (B.2.1, B.2.2) 2 = numS B.2 2 from rfl, ← hC] at T6 ⊢
  have HC := Lib.hid hC; clear hC
  clear h6 R5 T4 T5 o5
  have z6 := free4 T6.q1 2
  have y6 := crow T6.q1 2 _ rfl
  go_wp2_with fail
  have T7 := T6.store 2 (.int .i64 C.1)
  obtain ⟨v7, R7, o7⟩ := T7.rd
  refine (rtext_any b v7 _ _ 4000 _ R7).mono ?_
  rintro e w8 ⟨rfl, h8⟩
  have T8 := T7.call o7 h8
  obtain ⟨D, hD⟩ : ∃ D, D = textS C.2 4000 := ⟨_, rfl⟩
  rw [show textS (C.2.1, C.2.2) 4000 = textS C.2 4000 from rfl, ← hD] at T8 ⊢
  have HD := Lib.hid hD; clear hD
  clear h8 R7 T6 T7 o7
  obtain ⟨cap, w9, hcv, f9, hs9, hn9⟩ := cconv w8 ⟨D.1.toArray⟩
  have T9 := T8.plain f9
  have z9 := free4 T9.q1 3
  have y9 := crow T9.q1 3 _ rfl
  have hT : takeS (l, x) = ((A.1, B.1, C.1, D.1), D.2) := by unfold takeS; rw [← HA.out, ← HB.out, ← HC.out, ← HD.out]
  have HT := Lib.hid hT; clear hT
  have TT9 := Lib.hid T9; clear T9
  have hz8 : w.heap.size ≤ w8.heap.size := T8.fr.size
  have q8 := T8.q1
  clear T8
  go_wp2_with fail
  have T10 := TT9.out.store 3 (Value.slice (some ⟨w8.heap.size, 0, none⟩) D.1.length cap)
  have s10 : Fr (fun k => k = g1) w9 (w9.setCell ⟨g1, 3, none⟩ (Value.slice (some ⟨w8.heap.size, 0, none⟩) D.1.length cap)) := (Fr.refl (fun k => k = g1) w9).setCell (p := ⟨g1, 3, none⟩) (fun _ => rfl) _
  have hg8 : g1 < w8.heap.size := (Array.getElem?_eq_some_iff.1 q8).1
  have hn8 : g0 < w8.heap.size := by have := Hg1.out; omega
  have hs10 := hs9.fr s10 (fun k hk e => by simp [Value.ownBlock] at hk; omega)
  have hn10 : w8.heap.size < (w9.setCell ⟨g1, 3, none⟩ (Value.slice (some ⟨w8.heap.size, 0, none⟩) D.1.length cap)).heap.size := by rw [World.size_setCell]; exact hn9
  generalize w9.setCell ⟨g1, 3, none⟩ (Value.slice (some ⟨w8.heap.size, 0, none⟩) D.1.length cap) = wt at *
  clear s10 hs9 hn9 f9 hcv y9 z9
  obtain ⟨vt, Rt, ot⟩ := T10.rd
  refine (err_any b vt _ _ _ Rt).mono ?_
  rintro e wu ⟨rfl, rfl⟩
  have e0 := crow T10.q0 0 _ rfl
  have e1 := crow T10.q0 1 _ rfl
  have e2 := crow T10.q0 2 _ rfl
  have e3 := crow T10.q0 3 _ rfl
  have y0 := crow T10.q1 0 _ rfl
  have y1 := crow T10.q1 1 _ rfl
  have y2 := crow T10.q1 2 _ rfl
  have y3 := crow T10.q1 3 _ rfl
  have j0 := free4 T10.q0 0
  have j1 := free4 T10.q0 1
  have j2 := free4 T10.q0 2
  have j3 := free4 T10.q0 3
  have TX := Lib.hid T10; clear T10
  have HS := Lib.hid hs10; clear hs10
  have HN := Lib.hid hn10; clear hn10
  have HZ := Lib.hid hz8; clear hz8
  clear Rt ot hg8
  by_cases hd : D.2.2 = 0
  · have hd' : (D.2.2 != 0) = false := by simpa using hd
    have Hd := Lib.hid hd; clear hd
    go_wp2_with fail
    have Q := cst4 (y0 := .int .u16 A.1) (y1 := .int .u16 B.1) (y2 := .int .i64 C.1) (y3 := .slice (some ⟨w8.heap.size, 0, none⟩) D.1.length cap) TX.out.q0
    have F := cfr4 (b := g0) (.int .u16 A.1) (.int .u16 B.1) (.int .i64 C.1) (.slice (some ⟨w8.heap.size, 0, none⟩) D.1.length cap) (Fr.refl (fun k => k = g0) wt) (fun _ => rfl)
    have hvg : v.ownBlock ≠ some g0 := fun e => absurd (hvo.out _ e) (Nat.lt_irrefl _)
    have hRd := TX.out.done hvg (by rw [Hg0.out]; exact Nat.le_refl _) F
    have hS := HS.out.fr F (fun k hk e => by have := HN.out; have := HZ.out; have := Hg0.out; have := hn8; simp [Value.ownBlock] at hk; omega)
    have hZ := F.size
    refine bodyPost_ret (results_cell_row rfl _ _ g0 33 _ _ _ rfl Q Try.underlying33 rfl (by kernel_rfl)) rfl ?_
    rw [HT.out]
    refine ⟨_, rfl, hRd, .inl ⟨Hd.out, _, rfl, hS, _, rfl, HZ.out, ?_⟩⟩
    exact Nat.lt_of_lt_of_le HN.out hZ
  · have hd' : (D.2.2 != 0) = true := by simpa using hd
    have Hd := Lib.hid hd; clear hd
    go_wp2_with fail
    have Q := cst4 (y0 := .int .u16 0) (y1 := .int .u16 0) (y2 := .int .i64 0) (y3 := .slice none 0 0) TX.out.q0
    have F := cfr4 (b := g0) (.int .u16 0) (.int .u16 0) (.int .i64 0) (.slice none 0 0) (Fr.refl (fun k => k = g0) wt) (fun _ => rfl)
    have hvg : v.ownBlock ≠ some g0 := fun e => absurd (hvo.out _ e) (Nat.lt_irrefl _)
    have hRd := TX.out.done hvg (by rw [Hg0.out]; exact Nat.le_refl _) F
    refine bodyPost_ret (results_cell_row rfl _ _ g0 33 _ _ _ rfl Q Try.underlying33 rfl (by kernel_rfl)) rfl ?_
    rw [HT.out]
    exact ⟨_, rfl, hRd, .inr ⟨Hd.out, rfl⟩⟩

end Go.Proofs.Ytmpnomngnfffbaa
