/-
  Members and entries, encoded.
-/
import Derived.Test.YtmpnomngnfffbaaVotMath
import Derived.Deep.LoopGhost
namespace Go.Proofs.Ytmpnomngnfffbaa
open Go.RowKit
set_option maxRecDepth 100000

theorem SIc.keep {S : Nat → Prop} {w w' : World} {a : Option Addr} {c : Nat} {l : List Int} (h : SIc w a c l) (hf : Fr S w w') (hS : l = [] ∨ ∀ k, (Value.slice a l.length c).ownBlock = some k → ¬ S k) : SIc w' a c l := fun h0 => by
  obtain ⟨h1, g, off, rfl, h3⟩ := h h0
  have hg : ¬ S g := by
    rcases hS with e | e
    · subst e; simp at h0
    · exact e g rfl
  exact ⟨h1, g, off, rfl, fun j hj => by rw [← h3 j hj]; exact hf.cell (World.block_lt_of_cell? w _ (h3 j hj)) hg⟩

/-- A slice is not where a writer lies or writes. -/
def OffW (b : Nat) (v : Value) (s : Value) : Prop := s.ownBlock ≠ some b ∧ ∀ k, s.ownBlock = some k → v.ownBlock ≠ some k

set_option maxHeartbeats 4000000 in
theorem putMembers_any (b : Nat) (v : Value) (L : List UInt8) (m : List Int) (a : Option Addr) (c : Nat) (w : World) (hW : Wr w b v L) (hL : L.length ≤ 800000000) (hm : SIc w a c m) (hlen : m.length ≤ 16) (h16 : In16 m)
    (ho : m = [] ∨ OffW b v (.slice a m.length c)) :
    Calls Try.prog 27 #[.pointer (some ⟨b, 0, none⟩), .slice a m.length c] w fun e w' => e = .returned (.tuple #[]) ∧ Wrote b v (L ++ be2 m.length ++ memE m) w w' := by
  have HM := Lib.hid hm
  have H16 := Lib.hid h16
  have HO := Lib.hid ho
  have HL := Lib.hid hL
  clear hm h16 ho
  go_enter Try.func27, Try.ntmps27
  go_wp2_with fail
  refine (word_any b v L m.length (by omega) (by omega) w hW (by omega)).mono ?_
  rintro e w1 ⟨rfl, wr1⟩
  have W1 : Hid (Wrote b v (L ++ be2 m.length ++ memE (m.take 0)) w w1) := Lib.hid (by simpa [memE] using wr1)
  clear wr1 hW hL
  dsimp only
  go_upto_region 2 with fail
  go_loopg [13] m.length (fun gh u13 wr => ∃ k : Nat, k ≤ m.length ∧ gh = m.length - k ∧ u13 = .int .i64 k ∧ Hid (Wrote b v (L ++ be2 m.length ++ memE (m.take k)) w wr))
  case atStart => exact ⟨0, Nat.zero_le _, rfl, rfl, W1⟩
  case round =>
    obtain ⟨k, hk, rfl, rfl, HW⟩ := hrel
    by_cases hlt : k < m.length
    case neg =>
      obtain rfl : k = m.length := by omega
      have hfin := HW.out
      rw [List.take_length] at hfin
      have HF := Lib.hid hfin
      clear hfin
      go_wp2_with fail
      go_returns
      exact ⟨rfl, HF.out⟩
    obtain ⟨v1, hw1, f1, o1⟩ := HW.out
    have hmk : SIc wr a c m := HM.out.keep f1 (HO.out.imp id (fun h j hj e => by
      rcases e with e | e
      · exact h.1 (by rw [hj, e])
      · exact h.2 j hj e))
    obtain ⟨hcap, g, off, rfl, hcell⟩ := hmk (by omega)
    have ck := hcell k hlt
    obtain ⟨z, hz⟩ : ∃ z, z = m[k] := ⟨_, rfl⟩
    rw [← hz] at ck
    have hzb : 0 ≤ z ∧ z ≤ 65535 := by rw [hz]; exact H16.out _ (List.getElem_mem hlt)
    obtain ⟨hz0, hz1⟩ := hzb
    have HST : Hid (memE (m.take (k + 1)) = memE (m.take k) ++ be2 z.toNat) := Lib.hid (by rw [memE_step m k hlt, hz])
    have hLk : (L ++ be2 m.length ++ memE (m.take k)).length ≤ 1000000000 := by
      have := HL.out
      rw [List.length_append, List.length_append, be2_length, memE_length, List.length_take]
      omega
    obtain ⟨X, hX⟩ : ∃ X, X = L ++ be2 m.length ++ memE (m.take k) := ⟨_, rfl⟩
    rw [← hX] at hw1 hLk
    have HX := Lib.hid hX
    have HF1 := Lib.hid f1
    have HO1 := Lib.hid o1
    have HW1 := Lib.hid hw1
    have HLK := Lib.hid hLk
    clear hX f1 o1 hw1 hcell hz HW hmk hLk
    go_wp2_with fail
    refine (word_any b v1 X z (by omega) (by omega) wr HW1.out HLK.out).mono ?_
    rintro e w2 ⟨rfl, wr2⟩
    have W2 : Hid (Wrote b v (L ++ be2 m.length ++ memE (m.take (k + 1))) w w2) := Lib.hid (by
      rw [HST.out, ← List.append_assoc, ← HX.out]
      exact Wrote.trans HF1.out HO1.out wr2)
    clear wr2
    dsimp only
    go_wp2_with fail
    go_roundg (m.length - (k + 1))
    case measure => omega
    case rel => exact ⟨k + 1, by omega, rfl, by congr 1, W2⟩

theorem Wrote.later {b : Nat} {v : Value} {l : List UInt8} {w0 w w' : World} (f : Fr (fun _ => False) w0 w) (h : Wrote b v l w w') : Wrote b v l w0 w' := by
  obtain ⟨v', h1, h2, h3⟩ := h
  exact ⟨v', h1, (f.mono (fun _ _ h => h.elim)).trans h2 (fun _ _ h => h), h3.imp id (fun h k hk => Nat.le_trans f.size (h k hk))⟩

theorem sees_old {w : World} {v : Value} {l : List UInt8} (h : Sees w v l) (hl : l ≠ []) : ∀ k, v.ownBlock = some k → k < w.heap.size := by
  rcases h with ⟨e, _⟩ | ⟨g, off, cap, rfl, _, hc⟩
  · exact absurd e hl
  · intro k hk
    have h0 := hc 0 (List.length_pos_iff.2 hl)
    cases hk
    exact World.block_lt_of_cell? w _ h0

theorem sic_old {w : World} {a : Option Addr} {c : Nat} {l : List Int} (h : SIc w a c l) (hl : l ≠ []) : ∀ k, (Value.slice a l.length c).ownBlock = some k → k < w.heap.size := by
  have h0 := List.length_pos_iff.2 hl
  obtain ⟨_, g, off, rfl, hc⟩ := h h0
  intro k hk
  cases hk
  exact World.block_lt_of_cell? w _ (hc 0 h0)

theorem OffW.later {b n : Nat} {v v2 s : Value} (h : OffW b v s) (hs : ∀ k, s.ownBlock = some k → k < n) (h2 : v2.ownBlock = v.ownBlock ∨ ∀ k, v2.ownBlock = some k → n ≤ k) : OffW b v2 s :=
  ⟨h.1, fun k hk e => by
    rcases h2 with h2 | h2
    · exact h.2 k hk (by rw [← h2, e])
    · have := h2 k e; have := hs k hk; omega⟩

set_option maxHeartbeats 8000000 in
theorem vput_any (x : En) (v u : Value) (b : Nat) (wv : Value) (L : List UInt8) (w : World) (hx : EnOk x) (he : ES w x v u) (hW : Wr w b wv L) (hL : L.length ≤ 700000000) (h1 : x.l = [] ∨ OffW b wv v) (h2 : x.m = [] ∨ OffW b wv u) :
    Calls Try.prog 10 #[x.val v u, .pointer (some ⟨b, 0, none⟩)] w fun e w' => e = .returned (.tuple #[]) ∧ Wrote b wv (L ++ entB x) w w' := by
  obtain ⟨k0, k1, t0, t1, n0, n1, p0, p1, l1, m1, mb, ck, nc, nm⟩ := hx
  obtain ⟨a, c, hv, _⟩ := he.1.shape
  obtain ⟨a2, c2, hu, hc2⟩ := he.2.shape
  subst hv hu
  have HE := Lib.hid he
  have H1 := Lib.hid h1
  have H2 := Lib.hid h2
  have HC := Lib.hid hc2
  have MB := Lib.hid mb
  have CK := Lib.hid ck
  have HL := Lib.hid hL
  have HB : Hid (∀ Y, (if x.k = 1 then callB x.t x.n x.p x.l else if x.k = 2 then be2 x.m.length ++ memE x.m else []) = Y → L ++ entB x = L ++ be2 x.k.toNat ++ Y) := Lib.hid (by rintro Y rfl; unfold entB; rw [List.append_assoc])
  clear he h1 h2 hc2 mb ck nc nm hL
  have q0 := heap_alloc_new w (x.obj (.slice a x.l.length c) (.slice a2 x.m.length c2))
  have f0 : Fr (fun _ => False) w (w.alloc (x.obj (.slice a x.l.length c) (.slice a2 x.m.length c2))) := (Fr.refl _ _).alloc _
  go_enter Try.func10, Try.ntmps10
  go_upto_region 1 with fail
  generalize w.alloc (x.obj (.slice a x.l.length c) (.slice a2 x.m.length c2)) = w0 at *
  generalize hg0 : w.heap.size = g0 at *
  have HG : Hid (b < g0 ∧ (∀ k, wv.ownBlock = some k → k < g0) ∧ w.heap.size = g0) := Lib.hid ⟨by have := hW.lt.1; omega, fun k hk => by have := hW.lt.2 k hk; omega, hg0⟩
  clear hg0
  have Q0 := Lib.hid q0
  have F0 := Lib.hid f0
  have W0 := Lib.hid (hW.fr f0 (fun h => h) (fun _ _ h => h))
  clear q0 f0 hW
  obtain ⟨c00, c01, c02, c03, c04, c05⟩ := en_cells Q0.out
  go_wp2_with fail
  refine (vcheck_any x (.slice a x.l.length c) (.slice a2 x.m.length c2) w0 (HE.out.fr F0.out) (by omega) k0 (by omega)).mono ?_
  rintro e w1 ⟨rfl, f1⟩
  rw [CK.out]
  have Q1 := Lib.hid (crow_kept Q0.out f1 (fun h => h))
  have F1 := Lib.hid (F0.out.trans f1 (fun _ _ h => h))
  have W1 := Lib.hid (W0.out.fr f1 (fun h => h) (fun _ _ h => h))
  clear f1 Q0 F0 W0 c00 c01 c02 c03 c04 c05
  obtain ⟨c00, c01, c02, c03, c04, c05⟩ := en_cells Q1.out
  dsimp only
  go_wp2_with fail
  refine (word_any b wv L x.k k0 (by omega) w1 W1.out (by have := HL.out; omega)).mono ?_
  rintro e w2 ⟨rfl, v2, w2r, f2, o2⟩
  have Q2 := Lib.hid (crow_kept Q1.out f2 (fun e => by
    have hg := HG.out
    rcases e with e | e
    · omega
    · have := hg.2.1 _ e; omega))
  have hsz1 := F1.out.size
  have F2 := Lib.hid f2
  have O2 := Lib.hid o2
  have W2 := Lib.hid w2r
  have SV : Hid (Sees w2 (.slice a x.l.length c) x.l) := Lib.hid ((HE.out.1.fr F1.out (fun _ _ h => h)).keep f2 (H1.out.imp id (fun h j hj e => by
    rcases e with e | e
    · exact h.1 (by rw [hj, e])
    · exact h.2 j hj e)))
  have SU : Hid (SIc w2 a2 c2 x.m) := Lib.hid ((HC.out.fr F1.out).keep f2 (H2.out.imp id (fun h j hj e => by
    rcases e with e | e
    · exact h.1 (by rw [hj, e])
    · exact h.2 j hj e)))
  have OV : Hid (x.l = [] ∨ OffW b v2 (.slice a x.l.length c)) := Lib.hid (by
    by_cases hl : x.l = []
    · exact .inl hl
    · rcases H1.out with h | h
      · exact .inl h
      · exact .inr (h.later (fun k hk => Nat.lt_of_lt_of_le (sees_old HE.out.1 hl k hk) hsz1) O2.out))
  have OU : Hid (x.m = [] ∨ OffW b v2 (.slice a2 x.m.length c2)) := Lib.hid (by
    by_cases hl : x.m = []
    · exact .inl hl
    · rcases H2.out with h | h
      · exact .inl h
      · exact .inr (h.later (fun k hk => Nat.lt_of_lt_of_le (sic_old HC.out hl k hk) hsz1) O2.out))
  have HL2 : Hid ((L ++ be2 x.k.toNat).length ≤ 800000000) := Lib.hid (by rw [List.length_append, be2_length]; have := HL.out; omega)
  clear f2 o2 w2r Q1 c00 c01 c02 c03 c04 c05
  obtain ⟨c00, c01, c02, c03, c04, c05⟩ := en_cells Q2.out
  dsimp only
  rcases (show x.k = 0 ∨ x.k = 1 ∨ x.k = 2 by omega) with h | h | h
  · have HF : Hid (Wrote b wv (L ++ entB x) w w2) := Lib.hid (by
      rw [HB.out [] (by rw [if_neg (by omega), if_neg (by omega)]), List.append_nil]
      exact Wrote.later F1.out ⟨v2, W2.out, F2.out, O2.out⟩)
    rw [h] at c00
    clear h
    go_wp2_with fail
    go_returns
    exact ⟨rfl, HF.out⟩
  · have HF : Hid (∀ w', Wrote b v2 (L ++ be2 x.k.toNat ++ callB x.t x.n x.p x.l) w2 w' → Wrote b wv (L ++ entB x) w w') := Lib.hid (fun w' hw => by
      rw [HB.out _ (by rw [if_pos h])]
      exact Wrote.later F1.out (Wrote.trans F2.out O2.out hw))
    have hp : okN x.p = true := by unfold okN; simp [p0, p1]
    have HC2 := Lib.hid (cput_any x.t x.n x.p (.slice a x.l.length c) x.l b v2 _ w2 t0 t1 n0 n1 hp SV.out l1 W2.out HL2.out OV.out)
    rw [h] at c00
    clear h
    unfold cv at HC2
    go_wp2_with fail
    refine HC2.out.mono ?_
    rintro e w3 ⟨rfl, hw⟩
    have HW := Lib.hid (HF.out _ hw)
    clear hw
    dsimp only
    go_wp2_with fail
    go_returns
    exact ⟨rfl, HW.out⟩
  · have HF : Hid (∀ w', Wrote b v2 (L ++ be2 x.k.toNat ++ be2 x.m.length ++ memE x.m) w2 w' → Wrote b wv (L ++ entB x) w w') := Lib.hid (fun w' hw => by
      rw [HB.out _ (by rw [if_neg (by omega), if_pos h]), ← List.append_assoc]
      exact Wrote.later F1.out (Wrote.trans F2.out O2.out hw))
    have HC2 := Lib.hid (putMembers_any b v2 (L ++ be2 x.k.toNat) x.m a2 c2 w2 W2.out HL2.out SU.out m1 MB.out OU.out)
    rw [h] at c00
    clear h
    go_wp2_with fail
    refine HC2.out.mono ?_
    rintro e w3 ⟨rfl, hw⟩
    have HW := Lib.hid (HF.out _ hw)
    clear hw
    dsimp only
    go_wp2_with fail
    go_returns
    exact ⟨rfl, HW.out⟩
