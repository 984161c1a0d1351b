/-
  What ParAny, ParChk, ParBack, ParOnce rests on, part 4: ParPut, ParTake, ParTake2, ParMath, ParSmall, ParRow.
-/
import Derived.Test.YtjegdbkkojaacaaS03
import Derived.Laws.CopyRow
import Derived.Deep.Cut
import Derived.Deep.CutRange
import Derived.Deep.CutBlock
import Derived.Deep.MidRow
set_option linter.unusedVariables false
set_option linter.unusedSimpArgs false
set_option maxHeartbeats 64000000
namespace Go.Proofs.Ytjegdbkkojaacaa
open Go.RowKit
open Go.Lib (hid)
section
set_option maxRecDepth 100000

def parB (f k p m : Int) (l : List UInt8) : List UInt8 := be2 f.toNat ++ be4 k.toNat ++ be2 p.toNat ++ be2 m.toNat ++ txt l
def parS (f k p m : Int) (l : List UInt8) : List UInt8 := Crc.summed (parB f k p m l)

theorem ptxt_length (l : List UInt8) : (txt l).length = 2 + l.length + l.length % 2 := by
  unfold txt
  rw [List.length_append, List.length_append, be2_length]
  by_cases h : l.length % 2 = 1
  · rw [if_pos h]; simp; omega
  · rw [if_neg h]; simp; omega
theorem parB_length (f k p m : Int) (l : List UInt8) : (parB f k p m l).length = 12 + l.length + l.length % 2 := by
  unfold parB
  rw [List.length_append, List.length_append, List.length_append, List.length_append, be2_length, be2_length, be2_length, be4_length, ptxt_length]
  omega
theorem summed_length (l : List UInt8) : (Crc.summed l).length = l.length + 4 := by unfold Crc.summed; rw [List.length_append, be4_length]

/-- What holds of a parcel without an error. -/
theorem pchk_ok {f p m : Int} {n : Nat} (h : pchk f p m n = 0) : (0 ≤ f ∧ f ≤ 15) ∧ (1 ≤ m ∧ m ≤ 100) ∧ (0 ≤ p ∧ p < m) ∧ n ≤ 48 ∧ (n = 48 ∨ p = m - 1) ∧ (n ≠ 0 ∨ m = 1) := by
  unfold pchk at h
  by_cases h0 : (0 ≤ f ∧ f < 16) ∧ 1 ≤ m ∧ m ≤ 100 ∧ 0 ≤ p ∧ p < m
  · rw [if_pos h0] at h
    by_cases h1 : 48 < n
    · rw [if_pos h1] at h; exact absurd h (by decide)
    rw [if_neg h1] at h
    by_cases h2 : n < 48 ∧ p < m - 1
    · rw [if_pos h2] at h; exact absurd h (by decide)
    rw [if_neg h2] at h
    by_cases h3 : n = 0 ∧ 1 < m
    · rw [if_pos h3] at h; exact absurd h (by decide)
    omega
  · rw [if_neg h0] at h; exact absurd h (by decide)

theorem pchk_of {f p m : Int} {n : Nat} (h : (0 ≤ f ∧ f ≤ 15) ∧ (1 ≤ m ∧ m ≤ 100) ∧ (0 ≤ p ∧ p < m) ∧ n ≤ 48 ∧ (n = 48 ∨ p = m - 1) ∧ (n ≠ 0 ∨ m = 1)) : pchk f p m n = 0 := by
  unfold pchk
  rw [if_pos (by omega), if_neg (by omega), if_neg (by omega), if_neg (by omega)]

theorem wrote_fr {b : Nat} {l : List UInt8} {w w1 : World} (h : Wrote b nilS l w w1) : Fr (fun k => k = b) w w1 := by
  obtain ⟨v, _, f, _⟩ := h
  exact f.mono (fun i _ e => by
    rcases e with e | e
    · exact e
    · cases e)

theorem pput_err (f k p m : Int) (v : Value) (l : List UInt8) (w : World) (hs : Sees w v l) (hc : pchk f p m l.length ≠ 0) :
    Calls Try.prog 10 #[pv f k p m v] w fun e w' => e = .returned (.tuple #[nilS, .int .i64 (pchk f p m l.length)]) ∧ Fr (fun _ => False) w w' := by
  obtain ⟨a, c, rfl, hn⟩ := hs.shape
  clear hn hs
  have q0 := heap_alloc_new w (oPv f k p m (.slice a l.length c))
  have f0 : Fr (fun _ => False) w (w.alloc (oPv f k p m (.slice a l.length c))) := (Fr.refl _ _).alloc _
  go_enter Try.func10, Try.ntmps10
  go_upto_region 1 with fail
  generalize w.alloc (oPv f k p m (.slice a l.length c)) = w0 at *
  generalize w.heap.size = g at *
  obtain ⟨c0, c1, c2, c3, c4⟩ := par_cells q0
  have F := Lib.hid f0
  clear f0 q0
  go_wp2_with fail
  refine (pcheck_any f k p m a l.length c w0).mono ?_
  rintro e w1 ⟨rfl, f1⟩
  have F1 := Lib.hid (F.out.trans f1 (fun _ _ h => h))
  clear f1 F
  obtain ⟨E, hE⟩ : ∃ E, E = pchk f p m l.length := ⟨_, rfl⟩
  rw [← hE] at hc ⊢
  have HE := Lib.hid hE
  have hb : (E != 0) = true := by simpa using hc
  clear hE hc
  dsimp only
  go_wp2_with fail
  go_ret2
  exact ⟨by rw [HE.out]; rfl, F1.out⟩

theorem pput_ok (f k p m : Int) (v : Value) (l : List UInt8) (w : World) (hs : Sees w v l) (hk : 0 ≤ k ∧ k ≤ 4294967295) (hc : pchk f p m l.length = 0) :
    Calls Try.prog 10 #[pv f k p m v] w fun e w' => ∃ x, e = .returned (.tuple #[x, .int .i64 0]) ∧ Made x (parS f k p m l) w w' := by
  obtain ⟨a, c, rfl, hn⟩ := hs.shape
  clear hn
  obtain ⟨⟨hf0, hf1⟩, ⟨hm0, hm1⟩, ⟨hp0, hp1⟩, hn48, _, _⟩ := pchk_ok hc
  obtain ⟨hk0, hk1⟩ := hk
  have HS := Lib.hid hs
  clear hs
  have q0 := heap_alloc_new w (oPv f k p m (.slice a l.length c))
  have f0 : Fr (fun _ => False) w (w.alloc (oPv f k p m (.slice a l.length c))) := (Fr.refl _ _).alloc _
  go_enter Try.func10, Try.ntmps10
  go_upto_region 1 with fail
  generalize w.alloc (oPv f k p m (.slice a l.length c)) = w0 at *
  obtain ⟨g, hg⟩ : ∃ g, g = w.heap.size := ⟨_, rfl⟩
  rw [← hg] at q0 ⊢
  have HG := Lib.hid hg
  clear hg
  obtain ⟨c0, c1, c2, c3, c4⟩ := par_cells q0
  have F := Lib.hid f0
  have Q := Lib.hid q0
  clear f0 q0
  go_wp2_with fail
  refine (pcheck_any f k p m a l.length c w0).mono ?_
  rintro e w1 ⟨rfl, f1⟩
  rw [hc]
  have F1 := Lib.hid (F.out.trans f1 (fun _ _ h => h))
  have Q1 := Lib.hid (crow_kept Q.out f1 (fun h => h))
  clear f1 F Q hc c0 c1 c2 c3 c4
  dsimp only
  go_upto_region 5 with fail
  have W2 : Hid (Wr (w1.alloc (.cells #[nilS] 60 (0, 0))) w1.heap.size nilS []) := Lib.hid (wr_new w1)
  have f2 : Fr (fun _ => False) w1 (w1.alloc (.cells #[nilS] 60 (0, 0))) := (Fr.refl _ _).alloc _
  generalize w1.alloc (.cells #[nilS] 60 (0, 0)) = w2 at *
  obtain ⟨b, hb⟩ : ∃ b, b = w1.heap.size := ⟨_, rfl⟩
  have hgb : g < w1.heap.size := vt_lt Q1.out
  rw [← hb] at W2 ⊢
  have HB : Hid (w.heap.size ≤ b ∧ g ≠ b) := Lib.hid ⟨by have := F1.out.size; omega, by omega⟩
  have Q2 := Lib.hid (crow_kept Q1.out f2 (fun h => h))
  have F2 := Lib.hid (F1.out.trans f2 (fun _ _ h => h))
  clear f2 hb Q1 F1 hgb
  obtain ⟨c0, c1, c2, c3, c4⟩ := par_cells Q2.out
  have hwf : IntKind.u16.wrap f = f := by rw [IntKind.wrap_u16]; omega
  have hwp : IntKind.u16.wrap p = p := by rw [IntKind.wrap_u16]; omega
  have hwm : IntKind.u16.wrap m = m := by rw [IntKind.wrap_u16]; omega
  go_wp2_with fail
  refine (word_any b nilS [] f hf0 (by omega) w2 W2.out (by simp)).mono ?_
  rintro e w3 ⟨rfl, h3⟩
  have Q3 := Lib.hid (crow_kept Q2.out (wrote_fr h3) HB.out.2)
  have H3 := Lib.hid h3
  clear h3 c0 c1 c2 c3 c4
  obtain ⟨c0, c1, c2, c3, c4⟩ := par_cells Q3.out
  dsimp only
  obtain ⟨v3, W3, f3, o3⟩ := H3.out
  have W3' := Lib.hid W3
  clear W3 f3 o3
  go_wp2_with fail
  refine (long_any b v3 _ k hk0 hk1 w3 W3'.out (by simp [be2_length])).mono ?_
  rintro e w4 ⟨rfl, h4⟩
  obtain ⟨v3', W3x, f3, o3⟩ := H3.out
  obtain rfl : v3' = v3 := by
    have e1 := W3x.here
    rw [W3'.out.here] at e1
    simpa using e1.symm
  have H4 := Lib.hid (Wrote.trans f3 o3 h4)
  clear h4 f3 o3 W3x W3' H3
  have Q4 := Lib.hid (crow_kept Q2.out (wrote_fr H4.out) HB.out.2)
  clear c0 c1 c2 c3 c4 Q3
  obtain ⟨c0, c1, c2, c3, c4⟩ := par_cells Q4.out
  obtain ⟨v4, W4, f4, o4⟩ := H4.out
  have X4 := Lib.hid (And.intro W4 (And.intro f4 o4))
  clear W4 f4 o4
  dsimp only
  go_wp2_with fail
  refine (word_any b v4 _ p hp0 (by omega) w4 X4.out.1 (by simp [be2_length, be4_length])).mono ?_
  rintro e w5 ⟨rfl, h5⟩
  have H5 := Lib.hid (Wrote.trans X4.out.2.1 X4.out.2.2 h5)
  clear h5 X4 H4
  have Q5 := Lib.hid (crow_kept Q2.out (wrote_fr H5.out) HB.out.2)
  clear c0 c1 c2 c3 c4 Q4
  obtain ⟨c0, c1, c2, c3, c4⟩ := par_cells Q5.out
  obtain ⟨v5, W5, f5, o5⟩ := H5.out
  have X5 := Lib.hid (And.intro W5 (And.intro f5 o5))
  clear W5 f5 o5
  dsimp only
  go_wp2_with fail
  refine (word_any b v5 _ m (by omega) (by omega) w5 X5.out.1 (by simp [be2_length, be4_length])).mono ?_
  rintro e w6 ⟨rfl, h6⟩
  have H6 := Lib.hid (Wrote.trans X5.out.2.1 X5.out.2.2 h6)
  clear h6 X5 H5
  have Q6 := Lib.hid (crow_kept Q2.out (wrote_fr H6.out) HB.out.2)
  have F6 : Hid (Fr (fun _ => False) w w6) := Lib.hid (F2.out.trans (wrote_fr H6.out) (fun i hi e => by have := HB.out.1; omega))
  clear c0 c1 c2 c3 c4 Q5
  obtain ⟨c0, c1, c2, c3, c4⟩ := par_cells Q6.out
  obtain ⟨v6, W6, f6, o6⟩ := H6.out
  have X6 := Lib.hid (And.intro W6 (And.intro f6 o6))
  clear W6 f6 o6
  have hcv : (convert 23 9 (.slice a l.length c)).run Try.prog w6 = .ok (.string ⟨l.toArray⟩) w6 := (HS.out.fr F6.out (fun _ _ h => h)).string _ _ _ Try.underlying23 Try.underlying5 Try.underlying9
  dsimp only
  go_wp2_with fail
  refine (text_any b v6 _ ⟨l.toArray⟩ (by show l.length ≤ 65535; omega) w6 X6.out.1 (by simp [be2_length, be4_length])).mono ?_
  rintro e w7 ⟨rfl, h7⟩
  have H7 := Lib.hid (Wrote.trans X6.out.2.1 X6.out.2.2 h7)
  clear h7 X6 H6 hcv c0 c1 c2 c3 c4
  have F7 : Hid (Fr (fun _ => False) w w7) := Lib.hid (F2.out.trans (wrote_fr H7.out) (fun i hi e => by have := HB.out.1; omega))
  have hL : ([] ++ be2 f.toNat ++ be4 k.toNat ++ be2 p.toNat ++ be2 m.toNat ++ txt (⟨l.toArray⟩ : ByteArray).data.toList : List UInt8) = parB f k p m l := by simp [parB]
  rw [hL] at H7
  clear hL
  obtain ⟨v7, W7, f7, o7⟩ := H7.out
  have X7 := Lib.hid W7
  clear W7 f7 o7
  have HLN : Hid ((parB f k p m l).length ≤ 1000) := Lib.hid (by rw [parB_length]; omega)
  dsimp only
  go_wp2_with fail
  refine (bytes_any b v7 _ w7 X7.out (by have := HLN.out; omega)).mono ?_
  rintro e w8 ⟨x, rfl, ho, f8, hx⟩
  have F8 : Hid (Fr (fun _ => False) w w8) := Lib.hid (F7.out.trans f8 (fun _ _ h => h))
  have HO := Lib.hid ho
  clear ho f8 hx
  dsimp only
  go_wp2_with fail
  refine (put_any x _ w8 HO.out.sees HLN.out).mono ?_
  rintro e w9 ⟨y, rfl, hM⟩
  have HM := Lib.hid hM
  clear hM
  dsimp only
  go_wp2_with fail
  go_ret2
  refine ⟨y, rfl, HM.out.1, F8.out.trans HM.out.2.1 (fun _ _ h => h), fun k hk => ?_⟩
  have := HM.out.2.2 k hk
  have := F8.out.size
  omega
end
section
set_option maxRecDepth 100000

theorem pconv (w : World) (s : ByteArray) : ∃ cap w', (convert 9 23 (.string s)).run Try.prog w = .ok (.slice (some ⟨w.heap.size, 0, none⟩) s.size cap) w' ∧ Fr (fun _ => False) w w' ∧ Sees w' (.slice (some ⟨w.heap.size, 0, none⟩) s.size cap) s.data.toList ∧ w.heap.size < w'.heap.size :=
  ⟨_, _, run_bytes_of_string (P := Try.prog) w 9 23 5 s Try.underlying9 Try.underlying23 Try.underlying5, (Fr.refl _ _).drew.alloc _, sees_bytes w s 5, by rw [World.size_alloc]; exact Nat.lt_succ_self _⟩

/-- What a parcel reads as: from, letter, part, many, bytes; and what is left. -/
abbrev PSt := List UInt8 × Int
structure PR where
  f : Nat
  k : Nat
  p : Nat
  m : Nat
  l : List UInt8
  st : PSt
def readP (s : PSt) : PR :=
  ⟨(numS s 2).1, (numS (numS s 2).2 4).1, (numS (numS (numS s 2).2 4).2 2).1, (numS (numS (numS (numS s 2).2 4).2 2).2 2).1,
   (textS (numS (numS (numS (numS s 2).2 4).2 2).2 2).2 48).1, (textS (numS (numS (numS (numS s 2).2 4).2 2).2 2).2 48).2⟩

/-- The way of read: block g0 is as it was, g1 holds what has been read. -/
structure Tk (g0 g1 : Nat) (z cs : Array Value) (b : Nat) (v : Value) (st : PSt) (w wk : World) : Prop where
  q0 : wk.heap[g0]? = some (.cells z 29 (0, 0))
  q1 : wk.heap[g1]? = some (.cells cs 29 (0, 0))
  rd : ∃ vk, Rd wk b vk st.1 st.2 ∧ (vk.ownBlock = v.ownBlock ∨ vk.ownBlock = none)
  fr : Fr (fun k => k = b) w wk
  n0 : g0 ≠ b
  n1 : g1 ≠ b
  n01 : g0 ≠ g1
  v1 : v.ownBlock ≠ some g1
  o1 : w.heap.size ≤ g1

theorem Tk.call {g0 g1 : Nat} {z cs : Array Value} {b : Nat} {v vk : Value} {st st' : PSt} {w wk w' : World} (h : Tk g0 g1 z cs b v st w wk) (hv : vk.ownBlock = v.ownBlock ∨ vk.ownBlock = none) (hR : Reads b vk st'.1 st'.2 wk w') : Tk g0 g1 z cs b v st' w w' := by
  obtain ⟨v2, R2, f2, o2⟩ := hR
  refine ⟨crow_kept h.q0 f2 h.n0, crow_kept h.q1 f2 h.n1, ⟨v2, R2, ?_⟩, h.fr.trans f2 (fun _ _ e => e), h.n0, h.n1, h.n01, h.v1, h.o1⟩
  rcases o2 with e | e
  · rw [e]; exact hv
  · exact .inr e

theorem Tk.plain {g0 g1 : Nat} {z cs : Array Value} {b : Nat} {v : Value} {st : PSt} {w wk w' : World} (h : Tk g0 g1 z cs b v st w wk) (f : Fr (fun _ => False) wk w') : Tk g0 g1 z cs b v st w w' := by
  obtain ⟨vk, R, o⟩ := h.rd
  exact ⟨crow_kept h.q0 f (fun h => h), crow_kept h.q1 f (fun h => h), ⟨vk, R.fr f (fun h => h) (fun _ _ h => h), o⟩, h.fr.trans f (fun _ _ e => e.elim), h.n0, h.n1, h.n01, h.v1, h.o1⟩

theorem Tk.store {g0 g1 : Nat} {z cs : Array Value} {b : Nat} {v : Value} {st : PSt} {w wk : World} (h : Tk g0 g1 z cs b v st w wk) (i : Nat) (y : Value) : Tk g0 g1 z (cs.setIfInBounds i y) b v st w (wk.setCell ⟨g1, i, none⟩ y) := by
  obtain ⟨vk, R, o⟩ := h.rd
  have f : Fr (fun k => k = g1) wk (wk.setCell ⟨g1, i, none⟩ y) := (Fr.refl (fun k => k = g1) wk).setCell (p := ⟨g1, i, none⟩) (fun _ => rfl) y
  refine ⟨crow_kept h.q0 f h.n01, heap_setCell_same wk g1 i _ _ y h.q1, ⟨vk, R.fr f (fun e => h.n1 e.symm) (fun k hk e => ?_), o⟩, h.fr.trans f (fun k hk e => ?_), h.n0, h.n1, h.n01, h.v1, h.o1⟩
  · subst e
    rcases o with o | o
    · exact h.v1 (o ▸ hk)
    · rw [o] at hk; cases hk
  · have := h.o1; omega

theorem Tk.done {g0 g1 : Nat} {z cs : Array Value} {b : Nat} {v : Value} {st : PSt} {w wk w' : World} (h : Tk g0 g1 z cs b v st w wk) (hv : v.ownBlock ≠ some g0) (ho : w.heap.size ≤ g0) (f : Fr (fun k => k = g0) wk w') : Reads b v st.1 st.2 w w' := by
  obtain ⟨vk, R, o⟩ := h.rd
  refine ⟨vk, R.fr f (fun e => h.n0 e.symm) (fun k hk e => ?_), h.fr.trans f (fun k hk e => ?_), o⟩
  · subst e
    rcases o with o | o
    · exact hv (o ▸ hk)
    · rw [o] at hk; cases hk
  · omega

theorem pread_any (b : Nat) (v : Value) (l : List UInt8) (x : Int) (w : World) (hR : Rd w b v l x) :
    Calls Try.prog 26 #[.pointer (some ⟨b, 0, none⟩)] w fun e w' => ∃ v', e = .returned (pv (readP (l, x)).f (readP (l, x)).k (readP (l, x)).p (readP (l, x)).m v') ∧ Reads b v (readP (l, x)).st.1 (readP (l, x)).st.2 w w' ∧
      Sees w' v' (readP (l, x)).l ∧ (∃ g, v'.ownBlock = some g ∧ w.heap.size ≤ g ∧ g < w'.heap.size) := by
  have hbl := hR.lt
  have hvo := Lib.hid hR.old
  go_enter Try.func26, Try.ntmps26
  go_upto_region 2 with fail
  have q1 := new_two w (oPv 0 0 0 0 nilS) (oPv 0 0 0 0 nilS)
  have f1 : Fr (fun _ => False) w ((w.alloc (oPv 0 0 0 0 nilS)).alloc (oPv 0 0 0 0 nilS)) := ((Fr.refl _ _).alloc _).alloc _
  have q0 : ((w.alloc (oPv 0 0 0 0 nilS)).alloc (oPv 0 0 0 0 nilS)).heap[w.heap.size]? = some (oPv 0 0 0 0 nilS) := by
    rw [Below.heap_alloc _ _ _ (by simp)]; exact heap_alloc_new w _
  generalize (w.alloc (oPv 0 0 0 0 nilS)).alloc (oPv 0 0 0 0 nilS) = w1 at *
  generalize hg0 : w.heap.size = g0 at *
  generalize hg1 : g0 + 1 = g1 at *
  have k01 : g0 ≠ g1 := by omega
  have k10 : g1 ≠ g0 := by omega
  have kb0 : b ≠ g0 := by omega
  have kb1 : b ≠ g1 := by omega
  have Hg0 := Lib.hid hg0; clear hg0
  have Hg1 := Lib.hid hg1; clear hg1
  have R1 := hR.fr f1 (fun h => h) (fun _ _ h => h)
  have T1 : Tk g0 g1 #[.int .i64 0, .int .u32 0, .int .i64 0, .int .i64 0, nilS] #[.int .i64 0, .int .u32 0, .int .i64 0, .int .i64 0, nilS] b v (l, x) w w1 := ⟨q0, q1, ⟨v, R1, .inl rfl⟩, f1.mono (fun _ _ h => h.elim), kb0.symm, kb1.symm, k01, fun e => by have := hvo.out _ e; have := Hg1.out; omega, by have := Hg0.out; have := Hg1.out; omega⟩
  clear q0 q1 f1
  go_wp2_with fail
  refine (rword_any b v l x _ R1).mono ?_
  rintro e w2 ⟨rfl, h2⟩
  have T2 := T1.call (.inl rfl) h2
  obtain ⟨A, hA⟩ : ∃ A, A = numS (l, x) 2 := ⟨_, rfl⟩
  have s0 : (numS (l, x) 2).1 < 65536 := numS_small _ 2
  rw [← hA] at T2 s0 ⊢
  have HA := Lib.hid hA; clear hA
  clear h2 R1 T1
  have z2 := vfree T2.q1 0
  have y2 := crow T2.q1 0 _ rfl
  dsimp only
  go_wp2_with fail
  have T3 := T2.store 0 (.int .i64 A.1)
  obtain ⟨v3, R3, o3⟩ := T3.rd
  refine (rlong_any b v3 _ _ _ R3).mono ?_
  rintro e w4 ⟨rfl, h4⟩
  have T4 := T3.call o3 h4
  obtain ⟨B, hB⟩ : ∃ B, B = numS A.2 4 := ⟨_, rfl⟩
  rw [show numS (A.2.1, A.2.2) 4 = numS A.2 4 from rfl, ← hB] at T4 ⊢
  have HB := Lib.hid hB; clear hB
  clear h4 R3 T2 T3 o3
  have z4 := vfree T4.q1 1
  have y4 := crow T4.q1 1 _ rfl
  dsimp only
  go_wp2_with fail
  have T5 := T4.store 1 (.int .u32 B.1)
  obtain ⟨v5, R5, o5⟩ := T5.rd
  refine (rword_any b v5 _ _ _ R5).mono ?_
  rintro e w6 ⟨rfl, h6⟩
  have T6 := T5.call o5 h6
  obtain ⟨C, hC⟩ : ∃ C, C = numS B.2 2 := ⟨_, rfl⟩
  have sC : C.1 < 65536 := by rw [hC]; exact numS_small _ 2
  rw [show numS (B.2.1, B.2.2) 2 = numS B.2 2 from rfl, ← hC] at T6 ⊢
  have HC := Lib.hid hC; clear hC
  clear h6 R5 T4 T5 o5
  have z6 := vfree T6.q1 2
  have y6 := crow T6.q1 2 _ rfl
  dsimp only
  go_wp2_with fail
  have T7 := T6.store 2 (.int .i64 C.1)
  obtain ⟨v7, R7, o7⟩ := T7.rd
  refine (rword_any b v7 _ _ _ R7).mono ?_
  rintro e w8 ⟨rfl, h8⟩
  have T8 := T7.call o7 h8
  obtain ⟨D, hD⟩ : ∃ D, D = numS C.2 2 := ⟨_, rfl⟩
  have sD : D.1 < 65536 := by rw [hD]; exact numS_small _ 2
  rw [show numS (C.2.1, C.2.2) 2 = numS C.2 2 from rfl, ← hD] at T8 ⊢
  have HD := Lib.hid hD; clear hD
  clear h8 R7 T6 T7 o7
  have z8 := vfree T8.q1 3
  have y8 := crow T8.q1 3 _ rfl
  dsimp only
  go_wp2_with fail
  have T9 := T8.store 3 (.int .i64 D.1)
  obtain ⟨v9, R9, o9⟩ := T9.rd
  refine (rtext_any b v9 _ _ 48 _ R9).mono ?_
  rintro e wa ⟨rfl, ha⟩
  have Ta := T9.call o9 ha
  obtain ⟨E, hE⟩ : ∃ E, E = textS D.2 48 := ⟨_, rfl⟩
  rw [show textS (D.2.1, D.2.2) 48 = textS D.2 48 from rfl, ← hE] at Ta ⊢
  have HE := Lib.hid hE; clear hE
  clear ha R9 T8 T9 o9
  obtain ⟨cap, wb, hcv, fb, hsb, hnb⟩ := pconv wa ⟨E.1.toArray⟩
  have Tb := Ta.plain fb
  have zb := vfree Tb.q1 4
  have yb := crow Tb.q1 4 _ rfl
  have hT : readP (l, x) = ⟨A.1, B.1, C.1, D.1, E.1, E.2⟩ := by unfold readP; rw [← HA.out, ← HB.out, ← HC.out, ← HD.out, ← HE.out]
  have HT := Lib.hid hT; clear hT
  have TTb := Lib.hid Tb; clear Tb
  have hza : w.heap.size ≤ wa.heap.size := Ta.fr.size
  have qa := Ta.q1
  clear Ta
  dsimp only
  go_upto_region 7 with fail
  have Tc := TTb.out.store 4 (Value.slice (some ⟨wa.heap.size, 0, none⟩) E.1.length cap)
  have sc : Fr (fun k => k = g1) wb (wb.setCell ⟨g1, 4, none⟩ (Value.slice (some ⟨wa.heap.size, 0, none⟩) E.1.length cap)) := (Fr.refl (fun k => k = g1) wb).setCell (p := ⟨g1, 4, none⟩) (fun _ => rfl) _
  have hga : g1 < wa.heap.size := vt_lt qa
  have hna : g0 < wa.heap.size := by have := Hg1.out; omega
  have hsc := hsb.fr sc (fun k hk e => by simp [Value.ownBlock] at hk; omega)
  have hnc : wa.heap.size < (wb.setCell ⟨g1, 4, none⟩ (Value.slice (some ⟨wa.heap.size, 0, none⟩) E.1.length cap)).heap.size := by rw [World.size_setCell]; exact hnb
  generalize wb.setCell ⟨g1, 4, none⟩ (Value.slice (some ⟨wa.heap.size, 0, none⟩) E.1.length cap) = wt at *
  clear sc hsb hnb fb hcv yb zb
  obtain ⟨e0, e1, e2, e3, e4⟩ := par_cells Tc.q1
  obtain ⟨i0, i1, i2, i3, i4⟩ := par_cells Tc.q0
  obtain ⟨j0, j1, j2, j3, j4⟩ := par_free Tc.q0
  have TX := Lib.hid Tc; clear Tc
  have HS := Lib.hid hsc; clear hsc
  have HN := Lib.hid hnc; clear hnc
  have HZ := Lib.hid hza; clear hza
  have HNA := Lib.hid hna; clear hna hga
  go_wp2_with fail
  have Q := cst5 (y0 := .int .i64 A.1) (y1 := .int .u32 B.1) (y2 := .int .i64 C.1) (y3 := .int .i64 D.1) (y4 := .slice (some ⟨wa.heap.size, 0, none⟩) E.1.length cap) TX.out.q0
  have F := cfr5 (b := g0) (.int .i64 A.1) (.int .u32 B.1) (.int .i64 C.1) (.int .i64 D.1) (.slice (some ⟨wa.heap.size, 0, none⟩) E.1.length cap) (Fr.refl (fun k => k = g0) wt) (fun _ => rfl)
  have hvg : v.ownBlock ≠ some g0 := fun e => by have := hvo.out _ e; have := Hg0.out; omega
  have hRd := TX.out.done hvg (by rw [Hg0.out]; exact Nat.le_refl _) F
  have hS := HS.out.fr F (fun k hk e => by have := HN.out; have := HZ.out; have := Hg0.out; have := HNA.out; simp [Value.ownBlock] at hk; omega)
  have hZ := F.size
  refine bodyPost_ret (results_cell_row rfl _ _ g0 29 _ _ _ rfl Q Try.underlying29 rfl (by kernel_rfl)) rfl ?_
  rw [HT.out]
  refine ⟨_, rfl, hRd, hS, _, rfl, HZ.out, ?_⟩
  exact Nat.lt_of_lt_of_le HN.out hZ
end
section
set_option maxRecDepth 100000

theorem results_cell_tmp_row {P : Program} {fn : Func} {p u : Tmp} {ty : TypeId} (h : fn.results = #[.cell p ty, .tmp u]) (tmps : Array Value) (w : World) (g : Nat) (t : TypeId) (cs : Array Value) (fr : Nat × Nat) (d : TypeDesc)
    (hp : tmps.getD p undef = .pointer (some ⟨g, 0, none⟩)) (hg : w.heap[g]? = some (.cells cs t fr))
    (hu : P.underlying ty = some d) (hd : (match d with | .struct _ | .array _ _ => true | _ => false) = true) (hi : (P.info? ty).map (·.size) = some cs.size) :
    (results fn tmps).run P w = .ok (.tuple #[.agg cs, tmps.getD u undef]) w := by
  rw [results_cell_tmp h]
  have hp' : tmps[p]?.getD undef = .pointer (some ⟨g, 0, none⟩) := by simpa using hp
  simp [hp', asAddr, run_loadVar_row w g t ty cs fr d hg hu hd hi, Result.andThen]

structure Pc where
  f : Int
  k : Int
  p : Int
  m : Int
  l : List UInt8
abbrev Pc.zero : Pc := ⟨0, 0, 0, 0, []⟩
abbrev Pc.val (x : Pc) (v : Value) : Value := pv x.f x.k x.p x.m v
def Pc.chk (x : Pc) : Int := pchk x.f x.p x.m x.l.length
def PR.pc (r : PR) : Pc := ⟨r.f, r.k, r.p, r.m, r.l⟩
def endP (s : PSt) : Int := if s.1 = [] then s.2 else 12

/-- What is taken of bytes whose sum is right. -/
def takeR (r : PR) : Pc × Int :=
  if endP r.st ≠ 0 then (Pc.zero, endP r.st) else if r.pc.chk ≠ 0 then (Pc.zero, r.pc.chk) else (r.pc, 0)
def takeP (l : List UInt8) : Pc × Int := if Crc.right l = true then takeR (readP (l.take (l.length - 4), 0)) else (Pc.zero, 11)

/-- A parcel, shown, in memory that is new. -/
def PMade (x : Pc) (v : Value) (w w' : World) : Prop := Sees w' v x.l ∧ Fr (fun _ => False) w w' ∧ (∀ k, v.ownBlock = some k → w.heap.size ≤ k)

theorem pmade_zero {w w' : World} (f : Fr (fun _ => False) w w') : PMade Pc.zero nilS w w' := ⟨.inl ⟨rfl, _, _, rfl⟩, f, fun k hk => by cases hk⟩

theorem ptake_any (v : Value) (l : List UInt8) (w : World) (hs : Sees w v l) (hl : l.length ≤ 1000) :
    Calls Try.prog 11 #[v] w fun e w' => ∃ v', e = .returned (.tuple #[(takeP l).1.val v', .int .i64 (takeP l).2]) ∧ PMade (takeP l).1 v' w w' := by
  obtain ⟨a, c, rfl, hn⟩ := hs.shape
  clear hn
  have q0 := heap_alloc_new w (oPv 0 0 0 0 nilS)
  have f0 : Fr (fun _ => False) w (w.alloc (oPv 0 0 0 0 nilS)) := (Fr.refl _ _).alloc _
  obtain ⟨R, hR⟩ : ∃ R, R = takeP l := ⟨_, rfl⟩
  rw [← hR]
  have HR := Lib.hid hR
  have HS := Lib.hid hs
  clear hR hs
  go_enter Try.func11, Try.ntmps11
  go_upto_region 1 with fail
  generalize w.alloc (oPv 0 0 0 0 nilS) = w0 at *
  obtain ⟨g, hg⟩ : ∃ g, g = w.heap.size := ⟨_, rfl⟩
  rw [← hg] at q0 ⊢
  have HG := Lib.hid hg
  have F := Lib.hid f0
  have Q := Lib.hid q0
  have S0 := Lib.hid (HS.out.fr f0 (fun _ _ h => h))
  clear hg f0 q0 HS
  go_wp2_with fail
  refine (right_any _ l w0 S0.out hl).mono ?_
  rintro e w1 ⟨rfl, f1⟩
  have F1 := Lib.hid (F.out.trans f1 (fun _ _ h => h))
  have Q1 := Lib.hid (crow_kept Q.out f1 (fun h => h))
  have S1 := Lib.hid (S0.out.fr f1 (fun _ _ h => h))
  clear f1 F Q S0
  dsimp only
  by_cases hr : Crc.right l = true
  case neg =>
    have hrf : Crc.right l = false := by simpa using hr
    have hRz : R = (Pc.zero, 11) := by rw [HR.out]; unfold takeP; rw [if_neg hr]
    subst hRz
    rw [hrf]
    clear hrf hr
    obtain ⟨i0, i1, i2, i3, i4⟩ := par_cells Q1.out
    obtain ⟨j0, j1, j2, j3, j4⟩ := par_free Q1.out
    go_wp2_with fail
    have Qz := cst5 (y0 := .int .i64 0) (y1 := .int .u32 0) (y2 := .int .i64 0) (y3 := .int .i64 0) (y4 := nilS) Q1.out
    have Fz := cfr5 (b := g) (.int .i64 0) (.int .u32 0) (.int .i64 0) (.int .i64 0) nilS (Fr.refl (fun k => k = g) w1) (fun _ => rfl)
    refine bodyPost_ret (results_cell_tmp_row rfl _ _ g 29 _ _ _ rfl Qz Try.underlying29 rfl (by kernel_rfl)) rfl ?_
    exact ⟨nilS, rfl, pmade_zero (F1.out.trans Fz (fun i hi e => by have := HG.out; omega))⟩
  have hr4 : 4 ≤ l.length := by
    unfold Crc.right at hr
    simp at hr
    exact hr.1
  have hRt : R = takeR (readP (l.take (l.length - 4), 0)) := by rw [HR.out]; unfold takeP; rw [if_pos hr]
  rw [hr]
  clear hr HR
  obtain ⟨h, hh⟩ : ∃ h, l.length = h + 4 := ⟨l.length - 4, by omega⟩
  have hlt := S1.out.cap
  obtain ⟨b0, o0, rfl, _⟩ := sees_at S1.out 0 (by omega)
  have ST : Hid (Sees w1 (.slice (some ⟨b0, o0, none⟩) h c) (l.take h)) := Lib.hid (sees_take S1.out h (by omega))
  rw [show l.length - 4 = h by omega] at hRt
  have HRT := Lib.hid hRt
  have HLT : Hid ((l.take h).length ≤ 1000) := Lib.hid (by rw [List.length_take]; omega)
  have hcc : h + 4 ≤ c := by omega
  have hh2 : h ≤ 1000 := by omega
  clear hRt hlt S1 hr4
  rw [hh]
  clear hh hl
  have hcl : h ≤ c := by omega
  have hch : ¬ c = h := by omega
  generalize l.take h = L at *
  go_wp2_with fail
  refine (read_any _ L w1 ST.out (by have := HLT.out; omega)).mono ?_
  rintro e w2 ⟨b, v2, rfl, r2, f2, hb2, hv2⟩
  have F2 := Lib.hid (F1.out.trans f2 (fun _ _ h => h))
  have Q2 := Lib.hid (crow_kept Q1.out f2 (fun h => h))
  have hg1 : g < w1.heap.size := vt_lt Q1.out
  have HB : Hid (w.heap.size ≤ b ∧ g < b) := Lib.hid ⟨by have := F1.out.size; omega, by omega⟩
  have R2 := Lib.hid r2
  clear f2 r2 F1 Q1 hb2 hv2 hg1 ST hcc hcl hch hh2
  dsimp only
  go_wp2_with fail
  refine (pread_any b v2 L 0 w2 R2.out).mono ?_
  rintro e w3 ⟨v3, rfl, rd3, hs3, hn3⟩
  obtain ⟨r, hrr⟩ : ∃ r, r = readP (L, 0) := ⟨_, rfl⟩
  rw [← hrr] at rd3 hs3 HRT ⊢
  clear hrr
  have Q3 : Hid (w3.heap[g]? = some (oPv 0 0 0 0 nilS)) := Lib.hid (by
    obtain ⟨_, _, f3, _⟩ := rd3
    exact crow_kept Q2.out f3 (by have := HB.out; omega))
  have F3 : Hid (Fr (fun _ => False) w w3) := Lib.hid (by
    obtain ⟨_, _, f3, _⟩ := rd3
    exact F2.out.trans f3 (fun i hi e => by have := HB.out; omega))
  have N3 : Hid (∀ k, v3.ownBlock = some k → w.heap.size ≤ k ∧ g ≠ k ∧ k < w3.heap.size) := Lib.hid (by
    obtain ⟨x, hx, h1, h2⟩ := hn3
    intro k hk
    rw [hx] at hk
    simp at hk
    have h3 := F2.out.size
    have h4 : g < w2.heap.size := vt_lt Q2.out
    omega)
  have S3 := Lib.hid hs3
  obtain ⟨a3, c3, rfl, hnn⟩ := hs3.shape
  clear hnn hs3 hn3 F2 Q2 R2
  have RD3 := Lib.hid rd3
  clear rd3
  dsimp only
  go_upto_region 5 with fail
  have q4 := heap_alloc_new w3 (oPv r.f r.k r.p r.m (.slice a3 r.l.length c3))
  have f4 : Fr (fun _ => False) w3 (w3.alloc (oPv r.f r.k r.p r.m (.slice a3 r.l.length c3))) := (Fr.refl _ _).alloc _
  generalize w3.alloc (oPv r.f r.k r.p r.m (.slice a3 r.l.length c3)) = w4 at *
  obtain ⟨g5, hg5⟩ : ∃ g5, g5 = w3.heap.size := ⟨_, rfl⟩
  rw [← hg5] at q4 ⊢
  have Q4 := Lib.hid (And.intro (crow_kept Q3.out f4 (fun h => h)) q4)
  have F4 := Lib.hid (F3.out.trans f4 (fun _ _ h => h))
  have S4 := Lib.hid (S3.out.fr f4 (fun _ _ h => h))
  have RD4 : Hid (Reads b v2 r.st.1 r.st.2 w2 w4) := Lib.hid (by
    obtain ⟨v5, h5, f5, o5⟩ := RD3.out
    exact ⟨v5, h5.fr f4 (fun h => h) (fun _ _ h => h), f5.trans f4 (fun _ _ h => h.elim), o5⟩)
  clear q4 f4 hg5 Q3 F3 S3 RD3
  obtain ⟨v5, r5, f5, o5⟩ := RD4.out
  have hend := Lib.hid (end_any b v5 r.st.1 r.st.2 w4 r5)
  clear r5 f5 o5
  go_wp2_with fail
  refine hend.out.mono ?_
  rintro e w5 ⟨rfl, rfl⟩
  have HT2 : Hid (R = if endP r.st ≠ 0 then (Pc.zero, endP r.st) else if r.pc.chk ≠ 0 then (Pc.zero, r.pc.chk) else (r.pc, 0)) := Lib.hid (by rw [HRT.out]; rfl)
  rw [show (if r.st.1 = [] then r.st.2 else (12 : Int)) = endP r.st from rfl]
  obtain ⟨E, hE⟩ : ∃ E, E = endP r.st := ⟨_, rfl⟩
  rw [← hE] at HT2 ⊢
  clear hE HRT hend RD4
  obtain ⟨i0, i1, i2, i3, i4⟩ := par_cells Q4.out.1
  obtain ⟨j0, j1, j2, j3, j4⟩ := par_free Q4.out.1
  obtain ⟨k0, k1, k2, k3, k4⟩ := par_cells Q4.out.2
  dsimp only
  by_cases h0 : E = 0
  case neg =>
    have hRz : R = (Pc.zero, E) := by rw [HT2.out, if_pos h0]
    subst hRz
    have hb : (E != 0) = true := by simpa using h0
    clear HT2 h0
    go_wp2_with fail
    have Qz := cst5 (y0 := .int .i64 0) (y1 := .int .u32 0) (y2 := .int .i64 0) (y3 := .int .i64 0) (y4 := nilS) Q4.out.1
    have Fz := cfr5 (b := g) (.int .i64 0) (.int .u32 0) (.int .i64 0) (.int .i64 0) nilS (Fr.refl (fun k => k = g) w4) (fun _ => rfl)
    refine bodyPost_ret (results_cell_tmp_row rfl _ _ g 29 _ _ _ rfl Qz Try.underlying29 rfl (by kernel_rfl)) rfl ?_
    exact ⟨nilS, rfl, pmade_zero (F4.out.trans Fz (fun i hi e => by have := HG.out; omega))⟩
  have HR3 : Hid (R = if r.pc.chk ≠ 0 then (Pc.zero, r.pc.chk) else (r.pc, 0)) := Lib.hid (by rw [HT2.out, if_neg (by simp [h0])])
  subst h0
  clear HT2
  go_wp2_with fail
  refine (pcheck_any r.f r.k r.p r.m a3 r.l.length c3 w4).mono ?_
  rintro e w6 ⟨rfl, f6⟩
  have Q6 := Lib.hid (And.intro (crow_kept Q4.out.1 f6 (fun h => h)) (crow_kept Q4.out.2 f6 (fun h => h)))
  have F6 := Lib.hid (F4.out.trans f6 (fun _ _ h => h))
  have S6 := Lib.hid (S4.out.fr f6 (fun _ _ h => h))
  clear f6 Q4 F4 S4 i0 i1 i2 i3 i4 j0 j1 j2 j3 j4 k0 k1 k2 k3 k4
  rw [show pchk (r.f : Int) r.p r.m r.l.length = r.pc.chk from rfl]
  obtain ⟨C, hC⟩ : ∃ C, C = r.pc.chk := ⟨_, rfl⟩
  rw [← hC] at HR3 ⊢
  clear hC
  obtain ⟨i0, i1, i2, i3, i4⟩ := par_cells Q6.out.1
  obtain ⟨j0, j1, j2, j3, j4⟩ := par_free Q6.out.1
  obtain ⟨k0, k1, k2, k3, k4⟩ := par_cells Q6.out.2
  dsimp only
  by_cases h1 : C = 0
  case neg =>
    have hRz : R = (Pc.zero, C) := by rw [HR3.out, if_pos h1]
    subst hRz
    have hb : (C != 0) = true := by simpa using h1
    clear HR3 h1
    go_wp2_with fail
    have Qz := cst5 (y0 := .int .i64 0) (y1 := .int .u32 0) (y2 := .int .i64 0) (y3 := .int .i64 0) (y4 := nilS) Q6.out.1
    have Fz := cfr5 (b := g) (.int .i64 0) (.int .u32 0) (.int .i64 0) (.int .i64 0) nilS (Fr.refl (fun k => k = g) w6) (fun _ => rfl)
    refine bodyPost_ret (results_cell_tmp_row rfl _ _ g 29 _ _ _ rfl Qz Try.underlying29 rfl (by kernel_rfl)) rfl ?_
    exact ⟨nilS, rfl, pmade_zero (F6.out.trans Fz (fun i hi e => by have := HG.out; omega))⟩
  have hRz : R = (r.pc, 0) := by rw [HR3.out, if_neg (by simp [h1])]
  subst hRz h1
  clear HR3
  go_wp2_with fail
  have Qz := cst5 (y0 := .int .i64 r.f) (y1 := .int .u32 r.k) (y2 := .int .i64 r.p) (y3 := .int .i64 r.m) (y4 := .slice a3 r.l.length c3) Q6.out.1
  have Fz := cfr5 (b := g) (.int .i64 r.f) (.int .u32 r.k) (.int .i64 r.p) (.int .i64 r.m) (.slice a3 r.l.length c3) (Fr.refl (fun k => k = g) w6) (fun _ => rfl)
  refine bodyPost_ret (results_cell_tmp_row rfl _ _ g 29 _ _ _ rfl Qz Try.underlying29 rfl (by kernel_rfl)) rfl ?_
  exact ⟨.slice a3 r.l.length c3, rfl, S6.out.fr Fz (fun k hk e => by have := (N3.out k hk).2.1; omega), F6.out.trans Fz (fun i hi e => by have := HG.out; omega), fun k hk => (N3.out k hk).1⟩
end
section
/-- The numbers that a parcel's fields may be. -/
def Pc.ty (x : Pc) : Prop := 0 ≤ x.k ∧ x.k ≤ 4294967295
abbrev Pc.b (x : Pc) : List UInt8 := parB x.f x.k x.p x.m x.l
abbrev Pc.s (x : Pc) : List UInt8 := Crc.summed x.b

theorem pright_eq (l : List UInt8) (h : 4 ≤ l.length) : Crc.right l = (l == Crc.summed (l.take (l.length - 4))) := by
  unfold Crc.right Crc.summed
  rw [decide_eq_true h, Bool.true_and, Bool.eq_iff_iff, decide_eq_true_eq, beq_iff_eq]
  have ht : (l.take (l.length - 4)).length = l.length - 4 := by rw [List.length_take]; omega
  constructor
  · intro e
    rw [← e, List.take_append_drop]
  · intro e
    have e2 := congrArg (List.drop (l.length - 4)) e
    rw [List.drop_left' ht] at e2
    exact e2

theorem right_four {l : List UInt8} (h : Crc.right l = true) : 4 ≤ l.length := by
  unfold Crc.right at h
  simp at h
  exact h.1

theorem num_st {l : List UInt8} {e : Int} {k : Nat} (hc : e ≠ 0 → l = []) : (numS (l, e) k).2.2 ≠ 0 → (numS (l, e) k).2.1 = [] := by
  intro h
  rcases numS_two l e k hc with ⟨h1, _⟩ | ⟨_, h2, _⟩
  · exact absurd h1 h
  · exact h2

theorem readP_ok {L : List UInt8} (h1 : (readP (L, 0)).st.2 = 0) (h2 : (readP (L, 0)).st.1 = []) : (readP (L, 0)).pc.b = L ∧ (readP (L, 0)).pc.ty := by
  unfold readP at h1 h2 ⊢
  dsimp only at h1 h2
  obtain ⟨A, hA⟩ : ∃ A, A = numS (L, 0) 2 := ⟨_, rfl⟩
  have tA := numS_two L 0 2 (fun h => absurd rfl h)
  have nA := num_st (k := 2) (l := L) (e := 0) (fun h => absurd rfl h)
  rw [← hA] at tA nA h1 h2 ⊢
  obtain ⟨B, hB⟩ : ∃ B, B = numS A.2 4 := ⟨_, rfl⟩
  have tB := numS_two A.2.1 A.2.2 4 nA
  have nB := num_st (k := 4) nA
  rw [show numS (A.2.1, A.2.2) 4 = numS A.2 4 from rfl, ← hB] at tB nB
  rw [← hB] at h1 h2 ⊢
  obtain ⟨C, hC⟩ : ∃ C, C = numS B.2 2 := ⟨_, rfl⟩
  have tC := numS_two B.2.1 B.2.2 2 nB
  have nC := num_st (k := 2) nB
  rw [show numS (B.2.1, B.2.2) 2 = numS B.2 2 from rfl, ← hC] at tC nC
  rw [← hC] at h1 h2 ⊢
  obtain ⟨D, hD⟩ : ∃ D, D = numS C.2 2 := ⟨_, rfl⟩
  have tD := numS_two C.2.1 C.2.2 2 nC
  have nD := num_st (k := 2) nC
  rw [show numS (C.2.1, C.2.2) 2 = numS C.2 2 from rfl, ← hD] at tD nD
  rw [← hD] at h1 h2 ⊢
  obtain ⟨E, hE⟩ : ∃ E, E = textS D.2 48 := ⟨_, rfl⟩
  have tE := textS_two D.2.1 D.2.2 48 nD
  rw [show textS (D.2.1, D.2.2) 48 = textS D.2 48 from rfl, ← hE] at tE
  rw [← hE] at h1 h2 ⊢
  clear hA hB hC hD hE nA nB nC nD
  rcases tE with ⟨_, eD, eE, _, _⟩ | ⟨h, _⟩
  case inr => exact absurd h1 h
  rw [h2, List.append_nil] at eE
  rcases tD with ⟨_, eC, lD, vD, dD⟩ | ⟨h, _⟩
  case inr => exact absurd eD h
  rcases tC with ⟨_, eB, lC, vC, dC⟩ | ⟨h, _⟩
  case inr => exact absurd eC h
  rcases tB with ⟨_, eA, lB, vB, dB⟩ | ⟨h, _⟩
  case inr => exact absurd eB h
  rcases tA with ⟨_, _, lA, vA, dA⟩ | ⟨h, _⟩
  case inr => exact absurd eA h
  have b2 : ∀ l : List UInt8, 2 ≤ l.length → be2 (beNum (l.take 2)) = l.take 2 := fun l h => be2_beNum _ (by rw [List.length_take]; omega)
  have b4 : ∀ l : List UInt8, 4 ≤ l.length → be4 (beNum (l.take 4)) = l.take 4 := fun l h => be4_beNum _ (by rw [List.length_take]; omega)
  have s4 : beNum (A.2.1.take 4) < 256 ^ 4 := beNum_small _ 4 (by rw [List.length_take]; omega)
  constructor
  · show parB (A.1 : Int) (B.1 : Int) (C.1 : Int) (D.1 : Int) E.1 = L
    unfold parB
    simp only [Int.toNat_natCast]
    rw [vA, vB, vC, vD, b2 L lA, b4 _ lB, b2 _ lC, b2 _ lD, ← eE, dD, List.append_assoc, List.take_append_drop, dC, List.append_assoc, List.take_append_drop, dB, List.append_assoc, List.take_append_drop, dA, List.take_append_drop]
  · show (0 : Int) ≤ (B.1 : Int) ∧ (B.1 : Int) ≤ 4294967295
    rw [vB]
    omega

theorem readP_of (x : Pc) (h : x.chk = 0) (ht : x.ty) : readP (x.b, 0) = ⟨x.f.toNat, x.k.toNat, x.p.toNat, x.m.toNat, x.l, ([], 0)⟩ := by
  obtain ⟨h1, h2, h3, h4, _, _⟩ := pchk_ok h
  obtain ⟨t1, t2⟩ := ht
  unfold readP
  have e1 : x.b = be2 x.f.toNat ++ (be4 x.k.toNat ++ (be2 x.p.toNat ++ (be2 x.m.toNat ++ txt x.l))) := by simp [parB]
  rw [e1]
  rw [numS_be2 _ (by omega)]
  dsimp only
  rw [numS_be4 _ (by omega)]
  dsimp only
  rw [numS_be2 _ (by omega)]
  dsimp only
  rw [numS_be2 _ (by omega)]
  dsimp only
  have e2 := textS_txt x.l [] (by omega) 48 (by omega)
  rw [List.append_nil] at e2
  rw [e2]

theorem takeP_of (x : Pc) (h : x.chk = 0) (ht : x.ty) : takeP x.s = (x, 0) := by
  unfold takeP
  rw [if_pos (Crc.right_summed _)]
  have hl : x.s.length - 4 = x.b.length := by
    show (Crc.summed x.b).length - 4 = _
    unfold Crc.summed
    rw [List.length_append, be4_length]; omega
  have ht2 : x.s.take (x.s.length - 4) = x.b := by
    rw [hl]
    show (Crc.summed x.b).take _ = _
    unfold Crc.summed
    rw [List.take_left]
  rw [ht2, readP_of x h ht]
  obtain ⟨h1, h2, h3, h4, _, _⟩ := pchk_ok h
  obtain ⟨t1, t2⟩ := ht
  have hx : PR.pc ⟨x.f.toNat, x.k.toNat, x.p.toNat, x.m.toNat, x.l, ([], 0)⟩ = x := by
    unfold PR.pc
    obtain ⟨f, k, p, m, l⟩ := x
    dsimp only at *
    rw [Int.toNat_of_nonneg (by omega), Int.toNat_of_nonneg (by omega), Int.toNat_of_nonneg (by omega), Int.toNat_of_nonneg (by omega)]
  unfold takeR
  rw [hx, if_neg (by simp [endP]), if_neg (by rw [h]; simp)]

/-- What comes of Take: a parcel whose bytes they are, or an error. -/
theorem takeP_two (l : List UInt8) : ((takeP l).2 = 0 ∧ (takeP l).1.chk = 0 ∧ (takeP l).1.ty ∧ (takeP l).1.s = l) ∨ ((takeP l).2 ≠ 0 ∧ (takeP l).1 = Pc.zero) := by
  unfold takeP
  by_cases hr : Crc.right l = true
  case neg => rw [if_neg hr]; exact .inr ⟨by decide, rfl⟩
  rw [if_pos hr]
  have h4 := right_four hr
  have hs : l = Crc.summed (l.take (l.length - 4)) := by
    rw [pright_eq l h4] at hr
    exact beq_iff_eq.1 hr
  generalize hL : l.take (l.length - 4) = L at *
  have h5 := readP_ok (L := L)
  generalize readP (L, 0) = r at *
  clear hL hr
  unfold takeR
  by_cases h0 : endP r.st ≠ 0
  · rw [if_pos h0]; exact .inr ⟨h0, rfl⟩
  rw [if_neg h0]
  by_cases h1 : r.pc.chk ≠ 0
  · rw [if_pos h1]; exact .inr ⟨h1, rfl⟩
  rw [if_neg h1]
  left
  have h0' : endP r.st = 0 := by simpa using h0
  have h2 : r.st.1 = [] := by
    unfold endP at h0'
    by_cases h : r.st.1 = []
    · exact h
    · rw [if_neg h] at h0'; exact absurd h0' (by decide)
  have h3 : r.st.2 = 0 := by
    unfold endP at h0'
    rw [if_pos h2] at h0'; exact h0'
  have h6 := h5 h3 h2
  refine ⟨rfl, by simpa using h1, h6.2, ?_⟩
  show Crc.summed r.pc.b = l
  rw [h6.1, ← hs]
end
section
set_option maxRecDepth 100000

abbrev smV (f k p m : Int) (v : Value) : Value := .agg #[.int .u8 f, .int .u32 k, .int .u8 p, .int .u8 m, v]
abbrev oSm (f k p m : Int) (v : Value) : Obj := Obj.cells #[.int .u8 f, .int .u32 k, .int .u8 p, .int .u8 m, v] 25 (0, 0)

def smN (P M : Int) (n : Nat) : Nat := if P + 1 = M then (if 1 < M then max (min n 48) 1 else min n 48) else 48
/-- n bytes: those of l, and noughts. -/
def padB (l : List UInt8) (n : Nat) : List UInt8 := l.take n ++ List.replicate (n - l.length) 0
theorem padB_length (l : List UInt8) (n : Nat) : (padB l n).length = n := by
  unfold padB; rw [List.length_append, List.length_take, List.length_replicate]; omega

structure Sm where
  f : Int
  k : Int
  p : Int
  m : Int
  l : List UInt8
structure Sm.ok (s : Sm) : Prop where
  f0 : 0 ≤ s.f
  f1 : s.f ≤ 255
  k0 : 0 ≤ s.k
  k1 : s.k ≤ 4294967295
  p0 : 0 ≤ s.p
  p1 : s.p ≤ 255
  m0 : 0 ≤ s.m
  m1 : s.m ≤ 255
def Sm.pc (s : Sm) : Pc := ⟨s.f % 16, s.k, s.p % (1 + s.m % 100), 1 + s.m % 100, padB s.l (smN (s.p % (1 + s.m % 100)) (1 + s.m % 100) s.l.length)⟩

theorem Sm.good {s : Sm} (h : s.ok) : s.pc.chk = 0 ∧ s.pc.ty := by
  obtain ⟨f0, f1, k0, k1, p0, p1, m0, m1⟩ := h
  refine ⟨?_, k0, k1⟩
  unfold Pc.chk Sm.pc
  dsimp only
  rw [padB_length]
  have h1 := Int.emod_nonneg s.p (show 1 + s.m % 100 ≠ 0 by omega)
  have h2 := Int.emod_lt_of_pos s.p (show 0 < 1 + s.m % 100 by omega)
  generalize s.p % (1 + s.m % 100) = P at *
  have h3 : 0 ≤ s.m % 100 ∧ s.m % 100 < 100 := by omega
  generalize s.m % 100 = M at *
  apply pchk_of
  unfold smN
  refine ⟨by omega, by omega, by omega, ?_⟩
  by_cases e1 : P + 1 = 1 + M
  · rw [if_pos e1]
    by_cases e2 : 1 < 1 + M
    · rw [if_pos e2]; omega
    · rw [if_neg e2]; omega
  · rw [if_neg e1]; omega

theorem copy_own {w : World} {g n c : Nat} {a : Option Addr} {l : List UInt8} (ho : Own w (.slice (some ⟨g, 0, none⟩) n n) (List.replicate n 0)) (hs : Sees w (.slice a l.length c) l) (ty : TypeId) :
    ∃ r w', (Builtin.copy_ #[23, 23] ty #[.slice (some ⟨g, 0, none⟩) n n, .slice a l.length c]).run Try.prog w = .ok r w' ∧ Own w' (.slice (some ⟨g, 0, none⟩) n n) (padB l n) ∧ Fr (fun k => k = g) w w' := by
  obtain ⟨i0, hi, hz0, hz1, hz2⟩ := info_parts Try.infoU8
  have hsz : (Try.prog.info? 5).map (·.size) = some 1 := by rw [hi]; simp [hz1]
  obtain ⟨hl, h | ⟨g', cap', cur, e1, _, hg, hle, hmx, hcs, htk⟩⟩ := ho
  · cases h.1
  simp at e1
  obtain ⟨rfl, _, rfl⟩ := e1
  cases a with
  | none =>
    obtain rfl : l = [] := by
      rcases hs with ⟨h, _⟩ | ⟨_, _, _, e, _⟩
      · exact h
      · cases e
    refine ⟨_, w, run_copy_none (P := Try.prog) w 23 23 ty 5 _ none n n 0 c Try.underlying23 hsz rfl, ?_, Fr.refl _ _⟩
    unfold padB
    simp only [List.take_nil, List.nil_append, List.length_nil, Nat.sub_zero]
    exact ⟨by simp, .inr ⟨g, n, cur, by simp, Nat.zero_le _, hg, hle, hmx, hcs, htk⟩⟩
  | some a =>
    have hcl : ((l.take n).map bv).length = Nat.min l.length n := by rw [List.length_map, List.length_take]; exact Nat.min_comm _ _
    have hcur : cur.size = n := by omega
    have hsrc : ∀ j v, ((l.take n).map bv)[j]? = some v → w.cell? (a.add j) = some v := by
      intro j v hj
      have hjl : j < min n l.length := by
        have := (List.getElem?_eq_some_iff.1 hj).1
        simpa using this
      rcases hs with ⟨rfl, _⟩ | ⟨g2, off, cap, e, _, hc⟩
      · simp at hjl
      · simp at e
        obtain ⟨rfl, _⟩ := e
        have hplain : (⟨g2, off, none⟩ : Addr).add j = ⟨g2, off + j, none⟩ := by unfold Addr.add; split <;> simp_all
        rw [hplain, hc j (by omega), ← hj]
        simp [List.getD, show j < l.length by omega, show j < n by omega]
    have hr := run_copy_row (P := Try.prog) w 23 23 ty 5 g 0 n n a l.length c cur 5 ((l.take n).map bv) Try.underlying23 hsz hg hcl hsrc (by rw [hcl, hcur, Nat.zero_add]; exact Nat.min_le_right _ _) (bv_one _)
    refine ⟨_, _, hr, ⟨by rw [List.length_map, Nat.mul_one], .inr ⟨g, n, _, ?_, Nat.zero_le _, setRow_heap w g cur _ _ _ hg, by rw [padB_length]; exact Nat.le_refl _, hmx, ?_, ?_⟩⟩, ⟨rfl, rfl, rfl, by simp, fun k _ hk => setRow_other w g k _ hk⟩⟩
    · rw [padB_length]
    · simp
      omega
    · rw [List.length_replicate] at htk
      rw [padB_length]
      have e2 : cur.toList = List.replicate n (bv 0) := by
        rw [List.take_of_length_le (by simp; omega)] at htk
        rw [htk, List.map_replicate]
      unfold padB
      rw [Nat.mul_one, List.take_of_length_le (by simp; omega), List.map_append, List.map_replicate, e2, List.drop_replicate]
      simp
      omega
theorem small_any (s : Sm) (a : Option Addr) (c : Nat) (w : World) (hok : s.ok) (hs : Sees w (.slice a s.l.length c) s.l) (hl : s.l.length ≤ 100) :
    Calls Try.prog 9 #[smV s.f s.k s.p s.m (.slice a s.l.length c)] w fun e w' => ∃ v', e = .returned (s.pc.val v') ∧ Made v' s.pc.l w w' := by
  obtain ⟨f, k, p, m, l⟩ := s
  obtain ⟨f0, f1, k0, k1, p0, p1, m0, m1⟩ := hok
  dsimp only at *
  have HS := Lib.hid hs
  clear hs
  obtain ⟨F, hF⟩ : ∃ F, F = f % 16 := ⟨_, rfl⟩
  obtain ⟨M, hM⟩ : ∃ M, M = 1 + m % 100 := ⟨_, rfl⟩
  obtain ⟨P, hP⟩ : ∃ P, P = p % M := ⟨_, rfl⟩
  have hMb : 1 ≤ M ∧ M ≤ 100 := by omega
  have hPb : 0 ≤ P ∧ P < M := by
    have h1 := Int.emod_nonneg p (show M ≠ 0 by omega)
    have h2 := Int.emod_lt_of_pos p (show 0 < M by omega)
    omega
  obtain ⟨n, hn⟩ : ∃ n, n = smN P M l.length := ⟨_, rfl⟩
  obtain ⟨X, hX⟩ : ∃ X : Pc, X = ⟨F, k, P, M, padB l n⟩ := ⟨_, rfl⟩
  have hXs : (⟨f, k, p, m, l⟩ : Sm).pc = X := by
    rw [hX, hn, hP, hM, hF]; rfl
  rw [hXs]
  have HX := Lib.hid hX
  have HN := Lib.hid hn
  clear hXs hX hn
  have wF : IntKind.u8.wrap (f % 16) = f % 16 := by rw [IntKind.wrap_u8]; omega
  have wM : IntKind.u8.wrap (m % 100) = m % 100 := by rw [IntKind.wrap_u8]; omega
  have q0 := heap_alloc_new w (oSm f k p m (.slice a l.length c))
  have f0' : Fr (fun _ => False) w (w.alloc (oSm f k p m (.slice a l.length c))) := (Fr.refl _ _).alloc _
  go_enter Try.func9, Try.ntmps9
  go_upto_region 1 with fail
  have q1 := new_two w (oSm f k p m (.slice a l.length c)) (oPv 0 0 0 0 nilS)
  have f1 : Fr (fun _ => False) w ((w.alloc (oSm f k p m (.slice a l.length c))).alloc (oPv 0 0 0 0 nilS)) := ((Fr.refl _ _).alloc _).alloc _
  have q0 : ((w.alloc (oSm f k p m (.slice a l.length c))).alloc (oPv 0 0 0 0 nilS)).heap[w.heap.size]? = some (oSm f k p m (.slice a l.length c)) := by
    rw [Below.heap_alloc _ _ _ (by simp)]; exact heap_alloc_new w _
  generalize (w.alloc (oSm f k p m (.slice a l.length c))).alloc (oPv 0 0 0 0 nilS) = w1 at *
  obtain ⟨g1, hg1⟩ : ∃ g, g = w.heap.size := ⟨_, rfl⟩
  obtain ⟨g2, hg2⟩ : ∃ g, g = w.heap.size + 1 := ⟨_, rfl⟩
  rw [← hg1] at q0
  rw [← hg2] at q1
  try rw [← hg2]
  rw [← hg1]
  have HG := Lib.hid (And.intro hg1 hg2)
  have Q1 := Lib.hid (And.intro q0 q1)
  have F1 := Lib.hid f1
  have S1 := Lib.hid (HS.out.fr f1 (fun _ _ h => h))
  have S1' := HS
  clear q0 q1 f1 hg1 hg2 HS
  obtain ⟨c0, c1, c2, c3, c4⟩ := par_cells Q1.out.1
  go_upto_region 2 with fail
  rw [← hM, ← hF]
  have q3 := heap_alloc_new w1 (oPv F k 0 M nilS)
  have f3 : Fr (fun _ => False) w1 (w1.alloc (oPv F k 0 M nilS)) := (Fr.refl _ _).alloc _
  generalize w1.alloc (oPv F k 0 M nilS) = w3 at *
  obtain ⟨g3, hg3⟩ : ∃ g, g = w1.heap.size := ⟨_, rfl⟩
  rw [← hg3] at q3 ⊢
  have hlt2 : g2 < w1.heap.size := vt_lt Q1.out.2
  have HG3 : Hid (g1 ≠ g3 ∧ g2 ≠ g3 ∧ g1 ≠ g2 ∧ w.heap.size ≤ g3 ∧ w.heap.size ≤ g2) := Lib.hid (by have := HG.out; omega)
  have Q3 := Lib.hid (And.intro (crow_kept Q1.out.1 f3 (fun h => h)) (And.intro (crow_kept Q1.out.2 f3 (fun h => h)) q3))
  have F3 := Lib.hid (F1.out.trans f3 (fun _ _ h => h))
  have S3 := Lib.hid (S1.out.fr f3 (fun _ _ h => h))
  clear q3 f3 hg3 hlt2 Q1 F1 S1 c0 c1 c2 c3 c4
  obtain ⟨c0, c1, c2, c3, c4⟩ := par_cells Q3.out.1
  obtain ⟨d0, d1, d2, d3, d4⟩ := par_cells Q3.out.2.2
  have z2 := vfree Q3.out.2.2 2
  have hmod : p.tmod M = P := by rw [hP, Int.tmod_eq_emod_of_nonneg p0]
  have hM0 : (M == 0) = false := by simp; omega
  have HPd := Lib.hid hP
  have HMd := Lib.hid (And.intro hM hF)
  clear hP hM hF
  go_upto_region 3 with fail
  have q4 := heap_setCell_same w3 g3 2 _ _ (.int .i64 P) Q3.out.2.2
  have f4 : Fr (fun k => k = g3) w3 (w3.setCell ⟨g3, 2, none⟩ (.int .i64 P)) := (Fr.refl (fun k => k = g3) w3).setCell (p := ⟨g3, 2, none⟩) (fun _ => rfl) _
  generalize w3.setCell ⟨g3, 2, none⟩ (.int .i64 P) = w4 at *
  replace q4 : w4.heap[g3]? = some (oPv F k P M nilS) := q4
  have Q4 := Lib.hid (And.intro (crow_kept Q3.out.1 f4 HG3.out.1) (And.intro (crow_kept Q3.out.2.1 f4 HG3.out.2.1) q4))
  have F4 := Lib.hid (F3.out.trans f4 (fun i hi e => by have := HG3.out.2.2.2.1; omega))
  have S4 : Hid (Sees w4 (.slice a l.length c) l) := Lib.hid (by
    by_cases h0 : l = []
    · subst h0
      rcases S3.out with ⟨_, _, _, e⟩ | ⟨_, _, _, e, _⟩
      · exact .inl ⟨rfl, _, _, rfl⟩
      · exact .inl ⟨rfl, _, _, rfl⟩
    · refine S1'.out.fr (F4.out.mono (fun _ _ h => h.elim)) (fun _ _ h => h))
  clear q4 f4 Q3 F3 S3 c0 c1 c2 c3 c4 d0 d1 d2 d3 d4 z2 hmod hM0
  obtain ⟨c0, c1, c2, c3, c4⟩ := par_cells Q4.out.1
  obtain ⟨d0, d1, d2, d3, d4⟩ := par_cells Q4.out.2.2
  go_upto_region 4 with fail
  go_upto_if 29 with fail
  obtain ⟨bb, hbb⟩ : ∃ bb, bb = (P + 1 == M) := ⟨_, rfl⟩
  rw [← hbb]
  have HBB := Lib.hid hbb
  clear hbb
  go_cut [4] from 30 to 38 (fun c wx => c = .int .i64 n ∧ wx = w4)
  case first =>
    by_cases h1 : P + 1 = M
    case neg =>
      obtain rfl : bb = false := by rw [HBB.out]; simpa using h1
      have hn : n = 48 := by rw [HN.out]; unfold smN; rw [if_neg h1]
      subst hn
      clear h1
      go_wp2_with fail
      go_meet
      exact ⟨rfl, rfl⟩
    obtain rfl : bb = true := by rw [HBB.out]; simpa using h1
    obtain ⟨n0, hn0⟩ : ∃ n0 : Nat, n0 = min l.length 48 := ⟨_, rfl⟩
    have hmin : ∀ (ts : Array TypeId) (t : TypeId) (W : World), (Builtin.min_ ts t #[.int .i64 (l.length : Int), .int .i64 48]).run Try.prog W = .ok (.int .i64 (n0 : Int)) W := by
      intro ts t W
      simp [Builtin.min_, Builtin.min2]
      subst hn0
      split <;> omega
    by_cases h2 : 1 < M
    case neg =>
      have hn : n = n0 := by rw [HN.out, hn0]; unfold smN; rw [if_pos h1, if_neg h2]
      subst hn
      have HH := Lib.hid (And.intro h1 hn0)
      clear h1 hn0
      go_wp2_with fail
      go_meet
      exact ⟨rfl, rfl⟩
    have hn : n = max n0 1 := by rw [HN.out, hn0]; unfold smN; rw [if_pos h1, if_pos h2]
    have hmax : ∀ (ts : Array TypeId) (t : TypeId) (W : World), (Builtin.max_ ts t #[.int .i64 (n0 : Int), .int .i64 1]).run Try.prog W = .ok (.int .i64 (n : Int)) W := by
      intro ts t W
      simp [Builtin.max_, Builtin.max2]
      subst hn
      split <;> omega
    have HH := Lib.hid (And.intro h1 (And.intro hn0 hn))
    clear h1 hn0 hn
    go_wp2_with fail
    go_meet
    exact ⟨rfl, rfl⟩
  case rest =>
    obtain ⟨rfl, rfl⟩ := hcut
    have hn48 : n ≤ 48 := by
      have := HN.out
      unfold smN at this
      by_cases h1 : P + 1 = M
      · rw [if_pos h1] at this
        by_cases h2 : 1 < M
        · rw [if_pos h2] at this; omega
        · rw [if_neg h2] at this; omega
      · rw [if_neg h1] at this; omega
    have hmk : ∀ W : World, (Instr.makeSlice 23 (.int .i64 (n : Int)) (.int .i64 (n : Int))).run Try.prog W = .ok (.slice (some ⟨W.heap.size, 0, none⟩) n n) (W.alloc (.cells (madeCells #[.int .u8 0] n) 5)) :=
      fun W => run_make_row' _ 5 (.int .u8 0) 1 Try.underlying23 Try.infoU8 rfl .i64 .i64 n (by omega) (by omega) W
    have z4 := vfree Q4.out.2.2 4
    have hlt3 : g3 < wc.heap.size := vt_lt Q4.out.2.2
    have hne3 : g3 ≠ wc.heap.size := by omega
    go_upto_region 9 with fail
    obtain ⟨g5, hg5⟩ : ∃ g, g = wc.heap.size := ⟨_, rfl⟩
    have o5 := own_made (wc.setCell ⟨g3, 4, none⟩ (.slice (some ⟨wc.heap.size, 0, none⟩) n n)) n (by omega)
    rw [World.size_setCell] at o5
    rw [← hg5] at o5 hne3 hlt3 ⊢
    have f5 : Fr (fun k => k = g3) wc ((wc.setCell ⟨g3, 4, none⟩ (.slice (some ⟨g5, 0, none⟩) n n)).alloc (.cells (madeCells #[.int .u8 0] n) 5)) := ((Fr.refl (fun k => k = g3) wc).setCell (p := ⟨g3, 4, none⟩) (fun _ => rfl) _).alloc _
    have q5 : ((wc.setCell ⟨g3, 4, none⟩ (.slice (some ⟨g5, 0, none⟩) n n)).alloc (.cells (madeCells #[.int .u8 0] n) 5)).heap[g3]? = some (oPv F k P M (.slice (some ⟨g5, 0, none⟩) n n)) := by
      rw [Below.heap_alloc _ _ _ (by rw [World.size_setCell, ← hg5]; exact hlt3)]
      exact heap_setCell_same wc g3 4 _ _ _ Q4.out.2.2
    generalize (wc.setCell ⟨g3, 4, none⟩ (.slice (some ⟨g5, 0, none⟩) n n)).alloc (.cells (madeCells #[.int .u8 0] n) 5) = w5 at *
    have Q5 := Lib.hid (And.intro (crow_kept Q4.out.1 f5 HG3.out.1) (And.intro (crow_kept Q4.out.2.1 f5 HG3.out.2.1) q5))
    have F5 := Lib.hid (F4.out.trans f5 (fun i hi e => by have := HG3.out.2.2.2.1; omega))
    have S5 : Hid (Sees w5 (.slice a l.length c) l) := Lib.hid (S1'.out.fr F5.out (fun _ _ h => h))
    have O5 := Lib.hid o5
    have HG5 : Hid (w.heap.size ≤ g5 ∧ g5 ≠ g2 ∧ g5 ≠ g3) := Lib.hid ⟨by have := F4.out.size; omega, by have := vt_lt Q4.out.2.1; omega, by omega⟩
    clear q5 f5 o5 hg5 hlt3 hne3 Q4 F4 S4 c0 c1 c2 c3 c4 d0 d1 d2 d3 d4 z4 hmk
    obtain ⟨c0, c1, c2, c3, c4⟩ := par_cells Q5.out.1
    obtain ⟨d0, d1, d2, d3, d4⟩ := par_cells Q5.out.2.2
    obtain ⟨r6, w6, hcp, o6, f6⟩ := copy_own O5.out S5.out 3
    go_upto_region 10 with fail
    have Q6 := Lib.hid (And.intro (crow_kept Q5.out.2.1 f6 (fun e => by have := HG5.out; omega)) (crow_kept Q5.out.2.2 f6 (fun e => by have := HG5.out; omega)))
    have F6 := Lib.hid (F5.out.trans f6 (fun i hi e => by have := HG5.out; omega))
    have O6 := Lib.hid o6
    clear hcp o6 f6 Q5 F5 S5 O5 c0 c1 c2 c3 c4 d0 d1 d2 d3 d4
    obtain ⟨c0, c1, c2, c3, c4⟩ := par_cells Q6.out.1
    obtain ⟨j0, j1, j2, j3, j4⟩ := par_free Q6.out.1
    obtain ⟨d0, d1, d2, d3, d4⟩ := par_cells Q6.out.2
    go_wp2_with fail
    have Qz := cst5 (y0 := .int .i64 F) (y1 := .int .u32 k) (y2 := .int .i64 P) (y3 := .int .i64 M) (y4 := .slice (some ⟨g5, 0, none⟩) n n) Q6.out.1
    have Fz := cfr5 (b := g2) (.int .i64 F) (.int .u32 k) (.int .i64 P) (.int .i64 M) (.slice (some ⟨g5, 0, none⟩) n n) (Fr.refl (fun k => k = g2) w6) (fun _ => rfl)
    refine bodyPost_ret (results_cell_row rfl _ _ g2 29 _ _ _ rfl Qz Try.underlying29 rfl (by kernel_rfl)) rfl ?_
    have hX := HX.out
    subst hX
    exact ⟨_, rfl, O6.out.fr Fz (fun k hk e => by have := HG5.out; simp [Value.ownBlock] at hk; omega), F6.out.trans Fz (fun i hi e => by have := HG3.out; omega), fun k hk => by have := HG5.out; simp [Value.ownBlock] at hk; omega⟩
end
section
set_option maxRecDepth 100000

theorem heap_setCells (b : Nat) : ∀ (vs : List Value) (o : Nat) (w : World), (w.setCells b o vs).heap.size = w.heap.size ∧ (w.setCells b o vs).os = w.os ∧ (w.setCells b o vs).tape = w.tape ∧ (w.setCells b o vs).output = w.output ∧ ∀ k, k ≠ b → (w.setCells b o vs).heap[k]? = w.heap[k]?
  | [], _, _ => ⟨rfl, rfl, rfl, rfl, fun _ _ => rfl⟩
  | v :: vs, o, w => by
    obtain ⟨h1, h2, h3, h4, h5⟩ := heap_setCells b vs (o + 1) (w.setCell ⟨b, o, none⟩ v)
    exact ⟨h1.trans (World.size_setCell _ _ _), h2, h3, h4, fun k hk => (h5 k hk).trans (Below.heap_setCell _ _ _ _ hk)⟩

theorem Fr.setCells {S : Nat → Prop} {a w : World} (h : Fr S a w) {b : Nat} (hb : b < a.heap.size → S b) (o : Nat) (vs : List Value) : Fr S a (w.setCells b o vs) := by
  obtain ⟨h1, h2, h3, h4, h5⟩ := heap_setCells b vs o w
  refine ⟨h2.trans h.os, h3.trans h.tape, h4.trans h.output, by rw [h1]; exact h.size, fun k hk hs => ?_⟩
  rw [h5 k (fun e => hs (by subst e; exact hb hk))]
  exact h.block k hk hs

theorem there_fr {S : Nat → Prop} {w w' : World} {b o n : Nat} (h : w.there b o n) (f : Fr S w w') (hb : ¬ S b) : w'.there b o n := fun j hj => by
  obtain ⟨h1, h2⟩ := h j hj
  obtain ⟨v, hv⟩ := Option.isSome_iff_exists.1 h1
  have hlt := World.block_lt_of_cell? w _ hv
  have hblk := f.block b hlt hb
  constructor
  · rw [f.cell hlt hb]; exact h1
  · unfold World.frozen? at h2 ⊢
    rw [hblk]; exact h2

theorem range_fr {S : Nat → Prop} {w w' : World} {b o : Nat} {cs : List Value} (h : w.rangeAt b o cs) (f : Fr S w w') (hb : ¬ S b) : w'.rangeAt b o cs := fun j v hv => by
  have h1 := h j v hv
  rw [f.cell (World.block_lt_of_cell? w _ h1) hb]; exact h1

theorem there_part {w : World} {b n : Nat} (h : w.there b 0 n) {o m : Nat} (hm : o + m ≤ n) : w.there b o m := fun j hj => by
  have := h (o + j) (by omega)
  rw [Nat.zero_add] at this
  exact this

abbrev parL (f k : Int) (j n : Nat) (v : Value) : List Value := [.int .i64 f, .int .u32 k, .int .i64 j, .int .i64 n, v]

/-- Block g is a row of n parcels, the first i of which are those of a message. -/
structure PRow (w : World) (g n : Nat) (f k : Int) (i : Nat) (vs : Nat → Value) : Prop where
  room : w.there g 0 (n * 5)
  at_ : ∀ j, j < i → w.rangeAt g (j * 5) (parL f k j n (vs j))

theorem PRow.fr {S : Nat → Prop} {w w' : World} {g n : Nat} {f k : Int} {i : Nat} {vs : Nat → Value} (h : PRow w g n f k i vs) (hf : Fr S w w') (hg : ¬ S g) : PRow w' g n f k i vs :=
  ⟨there_fr h.room hf hg, fun j hj => range_fr (h.at_ j hj) hf hg⟩

theorem PRow.lt {w : World} {g n : Nat} {f k : Int} {i : Nat} {vs : Nat → Value} (h : PRow w g n f k i vs) (hn : 0 < n) : g < w.heap.size := by
  obtain ⟨h1, _⟩ := h.room 0 (by omega)
  obtain ⟨v, hv⟩ := Option.isSome_iff_exists.1 h1
  exact World.block_lt_of_cell? w _ hv

theorem PRow.push {w : World} {g n : Nat} {f k : Int} {i : Nat} {vs : Nat → Value} (h : PRow w g n f k i vs) (hi : i < n) (v : Value) :
    PRow (w.setCells g (i * 5) (parL f k i n v)) g n f k (i + 1) (fun j => if j = i then v else vs j) := by
  refine ⟨World.there_setCells h.room _ _ _, fun j hj => ?_⟩
  by_cases hji : j = i
  · subst hji
    rw [if_pos rfl]
    exact World.rangeAt_setCells_same w g (j * 5) _ (there_part h.room (by show j * 5 + 5 ≤ n * 5; omega))
  · rw [if_neg hji]
    exact World.rangeAt_setCells_apart (h.at_ j (by omega)) g (i * 5) _ (.inr (.inl (by show j * 5 + 5 ≤ i * 5; omega)))

theorem PRow.cells {w : World} {g n : Nat} {f k : Int} {i : Nat} {vs : Nat → Value} (h : PRow w g n f k i vs) {j : Nat} (hj : j < i) :
    w.cell? ⟨g, j * 5, none⟩ = some (.int .i64 f) ∧ w.cell? ⟨g, j * 5 + 1, none⟩ = some (.int .u32 k) ∧ w.cell? ⟨g, j * 5 + 2, none⟩ = some (.int .i64 j) ∧ w.cell? ⟨g, j * 5 + 3, none⟩ = some (.int .i64 n) ∧ w.cell? ⟨g, j * 5 + 4, none⟩ = some (vs j) :=
  ⟨h.at_ j hj 0 _ rfl, h.at_ j hj 1 _ rfl, h.at_ j hj 2 _ rfl, h.at_ j hj 3 _ rfl, h.at_ j hj 4 _ rfl⟩

theorem prow_new (w : World) (f k : Int) (n : Nat) (vs : Nat → Value) (z : Array Value) (t : TypeId) : PRow (w.alloc (.cells (madeCells z (n * 5)) t (0, 0))) w.heap.size n f k 0 vs := by
  refine ⟨fun j hj => ?_, fun j hj => absurd hj (by omega)⟩
  have q := heap_alloc_new w (.cells (madeCells z (n * 5)) t (0, 0))
  rw [Nat.zero_add]
  constructor
  · rw [cell_of_row _ _ j _ _ _ q, Array.getElem?_eq_getElem (by rw [size_madeCells]; exact hj)]
    rfl
  · exact vfree q j

/-- A message's part, and how many there are. -/
def chunk (l : List UInt8) (j : Nat) : List UInt8 := (l.drop (j * 48)).take 48
def numP (l : List UInt8) : Nat := max 1 ((l.length + 47) / 48)

theorem chunk_length (l : List UInt8) (j : Nat) : (chunk l j).length = min 48 (l.length - j * 48) := by
  unfold chunk; rw [List.length_take, List.length_drop]

theorem numP_bounds {l : List UInt8} (h : l.length ≤ 4800) : 1 ≤ numP l ∧ numP l ≤ 100 := by unfold numP; omega

theorem chunk_chk {l : List UInt8} {f : Int} (hf : 0 ≤ f ∧ f < 16) (hl : l.length ≤ 4800) {j : Nat} (hj : j < numP l) : pchk f j (numP l) (chunk l j).length = 0 := by
  apply pchk_of
  rw [chunk_length]
  have hb := numP_bounds hl
  have hn : numP l = max 1 ((l.length + 47) / 48) := rfl
  refine ⟨by omega, by omega, by omega, by omega, ?_, ?_⟩
  · by_cases h : j + 1 = numP l
    · right; omega
    · left; omega
  · by_cases h : numP l = 1
    · right; omega
    · left; omega

/-- The parts, one behind the other, are the message. -/
theorem chunks_take (l : List UInt8) : ∀ i, ((List.range i).map (chunk l)).flatten = l.take (i * 48)
  | 0 => by simp
  | i + 1 => by
    rw [List.range_succ, List.map_append, List.flatten_append, chunks_take l i]
    simp only [List.map_cons, List.map_nil, List.flatten_cons, List.flatten_nil, List.append_nil]
    unfold chunk
    rw [show (i + 1) * 48 = i * 48 + 48 by omega, List.take_add]

theorem chunks_all (l : List UInt8) : ((List.range (numP l)).map (chunk l)).flatten = l := by
  rw [chunks_take, List.take_of_length_le (by unfold numP; omega)]
end
end Go.Proofs.Ytjegdbkkojaacaa
