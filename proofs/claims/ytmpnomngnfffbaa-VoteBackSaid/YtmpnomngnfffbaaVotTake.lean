/-
  Members and entries, decoded from their encoding.
-/
import Derived.Test.YtmpnomngnfffbaaVotPut
import Derived.Laws.MakeOwn
namespace Go.Proofs.Ytmpnomngnfffbaa
open Go.RowKit
set_option maxRecDepth 100000

theorem memE_drop (m : List Int) (k : Nat) (hk : k < m.length) : memE (m.drop k) = be2 m[k].toNat ++ memE (m.drop (k + 1)) := by
  rw [List.drop_eq_getElem_cons hk]
  rfl

theorem failS_ok (l : List UInt8) (e : Int) : failS (l, e) 0 = (l, e) := by unfold failS; rw [if_pos (.inl rfl)]

theorem cell_row2 {w : World} {g j : Nat} {R : Array Value} {T : TypeId} (h : w.heap[g]? = some (.cells R T (0, 0))) : w.cell? ⟨g, j, none⟩ = R[j]? := by
  simp [World.cell?, h]

/-- A row of ints of which the first k are known. -/
def RowK (w : World) (g K : Nat) (m : List Int) (k : Nat) : Prop := ∃ R : Array Value, w.heap[g]? = some (.cells R 3 (0, 0)) ∧ R.size = K ∧ ∀ j, (hj : j < m.length) → j < k → R[j]? = some (.int .i64 m[j])

set_option maxHeartbeats 4000000 in
theorem takeMembers_any (b : Nat) (v : Value) (m : List Int) (rest : List UInt8) (w : World) (hlen : m.length ≤ 16) (h16 : In16 m) (hck : chkM m = 0) (hR : Rd w b v (be2 m.length ++ memE m ++ rest) 0) :
    Calls Try.prog 40 #[.pointer (some ⟨b, 0, none⟩)] w fun e w' => ∃ u, e = .returned u ∧ SI w' u m ∧ Reads b v rest 0 w w' ∧ (∀ k, u.ownBlock = some k → w.heap.size ≤ k) := by
  obtain ⟨i0, hi, hz0, hz1, hz2⟩ := info_parts Try.infoInt
  have H16 := Lib.hid h16
  have HCK := Lib.hid hck
  have HOV := Lib.hid hR.old
  have hb := hR.lt
  clear h16 hck
  go_enter Try.func40, Try.ntmps40
  go_wp2_with fail
  refine (within_any b v (be2 m.length ++ memE m ++ rest) 0 16 w hR).mono ?_
  rintro e w1 ⟨rfl, rd1⟩
  rw [List.append_assoc, withinS_be2 m.length (by omega) _ 16 (by omega)] at *
  have R1 := Lib.hid rd1
  clear rd1 hR
  obtain ⟨K, hK⟩ : ∃ K, K = m.length := ⟨_, rfl⟩
  have HK := Lib.hid hK
  have hmk : ∀ W : World, (Instr.makeSlice 34 (.int .i64 (K : Int)) (.int .i64 (K : Int))).run Try.prog W = .ok (.slice (some ⟨W.heap.size, 0, none⟩) K K) (W.alloc (.cells (madeCells #[.int .i64 0] K) 3)) :=
    fun W => run_make_row' _ 3 (.int .i64 0) 8 Try.underlying34 Try.infoInt rfl .i64 .i64 K (by omega) (by omega) W
  rw [← hK] at hlen ⊢
  clear hK
  dsimp only
  go_upto_region 3 with fail
  obtain ⟨v1, r1, f1, o1⟩ := R1.out
  have q2 : RowK (w1.alloc (.cells (madeCells #[.int .i64 0] K) 3)) w1.heap.size K m 0 := ⟨_, heap_alloc_new w1 _, size_madeCells _ _, fun j _ h => absurd h (by omega)⟩
  have f2 : Fr (fun _ => False) w1 (w1.alloc (.cells (madeCells #[.int .i64 0] K) 3)) := (Fr.refl _ _).alloc _
  generalize w1.alloc (.cells (madeCells #[.int .i64 0] K) 3) = w2 at *
  obtain ⟨gl, hgl⟩ : ∃ g, g = w1.heap.size := ⟨_, rfl⟩
  rw [← hgl] at q2 ⊢
  have HG : Hid (w.heap.size ≤ gl) := Lib.hid (by have := f1.size; omega)
  have R2 : Hid (Reads b v (memE (m.drop 0) ++ rest) 0 w w2) := Lib.hid ⟨v1, r1.fr f2 (fun h => h) (fun _ _ h => h), f1.trans f2 (fun _ _ h => h.elim), o1⟩
  have Q2 := Lib.hid q2
  clear q2 f2 r1 f1 o1 R1 hgl hmk
  go_loopg [10] K (fun gh u10 wr => ∃ k : Nat, k ≤ K ∧ gh = K - k ∧ u10 = .int .i64 k ∧ Hid (Reads b v (memE (m.drop k) ++ rest) 0 w wr) ∧ Hid (RowK wr gl K m k))
  case atStart => exact ⟨0, Nat.zero_le _, rfl, rfl, R2, Q2⟩
  case round =>
    obtain ⟨k, hk, rfl, rfl, HR, HQ⟩ := hrel
    by_cases hlt : k < K
    case neg =>
      obtain rfl : k = K := by omega
      have hRd := HR.out
      rw [HK.out, List.drop_length] at hRd
      have HR2 : Hid (Reads b v rest 0 w wr) := Lib.hid hRd
      have hsi : SI wr (.slice (some ⟨gl, 0, none⟩) m.length k) m := by
        obtain ⟨R, hq, hsz, hr⟩ := HQ.out
        refine SIc.sees (fun _ => ⟨Nat.le_of_eq HK.out.symm, gl, 0, rfl, fun j hj => ?_⟩)
        rw [Nat.zero_add, cell_row2 hq]
        exact hr j hj (by rw [HK.out]; exact hj)
      rw [← HK.out] at hsi
      have HSI := Lib.hid hsi
      have hsc : SIc wr (some ⟨gl, 0, none⟩) k m := by
        obtain ⟨R, hq, hsz, hr⟩ := HQ.out
        refine (fun _ => ⟨Nat.le_of_eq HK.out.symm, gl, 0, rfl, fun j hj => ?_⟩)
        rw [Nat.zero_add, cell_row2 hq]
        exact hr j hj (by rw [HK.out]; exact hj)
      have htm := tmembers_any m (some ⟨gl, 0, none⟩) k wr hsc (by have := HK.out; omega)
      rw [← HK.out, HCK.out] at htm
      have HTM := Lib.hid htm
      clear hRd hsi htm hsc HR HQ
      go_wp2_with fail
      refine HTM.out.mono ?_
      rintro e wq ⟨rfl, rfl⟩
      obtain ⟨v3, r3, f3, o3⟩ := HR2.out
      have HF3 := Lib.hid f3
      have HO3 := Lib.hid o3
      have HR3 := Lib.hid r3
      clear r3 f3 o3
      dsimp only
      go_wp2_with fail
      refine (fail_any b v3 rest 0 0 wr HR3.out).mono ?_
      rintro e w4 ⟨rfl, rd4⟩
      rw [failS_ok] at rd4
      have hgb : Hid (b < w.heap.size) := Lib.hid hb
      have HS4 : Hid (SI w4 (.slice (some ⟨gl, 0, none⟩) k k) m) := Lib.hid (by
        obtain ⟨_, _, f4, _⟩ := rd4
        exact HSI.out.keep f4 (.inr fun j hj e => by have hj' : gl = j := Option.some.inj hj; have := HG.out; have := hgb.out; omega))
      have HR4 : Hid (Reads b v rest 0 w w4) := Lib.hid (Reads.trans HF3.out HO3.out rd4)
      clear rd4 hgb
      dsimp only
      go_wp2_with fail
      go_ret
      exact ⟨_, rfl, HS4.out, HR4.out, fun j hj => by have hj' : gl = j := Option.some.inj hj; have := HG.out; omega⟩
    obtain ⟨v3, r3, f3, o3⟩ := HR.out
    have hkm : k < m.length := by have := HK.out; omega
    have hzb := H16.out _ (List.getElem_mem hkm)
    obtain ⟨z, hz⟩ : ∃ z, z = m[k] := ⟨_, rfl⟩
    rw [← hz] at hzb
    obtain ⟨hz0, hz1'⟩ := hzb
    have hnum : numS (memE (m.drop k) ++ rest, 0) 2 = (z.toNat, (memE (m.drop (k + 1)) ++ rest, 0)) := by
      rw [memE_drop m k hkm, ← hz, List.append_assoc, numS_be2 z.toNat (by omega)]
    have hrw := rword_any b v3 (memE (m.drop k) ++ rest) 0 wr r3
    rw [hnum] at hrw
    have HRW := Lib.hid hrw
    have HF3 := Lib.hid f3
    have HO3 := Lib.hid o3
    have HZ := Lib.hid hz
    clear r3 f3 o3 hnum hrw HR hz
    go_wp2_with fail
    refine HRW.out.mono ?_
    rintro e w4 ⟨rfl, rd4⟩
    have hzz : ((z.toNat : Nat) : Int) = z := by omega
    obtain ⟨R, hq, hsz, hr⟩ := HQ.out
    obtain ⟨v5, r5, f5, o5⟩ := rd4
    have q5 := crow_kept hq f5 (by have := HG.out; omega)
    have hck : w4.cell? ⟨gl, k, none⟩ = some (R[k]'(by omega)) := by rw [cell_row2 q5]; exact Array.getElem?_eq_getElem _
    have hfz := vfree q5 k
    have HQ5 := Lib.hid (And.intro q5 (And.intro hsz hr))
    have HR5 : Hid (Rd w4 b v5 (memE (m.drop (k + 1)) ++ rest) 0) := Lib.hid r5
    have HF5 := Lib.hid (HF3.out.trans f5 (fun _ _ h => h))
    have HO5 : Hid (v5.ownBlock = v.ownBlock ∨ v5.ownBlock = none) := Lib.hid (by
      rcases o5 with e | e
      · rw [e]; exact HO3.out
      · exact .inr e)
    clear hq hr r5 f5 o5 q5 HQ
    dsimp only
    rw [hzz]
    clear hzz
    go_wp2_with fail
    go_roundg (K - (k + 1))
    case measure => omega
    case rel =>
      have f6 : Fr (fun j => j = gl) w4 (w4.setCell ⟨gl, k, none⟩ (.int .i64 z)) := (Fr.refl (fun j => j = gl) w4).setCell (p := ⟨gl, k, none⟩) (fun _ => rfl) _
      refine ⟨k + 1, by omega, rfl, by congr 1, Lib.hid ⟨v5, HR5.out.fr f6 (fun e => by have := HG.out; omega) (fun j hj e => ?_), HF5.out.trans f6 (fun j hj e => by have := HG.out; omega), HO5.out⟩, Lib.hid ⟨R.setIfInBounds k (.int .i64 z), heap_setCell_same w4 gl k R _ _ HQ5.out.1, by rw [Array.size_setIfInBounds]; exact HQ5.out.2.1, fun j hj hjk => ?_⟩⟩
      · rcases HO5.out with h | h
        · rw [h] at hj
          have := HOV.out j hj
          have := HG.out
          omega
        · rw [h] at hj; cases hj
      · rw [Array.getElem?_setIfInBounds]
        by_cases hjk2 : k = j
        · subst hjk2
          rw [if_pos rfl, if_pos (by have := HQ5.out.2.1; omega), HZ.out]
        · rw [if_neg hjk2]
          exact HQ5.out.2.2 j hj (by omega)

/-- Of an entry's bytes: the entry. -/
def Took (b : Nat) (v : Value) (x : En) (rest : List UInt8) (w : World) (e : Ending) (w' : World) : Prop :=
  ∃ v' u', e = .returned (x.val v' u') ∧ ES w' x v' u' ∧ Reads b v rest 0 w w' ∧ ∀ g, g < w.heap.size → Away g x v' u'

theorem Reads.box {b g : Nat} {v : Value} {l : List UInt8} {w w1 w2 : World} (h : Reads b v l 0 w w1) (f : Fr (fun k => k = g) w1 w2) (hg : w.heap.size ≤ g) (hb : b < w.heap.size) (hv : ∀ k, v.ownBlock = some k → k < w.heap.size) : Reads b v l 0 w w2 := by
  obtain ⟨v', r, f1, o⟩ := h
  refine ⟨v', r.fr f (fun e => by omega) (fun k hk e => ?_), f1.trans f (fun k hk e => by omega), o⟩
  rcases o with h | h
  · rw [h] at hk; have := hv k hk; omega
  · rw [h] at hk; cases hk

theorem Reads.later {b : Nat} {v : Value} {l : List UInt8} {w w1 w2 : World} (f : Fr (fun _ => False) w w1) (h : Reads b v l 0 w1 w2) : Reads b v l 0 w w2 := by
  obtain ⟨v', r, f1, o⟩ := h
  exact ⟨v', r, (f.mono (fun _ _ h => h.elim)).trans f1 (fun _ _ h => h), o⟩

set_option maxHeartbeats 8000000 in
theorem takeAny_any (b : Nat) (v : Value) (x : En) (rest : List UInt8) (w : World) (hx : EnOk x) (hR : Rd w b v (entB x ++ rest) 0) :
    Calls Try.prog 29 #[.pointer (some ⟨b, 0, none⟩)] w fun e w' => Took b v x rest w e w' := by
  have hb := hR.lt
  have HOV := Lib.hid hR.old
  have q0 := heap_alloc_new w (oEn 0 0 0 0 nilS nilS)
  have f0 : Fr (fun _ => False) w (w.alloc (oEn 0 0 0 0 nilS nilS)) := (Fr.refl _ _).alloc _
  obtain ⟨k0, k1, t0, t1, n0, n1, p0, p1, l1, m1, mb, ck, nc, nm⟩ := hx
  go_enter Try.func29, Try.ntmps29
  go_upto_region 1 with fail
  generalize w.alloc (oEn 0 0 0 0 nilS nilS) = w0 at *
  obtain ⟨g2, hg2⟩ : ∃ g, g = w.heap.size := ⟨_, rfl⟩
  rw [← hg2] at q0 ⊢
  have HG : Hid (g2 = w.heap.size ∧ b < w.heap.size) := Lib.hid ⟨hg2, hb⟩
  have R0 := hR.fr f0 (fun h => h) (fun _ _ h => h)
  have Q0 := Lib.hid q0
  have F0 := Lib.hid f0
  clear q0 f0 hg2 hb hR
  have hrw := rword_any b v (entB x ++ rest) 0 w0 R0
  have hnum : numS (entB x ++ rest, 0) 2 = (x.k.toNat, ((if x.k = 1 then callB x.t x.n x.p x.l else if x.k = 2 then be2 x.m.length ++ memE x.m else []) ++ rest, 0)) := by
    unfold entB
    rw [List.append_assoc, numS_be2 _ (by omega)]
  rw [hnum] at hrw
  clear hnum R0
  rcases (show x.k = 0 ∨ x.k = 1 ∨ x.k = 2 by omega) with h | h | h
  · rw [if_neg (by omega), if_neg (by omega), List.nil_append, h] at hrw
    have HRW := Lib.hid hrw
    have hz : x = En.zero := by
      obtain ⟨a1, a2, a3, a4⟩ := nc (by omega)
      have a5 := nm (by omega)
      cases x
      simp only at *
      subst a1 a2 a3 a4 a5 h
      rfl
    subst hz
    clear hrw nc nm mb ck h
    go_wp2_with fail
    refine HRW.out.mono ?_
    rintro e w1 ⟨rfl, rd1⟩
    have Q1 : w1.heap[g2]? = some (oEn 0 0 0 0 nilS nilS) := by
      obtain ⟨_, _, f1, _⟩ := rd1
      exact crow_kept Q0.out f1 (by have := HG.out; omega)
    have RD := Lib.hid (Reads.later F0.out rd1)
    clear rd1
    obtain ⟨c0, c1, c2, c3, c4, c5⟩ := en_cells Q1
    obtain ⟨z0, z1, z2, z3, z4, z5⟩ := vfree6 Q1
    have HQ1 := Lib.hid Q1
    clear Q1
    dsimp only
    go_wp2_with fail
    have hq := cst6 (y0 := .int .u8 0) (y1 := .int .u16 0) (y2 := .int .u16 0) (y3 := .int .i64 0) (y4 := nilS) (y5 := nilS) HQ1.out
    have hf := cfr6 (.int .u8 0) (.int .u16 0) (.int .u16 0) (.int .i64 0) (nilS) (nilS) (b := g2) (S := fun k => k = g2) (Fr.refl _ w1) (fun _ => rfl)
    refine bodyPost_ret (results_cell_row rfl _ _ g2 36 _ _ _ rfl hq Try.underlying36 rfl (by kernel_rfl)) rfl ?_
    exact ⟨nilS, nilS, rfl, es_zero _, RD.out.box hf (by have := HG.out; omega) HG.out.2 HOV.out, fun _ _ => ⟨.inl rfl, .inl rfl⟩⟩
  · rw [if_pos h, h] at hrw
    have HRW := Lib.hid hrw
    have HT := Lib.hid (takeS_call x.t x.n x.p x.l rest t0 t1 n0 n1 p0 p1 l1)
    have hm := nm (by omega)
    have HM := Lib.hid hm
    have HK := Lib.hid h
    clear hrw nc nm mb ck hm h
    go_wp2_with fail
    refine HRW.out.mono ?_
    rintro e w1 ⟨rfl, v1, r1, f1, o1⟩
    have HTK := take_any b v1 (callB x.t x.n x.p x.l ++ rest) 0 w1 r1
    rw [HT.out] at HTK
    have ht := Lib.hid HTK
    have Q1 := Lib.hid (crow_kept Q0.out f1 (by have := HG.out; omega))
    have FF1 := Lib.hid f1
    have OO1 := Lib.hid o1
    have hs1 := f1.size
    have hb1 := r1.lt
    clear HTK r1 f1 o1
    dsimp only
    go_wp2_with fail
    refine ht.out.mono ?_
    rintro e w2 ⟨u, rfl, rd2, hu⟩
    obtain ⟨v', rfl, hsee, g, hg1, hg2', _⟩ : ∃ v', u = cv x.t x.n x.p v' ∧ Sees w2 v' x.l ∧ ∃ g, v'.ownBlock = some g ∧ w1.heap.size ≤ g ∧ g < w2.heap.size := by
      rcases hu with ⟨_, v', e, hs, hg⟩ | ⟨hne, _⟩
      · refine ⟨v', ?_, hs, hg⟩
        rw [e]
        show cv ((x.t.toNat : Nat) : Int) ((x.n.toNat : Nat) : Int) ((x.p.toNat : Nat) : Int) v' = _
        rw [Int.toNat_of_nonneg t0, Int.toNat_of_nonneg n0, Int.toNat_of_nonneg p0]
      · exact absurd rfl hne
    have HR2 : Hid (Reads b v rest 0 w w2) := Lib.hid (Reads.later F0.out (Reads.trans FF1.out OO1.out rd2))
    have Q2 : w2.heap[g2]? = some (oEn 0 0 0 0 nilS nilS) := by
      obtain ⟨_, _, f2, _⟩ := rd2
      exact crow_kept Q1.out f2 (by have := HG.out; omega)
    obtain ⟨a3, k3, hv3, _⟩ := hsee.shape
    subst hv3
    have HS := Lib.hid hsee
    have HOW : Hid (∀ k, (Value.slice a3 x.l.length k3).ownBlock = some k → w0.heap.size ≤ k) := Lib.hid (fun k hk => by rw [hg1] at hk; cases hk; omega)
    have hq0 := lt_of Q0.out
    have HQ0 := Lib.hid hq0
    clear rd2 hu hg1 hg2' hsee hs1 hb1 hq0
    obtain ⟨c0, c1, c2, c3, c4, c5⟩ := en_cells Q2
    obtain ⟨z0, z1, z2, z3, z4, z5⟩ := vfree6 Q2
    have HQ2 := Lib.hid Q2
    clear Q2
    unfold cv
    dsimp only
    go_wp2_with fail
    have hq := cst6 (y0 := .int .u8 1) (y1 := .int .u16 x.t) (y2 := .int .u16 x.n) (y3 := .int .i64 x.p) (y4 := .slice a3 x.l.length k3) (y5 := nilS) HQ2.out
    have hf := cfr6 (.int .u8 1) (.int .u16 x.t) (.int .u16 x.n) (.int .i64 x.p) (.slice a3 x.l.length k3) (nilS) (b := g2) (S := fun k => k = g2) (Fr.refl _ w2) (fun _ => rfl)
    refine bodyPost_ret (results_cell_row rfl _ _ g2 36 _ _ _ rfl hq Try.underlying36 rfl (by kernel_rfl)) rfl ?_
    refine ⟨.slice a3 x.l.length k3, nilS, ?_, ⟨HS.out.keep hf (.inr fun k hk e => by have := HOW.out k hk; have := HQ0.out; omega), by rw [HM.out]; exact SI.nil _⟩, HR2.out.box hf (by have := HG.out; omega) HG.out.2 HOV.out, fun gq hgq => ⟨.inr (fun e => by have := HOW.out gq e; have := F0.out.size; omega), .inl HM.out⟩⟩
    show Ending.returned _ = .returned (ev x.k x.t x.n x.p _ _)
    rw [HK.out]
  · rw [if_neg (by omega), if_pos h, h] at hrw
    have HRW := Lib.hid hrw
    obtain ⟨e1, e2, e3, e4⟩ := nc (by omega)
    have HN := Lib.hid (And.intro (And.intro e1 e2) (And.intro e3 e4))
    have hck : chkM x.m = 0 := by
      have := ck
      unfold En.chk at this
      rw [if_neg (by omega), if_neg, if_neg (by omega), if_pos h] at this
      · exact this
      · rintro (⟨_, hh⟩ | ⟨hh, _⟩)
        · exact hh ⟨e1, e2, e3, e4⟩
        · exact hh h
    have HCK := Lib.hid hck
    have HMB := Lib.hid mb
    have HK := Lib.hid h
    clear hrw nc nm mb ck h e1 e2 e3 e4 hck
    go_wp2_with fail
    refine HRW.out.mono ?_
    rintro e w1 ⟨rfl, v1, r1, f1, o1⟩
    have ht := Lib.hid (takeMembers_any b v1 x.m rest w1 m1 HMB.out HCK.out r1)
    have Q1 := Lib.hid (crow_kept Q0.out f1 (by have := HG.out; omega))
    have FF1 := Lib.hid f1
    have OO1 := Lib.hid o1
    have hs1 := f1.size
    clear r1 f1 o1
    dsimp only
    go_wp2_with fail
    refine ht.out.mono ?_
    rintro e w2 ⟨u, rfl, hsi, rd2, hge⟩
    have HR2 : Hid (Reads b v rest 0 w w2) := Lib.hid (Reads.later F0.out (Reads.trans FF1.out OO1.out rd2))
    have Q2 : w2.heap[g2]? = some (oEn 0 0 0 0 nilS nilS) := by
      obtain ⟨_, _, f2, _⟩ := rd2
      exact crow_kept Q1.out f2 (by have := HG.out; omega)
    obtain ⟨a3, k3, hv3, _⟩ := hsi.shape
    subst hv3
    have HS := Lib.hid hsi
    have hq0 := lt_of Q0.out
    have HOW : Hid (∀ k, (Value.slice a3 x.m.length k3).ownBlock = some k → w0.heap.size ≤ k) := Lib.hid (fun k hk => by have := hge k hk; omega)
    have HQ0 := Lib.hid hq0
    clear rd2 hge hsi hs1 hq0
    obtain ⟨c0, c1, c2, c3, c4, c5⟩ := en_cells Q2
    obtain ⟨z0, z1, z2, z3, z4, z5⟩ := vfree6 Q2
    have HQ2 := Lib.hid Q2
    clear Q2
    dsimp only
    go_wp2_with fail
    have hq := cst6 (y0 := .int .u8 2) (y1 := .int .u16 0) (y2 := .int .u16 0) (y3 := .int .i64 0) (y4 := nilS) (y5 := .slice a3 x.m.length k3) HQ2.out
    have hf := cfr6 (.int .u8 2) (.int .u16 0) (.int .u16 0) (.int .i64 0) (nilS) (.slice a3 x.m.length k3) (b := g2) (S := fun k => k = g2) (Fr.refl _ w2) (fun _ => rfl)
    refine bodyPost_ret (results_cell_row rfl _ _ g2 36 _ _ _ rfl hq Try.underlying36 rfl (by kernel_rfl)) rfl ?_
    refine ⟨nilS, .slice a3 x.m.length k3, ?_, ⟨by rw [HN.out.2.2]; exact .inl ⟨rfl, _, _, rfl⟩, HS.out.keep hf (.inr fun k hk e => by have := HOW.out k hk; have := HQ0.out; omega)⟩, HR2.out.box hf (by have := HG.out; omega) HG.out.2 HOV.out, fun gq hgq => ⟨.inl HN.out.2.2, .inr (fun e => by have := HOW.out gq e; have := F0.out.size; omega)⟩⟩
    show Ending.returned _ = .returned (ev x.k x.t x.n x.p _ _)
    rw [HK.out, HN.out.1.1, HN.out.1.2, HN.out.2.1]

set_option maxHeartbeats 8000000 in
theorem vtake_any (b : Nat) (v : Value) (x : En) (rest : List UInt8) (w : World) (hx : EnOk x) (hR : Rd w b v (entB x ++ rest) 0) :
    Calls Try.prog 13 #[.pointer (some ⟨b, 0, none⟩)] w fun e w' => ∃ v' u', e = .returned (x.val v' u') ∧ ES w' x v' u' ∧ Reads b v rest 0 w w' := by
  have hb := hR.lt
  have HOV := Lib.hid hR.old
  have HX := Lib.hid hx
  have q0 := heap_alloc_new w (oEn 0 0 0 0 nilS nilS)
  have f0 : Fr (fun _ => False) w (w.alloc (oEn 0 0 0 0 nilS nilS)) := (Fr.refl _ _).alloc _
  clear hx
  go_enter Try.func13, Try.ntmps13
  go_upto_region 1 with fail
  generalize w.alloc (oEn 0 0 0 0 nilS nilS) = w0 at *
  obtain ⟨g2, hg2⟩ : ∃ g, g = w.heap.size := ⟨_, rfl⟩
  rw [← hg2] at q0 ⊢
  have HG : Hid (g2 = w.heap.size ∧ b < w.heap.size) := Lib.hid ⟨hg2, hb⟩
  have HT := Lib.hid (takeAny_any b v x rest w0 HX.out (hR.fr f0 (fun h => h) (fun _ _ h => h)))
  have Q0 := Lib.hid q0
  have F0 := Lib.hid f0
  clear q0 f0 hg2 hb hR
  go_wp2_with fail
  refine HT.out.mono ?_
  rintro e w1 ⟨v1, u1, rfl, hes, rd1, haw⟩
  obtain ⟨a3, k3, hv3, _⟩ := hes.1.shape
  obtain ⟨a4, k4, hu3, _⟩ := hes.2.shape
  subst hv3 hu3
  obtain ⟨v5, r5, f5, o5⟩ := rd1
  have f6 : Fr (fun _ => False) w1 (w1.alloc (x.obj (.slice a3 x.l.length k3) (.slice a4 x.m.length k4))) := (Fr.refl _ _).alloc _
  have q6 := heap_alloc_new w1 (x.obj (.slice a3 x.l.length k3) (.slice a4 x.m.length k4))
  have Q1 := crow_kept (crow_kept Q0.out f5 (by have := HG.out; omega)) f6 (fun h => h)
  have HES := Lib.hid (hes.fr f6)
  have HAW := Lib.hid (haw g2 (lt_of Q0.out))
  have HFF := Lib.hid (((F0.out.mono (fun _ _ h => h.elim)).trans f5 (fun _ _ h => h)).trans f6 (fun _ _ h => h.elim))
  have HR5 := Lib.hid (r5.fr f6 (fun h => h) (fun _ _ h => h))
  have HO5 := Lib.hid o5
  have hlt1 : g2 < w1.heap.size := by have := lt_of Q0.out; have := f5.size; omega
  dsimp only
  go_upto_region 2 with fail
  generalize w1.alloc (x.obj (.slice a3 x.l.length k3) (.slice a4 x.m.length k4)) = w2 at *
  obtain ⟨g3, hg3⟩ : ∃ g, g = w1.heap.size := ⟨_, rfl⟩
  rw [← hg3] at q6 ⊢
  clear hg3 hes r5 f5 o5 f6 haw
  obtain ⟨c0, c1, c2, c3, c4, c5⟩ := en_cells Q1
  obtain ⟨z0, z1, z2, z3, z4, z5⟩ := vfree6 Q1
  obtain ⟨d0, d1, d2, d3, d4, d5⟩ := en_cells q6
  have HQ1 := Lib.hid Q1
  clear Q1 q6 hlt1
  go_wp2_with fail
  refine (err_any b v5 rest 0 w2 HR5.out).mono ?_
  rintro e wq ⟨rfl, rfl⟩
  dsimp only
  go_wp2_with fail
  have hq := cst6 (y0 := .int .u8 x.k) (y1 := .int .u16 x.t) (y2 := .int .u16 x.n) (y3 := .int .i64 x.p) (y4 := .slice a3 x.l.length k3) (y5 := .slice a4 x.m.length k4) HQ1.out
  have hf := cfr6 (.int .u8 x.k) (.int .u16 x.t) (.int .u16 x.n) (.int .i64 x.p) (.slice a3 x.l.length k3) (.slice a4 x.m.length k4) (b := g2) (S := fun k => k = g2) (Fr.refl _ w2) (fun _ => rfl)
  refine bodyPost_ret (results_cell_row rfl _ _ g2 36 _ _ _ rfl hq Try.underlying36 rfl (by kernel_rfl)) rfl ?_
  have hR2 : Reads b v rest 0 w w2 := ⟨v5, HR5.out, HFF.out, HO5.out⟩
  exact ⟨_, _, rfl, HES.out.keep HAW.out hf, hR2.box hf (by have := HG.out; omega) HG.out.2 HOV.out⟩

end Go.Proofs.Ytmpnomngnfffbaa
