/-
  LetAny, part 7 of what it rests on: VotTake, LetDef, LetOnlyDef.
-/
import Derived.Test.YtjnbpgadgdjobaaS06
import Derived.Laws.MakeOwn
set_option linter.unusedVariables false
set_option linter.unusedSimpArgs false
set_option maxHeartbeats 64000000
namespace Go.Proofs.Ytjnbpgadgdjobaa
open Go.RowKit
open Go.Lib (hid)
section
set_option maxRecDepth 100000

theorem vt_lt {w : World} {b : Nat} {o : Obj} (h : w.heap[b]? = some o) : b < w.heap.size := (Array.getElem?_eq_some_iff.1 h).1

theorem memE_drop (m : List Int) (k : Nat) (hk : k < m.length) : memE (m.drop k) = be2 m[k].toNat ++ memE (m.drop (k + 1)) := by
  rw [List.drop_eq_getElem_cons hk]
  rfl

theorem failS_ok (l : List UInt8) (e : Int) : failS (l, e) 0 = (l, e) := by unfold failS; rw [if_pos (.inl rfl)]

theorem cell_row2 {w : World} {g j : Nat} {R : Array Value} {T : TypeId} (h : w.heap[g]? = some (.cells R T (0, 0))) : w.cell? ⟨g, j, none⟩ = R[j]? := by
  simp [World.cell?, h]

/-- A row of ints of which the first k are known. -/
def RowK (w : World) (g K : Nat) (m : List Int) (k : Nat) : Prop := ∃ R : Array Value, w.heap[g]? = some (.cells R 3 (0, 0)) ∧ R.size = K ∧ ∀ j, (hj : j < m.length) → j < k → R[j]? = some (.int .i64 m[j])

theorem takeMembers_any (b : Nat) (v : Value) (m : List Int) (rest : List UInt8) (w : World) (hlen : m.length ≤ 16) (h16 : In16 m) (hck : chkM m = 0) (hR : Rd w b v (be2 m.length ++ memE m ++ rest) 0) :
    Calls Try.prog 81 #[.pointer (some ⟨b, 0, none⟩)] w fun e w' => ∃ u, e = .returned u ∧ SI w' u m ∧ Reads b v rest 0 w w' ∧ (∀ k, u.ownBlock = some k → w.heap.size ≤ k) := by
  obtain ⟨i0, hi, hz0, hz1, hz2⟩ := info_parts Try.infoInt
  have H16 := Lib.hid h16
  have HCK := Lib.hid hck
  have HOV := Lib.hid hR.old
  have hb := hR.lt
  clear h16 hck
  go_enter Try.func81, Try.ntmps81
  go_wp2_with fail
  refine (within_any b v (be2 m.length ++ memE m ++ rest) 0 16 w hR).mono ?_
  rintro e w1 ⟨rfl, rd1⟩
  rw [List.append_assoc, withinS_be2 m.length (by omega) _ 16 (by omega)] at *
  have R1 := Lib.hid rd1
  clear rd1 hR
  obtain ⟨K, hK⟩ : ∃ K, K = m.length := ⟨_, rfl⟩
  have HK := Lib.hid hK
  have hmk : ∀ W : World, (Instr.makeSlice 42 (.int .i64 (K : Int)) (.int .i64 (K : Int))).run Try.prog W = .ok (.slice (some ⟨W.heap.size, 0, none⟩) K K) (W.alloc (.cells (madeCells #[.int .i64 0] K) 3)) :=
    fun W => run_make_row' _ 3 (.int .i64 0) 8 Try.underlying42 Try.infoInt rfl .i64 .i64 K (by omega) (by omega) W
  rw [← hK] at hlen ⊢
  clear hK
  dsimp only
  go_upto_region 3 with fail
  obtain ⟨v1, r1, f1, o1⟩ := R1.out
  have q2 : RowK (w1.alloc (.cells (madeCells #[.int .i64 0] K) 3)) w1.heap.size K m 0 := ⟨_, heap_alloc_new w1 _, size_madeCells _ _, fun j _ h => absurd h (by omega)⟩
  have f2 : Fr (fun _ => False) w1 (w1.alloc (.cells (madeCells #[.int .i64 0] K) 3)) := (Fr.refl _ _).alloc _
  generalize w1.alloc (.cells (madeCells #[.int .i64 0] K) 3) = w2 at *
  obtain ⟨gl, hgl⟩ : ∃ g, g = w1.heap.size := ⟨_, rfl⟩
  rw [← hgl] at q2 ⊢
  have HG : Hid (w.heap.size ≤ gl) := Lib.hid (by have := f1.size; omega)
  have R2 : Hid (Reads b v (memE (m.drop 0) ++ rest) 0 w w2) := Lib.hid ⟨v1, r1.fr f2 (fun h => h) (fun _ _ h => h), f1.trans f2 (fun _ _ h => h.elim), o1⟩
  have Q2 := Lib.hid q2
  clear q2 f2 r1 f1 o1 R1 hgl hmk
  go_loopg [10] K (fun gh u10 wr => ∃ k : Nat, k ≤ K ∧ gh = K - k ∧ u10 = .int .i64 k ∧ Hid (Reads b v (memE (m.drop k) ++ rest) 0 w wr) ∧ Hid (RowK wr gl K m k))
  case atStart => exact ⟨0, Nat.zero_le _, rfl, rfl, R2, Q2⟩
  case round =>
    obtain ⟨k, hk, rfl, rfl, HR, HQ⟩ := hrel
    by_cases hlt : k < K
    case neg =>
      obtain rfl : k = K := by omega
      have hRd := HR.out
      rw [HK.out, List.drop_length] at hRd
      have HR2 : Hid (Reads b v rest 0 w wr) := Lib.hid hRd
      have hsi : SI wr (.slice (some ⟨gl, 0, none⟩) m.length k) m := by
        obtain ⟨R, hq, hsz, hr⟩ := HQ.out
        refine SIc.sees (fun _ => ⟨Nat.le_of_eq HK.out.symm, gl, 0, rfl, fun j hj => ?_⟩)
        rw [Nat.zero_add, cell_row2 hq]
        exact hr j hj (by rw [HK.out]; exact hj)
      rw [← HK.out] at hsi
      have HSI := Lib.hid hsi
      have hsc : SIc wr (some ⟨gl, 0, none⟩) k m := by
        obtain ⟨R, hq, hsz, hr⟩ := HQ.out
        refine (fun _ => ⟨Nat.le_of_eq HK.out.symm, gl, 0, rfl, fun j hj => ?_⟩)
        rw [Nat.zero_add, cell_row2 hq]
        exact hr j hj (by rw [HK.out]; exact hj)
      have htm := tmembers_any m (some ⟨gl, 0, none⟩) k wr hsc (by have := HK.out; omega)
      rw [← HK.out, HCK.out] at htm
      have HTM := Lib.hid htm
      clear hRd hsi htm hsc HR HQ
      go_wp2_with fail
      refine HTM.out.mono ?_
      rintro e wq ⟨rfl, rfl⟩
      obtain ⟨v3, r3, f3, o3⟩ := HR2.out
      have HF3 := Lib.hid f3
      have HO3 := Lib.hid o3
      have HR3 := Lib.hid r3
      clear r3 f3 o3
      dsimp only
      go_wp2_with fail
      refine (fail_any b v3 rest 0 0 wr HR3.out).mono ?_
      rintro e w4 ⟨rfl, rd4⟩
      rw [failS_ok] at rd4
      have hgb : Hid (b < w.heap.size) := Lib.hid hb
      have HS4 : Hid (SI w4 (.slice (some ⟨gl, 0, none⟩) k k) m) := Lib.hid (by
        obtain ⟨_, _, f4, _⟩ := rd4
        exact HSI.out.keep f4 (.inr fun j hj e => by have hj' : gl = j := Option.some.inj hj; have := HG.out; have := hgb.out; omega))
      have HR4 : Hid (Reads b v rest 0 w w4) := Lib.hid (Reads.trans HF3.out HO3.out rd4)
      clear rd4 hgb
      dsimp only
      go_wp2_with fail
      go_ret
      exact ⟨_, rfl, HS4.out, HR4.out, fun j hj => by have hj' : gl = j := Option.some.inj hj; have := HG.out; omega⟩
    obtain ⟨v3, r3, f3, o3⟩ := HR.out
    have hkm : k < m.length := by have := HK.out; omega
    have hzb := H16.out _ (List.getElem_mem hkm)
    obtain ⟨z, hz⟩ : ∃ z, z = m[k] := ⟨_, rfl⟩
    rw [← hz] at hzb
    obtain ⟨hz0, hz1'⟩ := hzb
    have hnum : numS (memE (m.drop k) ++ rest, 0) 2 = (z.toNat, (memE (m.drop (k + 1)) ++ rest, 0)) := by
      rw [memE_drop m k hkm, ← hz, List.append_assoc, numS_be2 z.toNat (by omega)]
    have hrw := rword_any b v3 (memE (m.drop k) ++ rest) 0 wr r3
    rw [hnum] at hrw
    have HRW := Lib.hid hrw
    have HF3 := Lib.hid f3
    have HO3 := Lib.hid o3
    have HZ := Lib.hid hz
    clear r3 f3 o3 hnum hrw HR hz
    go_wp2_with fail
    refine HRW.out.mono ?_
    rintro e w4 ⟨rfl, rd4⟩
    have hzz : ((z.toNat : Nat) : Int) = z := by omega
    obtain ⟨R, hq, hsz, hr⟩ := HQ.out
    obtain ⟨v5, r5, f5, o5⟩ := rd4
    have q5 := crow_kept hq f5 (by have := HG.out; omega)
    have hck : w4.cell? ⟨gl, k, none⟩ = some (R[k]'(by omega)) := by rw [cell_row2 q5]; exact Array.getElem?_eq_getElem _
    have hfz := vfree q5 k
    have HQ5 := Lib.hid (And.intro q5 (And.intro hsz hr))
    have HR5 : Hid (Rd w4 b v5 (memE (m.drop (k + 1)) ++ rest) 0) := Lib.hid r5
    have HF5 := Lib.hid (HF3.out.trans f5 (fun _ _ h => h))
    have HO5 : Hid (v5.ownBlock = v.ownBlock ∨ v5.ownBlock = none) := Lib.hid (by
      rcases o5 with e | e
      · rw [e]; exact HO3.out
      · exact .inr e)
    clear hq hr r5 f5 o5 q5 HQ
    dsimp only
    rw [hzz]
    clear hzz
    go_wp2_with fail
    go_roundg (K - (k + 1))
    case measure => omega
    case rel =>
      have f6 : Fr (fun j => j = gl) w4 (w4.setCell ⟨gl, k, none⟩ (.int .i64 z)) := (Fr.refl (fun j => j = gl) w4).setCell (p := ⟨gl, k, none⟩) (fun _ => rfl) _
      refine ⟨k + 1, by omega, rfl, by congr 1, Lib.hid ⟨v5, HR5.out.fr f6 (fun e => by have := HG.out; omega) (fun j hj e => ?_), HF5.out.trans f6 (fun j hj e => by have := HG.out; omega), HO5.out⟩, Lib.hid ⟨R.setIfInBounds k (.int .i64 z), heap_setCell_same w4 gl k R _ _ HQ5.out.1, by rw [Array.size_setIfInBounds]; exact HQ5.out.2.1, fun j hj hjk => ?_⟩⟩
      · rcases HO5.out with h | h
        · rw [h] at hj
          have := HOV.out j hj
          have := HG.out
          omega
        · rw [h] at hj; cases hj
      · rw [Array.getElem?_setIfInBounds]
        by_cases hjk2 : k = j
        · subst hjk2
          rw [if_pos rfl, if_pos (by have := HQ5.out.2.1; omega), HZ.out]
        · rw [if_neg hjk2]
          exact HQ5.out.2.2 j hj (by omega)

/-- Of an entry's bytes: the entry. -/
def Took (b : Nat) (v : Value) (x : En) (rest : List UInt8) (w : World) (e : Ending) (w' : World) : Prop :=
  ∃ v' u', e = .returned (x.val v' u') ∧ ES w' x v' u' ∧ Reads b v rest 0 w w' ∧ ∀ g, g < w.heap.size → Away g x v' u'

theorem Reads.box {b g : Nat} {v : Value} {l : List UInt8} {w w1 w2 : World} (h : Reads b v l 0 w w1) (f : Fr (fun k => k = g) w1 w2) (hg : w.heap.size ≤ g) (hb : b < w.heap.size) (hv : ∀ k, v.ownBlock = some k → k < w.heap.size) : Reads b v l 0 w w2 := by
  obtain ⟨v', r, f1, o⟩ := h
  refine ⟨v', r.fr f (fun e => by omega) (fun k hk e => ?_), f1.trans f (fun k hk e => by omega), o⟩
  rcases o with h | h
  · rw [h] at hk; have := hv k hk; omega
  · rw [h] at hk; cases hk

theorem Reads.later {b : Nat} {v : Value} {l : List UInt8} {w w1 w2 : World} (f : Fr (fun _ => False) w w1) (h : Reads b v l 0 w1 w2) : Reads b v l 0 w w2 := by
  obtain ⟨v', r, f1, o⟩ := h
  exact ⟨v', r, (f.mono (fun _ _ h => h.elim)).trans f1 (fun _ _ h => h), o⟩

theorem takeAny_any (b : Nat) (v : Value) (x : En) (rest : List UInt8) (w : World) (hx : EnOk x) (hR : Rd w b v (entB x ++ rest) 0) :
    Calls Try.prog 78 #[.pointer (some ⟨b, 0, none⟩)] w fun e w' => Took b v x rest w e w' := by
  have hb := hR.lt
  have HOV := Lib.hid hR.old
  have q0 := heap_alloc_new w (oEn 0 0 0 0 nilS nilS)
  have f0 : Fr (fun _ => False) w (w.alloc (oEn 0 0 0 0 nilS nilS)) := (Fr.refl _ _).alloc _
  obtain ⟨k0, k1, t0, t1, n0, n1, p0, p1, l1, m1, mb, ck, nc, nm⟩ := hx
  go_enter Try.func78, Try.ntmps78
  go_upto_region 1 with fail
  generalize w.alloc (oEn 0 0 0 0 nilS nilS) = w0 at *
  obtain ⟨g2, hg2⟩ : ∃ g, g = w.heap.size := ⟨_, rfl⟩
  rw [← hg2] at q0 ⊢
  have HG : Hid (g2 = w.heap.size ∧ b < w.heap.size) := Lib.hid ⟨hg2, hb⟩
  have R0 := hR.fr f0 (fun h => h) (fun _ _ h => h)
  have Q0 := Lib.hid q0
  have F0 := Lib.hid f0
  clear q0 f0 hg2 hb hR
  have hrw := rword_any b v (entB x ++ rest) 0 w0 R0
  have hnum : numS (entB x ++ rest, 0) 2 = (x.k.toNat, ((if x.k = 1 then callB x.t x.n x.p x.l else if x.k = 2 then be2 x.m.length ++ memE x.m else []) ++ rest, 0)) := by
    unfold entB
    rw [List.append_assoc, numS_be2 _ (by omega)]
  rw [hnum] at hrw
  clear hnum R0
  rcases (show x.k = 0 ∨ x.k = 1 ∨ x.k = 2 by omega) with h | h | h
  · rw [if_neg (by omega), if_neg (by omega), List.nil_append, h] at hrw
    have HRW := Lib.hid hrw
    have hz : x = En.zero := by
      obtain ⟨a1, a2, a3, a4⟩ := nc (by omega)
      have a5 := nm (by omega)
      cases x
      simp only at *
      subst a1 a2 a3 a4 a5 h
      rfl
    subst hz
    clear hrw nc nm mb ck h
    go_wp2_with fail
    refine HRW.out.mono ?_
    rintro e w1 ⟨rfl, rd1⟩
    have Q1 : w1.heap[g2]? = some (oEn 0 0 0 0 nilS nilS) := by
      obtain ⟨_, _, f1, _⟩ := rd1
      exact crow_kept Q0.out f1 (by have := HG.out; omega)
    have RD := Lib.hid (Reads.later F0.out rd1)
    clear rd1
    obtain ⟨c0, c1, c2, c3, c4, c5⟩ := en_cells Q1
    obtain ⟨z0, z1, z2, z3, z4, z5⟩ := vfree6 Q1
    have HQ1 := Lib.hid Q1
    clear Q1
    dsimp only
    go_wp2_with fail
    have hq := cst6 (y0 := .int .u8 0) (y1 := .int .u16 0) (y2 := .int .u16 0) (y3 := .int .i64 0) (y4 := nilS) (y5 := nilS) HQ1.out
    have hf := cfr6 (.int .u8 0) (.int .u16 0) (.int .u16 0) (.int .i64 0) (nilS) (nilS) (b := g2) (S := fun k => k = g2) (Fr.refl _ w1) (fun _ => rfl)
    refine bodyPost_ret (results_cell_row rfl _ _ g2 44 _ _ _ rfl hq Try.underlying44 rfl (by kernel_rfl)) rfl ?_
    exact ⟨nilS, nilS, rfl, es_zero _, RD.out.box hf (by have := HG.out; omega) HG.out.2 HOV.out, fun _ _ => ⟨.inl rfl, .inl rfl⟩⟩
  · rw [if_pos h, h] at hrw
    have HRW := Lib.hid hrw
    have HT := Lib.hid (takeS_call x.t x.n x.p x.l rest t0 t1 n0 n1 p0 p1 l1)
    have hm := nm (by omega)
    have HM := Lib.hid hm
    have HK := Lib.hid h
    clear hrw nc nm mb ck hm h
    go_wp2_with fail
    refine HRW.out.mono ?_
    rintro e w1 ⟨rfl, v1, r1, f1, o1⟩
    have HTK := take_any b v1 (callB x.t x.n x.p x.l ++ rest) 0 w1 r1
    rw [HT.out] at HTK
    have ht := Lib.hid HTK
    have Q1 := Lib.hid (crow_kept Q0.out f1 (by have := HG.out; omega))
    have FF1 := Lib.hid f1
    have OO1 := Lib.hid o1
    have hs1 := f1.size
    have hb1 := r1.lt
    clear HTK r1 f1 o1
    dsimp only
    go_wp2_with fail
    refine ht.out.mono ?_
    rintro e w2 ⟨u, rfl, rd2, hu⟩
    obtain ⟨v', rfl, hsee, g, hg1, hg2', _⟩ : ∃ v', u = cv x.t x.n x.p v' ∧ Sees w2 v' x.l ∧ ∃ g, v'.ownBlock = some g ∧ w1.heap.size ≤ g ∧ g < w2.heap.size := by
      rcases hu with ⟨_, v', e, hs, hg⟩ | ⟨hne, _⟩
      · refine ⟨v', ?_, hs, hg⟩
        rw [e]
        show cv ((x.t.toNat : Nat) : Int) ((x.n.toNat : Nat) : Int) ((x.p.toNat : Nat) : Int) v' = _
        rw [Int.toNat_of_nonneg t0, Int.toNat_of_nonneg n0, Int.toNat_of_nonneg p0]
      · exact absurd rfl hne
    have HR2 : Hid (Reads b v rest 0 w w2) := Lib.hid (Reads.later F0.out (Reads.trans FF1.out OO1.out rd2))
    have Q2 : w2.heap[g2]? = some (oEn 0 0 0 0 nilS nilS) := by
      obtain ⟨_, _, f2, _⟩ := rd2
      exact crow_kept Q1.out f2 (by have := HG.out; omega)
    obtain ⟨a3, k3, hv3, _⟩ := hsee.shape
    subst hv3
    have HS := Lib.hid hsee
    have HOW : Hid (∀ k, (Value.slice a3 x.l.length k3).ownBlock = some k → w0.heap.size ≤ k) := Lib.hid (fun k hk => by rw [hg1] at hk; cases hk; omega)
    have hq0 := vt_lt Q0.out
    have HQ0 := Lib.hid hq0
    clear rd2 hu hg1 hg2' hsee hs1 hb1 hq0
    obtain ⟨c0, c1, c2, c3, c4, c5⟩ := en_cells Q2
    obtain ⟨z0, z1, z2, z3, z4, z5⟩ := vfree6 Q2
    have HQ2 := Lib.hid Q2
    clear Q2
    unfold cv
    dsimp only
    go_wp2_with fail
    have hq := cst6 (y0 := .int .u8 1) (y1 := .int .u16 x.t) (y2 := .int .u16 x.n) (y3 := .int .i64 x.p) (y4 := .slice a3 x.l.length k3) (y5 := nilS) HQ2.out
    have hf := cfr6 (.int .u8 1) (.int .u16 x.t) (.int .u16 x.n) (.int .i64 x.p) (.slice a3 x.l.length k3) (nilS) (b := g2) (S := fun k => k = g2) (Fr.refl _ w2) (fun _ => rfl)
    refine bodyPost_ret (results_cell_row rfl _ _ g2 44 _ _ _ rfl hq Try.underlying44 rfl (by kernel_rfl)) rfl ?_
    refine ⟨.slice a3 x.l.length k3, nilS, ?_, ⟨HS.out.keep hf (.inr fun k hk e => by have := HOW.out k hk; have := HQ0.out; omega), by rw [HM.out]; exact SI.nil _⟩, HR2.out.box hf (by have := HG.out; omega) HG.out.2 HOV.out, fun gq hgq => ⟨.inr (fun e => by have := HOW.out gq e; have := F0.out.size; omega), .inl HM.out⟩⟩
    show Ending.returned _ = .returned (ev x.k x.t x.n x.p _ _)
    rw [HK.out]
  · rw [if_neg (by omega), if_pos h, h] at hrw
    have HRW := Lib.hid hrw
    obtain ⟨e1, e2, e3, e4⟩ := nc (by omega)
    have HN := Lib.hid (And.intro (And.intro e1 e2) (And.intro e3 e4))
    have hck : chkM x.m = 0 := by
      have := ck
      unfold En.chk at this
      rw [if_neg (by omega), if_neg, if_neg (by omega), if_pos h] at this
      · exact this
      · rintro (⟨_, hh⟩ | ⟨hh, _⟩)
        · exact hh ⟨e1, e2, e3, e4⟩
        · exact hh h
    have HCK := Lib.hid hck
    have HMB := Lib.hid mb
    have HK := Lib.hid h
    clear hrw nc nm mb ck h e1 e2 e3 e4 hck
    go_wp2_with fail
    refine HRW.out.mono ?_
    rintro e w1 ⟨rfl, v1, r1, f1, o1⟩
    have ht := Lib.hid (takeMembers_any b v1 x.m rest w1 m1 HMB.out HCK.out r1)
    have Q1 := Lib.hid (crow_kept Q0.out f1 (by have := HG.out; omega))
    have FF1 := Lib.hid f1
    have OO1 := Lib.hid o1
    have hs1 := f1.size
    clear r1 f1 o1
    dsimp only
    go_wp2_with fail
    refine ht.out.mono ?_
    rintro e w2 ⟨u, rfl, hsi, rd2, hge⟩
    have HR2 : Hid (Reads b v rest 0 w w2) := Lib.hid (Reads.later F0.out (Reads.trans FF1.out OO1.out rd2))
    have Q2 : w2.heap[g2]? = some (oEn 0 0 0 0 nilS nilS) := by
      obtain ⟨_, _, f2, _⟩ := rd2
      exact crow_kept Q1.out f2 (by have := HG.out; omega)
    obtain ⟨a3, k3, hv3, _⟩ := hsi.shape
    subst hv3
    have HS := Lib.hid hsi
    have hq0 := vt_lt Q0.out
    have HOW : Hid (∀ k, (Value.slice a3 x.m.length k3).ownBlock = some k → w0.heap.size ≤ k) := Lib.hid (fun k hk => by have := hge k hk; omega)
    have HQ0 := Lib.hid hq0
    clear rd2 hge hsi hs1 hq0
    obtain ⟨c0, c1, c2, c3, c4, c5⟩ := en_cells Q2
    obtain ⟨z0, z1, z2, z3, z4, z5⟩ := vfree6 Q2
    have HQ2 := Lib.hid Q2
    clear Q2
    dsimp only
    go_wp2_with fail
    have hq := cst6 (y0 := .int .u8 2) (y1 := .int .u16 0) (y2 := .int .u16 0) (y3 := .int .i64 0) (y4 := nilS) (y5 := .slice a3 x.m.length k3) HQ2.out
    have hf := cfr6 (.int .u8 2) (.int .u16 0) (.int .u16 0) (.int .i64 0) (nilS) (.slice a3 x.m.length k3) (b := g2) (S := fun k => k = g2) (Fr.refl _ w2) (fun _ => rfl)
    refine bodyPost_ret (results_cell_row rfl _ _ g2 44 _ _ _ rfl hq Try.underlying44 rfl (by kernel_rfl)) rfl ?_
    refine ⟨nilS, .slice a3 x.m.length k3, ?_, ⟨by rw [HN.out.2.2]; exact .inl ⟨rfl, _, _, rfl⟩, HS.out.keep hf (.inr fun k hk e => by have := HOW.out k hk; have := HQ0.out; omega)⟩, HR2.out.box hf (by have := HG.out; omega) HG.out.2 HOV.out, fun gq hgq => ⟨.inl HN.out.2.2, .inr (fun e => by have := HOW.out gq e; have := F0.out.size; omega)⟩⟩
    show Ending.returned _ = .returned (ev x.k x.t x.n x.p _ _)
    rw [HK.out, HN.out.1.1, HN.out.1.2, HN.out.2.1]

theorem vtake_any (b : Nat) (v : Value) (x : En) (rest : List UInt8) (w : World) (hx : EnOk x) (hR : Rd w b v (entB x ++ rest) 0) :
    Calls Try.prog 62 #[.pointer (some ⟨b, 0, none⟩)] w fun e w' => ∃ v' u', e = .returned (x.val v' u') ∧ ES w' x v' u' ∧ Reads b v rest 0 w w' := by
  have hb := hR.lt
  have HOV := Lib.hid hR.old
  have HX := Lib.hid hx
  have q0 := heap_alloc_new w (oEn 0 0 0 0 nilS nilS)
  have f0 : Fr (fun _ => False) w (w.alloc (oEn 0 0 0 0 nilS nilS)) := (Fr.refl _ _).alloc _
  clear hx
  go_enter Try.func62, Try.ntmps62
  go_upto_region 1 with fail
  generalize w.alloc (oEn 0 0 0 0 nilS nilS) = w0 at *
  obtain ⟨g2, hg2⟩ : ∃ g, g = w.heap.size := ⟨_, rfl⟩
  rw [← hg2] at q0 ⊢
  have HG : Hid (g2 = w.heap.size ∧ b < w.heap.size) := Lib.hid ⟨hg2, hb⟩
  have HT := Lib.hid (takeAny_any b v x rest w0 HX.out (hR.fr f0 (fun h => h) (fun _ _ h => h)))
  have Q0 := Lib.hid q0
  have F0 := Lib.hid f0
  clear q0 f0 hg2 hb hR
  go_wp2_with fail
  refine HT.out.mono ?_
  rintro e w1 ⟨v1, u1, rfl, hes, rd1, haw⟩
  obtain ⟨a3, k3, hv3, _⟩ := hes.1.shape
  obtain ⟨a4, k4, hu3, _⟩ := hes.2.shape
  subst hv3 hu3
  obtain ⟨v5, r5, f5, o5⟩ := rd1
  have f6 : Fr (fun _ => False) w1 (w1.alloc (x.obj (.slice a3 x.l.length k3) (.slice a4 x.m.length k4))) := (Fr.refl _ _).alloc _
  have q6 := heap_alloc_new w1 (x.obj (.slice a3 x.l.length k3) (.slice a4 x.m.length k4))
  have Q1 := crow_kept (crow_kept Q0.out f5 (by have := HG.out; omega)) f6 (fun h => h)
  have HES := Lib.hid (hes.fr f6)
  have HAW := Lib.hid (haw g2 (vt_lt Q0.out))
  have HFF := Lib.hid (((F0.out.mono (fun _ _ h => h.elim)).trans f5 (fun _ _ h => h)).trans f6 (fun _ _ h => h.elim))
  have HR5 := Lib.hid (r5.fr f6 (fun h => h) (fun _ _ h => h))
  have HO5 := Lib.hid o5
  have hlt1 : g2 < w1.heap.size := by have := vt_lt Q0.out; have := f5.size; omega
  dsimp only
  go_upto_region 2 with fail
  generalize w1.alloc (x.obj (.slice a3 x.l.length k3) (.slice a4 x.m.length k4)) = w2 at *
  obtain ⟨g3, hg3⟩ : ∃ g, g = w1.heap.size := ⟨_, rfl⟩
  rw [← hg3] at q6 ⊢
  clear hg3 hes r5 f5 o5 f6 haw
  obtain ⟨c0, c1, c2, c3, c4, c5⟩ := en_cells Q1
  obtain ⟨z0, z1, z2, z3, z4, z5⟩ := vfree6 Q1
  obtain ⟨d0, d1, d2, d3, d4, d5⟩ := en_cells q6
  have HQ1 := Lib.hid Q1
  clear Q1 q6 hlt1
  go_wp2_with fail
  refine (err_any b v5 rest 0 w2 HR5.out).mono ?_
  rintro e wq ⟨rfl, rfl⟩
  dsimp only
  go_wp2_with fail
  have hq := cst6 (y0 := .int .u8 x.k) (y1 := .int .u16 x.t) (y2 := .int .u16 x.n) (y3 := .int .i64 x.p) (y4 := .slice a3 x.l.length k3) (y5 := .slice a4 x.m.length k4) HQ1.out
  have hf := cfr6 (.int .u8 x.k) (.int .u16 x.t) (.int .u16 x.n) (.int .i64 x.p) (.slice a3 x.l.length k3) (.slice a4 x.m.length k4) (b := g2) (S := fun k => k = g2) (Fr.refl _ w2) (fun _ => rfl)
  refine bodyPost_ret (results_cell_row rfl _ _ g2 44 _ _ _ rfl hq Try.underlying44 rfl (by kernel_rfl)) rfl ?_
  have hR2 : Reads b v rest 0 w w2 := ⟨v5, HR5.out, HFF.out, HO5.out⟩
  exact ⟨_, _, rfl, HES.out.keep HAW.out hf, hR2.box hf (by have := HG.out; omega) HG.out.2 HOV.out⟩
end
section
set_option maxRecDepth 100000

structure Lt where
  k : Int
  f : Int
  t : Int
  p : Int
  b1 : Int
  b2 : Int
  w1 : Int
  w2 : Int
  s : Bool
  e : En
  vn : Int
  vm : List Int
  ct : Int
  cn : Int
  cp : Int
  cl : List UInt8
  it : Int
  iN : Int
  ae : Int
  ar : Int
  al : List UInt8

/-- The slices of a letter in memory. -/
structure Ls where
  ea : Value
  em : Value
  va : Value
  ca : Value
  aa : Value

def Ls.nil : Ls := ⟨nilS, nilS, nilS, nilS, nilS⟩
def Lt.zero : Lt := ⟨0, 0, 0, 0, 0, 0, 0, 0, false, En.zero, 0, [], 0, 0, 0, [], 0, 0, 0, 0, []⟩

def Lt.cs (x : Lt) (s : Ls) : Array Value := #[.int .u8 x.k, .int .i64 x.f, .int .i64 x.t, .int .i64 x.p, .int .i64 x.b1, .int .i64 x.b2, .int .i64 x.w1, .int .i64 x.w2, .bool x.s, .int .u8 x.e.k, .int .u16 x.e.t, .int .u16 x.e.n, .int .i64 x.e.p, s.ea, s.em, .int .i64 x.vn, s.va, .int .u16 x.ct, .int .u16 x.cn, .int .i64 x.cp, s.ca, .int .u16 x.it, .int .u16 x.iN, .int .i64 x.ae, .int .i64 x.ar, s.aa]

abbrev oLt (x : Lt) (s : Ls) : Obj := Obj.cells (x.cs s) 51 (0, 0)

/-- The letter's value of these slices shows x. -/
structure LS (w : World) (x : Lt) (s : Ls) : Prop where
  e : ES w x.e s.ea s.em
  v : SI w s.va x.vm
  c : Sees w s.ca x.cl
  a : Sees w s.aa x.al

theorem LS.fr {w w' : World} {x : Lt} {s : Ls} (h : LS w x s) (f : Fr (fun _ => False) w w') : LS w' x s :=
  ⟨h.e.fr f, h.v.fr f, h.c.fr f (fun _ _ h => h), h.a.fr f (fun _ _ h => h)⟩

theorem lt_cells {w : World} {g : Nat} {x : Lt} {s : Ls} {T : TypeId} (h : w.heap[g]? = some (Obj.cells (x.cs s) T (0, 0))) :
    w.cell? ⟨g, 0, none⟩ = some (.int .u8 x.k) ∧ w.cell? ⟨g, 1, none⟩ = some (.int .i64 x.f) ∧ w.cell? ⟨g, 2, none⟩ = some (.int .i64 x.t) ∧ w.cell? ⟨g, 3, none⟩ = some (.int .i64 x.p) ∧
    w.cell? ⟨g, 4, none⟩ = some (.int .i64 x.b1) ∧ w.cell? ⟨g, 5, none⟩ = some (.int .i64 x.b2) ∧ w.cell? ⟨g, 6, none⟩ = some (.int .i64 x.w1) ∧ w.cell? ⟨g, 7, none⟩ = some (.int .i64 x.w2) ∧
    w.cell? ⟨g, 8, none⟩ = some (.bool x.s) := by
  refine ⟨crow h 0 _ rfl, crow h 1 _ rfl, crow h 2 _ rfl, crow h 3 _ rfl, crow h 4 _ rfl, crow h 5 _ rfl, crow h 6 _ rfl, crow h 7 _ rfl, crow h 8 _ rfl⟩

theorem lt_cells2 {w : World} {g : Nat} {x : Lt} {s : Ls} {T : TypeId} (h : w.heap[g]? = some (Obj.cells (x.cs s) T (0, 0))) :
    w.cell? ⟨g, 9, none⟩ = some (.int .u8 x.e.k) ∧ w.cell? ⟨g, 10, none⟩ = some (.int .u16 x.e.t) ∧ w.cell? ⟨g, 11, none⟩ = some (.int .u16 x.e.n) ∧ w.cell? ⟨g, 12, none⟩ = some (.int .i64 x.e.p) ∧
    w.cell? ⟨g, 13, none⟩ = some s.ea ∧ w.cell? ⟨g, 14, none⟩ = some s.em := by
  refine ⟨crow h 9 _ rfl, crow h 10 _ rfl, crow h 11 _ rfl, crow h 12 _ rfl, crow h 13 _ rfl, crow h 14 _ rfl⟩

theorem lt_cells3 {w : World} {g : Nat} {x : Lt} {s : Ls} {T : TypeId} (h : w.heap[g]? = some (Obj.cells (x.cs s) T (0, 0))) :
    w.cell? ⟨g, 15, none⟩ = some (.int .i64 x.vn) ∧ w.cell? ⟨g, 16, none⟩ = some s.va ∧ w.cell? ⟨g, 17, none⟩ = some (.int .u16 x.ct) ∧ w.cell? ⟨g, 18, none⟩ = some (.int .u16 x.cn) ∧
    w.cell? ⟨g, 19, none⟩ = some (.int .i64 x.cp) ∧ w.cell? ⟨g, 20, none⟩ = some s.ca ∧ w.cell? ⟨g, 21, none⟩ = some (.int .u16 x.it) ∧ w.cell? ⟨g, 22, none⟩ = some (.int .u16 x.iN) ∧
    w.cell? ⟨g, 23, none⟩ = some (.int .i64 x.ae) ∧ w.cell? ⟨g, 24, none⟩ = some (.int .i64 x.ar) ∧ w.cell? ⟨g, 25, none⟩ = some s.aa := by
  refine ⟨crow h 15 _ rfl, crow h 16 _ rfl, crow h 17 _ rfl, crow h 18 _ rfl, crow h 19 _ rfl, crow h 20 _ rfl, crow h 21 _ rfl, crow h 22 _ rfl, crow h 23 _ rfl, crow h 24 _ rfl, crow h 25 _ rfl⟩

/-- A whole letter loaded from its block. -/
theorem load_lt {P : Program} {w : World} {ops : Array Oper} {rest : List Oper} {o : Oper} {a : Act} {Q : Exit → Act → World → Prop} (hgd : o.guard = none) (t : TypeId) (x : Operand) (ho : o.op = .load t x)
    (b : Nat) (cs : Array Value) (T : TypeId) (fr : Nat × Nat) (hx : a.eval x = .pointer (some ⟨b, 0, none⟩)) (hg : w.heap[b]? = some (.cells cs T fr)) (d : TypeDesc) (hu : P.underlying t = some d)
    (hd : (match d with | .struct _ | .array _ _ => true | _ => false) = true) (hi : (P.info? t).map (·.size) = some cs.size)
    (h : wpList P ops Q rest (a.put o.dst (.agg cs)) w) : wpList P ops Q (o :: rest) a w := by
  have hr := run_loadVar_row w b T t cs fr d hg hu hd hi
  refine wpList_plain hgd fun _ hK => ?_
  unfold Oper.wp execOp
  simp only [ho, Instr.loadAt, Instr.sureAddr, hx, Sem.run_bind, Sem.run_pure, Result.andThen_ok, hr]
  exact hK _ _ h

/-- A whole letter stored in its block. -/
theorem store_lt {P : Program} {w : World} {ops : Array Oper} {rest : List Oper} {o : Oper} {a : Act} {Q : Exit → Act → World → Prop} (hgd : o.guard = none) (ty : TypeId) (x y : Operand) (ho : o.op = .store ty x y)
    (b : Nat) (cells : Array Value) (hx : a.eval x = .pointer (some ⟨b, 0, none⟩)) (hy : a.eval y = .agg cells) (T : TypeId) (old : Array Value) (hg : w.heap[b]? = some (.cells old T (0, 0))) (hi : (P.info? ty).map (·.size) = some cells.size)
    (hold : old.size = cells.size) (h1 : cells.all (·.oneCell') = true)
    (h : wpList P ops Q rest (a.put o.dst undef) (w.setRow b cells)) : wpList P ops Q (o :: rest) a w :=
  wpList_plain hgd fun _ hK => wp_store_row ty x y ho b cells hx hy T old hg hi hold h1 (hK _ _ h)

theorem Fr.letRow {S : Nat → Prop} {w w' : World} (h : Fr S w w') {g : Nat} (hg : g < w.heap.size → S g) (cs : Array Value) : Fr S w (w'.setRow g cs) :=
  ⟨h.os, h.tape, h.output, by have := h.size; simp [World.setRow]; omega, fun b hb hs => (setRow_other _ _ _ _ (by rintro rfl; exact hs (hg hb))).trans (h.block b hb hs)⟩

theorem Sees.one {w : World} {v : Value} {l : List UInt8} (h : Sees w v l) : v.oneCell' = true := by obtain ⟨a, c, rfl, _⟩ := h.shape; rfl
theorem SI.one {w : World} {v : Value} {l : List Int} (h : SI w v l) : v.oneCell' = true := by obtain ⟨a, c, rfl, _⟩ := h.shape; rfl

theorem LS.one {w : World} {x : Lt} {s : Ls} (h : LS w x s) : (x.cs s).all (·.oneCell') = true := by
  have h1 := h.e.1.one
  have h2 := h.e.2.one
  have h3 := h.v.one
  have h4 := h.c.one
  have h5 := h.a.one
  unfold Lt.cs
  simp only [List.all_toArray, List.all_cons, List.all_nil, h1, h2, h3, h4, h5, Bool.and_true]
  rfl

/-- The parts that a letter has, as bits. -/
def partsE (k : Int) (s : Bool) : Int :=
  if k = 0 ∨ k = 3 then 3 else if k = 1 then (if s = true then 31 else 7) else if k = 2 then 19 else if k = 4 then 17 else if k = 5 then 1 else if k = 6 then 32 else if k = 7 then 64 else 0
def hasE (k : Int) (s : Bool) (p : Int) : Bool := bits .and .u8 (partsE k s) p != 0

theorem parts_any (x : Lt) (s : Ls) (w : World) :
    Calls Try.prog 73 #[.agg (x.cs s)] w fun e w' => e = .returned (.int .u8 (partsE x.k x.s)) ∧ Fr (fun _ => False) w w' := by
  have q0 := heap_alloc_new w (oLt x s)
  have f0 : Fr (fun _ => False) w (w.alloc (oLt x s)) := (Fr.refl _ _).alloc _
  obtain ⟨c0, -, -, -, -, -, -, -, c8⟩ := lt_cells q0
  have F := Lib.hid f0
  obtain ⟨k, hk⟩ : ∃ k, k = x.k := ⟨_, rfl⟩
  obtain ⟨r, hr⟩ : ∃ r, r = partsE k x.s := ⟨_, rfl⟩
  rw [← hk] at c0 ⊢
  rw [← hr]
  have HR := Lib.hid hr
  clear hk hr f0 q0
  generalize x.s = b at *
  by_cases h0 : k = 0
  · subst h0
    go_enter Try.func73, Try.ntmps73
    go_wp2_with fail
    go_ret
    exact ⟨by rw [HR.out]; rfl, F.out⟩
  by_cases h2 : k = 2
  · subst h2
    go_enter Try.func73, Try.ntmps73
    go_wp2_with fail
    go_ret
    exact ⟨by rw [HR.out]; rfl, F.out⟩
  by_cases h3 : k = 3
  · subst h3
    go_enter Try.func73, Try.ntmps73
    go_wp2_with fail
    go_ret
    exact ⟨by rw [HR.out]; rfl, F.out⟩
  by_cases h4 : k = 4
  · subst h4
    go_enter Try.func73, Try.ntmps73
    go_wp2_with fail
    go_ret
    exact ⟨by rw [HR.out]; rfl, F.out⟩
  by_cases h5 : k = 5
  · subst h5
    go_enter Try.func73, Try.ntmps73
    go_wp2_with fail
    go_ret
    exact ⟨by rw [HR.out]; rfl, F.out⟩
  by_cases h6 : k = 6
  · subst h6
    go_enter Try.func73, Try.ntmps73
    go_wp2_with fail
    go_ret
    exact ⟨by rw [HR.out]; rfl, F.out⟩
  by_cases h7 : k = 7
  · subst h7
    go_enter Try.func73, Try.ntmps73
    go_wp2_with fail
    go_ret
    exact ⟨by rw [HR.out]; rfl, F.out⟩
  by_cases h1 : k = 1
  · subst h1
    cases b
    all_goals
      go_enter Try.func73, Try.ntmps73
      go_wp2_with fail
      go_ret
      exact ⟨by rw [HR.out]; rfl, F.out⟩
  have hr0 : r = 0 := by rw [HR.out]; unfold partsE; simp [*]
  have HR0 := Lib.hid hr0
  clear hr0 HR
  have e0 : (k == 0) = false := by simp [h0]
  have e1 : (k == 1) = false := by simp [h1]
  have e2 : (k == 2) = false := by simp [h2]
  have e3 : (k == 3) = false := by simp [h3]
  have e4 : (k == 4) = false := by simp [h4]
  have e5 : (k == 5) = false := by simp [h5]
  have e6 : (k == 6) = false := by simp [h6]
  have e7 : (k == 7) = false := by simp [h7]
  clear h0 h1 h2 h3 h4 h5 h6 h7
  go_enter Try.func73, Try.ntmps73
  go_wp2_with fail
  go_ret
  exact ⟨by rw [HR0.out]; rfl, F.out⟩

theorem has_any (x : Lt) (s : Ls) (p : Int) (w : World) :
    Calls Try.prog 46 #[.agg (x.cs s), .int .u8 p] w fun e w' => e = .returned (.bool (hasE x.k x.s p)) ∧ Fr (fun _ => False) w w' := by
  have q0 := heap_alloc_new w (oLt x s)
  have f0 : Fr (fun _ => False) w (w.alloc (oLt x s)) := (Fr.refl _ _).alloc _
  have F := Lib.hid f0
  have Q := Lib.hid q0
  clear f0 q0
  go_enter Try.func46, Try.ntmps46
  go_upto_region 1 with fail
  generalize w.alloc (oLt x s) = w0 at *
  go_wp2_with (refine load_lt rfl 51 (.tmp 2) rfl w.heap.size (x.cs s) 51 (0, 0) rfl Q.out _ Try.underlying51 rfl (by kernel_rfl) ?_)
  refine (parts_any x s w0).mono ?_
  rintro e w1 ⟨rfl, f1⟩
  have F1 := Lib.hid (F.out.trans f1 (fun _ _ h => h))
  clear f1
  go_wp2_with fail
  go_ret
  refine ⟨?_, F1.out⟩
  rfl
end
section
set_option maxRecDepth 100000

theorem partsE_le (k : Int) (s : Bool) : partsE k s = 3 ∨ partsE k s = 31 ∨ partsE k s = 7 ∨ partsE k s = 19 ∨ partsE k s = 17 ∨ partsE k s = 1 ∨ partsE k s = 32 ∨ partsE k s = 64 ∨ partsE k s = 0 := by
  unfold partsE
  repeat' split
  all_goals simp

/-- The letter with the first i of its parts, all else zero. -/
def Lt.mask (x : Lt) (i : Nat) : Lt :=
  { k := x.k, f := x.f, t := x.t,
    p := if decide (1 ≤ i) && hasE x.k x.s 1 then x.p else 0,
    b1 := if decide (2 ≤ i) && hasE x.k x.s 2 then x.b1 else 0,
    b2 := if decide (2 ≤ i) && hasE x.k x.s 2 then x.b2 else 0,
    s := if decide (3 ≤ i) && hasE x.k x.s 4 then x.s else false,
    w1 := if decide (4 ≤ i) && hasE x.k x.s 8 then x.w1 else 0,
    w2 := if decide (4 ≤ i) && hasE x.k x.s 8 then x.w2 else 0,
    e := if decide (5 ≤ i) && hasE x.k x.s 16 then x.e else En.zero,
    ct := if decide (6 ≤ i) && hasE x.k x.s 32 then x.ct else 0,
    cn := if decide (6 ≤ i) && hasE x.k x.s 32 then x.cn else 0,
    cp := if decide (6 ≤ i) && hasE x.k x.s 32 then x.cp else 0,
    cl := if decide (6 ≤ i) && hasE x.k x.s 32 then x.cl else [],
    vn := if decide (7 ≤ i) && hasE x.k x.s 64 then x.vn else 0,
    vm := if decide (7 ≤ i) && hasE x.k x.s 64 then x.vm else [],
    it := if decide (7 ≤ i) && hasE x.k x.s 64 then x.it else 0,
    iN := if decide (7 ≤ i) && hasE x.k x.s 64 then x.iN else 0,
    ae := if decide (7 ≤ i) && hasE x.k x.s 64 then x.ae else 0,
    ar := if decide (7 ≤ i) && hasE x.k x.s 64 then x.ar else 0,
    al := if decide (7 ≤ i) && hasE x.k x.s 64 then x.al else [] }

def Lt.only (x : Lt) : Lt := x.mask 7

theorem mask_no1 (x : Lt) (h : hasE x.k x.s 1 = false) : x.mask 1 = x.mask 0 := by
  unfold Lt.mask
  simp [h]
theorem mask_yes1 (x : Lt) (h : hasE x.k x.s 1 = true) : x.mask 1 = { x.mask 0 with p := x.p } := by
  unfold Lt.mask
  simp [h]
theorem mask_no2 (x : Lt) (h : hasE x.k x.s 2 = false) : x.mask 2 = x.mask 1 := by
  unfold Lt.mask
  simp [h]
theorem mask_yes2 (x : Lt) (h : hasE x.k x.s 2 = true) : x.mask 2 = { x.mask 1 with b1 := x.b1, b2 := x.b2 } := by
  unfold Lt.mask
  simp [h]
theorem mask_no3 (x : Lt) (h : hasE x.k x.s 4 = false) : x.mask 3 = x.mask 2 := by
  unfold Lt.mask
  simp [h]
theorem mask_yes3 (x : Lt) (h : hasE x.k x.s 4 = true) : x.mask 3 = { x.mask 2 with s := x.s } := by
  unfold Lt.mask
  simp [h]
theorem mask_no4 (x : Lt) (h : hasE x.k x.s 8 = false) : x.mask 4 = x.mask 3 := by
  unfold Lt.mask
  simp [h]
theorem mask_yes4 (x : Lt) (h : hasE x.k x.s 8 = true) : x.mask 4 = { x.mask 3 with w1 := x.w1, w2 := x.w2 } := by
  unfold Lt.mask
  simp [h]
theorem mask_no5 (x : Lt) (h : hasE x.k x.s 16 = false) : x.mask 5 = x.mask 4 := by
  unfold Lt.mask
  simp [h]
theorem mask_yes5 (x : Lt) (h : hasE x.k x.s 16 = true) : x.mask 5 = { x.mask 4 with e := x.e } := by
  unfold Lt.mask
  simp [h]
theorem mask_no6 (x : Lt) (h : hasE x.k x.s 32 = false) : x.mask 6 = x.mask 5 := by
  unfold Lt.mask
  simp [h]
theorem mask_yes6 (x : Lt) (h : hasE x.k x.s 32 = true) : x.mask 6 = { x.mask 5 with ct := x.ct, cn := x.cn, cp := x.cp, cl := x.cl } := by
  unfold Lt.mask
  simp [h]
theorem mask_no7 (x : Lt) (h : hasE x.k x.s 64 = false) : x.mask 7 = x.mask 6 := by
  unfold Lt.mask
  simp [h]
theorem mask_yes7 (x : Lt) (h : hasE x.k x.s 64 = true) : x.mask 7 = { x.mask 6 with vn := x.vn, vm := x.vm, it := x.it, iN := x.iN, ae := x.ae, ar := x.ar, al := x.al } := by
  unfold Lt.mask
  simp [h]
theorem mask_z5 (x : Lt) : (x.mask 4).e = En.zero := by
  unfold Lt.mask
  simp
theorem mask_z6 (x : Lt) : (x.mask 5).cl = [] := by
  unfold Lt.mask
  simp
theorem mask_z7 (x : Lt) : (x.mask 6).vm = [] ∧ (x.mask 6).al = [] := by
  unfold Lt.mask
  simp
theorem st_p {w : World} {g : Nat} {x : Lt} {s : Ls} {T : TypeId} (h : w.heap[g]? = some (.cells (x.cs s) T (0, 0))) (v0 : Int) : (w.setCell ⟨g, 3, none⟩ (.int .i64 v0)).heap[g]? = some (.cells (Lt.cs ({ x with p := v0 } : Lt) s) T (0, 0)) := by
  rw [heap_setCell_same w g 3 _ T _ h]; rfl
theorem sf_p {w w0 : World} {g : Nat} {S : Nat → Prop} (f : Fr S w0 w) (hg : g < w0.heap.size → S g) (v0 : Int) : Fr S w0 (w.setCell ⟨g, 3, none⟩ (.int .i64 v0)) := (f).setCell (p := ⟨g, 3, none⟩) hg (.int .i64 v0)
theorem st_b {w : World} {g : Nat} {x : Lt} {s : Ls} {T : TypeId} (h : w.heap[g]? = some (.cells (x.cs s) T (0, 0))) (v0 v1 : Int) : ((w.setCell ⟨g, 4, none⟩ (.int .i64 v0)).setCell ⟨g, 5, none⟩ (.int .i64 v1)).heap[g]? = some (.cells (Lt.cs ({ x with b1 := v0, b2 := v1 } : Lt) s) T (0, 0)) := by
  have h0 := heap_setCell_same (w) g 4 _ T (.int .i64 v0) h
  rw [heap_setCell_same _ g 5 _ T _ h0]; rfl
theorem sf_b {w w0 : World} {g : Nat} {S : Nat → Prop} (f : Fr S w0 w) (hg : g < w0.heap.size → S g) (v0 v1 : Int) : Fr S w0 ((w.setCell ⟨g, 4, none⟩ (.int .i64 v0)).setCell ⟨g, 5, none⟩ (.int .i64 v1)) := ((f).setCell (p := ⟨g, 4, none⟩) hg (.int .i64 v0)).setCell (p := ⟨g, 5, none⟩) hg (.int .i64 v1)
theorem st_w {w : World} {g : Nat} {x : Lt} {s : Ls} {T : TypeId} (h : w.heap[g]? = some (.cells (x.cs s) T (0, 0))) (v0 v1 : Int) : ((w.setCell ⟨g, 6, none⟩ (.int .i64 v0)).setCell ⟨g, 7, none⟩ (.int .i64 v1)).heap[g]? = some (.cells (Lt.cs ({ x with w1 := v0, w2 := v1 } : Lt) s) T (0, 0)) := by
  have h0 := heap_setCell_same (w) g 6 _ T (.int .i64 v0) h
  rw [heap_setCell_same _ g 7 _ T _ h0]; rfl
theorem sf_w {w w0 : World} {g : Nat} {S : Nat → Prop} (f : Fr S w0 w) (hg : g < w0.heap.size → S g) (v0 v1 : Int) : Fr S w0 ((w.setCell ⟨g, 6, none⟩ (.int .i64 v0)).setCell ⟨g, 7, none⟩ (.int .i64 v1)) := ((f).setCell (p := ⟨g, 6, none⟩) hg (.int .i64 v0)).setCell (p := ⟨g, 7, none⟩) hg (.int .i64 v1)
theorem st_s {w : World} {g : Nat} {x : Lt} {s : Ls} {T : TypeId} (h : w.heap[g]? = some (.cells (x.cs s) T (0, 0))) (v0 : Bool) : (w.setCell ⟨g, 8, none⟩ (.bool v0)).heap[g]? = some (.cells (Lt.cs ({ x with s := v0 } : Lt) s) T (0, 0)) := by
  rw [heap_setCell_same w g 8 _ T _ h]; rfl
theorem sf_s {w w0 : World} {g : Nat} {S : Nat → Prop} (f : Fr S w0 w) (hg : g < w0.heap.size → S g) (v0 : Bool) : Fr S w0 (w.setCell ⟨g, 8, none⟩ (.bool v0)) := (f).setCell (p := ⟨g, 8, none⟩) hg (.bool v0)
theorem st_k {w : World} {g : Nat} {x : Lt} {s : Ls} {T : TypeId} (h : w.heap[g]? = some (.cells (x.cs s) T (0, 0))) (v0 : Int) : (w.setCell ⟨g, 0, none⟩ (.int .u8 v0)).heap[g]? = some (.cells (Lt.cs ({ x with k := v0 } : Lt) s) T (0, 0)) := by
  rw [heap_setCell_same w g 0 _ T _ h]; rfl
theorem sf_k {w w0 : World} {g : Nat} {S : Nat → Prop} (f : Fr S w0 w) (hg : g < w0.heap.size → S g) (v0 : Int) : Fr S w0 (w.setCell ⟨g, 0, none⟩ (.int .u8 v0)) := (f).setCell (p := ⟨g, 0, none⟩) hg (.int .u8 v0)
theorem st_f {w : World} {g : Nat} {x : Lt} {s : Ls} {T : TypeId} (h : w.heap[g]? = some (.cells (x.cs s) T (0, 0))) (v0 : Int) : (w.setCell ⟨g, 1, none⟩ (.int .i64 v0)).heap[g]? = some (.cells (Lt.cs ({ x with f := v0 } : Lt) s) T (0, 0)) := by
  rw [heap_setCell_same w g 1 _ T _ h]; rfl
theorem sf_f {w w0 : World} {g : Nat} {S : Nat → Prop} (f : Fr S w0 w) (hg : g < w0.heap.size → S g) (v0 : Int) : Fr S w0 (w.setCell ⟨g, 1, none⟩ (.int .i64 v0)) := (f).setCell (p := ⟨g, 1, none⟩) hg (.int .i64 v0)
theorem st_t {w : World} {g : Nat} {x : Lt} {s : Ls} {T : TypeId} (h : w.heap[g]? = some (.cells (x.cs s) T (0, 0))) (v0 : Int) : (w.setCell ⟨g, 2, none⟩ (.int .i64 v0)).heap[g]? = some (.cells (Lt.cs ({ x with t := v0 } : Lt) s) T (0, 0)) := by
  rw [heap_setCell_same w g 2 _ T _ h]; rfl
theorem sf_t {w w0 : World} {g : Nat} {S : Nat → Prop} (f : Fr S w0 w) (hg : g < w0.heap.size → S g) (v0 : Int) : Fr S w0 (w.setCell ⟨g, 2, none⟩ (.int .i64 v0)) := (f).setCell (p := ⟨g, 2, none⟩) hg (.int .i64 v0)
theorem st_e {w : World} {g : Nat} {x : Lt} {s : Ls} {T : TypeId} (h : w.heap[g]? = some (.cells (x.cs s) T (0, 0))) (v0 : En) (u0 u1 : Value) : ((((((w.setCell ⟨g, 9, none⟩ (.int .u8 v0.k)).setCell ⟨g, 10, none⟩ (.int .u16 v0.t)).setCell ⟨g, 11, none⟩ (.int .u16 v0.n)).setCell ⟨g, 12, none⟩ (.int .i64 v0.p)).setCell ⟨g, 13, none⟩ (u0)).setCell ⟨g, 14, none⟩ (u1)).heap[g]? = some (.cells (Lt.cs ({ x with e := v0 } : Lt) ({ s with ea := u0, em := u1 } : Ls)) T (0, 0)) := by
  have h0 := heap_setCell_same (w) g 9 _ T (.int .u8 v0.k) h
  have h1 := heap_setCell_same ((w).setCell ⟨g, 9, none⟩ (.int .u8 v0.k)) g 10 _ T (.int .u16 v0.t) h0
  have h2 := heap_setCell_same (((w).setCell ⟨g, 9, none⟩ (.int .u8 v0.k)).setCell ⟨g, 10, none⟩ (.int .u16 v0.t)) g 11 _ T (.int .u16 v0.n) h1
  have h3 := heap_setCell_same ((((w).setCell ⟨g, 9, none⟩ (.int .u8 v0.k)).setCell ⟨g, 10, none⟩ (.int .u16 v0.t)).setCell ⟨g, 11, none⟩ (.int .u16 v0.n)) g 12 _ T (.int .i64 v0.p) h2
  have h4 := heap_setCell_same (((((w).setCell ⟨g, 9, none⟩ (.int .u8 v0.k)).setCell ⟨g, 10, none⟩ (.int .u16 v0.t)).setCell ⟨g, 11, none⟩ (.int .u16 v0.n)).setCell ⟨g, 12, none⟩ (.int .i64 v0.p)) g 13 _ T (u0) h3
  rw [heap_setCell_same _ g 14 _ T _ h4]; rfl
theorem sf_e {w w0 : World} {g : Nat} {S : Nat → Prop} (f : Fr S w0 w) (hg : g < w0.heap.size → S g) (v0 : En) (u0 u1 : Value) : Fr S w0 ((((((w.setCell ⟨g, 9, none⟩ (.int .u8 v0.k)).setCell ⟨g, 10, none⟩ (.int .u16 v0.t)).setCell ⟨g, 11, none⟩ (.int .u16 v0.n)).setCell ⟨g, 12, none⟩ (.int .i64 v0.p)).setCell ⟨g, 13, none⟩ (u0)).setCell ⟨g, 14, none⟩ (u1)) := ((((((f).setCell (p := ⟨g, 9, none⟩) hg (.int .u8 v0.k)).setCell (p := ⟨g, 10, none⟩) hg (.int .u16 v0.t)).setCell (p := ⟨g, 11, none⟩) hg (.int .u16 v0.n)).setCell (p := ⟨g, 12, none⟩) hg (.int .i64 v0.p)).setCell (p := ⟨g, 13, none⟩) hg (u0)).setCell (p := ⟨g, 14, none⟩) hg (u1)
theorem st_ea {w : World} {g : Nat} {x : Lt} {s : Ls} {T : TypeId} (h : w.heap[g]? = some (.cells (x.cs s) T (0, 0))) (u0 : Value) : (w.setCell ⟨g, 13, none⟩ (u0)).heap[g]? = some (.cells (Lt.cs x ({ s with ea := u0 } : Ls)) T (0, 0)) := by
  rw [heap_setCell_same w g 13 _ T _ h]; rfl
theorem sf_ea {w w0 : World} {g : Nat} {S : Nat → Prop} (f : Fr S w0 w) (hg : g < w0.heap.size → S g) (u0 : Value) : Fr S w0 (w.setCell ⟨g, 13, none⟩ (u0)) := (f).setCell (p := ⟨g, 13, none⟩) hg (u0)
theorem st_em {w : World} {g : Nat} {x : Lt} {s : Ls} {T : TypeId} (h : w.heap[g]? = some (.cells (x.cs s) T (0, 0))) (u0 : Value) : (w.setCell ⟨g, 14, none⟩ (u0)).heap[g]? = some (.cells (Lt.cs x ({ s with em := u0 } : Ls)) T (0, 0)) := by
  rw [heap_setCell_same w g 14 _ T _ h]; rfl
theorem sf_em {w w0 : World} {g : Nat} {S : Nat → Prop} (f : Fr S w0 w) (hg : g < w0.heap.size → S g) (u0 : Value) : Fr S w0 (w.setCell ⟨g, 14, none⟩ (u0)) := (f).setCell (p := ⟨g, 14, none⟩) hg (u0)
theorem st_vn {w : World} {g : Nat} {x : Lt} {s : Ls} {T : TypeId} (h : w.heap[g]? = some (.cells (x.cs s) T (0, 0))) (v0 : Int) : (w.setCell ⟨g, 15, none⟩ (.int .i64 v0)).heap[g]? = some (.cells (Lt.cs ({ x with vn := v0 } : Lt) s) T (0, 0)) := by
  rw [heap_setCell_same w g 15 _ T _ h]; rfl
theorem sf_vn {w w0 : World} {g : Nat} {S : Nat → Prop} (f : Fr S w0 w) (hg : g < w0.heap.size → S g) (v0 : Int) : Fr S w0 (w.setCell ⟨g, 15, none⟩ (.int .i64 v0)) := (f).setCell (p := ⟨g, 15, none⟩) hg (.int .i64 v0)
theorem st_va {w : World} {g : Nat} {x : Lt} {s : Ls} {T : TypeId} (h : w.heap[g]? = some (.cells (x.cs s) T (0, 0))) (u0 : Value) : (w.setCell ⟨g, 16, none⟩ (u0)).heap[g]? = some (.cells (Lt.cs x ({ s with va := u0 } : Ls)) T (0, 0)) := by
  rw [heap_setCell_same w g 16 _ T _ h]; rfl
theorem sf_va {w w0 : World} {g : Nat} {S : Nat → Prop} (f : Fr S w0 w) (hg : g < w0.heap.size → S g) (u0 : Value) : Fr S w0 (w.setCell ⟨g, 16, none⟩ (u0)) := (f).setCell (p := ⟨g, 16, none⟩) hg (u0)
theorem st_v {w : World} {g : Nat} {x : Lt} {s : Ls} {T : TypeId} (h : w.heap[g]? = some (.cells (x.cs s) T (0, 0))) (v0 : Int) (u0 : Value) : ((w.setCell ⟨g, 15, none⟩ (.int .i64 v0)).setCell ⟨g, 16, none⟩ (u0)).heap[g]? = some (.cells (Lt.cs ({ x with vn := v0 } : Lt) ({ s with va := u0 } : Ls)) T (0, 0)) := by
  have h0 := heap_setCell_same (w) g 15 _ T (.int .i64 v0) h
  rw [heap_setCell_same _ g 16 _ T _ h0]; rfl
theorem sf_v {w w0 : World} {g : Nat} {S : Nat → Prop} (f : Fr S w0 w) (hg : g < w0.heap.size → S g) (v0 : Int) (u0 : Value) : Fr S w0 ((w.setCell ⟨g, 15, none⟩ (.int .i64 v0)).setCell ⟨g, 16, none⟩ (u0)) := ((f).setCell (p := ⟨g, 15, none⟩) hg (.int .i64 v0)).setCell (p := ⟨g, 16, none⟩) hg (u0)
theorem st_c {w : World} {g : Nat} {x : Lt} {s : Ls} {T : TypeId} (h : w.heap[g]? = some (.cells (x.cs s) T (0, 0))) (v0 v1 v2 : Int) (u0 : Value) : ((((w.setCell ⟨g, 17, none⟩ (.int .u16 v0)).setCell ⟨g, 18, none⟩ (.int .u16 v1)).setCell ⟨g, 19, none⟩ (.int .i64 v2)).setCell ⟨g, 20, none⟩ (u0)).heap[g]? = some (.cells (Lt.cs ({ x with ct := v0, cn := v1, cp := v2 } : Lt) ({ s with ca := u0 } : Ls)) T (0, 0)) := by
  have h0 := heap_setCell_same (w) g 17 _ T (.int .u16 v0) h
  have h1 := heap_setCell_same ((w).setCell ⟨g, 17, none⟩ (.int .u16 v0)) g 18 _ T (.int .u16 v1) h0
  have h2 := heap_setCell_same (((w).setCell ⟨g, 17, none⟩ (.int .u16 v0)).setCell ⟨g, 18, none⟩ (.int .u16 v1)) g 19 _ T (.int .i64 v2) h1
  rw [heap_setCell_same _ g 20 _ T _ h2]; rfl
theorem sf_c {w w0 : World} {g : Nat} {S : Nat → Prop} (f : Fr S w0 w) (hg : g < w0.heap.size → S g) (v0 v1 v2 : Int) (u0 : Value) : Fr S w0 ((((w.setCell ⟨g, 17, none⟩ (.int .u16 v0)).setCell ⟨g, 18, none⟩ (.int .u16 v1)).setCell ⟨g, 19, none⟩ (.int .i64 v2)).setCell ⟨g, 20, none⟩ (u0)) := ((((f).setCell (p := ⟨g, 17, none⟩) hg (.int .u16 v0)).setCell (p := ⟨g, 18, none⟩) hg (.int .u16 v1)).setCell (p := ⟨g, 19, none⟩) hg (.int .i64 v2)).setCell (p := ⟨g, 20, none⟩) hg (u0)
theorem st_ca {w : World} {g : Nat} {x : Lt} {s : Ls} {T : TypeId} (h : w.heap[g]? = some (.cells (x.cs s) T (0, 0))) (u0 : Value) : (w.setCell ⟨g, 20, none⟩ (u0)).heap[g]? = some (.cells (Lt.cs x ({ s with ca := u0 } : Ls)) T (0, 0)) := by
  rw [heap_setCell_same w g 20 _ T _ h]; rfl
theorem sf_ca {w w0 : World} {g : Nat} {S : Nat → Prop} (f : Fr S w0 w) (hg : g < w0.heap.size → S g) (u0 : Value) : Fr S w0 (w.setCell ⟨g, 20, none⟩ (u0)) := (f).setCell (p := ⟨g, 20, none⟩) hg (u0)
theorem st_i {w : World} {g : Nat} {x : Lt} {s : Ls} {T : TypeId} (h : w.heap[g]? = some (.cells (x.cs s) T (0, 0))) (v0 v1 : Int) : ((w.setCell ⟨g, 21, none⟩ (.int .u16 v0)).setCell ⟨g, 22, none⟩ (.int .u16 v1)).heap[g]? = some (.cells (Lt.cs ({ x with it := v0, iN := v1 } : Lt) s) T (0, 0)) := by
  have h0 := heap_setCell_same (w) g 21 _ T (.int .u16 v0) h
  rw [heap_setCell_same _ g 22 _ T _ h0]; rfl
theorem sf_i {w w0 : World} {g : Nat} {S : Nat → Prop} (f : Fr S w0 w) (hg : g < w0.heap.size → S g) (v0 v1 : Int) : Fr S w0 ((w.setCell ⟨g, 21, none⟩ (.int .u16 v0)).setCell ⟨g, 22, none⟩ (.int .u16 v1)) := ((f).setCell (p := ⟨g, 21, none⟩) hg (.int .u16 v0)).setCell (p := ⟨g, 22, none⟩) hg (.int .u16 v1)
theorem st_i0 {w : World} {g : Nat} {x : Lt} {s : Ls} {T : TypeId} (h : w.heap[g]? = some (.cells (x.cs s) T (0, 0))) (v0 : Int) : (w.setCell ⟨g, 21, none⟩ (.int .u16 v0)).heap[g]? = some (.cells (Lt.cs ({ x with it := v0 } : Lt) s) T (0, 0)) := by
  rw [heap_setCell_same w g 21 _ T _ h]; rfl
theorem sf_i0 {w w0 : World} {g : Nat} {S : Nat → Prop} (f : Fr S w0 w) (hg : g < w0.heap.size → S g) (v0 : Int) : Fr S w0 (w.setCell ⟨g, 21, none⟩ (.int .u16 v0)) := (f).setCell (p := ⟨g, 21, none⟩) hg (.int .u16 v0)
theorem st_i1 {w : World} {g : Nat} {x : Lt} {s : Ls} {T : TypeId} (h : w.heap[g]? = some (.cells (x.cs s) T (0, 0))) (v0 : Int) : (w.setCell ⟨g, 22, none⟩ (.int .u16 v0)).heap[g]? = some (.cells (Lt.cs ({ x with iN := v0 } : Lt) s) T (0, 0)) := by
  rw [heap_setCell_same w g 22 _ T _ h]; rfl
theorem sf_i1 {w w0 : World} {g : Nat} {S : Nat → Prop} (f : Fr S w0 w) (hg : g < w0.heap.size → S g) (v0 : Int) : Fr S w0 (w.setCell ⟨g, 22, none⟩ (.int .u16 v0)) := (f).setCell (p := ⟨g, 22, none⟩) hg (.int .u16 v0)
theorem st_a {w : World} {g : Nat} {x : Lt} {s : Ls} {T : TypeId} (h : w.heap[g]? = some (.cells (x.cs s) T (0, 0))) (v0 v1 : Int) (u0 : Value) : (((w.setCell ⟨g, 23, none⟩ (.int .i64 v0)).setCell ⟨g, 24, none⟩ (.int .i64 v1)).setCell ⟨g, 25, none⟩ (u0)).heap[g]? = some (.cells (Lt.cs ({ x with ae := v0, ar := v1 } : Lt) ({ s with aa := u0 } : Ls)) T (0, 0)) := by
  have h0 := heap_setCell_same (w) g 23 _ T (.int .i64 v0) h
  have h1 := heap_setCell_same ((w).setCell ⟨g, 23, none⟩ (.int .i64 v0)) g 24 _ T (.int .i64 v1) h0
  rw [heap_setCell_same _ g 25 _ T _ h1]; rfl
theorem sf_a {w w0 : World} {g : Nat} {S : Nat → Prop} (f : Fr S w0 w) (hg : g < w0.heap.size → S g) (v0 v1 : Int) (u0 : Value) : Fr S w0 (((w.setCell ⟨g, 23, none⟩ (.int .i64 v0)).setCell ⟨g, 24, none⟩ (.int .i64 v1)).setCell ⟨g, 25, none⟩ (u0)) := (((f).setCell (p := ⟨g, 23, none⟩) hg (.int .i64 v0)).setCell (p := ⟨g, 24, none⟩) hg (.int .i64 v1)).setCell (p := ⟨g, 25, none⟩) hg (u0)
theorem st_aa {w : World} {g : Nat} {x : Lt} {s : Ls} {T : TypeId} (h : w.heap[g]? = some (.cells (x.cs s) T (0, 0))) (u0 : Value) : (w.setCell ⟨g, 25, none⟩ (u0)).heap[g]? = some (.cells (Lt.cs x ({ s with aa := u0 } : Ls)) T (0, 0)) := by
  rw [heap_setCell_same w g 25 _ T _ h]; rfl
theorem sf_aa {w w0 : World} {g : Nat} {S : Nat → Prop} (f : Fr S w0 w) (hg : g < w0.heap.size → S g) (u0 : Value) : Fr S w0 (w.setCell ⟨g, 25, none⟩ (u0)) := (f).setCell (p := ⟨g, 25, none⟩) hg (u0)

/-- Whether i is in a letter's block: no slice of it lies there. -/
theorem lt_free {w : World} {g : Nat} {cs : Array Value} {t : TypeId} (h : w.heap[g]? = some (.cells cs t (0, 0))) : ∀ i, w.frozen? ⟨g, i, none⟩ = false := fun i => by
  simp [World.frozen?, h]
abbrev zLt (k f t : Int) : Obj := Obj.cells #[.int .u8 k, .int .i64 f, .int .i64 t, .int .i64 0, .int .i64 0, .int .i64 0, .int .i64 0, .int .i64 0, .bool false, .int .u8 0, .int .u16 0, .int .u16 0, .int .i64 0, nilS, nilS, .int .i64 0, nilS, .int .u16 0, .int .u16 0, .int .i64 0, nilS, .int .u16 0, .int .u16 0, .int .i64 0, .int .i64 0, nilS] 51 (0, 0)
theorem zLt_eq (k f t : Int) : zLt k f t = oLt { Lt.zero with k := k, f := f, t := t } Ls.nil := rfl
theorem mask_zero (x : Lt) : ({ Lt.zero with k := x.k, f := x.f, t := x.t } : Lt) = x.mask 0 := by
  unfold Lt.mask
  simp [Lt.zero]
end
end Go.Proofs.Ytjnbpgadgdjobaa
