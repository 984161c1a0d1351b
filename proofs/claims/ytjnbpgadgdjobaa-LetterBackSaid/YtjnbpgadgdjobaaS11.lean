/-
  LetAny, part 11 of what it rests on: LetTake, LetEnt, LetReadDef, LetMath.
-/
import Derived.Test.YtjnbpgadgdjobaaS10
set_option linter.unusedVariables false
set_option linter.unusedSimpArgs false
set_option maxHeartbeats 64000000
namespace Go.Proofs.Ytjnbpgadgdjobaa
open Go.RowKit
open Go.Lib (hid)
section
set_option maxRecDepth 100000

theorem gmembers_any (b : Nat) (v : Value) (l : List UInt8) (x : Int) (w : World) (hR : Rd w b v l x) :
    Calls Try.prog 81 #[.pointer (some ⟨b, 0, none⟩)] w fun e w' => ∃ u, e = .returned u ∧ SI w' u (membS (l, x)).1 ∧ Reads b v (membS (l, x)).2.1 (membS (l, x)).2.2 w w' ∧ (∀ k, u.ownBlock = some k → w.heap.size ≤ k) := by
  obtain ⟨i0, hi, hz0, hz1, hz2⟩ := info_parts Try.infoInt
  have HOV := Lib.hid (And.intro hR.lt hR.old)
  go_enter Try.func81, Try.ntmps81
  go_wp2_with fail
  refine (within_any b v l x 16 w hR).mono ?_
  rintro e w1 ⟨rfl, rd1⟩
  obtain ⟨K, hK⟩ : ∃ K, K = (withinS (l, x) 16).1 := ⟨_, rfl⟩
  obtain ⟨st, hst⟩ : ∃ st, st = (withinS (l, x) 16).2 := ⟨_, rfl⟩
  have hlen : K ≤ 16 := by rw [hK]; exact withinS_16 _
  have HM : Hid (membS (l, x) = ((wordsS K st).1, failS (wordsS K st).2 (chkM (wordsS K st).1))) := Lib.hid (by unfold membS; rw [← hK, ← hst])
  rw [← hK]
  rw [← hst] at rd1
  have R1 := Lib.hid rd1
  have HEX : Hid (∀ wa wb : World, True → Fr (fun i => i = b ∨ i = w1.heap.size) wa wb → True) := Lib.hid (fun _ _ _ _ => trivial)
  clear rd1 hR hK hst
  have hmk : ∀ W : World, (Instr.makeSlice 42 (.int .i64 (K : Int)) (.int .i64 (K : Int))).run Try.prog W = .ok (.slice (some ⟨W.heap.size, 0, none⟩) K K) (W.alloc (.cells (madeCells #[.int .i64 0] K) 3)) :=
    fun W => run_make_row' _ 3 (.int .i64 0) 8 Try.underlying42 Try.infoInt rfl .i64 .i64 K (by omega) (by omega) W
  dsimp only
  go_upto_region 3 with fail
  obtain ⟨v1, r1, f1, o1⟩ := R1.out
  have q2 : RowK (w1.alloc (.cells (madeCells #[.int .i64 0] K) 3)) w1.heap.size K (wordsS K st).1 0 := ⟨_, heap_alloc_new w1 _, size_madeCells _ _, fun j _ h => absurd h (by omega)⟩
  have f2 : Fr (fun _ => False) w1 (w1.alloc (.cells (madeCells #[.int .i64 0] K) 3)) := (Fr.refl _ _).alloc _
  generalize w1.alloc (.cells (madeCells #[.int .i64 0] K) 3) = w2 at *
  obtain ⟨gl, hgl⟩ : ∃ g, g = w1.heap.size := ⟨_, rfl⟩
  rw [← hgl] at q2 HEX ⊢
  have HG : Hid (b < w.heap.size ∧ w.heap.size ≤ gl) := Lib.hid ⟨HOV.out.1, by have := f1.size; omega⟩
  have R2 : Hid (Reads b v (wordsS 0 st).2.1 (wordsS 0 st).2.2 w w2) := Lib.hid (Reads.fr ⟨v1, r1, f1, o1⟩ f2)
  have Q2 := Lib.hid q2
  have X2 : Hid True := Lib.hid trivial
  clear q2 f2 r1 f1 o1 R1 hgl hmk
  go_loopg [10] K (fun gh u10 wr => ∃ k : Nat, k ≤ K ∧ gh = K - k ∧ u10 = .int .i64 k ∧ Hid (Reads b v (wordsS k st).2.1 (wordsS k st).2.2 w wr) ∧ Hid (RowK wr gl K (wordsS K st).1 k) ∧ Hid (True))
  case atStart => exact ⟨0, Nat.zero_le _, rfl, rfl, R2, Q2, X2⟩
  case round =>
    obtain ⟨k, hk, rfl, rfl, HR, HQ, HX⟩ := hrel
    by_cases hlt : k < K
    case neg =>
      obtain rfl : k = K := by omega
      have hlen := wordsS_length k st
      have hsc : SIc wr (some ⟨gl, 0, none⟩) k (wordsS k st).1 := by
        obtain ⟨R, hq, hsz, hr⟩ := HQ.out
        refine (fun _ => ⟨Nat.le_of_eq hlen, gl, 0, rfl, fun j hj => ?_⟩)
        rw [Nat.zero_add, cell_row2 hq]
        exact hr j hj (by omega)
      have hsi := SIc.sees hsc
      rw [hlen] at hsi
      have htm := tmembers_any (wordsS k st).1 (some ⟨gl, 0, none⟩) k wr hsc (by omega)
      rw [hlen] at htm
      have HTM := Lib.hid htm
      have HSI := Lib.hid hsi
      clear hsi htm hsc HQ hlen
      go_wp2_with fail
      refine HTM.out.mono ?_
      rintro e wq ⟨rfl, rfl⟩
      obtain ⟨v3, r3, f3, o3⟩ := HR.out
      have hfl := Lib.hid (fail_any b v3 (wordsS k st).2.1 (wordsS k st).2.2 (chkM (wordsS k st).1) wr r3)
      have HF3 := Lib.hid (And.intro f3 o3)
      clear r3 f3 o3
      dsimp only
      go_wp2_with fail
      refine hfl.out.mono ?_
      rintro e w4 ⟨rfl, rd4⟩
      have HS4 : Hid (SI w4 (.slice (some ⟨gl, 0, none⟩) k k) (wordsS k st).1) := Lib.hid (by
        obtain ⟨_, _, f4, _⟩ := rd4
        exact HSI.out.keep f4 (.inr fun j hj e => by have hj' : gl = j := Option.some.inj hj; have := HG.out; omega))
      have HR4 := Lib.hid (Reads.trans HF3.out.1 HF3.out.2 rd4)
      clear rd4
      dsimp only
      go_wp2_with fail
      go_ret
      rw [HM.out]
      exact ⟨_, rfl, HS4.out, HR4.out, fun j hj => by have hj' : gl = j := Option.some.inj hj; have := HG.out; omega⟩
    obtain ⟨v3, r3, f3, o3⟩ := HR.out
    have hkm : k < (wordsS K st).1.length := by rw [wordsS_length]; exact hlt
    obtain ⟨z, hz⟩ : ∃ z, z = (numS (wordsS k st).2 2).1 := ⟨_, rfl⟩
    have hz1 : z < 65536 := by rw [hz]; exact numS_small (wordsS k st).2 2
    have hget : (wordsS K st).1[k] = (z : Int) := by rw [wordsS_get K k st hlt hkm, hz]
    have hrw := rword_any b v3 (wordsS k st).2.1 (wordsS k st).2.2 wr r3
    rw [show ((wordsS k st).2.1, (wordsS k st).2.2) = (wordsS k st).2 from rfl, ← hz] at hrw
    have HRW := Lib.hid hrw
    have HF3 := Lib.hid f3
    have HO3 := Lib.hid o3
    have HZ := Lib.hid (And.intro hz hget)
    clear r3 f3 o3 hrw HR hz hget
    go_wp2_with fail
    refine HRW.out.mono ?_
    rintro e w4 ⟨rfl, rd4⟩
    obtain ⟨R, hq, hsz, hr⟩ := HQ.out
    obtain ⟨v5, r5, f5, o5⟩ := rd4
    have q5 := crow_kept hq f5 (by have := HG.out; omega)
    have hck : w4.cell? ⟨gl, k, none⟩ = some (R[k]'(by omega)) := by rw [cell_row2 q5]; exact Array.getElem?_eq_getElem _
    have hfz := vfree q5 k
    have HQ5 := Lib.hid (And.intro q5 (And.intro hsz hr))
    have HR5 : Hid (Rd w4 b v5 (wordsS (k + 1) st).2.1 (wordsS (k + 1) st).2.2) := Lib.hid r5
    have HF5 := Lib.hid (HF3.out.trans f5 (fun _ _ h => h))
    have HO5 : Hid (v5.ownBlock = v.ownBlock ∨ v5.ownBlock = none) := Lib.hid (by
      rcases o5 with e | e
      · rw [e]; exact HO3.out
      · exact .inr e)
    have HX5 : Hid (True) := Lib.hid (HEX.out _ _ HX.out (f5.mono (fun i _ h => .inl h)))
    clear hq hr r5 f5 o5 q5 HQ HX
    dsimp only
    go_wp2_with fail
    go_roundg (K - (k + 1))
    case measure => omega
    case rel =>
      have f6 : Fr (fun j => j = gl) w4 (w4.setCell ⟨gl, k, none⟩ (.int .i64 z)) := (Fr.refl (fun j => j = gl) w4).setCell (p := ⟨gl, k, none⟩) (fun _ => rfl) _
      refine ⟨k + 1, by omega, rfl, by congr 1, Lib.hid ⟨v5, HR5.out.fr f6 (fun e => by have := HG.out; omega) (fun j hj e => ?_), HF5.out.trans f6 (fun j hj e => by have := HG.out; omega), HO5.out⟩, Lib.hid ⟨R.setIfInBounds k (.int .i64 z), heap_setCell_same w4 gl k R _ _ HQ5.out.1, by rw [Array.size_setIfInBounds]; exact HQ5.out.2.1, fun j hj hjk => ?_⟩, Lib.hid (HEX.out _ _ HX5.out (f6.mono (fun i _ h => .inr h)))⟩
      · rcases HO5.out with h | h
        · rw [h] at hj
          have := HOV.out.2 j hj
          have := HG.out
          omega
        · rw [h] at hj; cases hj
      · rw [Array.getElem?_setIfInBounds]
        by_cases hjk2 : k = j
        · subst hjk2
          rw [if_pos rfl, if_pos (by have := HQ5.out.2.1; omega), HZ.out.2]
        · rw [if_neg hjk2]
          exact HQ5.out.2.2 j hj (by omega)

abbrev oVz (n : Int) (v : Value) : Obj := Obj.cells #[.int .i64 n, v] 46 (0, 0)

theorem gview_any (b : Nat) (v : Value) (l : List UInt8) (x : Int) (w : World) (hR : Rd w b v l x) :
    Calls Try.prog 64 #[.pointer (some ⟨b, 0, none⟩)] w fun e w' => ∃ u, e = .returned (.agg #[.int .i64 (viewS (l, x)).1.1, u]) ∧ SI w' u (viewS (l, x)).1.2 ∧ Reads b v (viewS (l, x)).2.1 (viewS (l, x)).2.2 w w' ∧ (∀ k, u.ownBlock = some k → w.heap.size ≤ k) := by
  obtain ⟨i0, hi, hz0, hz1, hz2⟩ := info_parts Try.infoInt
  have HOV := Lib.hid (And.intro hR.lt hR.old)
  have q0 := heap_alloc_new w (oVz 0 nilS)
  have f0 : Fr (fun _ => False) w (w.alloc (oVz 0 nilS)) := (Fr.refl _ _).alloc _
  have R0 := Lib.hid (hR.fr f0 (fun h => h) (fun _ _ h => h))
  have Q0 := Lib.hid q0
  have F0 := Lib.hid f0
  clear q0 f0 hR
  go_enter Try.func64, Try.ntmps64
  go_upto_region 1 with fail
  generalize w.alloc (oVz 0 nilS) = w0 at *
  obtain ⟨gv, hgv⟩ : ∃ g, g = w.heap.size := ⟨_, rfl⟩
  rw [← hgv] at Q0 ⊢
  have HGV := Lib.hid hgv
  clear hgv
  go_wp2_with fail
  refine (rlong_any b v l x w0 R0.out).mono ?_
  rintro e wa ⟨rfl, va, ra, fa, oa⟩
  have hs1 : (numS (l, x) 4).1 < 4294967296 := numS_small (l, x) 4
  obtain ⟨n, hn⟩ : ∃ n, n = (numS (l, x) 4).1 := ⟨_, rfl⟩
  obtain ⟨sa, hsa⟩ : ∃ s, s = (numS (l, x) 4).2 := ⟨_, rfl⟩
  rw [← hn] at hs1 ⊢
  rw [← hsa] at ra
  have hwi := within_any b va sa.1 sa.2 16 wa ra
  obtain ⟨K, hK⟩ : ∃ K, K = (withinS sa 16).1 := ⟨_, rfl⟩
  obtain ⟨st, hst⟩ : ∃ st, st = (withinS sa 16).2 := ⟨_, rfl⟩
  rw [show (sa.1, sa.2) = sa from rfl, ← hK, ← hst] at hwi
  have hlen : K ≤ 16 := by rw [hK]; exact withinS_16 _
  have HM : Hid (viewS (l, x) = (((n : Int), (wordsS K st).1), (wordsS K st).2)) := Lib.hid (by unfold viewS; rw [← hn, ← hsa, ← hK, ← hst])
  have HWI := Lib.hid hwi
  have QA := Lib.hid (crow_kept Q0.out fa (fun e => by have := HOV.out.1; have := HGV.out; omega))
  have FA := Lib.hid (And.intro fa oa)
  clear hn hsa hK hst hwi ra fa oa
  dsimp only
  go_wp2_with fail
  refine HWI.out.mono ?_
  rintro e w1 ⟨rfl, rd1⟩
  have Q1 : Hid (w1.heap[gv]? = some (oVz 0 nilS)) := Lib.hid (by
    obtain ⟨_, _, f1, _⟩ := rd1
    exact crow_kept QA.out f1 (fun e => by have := HOV.out.1; have := HGV.out; omega))
  have R1 := Lib.hid (Reads.later2 F0.out (Reads.trans FA.out.1 FA.out.2 rd1))
  clear rd1
  have hmk : ∀ W : World, (Instr.makeSlice 42 (.int .i64 (K : Int)) (.int .i64 (K : Int))).run Try.prog W = .ok (.slice (some ⟨W.heap.size, 0, none⟩) K K) (W.alloc (.cells (madeCells #[.int .i64 0] K) 3)) :=
    fun W => run_make_row' _ 3 (.int .i64 0) 8 Try.underlying42 Try.infoInt rfl .i64 .i64 K (by omega) (by omega) W
  dsimp only
  go_upto_region 4 with fail
  obtain ⟨v1, r1, f1, o1⟩ := R1.out
  have q2 : RowK (w1.alloc (.cells (madeCells #[.int .i64 0] K) 3)) w1.heap.size K (wordsS K st).1 0 := ⟨_, heap_alloc_new w1 _, size_madeCells _ _, fun j _ h => absurd h (by omega)⟩
  have f2 : Fr (fun _ => False) w1 (w1.alloc (.cells (madeCells #[.int .i64 0] K) 3)) := (Fr.refl _ _).alloc _
  have x2 := crow_kept Q1.out f2 (fun h => h)
  have hgvl := vt_lt Q1.out
  generalize w1.alloc (.cells (madeCells #[.int .i64 0] K) 3) = w2 at *
  obtain ⟨gl, hgl⟩ : ∃ g, g = w1.heap.size := ⟨_, rfl⟩
  rw [← hgl] at q2 hgvl ⊢
  have HG : Hid (b < w.heap.size ∧ w.heap.size ≤ gl ∧ gv < gl ∧ gv = w.heap.size) := Lib.hid ⟨HOV.out.1, by have := f1.size; omega, hgvl, HGV.out⟩
  have R2 : Hid (Reads b v (wordsS 0 st).2.1 (wordsS 0 st).2.2 w w2) := Lib.hid (Reads.fr ⟨v1, r1, f1, o1⟩ f2)
  have HEX : Hid (∀ wa wb : World, wa.heap[gv]? = some (oVz 0 nilS) → Fr (fun i => i = b ∨ i = gl) wa wb → wb.heap[gv]? = some (oVz 0 nilS)) := Lib.hid (fun wa wb h f => crow_kept h f (by have := HG.out; omega))
  have Q2 := Lib.hid q2
  have X2 := Lib.hid x2
  clear q2 f2 r1 f1 o1 R1 hgl hmk x2 hgvl Q1 QA FA Q0 R0 F0
  go_loopg [14] K (fun gh u14 wr => ∃ k : Nat, k ≤ K ∧ gh = K - k ∧ u14 = .int .i64 k ∧ Hid (Reads b v (wordsS k st).2.1 (wordsS k st).2.2 w wr) ∧ Hid (RowK wr gl K (wordsS K st).1 k) ∧ Hid (wr.heap[gv]? = some (oVz 0 nilS)))
  case atStart => exact ⟨0, Nat.zero_le _, rfl, rfl, R2, Q2, X2⟩
  case round =>
    obtain ⟨k, hk, rfl, rfl, HR, HQ, HX⟩ := hrel
    by_cases hlt : k < K
    case neg =>
      obtain rfl : k = K := by omega
      have hlen := wordsS_length k st
      have hsc : SIc wr (some ⟨gl, 0, none⟩) k (wordsS k st).1 := by
        obtain ⟨R, hq, hsz, hr⟩ := HQ.out
        refine (fun _ => ⟨Nat.le_of_eq hlen, gl, 0, rfl, fun j hj => ?_⟩)
        rw [Nat.zero_add, cell_row2 hq]
        exact hr j hj (by omega)
      have hsi := SIc.sees hsc
      rw [hlen] at hsi
      have HSI := Lib.hid hsi
      obtain ⟨t0, t1⟩ := ba_row HX.out
      have hfz := lt_free HX.out
      clear hsi hsc HQ hlen
      go_wp2_with fail
      have h1 := heap_setCell_same wr gv 0 _ _ (.int .i64 (n : Int)) HX.out
      have h2 := heap_setCell_same (wr.setCell ⟨gv, 0, none⟩ (.int .i64 (n : Int))) gv 1 _ _ (.slice (some ⟨gl, 0, none⟩) k k) h1
      have hf : Fr (fun k => k = gv) wr ((wr.setCell ⟨gv, 0, none⟩ (.int .i64 (n : Int))).setCell ⟨gv, 1, none⟩ (.slice (some ⟨gl, 0, none⟩) k k)) := ((Fr.refl _ _).set1 0 _).set1 1 _
      refine bodyPost_ret (results_cell_row rfl _ _ gv 46 _ _ _ rfl h2 Try.underlying46 rfl (by kernel_rfl)) rfl ?_
      rw [HM.out]
      exact ⟨_, rfl, HSI.out.keep hf (.inr fun j hj e => by have hj' : gl = j := Option.some.inj hj; have := HG.out; omega), HR.out.box2 hf (by have := HG.out; omega) HOV.out.1 HOV.out.2, fun j hj => by have hj' : gl = j := Option.some.inj hj; have := HG.out; omega⟩
    obtain ⟨v3, r3, f3, o3⟩ := HR.out
    have hkm : k < (wordsS K st).1.length := by rw [wordsS_length]; exact hlt
    obtain ⟨z, hz⟩ : ∃ z, z = (numS (wordsS k st).2 2).1 := ⟨_, rfl⟩
    have hz1 : z < 65536 := by rw [hz]; exact numS_small (wordsS k st).2 2
    have hget : (wordsS K st).1[k] = (z : Int) := by rw [wordsS_get K k st hlt hkm, hz]
    have hrw := rword_any b v3 (wordsS k st).2.1 (wordsS k st).2.2 wr r3
    rw [show ((wordsS k st).2.1, (wordsS k st).2.2) = (wordsS k st).2 from rfl, ← hz] at hrw
    have HRW := Lib.hid hrw
    have HF3 := Lib.hid f3
    have HO3 := Lib.hid o3
    have HZ := Lib.hid (And.intro hz hget)
    clear r3 f3 o3 hrw HR hz hget
    go_wp2_with fail
    refine HRW.out.mono ?_
    rintro e w4 ⟨rfl, rd4⟩
    obtain ⟨R, hq, hsz, hr⟩ := HQ.out
    obtain ⟨v5, r5, f5, o5⟩ := rd4
    have q5 := crow_kept hq f5 (by have := HG.out; omega)
    have hck : w4.cell? ⟨gl, k, none⟩ = some (R[k]'(by omega)) := by rw [cell_row2 q5]; exact Array.getElem?_eq_getElem _
    have hfz := vfree q5 k
    have HQ5 := Lib.hid (And.intro q5 (And.intro hsz hr))
    have HR5 : Hid (Rd w4 b v5 (wordsS (k + 1) st).2.1 (wordsS (k + 1) st).2.2) := Lib.hid r5
    have HF5 := Lib.hid (HF3.out.trans f5 (fun _ _ h => h))
    have HO5 : Hid (v5.ownBlock = v.ownBlock ∨ v5.ownBlock = none) := Lib.hid (by
      rcases o5 with e | e
      · rw [e]; exact HO3.out
      · exact .inr e)
    have HX5 : Hid (w4.heap[gv]? = some (oVz 0 nilS)) := Lib.hid (HEX.out _ _ HX.out (f5.mono (fun i _ h => .inl h)))
    clear hq hr r5 f5 o5 q5 HQ HX
    dsimp only
    go_wp2_with fail
    go_roundg (K - (k + 1))
    case measure => omega
    case rel =>
      have f6 : Fr (fun j => j = gl) w4 (w4.setCell ⟨gl, k, none⟩ (.int .i64 z)) := (Fr.refl (fun j => j = gl) w4).setCell (p := ⟨gl, k, none⟩) (fun _ => rfl) _
      refine ⟨k + 1, by omega, rfl, by congr 1, Lib.hid ⟨v5, HR5.out.fr f6 (fun e => by have := HG.out; omega) (fun j hj e => ?_), HF5.out.trans f6 (fun j hj e => by have := HG.out; omega), HO5.out⟩, Lib.hid ⟨R.setIfInBounds k (.int .i64 z), heap_setCell_same w4 gl k R _ _ HQ5.out.1, by rw [Array.size_setIfInBounds]; exact HQ5.out.2.1, fun j hj hjk => ?_⟩, Lib.hid (HEX.out _ _ HX5.out (f6.mono (fun i _ h => .inr h)))⟩
      · rcases HO5.out with h | h
        · rw [h] at hj
          have := HOV.out.2 j hj
          have := HG.out
          omega
        · rw [h] at hj; cases hj
      · rw [Array.getElem?_setIfInBounds]
        by_cases hjk2 : k = j
        · subst hjk2
          rw [if_pos rfl, if_pos (by have := HQ5.out.2.1; omega), HZ.out.2]
        · rw [if_neg hjk2]
          exact HQ5.out.2.2 j hj (by omega)
end
section
set_option maxRecDepth 100000

/-- Of any bytes: what is taken, in slices of its own. -/
def Got (b : Nat) (v : Value) (q : En × St) (w : World) (e : Ending) (w' : World) : Prop :=
  ∃ v' u', e = .returned (q.1.val v' u') ∧ ES w' q.1 v' u' ∧ Reads b v q.2.1 q.2.2 w w' ∧ (∀ k, v'.ownBlock = some k → w.heap.size ≤ k) ∧ (∀ k, u'.ownBlock = some k → w.heap.size ≤ k)

theorem callT_k (st : St) : (callT st).k = 1 := by unfold callT; split <;> rfl
theorem callT_m (st : St) : (callT st).m = [] := by unfold callT; split <;> rfl

theorem gtakeAny_any (b : Nat) (v : Value) (l : List UInt8) (x : Int) (w : World) (hR : Rd w b v l x) :
    Calls Try.prog 78 #[.pointer (some ⟨b, 0, none⟩)] w fun e w' => Got b v (entAS (l, x)) w e w' := by
  have hb := hR.lt
  have HOV := Lib.hid hR.old
  have q0 := heap_alloc_new w (oEn 0 0 0 0 nilS nilS)
  have f0 : Fr (fun _ => False) w (w.alloc (oEn 0 0 0 0 nilS nilS)) := (Fr.refl _ _).alloc _
  obtain ⟨E, hE⟩ : ∃ E, E = entAS (l, x) := ⟨_, rfl⟩
  rw [← hE]
  have HEE := Lib.hid hE
  clear hE
  go_enter Try.func78, Try.ntmps78
  go_upto_region 1 with fail
  generalize w.alloc (oEn 0 0 0 0 nilS nilS) = w0 at *
  obtain ⟨g2, hg2⟩ : ∃ g, g = w.heap.size := ⟨_, rfl⟩
  rw [← hg2] at q0 ⊢
  have HG : Hid (g2 = w.heap.size ∧ b < w.heap.size) := Lib.hid ⟨hg2, hb⟩
  have R0 := hR.fr f0 (fun h => h) (fun _ _ h => h)
  have Q0 := Lib.hid q0
  have F0 := Lib.hid f0
  clear q0 f0 hg2 hb hR
  have hrw := rword_any b v l x w0 R0
  have hs : (numS (l, x) 2).1 < 65536 := numS_small (l, x) 2
  obtain ⟨K, hK⟩ : ∃ K, K = (numS (l, x) 2).1 := ⟨_, rfl⟩
  obtain ⟨st, hst⟩ : ∃ st, st = (numS (l, x) 2).2 := ⟨_, rfl⟩
  rw [← hK, ← hst] at hrw
  rw [← hK] at hs
  have HE : Hid (E = if K = 0 then (En.zero, st) else if K = 1 then (callT st, (takeS st).2) else if K = 2 then (⟨2, 0, 0, 0, [], (membS st).1⟩, (membS st).2) else (En.zero, failS st 5)) := Lib.hid (by rw [HEE.out]; unfold entAS; rw [← hK, ← hst])
  clear hK hst R0 HEE
  have HRW := Lib.hid hrw
  clear hrw
  rcases (show K = 0 ∨ K = 1 ∨ K = 2 ∨ 3 ≤ K by omega) with h | h | h | h
  · subst h
    have hE : E = (En.zero, st) := HE.out
    subst hE
    clear HE
    go_wp2_with fail
    refine HRW.out.mono ?_
    rintro e w1 ⟨rfl, rd1⟩
    have Q1 : w1.heap[g2]? = some (oEn 0 0 0 0 nilS nilS) := by
      obtain ⟨_, _, f1, _⟩ := rd1
      exact crow_kept Q0.out f1 (by have := HG.out; omega)
    have RD := Lib.hid (Reads.later2 F0.out rd1)
    clear rd1
    obtain ⟨c0, c1, c2, c3, c4, c5⟩ := en_cells Q1
    obtain ⟨z0, z1, z2, z3, z4, z5⟩ := vfree6 Q1
    have HQ2 := Lib.hid Q1
    clear Q1
    dsimp only
    go_wp2_with fail
    have hq := cst6 (y0 := .int .u8 0) (y1 := .int .u16 0) (y2 := .int .u16 0) (y3 := .int .i64 0) (y4 := nilS) (y5 := nilS) HQ2.out
    have hf := cfr6 (.int .u8 0) (.int .u16 0) (.int .u16 0) (.int .i64 0) (nilS) (nilS) (b := g2) (S := fun k => k = g2) (Fr.refl _ w1) (fun _ => rfl)
    refine bodyPost_ret (results_cell_row rfl _ _ g2 44 _ _ _ rfl hq Try.underlying44 rfl (by kernel_rfl)) rfl ?_
    exact ⟨nilS, nilS, rfl, es_zero _, RD.out.box2 hf (by have := HG.out; omega) HG.out.2 HOV.out, fun _ h => (by cases h), fun _ h => (by cases h)⟩
  · subst h
    have hE : E = (callT st, (takeS st).2) := HE.out
    subst hE
    clear HE
    go_wp2_with fail
    refine HRW.out.mono ?_
    rintro e w1 ⟨rfl, v1, r1, f1, o1⟩
    have ht := Lib.hid (take_any b v1 st.1 st.2 w1 r1)
    have Q1 := Lib.hid (crow_kept Q0.out f1 (by have := HG.out; omega))
    have FF1 := Lib.hid f1
    have OO1 := Lib.hid o1
    have hs1 := f1.size
    clear r1 f1 o1
    dsimp only
    go_wp2_with fail
    refine ht.out.mono ?_
    rintro e w2 ⟨u, rfl, rd2, hu⟩
    rw [show (st.1, st.2) = st from rfl] at rd2 hu
    obtain ⟨tt, tn, tp, v', rfl, hT, hsee, hge⟩ : ∃ tt tn tp v', u = cv tt tn tp v' ∧ callT st = ⟨1, tt, tn, tp, (callT st).l, []⟩ ∧ Sees w2 v' (callT st).l ∧ (∀ k, v'.ownBlock = some k → w1.heap.size ≤ k) := by
      rcases hu with ⟨h0, v', e, hs, g, hg, hg2, _⟩ | ⟨h0, e⟩
      · refine ⟨_, _, _, v', e, ?_, ?_, fun k hk => by rw [hg] at hk; cases hk; exact hg2⟩
        · unfold callT; rw [if_pos h0]
        · unfold callT; rw [if_pos h0]; exact hs
      · refine ⟨_, _, _, nilS, e, ?_, ?_, fun k hk => by cases hk⟩
        · unfold callT; rw [if_neg h0]
        · unfold callT; rw [if_neg h0]; exact .inl ⟨rfl, _, _, rfl⟩
    have HR2 := Lib.hid (Reads.later2 F0.out (Reads.trans FF1.out OO1.out rd2))
    have Q2 : w2.heap[g2]? = some (oEn 0 0 0 0 nilS nilS) := by
      obtain ⟨_, _, f2, _⟩ := rd2
      exact crow_kept Q1.out f2 (by have := HG.out; omega)
    obtain ⟨a3, k3, hv3, _⟩ := hsee.shape
    subst hv3
    have HS := Lib.hid hsee
    have hq0 := vt_lt Q0.out
    have HOW : Hid (∀ k, (Value.slice a3 (callT st).l.length k3).ownBlock = some k → g2 < k) := Lib.hid (fun k hk => by have := hge k hk; omega)
    have HTT := Lib.hid hT
    clear rd2 hu hsee hs1 hge hq0 hT
    obtain ⟨c0, c1, c2, c3, c4, c5⟩ := en_cells Q2
    obtain ⟨z0, z1, z2, z3, z4, z5⟩ := vfree6 Q2
    have HQ2 := Lib.hid Q2
    clear Q2
    unfold cv
    dsimp only
    go_wp2_with fail
    have hq := cst6 (y0 := .int .u8 1) (y1 := .int .u16 tt) (y2 := .int .u16 tn) (y3 := .int .i64 tp) (y4 := .slice a3 (callT st).l.length k3) (y5 := nilS) HQ2.out
    have hf := cfr6 (.int .u8 1) (.int .u16 tt) (.int .u16 tn) (.int .i64 tp) (.slice a3 (callT st).l.length k3) (nilS) (b := g2) (S := fun k => k = g2) (Fr.refl _ w2) (fun _ => rfl)
    refine bodyPost_ret (results_cell_row rfl _ _ g2 44 _ _ _ rfl hq Try.underlying44 rfl (by kernel_rfl)) rfl ?_
    refine ⟨.slice a3 (callT st).l.length k3, nilS, ?_, ⟨HS.out.keep hf (.inr fun k hk e => by have := HOW.out k hk; omega), by rw [callT_m]; exact SI.nil _⟩, HR2.out.box2 hf (by have := HG.out; omega) HG.out.2 HOV.out, fun k hk => by have := HOW.out k hk; have := HG.out; omega, fun _ h => (by cases h)⟩
    show Ending.returned _ = .returned (ev (callT st).k (callT st).t (callT st).n (callT st).p _ _)
    rw [HTT.out]
  · subst h
    have hE : E = (⟨2, 0, 0, 0, [], (membS st).1⟩, (membS st).2) := HE.out
    subst hE
    clear HE
    go_wp2_with fail
    refine HRW.out.mono ?_
    rintro e w1 ⟨rfl, v1, r1, f1, o1⟩
    have ht := Lib.hid (gmembers_any b v1 st.1 st.2 w1 r1)
    have Q1 := Lib.hid (crow_kept Q0.out f1 (by have := HG.out; omega))
    have FF1 := Lib.hid f1
    have OO1 := Lib.hid o1
    have hs1 := f1.size
    clear r1 f1 o1
    dsimp only
    go_wp2_with fail
    refine ht.out.mono ?_
    rintro e w2 ⟨u, rfl, hsi, rd2, hge⟩
    rw [show (st.1, st.2) = st from rfl] at rd2 hsi
    have HR2 := Lib.hid (Reads.later2 F0.out (Reads.trans FF1.out OO1.out rd2))
    have Q2 : w2.heap[g2]? = some (oEn 0 0 0 0 nilS nilS) := by
      obtain ⟨_, _, f2, _⟩ := rd2
      exact crow_kept Q1.out f2 (by have := HG.out; omega)
    obtain ⟨a3, k3, hv3, _⟩ := hsi.shape
    subst hv3
    have HS := Lib.hid hsi
    have hq0 := vt_lt Q0.out
    have HOW : Hid (∀ k, (Value.slice a3 (membS st).1.length k3).ownBlock = some k → g2 < k) := Lib.hid (fun k hk => by have := hge k hk; omega)
    clear rd2 hge hsi hs1 hq0
    obtain ⟨c0, c1, c2, c3, c4, c5⟩ := en_cells Q2
    obtain ⟨z0, z1, z2, z3, z4, z5⟩ := vfree6 Q2
    have HQ2 := Lib.hid Q2
    clear Q2
    dsimp only
    go_wp2_with fail
    have hq := cst6 (y0 := .int .u8 2) (y1 := .int .u16 0) (y2 := .int .u16 0) (y3 := .int .i64 0) (y4 := nilS) (y5 := .slice a3 (membS st).1.length k3) HQ2.out
    have hf := cfr6 (.int .u8 2) (.int .u16 0) (.int .u16 0) (.int .i64 0) (nilS) (.slice a3 (membS st).1.length k3) (b := g2) (S := fun k => k = g2) (Fr.refl _ w2) (fun _ => rfl)
    refine bodyPost_ret (results_cell_row rfl _ _ g2 44 _ _ _ rfl hq Try.underlying44 rfl (by kernel_rfl)) rfl ?_
    exact ⟨nilS, .slice a3 (membS st).1.length k3, rfl, ⟨.inl ⟨rfl, _, _, rfl⟩, HS.out.keep hf (.inr fun k hk e => by have := HOW.out k hk; omega)⟩, HR2.out.box2 hf (by have := HG.out; omega) HG.out.2 HOV.out, fun _ h => (by cases h), fun k hk => by have := HOW.out k hk; have := HG.out; omega⟩
  · have hE : E = (En.zero, failS st 5) := by rw [HE.out, if_neg (by omega), if_neg (by omega), if_neg (by omega)]
    subst hE
    clear HE
    have n0 : ((K : Int) == 0) = false := by simp; omega
    have n1 : ((K : Int) == 1) = false := by simp; omega
    have n2 : ((K : Int) == 2) = false := by simp; omega
    clear h
    go_wp2_with fail
    refine HRW.out.mono ?_
    rintro e w1 ⟨rfl, v1, r1, f1, o1⟩
    have ht := Lib.hid (fail_any b v1 st.1 st.2 5 w1 r1)
    have Q1 := Lib.hid (crow_kept Q0.out f1 (by have := HG.out; omega))
    have FF1 := Lib.hid f1
    have OO1 := Lib.hid o1
    clear r1 f1 o1
    dsimp only
    go_wp2_with fail
    refine ht.out.mono ?_
    rintro e w2 ⟨rfl, rd2⟩
    rw [show (st.1, st.2) = st from rfl] at rd2
    have HR2 := Lib.hid (Reads.later2 F0.out (Reads.trans FF1.out OO1.out rd2))
    have Q2 : w2.heap[g2]? = some (oEn 0 0 0 0 nilS nilS) := by
      obtain ⟨_, _, f2, _⟩ := rd2
      exact crow_kept Q1.out f2 (by have := HG.out; omega)
    clear rd2
    obtain ⟨c0, c1, c2, c3, c4, c5⟩ := en_cells Q2
    obtain ⟨z0, z1, z2, z3, z4, z5⟩ := vfree6 Q2
    have HQ2 := Lib.hid Q2
    clear Q2
    dsimp only
    go_wp2_with fail
    have hq := cst6 (y0 := .int .u8 0) (y1 := .int .u16 0) (y2 := .int .u16 0) (y3 := .int .i64 0) (y4 := nilS) (y5 := nilS) HQ2.out
    have hf := cfr6 (.int .u8 0) (.int .u16 0) (.int .u16 0) (.int .i64 0) (nilS) (nilS) (b := g2) (S := fun k => k = g2) (Fr.refl _ w2) (fun _ => rfl)
    refine bodyPost_ret (results_cell_row rfl _ _ g2 44 _ _ _ rfl hq Try.underlying44 rfl (by kernel_rfl)) rfl ?_
    exact ⟨nilS, nilS, rfl, es_zero _, HR2.out.box2 hf (by have := HG.out; omega) HG.out.2 HOV.out, fun _ h => (by cases h), fun _ h => (by cases h)⟩

theorem gvtake_any (b : Nat) (v : Value) (l : List UInt8) (x : Int) (w : World) (hR : Rd w b v l x) :
    Calls Try.prog 62 #[.pointer (some ⟨b, 0, none⟩)] w fun e w' => Got b v (entS (l, x)) w e w' := by
  have HOV := Lib.hid (And.intro hR.lt hR.old)
  have q0 := heap_alloc_new w (oEn 0 0 0 0 nilS nilS)
  have f0 : Fr (fun _ => False) w (w.alloc (oEn 0 0 0 0 nilS nilS)) := (Fr.refl _ _).alloc _
  have R0 := Lib.hid (hR.fr f0 (fun h => h) (fun _ _ h => h))
  have Q0 := Lib.hid q0
  have F0 := Lib.hid f0
  clear q0 f0 hR
  go_enter Try.func62, Try.ntmps62
  go_upto_region 1 with fail
  generalize w.alloc (oEn 0 0 0 0 nilS nilS) = w0 at *
  obtain ⟨g2, hg2⟩ : ∃ g, g = w.heap.size := ⟨_, rfl⟩
  rw [← hg2] at Q0 ⊢
  have HG : Hid (g2 = w.heap.size ∧ b < w.heap.size) := Lib.hid ⟨hg2, HOV.out.1⟩
  clear hg2
  go_wp2_with fail
  refine (gtakeAny_any b v l x w0 R0.out).mono ?_
  rintro e w1 ⟨v1, u1, rfl, hes, rd1, hv1, hu1⟩
  obtain ⟨E, hE⟩ : ∃ E, E = entAS (l, x) := ⟨_, rfl⟩
  rw [← hE] at hes rd1 ⊢
  have HE : Hid (entS (l, x) = if E.2.2 = 0 then E else (En.zero, E.2)) := Lib.hid (by unfold entS; rw [← hE])
  clear hE
  have hq0 := vt_lt Q0.out
  have hs0 := F0.out.size
  have HV1 : Hid ((∀ k, v1.ownBlock = some k → g2 < k) ∧ ∀ k, u1.ownBlock = some k → g2 < k) := Lib.hid ⟨fun k hk => by have := hv1 k hk; omega, fun k hk => by have := hu1 k hk; omega⟩
  obtain ⟨a1, c1, e1, -⟩ := hes.1.shape
  obtain ⟨a2, c2, e2, -⟩ := hes.2.shape
  subst e1 e2
  clear hq0 hs0 hv1 hu1
  have RD1 := Lib.hid rd1
  have Q1 : Hid (w1.heap[g2]? = some (oEn 0 0 0 0 nilS nilS)) := Lib.hid (by
    obtain ⟨_, _, f1, _⟩ := rd1
    exact crow_kept Q0.out f1 (by have := HG.out; omega))
  have HES := Lib.hid hes
  clear rd1 hes
  dsimp only
  go_upto_region 2 with fail
  have q2 := heap_alloc_new w1 (E.1.obj (.slice a1 E.1.l.length c1) (.slice a2 E.1.m.length c2))
  have f2 : Fr (fun _ => False) w1 (w1.alloc (E.1.obj (.slice a1 E.1.l.length c1) (.slice a2 E.1.m.length c2))) := (Fr.refl _ _).alloc _
  generalize w1.alloc (E.1.obj (.slice a1 E.1.l.length c1) (.slice a2 E.1.m.length c2)) = w2 at *
  have hg3 : g2 < w1.heap.size := vt_lt Q1.out
  obtain ⟨g3, hg3'⟩ : ∃ g, g = w1.heap.size := ⟨_, rfl⟩
  rw [← hg3'] at q2 hg3 ⊢
  have HG3 := Lib.hid hg3
  have Q2 := Lib.hid (And.intro (crow_kept Q1.out f2 (fun h => h)) q2)
  have ES2 := Lib.hid (HES.out.fr f2)
  have RD2 : Hid (Reads b v E.2.1 E.2.2 w w2) := Lib.hid ((Reads.later2 F0.out RD1.out).fr f2)
  clear q2 f2 hg3 hg3' Q1 HES RD1 R0 Q0 F0
  obtain ⟨v3, r3, f3, o3⟩ := RD2.out
  have her := Lib.hid (err_any b v3 E.2.1 E.2.2 w2 r3)
  clear r3 f3 o3
  go_wp2_with fail
  refine her.out.mono ?_
  rintro e w3 ⟨rfl, rfl⟩
  obtain ⟨c00, c01, c02, c03, c04, c05⟩ := en_cells Q2.out.1
  obtain ⟨z0, z1, z2, z3, z4, z5⟩ := vfree6 Q2.out.1
  have HQ2 := Lib.hid Q2.out.1
  obtain ⟨X, hX⟩ : ∃ X, X = E.2.2 := ⟨_, rfl⟩
  rw [← hX]
  dsimp only
  by_cases h0 : X = 0
  · have hS : entS (l, x) = E := by rw [HE.out, if_pos (by rw [← hX]; exact h0)]
    have HS := Lib.hid hS
    have h0' : (X != 0) = false := by simp [h0]
    clear hS HE hX h0
    obtain ⟨d0, d1, d2, d3, d4, d5⟩ := en_cells Q2.out.2
    go_wp2_with fail
    have hq := cst6 (y0 := .int .u8 E.1.k) (y1 := .int .u16 E.1.t) (y2 := .int .u16 E.1.n) (y3 := .int .i64 E.1.p) (y4 := .slice a1 E.1.l.length c1) (y5 := .slice a2 E.1.m.length c2) HQ2.out
    have hf := cfr6 (.int .u8 E.1.k) (.int .u16 E.1.t) (.int .u16 E.1.n) (.int .i64 E.1.p) (.slice a1 E.1.l.length c1) (.slice a2 E.1.m.length c2) (b := g2) (S := fun k => k = g2) (Fr.refl _ w2) (fun _ => rfl)
    refine bodyPost_ret (results_cell_row rfl _ _ g2 44 _ _ _ rfl hq Try.underlying44 rfl (by kernel_rfl)) rfl ?_
    rw [HS.out]
    exact ⟨_, _, rfl, ⟨ES2.out.1.keep hf (.inr fun k hk e => by have := HV1.out.1 k hk; omega), ES2.out.2.keep hf (.inr fun k hk e => by have := HV1.out.2 k hk; omega)⟩, RD2.out.box2 hf (by have := HG.out; omega) HOV.out.1 HOV.out.2, fun k hk => by have := HV1.out.1 k hk; have := HG.out; omega, fun k hk => by have := HV1.out.2 k hk; have := HG.out; omega⟩
  · have hS : entS (l, x) = (En.zero, E.2) := by rw [HE.out, if_neg (by rw [← hX]; exact h0)]
    have HS := Lib.hid hS
    have h0' : (X != 0) = true := by simp [h0]
    clear hS HE hX h0
    go_wp2_with fail
    have hq := cst6 (y0 := .int .u8 0) (y1 := .int .u16 0) (y2 := .int .u16 0) (y3 := .int .i64 0) (y4 := nilS) (y5 := nilS) HQ2.out
    have hf := cfr6 (.int .u8 0) (.int .u16 0) (.int .u16 0) (.int .i64 0) (nilS) (nilS) (b := g2) (S := fun k => k = g2) (Fr.refl _ w2) (fun _ => rfl)
    refine bodyPost_ret (results_cell_row rfl _ _ g2 44 _ _ _ rfl hq Try.underlying44 rfl (by kernel_rfl)) rfl ?_
    rw [HS.out]
    exact ⟨nilS, nilS, rfl, es_zero _, RD2.out.box2 hf (by have := HG.out; omega) HOV.out.1 HOV.out.2, fun _ h => (by cases h), fun _ h => (by cases h)⟩
end
section
set_option maxRecDepth 100000

def callC (st : St) : (Int × Int × Int × List UInt8) := if (takeS st).2.2 = 0 then ((takeS st).1.1, (takeS st).1.2.1, (takeS st).1.2.2.1, (takeS st).1.2.2.2) else (0, 0, 0, [])
def ansC (st : St) : (Int × Int × List UInt8) := if (takeAS st).2.2 = 0 then ((takeAS st).1.1, (takeAS st).1.2.1, (takeAS st).1.2.2) else (0, 0, [])

def rdP : Nat → Lt × St → Lt × St
  | 1, q => if hasE q.1.k q.1.s 1 = true then ({ q.1 with p := (numS q.2 4).1 }, (numS q.2 4).2) else q
  | 2, q => if hasE q.1.k q.1.s 2 = true then ({ q.1 with b1 := (ballotS q.2).1.1, b2 := (ballotS q.2).1.2 }, (ballotS q.2).2) else q
  | 3, q => if hasE q.1.k q.1.s 4 = true then ({ q.1 with s := ((withinS q.2 1).1 : Int) == 1 }, (withinS q.2 1).2) else q
  | 4, q => if hasE q.1.k q.1.s 8 = true then ({ q.1 with w1 := (ballotS q.2).1.1, w2 := (ballotS q.2).1.2 }, (ballotS q.2).2) else q
  | 5, q => if hasE q.1.k q.1.s 16 = true then ({ q.1 with e := (entS q.2).1 }, (entS q.2).2) else q
  | 6, q => if hasE q.1.k q.1.s 32 = true then ({ q.1 with ct := (callC q.2).1, cn := (callC q.2).2.1, cp := (callC q.2).2.2.1, cl := (callC q.2).2.2.2 }, (takeS q.2).2) else q
  | 7, q => if hasE q.1.k q.1.s 64 = true then
      ({ q.1 with it := (numS q.2 2).1, iN := (numS (numS q.2 2).2 2).1, vn := (viewS (numS (numS q.2 2).2 2).2).1.1, vm := (viewS (numS (numS q.2 2).2 2).2).1.2,
                  ae := (ansC (viewS (numS (numS q.2 2).2 2).2).2).1, ar := (ansC (viewS (numS (numS q.2 2).2 2).2).2).2.1, al := (ansC (viewS (numS (numS q.2 2).2 2).2).2).2.2 }, (takeAS (viewS (numS (numS q.2 2).2 2).2).2).2) else q
  | _, q => q
def rdS : Nat → St → Lt × St
  | 0, st => ({ Lt.zero with k := (kindS st).1, f := (numS (kindS st).2 2).1, t := (numS (numS (kindS st).2 2).2 2).1 }, (numS (numS (kindS st).2 2).2 2).2)
  | n + 1, st => rdP (n + 1) (rdS n st)

theorem rd_yes1 {Y : Lt} {T : St} (h : hasE Y.k Y.s 1 = true) : rdP 1 (Y, T) = ({ Y with p := (numS T 4).1 }, (numS T 4).2) := by
  rw [rdP]
  dsimp only
  rw [if_pos h]
theorem rd_no1 {Y : Lt} {T : St} (h : hasE Y.k Y.s 1 = false) : rdP 1 (Y, T) = (Y, T) := by
  rw [rdP]
  dsimp only
  rw [if_neg (by rw [h]; decide)]
theorem rd_yes2 {Y : Lt} {T : St} (h : hasE Y.k Y.s 2 = true) : rdP 2 (Y, T) = ({ Y with b1 := (ballotS T).1.1, b2 := (ballotS T).1.2 }, (ballotS T).2) := by
  rw [rdP]
  dsimp only
  rw [if_pos h]
theorem rd_no2 {Y : Lt} {T : St} (h : hasE Y.k Y.s 2 = false) : rdP 2 (Y, T) = (Y, T) := by
  rw [rdP]
  dsimp only
  rw [if_neg (by rw [h]; decide)]
theorem rd_yes3 {Y : Lt} {T : St} (h : hasE Y.k Y.s 4 = true) : rdP 3 (Y, T) = ({ Y with s := ((withinS T 1).1 : Int) == 1 }, (withinS T 1).2) := by
  rw [rdP]
  dsimp only
  rw [if_pos h]
theorem rd_no3 {Y : Lt} {T : St} (h : hasE Y.k Y.s 4 = false) : rdP 3 (Y, T) = (Y, T) := by
  rw [rdP]
  dsimp only
  rw [if_neg (by rw [h]; decide)]
theorem rd_yes4 {Y : Lt} {T : St} (h : hasE Y.k Y.s 8 = true) : rdP 4 (Y, T) = ({ Y with w1 := (ballotS T).1.1, w2 := (ballotS T).1.2 }, (ballotS T).2) := by
  rw [rdP]
  dsimp only
  rw [if_pos h]
theorem rd_no4 {Y : Lt} {T : St} (h : hasE Y.k Y.s 8 = false) : rdP 4 (Y, T) = (Y, T) := by
  rw [rdP]
  dsimp only
  rw [if_neg (by rw [h]; decide)]
theorem rd_yes5 {Y : Lt} {T : St} (h : hasE Y.k Y.s 16 = true) : rdP 5 (Y, T) = ({ Y with e := (entS T).1 }, (entS T).2) := by
  rw [rdP]
  dsimp only
  rw [if_pos h]
theorem rd_no5 {Y : Lt} {T : St} (h : hasE Y.k Y.s 16 = false) : rdP 5 (Y, T) = (Y, T) := by
  rw [rdP]
  dsimp only
  rw [if_neg (by rw [h]; decide)]
theorem rd_yes6 {Y : Lt} {T : St} (h : hasE Y.k Y.s 32 = true) : rdP 6 (Y, T) = ({ Y with ct := (callC T).1, cn := (callC T).2.1, cp := (callC T).2.2.1, cl := (callC T).2.2.2 }, (takeS T).2) := by
  rw [rdP]
  dsimp only
  rw [if_pos h]
theorem rd_no6 {Y : Lt} {T : St} (h : hasE Y.k Y.s 32 = false) : rdP 6 (Y, T) = (Y, T) := by
  rw [rdP]
  dsimp only
  rw [if_neg (by rw [h]; decide)]
theorem rd_yes7 {Y : Lt} {T : St} (h : hasE Y.k Y.s 64 = true) : rdP 7 (Y, T) = ({ Y with it := (numS T 2).1, iN := (numS (numS T 2).2 2).1, vn := (viewS (numS (numS T 2).2 2).2).1.1, vm := (viewS (numS (numS T 2).2 2).2).1.2, ae := (ansC (viewS (numS (numS T 2).2 2).2).2).1, ar := (ansC (viewS (numS (numS T 2).2 2).2).2).2.1, al := (ansC (viewS (numS (numS T 2).2 2).2).2).2.2 }, (takeAS (viewS (numS (numS T 2).2 2).2).2).2) := by
  rw [rdP]
  dsimp only
  rw [if_pos h]
theorem rd_no7 {Y : Lt} {T : St} (h : hasE Y.k Y.s 64 = false) : rdP 7 (Y, T) = (Y, T) := by
  rw [rdP]
  dsimp only
  rw [if_neg (by rw [h]; decide)]

theorem cs_cl (Y : Lt) (L : List UInt8) (s : Ls) : Lt.cs { Y with cl := L } s = Lt.cs Y s := rfl
theorem cs_vm (Y : Lt) (L : List Int) (s : Ls) : Lt.cs { Y with vm := L } s = Lt.cs Y s := rfl
theorem cs_al (Y : Lt) (L : List UInt8) (s : Ls) : Lt.cs { Y with al := L } s = Lt.cs Y s := rfl
theorem st_cL {w : World} {g : Nat} {x : Lt} {s : Ls} {T : TypeId} (h : w.heap[g]? = some (.cells (x.cs s) T (0, 0))) (v0 v1 v2 : Int) (u0 : Value) (L : List UInt8) :
    ((((w.setCell ⟨g, 17, none⟩ (.int .u16 v0)).setCell ⟨g, 18, none⟩ (.int .u16 v1)).setCell ⟨g, 19, none⟩ (.int .i64 v2)).setCell ⟨g, 20, none⟩ (u0)).heap[g]? = some (.cells (Lt.cs ({ x with ct := v0, cn := v1, cp := v2, cl := L } : Lt) ({ s with ca := u0 } : Ls)) T (0, 0)) := by
  have e := cs_cl { x with ct := v0, cn := v1, cp := v2 } L { s with ca := u0 }
  rw [e]
  exact st_c h v0 v1 v2 u0
theorem st_vL {w : World} {g : Nat} {x : Lt} {s : Ls} {T : TypeId} (h : w.heap[g]? = some (.cells (x.cs s) T (0, 0))) (v0 : Int) (u0 : Value) (L : List Int) :
    ((w.setCell ⟨g, 15, none⟩ (.int .i64 v0)).setCell ⟨g, 16, none⟩ (u0)).heap[g]? = some (.cells (Lt.cs ({ x with vn := v0, vm := L } : Lt) ({ s with va := u0 } : Ls)) T (0, 0)) := by
  have e := cs_vm { x with vn := v0 } L { s with va := u0 }
  rw [e]
  exact st_v h v0 u0
theorem st_aL {w : World} {g : Nat} {x : Lt} {s : Ls} {T : TypeId} (h : w.heap[g]? = some (.cells (x.cs s) T (0, 0))) (v0 v1 : Int) (u0 : Value) (L : List UInt8) :
    (((w.setCell ⟨g, 23, none⟩ (.int .i64 v0)).setCell ⟨g, 24, none⟩ (.int .i64 v1)).setCell ⟨g, 25, none⟩ (u0)).heap[g]? = some (.cells (Lt.cs ({ x with ae := v0, ar := v1, al := L } : Lt) ({ s with aa := u0 } : Ls)) T (0, 0)) := by
  have e := cs_al { x with ae := v0, ar := v1 } L { s with aa := u0 }
  rw [e]
  exact st_a h v0 v1 u0

/-- So much is read: the letter Y, of what is left T. -/
def RdJ (b : Nat) (v : Value) (w : World) (g : Nat) (Y : Lt) (T : St) (wx : World) : Prop :=
  wx.heap[g]? = some (zLt 0 0 0) ∧ Reads b v T.1 T.2 w wx ∧ ∃ si, wx.heap[g + 1]? = some (oLt Y si) ∧ LS wx Y si ∧ si.new (g + 2)

/-- What stays: where all lies. -/
def RdG (b : Nat) (v : Value) (w : World) (g : Nat) : Prop := g = w.heap.size ∧ b < w.heap.size ∧ ∀ k, v.ownBlock = some k → k < w.heap.size

theorem RdJ.fr {b : Nat} {v : Value} {w wx wy : World} {g : Nat} {Y : Lt} {T : St} (h : RdJ b v w g Y T wx) (f : Fr (fun _ => False) wx wy) : RdJ b v w g Y T wy := by
  obtain ⟨h1, h2, si, h3, h4, h5⟩ := h
  exact ⟨crow_kept h1 f (fun h => h), h2.fr f, si, crow_kept h3 f (fun h => h), h4.fr f, h5⟩

theorem RdJ.call {b : Nat} {v : Value} {w wx : World} {g : Nat} {Y : Lt} {T : St} (h : RdJ b v w g Y T wx) (hG : RdG b v w g) :
    ∃ v1, Rd wx b v1 T.1 T.2 ∧ ∀ (T' : St) wy, Reads b v1 T'.1 T'.2 wx wy → RdJ b v w g Y T' wy := by
  obtain ⟨h1, ⟨v1, r1, f1, o1⟩, si, h3, h4, h5⟩ := h
  refine ⟨v1, r1, fun T' wy hr => ?_⟩
  have hr' := hr
  obtain ⟨v2, r2, f2, o2⟩ := hr
  obtain ⟨hg, hb, -⟩ := hG
  exact ⟨crow_kept h1 f2 (by omega), Reads.trans f1 o1 hr', si, crow_kept h3 f2 (by omega), h4.off f2 (h5.le (by omega)), h5⟩

theorem RdJ.store {b : Nat} {v : Value} {w wx wy : World} {g : Nat} {Y Y' : Lt} {T : St} {si : Ls} (h : RdJ b v w g Y T wx) (hG : RdG b v w g) (f : Fr (fun k => k = g + 1) wx wy) (q : wy.heap[g + 1]? = some (oLt Y' si)) (hl : LS wy Y' si) (hn : si.new (g + 2)) : RdJ b v w g Y' T wy := by
  obtain ⟨h1, h2, -⟩ := h
  obtain ⟨hg, hb, hv⟩ := hG
  exact ⟨crow_kept h1 f (by omega), h2.box2 f (by omega) hb hv, si, q, hl, hn⟩

theorem RdJ.sz {b : Nat} {v : Value} {w wx : World} {g : Nat} {Y : Lt} {T : St} (h : RdJ b v w g Y T wx) : g + 1 < wx.heap.size := by
  obtain ⟨-, -, si, h3, -⟩ := h
  exact vt_lt h3
end
section
set_option maxRecDepth 100000

/-! Which parts depend on what. -/
theorem has_small (k : Int) (s : Bool) : hasE k s 1 = hasE k false 1 ∧ hasE k s 2 = hasE k false 2 ∧ hasE k s 4 = hasE k false 4 := by
  unfold hasE partsE
  cases s
  · exact ⟨rfl, rfl, rfl⟩
  · by_cases h0 : k = 0 ∨ k = 3
    · simp [h0]
    · by_cases h1 : k = 1
      · subst h1; exact ⟨by decide, by decide, by decide⟩
      · simp [h0, h1]

/-- What a letter of numbers alone says of its bounds: as its Go type has them. -/
structure LtTy (x : Lt) : Prop where
  k0 : 0 ≤ x.k
  k1 : x.k ≤ 255
  ek0 : 0 ≤ x.e.k
  ek1 : x.e.k ≤ 255
  et : 0 ≤ x.e.t ∧ x.e.t ≤ 65535
  en : 0 ≤ x.e.n ∧ x.e.n ≤ 65535
  ct : 0 ≤ x.ct ∧ x.ct ≤ 65535
  cn : 0 ≤ x.cn ∧ x.cn ≤ 65535
  it : 0 ≤ x.it ∧ x.it ≤ 65535
  iN : 0 ≤ x.iN ∧ x.iN ≤ 65535

theorem asc_in : ∀ (l : List Int) (p : Int), -1 ≤ p → asc p l = true → ∀ x ∈ l, 0 ≤ x ∧ x ≤ 15
  | [], _, _, _ => fun x hx => by cases hx
  | y :: l, p, hp, h => by
    unfold asc at h
    simp only [Bool.and_eq_true, decide_eq_true_eq] at h
    intro x hx
    rcases List.mem_cons.1 hx with rfl | hx
    · omega
    · exact asc_in l y (by omega) h.2 x hx

theorem chkM_ok {l : List Int} (h : chkM l = 0) : 1 ≤ l.length ∧ l.length ≤ 16 ∧ In16 l := by
  unfold chkM at h
  split at h
  · rename_i h1
    split at h
    · rename_i h2
      exact ⟨h1.1, h1.2, fun x hx => by have := asc_in l (-1) (by omega) h2 x hx; omega⟩
    · cases h
  · cases h

theorem cchk_zero {p : Int} {n : Nat} (h : cchk p n = 0) : okN p = true ∧ n ≤ 4000 := by
  unfold cchk sizeN at h
  split at h
  · rename_i h1
    split at h
    · rename_i h2; exact ⟨h1, h2⟩
    · cases h
  · cases h
theorem achk_zero {e r : Int} {n : Nat} (h : achk e r n = 0) : okN e = true ∧ okN r = true ∧ n ≤ 4000 := by
  unfold achk at h
  split at h
  · rename_i h1
    obtain ⟨h2, h3⟩ := cchk_zero h
    exact ⟨h1, h2, h3⟩
  · cases h

theorem en_ok {x : En} (h : x.chk = 0) (k0 : 0 ≤ x.k) (t : 0 ≤ x.t ∧ x.t ≤ 65535) (n : 0 ≤ x.n ∧ x.n ≤ 65535) : EnOk x := by
  have hc := h
  unfold En.chk at h
  split at h
  · cases h
  · rename_i h3
    split at h
    · cases h
    · rename_i h4
      have nc : x.k ≠ 1 → x.t = 0 ∧ x.n = 0 ∧ x.p = 0 ∧ x.l = [] := fun hk => Decidable.byContradiction fun hn => h4 (.inl ⟨hk, hn⟩)
      have nm : x.k ≠ 2 → x.m = [] := fun hk => Decidable.byContradiction fun hn => h4 (.inr ⟨hk, hn⟩)
      split at h
      · rename_i h1
        obtain ⟨hp, hl⟩ := cchk_zero h
        obtain ⟨hp0, hp1⟩ := ok_bounds hp
        have hm := nm (by omega)
        exact ⟨k0, by omega, t.1, t.2, n.1, n.2, hp0, hp1, hl, by rw [hm]; exact Nat.zero_le _, (fun x hx => by rw [hm] at hx; cases hx), hc, nc, nm⟩
      · rename_i h1
        obtain ⟨a1, a2, a3, a4⟩ := nc h1
        split at h
        · rename_i h2
          obtain ⟨b1, b2, b3⟩ := chkM_ok h
          exact ⟨k0, by omega, t.1, t.2, n.1, n.2, by omega, by omega, by rw [a4]; exact Nat.zero_le _, b2, b3, hc, nc, nm⟩
        · rename_i h2
          have hm := nm h2
          exact ⟨k0, by omega, t.1, t.2, n.1, n.2, by omega, by omega, by rw [a4]; exact Nat.zero_le _, by rw [hm]; exact Nat.zero_le _, (fun x hx => by rw [hm] at hx; cases hx), hc, nc, nm⟩

theorem first_ok : ∀ {l : List Int}, firstE l = 0 → ∀ x ∈ l, x = 0
  | [], _, x, hx => by cases hx
  | y :: l, h, x, hx => by
    unfold firstE at h
    split at h
    · rename_i hy
      rcases List.mem_cons.1 hx with rfl | hx
      · exact hy
      · exact first_ok h x hx
    · rename_i hy; exact absurd h hy

theorem nodeN_iff {n : Int} : nodeN n = true ↔ 0 ≤ n ∧ n ≤ 15 := by
  unfold nodeN; simp; omega
theorem longN_iff {n : Int} : longN n = true ↔ 0 ≤ n ∧ n ≤ 4294967295 := by
  unfold longN; simp
theorem rightN_iff {r n : Int} : rightN r n = true ↔ (0 ≤ r ∧ r ≤ 4294967295) ∧ 0 ≤ n ∧ n ≤ 15 := by
  unfold rightN; rw [Bool.and_eq_true, longN_iff, nodeN_iff]

/-! What Only leaves of a part that is there. -/
theorem only_p {x : Lt} (h : hasE x.k x.s 1 = true) : x.only.p = x.p := by unfold Lt.only Lt.mask; simp [h]
theorem only_b {x : Lt} (h : hasE x.k x.s 2 = true) : x.only.b1 = x.b1 ∧ x.only.b2 = x.b2 := by unfold Lt.only Lt.mask; simp [h]
theorem only_w {x : Lt} (h : hasE x.k x.s 8 = true) : x.only.w1 = x.w1 ∧ x.only.w2 = x.w2 := by unfold Lt.only Lt.mask; simp [h]
theorem only_e {x : Lt} (h : hasE x.k x.s 16 = true) : x.only.e = x.e := by unfold Lt.only Lt.mask; simp [h]
theorem only_c {x : Lt} (h : hasE x.k x.s 32 = true) : x.only.cp = x.cp ∧ x.only.cl = x.cl := by unfold Lt.only Lt.mask; simp [h]
theorem only_a {x : Lt} (h : hasE x.k x.s 64 = true) : (x.only.vn = x.vn ∧ x.only.vm = x.vm) ∧ x.only.ae = x.ae ∧ x.only.ar = x.ar ∧ x.only.al = x.al := by unfold Lt.only Lt.mask; simp [h]

/-- What only zeroes do not have: the kind and whether there is more behind stay. -/
theorem has_s (k : Int) (s : Bool) : hasE k (if hasE k s 4 = true then s else false) = hasE k s := by
  funext p
  unfold hasE
  congr 1
  congr 1
  unfold partsE
  by_cases h0 : k = 0 ∨ k = 3
  · simp [h0]
  · by_cases h1 : k = 1
    · subst h1; cases s <;> rfl
    · simp [h0, h1]

theorem only_s (x : Lt) : x.only.s = if hasE x.k x.s 4 = true then x.s else false := by unfold Lt.only Lt.mask; simp

theorem only_has (x : Lt) : hasE x.only.k x.only.s = hasE x.k x.s := by
  rw [only_s]
  exact has_s x.k x.s

theorem only_only (x : Lt) : x.only.only = x.only := by
  have h := only_has x
  have hs := only_s x
  have e : x.only.only = x.only.mask 7 := rfl
  rw [e]
  unfold Lt.mask
  rw [h]
  unfold Lt.only Lt.mask
  simp only [Nat.reduceLeDiff, decide_true, Bool.true_and]
  cases hasE x.k x.s 1 <;> cases hasE x.k x.s 2 <;> cases hasE x.k x.s 4 <;> cases hasE x.k x.s 8 <;> cases hasE x.k x.s 16 <;> cases hasE x.k x.s 32 <;> cases hasE x.k x.s 64 <;> rfl

/-- A letter that passes its check may be written. -/
theorem ok_of_chk {x : Lt} (ty : LtTy x) (h : x.chk = 0) : LtOk x := by
  unfold Lt.chk at h
  split at h
  · cases h
  rename_i hk
  split at h
  case isFalse => cases h
  rename_i hn
  have hall := first_ok h
  unfold Lt.nums at hn
  simp only [Bool.and_eq_true, nodeN_iff, longN_iff, rightN_iff] at hn
  obtain ⟨hf, ht, hp, hb, hw⟩ := hn
  have hv : x.only.chkV = 0 := hall _ (by simp [Lt.errs])
  have he : x.only.e.chk = 0 := hall _ (by simp [Lt.errs])
  have hc : cchk x.only.cp x.only.cl.length = 0 := hall _ (by simp [Lt.errs])
  have ha : achk x.only.ae x.only.ar x.only.al.length = 0 := hall _ (by simp [Lt.errs])
  refine ⟨ty.k0, by omega, hf.1, hf.2, ht.1, ht.2, ?_, ?_, ?_, ?_, ?_, ?_⟩
  · intro h1; rw [only_p h1] at hp; exact hp
  · intro h1; rw [(only_b h1).1, (only_b h1).2] at hb; exact hb
  · intro h1; rw [(only_w h1).1, (only_w h1).2] at hw; exact hw
  · intro h1; rw [only_e h1] at he; exact en_ok he ty.ek0 ty.et ty.en
  · intro h1; rw [(only_c h1).1, (only_c h1).2] at hc
    exact ⟨⟨ty.ct, ty.cn⟩, cchk_zero hc⟩
  · intro h1
    obtain ⟨⟨e1, e2⟩, e3, e4, e5⟩ := only_a h1
    rw [e3, e4, e5] at ha
    have h2 : hasE x.only.k x.only.s 64 = true := by rw [only_has]; exact h1
    unfold Lt.chkV at hv
    rw [if_pos h2, e1, e2] at hv
    split at hv
    · rename_i hl
      obtain ⟨m1, m2, m3⟩ := chkM_ok hv
      exact ⟨⟨⟨ty.it, ty.iN⟩, longN_iff.1 hl, hv, m3, m2⟩, achk_zero ha⟩
    · cases hv
end
end Go.Proofs.Ytjnbpgadgdjobaa
