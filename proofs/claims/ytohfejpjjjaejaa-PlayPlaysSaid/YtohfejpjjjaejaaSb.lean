/-
  PlayPlays, part 2 of what it rests on: PlayResult, PlayExec, PlayExec2, ProgBody, ProgFuel, ProgValid, ProgCheck, KindSmall, Open, KindNaming, KindType, KindWholeDef, KindTab, KindRight, KindStands.
-/
import Derived.Test.YtohfejpjjjaejaaSa
import Derived.LoopN
import Derived.Deep.LoopGhost
import Derived.Deep.CutRange
import Derived.Deep.CutBlock
import Derived.IntWalk
import Derived.Lib.Strings
import Derived.ProofKit
import Derived.OpenShut
import Derived.SliceStrings
import Derived.Deep.QuietTactic
import Derived.BigQuiet
set_option linter.unusedVariables false
set_option linter.unusedSimpArgs false
set_option maxHeartbeats 32000000
namespace Go.Proofs.Ytohfejpjjjaejaa
open Go.RowKit
open Go.Lib (hid)
section
def insO (x : Ins) : Obj := .cells #[.int .u8 x.op, .int .u8 x.dst, .int .u8 x.a, .int .u8 x.b, .int .i16 x.n] 79

def insV (x : Ins) : Value := .agg #[.int .u8 x.op, .int .u8 x.dst, .int .u8 x.a, .int .u8 x.b, .int .i16 x.n]

set_option maxRecDepth 100000 in
theorem result_any (B : Nat -> Prop) (x : Ins) (g : Nat) (r : Nat -> Int) (nv : Value) (l : List Int) (w : World) (hf : x.Fits) (ha : x.a < 16) (hb : x.b < 16) (h0 : x.op ≠ 0) (hm : MAt w g r nv) (hn : NumsAt B w l nv) :
  Calls Try.prog 38 #[.pointer (some ⟨g, 0, none⟩), insV x] w fun e w' =>
   (match opE (sumE l) x r with
   | some v => e = .returned (.int .i64 v)
   | none => e = failV 14 0) /\ ∃ n, w' = (w.alloc (insO x)).drewN n := by
 obtain ⟨op, dst, a, b, n⟩ := x
 simp only at ha hb h0
 have hg : g < w.heap.size := lt_of_block hm
 have hgn : g ≠ w.heap.size := by omega
 have c1 := hm.cell a ha
 have c2 := hm.cell b hb
 have c3 := hm.nums
 have q := heap_alloc_new w (insO ⟨op, dst, a, b, n⟩)
 have k0 := pcells_row q 0 _ rfl
 have k1 := pcells_row q 1 _ rfl
 have k2 := pcells_row q 2 _ rfl
 have k3 := pcells_row q 3 _ rfl
 have k4 := pcells_row q 4 _ rfl
 have hN : Hid (∀ k, Calls Try.prog 58 #[nv] ((w.alloc (insO ⟨op, dst, a, b, n⟩)).drewN k) fun e w' => e = .returned (.int .i64 (sumE l)) /\ (w.alloc (insO ⟨op, dst, a, b, n⟩)).drewN k = w') := hid (fun k => psum_any B l nv _ (hn.fr ((((Fr.refl (fun _ => False) w).alloc (insO ⟨op, dst, a, b, n⟩))).pdrewN k) fid2))
 have hlo := hf.lo
 have hhi := hf.hi
 simp only [insO, insV] at k0 k1 k2 k3 k4 hN ⊢
 clear hm q hn hf
 generalize hra : r a = A at c1
 generalize hrb : r b = Bv at c2
 have Hra := hid hra
 have Hrb := hid hrb
 have ia : (a : Int) < 16 := by omega
 have ib : (b : Int) < 16 := by omega
 clear hra hrb
 by_cases e1 : op = 1
 ·subst e1
  have E : Hid (opE (sumE l) ⟨1, dst, a, b, n⟩ r = some n) := hid (by simp [opE])
  rw [E.out]
  simp only
  go_enter Try.func38, Try.ntmps38
  go_wp2
  go_quiet (fail)
  go_wp2
  go_ret
  exact ⟨rfl, nq, rfl⟩
 by_cases e2 : op = 2
 ·subst e2
  have E : Hid (opE (sumE l) ⟨2, dst, a, b, n⟩ r = some A) := hid (by simp [opE, Hra.out])
  rw [E.out]
  simp only
  go_enter Try.func38, Try.ntmps38
  go_wp2
  go_quiet (fail)
  go_wp2
  go_ret
  exact ⟨rfl, nq, rfl⟩
 by_cases e3 : op = 3
 ·subst e3
  have E : Hid (opE (sumE l) ⟨3, dst, a, b, n⟩ r = some (wrap64 (A + Bv))) := hid (by simp [opE, Hra.out, Hrb.out])
  rw [E.out]
  simp only
  go_enter Try.func38, Try.ntmps38
  go_wp2
  go_quiet (fail)
  go_wp2
  go_ret
  exact ⟨rfl, nq, rfl⟩
 by_cases e4 : op = 4
 ·subst e4
  have E : Hid (opE (sumE l) ⟨4, dst, a, b, n⟩ r = some (wrap64 (A - Bv))) := hid (by simp [opE, Hra.out, Hrb.out])
  rw [E.out]
  simp only
  go_enter Try.func38, Try.ntmps38
  go_wp2
  go_quiet (fail)
  go_wp2
  go_ret
  exact ⟨rfl, nq, rfl⟩
 by_cases e5 : op = 5
 ·subst e5
  have E : Hid (opE (sumE l) ⟨5, dst, a, b, n⟩ r = some (wrap64 (A * Bv))) := hid (by simp [opE, Hra.out, Hrb.out])
  rw [E.out]
  simp only
  go_enter Try.func38, Try.ntmps38
  go_wp2
  go_quiet (fail)
  go_wp2
  go_ret
  exact ⟨rfl, nq, rfl⟩
 by_cases e6 : op = 6
 ·subst e6
  by_cases eB : Bv = 0
  ·subst eB
   have E : Hid (opE (sumE l) ⟨6, dst, a, b, n⟩ r = none) := hid (by simp [opE, Hrb.out])
   rw [E.out]
   simp only
   go_enter Try.func38, Try.ntmps38
   go_wp2
   go_quiet (fail)
   go_wp2_with fail
   refine (quo_zero A _).mono ?_
   rintro e w1 ⟨rfl, rfl⟩
   simp only [failV]
   go_wp2
   exact ⟨rfl, rfl, nq, rfl⟩
  ·have E : Hid (opE (sumE l) ⟨6, dst, a, b, n⟩ r = some (wrap64 (A.tdiv Bv))) := hid (by simp [opE, Hra.out, Hrb.out, eB])
   rw [E.out]
   simp only
   have HB := hid eB
   clear eB
   go_enter Try.func38, Try.ntmps38
   go_wp2
   go_quiet (fail)
   go_wp2_with fail
   refine (quo_some A Bv HB.out _).mono ?_
   rintro e w1 ⟨rfl, rfl⟩
   go_wp2
   go_ret
   exact ⟨rfl, nq, rfl⟩
 by_cases e7 : op = 7
 ·subst e7
  by_cases hlt : A < Bv
  ·have E : Hid (opE (sumE l) ⟨7, dst, a, b, n⟩ r = some 1) := hid (by simp [opE, Hra.out, Hrb.out]; omega)
   rw [E.out]
   simp only
   go_enter Try.func38, Try.ntmps38
   go_wp2
   go_quiet (fail)
   go_wp2_with fail
   refine (truth_any true _).mono ?_
   rintro e w1 ⟨rfl, rfl⟩
   go_wp2
   go_ret
   exact ⟨rfl, nq, rfl⟩
  ·have hd : decide (A < Bv) = false := by simpa using hlt
   have E : Hid (opE (sumE l) ⟨7, dst, a, b, n⟩ r = some 0) := hid (by simp [opE, Hra.out, Hrb.out]; omega)
   rw [E.out]
   simp only
   go_enter Try.func38, Try.ntmps38
   go_wp2
   go_quiet (fail)
   go_wp2_with fail
   refine (truth_any false _).mono ?_
   rintro e w1 ⟨rfl, rfl⟩
   go_wp2
   go_ret
   exact ⟨rfl, nq, rfl⟩
 have f1 : ((op : Int) == 1) = false := by simp; omega
 have f2 : ((op : Int) == 2) = false := by simp; omega
 have f3 : ((op : Int) == 3) = false := by simp; omega
 have f4 : ((op : Int) == 4) = false := by simp; omega
 have f5 : ((op : Int) == 5) = false := by simp; omega
 have f6 : ((op : Int) == 6) = false := by simp; omega
 have f7 : ((op : Int) == 7) = false := by simp; omega
 have E : Hid (opE (sumE l) ⟨op, dst, a, b, n⟩ r = some (sumE l)) := hid (by simp [opE, e1, e2, e3, e4, e5, e6, e7])
 rw [E.out]
 simp only
 clear e1 e2 e3 e4 e5 e6 e7
 go_enter Try.func38, Try.ntmps38
 go_wp2
 go_quiet (fail)
 go_wp2_with fail
 refine (hN.out _).mono ?_
 rintro e w1 ⟨rfl, rfl⟩
 go_wp2
 go_ret
 exact ⟨rfl, nq, rfl⟩
end
section
def OutPost (o : Out) (g : Nat) (nv : Value) (w : World) (e : Ending) (w' : World) : Prop :=
 match o with
 | .ok b r => e = .returned (.bool b) /\ MAt w' g r nv /\ Fr (fun k => k = g) w w'
 | .bad en n => e = failV en n /\ Fr (fun k => k = g) w w'

def ExecAt (d : Nat) : Prop := ∀ (B : Nat -> Prop) (l : List Ins) (v : Value) (g : Nat) (r : Nat -> Int) (nv : Value) (ns : List Int) (w : World), Well d l -> (∀ k, B k -> k ≠ g) -> PSub B w v l -> MAt w g r nv -> NumsAt B w ns nv ->
 Calls Try.prog 26 #[.pointer (some ⟨g, 0, none⟩), v] w (OutPost (runE (sumE ns) d l r) g nv w)

set_option maxRecDepth 100000 in
theorem repeat_any (d : Nat) (hd : ExecAt d) (B : Nat -> Prop) (l : List Ins) (v : Value) (g : Nat) (r : Nat -> Int) (nv : Value) (ns : List Int) (n : Int) (w : World) (hn : -32768 <= n /\ n <= 32767) (hw : Well d l) (hB : ∀ k, B k -> k ≠ g) (hp : PSub B w v l) (hm : MAt w g r nv) (hs : NumsAt B w ns nv) :
  Calls Try.prog 37 #[.pointer (some ⟨g, 0, none⟩), v, .int .i64 n] w (OutPost (repE (runE (sumE ns) d l) n.toNat r) g nv w) := by
 have HP := hid hp
 have HS := hid hs
 have HM := hid hm
 have HW := hid hw
 have HB := hid hB
 have HD := hid hd
 generalize hO : repE (runE (sumE ns) d l) n.toNat r = O
 have HO := hid hO
 clear hd hw hp hm hs hB hO
 go_enter Try.func37, Try.ntmps37
 go_wp2
 go_loopg [8] n.toNat (fun G u8 wr => ∃ (j : Nat) (r' : Nat -> Int), j <= n.toNat /\ G = n.toNat - j /\ u8 = .int .i64 j /\ Hid (O = repE (runE (sumE ns) d l) (n.toNat - j) r' /\ MAt wr g r' nv /\ Fr (fun k => k = g) w wr))
 case atStart => exact ⟨0, r, Nat.zero_le _, rfl, rfl, hid ⟨HO.out.symm, HM.out, Fr.refl _ _⟩⟩
 case round =>
  obtain ⟨j, r', hj, rfl, rfl, HI⟩ := hrel
  by_cases hlt : (j : Int) < n
  ·have HC := hid (HD.out B l v g r' nv ns wr HW.out HB.out (HP.out.fr HI.out.2.2 HB.out) HI.out.2.1 (HS.out.fr HI.out.2.2 HB.out))
   have HN := hid (show O = match runE (sumE ns) d l r' with
     | .ok false r2 => repE (runE (sumE ns) d l) (n.toNat - (j + 1)) r2
     | .ok true r2 => .ok true r2
     | .bad e m => .bad e m by
    rw [HI.out.1, show n.toNat - j = n.toNat - (j + 1) + 1 by omega, repE]
    try rfl)
   cases ho : runE (sumE ns) d l r' with
   | bad e m =>
    rw [ho] at HC HN
    clear ho
    have HC2 : Hid (Calls Try.prog 26 #[.pointer (some ⟨g, 0, none⟩), v] wr fun e1 w1 => e1 = failV e m /\ Fr (fun k => k = g) wr w1) := hid HC.out
    have HE := hid (show O = .bad e m from HN.out)
    clear HC HN
    go_wp2_with fail
    refine HC2.out.mono ?_
    rintro e1 w1 ⟨rfl, f1⟩
    simp only [failV]
    go_wp2
    rw [HE.out]
    exact ⟨rfl, rfl, HI.out.2.2.trans f1 fid2⟩
   | ok b r2 =>
    rw [ho] at HC HN
    clear ho
    have HC2 : Hid (Calls Try.prog 26 #[.pointer (some ⟨g, 0, none⟩), v] wr fun e1 w1 => e1 = .returned (.bool b) /\ MAt w1 g r2 nv /\ Fr (fun k => k = g) wr w1) := hid HC.out
    clear HC
    cases b with
    | true =>
     have HE := hid (show O = .ok true r2 from HN.out)
     clear HN
     go_wp2_with fail
     refine HC2.out.mono ?_
     rintro e1 w1 ⟨rfl, m1, f1⟩
     have M1 := hid m1
     clear m1
     go_wp2
     go_ret
     rw [HE.out]
     exact ⟨rfl, M1.out, HI.out.2.2.trans f1 fid2⟩
    | false =>
     have HE := hid (show O = repE (runE (sumE ns) d l) (n.toNat - (j + 1)) r2 from HN.out)
     clear HN
     go_wp2_with fail
     refine HC2.out.mono ?_
     rintro e1 w1 ⟨rfl, m1, f1⟩
     have M1 := hid m1
     clear m1
     go_wp2
     go_roundg (n.toNat - (j + 1))
     case measure => omega
     case rel => exact ⟨j + 1, r2, by omega, rfl, by go_num, hid ⟨HE.out, M1.out, HI.out.2.2.trans f1 fid2⟩⟩
  ·have HE := hid (show O = .ok false r' by rw [HI.out.1, show n.toNat - j = 0 by omega, repE])
   go_wp2
   go_ret
   rw [HE.out]
   exact ⟨rfl, HI.out.2.1, HI.out.2.2⟩
end
section
theorem Well.loop {d : Nat} {l : List Ins} (h : Well d l) {i : Nat} {x : Ins} (hx : l[i]? = some x) (h9 : x.op = 9) : ∃ d', d = d' + 1 /\ (i + 1 + x.b <= l.length /\ 0 < x.b) /\ Well d' ((l.drop (i + 1)).take x.b) := by
 cases d with
 | zero => exact absurd h9 (h i x hx).2.2.2.2.2
 | succ d => exact ⟨d, rfl, (h i x hx).2.2.2.2.2 h9⟩

theorem five_of {w : World} {b : Nat} {x0 x1 x2 x3 x4 : Value} {t : TypeId} (h : w.heap[b]? = some (.cells #[x0, x1, x2, x3, x4] t (0, 0))) :
  w.cell? ⟨b, 0, none⟩ = some x0 /\ w.cell? ⟨b, 1, none⟩ = some x1 /\ w.cell? ⟨b, 2, none⟩ = some x2 /\ w.cell? ⟨b, 3, none⟩ = some x3 /\ w.cell? ⟨b, 4, none⟩ = some x4 :=
 ⟨pcells_row h 0 _ rfl, pcells_row h 1 _ rfl, pcells_row h 2 _ rfl, pcells_row h 3 _ rfl, pcells_row h 4 _ rfl⟩

theorem PSub.part {B : Nat -> Prop} {w : World} {pg o vc j b : Nat} {l : List Ins} (h : PSub B w (.slice (some ⟨pg, o, none⟩) l.length vc) l) (hl : j + 1 + b <= l.length) :
  PSub B w (.slice (some ⟨pg, o + (j + 1) * 5, none⟩) b (vc - (j + 1))) ((l.drop (j + 1)).take b) := by
 obtain ⟨h0, ⟨rfl, _⟩ | ⟨g, o', cap, hB, e, hle, hc⟩⟩ := h
 ·simp at hl
 ·simp only [Value.slice.injEq, Option.some.injEq, Addr.mk.injEq] at e
  obtain ⟨⟨rfl, rfl, _⟩, _, rfl⟩ := e
  have hlen : ((l.drop (j + 1)).take b).length = b := by rw [List.length_take, List.length_drop]; omega
  refine ⟨by omega, .inr ⟨pg, o + (j + 1) * 5, vc - (j + 1), hB, by rw [hlen], by rw [hlen]; omega, fun i x hx => ?_⟩⟩
  rw [List.getElem?_take] at hx
  split at hx
  ·rw [List.getElem?_drop] at hx
   obtain ⟨c0, c1, c2, c3, c4⟩ := hc _ x hx
   have e : o + (j + 1) * 5 + i * 5 = o + (j + 1 + i) * 5 := by omega
   rw [e]
   exact ⟨c0, c1, c2, c3, c4⟩
  ·cases hx

theorem slice_prog (pg o n vc j b : Nat) (h : j + 1 + b <= vc) (hb : 0 < b) (w : World) :
  (Instr.slice 38 (.slice (some ⟨pg, o, none⟩) n vc) (some (.int .i64 ((j : Int) + 1))) (some (.int .i64 ((j : Int) + 1 + b))) none).run Try.prog w = .ok (.slice (some ⟨pg, o + (j + 1) * 5, none⟩) b (vc - (j + 1))) w := by
 have e1 : ((j : Int) + 1).toNat = j + 1 := by omega
 have e2 : ((j : Int) + 1 + b).toNat = j + 1 + b := by omega
 have h1 : (0 : Int) <= (j : Int) + 1 := by omega
 have h2 : (j : Int) + 1 <= (j : Int) + 1 + b := by omega
 have h3 : (j : Int) + 1 + b <= vc := by omega
 have h4 : ¬ vc = j + 1 := by omega
 simp [go_sem, Try.underlying38, Try.underlying79, e1, e2, h1, h2, h3, h4]

def ExS (w0 : World) (g : Nat) (r : Nat -> Int) (nv : Value) : List Value -> World -> Prop
 | [], wx => Fr (fun _ => False) w0 wx
 | [_], wx => Fr (fun _ => False) w0 wx
 | _, wx => Fr (fun k => k = g) w0 wx /\ MAt wx g r nv

theorem ExS.fr {w0 : World} {g : Nat} {r : Nat -> Int} {nv : Value} {cvs : List Value} {wx : World} (h : ExS w0 g r nv cvs wx) : Fr (fun k => k = g) w0 wx := by
 match cvs, h with
 | [], h => exact h.mono (fun _ _ h => h.elim)
 | [_], h => exact h.mono (fun _ _ h => h.elim)
 | _ :: _ :: _, h => exact h.1

def FaS (w0 : World) : List Value -> World -> Prop
 | [], wx => Fr (fun _ => False) w0 wx
 | _, _ => False

theorem FaS.fr {w0 : World} {cvs : List Value} {wx : World} {g : Nat} (h : FaS w0 cvs wx) : Fr (fun k => k = g) w0 wx := by
 match cvs, h with
 | [], h => exact h.mono (fun _ _ h => h.elim)
 | _ :: _, h => exact h.elim

def LoS (w0 : World) (g : Nat) (r : Nat -> Int) (nv : Value) : List Value -> World -> Prop
 | [], wx => Fr (fun _ => False) w0 wx
 | _, wx => Fr (fun k => k = g) w0 wx /\ MAt wx g r nv

theorem LoS.fr {w0 : World} {g : Nat} {r : Nat -> Int} {nv : Value} {cvs : List Value} {wx : World} (h : LoS w0 g r nv cvs wx) : Fr (fun k => k = g) w0 wx := by
 match cvs, h with
 | [], h => exact h.mono (fun _ _ h => h.elim)
 | _ :: _, h => exact h.1

set_option maxRecDepth 100000 in
theorem exec_step (d : Nat) (hd : ∀ d', d = d' + 1 -> ExecAt d') : ExecAt d := by
 intro B l v g r nv ns w hw hB hp hm hs
 have HP := hid hp
 have HS := hid hs
 have HM := hid hm
 have HW := hid hw
 have HB := hid hB
 have HD := hid hd
 rw [runE_steps]
 generalize hO : stepsE (repD (sumE ns) d) (sumE ns) l 0 r = O
 have HO := hid hO
 have hl100 := hp.1
 have hsh : ∃ a c, v = .slice a l.length c := by
  obtain ⟨_, ⟨rfl, a, c, rfl⟩ | ⟨g, o, cap, hB, rfl, hle, hc⟩⟩ := hp
  ·exact ⟨a, c, rfl⟩
  ·exact ⟨_, cap, rfl⟩
 obtain ⟨va, vc, rfl⟩ := hsh
 clear hd hw hp hm hs hB hO
 go_enter Try.func26, Try.ntmps26
 go_wp2
 go_loopg [5] l.length (fun G u5 wr => ∃ (j : Nat) (r' : Nat -> Int), j <= 100000 /\ G = l.length - j /\ u5 = .int .i64 j /\ Hid (O = stepsE (repD (sumE ns) d) (sumE ns) (l.drop j) 0 r' /\ MAt wr g r' nv /\ Fr (fun k => k = g) w wr))
 case atStart => exact ⟨0, r, Nat.zero_le _, rfl, rfl, hid ⟨HO.out.symm, HM.out, Fr.refl _ _⟩⟩
 case round =>
  obtain ⟨j, r', hj, rfl, rfl, HI⟩ := hrel
  by_cases hlt : j < l.length
  ·obtain ⟨x, hx⟩ : ∃ x, l[j]? = some x := ⟨_, List.getElem?_eq_getElem hlt⟩
   obtain ⟨_, ⟨rfl, _⟩ | ⟨pg, o, cap, hBg, e, hle, hc⟩⟩ := HP.out
   ·simp at hlt
   simp only [Value.slice.injEq] at e
   obtain ⟨rfl, _, rfl⟩ := e
   have hgp : pg ≠ g := HB.out _ hBg
   obtain ⟨c0, c1, c2, c3, c4⟩ := hc j x hx
   have hpw : pg < w.heap.size := World.block_lt_of_cell? w _ c0
   obtain ⟨hf, hdst, ha, hbn, h8n⟩ := HW.out.one hx
   have c0 : wr.cell? ⟨pg, o + j * 5, none⟩ = some (.int .u8 x.op) := by rw [HI.out.2.2.cell hpw hgp]; exact c0
   have c1 : wr.cell? ⟨pg, o + j * 5 + 1, none⟩ = some (.int .u8 x.dst) := by rw [HI.out.2.2.cell hpw hgp]; exact c1
   have c2 : wr.cell? ⟨pg, o + j * 5 + 2, none⟩ = some (.int .u8 x.a) := by rw [HI.out.2.2.cell hpw hgp]; exact c2
   have c3 : wr.cell? ⟨pg, o + j * 5 + 3, none⟩ = some (.int .u8 x.b) := by rw [HI.out.2.2.cell hpw hgp]; exact c3
   have c4 : wr.cell? ⟨pg, o + j * 5 + 4, none⟩ = some (.int .i16 x.n) := by rw [HI.out.2.2.cell hpw hgp]; exact c4
   have hpr : pg < wr.heap.size := World.block_lt_of_cell? wr _ c0
   have HX := hid hx
   have HA := hid (steps_at (repD (sumE ns) d) (sumE ns) l j x r' hx)
   have hgr : g < wr.heap.size := lt_of_block HI.out.2.1
   have hgn : g ≠ wr.heap.size := by omega
   have hra := HI.out.2.1.cell x.a ha
   have hlo := hf.lo
   have hhi := hf.hi
   have Hhf := hid hf
   have hbx := hf.b
   have Hbn := hid hbn
   have H8n := hid h8n
   have Hle := hid hle
   clear hx hc hBg hle hf hbn h8n
   obtain ⟨op, dst, a, b, n⟩ := x
   simp only at *
   generalize hRa : r' a = A at hra
   have HRa := hid hRa
   clear hRa
   by_cases e0 : op = 0
   ·subst e0
    have HE := hid (show O = .ok true r' by rw [HI.out.1, HA.out, if_pos rfl])
    go_wp2
    go_ret
    rw [HE.out]
    exact ⟨rfl, HI.out.2.1.fr ((Fr.refl (fun _ => False) _).alloc _) (fun h => h), HI.out.2.2.alloc _⟩
   by_cases e8 : op = 8
   ·subst e8
    have hn0 : 0 <= n := H8n.out rfl
    by_cases hA : A = 0
    ·subst hA
     have HE := hid (show O = stepsE (repD (sumE ns) d) (sumE ns) (l.drop (j + 1 + n.toNat)) 0 r' by
      rw [HI.out.1, HA.out, if_neg (by omega), if_pos rfl, HRa.out, if_pos rfl])
     go_wp2
     go_quiet (fail)
     go_wp2
     go_roundg (l.length - (j + 1 + n.toNat))
     case measure => omega
     case rel => exact ⟨j + 1 + n.toNat, r', by omega, rfl, by go_num, hid ⟨HE.out, HI.out.2.1.fr (S := fun _ => False) (((Fr.refl _ _).alloc _).pdrewN _) (fun h => h), (HI.out.2.2.alloc _).pdrewN _⟩⟩
    ·have HE := hid (show O = stepsE (repD (sumE ns) d) (sumE ns) (l.drop (j + 1)) 0 r' by
      rw [HI.out.1, HA.out, if_neg (by omega), if_pos rfl, HRa.out, if_neg hA])
     have hA' : (A == 0) = false := by simpa using hA
     clear hA
     go_wp2
     go_quiet (fail)
     go_wp2
     go_roundg (l.length - (j + 1))
     case measure => omega
     case rel => exact ⟨j + 1, r', by omega, rfl, by go_num, hid ⟨HE.out, HI.out.2.1.fr (S := fun _ => False) (((Fr.refl _ _).alloc _).pdrewN _) (fun h => h), (HI.out.2.2.alloc _).pdrewN _⟩⟩
   by_cases e9 : op = 9
   ·subst e9
    obtain ⟨d', rfl, ⟨hend, hb0⟩, hwell⟩ := HW.out.loop HX.out rfl
    simp only at hend hwell hb0
    have hjv : j + 1 + b <= vc := by have := Hle.out; omega
    obtain ⟨w0, hw0⟩ : ∃ w0, w0 = wr.alloc (.cells #[.int .u8 9, .int .u8 dst, .int .u8 a, .int .u8 b, .int .i16 n] 79) := ⟨_, rfl⟩
    have F0 : Hid (Fr (fun _ => False) wr w0 /\ w0.heap[wr.heap.size]? = some (.cells #[.int .u8 9, .int .u8 dst, .int .u8 a, .int .u8 b, .int .i16 n] 79 (0, 0))) := hid (by rw [hw0]; exact ⟨(Fr.refl _ _).alloc _, heap_alloc_new _ _⟩)
    have HC := hid (fun wx (f : Fr (fun _ => False) w0 wx) => repeat_any d' (HD.out d' rfl) B ((l.drop (j + 1)).take b) (.slice (some ⟨pg, o + (j + 1) * 5, none⟩) b (vc - (j + 1))) g r' nv ns n wx ⟨hlo, hhi⟩ hwell HB.out
     ((HP.out.part hend).fr ((HI.out.2.2.trans F0.out.1 (fun _ _ h => h.elim)).trans f (fun _ _ h => h.elim)) HB.out) (HI.out.2.1.fr (F0.out.1.trans f fid2) (fun h => h)) (HS.out.fr ((HI.out.2.2.trans F0.out.1 (fun _ _ h => h.elim)).trans f (fun _ _ h => h.elim)) HB.out))
    have HQ := hid (fun (wx : World) (f : Fr (fun k => k = g) w0 wx) => pbox_kept F0.out.2 f (fun h => hgn h.symm))
    have HN := hid (show O = match repE (runE (sumE ns) d' ((l.drop (j + 1)).take b)) n.toNat r' with
      | .ok true r2 => .ok true r2
      | .ok false r2 => stepsE (repD (sumE ns) (d' + 1)) (sumE ns) (l.drop (j + 1 + b)) 0 r2
      | .bad e m => .bad e m by
     rw [HI.out.1, HA.out, if_neg (by omega), if_neg (by omega), if_pos rfl]
     try rfl)
    generalize hbx : wr.heap.size = bx at *
    have Hbx := hid hbx
    have hvc : (j : Int) + 1 + b <= vc := by omega
    have hjl : (j : Int) <= 100 := by omega
    have Hend := hid hend
    clear hbx hwell hend
    generalize hR : repE (runE (sumE ns) d' ((l.drop (j + 1)).take b)) n.toNat r' = R at *
    have HR := hid hR
    clear hR
    cases R with
    | bad e m =>
     have HE := hid (show O = .bad e m from HN.out)
     have HC2 : Hid (∀ wx, Fr (fun _ => False) w0 wx -> Calls Try.prog 37 #[.pointer (some ⟨g, 0, none⟩), .slice (some ⟨pg, o + (j + 1) * 5, none⟩) b (vc - (j + 1)), .int .i64 n] wx fun e1 w1 => e1 = failV e m /\ Fr (fun k => k = g) wx w1) := hid (fun wx f => HC.out wx f)
     clear HC HN
     go_wp2
     rw [<- hw0, Hbx.out]
     clear hw0
     have sl := slice_prog pg o l.length vc j b hjv hb0
     have B1 : -9223372036854775808 <= (j : Int) + 1 /\ (j : Int) + 1 <= 9223372036854775807 := by omega
     have B2 : -9223372036854775808 <= (j : Int) + 1 + b /\ (j : Int) + 1 + b <= 9223372036854775807 := by omega
     have B3 : -9223372036854775808 <= n /\ n <= 9223372036854775807 := by omega
     have d1 : IntKind.i64.wrap ((j : Int) + 1) = (j : Int) + 1 := IntWalk.i64_in _ B1
     have d2 : IntKind.i64.wrap ((j : Int) + 1 + b) = (j : Int) + 1 + b := IntWalk.i64_in _ B2
     have d3 : IntKind.i64.wrap n = n := IntWalk.i64_in _ B3
     have d4 : wrap64 ((j : Int) + 1) = (j : Int) + 1 := IntWalk.wrap64_in _ B1
     have d5 : wrap64 ((j : Int) + 1 + b) = (j : Int) + 1 + b := IntWalk.wrap64_in _ B2
     refine wp_region_chain (by kernel_rfl) [some 51, some 52, some 53, some 54, some 55, some 56, some 57, some 58, some 59, some 60, some 61, some 62, some 63] rfl (by decide) (by intro d hd; simp at hd ⊢; omega)
      [12] (FaS w0)
      [.free (.pointer (some ⟨g, 0, none⟩)), .free (.slice (some ⟨pg, o, none⟩) l.length vc), .free (.int .i64 j), .free (.int .i64 (j + 1)), .free (.int .i64 j), .free (.int .i64 (j + 1)), .free (.int .i64 b), .free (.int .i64 (j + 1 + b)), .free (.slice (some ⟨pg, o + (j + 1) * 5, none⟩) b (vc - (j + 1))), .free (.pointer (some ⟨bx, 4, none⟩)), .free (.int .i16 n), .free (.int .i64 n), .link none]
      (by kernel_rfl) (by kernel_rfl) ?h0 ?step ?fin
     case h0 => exact (Fr.refl _ _).drew
     case step =>
      intro vals
      simp only [frOfU, fillU, zsl]
      repeat' (first | exact AllOps.nil | refine AllOps.cons ?_ ?_)
      all_goals
       intro cvs wx hS he hu hlim K hK
       clear hu
       simp only [Act.put, zsl, zgl] at hK
       simp only [zml, Region.binds, forall_const, false_imp_iff, zgl, OpSort.val, Option.some.injEq, forall_eq', reduceCtorEq, implies_true, true_and, and_true] at he
       obtain ⟨k0, k1, k2, k3, k4⟩ := five_of (HQ.out wx hS.fr)
       have HSX := hid hS
       clear hS
      all_goals first | (clear hlim; (try simp only [he] at hK ⊢); go_simp; exact hK) | skip
      ·obtain rfl := hlim (0 : Nat) rfl
       have h1 : Fr (fun _ => False) w0 wx := HSX.out
       have H1 := hid h1
       clear h1 hlim HSX hK
       simp only [he]
       go_simp
       go_at_call 37
       refine (HC2.out wx H1.out).mono ?_
       rintro e1 wa ⟨rfl, f1⟩
       simp only [failV]
       rw [HE.out]
       exact ⟨rfl, rfl, ((HI.out.2.2.trans F0.out.1 (fun _ _ h => h.elim)).trans H1.out (fun _ _ h => h.elim)).trans f1 fid2⟩
     case fin =>
      intro vals w' hS hV
      exact hS.elim
    | ok bb r2 =>
     have HC2 : Hid (∀ wx, Fr (fun _ => False) w0 wx -> Calls Try.prog 37 #[.pointer (some ⟨g, 0, none⟩), .slice (some ⟨pg, o + (j + 1) * 5, none⟩) b (vc - (j + 1)), .int .i64 n] wx fun e1 w1 => e1 = .returned (.bool bb) /\ MAt w1 g r2 nv /\ Fr (fun k => k = g) wx w1) := hid (fun wx f => HC.out wx f)
     clear HC
     go_wp2
     rw [<- hw0, Hbx.out]
     clear hw0
     have sl := slice_prog pg o l.length vc j b hjv hb0
     have B1 : -9223372036854775808 <= (j : Int) + 1 /\ (j : Int) + 1 <= 9223372036854775807 := by omega
     have B2 : -9223372036854775808 <= (j : Int) + 1 + b /\ (j : Int) + 1 + b <= 9223372036854775807 := by omega
     have B3 : -9223372036854775808 <= n /\ n <= 9223372036854775807 := by omega
     have d1 : IntKind.i64.wrap ((j : Int) + 1) = (j : Int) + 1 := IntWalk.i64_in _ B1
     have d2 : IntKind.i64.wrap ((j : Int) + 1 + b) = (j : Int) + 1 + b := IntWalk.i64_in _ B2
     have d3 : IntKind.i64.wrap n = n := IntWalk.i64_in _ B3
     have d4 : wrap64 ((j : Int) + 1) = (j : Int) + 1 := IntWalk.wrap64_in _ B1
     have d5 : wrap64 ((j : Int) + 1 + b) = (j : Int) + 1 + b := IntWalk.wrap64_in _ B2
     refine wp_region_chain (by kernel_rfl) [some 51, some 52, some 53, some 54, some 55, some 56, some 57, some 58, some 59, some 60, some 61, some 62, some 63] rfl (by decide) (by intro d hd; simp at hd ⊢; omega)
      [12] (LoS w0 g r2 nv)
      [.free (.pointer (some ⟨g, 0, none⟩)), .free (.slice (some ⟨pg, o, none⟩) l.length vc), .free (.int .i64 j), .free (.int .i64 (j + 1)), .free (.int .i64 j), .free (.int .i64 (j + 1)), .free (.int .i64 b), .free (.int .i64 (j + 1 + b)), .free (.slice (some ⟨pg, o + (j + 1) * 5, none⟩) b (vc - (j + 1))), .free (.pointer (some ⟨bx, 4, none⟩)), .free (.int .i16 n), .free (.int .i64 n), .link (some (.bool bb))]
      (by kernel_rfl) (by kernel_rfl) ?h0 ?step ?fin
     case h0 => exact (Fr.refl _ _).drew
     case step =>
      intro vals
      simp only [frOfU, fillU, zsl]
      repeat' (first | exact AllOps.nil | refine AllOps.cons ?_ ?_)
      all_goals
       intro cvs wx hS he hu hlim K hK
       clear hu
       simp only [Act.put, zsl, zgl] at hK
       simp only [zml, Region.binds, forall_const, false_imp_iff, zgl, OpSort.val, Option.some.injEq, forall_eq', reduceCtorEq, implies_true, true_and, and_true] at he
       obtain ⟨k0, k1, k2, k3, k4⟩ := five_of (HQ.out wx hS.fr)
       have HSX := hid hS
       clear hS
      all_goals first | (clear hlim; (try simp only [he] at hK ⊢); go_simp; exact hK) | skip
      ·obtain rfl := hlim (0 : Nat) rfl
       have h1 : Fr (fun _ => False) w0 wx := HSX.out
       have H1 := hid h1
       clear h1 hlim HSX
       simp only [he] at hK ⊢
       go_simp
       go_at_call 37
       refine (HC2.out wx H1.out).mono ?_
       rintro e1 wa ⟨rfl, m1, f1⟩
       exact hK _ _ (fun _ h => by cases h; rfl) ⟨(H1.out.mono (fun _ _ h => h.elim)).trans f1 fid2, m1⟩
     case fin =>
      intro vals w' hS hV
      have h12 : vals 12 = .bool bb := hV 12 _ (by decide) rfl
      simp only [List.map_cons, List.map_nil] at hS
      have HF := hid hS
      clear hS hV d1 d2 d3 d4 d5
      simp only [frOfU, fillU, zsl, h12]
      clear h12
      cases bb with
      | true =>
       have HE := hid (show O = .ok true r2 from HN.out)
       clear HN
       go_wp2
       go_ret
       rw [HE.out]
       exact ⟨rfl, HF.out.2, (HI.out.2.2.trans F0.out.1 (fun _ _ h => h.elim)).trans HF.out.1 fid2⟩
      | false =>
       have HE := hid (show O = stepsE (repD (sumE ns) (d' + 1)) (sumE ns) (l.drop (j + 1 + b)) 0 r2 from HN.out)
       clear HN
       go_wp2
       go_roundg (l.length - (j + 1 + b))
       case measure => omega
       case rel => exact ⟨j + 1 + b, r2, by omega, rfl, by go_num, hid ⟨HE.out, HF.out.2, (HI.out.2.2.trans F0.out.1 (fun _ _ h => h.elim)).trans HF.out.1 fid2⟩⟩
   by_cases e10 : op = 10
   ·subst e10
    by_cases hA : A = 0
    ·subst hA
     have HE := hid (show O = stepsE (repD (sumE ns) d) (sumE ns) (l.drop (j + 1)) 0 r' by
      rw [HI.out.1, HA.out, if_neg (by omega), if_neg (by omega), if_neg (by omega), if_pos rfl, HRa.out, if_pos rfl])
     go_wp2
     go_quiet (fail)
     go_wp2
     go_roundg (l.length - (j + 1))
     case measure => omega
     case rel => exact ⟨j + 1, r', by omega, rfl, by go_num, hid ⟨HE.out, HI.out.2.1.fr (S := fun _ => False) (((Fr.refl _ _).alloc _).pdrewN _) (fun h => h), (HI.out.2.2.alloc _).pdrewN _⟩⟩
    ·have HE := hid (show O = .bad 16 n by
      rw [HI.out.1, HA.out, if_neg (by omega), if_neg (by omega), if_neg (by omega), if_pos rfl, HRa.out, if_neg hA])
     have hA' : (A == 0) = false := by simpa using hA
     have hA2 : (A != 0) = true := by simpa using hA
     clear hA
     go_wp2
     go_quiet (fail)
     go_wp2
     rw [HE.out]
     exact ⟨rfl, rfl, (HI.out.2.2.alloc _).pdrewN _⟩
   have n0 : ((op : Int) == 0) = false := by simp; omega
   have n8 : ((op : Int) == 8) = false := by simp; omega
   have n9 : ((op : Int) == 9) = false := by simp; omega
   have n10 : ((op : Int) == 10) = false := by simp; omega
   obtain ⟨w0, hw0⟩ : ∃ w0, w0 = wr.alloc (insO ⟨op, dst, a, b, n⟩) := ⟨_, rfl⟩
   have F0 : Hid (Fr (fun _ => False) wr w0 /\ w0.heap[wr.heap.size]? = some (.cells #[.int .u8 op, .int .u8 dst, .int .u8 a, .int .u8 b, .int .i16 n] 79 (0, 0))) := hid (by rw [hw0]; exact ⟨(Fr.refl _ _).alloc _, heap_alloc_new _ _⟩)
   have HC := hid (fun wx (f : Fr (fun _ => False) w0 wx) => result_any B ⟨op, dst, a, b, n⟩ g r' nv ns wx Hhf.out ha (Hbn.out e9) e0 (HI.out.2.1.fr (F0.out.1.trans f fid2) (fun h => h)) (HS.out.fr ((HI.out.2.2.trans F0.out.1 (fun _ _ h => h.elim)).trans f (fun _ _ h => h.elim)) HB.out))
   have HQ := hid (fun (wx : World) (f : Fr (fun k => k = g) w0 wx) => pbox_kept F0.out.2 f (fun h => hgn h.symm))
   generalize hbx : wr.heap.size = bx at *
   have Hbx := hid hbx
   clear hbx
   simp only [insO] at hw0
   have di : (dst : Int) < 16 := by omega
   have di0 : ¬ (16 : Nat) <= dst := by omega
   cases ho : opE (sumE ns) ⟨op, dst, a, b, n⟩ r' with
   | none =>
    have HE := hid (show O = .bad 14 0 by
     rw [HI.out.1, HA.out, if_neg e0, if_neg e8, if_neg e9, if_neg e10, ho])
    rw [ho] at HC
    clear e0 e8 e9 e10 ho
    go_wp2
    rw [<- hw0, Hbx.out]
    clear hw0
    refine wp_region_chain (by kernel_rfl) [some 20, some 21, some 22, some 23, some 24, some 25, some 26, some 27, some 28, none] rfl (by decide) (by intro d hd; simp at hd ⊢; omega)
     [5, 9] (FaS w0)
     [.free (.pointer (some ⟨g, 0, none⟩)), .free (.pointer (some ⟨bx, 1, none⟩)), .free (.int .u8 dst), .free (.pointer (some ⟨g, 0, none⟩)), .free (insV ⟨op, dst, a, b, n⟩), .link none, .free (.pointer (some ⟨g, 0, none⟩)), .free (.pointer (some ⟨g, 0, none⟩)), .free (.pointer (some ⟨g, dst, none⟩)), .link none]
     (by kernel_rfl) (by kernel_rfl) ?h0 ?step ?fin
    case h0 => exact (Fr.refl _ _).drew
    case step =>
     intro vals
     simp only [frOfU, fillU, zsl]
     repeat' (first | exact AllOps.nil | refine AllOps.cons ?_ ?_)
     all_goals
      intro cvs wx hS he hu hlim K hK
      clear hu
      simp only [Act.put, zsl, zgl, insV] at hK
      simp only [zml, Region.binds, forall_const, false_imp_iff, zgl, OpSort.val, Option.some.injEq, forall_eq', reduceCtorEq, implies_true, true_and, and_true, insV] at he
      obtain ⟨k0, k1, k2, k3, k4⟩ := five_of (HQ.out wx hS.fr)
      have HSX := hid hS
      clear hS
     all_goals first | (clear hlim; (try simp only [he] at hK ⊢); go_simp; exact hK) | skip
     ·obtain rfl := hlim (0 : Nat) rfl
      have h1 : Fr (fun _ => False) w0 wx := HSX.out
      have H1 := hid h1
      clear h1 hlim HSX hK
      simp only [he]
      go_simp
      go_at_call 38
      refine (HC.out wx H1.out).mono ?_
      rintro e1 wa ⟨rfl, nq, rfl⟩
      simp only [failV]
      rw [HE.out]
      exact ⟨rfl, rfl, (((HI.out.2.2.trans F0.out.1 (fun _ _ h => h.elim)).trans H1.out (fun _ _ h => h.elim)).alloc _).pdrewN _⟩
     ·obtain rfl := hlim (1 : Nat) rfl
      exact HSX.out.elim
    case fin =>
     intro vals w' hS hV
     exact hS.elim
   | some y =>
    have HE := hid (show O = stepsE (repD (sumE ns) d) (sumE ns) (l.drop (j + 1)) 0 (upd r' dst y) by
     rw [HI.out.1, HA.out, if_neg e0, if_neg e8, if_neg e9, if_neg e10, ho])
    rw [ho] at HC
    clear e0 e8 e9 e10 ho
    go_wp2
    rw [<- hw0, Hbx.out]
    clear hw0
    refine wp_region_chain (by kernel_rfl) [some 20, some 21, some 22, some 23, some 24, some 25, some 26, some 27, some 28, none] rfl (by decide) (by intro d hd; simp at hd ⊢; omega)
     [5, 9] (ExS w0 g (upd r' dst y) nv)
     [.free (.pointer (some ⟨g, 0, none⟩)), .free (.pointer (some ⟨bx, 1, none⟩)), .free (.int .u8 dst), .free (.pointer (some ⟨g, 0, none⟩)), .free (insV ⟨op, dst, a, b, n⟩), .link (some (.int .i64 y)), .free (.pointer (some ⟨g, 0, none⟩)), .free (.pointer (some ⟨g, 0, none⟩)), .free (.pointer (some ⟨g, dst, none⟩)), .link none]
     (by kernel_rfl) (by kernel_rfl) ?h0 ?step ?fin
    case h0 => exact (Fr.refl _ _).drew
    case step =>
     intro vals
     simp only [frOfU, fillU, zsl]
     repeat' (first | exact AllOps.nil | refine AllOps.cons ?_ ?_)
     all_goals
      intro cvs wx hS he hu hlim K hK
      clear hu
      simp only [Act.put, zsl, zgl, insV] at hK
      simp only [zml, Region.binds, forall_const, false_imp_iff, zgl, OpSort.val, Option.some.injEq, forall_eq', reduceCtorEq, implies_true, true_and, and_true, insV] at he
      obtain ⟨k0, k1, k2, k3, k4⟩ := five_of (HQ.out wx hS.fr)
      have HSX := hid hS
      clear hS
     all_goals first | (clear hlim; (try simp only [he] at hK ⊢); go_simp; exact hK) | skip
     ·obtain rfl := hlim (0 : Nat) rfl
      have h1 : Fr (fun _ => False) w0 wx := HSX.out
      have H1 := hid h1
      clear h1 hlim HSX
      simp only [he] at hK ⊢
      go_simp
      go_at_call 38
      refine (HC.out wx H1.out).mono ?_
      rintro e1 wa ⟨rfl, nq, rfl⟩
      exact hK _ _ (fun _ h => by cases h; rfl) ((H1.out.alloc _).pdrewN _)
     ·obtain rfl := hlim (1 : Nat) rfl
      have h1 : Fr (fun _ => False) w0 wx := HSX.out
      have M : MAt wx g r' nv := HI.out.2.1.fr (F0.out.1.trans h1 fid2) (fun h => h)
      have M1 := M.cell dst hdst
      have M2 := M.frozen dst
      have H1 := hid (And.intro h1 M)
      clear h1 M hlim HSX
      simp only [he] at hK ⊢
      go_simp
      exact hK undef _ (fun _ h => by cases h) ⟨Fr.setCell (S := fun k => k = g) (p := ⟨g, dst, none⟩) (H1.out.1.mono (fun _ _ h => h.elim)) (fun _ => rfl) _, H1.out.2.set dst hdst y⟩
    case fin =>
     intro vals w' hS hV
     clear hV
     simp only [List.map_cons, List.map_nil] at hS
     have HF := hid hS
     clear hS
     simp only [frOfU, fillU, zsl]
     go_wp2
     go_roundg (l.length - (j + 1))
     case measure => omega
     case rel => exact ⟨j + 1, upd r' dst y, by omega, rfl, by go_num, hid ⟨HE.out, HF.out.2, (HI.out.2.2.trans F0.out.1 (fun _ _ h => h.elim)).trans HF.out.1 fid2⟩⟩
  ·have HE := hid (show O = .ok false r' by rw [HI.out.1, List.drop_eq_nil_of_le (by omega)]; rfl)
   go_wp2
   go_ret
   rw [HE.out]
   exact ⟨rfl, HI.out.2.1, HI.out.2.2⟩

theorem exec_any (d : Nat) : ExecAt d := by
 induction d with
 | zero => exact exec_step 0 (fun d' h => by omega)
 | succ d ih => exact exec_step (d + 1) (fun d' h => by
                             obtain rfl : d' = d := by omega
                             exact ih)
end
section
theorem body_find (l : List Ins) (i j e : Nat) (hj : j < i) (hk : ∀ k, k < j -> bodyAt l i k = none) (h : bodyAt l i j = some e) : bodyE l i = some e := findSome_range i j e hj hk h

set_option maxRecDepth 100000 in
theorem body_any (l : List Ins) (g cap i : Nat) (w : World) (hl : l.length <= 100) (hcap : l.length <= cap) (hi : i <= l.length) (h : PAt w g l) :
  Calls Try.prog 67 #[.slice (some ⟨g, 0, none⟩) l.length cap, .int .i64 i] w fun e w' =>
   e = .returned (.tuple #[.int .i64 (((bodyE l i).getD 0 : Nat) : Int), .bool (bodyE l i).isSome]) /\ Fr (fun _ => False) w w' := by
 have H := hid h
 clear h
 go_enter Try.func67, Try.ntmps67
 go_wp2
 go_loopg [6, 7, 8, 13] i (fun G u6 u7 u8 u13 wr => ∃ j : Nat, j <= i /\ G = i - j /\ u13 = .int .i64 j /\ Hid ((∀ k, k < j -> bodyAt l i k = none) /\ Fr (fun _ => False) w wr))
 case atStart => exact ⟨0, Nat.zero_le _, rfl, rfl, hid ⟨fun k hk => by omega, Fr.refl _ _⟩⟩
 case round =>
  obtain ⟨j, hj, rfl, rfl, HI⟩ := hrel
  by_cases hlt : j < i
  ·obtain ⟨x, hx⟩ : ∃ x, l[j]? = some x := ⟨_, List.getElem?_eq_getElem (by omega)⟩
   obtain ⟨hf, c0, c1, c2, c3, c4⟩ := H.out j x hx
   have c0 := cell_fr0 HI.out.2 c0
   have c1 := cell_fr0 HI.out.2 c1
   have c2 := cell_fr0 HI.out.2 c2
   have c3 := cell_fr0 HI.out.2 c3
   have c4 := cell_fr0 HI.out.2 c4
   have fb : Fr (fun _ => False) w (wr.alloc (.cells #[.int .u8 x.op, .int .u8 x.dst, .int .u8 x.a, .int .u8 x.b, .int .i16 x.n] 79)) := HI.out.2.alloc _
   have hb := hf.b
   have FB := hid fb
   have HB : Hid (bodyAt l i j = if x.op = 9 /\ i < j + 1 + x.b then some (j + 1 + x.b) else none) := hid (by unfold bodyAt; rw [hx])
   clear hx hf fb
   obtain ⟨op, dst, a, b, n⟩ := x
   dsimp only at *
   by_cases h9 : op = 9
   ·subst h9
    by_cases hin : i < j + 1 + b
    ·have HE := hid (body_find l i j (j + 1 + b) hlt HI.out.1 (by rw [HB.out, if_pos ⟨rfl, hin⟩]))
     go_wp2
     go_ret2
     rw [HE.out]
     exact ⟨by simp, FB.out⟩
    ·have HE := hid (show bodyAt l i j = none by rw [HB.out, if_neg (by omega)])
     go_wp2
     go_roundg (i - (j + 1))
     case measure => omega
     case rel => exact ⟨j + 1, by omega, rfl, by go_num, hid ⟨fun k hk => by
      by_cases h : k < j
      ·exact HI.out.1 k h
      ·obtain rfl : k = j := by omega
       exact HE.out, FB.out⟩⟩
   ·have HE := hid (show bodyAt l i j = none by rw [HB.out, if_neg (by omega)])
    have e9 : ((op : Int) == 9) = false := by simp; omega
    clear h9
    go_wp2
    go_roundg (i - (j + 1))
    case measure => omega
    case rel => exact ⟨j + 1, by omega, rfl, by go_num, hid ⟨fun k hk => by
      by_cases h : k < j
      ·exact HI.out.1 k h
      ·obtain rfl : k = j := by omega
       exact HE.out, FB.out⟩⟩
  ·obtain rfl : j = i := by omega
   have HE := hid (show bodyE l j = none from findSome_none j HI.out.1)
   go_wp2
   go_ret2
   rw [HE.out]
   exact ⟨rfl, HI.out.2⟩

theorem regs_any (x : Ins) (hf : x.Fits) (w : World) :
  Calls Try.prog 60 #[.agg #[.int .u8 x.op, .int .u8 x.dst, .int .u8 x.a, .int .u8 x.b, .int .i16 x.n]] w fun e w' => e = .returned (.bool (regsE x)) /\ Fr (fun _ => False) w w' := by
 obtain ⟨op, dst, a, b, n⟩ := x
 by_cases h1 : dst < 16
 ·by_cases h2 : a < 16
  ·by_cases h3 : op = 9
   ·subst h3
    go_enter Try.func60, Try.ntmps60
    go_wp2
    go_ret
    exact ⟨by simp [regsE, h1, h2], (Fr.refl _ _).alloc _⟩
   ·have e9 : ((op : Int) == 9) = false := by simp; omega
    have HR : Hid (regsE ⟨op, dst, a, b, n⟩ = decide ((b : Int) < 16)) := hid (by simp [regsE, h1, h2, h3]; omega)
    clear h3
    go_enter Try.func60, Try.ntmps60
    go_wp2
    go_ret
    rw [HR.out]
    exact ⟨rfl, (Fr.refl _ _).alloc _⟩
  ·go_enter Try.func60, Try.ntmps60
   go_wp2
   go_ret
   exact ⟨by simp [regsE, h1, h2], (Fr.refl _ _).alloc _⟩
 ·go_enter Try.func60, Try.ntmps60
  go_wp2
  go_ret
  exact ⟨by simp [regsE, h1], (Fr.refl _ _).alloc _⟩
end
section
theorem take_sum (l : List Ins) (j : Nat) (x : Ins) (hx : l[j]? = some x) : ((l.take (j + 1)).map Ins.turns).sum = ((l.take j).map Ins.turns).sum + x.turns := by
 rw [List.take_add_one, hx]; simp

set_option maxRecDepth 100000 in
theorem fuel_any (l : List Ins) (v : Value) (w : World) (hl : l.length <= 100) (h : PSees w v l) :
  Calls Try.prog 47 #[v] w fun e w' => e = .returned (.int .i64 (fuelE l)) /\ Fr (fun _ => False) w w' := by
 obtain ⟨a, cap, rfl, hs⟩ := h.shape
 have Hs := hid hs
 clear h hs
 go_enter Try.func47, Try.ntmps47
 go_wp2
 go_loopg [3, 5, 10] l.length (fun G u3 u5 u10 wr => ∃ (j : Nat) (s : Int), j <= l.length /\ G = l.length - j /\ u10 = .int .i64 j /\ u3 = .int .i64 s /\ Hid (s = l.length + ((l.take j).map Ins.turns).sum /\ (∀ x ∈ l, j <= l.length -> x.Fits \/ True) /\ Fr (fun _ => False) w wr))
 case atStart => exact ⟨0, l.length, Nat.zero_le _, rfl, rfl, rfl, hid ⟨by simp, fun _ _ _ => .inr trivial, Fr.refl _ _⟩⟩
 case round =>
  obtain ⟨j, s, hj, rfl, rfl, rfl, HI⟩ := hrel
  by_cases hlt : j < l.length
  ·rcases Hs.out with rfl | ⟨g, rfl, hcap, hat⟩
   ·simp at hlt
   obtain ⟨x, hx⟩ : ∃ x, l[j]? = some x := ⟨_, List.getElem?_eq_getElem hlt⟩
   obtain ⟨hf, c0, c1, c2, c3, c4⟩ := hat j x hx
   have c0 := cell_fr0 HI.out.2.2 c0
   have c1 := cell_fr0 HI.out.2.2 c1
   have c2 := cell_fr0 HI.out.2.2 c2
   have c3 := cell_fr0 HI.out.2.2 c3
   have c4 := cell_fr0 HI.out.2.2 c4
   have FB : Hid (Fr (fun _ => False) w (wr.alloc (.cells #[.int .u8 x.op, .int .u8 x.dst, .int .u8 x.a, .int .u8 x.b, .int .i16 x.n] 79))) := hid (HI.out.2.2.alloc _)
   have HT := hid (take_sum l j x hx)
   have hsum := sum_bounds (l.take j) (fun y hy => by
    obtain ⟨i, hi, rfl⟩ := List.mem_iff_getElem.1 hy
    refine (hat i _ ?_).1
    rw [List.getElem_take]
    exact List.getElem?_eq_getElem _)
   have hlen : (l.take j).length <= 100 := by rw [List.length_take]; omega
   have hs0 : 0 <= s := by rw [HI.out.1]; omega
   have hs1 : s <= 1000000000 := by rw [HI.out.1]; omega
   have hTb := turns_bounds x hf
   have hb := hf.b
   have hn0 := hf.lo
   have hn1 := hf.hi
   clear hsum hlen hx hat hf
   by_cases h9 : x.op = 9
   ·have hTe : x.turns = (x.b : Int) * (max x.n 1 - 1) := by unfold Ins.turns; rw [if_pos h9]
    rw [hTe] at hTb HT
    have e9 : ((x.op : Int) == 9) = true := by simp; omega
    clear hTe h9
    obtain ⟨op, dst, aa, b, n⟩ := x
    dsimp only at *
    obtain ⟨T, hT⟩ : ∃ T : Int, T = (b : Int) * (max n 1 - 1) := ⟨_, rfl⟩
    rw [<- hT] at hTb HT
    have hmul : wrap64 ((b : Int) * (max n 1 - 1)) = T := by rw [<- hT]; unfold wrap64; omega
    have hM0 : 1 <= max n 1 := by omega
    have hM1 : max n 1 <= 32767 := by omega
    have hmax : ∀ (ts : Array TypeId) (t : TypeId) (W : World), (Builtin.max_ ts t #[.int .i64 n, .int .i64 1]).run Try.prog W = .ok (.int .i64 (max n 1)) W := by
     intro ts t W
     have e : max n 1 = if n < 1 then 1 else n := by split <;> omega
     rw [e]
     by_cases h : n < 1
     ·simp [Builtin.max_, Builtin.max2, h]
     ·simp [Builtin.max_, Builtin.max2, h]
    generalize max n 1 = M at *
    clear hT
    go_wp2
    go_roundg (l.length - (j + 1))
    case measure => omega
    case rel => exact ⟨j + 1, _, by omega, rfl, by go_num, by go_num, hid ⟨by rw [HT.out, HI.out.1]; omega, fun _ _ _ => .inr trivial, FB.out⟩⟩
   ·have hTe : x.turns = 0 := by unfold Ins.turns; rw [if_neg h9]
    rw [hTe] at HT
    have e9 : ((x.op : Int) == 9) = false := by simp; omega
    clear hTe hTb h9
    obtain ⟨op, dst, aa, b, n⟩ := x
    dsimp only at *
    go_wp2
    go_roundg (l.length - (j + 1))
    case measure => omega
    case rel => exact ⟨j + 1, _, by omega, rfl, by go_num, rfl, hid ⟨by rw [HT.out, HI.out.1]; omega, fun _ _ _ => .inr trivial, FB.out⟩⟩
  ·obtain rfl : j = l.length := by omega
   have HE := hid (show s = fuelE l by rw [HI.out.1, List.take_length]; rfl)
   go_wp2
   go_ret
   rw [HE.out]
   exact ⟨rfl, HI.out.2.2⟩
end
section
theorem pret_bool {a b : Bool} (h : a = b) : (Ending.returned (.bool a)) = .returned (.bool b) := by rw [h]

set_option maxRecDepth 100000 in
theorem loop_any (l : List Ins) (g cap i : Nat) (x : Ins) (hx : l[i]? = some x) (w : World) (hl : l.length <= 100) (hcap : l.length <= cap) (h : PAt w g l) :
  Calls Try.prog 61 #[.slice (some ⟨g, 0, none⟩) l.length cap, .int .i64 i] w fun e w' => e = .returned (.bool (loopE l i x)) /\ Fr (fun _ => False) w w' := by
 have hi := (List.getElem?_eq_some_iff.1 hx).1
 have hb := body_any l g cap i w hl hcap (by omega) h
 obtain ⟨hf, c0, c1, c2, c3, c4⟩ := h i x hx
 have hbb := hf.b
 have hn0 := hf.lo
 have hn1 := hf.hi
 have hL : Hid (loopE l i x = (!(bodyE l i).isSome && (decide (0 < x.b) && (decide (i + x.b < l.length) && (decide (1 <= x.n) && decide (x.n <= 8)))))) := hid rfl
 have HB := hid hb
 clear hb hf h hx
 obtain ⟨op, dst, a, b, n⟩ := x
 dsimp only at *
 cases hs : bodyE l i with
 | some e =>
  rw [hs] at HB
  have HL : Hid (loopE l i ⟨op, dst, a, b, n⟩ = false) := hid (by rw [hL.out, hs]; rfl)
  go_enter Try.func61, Try.ntmps61
  go_wp2_with fail
  refine HB.out.mono ?_
  rintro r w1 ⟨rfl, f1⟩
  go_wp2
  go_ret
  exact ⟨pret_bool HL.out.symm, f1⟩
 | none =>
  rw [hs] at HB
  have HL : Hid (loopE l i ⟨op, dst, a, b, n⟩ = (decide (0 < b) && (decide (i + b < l.length) && (decide (1 <= n) && decide (n <= 8))))) := hid (by rw [hL.out, hs]; rfl)
  clear hL hs
  by_cases h1 : 0 < b
  ·by_cases h2 : i + b < l.length
   ·by_cases h3 : 1 <= n
    ·have HE : Hid (loopE l i ⟨op, dst, a, b, n⟩ = decide (n <= 8)) := hid (by rw [HL.out]; simp [h1, h2, h3])
     go_enter Try.func61, Try.ntmps61
     go_wp2_with fail
     refine HB.out.mono ?_
     rintro r w1 ⟨rfl, f1⟩
     replace c0 := cell_fr0 f1 c0
     replace c1 := cell_fr0 f1 c1
     replace c2 := cell_fr0 f1 c2
     replace c3 := cell_fr0 f1 c3
     replace c4 := cell_fr0 f1 c4
     go_wp2
     go_ret
     exact ⟨pret_bool HE.out.symm, f1.alloc _⟩
    ·have HE : Hid (loopE l i ⟨op, dst, a, b, n⟩ = false) := hid (by rw [HL.out]; simp [h3])
     go_enter Try.func61, Try.ntmps61
     go_wp2_with fail
     refine HB.out.mono ?_
     rintro r w1 ⟨rfl, f1⟩
     replace c0 := cell_fr0 f1 c0
     replace c1 := cell_fr0 f1 c1
     replace c2 := cell_fr0 f1 c2
     replace c3 := cell_fr0 f1 c3
     replace c4 := cell_fr0 f1 c4
     go_wp2
     go_ret
     exact ⟨pret_bool HE.out.symm, f1.alloc _⟩
   ·have HE : Hid (loopE l i ⟨op, dst, a, b, n⟩ = false) := hid (by rw [HL.out]; simp [h2])
    go_enter Try.func61, Try.ntmps61
    go_wp2_with fail
    refine HB.out.mono ?_
    rintro r w1 ⟨rfl, f1⟩
    replace c0 := cell_fr0 f1 c0
    replace c1 := cell_fr0 f1 c1
    replace c2 := cell_fr0 f1 c2
    replace c3 := cell_fr0 f1 c3
    replace c4 := cell_fr0 f1 c4
    go_wp2
    go_ret
    exact ⟨pret_bool HE.out.symm, f1.alloc _⟩
  ·have HE : Hid (loopE l i ⟨op, dst, a, b, n⟩ = false) := hid (by rw [HL.out]; simp [h1])
   go_enter Try.func61, Try.ntmps61
   go_wp2_with fail
   refine HB.out.mono ?_
   rintro r w1 ⟨rfl, f1⟩
   replace c0 := cell_fr0 f1 c0
   replace c1 := cell_fr0 f1 c1
   replace c2 := cell_fr0 f1 c2
   replace c3 := cell_fr0 f1 c3
   replace c4 := cell_fr0 f1 c4
   go_wp2
   go_ret
   exact ⟨pret_bool HE.out.symm, f1.alloc _⟩

set_option maxRecDepth 100000 in
theorem skip_any (l : List Ins) (g cap i : Nat) (x : Ins) (hx : l[i]? = some x) (w : World) (hl : l.length <= 100) (hcap : l.length <= cap) (h : PAt w g l) :
  Calls Try.prog 62 #[.slice (some ⟨g, 0, none⟩) l.length cap, .int .i64 i] w fun e w' => e = .returned (.bool (skipE l i x)) /\ Fr (fun _ => False) w w' := by
 have hi := (List.getElem?_eq_some_iff.1 hx).1
 have hb := body_any l g cap i w hl hcap (by omega) h
 obtain ⟨hf, c0, c1, c2, c3, c4⟩ := h i x hx
 have hn0 := hf.lo
 have hn1 := hf.hi
 have hL : Hid (skipE l i x = if x.n < 1 \/ (l.length : Int) < i + 1 + x.n then false else match bodyE l i with | some e => decide ((i : Int) + 1 + x.n <= e) | none => !(bodyE l (i + 1 + x.n.toNat)).isSome) := hid rfl
 have HB := hid hb
 have HA := hid h
 clear hb hf h hx
 obtain ⟨op, dst, a, b, n⟩ := x
 dsimp only at *
 by_cases h1 : n < 1
 ·have HE : Hid (skipE l i ⟨op, dst, a, b, n⟩ = false) := hid (by rw [hL.out, if_pos (.inl h1)])
  go_enter Try.func62, Try.ntmps62
  go_wp2
  go_ret
  exact ⟨pret_bool HE.out.symm, Fr.refl _ _⟩
 ·by_cases h2 : (l.length : Int) < i + 1 + n
  ·have HE : Hid (skipE l i ⟨op, dst, a, b, n⟩ = false) := hid (by rw [hL.out, if_pos (.inr h2)])
   go_enter Try.func62, Try.ntmps62
   go_wp2
   go_ret
   exact ⟨pret_bool HE.out.symm, Fr.refl _ _⟩
  ·rw [if_neg (by omega)] at hL
   cases hs : bodyE l i with
   | some e =>
    rw [hs] at HB
    have HE : Hid (skipE l i ⟨op, dst, a, b, n⟩ = decide ((i : Int) + 1 + n <= (e : Nat))) := hid (by rw [hL.out, hs])
    clear hs hL
    go_enter Try.func62, Try.ntmps62
    go_wp2_with fail
    refine HB.out.mono ?_
    rintro r w1 ⟨rfl, f1⟩
    simp only [Option.getD_some, Option.isSome_some]
    go_wp2
    go_ret
    exact ⟨pret_bool HE.out.symm, f1⟩
   | none =>
    rw [hs] at HB
    obtain ⟨m, rfl⟩ : ∃ m : Nat, n = m := ⟨n.toNat, by omega⟩
    have HE : Hid (skipE l i ⟨op, dst, a, b, (m : Int)⟩ = !(bodyE l (i + 1 + m)).isSome) := hid (by rw [hL.out, hs]; rfl)
    have HC : ∀ w1, Fr (fun _ => False) w w1 -> _ := fun w1 f => body_any l g cap (i + 1 + m) w1 hl hcap (by omega) (HA.out.fr f (fun h => h))
    have HC := hid HC
    clear hs hL
    go_enter Try.func62, Try.ntmps62
    go_wp2_with fail
    refine HB.out.mono ?_
    rintro r w1 ⟨rfl, f1⟩
    have HC1 := HC.out w1 f1
    simp only [Option.getD_none, Option.isSome_none]
    have hcast : ((i + 1 + m : Nat) : Int) = (i : Int) + 1 + m := by omega
    rw [hcast] at HC1
    have HC1 := hid HC1
    clear hcast
    go_wp2_with fail
    refine HC1.out.mono ?_
    rintro r w2 ⟨rfl, f2⟩
    clear HC HC1
    generalize (bodyE l (i + 1 + m)).isSome = B at HE ⊢
    generalize (((bodyE l (i + 1 + m)).getD 0 : Nat) : Int) = D
    go_wp2
    go_ret
    exact ⟨pret_bool HE.out.symm, f1.trans f2 fid2⟩

set_option maxRecDepth 100000 in
theorem ins_any (l : List Ins) (g cap i : Nat) (x : Ins) (hx : l[i]? = some x) (w : World) (hl : l.length <= 100) (hcap : l.length <= cap) (h : PAt w g l) :
  Calls Try.prog 46 #[.slice (some ⟨g, 0, none⟩) l.length cap, .int .i64 i] w fun e w' => e = .returned (.int .i64 (insE l i x : Nat)) /\ Fr (fun _ => False) w w' := by
 have hi := (List.getElem?_eq_some_iff.1 hx).1
 obtain ⟨hf, c0, c1, c2, c3, c4⟩ := h i x hx
 have HR := hid (regs_any x hf)
 have HL : Hid (∀ w1, Fr (fun _ => False) w w1 -> Calls Try.prog 61 #[.slice (some ⟨g, 0, none⟩) l.length cap, .int .i64 i] w1 fun e w' => e = .returned (.bool (loopE l i x)) /\ Fr (fun _ => False) w1 w') :=
  hid (fun w1 f => loop_any l g cap i x hx w1 hl hcap (h.fr f (fun h => h)))
 have HS : Hid (∀ w1, Fr (fun _ => False) w w1 -> Calls Try.prog 62 #[.slice (some ⟨g, 0, none⟩) l.length cap, .int .i64 i] w1 fun e w' => e = .returned (.bool (skipE l i x)) /\ Fr (fun _ => False) w1 w') :=
  hid (fun w1 f => skip_any l g cap i x hx w1 hl hcap (h.fr f (fun h => h)))
 have hE : insE l i x = if 12 <= x.op then 5 else if regsE x = false then 2 else if (x.op = 9 /\ loopE l i x = false) \/ (x.op = 8 /\ skipE l i x = false) then 4 else if x.op = 10 /\ x.n < 0 then 2 else 0 := rfl
 have hop := hf.op
 generalize insE l i x = E at hE ⊢
 generalize loopE l i x = LB at hE HL
 generalize skipE l i x = SB at hE HS
 generalize regsE x = RB at hE HR
 have HE0 := hid hE
 clear hE hf h hx
 obtain ⟨op, dst, a, b, n⟩ := x
 dsimp only at *
 have f0 : Hid (Fr (fun _ => False) w (w.alloc (.cells #[.int .u8 op, .int .u8 dst, .int .u8 a, .int .u8 b, .int .i16 n] 79))) := hid ((Fr.refl _ _).alloc _)
 by_cases h12 : 12 <= op
 ·have HE := hid (show E = 5 by rw [HE0.out, if_pos h12])
  clear HE0
  go_enter Try.func46, Try.ntmps46
  go_wp2
  go_ret
  rw [HE.out]
  exact ⟨rfl, f0.out⟩
 cases RB with
 | false =>
  have HE := hid (show E = 2 by rw [HE0.out, if_neg h12, if_pos rfl])
  clear HE0
  go_enter Try.func46, Try.ntmps46
  go_wp2_with fail
  refine (HR.out _).mono ?_
  rintro r w1 ⟨rfl, f1⟩
  go_wp2
  go_ret
  rw [HE.out]
  exact ⟨rfl, f0.out.trans f1 fid2⟩
 | true =>
  by_cases h9 : op = 9
  ·subst h9
   cases LB with
   | false =>
    have HE := hid (show E = 4 by rw [HE0.out]; simp)
    clear HE0
    go_enter Try.func46, Try.ntmps46
    go_wp2_with fail
    refine (HR.out _).mono ?_
    rintro r w1 ⟨rfl, f1⟩
    have q := pbox_kept (heap_alloc_new w _) f1 (fun h => h)
    have q0 := pcells_row q 0 _ rfl
    have q4 := pcells_row q 4 _ rfl
    have F1 := hid (f0.out.trans f1 fid2)
    clear q f1
    go_wp2_with fail
    refine (HL.out _ F1.out).mono ?_
    rintro r w2 ⟨rfl, f2⟩
    go_wp2
    go_ret
    rw [HE.out]
    exact ⟨rfl, F1.out.trans f2 fid2⟩
   | true =>
    have HE := hid (show E = 0 by rw [HE0.out]; simp)
    clear HE0
    go_enter Try.func46, Try.ntmps46
    go_wp2_with fail
    refine (HR.out _).mono ?_
    rintro r w1 ⟨rfl, f1⟩
    have q := pbox_kept (heap_alloc_new w _) f1 (fun h => h)
    have q0 := pcells_row q 0 _ rfl
    have q4 := pcells_row q 4 _ rfl
    have F1 := hid (f0.out.trans f1 fid2)
    clear f1
    go_wp2_with fail
    refine (HL.out _ F1.out).mono ?_
    rintro r w2 ⟨rfl, f2⟩
    replace q := pbox_kept q f2 (fun h => h)
    replace q0 := pcells_row q 0 _ rfl
    replace q4 := pcells_row q 4 _ rfl
    clear q
    go_wp2
    go_ret
    rw [HE.out]
    exact ⟨rfl, F1.out.trans f2 fid2⟩
  ·have e9 : ((op : Int) == 9) = false := by simp; omega
   by_cases h8 : op = 8
   ·subst h8
    cases SB with
    | false =>
     have HE := hid (show E = 4 by rw [HE0.out]; simp)
     clear HE0
     clear h9
     go_enter Try.func46, Try.ntmps46
     go_wp2_with fail
     refine (HR.out _).mono ?_
     rintro r w1 ⟨rfl, f1⟩
     have q := pbox_kept (heap_alloc_new w _) f1 (fun h => h)
     have q0 := pcells_row q 0 _ rfl
     have q4 := pcells_row q 4 _ rfl
     have F1 := hid (f0.out.trans f1 fid2)
     clear q f1
     go_wp2_with fail
     refine (HS.out _ F1.out).mono ?_
     rintro r w2 ⟨rfl, f2⟩
     go_wp2
     go_ret
     rw [HE.out]
     exact ⟨rfl, F1.out.trans f2 fid2⟩
    | true =>
     have HE := hid (show E = 0 by rw [HE0.out]; simp)
     clear HE0
     clear h9
     go_enter Try.func46, Try.ntmps46
     go_wp2_with fail
     refine (HR.out _).mono ?_
     rintro r w1 ⟨rfl, f1⟩
     have q := pbox_kept (heap_alloc_new w _) f1 (fun h => h)
     have q0 := pcells_row q 0 _ rfl
     have q4 := pcells_row q 4 _ rfl
     have F1 := hid (f0.out.trans f1 fid2)
     clear f1
     go_wp2_with fail
     refine (HS.out _ F1.out).mono ?_
     rintro r w2 ⟨rfl, f2⟩
     replace q := pbox_kept q f2 (fun h => h)
     replace q0 := pcells_row q 0 _ rfl
     replace q4 := pcells_row q 4 _ rfl
     clear q
     go_wp2
     go_ret
     rw [HE.out]
     exact ⟨rfl, F1.out.trans f2 fid2⟩
   ·have e8 : ((op : Int) == 8) = false := by simp; omega
    by_cases hr : op = 10
    ·subst hr
     by_cases hn : n < 0
     ·have HE := hid (show E = 2 by rw [HE0.out]; simp [hn])
      clear HE0
      clear h9 h8
      go_enter Try.func46, Try.ntmps46
      go_wp2_with fail
      refine (HR.out _).mono ?_
      rintro r w1 ⟨rfl, f1⟩
      have q := pbox_kept (heap_alloc_new w _) f1 (fun h => h)
      have q0 := pcells_row q 0 _ rfl
      have q4 := pcells_row q 4 _ rfl
      have F1 := hid (f0.out.trans f1 fid2)
      clear q f1
      go_wp2
      go_ret
      rw [HE.out]
      exact ⟨rfl, F1.out⟩
     ·have HE := hid (show E = 0 by rw [HE0.out]; simp; omega)
      clear HE0
      clear h9 h8
      go_enter Try.func46, Try.ntmps46
      go_wp2_with fail
      refine (HR.out _).mono ?_
      rintro r w1 ⟨rfl, f1⟩
      have q := pbox_kept (heap_alloc_new w _) f1 (fun h => h)
      have q0 := pcells_row q 0 _ rfl
      have q4 := pcells_row q 4 _ rfl
      have F1 := hid (f0.out.trans f1 fid2)
      clear q f1
      go_wp2
      go_ret
      rw [HE.out]
      exact ⟨rfl, F1.out⟩
    ·have HE := hid (show E = 0 by rw [HE0.out, if_neg h12, if_neg (by simp), if_neg (by omega), if_neg (by omega)])
     clear HE0
     have e10 : ((op : Int) == 10) = false := by simp; omega
     clear h9 h8 hr
     go_enter Try.func46, Try.ntmps46
     go_wp2_with fail
     refine (HR.out _).mono ?_
     rintro r w1 ⟨rfl, f1⟩
     have q := pbox_kept (heap_alloc_new w _) f1 (fun h => h)
     have q0 := pcells_row q 0 _ rfl
     have q4 := pcells_row q 4 _ rfl
     have F1 := hid (f0.out.trans f1 fid2)
     clear q f1
     go_wp2
     go_ret
     rw [HE.out]
     exact ⟨rfl, F1.out⟩
end
section
theorem firstE_drop (l : List Ins) (j : Nat) (x : Ins) (hx : l[j]? = some x) : pfirstE l j (l.drop j) = if insE l j x ≠ 0 then insE l j x else pfirstE l (j + 1) (l.drop (j + 1)) := by
 have hj := (List.getElem?_eq_some_iff.1 hx)
 rw [List.drop_eq_getElem_cons hj.1, hj.2]
 rfl

theorem insE_le (l : List Ins) (i : Nat) (x : Ins) : insE l i x <= 5 := by
 unfold insE
 split
 ·omega
 ·split
  ·omega
  ·split
   ·omega
   ·split <;> omega

theorem checkE_le (l : List Ins) : pcheckE l <= 7 := by
 have h : ∀ (r : List Ins) (i : Nat), pfirstE l i r <= 5 := by
  intro r
  induction r with
  | nil => intro i; simp [pfirstE]
  | cons x r ih =>
   intro i
   unfold pfirstE
   split
   ·exact insE_le l i x
   ·exact ih _
 have := h l 0
 unfold pcheckE
 split
 ·omega
 ·split
  ·omega
  ·split <;> omega

set_option maxRecDepth 100000 in
theorem pcheck_any (l : List Ins) (v : Value) (w : World) (hl : l.length <= 100) (h : PSees w v l) :
  Calls Try.prog 33 #[v] w fun e w' => e = .returned (.int .i64 (pcheckE l : Nat)) /\ Fr (fun _ => False) w w' := by
 have h0 := hid h
 obtain ⟨a, cap, rfl, hs⟩ := h.shape
 have Hs := hid hs
 have hE : pcheckE l = if 24 < l.length then 7 else if pfirstE l 0 l ≠ 0 then pfirstE l 0 l else if 200 < fuelE l then 6 else 0 := rfl
 generalize pcheckE l = E at hE ⊢
 have HE0 := hid hE
 clear h hs hE
 by_cases h24 : 24 < l.length
 ·have HE := hid (show E = 7 by rw [HE0.out, if_pos h24])
  clear HE0
  go_enter Try.func33, Try.ntmps33
  go_wp2
  go_ret
  rw [HE.out]
  exact ⟨rfl, Fr.refl _ _⟩
 have HE1 := hid (show E = if pfirstE l 0 l ≠ 0 then pfirstE l 0 l else if 200 < fuelE l then 6 else 0 by rw [HE0.out, if_neg h24])
 clear HE0
 go_enter Try.func33, Try.ntmps33
 go_wp2
 go_loopg [3, 4, 10] l.length (fun G u3 u4 u10 wr => ∃ (j : Nat), j <= l.length /\ G = l.length - j /\ u10 = .int .i64 j /\ Hid (pfirstE l 0 l = pfirstE l j (l.drop j) /\ Fr (fun _ => False) w wr))
 case atStart => exact ⟨0, Nat.zero_le _, rfl, rfl, hid ⟨rfl, Fr.refl _ _⟩⟩
 case round =>
  obtain ⟨j, hj, rfl, rfl, HI⟩ := hrel
  by_cases hlt : j < l.length
  ·rcases Hs.out with rfl | ⟨g, rfl, hcap, hat⟩
   ·simp at hlt
   obtain ⟨x, hx⟩ : ∃ x, l[j]? = some x := ⟨_, List.getElem?_eq_getElem hlt⟩
   have HC := hid (ins_any l g cap j x hx wr hl hcap (hat.fr HI.out.2 (fun h => h)))
   have HF := hid (firstE_drop l j x hx)
   have hle := insE_le l j x
   clear hx hat
   generalize insE l j x = er at *
   by_cases her : er = 0
   ·subst her
    have HF := hid (show pfirstE l j (l.drop j) = pfirstE l (j + 1) (l.drop (j + 1)) by rw [HF.out]; simp)
    go_wp2_with fail
    refine HC.out.mono ?_
    rintro r w1 ⟨rfl, f1⟩
    go_wp2
    go_roundg (l.length - (j + 1))
    case measure => omega
    case rel => exact ⟨j + 1, by omega, rfl, by go_num, hid ⟨by rw [HI.out.1, HF.out], HI.out.2.trans f1 fid2⟩⟩
   ·have hFe : pfirstE l 0 l = er := by rw [HI.out.1, HF.out, if_pos her]
    have HE := hid (show E = er by rw [HE1.out, hFe, if_pos her])
    have e0 : ((er : Int) == 0) = false := by simp; omega
    have e1 : ((er : Int) != 0) = true := by simp; omega
    clear hFe HE1 her HF
    go_wp2_with fail
    refine HC.out.mono ?_
    rintro r w1 ⟨rfl, f1⟩
    go_wp2
    go_ret
    rw [HE.out]
    exact ⟨rfl, HI.out.2.trans f1 fid2⟩
  ·obtain rfl : j = l.length := by omega
   have hF : pfirstE l 0 l = 0 := by rw [HI.out.1, List.drop_length]; rfl
   have HE := hid (show E = if 200 < fuelE l then 6 else 0 by rw [HE1.out, hF]; simp)
   have HC := hid (fuel_any l _ wr hl (h0.out.fr HI.out.2 fid2))
   clear hF HE1
   generalize fuelE l = F at *
   by_cases h200 : 200 < F
   ·have HE := hid (show E = 6 by rw [HE.out, if_pos h200])
    go_wp2_with fail
    refine HC.out.mono ?_
    rintro r w1 ⟨rfl, f1⟩
    go_wp2
    go_ret
    rw [HE.out]
    exact ⟨rfl, HI.out.2.trans f1 fid2⟩
   ·have HE := hid (show E = 0 by rw [HE.out, if_neg h200])
    go_wp2_with fail
    refine HC.out.mono ?_
    rintro r w1 ⟨rfl, f1⟩
    go_wp2
    go_ret
    rw [HE.out]
    exact ⟨rfl, HI.out.2.trans f1 fid2⟩
end
section
theorem ret_bool {a b : Bool} (h : a = b) : Ending.returned (.bool a) = .returned (.bool b) := by rw [h]

def isLet (c : UInt8) : Bool := decide (97 <= (c.toNat : Int) /\ (c.toNat : Int) <= 122 \/ 65 <= (c.toNat : Int) /\ (c.toNat : Int) <= 90)
def isDig (c : UInt8) : Bool := decide (48 <= (c.toNat : Int) /\ (c.toNat : Int) <= 57)

def kwords : List (List UInt8) := [[98, 111, 111, 108], [99, 97, 114, 100], [108, 111, 110, 103], [114, 101, 97, 108], [116, 101, 120, 116], [115, 101, 113], [111, 102], [114, 101, 99, 111, 114, 100], [101, 110, 117, 109], [99, 104, 111, 105, 99, 101], [112, 114, 111, 103, 114, 97, 109], [118, 101, 114, 115, 105, 111, 110], [116, 121, 112, 101], [101, 114, 114, 111, 114], [112, 114, 111, 99], [114, 101, 116, 117, 114, 110, 115], [99, 111, 108, 108, 97, 116, 101], [116, 105, 109, 101, 111, 117, 116], [102, 105, 114, 115, 116], [109, 97, 106, 111, 114, 105, 116, 121], [97, 108, 108]]

def isNam (c : UInt8) : Bool := isLet c || isDig c

def named (l : List UInt8) : Bool := decide (1 <= l.length /\ l.length <= 20) && isLet (l.getD 0 0) && l.all isNam && !kwords.contains l

theorem all_getD (p : UInt8 -> Bool) (l : List UInt8) (h : ∀ j, j < l.length -> p (l.getD j 0) = true) : l.all p = true := by
 rw [List.all_eq_true]
 intro x hx
 obtain ⟨j, hj, rfl⟩ := List.getElem_of_mem hx
 have := h j hj
 simpa [List.getD, hj] using this

theorem not_all (p : UInt8 -> Bool) (l : List UInt8) (j : Nat) (hj : j < l.length) (h : p (l.getD j 0) = false) : l.all p = false := by
 rw [List.all_eq_false]
 refine ⟨l[j], List.getElem_mem hj, ?_⟩
 simpa [List.getD, hj] using h

theorem letter_any (c : UInt8) (w : World) : Calls Try.prog 75 #[.int .u8 c.toNat] w fun e w' => e = .returned (.bool (isLet c)) /\ w = w' := by
 unfold isLet
 have h1 : (c.toNat : Int) <= 255 := by have := c.toNat_lt; omega
 have h0 : (0 : Int) <= (c.toNat : Int) := by omega
 generalize (c.toNat : Int) = n at *
 by_cases a : 97 <= n <;> by_cases b : n <= 122 <;> by_cases d : 65 <= n <;> by_cases e : n <= 90 <;>
  first
  | omega
  | (
    go_enter Try.func75, Try.ntmps75
    go_wp2
    go_ret
    exact ⟨ret_bool (by simp [a, b, d, e]), rfl⟩)

theorem digit_any (c : UInt8) (w : World) : Calls Try.prog 76 #[.int .u8 c.toNat] w fun e w' => e = .returned (.bool (isDig c)) /\ w = w' := by
 unfold isDig
 have h1 : (c.toNat : Int) <= 255 := by have := c.toNat_lt; omega
 have h0 : (0 : Int) <= (c.toNat : Int) := by omega
 generalize (c.toNat : Int) = n at *
 by_cases a : 48 <= n <;> by_cases b : n <= 57 <;>
  first
  | omega
  | (
    go_enter Try.func76, Try.ntmps76
    go_wp2
    go_ret
    exact ⟨ret_bool (by simp [a, b]), rfl⟩)

theorem reserved_any (s : ByteArray) (w : World) : Calls Try.prog 77 #[.string s] w fun e w' => e = .returned (.bool (kwords.contains s.data.toList)) /\ w = w' := by
 go_enter Try.func77, Try.ntmps77
 go_wp2
 all_goals go_ret
 all_goals refine ⟨ret_bool ?_, rfl⟩
 all_goals simp_all [Lib.toList_data, kwords]

theorem named_any (s : ByteArray) (w : World) (hs : s.size <= maxLen) : Calls Try.prog 68 #[.string s] w fun e w' => e = .returned (.bool (named s.data.toList)) /\ w = w' := by
 unfold maxLen at hs
 have hl : s.data.toList.length = s.size := rfl
 have Hl := hid hl
 clear hl
 by_cases h1 : s.size < 1
 ·go_enter Try.func68, Try.ntmps68
  go_wp2
  go_ret
  refine ⟨ret_bool ?_, rfl⟩
  simp [named, Hl.out]; omega
 by_cases h2 : 20 < s.size
 ·go_enter Try.func68, Try.ntmps68
  go_wp2
  go_ret
  refine ⟨ret_bool ?_, rfl⟩
  simp [named, Hl.out]; omega
 have h3 : 0 < s.size := by omega
 have h4 : ¬ ((s.size : Int) < 1) := by omega
 have h5 : ¬ (20 < (s.size : Int)) := by omega
 obtain ⟨c, hc⟩ : ∃ c, c = s[0] := ⟨_, rfl⟩
 have hg : s.data.toList.getD 0 0 = c := by
  rw [hc, List.getD_eq_getElem?_getD, List.getElem?_eq_getElem (by rw [Hl.out]; exact h3)]
  rfl
 have Hc := hid hc
 have Hg := hid hg
 clear hc hg
 by_cases hp : isLet c = true
 ·have HP := hid hp
  clear hp
  go_enter Try.func68, Try.ntmps68
  go_wp2_with fail
  rw [<- Hc.out]
  refine (letter_any _ _).mono ?_
  rintro e w' ⟨rfl, rfl⟩
  rw [HP.out]
  go_wp2_with fail
  go_loopg [3, 20] s.size (fun g u3 u20 wr => ∃ k : Nat, k <= s.size /\ g = s.size - k /\ u20 = .int .i64 k /\ Hid (∀ j, j < k -> isNam (s.data.toList.getD j 0) = true) /\ wr = w)
  case atStart => exact ⟨0, Nat.zero_le _, rfl, rfl, hid (fun j hj => by omega), rfl⟩
  case round =>
   obtain ⟨k, hk, rfl, rfl, HA, rfl⟩ := hrel
   by_cases hlt : k < s.size
   ·obtain ⟨d, hd⟩ : ∃ d, d = s[k] := ⟨_, rfl⟩
    have hgd : s.data.toList.getD k 0 = d := by
     rw [hd, List.getD_eq_getElem?_getD, List.getElem?_eq_getElem (by rw [Hl.out]; exact hlt)]
     rfl
    have Hd := hid hd
    have Hgd := hid hgd
    clear hd hgd
    by_cases ha : isLet d = true
    ·have HLet := hid ha
     clear ha
     go_wp2_with fail
     rw [<- Hd.out]
     refine (letter_any _ _).mono ?_
     rintro e w' ⟨rfl, rfl⟩
     rw [HLet.out]
     go_wp2_with fail
     go_roundg (s.size - (k + 1))
     case measure => omega
     case rel => exact ⟨k + 1, by omega, rfl, by go_num, hid (fun j hj => by
      by_cases h : j < k
      ·exact HA.out j h
      ·obtain rfl : j = k := by omega
       rw [Hgd.out]; simp [isNam, HLet.out]), rfl⟩
    ·have ha' : isLet d = false := by simpa using ha
     have HLet := hid ha'
     clear ha ha'
     go_wp2_with fail
     rw [<- Hd.out]
     refine (letter_any _ _).mono ?_
     rintro e w' ⟨rfl, rfl⟩
     rw [HLet.out]
     go_wp2_with fail
     rw [<- Hd.out]
     refine (digit_any _ _).mono ?_
     rintro e w' ⟨rfl, rfl⟩
     by_cases hb : isDig d = true
     ·rw [hb]
      have HDig := hid hb
      clear hb
      go_wp2_with fail
      go_roundg (s.size - (k + 1))
      case measure => omega
      case rel => exact ⟨k + 1, by omega, rfl, by go_num, hid (fun j hj => by
       by_cases h : j < k
       ·exact HA.out j h
       ·obtain rfl : j = k := by omega
        rw [Hgd.out]; simp [isNam, HDig.out]), rfl⟩
     ·have hb' : isDig d = false := by simpa using hb
      rw [hb']
      have HDig := hid hb'
      clear hb hb'
      go_wp2_with fail
      go_ret
      refine ⟨ret_bool ?_, rfl⟩
      have := not_all isNam s.data.toList k (by rw [Hl.out]; exact hlt) (by rw [Hgd.out]; simp [isNam, HLet.out, HDig.out])
      simp [named, this]
   ·obtain rfl : k = s.size := by omega
    have hall : s.data.toList.all isNam = true := all_getD _ _ (by rw [Hl.out]; exact HA.out)
    have HAll := hid hall
    clear hall
    go_wp2_with fail
    refine (reserved_any _ _).mono ?_
    rintro e w' ⟨rfl, rfl⟩
    go_wp2_with fail
    go_ret
    refine ⟨ret_bool ?_, rfl⟩
    have e1 : decide (1 <= s.data.toList.length /\ s.data.toList.length <= 20) = true := by rw [Hl.out]; simp; omega
    rw [named, e1, HAll.out, Hg.out, HP.out]
    simp
 ·have hp' : isLet c = false := by simpa using hp
  have HP := hid hp'
  clear hp hp'
  go_enter Try.func68, Try.ntmps68
  go_wp2_with fail
  rw [<- Hc.out]
  refine (letter_any _ _).mono ?_
  rintro e w' ⟨rfl, rfl⟩
  rw [HP.out]
  go_wp2_with fail
  go_ret
  refine ⟨ret_bool ?_, rfl⟩
  rw [named, Hg.out, HP.out]
  simp
end
section
open Go.RowKit Go.WideShapes Go.ChangeShapes

def SeesL (w : World) (v : Value) (xs : List Value) : Prop :=
 (xs = [] /\ ∃ a c, v = .slice a 0 c) \/
 ∃ g off cap, v = .slice (some ⟨g, off, none⟩) xs.length cap /\ xs.length <= cap /\ ∀ j u, xs[j]? = some u -> w.cell? ⟨g, off + j, none⟩ = some u

theorem SeesL.fr0 {w w' : World} {v : Value} {xs : List Value} (h : SeesL w v xs) (hf : Fr (fun _ => False) w w') : SeesL w' v xs := by
 rcases h with h | ⟨g, off, cap, rfl, hle, hc⟩
 ·exact .inl h
 ·refine .inr ⟨g, off, cap, rfl, hle, fun j u hj => ?_⟩
  have h1 := hc j u hj
  rw [<- h1]
  exact hf.cell (World.block_lt_of_cell? w _ h1) (fun h => h)

theorem addr_plain {w : World} {a : Addr} {u : Value} (h : w.cell? a = some u) : a = ⟨a.block, a.off, none⟩ := by
 obtain ⟨b, o, s⟩ := a
 cases s with
 | none => rfl
 | some s =>
  exfalso
  unfold World.cell? at h
  split at h
  ·simp at h
  ·cases h
end
section
theorem SeesL.shape {w : World} {v : Value} {xs : List Value} (h : SeesL w v xs) : ∃ a c, v = .slice a xs.length c /\ (0 < xs.length -> xs.length <= c /\ ∃ g off, a = some ⟨g, off, none⟩ /\ ∀ j u, xs[j]? = some u -> w.cell? ⟨g, off + j, none⟩ = some u) := by
 rcases h with ⟨rfl, a', c', rfl⟩ | ⟨g, off, cap, rfl, hle, hc⟩
 ·exact ⟨a', c', rfl, fun h => absurd h (by simp)⟩
 ·exact ⟨_, cap, rfl, fun _ => ⟨hle, g, off, rfl, hc⟩⟩

abbrev Txt := List UInt8

def sv (l : Txt) : Value := .string ⟨l.toArray⟩

def firstAt {α : Type} (p : α -> Bool) (l : List α) : Int := if l.any p then (l.findIdx p : Nat) else -1

theorem firstAt_found {α : Type} (p : α -> Bool) (l : List α) (k : Nat) (hk : k < l.length) (ha : ∀ j, (hj : j < l.length) -> j < k -> p l[j] = false) (h : p l[k] = true) : firstAt p l = k := by
 unfold firstAt
 have h1 : l.any p = true := List.any_eq_true.2 ⟨_, List.getElem_mem hk, h⟩
 rw [if_pos h1]
 congr 1
 exact (List.findIdx_eq hk).2 ⟨h, fun j hj => ha j (by omega) hj⟩

theorem firstAt_none {α : Type} (p : α -> Bool) (l : List α) (ha : ∀ j, (hj : j < l.length) -> p l[j] = false) : firstAt p l = -1 := by
 unfold firstAt
 rw [if_neg]
 intro h
 obtain ⟨x, hx, hp⟩ := List.any_eq_true.1 h
 obtain ⟨j, hj, rfl⟩ := List.getElem_of_mem hx
 rw [ha j hj] at hp
 cases hp

theorem firstAt_ge {α : Type} (p : α -> Bool) (l : List α) : decide (0 <= firstAt p l) = l.any p := by
 unfold firstAt
 split
 ·rename_i h; rw [h]; simp
 ·rename_i h; simp at h; simp; intro x hx; simp [h x hx]

theorem ret_int {a b : Int} (h : a = b) : Ending.returned (.int .i64 a) = .returned (.int .i64 b) := by rw [h]

theorem index_any (l : List Txt) (s : Txt) (v : Value) (w : World) (h : SeesL w v (l.map sv)) (hs : l.length <= maxLen) :
  Calls Try.prog 86 #[v, sv s] w fun e w' => e = .returned (.int .i64 (firstAt (fun d => d = s) l)) /\ w = w' := by
 unfold maxLen at hs
 obtain ⟨a, c, rfl, hc⟩ := h.shape
 rw [List.length_map] at *
 have Hc := hid hc
 clear hc h
 unfold sv
 go_enter Try.func86, Try.ntmps86
 go_wp2
 go_loopg [5, 8] l.length (fun g u5 u8 wr => ∃ k : Nat, k <= l.length /\ g = l.length - k /\ u8 = .int .i64 k /\ Hid (∀ j, (hj : j < l.length) -> j < k -> l[j] ≠ s) /\ wr = w)
 case atStart => exact ⟨0, Nat.zero_le _, rfl, rfl, hid (fun j _ hj => by omega), rfl⟩
 case round =>
  obtain ⟨k, hk, rfl, rfl, HA, rfl⟩ := hrel
  by_cases hlt : k < l.length
  ·obtain ⟨hcap, g, off, rfl, hcell⟩ := Hc.out (by omega)
   obtain ⟨d, hd⟩ : ∃ d, d = l[k] := ⟨_, rfl⟩
   have hck := hcell k (sv d) (by rw [List.getElem?_map, List.getElem?_eq_getElem hlt, hd]; rfl)
   unfold sv at hck
   have Hd := hid hd
   clear hcell hd
   by_cases he : s = d
   ·have hb : (s == d) = true := by simpa using he
    have He := hid he
    clear he
    go_wp2
    go_ret
    refine ⟨ret_int ?_, rfl⟩
    exact (firstAt_found _ l k hlt (fun j hj hjk => by simpa using HA.out j hj hjk) (by rw [<- Hd.out]; simpa using He.out.symm)).symm
   ·have hb : (s == d) = false := by simpa using he
    have He := hid he
    clear he
    go_wp2
    go_roundg (l.length - (k + 1))
    case measure => omega
    case rel => exact ⟨k + 1, by omega, rfl, by go_num, hid (fun j hj' hj => by
     by_cases h : j < k
     ·exact HA.out j hj' h
     ·obtain rfl : j = k := by omega
      rw [<- Hd.out]; exact fun e => He.out e.symm), rfl⟩
  ·obtain rfl : k = l.length := by omega
   go_wp2
   go_ret
   refine ⟨ret_int ?_, rfl⟩
   exact (firstAt_none _ l (fun j hj => by simpa using HA.out j hj hj)).symm

theorem contains_any (l : List Txt) (s : Txt) (v : Value) (w : World) (h : SeesL w v (l.map sv)) (hs : l.length <= maxLen) :
  Calls Try.prog 79 #[v, sv s] w fun e w' => e = .returned (.bool (l.any fun d => d = s)) /\ w = w' := by
 obtain ⟨v0, hv⟩ : ∃ v0, v0 = v := ⟨_, rfl⟩
 rw [<- hv] at h ⊢
 obtain ⟨s0, hs0⟩ : ∃ s0, s0 = sv s := ⟨_, rfl⟩
 rw [<- hs0]
 have HS := hid hs0
 clear hv hs0
 go_enter Try.func79, Try.ntmps79
 go_wp2_with fail
 rw [HS.out]
 refine (index_any l s _ _ h hs).mono ?_
 rintro e w' ⟨rfl, rfl⟩
 go_wp2
 go_ret
 refine ⟨ret_bool ?_, rfl⟩
 exact firstAt_ge _ _

theorem seesL_own {w : World} {base : Nat} {e : TypeId} {v : Value} {n : Nat} {xs : List Value} (h : w.ownsRow base e 1 v n xs) : SeesL w v xs := by
 have hn : n = xs.length := by have := h.1; omega
 subst hn
 rcases h.2 with ⟨rfl, h0⟩ | ⟨g, cap, cur, rfl, _, hg, hle, _, hs, ht⟩
 ·exact .inl ⟨List.eq_nil_of_length_eq_zero h0, none, 0, rfl⟩
 ·refine .inr ⟨g, 0, cap, rfl, hle, fun j u hj => ?_⟩
  have := World.ownsRow.cells (g := g) h rfl j u hj
  have hplain : (⟨g, 0, none⟩ : Addr).add j = ⟨g, j, none⟩ := by unfold Addr.add; split <;> simp_all
  rw [hplain] at this
  rw [Nat.zero_add]
  exact this

theorem Try.infoStr : (Try.prog.info? 9).map (fun i => (i.zero, i.size, i.bytes)) = some (some (.string ⟨#[]⟩), 1, 16) := by kernel_rfl

structure Nm (P : Nat -> Prop) (w : World) (b : Nat) (l : List Txt) : Prop where
 here : ∃ v, w.heap[b]? = some (.cells #[v] 33 (0, 0)) /\ w.ownsRow 0 9 1 v l.length (l.map sv) /\ ∀ k, v.ownBlock = some k -> ¬ P k /\ k ≠ b
 apart : ¬ P b

theorem ownsRow_fr {S : Nat -> Prop} {w w' : World} {base : Nat} {e : TypeId} {size : Nat} {v : Value} {n : Nat} {xs : List Value} (h : w.ownsRow base e size v n xs) (hf : Fr S w w') (hS : ∀ k, v.ownBlock = some k -> ¬ S k) : w'.ownsRow base e size v n xs := by
 refine ⟨h.1, ?_⟩
 rcases h.2 with hn | ⟨g, cap, cur, rfl, hb, hgg, rest⟩
 ·exact .inl hn
 ·refine .inr ⟨g, cap, cur, rfl, hb, ?_, rest⟩
  rw [hf.block g (Array.getElem?_eq_some_iff.1 hgg).1 (hS g rfl)]
  exact hgg

theorem Nm.fr {P S : Nat -> Prop} {w w' : World} {b : Nat} {l : List Txt} (h : Nm P w b l) (hf : Fr S w w') (hS : ∀ k, S k -> P k) : Nm P w' b l := by
 obtain ⟨⟨v, h1, h2, h3⟩, h4⟩ := h
 refine ⟨⟨v, ?_, ownsRow_fr h2 hf (fun k hk hs => (h3 k hk).1 (hS k hs)), h3⟩, h4⟩
 rw [hf.block b (lt_of_block h1) (fun hs => h4 (hS b hs))]
 exact h1

theorem Nm.guard {P Q : Nat -> Prop} {w : World} {b : Nat} {l : List Txt} (h : Nm P w b l) (hQ : ∀ k, k < w.heap.size -> Q k -> P k) : Nm Q w b l := by
 obtain ⟨⟨v, h1, h2, h3⟩, h4⟩ := h
 refine ⟨⟨v, h1, h2, fun k hk => ⟨fun hq => (h3 k hk).1 (hQ k (World.ownsRow.lt h2 k hk).2 hq), (h3 k hk).2⟩⟩, fun hq => h4 (hQ b (lt_of_block h1) hq)⟩

def namer (b : Nat) : Value := .func (.func 78) #[] #[.pointer (some ⟨b, 0, none⟩)]

theorem naming_any (w : World) : Calls Try.prog 70 #[] w fun e w' => e = .returned (namer w.heap.size) /\ Fr (fun _ => False) w w' /\ Nm (fun k => k < w.heap.size) w' w.heap.size [] := by
 go_enter Try.func70, Try.ntmps70
 go_wp2
 go_ret
 exact ⟨rfl, (Fr.refl _ _).alloc _, ⟨_, heap_alloc_new w _, World.ownsRow_nil _ 0 9 1, by intro k hk; cases hk⟩, fun h => Nat.lt_irrefl _ h⟩

def nameE (l : List Txt) (s : Txt) : Nat := if !named s then 8 else if l.any (fun d => d = s) then 9 else 0

theorem name_next (P : Nat -> Prop) (b : Nat) (l : List Txt) (s : Txt) (w : World) (h : Nm P w b l) (hP : ∀ k, P k -> k < w.heap.size) (hl : l.length <= 1000000) (hs : s.length <= maxLen) :
  Calls Try.prog 78 #[sv s, .pointer (some ⟨b, 0, none⟩)] w fun e w' => e = .returned (.int .i64 (nameE l s)) /\ Fr (fun k => ¬ P k) w w' /\ (nameE l s = 0 -> Nm P w' b (l ++ [s])) := by
 obtain ⟨⟨v, h1, h2, h3⟩, h4⟩ := h
 have hc := cell_of_one h1
 have hf := free_of_one h1
 have hb := lt_of_block h1
 have H1 := hid h1
 have H2 := hid h2
 have H3 := hid h3
 have H4 := hid h4
 have HP := hid hP
 clear h1 h2 h3 h4 hP
 have hn : ∀ w, Calls Try.prog 68 #[.string ⟨s.toArray⟩] w fun e w' => e = .returned (.bool (named s)) /\ w = w' := fun w => named_any ⟨s.toArray⟩ w hs
 have hk : ∀ w0, SeesL w0 v (l.map sv) -> Calls Try.prog 79 #[v, .string ⟨s.toArray⟩] w0 fun e w' => e = .returned (.bool (l.any fun d => d = s)) /\ w0 = w' := fun w0 h => contains_any l s v w0 h (by unfold maxLen; omega)
 unfold sv
 by_cases hm : named s = true
 ·have HM := hid hm
  clear hm
  by_cases ha : (l.any fun d => d = s) = true
  ·have HA := hid ha
   clear ha
   go_enter Try.func78, Try.ntmps78
   go_wp2_with fail
   refine (hn _).mono ?_
   rintro e w' ⟨rfl, rfl⟩
   rw [HM.out]
   go_wp2_with fail
   refine (hk _ (seesL_own H2.out)).mono ?_
   rintro e w' ⟨rfl, rfl⟩
   rw [HA.out]
   go_wp2
   go_ret
   have e1 : nameE l s = 9 := by rw [nameE, HM.out, HA.out]; rfl
   refine ⟨by rw [e1]; rfl, Fr.refl _ _, fun h0 => by rw [e1] at h0; cases h0⟩
  ·have ha' : (l.any fun d => d = s) = false := eq_false_of_ne_true ha
   have HA := hid ha'
   clear ha ha'
   have e1 : nameE l s = 0 := by rw [nameE, HM.out, HA.out]; rfl
   have E1 := hid e1
   clear e1
   obtain ⟨i0, hi, hz0, hz1, hz2⟩ := info_parts Try.infoStr
   go_enter Try.func78, Try.ntmps78
   go_wp2_with fail
   refine (hn _).mono ?_
   rintro e w' ⟨rfl, rfl⟩
   rw [HM.out]
   go_wp2_with fail
   refine (hk _ (seesL_own H2.out)).mono ?_
   rintro e w' ⟨rfl, rfl⟩
   rw [HA.out]
   go_wp2_with (at_builtin; refine wpList_append_sep rfl (.tmp 10) (.tmp 12) 33 33 rfl 0 9 i0 (.string ⟨#[]⟩) 1 16 Try.underlying33 _ Try.underlying33 (.inr ⟨_, rfl⟩) hi hz0 hz1 hz2 rfl (by decide) v l.length (l.map sv) rfl ?own _ 1 [sv s] rfl (lenOf_slice _ _ _) rfl ?c1 ?c2 ?one ?b1 ?b2 (Nat.zero_le _) ?grow)
   case own => exact World.ownsRow.alloc H2.out _
   case c1 => exact first_row (heap_alloc_new _ _) 1 1 rfl
   case c2 => exact first_row (by exact heap_alloc_new _ _) 1 1 rfl
   case one => intro u hu; simp at hu; subst hu; rfl
   case b1 => unfold maxLen; omega
   case b2 => omega
   case grow =>
    intro v' w1 hown hg hv
    obtain ⟨a, c, rfl⟩ := slice_of_own hown
    have hk1 : w1.heap[b]? = some (.cells #[v] 33 (0, 0)) := by
     rw [hg.block b (by show b < (w.heap.push _).size; simp; omega) (fun e => (H3.out b e.symm).2 rfl), Below.heap_alloc _ _ _ hb]; exact H1.out
    have hc1 := cell_of_one hk1
    have hf1 := free_of_one hk1
    clear hc hf
    have Hk := hid hk1; clear hk1
    have Hv := hid hv; clear hv
    have Hg := hid hg; clear hg
    have Ho := hid hown; clear hown
    go_wp2
    go_ret
    have hblk : ∀ k, (Value.slice a (l.length + 1) c).ownBlock = some k -> ¬ P k /\ k ≠ b := by
     intro k hk'
     rcases Hv.out with e | e
     ·exact H3.out k (e ▸ hk')
     ·rw [e] at hk'
      simp at hk'
      exact ⟨fun hp => by have := HP.out k hp; omega, by omega⟩
    have hfr : Fr (fun k => ¬ P k) w w1 := ((Fr.refl _ _).alloc _).trans (Fr.of_grown Hg.out) (fun i _ e => (H3.out i e.symm).1)
    refine ⟨by rw [E1.out]; rfl, hfr.setCell (fun _ => H4.out) _, fun _ => ⟨⟨_, one_setCell Hk.out, ?_, hblk⟩, H4.out⟩⟩
    have := ownsRow_setCell_other Ho.out (a := ⟨b, 0, none⟩) (fun e => (hblk b e).2 rfl) (.slice a (l.length + 1) c)
    rw [List.length_append, List.map_append]
    exact this
 ·have hm' : named s = false := by simpa using hm
  have HM := hid hm'
  clear hm hm'
  go_enter Try.func78, Try.ntmps78
  go_wp2_with fail
  refine (hn _).mono ?_
  rintro e w' ⟨rfl, rfl⟩
  rw [HM.out]
  go_wp2
  go_ret
  have e1 : nameE l s = 8 := by rw [nameE, HM.out]; rfl
  refine ⟨by rw [e1]; rfl, Fr.refl _ _, fun h0 => by rw [e1] at h0; cases h0⟩
end
section
inductive KT where
 | nil
 | mk (k : Nat) (m : Int) (ns : List Txt) (n : Nat) (of : Nat -> KT)

def Texts (R : Nat -> Prop) (w : World) (l : List Txt) (v : Value) : Prop :=
 l.length <= 1000 /\ (∀ s ∈ l, s.length <= 1000) /\
 (
  (l = [] /\ ∃ a c, v = .slice a 0 c) \/
  ∃ g off cap, R g /\ v = .slice (some ⟨g, off, none⟩) l.length cap /\ l.length <= cap /\ ∀ j s, l[j]? = some s -> w.cell? ⟨g, off + j, none⟩ = some (sv s))

def Shows (R : Nat -> Prop) (w : World) : KT -> Value -> Prop
 | .nil, _ => False
 | .mk k m ns n of, v => ∃ vn vo, v = .agg #[.int .u8 k, .int .i64 m, vn, vo] /\ k <= 255 /\ n <= 1000 /\ Texts R w ns vn /\
  (
   (n = 0 /\ ∃ a c, vo = .slice a 0 c) \/
   ∃ g off cap, R g /\ vo = .slice (some ⟨g, off, none⟩) n cap /\ n <= cap /\ ∀ i, i < n -> ∃ x0 x1 x2 x3,
   w.cell? ⟨g, off + i * 4, none⟩ = some x0 /\ w.cell? ⟨g, off + i * 4 + 1, none⟩ = some x1 /\ w.cell? ⟨g, off + i * 4 + 2, none⟩ = some x2 /\ w.cell? ⟨g, off + i * 4 + 3, none⟩ = some x3 /\
   Shows R w (of i) (.agg #[x0, x1, x2, x3]))

def Aliases (R : Nat -> Prop) (w : World) (l : List (Txt × KT)) (v : Value) : Prop :=
 l.length <= 1000 /\ (∀ x ∈ l, x.1.length <= 1000) /\
 (
  (l = [] /\ ∃ a c, v = .slice a 0 c) \/
  ∃ g off cap, R g /\ v = .slice (some ⟨g, off, none⟩) l.length cap /\ l.length <= cap /\ ∀ i x, l[i]? = some x -> ∃ x0 x1 x2 x3,
  w.cell? ⟨g, off + i * 5, none⟩ = some (sv x.1) /\ w.cell? ⟨g, off + i * 5 + 1, none⟩ = some x0 /\ w.cell? ⟨g, off + i * 5 + 2, none⟩ = some x1 /\ w.cell? ⟨g, off + i * 5 + 3, none⟩ = some x2 /\ w.cell? ⟨g, off + i * 5 + 4, none⟩ = some x3 /\
  Shows R w x.2 (.agg #[x0, x1, x2, x3]))

theorem cell_fr {R S : Nat -> Prop} {w w' : World} (hf : Fr S w w') (hS : ∀ k, R k -> ¬ S k) {g o : Nat} {u : Value} (hR : R g) (h : w.cell? ⟨g, o, none⟩ = some u) : w'.cell? ⟨g, o, none⟩ = some u := by
 rw [<- h]; exact hf.cell (World.block_lt_of_cell? w _ h) (hS g hR)

theorem Texts.fr {R S : Nat -> Prop} {w w' : World} {l : List Txt} {v : Value} (h : Texts R w l v) (hf : Fr S w w') (hS : ∀ k, R k -> ¬ S k) : Texts R w' l v := by
 obtain ⟨h1, h2, h3 | ⟨g, off, cap, hg, rfl, hle, hc⟩⟩ := h
 ·exact ⟨h1, h2, .inl h3⟩
 ·exact ⟨h1, h2, .inr ⟨g, off, cap, hg, rfl, hle, fun j s hj => cell_fr hf hS hg (hc j s hj)⟩⟩

theorem Texts.mono {R S : Nat -> Prop} {w : World} {l : List Txt} {v : Value} (h : Texts R w l v) (hS : ∀ k, k < w.heap.size -> R k -> S k) : Texts S w l v := by
 obtain ⟨h1, h2, h3 | ⟨g, off, cap, hg, rfl, hle, hc⟩⟩ := h
 ·exact ⟨h1, h2, .inl h3⟩
 ·cases l with
  | nil => exact ⟨h1, h2, .inl ⟨rfl, _, _, rfl⟩⟩
  | cons x l => exact ⟨h1, h2, .inr ⟨g, off, cap, hS g (World.block_lt_of_cell? w _ (hc 0 x rfl)) hg, rfl, hle, hc⟩⟩

theorem Texts.seesL {R : Nat -> Prop} {w : World} {l : List Txt} {v : Value} (h : Texts R w l v) : SeesL w v (l.map sv) := by
 obtain ⟨h1, h2, ⟨rfl, a, c, rfl⟩ | ⟨g, off, cap, hg, rfl, hle, hc⟩⟩ := h
 ·exact .inl ⟨rfl, a, c, rfl⟩
 ·refine .inr ⟨g, off, cap, by simp, by simpa using hle, fun j u hj => ?_⟩
  rw [List.getElem?_map] at hj
  cases hx : l[j]? with
  | none => rw [hx] at hj; cases hj
  | some x => rw [hx] at hj; cases hj; exact hc j x hx

theorem Shows.fr {R S : Nat -> Prop} {w w' : World} (hf : Fr S w w') (hS : ∀ k, R k -> ¬ S k) (t : KT) : ∀ v, Shows R w t v -> Shows R w' t v := by
 induction t with
 | nil => exact fun _ h => h.elim
 | mk k m ns n of ih =>
  rintro v ⟨vn, vo, rfl, hk, hn, ht, ho⟩
  refine ⟨vn, vo, rfl, hk, hn, ht.fr hf hS, ?_⟩
  rcases ho with h | ⟨g, off, cap, hg, rfl, hle, hc⟩
  ·exact .inl h
  ·refine .inr ⟨g, off, cap, hg, rfl, hle, fun i hi => ?_⟩
   obtain ⟨x0, x1, x2, x3, c0, c1, c2, c3, hx⟩ := hc i hi
   exact ⟨x0, x1, x2, x3, cell_fr hf hS hg c0, cell_fr hf hS hg c1, cell_fr hf hS hg c2, cell_fr hf hS hg c3, ih i _ hx⟩

theorem Shows.mono {R S : Nat -> Prop} {w : World} (hS : ∀ k, k < w.heap.size -> R k -> S k) (t : KT) : ∀ v, Shows R w t v -> Shows S w t v := by
 induction t with
 | nil => exact fun _ h => h.elim
 | mk k m ns n of ih =>
  rintro v ⟨vn, vo, rfl, hk, hn, ht, ho⟩
  refine ⟨vn, vo, rfl, hk, hn, ht.mono hS, ?_⟩
  rcases ho with h | ⟨g, off, cap, hg, rfl, hle, hc⟩
  ·exact .inl h
  ·cases n with
   | zero => exact .inl ⟨rfl, _, _, rfl⟩
   | succ n =>
    refine .inr ⟨g, off, cap, ?_, rfl, hle, fun i hi => ?_⟩
    ·obtain ⟨x0, x1, x2, x3, c0, _⟩ := hc 0 (by omega)
     exact hS g (World.block_lt_of_cell? w _ c0) hg
    ·obtain ⟨x0, x1, x2, x3, c0, c1, c2, c3, hx⟩ := hc i hi
     exact ⟨x0, x1, x2, x3, c0, c1, c2, c3, ih i _ hx⟩

theorem Aliases.fr {R S : Nat -> Prop} {w w' : World} {l : List (Txt × KT)} {v : Value} (h : Aliases R w l v) (hf : Fr S w w') (hS : ∀ k, R k -> ¬ S k) : Aliases R w' l v := by
 obtain ⟨h1, h2, h3 | ⟨g, off, cap, hg, rfl, hle, hc⟩⟩ := h
 ·exact ⟨h1, h2, .inl h3⟩
 ·refine ⟨h1, h2, .inr ⟨g, off, cap, hg, rfl, hle, fun i x hi => ?_⟩⟩
  obtain ⟨x0, x1, x2, x3, c, c0, c1, c2, c3, hx⟩ := hc i x hi
  exact ⟨x0, x1, x2, x3, cell_fr hf hS hg c, cell_fr hf hS hg c0, cell_fr hf hS hg c1, cell_fr hf hS hg c2, cell_fr hf hS hg c3, Shows.fr hf hS _ _ hx⟩

theorem Aliases.mono {R S : Nat -> Prop} {w : World} {l : List (Txt × KT)} {v : Value} (h : Aliases R w l v) (hS : ∀ k, k < w.heap.size -> R k -> S k) : Aliases S w l v := by
 obtain ⟨h1, h2, h3 | ⟨g, off, cap, hg, rfl, hle, hc⟩⟩ := h
 ·exact ⟨h1, h2, .inl h3⟩
 ·cases l with
  | nil => exact ⟨h1, h2, .inl ⟨rfl, _, _, rfl⟩⟩
  | cons x l =>
   refine ⟨h1, h2, .inr ⟨g, off, cap, ?_, rfl, hle, fun i y hi => ?_⟩⟩
   ·obtain ⟨x0, x1, x2, x3, c, _⟩ := hc 0 x rfl
    exact hS g (World.block_lt_of_cell? w _ c) hg
   ·obtain ⟨x0, x1, x2, x3, c, c0, c1, c2, c3, hx⟩ := hc i y hi
    exact ⟨x0, x1, x2, x3, c, c0, c1, c2, c3, Shows.mono hS _ _ hx⟩

theorem Texts.shape {R : Nat -> Prop} {w : World} {l : List Txt} {v : Value} (h : Texts R w l v) : ∃ a c, v = .slice a l.length c /\ (l.length = 0 \/ l.length <= c /\ ∃ g off, R g /\ a = some ⟨g, off, none⟩ /\ ∀ j s, l[j]? = some s -> w.cell? ⟨g, off + j, none⟩ = some (sv s)) := by
 obtain ⟨h1, h2, ⟨rfl, a, c, rfl⟩ | ⟨g, off, cap, hg, rfl, hle, hc⟩⟩ := h
 ·exact ⟨a, c, rfl, .inl rfl⟩
 ·exact ⟨_, cap, rfl, .inr ⟨hle, g, off, hg, rfl, hc⟩⟩

theorem Aliases.shape {R : Nat -> Prop} {w : World} {l : List (Txt × KT)} {v : Value} (h : Aliases R w l v) : ∃ a c, v = .slice a l.length c /\ (l.length = 0 \/ l.length <= c /\ ∃ g off, R g /\ a = some ⟨g, off, none⟩ /\ ∀ i x, l[i]? = some x -> ∃ x0 x1 x2 x3,
  w.cell? ⟨g, off + i * 5, none⟩ = some (sv x.1) /\ w.cell? ⟨g, off + i * 5 + 1, none⟩ = some x0 /\ w.cell? ⟨g, off + i * 5 + 2, none⟩ = some x1 /\ w.cell? ⟨g, off + i * 5 + 3, none⟩ = some x2 /\ w.cell? ⟨g, off + i * 5 + 4, none⟩ = some x3 /\
  Shows R w x.2 (.agg #[x0, x1, x2, x3])) := by
 obtain ⟨h1, h2, ⟨rfl, a, c, rfl⟩ | ⟨g, off, cap, hg, rfl, hle, hc⟩⟩ := h
 ·exact ⟨a, c, rfl, .inl rfl⟩
 ·exact ⟨_, cap, rfl, .inr ⟨hle, g, off, hg, rfl, hc⟩⟩

theorem Shows.cells {R : Nat -> Prop} {w : World} {t : KT} {x0 x1 x2 x3 : Value} (h : Shows R w t (.agg #[x0, x1, x2, x3])) :
  ∃ (k : Nat) (m : Int) (a : Option Addr) (n c : Nat) (a' : Option Addr) (n' c' : Nat), x0 = .int .u8 k /\ x1 = .int .i64 m /\ x2 = .slice a n c /\ x3 = .slice a' n' c' := by
 cases t with
 | nil => exact h.elim
 | mk k m ns n of =>
  obtain ⟨vn, vo, e, _, _, ht, ho⟩ := h
  simp at e
  obtain ⟨rfl, rfl, rfl, rfl⟩ := e
  obtain ⟨a, c, rfl, _⟩ := ht.shape
  rcases ho with ⟨_, a', c', rfl⟩ | ⟨g, off, cap, _, rfl, _⟩
  ·exact ⟨k, m, a, _, c, a', _, c', rfl, rfl, rfl, rfl⟩
  ·exact ⟨k, m, a, _, c, _, _, cap, rfl, rfl, rfl, rfl⟩

theorem Shows.four {R : Nat -> Prop} {w : World} {t : KT} {v : Value} (h : Shows R w t v) :
  ∃ (k : Nat) (m : Int) (a : Option Addr) (n c : Nat) (a' : Option Addr) (n' c' : Nat), v = .agg #[.int .u8 k, .int .i64 m, .slice a n c, .slice a' n' c'] := by
 obtain ⟨x0, x1, x2, x3, rfl⟩ : ∃ x0 x1 x2 x3, v = .agg #[x0, x1, x2, x3] := by
  cases t with
  | nil => exact h.elim
  | mk k m ns n of =>
   obtain ⟨vn, vo, e, _⟩ := h
   exact ⟨_, _, _, _, e⟩
 obtain ⟨k, m, a, n, c, a', n', c', rfl, rfl, rfl, rfl⟩ := h.cells
 exact ⟨k, m, a, n, c, a', n', c', rfl⟩

theorem Aliases.take {R : Nat -> Prop} {w : World} {l : List (Txt × KT)} {a : Option Addr} {n c : Nat} (h : Aliases R w l (.slice a n c)) (i : Nat) (hi : i <= l.length) : Aliases R w (l.take i) (.slice a i c) := by
 obtain ⟨h1, h2, h3⟩ := h
 refine ⟨by rw [List.length_take]; omega, fun x hx => h2 x (List.mem_of_mem_take hx), ?_⟩
 rcases h3 with ⟨rfl, a', c', e⟩ | ⟨g, off, cap, hg, e, hle, hc⟩
 ·cases e
  simp at hi
  subst hi
  exact .inl ⟨rfl, _, _, rfl⟩
 ·cases e
  have e1 : (l.take i).length = i := by rw [List.length_take]; omega
  refine .inr ⟨g, off, _, hg, by rw [e1], by omega, fun j x hj => hc j x ?_⟩
  rw [List.getElem?_take] at hj
  split at hj
  ·exact hj
  ·cases hj

def sizedB (k : Nat) (m : Int) : Bool := if k = 4 \/ k = 5 then decide (1 <= m /\ m <= 60) else decide (m = 0)

def formedB (k nn n : Nat) : Bool :=
 if k = 5 then decide (nn = 0 /\ n = 1) else if k = 6 \/ k = 8 then decide (n = nn) else if k = 7 then decide (n = 0) else if k = 9 then decide (nn = 1 /\ n = 0) else decide (nn = 0 /\ n = 0)

def namesE (bef : List Txt) : List Txt -> Nat
 | [] => 0
 | s :: r => if nameE bef s = 0 then namesE (bef ++ [s]) r else nameE bef s

def checkNamesE (ns : List Txt) : Nat := if ns.length < 1 \/ 12 < ns.length then 7 else namesE [] ns

def firstE (f : Nat -> Nat) : Nat -> Nat
 | 0 => 0
 | n + 1 => if firstE f n = 0 then f n else firstE f n

theorem firstE_stop (f : Nat -> Nat) (n k : Nat) (hk : k < n) (h0 : firstE f k = 0) (h : f k ≠ 0) : firstE f n = f k := by
 induction n with
 | zero => omega
 | succ n ih =>
  unfold firstE
  by_cases e : k = n
  ·subst e; rw [if_pos h0]
  ·have := ih (by omega)
   rw [if_neg (by rw [this]; exact h)]
   exact this

theorem firstE_step (f : Nat -> Nat) (k : Nat) (h0 : firstE f k = 0) (h : f k = 0) : firstE f (k + 1) = 0 := by
 unfold firstE; rw [if_pos h0]; exact h

def standsN (known : List (Txt × KT)) (ns : List Txt) : Int := match ns with
 | [s] => firstAt (fun x => decide (x.1 = s)) known
 | _ => -1

def rightE (known : List (Txt × KT)) : KT -> Nat -> Nat
 | .nil, _ => 0
 | .mk k m ns n of, lv =>
  if 10 <= k \/ lv = 0 then 5
  else if !sizedB k m then 2
  else if !formedB k ns.length n then 4
  else
   let e := if k = 6 \/ k = 7 \/ k = 8 then checkNamesE ns else if k = 9 then (if standsN known ns < 0 then 10 else 0) else 0
   if e = 0 then firstE (fun i => rightE known (of i) (lv - 1)) n else e
end
section
structure WR where
 e : Nat
 t : KT
 left : Nat

structure WP where
 e : Nat
 ts : List KT
 left : Nat

def zeroT : KT := .mk 0 0 [] 0 (fun _ => .nil)

def wholeAll (f : Nat -> Nat -> WR) : Nat -> Nat -> WP
 | 0, l => ⟨0, [], l⟩
 | n + 1, l =>
  let r := wholeAll f n l
  if r.e = 0 then (let q := f n r.left; if q.e = 0 then ⟨0, r.ts ++ [q.t], q.left⟩ else ⟨q.e, [], q.left⟩) else r

def wholeE : Nat -> List (Txt × KT) -> KT -> Nat -> WR
 | 0, _, _, l => ⟨5, zeroT, l⟩
 | lv + 1, al, t, l => match t with
  | .nil => ⟨0, .nil, l⟩
  | .mk k m ns n of =>
   if k = 9 then
    if standsN al ns < 0 then ⟨10, zeroT, l⟩
    else wholeE lv (al.take (standsN al ns).toNat) (al.getD (standsN al ns).toNat ([], .nil)).2 l
   else if l = 0 then ⟨6, zeroT, l⟩
   else
    let r := wholeAll (fun i l => wholeE lv al (of i) l) n (l - 1)
    if r.e = 0 then ⟨0, .mk k m ns n (fun i => r.ts.getD i .nil), r.left⟩ else ⟨r.e, zeroT, r.left⟩

theorem wholeAll_stop (f : Nat -> Nat -> WR) (n k l : Nat) (hk : k < n) (h0 : (wholeAll f k l).e = 0) (h : (f k (wholeAll f k l).left).e ≠ 0) : wholeAll f n l = ⟨(f k (wholeAll f k l).left).e, [], (f k (wholeAll f k l).left).left⟩ := by
 induction n with
 | zero => omega
 | succ n ih =>
  by_cases e : k = n
  ·subst e
   simp only [wholeAll, h0, if_true, if_neg h]
  ·have := ih (by omega)
   simp only [wholeAll]
   rw [this]
   exact if_neg h

theorem wholeAll_step (f : Nat -> Nat -> WR) (k l : Nat) (h0 : (wholeAll f k l).e = 0) (h : (f k (wholeAll f k l).left).e = 0) : wholeAll f (k + 1) l = ⟨0, (wholeAll f k l).ts ++ [(f k (wholeAll f k l).left).t], (f k (wholeAll f k l).left).left⟩ := by
 simp only [wholeAll, h0, if_true, h]

theorem standsN_lt {al : List (Txt × KT)} {ns : List Txt} (h : ¬ standsN al ns < 0) : (standsN al ns).toNat < al.length /\ ((standsN al ns).toNat : Int) = standsN al ns := by
 refine ⟨?_, by omega⟩
 unfold standsN firstAt at *
 split at h
 ·split at h
  ·rename_i s h1
   rw [if_pos h1]
   have := List.findIdx_lt_length_of_exists (p := fun x : Txt × KT => decide (x.1 = s)) (xs := al) (by
    obtain ⟨x, hx, hp⟩ := List.any_eq_true.1 h1
    exact ⟨x, hx, hp⟩)
   simpa using this
  ·omega
 ·omega
end
section
structure KProc where
 name : Txt
 number : Int
 takes : KT
 answers : KT
 collate : Nat
 timeout : Int

structure KTab where
 name : Txt
 number : Int
 version : Int
 types : List (Txt × KT)
 faults : List (Txt × Int)
 procs : List KProc

def Faults (R : Nat -> Prop) (w : World) (l : List (Txt × Int)) (v : Value) : Prop :=
 l.length <= 1000 /\ (∀ x ∈ l, x.1.length <= 1000) /\
 (
  (l = [] /\ ∃ a c, v = .slice a 0 c) \/
  ∃ g off cap, R g /\ v = .slice (some ⟨g, off, none⟩) l.length cap /\ l.length <= cap /\ ∀ i x, l[i]? = some x ->
  w.cell? ⟨g, off + i * 2, none⟩ = some (sv x.1) /\ w.cell? ⟨g, off + i * 2 + 1, none⟩ = some (.int .i64 x.2))

def procCells (p : KProc) (x0 x1 x2 x3 y0 y1 y2 y3 : Value) : List Value := [sv p.name, .int .i64 p.number, x0, x1, x2, x3, y0, y1, y2, y3, .int .u8 p.collate, .int .i64 p.timeout]

def Procs (R : Nat -> Prop) (w : World) (l : List KProc) (v : Value) : Prop :=
 l.length <= 1000 /\ (∀ p ∈ l, p.name.length <= 1000 /\ p.collate <= 255) /\
 (
  (l = [] /\ ∃ a c, v = .slice a 0 c) \/
  ∃ g off cap, R g /\ v = .slice (some ⟨g, off, none⟩) l.length cap /\ l.length <= cap /\ ∀ i p, l[i]? = some p -> ∃ x0 x1 x2 x3 y0 y1 y2 y3,
  (∀ j u, (procCells p x0 x1 x2 x3 y0 y1 y2 y3)[j]? = some u -> w.cell? ⟨g, off + i * 12 + j, none⟩ = some u) /\
  Shows R w p.takes (.agg #[x0, x1, x2, x3]) /\ Shows R w p.answers (.agg #[y0, y1, y2, y3]))

def Tabled (R : Nat -> Prop) (w : World) (t : KTab) (v : Value) : Prop :=
 ∃ tv fv pv, v = .agg #[sv t.name, .int .i64 t.number, .int .i64 t.version, tv, fv, pv] /\ t.name.length <= 1000 /\ Aliases R w t.types tv /\ Faults R w t.faults fv /\ Procs R w t.procs pv

theorem Faults.fr {R S : Nat -> Prop} {w w' : World} {l : List (Txt × Int)} {v : Value} (h : Faults R w l v) (hf : Fr S w w') (hS : ∀ k, R k -> ¬ S k) : Faults R w' l v := by
 obtain ⟨h1, h2, h3 | ⟨g, off, cap, hg, rfl, hle, hc⟩⟩ := h
 ·exact ⟨h1, h2, .inl h3⟩
 ·exact ⟨h1, h2, .inr ⟨g, off, cap, hg, rfl, hle, fun i x hi => ⟨cell_fr hf hS hg (hc i x hi).1, cell_fr hf hS hg (hc i x hi).2⟩⟩⟩

theorem Faults.mono {R S : Nat -> Prop} {w : World} {l : List (Txt × Int)} {v : Value} (h : Faults R w l v) (hS : ∀ k, k < w.heap.size -> R k -> S k) : Faults S w l v := by
 obtain ⟨h1, h2, h3 | ⟨g, off, cap, hg, rfl, hle, hc⟩⟩ := h
 ·exact ⟨h1, h2, .inl h3⟩
 ·cases l with
  | nil => exact ⟨h1, h2, .inl ⟨rfl, _, _, rfl⟩⟩
  | cons x l => exact ⟨h1, h2, .inr ⟨g, off, cap, hS g (World.block_lt_of_cell? w _ (hc 0 x rfl).1) hg, rfl, hle, hc⟩⟩

theorem Procs.fr {R S : Nat -> Prop} {w w' : World} {l : List KProc} {v : Value} (h : Procs R w l v) (hf : Fr S w w') (hS : ∀ k, R k -> ¬ S k) : Procs R w' l v := by
 obtain ⟨h1, h2, h3 | ⟨g, off, cap, hg, rfl, hle, hc⟩⟩ := h
 ·exact ⟨h1, h2, .inl h3⟩
 ·refine ⟨h1, h2, .inr ⟨g, off, cap, hg, rfl, hle, fun i p hi => ?_⟩⟩
  obtain ⟨x0, x1, x2, x3, y0, y1, y2, y3, c, hx, hy⟩ := hc i p hi
  exact ⟨x0, x1, x2, x3, y0, y1, y2, y3, fun j u hj => cell_fr hf hS hg (c j u hj), Shows.fr hf hS _ _ hx, Shows.fr hf hS _ _ hy⟩

theorem Procs.mono {R S : Nat -> Prop} {w : World} {l : List KProc} {v : Value} (h : Procs R w l v) (hS : ∀ k, k < w.heap.size -> R k -> S k) : Procs S w l v := by
 obtain ⟨h1, h2, h3 | ⟨g, off, cap, hg, rfl, hle, hc⟩⟩ := h
 ·exact ⟨h1, h2, .inl h3⟩
 ·cases l with
  | nil => exact ⟨h1, h2, .inl ⟨rfl, _, _, rfl⟩⟩
  | cons q l =>
   refine ⟨h1, h2, .inr ⟨g, off, cap, ?_, rfl, hle, fun i p hi => ?_⟩⟩
   ·obtain ⟨x0, x1, x2, x3, y0, y1, y2, y3, c, _⟩ := hc 0 q rfl
    exact hS g (World.block_lt_of_cell? w _ (c 0 _ rfl)) hg
   ·obtain ⟨x0, x1, x2, x3, y0, y1, y2, y3, c, hx, hy⟩ := hc i p hi
    exact ⟨x0, x1, x2, x3, y0, y1, y2, y3, c, Shows.mono hS _ _ hx, Shows.mono hS _ _ hy⟩

theorem Tabled.fr {R S : Nat -> Prop} {w w' : World} {t : KTab} {v : Value} (h : Tabled R w t v) (hf : Fr S w w') (hS : ∀ k, R k -> ¬ S k) : Tabled R w' t v := by
 obtain ⟨tv, fv, pv, e, hn, h1, h2, h3⟩ := h
 exact ⟨tv, fv, pv, e, hn, h1.fr hf hS, h2.fr hf hS, h3.fr hf hS⟩

theorem Tabled.mono {R S : Nat -> Prop} {w : World} {t : KTab} {v : Value} (h : Tabled R w t v) (hS : ∀ k, k < w.heap.size -> R k -> S k) : Tabled S w t v := by
 obtain ⟨tv, fv, pv, e, hn, h1, h2, h3⟩ := h
 exact ⟨tv, fv, pv, e, hn, h1.mono hS, h2.mono hS, h3.mono hS⟩

theorem Faults.shape {R : Nat -> Prop} {w : World} {l : List (Txt × Int)} {v : Value} (h : Faults R w l v) : ∃ a c, v = .slice a l.length c /\ (l.length = 0 \/ l.length <= c /\ ∃ g off, R g /\ a = some ⟨g, off, none⟩ /\ ∀ i x, l[i]? = some x ->
  w.cell? ⟨g, off + i * 2, none⟩ = some (sv x.1) /\ w.cell? ⟨g, off + i * 2 + 1, none⟩ = some (.int .i64 x.2)) := by
 obtain ⟨h1, h2, ⟨rfl, a, c, rfl⟩ | ⟨g, off, cap, hg, rfl, hle, hc⟩⟩ := h
 ·exact ⟨a, c, rfl, .inl rfl⟩
 ·exact ⟨_, cap, rfl, .inr ⟨hle, g, off, hg, rfl, hc⟩⟩

theorem Procs.shape {R : Nat -> Prop} {w : World} {l : List KProc} {v : Value} (h : Procs R w l v) : ∃ a c, v = .slice a l.length c /\ (l.length = 0 \/ l.length <= c /\ ∃ g off, R g /\ a = some ⟨g, off, none⟩ /\ ∀ i p, l[i]? = some p -> ∃ x0 x1 x2 x3 y0 y1 y2 y3,
  (∀ j u, (procCells p x0 x1 x2 x3 y0 y1 y2 y3)[j]? = some u -> w.cell? ⟨g, off + i * 12 + j, none⟩ = some u) /\
  Shows R w p.takes (.agg #[x0, x1, x2, x3]) /\ Shows R w p.answers (.agg #[y0, y1, y2, y3])) := by
 obtain ⟨h1, h2, ⟨rfl, a, c, rfl⟩ | ⟨g, off, cap, hg, rfl, hle, hc⟩⟩ := h
 ·exact ⟨a, c, rfl, .inl rfl⟩
 ·exact ⟨_, cap, rfl, .inr ⟨hle, g, off, hg, rfl, hc⟩⟩

theorem Faults.take {R : Nat -> Prop} {w : World} {l : List (Txt × Int)} {a : Option Addr} {n c : Nat} (h : Faults R w l (.slice a n c)) (i : Nat) (hi : i <= l.length) : Faults R w (l.take i) (.slice a i c) := by
 obtain ⟨h1, h2, h3⟩ := h
 refine ⟨by rw [List.length_take]; omega, fun x hx => h2 x (List.mem_of_mem_take hx), ?_⟩
 rcases h3 with ⟨rfl, a', c', e⟩ | ⟨g, off, cap, hg, e, hle, hc⟩
 ·cases e
  simp at hi
  subst hi
  exact .inl ⟨rfl, _, _, rfl⟩
 ·cases e
  have e1 : (l.take i).length = i := by rw [List.length_take]; omega
  refine .inr ⟨g, off, _, hg, by rw [e1], by omega, fun j x hj => hc j x ?_⟩
  rw [List.getElem?_take] at hj
  split at hj
  ·exact hj
  ·cases hj

theorem Procs.take {R : Nat -> Prop} {w : World} {l : List KProc} {a : Option Addr} {n c : Nat} (h : Procs R w l (.slice a n c)) (i : Nat) (hi : i <= l.length) : Procs R w (l.take i) (.slice a i c) := by
 obtain ⟨h1, h2, h3⟩ := h
 refine ⟨by rw [List.length_take]; omega, fun x hx => h2 x (List.mem_of_mem_take hx), ?_⟩
 rcases h3 with ⟨rfl, a', c', e⟩ | ⟨g, off, cap, hg, e, hle, hc⟩
 ·cases e
  simp at hi
  subst hi
  exact .inl ⟨rfl, _, _, rfl⟩
 ·cases e
  have e1 : (l.take i).length = i := by rw [List.length_take]; omega
  refine .inr ⟨g, off, _, hg, by rw [e1], by omega, fun j x hj => hc j x ?_⟩
  rw [List.getElem?_take] at hj
  split at hj
  ·exact hj
  ·cases hj

def validN (n : Int) : Bool := decide (0 <= n /\ n <= 65535)

def noProc : KProc := ⟨[], 0, .nil, .nil, 0, 0⟩

def aliasE (ts : List (Txt × KT)) (i : Nat) : Nat :=
 if nameE ((ts.take i).map (·.1)) (ts.getD i ([], .nil)).1 = 0 then rightE (ts.take i) (ts.getD i ([], .nil)).2 5 else nameE ((ts.take i).map (·.1)) (ts.getD i ([], .nil)).1

def faultE (bef : List Txt) (fs : List (Txt × Int)) (i : Nat) : Nat :=
 if nameE (bef ++ (fs.take i).map (·.1)) (fs.getD i ([], 0)).1 = 0 then
  if !validN (fs.getD i ([], 0)).2 then 2 else if (fs.take i).any (fun g => decide (g.2 = (fs.getD i ([], 0)).2)) then 9 else 0
 else nameE (bef ++ (fs.take i).map (·.1)) (fs.getD i ([], 0)).1

def usedE (ts : List (Txt × KT)) (x : KT) : Nat := if rightE ts x 5 = 0 then (wholeE 20 ts x 200).e else rightE ts x 5

def procE1 (ts : List (Txt × KT)) (ps : List KProc) (p : KProc) : Nat :=
 if !validN p.number || decide (p.timeout < 1) || decide (1000 < p.timeout) || decide (3 <= p.collate) then 2
 else if ps.any (fun q => decide (q.number = p.number)) then 9
 else if usedE ts p.takes = 0 then usedE ts p.answers else usedE ts p.takes

def procE (bef : List Txt) (ts : List (Txt × KT)) (ps : List KProc) (i : Nat) : Nat :=
 if nameE (bef ++ (ps.take i).map (·.name)) (ps.getD i noProc).name = 0 then procE1 ts (ps.take i) (ps.getD i noProc)
 else nameE (bef ++ (ps.take i).map (·.name)) (ps.getD i noProc).name

def checkE (t : KTab) : Nat :=
 if !named t.name then 8
 else if !validN t.number || !validN t.version then 2
 else if 16 < t.types.length \/ 16 < t.faults.length \/ 16 < t.procs.length then 7
 else if firstE (aliasE t.types) t.types.length ≠ 0 then firstE (aliasE t.types) t.types.length
 else if firstE (faultE (t.types.map (·.1)) t.faults) t.faults.length ≠ 0 then firstE (faultE (t.types.map (·.1)) t.faults) t.faults.length
 else firstE (procE (t.types.map (·.1) ++ t.faults.map (·.1)) t.types t.procs) t.procs.length
end
section
theorem k10 {k : Nat} (h : k < 10) : k = 0 \/ k = 1 \/ k = 2 \/ k = 3 \/ k = 4 \/ k = 5 \/ k = 6 \/ k = 7 \/ k = 8 \/ k = 9 := by omega

theorem sized_any (k : Nat) (m : Int) (hk : k < 10) (vn vo : Value) (w : World) :
  Calls Try.prog 87 #[.agg #[.int .u8 k, .int .i64 m, vn, vo]] w fun e w' => e = .returned (.bool (sizedB k m)) /\ Fr (fun _ => False) w w' := by
 rcases k10 hk with rfl | rfl | rfl | rfl | rfl | rfl | rfl | rfl | rfl | rfl <;>
  (
   go_enter Try.func87, Try.ntmps87
   go_wp2
   all_goals go_ret
   all_goals refine ⟨ret_bool ?_, (Fr.refl _ _).alloc _⟩
   all_goals (rw [Bool.eq_iff_iff]; simp_all [sizedB]; try omega))

theorem formed_any (k nn n : Nat) (m : Int) (hk : k < 10) (a a' : Option Addr) (c c' : Nat) (w : World) :
  Calls Try.prog 88 #[.agg #[.int .u8 k, .int .i64 m, .slice a nn c, .slice a' n c']] w fun e w' => e = .returned (.bool (formedB k nn n)) /\ Fr (fun _ => False) w w' := by
 rcases k10 hk with rfl | rfl | rfl | rfl | rfl | rfl | rfl | rfl | rfl | rfl <;>
  (
   go_enter Try.func88, Try.ntmps88
   go_wp2
   all_goals go_ret
   all_goals refine ⟨ret_bool ?_, (Fr.refl _ _).alloc _⟩
   all_goals (rw [Bool.eq_iff_iff]; simp_all [formedB]; try omega))

theorem namesE_step (bef : List Txt) (s : Txt) (r : List Txt) (h : nameE bef s = 0) : namesE bef (s :: r) = namesE (bef ++ [s]) r := by
 rw [namesE, if_pos h]

theorem namesE_stop (bef : List Txt) (s : Txt) (r : List Txt) (h : nameE bef s ≠ 0) : namesE bef (s :: r) = nameE bef s := by
 rw [namesE, if_neg h]

theorem ret_nat {a b : Nat} (h : a = b) : Ending.returned (.int .i64 (a : Int)) = .returned (.int .i64 (b : Int)) := by rw [h]

theorem checkNames_any (R : Nat -> Prop) (ns : List Txt) (v : Value) (w : World) (h : Texts R w ns v) :
  Calls Try.prog 89 #[v] w fun e w' => e = .returned (.int .i64 (checkNamesE ns)) /\ Fr (fun _ => False) w w' := by
 have hl := hid h.1
 have hs := hid h.2.1
 obtain ⟨a, c, rfl, hc⟩ := h.shape
 have hl0 : ns.length <= 1000 := hl.out
 by_cases h1 : ns.length < 1
 ·have h1' : (ns.length : Int) < 1 := by omega
  go_enter Try.func89, Try.ntmps89
  go_wp2
  go_ret
  exact ⟨ret_nat (a := 7) (by unfold checkNamesE; rw [if_pos (.inl h1)]), Fr.refl _ _⟩
 have h1' : ¬ (ns.length : Int) < 1 := by omega
 by_cases h2 : 12 < ns.length
 ·have h2' : 12 < (ns.length : Int) := by omega
  go_enter Try.func89, Try.ntmps89
  go_wp2
  go_ret
  exact ⟨ret_nat (a := 7) (by unfold checkNamesE; rw [if_pos (.inr h2)]), Fr.refl _ _⟩
 have h2' : ¬ 12 < (ns.length : Int) := by omega
 have hce : checkNamesE ns = namesE [] ns := by unfold checkNamesE; rw [if_neg (by omega)]
 have HCE := hid hce
 clear hce
 rcases hc with hc | ⟨hcap, g, off, hg, rfl, hcell⟩
 ·omega
 have Hcell := hid hcell
 have H := hid h
 clear hcell h
 go_enter Try.func89, Try.ntmps89
 go_wp2_with fail
 refine (naming_any _).mono ?_
 rintro e w1 ⟨rfl, f1, N1⟩
 unfold namer
 go_wp2
 go_loopg [5, 6, 18] ns.length (fun G u5 u6 u18 wr => ∃ k : Nat, k <= ns.length /\ G = ns.length - k /\ u18 = .int .i64 k /\ Hid (Fr (fun _ => False) w wr /\ Nm (fun k => k < w.heap.size) wr w.heap.size (ns.take k) /\ namesE [] ns = namesE (ns.take k) (ns.drop k)))
 case atStart => exact ⟨0, Nat.zero_le _, rfl, by go_num, hid ⟨f1, N1, rfl⟩⟩
 case round =>
  obtain ⟨k, hk, rfl, rfl, HI⟩ := hrel
  by_cases hlt : k < ns.length
  ·obtain ⟨d, hd⟩ : ∃ d, d = ns[k] := ⟨_, rfl⟩
   have hck0 := Hcell.out k d (by rw [List.getElem?_eq_getElem hlt, hd])
   have hck := cell_fr (R := fun k => k < w.heap.size) HI.out.1 fid2 (World.block_lt_of_cell? w _ hck0) hck0
   unfold sv at hck
   clear hck0
   have hdl : d.length <= 1000 := hs.out d (by rw [hd]; exact List.getElem_mem hlt)
   have hdrop : ns.drop k = d :: ns.drop (k + 1) := by rw [hd]; exact List.drop_eq_getElem_cons hlt
   have htake : ns.take (k + 1) = ns.take k ++ [d] := by rw [hd]; exact List.take_succ_eq_append_getElem hlt
   have HT := hid htake
   have HD := hid hdrop
   clear hd hdrop htake
   have hnx := name_next (fun k => k < w.heap.size) w.heap.size (ns.take k) d wr HI.out.2.1 (fun k hk => Nat.lt_of_lt_of_le hk HI.out.1.size) (by rw [List.length_take]; omega) (by unfold maxLen; omega)
   unfold sv at hnx
   obtain ⟨E, hE⟩ : ∃ E, E = nameE (ns.take k) d := ⟨_, rfl⟩
   rw [<- hE] at hnx
   have HE := hid hE
   clear hE
   by_cases he : E = 0
   ·subst he
    go_wp2_with fail
    refine hnx.mono ?_
    rintro e w2 ⟨rfl, f2, N2⟩
    have N2 := hid (N2 (by first | trivial | rfl))
    have f2 := hid f2
    go_wp2
    go_roundg (ns.length - (k + 1))
    case measure => omega
    case rel => exact ⟨k + 1, by omega, rfl, by go_num, hid ⟨HI.out.1.trans f2.out (fun i hi hn => hn hi), by rw [HT.out]; exact N2.out, by rw [HI.out.2.2, HD.out, HT.out, namesE_step _ _ _ HE.out.symm]⟩⟩
   ·have he' : ¬ (E : Int) = 0 := by omega
    go_wp2_with fail
    refine hnx.mono ?_
    rintro e w2 ⟨rfl, f2, _⟩
    have f2 := hid f2
    go_wp2
    go_ret
    refine ⟨ret_nat ?_, HI.out.1.trans f2.out (fun i hi hn => hn hi)⟩
    rw [HCE.out, HI.out.2.2, HD.out, namesE_stop _ _ _ (by rw [<- HE.out]; exact he)]
    exact HE.out
  ·obtain rfl : k = ns.length := by omega
   go_wp2
   go_ret
   refine ⟨ret_nat (a := 0) ?_, HI.out.1⟩
   rw [HCE.out, HI.out.2.2, List.drop_length]
   rfl
end
section
def standsE (known : List (Txt × KT)) : KT -> Int
 | .nil => -1
 | .mk _ _ ns _ _ => standsN known ns

theorem cell_of_four {w : World} {b : Nat} {x0 x1 x2 x3 : Value} {t : TypeId} (h : w.heap[b]? = some (.cells #[x0, x1, x2, x3] t (0, 0))) :
  w.cell? ⟨b, 0, none⟩ = some x0 /\ w.cell? ⟨b, 1, none⟩ = some x1 /\ w.cell? ⟨b, 2, none⟩ = some x2 /\ w.cell? ⟨b, 3, none⟩ = some x3 := by
 simp [World.cell?, h]

theorem Fr.drewN {S : Nat -> Prop} {a b : World} (h : Fr S a b) (n : Nat) : Fr S a (b.drewN n) := ⟨h.os, h.tape, h.output, h.size, h.block⟩

theorem stands_fn (b : Nat) (x0 x1 x3 y0 y1 y2 y3 : Value) (c g off : Nat) (s d : Txt) (w : World) (hb : w.heap[b]? = some (.cells #[x0, x1, .slice (some ⟨g, off, none⟩) 1 c, x3] 36 (0, 0))) (hc : w.cell? ⟨g, off, none⟩ = some (sv s)) :
  Calls Try.prog 95 #[.agg #[sv d, y0, y1, y2, y3], .pointer (some ⟨b, 0, none⟩)] w fun e w' => e = .returned (.bool (decide (d = s))) /\ Fr (fun _ => False) w w' := by
 obtain ⟨_, _, c2, _⟩ := cell_of_four hb
 have hlt := lt_of_block hb
 have hlg := World.block_lt_of_cell? w _ hc
 have hlg' : g < w.heap.size := hlg
 have n1 : b ≠ w.heap.size := by omega
 have n2 : g ≠ w.heap.size := by omega
 clear hb
 unfold sv at *
 have hbs : (d == s) = decide (d = s) := by by_cases h : d = s <;> simp [h]
 go_enter Try.func95, Try.ntmps95
 go_wp2
 go_quiet (fail)
 go_wp2
 go_ret
 exact ⟨rfl, ((Fr.refl _ _).alloc _).drewN _⟩

theorem index_alias (R : Nat -> Prop) (l : List (Txt × KT)) (v : Value) (b : Nat) (x0 x1 x3 : Value) (c g off : Nat) (s : Txt) (w : World) (h : Aliases R w l v) (hb : w.heap[b]? = some (.cells #[x0, x1, .slice (some ⟨g, off, none⟩) 1 c, x3] 36 (0, 0))) (hc : w.cell? ⟨g, off, none⟩ = some (sv s)) :
  Calls Try.prog 94 #[v, .func (.func 95) #[] #[.pointer (some ⟨b, 0, none⟩)]] w fun e w' => e = .returned (.int .i64 (firstAt (fun x => decide (x.1 = s)) l)) /\ Fr (fun _ => False) w w' := by
 have hl0 : l.length <= 1000 := h.1
 obtain ⟨a, cap, rfl, hs⟩ := h.shape
 have Hs := hid hs
 have Hb := hid hb
 have Hc := hid hc
 clear hs h hb hc
 go_enter Try.func94, Try.ntmps94
 go_wp2
 go_loopg [5, 8] l.length (fun G u5 u8 wr => ∃ k : Nat, k <= l.length /\ G = l.length - k /\ u8 = .int .i64 k /\ Hid ((∀ j, (hj : j < l.length) -> j < k -> l[j].1 ≠ s) /\ Fr (fun _ => False) w wr))
 case atStart => exact ⟨0, Nat.zero_le _, rfl, by go_num, hid ⟨fun j _ hj => by omega, Fr.refl _ _⟩⟩
 case round =>
  obtain ⟨k, hk, rfl, rfl, HI⟩ := hrel
  by_cases hlt : k < l.length
  ·rcases Hs.out with hz | ⟨hcap, ga, oa, hg, rfl, hcell⟩
   ·omega
   obtain ⟨d, hd⟩ : ∃ d, d = l[k] := ⟨_, rfl⟩
   obtain ⟨y0, y1, y2, y3, q, q0, q1, q2, q3, _⟩ := hcell k d (by rw [List.getElem?_eq_getElem hlt, hd])
   have up : ∀ {o : Nat} {u : Value}, w.cell? ⟨ga, o, none⟩ = some u -> wr.cell? ⟨ga, o, none⟩ = some u := fun {o u} hq => cell_fr (R := fun _ => True) HI.out.2 fid2 trivial hq
   have q' := up q
   have q0' := up q0
   have q1' := up q1
   have q2' := up q2
   have q3' := up q3
   clear up q q0 q1 q2 q3 hcell
   have hbr : wr.heap[b]? = some (.cells #[x0, x1, .slice (some ⟨g, off, none⟩) 1 c, x3] 36 (0, 0)) := by
    rw [HI.out.2.block b (lt_of_block Hb.out) (fun h => h)]; exact Hb.out
   have hcr : wr.cell? ⟨g, off, none⟩ = some (sv s) := cell_fr (R := fun _ => True) HI.out.2 fid2 trivial Hc.out
   have hfn := stands_fn b x0 x1 x3 y0 y1 y2 y3 c g off s d.1 wr hbr hcr
   have Hd := hid hd
   clear hd hbr hcr
   unfold sv at *
   by_cases he : d.1 = s
   ·have hb1 : decide (d.1 = s) = true := by simpa using he
    rw [hb1] at hfn
    have He := hid he
    clear he hb1
    go_wp2_with fail
    refine hfn.mono ?_
    rintro e w1 ⟨rfl, f1⟩
    have f1 := hid f1
    go_wp2
    go_ret
    refine ⟨ret_int ?_, HI.out.2.trans f1.out fid2⟩
    exact (firstAt_found _ l k hlt (fun j hj hjk => by simpa using HI.out.1 j hj hjk) (by rw [<- Hd.out]; simpa using He.out)).symm
   ·have hb1 : decide (d.1 = s) = false := by simpa using he
    rw [hb1] at hfn
    have He := hid he
    clear he hb1
    go_wp2_with fail
    refine hfn.mono ?_
    rintro e w1 ⟨rfl, f1⟩
    have f1 := hid f1
    go_wp2
    go_roundg (l.length - (k + 1))
    case measure => omega
    case rel => exact ⟨k + 1, by omega, rfl, by go_num, hid ⟨fun j hj' hj => by
     by_cases h : j < k
     ·exact HI.out.1 j hj' h
     ·obtain rfl : j = k := by omega
      rw [<- Hd.out]; exact He.out, HI.out.2.trans f1.out fid2⟩⟩
  ·obtain rfl : k = l.length := by omega
   go_wp2
   go_ret
   refine ⟨ret_int ?_, HI.out.2⟩
   exact (firstAt_none _ l (fun j hj => by simpa using HI.out.1 j hj hj)).symm

theorem stands_any (R : Nat -> Prop) (known : List (Txt × KT)) (t : KT) (v kv : Value) (w : World) (h : Shows R w t v) (hk : Aliases R w known kv) :
  Calls Try.prog 90 #[v, kv] w fun e w' => e = .returned (.int .i64 (standsE known t)) /\ Fr (fun _ => False) w w' := by
 cases t with
 | nil => exact h.elim
 | mk k m ns n of =>
 obtain ⟨vn, vo, rfl, _, _, ht, _⟩ := h
 have hl0 : ns.length <= 1000 := ht.1
 obtain ⟨a, cap, rfl, hs⟩ := ht.shape
 have Hs := hid hs
 have Hk := hid hk
 clear hs hk ht
 by_cases h1 : ns.length = 1
 ·obtain ⟨s, rfl⟩ : ∃ s, ns = [s] := List.length_eq_one_iff.1 h1
  rcases Hs.out with hz | ⟨hcap, g, off, hg, rfl, hcell⟩
  ·simp at hz
  have hc := hcell 0 s rfl
  rw [Nat.add_zero] at hc
  clear hcell
  have Hc := hid hc
  clear hc
  have hlg : g < w.heap.size := World.block_lt_of_cell? w _ Hc.out
  have e1 : standsE known (.mk k m [s] n of) = firstAt (fun x => decide (x.1 = s)) known := rfl
  have E1 := hid e1
  clear e1
  go_enter Try.func90, Try.ntmps90
  go_wp2_with fail
  have f0 : Fr (fun _ => False) w (w.alloc (.cells #[.int .u8 k, .int .i64 m, .slice (some ⟨g, off, none⟩) 1 cap, vo] 36)) := (Fr.refl _ _).alloc _
  refine (index_alias R known kv w.heap.size _ _ _ cap g off s _ (Hk.out.fr f0 fid2) (heap_alloc_new w _) (cell_fr (R := fun _ => True) f0 fid2 trivial Hc.out)).mono ?_
  rintro e w1 ⟨rfl, f1⟩
  have f1 := hid f1
  have f0 := hid f0
  go_wp2
  go_ret
  exact ⟨by rw [E1.out]; rfl, f0.out.trans f1.out fid2⟩
 ·have e1 : standsE known (.mk k m ns n of) = -1 := by
   match ns, h1 with
   | [], _ => rfl
   | [s], h => exact absurd rfl h
   | _ :: _ :: _, _ => rfl
  have E1 := hid e1
  clear e1
  have h1' : ¬ (ns.length : Int) = 1 := by omega
  go_enter Try.func90, Try.ntmps90
  go_wp2
  go_ret
  exact ⟨by rw [E1.out]; rfl, (Fr.refl _ _).alloc _⟩
end
end Go.Proofs.Ytohfejpjjjaejaa
