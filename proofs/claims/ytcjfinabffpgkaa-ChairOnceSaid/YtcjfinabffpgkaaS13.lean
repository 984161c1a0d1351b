/-
  What ChOnce rests on, part 13: ChOnceLoopC, ChOnceLaw2, ChOnceArg.
-/
import Derived.Test.YtcjfinabffpgkaaS12
set_option linter.unusedVariables false
set_option linter.unusedSimpArgs false
set_option maxHeartbeats 64000000
namespace Go.Proofs.Ytcjfinabffpgkaa
open Go.RowKit
open Go.Lib (hid)
section
set_option maxRecDepth 100000

theorem chonce_loop1 (mb : Nat) (q : OnQ) (l : List MvE) (g offa : Nat) (cap : Nat) (w : World) (g4 : Nat) (u6 u8 u12 u43 u44 u45 u46 u47 u48 u49 u56 u57 u58 u59 u60 u61 u62 u63 u64 u65 : Value) (ma : Option Addr) (mc : Nat) (ms : List Int) (z6 : Int) (w7 : World) (p : OnP) (Q : OnQ)
    (HL : Hid (l = [] ∨ ∃ g' off, some (⟨g, offa, none⟩ : Addr) = some ⟨g', off, none⟩ ∧ l.length ≤ cap ∧ ∀ (j : Nat) (x : MvE), l[j]? = some x → MvOk w x ∧ ∀ (i : Nat) (v : Value), x.cells[i]? = some v → w.cell? ⟨g', off + j * 4 + i, none⟩ = some v))
    (HMB : Hid (mb < 65536)) (HW : Hid (w.heap.size = g4)) (HN : Hid (l.length ≤ 300))
    (K : Act → World → Prop)
    (Q0 : Exit → Act → World → Prop) (HQ0 : Hid (Q0 = bodyPost Try.prog Try.f3 fun e w' => e = .returned (.bool true) ∧ Fr (fun _ => False) w w'))
    (hK : ∀ (a : Act) (w' : World), Code.wp Try.prog ((Code.region 63 #[{ dst := some 6, op := Op.assign (Operand.const (Value.bool true)), type := 4, pos := "law.go:178", after := #[], guard := none }] false).seq Code.ret) Q0 a w' → K a w')
    (FF : Hid (OnF p)) (FN : Hid (OnN p w.heap.size)) (HM6' : Hid (∀ (x : Int), x ∈ p.ms → In6 x)) (ND' : Hid (0 < p.ms.length)) (FEW : Hid (p.ms.length ≤ 16))
    (SX' : Hid (∀ (i : Nat), i < 6 → SmAt w.heap.size w (Q.e i) ((Q.e i).sl (Q.ea i) (Q.ec i))))
    (I7 : Hid (OnI p Q w w7 (fun _ => VtN.zero) (fun _ => ChN.new) (fun _ => nilS) nilS [] En.zero (fun _ => none) (fun _ _ => False) false 0 0)) :
    Code.wp Try.prog (Code.loop onceBody) (Exit.inBlock 4 (Exit.then K Q0)) ({ tmps := #[Value.int IntKind.u16 ↑mb, Value.agg (sm36 q), Value.slice (some ⟨g, offa, none⟩) l.length cap, undef, Value.pointer (some ⟨Q.g4, 0, none⟩), undef, u6, undef, u8, Value.pointer (some ⟨Q.gW, 0, none⟩), Value.pointer (some ⟨Q.gV, 0, none⟩), Value.pointer (some ⟨Q.gC, 0, none⟩), u12, Value.slice none 0 0, Value.pointer (some ⟨p.gX, 0, none⟩), Value.bool false, Value.int IntKind.i64 0, undef, undef, undef, undef, undef, undef, undef, undef, undef, undef, undef, undef, undef, undef, undef, undef, undef, undef, Value.bool true, Value.bool false, Value.slice (some ⟨g, offa, none⟩) l.length cap, Value.int IntKind.i64 ↑l.length, Value.bool false, Value.agg (sm36 q), Value.int IntKind.i64 6, Value.bool false, u43, u44, u45, u46, u47, u48, u49, Value.int IntKind.u16 ↑mb, Value.int IntKind.u16 (↑mb % 64), Value.slice ma ms.length mc, Value.agg #[Value.int IntKind.i64 0, Value.slice ma ms.length mc], Value.int IntKind.i64 z6, Value.bool false, u56, u57, u58, u59, u60, u61, u62, u63, u64, u65, Value.slice (some ⟨g, offa, none⟩) l.length cap, Value.int IntKind.i64 ↑l.length, Value.int IntKind.i64 0, undef, undef, undef, undef, undef, undef, undef, undef, undef, undef, undef, undef, undef, undef, undef, undef, undef, undef, undef, undef, undef, undef, undef, undef, undef, undef, undef, undef, undef, undef, undef, undef, undef, undef, undef, undef, undef, undef, undef, undef, undef, undef, undef, undef, undef, undef, undef, undef, undef, undef, undef, undef, undef, undef, undef, undef, undef, undef, undef, undef, undef, undef, undef, undef, undef, undef, undef, undef, undef, undef, undef, undef, undef, undef, undef, undef, undef, undef, undef, undef, undef, undef, undef, undef, undef, undef, undef, undef, undef, undef, undef, undef, undef, undef, undef, undef, undef, undef, undef, undef, undef, undef, undef, undef, undef, undef, undef, undef, undef, undef, undef, undef, undef, undef, undef, undef, undef, undef, undef, undef, undef, undef, undef, undef, undef, undef, undef, undef, undef, undef, undef, undef, undef, undef, undef, undef, undef, undef, undef, undef, undef, undef, undef, undef, undef, undef, undef, undef, undef, undef, undef, undef, undef, undef, undef, undef, undef, undef, undef, undef, undef, undef, undef, undef, undef, undef, undef, undef, undef, undef, undef, undef, undef, undef, undef, undef, undef, undef, undef, undef, undef, undef, undef, undef, undef, undef, undef, undef, undef, undef, undef, undef, undef, undef, undef, undef, undef, undef, undef, undef, undef, undef, undef, undef, undef, undef, undef, undef, undef, undef, undef, undef, undef, undef, undef, undef, undef], defers := [] } : Act) w7 := (chonce_open mb q l g offa cap w g4 u6 u8 u12 u43 u44 u45 u46 u47 u48 u49 u56 u57 u58 u59 u60 u61 u62 u63 u64 u65 ma mc ms z6 w7 p Q K Q0).2 ⟨chonce_letters mb q l g offa cap w g4 u6 u8 u12 u43 u44 u45 u46 u47 u48 u49 u56 u57 u58 u59 u60 u61 u62 u63 u64 u65 ma mc ms z6 w7 p Q K Q0⟩ HL HMB HW HN HQ0 hK FF FN HM6' ND' FEW SX' I7

theorem chonce_loop (mb : Nat) (q : OnQ) (l : List MvE) (av : Option Addr) (cap : Nat) (w : World) (g4 : Nat) (u6 u8 u12 u43 u44 u45 u46 u47 u48 u49 u56 u57 u58 u59 u60 u61 u62 u63 u64 u65 : Value) (ma : Option Addr) (mc : Nat) (ms : List Int) (z6 : Int) (w7 : World) (p : OnP) (Q : OnQ)
    (HL : Hid (l = [] ∨ ∃ g off, av = some ⟨g, off, none⟩ ∧ l.length ≤ cap ∧ ∀ (j : Nat) (x : MvE), l[j]? = some x → MvOk w x ∧ ∀ (i : Nat) (v : Value), x.cells[i]? = some v → w.cell? ⟨g, off + j * 4 + i, none⟩ = some v))
    (HMB : Hid (mb < 65536)) (HW : Hid (w.heap.size = g4)) (HN : Hid (l.length ≤ 300))
    (K : Act → World → Prop)
    (Q0 : Exit → Act → World → Prop) (HQ0 : Hid (Q0 = bodyPost Try.prog Try.f3 fun e w' => e = .returned (.bool true) ∧ Fr (fun _ => False) w w'))
    (hK : ∀ (a : Act) (w' : World), Code.wp Try.prog ((Code.region 63 #[{ dst := some 6, op := Op.assign (Operand.const (Value.bool true)), type := 4, pos := "law.go:178", after := #[], guard := none }] false).seq Code.ret) Q0 a w' → K a w')
    (FF : Hid (OnF p)) (FN : Hid (OnN p w.heap.size)) (HM6' : Hid (∀ (x : Int), x ∈ p.ms → In6 x)) (ND' : Hid (0 < p.ms.length)) (FEW : Hid (p.ms.length ≤ 16))
    (SX' : Hid (∀ (i : Nat), i < 6 → SmAt w.heap.size w (Q.e i) ((Q.e i).sl (Q.ea i) (Q.ec i))))
    (I7 : Hid (OnI p Q w w7 (fun _ => VtN.zero) (fun _ => ChN.new) (fun _ => nilS) nilS [] En.zero (fun _ => none) (fun _ _ => False) false 0 0)) :
    Code.wp Try.prog (Code.loop onceBody) (Exit.inBlock 4 (Exit.then K Q0)) ({ tmps := #[Value.int IntKind.u16 ↑mb, Value.agg (sm36 q), Value.slice av l.length cap, undef, Value.pointer (some ⟨Q.g4, 0, none⟩), undef, u6, undef, u8, Value.pointer (some ⟨Q.gW, 0, none⟩), Value.pointer (some ⟨Q.gV, 0, none⟩), Value.pointer (some ⟨Q.gC, 0, none⟩), u12, Value.slice none 0 0, Value.pointer (some ⟨p.gX, 0, none⟩), Value.bool false, Value.int IntKind.i64 0, undef, undef, undef, undef, undef, undef, undef, undef, undef, undef, undef, undef, undef, undef, undef, undef, undef, undef, Value.bool true, Value.bool false, Value.slice av l.length cap, Value.int IntKind.i64 ↑l.length, Value.bool false, Value.agg (sm36 q), Value.int IntKind.i64 6, Value.bool false, u43, u44, u45, u46, u47, u48, u49, Value.int IntKind.u16 ↑mb, Value.int IntKind.u16 (↑mb % 64), Value.slice ma ms.length mc, Value.agg #[Value.int IntKind.i64 0, Value.slice ma ms.length mc], Value.int IntKind.i64 z6, Value.bool false, u56, u57, u58, u59, u60, u61, u62, u63, u64, u65, Value.slice av l.length cap, Value.int IntKind.i64 ↑l.length, Value.int IntKind.i64 0, undef, undef, undef, undef, undef, undef, undef, undef, undef, undef, undef, undef, undef, undef, undef, undef, undef, undef, undef, undef, undef, undef, undef, undef, undef, undef, undef, undef, undef, undef, undef, undef, undef, undef, undef, undef, undef, undef, undef, undef, undef, undef, undef, undef, undef, undef, undef, undef, undef, undef, undef, undef, undef, undef, undef, undef, undef, undef, undef, undef, undef, undef, undef, undef, undef, undef, undef, undef, undef, undef, undef, undef, undef, undef, undef, undef, undef, undef, undef, undef, undef, undef, undef, undef, undef, undef, undef, undef, undef, undef, undef, undef, undef, undef, undef, undef, undef, undef, undef, undef, undef, undef, undef, undef, undef, undef, undef, undef, undef, undef, undef, undef, undef, undef, undef, undef, undef, undef, undef, undef, undef, undef, undef, undef, undef, undef, undef, undef, undef, undef, undef, undef, undef, undef, undef, undef, undef, undef, undef, undef, undef, undef, undef, undef, undef, undef, undef, undef, undef, undef, undef, undef, undef, undef, undef, undef, undef, undef, undef, undef, undef, undef, undef, undef, undef, undef, undef, undef, undef, undef, undef, undef, undef, undef, undef, undef, undef, undef, undef, undef, undef, undef, undef, undef, undef, undef, undef, undef, undef, undef, undef, undef, undef, undef, undef, undef, undef, undef, undef, undef, undef, undef, undef, undef, undef, undef, undef, undef, undef, undef, undef, undef, undef, undef, undef, undef, undef], defers := [] } : Act) w7 := by
  rcases HL.out with h0 | ⟨g, offa, rfl, hcap, hll⟩
  · conv => arg 2; arg 1; whnf
    refine loop_mix [false, false, false, false, false, false, true, false, true, false, false, false, true, true, false, true, true, false, true, true, true, false, true, true, true, true, true, true, true, true, true, false, true, true, true, false, false, false, false, false, false, false, false, true, true, true, true, true, true, true, false, false, false, false, false, false, true, true, true, true, true, true, true, true, true, true, false, false, true, true, true, true, true, true, true, true, true, true, true, true, true, true, true, true, true, true, true, true, true, true, true, true, true, true, true, true, true, true, true, true, true, true, true, true, true, true, true, true, true, true, true, true, true, true, true, true, true, true, true, true, true, true, true, true, true, true, true, true, true, true, true, true, true, true, true, true, true, true, true, true, true, true, true, true, true, true, true, true, true, true, true, true, true, true, true, true, true, true, true, true, true, true, true, true, true, true, true, true, true, true, true, true, true, true, true, true, true, true, true, true, true, true, true, true, true, true, true, true, true, true, true, true, true, true, true, true, true, true, true, true, true, true, true, true, true, true, true, true, true, true, true, true, true, true, true, true, true, true, true, true, true, true, true, true, true, true, true, true, true, true, true, true, true, true, true, true, true, true, true, true, true, true, true, true, true, true, true, true, true, true, true, true, true, true, true, true, true, true, true, true, true, true, true, true, true, true, true, true, true, true, true, true, true, true, true, true, true, true, true, true, true, true, true, true, true, true] (fun gh uu wr => ∃ (k : Nat) (V : Int → VtN) (C : Int → ChN) (hv : Int → Value) (way : List FlM) (cz : En) (val : Vals) (acc : Accs) (sm : Bool) (rd : Nat), k ≤ l.length ∧ gh = l.length - k ∧ uu 68 = .int .i64 k ∧ uu 15 = .bool sm ∧ uu 16 = .int .i64 rd ∧ Hid (OnI p Q w wr V C hv (uu 13) way cz val acc sm rd k)) l.length (by kernel_rfl) ?atS ?rnd
    case atS => exact ⟨0, _, _, _, _, _, _, _, _, 0, Nat.zero_le _, rfl, rfl, rfl, rfl, I7⟩
    case rnd =>
      intro gk uu wr hrel JJ KK hJJ hKK
      obtain ⟨k, V, C, hv, way, cz, val, acc, sm, rd, hk, rfl, e68, e15, e16, I⟩ := hrel
      simp only [mixU_t, mixU_f, mixU_n, Nat.reduceAdd]
      rw [e68, e15, e16]
      obtain ⟨u13, hu13⟩ : ∃ z, z = uu 13 := ⟨_, rfl⟩
      rw [← hu13] at I ⊢
      clear hu13 e68 e15 e16
      clear I7
      by_cases hlt : k < l.length
      case neg =>
        go_wp2_with fail
        rw [HQ0.out]
        go_ret
        exact ⟨rfl, I.out.fr⟩
      exact absurd hlt (by rw [h0]; simp)
  · exact chonce_loop1 mb q l g offa cap w g4 u6 u8 u12 u43 u44 u45 u46 u47 u48 u49 u56 u57 u58 u59 u60 u61 u62 u63 u64 u65 ma mc ms z6 w7 p Q HL HMB HW HN K Q0 HQ0 hK FF FN HM6' ND' FEW SX' I7
end
section
set_option maxRecDepth 100000

theorem chonce_law (mb : Nat) (q : OnQ) (l : List MvE) (av : Option Addr) (cap : Nat) (w : World) (hmb : mb < 65536)
    (hl : l = [] ∨ ∃ g off, av = some ⟨g, off, none⟩ ∧ l.length ≤ cap ∧ ∀ j x, l[j]? = some x → MvOk w x ∧ ∀ i v, x.cells[i]? = some v → w.cell? ⟨g, off + j * 4 + i, none⟩ = some v)
    (hs : ∀ i, SeesO w ((q.e i).sl (q.ea i) (q.ec i)) (q.e i).c.l ∧ (q.e i).ok) :
    Calls Try.prog 3 #[.int .u16 mb, .agg (sm36 q), .slice av l.length cap] w fun e w' => e = .returned (.bool true) ∧ Fr (fun _ => False) w w' := by
  have HL := Lib.hid hl
  have HMB := Lib.hid hmb
  have f0 : Fr (fun _ => False) w (w.alloc (Obj.cells (sm36 q) 28 (0, 0))) := (Fr.refl _ _).alloc _
  have q0 := heap_alloc_new w (Obj.cells (sm36 q) 28 (0, 0))
  have HSO := Lib.hid hs
  clear hl hmb hs
  go_enter Try.func3, Try.ntmps3
  go_upto_region 1 with fail
  generalize w.alloc (Obj.cells (sm36 q) 28 (0, 0)) = w0 at *
  generalize hg4 : w.heap.size = g4 at *
  have HW := Lib.hid hg4
  clear hg4
  go_wp2_with fail
  refine (chawake_any w0).mono ?_
  rintro er w1 ⟨rfl, f1⟩
  have F1 := Lib.hid (f0.trans f1 (fun _ _ h => h))
  have Q1 := Lib.hid (crow_kept q0 f1 (fun h => h))
  clear f0 f1 q0
  dsimp only
  by_cases hn : l.length ≤ 300
  case neg =>
    have hn' : (300 : Int) < (l.length : Int) := by omega
    clear hn
    go_wp2_with fail
    go_ret
    exact ⟨rfl, F1.out⟩
  have hn' : ¬ (300 : Int) < (l.length : Int) := by omega
  have HN := Lib.hid hn
  clear hn
  go_upto_region 5 with fail
  clear hn'
  go_upto_region 6 with (refine wpList_load_row rfl 28 (.tmp 4) rfl g4 (sm36 q) 28 (0, 0) rfl Q1.out _ Try.underlying28 rfl (by kernel_rfl) ?_)
  go_loopg [41] 6 (fun gh u41 wr => ∃ k : Nat, k ≤ 6 ∧ gh = 6 - k ∧ u41 = .int .i64 k ∧ Hid ((∀ i, i < k → (q.e i).c.l.length ≤ 50) ∧ Fr (fun _ => False) w1 wr))
  case atStart => exact ⟨0, Nat.zero_le _, rfl, rfl, Lib.hid ⟨fun i hi => absurd hi (by omega), Fr.refl _ _⟩⟩
  case round =>
    obtain ⟨k, hk, rfl, rfl, HJ⟩ := hrel
    by_cases hlt : k < 6
    case neg =>
      obtain rfl : k = 6 := by omega
      clear hlt hk
      have SX : Hid (∀ i, i < 6 → SmAt w.heap.size w (q.e i) ((q.e i).sl (q.ea i) (q.ec i))) := Lib.hid (fun i hi => ⟨⟨_, _, rfl⟩, (HSO.out i).1.1, (HSO.out i).1.2, (HSO.out i).2, by have := HJ.out.1 i hi; omega⟩)
      have F2 := Lib.hid (F1.out.trans HJ.out.2 (fun _ _ h => h))
      have Q2 := Lib.hid (crow_kept Q1.out HJ.out.2 (fun h => h))
      clear HJ HSO Q1 F1
      have hbits : bits .and .u16 (mb : Int) 63 = ((mb % 64 : Nat) : Int) := bits63 mb HMB.out
      go_wp2_with fail
      refine (lmembers_any (mb % 64) (by omega) wr).mono ?_
      rintro er w2 ⟨mv, rfl, hnew⟩
      obtain ⟨hoi, f2⟩ := hnew
      have hms : bitsL (mb % 64) = mem6 mb := rfl
      rw [hms] at hoi
      obtain ⟨ma, mc, hmv⟩ := slice_of_own hoi
      have HV3 := Lib.hid (fun k hk => (World.ownsRow.lt hoi k hk).2)
      have S2 := Lib.hid hoi.si
      have hl16 := mem6_len mb
      have HM6 : Hid (∀ x ∈ mem6 mb, In6 x) := Lib.hid (fun x hx => mem6_range mb x hx)
      generalize hmm : mem6 mb = ms at *
      have HMM := Lib.hid hmm
      subst hmv
      have F3 := Lib.hid (F2.out.trans f2 (fun _ _ h => h))
      have Q3 := Lib.hid (crow_kept Q2.out f2 (fun h => h))
      clear hoi f2 hms hmm hbits F2 Q2
      go_upto_region 15 with fail
      have qa := heap_alloc_new w2 (oVw 0 ma ms.length mc)
      have fa : Fr (fun _ => False) w2 (w2.alloc (oVw 0 ma ms.length mc)) := (Fr.refl _ _).alloc _
      have qb := heap_alloc_new (w2.alloc (oVw 0 ma ms.length mc)) (oVs (fun _ => .pointer none))
      have fb : Fr (fun _ => False) (w2.alloc (oVw 0 ma ms.length mc)) ((w2.alloc (oVw 0 ma ms.length mc)).alloc (oVs (fun _ => .pointer none))) := (Fr.refl _ _).alloc _
      have qc := heap_alloc_new ((w2.alloc (oVw 0 ma ms.length mc)).alloc (oVs (fun _ => .pointer none))) (oCs (fun _ => .pointer none))
      have fc : Fr (fun _ => False) ((w2.alloc (oVw 0 ma ms.length mc)).alloc (oVs (fun _ => .pointer none))) (((w2.alloc (oVw 0 ma ms.length mc)).alloc (oVs (fun _ => .pointer none))).alloc (oCs (fun _ => .pointer none))) := (Fr.refl _ _).alloc _
      have hsz : (((w2.alloc (oVw 0 ma ms.length mc)).alloc (oVs (fun _ => .pointer none))).alloc (oCs (fun _ => .pointer none))).heap.size = w2.heap.size + 3 := by simp
      rw [World.size_alloc] at qb
      rw [World.size_alloc, World.size_alloc] at qc
      have qb' := crow_kept qb fc (fun h => h)
      have qa' := crow_kept (crow_kept qa fb (fun h => h)) fc (fun h => h)
      have f5 := (fa.trans fb (fun _ _ h => h)).trans fc (fun _ _ h => h)
      clear fa fb fc qa qb
      change Code.wp _ _ _ _ (((w2.alloc (oVw 0 ma ms.length mc)).alloc (oVs (fun _ => .pointer none))).alloc (oCs (fun _ => .pointer none)))
      generalize ((w2.alloc (oVw 0 ma ms.length mc)).alloc (oVs (fun _ => .pointer none))).alloc (oCs (fun _ => .pointer none)) = w5 at *
      generalize hgW : w2.heap.size = gW at *
      generalize hgV : gW + 1 = gV at *
      generalize hgC : gV + 1 = gC at *
      have HO : Hid (g4 < gW ∧ gW < gV ∧ gV < gC ∧ gC < w5.heap.size) := Lib.hid ⟨by have := lt_of Q3.out; omega, by omega, by omega, by omega⟩
      have F5 := Lib.hid (F3.out.trans f5 (fun _ _ h => h))
      have Q5 := Lib.hid (And.intro (crow_kept Q3.out f5 (fun h => h)) qa')
      have S5 := Lib.hid (S2.out.fr f5)
      have HV : Hid (∀ k, (Value.slice ma ms.length mc).ownBlock = some k → k < gW) := Lib.hid (fun k hk => by have := HV3.out k hk; omega)
      have B5 : Hid (BdK w5 gV gC w5.heap.size 0 ma mc ms (fun _ => 0) (fun _ => 0)) := Lib.hid ⟨⟨_, qb', fun i hi => absurd hi (by omega)⟩, ⟨_, qc, fun i hi => absurd hi (by omega)⟩, fun i hi => absurd hi (by omega), fun i hi => absurd hi (by omega), fun i j hi => absurd hi (by omega), fun i j hi => absurd hi (by omega)⟩
      clear qa' qb' qc f5 hsz hgW hgV hgC F3 Q3 S2 HV3
      go_loopg [54] 6 (fun gh u54 wr => ∃ (k : Nat) (vn cn : Nat → Nat), k ≤ 6 ∧ gh = 6 - k ∧ u54 = .int .i64 k ∧ Hid (BdK wr gV gC w5.heap.size k ma mc ms vn cn) ∧ Hid (Fr (fun j => j = gV ∨ j = gC) w5 wr))
      case atStart => exact ⟨0, _, _, Nat.zero_le _, rfl, rfl, B5, Lib.hid (Fr.refl _ _)⟩
      case round =>
        obtain ⟨k, vn, cn, hk, rfl, rfl, HB, FB⟩ := hrel
        clear B5
        by_cases hlt : k < 6
        case neg =>
          obtain rfl : k = 6 := by omega
          clear hlt hk
          obtain ⟨fV, hV1, hV2⟩ := HB.out.rv
          obtain ⟨fC, hC1, hC2⟩ := HB.out.rc
          have hV1' : wr.heap[gV]? = some (oVs (fun i => .pointer (some ⟨vn i, 0, none⟩))) := by rw [hV1]; exact congrArg (fun a => some (Obj.cells a _ _)) (arr6_ext _ _ hV2)
          have hC1' : wr.heap[gC]? = some (oCs (fun i => .pointer (some ⟨cn i, 0, none⟩))) := by rw [hC1]; exact congrArg (fun a => some (Obj.cells a _ _)) (arr6_ext _ _ hC2)
          clear hV1 hV2 hC1 hC2
          have Q6 := Lib.hid (And.intro hV1' (And.intro hC1' (And.intro (crow_kept Q5.out.1 FB.out (by have := HO.out; omega)) (crow_kept Q5.out.2 FB.out (by have := HO.out; omega)))))
          have S6 : Hid (SI wr (.slice ma ms.length mc) ms) := Lib.hid (S5.out.keep FB.out (.inr (fun k hk e => by have := HV.out k hk; have := HO.out; omega)))
          have F6 := Lib.hid (F5.out.trans FB.out (fun k hk e => by have := HO.out; have := HW.out; omega))
          clear hV1' hC1' FB S5 Q5 F5
          go_upto_region 23 with fail
          generalize ((6 : Nat) : Int) = z6
          have q7 := heap_alloc_new wr (oEn 0 0 0 0 nilS nilS)
          have f7 : Fr (fun _ => False) wr (wr.alloc (oEn 0 0 0 0 nilS nilS)) := (Fr.refl _ _).alloc _
          generalize wr.alloc (oEn 0 0 0 0 nilS nilS) = w7 at *
          obtain ⟨gX, hgX⟩ : ∃ g, g = wr.heap.size := ⟨_, rfl⟩
          rw [← hgX] at q7 ⊢
          obtain ⟨p, hp⟩ : ∃ p : OnP, p = ⟨fun n => vn n.toNat, fun n => cn n.toNat, gX, gW, ms, ma, mc⟩ := ⟨_, rfl⟩
          have FF : Hid (OnF p) := Lib.hid (by
            have b := HB.out
            have ho := HO.out
            subst hp
            refine ⟨fun n m hn hm e => ?_, fun n m hn hm e => ?_, fun k hk => ?_⟩
            · have := b.vi n.toNat m.toNat (by have := hn.2; omega) (by have := hm.2; omega) e
              have := hn.1; have := hm.1; omega
            · have := b.ci n.toNat m.toNat (by have := hn.2; omega) (by have := hm.2; omega) e
              have := hn.1; have := hm.1; omega
            · have h1 := HV.out k hk
              have h2 : gC < wr.heap.size := lt_of Q6.out.2.1
              refine ⟨h1, by show k ≠ gX; omega, fun n hn => ⟨?_, ?_⟩⟩
              · have := (b.v n.toNat (by have := hn.2; omega)).1; show k ≠ vn n.toNat; omega
              · have := (b.c n.toNat (by have := hn.2; omega)).1; show k ≠ cn n.toNat; omega)
          have FN : Hid (OnN p w.heap.size) := Lib.hid (by
            have b := HB.out
            have ho := HO.out
            have hw := HW.out
            have h2 : gC < wr.heap.size := lt_of Q6.out.2.1
            subst hp
            refine ⟨by show w.heap.size ≤ gW; omega, fun n hn => ?_, fun n hn => ?_, by show w.heap.size ≤ gX; omega⟩
            · have := (b.v n.toNat (by have := hn.2; omega)).1; show w.heap.size ≤ vn n.toNat; omega
            · have := (b.c n.toNat (by have := hn.2; omega)).1; show w.heap.size ≤ cn n.toNat; omega)
          have FS : Hid (OnS p w7 (fun _ => VtN.zero) (fun _ => ChN.new) (fun _ => nilS) nilS [] En.zero) := Lib.hid (by
            have b := HB.out
            have ho := HO.out
            have s7 := S6.out.fr f7
            have hsz := f7.size
            have h2 : gC < wr.heap.size := lt_of Q6.out.2.1
            subst hp
            refine ⟨fun n hn => ?_, fun n hn => ⟨⟨⟨nilS, nilS, crow_kept (b.c n.toNat (by have := hn.2; omega)).2 f7 (fun h => h), es_zero _, .inl rfl, .inl rfl⟩, ⟨by decide, by decide⟩, World.ownsRow_nil _ _ _ _, (by show gW ≤ w7.heap.size; omega), by decide, by decide, List.nodup_nil, (fun n h => by cases h), s7, fun k hk => ⟨HV.out k hk, ?_⟩, hl16.2⟩, fun v u _ => ⟨.inl rfl, .inl rfl⟩⟩, fun n m hn hm _ k hk => (by cases hk), World.ownsRow_nil _ _ _ _, fun x hx => (by cases hx), nilS, nilS, q7, es_zero _, ⟨.inl rfl, .inl rfl⟩, by decide, by decide⟩
            · exact ⟨nilS, nilS, crow_kept (b.v n.toNat (by have := hn.2; omega)).2 f7 (fun h => h), es_zero _, ⟨.inl rfl, .inl rfl⟩, by decide, by decide⟩
            · have h1 := HV.out k hk
              have := (b.c n.toNat (by have := hn.2; omega)).1
              show k ≠ cn n.toNat
              omega)
          obtain ⟨Q, hQ⟩ : ∃ Q : OnQ, Q = ⟨gV, gC, gW, g4, q.e, q.ea, q.ec⟩ := ⟨_, rfl⟩
          have FA : Hid (OnA p Q w7) := Lib.hid (by
            subst hp hQ
            refine ⟨?_, ?_, crow_kept Q6.out.2.2.2 f7 (fun h => h), crow_kept Q6.out.2.2.1 f7 (fun h => h)⟩
            · refine (crow_kept Q6.out.1 f7 (fun h => h)).trans (congrArg (fun a => some (Obj.cells a _ _)) (arr6_ext _ _ (fun i _ => ?_)))
              simp [ptrs]
            · refine (crow_kept Q6.out.2.1 f7 (fun h => h)).trans (congrArg (fun a => some (Obj.cells a _ _)) (arr6_ext _ _ (fun i _ => ?_)))
              simp [ptrs])
          have F7 := Lib.hid (F6.out.trans f7 (fun _ _ h => h))
          have HPX : Hid (p.gX = gX ∧ p.ms = ms ∧ p.ma = ma ∧ p.mc = mc) := Lib.hid (by subst hp; exact ⟨rfl, rfl, rfl, rfl⟩)
          have HQX : Hid (Q.gV = gV ∧ Q.gC = gC ∧ Q.gW = gW ∧ Q.g4 = g4 ∧ Q.e = q.e ∧ Q.ea = q.ea ∧ Q.ec = q.ec) := Lib.hid (by subst hQ; exact ⟨rfl, rfl, rfl, rfl, rfl, rfl, rfl⟩)
          have ND : Hid (ms ≠ []) := Lib.hid (fun e => by have := hl16.1; rw [e] at this; simp at this)
          have P7 : Hid (Pax p.ms (fun _ => VtN.zero) (fun _ => ChN.new) 1 (fun _ => none) (fun _ _ => False)) := Lib.hid (pax_init _)
          clear q7 f7 hgX hp hQ HB HO Q6 S6 F6 HV
          have HM6' : Hid (∀ x ∈ p.ms, In6 x) := Lib.hid (by rw [HPX.out.2.1]; exact HM6.out)
          have ND' : Hid (0 < p.ms.length) := Lib.hid (by rw [HPX.out.2.1]; exact List.length_pos_iff.2 ND.out)
          have FEW : Hid (p.ms.length ≤ 16) := Lib.hid (by rw [HPX.out.2.1]; exact hl16.2)
          have SX' : Hid (∀ i, i < 6 → SmAt w.heap.size w (Q.e i) ((Q.e i).sl (Q.ea i) (Q.ec i))) := Lib.hid (by rw [HQX.out.2.2.2.2.1, HQX.out.2.2.2.2.2.1, HQX.out.2.2.2.2.2.2]; exact SX.out)
          have I7 : Hid (OnI p Q w w7 (fun _ => VtN.zero) (fun _ => ChN.new) (fun _ => nilS) nilS [] En.zero (fun _ => none) (fun _ _ => False) false 0 0) := Lib.hid ⟨FS.out, FA.out, P7.out, fun y hy => (by cases hy), fun h => (by cases h), F7.out, Nat.le_refl _, Nat.le_refl _⟩
          clear HM6 ND SX FS FA P7 F7 HMM hl16
          have hgX := HPX.out.1
          rw [← hgX]
          rw [← HQX.out.1, ← HQX.out.2.1, ← HQX.out.2.2.1, ← HQX.out.2.2.2.1]
          clear hgX HQX HPX
          rename_i Kx hKx
          exact chonce_loop mb q l av cap w g4 _ _ _ _ _ _ _ _ _ _ _ _ _ _ _ _ _ _ _ _ _ _ _ _ w7 p Q HL HMB HW HN Kx _ (Lib.hid rfl) hKx FF FN HM6' ND' FEW SX' I7
        have hkk : (k : Int) < 6 := by omega
        go_upto_region 17 with fail
        obtain ⟨fV, hV1, hV2⟩ := HB.out.rv
        obtain ⟨fC, hC1, hC2⟩ := HB.out.rc
        have QV := Lib.hid (And.intro hV1 hC1)
        have QF := Lib.hid (And.intro hV2 hC2)
        clear hV1 hC1 hV2 hC2
        have HOW : Hid (gV < wr.heap.size ∧ gC < wr.heap.size ∧ w5.heap.size ≤ wr.heap.size) := Lib.hid ⟨lt_of QV.out.1, lt_of QV.out.2, FB.out.size⟩
        have QW := Lib.hid (crow_kept Q5.out.2 FB.out (by have := HO.out; omega))
        refine wp_region_toldU (by kernel_rfl) (fun a b => Fr (fun j => j = gV ∨ j = gC) a b) (fun w => Fr.refl _ w) (fun _ _ _ h k => h.trans k (fun _ _ h => h))
          [some 57, some 58, some 59, some 60, some 61, some 62, some 63, none, some 64, none] rfl (by decide) (by intro d hd; simp at hd ⊢; omega)
          (fun j wx => (j = 7 → wx.heap[gV]? = some (oVs fV)) ∧ (j = 9 → wx.heap[gC]? = some (oCs fC)))
          (fun j v wx => (RdV wr gV gC k fV fC ma mc ms).getD j (fun _ _ => True) v wx)
          (by kernel_rfl) ?u17 ?step17 ?fin17
        case u17 => exact fun j _ => ⟨fun _ => QV.out.1, fun _ => QV.out.2⟩
        case step17 =>
          intro vals
          simp only [frOfU, fillU, List.setIfInBounds_toArray, List.set_cons_succ, List.set_cons_zero]
          repeat' (first | exact AllOps.nil | refine AllOps.cons ?_ ?_)
          all_goals
            intro wx hle he hu hw K hK
            clear hw
            simp only [Act.put, List.setIfInBounds_toArray, List.set_cons_succ, List.set_cons_zero, RdV, List.getD_cons_zero, List.getD_cons_succ] at hK
            simp only [List.mem_cons, List.not_mem_nil, or_false, forall_eq_or_imp, forall_eq, Region.binds, forall_const, false_imp_iff, RdV, List.getD_cons_zero, List.getD_cons_succ] at he
            have hl5 := Fr.trans (Fr.drew (Fr.refl (fun j => j = gV ∨ j = gC) wr)) hle (fun _ _ h => h)
            obtain ⟨v0, v1⟩ := vw_cells (crow_kept QW.out hl5 (by have := HO.out; omega))
            have HL := Lib.hid hl5
            clear hl5 hle
          · clear hu; (try simp only [he] at hK ⊢); go_simp; exact hK _ _ (Fr.refl _ _) rfl (fun _ _ h => h) (fun _ _ _ h => h)
          · clear hu; (try simp only [he] at hK ⊢); go_simp; exact hK _ _ (Fr.refl _ _) rfl (fun _ _ h => h) (fun _ _ _ h => h)
          · clear hu; (try simp only [he] at hK ⊢); go_simp; exact hK _ _ (Fr.refl _ _) rfl (fun _ _ h => h) (fun _ _ _ h => h)
          · have fx : Fr (fun _ => False) wx (wx.alloc (oVr 0 0 0 0 0 0 0 0 nilS nilS false)) := (Fr.refl _ _).alloc _
            have hP := RdV_fr (w0 := wr) (gV := gV) (gC := gC) (k := k) (fV := fV) (fC := fC) (ma := ma) (mc := mc) (ms := ms) fx
            have hN := heap_alloc_new wx (oVr 0 0 0 0 0 0 0 0 nilS nilS false)
            have HH := Lib.hid (And.intro fx (And.intro hP hN))
            clear hu fx hP hN
            simp only [he] at hK ⊢
            clear he
            go_simp
            exact hK _ _ (HH.out.1.mono (fun _ _ h => h.elim)) ⟨_, rfl, HL.out.size, HH.out.2.2⟩ (fun j _ h => ⟨fun e => crow_kept (h.1 e) HH.out.1 (fun h => h), fun e => crow_kept (h.2 e) HH.out.1 (fun h => h)⟩) (fun j u _ h => HH.out.2.1 j u h)
          · clear hu; (try simp only [he] at hK ⊢); go_simp; exact hK _ _ (Fr.refl _ _) rfl (fun _ _ h => h) (fun _ _ _ h => h)
          · clear hu
            simp only [he] at hK ⊢
            clear he
            go_simp
            go_at_call 6
            refine (chnew_any ma ms.length mc wx).mono ?_
            rintro er wa ⟨g, rfl, hg, fx, hrow⟩
            have hP := RdV_fr (w0 := wr) (gV := gV) (gC := gC) (k := k) (fV := fV) (fC := fC) (ma := ma) (mc := mc) (ms := ms) fx
            exact hK _ _ (fx.mono (fun _ _ h => h.elim)) ⟨_, rfl, Nat.le_trans HL.out.size hg, hrow⟩ (fun j _ h => ⟨fun e => crow_kept (h.1 e) fx (fun h => h), fun e => crow_kept (h.2 e) fx (fun h => h)⟩) (fun j u _ h => hP j u h)
          · clear hu; (try simp only [he] at hK ⊢); go_simp; exact hK _ _ (Fr.refl _ _) rfl (fun _ _ h => h) (fun _ _ _ h => h)
          · have hq := hu.1 rfl
            obtain ⟨e6, ⟨b, e3, hb1, hb2⟩, hrest⟩ := he
            have fx : ∀ v, Fr (fun j => j = gV) wx (wx.setCell ⟨gV, k, none⟩ v) := fun v => Fr.setCell (S := fun j => j = gV) (Fr.refl _ _) (p := ⟨gV, k, none⟩) (fun _ => rfl) v
            have hP := RdV_keep (w0 := wr) (gV := gV) (gC := gC) (k := k) (fV := fV) (fC := fC) (ma := ma) (mc := mc) (ms := ms) (fx (.pointer (some ⟨b, 0, none⟩))) (fun b hb e => by have := HOW.out; omega) 7 (fun h => absurd rfl h) (fun _ e => by have := HO.out; omega)
            have hS := arr6_set hq k hlt (.pointer (some ⟨b, 0, none⟩))
            have hb3 := crow_kept hb2 (fx (.pointer (some ⟨b, 0, none⟩))) (by have := HOW.out; omega)
            have HH := Lib.hid (And.intro (fx (.pointer (some ⟨b, 0, none⟩))) (And.intro hP (And.intro hS (And.intro hb1 hb3))))
            have ck := arr6_cell hq k hlt
            have zk := vfree hq k
            generalize fV k = old at ck
            clear hu fx hP hS hb1 hb2 hb3 hq hrest
            simp only [e6, e3] at hK ⊢
            clear e6 e3
            go_simp
            exact hK undef _ (HH.out.1.mono (fun _ _ h => .inl h)) ⟨b, HH.out.2.2.2.1, HH.out.2.2.2.2, HH.out.2.2.1⟩ (fun j hj h => ⟨fun e => absurd e hj, fun e => crow_kept (h.2 e) HH.out.1 (by have := HO.out; omega)⟩) (fun j u hj h => HH.out.2.1 j u hj h)
          · clear hu; (try simp only [he] at hK ⊢); go_simp; exact hK _ _ (Fr.refl _ _) rfl (fun _ _ h => h) (fun _ _ _ h => h)
          · have hq := hu.2 rfl
            obtain ⟨e8, ⟨b, e5, hb1, hb2⟩, hrest⟩ := he
            have fx : ∀ v, Fr (fun j => j = gC) wx (wx.setCell ⟨gC, k, none⟩ v) := fun v => Fr.setCell (S := fun j => j = gC) (Fr.refl _ _) (p := ⟨gC, k, none⟩) (fun _ => rfl) v
            have hP := RdV_keep (w0 := wr) (gV := gV) (gC := gC) (k := k) (fV := fV) (fC := fC) (ma := ma) (mc := mc) (ms := ms) (fx (.pointer (some ⟨b, 0, none⟩))) (fun b hb e => by have := HOW.out; omega) 9 (fun _ e => by have := HO.out; omega) (fun h => absurd rfl h)
            have hS := arr6_set hq k hlt (.pointer (some ⟨b, 0, none⟩))
            have hb3 := crow_kept hb2 (fx (.pointer (some ⟨b, 0, none⟩))) (by have := HOW.out; omega)
            have HH := Lib.hid (And.intro (fx (.pointer (some ⟨b, 0, none⟩))) (And.intro hP (And.intro hS (And.intro hb1 hb3))))
            have ck := arr6_cell hq k hlt
            have zk := vfree hq k
            generalize fC k = old at ck
            clear hu fx hP hS hb1 hb2 hb3 hq hrest
            simp only [e8, e5] at hK ⊢
            clear e8 e5
            go_simp
            exact hK undef _ (HH.out.1.mono (fun _ _ h => .inr h)) ⟨b, HH.out.2.2.2.1, HH.out.2.2.2.2, HH.out.2.2.1⟩ (fun j hj h => ⟨fun e => crow_kept (h.1 e) HH.out.1 (by have := HO.out; omega), fun e => absurd e hj⟩) (fun j u hj h => HH.out.2.1 j u hj h)
        case fin17 =>
          intro vals w6 hle hV
          obtain ⟨b, hb1, hb2, hb3⟩ := hV 7 (by decide)
          obtain ⟨g, hg1, hg2, hg3⟩ := hV 9 (by decide)
          have e0 : vals 0 = .int .i64 k := hV 0 (by decide)
          have hle' : Fr (fun j => j = gV ∨ j = gC) wr w6 := Fr.trans (Fr.drew (Fr.refl _ wr)) hle (fun _ _ h => h)
          have HBN : Hid (BdK w6 gV gC w5.heap.size (k + 1) ma mc ms (fun i => if i = k then b else vn i) (fun i => if i = k then g else cn i)) := Lib.hid (by
            have old := HB.out
            have ho := HOW.out
            have keepv : ∀ i, i < k → vn i < wr.heap.size := fun i hi => lt_of (old.v i hi).2
            have keepc : ∀ i, i < k → cn i < wr.heap.size := fun i hi => lt_of (old.c i hi).2
            have ho5 := HO.out
            refine ⟨⟨_, hb3, fun i hi => ?_⟩, ⟨_, hg3, fun i hi => ?_⟩, fun i hi => ?_, fun i hi => ?_, fun i j hi hj e => ?_, fun i j hi hj e => ?_⟩
            · by_cases h : i = k
              · simp [h]
              · simp only [if_neg h]; exact QF.out.1 i (by omega)
            · by_cases h : i = k
              · simp [h]
              · simp only [if_neg h]; exact QF.out.2 i (by omega)
            · by_cases h : i = k
              · simp only [if_pos h]; exact ⟨by omega, hb2⟩
              · simp only [if_neg h]
                have h2 := old.v i (by omega)
                exact ⟨h2.1, crow_kept h2.2 hle' (by omega)⟩
            · by_cases h : i = k
              · simp only [if_pos h]; exact ⟨by omega, hg2⟩
              · simp only [if_neg h]
                have h2 := old.c i (by omega)
                exact ⟨h2.1, crow_kept h2.2 hle' (by omega)⟩
            · by_cases h : i = k <;> by_cases h' : j = k
              · omega
              · simp only [if_pos h, if_neg h'] at e; have := keepv j (by omega); omega
              · simp only [if_neg h, if_pos h'] at e; have := keepv i (by omega); omega
              · simp only [if_neg h, if_neg h'] at e; exact old.vi i j (by omega) (by omega) e
            · by_cases h : i = k <;> by_cases h' : j = k
              · omega
              · simp only [if_pos h, if_neg h'] at e; have := keepc j (by omega); omega
              · simp only [if_neg h, if_pos h'] at e; have := keepc i (by omega); omega
              · simp only [if_neg h, if_neg h'] at e; exact old.ci i j (by omega) (by omega) e)
          have FN := Lib.hid (FB.out.trans hle' (fun _ _ h => h))
          clear hV hle hle' hb1 hb2 hb3 hg1 hg2 hg3 HB FB QV QF QW
          simp only [frOfU, fillU, List.setIfInBounds_toArray, List.set_cons_succ, List.set_cons_zero]
          clear e0
          go_wp2_with fail
          go_roundg (6 - (k + 1))
          case measure => omega
          case rel => exact ⟨k + 1, _, _, by omega, rfl, by congr 1, HBN, FN⟩

    have hkk : (k : Int) < 6 := by omega
    have hix : ∀ W, (Instr.index 28 (.agg (sm36 q)) (.int .i64 k)).run Try.prog W = .ok (smV (q.e k) ((q.e k).sl (q.ea k) (q.ec k))) W := fun W => once_ix36 q k hlt W
    have q2 := heap_alloc_new wr (oSm6 (q.e k) ((q.e k).sl (q.ea k) (q.ec k)))
    have f2 : Fr (fun _ => False) wr (wr.alloc (oSm6 (q.e k) ((q.e k).sl (q.ea k) (q.ec k)))) := (Fr.refl _ _).alloc _
    go_upto_region 8 with fail
    generalize wr.alloc (oSm6 (q.e k) ((q.e k).sl (q.ea k) (q.ec k))) = w2 at *
    generalize wr.heap.size = g8 at *
    have F2 := Lib.hid (HJ.out.2.trans f2 (fun _ _ h => h))
    obtain ⟨c0, c1, c2, c3, c4, c5⟩ := sm_cells q2
    clear q2 f2 hix
    by_cases hlx : (q.e k).c.l.length ≤ 50
    case neg =>
      have hl' : (50 : Int) < ((q.e k).c.l.length : Int) := by omega
      clear hlx
      go_wp2_with fail
      go_ret
      exact ⟨rfl, F1.out.trans F2.out (fun _ _ h => h)⟩
    have hlx' : ¬ (50 : Int) < ((q.e k).c.l.length : Int) := by omega
    have HLX := Lib.hid hlx
    clear hlx
    go_wp2_with fail
    go_roundg (6 - (k + 1))
    case measure => omega
    case rel => exact ⟨k + 1, by omega, rfl, by congr 1, Lib.hid ⟨fun i hi => by
      by_cases hik : i < k
      · exact HJ.out.1 i hik
      · have : i = k := by omega
        subst this; exact HLX.out, F2.out⟩⟩
end
section
open Go.ChangeShapes Go.WideShapes Go.ChangeAt Go.RowKit
set_option maxRecDepth 100000

def En6 (w : World) (q : OnQ) (v : Value) : Prop := v = .agg (sm36 q) ∧ ∀ i, SeesO w ((q.e i).sl (q.ea i) (q.ec i)) (q.e i).c.l ∧ (q.e i).ok

theorem cellsOf_En6 : Try.prog.cellsOf 28 = 36 := by kernel_rfl

theorem en6_any {H : Type} (enc : TypeId × Value → H) (w : World) {v : Value} {d : DataW H} {p : List MemPlace} {base : Nat} (hval : Value.okWide Try.prog w .any base 28 v)
    (h : DataW.Trod enc Try.prog w 0 (fun _ => true) true 28 v d p) : ∃ q, En6 w q v := by
  obtain ⟨cs, rfl⟩ : ∃ cs, v = .agg cs := by
    simp only [Value.okWide, Try.underlying28] at hval
    obtain ⟨cs, h1, _⟩ := hval
    exact ⟨cs, h1⟩
  obtain ⟨fuel, hf⟩ := h
  obtain ⟨xs, n, rfl, _, hl, hlen, hf⟩ := DataW.trod_array Try.underlying28 hf
  rw [cellsOf_En6] at hl
  have hcs : (Value.agg cs).cells.toList = cs.toList := rfl
  rw [hcs] at hl hf
  obtain ⟨cs⟩ := cs
  have hl' : cs.length = 36 := hl
  clear hl
  rcases cs with _ | ⟨c0, _ | ⟨c1, _ | ⟨c2, _ | ⟨c3, _ | ⟨c4, _ | ⟨c5, _ | ⟨c6, _ | ⟨c7, _ | ⟨c8, _ | ⟨c9, _ | ⟨c10, _ | ⟨c11, _ | ⟨c12, _ | ⟨c13, _ | ⟨c14, _ | ⟨c15, _ | ⟨c16, _ | ⟨c17, _ | ⟨c18, _ | ⟨c19, _ | ⟨c20, _ | ⟨c21, _ | ⟨c22, _ | ⟨c23, _ | ⟨c24, _ | ⟨c25, _ | ⟨c26, _ | ⟨c27, _ | ⟨c28, _ | ⟨c29, _ | ⟨c30, _ | ⟨c31, _ | ⟨c32, _ | ⟨c33, _ | ⟨c34, _ | ⟨c35, _ | ⟨c36, cs⟩⟩⟩⟩⟩⟩⟩⟩⟩⟩⟩⟩⟩⟩⟩⟩⟩⟩⟩⟩⟩⟩⟩⟩⟩⟩⟩⟩⟩⟩⟩⟩⟩⟩⟩⟩⟩
  all_goals first | (exfalso; simp at hl'; done) | skip
  have f0 : DataW.trod enc Try.prog w 0 (fun _ => true) true n 27 (List.take (Try.prog.cellsOf 27) (List.drop (0 * Try.prog.cellsOf 27) [c0, c1, c2, c3, c4, c5, c6, c7, c8, c9, c10, c11, c12, c13, c14, c15, c16, c17, c18, c19, c20, c21, c22, c23, c24, c25, c26, c27, c28, c29, c30, c31, c32, c33, c34, c35])) = xs[0]? := hf 0 (by decide)
  have f1 : DataW.trod enc Try.prog w 0 (fun _ => true) true n 27 (List.take (Try.prog.cellsOf 27) (List.drop (1 * Try.prog.cellsOf 27) [c0, c1, c2, c3, c4, c5, c6, c7, c8, c9, c10, c11, c12, c13, c14, c15, c16, c17, c18, c19, c20, c21, c22, c23, c24, c25, c26, c27, c28, c29, c30, c31, c32, c33, c34, c35])) = xs[1]? := hf 1 (by decide)
  have f2 : DataW.trod enc Try.prog w 0 (fun _ => true) true n 27 (List.take (Try.prog.cellsOf 27) (List.drop (2 * Try.prog.cellsOf 27) [c0, c1, c2, c3, c4, c5, c6, c7, c8, c9, c10, c11, c12, c13, c14, c15, c16, c17, c18, c19, c20, c21, c22, c23, c24, c25, c26, c27, c28, c29, c30, c31, c32, c33, c34, c35])) = xs[2]? := hf 2 (by decide)
  have f3 : DataW.trod enc Try.prog w 0 (fun _ => true) true n 27 (List.take (Try.prog.cellsOf 27) (List.drop (3 * Try.prog.cellsOf 27) [c0, c1, c2, c3, c4, c5, c6, c7, c8, c9, c10, c11, c12, c13, c14, c15, c16, c17, c18, c19, c20, c21, c22, c23, c24, c25, c26, c27, c28, c29, c30, c31, c32, c33, c34, c35])) = xs[3]? := hf 3 (by decide)
  have f4 : DataW.trod enc Try.prog w 0 (fun _ => true) true n 27 (List.take (Try.prog.cellsOf 27) (List.drop (4 * Try.prog.cellsOf 27) [c0, c1, c2, c3, c4, c5, c6, c7, c8, c9, c10, c11, c12, c13, c14, c15, c16, c17, c18, c19, c20, c21, c22, c23, c24, c25, c26, c27, c28, c29, c30, c31, c32, c33, c34, c35])) = xs[4]? := hf 4 (by decide)
  have f5 : DataW.trod enc Try.prog w 0 (fun _ => true) true n 27 (List.take (Try.prog.cellsOf 27) (List.drop (5 * Try.prog.cellsOf 27) [c0, c1, c2, c3, c4, c5, c6, c7, c8, c9, c10, c11, c12, c13, c14, c15, c16, c17, c18, c19, c20, c21, c22, c23, c24, c25, c26, c27, c28, c29, c30, c31, c32, c33, c34, c35])) = xs[5]? := hf 5 (by decide)
  rw [List.getElem?_eq_getElem (by omega)] at f0 f1 f2 f3 f4 f5
  simp only [cellsOf_Sm, Nat.reduceMul, List.drop_zero, List.drop_succ_cons, List.take_succ_cons, List.take_zero] at f0 f1 f2 f3 f4 f5
  obtain ⟨s0, a0, k0, e0, hs0, ho0⟩ := sm_reads enc w f0
  simp only [List.cons.injEq, and_true] at e0
  obtain ⟨rfl, rfl, rfl, rfl, rfl, rfl⟩ := e0
  clear f0
  obtain ⟨s1, a1, k1, e1, hs1, ho1⟩ := sm_reads enc w f1
  simp only [List.cons.injEq, and_true] at e1
  obtain ⟨rfl, rfl, rfl, rfl, rfl, rfl⟩ := e1
  clear f1
  obtain ⟨s2, a2, k2, e2, hs2, ho2⟩ := sm_reads enc w f2
  simp only [List.cons.injEq, and_true] at e2
  obtain ⟨rfl, rfl, rfl, rfl, rfl, rfl⟩ := e2
  clear f2
  obtain ⟨s3, a3, k3, e3, hs3, ho3⟩ := sm_reads enc w f3
  simp only [List.cons.injEq, and_true] at e3
  obtain ⟨rfl, rfl, rfl, rfl, rfl, rfl⟩ := e3
  clear f3
  obtain ⟨s4, a4, k4, e4, hs4, ho4⟩ := sm_reads enc w f4
  simp only [List.cons.injEq, and_true] at e4
  obtain ⟨rfl, rfl, rfl, rfl, rfl, rfl⟩ := e4
  clear f4
  obtain ⟨s5, a5, k5, e5, hs5, ho5⟩ := sm_reads enc w f5
  simp only [List.cons.injEq, and_true] at e5
  obtain ⟨rfl, rfl, rfl, rfl, rfl, rfl⟩ := e5
  clear f5
  refine ⟨⟨0, 0, 0, 0, fun i => if i = 0 then s0 else if i = 1 then s1 else if i = 2 then s2 else if i = 3 then s3 else if i = 4 then s4 else s5, fun i => if i = 0 then a0 else if i = 1 then a1 else if i = 2 then a2 else if i = 3 then a3 else if i = 4 then a4 else a5, fun i => if i = 0 then k0 else if i = 1 then k1 else if i = 2 then k2 else if i = 3 then k3 else if i = 4 then k4 else k5⟩, rfl, fun i => ?_⟩
  match i with
  | 0 => exact ⟨hs0, ho0⟩
  | 1 => exact ⟨hs1, ho1⟩
  | 2 => exact ⟨hs2, ho2⟩
  | 3 => exact ⟨hs3, ho3⟩
  | 4 => exact ⟨hs4, ho4⟩
  | 5 => exact ⟨hs5, ho5⟩
  | j + 6 => exact ⟨hs5, ho5⟩

theorem chonce_all (m : Int) (h0 : 0 ≤ m) (h1 : m ≤ 65535) (q : OnQ) (v : Value) {w : World} (hq : En6 w q v) (l : List MvE) (u : Value) (h : MvActs w l u) :
    Calls Try.prog 3 #[.int .u16 m, v, u] w fun e w' => e = .returned (.bool true) ∧ Fr (fun _ => False) w w' := by
  obtain ⟨mb, rfl⟩ : ∃ mb : Nat, m = mb := ⟨m.toNat, by omega⟩
  obtain ⟨rfl, hs⟩ := hq
  rcases h with ⟨rfl, a, c, rfl⟩ | ⟨g, off, cap, rfl, hle, hall⟩
  · exact chonce_law mb q [] a c w (by omega) (.inl rfl) hs
  · exact chonce_law mb q l _ cap w (by omega) (.inr ⟨g, off, rfl, hle, hall⟩) hs
end
end Go.Proofs.Ytcjfinabffpgkaa
