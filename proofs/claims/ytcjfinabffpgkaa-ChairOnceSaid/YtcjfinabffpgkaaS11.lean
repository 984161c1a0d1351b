/-
  What ChOnce rests on, part 11: ChOnceLoopA.
-/
import Derived.Test.YtcjfinabffpgkaaS10
set_option linter.unusedVariables false
set_option linter.unusedSimpArgs false
set_option maxHeartbeats 64000000
namespace Go.Proofs.Ytcjfinabffpgkaa
open Go.RowKit
open Go.Lib (hid)
section
set_option maxRecDepth 100000

/-- The loops of a piece of code, in their order; none that stands inside another. -/
def loopsOf : Code → List Code
  | .loop c => [c]
  | .seq a b => loopsOf a ++ loopsOf b
  | .block _ c => loopsOf c
  | .scope c => loopsOf c
  | .cond _ a b => loopsOf a ++ loopsOf b
  | _ => []
noncomputable def onceBody : Code := ((Try.f3.body.map loopsOf).getD []).getD 2 .skip

/-- Kept apart from all tactics. -/
structure Kept (P : Prop) : Prop where
  out : P

noncomputable def chonce_open (mb : Nat) (q : OnQ) (l : List MvE) (g offa : Nat) (cap : Nat) (w : World) (g4 : Nat) (u6 u8 u12 u43 u44 u45 u46 u47 u48 u49 u56 u57 u58 u59 u60 u61 u62 u63 u64 u65 : Value) (ma : Option Addr) (mc : Nat) (ms : List Int) (z6 : Int) (w7 : World) (p : OnP) (Q : OnQ) (K : Act → World → Prop) (Q0 : Exit → Act → World → Prop) :
    (P : Prop) ×' (Kept P → ∀ (HL : Hid (l = [] ∨ ∃ g' off, some (⟨g, offa, none⟩ : Addr) = some ⟨g', off, none⟩ ∧ l.length ≤ cap ∧ ∀ (j : Nat) (x : MvE), l[j]? = some x → MvOk w x ∧ ∀ (i : Nat) (v : Value), x.cells[i]? = some v → w.cell? ⟨g', off + j * 4 + i, none⟩ = some v)) (HMB : Hid (mb < 65536)) (HW : Hid (w.heap.size = g4)) (HN : Hid (l.length ≤ 300)) (HQ0 : Hid (Q0 = bodyPost Try.prog Try.f3 fun e w' => e = .returned (.bool true) ∧ Fr (fun _ => False) w w')) (hK : ∀ (a : Act) (w' : World), Code.wp Try.prog ((Code.region 63 #[{ dst := some 6, op := Op.assign (Operand.const (Value.bool true)), type := 4, pos := "law.go:178", after := #[], guard := none }] false).seq Code.ret) Q0 a w' → K a w') (FF : Hid (OnF p)) (FN : Hid (OnN p w.heap.size)) (HM6' : Hid (∀ (x : Int), x ∈ p.ms → In6 x)) (ND' : Hid (0 < p.ms.length)) (FEW : Hid (p.ms.length ≤ 16)) (SX' : Hid (∀ (i : Nat), i < 6 → SmAt w.heap.size w (Q.e i) ((Q.e i).sl (Q.ea i) (Q.ec i)))) (I7 : Hid (OnI p Q w w7 (fun _ => VtN.zero) (fun _ => ChN.new) (fun _ => nilS) nilS [] En.zero (fun _ => none) (fun _ _ => False) false 0 0)), Code.wp Try.prog (Code.loop onceBody) (Exit.inBlock 4 (Exit.then K Q0)) ({ tmps := #[Value.int IntKind.u16 ↑mb, Value.agg (sm36 q), Value.slice (some ⟨g, offa, none⟩) l.length cap, undef, Value.pointer (some ⟨Q.g4, 0, none⟩), undef, u6, undef, u8, Value.pointer (some ⟨Q.gW, 0, none⟩), Value.pointer (some ⟨Q.gV, 0, none⟩), Value.pointer (some ⟨Q.gC, 0, none⟩), u12, Value.slice none 0 0, Value.pointer (some ⟨p.gX, 0, none⟩), Value.bool false, Value.int IntKind.i64 0, undef, undef, undef, undef, undef, undef, undef, undef, undef, undef, undef, undef, undef, undef, undef, undef, undef, undef, Value.bool true, Value.bool false, Value.slice (some ⟨g, offa, none⟩) l.length cap, Value.int IntKind.i64 ↑l.length, Value.bool false, Value.agg (sm36 q), Value.int IntKind.i64 6, Value.bool false, u43, u44, u45, u46, u47, u48, u49, Value.int IntKind.u16 ↑mb, Value.int IntKind.u16 (↑mb % 64), Value.slice ma ms.length mc, Value.agg #[Value.int IntKind.i64 0, Value.slice ma ms.length mc], Value.int IntKind.i64 z6, Value.bool false, u56, u57, u58, u59, u60, u61, u62, u63, u64, u65, Value.slice (some ⟨g, offa, none⟩) l.length cap, Value.int IntKind.i64 ↑l.length, Value.int IntKind.i64 0, undef, undef, undef, undef, undef, undef, undef, undef, undef, undef, undef, undef, undef, undef, undef, undef, undef, undef, undef, undef, undef, undef, undef, undef, undef, undef, undef, undef, undef, undef, undef, undef, undef, undef, undef, undef, undef, undef, undef, undef, undef, undef, undef, undef, undef, undef, undef, undef, undef, undef, undef, undef, undef, undef, undef, undef, undef, undef, undef, undef, undef, undef, undef, undef, undef, undef, undef, undef, undef, undef, undef, undef, undef, undef, undef, undef, undef, undef, undef, undef, undef, undef, undef, undef, undef, undef, undef, undef, undef, undef, undef, undef, undef, undef, undef, undef, undef, undef, undef, undef, undef, undef, undef, undef, undef, undef, undef, undef, undef, undef, undef, undef, undef, undef, undef, undef, undef, undef, undef, undef, undef, undef, undef, undef, undef, undef, undef, undef, undef, undef, undef, undef, undef, undef, undef, undef, undef, undef, undef, undef, undef, undef, undef, undef, undef, undef, undef, undef, undef, undef, undef, undef, undef, undef, undef, undef, undef, undef, undef, undef, undef, undef, undef, undef, undef, undef, undef, undef, undef, undef, undef, undef, undef, undef, undef, undef, undef, undef, undef, undef, undef, undef, undef, undef, undef, undef, undef, undef, undef, undef, undef, undef, undef, undef, undef, undef, undef, undef, undef, undef, undef, undef, undef, undef, undef, undef, undef, undef, undef, undef, undef, undef, undef, undef, undef, undef, undef], defers := [] } : Act) w7) := by
  apply PSigma.mk
  intro HKEPT HL HMB HW HN HQ0 hK FF FN HM6' ND' FEW SX' I7
  conv => arg 2; arg 1; whnf
  refine loop_mix [false, false, false, false, false, false, true, false, true, false, false, false, true, true, false, true, true, false, true, true, true, false, true, true, true, true, true, true, true, true, true, false, true, true, true, false, false, false, false, false, false, false, false, true, true, true, true, true, true, true, false, false, false, false, false, false, true, true, true, true, true, true, true, true, true, true, false, false, true, true, true, true, true, true, true, true, true, true, true, true, true, true, true, true, true, true, true, true, true, true, true, true, true, true, true, true, true, true, true, true, true, true, true, true, true, true, true, true, true, true, true, true, true, true, true, true, true, true, true, true, true, true, true, true, true, true, true, true, true, true, true, true, true, true, true, true, true, true, true, true, true, true, true, true, true, true, true, true, true, true, true, true, true, true, true, true, true, true, true, true, true, true, true, true, true, true, true, true, true, true, true, true, true, true, true, true, true, true, true, true, true, true, true, true, true, true, true, true, true, true, true, true, true, true, true, true, true, true, true, true, true, true, true, true, true, true, true, true, true, true, true, true, true, true, true, true, true, true, true, true, true, true, true, true, true, true, true, true, true, true, true, true, true, true, true, true, true, true, true, true, true, true, true, true, true, true, true, true, true, true, true, true, true, true, true, true, true, true, true, true, true, true, true, true, true, true, true, true, true, true, true, true, true, true, true, true, true, true, true, true, true, true, true, true, true, true] (fun gh uu wr => ∃ (k : Nat) (V : Int → VtN) (C : Int → ChN) (hv : Int → Value) (way : List FlM) (cz : En) (val : Vals) (acc : Accs) (sm : Bool) (rd : Nat), k ≤ l.length ∧ gh = l.length - k ∧ uu 68 = .int .i64 k ∧ uu 15 = .bool sm ∧ uu 16 = .int .i64 rd ∧ Hid (OnI p Q w wr V C hv (uu 13) way cz val acc sm rd k)) l.length (by kernel_rfl) ?atS ?rnd
  case atS => exact ⟨0, _, _, _, _, _, _, _, _, 0, Nat.zero_le _, rfl, rfl, rfl, rfl, I7⟩
  case rnd =>
    intro gk uu wr hrel JJ KK hJJ hKK
    obtain ⟨k, V, C, hv, way, cz, val, acc, sm, rd, hk, rfl, e68, e15, e16, I⟩ := hrel
    simp only [mixU_t, mixU_f, mixU_n, Nat.reduceAdd]
    rw [e68, e15, e16]
    obtain ⟨u13, hu13⟩ : ∃ z, z = uu 13 := ⟨_, rfl⟩
    rw [← hu13] at I ⊢
    clear hu13 e68 e15 e16
    clear I7
    by_cases hlt : k < l.length
    case neg =>
      go_wp2_with fail
      rw [HQ0.out]
      go_ret
      exact ⟨rfl, I.out.fr⟩
    rcases HL.out with h0 | ⟨g', offa', eqq, hcap, hll⟩
    · rw [h0] at hlt; exact absurd hlt (by simp)
    have eq1 : g = g' := by simp at eqq; exact eqq.1
    have eq2 : offa = offa' := by simp at eqq; exact eqq.2
    subst eq1
    subst eq2
    clear eqq
    obtain ⟨x, hx⟩ : ∃ x, l[k]? = some x := ⟨l[k], List.getElem?_eq_getElem hlt⟩
    have hcl := (hll k x hx).2
    have hcw : ∀ i v, x.cells[i]? = some v → wr.cell? ⟨g, offa + k * 4 + i, none⟩ = some v := fun i v h => by
      have h1 := hcl i v h
      rw [I.out.fr.cell (World.block_lt_of_cell? w _ h1) (fun h => h)]
      exact h1
    have c0 := hcw 0 _ rfl
    rw [Nat.add_zero] at c0
    have c1 := hcw 1 _ rfl
    have c2 := hcw 2 _ rfl
    have c3 := hcw 3 _ rfl
    have HX : Hid (MvOk w x) := Lib.hid (hll k x hx).1
    clear hx hcl hcw hll
    obtain ⟨wvx, hwvx⟩ : ∃ z, z = u13 := ⟨_, rfl⟩
    have HWV := Lib.hid hwvx
    clear hwvx
    go_upto_region 25 with fail
    have q8 := heap_alloc_new wr (oMv x)
    have f8 : Fr (fun _ => False) wr (wr.alloc (oMv x)) := (Fr.refl _ _).alloc _
    clear c0 c1 c2 c3
    generalize wr.alloc (oMv x) = w8 at *
    obtain ⟨gA, hgA⟩ : ∃ g, g = wr.heap.size := ⟨_, rfl⟩
    rw [← hgA] at q8 ⊢
    have Q8 := Lib.hid q8
    have I8 := Lib.hid (I.out.new f8)
    clear q8 f8 I hgA
    obtain ⟨⟨hn0, hn1⟩, hl0, hl1⟩ := HX.out
    obtain ⟨hcapm, gm, off, hma, hcellm⟩ := (sic_of I8.out.s.view) ND'.out
    have HMA := Lib.hid hma
    have hpos := ND'.out
    obtain ⟨j, hj⟩ : ∃ j, j = x.n.toNat % p.ms.length := ⟨_, rfl⟩
    have hjl : j < p.ms.length := by rw [hj]; exact Nat.mod_lt _ hpos
    have HJ : Hid (x.n.tmod (p.ms.length : Int) = (j : Int)) := Lib.hid (by rw [hj, Int.tmod_eq_emod_of_nonneg hn0]; exact mod_nat _ _ hn0)
    have HWX : Hid (IntKind.i64.wrap x.n = x.n) := Lib.hid (by rw [IntKind.wrap_i64]; omega)
    have HNE : Hid (¬ p.ms = []) := Lib.hid (fun e => by rw [e] at hpos; simp at hpos)
    obtain ⟨n, hn⟩ : ∃ n, n = p.ms[j] := ⟨_, rfl⟩
    have hin := HM6'.out n (by rw [hn]; exact List.getElem_mem hjl)
    have HNM : Hid (n ∈ p.ms) := Lib.hid (by rw [hn]; exact List.getElem_mem hjl)
    obtain ⟨nd, rfl⟩ : ∃ i : Nat, n = i := ⟨n.toNat, by have := hin.1; omega⟩
    have HIN := Lib.hid hin
    have hi6 : nd < 6 := by have := hin.2; omega
    have hi6z : (nd : Int) < 6 := by omega
    have hcj := hcellm j hjl
    rw [← hn] at hcj
    have HC := Lib.hid hcj
    clear hcellm hcj hin hn hj hcapm hma
    refine wp_region_told (by kernel_rfl) (fun a b => Fr (fun _ => False) a b) (fun w => Fr.refl _ w) (fun _ _ _ h k => h.trans k (fun _ _ h => h)) [72, 73, 74, 75, 76, 77, 78, 79, 80, 81, 82, 19] rfl (by decide) (by intro d hd; simp at hd ⊢; omega)
      (fun i v _ => v = ([.pointer (some ⟨Q.gW, 1, none⟩), .slice (some ⟨gm, off, none⟩) p.ms.length p.mc, .pointer (some ⟨gA, 0, none⟩), .int .u8 x.n, .int .i64 x.n, .pointer (some ⟨Q.gW, 1, none⟩), .slice (some ⟨gm, off, none⟩) p.ms.length p.mc, .int .i64 p.ms.length, .int .i64 j, .pointer (some ⟨gm, off + j, none⟩), .int .i64 nd, .int .i64 nd] : List Value).getD i undef)
      (fun _ _ _ _ _ h => h) (by kernel_rfl) ?stepr25 ?finr25
    case stepr25 =>
      intro vals
      simp only [frOf, fill, List.setIfInBounds_toArray, List.set_cons_succ, List.set_cons_zero]
      repeat' (first | exact AllOps.nil | refine AllOps.cons ?_ ?_)
      all_goals
        intro wx hle he K' hK
        simp only [Act.put, List.setIfInBounds_toArray, List.set_cons_succ, List.set_cons_zero, List.getD_cons_zero, List.getD_cons_succ] at hK
        simp only [List.mem_cons, List.not_mem_nil, or_false, forall_eq_or_imp, forall_eq, Region.binds, forall_const, false_imp_iff, List.getD_cons_zero, List.getD_cons_succ] at he
        try simp only [he] at hK ⊢
        have hl5 := Fr.trans (Fr.drew (Fr.refl (fun _ => False) w8)) hle (fun _ _ h => h)
        have hl8 := Lib.hid hl5
        obtain ⟨v0, v1⟩ := vw_cells (crow_kept I8.out.a.rw' hl5 (fun h => h))
        rw [HMA.out] at v1
        obtain ⟨a0, a1, a2, a3⟩ := mv_cells (crow_kept Q8.out hl5 (fun h => h))
        have cj : wx.cell? ⟨gm, off + j, none⟩ = some (.int .i64 nd) := by rw [← HC.out]; exact hl5.cell (World.block_lt_of_cell? w8 _ HC.out) (fun h => h)
        have hjj := HJ.out
        have hne := HNE.out
        have hwx := HWX.out
        clear hl5 hle he
        try go_simp
      all_goals first
        | exact hK _ _ (Fr.refl _ _) rfl
        | skip
    case finr25 =>
      intro vals w9 hle hV
      have h9 : vals 11 = .int .i64 nd := hV 11 (by decide)
      clear hV
      have hw9 := Fr.trans (Fr.drew (Fr.refl (fun _ => False) w8)) hle (fun _ _ h => h)
      have I9 := Lib.hid (I8.out.new hw9)
      have Q9 := Lib.hid (crow_kept Q8.out hw9 (fun h => h))
      clear hle hw9 I8 Q8 HC
      simp only [frOf, fill, List.setIfInBounds_toArray, List.set_cons_succ, List.set_cons_zero, Nat.reduceAdd]
      simp only [h9]
      clear h9
      clear hn0 hn1 hpos hjl
      obtain ⟨a0, a1, a2, a3⟩ := mv_cells Q9.out
      obtain ⟨xop, hop⟩ : ∃ b, b = x.op := ⟨_, rfl⟩
      rw [← hop] at a2
      clear hop
      cases xop with
      | true =>
        focus
          have hrd : rd ≤ 300 := by have := I9.out.r; have := HN.out; omega
          go_upto_region 29 with fail
          obtain ⟨R, hR⟩ : ∃ R : Int, R = ((rd : Int) + 1) / 2 + 1 := ⟨_, rfl⟩
          rw [← hR]
          have HR := Lib.hid (show R = (((rd + 1) / 2 + 1 : Nat) : Int) from by rw [hR]; omega)
          have q10 := heap_alloc_new w9 (oBa R nd)
          have f10 : Fr (fun _ => False) w9 (w9.alloc (oBa R nd)) := (Fr.refl _ _).alloc _
          clear a0 a1 a2 a3 hR
          generalize w9.alloc (oBa R nd) = w10 at *
          obtain ⟨gB, hgB⟩ : ∃ g, g = w9.heap.size := ⟨_, rfl⟩
          rw [← hgB] at q10 ⊢
          have Q10 := Lib.hid q10
          have I10 := Lib.hid (I9.out.new f10)
          have HRD := Lib.hid hrd
          clear q10 f10 I9 Q9 hgB hrd
          have HPR := Lib.hid (show True from trivial)
          obtain ⟨L, hL⟩ : ∃ L, L = blt (V nd).pr (V nd).pn R nd := ⟨_, rfl⟩
          obtain ⟨E, hE⟩ : ∃ E, E = beq2 (C nd).br (C nd).bn R nd := ⟨_, rfl⟩
          have HLB := Lib.hid hL
          have HEB := Lib.hid hE
          have HEQ : Hid (∀ W, (Op.equalIn 10000 40 (.agg #[.int .i64 (C nd).br, .int .i64 (C nd).bn]) (.agg #[.int .i64 R, .int .i64 nd])).run Try.prog W = .ok E W) := Lib.hid (fun W => by rw [hE]; exact ba_equal 9998 _ _ _ _ W)
          clear hL hE
          go_cut [106] from 92 to 106 (fun c wx => c = .bool (!L || E) ∧ Fr (fun _ => False) w10 wx)
          case first =>
            cases L with
            | false =>
              refine wp_region_told (by kernel_rfl) (fun a b => Fr (fun _ => False) a b) (fun w => Fr.refl _ w) (fun _ _ _ h k => h.trans k (fun _ _ h => h)) [92, 93, 94, 95, 96, 97, 98, 99, 100, 101, 102, 103, 104, 105, 106] rfl (by decide) (by intro d hd; simp at hd ⊢; omega)
                (fun i v _ => v = ([.int .i64 nd, .pointer (some ⟨Q.gV, nd, none⟩), .pointer (some ⟨p.vb nd, 0, none⟩), ball (V nd).pr (V nd).pn, ball R nd, .bool false, .bool true, .bool true, undef, undef, undef, undef, undef, undef, .bool true] : List Value).getD i undef)
                (fun _ _ _ _ _ h => h) (by kernel_rfl) ?stept29f ?fint29f
              case stept29f =>
                intro vals
                simp only [frOf, fill, List.setIfInBounds_toArray, List.set_cons_succ, List.set_cons_zero]
                repeat' (first | exact AllOps.nil | refine AllOps.cons ?_ ?_)
                all_goals
                  intro wx hle he K' hK
                  simp only [Act.put, List.setIfInBounds_toArray, List.set_cons_succ, List.set_cons_zero, List.getD_cons_zero, List.getD_cons_succ] at hK
                  simp only [List.mem_cons, List.not_mem_nil, or_false, forall_eq_or_imp, forall_eq, Region.binds, forall_const, false_imp_iff, List.getD_cons_zero, List.getD_cons_succ] at he
                  try simp only [he] at hK ⊢
                  have hl5 := Fr.trans (Fr.drew (Fr.refl (fun _ => False) w10)) hle (fun _ _ h => h)
                  have hl8 := Lib.hid hl5
                  have pv := arr6_cell (crow_kept I10.out.a.rv hl5 (fun h => h)) nd hi6
                  have pc := arr6_cell (crow_kept I10.out.a.rc hl5 (fun h => h)) nd hi6
                  simp only [ptrs] at pv pc
                  obtain ⟨b0, b1⟩ := ba_cells (crow_kept Q10.out hl5 (fun h => h))
                  have heq := HEQ.out
                  clear hl5 hle he
                  try go_simp
                all_goals first
                  | exact hK _ _ (Fr.refl _ _) rfl
                  | skip
                · go_at_call 7; refine (on_promised0 (I10.out.s.fr hl8.out) HIN.out).mono ?_; rintro e1 wa ⟨rfl, fa⟩; exact hK _ _ fa rfl
                · go_at_call 8; refine (less_any _ _ _ _ _).mono ?_; rintro e1 wa ⟨rfl, fa⟩; rw [← HLB.out]; exact hK _ _ fa rfl
              case fint29f =>
                intro vals w' hle hV
                have h9 : vals 14 = .bool true := hV 14 (by decide)
                clear hV
                have hfin := Fr.trans (Fr.drew (Fr.refl (fun _ => False) w10)) hle (fun _ _ h => h)
                clear hle
                simp only [frOf, fill, List.setIfInBounds_toArray, List.set_cons_succ, List.set_cons_zero, Nat.reduceAdd]
                simp only [h9]
                clear h9
                go_wp2_with fail
                go_meet
                exact ⟨by first | rfl | simp, hfin⟩

            | true =>
              refine wp_region_told (by kernel_rfl) (fun a b => Fr (fun _ => False) a b) (fun w => Fr.refl _ w) (fun _ _ _ h k => h.trans k (fun _ _ h => h)) [92, 93, 94, 95, 96, 97, 98, 99, 100, 101, 102, 103, 104, 105, 106] rfl (by decide) (by intro d hd; simp at hd ⊢; omega)
                (fun i v _ => v = ([.int .i64 nd, .pointer (some ⟨Q.gV, nd, none⟩), .pointer (some ⟨p.vb nd, 0, none⟩), ball (V nd).pr (V nd).pn, ball R nd, .bool true, .bool false, .bool false, .int .i64 nd, .pointer (some ⟨Q.gC, nd, none⟩), .pointer (some ⟨p.cb nd, 0, none⟩), ball (C nd).br (C nd).bn, ball R nd, .bool E, .bool E] : List Value).getD i undef)
                (fun _ _ _ _ _ h => h) (by kernel_rfl) ?stept29t ?fint29t
              case stept29t =>
                intro vals
                simp only [frOf, fill, List.setIfInBounds_toArray, List.set_cons_succ, List.set_cons_zero]
                repeat' (first | exact AllOps.nil | refine AllOps.cons ?_ ?_)
                all_goals
                  intro wx hle he K' hK
                  simp only [Act.put, List.setIfInBounds_toArray, List.set_cons_succ, List.set_cons_zero, List.getD_cons_zero, List.getD_cons_succ] at hK
                  simp only [List.mem_cons, List.not_mem_nil, or_false, forall_eq_or_imp, forall_eq, Region.binds, forall_const, false_imp_iff, List.getD_cons_zero, List.getD_cons_succ] at he
                  try simp only [he] at hK ⊢
                  have hl5 := Fr.trans (Fr.drew (Fr.refl (fun _ => False) w10)) hle (fun _ _ h => h)
                  have hl8 := Lib.hid hl5
                  have pv := arr6_cell (crow_kept I10.out.a.rv hl5 (fun h => h)) nd hi6
                  have pc := arr6_cell (crow_kept I10.out.a.rc hl5 (fun h => h)) nd hi6
                  simp only [ptrs] at pv pc
                  obtain ⟨b0, b1⟩ := ba_cells (crow_kept Q10.out hl5 (fun h => h))
                  have heq := HEQ.out
                  clear hl5 hle he
                  try go_simp
                all_goals first
                  | exact hK _ _ (Fr.refl _ _) rfl
                  | skip
                · go_at_call 7; refine (on_promised0 (I10.out.s.fr hl8.out) HIN.out).mono ?_; rintro e1 wa ⟨rfl, fa⟩; exact hK _ _ fa rfl
                · go_at_call 8; refine (less_any _ _ _ _ _).mono ?_; rintro e1 wa ⟨rfl, fa⟩; rw [← HLB.out]; exact hK _ _ fa rfl
                · go_at_call 9; refine (on_ballot (I10.out.s.fr hl8.out) HIN.out).mono ?_; rintro e1 wa ⟨rfl, fa⟩; exact hK _ _ fa rfl
              case fint29t =>
                intro vals w' hle hV
                have h9 : vals 14 = .bool E := hV 14 (by decide)
                clear hV
                have hfin := Fr.trans (Fr.drew (Fr.refl (fun _ => False) w10)) hle (fun _ _ h => h)
                clear hle
                simp only [frOf, fill, List.setIfInBounds_toArray, List.set_cons_succ, List.set_cons_zero, Nat.reduceAdd]
                simp only [h9]
                clear h9
                go_wp2_with fail
                go_meet
                exact ⟨by first | rfl | simp, hfin⟩

          case rest =>
            obtain ⟨rfl, hwx⟩ := hcut
            have I11 := Lib.hid (I10.out.new hwx)
            have Q11 := Lib.hid (crow_kept Q10.out hwx (fun h => h))
            clear hwx I10 Q10
            have hS : (!L || E) = true ∨ (!L || E) = false := by cases (!L || E) <;> simp
            rcases hS with hS | hS
            · rw [hS]
              have I12 := Lib.hid (I11.out.next)
              have hrd := HRD.out
              have HI12 : Hid (OnI p Q w wc V C hv u13 way cz val acc sm (rd + 1) (k + 1)) := Lib.hid ⟨I12.out.s, I12.out.a, ⟨I12.out.x.vt, fun n hn => (I12.out.x.ch n hn).later (Later.refl _ _ _) (by omega) ((I12.out.x.ch n hn).fresh), I12.out.x.has, I12.out.x.safe, I12.out.x.own⟩, I12.out.f, I12.out.c, I12.out.fr, by have := I11.out.r; omega, I12.out.n⟩
              clear I11 I12 hS
              have hk3 := HN.out
              go_wp2_with fail
              refine HandM.intro (l.length - (k + 1)) ?measure ?mix
              case measure => omega
              case mix => exact hJJ _ _ _ (by kernel_rfl) ⟨k + 1, V, C, hv, way, cz, val, acc, sm, rd + 1, by omega, rfl, by first | rfl | (show Value.int .i64 _ = _; congr 1), by rfl, by first | rfl | (show Value.int .i64 _ = _; congr 1), HI12⟩
            · have hLE : L = true ∧ E = false := by cases L <;> cases E <;> simp at hS ⊢
              rw [hS]
              clear hS
              have HLE := Lib.hid (And.intro (show blt (V nd).pr (V nd).pn R nd = true by rw [← HLB.out]; exact hLE.1) (show beq2 (C nd).br (C nd).bn R nd = false by rw [← HEB.out]; exact hLE.2))
              clear hLE HLB HEB HEQ
              go_upto_region 30 with fail
              refine wp_region_chain (by kernel_rfl) [some 107, some 108, some 109, some 110, some 111, some 112, some 113, some 114, some 115] rfl (by decide) (by intro d hd; simp at hd ⊢; omega)
                [7, 8] (fun cvs wx => OoS p V C hv u13 way cz nd R (Q.e nd).en wc cvs wx)
                [.free (.int .i64 nd), .free (.pointer (some ⟨Q.gC, nd, none⟩)), .free (.pointer (some ⟨p.cb nd, 0, none⟩)), .free (ball R nd), .free (.int .i64 nd), .free (.pointer (some ⟨Q.g4, nd * 6, none⟩)), .free (smV (Q.e nd) ((Q.e nd).sl (Q.ea nd) (Q.ec nd))), .link none, .link none]
                (by kernel_rfl) (by kernel_rfl) ?hr30 ?stepr30 ?finr30
              case hr30 => exact (Fr.refl _ _).drew
              case stepr30 =>
                intro vals
                simp only [frOfU, fillU, List.setIfInBounds_toArray, List.set_cons_succ, List.set_cons_zero]
                repeat' (first | exact AllOps.nil | refine AllOps.cons ?_ ?_)
                all_goals
                  intro cvs wx hS he hu hlim Kc hK
                  simp only [Act.put, List.setIfInBounds_toArray, List.set_cons_succ, List.set_cons_zero, List.getD_cons_zero, List.getD_cons_succ] at hK
                  simp only [List.mem_cons, List.not_mem_nil, or_false, forall_eq_or_imp, forall_eq, Region.binds, forall_const, qmode_gc, Bool.false_eq_true, false_imp_iff, List.getD_cons_zero, List.getD_cons_succ, OpSort.val, Option.some.injEq, forall_eq', reduceCtorEq, implies_true, true_and, and_true] at he
                  have hl5 := OoS.fr hS
                  have ak := I11.out.a.step I11.out.s hl5
                  have pc := arr6_cell ak.rc nd hi6
                  simp only [ptrs] at pc
                  obtain ⟨s0, s1, s2, s3, s4, s5⟩ := e6_cells ak.re nd hi6
                  obtain ⟨b0, b1⟩ := ba_cells (crow_kept Q11.out hl5 (I11.out.s.non Q11.out (by decide) (by decide) (by decide) (.inl (by decide)) (.inl (by decide))))
                  clear ak hl5
                  have HSX := Lib.hid hS
                  clear hS
                all_goals first | (clear hlim hu; (try simp only [he] at hK ⊢); go_simp; exact hK) | skip
                · obtain rfl := hlim (0 : Nat) rfl
                  have h1 : Fr (fun _ => False) wc wx := HSX.out
                  have H1 := Lib.hid h1
                  clear hlim hu HSX h1
                  simp only [he] at hK ⊢
                  go_simp
                  go_at_call 11
                  refine (sentryS w.heap.size (Q.e nd) ((Q.e nd).sl (Q.ea nd) (Q.ec nd)) wx ((SX'.out nd hi6).keep (I11.out.fr.trans H1.out (fun _ _ h => h)) (fun _ h => h.elim))).mono ?_
                  rintro er wa ⟨v', u', rfl, he', hf', haw, hsm⟩
                  exact hK _ _ (fun _ h => by cases h) ⟨v', u', rfl, he', aways_of (fun k hk => haw k (I11.out.s.newer FN.out k hk) (Nat.lt_of_lt_of_le (I11.out.s.Mlt k hk) H1.out.size)), hsm, H1.out.trans hf' (fun _ _ h => h)⟩
                · obtain rfl := hlim (1 : Nat) rfl
                  obtain ⟨v', u', hv7, hes, haw, hsm, h1⟩ : OoS p V C hv u13 way cz nd R (Q.e nd).en wc [vals 7] wx := HSX.out
                  have H1 := Lib.hid (And.intro h1 (And.intro hes (And.intro haw hsm)))
                  clear hlim hu HSX h1 hes haw hsm
                  simp only [he, hv7] at hK ⊢
                  clear hv7
                  go_simp
                  go_at_call 10
                  refine (on_open FF.out (I11.out.s.fr H1.out.1) HIN.out H1.out.2.1 H1.out.2.2.1 H1.out.2.2.2).mono ?_
                  rintro er wa ⟨rfl, fa, hc⟩
                  exact hK _ _ (fun _ h => by cases h) ⟨(H1.out.1.mono (fun _ _ h => h.elim)).trans fa (fun _ _ h => h), hc⟩
              case finr30 =>
                intro vals w12 hS hV
                have v0 := hV 0 _ (by decide) rfl
                have v1 := hV 1 _ (by decide) rfl
                have v2 := hV 2 _ (by decide) rfl
                have v3 := hV 3 _ (by decide) rfl
                have v4 := hV 4 _ (by decide) rfl
                have v5 := hV 5 _ (by decide) rfl
                have v6 := hV 6 _ (by decide) rfl
                clear hV
                simp only [frOfU, fillU, List.setIfInBounds_toArray, List.set_cons_succ, List.set_cons_zero]
                simp only [Nat.reduceAdd, v0, v1, v2, v3, v4, v5, v6]
                clear v0 v1 v2 v3 v4 v5 v6
                obtain ⟨h1, h2⟩ : OoS p V C hv u13 way cz nd R (Q.e nd).en wc [vals 7, vals 8] w12 := hS
                have hrd := HRD.out
                have hr := I11.out.r
                have S12 := Lib.hid h2
                have A12 := Lib.hid (I11.out.a.step I11.out.s h1)
                have F12 := Lib.hid (I11.out.s.frame FN.out I11.out.fr h1)
                have Q12 := Lib.hid (crow_kept Q11.out h1 (I11.out.s.non Q11.out (by decide) (by decide) (by decide) (.inl (by decide)) (.inl (by decide))))
                have HBO : Hid (BaOk R nd) := Lib.hid ⟨by rw [HR.out]; omega, HIN.out.1, HIN.out.2⟩
                have P12 := Lib.hid (pax_open I11.out.x HNM.out HIN.out (rd' := R) (by rw [HR.out]; omega) (by rw [HR.out]; omega) HLE.out.2 (Q.e nd).en)
                have L12 : Hid (∀ y ∈ way, FlOk y.f V val acc ∧ y.f.f ∈ p.ms ∧ y.f.t ∈ p.ms) := Lib.hid I11.out.f
                have C12 : Hid (sm = true → Cho p.ms val acc cz) := Lib.hid I11.out.c
                have N12 : Hid (way.length ≤ 16 * k) := Lib.hid I11.out.n
                have R12 : Hid (rd ≤ k) := Lib.hid hr
                clear h1 h2 I11 Q11 hr hrd
                generalize vals 7 = y7
                generalize vals 8 = y8
                generalize hCn : upd C (nd : Int) (ChN.open R nd (Q.e nd).en) = Cn at *
                generalize hHn : upd hv (nd : Int) nilS = hvn at *
                clear hCn hHn
                obtain ⟨hcapm, gm2, off2, hma, hcellm⟩ := (sic_of S12.out.view) ND'.out
                obtain ⟨v0, v1⟩ := vw_cells A12.out.rw'
                rw [hma] at v1
                have HMA2 := Lib.hid hma
                clear hma hcellm hcapm
                go_upto_region 32 with fail
                clear v0 v1
                go_loopg [13, 119] p.ms.length (fun gh u13 u119 wx => ∃ (jj : Nat) (way' : List FlM), jj ≤ p.ms.length ∧ gh = p.ms.length - jj ∧ u119 = .int .i64 jj ∧ Hid (OnS p wx V Cn hvn u13 way' cz) ∧ Hid (OnA p Q wx) ∧ Hid (∀ y ∈ way', FlOk y.f V val acc ∧ y.f.f ∈ p.ms ∧ y.f.t ∈ p.ms) ∧ Hid (way'.length ≤ 16 * k + jj) ∧ Hid (Fr (fun _ => False) w wx) ∧ Hid (wx.heap[gB]? = some (oBa R nd)))
                case atStart => exact ⟨0, way, Nat.zero_le _, rfl, rfl, S12, A12, L12, N12, F12, Q12⟩
                case round =>
                  obtain ⟨jj, way', hjj, rfl, rfl, SJ, AJ, LJ, NJ, FJ, QJ⟩ := hrel
                  clear S12 A12 L12 N12 F12 Q12
                  by_cases hlt4 : jj < p.ms.length
                  case neg =>
                    have hjj' : jj = p.ms.length := by omega
                    have IN : Hid (OnI p Q w wr V Cn hvn u13 way' cz val acc sm (rd + 1) (k + 1)) := Lib.hid ⟨SJ.out, AJ.out, by have h := P12.out; rw [HR.out] at h; exact h, LJ.out, C12.out, FJ.out, by have := R12.out; omega, by have := NJ.out; have := FEW.out; omega⟩
                    have hk3 := HN.out
                    clear SJ AJ LJ NJ FJ QJ P12 hlt4
                    go_wp2_with fail
                    refine HandM.intro (l.length - (k + 1)) ?measure ?mix
                    case measure => omega
                    case mix => exact hJJ _ _ _ (by kernel_rfl) ⟨k + 1, V, Cn, hvn, way', cz, val, acc, sm, rd + 1, by omega, rfl, by first | rfl | (show Value.int .i64 _ = _; congr 1), by rfl, by first | rfl | (show Value.int .i64 _ = _; congr 1), IN⟩
                  obtain ⟨m, hm⟩ : ∃ m, m = p.ms[jj] := ⟨_, rfl⟩
                  have HMM4 : Hid (m ∈ p.ms) := Lib.hid (by rw [hm]; exact List.getElem_mem hlt4)
                  have cj : wr.cell? ⟨gm2, off2 + jj, none⟩ = some (.int .i64 m) := by
                    obtain ⟨_, gm3, off3, hma3, hcell3⟩ := (sic_of SJ.out.view) ND'.out
                    rw [HMA2.out] at hma3
                    cases hma3
                    rw [hm]
                    exact hcell3 jj hlt4
                  clear hm
                  go_upto_region 34 with fail
                  clear cj
                  obtain ⟨b0, b1⟩ := ba_cells QJ.out
                  have fa : Fr (fun _ => False) wr (wr.alloc (FlM.obj ⟨⟨0, nd, m, R, nd, 0, 0, false, En.zero⟩, nilS, nilS⟩)) := (Fr.refl _ _).alloc _
                  have FA4 := Lib.hid (And.intro fa (heap_alloc_new wr (FlM.obj ⟨⟨0, nd, m, R, nd, 0, 0, false, En.zero⟩, nilS, nilS⟩)))
                  clear fa
                  have hk3 := HN.out
                  go_wp2_with (at_builtin; refine wpList_append_fl rfl (.tmp 123) (.tmp 128) rfl p.B u13 way' rfl ?own wr.heap.size 1 ⟨⟨0, nd, m, R, nd, 0, 0, false, En.zero⟩, nilS, nilS⟩ rfl ?row rfl rfl ?len ?base ?grow)
                  case own => exact SJ.out.wo.fr FA4.out.1 (fun _ _ h => h)
                  case row => exact FA4.out.2
                  case len => have := NJ.out; have := FEW.out; omega
                  case base => exact Nat.le_trans (SJ.out.ch 0 in0).1.base FA4.out.1.size
                  case grow =>
                    intro v' w' hown hg hvv
                    obtain ⟨hs, hfr⟩ := SJ.out.push FF.out FA4.out.1 hown hg (by rw [World.size_alloc]; exact hvv) ⟨es_zero _, ⟨.inl rfl, .inl rfl⟩, small_zero⟩
                    have SN := Lib.hid hs
                    have AN := Lib.hid (AJ.out.step SJ.out hfr)
                    have FN4 := Lib.hid (SJ.out.frame FN.out FJ.out hfr)
                    have QN := Lib.hid (crow_kept QJ.out hfr (SJ.out.non QJ.out (by decide) (by decide) (by decide) (.inl (by decide)) (.inl (by decide))))
                    have LN : Hid (∀ y ∈ way' ++ [⟨⟨0, nd, m, R, nd, 0, 0, false, En.zero⟩, nilS, nilS⟩], FlOk y.f V val acc ∧ y.f.f ∈ p.ms ∧ y.f.t ∈ p.ms) := Lib.hid (fun y hy => by
                      rcases List.mem_append.1 hy with hy | hy
                      · exact LJ.out y hy
                      · simp at hy
                        subst hy
                        exact ⟨⟨HBO.out, ⟨by show (0 : Int) ≤ 0; omega, by show (0 : Int) ≤ 0; omega, by show (0 : Int) ≤ 5; omega⟩, by show (0 : Int) ≤ 0; omega, fun h => absurd h (by show ¬ (0 : Int) = 1; omega), fun h => absurd h (by show ¬ (0 : Int) = 2; omega), fun h => absurd h (by show ¬ 3 ≤ (0 : Int); omega)⟩, HNM.out, HMM4.out⟩)
                    have NN : Hid ((way' ++ [(⟨⟨0, nd, m, R, nd, 0, 0, false, En.zero⟩, nilS, nilS⟩ : FlM)]).length ≤ 16 * k + (jj + 1)) := Lib.hid (by have := NJ.out; simp; omega)
                    have hf16 := FEW.out
                    clear hown hg hvv hs hfr SJ AJ FJ QJ LJ NJ b0 b1
                    go_wp2_with fail
                    go_roundg (p.ms.length - (jj + 1))
                    case measure => omega
                    case rel => exact ⟨jj + 1, _, by omega, rfl, by congr 1, SN, AN, LN, NN, FN4, QN⟩
      | false =>
        rename_i KA hKA KB hKB
        revert HL HMB HW HN HQ0 hK FF FN HM6' ND' FEW SX' uu wr JJ KK k V C hv way cz val acc sm rd u13 x wvx KA KB w8 gA gm off j nd vals w9
        exact HKEPT.out
end
end Go.Proofs.Ytcjfinabffpgkaa
