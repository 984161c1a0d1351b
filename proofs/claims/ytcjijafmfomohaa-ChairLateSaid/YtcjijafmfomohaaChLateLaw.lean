/-
  The law ChairLate, walked.
-/
import Derived.Test.YtcjijafmfomohaaChMath
import Derived.Test.YtcjijafmfomohaaChActs
import Derived.Deep.LoopGhost
import Derived.Deep.Cut
import Derived.Deep.CutRange
import Derived.Deep.CutBlock
namespace Go.Proofs.Ytcjijafmfomohaa
open Go.RowKit
set_option maxRecDepth 100000

abbrev oSm6 (s : Sm) (v : Value) : Obj := Obj.cells #[.int .u8 s.kind, .int .u16 s.c.t, .int .u16 s.c.n, .int .u16 s.c.p, v, .int .u16 s.mb] 27 (0, 0)
abbrev oCa (x : CaE) : Obj := Obj.cells x.arr 71 (0, 0)

theorem ca_cells {w : World} {g : Nat} {x : CaE} (h : w.heap[g]? = some (oCa x)) :
    w.cell? ⟨g, 0, none⟩ = some (.int .u8 x.k) ∧ w.cell? ⟨g, 1, none⟩ = some (.int .u8 x.n) ∧ w.cell? ⟨g, 2, none⟩ = some (.int .u8 x.r) ∧ w.cell? ⟨g, 3, none⟩ = some (.int .u8 x.o) ∧ w.cell? ⟨g, 4, none⟩ = some (.bool x.so) ∧ w.cell? ⟨g, 5, none⟩ = some (.int .u8 x.s.kind) ∧ w.cell? ⟨g, 6, none⟩ = some (.int .u16 x.s.c.t) ∧
    w.cell? ⟨g, 7, none⟩ = some (.int .u16 x.s.c.n) ∧ w.cell? ⟨g, 8, none⟩ = some (.int .u16 x.s.c.p) ∧ w.cell? ⟨g, 9, none⟩ = some x.sl ∧ w.cell? ⟨g, 10, none⟩ = some (.int .u16 x.s.mb) := by
  simp [World.cell?, h]

/-- ChairLate's own variables. -/
structure LtM (w : World) (g5 g7 g9 : Nat) (s : Sm) (sl : Value) (ms : List Int) (ma : Option Addr) (mc : Nat) : Prop where
  qs : w.heap[g5]? = some (oSm6 s sl)
  qv : w.heap[g7]? = some (oVw 0 ma ms.length mc)
  qb : w.heap[g9]? = some (oBa 7 2)

theorem LtM.keep {S : Nat → Prop} {w w' : World} {g5 g7 g9 : Nat} {s : Sm} {sl : Value} {ms : List Int} {ma : Option Addr} {mc : Nat} (h : LtM w g5 g7 g9 s sl ms ma mc) (f : Fr S w w') (h5 : ¬ S g5) (h7 : ¬ S g7) (h9 : ¬ S g9) : LtM w' g5 g7 g9 s sl ms ma mc :=
  ⟨crow_kept h.qs f h5, crow_kept h.qv f h7, crow_kept h.qb f h9⟩

/-- The region 'c.Open(b, own.Entry())': what has been done. -/
def LoS (b B : Nat) (ms : List Int) (ma : Option Addr) (mc : Nat) (st : ChN) (hv : Value) (r m : Int) (s : Sm) (w4 : World) : List Value → World → Prop
  | [], wx => Fr (fun _ => False) w4 wx
  | [y], wx => ∃ v' u', y = s.en.val v' u' ∧ ES wx s.en v' u' ∧ AwayS (fun k => k = b) s.en v' u' ∧ Fr (fun _ => False) w4 wx
  | [_, _], wx => Fr (fun k => k = b) w4 wx ∧ ChS wx b B ms ma mc (.open r m s.en) nilS
  | _, _ => False
theorem LoS.fr {b B : Nat} {ms : List Int} {ma : Option Addr} {mc : Nat} {st : ChN} {hv : Value} {r m : Int} {s : Sm} {w4 wx : World} : ∀ {c : List Value}, LoS b B ms ma mc st hv r m s w4 c wx → Fr (fun k => k = b) w4 wx
  | [], h => Fr.mono h (fun _ _ h => h.elim)
  | [_], ⟨_, _, _, _, _, h⟩ => h.mono (fun _ _ h => h.elim)
  | [_, _], ⟨h, _⟩ => h
  | _ :: _ :: _ :: _, h => h.elim

/-- A promise of no entry: what has been done. -/
def LpS (b B : Nat) (ms : List Int) (ma : Option Addr) (mc : Nat) (st : ChN) (hv : Value) (n : Int) (w4 : World) : List Value → World → Prop
  | [], wx => Fr (fun _ => False) w4 wx
  | [y], wx => y = .bool (st.enough ms n) ∧ Fr (ChF b hv) w4 wx ∧ ∃ hv', ChS wx b B ms ma mc (st.hear ms n) hv' ∧ NewH w4 hv hv'
  | _, _ => False
theorem LpS.fr {b B : Nat} {ms : List Int} {ma : Option Addr} {mc : Nat} {st : ChN} {hv : Value} {n : Int} {w4 wx : World} : ∀ {c : List Value}, LpS b B ms ma mc st hv n w4 c wx → Fr (ChF b hv) w4 wx
  | [], h => Fr.mono h (fun _ _ h => h.elim)
  | [_], ⟨_, h, _⟩ => h
  | _ :: _ :: _, h => h.elim

theorem away_away {b : Nat} {x : En} {v u : Value} (h : Away b x v u) : AwayS (fun k => k = b) x v u :=
  ⟨h.1.imp id (fun h k hk e => h (by rw [hk, e])), h.2.imp id (fun h k hk e => h (by rw [hk, e]))⟩

set_option maxHeartbeats 16000000 in
theorem chlate_law (mb : Nat) (l : List CaE) (av : Option Addr) (cap : Nat) (s : Sm) (sa : Option Addr) (sc : Nat) (w : World) (hmb : mb < 65536)
    (hl : l = [] ∨ ∃ g off, av = some ⟨g, off, none⟩ ∧ l.length ≤ cap ∧ ∀ j x, l[j]? = some x → CaOk w x ∧ ∀ i v, x.cells[i]? = some v → w.cell? ⟨g, off + j * 11 + i, none⟩ = some v) (hs : SeesO w (s.sl sa sc) s.c.l) (hok : s.ok) :
    Calls Try.prog 4 #[.int .u16 mb, .slice av l.length cap, smV s (s.sl sa sc)] w fun e w' => e = .returned (.bool true) ∧ Fr (fun _ => False) w w' := by
  have HL := Lib.hid hl
  have HMB := Lib.hid hmb
  have f0 : Fr (fun _ => False) w (w.alloc (oSm6 s (s.sl sa sc))) := (Fr.refl _ _).alloc _
  have q0 := heap_alloc_new w (oSm6 s (s.sl sa sc))
  have HSO := Lib.hid (And.intro hs hok)
  clear hl hmb hs hok
  go_enter Try.func4, Try.ntmps4
  go_upto_region 1 with fail
  generalize w.alloc (oSm6 s (s.sl sa sc)) = w0 at *
  generalize hg5 : w.heap.size = g5 at *
  have HW := Lib.hid hg5
  clear hg5
  go_wp2_with fail
  refine (chawake_any w0).mono ?_
  rintro e w1 ⟨rfl, f1⟩
  have F1 := Lib.hid (f0.trans f1 (fun _ _ h => h))
  have Q1 := Lib.hid (crow_kept q0 f1 (fun h => h))
  clear f0 f1 q0
  dsimp only
  obtain ⟨c0, c1, c2, c3, c4, c5⟩ := sm_cells Q1.out
  by_cases hn : l.length ≤ 60
  case neg =>
    have hn' : (60 : Int) < (l.length : Int) := by omega
    have hd : decide ((60 : Int) < (l.length : Int)) = true := by simp [hn']
    clear hn
    go_wp2_with fail
    go_ret
    exact ⟨rfl, F1.out⟩
  have hn' : ¬ (60 : Int) < (l.length : Int) := by omega
  have hd : decide ((60 : Int) < (l.length : Int)) = false := by simp [hn']
  have HN := Lib.hid hn
  clear hn
  by_cases hlx : s.c.l.length ≤ 50
  case neg =>
    have hl' : (50 : Int) < (s.c.l.length : Int) := by omega
    have hd2 : decide ((50 : Int) < (s.c.l.length : Int)) = true := by simp [hl']
    clear hlx
    go_wp2_with fail
    go_ret
    exact ⟨rfl, F1.out⟩
  have hlx' : ¬ (50 : Int) < (s.c.l.length : Int) := by omega
  have hd2 : decide ((50 : Int) < (s.c.l.length : Int)) = false := by simp [hlx']
  have SX : Hid (SmAt w.heap.size w s (s.sl sa sc)) := Lib.hid ⟨⟨_, _, rfl⟩, HSO.out.1.1, HSO.out.1.2, HSO.out.2, by omega⟩
  clear hlx HSO
  have hbits : bits .and .u16 (mb : Int) 63 = ((mb % 64 : Nat) : Int) := bits63 mb HMB.out
  go_upto_region 5 with fail
  clear c0 c1 c2 c3 c4 c5 hn' hd hlx' hd2
  go_wp2_with fail
  refine (lmembers_any (mb % 64) (by omega) w1).mono ?_
  rintro e w2 ⟨mv, rfl, hnew⟩
  obtain ⟨hoi, f2⟩ := hnew
  have hms : bitsL (mb % 64) = mem6 mb := rfl
  rw [hms] at hoi
  obtain ⟨ma, mc, hmv⟩ := slice_of_own hoi
  have HV2 := Lib.hid (oi_le hoi)
  have HV3 := Lib.hid (fun k hk => (World.ownsRow.lt hoi k hk).2)
  have S2 := Lib.hid hoi.si
  have hl16 := mem6_len mb
  generalize hmm : mem6 mb = ms at *
  have HMM := Lib.hid hmm
  subst hmv
  have F2 := Lib.hid (F1.out.trans f2 (fun _ _ h => h))
  have Q2 := Lib.hid (crow_kept Q1.out f2 (fun h => h))
  clear hoi f2 hms hmm hbits F1 Q1
  go_upto_region 6 with fail
  have q3 := heap_alloc_new w2 (oVw 0 ma ms.length mc)
  have f3 : Fr (fun _ => False) w2 (w2.alloc (oVw 0 ma ms.length mc)) := (Fr.refl _ _).alloc _
  obtain ⟨g7, hg7⟩ : ∃ g, g = w2.heap.size := ⟨_, rfl⟩
  generalize w2.alloc (oVw 0 ma ms.length mc) = w3 at *
  rw [← hg7] at q3 ⊢
  have F3 := Lib.hid (F2.out.trans f3 (fun _ _ h => h))
  have Q3 := Lib.hid (And.intro (crow_kept Q2.out f3 (fun h => h)) q3)
  have S3 := Lib.hid (S2.out.fr f3)
  have G7 := Lib.hid (show g5 < g7 by have := lt_of Q2.out; omega)
  have HV : Hid (∀ k, (Value.slice ma ms.length mc).ownBlock = some k → k < g7) := Lib.hid (fun k hk => by have := HV3.out k hk; omega)
  clear q3 f3 F2 Q2 S2 HV2 HV3 hg7
  obtain ⟨v0, v1⟩ := vw_cells Q3.out.2
  go_wp2_with fail
  refine (chnewS g7 ms ma mc w3 S3.out HV.out (Nat.le_of_lt (lt_of Q3.out.2)) hl16.2).mono ?_
  rintro e w4 ⟨gC, rfl, hgC, f4, hch⟩
  have F4 := Lib.hid (F3.out.trans f4 (fun _ _ h => h))
  have Q4 := Lib.hid (And.intro (crow_kept Q3.out.1 f4 (fun h => h)) (crow_kept Q3.out.2 f4 (fun h => h)))
  have C4 := Lib.hid hch
  have GC : Hid (g7 < gC) := Lib.hid (by have := lt_of Q3.out.2; omega)
  clear f4 hch hgC v0 v1 F3 Q3 S3
  go_upto_region 8 with fail
  have q5 := heap_alloc_new w4 (oBa 7 2)
  have f5 : Fr (fun _ => False) w4 (w4.alloc (oBa 7 2)) := (Fr.refl _ _).alloc _
  obtain ⟨g9, hg9⟩ : ∃ g, g = w4.heap.size := ⟨_, rfl⟩
  generalize w4.alloc (oBa 7 2) = w5 at *
  rw [← hg9] at q5 ⊢
  have F5 := Lib.hid (F4.out.trans f5 (fun _ _ h => h))
  have M5 : Hid (LtM w5 g5 g7 g9 s (s.sl sa sc) ms ma mc) := Lib.hid ⟨crow_kept Q4.out.1 f5 (fun h => h), crow_kept Q4.out.2 f5 (fun h => h), q5⟩
  have C5 := Lib.hid (C4.out.fr0 f5)
  have G9 : Hid (gC < g9) := Lib.hid (by have := C4.out.lt; omega)
  have GW : Hid (w.heap.size ≤ g5) := Lib.hid (Nat.le_of_eq HW.out)
  have HSM : Hid (EnSmall s.en) := Lib.hid (sm_small SX.out)
  clear q5 f5 F4 Q4 C4 hg9
  refine wp_region_chain (by kernel_rfl) [some 38, some 39, some 40, some 41, some 42] rfl (by decide) (by intro d hd; simp at hd ⊢; omega)
    [3, 4] (fun cvs wx => LoS gC g7 ms ma mc .new nilS 7 2 s w5 cvs wx)
    [.free (.pointer (some ⟨gC, 0, none⟩)), .free (ball 7 2), .free (smV s (s.sl sa sc)), .link none, .link none]
    (by kernel_rfl) (by kernel_rfl) ?hr8 ?stepr8 ?finr8
  case hr8 => exact (Fr.refl _ _).drew
  case stepr8 =>
    intro vals
    simp only [frOfU, fillU, List.setIfInBounds_toArray, List.set_cons_succ, List.set_cons_zero]
    repeat' (first | exact AllOps.nil | refine AllOps.cons ?_ ?_)
    all_goals
      intro cvs wx hS he hu hlim Kc hK
      simp only [Act.put, List.setIfInBounds_toArray, List.set_cons_succ, List.set_cons_zero, List.getD_cons_zero, List.getD_cons_succ] at hK
      simp only [List.mem_cons, List.not_mem_nil, or_false, forall_eq_or_imp, forall_eq, Region.binds, forall_const, qmode_gc, Bool.false_eq_true, false_imp_iff, List.getD_cons_zero, List.getD_cons_succ, OpSort.val, Option.some.injEq, forall_eq', reduceCtorEq, implies_true, true_and, and_true] at he
      have hl5 := LoS.fr hS
      have qk := M5.out.keep hl5 (by have := G7.out; have := GC.out; omega) (by have := GC.out; omega) (by have := G9.out; omega)
      obtain ⟨c00, c01, c02, c03, c04, c05⟩ := sm_cells qk.qs
      obtain ⟨b0, b1⟩ := ba_cells qk.qb
      clear qk hl5
      have HSX := Lib.hid hS
      clear hS
    all_goals first | (clear hlim hu; (try simp only [he] at hK ⊢); go_simp; exact hK) | skip
    · obtain rfl := hlim (0 : Nat) rfl
      have h1 : Fr (fun _ => False) w5 wx := HSX.out
      have H1 := Lib.hid h1
      clear hlim hu HSX h1
      simp only [he] at hK ⊢
      go_simp
      go_at_call 12
      refine (sentryS w.heap.size s (s.sl sa sc) wx (SX.out.keep (F5.out.trans H1.out (fun _ _ h => h)) (fun _ h => h.elim))).mono ?_
      rintro er wa ⟨v', u', rfl, he', hf', haw, _⟩
      exact hK _ _ (fun _ h => by cases h) ⟨v', u', rfl, he', away_away (haw gC (by have := GW.out; have := G7.out; have := GC.out; omega) (Nat.lt_of_lt_of_le C5.out.lt H1.out.size)), H1.out.trans hf' (fun _ _ h => h)⟩
    · obtain rfl := hlim (1 : Nat) rfl
      obtain ⟨v', u', hv3, hes, haw, h1⟩ : LoS gC g7 ms ma mc .new nilS 7 2 s w5 [vals 3] wx := HSX.out
      have H1 := Lib.hid (And.intro h1 (And.intro hes haw))
      clear hlim hu HSX h1 hes haw
      simp only [he, hv3] at hK ⊢
      clear hv3
      go_simp
      go_at_call 11
      refine (chopenS gC g7 ms ma mc .new nilS 7 2 s.en v' u' wx (C5.out.fr0 H1.out.1) H1.out.2.1 H1.out.2.2 HSM.out).mono ?_
      rintro er wa ⟨rfl, fa, hc⟩
      exact hK _ _ (fun _ h => by cases h) ⟨(H1.out.1.mono (fun _ _ h => h.elim)).trans fa (fun _ _ h => h), hc⟩
  case finr8 =>
    intro vals w6 hS hV
    have v0 := hV 0 _ (by decide) rfl
    have v1 := hV 1 _ (by decide) rfl
    have v2 := hV 2 _ (by decide) rfl
    clear hV
    simp only [frOfU, fillU, List.setIfInBounds_toArray, List.set_cons_succ, List.set_cons_zero]
    simp only [Nat.reduceAdd, v0, v1, v2]
    clear v0 v1 v2
    obtain ⟨h1, h2⟩ : LoS gC g7 ms ma mc .new nilS 7 2 s w5 [vals 3, vals 4] w6 := hS
    have F6 := Lib.hid (F5.out.trans h1 (fun k hk e => by have := GW.out; have := G7.out; have := GC.out; omega))
    have M6 := Lib.hid (M5.out.keep h1 (by have := G7.out; have := GC.out; omega) (by have := GC.out; omega) (by have := G9.out; omega))
    have C6 := Lib.hid h2
    clear h1 h2 F5 M5 C5
    generalize vals 3 = y3
    generalize vals 4 = y4
    rw [ltN_zero s.en ms] at C6
    have NDm : Hid (ms.Nodup) := Lib.hid (by rw [← HMM.out]; exact mem6_nd mb)
    obtain ⟨hcap, gm, off, hma, hcell⟩ := (sic_of C6.out.view) (by omega)
    subst hma
    have MC6 := Lib.hid (And.intro hcap hcell)
    clear hcap hcell
    obtain ⟨v0, v1⟩ := vw_cells M6.out.qv
    by_cases h2 : ms.length < 2
    case pos =>
      have h2' : (ms.length : Int) < 2 := by omega
      clear h2
      go_wp2_with fail
      go_ret
      exact ⟨rfl, F6.out⟩
    have h2' : ¬ (ms.length : Int) < 2 := by omega
    have H2 := Lib.hid h2
    clear h2
    go_upto_region 11 with fail
    clear v0 v1 h2'
    obtain ⟨m0, hm0⟩ : ∃ m0, m0 = ms[0]'(by omega) := ⟨_, rfl⟩
    have HM0 := Lib.hid hm0
    have hc0 := MC6.out.2 0 (by omega)
    rw [← hm0] at hc0
    have HC0 := Lib.hid (show w6.cell? ⟨gm, off, none⟩ = some (.int .i64 m0) from hc0)
    clear hm0 hc0
    have hpos : 0 < ms.length := by omega
    have HGM : Hid (gm < g7) := Lib.hid (HV.out gm rfl)
    refine wp_region_chain (by kernel_rfl) [some 47, some 48, some 49, some 50, some 51, some 52, some 53, some 54, some 55] rfl (by decide) (by intro d hd; simp at hd ⊢; omega)
      [8] (fun cvs wx => LpS gC g7 ms (some ⟨gm, off, none⟩) mc (ltN s.en ms 0) nilS m0 w6 cvs wx)
      [.free (.pointer (some ⟨gC, 0, none⟩)), .free (.pointer (some ⟨g7, 1, none⟩)), .free (.slice (some ⟨gm, off, none⟩) ms.length mc), .free (.pointer (some ⟨gm, off, none⟩)), .free (.int .i64 m0), .free (ball 7 2), .free (ball 0 0), .free eZ, .link none]
      (by kernel_rfl) (by kernel_rfl) ?hr11 ?stepr11 ?finr11
    case hr11 => exact (Fr.refl _ _).drew
    case stepr11 =>
      intro vals
      simp only [frOfU, fillU, List.setIfInBounds_toArray, List.set_cons_succ, List.set_cons_zero]
      repeat' (first | exact AllOps.nil | refine AllOps.cons ?_ ?_)
      all_goals
        intro cvs wx hS he hu hlim Kc hK
        simp only [Act.put, List.setIfInBounds_toArray, List.set_cons_succ, List.set_cons_zero, List.getD_cons_zero, List.getD_cons_succ] at hK
        simp only [List.mem_cons, List.not_mem_nil, or_false, forall_eq_or_imp, forall_eq, Region.binds, forall_const, qmode_gc, Bool.false_eq_true, false_imp_iff, List.getD_cons_zero, List.getD_cons_succ, OpSort.val, Option.some.injEq, forall_eq', reduceCtorEq, implies_true, true_and, and_true] at he
        have hl5 := LpS.fr hS
        have qk := M6.out.keep hl5 (by unfold ChF; simp [Value.ownBlock]; have := G7.out; have := GC.out; omega) (by unfold ChF; simp [Value.ownBlock]; have := GC.out; omega) (by unfold ChF; simp [Value.ownBlock]; have := G9.out; omega)
        have c0 : wx.cell? ⟨gm, off, none⟩ = some (.int .i64 m0) := by rw [← HC0.out]; exact hl5.cell (World.block_lt_of_cell? w6 _ HC0.out) (by unfold ChF; simp [Value.ownBlock]; have := GC.out; have := HGM.out; omega)
        obtain ⟨v0, v1⟩ := vw_cells qk.qv
        obtain ⟨b0, b1⟩ := ba_cells qk.qb
        clear qk hl5
        have HSX := Lib.hid hS
        clear hS
      all_goals first | (clear hlim hu; (try simp only [he] at hK ⊢); go_simp; exact hK) | skip
      · obtain rfl := hlim (0 : Nat) rfl
        have h1 : Fr (fun _ => False) w6 wx := HSX.out
        have H1 := Lib.hid h1
        clear hlim hu HSX h1
        simp only [he] at hK ⊢
        go_simp
        go_at_call 14
        refine (chpromised_yes gC g7 ms (some ⟨gm, off, none⟩) mc (ltN s.en ms 0) nilS m0 7 2 0 0 .zero nilS nilS false wx (C6.out.fr0 H1.out) (es_zero _) ⟨.inl rfl, .inl rfl⟩ ⟨by decide, by decide⟩ (by rw [HM0.out]; exact ltN_exp s.en ms NDm.out 0 (by omega))).mono ?_
        rintro er wa ⟨rfl, fa, hv', hc, hn⟩
        rw [ltN_rep] at hc ⊢
        refine hK _ _ (fun _ h => by cases h) ⟨rfl, (H1.out.mono (fun _ _ h => h.elim)).trans fa (fun _ _ h => h), hv', hc, fun k hk => (hn k hk).imp id (fun h => Nat.le_trans H1.out.size h)⟩
    case finr11 =>
      intro vals w7 hS hV
      have v0 := hV 0 _ (by decide) rfl
      have v1 := hV 1 _ (by decide) rfl
      have v2 := hV 2 _ (by decide) rfl
      have v3 := hV 3 _ (by decide) rfl
      have v4 := hV 4 _ (by decide) rfl
      have v5 := hV 5 _ (by decide) rfl
      have v6 := hV 6 _ (by decide) rfl
      have v7 := hV 7 _ (by decide) rfl
      clear hV
      simp only [frOfU, fillU, List.setIfInBounds_toArray, List.set_cons_succ, List.set_cons_zero]
      simp only [Nat.reduceAdd, v0, v1, v2, v3, v4, v5, v6, v7]
      clear v0 v1 v2 v3 v4 v5 v6 v7
      obtain ⟨_, h1, hv, h2, h3⟩ : LpS gC g7 ms (some ⟨gm, off, none⟩) mc (ltN s.en ms 0) nilS m0 w6 [vals 8] w7 := hS
      have F7 := Lib.hid (F6.out.trans h1 (by unfold ChF; simp [Value.ownBlock]; have := GW.out; have := G7.out; have := GC.out; omega))
      have M7 := Lib.hid (M6.out.keep h1 (by unfold ChF; simp [Value.ownBlock]; have := G7.out; have := GC.out; omega) (by unfold ChF; simp [Value.ownBlock]; have := GC.out; omega) (by unfold ChF; simp [Value.ownBlock]; have := G9.out; omega))
      rw [HM0.out, ltN_hear_no s.en ms NDm.out 0 (by omega) (by have := H2.out; omega)] at h2
      have C7 := Lib.hid h2
      have HHV : Hid (∀ k, hv.ownBlock = some k → w.heap.size ≤ k ∧ k ≠ g5 ∧ k ≠ g7 ∧ k ≠ g9) := Lib.hid (fun k hk => by
        have h4 := lt_of M6.out.qs
        have h5 := lt_of M6.out.qv
        have h6 := lt_of M6.out.qb
        have h7 := F6.out.size
        rcases h3 k hk with e | e
        · cases e
        · omega)
      have HC7 := Lib.hid (show w7.cell? ⟨gm, off, none⟩ = some (.int .i64 m0) from by rw [← HC0.out]; exact h1.cell (World.block_lt_of_cell? w6 _ HC0.out) (by unfold ChF; simp [Value.ownBlock]; have := GC.out; have := HGM.out; omega))
      clear h1 h2 h3 F6 M6 C6 MC6 HC0
      generalize vals 8 = y8
      go_upto_region 14 with fail
      go_loopg [58] l.length (fun gh u58 wr => ∃ k : Nat, k ≤ l.length ∧ gh = l.length - k ∧ u58 = .int .i64 k ∧ Hid (Fr (fun _ => False) w7 wr))
      case atStart => exact ⟨0, Nat.zero_le _, rfl, rfl, Lib.hid (Fr.refl _ _)⟩
      case round =>
        obtain ⟨k, hk, rfl, rfl, F⟩ := hrel
        by_cases hlt : k < l.length
        case neg =>
          obtain rfl : k = l.length := by omega
          clear hlt hk
          have FA := Lib.hid (F7.out.trans F.out (fun _ _ h => h))
          have MA := Lib.hid (M7.out.keep F.out (fun h => h) (fun h => h) (fun h => h))
          have CA := Lib.hid (C7.out.fr0 F.out)
          clear F F7 M7 C7 HC7
          obtain ⟨v0, v1⟩ := vw_cells MA.out.qv
          obtain ⟨hcap, gm', off', hma, hcell⟩ := (sic_of CA.out.view) (by omega)
          cases hma
          have HCE := Lib.hid hcell
          have hcap2 : 1 ≤ mc := by omega
          have hcap3 : ¬ mc = 1 := by have := H2.out; omega
          have HCAP := Lib.hid hcap
          clear hcell
          go_upto_region 24 with fail
          clear v0 v1
          obtain ⟨len1, hlen1⟩ : ∃ n, n = ms.length - 1 := ⟨_, rfl⟩
          have HLEN := Lib.hid hlen1
          rw [← hlen1]
          clear hlen1
          have FX := Lib.hid (Fr.refl (fun k => gC ≤ k ∧ k ≠ g9) wr)
          go_loopg [135, 10] len1 (fun gh u135 u10 wj => ∃ (j : Nat) (hvj : Value), j ≤ len1 ∧ gh = len1 - j ∧ u135 = .int .i64 j ∧ u10 = .int .i64 ((j + 1 : Nat) : Int) ∧ Hid (Fr (fun _ => False) w wj) ∧ Hid (LtM wj g5 g7 g9 s (s.sl sa sc) ms (some ⟨gm, off, none⟩) mc) ∧
            Hid (ChS wj gC g7 ms (some ⟨gm, off, none⟩) mc (ltN s.en ms (j + 1)) hvj) ∧ Hid (∀ k, hvj.ownBlock = some k → w.heap.size ≤ k ∧ k ≠ g5 ∧ k ≠ g7 ∧ k ≠ g9) ∧ Hid (¬ (ms.length : Int) < 2 * ((j + 1 : Nat) : Int)))
          case atStart => exact ⟨0, hv, Nat.zero_le _, rfl, rfl, rfl, FA, MA, CA, HHV, Lib.hid (by have := H2.out; omega)⟩
          case round =>
            obtain ⟨j, hvj, hj, rfl, rfl, rfl, FJ, MJ, CJ, HVJ, HNJ⟩ := hrel
            clear FA MA CA HHV
            by_cases hlt : j < len1
            case neg => exfalso; have := HNJ.out; have := HLEN.out; have := H2.out; omega
            have hj1 : j + 1 < ms.length := by have := HLEN.out; omega
            obtain ⟨m1, hm1⟩ : ∃ m1, m1 = ms[j + 1] := ⟨_, rfl⟩
            have HM1 := Lib.hid hm1
            have HC1 : Hid (wr.cell? ⟨gm, off + 1 + j, none⟩ = some (.int .i64 m1)) := Lib.hid (by
              obtain ⟨_, gm2, off2, hma2, hcell⟩ := (sic_of CJ.out.view) (by omega)
              cases hma2
              have := hcell (j + 1) hj1
              rw [← hm1] at this
              rw [show off + 1 + j = off + (j + 1) by omega]
              exact this)
            have c1 := HC1.out
            clear hm1
            go_upto_region 26 with fail
            clear c1
            have hjb : j ≤ 16 := by omega
            go_upto_region 27 with fail
            obtain ⟨j2, hj2⟩ : ∃ z : Int, z = (j : Int) + 2 := ⟨_, rfl⟩
            obtain ⟨E, hE⟩ : ∃ E, E = decide ((ms.length : Int) < 2 * ((j + 1 + 1 : Nat) : Int)) := ⟨_, rfl⟩
            have HE2 : Hid (E = decide ((ms.length : Int) < 2 * j2)) := Lib.hid (hE.trans (decide_eq_decide.2 (by omega)))
            have hj2b : 2 ≤ j2 ∧ j2 ≤ 20 := by omega
            have HJ2 : Hid (j2 = ((j + 1 + 1 : Nat) : Int)) := Lib.hid (by omega)
            have hj3 : ((j : Int) + 1 + 1) = j2 := by omega
            have hjw : IntKind.i64.wrap (2 * j2) = 2 * j2 := by rw [IntKind.wrap_i64]; omega
            rw [hj3]
            have HE := Lib.hid hE
            clear hj2 hE hj3
            have hed : decide ((ms.length : Int) < 2 * j2) = E := HE2.out.symm
            have HED := Lib.hid hed
            have hne : ∀ k, hvj.ownBlock = some k → w.heap.size ≤ k ∧ k ≠ g5 ∧ k ≠ g7 ∧ k ≠ g9 := HVJ.out
            have HNE5 : Hid (¬ ChF gC hvj g5 ∧ ¬ ChF gC hvj g7 ∧ ¬ ChF gC hvj g9) := Lib.hid (by
              have a1 := G7.out; have a2 := GC.out; have a3 := G9.out
              refine ⟨fun h => ?_, fun h => ?_, fun h => ?_⟩
              · rcases h with h | h
                · omega
                · exact (hne _ h).2.1 rfl
              · rcases h with h | h
                · omega
                · exact (hne _ h).2.2.1 rfl
              · rcases h with h | h
                · omega
                · exact (hne _ h).2.2.2 rfl)
            clear hed hne
            refine wp_region_chain (by kernel_rfl) [some 141, some 142, some 143, some 144, some 145, some 146, some 147, some 148, some 149, some 150, some 151, some 152, some 153] rfl (by decide) (by intro d hd; simp at hd ⊢; omega)
              [5] (fun cvs wx => LpS gC g7 ms (some ⟨gm, off, none⟩) mc (ltN s.en ms (j + 1)) hvj m1 wr cvs wx)
              [.free (.pointer (some ⟨gC, 0, none⟩)), .free (.int .i64 m1), .free (ball 7 2), .free (ball 0 0), .free eZ, .link (some (.bool E)), .free (.int .i64 j2), .free (.int .i64 (2 * j2)), .free (.pointer (some ⟨g7, 1, none⟩)), .free (.slice (some ⟨gm, off, none⟩) ms.length mc), .free (.int .i64 ms.length), .free (.bool E), .free (.bool false)]
              (by kernel_rfl) (by kernel_rfl) ?hr27 ?stepr27 ?finr27
            case hr27 => exact (Fr.refl _ _).drew
            case stepr27 =>
              intro vals
              simp only [frOfU, fillU, List.setIfInBounds_toArray, List.set_cons_succ, List.set_cons_zero]
              repeat' (first | exact AllOps.nil | refine AllOps.cons ?_ ?_)
              all_goals
                intro cvs wx hS he hu hlim Kc hK
                simp only [Act.put, List.setIfInBounds_toArray, List.set_cons_succ, List.set_cons_zero, List.getD_cons_zero, List.getD_cons_succ] at hK
                simp only [List.mem_cons, List.not_mem_nil, or_false, forall_eq_or_imp, forall_eq, Region.binds, forall_const, qmode_gc, Bool.false_eq_true, false_imp_iff, List.getD_cons_zero, List.getD_cons_succ, OpSort.val, Option.some.injEq, forall_eq', reduceCtorEq, implies_true, true_and, and_true] at he
                have hl5 := LpS.fr hS
                have qk := MJ.out.keep hl5 HNE5.out.1 HNE5.out.2.1 HNE5.out.2.2
                obtain ⟨v0, v1⟩ := vw_cells qk.qv
                obtain ⟨b0, b1⟩ := ba_cells qk.qb
                have hed := HED.out
                clear qk hl5
                have HSX := Lib.hid hS
                clear hS
              all_goals first | (clear hlim hu; (try simp only [he] at hK ⊢); go_simp; exact hK) | skip
              · obtain rfl := hlim (0 : Nat) rfl
                have h1 : Fr (fun _ => False) wr wx := HSX.out
                have H1 := Lib.hid h1
                clear hlim hu HSX h1 hed
                simp only [he] at hK ⊢
                go_simp
                go_at_call 14
                refine (chpromised_yes gC g7 ms (some ⟨gm, off, none⟩) mc (ltN s.en ms (j + 1)) hvj m1 7 2 0 0 .zero nilS nilS false wx (CJ.out.fr0 H1.out) (es_zero _) ⟨.inl rfl, .inl rfl⟩ ⟨by decide, by decide⟩ (by rw [HM1.out]; exact ltN_exp s.en ms NDm.out (j + 1) hj1)).mono ?_
                rintro er wa ⟨rfl, fa, hv', hc, hn⟩
                rw [ltN_rep] at hc ⊢
                have hen : (ltN s.en ms (j + 1)).enough ms m1 = E := by rw [HM1.out, ltN_enough s.en ms NDm.out (j + 1) hj1, HE.out]
                refine hK _ _ (fun _ h => by cases h; rw [hen]) ⟨rfl, (H1.out.mono (fun _ _ h => h.elim)).trans fa (fun _ _ h => h), hv', hc, fun k hk => (hn k hk).imp id (fun h => Nat.le_trans H1.out.size h)⟩
            case finr27 =>
              intro vals w28 hS hV
              have v0 := hV 0 _ (by decide) rfl
              have v1 := hV 1 _ (by decide) rfl
              have v2 := hV 2 _ (by decide) rfl
              have v3 := hV 3 _ (by decide) rfl
              have v4 := hV 4 _ (by decide) rfl
              have v5 := hV 5 _ (by decide) rfl
              have v6 := hV 6 _ (by decide) rfl
              have v7 := hV 7 _ (by decide) rfl
              have v8 := hV 8 _ (by decide) rfl
              have v9 := hV 9 _ (by decide) rfl
              have v10 := hV 10 _ (by decide) rfl
              have v11 := hV 11 _ (by decide) rfl
              have v12 := hV 12 _ (by decide) rfl
              clear hV
              simp only [frOfU, fillU, List.setIfInBounds_toArray, List.set_cons_succ, List.set_cons_zero]
              simp only [Nat.reduceAdd, v0, v1, v2, v3, v4, v5, v6, v7, v8, v9, v10, v11, v12]
              clear v0 v1 v2 v3 v4 v5 v6 v7 v8 v9 v10 v11 v12
              obtain ⟨_, h1, hv28, h2, h3⟩ : LpS gC g7 ms (some ⟨gm, off, none⟩) mc (ltN s.en ms (j + 1)) hvj m1 wr [vals 5] w28 := hS
              have F28 := Lib.hid (FJ.out.trans h1 (fun k hk e => by
                rcases e with e | e
                · have := GW.out; have := G7.out; have := GC.out; omega
                · have := (HVJ.out k e).1; omega))
              have M28 := Lib.hid (MJ.out.keep h1 HNE5.out.1 HNE5.out.2.1 HNE5.out.2.2)
              have HV28 : Hid (∀ k, hv28.ownBlock = some k → w.heap.size ≤ k ∧ k ≠ g5 ∧ k ≠ g7 ∧ k ≠ g9) := Lib.hid (fun k hk => by
                have h4 := lt_of MJ.out.qs
                have h5 := lt_of MJ.out.qv
                have h6 := lt_of MJ.out.qb
                have h7 := FJ.out.size
                rcases h3 k hk with e | e
                · exact HVJ.out k e
                · omega)
              rw [HM1.out] at h2
              have C28 := Lib.hid h2
              clear h1 h2 h3 FJ MJ CJ HVJ
              obtain ⟨v0, v1⟩ := vw_cells M28.out.qv
              have hed := HED.out
              cases E with
              | false =>
                have hno : ¬ (ms.length : Int) < 2 * ((j + 1 + 1 : Nat) : Int) := by have := HE.out; simpa using this.symm
                have HNO := Lib.hid hno
                have C29 := Lib.hid (by have h := C28.out; rw [ltN_hear_no s.en ms NDm.out (j + 1) hj1 hno] at h; exact h)
                clear C28 hno
                go_wp2_with fail
                go_roundg (len1 - (j + 1))
                case measure => omega
                case rel => exact ⟨j + 1, hv28, by omega, rfl, by congr 1, (by rw [HJ2.out]), F28, M28, C29, HV28, HNO⟩
              | true =>
                have hyes : (ms.length : Int) < 2 * ((j + 1 + 1 : Nat) : Int) := by have := HE.out; simpa using this.symm
                obtain ⟨hp2, hx2⟩ := ltN_hear_yes s.en ms NDm.out (j + 1) hj1 hyes
                have HX2 := Lib.hid (And.intro hp2 hx2)
                clear hyes hp2 hx2
                go_wp2_with fail
                refine (chentry_any gC g7 ms (some ⟨gm, off, none⟩) mc _ hv28 w28 C28.out (.inl HX2.out.1)).mono ?_
                rintro e w29 ⟨v', u', rfl, hes, f29, hfr⟩
                rw [HX2.out.2] at hes ⊢
                obtain ⟨a1, k1, hv1, hn1⟩ := hes.1.shape
                obtain ⟨a2, k2, hv2, hn2⟩ := hes.2.shape
                subst hv1 hv2
                clear hn1 hn2
                have F29 := Lib.hid (F28.out.trans f29 (fun _ _ h => h))
                have M29 := Lib.hid (M28.out.keep f29 (fun h => h) (fun h => h) (fun h => h))
                have E29 := Lib.hid hes
                clear f29 hes hfr F28 M28 C28
                go_upto_region 32 with fail
                have q30 := heap_alloc_new w29 (s.en.obj (.slice a1 s.en.l.length k1) (.slice a2 s.en.m.length k2))
                have f30 : Fr (fun _ => False) w29 (w29.alloc (s.en.obj (.slice a1 s.en.l.length k1) (.slice a2 s.en.m.length k2))) := (Fr.refl _ _).alloc _
                obtain ⟨gE, hgE⟩ : ∃ g, g = w29.heap.size := ⟨_, rfl⟩
                generalize w29.alloc (s.en.obj (.slice a1 s.en.l.length k1) (.slice a2 s.en.m.length k2)) = w30 at *
                rw [← hgE] at q30 ⊢
                have Q30 := Lib.hid (And.intro q30 (E29.out.fr f30))
                have F30 := Lib.hid (F29.out.trans f30 (fun _ _ h => h))
                have M30 := Lib.hid (M29.out.keep f30 (fun h => h) (fun h => h) (fun h => h))
                clear q30 f30 hgE F29 M29 E29 hed v0 v1
                refine wp_region_told (by kernel_rfl) (fun a b => Fr (fun _ => False) a b) (fun w => Fr.refl _ w) (fun _ _ _ h k => h.trans k (fun _ _ h => h)) [166, 167, 168, 169, 170, 171, 172, 6] rfl (by decide) (by intro d hd; simp at hd ⊢; omega)
                  (veV [.is (.bool true), .is (.bool true), .en s.en, .is (smV s (s.sl sa sc)), .en s.en, .is (.bool true), .is (.bool true), .is (.bool true)])
                  (veV_mono _) (by kernel_rfl) ?step32 ?fin32
                case step32 =>
                  intro vals
                  simp only [frOf, fill, List.setIfInBounds_toArray, List.set_cons_succ, List.set_cons_zero]
                  repeat' (first | exact AllOps.nil | refine AllOps.cons ?_ ?_)
                  all_goals
                    intro wx hle he K' hK
                    simp only [Act.put, List.setIfInBounds_toArray, List.set_cons_succ, List.set_cons_zero, veV, VE.holds, List.getD_cons_zero, List.getD_cons_succ] at hK
                    simp only [List.mem_cons, List.not_mem_nil, or_false, forall_eq_or_imp, forall_eq, Region.binds, forall_const, false_imp_iff, veV, VE.holds, List.getD_cons_zero, List.getD_cons_succ] at he
                    have hl5 := Fr.trans (Fr.drew (Fr.refl (fun _ => False) w30)) hle (fun _ _ h => h)
                    have hl8 := Lib.hid hl5
                    have qk := M30.out.keep hl5 (fun h => h) (fun h => h) (fun h => h)
                    obtain ⟨c00, c01, c02, c03, c04, c05⟩ := sm_cells qk.qs
                    obtain ⟨d00, d01, d02, d03, d04, d05⟩ := en_cells (crow_kept Q30.out.1 hl5 (fun h => h))
                    have HES := Lib.hid (Q30.out.2.fr hl5)
                    clear qk hl5 hle
                  · first | (simp only [he] at hK ⊢; clear he; go_simp; exact hK _ _ (Fr.refl _ _) rfl) | (clear he; go_simp; exact hK _ _ (Fr.refl _ _) rfl)
                  · first | (simp only [he] at hK ⊢; clear he; go_simp; exact hK _ _ (Fr.refl _ _) rfl) | (clear he; go_simp; exact hK _ _ (Fr.refl _ _) rfl)
                  · simp only [he] at hK ⊢
                    clear he
                    go_simp
                    exact hK _ _ (Fr.refl _ _) ⟨_, _, rfl, HES.out⟩
                  · first | (simp only [he] at hK ⊢; clear he; go_simp; exact hK _ _ (Fr.refl _ _) rfl) | (clear he; go_simp; exact hK _ _ (Fr.refl _ _) rfl)
                  · simp only [he] at hK ⊢
                    clear he
                    go_simp
                    go_at_call 12
                    refine (sentryS w.heap.size s (s.sl sa sc) wx (SX.out.keep (F30.out.trans hl8.out (fun _ _ h => h)) (fun _ h => h.elim))).mono ?_
                    rintro er wa ⟨v', u', rfl, he', hf', _, _⟩
                    exact hK _ _ hf' ⟨v', u', rfl, he'⟩
                  · obtain ⟨⟨v1, u1, e1, h1⟩, ⟨v2, u2, e2, h2⟩, _, e3⟩ := he
                    have HC := Lib.hid (vsame_any s.en s.en v1 u1 v2 u2 wx h1 h2 (by have := HSM.out; exact this.2))
                    clear h1 h2
                    simp only [e1, e2, e3] at hK ⊢
                    clear e1 e2 e3
                    go_simp
                    go_at_call 18
                    refine HC.out.mono ?_
                    rintro er wa ⟨rfl, fa⟩
                    exact hK _ _ fa (by rw [En.same_refl])
                  · first | (simp only [he] at hK ⊢; clear he; go_simp; exact hK _ _ (Fr.refl _ _) rfl) | (clear he; go_simp; exact hK _ _ (Fr.refl _ _) rfl)
                  · first | (simp only [he] at hK ⊢; clear he; go_simp; exact hK _ _ (Fr.refl _ _) rfl) | (clear he; go_simp; exact hK _ _ (Fr.refl _ _) rfl)
                case fin32 =>
                  intro vals w' hle hV
                  have h9 : vals 7 = .bool true := hV 7 (by decide)
                  clear hV
                  have hfin := Lib.hid (F30.out.trans (Fr.trans (Fr.drew (Fr.refl (fun _ => False) w30)) hle (fun _ _ h => h)) (fun _ _ h => h))
                  clear hle
                  simp only [frOf, fill, List.setIfInBounds_toArray, List.set_cons_succ, List.set_cons_zero, Nat.reduceAdd]
                  simp only [h9]
                  clear h9
                  go_wp2_with fail
                  go_ret
                  exact ⟨rfl, hfin.out⟩

        rcases HL.out with h0 | ⟨g, offa, rfl, hcap, hll⟩
        · rw [h0] at hlt; exact absurd hlt (by simp)
        obtain ⟨x, hx⟩ : ∃ x, l[k]? = some x := ⟨l[k], List.getElem?_eq_getElem hlt⟩
        have hcl := (hll k x hx).2
        have hcw : ∀ i v, x.cells[i]? = some v → wr.cell? ⟨g, offa + k * 11 + i, none⟩ = some v := fun i v h => by
          have h1 := hcl i v h
          rw [(F7.out.trans F.out (fun _ _ h => h)).cell (World.block_lt_of_cell? w _ h1) (fun h => h)]
          exact h1
        have c0 := hcw 0 _ rfl
        rw [Nat.add_zero] at c0
        have c1 := hcw 1 _ rfl
        have c2 := hcw 2 _ rfl
        have c3 := hcw 3 _ rfl
        have c4 := hcw 4 _ rfl
        have c5 := hcw 5 _ rfl
        have c6 := hcw 6 _ rfl
        have c7 := hcw 7 _ rfl
        have c8 := hcw 8 _ rfl
        have c9 := hcw 9 _ rfl
        have c10 := hcw 10 _ rfl
        have HX : Hid (CaOk w x) := Lib.hid (hll k x hx).1
        clear hx hcl hcw hll
        go_upto_region 16 with fail
        have q8 := heap_alloc_new wr (oCa x)
        have f8 : Fr (fun _ => False) wr (wr.alloc (oCa x)) := (Fr.refl _ _).alloc _
        clear c0 c1 c2 c3 c4 c5 c6 c7 c8 c9 c10
        generalize wr.alloc (oCa x) = w8 at *
        obtain ⟨gA, hgA⟩ : ∃ g, g = wr.heap.size := ⟨_, rfl⟩
        rw [← hgA] at q8 ⊢
        have Q8 := Lib.hid q8
        have F8 := Lib.hid (F.out.trans f8 (fun _ _ h => h))
        clear q8 f8 F hgA
        obtain ⟨c0, c1, c2, c3, c4, c5, c6, c7, c8, c9, c10⟩ := ca_cells Q8.out
        by_cases hlx : x.s.c.l.length ≤ 50
        case neg =>
          have hl' : (50 : Int) < (x.s.c.l.length : Int) := by omega
          clear hlx
          go_wp2_with fail
          go_ret
          exact ⟨rfl, F7.out.trans F8.out (fun _ _ h => h)⟩
        have hlx' : ¬ (50 : Int) < (x.s.c.l.length : Int) := by omega
        obtain ⟨⟨hk01, hn01, hr01, ho01⟩, hsee, hokx⟩ := HX.out
        have SA : Hid (SmAt w.heap.size w x.s x.sl) := Lib.hid ⟨⟨_, _, rfl⟩, hsee.1, hsee.2, hokx, by omega⟩
        clear hlx HX hsee hokx hk01 ho01
        have hb0 : 0 ≤ x.r % 7 ∧ x.r % 7 ≤ 6 := by omega
        have hb1 : 0 ≤ x.n % 4 ∧ x.n % 4 ≤ 3 := by omega
        have hb2 : 0 ≤ x.n % 16 ∧ x.n % 16 ≤ 15 := by omega
        go_upto_region 19 with fail
        obtain ⟨R, hR⟩ : ∃ R, R = x.r % 7 := ⟨_, rfl⟩
        obtain ⟨M, hM⟩ : ∃ M, M = x.n % 4 := ⟨_, rfl⟩
        rw [← hR] at hb0 ⊢
        rw [← hM] at hb1 ⊢
        clear hR hM hr01 c0 c1 c2 c3 c4 c5 c6 c7 c8 c9 c10 hlx'
        have q9 := heap_alloc_new w8 (oBa R M)
        have f9 : Fr (fun _ => False) w8 (w8.alloc (oBa R M)) := (Fr.refl _ _).alloc _
        obtain ⟨gB, hgB⟩ : ∃ g, g = w8.heap.size := ⟨_, rfl⟩
        generalize w8.alloc (oBa R M) = w9 at *
        rw [← hgB] at q9 ⊢
        have F9 := Lib.hid (F8.out.trans f9 (fun _ _ h => h))
        have Q9 := Lib.hid (And.intro (crow_kept Q8.out f9 (fun h => h)) q9)
        have C9 := Lib.hid (C7.out.fr0 F9.out)
        obtain ⟨c0, c1, c2, c3, c4, c5, c6, c7, c8, c9, c10⟩ := ca_cells Q9.out.1
        go_upto_region 20 with fail
        obtain ⟨N, hNN⟩ : ∃ N, N = x.n % 16 := ⟨_, rfl⟩
        rw [← hNN] at hb2 ⊢
        clear hNN hn01 c0 c1 c2 c3 c4 c5 c6 c7 c8 c9 c10
        have RN := Lib.hid (And.intro hb0 (And.intro hb1 hb2))
        clear q9 f9 F8 Q8 hgB hb0 hb1 hb2
        have HXO : Hid (∀ r m, 5 < N → expB ms (ltN s.en ms 1) 1 N r m = false) := Lib.hid (fun r m h5 => ltN_other s.en ms 1 N r m (fun hm => by
          rw [← HMM.out] at hm
          have := mem6_range mb N hm
          omega))
        have HM1 : Hid (ms[0]? = some m0) := Lib.hid (by rw [HM0.out]; exact List.getElem?_eq_getElem _)
        obtain ⟨D, hD⟩ : ∃ D, D = decide (5 < N) := ⟨_, rfl⟩
        have HD := Lib.hid hD
        clear hD
        go_cut [129] from 81 to 129 (fun c wx => c = .bool false ∧ Fr (fun _ => False) w9 wx)
        case first =>
          cases D with
          | false =>
            have hdd : (decide (5 < N)) = false := HD.out.symm
            have hdn : ¬ 5 < N := by simpa using hdd
            refine wp_region_told (by kernel_rfl) (fun a b => Fr (fun _ => False) a b) (fun w => Fr.refl _ w) (fun _ _ _ h k => h.trans k (fun _ _ h => h)) [81, 82, 83, 84, 85, 86, 87, 88, 89, 90, 91, 92, 93, 94, 95, 96, 97, 98, 99, 100, 101, 102, 103, 104, 105, 106, 107, 108, 109, 110, 111, 112, 113, 114, 115, 116, 117, 118, 119, 120, 121, 122, 123, 124, 125, 126, 127, 128, 129] rfl (by decide) (by intro d hd; simp at hd ⊢; omega)
              (veV [.is (.pointer (some ⟨gC, 0, none⟩)), .is (.int .i64 N), .is (ball R M), .is (ball 0 0), .is (.pointer (some ⟨gA, 5, none⟩)), .is (smV x.s x.sl), .en x.s.en, .is (.pointer (some ⟨gA, 4, none⟩)), .is (.bool x.so), .is (.bool false), .is (.bool false), .is (.pointer (some ⟨gC, 0, none⟩)), .is (.int .i64 N), .is (ball R M), .is (.bool false), .is (.bool false), .is (.bool false), .is (.pointer (some ⟨gC, 0, none⟩)), .is (.int .i64 N), .is (ball 7 2), .is (.bool false), .is (.bool false), .is (.bool false), .is (.pointer (some ⟨gC, 0, none⟩)), .is (.pointer (some ⟨g7, 1, none⟩)), .is (.slice (some ⟨gm, off, none⟩) ms.length mc), .is (.pointer (some ⟨gm, off, none⟩)), .is (.int .i64 m0), .is (ball 7 2), .is (ball R M), .is (.pointer (some ⟨gA, 5, none⟩)), .is (smV x.s x.sl), .en x.s.en, .is (.bool false), .is (.bool false), .is (.bool false), .is (.int .i64 N), .is (.bool false), .is (.bool false), .is undef, .is undef, .is undef, .is undef, .is undef, .is undef, .is undef, .is undef, .is (.bool false), .is (.bool false)])
              (veV_mono _) (by kernel_rfl) ?stepf ?finf
            case stepf =>
              intro vals
              simp only [frOf, fill, List.setIfInBounds_toArray, List.set_cons_succ, List.set_cons_zero]
              repeat' (first | exact AllOps.nil | refine AllOps.cons ?_ ?_)
              all_goals
                intro wx hle he K' hK
                simp only [Act.put, List.setIfInBounds_toArray, List.set_cons_succ, List.set_cons_zero, veV, VE.holds, List.getD_cons_zero, List.getD_cons_succ] at hK
                simp only [List.mem_cons, List.not_mem_nil, or_false, forall_eq_or_imp, forall_eq, Region.binds, forall_const, false_imp_iff, veV, VE.holds, List.getD_cons_zero, List.getD_cons_succ] at he
                have hl5 := Fr.trans (Fr.drew (Fr.refl (fun _ => False) w9)) hle (fun _ _ h => h)
                have hl8 := Lib.hid hl5
                have hl9 := Lib.hid (F9.out.trans hl5 (fun _ _ h => h))
                have qk := M7.out.keep hl9.out (fun h => h) (fun h => h) (fun h => h)
                obtain ⟨a0, a1, a2, a3, a4, a5, a6, a7, a8, a9, a10⟩ := ca_cells (crow_kept Q9.out.1 hl5 (fun h => h))
                obtain ⟨b0, b1⟩ := ba_cells (crow_kept Q9.out.2 hl5 (fun h => h))
                obtain ⟨b2, b3⟩ := ba_cells qk.qb
                obtain ⟨v0, v1⟩ := vw_cells qk.qv
                have cm : wx.cell? ⟨gm, off, none⟩ = some (.int .i64 m0) := by rw [← HC7.out]; exact hl9.out.cell (World.block_lt_of_cell? w7 _ HC7.out) (fun h => h)
                clear qk hl5 hle
              · first | (simp only [he] at hK ⊢; clear he; go_simp; exact hK _ _ (Fr.refl _ _) rfl) | (clear he; go_simp; exact hK _ _ (Fr.refl _ _) rfl)
              · first | (simp only [he] at hK ⊢; clear he; go_simp; exact hK _ _ (Fr.refl _ _) rfl) | (clear he; go_simp; exact hK _ _ (Fr.refl _ _) rfl)
              · first | (simp only [he] at hK ⊢; clear he; go_simp; exact hK _ _ (Fr.refl _ _) rfl) | (clear he; go_simp; exact hK _ _ (Fr.refl _ _) rfl)
              · first | (simp only [he] at hK ⊢; clear he; go_simp; exact hK _ _ (Fr.refl _ _) rfl) | (clear he; go_simp; exact hK _ _ (Fr.refl _ _) rfl)
              · first | (simp only [he] at hK ⊢; clear he; go_simp; exact hK _ _ (Fr.refl _ _) rfl) | (clear he; go_simp; exact hK _ _ (Fr.refl _ _) rfl)
              · first | (simp only [he] at hK ⊢; clear he; go_simp; exact hK _ _ (Fr.refl _ _) rfl) | (clear he; go_simp; exact hK _ _ (Fr.refl _ _) rfl)
              · simp only [he] at hK ⊢
                clear he
                go_simp
                go_at_call 12
                refine (sentryS w.heap.size x.s x.sl wx (SA.out.keep ((F7.out.trans F9.out (fun _ _ h => h)).trans hl8.out (fun _ _ h => h)) (fun _ h => h.elim))).mono ?_
                rintro er wa ⟨v', u', rfl, he', hf', _, _⟩
                exact hK _ _ hf' ⟨v', u', rfl, he'⟩
              · first | (simp only [he] at hK ⊢; clear he; go_simp; exact hK _ _ (Fr.refl _ _) rfl) | (clear he; go_simp; exact hK _ _ (Fr.refl _ _) rfl)
              · first | (simp only [he] at hK ⊢; clear he; go_simp; exact hK _ _ (Fr.refl _ _) rfl) | (clear he; go_simp; exact hK _ _ (Fr.refl _ _) rfl)
              · obtain ⟨e0, e1, e2, e3, ⟨v1, u1, e4, h4⟩, e5⟩ := he
                have H4 := Lib.hid h4
                clear h4
                simp only [e0, e1, e2, e3, e4, e5] at hK ⊢
                clear e0 e1 e2 e3 e4 e5
                go_simp
                go_at_call 14
                refine (chpromised_no gC g7 ms (some ⟨gm, off, none⟩) mc (ltN s.en ms 1) hv N R M 0 0 x.s.en v1 u1 x.so wx (C9.out.fr0 hl8.out) H4.out (ltN_old _ _ _ _ _ _ _ (by have := RN.out; omega))).mono ?_
                rintro er wa ⟨rfl, fa⟩
                exact hK _ _ fa rfl
              · first | (simp only [he] at hK ⊢; clear he; go_simp; exact hK _ _ (Fr.refl _ _) rfl) | (clear he; go_simp; exact hK _ _ (Fr.refl _ _) rfl)
              · first | (simp only [he] at hK ⊢; clear he; go_simp; exact hK _ _ (Fr.refl _ _) rfl) | (clear he; go_simp; exact hK _ _ (Fr.refl _ _) rfl)
              · first | (simp only [he] at hK ⊢; clear he; go_simp; exact hK _ _ (Fr.refl _ _) rfl) | (clear he; go_simp; exact hK _ _ (Fr.refl _ _) rfl)
              · first | (simp only [he] at hK ⊢; clear he; go_simp; exact hK _ _ (Fr.refl _ _) rfl) | (clear he; go_simp; exact hK _ _ (Fr.refl _ _) rfl)
              · simp only [he] at hK ⊢
                clear he
                go_simp
                go_at_call 17
                refine (chaccepted_no gC g7 ms (some ⟨gm, off, none⟩) mc (ltN s.en ms 1) hv N R M wx (C9.out.fr0 hl8.out) (ltN_acc _ _ _ _ _ _)).mono ?_
                rintro er wa ⟨rfl, fa⟩
                exact hK _ _ fa rfl
              · first | (simp only [he] at hK ⊢; clear he; go_simp; exact hK _ _ (Fr.refl _ _) rfl) | (clear he; go_simp; exact hK _ _ (Fr.refl _ _) rfl)
              · first | (simp only [he] at hK ⊢; clear he; go_simp; exact hK _ _ (Fr.refl _ _) rfl) | (clear he; go_simp; exact hK _ _ (Fr.refl _ _) rfl)
              · first | (simp only [he] at hK ⊢; clear he; go_simp; exact hK _ _ (Fr.refl _ _) rfl) | (clear he; go_simp; exact hK _ _ (Fr.refl _ _) rfl)
              · first | (simp only [he] at hK ⊢; clear he; go_simp; exact hK _ _ (Fr.refl _ _) rfl) | (clear he; go_simp; exact hK _ _ (Fr.refl _ _) rfl)
              · first | (simp only [he] at hK ⊢; clear he; go_simp; exact hK _ _ (Fr.refl _ _) rfl) | (clear he; go_simp; exact hK _ _ (Fr.refl _ _) rfl)
              · simp only [he] at hK ⊢
                clear he
                go_simp
                go_at_call 17
                refine (chaccepted_no gC g7 ms (some ⟨gm, off, none⟩) mc (ltN s.en ms 1) hv N 7 2 wx (C9.out.fr0 hl8.out) (ltN_acc _ _ _ _ _ _)).mono ?_
                rintro er wa ⟨rfl, fa⟩
                exact hK _ _ fa rfl
              · first | (simp only [he] at hK ⊢; clear he; go_simp; exact hK _ _ (Fr.refl _ _) rfl) | (clear he; go_simp; exact hK _ _ (Fr.refl _ _) rfl)
              · first | (simp only [he] at hK ⊢; clear he; go_simp; exact hK _ _ (Fr.refl _ _) rfl) | (clear he; go_simp; exact hK _ _ (Fr.refl _ _) rfl)
              · first | (simp only [he] at hK ⊢; clear he; go_simp; exact hK _ _ (Fr.refl _ _) rfl) | (clear he; go_simp; exact hK _ _ (Fr.refl _ _) rfl)
              · first | (simp only [he] at hK ⊢; clear he; go_simp; exact hK _ _ (Fr.refl _ _) rfl) | (clear he; go_simp; exact hK _ _ (Fr.refl _ _) rfl)
              · first | (simp only [he] at hK ⊢; clear he; go_simp; exact hK _ _ (Fr.refl _ _) rfl) | (clear he; go_simp; exact hK _ _ (Fr.refl _ _) rfl)
              · first | (simp only [he] at hK ⊢; clear he; go_simp; exact hK _ _ (Fr.refl _ _) rfl) | (clear he; go_simp; exact hK _ _ (Fr.refl _ _) rfl)
              · first | (simp only [he] at hK ⊢; clear he; go_simp; exact hK _ _ (Fr.refl _ _) rfl) | (clear he; go_simp; exact hK _ _ (Fr.refl _ _) rfl)
              · first | (simp only [he] at hK ⊢; clear he; go_simp; exact hK _ _ (Fr.refl _ _) rfl) | (clear he; go_simp; exact hK _ _ (Fr.refl _ _) rfl)
              · first | (simp only [he] at hK ⊢; clear he; go_simp; exact hK _ _ (Fr.refl _ _) rfl) | (clear he; go_simp; exact hK _ _ (Fr.refl _ _) rfl)
              · first | (simp only [he] at hK ⊢; clear he; go_simp; exact hK _ _ (Fr.refl _ _) rfl) | (clear he; go_simp; exact hK _ _ (Fr.refl _ _) rfl)
              · first | (simp only [he] at hK ⊢; clear he; go_simp; exact hK _ _ (Fr.refl _ _) rfl) | (clear he; go_simp; exact hK _ _ (Fr.refl _ _) rfl)
              · simp only [he] at hK ⊢
                clear he
                go_simp
                go_at_call 12
                refine (sentryS w.heap.size x.s x.sl wx (SA.out.keep ((F7.out.trans F9.out (fun _ _ h => h)).trans hl8.out (fun _ _ h => h)) (fun _ h => h.elim))).mono ?_
                rintro er wa ⟨v', u', rfl, he', hf', _, _⟩
                exact hK _ _ hf' ⟨v', u', rfl, he'⟩
              · obtain ⟨e0, e1, e2, e3, ⟨v1, u1, e4, h4⟩, _, e5⟩ := he
                have H4 := Lib.hid h4
                clear h4
                simp only [e0, e1, e2, e3, e4, e5] at hK ⊢
                clear e0 e1 e2 e3 e4 e5
                go_simp
                go_at_call 14
                refine (chpromised_no gC g7 ms (some ⟨gm, off, none⟩) mc (ltN s.en ms 1) hv m0 7 2 R M x.s.en v1 u1 true wx (C9.out.fr0 hl8.out) H4.out (ltN_heard _ _ _ _ _ HM1.out)).mono ?_
                rintro er wa ⟨rfl, fa⟩
                exact hK _ _ fa rfl
              · first | (simp only [he] at hK ⊢; clear he; go_simp; exact hK _ _ (Fr.refl _ _) rfl) | (clear he; go_simp; exact hK _ _ (Fr.refl _ _) rfl)
              · first | (simp only [he] at hK ⊢; clear he; go_simp; exact hK _ _ (Fr.refl _ _) rfl) | (clear he; go_simp; exact hK _ _ (Fr.refl _ _) rfl)
              · first | (simp only [he] at hK ⊢; clear he; go_simp; exact hK _ _ (Fr.refl _ _) rfl) | (clear he; go_simp; exact hK _ _ (Fr.refl _ _) rfl)
              · first | (simp only [he] at hK ⊢; clear he; go_simp; exact hK _ _ (Fr.refl _ _) rfl) | (clear he; go_simp; exact hK _ _ (Fr.refl _ _) rfl)
              · first | (simp only [he] at hK ⊢; clear he; go_simp; exact hK _ _ (Fr.refl _ _) rfl) | (clear he; go_simp; exact hK _ _ (Fr.refl _ _) rfl)
              · first | (simp only [he] at hK ⊢; clear he; go_simp; exact hK _ _ (Fr.refl _ _) rfl) | (clear he; go_simp; exact hK _ _ (Fr.refl _ _) rfl)
              · first | (simp only [he] at hK ⊢; clear he; go_simp; exact hK _ _ (Fr.refl _ _) rfl) | (clear he; go_simp; exact hK _ _ (Fr.refl _ _) rfl)
              · first | (simp only [he] at hK ⊢; clear he; go_simp; exact hK _ _ (Fr.refl _ _) rfl) | (clear he; go_simp; exact hK _ _ (Fr.refl _ _) rfl)
              · first | (simp only [he] at hK ⊢; clear he; go_simp; exact hK _ _ (Fr.refl _ _) rfl) | (clear he; go_simp; exact hK _ _ (Fr.refl _ _) rfl)
              · first | (simp only [he] at hK ⊢; clear he; go_simp; exact hK _ _ (Fr.refl _ _) rfl) | (clear he; go_simp; exact hK _ _ (Fr.refl _ _) rfl)
              · first | (simp only [he] at hK ⊢; clear he; go_simp; exact hK _ _ (Fr.refl _ _) rfl) | (clear he; go_simp; exact hK _ _ (Fr.refl _ _) rfl)
              · first | (simp only [he] at hK ⊢; clear he; go_simp; exact hK _ _ (Fr.refl _ _) rfl) | (clear he; go_simp; exact hK _ _ (Fr.refl _ _) rfl)
              · first | (simp only [he] at hK ⊢; clear he; go_simp; exact hK _ _ (Fr.refl _ _) rfl) | (clear he; go_simp; exact hK _ _ (Fr.refl _ _) rfl)
              · first | (simp only [he] at hK ⊢; clear he; go_simp; exact hK _ _ (Fr.refl _ _) rfl) | (clear he; go_simp; exact hK _ _ (Fr.refl _ _) rfl)
              · first | (simp only [he] at hK ⊢; clear he; go_simp; exact hK _ _ (Fr.refl _ _) rfl) | (clear he; go_simp; exact hK _ _ (Fr.refl _ _) rfl)
            case finf =>
              intro vals w' hle hV
              have h9 : vals 48 = .bool false := hV 48 (by decide)
              clear hV
              have hfin := Fr.trans (Fr.drew (Fr.refl (fun _ => False) w9)) hle (fun _ _ h => h)
              clear hle
              simp only [frOf, fill, List.setIfInBounds_toArray, List.set_cons_succ, List.set_cons_zero, Nat.reduceAdd]
              go_wp2_with fail
              go_meet
              exact ⟨(by first | exact h9 | rfl), hfin⟩
          | true =>
            have hdd : (decide (5 < N)) = true := HD.out.symm
            have hdn : 5 < N := by simpa using hdd
            refine wp_region_told (by kernel_rfl) (fun a b => Fr (fun _ => False) a b) (fun w => Fr.refl _ w) (fun _ _ _ h k => h.trans k (fun _ _ h => h)) [81, 82, 83, 84, 85, 86, 87, 88, 89, 90, 91, 92, 93, 94, 95, 96, 97, 98, 99, 100, 101, 102, 103, 104, 105, 106, 107, 108, 109, 110, 111, 112, 113, 114, 115, 116, 117, 118, 119, 120, 121, 122, 123, 124, 125, 126, 127, 128, 129] rfl (by decide) (by intro d hd; simp at hd ⊢; omega)
              (veV [.is (.pointer (some ⟨gC, 0, none⟩)), .is (.int .i64 N), .is (ball R M), .is (ball 0 0), .is (.pointer (some ⟨gA, 5, none⟩)), .is (smV x.s x.sl), .en x.s.en, .is (.pointer (some ⟨gA, 4, none⟩)), .is (.bool x.so), .is (.bool false), .is (.bool false), .is (.pointer (some ⟨gC, 0, none⟩)), .is (.int .i64 N), .is (ball R M), .is (.bool false), .is (.bool false), .is (.bool false), .is (.pointer (some ⟨gC, 0, none⟩)), .is (.int .i64 N), .is (ball 7 2), .is (.bool false), .is (.bool false), .is (.bool false), .is (.pointer (some ⟨gC, 0, none⟩)), .is (.pointer (some ⟨g7, 1, none⟩)), .is (.slice (some ⟨gm, off, none⟩) ms.length mc), .is (.pointer (some ⟨gm, off, none⟩)), .is (.int .i64 m0), .is (ball 7 2), .is (ball R M), .is (.pointer (some ⟨gA, 5, none⟩)), .is (smV x.s x.sl), .en x.s.en, .is (.bool false), .is (.bool false), .is (.bool false), .is (.int .i64 N), .is (.bool true), .is (.bool true), .is (.pointer (some ⟨gC, 0, none⟩)), .is (.int .i64 N), .is (ball 7 2), .is (ball R M), .is (.pointer (some ⟨gA, 5, none⟩)), .is (smV x.s x.sl), .en x.s.en, .is (.bool false), .is (.bool false), .is (.bool false)])
              (veV_mono _) (by kernel_rfl) ?stept ?fint
            case stept =>
              intro vals
              simp only [frOf, fill, List.setIfInBounds_toArray, List.set_cons_succ, List.set_cons_zero]
              repeat' (first | exact AllOps.nil | refine AllOps.cons ?_ ?_)
              all_goals
                intro wx hle he K' hK
                simp only [Act.put, List.setIfInBounds_toArray, List.set_cons_succ, List.set_cons_zero, veV, VE.holds, List.getD_cons_zero, List.getD_cons_succ] at hK
                simp only [List.mem_cons, List.not_mem_nil, or_false, forall_eq_or_imp, forall_eq, Region.binds, forall_const, false_imp_iff, veV, VE.holds, List.getD_cons_zero, List.getD_cons_succ] at he
                have hl5 := Fr.trans (Fr.drew (Fr.refl (fun _ => False) w9)) hle (fun _ _ h => h)
                have hl8 := Lib.hid hl5
                have hl9 := Lib.hid (F9.out.trans hl5 (fun _ _ h => h))
                have qk := M7.out.keep hl9.out (fun h => h) (fun h => h) (fun h => h)
                obtain ⟨a0, a1, a2, a3, a4, a5, a6, a7, a8, a9, a10⟩ := ca_cells (crow_kept Q9.out.1 hl5 (fun h => h))
                obtain ⟨b0, b1⟩ := ba_cells (crow_kept Q9.out.2 hl5 (fun h => h))
                obtain ⟨b2, b3⟩ := ba_cells qk.qb
                obtain ⟨v0, v1⟩ := vw_cells qk.qv
                have cm : wx.cell? ⟨gm, off, none⟩ = some (.int .i64 m0) := by rw [← HC7.out]; exact hl9.out.cell (World.block_lt_of_cell? w7 _ HC7.out) (fun h => h)
                clear qk hl5 hle
              · first | (simp only [he] at hK ⊢; clear he; go_simp; exact hK _ _ (Fr.refl _ _) rfl) | (clear he; go_simp; exact hK _ _ (Fr.refl _ _) rfl)
              · first | (simp only [he] at hK ⊢; clear he; go_simp; exact hK _ _ (Fr.refl _ _) rfl) | (clear he; go_simp; exact hK _ _ (Fr.refl _ _) rfl)
              · first | (simp only [he] at hK ⊢; clear he; go_simp; exact hK _ _ (Fr.refl _ _) rfl) | (clear he; go_simp; exact hK _ _ (Fr.refl _ _) rfl)
              · first | (simp only [he] at hK ⊢; clear he; go_simp; exact hK _ _ (Fr.refl _ _) rfl) | (clear he; go_simp; exact hK _ _ (Fr.refl _ _) rfl)
              · first | (simp only [he] at hK ⊢; clear he; go_simp; exact hK _ _ (Fr.refl _ _) rfl) | (clear he; go_simp; exact hK _ _ (Fr.refl _ _) rfl)
              · first | (simp only [he] at hK ⊢; clear he; go_simp; exact hK _ _ (Fr.refl _ _) rfl) | (clear he; go_simp; exact hK _ _ (Fr.refl _ _) rfl)
              · simp only [he] at hK ⊢
                clear he
                go_simp
                go_at_call 12
                refine (sentryS w.heap.size x.s x.sl wx (SA.out.keep ((F7.out.trans F9.out (fun _ _ h => h)).trans hl8.out (fun _ _ h => h)) (fun _ h => h.elim))).mono ?_
                rintro er wa ⟨v', u', rfl, he', hf', _, _⟩
                exact hK _ _ hf' ⟨v', u', rfl, he'⟩
              · first | (simp only [he] at hK ⊢; clear he; go_simp; exact hK _ _ (Fr.refl _ _) rfl) | (clear he; go_simp; exact hK _ _ (Fr.refl _ _) rfl)
              · first | (simp only [he] at hK ⊢; clear he; go_simp; exact hK _ _ (Fr.refl _ _) rfl) | (clear he; go_simp; exact hK _ _ (Fr.refl _ _) rfl)
              · obtain ⟨e0, e1, e2, e3, ⟨v1, u1, e4, h4⟩, e5⟩ := he
                have H4 := Lib.hid h4
                clear h4
                simp only [e0, e1, e2, e3, e4, e5] at hK ⊢
                clear e0 e1 e2 e3 e4 e5
                go_simp
                go_at_call 14
                refine (chpromised_no gC g7 ms (some ⟨gm, off, none⟩) mc (ltN s.en ms 1) hv N R M 0 0 x.s.en v1 u1 x.so wx (C9.out.fr0 hl8.out) H4.out (ltN_old _ _ _ _ _ _ _ (by have := RN.out; omega))).mono ?_
                rintro er wa ⟨rfl, fa⟩
                exact hK _ _ fa rfl
              · first | (simp only [he] at hK ⊢; clear he; go_simp; exact hK _ _ (Fr.refl _ _) rfl) | (clear he; go_simp; exact hK _ _ (Fr.refl _ _) rfl)
              · first | (simp only [he] at hK ⊢; clear he; go_simp; exact hK _ _ (Fr.refl _ _) rfl) | (clear he; go_simp; exact hK _ _ (Fr.refl _ _) rfl)
              · first | (simp only [he] at hK ⊢; clear he; go_simp; exact hK _ _ (Fr.refl _ _) rfl) | (clear he; go_simp; exact hK _ _ (Fr.refl _ _) rfl)
              · first | (simp only [he] at hK ⊢; clear he; go_simp; exact hK _ _ (Fr.refl _ _) rfl) | (clear he; go_simp; exact hK _ _ (Fr.refl _ _) rfl)
              · simp only [he] at hK ⊢
                clear he
                go_simp
                go_at_call 17
                refine (chaccepted_no gC g7 ms (some ⟨gm, off, none⟩) mc (ltN s.en ms 1) hv N R M wx (C9.out.fr0 hl8.out) (ltN_acc _ _ _ _ _ _)).mono ?_
                rintro er wa ⟨rfl, fa⟩
                exact hK _ _ fa rfl
              · first | (simp only [he] at hK ⊢; clear he; go_simp; exact hK _ _ (Fr.refl _ _) rfl) | (clear he; go_simp; exact hK _ _ (Fr.refl _ _) rfl)
              · first | (simp only [he] at hK ⊢; clear he; go_simp; exact hK _ _ (Fr.refl _ _) rfl) | (clear he; go_simp; exact hK _ _ (Fr.refl _ _) rfl)
              · first | (simp only [he] at hK ⊢; clear he; go_simp; exact hK _ _ (Fr.refl _ _) rfl) | (clear he; go_simp; exact hK _ _ (Fr.refl _ _) rfl)
              · first | (simp only [he] at hK ⊢; clear he; go_simp; exact hK _ _ (Fr.refl _ _) rfl) | (clear he; go_simp; exact hK _ _ (Fr.refl _ _) rfl)
              · first | (simp only [he] at hK ⊢; clear he; go_simp; exact hK _ _ (Fr.refl _ _) rfl) | (clear he; go_simp; exact hK _ _ (Fr.refl _ _) rfl)
              · simp only [he] at hK ⊢
                clear he
                go_simp
                go_at_call 17
                refine (chaccepted_no gC g7 ms (some ⟨gm, off, none⟩) mc (ltN s.en ms 1) hv N 7 2 wx (C9.out.fr0 hl8.out) (ltN_acc _ _ _ _ _ _)).mono ?_
                rintro er wa ⟨rfl, fa⟩
                exact hK _ _ fa rfl
              · first | (simp only [he] at hK ⊢; clear he; go_simp; exact hK _ _ (Fr.refl _ _) rfl) | (clear he; go_simp; exact hK _ _ (Fr.refl _ _) rfl)
              · first | (simp only [he] at hK ⊢; clear he; go_simp; exact hK _ _ (Fr.refl _ _) rfl) | (clear he; go_simp; exact hK _ _ (Fr.refl _ _) rfl)
              · first | (simp only [he] at hK ⊢; clear he; go_simp; exact hK _ _ (Fr.refl _ _) rfl) | (clear he; go_simp; exact hK _ _ (Fr.refl _ _) rfl)
              · first | (simp only [he] at hK ⊢; clear he; go_simp; exact hK _ _ (Fr.refl _ _) rfl) | (clear he; go_simp; exact hK _ _ (Fr.refl _ _) rfl)
              · first | (simp only [he] at hK ⊢; clear he; go_simp; exact hK _ _ (Fr.refl _ _) rfl) | (clear he; go_simp; exact hK _ _ (Fr.refl _ _) rfl)
              · first | (simp only [he] at hK ⊢; clear he; go_simp; exact hK _ _ (Fr.refl _ _) rfl) | (clear he; go_simp; exact hK _ _ (Fr.refl _ _) rfl)
              · first | (simp only [he] at hK ⊢; clear he; go_simp; exact hK _ _ (Fr.refl _ _) rfl) | (clear he; go_simp; exact hK _ _ (Fr.refl _ _) rfl)
              · first | (simp only [he] at hK ⊢; clear he; go_simp; exact hK _ _ (Fr.refl _ _) rfl) | (clear he; go_simp; exact hK _ _ (Fr.refl _ _) rfl)
              · first | (simp only [he] at hK ⊢; clear he; go_simp; exact hK _ _ (Fr.refl _ _) rfl) | (clear he; go_simp; exact hK _ _ (Fr.refl _ _) rfl)
              · first | (simp only [he] at hK ⊢; clear he; go_simp; exact hK _ _ (Fr.refl _ _) rfl) | (clear he; go_simp; exact hK _ _ (Fr.refl _ _) rfl)
              · first | (simp only [he] at hK ⊢; clear he; go_simp; exact hK _ _ (Fr.refl _ _) rfl) | (clear he; go_simp; exact hK _ _ (Fr.refl _ _) rfl)
              · simp only [he] at hK ⊢
                clear he
                go_simp
                go_at_call 12
                refine (sentryS w.heap.size x.s x.sl wx (SA.out.keep ((F7.out.trans F9.out (fun _ _ h => h)).trans hl8.out (fun _ _ h => h)) (fun _ h => h.elim))).mono ?_
                rintro er wa ⟨v', u', rfl, he', hf', _, _⟩
                exact hK _ _ hf' ⟨v', u', rfl, he'⟩
              · obtain ⟨e0, e1, e2, e3, ⟨v1, u1, e4, h4⟩, _, e5⟩ := he
                have H4 := Lib.hid h4
                clear h4
                simp only [e0, e1, e2, e3, e4, e5] at hK ⊢
                clear e0 e1 e2 e3 e4 e5
                go_simp
                go_at_call 14
                refine (chpromised_no gC g7 ms (some ⟨gm, off, none⟩) mc (ltN s.en ms 1) hv m0 7 2 R M x.s.en v1 u1 true wx (C9.out.fr0 hl8.out) H4.out (ltN_heard _ _ _ _ _ HM1.out)).mono ?_
                rintro er wa ⟨rfl, fa⟩
                exact hK _ _ fa rfl
              · first | (simp only [he] at hK ⊢; clear he; go_simp; exact hK _ _ (Fr.refl _ _) rfl) | (clear he; go_simp; exact hK _ _ (Fr.refl _ _) rfl)
              · first | (simp only [he] at hK ⊢; clear he; go_simp; exact hK _ _ (Fr.refl _ _) rfl) | (clear he; go_simp; exact hK _ _ (Fr.refl _ _) rfl)
              · first | (simp only [he] at hK ⊢; clear he; go_simp; exact hK _ _ (Fr.refl _ _) rfl) | (clear he; go_simp; exact hK _ _ (Fr.refl _ _) rfl)
              · first | (simp only [he] at hK ⊢; clear he; go_simp; exact hK _ _ (Fr.refl _ _) rfl) | (clear he; go_simp; exact hK _ _ (Fr.refl _ _) rfl)
              · first | (simp only [he] at hK ⊢; clear he; go_simp; exact hK _ _ (Fr.refl _ _) rfl) | (clear he; go_simp; exact hK _ _ (Fr.refl _ _) rfl)
              · first | (simp only [he] at hK ⊢; clear he; go_simp; exact hK _ _ (Fr.refl _ _) rfl) | (clear he; go_simp; exact hK _ _ (Fr.refl _ _) rfl)
              · first | (simp only [he] at hK ⊢; clear he; go_simp; exact hK _ _ (Fr.refl _ _) rfl) | (clear he; go_simp; exact hK _ _ (Fr.refl _ _) rfl)
              · first | (simp only [he] at hK ⊢; clear he; go_simp; exact hK _ _ (Fr.refl _ _) rfl) | (clear he; go_simp; exact hK _ _ (Fr.refl _ _) rfl)
              · first | (simp only [he] at hK ⊢; clear he; go_simp; exact hK _ _ (Fr.refl _ _) rfl) | (clear he; go_simp; exact hK _ _ (Fr.refl _ _) rfl)
              · first | (simp only [he] at hK ⊢; clear he; go_simp; exact hK _ _ (Fr.refl _ _) rfl) | (clear he; go_simp; exact hK _ _ (Fr.refl _ _) rfl)
              · first | (simp only [he] at hK ⊢; clear he; go_simp; exact hK _ _ (Fr.refl _ _) rfl) | (clear he; go_simp; exact hK _ _ (Fr.refl _ _) rfl)
              · simp only [he] at hK ⊢
                clear he
                go_simp
                go_at_call 12
                refine (sentryS w.heap.size x.s x.sl wx (SA.out.keep ((F7.out.trans F9.out (fun _ _ h => h)).trans hl8.out (fun _ _ h => h)) (fun _ h => h.elim))).mono ?_
                rintro er wa ⟨v', u', rfl, he', hf', _, _⟩
                exact hK _ _ hf' ⟨v', u', rfl, he'⟩
              · obtain ⟨e0, e1, e2, e3, ⟨v1, u1, e4, h4⟩, _, e5⟩ := he
                have H4 := Lib.hid h4
                clear h4
                simp only [e0, e1, e2, e3, e4, e5] at hK ⊢
                clear e0 e1 e2 e3 e4 e5
                go_simp
                go_at_call 14
                refine (chpromised_no gC g7 ms (some ⟨gm, off, none⟩) mc (ltN s.en ms 1) hv N 7 2 R M x.s.en v1 u1 true wx (C9.out.fr0 hl8.out) H4.out (HXO.out _ _ (by have := HD.out; simpa using this))).mono ?_
                rintro er wa ⟨rfl, fa⟩
                exact hK _ _ fa rfl
              · first | (simp only [he] at hK ⊢; clear he; go_simp; exact hK _ _ (Fr.refl _ _) rfl) | (clear he; go_simp; exact hK _ _ (Fr.refl _ _) rfl)
              · first | (simp only [he] at hK ⊢; clear he; go_simp; exact hK _ _ (Fr.refl _ _) rfl) | (clear he; go_simp; exact hK _ _ (Fr.refl _ _) rfl)
            case fint =>
              intro vals w' hle hV
              have h9 : vals 48 = .bool false := hV 48 (by decide)
              clear hV
              have hfin := Fr.trans (Fr.drew (Fr.refl (fun _ => False) w9)) hle (fun _ _ h => h)
              clear hle
              simp only [frOf, fill, List.setIfInBounds_toArray, List.set_cons_succ, List.set_cons_zero, Nat.reduceAdd]
              go_wp2_with fail
              go_meet
              exact ⟨(by first | exact h9 | rfl), hfin⟩
        case rest =>
          obtain ⟨rfl, hwx⟩ := hcut
          have FR := Lib.hid (F9.out.trans hwx (fun _ _ h => h))
          clear hwx F9 Q9 C9
          have hk60 := HN.out
          go_wp2_with fail
          go_roundg (l.length - (k + 1))
          case measure => omega
          case rel => exact ⟨k + 1, by omega, rfl, by congr 1, FR⟩


end Go.Proofs.Ytcjijafmfomohaa
