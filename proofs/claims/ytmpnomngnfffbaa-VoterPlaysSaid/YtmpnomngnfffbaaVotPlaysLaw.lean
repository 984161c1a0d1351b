/-
  The law VoterPlays, walked.
-/
import Derived.Test.YtmpnomngnfffbaaVotVoter2
import Derived.Test.YtmpnomngnfffbaaVotActs
import Derived.Test.YtmpnomngnfffbaaVotBaEq
import Derived.Test.YtmpnomngnfffbaaTwo
import Derived.Deep.LoopGhost
namespace Go.Proofs.Ytmpnomngnfffbaa
open Go.RowKit
set_option maxRecDepth 100000

abbrev oAc (x : AcE) : Obj := Obj.cells x.arr 61 (0, 0)

theorem ac_cells {w : World} {g : Nat} {x : AcE} (h : w.heap[g]? = some (oAc x)) :
    w.cell? ⟨g, 0, none⟩ = some (.int .u8 x.r) ∧ w.cell? ⟨g, 1, none⟩ = some (.int .u8 x.n) ∧ w.cell? ⟨g, 2, none⟩ = some (.bool x.vote) ∧ w.cell? ⟨g, 3, none⟩ = some (.int .u8 x.s.kind) ∧ w.cell? ⟨g, 4, none⟩ = some (.int .u16 x.s.c.t) ∧
    w.cell? ⟨g, 5, none⟩ = some (.int .u16 x.s.c.n) ∧ w.cell? ⟨g, 6, none⟩ = some (.int .u16 x.s.c.p) ∧ w.cell? ⟨g, 7, none⟩ = some x.sl ∧ w.cell? ⟨g, 8, none⟩ = some (.int .u16 x.s.mb) := by
  simp [World.cell?, h]

theorem mod6 (k : Int) (h0 : 0 ≤ k) (h1 : k ≤ 255) : IntKind.u8.wrap (k % 6) = k % 6 := by rw [IntKind.wrap_u8]; omega
theorem mod4 (k : Int) (h0 : 0 ≤ k) (h1 : k ≤ 255) : IntKind.u8.wrap (k % 4) = k % 4 := by rw [IntKind.wrap_u8]; omega
theorem wrap_small (k : Int) (h0 : 0 ≤ k) (h1 : k ≤ 1000) : IntKind.i64.wrap k = k := by rw [IntKind.wrap_i64]; omega

set_option maxHeartbeats 16000000 in
theorem plays_law (l : List AcE) (av : Option Addr) (cap : Nat) (w : World) (hl : l = [] ∨ ∃ g off, av = some ⟨g, off, none⟩ ∧ l.length ≤ cap ∧ ∀ j x, l[j]? = some x → AcOk w x ∧ ∀ i v, x.cells[i]? = some v → w.cell? ⟨g, off + j * 9 + i, none⟩ = some v) :
    Calls Try.prog 5 #[.slice av l.length cap] w fun e w' => e = .returned (.bool true) ∧ Fr (fun _ => False) w w' := by
  have HL := Lib.hid hl
  clear hl
  go_enter Try.func5, Try.ntmps5
  go_wp2_with fail
  refine (vtawake_any w).mono ?_
  rintro e w1 ⟨rfl, f1⟩
  have F1 := Lib.hid f1
  clear f1
  dsimp only
  by_cases hn : l.length ≤ 60
  case neg =>
    have hn' : (60 : Int) < (l.length : Int) := by omega
    clear hn
    go_wp2_with fail
    go_ret
    exact ⟨rfl, F1.out⟩
  have hn' : ¬ (60 : Int) < (l.length : Int) := by omega
  have HN := Lib.hid hn
  go_upto_region 9 with fail
  clear hn hn'
  have hv := vts_new w1
  have f2 : Fr (fun _ => False) w1 (w1.alloc (oVr 0 0 0 0 0 0 0 0 nilS nilS false)) := (Fr.refl _ _).alloc _
  have f3 : Fr (fun _ => False) (w1.alloc (oVr 0 0 0 0 0 0 0 0 nilS nilS false)) ((w1.alloc (oVr 0 0 0 0 0 0 0 0 nilS nilS false)).alloc (oEn 0 0 0 0 nilS nilS)) := (Fr.refl _ _).alloc _
  have q3 := new_two w1 (oVr 0 0 0 0 0 0 0 0 nilS nilS false) (oEn 0 0 0 0 nilS nilS)
  have q2 := crow_kept (heap_alloc_new w1 (oVr 0 0 0 0 0 0 0 0 nilS nilS false)) f3 (fun h => h)
  have f4 := f2.trans f3 (fun _ _ h => h)
  clear f2 f3 hv
  generalize (w1.alloc (oVr 0 0 0 0 0 0 0 0 nilS nilS false)).alloc (oEn 0 0 0 0 nilS nilS) = w2 at *
  generalize hbV : w1.heap.size = bV at *
  generalize hg7 : bV + 1 = g7 at *
  have hord : w.heap.size ≤ bV ∧ bV < g7 := by have := F1.out.size; omega
  have HORD := Lib.hid hord
  clear hbV hg7 hord
  have V2 : Hid (VtG w2 bV g7 ⟨0, 0, 0, 0, En.zero, false⟩) := Lib.hid ⟨nilS, nilS, q2, es_zero _, away_nil _, away_nil _, by decide, by decide⟩
  have E2 : Hid (EnG w2 bV g7 En.zero) := Lib.hid ⟨nilS, nilS, q3, es_zero _, away_nil _, away_nil _⟩
  have F2 := Lib.hid (F1.out.trans f4 (fun _ _ h => h))
  clear q2 q3 f4 F1
  go_loopg [4, 5, 6, 27] l.length (fun gh u4 u5 u6 u27 wr => ∃ (k : Nat) (st : VtN) (z4 z5 : Int), k ≤ l.length ∧ gh = l.length - k ∧ u27 = .int .i64 k ∧ u4 = .int .i64 z4 ∧ u5 = .int .i64 z5 ∧ u6 = .bool st.s ∧
    Hid (z4 = 10 * st.pr + st.pn ∧ z5 = 10 * st.ar + st.an) ∧ Hid (VtOk st) ∧ Hid (VtG wr bV g7 st) ∧ Hid (EnG wr bV g7 st.x) ∧ Hid (Fr (fun _ => False) w wr))
  case atStart => exact ⟨0, ⟨0, 0, 0, 0, En.zero, false⟩, 0, 0, Nat.zero_le _, rfl, rfl, rfl, rfl, rfl, Lib.hid ⟨rfl, rfl⟩, Lib.hid ⟨by decide, by decide, by decide, by decide, by decide, by decide, by decide, by decide⟩, V2, E2, F2⟩
  case round =>
    obtain ⟨k, st, z4, z5, hk, rfl, rfl, rfl, rfl, rfl, HZ, OK, V, E, F⟩ := hrel
    clear V2 E2 F2
    by_cases hlt : k < l.length
    case neg =>
      go_wp2_with fail
      go_ret
      exact ⟨rfl, F.out⟩
    rcases HL.out with h0 | ⟨g, off, rfl, hcap, hll⟩
    · rw [h0] at hlt; exact absurd hlt (by simp)
    obtain ⟨x, hx⟩ : ∃ x, l[k]? = some x := ⟨l[k], List.getElem?_eq_getElem hlt⟩
    have hcl := (hll k x hx).2
    have hcw : ∀ i v, x.cells[i]? = some v → wr.cell? ⟨g, off + k * 9 + i, none⟩ = some v := fun i v h => by
      have h1 := hcl i v h
      rw [F.out.cell (World.block_lt_of_cell? w _ h1) (fun h => h)]
      exact h1
    have c0 := hcw 0 _ rfl
    rw [Nat.add_zero] at c0
    have c1 := hcw 1 _ rfl
    have c2 := hcw 2 _ rfl
    have c3 := hcw 3 _ rfl
    have c4 := hcw 4 _ rfl
    have c5 := hcw 5 _ rfl
    have c6 := hcw 6 _ rfl
    have c7 := hcw 7 _ rfl
    have c8 := hcw 8 _ rfl
    have HX : Hid (AcOk w x) := Lib.hid (hll k x hx).1
    clear hx hcl hcw hll
    go_upto_region 11 with fail
    have q4 := heap_alloc_new wr (oAc x)
    have f4 : Fr (fun _ => False) wr (wr.alloc (oAc x)) := (Fr.refl _ _).alloc _
    clear c0 c1 c2 c3 c4 c5 c6 c7 c8
    generalize wr.alloc (oAc x) = w4 at *
    obtain ⟨gA, hgA⟩ : ∃ g, g = wr.heap.size := ⟨_, rfl⟩
    rw [← hgA] at q4 ⊢
    have HA : Hid (g7 < gA) := Lib.hid (by have := E.out.lt; omega)
    have Q4 := Lib.hid q4
    have V4 := Lib.hid (V.out.fr f4)
    have E4 := Lib.hid (E.out.fr f4)
    have F4 := Lib.hid (F.out.trans f4 (fun _ _ h => h))
    clear q4 f4 V E F hgA
    obtain ⟨c0, c1, c2, c3, c4, c5, c6, c7, c8⟩ := ac_cells Q4.out
    by_cases hlx : x.s.c.l.length ≤ 50
    case neg =>
      have hl' : (50 : Int) < (x.s.c.l.length : Int) := by omega
      clear hlx
      go_wp2_with fail
      go_ret
      exact ⟨rfl, F4.out⟩
    have hlx' : ¬ (50 : Int) < (x.s.c.l.length : Int) := by omega
    obtain ⟨⟨⟨hr0, hr1⟩, hn0, hn1⟩, hsee, hok⟩ := HX.out
    have SX : Hid (SmAt w.heap.size w x.s x.sl) := Lib.hid ⟨⟨_, _, rfl⟩, hsee.1, hsee.2, hok, by omega⟩
    clear hlx HX hsee hok
    have hb0 : 0 ≤ x.r % 6 ∧ x.r % 6 ≤ 5 := by omega
    have hb1 : 0 ≤ x.n % 4 ∧ x.n % 4 ≤ 3 := by omega
    go_upto_region 15 with fail
    obtain ⟨R, hR⟩ : ∃ R, R = x.r % 6 := ⟨_, rfl⟩
    obtain ⟨N, hNN⟩ : ∃ N, N = x.n % 4 := ⟨_, rfl⟩
    rw [← hR] at hb0 ⊢
    rw [← hNN] at hb1 ⊢
    clear hR hNN hr0 hr1 hn0 hn1
    have q5 := heap_alloc_new w4 (oBa R N)
    have f5 : Fr (fun _ => False) w4 (w4.alloc (oBa R N)) := (Fr.refl _ _).alloc _
    obtain ⟨gB, hgB⟩ : ∃ g, g = w4.heap.size := ⟨_, rfl⟩
    generalize w4.alloc (oBa R N) = w5 at *
    rw [← hgB] at q5 ⊢
    obtain ⟨z, hz⟩ : ∃ z, z = 10 * R + N := ⟨_, rfl⟩
    rw [← hz]
    have HB : Hid (gA < gB) := Lib.hid (by have := lt_of Q4.out; omega)
    have Q5 := Lib.hid (And.intro (crow_kept Q4.out f5 (fun h => h)) q5)
    have V5 := Lib.hid (V4.out.fr f5)
    have E5 := Lib.hid (E4.out.fr f5)
    have F5 := Lib.hid (F4.out.trans f5 (fun _ _ h => h))
    have RN := Lib.hid (And.intro (And.intro hb0 hb1) hz)
    clear q5 f5 Q4 V4 E4 F4 hgB hb0 hb1 hz c0 c1 c2 c3 c4 c5 c6 c7 c8
    obtain ⟨c0, c1, c2, c3, c4, c5, c6, c7, c8⟩ := ac_cells Q5.out.1
    obtain ⟨e0, e1⟩ := ba_cells Q5.out.2
    have hord : w.heap.size ≤ bV ∧ bV < g7 ∧ g7 < gA ∧ gA < gB := ⟨HORD.out.1, HORD.out.2, HA.out, HB.out⟩
    have HOR := Lib.hid hord
    clear hord
    obtain ⟨vt, hvt⟩ : ∃ vt, vt = x.vote := ⟨_, rfl⟩
    rw [← hvt] at c2
    clear hvt
    cases vt with
    | true =>
      obtain ⟨B, hB⟩ : ∃ B, B = !blt R N st.pr st.pn := ⟨_, rfl⟩
      have HBB := Lib.hid hB
      clear hB
      go_upto_region 16 with fail
      refine wp_region_chain (by kernel_rfl) [some 54, some 55, some 56, some 57, some 58, some 59, some 12] rfl (by decide) (by intro d hd; simp at hd ⊢; omega)
        [4, 5] (fun cvs wx => AcG bV g7 st R N x.s w5 cvs wx)
        [.free (.pointer (some ⟨bV, 0, none⟩)), .free (ball R N), .free (.pointer (some ⟨gA, 3, none⟩)), .free (smV x.s x.sl), .link none, .link (some (.bool B)), .free (.bool B)]
        (by kernel_rfl) (by kernel_rfl) ?h16 ?step16 ?fin16
      case h16 => exact (Fr.refl _ _).drew
      case step16 =>
        intro vals
        simp only [frOfU, fillU, List.setIfInBounds_toArray, List.set_cons_succ, List.set_cons_zero]
        repeat' (first | exact AllOps.nil | refine AllOps.cons ?_ ?_)
        all_goals
          intro cvs wx hS he hu hlim Kc hK
          simp only [Act.put, List.setIfInBounds_toArray, List.set_cons_succ, List.set_cons_zero, List.getD_cons_zero, List.getD_cons_succ] at hK
          simp only [List.mem_cons, List.not_mem_nil, or_false, forall_eq_or_imp, forall_eq, Region.binds, forall_const, qmode_gc, Bool.false_eq_true, false_imp_iff, List.getD_cons_zero, List.getD_cons_succ, OpSort.val, Option.some.injEq, forall_eq', reduceCtorEq, implies_true, true_and, and_true] at he
          have hl5 := AcG.fr hS
          obtain ⟨c0, c1, c2, c3, c4, c5, c6, c7, c8⟩ := ac_cells (crow_kept Q5.out.1 hl5 (by have := HOR.out; omega))
          obtain ⟨e0, e1⟩ := ba_cells (crow_kept Q5.out.2 hl5 (by have := HOR.out; omega))
          clear hl5
          have HSX := Lib.hid hS
          clear hS
        all_goals first | (clear hlim hu; (try simp only [he] at hK ⊢); go_simp; exact hK) | skip
        · obtain rfl := hlim (0 : Nat) rfl
          have h1 : Fr (fun _ => False) w5 wx := HSX.out
          have H1 := Lib.hid h1
          have hbl : bV < wx.heap.size ∧ g7 < wx.heap.size := ⟨Nat.lt_of_lt_of_le V5.out.lt h1.size, Nat.lt_of_lt_of_le E5.out.lt h1.size⟩
          have HBL := Lib.hid hbl
          clear hlim hu HSX h1 hbl
          simp only [he] at hK ⊢
          go_simp
          go_at_call 9
          refine (sentryS w.heap.size x.s x.sl wx (SX.out.keep (F5.out.trans H1.out (fun _ _ h => h)) (fun _ h => h.elim))).mono ?_
          rintro er wa ⟨v', u', rfl, he', hf', haw, hsm⟩
          exact hK _ _ (fun _ h => by cases h) ⟨v', u', rfl, he', haw bV (by have := HOR.out; omega) HBL.out.1, haw g7 (by have := HOR.out; omega) HBL.out.2, hsm, H1.out.trans hf' (fun _ _ h => h)⟩
        · obtain rfl := hlim (1 : Nat) rfl
          obtain ⟨v', u', hv4, he3, haw, hag, hsm, hf3⟩ : AcG bV g7 st R N x.s w5 [vals 4] wx := HSX.out
          have HC := Lib.hid (acceptG bV g7 st R N x.s.en v' u' wx (V5.out.fr hf3) he3 haw hag hsm)
          have HF3 := Lib.hid hf3
          clear hlim hu HSX he3 haw hag hsm hf3
          simp only [he, hv4] at hK ⊢
          clear he hv4
          go_simp
          go_at_call 20
          refine HC.out.mono ?_
          rintro er wa ⟨rfl, fa, hva⟩
          refine hK _ _ (fun _ h => by cases h; rw [← HBB.out]) ⟨rfl, (HF3.out.mono (fun _ _ h => h.elim)).trans fa (fun _ _ h => h), hva⟩
      case fin16 =>
        intro vals w6 hS hV
        have v0 := hV 0 _ (by decide) rfl
        have v1 := hV 1 _ (by decide) rfl
        have v2 := hV 2 _ (by decide) rfl
        have v3 := hV 3 _ (by decide) rfl
        have v5 := hV 5 _ (by decide) rfl
        have v6 := hV 6 _ (by decide) rfl
        clear hV
        simp only [frOfU, fillU, List.setIfInBounds_toArray, List.set_cons_succ, List.set_cons_zero]
        simp only [Nat.reduceAdd, v0, v1, v2, v3, v5, v6]
        clear v0 v1 v2 v3 v5 v6
        obtain ⟨_, hf6, hv6⟩ : AcG bV g7 st R N x.s w5 [vals 4, vals 5] w6 := hS
        generalize vals 4 = y4 at *
        have Q6 := Lib.hid (crow_kept Q5.out.1 hf6 (by have := HOR.out; omega))
        have F6 := Lib.hid (F5.out.trans hf6 (fun k hk e => by have := HOR.out; omega))
        have V6 := Lib.hid hv6
        have E6 := Lib.hid (E5.out.keep hf6 (by have := HOR.out; omega))
        clear hf6 hv6 Q5 V5 E5 F5 c0 c1 c2 c3 c4 c5 c6 c7 c8 e0 e1
        have hnum : blt R N st.pr st.pn = decide (z < z4) := by rw [blt_num RN.out.1.2.1 RN.out.1.2.2 OK.out.n0 OK.out.n1, RN.out.2, HZ.out.1]
        cases B with
        | false =>
          have hlt2 : z < z4 := by have h1 := HBB.out; rw [hnum] at h1; simpa using h1
          have hst : st.accept R N x.s.en = st := by unfold VtN.accept; rw [if_pos (by rw [hnum]; simp [hlt2])]
          rw [hst] at V6
          clear hnum hst
          go_wp2_with fail
          refine (promisedS bV st w6 V6.out.vts).mono ?_
          rintro e wt ⟨rfl, ft⟩
          have ft2 : Fr (fun _ => False) wt (wt.alloc (oBa st.pr st.pn)) := (Fr.refl _ _).alloc _
          have VT := Lib.hid (V6.out.fr (ft.trans ft2 (fun _ _ h => h)))
          have ET := Lib.hid (E6.out.fr (ft.trans ft2 (fun _ _ h => h)))
          have FT := Lib.hid (F6.out.trans (ft.trans ft2 (fun _ _ h => h)) (fun _ _ h => h))
          clear ft ft2 V6 E6 F6
          dsimp only
          have hn60 := HN.out
          have o0 := OK.out.p0
          have o1 := OK.out.p1
          have o2 := OK.out.n0
          have o3 := OK.out.n1
          have oz : 10 * st.pr + st.pn = z4 := HZ.out.1.symm
          go_wp2_with fail
          go_roundg (l.length - (k + 1))
          case measure => omega
          case rel => exact ⟨k + 1, st, z4, z5, by omega, rfl, by congr 1, rfl, rfl, rfl, Lib.hid ⟨HZ.out.1, HZ.out.2⟩, Lib.hid OK.out, VT, ET, FT⟩

        | true =>
          have hlt2 : z4 ≤ z := by have h1 := HBB.out; rw [hnum] at h1; simpa using h1
          have hst : st.accept R N x.s.en = ⟨R, N, R, N, x.s.en, true⟩ := by unfold VtN.accept; rw [if_neg (by rw [hnum]; simp; omega)]
          rw [hst] at V6
          clear hnum hst
          obtain ⟨c0, c1, c2, c3, c4, c5, c6, c7, c8⟩ := ac_cells Q6.out
          go_wp2_with fail
          refine (sentryS w.heap.size x.s x.sl w6 (SX.out.keep F6.out (fun _ h => h.elim))).mono ?_
          rintro er w7 ⟨v7, u7, rfl, hes, f7, haw, hsm⟩
          have hab := haw bV (by have := HOR.out; omega) V6.out.lt
          have hag := haw g7 (by have := HOR.out; omega) E6.out.lt
          obtain ⟨a7, k7, hv7', _⟩ := hes.1.shape
          obtain ⟨b7, d7, hu7', _⟩ := hes.2.shape
          subst hv7' hu7'
          have V7 := Lib.hid (V6.out.fr f7)
          obtain ⟨vo, uo, qo, _⟩ := E6.out.fr f7
          have F7 := Lib.hid (F6.out.trans f7 (fun _ _ h => h))
          have HES := Lib.hid (And.intro hes (And.intro hab hag))
          have QO := Lib.hid qo
          clear f7 haw hsm hes hab hag V6 E6 F6 qo c0 c1 c2 c3 c4 c5 c6 c7 c8
          obtain ⟨d0, d1, d2, d3, d4, d5⟩ := en_cells QO.out
          obtain ⟨y0, y1, y2, y3, y4, y5⟩ := vfree6 QO.out
          dsimp only
          go_upto_region 28 with fail
          have hq := cst6 (y0 := .int .u8 x.s.en.k) (y1 := .int .u16 x.s.en.t) (y2 := .int .u16 x.s.en.n) (y3 := .int .i64 x.s.en.p) (y4 := .slice a7 x.s.en.l.length k7) (y5 := .slice b7 x.s.en.m.length d7) QO.out
          have hf := cfr6 (.int .u8 x.s.en.k) (.int .u16 x.s.en.t) (.int .u16 x.s.en.n) (.int .i64 x.s.en.p) (.slice a7 x.s.en.l.length k7) (.slice b7 x.s.en.m.length d7) (b := g7) (S := fun k => k = g7) (Fr.refl _ w7) (fun _ => rfl)
          generalize (((((w7.setCell ⟨g7, 0, none⟩ (.int .u8 x.s.en.k)).setCell ⟨g7, 1, none⟩ (.int .u16 x.s.en.t)).setCell ⟨g7, 2, none⟩ (.int .u16 x.s.en.n)).setCell ⟨g7, 3, none⟩ (.int .i64 x.s.en.p)).setCell ⟨g7, 4, none⟩ (.slice a7 x.s.en.l.length k7)).setCell ⟨g7, 5, none⟩ (.slice b7 x.s.en.m.length d7) = w8 at *
          have V8 := Lib.hid (V7.out.keep hf (by have := HOR.out; omega))
          have E8 : Hid (EnG w8 bV g7 x.s.en) := Lib.hid ⟨_, _, hq, HES.out.1.keep HES.out.2.2 hf, HES.out.2.1, HES.out.2.2⟩
          have F8 := Lib.hid (F7.out.trans hf (fun k hk e => by have := HOR.out; omega))
          clear hq hf V7 F7 HES QO d0 d1 d2 d3 d4 d5 y0 y1 y2 y3 y4 y5
          go_wp2_with fail
          refine (promisedS bV (⟨R, N, R, N, x.s.en, true⟩ : VtN) w8 V8.out.vts).mono ?_
          rintro e wt ⟨rfl, ft⟩
          have ft2 : Fr (fun _ => False) wt (wt.alloc (oBa (⟨R, N, R, N, x.s.en, true⟩ : VtN).pr (⟨R, N, R, N, x.s.en, true⟩ : VtN).pn)) := (Fr.refl _ _).alloc _
          have VT := Lib.hid (V8.out.fr (ft.trans ft2 (fun _ _ h => h)))
          have ET := Lib.hid (E8.out.fr (ft.trans ft2 (fun _ _ h => h)))
          have FT := Lib.hid (F8.out.trans (ft.trans ft2 (fun _ _ h => h)) (fun _ _ h => h))
          clear ft ft2 V8 E8 F8
          dsimp only
          have hn60 := HN.out
          have o0 := RN.out.1.1.1
          have o1 := RN.out.1.1.2
          have o2 := RN.out.1.2.1
          have o3 := RN.out.1.2.2
          have oz : 10 * R + N = z := RN.out.2.symm
          go_wp2_with fail
          go_roundg (l.length - (k + 1))
          case measure => omega
          case rel => exact ⟨k + 1, (⟨R, N, R, N, x.s.en, true⟩ : VtN), z, z, by omega, rfl, by congr 1, rfl, rfl, rfl, Lib.hid ⟨RN.out.2, RN.out.2⟩, Lib.hid ⟨RN.out.1.1.1, RN.out.1.1.2, RN.out.1.2.1, RN.out.1.2.2, RN.out.1.1.1, RN.out.1.1.2, RN.out.1.2.1, RN.out.1.2.2⟩, VT, ET, FT⟩

    | false =>
      have hnum : blt st.pr st.pn R N = decide (z4 < z) := by rw [blt_num OK.out.n0 OK.out.n1 RN.out.1.2.1 RN.out.1.2.2, RN.out.2, HZ.out.1]
      have HNUM := Lib.hid hnum
      clear hnum
      go_wp2_with fail
      refine (promiseG bV g7 st R N w5 V5.out).mono ?_
      rintro e w6 ⟨⟨hno, hyes⟩, hf6, hv6⟩
      have Q6 := Lib.hid (crow_kept Q5.out.1 hf6 (by have := HOR.out; omega))
      have F6 := Lib.hid (F5.out.trans hf6 (fun k hk e => by have := HOR.out; omega))
      have E6 := Lib.hid (E5.out.keep hf6 (by have := HOR.out; omega))
      by_cases hlt2 : z4 < z
      · have hb : blt st.pr st.pn R N = true := by rw [HNUM.out]; simp [hlt2]
        have hst : st.promise R N = ⟨R, N, st.ar, st.an, st.x, st.s⟩ := by unfold VtN.promise; rw [if_pos hb]
        rw [hst] at hv6
        obtain ⟨v6, u6, rfl, hes, _⟩ := hyes hb
        have V6 := Lib.hid hv6
        obtain ⟨a6, k6, hv6', _⟩ := hes.1.shape
        obtain ⟨b6, d6, hu6', _⟩ := hes.2.shape
        subst hv6' hu6'
        have HES := Lib.hid hes
        clear hno hyes hf6 hv6 hst hb hes Q5 V5 E5 F5 c0 c1 c2 c3 c4 c5 c6 c7 c8 e0 e1
        dsimp only
        have hs0 : (st.s != st.s) = false := by simp
        have o4 := OK.out.a0
        have o5 := OK.out.a1
        have o6 := OK.out.m0
        have o7 := OK.out.m1
        have oy : 10 * st.ar + st.an = z5 := HZ.out.2.symm
        obtain ⟨v7, u7, q7, es7, _⟩ := E6.out
        have Q7 := Lib.hid q7
        have ES7 := Lib.hid es7
        clear q7 es7
        go_upto_region 22 with fail
        have f8 : Fr (fun _ => False) w6 ((w6.alloc (oBa st.ar st.an)).alloc (st.x.obj (.slice a6 st.x.l.length k6) (.slice b6 st.x.m.length d6))) := ((Fr.refl _ _).alloc _).alloc _
        have q8 := new_two w6 (oBa st.ar st.an) (st.x.obj (.slice a6 st.x.l.length k6) (.slice b6 st.x.m.length d6))
        have q9 := crow_kept (heap_alloc_new w6 (oBa st.ar st.an)) ((Fr.refl (fun _ => False) _).alloc (st.x.obj (.slice a6 st.x.l.length k6) (.slice b6 st.x.m.length d6))) (fun h => h)
        generalize (w6.alloc (oBa st.ar st.an)).alloc (st.x.obj (.slice a6 st.x.l.length k6) (.slice b6 st.x.m.length d6)) = w8 at *
        generalize w6.heap.size = gC at *
        have V8 := Lib.hid (V6.out.fr f8)
        have E8 := Lib.hid (E6.out.fr f8)
        have F8 := Lib.hid (F6.out.trans f8 (fun _ _ h => h))
        have ES8 := Lib.hid (And.intro (HES.out.fr f8) (ES7.out.fr f8))
        obtain ⟨c0, c1, c2, c3, c4, c5⟩ := en_cells q8
        obtain ⟨e0, e1⟩ := ba_cells q9
        obtain ⟨d0, d1, d2, d3, d4, d5⟩ := en_cells (crow_kept Q7.out f8 (fun h => h))
        clear f8 q8 q9 V6 E6 F6 HES ES7 Q7 Q6
        go_wp2_with fail
        refine (vsame_any st.x st.x (.slice a6 st.x.l.length k6) (.slice b6 st.x.m.length d6) v7 u7 w8 ES8.out.1 ES8.out.2 (by obtain ⟨_, _, _, _, _, _, h⟩ := V8.out; exact h.2)).mono ?_
        rintro er w9 ⟨rfl, f9⟩
        rw [En.same_refl]
        have V9 := Lib.hid (V8.out.fr f9)
        have E9 := Lib.hid (E8.out.fr f9)
        have F9 := Lib.hid (F8.out.trans f9 (fun _ _ h => h))
        clear f9 V8 E8 F8 ES8 c0 c1 c2 c3 c4 c5 e0 e1 d0 d1 d2 d3 d4 d5 oy o4 o5 o6 o7
        dsimp only
        go_wp2_with fail
        refine (promisedS bV (⟨R, N, st.ar, st.an, st.x, st.s⟩ : VtN) w9 V9.out.vts).mono ?_
        rintro e wt ⟨rfl, ft⟩
        have ft2 : Fr (fun _ => False) wt (wt.alloc (oBa (⟨R, N, st.ar, st.an, st.x, st.s⟩ : VtN).pr (⟨R, N, st.ar, st.an, st.x, st.s⟩ : VtN).pn)) := (Fr.refl _ _).alloc _
        have VT := Lib.hid (V9.out.fr (ft.trans ft2 (fun _ _ h => h)))
        have ET := Lib.hid (E9.out.fr (ft.trans ft2 (fun _ _ h => h)))
        have FT := Lib.hid (F9.out.trans (ft.trans ft2 (fun _ _ h => h)) (fun _ _ h => h))
        clear ft ft2 V9 E9 F9
        dsimp only
        have hn60 := HN.out
        have o0 := RN.out.1.1.1
        have o1 := RN.out.1.1.2
        have o2 := RN.out.1.2.1
        have o3 := RN.out.1.2.2
        have oz : 10 * R + N = z := RN.out.2.symm
        go_wp2_with fail
        go_roundg (l.length - (k + 1))
        case measure => omega
        case rel => exact ⟨k + 1, (⟨R, N, st.ar, st.an, st.x, st.s⟩ : VtN), z, z5, by omega, rfl, by congr 1, rfl, rfl, rfl, Lib.hid ⟨RN.out.2, HZ.out.2⟩, Lib.hid ⟨RN.out.1.1.1, RN.out.1.1.2, RN.out.1.2.1, RN.out.1.2.2, OK.out.a0, OK.out.a1, OK.out.m0, OK.out.m1⟩, VT, ET, FT⟩

      · have hb : blt st.pr st.pn R N = false := by rw [HNUM.out]; simp; omega
        have hst : st.promise R N = st := by unfold VtN.promise; rw [if_neg (by rw [hb]; decide)]
        rw [hst] at hv6
        obtain rfl := hno hb
        have V6 := Lib.hid hv6
        clear hno hyes hf6 hv6 hst hb Q5 V5 E5 F5 c0 c1 c2 c3 c4 c5 c6 c7 c8 e0 e1
        have hle2 : z ≤ z4 := by omega
        clear hlt2
        dsimp only
        go_upto_region 22 with fail
        have f8 : Fr (fun _ => False) w6 ((w6.alloc (oBa 0 0)).alloc (oEn 0 0 0 0 nilS nilS)) := ((Fr.refl _ _).alloc _).alloc _
        have q8 := new_two w6 (oBa 0 0) (oEn 0 0 0 0 nilS nilS)
        have q9 := crow_kept (heap_alloc_new w6 (oBa 0 0)) ((Fr.refl (fun _ => False) _).alloc (oEn 0 0 0 0 nilS nilS)) (fun h => h)
        generalize (w6.alloc (oBa 0 0)).alloc (oEn 0 0 0 0 nilS nilS) = w8 at *
        generalize w6.heap.size = gC at *
        have V8 := Lib.hid (V6.out.fr f8)
        have E8 := Lib.hid (E6.out.fr f8)
        have F8 := Lib.hid (F6.out.trans f8 (fun _ _ h => h))
        obtain ⟨c0, c1, c2, c3, c4, c5⟩ := en_cells q8
        obtain ⟨e0, e1⟩ := ba_cells q9
        clear f8 q8 q9 V6 E6 F6 Q6
        go_wp2_with fail
        refine (vsame_any En.zero En.zero nilS nilS nilS nilS w8 (es_zero _) (es_zero _) (by decide)).mono ?_
        rintro er w9 ⟨rfl, f9⟩
        rw [En.same_refl]
        have V9 := Lib.hid (V8.out.fr f9)
        have E9 := Lib.hid (E8.out.fr f9)
        have F9 := Lib.hid (F8.out.trans f9 (fun _ _ h => h))
        clear f9 V8 E8 F8 c0 c1 c2 c3 c4 c5 e0 e1
        dsimp only
        go_wp2_with fail
        refine (promisedS bV st w9 V9.out.vts).mono ?_
        rintro e wt ⟨rfl, ft⟩
        have ft2 : Fr (fun _ => False) wt (wt.alloc (oBa st.pr st.pn)) := (Fr.refl _ _).alloc _
        have VT := Lib.hid (V9.out.fr (ft.trans ft2 (fun _ _ h => h)))
        have ET := Lib.hid (E9.out.fr (ft.trans ft2 (fun _ _ h => h)))
        have FT := Lib.hid (F9.out.trans (ft.trans ft2 (fun _ _ h => h)) (fun _ _ h => h))
        clear ft ft2 V9 E9 F9
        dsimp only
        have hn60 := HN.out
        have o0 := OK.out.p0
        have o1 := OK.out.p1
        have o2 := OK.out.n0
        have o3 := OK.out.n1
        have oz : 10 * st.pr + st.pn = z4 := HZ.out.1.symm
        go_wp2_with fail
        go_roundg (l.length - (k + 1))
        case measure => omega
        case rel => exact ⟨k + 1, st, z4, z5, by omega, rfl, by congr 1, rfl, rfl, rfl, Lib.hid ⟨HZ.out.1, HZ.out.2⟩, Lib.hid OK.out, VT, ET, FT⟩

/-- The law at its arguments. -/
theorem plays_all (l : List AcE) (v : Value) {w : World} (h : ActsV w l v) :
    Calls Try.prog 5 #[v] w fun e w' => e = .returned (.bool true) ∧ Fr (fun _ => False) w w' := by
  rcases h with ⟨rfl, a, c, rfl⟩ | ⟨g, off, cap, rfl, hc, hl⟩
  · exact plays_law [] a c w (.inl rfl)
  · exact plays_law l _ cap w (.inr ⟨g, off, rfl, hc, hl⟩)
