/-
  What ChOnce rests on, part 12: ChOnceLoopB.
-/
import Derived.Test.YtcjfinabffpgkaaS11
set_option linter.unusedVariables false
set_option linter.unusedSimpArgs false
set_option maxHeartbeats 64000000
namespace Go.Proofs.Ytcjfinabffpgkaa
open Go.RowKit
open Go.Lib (hid)
section
set_option maxRecDepth 100000

theorem chonce_letters (mb : Nat) (q : OnQ) (l : List MvE) (g offa : Nat) (cap : Nat) (w : World) (g4 : Nat) (u6 u8 u12 u43 u44 u45 u46 u47 u48 u49 u56 u57 u58 u59 u60 u61 u62 u63 u64 u65 : Value) (ma : Option Addr) (mc : Nat) (ms : List Int) (z6 : Int) (w7 : World) (p : OnP) (Q : OnQ) (K : Act → World → Prop) (Q0 : Exit → Act → World → Prop) :
    (chonce_open mb q l g offa cap w g4 u6 u8 u12 u43 u44 u45 u46 u47 u48 u49 u56 u57 u58 u59 u60 u61 u62 u63 u64 u65 ma mc ms z6 w7 p Q K Q0).1 := by
  intro HL HMB HW HN HQ0 hK FF FN HM6' ND' FEW SX' uu wr JJ KK hJJ k V C hv way cz val acc sm rd hk hKK u13 hlt x HX wvx HWV KA hKA KB hKB w8 gA hl0 hl1 gm off HMA j HJ HWX nd HNM HIN hi6 hi6z vals w9 I9 Q9 a0 a1 a3 a2
  have HNE : Hid (¬ p.ms = []) := Lib.hid (fun e => by have := ND'.out; rw [e] at this; simp at this)
  have hcap : l.length ≤ cap := by
    rcases HL.out with h | ⟨_, _, _, h, _⟩
    · rw [h]; simp
    · exact h
  obtain ⟨wa, wcap, hwv⟩ := slice_of_own I9.out.s.wo
  subst hwv
  by_cases h0 : way = []
  case pos =>
    have hl00 : (way.length : Int) = 0 := by rw [h0]; rfl
    have hz0 : way.length = 0 := by rw [h0]; rfl
    have IN := Lib.hid (I9.out.next)
    rw [hz0] at IN
    clear hz0
    have hk3 := HN.out
    clear I9 Q9
    go_wp2_with fail
    refine HandM.intro (l.length - (k + 1)) ?measure ?mix
    case measure => omega
    case mix => exact hJJ _ _ _ (by kernel_rfl) ⟨k + 1, V, C, hv, way, cz, val, acc, sm, rd, by omega, rfl, by first | rfl | (show Value.int .i64 _ = _; congr 1), by rfl, by first | rfl | (show Value.int .i64 _ = _; congr 1), IN⟩
  have hpos2 : 0 < way.length := List.length_pos_iff.2 h0
  have hl0n : ¬ (way.length : Int) = 0 := by omega
  by_cases h4 : way.length ≤ 400
  case neg =>
    have hl4 : (400 : Int) < (way.length : Int) := by omega
    have IN := Lib.hid (I9.out.next)
    have hk3 := HN.out
    clear I9 Q9
    go_wp2_with fail
    refine HandM.intro (l.length - (k + 1)) ?measure ?mix
    case measure => omega
    case mix => exact hJJ _ _ _ (by kernel_rfl) ⟨k + 1, V, C, hv, way, cz, val, acc, sm, rd, by omega, rfl, by first | rfl | (show Value.int .i64 _ = _; congr 1), by rfl, by first | rfl | (show Value.int .i64 _ = _; congr 1), IN⟩
  have hl4n : ¬ (400 : Int) < (way.length : Int) := by omega
  obtain ⟨gw, cap2, hws, hle2, hcw⟩ := I9.out.s.wo.at h0
  cases hws
  obtain ⟨iL, hiL⟩ : ∃ i, i = x.l.toNat % way.length := ⟨_, rfl⟩
  have hil : iL < way.length := by rw [hiL]; exact Nat.mod_lt _ hpos2
  have htm : x.l.tmod (way.length : Int) = (iL : Int) := by rw [hiL, Int.tmod_eq_emod_of_nonneg hl0]; exact mod_nat _ _ hl0
  clear hiL
  have hb0 : ((way.length : Int) == 0) = false := by simp [h0]
  go_upto_region 38 with fail
  clear hb0
  clear htm hl0n hl4n
  have hilz : (iL : Int) < (way.length : Int) := by omega
  obtain ⟨fl, hfl⟩ : ∃ fl, fl = way[iL] := ⟨_, rfl⟩
  have HFL : Hid (way[iL]? = some fl) := Lib.hid (by rw [hfl]; exact List.getElem?_eq_getElem hil)
  have hmem : fl ∈ way := by rw [hfl]; exact List.getElem_mem hil
  obtain ⟨ff, fv, fu⟩ := fl
  obtain ⟨sa1, sk1, hsv1, _⟩ := (I9.out.s.fl _ hmem).1.1.shape
  obtain ⟨sa2, sk2, hsv2, _⟩ := (I9.out.s.fl _ hmem).1.2.shape
  have hsv1' : fv = .slice sa1 ff.x.l.length sk1 := hsv1
  have hsv2' : fu = .slice sa2 ff.x.m.length sk2 := hsv2
  subst hsv1' hsv2'
  clear hsv1 hsv2
  obtain ⟨fl, hfle⟩ : ∃ z : FlM, z = ⟨ff, .slice sa1 ff.x.l.length sk1, .slice sa2 ff.x.m.length sk2⟩ := ⟨_, rfl⟩
  rw [← hfle] at HFL hmem
  have HFLE := Lib.hid hfle
  have HFO := Lib.hid (I9.out.f fl hmem)
  have HFE := Lib.hid (I9.out.s.fl fl hmem)
  have cc : ∀ j u, (FlM.cells ⟨ff, .slice sa1 ff.x.l.length sk1, .slice sa2 ff.x.m.length sk2⟩)[j]? = some u → w9.cell? ⟨gw, iL * 14 + j, none⟩ = some u := by rw [← hfle]; exact hcw iL fl HFL.out
  have c0 := cc 0 _ rfl
  rw [Nat.add_zero] at c0
  have c1 := cc 1 _ rfl
  have c2 := cc 2 _ rfl
  have c3 := cc 3 _ rfl
  have c4 := cc 4 _ rfl
  have c5 := cc 5 _ rfl
  have c6 := cc 6 _ rfl
  have c7 := cc 7 _ rfl
  have c8 := cc 8 _ rfl
  have c9 := cc 9 _ rfl
  have c10 := cc 10 _ rfl
  have c11 := cc 11 _ rfl
  have c12 := cc 12 _ rfl
  have c13 := cc 13 _ rfl
  clear cc hcw hfl hmem hfle
  go_upto_region 39 with fail
  clear c0 c1 c2 c3 c4 c5 c6 c7 c8 c9 c10 c11 c12 c13 a0 a1 a2 a3
  have q24 := heap_alloc_new w9 (FlM.obj ⟨ff, .slice sa1 ff.x.l.length sk1, .slice sa2 ff.x.m.length sk2⟩)
  have f24 : Fr (fun _ => False) w9 (w9.alloc (FlM.obj ⟨ff, .slice sa1 ff.x.l.length sk1, .slice sa2 ff.x.m.length sk2⟩)) := (Fr.refl _ _).alloc _
  have hwlt := (I9.out.s.wo.lt gw rfl).2
  obtain ⟨g24, hg24⟩ : ∃ g, g = w9.heap.size := ⟨_, rfl⟩
  generalize w9.alloc (FlM.obj ⟨ff, .slice sa1 ff.x.l.length sk1, .slice sa2 ff.x.m.length sk2⟩) = w10 at *
  rw [← hg24] at q24 ⊢
  have I10 := Lib.hid (I9.out.new f24)
  have Q10 := Lib.hid (And.intro (crow_kept Q9.out f24 (fun h => h)) q24)
  have HWN : Hid ((Value.slice (some ⟨gw, 0, none⟩) way.length wcap).ownBlock ≠ some g24) := Lib.hid (by simp [Value.ownBlock]; omega)
  have HFE10 := Lib.hid (show ES w10 fl.f.x fl.v fl.u ∧ AwayS (OnM p hv (.slice (some ⟨gw, 0, none⟩) way.length wcap)) fl.f.x fl.v fl.u ∧ EnSmall fl.f.x from ⟨HFE.out.1.fr f24, HFE.out.2⟩)
  have HLE2 := Lib.hid hle2
  clear q24 f24 hg24 I9 Q9 HFE hwlt hle2
  obtain ⟨a0, a1, a2, a3⟩ := mv_cells Q10.out.1
  obtain ⟨xag, hag⟩ : ∃ b, b = x.ag := ⟨_, rfl⟩
  rw [← hag] at a3
  clear hag a0 a1 a2
  go_upto_if 151 with fail
  clear a3
  obtain ⟨nag, hnag⟩ : ∃ b, b = !xag := ⟨_, rfl⟩
  rw [← hnag]
  clear hnag
  go_cut [13] from 152 to 161 (fun c wx => ∃ way' : List FlM, (∀ y ∈ way', y ∈ way) ∧ way'.length ≤ way.length ∧ OnS p wx V C hv c way' cz ∧ Fr (OnM p hv (.slice (some ⟨gw, 0, none⟩) way.length wcap)) w10 wx ∧ c.ownBlock ≠ some g24 ∧ MExt w10 (OnM p hv (.slice (some ⟨gw, 0, none⟩) way.length wcap)) (OnM p hv c))
  case first =>
    cases nag with
    | false =>
      go_wp2_with fail
      go_meet
      exact ⟨way, fun _ h => h, Nat.le_refl _, I10.out.s, Fr.refl _ _, HWN.out, MExt.refl _ _⟩
    | true =>
      go_upto_region 40 with fail
      focus
        obtain ⟨i1, hi1⟩ : ∃ i1 : Nat, iL + 1 = i1 := ⟨_, rfl⟩
        have HI1 := Lib.hid hi1
        have HIL := Lib.hid hil
        have HIZ : Hid ((iL : Int) + 1 = (i1 : Int)) := Lib.hid (by omega)
        have H400 := Lib.hid h4
        have HWI : Hid (IntKind.i64.wrap (i1 : Int) = (i1 : Int)) := Lib.hid (by rw [IntKind.wrap_i64]; omega)
        have hle3 := HLE2.out
        have g1 : (iL : Int) ≤ (wcap : Int) := by omega
        have g2 : iL ≤ wcap := by omega
        have g3 : (i1 : Int) ≤ (way.length : Int) := by omega
        have g4' : i1 ≤ way.length := by omega
        have g5 : i1 ≤ wcap := by omega
        clear hi1
        by_cases hcc : wcap = i1
        · have HCC := Lib.hid (And.intro hcc (show way.length = i1 by omega))
          clear hcc
          refine wp_region_chain (by kernel_rfl) [some 152, some 153, some 154, some 155, some 156, some 157, some 158, some 159, some 160, some 161, some 13] rfl (by decide) (by intro d hd; simp at hd ⊢; omega)
            [0, 4, 9, 10] (fun cvs wx => WyS p way iL w10 cvs wx)
            [.link none, .free (.slice (some ⟨gw, 0, none⟩) way.length wcap), .free (.int .i64 iL), .free (.slice (some ⟨gw, 0, none⟩) iL wcap), .link none, .free (.slice (some ⟨gw, 0, none⟩) way.length wcap), .free (.int .i64 iL), .free (.int .i64 i1), .free (.slice (some ⟨gw, 0, none⟩) (way.length - i1) (wcap - i1)), .link none, .link none]
            (by kernel_rfl) (by kernel_rfl) ?hr40a ?stepr40a ?finr40a
          case hr40a => exact (Fr.refl _ _).drew
          case stepr40a =>
            intro vals
            simp only [frOfU, fillU, List.setIfInBounds_toArray, List.set_cons_succ, List.set_cons_zero]
            repeat' (first | exact AllOps.nil | refine AllOps.cons ?_ ?_)
            all_goals
              intro cvs wx hS he hu hlim Kc hK
              simp only [Act.put, List.setIfInBounds_toArray, List.set_cons_succ, List.set_cons_zero, List.getD_cons_zero, List.getD_cons_succ] at hK
              simp only [List.mem_cons, List.not_mem_nil, or_false, forall_eq_or_imp, forall_eq, Region.binds, forall_const, qmode_gc, Bool.false_eq_true, false_imp_iff, List.getD_cons_zero, List.getD_cons_succ, OpSort.val, Option.some.injEq, forall_eq', reduceCtorEq, implies_true, true_and, and_true] at he
              have hwi := HWI.out
              have hiz := HIZ.out
              have HSX := Lib.hid hS
              clear hS
            all_goals first | (clear hlim hu; (try simp only [he] at hK ⊢); go_simp; exact hK) | skip
            · obtain rfl := hlim (0 : Nat) rfl
              have h1 : Fr (fun _ => False) w10 wx := HSX.out
              have HR := Lib.hid (And.intro h1 (empty_row wx p.B (Nat.le_trans (I10.out.s.ch 0 in0).1.base h1.size) 59 14))
              clear hlim hu HSX h1
              (try simp only [he] at hK ⊢)
              go_simp
              exact hK _ _ (fun _ h => by cases h) ⟨HR.out.2, fun k hk => by have : wx.heap.size = k := Option.some.inj hk; have := HR.out.1.size; omega, HR.out.1.trans ((Fr.refl (fun _ => False) _).alloc _) (fun _ _ h => h)⟩
            · have h12 : vals 10 = (.slice (some ⟨gw, 0, none⟩) way.length wcap) := hu 10 (by simp) (by kernel_rfl)
              clear hlim hu
              (try simp only [Nat.reduceAdd, Nat.zero_add] at hK)
              simp only [h12] at hK ⊢
              go_simp
              exact hK
            · obtain rfl := hlim (1 : Nat) rfl
              obtain ⟨h1, h2, h3⟩ : WayOwn wx p.B (vals 0) [] ∧ (∀ k, (vals 0).ownBlock = some k → w10.heap.size ≤ k) ∧ Fr (fun _ => False) w10 wx := HSX.out
              have HR := Lib.hid (And.intro h1 (And.intro h2 h3))
              have hwo : WayOwn wx p.B (.slice (some ⟨gw, 0, none⟩) way.length wcap) way := I10.out.s.wo.fr h3 (fun _ _ h => h)
              have v3 : vals 3 = .slice (some ⟨gw, 0, none⟩) iL wcap := by first | exact he | exact he.1 | exact he.2
              clear hlim hu HSX h1 h2 h3 he
              simp only [v3] at hK ⊢
              rw [if_pos (by rfl)]
              have hft : ∀ W, WayOwn W p.B (.slice (some ⟨gw, 0, none⟩) way.length wcap) way → (Builtin.firstCells 14 (way.take iL).length (.slice (some ⟨gw, 0, none⟩) iL wcap)).run Try.prog W = .ok ((way.take iL).flatMap FlM.cells).toArray W := by
                intro W hW
                have h := first_way (P := Try.prog) hW 0 iL wcap (by have := HIL.out; omega)
                rw [Nat.zero_mul] at h
                rw [List.length_take, Nat.min_eq_left (by have := HIL.out; omega)]
                exact h
              refine opWp_fls (.tmp 152) (.tmp 155) rfl p.B (vals 0) [] rfl HR.out.1 (way.take iL) (.slice (some ⟨gw, 0, none⟩) iL wcap) rfl (fun w => by rw [List.length_take, Nat.min_eq_left (by have := HIL.out; omega)]; exact lenOf_slice _ _ _ _) (hft wx hwo) (hft wx.drew hwo) (fun y hy => es_one (I10.out.s.fl y (List.mem_of_mem_take hy)).1) (by rw [List.length_take]; have := H400.out; simp; omega) (Nat.le_trans (I10.out.s.ch 0 in0).1.base HR.out.2.2.size) ?_
              intro v' w' k1 k2 k3
              exact hK _ _ (fun _ h => by cases h) ⟨k1, fun k hk => by
                rcases k3 with e | e
                · exact HR.out.2.1 k (e ▸ hk)
                · rw [e] at hk; have := Option.some.inj hk; have := HR.out.2.2.size; omega, HR.out.2.2.trans (Fr.of_grown k2) (fun k hk e => by have := HR.out.2.1 k e.symm; omega)⟩
            · have h12 : vals 10 = (.slice (some ⟨gw, 0, none⟩) way.length wcap) := hu 10 (by simp) (by kernel_rfl)
              clear hlim hu
              (try simp only [Nat.reduceAdd, Nat.zero_add] at hK)
              simp only [h12] at hK ⊢
              go_simp
              exact hK
            · clear hlim hu
              (try simp only [he] at hK ⊢)
              go_simp
              rw [if_pos HCC.out.1]
              exact hK
            · obtain rfl := hlim (2 : Nat) rfl
              obtain ⟨h1, h2, h3⟩ : WayOwn wx p.B (vals 4) (way.take iL) ∧ (∀ k, (vals 4).ownBlock = some k → w10.heap.size ≤ k) ∧ Fr (fun _ => False) w10 wx := HSX.out
              have HR := Lib.hid (And.intro h1 (And.intro h2 h3))
              have hwo : WayOwn wx p.B (.slice (some ⟨gw, 0, none⟩) way.length wcap) way := I10.out.s.wo.fr h3 (fun _ _ h => h)
              have v8 : vals 8 = .slice (some ⟨gw, 0, none⟩) (way.length - i1) (wcap - i1) := by first | exact he | exact he.1 | exact he.2 | exact he.2.1
              clear hlim hu HSX h1 h2 h3 he
              simp only [v8] at hK ⊢
              rw [if_pos (by rfl)]
              have hfc : ∀ W, WayOwn W p.B (.slice (some ⟨gw, 0, none⟩) way.length wcap) way → (Builtin.firstCells 14 (way.drop (iL + 1)).length (.slice (some ⟨gw, 0, none⟩) (way.length - i1) (wcap - i1))).run Try.prog W = .ok ((way.drop (iL + 1)).flatMap FlM.cells).toArray W := by
                intro W hW
                have hd : (way.drop (iL + 1)).length = way.length - i1 := by rw [List.length_drop, HI1.out]
                rw [hd]
                have hz : way.length - i1 = 0 := by have := HCC.out; omega
                have hdn : way.drop (iL + 1) = [] := List.eq_nil_of_length_eq_zero (by rw [hd, hz])
                rw [hdn, hz]
                have h := first_way (P := Try.prog) hW 0 0 (wcap - i1) (by omega)
                rw [Nat.zero_mul] at h
                exact h
              refine opWp_fls (.tmp 156) (.tmp 160) rfl p.B (vals 4) (way.take iL) rfl HR.out.1 (way.drop (iL + 1)) (.slice (some ⟨gw, 0, none⟩) (way.length - i1) (wcap - i1)) rfl (fun w => by rw [List.length_drop, HI1.out]; exact lenOf_slice _ _ _ _) (hfc wx hwo) (hfc wx.drew hwo) (fun y hy => es_one (I10.out.s.fl y (List.mem_of_mem_drop hy)).1) (by rw [List.length_take, List.length_drop]; have := H400.out; omega) (Nat.le_trans (I10.out.s.ch 0 in0).1.base HR.out.2.2.size) ?_
              intro v' w' k1 k2 k3
              exact hK _ _ (fun _ h => by cases h) ⟨k1, fun k hk => by
                rcases k3 with e | e
                · exact HR.out.2.1 k (e ▸ hk)
                · rw [e] at hk; have := Option.some.inj hk; have := HR.out.2.2.size; omega, HR.out.2.2.trans (Fr.of_grown k2) (fun k hk e => by have := HR.out.2.1 k e.symm; omega)⟩
            · obtain rfl := hlim (3 : Nat) rfl
              have h1 : WyS p way iL w10 [vals 0, vals 4, vals 9] wx := HSX.out
              have HR := Lib.hid h1
              clear hlim hu HSX h1
              (try simp only [he] at hK ⊢)
              go_simp
              exact hK _ _ (fun _ h => by cases h) ⟨rfl, HR.out⟩
          case finr40a =>
            intro vals w11 hS hV
            have v1 := hV 1 _ (by decide) rfl
            have v2 := hV 2 _ (by decide) rfl
            have v3 := hV 3 _ (by decide) rfl
            have v5 := hV 5 _ (by decide) rfl
            have v6 := hV 6 _ (by decide) rfl
            have v7 := hV 7 _ (by decide) rfl
            have v8 := hV 8 _ (by decide) rfl
            clear hV
            simp only [frOfU, fillU, List.setIfInBounds_toArray, List.set_cons_succ, List.set_cons_zero]
            simp only [Nat.reduceAdd, v1, v2, v3, v5, v6, v7, v8]
            clear v1 v2 v3 v5 v6 v7 v8
            obtain ⟨e10, h1, h2, h3⟩ : vals 10 = vals 9 ∧ WayOwn w11 p.B (vals 9) (way.take iL ++ way.drop (iL + 1)) ∧ (∀ k, (vals 9).ownBlock = some k → w10.heap.size ≤ k) ∧ Fr (fun _ => False) w10 w11 := hS
            rw [e10]
            generalize vals 0 = y0
            generalize vals 4 = y4
            generalize vals 9 = y9 at *
            have hmx : MExt w10 (OnM p hv (.slice (some ⟨gw, 0, none⟩) way.length wcap)) (OnM p hv y9) := by
              intro k hlt hk
              rcases hk with e | e | e
              · exact .inl e
              · have := h2 k e; omega
              · exact .inr (.inr e)
            have hin : ∀ z ∈ way.take iL ++ way.drop (iL + 1), z ∈ way := fun z hz => by
              rcases List.mem_append.1 hz with h | h
              · exact List.mem_of_mem_take h
              · exact List.mem_of_mem_drop h
            have HC := Lib.hid (show ∃ way' : List FlM, (∀ y ∈ way', y ∈ way) ∧ way'.length ≤ way.length ∧ OnS p w11 V C hv y9 way' cz ∧ Fr (OnM p hv (.slice (some ⟨gw, 0, none⟩) way.length wcap)) w10 w11 ∧ y9.ownBlock ≠ some g24 ∧ MExt w10 (OnM p hv (.slice (some ⟨gw, 0, none⟩) way.length wcap)) (OnM p hv y9) from ⟨_, hin, by rw [List.length_append, List.length_take, List.length_drop]; omega, I10.out.s.way' FF.out (h3.mono (fun _ _ h => h.elim)) h1 (fun k hk => .inr (h2 k hk)) (fun z hz => I10.out.s.fl z (hin z hz)), h3.mono (fun _ _ h => h.elim), fun e => by have := h2 _ e; have := lt_of Q10.out.2; omega, hmx⟩)
            clear h1 h2 h3 hmx hin e10
            go_wp2_with fail
            go_meet
            exact HC.out
        · skip
          refine wp_region_chain (by kernel_rfl) [some 152, some 153, some 154, some 155, some 156, some 157, some 158, some 159, some 160, some 161, some 13] rfl (by decide) (by intro d hd; simp at hd ⊢; omega)
            [0, 4, 9, 10] (fun cvs wx => WyS p way iL w10 cvs wx)
            [.link none, .free (.slice (some ⟨gw, 0, none⟩) way.length wcap), .free (.int .i64 iL), .free (.slice (some ⟨gw, 0, none⟩) iL wcap), .link none, .free (.slice (some ⟨gw, 0, none⟩) way.length wcap), .free (.int .i64 iL), .free (.int .i64 i1), .free (.slice (some ⟨gw, i1 * 14, none⟩) (way.length - i1) (wcap - i1)), .link none, .link none]
            (by kernel_rfl) (by kernel_rfl) ?hr40b ?stepr40b ?finr40b
          case hr40b => exact (Fr.refl _ _).drew
          case stepr40b =>
            intro vals
            simp only [frOfU, fillU, List.setIfInBounds_toArray, List.set_cons_succ, List.set_cons_zero]
            repeat' (first | exact AllOps.nil | refine AllOps.cons ?_ ?_)
            all_goals
              intro cvs wx hS he hu hlim Kc hK
              simp only [Act.put, List.setIfInBounds_toArray, List.set_cons_succ, List.set_cons_zero, List.getD_cons_zero, List.getD_cons_succ] at hK
              simp only [List.mem_cons, List.not_mem_nil, or_false, forall_eq_or_imp, forall_eq, Region.binds, forall_const, qmode_gc, Bool.false_eq_true, false_imp_iff, List.getD_cons_zero, List.getD_cons_succ, OpSort.val, Option.some.injEq, forall_eq', reduceCtorEq, implies_true, true_and, and_true] at he
              have hwi := HWI.out
              have hiz := HIZ.out
              have HSX := Lib.hid hS
              clear hS
            all_goals first | (clear hlim hu; (try simp only [he] at hK ⊢); go_simp; exact hK) | skip
            · obtain rfl := hlim (0 : Nat) rfl
              have h1 : Fr (fun _ => False) w10 wx := HSX.out
              have HR := Lib.hid (And.intro h1 (empty_row wx p.B (Nat.le_trans (I10.out.s.ch 0 in0).1.base h1.size) 59 14))
              clear hlim hu HSX h1
              (try simp only [he] at hK ⊢)
              go_simp
              exact hK _ _ (fun _ h => by cases h) ⟨HR.out.2, fun k hk => by have : wx.heap.size = k := Option.some.inj hk; have := HR.out.1.size; omega, HR.out.1.trans ((Fr.refl (fun _ => False) _).alloc _) (fun _ _ h => h)⟩
            · have h12 : vals 10 = (.slice (some ⟨gw, 0, none⟩) way.length wcap) := hu 10 (by simp) (by kernel_rfl)
              clear hlim hu
              (try simp only [Nat.reduceAdd, Nat.zero_add] at hK)
              simp only [h12] at hK ⊢
              go_simp
              exact hK
            · obtain rfl := hlim (1 : Nat) rfl
              obtain ⟨h1, h2, h3⟩ : WayOwn wx p.B (vals 0) [] ∧ (∀ k, (vals 0).ownBlock = some k → w10.heap.size ≤ k) ∧ Fr (fun _ => False) w10 wx := HSX.out
              have HR := Lib.hid (And.intro h1 (And.intro h2 h3))
              have hwo : WayOwn wx p.B (.slice (some ⟨gw, 0, none⟩) way.length wcap) way := I10.out.s.wo.fr h3 (fun _ _ h => h)
              have v3 : vals 3 = .slice (some ⟨gw, 0, none⟩) iL wcap := by first | exact he | exact he.1 | exact he.2
              clear hlim hu HSX h1 h2 h3 he
              simp only [v3] at hK ⊢
              rw [if_pos (by rfl)]
              have hft : ∀ W, WayOwn W p.B (.slice (some ⟨gw, 0, none⟩) way.length wcap) way → (Builtin.firstCells 14 (way.take iL).length (.slice (some ⟨gw, 0, none⟩) iL wcap)).run Try.prog W = .ok ((way.take iL).flatMap FlM.cells).toArray W := by
                intro W hW
                have h := first_way (P := Try.prog) hW 0 iL wcap (by have := HIL.out; omega)
                rw [Nat.zero_mul] at h
                rw [List.length_take, Nat.min_eq_left (by have := HIL.out; omega)]
                exact h
              refine opWp_fls (.tmp 152) (.tmp 155) rfl p.B (vals 0) [] rfl HR.out.1 (way.take iL) (.slice (some ⟨gw, 0, none⟩) iL wcap) rfl (fun w => by rw [List.length_take, Nat.min_eq_left (by have := HIL.out; omega)]; exact lenOf_slice _ _ _ _) (hft wx hwo) (hft wx.drew hwo) (fun y hy => es_one (I10.out.s.fl y (List.mem_of_mem_take hy)).1) (by rw [List.length_take]; have := H400.out; simp; omega) (Nat.le_trans (I10.out.s.ch 0 in0).1.base HR.out.2.2.size) ?_
              intro v' w' k1 k2 k3
              exact hK _ _ (fun _ h => by cases h) ⟨k1, fun k hk => by
                rcases k3 with e | e
                · exact HR.out.2.1 k (e ▸ hk)
                · rw [e] at hk; have := Option.some.inj hk; have := HR.out.2.2.size; omega, HR.out.2.2.trans (Fr.of_grown k2) (fun k hk e => by have := HR.out.2.1 k e.symm; omega)⟩
            · have h12 : vals 10 = (.slice (some ⟨gw, 0, none⟩) way.length wcap) := hu 10 (by simp) (by kernel_rfl)
              clear hlim hu
              (try simp only [Nat.reduceAdd, Nat.zero_add] at hK)
              simp only [h12] at hK ⊢
              go_simp
              exact hK
            · obtain rfl := hlim (2 : Nat) rfl
              obtain ⟨h1, h2, h3⟩ : WayOwn wx p.B (vals 4) (way.take iL) ∧ (∀ k, (vals 4).ownBlock = some k → w10.heap.size ≤ k) ∧ Fr (fun _ => False) w10 wx := HSX.out
              have HR := Lib.hid (And.intro h1 (And.intro h2 h3))
              have hwo : WayOwn wx p.B (.slice (some ⟨gw, 0, none⟩) way.length wcap) way := I10.out.s.wo.fr h3 (fun _ _ h => h)
              have v8 : vals 8 = .slice (some ⟨gw, i1 * 14, none⟩) (way.length - i1) (wcap - i1) := by first | exact he | exact he.1 | exact he.2 | exact he.2.1
              clear hlim hu HSX h1 h2 h3 he
              simp only [v8] at hK ⊢
              rw [if_pos (by rfl)]
              have hfc : ∀ W, WayOwn W p.B (.slice (some ⟨gw, 0, none⟩) way.length wcap) way → (Builtin.firstCells 14 (way.drop (iL + 1)).length (.slice (some ⟨gw, i1 * 14, none⟩) (way.length - i1) (wcap - i1))).run Try.prog W = .ok ((way.drop (iL + 1)).flatMap FlM.cells).toArray W := by
                intro W hW
                have hd : (way.drop (iL + 1)).length = way.length - i1 := by rw [List.length_drop, HI1.out]
                rw [hd]
                have h := first_way (P := Try.prog) hW i1 (way.length - i1) (wcap - i1) (by omega)
                rw [List.take_of_length_le (by rw [List.length_drop]; omega), ← HI1.out] at h
                rw [HI1.out]
                rw [HI1.out] at h
                exact h
              refine opWp_fls (.tmp 156) (.tmp 160) rfl p.B (vals 4) (way.take iL) rfl HR.out.1 (way.drop (iL + 1)) (.slice (some ⟨gw, i1 * 14, none⟩) (way.length - i1) (wcap - i1)) rfl (fun w => by rw [List.length_drop, HI1.out]; exact lenOf_slice _ _ _ _) (hfc wx hwo) (hfc wx.drew hwo) (fun y hy => es_one (I10.out.s.fl y (List.mem_of_mem_drop hy)).1) (by rw [List.length_take, List.length_drop]; have := H400.out; omega) (Nat.le_trans (I10.out.s.ch 0 in0).1.base HR.out.2.2.size) ?_
              intro v' w' k1 k2 k3
              exact hK _ _ (fun _ h => by cases h) ⟨k1, fun k hk => by
                rcases k3 with e | e
                · exact HR.out.2.1 k (e ▸ hk)
                · rw [e] at hk; have := Option.some.inj hk; have := HR.out.2.2.size; omega, HR.out.2.2.trans (Fr.of_grown k2) (fun k hk e => by have := HR.out.2.1 k e.symm; omega)⟩
            · obtain rfl := hlim (3 : Nat) rfl
              have h1 : WyS p way iL w10 [vals 0, vals 4, vals 9] wx := HSX.out
              have HR := Lib.hid h1
              clear hlim hu HSX h1
              (try simp only [he] at hK ⊢)
              go_simp
              exact hK _ _ (fun _ h => by cases h) ⟨rfl, HR.out⟩
          case finr40b =>
            intro vals w11 hS hV
            have v1 := hV 1 _ (by decide) rfl
            have v2 := hV 2 _ (by decide) rfl
            have v3 := hV 3 _ (by decide) rfl
            have v5 := hV 5 _ (by decide) rfl
            have v6 := hV 6 _ (by decide) rfl
            have v7 := hV 7 _ (by decide) rfl
            have v8 := hV 8 _ (by decide) rfl
            clear hV
            simp only [frOfU, fillU, List.setIfInBounds_toArray, List.set_cons_succ, List.set_cons_zero]
            simp only [Nat.reduceAdd, v1, v2, v3, v5, v6, v7, v8]
            clear v1 v2 v3 v5 v6 v7 v8
            obtain ⟨e10, h1, h2, h3⟩ : vals 10 = vals 9 ∧ WayOwn w11 p.B (vals 9) (way.take iL ++ way.drop (iL + 1)) ∧ (∀ k, (vals 9).ownBlock = some k → w10.heap.size ≤ k) ∧ Fr (fun _ => False) w10 w11 := hS
            rw [e10]
            generalize vals 0 = y0
            generalize vals 4 = y4
            generalize vals 9 = y9 at *
            have hmx : MExt w10 (OnM p hv (.slice (some ⟨gw, 0, none⟩) way.length wcap)) (OnM p hv y9) := by
              intro k hlt hk
              rcases hk with e | e | e
              · exact .inl e
              · have := h2 k e; omega
              · exact .inr (.inr e)
            have hin : ∀ z ∈ way.take iL ++ way.drop (iL + 1), z ∈ way := fun z hz => by
              rcases List.mem_append.1 hz with h | h
              · exact List.mem_of_mem_take h
              · exact List.mem_of_mem_drop h
            have HC := Lib.hid (show ∃ way' : List FlM, (∀ y ∈ way', y ∈ way) ∧ way'.length ≤ way.length ∧ OnS p w11 V C hv y9 way' cz ∧ Fr (OnM p hv (.slice (some ⟨gw, 0, none⟩) way.length wcap)) w10 w11 ∧ y9.ownBlock ≠ some g24 ∧ MExt w10 (OnM p hv (.slice (some ⟨gw, 0, none⟩) way.length wcap)) (OnM p hv y9) from ⟨_, hin, by rw [List.length_append, List.length_take, List.length_drop]; omega, I10.out.s.way' FF.out (h3.mono (fun _ _ h => h.elim)) h1 (fun k hk => .inr (h2 k hk)) (fun z hz => I10.out.s.fl z (hin z hz)), h3.mono (fun _ _ h => h.elim), fun e => by have := h2 _ e; have := lt_of Q10.out.2; omega, hmx⟩)
            clear h1 h2 h3 hmx hin e10
            go_wp2_with fail
            go_meet
            exact HC.out

  case rest =>
    obtain ⟨way', hsub, hlen', hos, hfr, hcn, hmx⟩ := hcut
    have I11 : Hid (OnI p Q w wc V C hv u13 way' cz val acc sm rd k) := Lib.hid ⟨hos, I10.out.a.step I10.out.s hfr, I10.out.x, fun y hy => I10.out.f y (hsub y hy), I10.out.c, I10.out.s.frame FN.out I10.out.fr hfr, I10.out.r, Nat.le_trans hlen' I10.out.n⟩
    have Q11 := Lib.hid (crow_kept Q10.out.2 hfr (I10.out.s.non Q10.out.2 (by decide) (by decide) (by decide) (.inr HWN.out) (.inl (by decide))))
    have E11 : Hid (ES wc ff.x (.slice sa1 ff.x.l.length sk1) (.slice sa2 ff.x.m.length sk2) ∧ AwayS (OnM p hv u13) ff.x (.slice sa1 ff.x.l.length sk1) (.slice sa2 ff.x.m.length sk2) ∧ EnSmall ff.x) := Lib.hid (by
      have h := HFE10.out
      rw [HFLE.out] at h
      exact ⟨h.1.keepS h.2.1 hfr, h.2.1.ext h.1 hmx, h.2.2⟩)
    have FO : Hid (FlOk ff V val acc ∧ ff.f ∈ p.ms ∧ ff.t ∈ p.ms) := Lib.hid (by have h := HFO.out; rw [HFLE.out] at h; exact h)
    have HCN := Lib.hid hcn
    have H24 := Lib.hid (I10.out.s.non Q10.out.2 (by decide) (by decide) (by decide) (.inr HWN.out) (.inl (by decide)))
    have N24 : Hid (¬ OnM p hv u13 g24) := Lib.hid (hos.non Q11.out (by decide) (by decide) (by decide) (.inr hcn) (.inl (by decide)))
    obtain ⟨tn, htn⟩ : ∃ tn : Nat, ff.t = (tn : Int) := ⟨ff.t.toNat, by have h := HM6'.out _ FO.out.2.2; have := h.1; omega⟩
    have HIT : Hid (In6 (tn : Int)) := Lib.hid (by rw [← htn]; exact HM6'.out _ FO.out.2.2)
    have HTM : Hid ((tn : Int) ∈ p.ms) := Lib.hid (by rw [← htn]; exact FO.out.2.2)
    have ht6 : tn < 6 := by have := HIT.out.2; omega
    have ht6z : (tn : Int) < 6 := by omega
    have HTN := Lib.hid htn
    clear hos hfr hsub hlen' hcn hmx I10 Q10 HFE10 HFLE HFO HFL HWN H24 htn
    clear HLE2 h4 hilz hl0 hl1 hi6z hi6 hpos2
    have hk0 := FO.out.1.k0
    obtain ⟨c0, -, -, -, -, -, -, -, -, -, -, -, -, -⟩ := fl_cells Q11.out
    rcases (show ff.k = 0 ∨ ff.k = 1 ∨ ff.k = 2 ∨ 3 ≤ ff.k by omega) with hkd | hkd | hkd | hkd
    · have HKD := Lib.hid hkd
      rw [show (FlM.mk ff (.slice sa1 ff.x.l.length sk1) (.slice sa2 ff.x.m.length sk2)).f.k = 0 from hkd] at c0
      clear hkd hk0
      go_upto_region 48 with fail
      clear c0
      focus
        obtain ⟨vo, uo, hv1, hv2, hv3, hv4⟩ := I11.out.s.vt tn HIT.out
        have HVO := Lib.hid (And.intro hv1 (And.intro hv2 (And.intro hv3 hv4)))
        have HBL := Lib.hid (lt_of_block hv1)
        have HNE : Hid (g24 ≠ p.vb tn ∧ Q.gV ≠ p.vb tn) := Lib.hid ⟨row_ne Q11.out hv1 (by decide), row_ne I11.out.a.rv hv1 (by decide)⟩
        clear hv1 hv2 hv3 hv4
        refine wp_region_links (by kernel_rfl) [some 196, some 197, some 198, some 199, some 200, some 201, some 202, some 195, some 203, some 204, some 205, some 206, some 25, some 26, none, none, some 27, some 28] rfl (by decide) (by intro d hd; simp at hd ⊢; omega)
          (fun st wx => (∃ v' u', PmS (p.vb tn) (V (tn : Int)) ff.br ff.bn vo uo wc v' u' st wx))
          [.free (.pointer (some ⟨g24, 2, none⟩)), .free (.int .i64 tn), .free (.pointer (some ⟨Q.gV, tn, none⟩)), .free (.pointer (some ⟨p.vb tn, 0, none⟩)), .free (.pointer (some ⟨g24, 3, none⟩)), .free (ball ff.br ff.bn), .link none, .link none, .free (ball (prA (V (tn : Int)) ff.br ff.bn) (prB (V (tn : Int)) ff.br ff.bn)), .link none, .free (.bool (prS (V (tn : Int)) ff.br ff.bn)), .free (.bool (blt (V (tn : Int)).pr (V (tn : Int)).pn ff.br ff.bn)), .link none, .link none, .link none, .link none, .free (.bool (prS (V (tn : Int)) ff.br ff.bn)), .free (.bool (blt (V (tn : Int)).pr (V (tn : Int)).pn ff.br ff.bn))]
          (by kernel_rfl) ?h48 ?step48 ?fin48
        case h48 => exact ⟨nilS, nilS, PmS.new HBL.out (Fr.refl _ _).drew⟩
        case step48 =>
          intro vals
          simp only [frOfU, fillU, List.setIfInBounds_toArray, List.set_cons_succ, List.set_cons_zero]
          repeat' (first | exact AllOps.nil | refine AllOps.cons ?_ ?_)
          all_goals
            intro st wx hS0 he hu hn Kc hK
            simp only [Act.put, List.setIfInBounds_toArray, List.set_cons_succ, List.set_cons_zero, List.getD_cons_zero, List.getD_cons_succ] at hK
            simp only [List.mem_cons, List.not_mem_nil, or_false, forall_eq_or_imp, forall_eq, Region.binds, forall_const, qmode_gc, Bool.false_eq_true, false_imp_iff, List.getD_cons_zero, List.getD_cons_succ, OpSort.val, OpSort.isLink, Option.some.injEq, forall_eq', reduceCtorEq, implies_true, true_and, and_true] at he
            obtain ⟨vq, uq, hP⟩ := hS0
            have HSX := Lib.hid hP
            obtain ⟨-, -, c2, c3, c4, -, -, -, -, -, -, -, -, -⟩ := fl_cells (crow_kept Q11.out hP.fr HNE.out.1)
            dsimp only at c2 c3 c4
            rw [HTN.out] at c2
            have pv := arr6_cell (crow_kept I11.out.a.rv hP.fr HNE.out.2) tn ht6
            simp only [ptrs] at pv
            clear hP
          all_goals first | (clear hu hn; (try simp only [he] at hK ⊢); go_simp; exact hK) | skip
          · have h7 := (hu 7 (by simp) (by kernel_rfl)).2
            have h15 := (hu 15 (by simp) (by kernel_rfl)).2
            have hw := HSX.out.n6 hn
            have hr := crow_kept HVO.out.1 hw (fun h => h)
            have he2 := HVO.out.2.1.fr hw
            have HH := Lib.hid (And.intro hn (And.intro h7 (And.intro h15 (And.intro hr he2))))
            clear hu hn h7 h15 hw hr he2
            simp only [he] at hK ⊢
            clear he
            go_simp
            go_at_call 12
            refine (promise_k ff.br ff.bn wx HH.out.2.2.2.1 HH.out.2.2.2.2 HVO.out.2.2.1 HVO.out.2.2.2 (.inl ⟨tn, HIT.out, .inl rfl⟩)).mono ?_
            rintro er wa ⟨v1, u1, rfl, he1, hfr1, f1, hr1⟩
            exact hK _ _ (fun _ h => by cases h) ⟨v1, u1, HSX.out.call HBL.out HH.out.1 HH.out.2.1 HH.out.2.2.1 he1 hfr1 f1 hr1⟩
          · have s6 : st 6 = some (vals 6) := by first | exact he | exact he.1 | exact he.2 | exact he.1.1 | exact he.1.2 | exact he.2.1 | exact he.2.2 | exact he.2.1.1 | exact he.2.1.2 | exact he.2.2.1 | exact he.2.2.2 | exact he.2.2.2.1 | exact he.2.2.2.2
            have e6 := HSX.out.v6 _ s6
            have HH := Lib.hid s6
            clear hu hn he s6
            simp only [e6] at hK ⊢
            clear e6
            go_simp
            exact hK _ _ (fun _ h => by cases h) ⟨vq, uq, HSX.out.s7 HH.out⟩
          · have s7 : st 7 = some (vals 7) := by first | exact he | exact he.1 | exact he.2 | exact he.1.1 | exact he.1.2 | exact he.2.1 | exact he.2.2 | exact he.2.1.1 | exact he.2.1.2 | exact he.2.2.1 | exact he.2.2.2 | exact he.2.2.2.1 | exact he.2.2.2.2
            have e7 := HSX.out.v7 _ s7
            clear hu hn he s7
            simp only [e7, prV] at hK ⊢
            clear e7
            go_simp
            exact hK
          · have s7 : st 7 = some (vals 7) := by first | exact he | exact he.1 | exact he.2 | exact he.1.1 | exact he.1.2 | exact he.2.1 | exact he.2.2 | exact he.2.1.1 | exact he.2.1.2 | exact he.2.2.1 | exact he.2.2.2 | exact he.2.2.2.1 | exact he.2.2.2.2
            have e7 := HSX.out.v7 _ s7
            have HH := Lib.hid s7
            clear hu hn he s7
            simp only [e7, prV] at hK ⊢
            clear e7
            go_simp
            exact hK _ _ (fun _ h => by cases h) ⟨vq, uq, HSX.out.s9 HH.out⟩
          · have s7 : st 7 = some (vals 7) := by first | exact he | exact he.1 | exact he.2 | exact he.1.1 | exact he.1.2 | exact he.2.1 | exact he.2.2 | exact he.2.1.1 | exact he.2.1.2 | exact he.2.2.1 | exact he.2.2.2 | exact he.2.2.2.1 | exact he.2.2.2.2
            have e7 := HSX.out.v7 _ s7
            clear hu hn he s7
            simp only [e7, prV] at hK ⊢
            clear e7
            go_simp
            exact hK
          · have s7 : st 7 = some (vals 7) := by first | exact he | exact he.1 | exact he.2 | exact he.1.1 | exact he.1.2 | exact he.2.1 | exact he.2.2 | exact he.2.1.1 | exact he.2.1.2 | exact he.2.2.1 | exact he.2.2.2 | exact he.2.2.2.1 | exact he.2.2.2.2
            have e7 := HSX.out.v7 _ s7
            clear hu hn he s7
            simp only [e7, prV] at hK ⊢
            clear e7
            go_simp
            exact hK
          · have h14 := (hu 14 (by simp) (by kernel_rfl)).2
            have HH := Lib.hid (HSX.out.alloc12 HBL.out h14)
            clear hu hn h14
            (try simp only [he] at hK ⊢)
            go_simp
            exact hK _ _ (fun _ h => by cases h) ⟨vq, uq, HH.out⟩
          · have h15 := (hu 15 (by simp) (by kernel_rfl)).2
            have HH := Lib.hid (HSX.out.alloc13 HBL.out h15)
            clear hu hn h15
            (try simp only [he] at hK ⊢)
            go_simp
            exact hK _ _ (fun _ h => by cases h) ⟨vq, uq, HH.out⟩
          · have s12 : st 12 = some (vals 12) := by first | exact he | exact he.1 | exact he.2 | exact he.1.1 | exact he.1.2 | exact he.2.1 | exact he.2.2 | exact he.2.1.1 | exact he.2.1.2 | exact he.2.2.1 | exact he.2.2.2 | exact he.2.2.2.1 | exact he.2.2.2.2
            have v8 : vals 8 = ball (prA (V (tn : Int)) ff.br ff.bn) (prB (V (tn : Int)) ff.br ff.bn) := by first | exact he | exact he.1 | exact he.2 | exact he.1.1 | exact he.1.2 | exact he.2.1 | exact he.2.2 | exact he.2.1.1 | exact he.2.1.2 | exact he.2.2.1 | exact he.2.2.2 | exact he.2.2.2.1 | exact he.2.2.2.2
            have s6 : st 6 = some (vals 6) := by first | exact he | exact he.1 | exact he.2 | exact he.1.1 | exact he.1.2 | exact he.2.1 | exact he.2.2 | exact he.2.1.1 | exact he.2.1.2 | exact he.2.2.1 | exact he.2.2.2 | exact he.2.2.2.1 | exact he.2.2.2.2
            have h15 := (hu 15 (by simp) (by kernel_rfl)).2
            obtain ⟨ga, e12, -, q12, -⟩ := HSX.out.a12 _ s12
            rw [if_pos hn] at q12
            rw [e12] at s12
            have HH := Lib.hid (And.intro s12 (And.intro s6 (And.intro hn (And.intro h15 q12))))
            obtain ⟨x0, x1⟩ := ba_cells q12
            have z0 := vfree q12 0
            have z1 := vfree q12 1
            clear hu hn he h15 s12 s6 q12
            simp only [e12, v8] at hK ⊢
            clear e12 v8
            go_simp
            exact hK undef _ (fun _ h => by cases h) ⟨vq, uq, HSX.out.store14 HBL.out HH.out.1 (by rw [HH.out.2.1]; exact Option.some_ne_none _) HH.out.2.2.1 HH.out.2.2.2.1 undef (cst2 HH.out.2.2.2.2) (cfr2 _ _ (Fr.refl _ wx) (fun _ => rfl))⟩
          · have s13 : st 13 = some (vals 13) := by first | exact he | exact he.1 | exact he.2 | exact he.1.1 | exact he.1.2 | exact he.2.1 | exact he.2.2 | exact he.2.1.1 | exact he.2.1.2 | exact he.2.2.1 | exact he.2.2.2 | exact he.2.2.2.1 | exact he.2.2.2.2
            have s9 : st 9 = some (vals 9) := by first | exact he | exact he.1 | exact he.2 | exact he.1.1 | exact he.1.2 | exact he.2.1 | exact he.2.2 | exact he.2.1.1 | exact he.2.1.2 | exact he.2.2.1 | exact he.2.2.2 | exact he.2.2.2.1 | exact he.2.2.2.2
            obtain ⟨ga, e13, -, q13, -⟩ := HSX.out.a13 _ s13
            rw [if_pos hn] at q13
            rw [e13] at s13
            have e9 := HSX.out.v9 _ s9
            have h6 : st 6 ≠ none := HSX.out.d6 (by rw [s9]; exact Option.some_ne_none _)
            have HH := Lib.hid (And.intro s13 (And.intro h6 (And.intro hn q13)))
            obtain ⟨qa, qc, hq1, -⟩ := (HSX.out.y6 h6).2.1.1.shape
            obtain ⟨qb, qd, hq2, -⟩ := (HSX.out.y6 h6).2.1.2.shape
            have hq1' : vq = .slice qa (prX (V (tn : Int)) ff.br ff.bn).l.length qc := hq1
            have hq2' : uq = .slice qb (prX (V (tn : Int)) ff.br ff.bn).m.length qd := hq2
            subst hq1' hq2'
            clear hq1 hq2
            obtain ⟨x0, x1, x2, x3, x4, x5⟩ := en_cells q13
            obtain ⟨y0, y1, y2, y3, y4, y5⟩ := vfree6 q13
            clear hu hn he s13 s9 q13 h6
            simp only [e13, e9] at hK ⊢
            clear e13 e9
            go_simp
            exact hK undef _ (fun _ h => by cases h) ⟨_, _, HSX.out.store15 HBL.out HH.out.1 HH.out.2.1 HH.out.2.2.1 undef (cst6 HH.out.2.2.2) (cfr6 _ _ _ _ _ _ (Fr.refl _ wx) (fun _ => rfl))⟩
        case fin48 =>
          intro vals w12 hS hV
          obtain ⟨vq, uq, hP⟩ := hS
          have v0 := hV 0 _ (by decide) rfl
          have v1 := hV 1 _ (by decide) rfl
          have v2 := hV 2 _ (by decide) rfl
          have v3 := hV 3 _ (by decide) rfl
          have v4 := hV 4 _ (by decide) rfl
          have v5 := hV 5 _ (by decide) rfl
          have v8 := hV 8 _ (by decide) rfl
          have v10 := hV 10 _ (by decide) rfl
          have v11 := hV 11 _ (by decide) rfl
          have v16 := hV 16 _ (by decide) rfl
          have v17 := hV 17 _ (by decide) rfl
          clear hV
          obtain ⟨g25, e12, hg25, q12, -⟩ := hP.a12 (vals 12) rfl
          obtain ⟨g26, e13, hg26, q13, -⟩ := hP.a13 (vals 13) rfl
          change w12.heap[g25]? = some (if (some (vals 14) : Option Value) = none then oBa 0 0 else oBa (prA (V (tn : Int)) ff.br ff.bn) (prB (V (tn : Int)) ff.br ff.bn)) at q12
          rw [if_neg (Option.some_ne_none _)] at q12
          change w12.heap[g26]? = some (if (some (vals 15) : Option Value) = none then oEn 0 0 0 0 nilS nilS else (prX (V (tn : Int)) ff.br ff.bn).obj vq uq) at q13
          rw [if_neg (Option.some_ne_none _)] at q13
          obtain ⟨h1, h2, h3, h4⟩ := PmS.done FF.out I11.out.s HIT.out rfl rfl HVO.out.2.1 HVO.out.2.2.1 HVO.out.2.2.2 hP (Option.some_ne_none (vals 6))
          obtain ⟨qa, qc, hq1, -⟩ := h2.1.shape
          obtain ⟨qb, qd, hq2, -⟩ := h2.2.shape
          have hq1' : vq = .slice qa (prX (V (tn : Int)) ff.br ff.bn).l.length qc := hq1
          have hq2' : uq = .slice qb (prX (V (tn : Int)) ff.br ff.bn).m.length qd := hq2
          subst hq1' hq2'
          have HQ := Lib.hid (And.intro q12 q13)
          have S12 := Lib.hid h1
          have E12 := Lib.hid (And.intro h2 (And.intro h3 (prx_small (r := ff.br) (n := ff.bn) HVO.out.2.2.2)))
          have A12 := Lib.hid (I11.out.a.step I11.out.s h4)
          have F12 := Lib.hid (I11.out.s.frame FN.out I11.out.fr h4)
          have Q12 := Lib.hid (crow_kept Q11.out h4 N24.out)
          have P12 := Lib.hid (pax_promise I11.out.x HTM.out FO.out.1.bo)
          have LT := Lib.hid (promise_later I11.out.x HTM.out FO.out.1.bo)
          clear hP q12 q13 h1 h2 h3 h4 hq1 hq2 hg25 hg26
          simp only [frOfU, fillU, List.setIfInBounds_toArray, List.set_cons_succ, List.set_cons_zero]
          simp only [Nat.reduceAdd, v0, v1, v2, v3, v4, v5, v8, v10, v11, v16, v17, e12, e13]
          clear v0 v1 v2 v3 v4 v5 v8 v10 v11 v16 v17 e12 e13
          generalize vals 6 = y6 at *
          generalize vals 7 = y7 at *
          generalize vals 9 = y9 at *
          clear vals
          have HPA : Hid ((blt (V (tn : Int)).pr (V (tn : Int)).pn ff.br ff.bn) = true → (prA (V (tn : Int)) ff.br ff.bn) = (V (tn : Int)).ar ∧ (prB (V (tn : Int)) ff.br ff.bn) = (V (tn : Int)).an ∧ (prS (V (tn : Int)) ff.br ff.bn) = (V (tn : Int)).s ∧ (prX (V (tn : Int)) ff.br ff.bn) = (V (tn : Int)).x) := Lib.hid (fun h => ⟨by unfold prA; exact if_pos h, by unfold prB; exact if_pos h, by unfold prS; exact if_pos h, by unfold prX; exact if_pos h⟩)
          cases hbl : (blt (V (tn : Int)).pr (V (tn : Int)).pn ff.br ff.bn) with
          | false =>
            have IN : Hid (OnI p Q w w12 (upd V (tn : Int) ((V (tn : Int)).promise ff.br ff.bn)) C hv u13 way' cz val acc sm rd (k + 1)) := Lib.hid (OnI.next ⟨S12.out, A12.out, P12.out, fun y hy => ⟨(I11.out.f y hy).1.later LT.out, (I11.out.f y hy).2⟩, fun h => (I11.out.c h).later LT.out, F12.out, I11.out.r, I11.out.n⟩)
            clear hbl HPA S12 A12 Q12 F12 P12 LT E12 HQ I11 Q11 E11 FO N24 HTM HKD HTN HVO HNE
            have hk3 := HN.out
            go_wp2_with fail
            refine HandM.intro (l.length - (k + 1)) ?measure ?mix
            case measure => omega
            case mix => exact hJJ _ _ _ (by kernel_rfl) ⟨k + 1, (upd V (tn : Int) ((V (tn : Int)).promise ff.br ff.bn)), C, hv, way', cz, val, acc, sm, rd, by omega, rfl, by first | rfl | (show Value.int .i64 _ = _; congr 1), by rfl, by first | rfl | (show Value.int .i64 _ = _; congr 1), IN⟩
          | true =>
            have HPE := Lib.hid (HPA.out hbl)
            have HBT := Lib.hid hbl
            clear hbl HPA
            generalize (prA (V (tn : Int)) ff.br ff.bn) = pa at *
            generalize (prB (V (tn : Int)) ff.br ff.bn) = pb at *
            generalize (prS (V (tn : Int)) ff.br ff.bn) = ps at *
            generalize (prX (V (tn : Int)) ff.br ff.bn) = px at *
            go_upto_region 50 with fail
            obtain ⟨-, c1, c2, c3, c4, -, -, -, -, -, -, -, -, -⟩ := fl_cells Q12.out
            dsimp only at c1 c2 c3 c4
            rw [HTN.out] at c2
            obtain ⟨b0, b1⟩ := ba_cells HQ.out.1
            obtain ⟨z0, z1, z2, z3, z4, z5⟩ := en_cells HQ.out.2
            have FA4 := Lib.hid (And.intro (show Fr (fun _ => False) w12 (w12.alloc (FlM.obj ⟨⟨1, tn, ff.f, ff.br, ff.bn, pa, pb, ps, px⟩, .slice qa px.l.length qc, .slice qb px.m.length qd⟩)) from (Fr.refl _ _).alloc _) (heap_alloc_new w12 (FlM.obj ⟨⟨1, tn, ff.f, ff.br, ff.bn, pa, pb, ps, px⟩, .slice qa px.l.length qc, .slice qb px.m.length qd⟩)))
            go_wp2_with (at_builtin; refine wpList_append_fl rfl (.tmp 208) (.tmp 219) rfl p.B u13 way' rfl ?own w12.heap.size 1 ⟨⟨1, tn, ff.f, ff.br, ff.bn, pa, pb, ps, px⟩, .slice qa px.l.length qc, .slice qb px.m.length qd⟩ rfl ?row rfl rfl ?len ?base ?grow)
            case own => exact S12.out.wo.fr FA4.out.1 (fun _ _ h => h)
            case row => first | exact FA4.out.2 | exact (Array.getElem?_eq_some_iff.1 FA4.out.2).2
            case len => have := I11.out.n; have := HN.out; have := hlt; omega
            case base => first | exact Nat.le_trans (S12.out.ch 0 in0).1.base FA4.out.1.size | (have := (S12.out.ch 0 in0).1.base; omega)
            case grow =>
              intro v' w' hown hg hvv
              obtain ⟨hs, hfr⟩ := S12.out.push FF.out FA4.out.1 hown hg (by rw [World.size_alloc]; exact hvv) E12.out
              have IN : Hid (OnI p Q w w' (upd V (tn : Int) ((V (tn : Int)).promise ff.br ff.bn)) C hv v' (way' ++ [⟨⟨1, tn, ff.f, ff.br, ff.bn, pa, pb, ps, px⟩, .slice qa px.l.length qc, .slice qb px.m.length qd⟩]) cz val acc sm rd (k + 1)) := Lib.hid ⟨hs, A12.out.step S12.out hfr, P12.out, fun y hy => by
                rcases List.mem_append.1 hy with hy | hy
                · exact ⟨(I11.out.f y hy).1.later LT.out, (I11.out.f y hy).2⟩
                · simp at hy
                  subst hy
                  exact ⟨by
                  have h := fl_promise I11.out.x HTM.out FO.out.1.bo HBT.out ff.f
                  rw [← HPE.out.1, ← HPE.out.2.1, ← HPE.out.2.2.1, ← HPE.out.2.2.2] at h
                  exact h, HTM.out, FO.out.2.1⟩, fun h => (I11.out.c h).later LT.out, S12.out.frame FN.out F12.out hfr, by have := I11.out.r; omega, by have := I11.out.n; simp; omega⟩
              clear hown hg hvv hs hfr
              have hk3 := HN.out
              go_wp2_with fail
              refine HandM.intro (l.length - (k + 1)) ?measure ?mix
              case measure => omega
              case mix => exact hJJ _ _ _ (by kernel_rfl) ⟨k + 1, (upd V (tn : Int) ((V (tn : Int)).promise ff.br ff.bn)), C, hv, _, cz, val, acc, sm, rd, by omega, rfl, by first | rfl | (show Value.int .i64 _ = _; congr 1), by rfl, by first | rfl | (show Value.int .i64 _ = _; congr 1), IN⟩

    · have HKD := Lib.hid hkd
      rw [show (FlM.mk ff (.slice sa1 ff.x.l.length sk1) (.slice sa2 ff.x.m.length sk2)).f.k = 1 from hkd] at c0
      clear hkd hk0
      go_upto_region 52 with fail
      clear c0
      focus
        refine wp_region_chain (by kernel_rfl) [some 223, some 224, some 225, some 226, some 227, some 228, some 229, some 230, some 231, some 232, some 233, some 234, some 235, some 236, some 237] rfl (by decide) (by intro d hd; simp at hd ⊢; omega)
          [14] (fun cvs wx => OaS p V (upd C (tn : Int) ((C (tn : Int)).promised p.ms ff.f ff.br ff.bn ff.wr ff.wn ff.x ff.s)) hv u13 way' cz ((C (tn : Int)).promisedB p.ms ff.f ff.br ff.bn ff.wr ff.wn ff.x ff.s) wc cvs wx)
          [.free (.pointer (some ⟨g24, 2, none⟩)), .free (.int .i64 tn), .free (.pointer (some ⟨Q.gC, tn, none⟩)), .free (.pointer (some ⟨p.cb tn, 0, none⟩)), .free (.pointer (some ⟨g24, 1, none⟩)), .free (.int .i64 ff.f), .free (.pointer (some ⟨g24, 3, none⟩)), .free (ball ff.br ff.bn), .free (.pointer (some ⟨g24, 5, none⟩)), .free (ball ff.wr ff.wn), .free (.pointer (some ⟨g24, 8, none⟩)), .free (ff.x.val (.slice sa1 ff.x.l.length sk1) (.slice sa2 ff.x.m.length sk2)), .free (.pointer (some ⟨g24, 7, none⟩)), .free (.bool ff.s), .link none]
          (by kernel_rfl) (by kernel_rfl) ?hr52 ?stepr52 ?finr52
        case hr52 => exact (Fr.refl _ _).drew
        case stepr52 =>
          intro vals
          simp only [frOfU, fillU, List.setIfInBounds_toArray, List.set_cons_succ, List.set_cons_zero]
          repeat' (first | exact AllOps.nil | refine AllOps.cons ?_ ?_)
          all_goals
            intro cvs wx hS he hu hlim Kc hK
            simp only [Act.put, List.setIfInBounds_toArray, List.set_cons_succ, List.set_cons_zero, List.getD_cons_zero, List.getD_cons_succ] at hK
            simp only [List.mem_cons, List.not_mem_nil, or_false, forall_eq_or_imp, forall_eq, Region.binds, forall_const, qmode_gc, Bool.false_eq_true, false_imp_iff, List.getD_cons_zero, List.getD_cons_succ, OpSort.val, Option.some.injEq, forall_eq', reduceCtorEq, implies_true, true_and, and_true] at he
            have hl5 := OaS.fr hS
            have ak := I11.out.a.step I11.out.s hl5
            obtain ⟨-, c1, c2, c3, c4, c5, c6, c7, c8, c9, c10, c11, c12, c13⟩ := fl_cells (crow_kept Q11.out hl5 N24.out)
            dsimp only at c1 c2 c3 c4 c5 c6 c7 c8 c9 c10 c11 c12 c13
            rw [HTN.out] at c2
            have pv := arr6_cell ak.rv tn ht6
            have pc := arr6_cell ak.rc tn ht6
            simp only [ptrs] at pv pc
            clear ak hl5
            have HSX := Lib.hid hS
            clear hS
          all_goals first | (clear hlim hu; (try simp only [he] at hK ⊢); go_simp; exact hK) | skip
          · obtain rfl := hlim (0 : Nat) rfl
            have h1 : Fr (fun _ => False) wc wx := HSX.out
            have H1 := Lib.hid h1
            clear hlim hu HSX h1
            simp only [he] at hK ⊢
            go_simp
            go_at_call 13
            refine (on_promised FF.out (I11.out.s.fr H1.out) HIT.out (E11.out.1.fr H1.out) E11.out.2.1 E11.out.2.2).mono ?_
            rintro er wa ⟨rfl, fa, hh⟩
            exact hK _ _ (fun _ h => by cases h) ⟨rfl, (H1.out.mono (fun _ _ h => h.elim)).trans fa (fun _ _ h => h), hh⟩
        case finr52 =>
          intro vals w12 hS hV
          have v0 := hV 0 _ (by decide) rfl
          have v1 := hV 1 _ (by decide) rfl
          have v2 := hV 2 _ (by decide) rfl
          have v3 := hV 3 _ (by decide) rfl
          have v4 := hV 4 _ (by decide) rfl
          have v5 := hV 5 _ (by decide) rfl
          have v6 := hV 6 _ (by decide) rfl
          have v7 := hV 7 _ (by decide) rfl
          have v8 := hV 8 _ (by decide) rfl
          have v9 := hV 9 _ (by decide) rfl
          have v10 := hV 10 _ (by decide) rfl
          have v11 := hV 11 _ (by decide) rfl
          have v12 := hV 12 _ (by decide) rfl
          have v13 := hV 13 _ (by decide) rfl
          clear hV
          simp only [frOfU, fillU, List.setIfInBounds_toArray, List.set_cons_succ, List.set_cons_zero]
          simp only [Nat.reduceAdd, v0, v1, v2, v3, v4, v5, v6, v7, v8, v9, v10, v11, v12, v13]
          clear v0 v1 v2 v3 v4 v5 v6 v7 v8 v9 v10 v11 v12 v13
          obtain ⟨hz, h1, hvn, h2⟩ : vals 14 = .bool ((C (tn : Int)).promisedB p.ms ff.f ff.br ff.bn ff.wr ff.wn ff.x ff.s) ∧ Fr (OnM p hv u13) wc w12 ∧ ∃ hv', OnS p w12 V (upd C (tn : Int) ((C (tn : Int)).promised p.ms ff.f ff.br ff.bn ff.wr ff.wn ff.x ff.s)) hv' u13 way' cz := hS
          rw [hz]
          have A12 := Lib.hid (I11.out.a.step I11.out.s h1)
          have F12 := Lib.hid (I11.out.s.frame FN.out I11.out.fr h1)
          have Q12 := Lib.hid (crow_kept Q11.out h1 N24.out)
          have S12 := Lib.hid h2
          clear hz h1 h2
          cases he : expB p.ms (C (tn : Int)) 1 ff.f ff.br ff.bn with
          | false =>
            have hb : (C (tn : Int)).promisedB p.ms ff.f ff.br ff.bn ff.wr ff.wn ff.x ff.s = false := by unfold ChN.promisedB; rw [he]; rfl
            have IN : Hid (OnI p Q w w12 V C hvn u13 way' cz val acc sm rd (k + 1)) := Lib.hid (by
              have e : (upd C (tn : Int) ((C (tn : Int)).promised p.ms ff.f ff.br ff.bn ff.wr ff.wn ff.x ff.s)) = C := by
                unfold ChN.promised
                rw [he, if_neg (by decide), upd_self]
              have h := S12.out
              rw [e] at h
              exact OnI.next ⟨h, A12.out, I11.out.x, I11.out.f, I11.out.c, F12.out, I11.out.r, I11.out.n⟩)
            rw [hb]
            clear he hb S12 A12 Q12 F12 I11 Q11 E11 FO N24 HTM HKD HTN
            have hk3 := HN.out
            go_wp2_with fail
            refine HandM.intro (l.length - (k + 1)) ?measure ?mix
            case measure => omega
            case mix => exact hJJ _ _ _ (by kernel_rfl) ⟨k + 1, V, C, hvn, way', cz, val, acc, sm, rd, by omega, rfl, by first | rfl | (show Value.int .i64 _ = _; congr 1), by rfl, by first | rfl | (show Value.int .i64 _ = _; congr 1), IN⟩
          | true =>
            have hpx := pax_promised I11.out.x HTM.out he FO.out.1.wo (FO.out.1.prom HKD.out).1 (FO.out.1.prom HKD.out).2 (fun x hx => HM6'.out x hx)
            have hac : (C (tn : Int)).promised p.ms ff.f ff.br ff.bn ff.wr ff.wn ff.x ff.s = ((C (tn : Int)).report ff.wr ff.wn ff.x ff.s).hear p.ms ff.f := by unfold ChN.promised; rw [he, if_pos rfl]
            have hab : (C (tn : Int)).promisedB p.ms ff.f ff.br ff.bn ff.wr ff.wn ff.x ff.s = ((C (tn : Int)).report ff.wr ff.wn ff.x ff.s).enough p.ms ff.f := by unfold ChN.promisedB; rw [he, Bool.true_and]
            rw [hac] at S12
            rw [hab]
            clear he hac hab
            cases en : ((C (tn : Int)).report ff.wr ff.wn ff.x ff.s).enough p.ms ff.f with
            | false =>
              have IN := Lib.hid (OnI.next (k := k) ⟨S12.out, A12.out, hpx.1 en, I11.out.f, I11.out.c, F12.out, I11.out.r, I11.out.n⟩)
              clear en hpx S12 A12 Q12 F12 I11 Q11 E11 FO N24 HTM HKD HTN
              have hk3 := HN.out
              go_wp2_with fail
              refine HandM.intro (l.length - (k + 1)) ?measure ?mix
              case measure => omega
              case mix => exact hJJ _ _ _ (by kernel_rfl) ⟨k + 1, V, _, hvn, way', cz, val, acc, sm, rd, by omega, rfl, by first | rfl | (show Value.int .i64 _ = _; congr 1), by rfl, by first | rfl | (show Value.int .i64 _ = _; congr 1), IN⟩
            | true =>
              obtain ⟨hv0, hp2, hx2, hph⟩ := hpx.2 en
              clear hpx en
              obtain ⟨X, hX⟩ : ∃ X, X = ((C (tn : Int)).report ff.wr ff.wn ff.x ff.s).x := ⟨_, rfl⟩
              obtain ⟨Cn, hCn⟩ : ∃ Cn, Cn = upd C (tn : Int) (((C (tn : Int)).report ff.wr ff.wn ff.x ff.s).hear p.ms ff.f) := ⟨_, rfl⟩
              have HCX : Hid ((Cn (tn : Int)).x = X ∧ (Cn (tn : Int)).ph = 2) := Lib.hid (by rw [hCn, upd_same, hX]; exact ⟨hx2, hph⟩)
              rw [← hCn] at S12 hp2
              rw [← hX] at hp2
              have P12 := Lib.hid hp2
              have LT := Lib.hid (val_later V acc hv0 X)
              clear hX hCn hp2 hv0 hx2 hph
              obtain ⟨-, c1, c2, c3, c4, -, -, -, -, -, -, -, -, -⟩ := fl_cells Q12.out
              dsimp only at c1 c2 c3 c4
              rw [HTN.out] at c2
              have pc := arr6_cell A12.out.rc tn ht6
              simp only [ptrs] at pc
              go_wp2_with fail
              refine (on_entry S12.out HIT.out (.inl HCX.out.2)).mono ?_
              rintro er w13 ⟨v', u', rfl, he13, f13, ha13, hs13⟩
              rw [HCX.out.1] at he13 ha13 hs13 ⊢
              obtain ⟨qa, qc, hq1, -⟩ := he13.1.shape
              obtain ⟨qb, qd, hq2, -⟩ := he13.2.shape
              have hq1' : v' = .slice qa X.l.length qc := hq1
              have hq2' : u' = .slice qb X.m.length qd := hq2
              subst hq1' hq2'
              have q14 := heap_alloc_new w13 (X.obj (.slice qa X.l.length qc) (.slice qb X.m.length qd))
              have f14 : Fr (fun _ => False) w13 (w13.alloc (X.obj (.slice qa X.l.length qc) (.slice qb X.m.length qd))) := (Fr.refl _ _).alloc _
              clear c1 c2 c3 c4 pc hq1 hq2
              dsimp only
              go_upto_region 54 with fail
              generalize w13.alloc (X.obj (.slice qa X.l.length qc) (.slice qb X.m.length qd)) = w14 at *
              obtain ⟨gE, hgE⟩ : ∃ g, g = w13.heap.size := ⟨_, rfl⟩
              rw [← hgE] at q14 ⊢
              have f1 := f13.trans f14 (fun _ _ h => h)
              have HEX : Hid (gE ≠ p.gX) := Lib.hid (by
                obtain ⟨cs, hx⟩ := S12.out.xrow
                have := lt_of hx
                have := f13.size
                omega)
              have S14 := Lib.hid (S12.out.fr f1)
              have A14 := Lib.hid (A12.out.keep f1 (fun h => h) (fun h => h) (fun h => h) (fun h => h))
              have F14 := Lib.hid (F12.out.trans f1 (fun _ _ h => h))
              have E14 := Lib.hid (And.intro (he13.fr f14) (And.intro ha13 hs13))
              have Q14 := Lib.hid (And.intro (crow_kept Q12.out f1 (fun h => h)) q14)
              have N14 : Hid (¬ OnM p hvn u13 g24) := Lib.hid (S12.out.non Q12.out (by decide) (by decide) (by decide) (.inr HCN.out) (.inl (by decide)))
              clear hgE q14 f14 f1 he13 ha13 hs13 f13 S12 A12 F12 Q12
              obtain ⟨hcapm, gm2, off2, hma, hcellm⟩ := (sic_of S14.out.view) ND'.out
              obtain ⟨v0, v1⟩ := vw_cells A14.out.rw'
              rw [hma] at v1
              have HMA2 := Lib.hid hma
              clear hma hcellm hcapm
              go_upto_region 55 with fail
              clear v0 v1
              obtain ⟨u13', hu13⟩ : ∃ z, z = u13 := ⟨_, rfl⟩
              have HU13 := Lib.hid hu13
              clear hu13
              have W0 : Hid (∀ y ∈ way', FlOk y.f V (valU val (cod ff.br ff.bn) X) acc ∧ y.f.f ∈ p.ms ∧ y.f.t ∈ p.ms) := Lib.hid (fun y hy => ⟨(I11.out.f y hy).1.later LT.out, (I11.out.f y hy).2⟩)
              have N0 : Hid (way'.length ≤ 16 * k + 0) := Lib.hid (by have := I11.out.n; omega)
              obtain ⟨way0, hw0⟩ : ∃ z, z = way' := ⟨_, rfl⟩
              have HW0 := Lib.hid hw0
              clear hw0
              go_loopg [13, 249] p.ms.length (fun gh u13 u249 wx => ∃ (jj : Nat) (way' : List FlM), jj ≤ p.ms.length ∧ gh = p.ms.length - jj ∧ u249 = .int .i64 jj ∧ Hid (OnS p wx V Cn hvn u13 way' cz) ∧ Hid (OnA p Q wx) ∧ Hid (∀ y ∈ way', FlOk y.f V (valU val (cod ff.br ff.bn) X) acc ∧ y.f.f ∈ p.ms ∧ y.f.t ∈ p.ms) ∧ Hid (way'.length ≤ 16 * k + jj) ∧ Hid (Fr (fun _ => False) w wx) ∧ Hid (wx.heap[g24]? = some (FlM.obj ⟨ff, (.slice sa1 ff.x.l.length sk1), (.slice sa2 ff.x.m.length sk2)⟩) ∧ wx.heap[gE]? = some (X.obj (.slice qa X.l.length qc) (.slice qb X.m.length qd))) ∧ Hid (ES wx X (.slice qa X.l.length qc) (.slice qb X.m.length qd) ∧ AwayS (OnM p hvn u13) X (.slice qa X.l.length qc) (.slice qb X.m.length qd) ∧ EnSmall X) ∧ Hid (¬ OnM p hvn u13 g24))
              case atStart => exact ⟨0, way', Nat.zero_le _, rfl, rfl, S14, A14, W0, N0, F14, Q14, E14, N14⟩
              case round =>
                obtain ⟨jj, way', hjj, rfl, rfl, SJ, AJ, LJ, NJ, FJ, QJ, EJ, GJ⟩ := hrel
                clear S14 A14 W0 N0 F14 Q14 E14 N14
                by_cases hlt5 : jj < p.ms.length
                case neg =>
                  have hjj' : jj = p.ms.length := by omega
                  have IN : Hid (OnI p Q w wr V Cn hvn u13 way' cz (valU val (cod ff.br ff.bn) X) acc sm rd (k + 1)) := Lib.hid ⟨SJ.out, AJ.out, P12.out, LJ.out, fun h => (I11.out.c h).later LT.out, FJ.out, by have := I11.out.r; omega, by have := NJ.out; have := FEW.out; omega⟩
                  have hk3 := HN.out
                  clear SJ AJ LJ NJ FJ QJ EJ GJ P12 hlt5
                  go_wp2_with fail
                  refine HandM.intro (l.length - (k + 1)) ?measure ?mix
                  case measure => omega
                  case mix => exact hJJ _ _ _ (by kernel_rfl) ⟨k + 1, V, Cn, hvn, way', cz, _, acc, sm, rd, by omega, rfl, by first | rfl | (show Value.int .i64 _ = _; congr 1), by rfl, by first | rfl | (show Value.int .i64 _ = _; congr 1), IN⟩
                obtain ⟨m, hm⟩ : ∃ m, m = p.ms[jj] := ⟨_, rfl⟩
                have HMM4 : Hid (m ∈ p.ms) := Lib.hid (by rw [hm]; exact List.getElem_mem hlt5)
                have cj : wr.cell? ⟨gm2, off2 + jj, none⟩ = some (.int .i64 m) := by
                  obtain ⟨_, gm3, off3, hma3, hcell3⟩ := (sic_of SJ.out.view) ND'.out
                  rw [HMA2.out] at hma3
                  cases hma3
                  rw [hm]
                  exact hcell3 jj hlt5
                clear hm
                go_upto_region 57 with fail
                clear cj
                obtain ⟨-, c1, c2, c3, c4, -, -, -, -, -, -, -, -, -⟩ := fl_cells QJ.out.1
                dsimp only at c1 c2 c3 c4
                rw [HTN.out] at c2
                obtain ⟨z0, z1, z2, z3, z4, z5⟩ := en_cells QJ.out.2
                have FA4 := Lib.hid (And.intro (show Fr (fun _ => False) wr (wr.alloc (FlM.obj ⟨⟨2, tn, m, ff.br, ff.bn, 0, 0, false, X⟩, .slice qa X.l.length qc, .slice qb X.m.length qd⟩)) from (Fr.refl _ _).alloc _) (heap_alloc_new wr (FlM.obj ⟨⟨2, tn, m, ff.br, ff.bn, 0, 0, false, X⟩, .slice qa X.l.length qc, .slice qb X.m.length qd⟩)))
                have hk3 := HN.out
                go_wp2_with (at_builtin; refine wpList_append_fl rfl (.tmp 253) (.tmp 261) rfl p.B u13 way' rfl ?own wr.heap.size 1 ⟨⟨2, tn, m, ff.br, ff.bn, 0, 0, false, X⟩, .slice qa X.l.length qc, .slice qb X.m.length qd⟩ rfl ?row rfl rfl ?len ?base ?grow)
                case own => exact SJ.out.wo.fr FA4.out.1 (fun _ _ h => h)
                case row => first | exact FA4.out.2 | exact (Array.getElem?_eq_some_iff.1 FA4.out.2).2
                case len => have := NJ.out; have := FEW.out; omega
                case base => first | exact Nat.le_trans (SJ.out.ch 0 in0).1.base FA4.out.1.size | (have := (SJ.out.ch 0 in0).1.base; omega)
                case grow =>
                  intro v' w' hown hg hvv
                  obtain ⟨hs, hfr⟩ := SJ.out.push FF.out FA4.out.1 hown hg (by rw [World.size_alloc]; exact hvv) EJ.out
                  have hnew : ∀ k, v'.ownBlock = some k → u13.ownBlock = some k ∨ wr.heap.size ≤ k := fun k hk => by
                    rcases hvv with e | e
                    · exact .inl (e ▸ hk)
                    · right
                      rw [e] at hk
                      have := Option.some.inj hk
                      omega
                  have SN := Lib.hid hs
                  have AN := Lib.hid (AJ.out.step SJ.out hfr)
                  have FN4 := Lib.hid (SJ.out.frame FN.out FJ.out hfr)
                  have EN : Hid (ES w' X (.slice qa X.l.length qc) (.slice qb X.m.length qd) ∧ AwayS (OnM p hvn v') X (.slice qa X.l.length qc) (.slice qb X.m.length qd) ∧ EnSmall X) := Lib.hid ⟨EJ.out.1.keepS EJ.out.2.1 hfr, EJ.out.2.1.ext EJ.out.1 (onM_ext hnew), EJ.out.2.2⟩
                  have QN := Lib.hid (And.intro (crow_kept QJ.out.1 hfr GJ.out) (crow_kept QJ.out.2 hfr (SJ.out.non QJ.out.2 (by decide) (by decide) (by decide) (.inl (by decide)) (.inr HEX.out))))
                  have GN : Hid (¬ OnM p hvn v' g24) := Lib.hid (fun h => GJ.out (onM_ext hnew g24 (lt_of QJ.out.1) h))
                  have LN : Hid (∀ y ∈ way' ++ [⟨⟨2, tn, m, ff.br, ff.bn, 0, 0, false, X⟩, .slice qa X.l.length qc, .slice qb X.m.length qd⟩], FlOk y.f V (valU val (cod ff.br ff.bn) X) acc ∧ y.f.f ∈ p.ms ∧ y.f.t ∈ p.ms) := Lib.hid (fun y hy => by
                    rcases List.mem_append.1 hy with hy | hy
                    · exact LJ.out y hy
                    · simp at hy
                      subst hy
                      exact ⟨⟨FO.out.1.bo, ⟨by show (0 : Int) ≤ 0; omega, by show (0 : Int) ≤ 0; omega, by show (0 : Int) ≤ 5; omega⟩, by show (0 : Int) ≤ 2; omega, fun h => absurd h (by show ¬ (2 : Int) = 1; omega), fun _ => by show valU val (cod ff.br ff.bn) X (cod ff.br ff.bn) = some X; unfold valU; rw [if_pos rfl], fun h => absurd h (by show ¬ 3 ≤ (2 : Int); omega)⟩, HTM.out, HMM4.out⟩)
                  have NN : Hid ((way' ++ [(⟨⟨2, tn, m, ff.br, ff.bn, 0, 0, false, X⟩, .slice qa X.l.length qc, .slice qb X.m.length qd⟩ : FlM)]).length ≤ 16 * k + (jj + 1)) := Lib.hid (by have := NJ.out; simp; omega)
                  have hf16 := FEW.out
                  clear hown hg hvv hs hfr hnew SJ AJ FJ QJ EJ GJ LJ NJ c1 c2 c3 c4 z0 z1 z2 z3 z4 z5
                  go_wp2_with fail
                  go_roundg (p.ms.length - (jj + 1))
                  case measure => omega
                  case rel => exact ⟨jj + 1, _, by omega, rfl, by congr 1, SN, AN, LN, NN, FN4, QN, EN, GN⟩

    · have HKD := Lib.hid hkd
      rw [show (FlM.mk ff (.slice sa1 ff.x.l.length sk1) (.slice sa2 ff.x.m.length sk2)).f.k = 2 from hkd] at c0
      clear hkd hk0
      go_upto_region 60 with fail
      clear c0
      focus
        refine wp_region_chain (by kernel_rfl) [some 266, some 267, some 268, some 269, some 270, some 271, some 272, some 273, some 274] rfl (by decide) (by intro d hd; simp at hd ⊢; omega)
          [8] (fun cvs wx => OaS p (upd V (tn : Int) ((V (tn : Int)).accept ff.br ff.bn ff.x)) C hv u13 way' cz (!blt ff.br ff.bn (V (tn : Int)).pr (V (tn : Int)).pn) wc cvs wx)
          [.free (.pointer (some ⟨g24, 2, none⟩)), .free (.int .i64 tn), .free (.pointer (some ⟨Q.gV, tn, none⟩)), .free (.pointer (some ⟨p.vb tn, 0, none⟩)), .free (.pointer (some ⟨g24, 3, none⟩)), .free (ball ff.br ff.bn), .free (.pointer (some ⟨g24, 8, none⟩)), .free (ff.x.val (.slice sa1 ff.x.l.length sk1) (.slice sa2 ff.x.m.length sk2)), .link none]
          (by kernel_rfl) (by kernel_rfl) ?hr60 ?stepr60 ?finr60
        case hr60 => exact (Fr.refl _ _).drew
        case stepr60 =>
          intro vals
          simp only [frOfU, fillU, List.setIfInBounds_toArray, List.set_cons_succ, List.set_cons_zero]
          repeat' (first | exact AllOps.nil | refine AllOps.cons ?_ ?_)
          all_goals
            intro cvs wx hS he hu hlim Kc hK
            simp only [Act.put, List.setIfInBounds_toArray, List.set_cons_succ, List.set_cons_zero, List.getD_cons_zero, List.getD_cons_succ] at hK
            simp only [List.mem_cons, List.not_mem_nil, or_false, forall_eq_or_imp, forall_eq, Region.binds, forall_const, qmode_gc, Bool.false_eq_true, false_imp_iff, List.getD_cons_zero, List.getD_cons_succ, OpSort.val, Option.some.injEq, forall_eq', reduceCtorEq, implies_true, true_and, and_true] at he
            have hl5 := OaS.fr hS
            have ak := I11.out.a.step I11.out.s hl5
            obtain ⟨-, c1, c2, c3, c4, c5, c6, c7, c8, c9, c10, c11, c12, c13⟩ := fl_cells (crow_kept Q11.out hl5 N24.out)
            dsimp only at c1 c2 c3 c4 c5 c6 c7 c8 c9 c10 c11 c12 c13
            rw [HTN.out] at c2
            have pv := arr6_cell ak.rv tn ht6
            have pc := arr6_cell ak.rc tn ht6
            simp only [ptrs] at pv pc
            clear ak hl5
            have HSX := Lib.hid hS
            clear hS
          all_goals first | (clear hlim hu; (try simp only [he] at hK ⊢); go_simp; exact hK) | skip
          · obtain rfl := hlim (0 : Nat) rfl
            have h1 : Fr (fun _ => False) wc wx := HSX.out
            have H1 := Lib.hid h1
            clear hlim hu HSX h1
            simp only [he] at hK ⊢
            go_simp
            go_at_call 15
            refine (on_accept FF.out (I11.out.s.fr H1.out) HIT.out (E11.out.1.fr H1.out) E11.out.2.1 E11.out.2.2).mono ?_
            rintro er wa ⟨rfl, fa, hh⟩
            exact hK _ _ (fun _ h => by cases h) ⟨rfl, (H1.out.mono (fun _ _ h => h.elim)).trans fa (fun _ _ h => h), hv, hh⟩
        case finr60 =>
          intro vals w12 hS hV
          have v0 := hV 0 _ (by decide) rfl
          have v1 := hV 1 _ (by decide) rfl
          have v2 := hV 2 _ (by decide) rfl
          have v3 := hV 3 _ (by decide) rfl
          have v4 := hV 4 _ (by decide) rfl
          have v5 := hV 5 _ (by decide) rfl
          have v6 := hV 6 _ (by decide) rfl
          have v7 := hV 7 _ (by decide) rfl
          clear hV
          simp only [frOfU, fillU, List.setIfInBounds_toArray, List.set_cons_succ, List.set_cons_zero]
          simp only [Nat.reduceAdd, v0, v1, v2, v3, v4, v5, v6, v7]
          clear v0 v1 v2 v3 v4 v5 v6 v7
          obtain ⟨hz, h1, hvn, h2⟩ : vals 8 = .bool (!blt ff.br ff.bn (V (tn : Int)).pr (V (tn : Int)).pn) ∧ Fr (OnM p hv u13) wc w12 ∧ ∃ hv', OnS p w12 (upd V (tn : Int) ((V (tn : Int)).accept ff.br ff.bn ff.x)) C hv' u13 way' cz := hS
          rw [hz]
          have A12 := Lib.hid (I11.out.a.step I11.out.s h1)
          have F12 := Lib.hid (I11.out.s.frame FN.out I11.out.fr h1)
          have Q12 := Lib.hid (crow_kept Q11.out h1 N24.out)
          have S12 := Lib.hid h2
          clear hz h1 h2
          cases hbl : blt ff.br ff.bn (V (tn : Int)).pr (V (tn : Int)).pn with
          | true =>
            have IN : Hid (OnI p Q w w12 V C hvn u13 way' cz val acc sm rd (k + 1)) := Lib.hid (by
              have e : upd V (tn : Int) ((V (tn : Int)).accept ff.br ff.bn ff.x) = V := by
                unfold VtN.accept
                rw [if_pos hbl, upd_self]
              have h := S12.out
              rw [e] at h
              exact OnI.next ⟨h, A12.out, I11.out.x, I11.out.f, I11.out.c, F12.out, I11.out.r, I11.out.n⟩)
            clear hbl S12 A12 Q12 F12 I11 Q11 E11 FO N24 HTM HKD HTN
            simp only [Bool.not_true]
            have hk3 := HN.out
            go_wp2_with fail
            refine HandM.intro (l.length - (k + 1)) ?measure ?mix
            case measure => omega
            case mix => exact hJJ _ _ _ (by kernel_rfl) ⟨k + 1, V, C, hvn, way', cz, val, acc, sm, rd, by omega, rfl, by first | rfl | (show Value.int .i64 _ = _; congr 1), by rfl, by first | rfl | (show Value.int .i64 _ = _; congr 1), IN⟩
          | false =>
            have HBL := Lib.hid hbl
            clear hbl
            simp only [Bool.not_false]
            have P12 := Lib.hid (pax_accept I11.out.x HTM.out FO.out.1.bo HBL.out (FO.out.1.vote HKD.out))
            have LT := Lib.hid (accept_later I11.out.x HTM.out FO.out.1.bo HBL.out ff.x)
            generalize hVn : upd V (tn : Int) ((V (tn : Int)).accept ff.br ff.bn ff.x) = Vn at *
            have HVN := Lib.hid hVn
            clear hVn
            go_upto_region 61 with fail
            obtain ⟨-, c1, c2, c3, c4, -, -, -, -, -, -, -, -, -⟩ := fl_cells Q12.out
            dsimp only at c1 c2 c3 c4
            rw [HTN.out] at c2
            have FA4 := Lib.hid (And.intro (show Fr (fun _ => False) w12 (w12.alloc (FlM.obj ⟨⟨3, tn, ff.f, ff.br, ff.bn, 0, 0, false, En.zero⟩, nilS, nilS⟩)) from (Fr.refl _ _).alloc _) (heap_alloc_new w12 (FlM.obj ⟨⟨3, tn, ff.f, ff.br, ff.bn, 0, 0, false, En.zero⟩, nilS, nilS⟩)))
            go_wp2_with (at_builtin; refine wpList_append_fl rfl (.tmp 275) (.tmp 283) rfl p.B u13 way' rfl ?own w12.heap.size 1 ⟨⟨3, tn, ff.f, ff.br, ff.bn, 0, 0, false, En.zero⟩, nilS, nilS⟩ rfl ?row rfl rfl ?len ?base ?grow)
            case own => exact S12.out.wo.fr FA4.out.1 (fun _ _ h => h)
            case row => first | exact FA4.out.2 | exact (Array.getElem?_eq_some_iff.1 FA4.out.2).2
            case len => have := I11.out.n; have := HN.out; have := hlt; omega
            case base => first | exact Nat.le_trans (S12.out.ch 0 in0).1.base FA4.out.1.size | (have := (S12.out.ch 0 in0).1.base; omega)
            case grow =>
              intro v' w' hown hg hvv
              obtain ⟨hs, hfr⟩ := S12.out.push FF.out FA4.out.1 hown hg (by rw [World.size_alloc]; exact hvv) ⟨es_zero _, ⟨.inl rfl, .inl rfl⟩, small_zero⟩
              have IN : Hid (OnI p Q w w' Vn C hvn v' (way' ++ [⟨⟨3, tn, ff.f, ff.br, ff.bn, 0, 0, false, En.zero⟩, nilS, nilS⟩]) cz val (accU acc (tn : Int) (cod ff.br ff.bn)) sm rd (k + 1)) := Lib.hid ⟨hs, A12.out.step S12.out hfr, P12.out, fun y hy => by
                rcases List.mem_append.1 hy with hy | hy
                · exact ⟨(I11.out.f y hy).1.later LT.out, (I11.out.f y hy).2⟩
                · simp at hy
                  subst hy
                  exact ⟨⟨FO.out.1.bo, ⟨by show (0 : Int) ≤ 0; omega, by show (0 : Int) ≤ 0; omega, by show (0 : Int) ≤ 5; omega⟩, by show (0 : Int) ≤ 3; omega, fun h => absurd h (by show ¬ (3 : Int) = 1; omega), fun h => absurd h (by show ¬ (3 : Int) = 2; omega), fun _ => .inr ⟨rfl, rfl⟩⟩, HTM.out, FO.out.2.1⟩, fun h => (I11.out.c h).later LT.out, S12.out.frame FN.out F12.out hfr, by have := I11.out.r; omega, by have := I11.out.n; simp; omega⟩
              clear hown hg hvv hs hfr
              have hk3 := HN.out
              go_wp2_with fail
              refine HandM.intro (l.length - (k + 1)) ?measure ?mix
              case measure => omega
              case mix => exact hJJ _ _ _ (by kernel_rfl) ⟨k + 1, Vn, C, hvn, _, cz, val, (accU acc (tn : Int) (cod ff.br ff.bn)), sm, rd, by omega, rfl, by first | rfl | (show Value.int .i64 _ = _; congr 1), by rfl, by first | rfl | (show Value.int .i64 _ = _; congr 1), IN⟩

    · have HKD := Lib.hid hkd
      have hb0 : (ff.k == 0) = false := by simp; omega
      have hb1 : (ff.k == 1) = false := by simp; omega
      have hb2 : (ff.k == 2) = false := by simp; omega
      clear hkd hk0
      go_upto_region 42 with fail
      clear c0 hb0 hb1 hb2
      focus
        refine wp_region_chain (by kernel_rfl) [some 164, some 165, some 166, some 167, some 168, some 169, some 170, some 171, some 172] rfl (by decide) (by intro d hd; simp at hd ⊢; omega)
          [8] (fun cvs wx => OaS p V (upd C (tn : Int) ((C (tn : Int)).accepted p.ms ff.f ff.br ff.bn)) hv u13 way' cz ((C (tn : Int)).acceptedB p.ms ff.f ff.br ff.bn) wc cvs wx)
          [.free (.pointer (some ⟨g24, 2, none⟩)), .free (.int .i64 tn), .free (.pointer (some ⟨Q.gC, tn, none⟩)), .free (.pointer (some ⟨p.cb tn, 0, none⟩)), .free (.pointer (some ⟨g24, 1, none⟩)), .free (.int .i64 ff.f), .free (.pointer (some ⟨g24, 3, none⟩)), .free (ball ff.br ff.bn), .link none]
          (by kernel_rfl) (by kernel_rfl) ?hr42 ?stepr42 ?finr42
        case hr42 => exact (Fr.refl _ _).drew
        case stepr42 =>
          intro vals
          simp only [frOfU, fillU, List.setIfInBounds_toArray, List.set_cons_succ, List.set_cons_zero]
          repeat' (first | exact AllOps.nil | refine AllOps.cons ?_ ?_)
          all_goals
            intro cvs wx hS he hu hlim Kc hK
            simp only [Act.put, List.setIfInBounds_toArray, List.set_cons_succ, List.set_cons_zero, List.getD_cons_zero, List.getD_cons_succ] at hK
            simp only [List.mem_cons, List.not_mem_nil, or_false, forall_eq_or_imp, forall_eq, Region.binds, forall_const, qmode_gc, Bool.false_eq_true, false_imp_iff, List.getD_cons_zero, List.getD_cons_succ, OpSort.val, Option.some.injEq, forall_eq', reduceCtorEq, implies_true, true_and, and_true] at he
            have hl5 := OaS.fr hS
            have ak := I11.out.a.step I11.out.s hl5
            obtain ⟨-, c1, c2, c3, c4, c5, c6, c7, c8, c9, c10, c11, c12, c13⟩ := fl_cells (crow_kept Q11.out hl5 N24.out)
            dsimp only at c1 c2 c3 c4 c5 c6 c7 c8 c9 c10 c11 c12 c13
            rw [HTN.out] at c2
            have pv := arr6_cell ak.rv tn ht6
            have pc := arr6_cell ak.rc tn ht6
            simp only [ptrs] at pv pc
            clear ak hl5
            have HSX := Lib.hid hS
            clear hS
          all_goals first | (clear hlim hu; (try simp only [he] at hK ⊢); go_simp; exact hK) | skip
          · obtain rfl := hlim (0 : Nat) rfl
            have h1 : Fr (fun _ => False) wc wx := HSX.out
            have H1 := Lib.hid h1
            clear hlim hu HSX h1
            simp only [he] at hK ⊢
            go_simp
            go_at_call 16
            refine (on_accepted FF.out (I11.out.s.fr H1.out) HIT.out).mono ?_
            rintro er wa ⟨rfl, fa, hh⟩
            exact hK _ _ (fun _ h => by cases h) ⟨rfl, (H1.out.mono (fun _ _ h => h.elim)).trans fa (fun _ _ h => h), hh⟩
        case finr42 =>
          intro vals w12 hS hV
          have v0 := hV 0 _ (by decide) rfl
          have v1 := hV 1 _ (by decide) rfl
          have v2 := hV 2 _ (by decide) rfl
          have v3 := hV 3 _ (by decide) rfl
          have v4 := hV 4 _ (by decide) rfl
          have v5 := hV 5 _ (by decide) rfl
          have v6 := hV 6 _ (by decide) rfl
          have v7 := hV 7 _ (by decide) rfl
          clear hV
          simp only [frOfU, fillU, List.setIfInBounds_toArray, List.set_cons_succ, List.set_cons_zero]
          simp only [Nat.reduceAdd, v0, v1, v2, v3, v4, v5, v6, v7]
          clear v0 v1 v2 v3 v4 v5 v6 v7
          obtain ⟨hz, h1, hvn, h2⟩ : vals 8 = .bool ((C (tn : Int)).acceptedB p.ms ff.f ff.br ff.bn) ∧ Fr (OnM p hv u13) wc w12 ∧ ∃ hv', OnS p w12 V (upd C (tn : Int) ((C (tn : Int)).accepted p.ms ff.f ff.br ff.bn)) hv' u13 way' cz := hS
          rw [hz]
          have A12 := Lib.hid (I11.out.a.step I11.out.s h1)
          have F12 := Lib.hid (I11.out.s.frame FN.out I11.out.fr h1)
          have Q12 := Lib.hid (crow_kept Q11.out h1 N24.out)
          have S12 := Lib.hid h2
          clear hz h1 h2
          cases he : expB p.ms (C (tn : Int)) 2 ff.f ff.br ff.bn with
          | false =>
            have hb : (C (tn : Int)).acceptedB p.ms ff.f ff.br ff.bn = false := by unfold ChN.acceptedB; rw [he]; rfl
            have IN : Hid (OnI p Q w w12 V C hvn u13 way' cz val acc sm rd (k + 1)) := Lib.hid (by
              have e : (upd C (tn : Int) ((C (tn : Int)).accepted p.ms ff.f ff.br ff.bn)) = C := by
                unfold ChN.accepted
                rw [he, if_neg (by decide), upd_self]
              have h := S12.out
              rw [e] at h
              exact OnI.next ⟨h, A12.out, I11.out.x, I11.out.f, I11.out.c, F12.out, I11.out.r, I11.out.n⟩)
            rw [hb]
            clear he hb S12 A12 Q12 F12 I11 Q11 E11 FO N24 HTM HKD HTN
            have hk3 := HN.out
            go_wp2_with fail
            refine HandM.intro (l.length - (k + 1)) ?measure ?mix
            case measure => omega
            case mix => exact hJJ _ _ _ (by kernel_rfl) ⟨k + 1, V, C, hvn, way', cz, val, acc, sm, rd, by omega, rfl, by first | rfl | (show Value.int .i64 _ = _; congr 1), by rfl, by first | rfl | (show Value.int .i64 _ = _; congr 1), IN⟩
          | true =>
            have hpx := pax_accepted I11.out.x HTM.out he (FO.out.1.vtd HKD.out)
            have hac : (C (tn : Int)).accepted p.ms ff.f ff.br ff.bn = (C (tn : Int)).hear p.ms ff.f := by unfold ChN.accepted; rw [he, if_pos rfl]
            have hab : (C (tn : Int)).acceptedB p.ms ff.f ff.br ff.bn = (C (tn : Int)).enough p.ms ff.f := by unfold ChN.acceptedB; rw [he, Bool.true_and]
            rw [hac] at S12
            rw [hab]
            have P12 := Lib.hid hpx.1
            clear he hac hab
            cases en : (C (tn : Int)).enough p.ms ff.f with
            | false =>
              have IN := Lib.hid (OnI.next (k := k) ⟨S12.out, A12.out, P12.out, I11.out.f, I11.out.c, F12.out, I11.out.r, I11.out.n⟩)
              clear en hpx P12 S12 A12 Q12 F12 I11 Q11 E11 FO N24 HTM HKD HTN
              have hk3 := HN.out
              go_wp2_with fail
              refine HandM.intro (l.length - (k + 1)) ?measure ?mix
              case measure => omega
              case mix => exact hJJ _ _ _ (by kernel_rfl) ⟨k + 1, V, _, hvn, way', cz, val, acc, sm, rd, by omega, rfl, by first | rfl | (show Value.int .i64 _ = _; congr 1), by rfl, by first | rfl | (show Value.int .i64 _ = _; congr 1), IN⟩
            | true =>
              have hch := hpx.2 en
              clear hpx en
              have CHO := Lib.hid hch.1
              obtain ⟨X, hX⟩ : ∃ X, X = (C (tn : Int)).x := ⟨_, rfl⟩
              obtain ⟨Cn, hCn⟩ : ∃ Cn, Cn = upd C (tn : Int) ((C (tn : Int)).hear p.ms ff.f) := ⟨_, rfl⟩
              have HCX : Hid ((Cn (tn : Int)).x = X ∧ (Cn (tn : Int)).ph = 3) := Lib.hid (by rw [hCn, upd_same, hX]; exact hch.2)
              rw [← hCn] at S12 P12
              rw [← hX] at CHO
              clear hX hCn hch
              obtain ⟨-, c1, c2, c3, c4, -, -, -, -, -, -, -, -, -⟩ := fl_cells Q12.out
              dsimp only at c1 c2 c3 c4
              rw [HTN.out] at c2
              have pc := arr6_cell A12.out.rc tn ht6
              simp only [ptrs] at pc
              go_wp2_with fail
              refine (on_entry S12.out HIT.out (.inr HCX.out.2)).mono ?_
              rintro er w13 ⟨v', u', rfl, he13, f13, ha13, hs13⟩
              rw [HCX.out.1] at he13 ha13 hs13 ⊢
              obtain ⟨qa, qc, hq1, -⟩ := he13.1.shape
              obtain ⟨qb, qd, hq2, -⟩ := he13.2.shape
              have hq1' : v' = .slice qa X.l.length qc := hq1
              have hq2' : u' = .slice qb X.m.length qd := hq2
              subst hq1' hq2'
              have q14 := heap_alloc_new w13 (X.obj (.slice qa X.l.length qc) (.slice qb X.m.length qd))
              have f14 : Fr (fun _ => False) w13 (w13.alloc (X.obj (.slice qa X.l.length qc) (.slice qb X.m.length qd))) := (Fr.refl _ _).alloc _
              clear c1 c2 c3 c4 pc hq1 hq2
              dsimp only
              go_upto_region 44 with fail
              generalize w13.alloc (X.obj (.slice qa X.l.length qc) (.slice qb X.m.length qd)) = w14 at *
              obtain ⟨gE, hgE⟩ : ∃ g, g = w13.heap.size := ⟨_, rfl⟩
              rw [← hgE] at q14 ⊢
              have f1 := f13.trans f14 (fun _ _ h => h)
              have S14 := Lib.hid (S12.out.fr f1)
              have A14 := Lib.hid (A12.out.keep f1 (fun h => h) (fun h => h) (fun h => h) (fun h => h))
              have F14 := Lib.hid (F12.out.trans f1 (fun _ _ h => h))
              have E14 := Lib.hid (And.intro (he13.fr f14) (And.intro ha13 hs13))
              have Q14 := Lib.hid (And.intro trivial q14)
              clear hgE q14 f14 f1 he13 ha13 hs13 f13 S12 A12 F12 Q12
              have HSM : Hid (∀ b : Bool, sm = b → b = true → X = cz) := Lib.hid (fun b h hb => cho_one I11.out.x CHO.out (I11.out.c (h.trans hb)))
              have hsm0 : ∀ b : Bool, sm = b → b = true → X = cz := HSM.out
              have HSX : Hid (sm = false ∨ X = cz) := Lib.hid (by cases hs : sm with | false => exact .inl rfl | true => exact .inr (HSM.out true hs rfl))
              clear HSM hsm0
              cases sm with
              | false =>
                go_upto_region 46 with fail
                obtain ⟨z0, z1, z2, z3, z4, z5⟩ := en_cells Q14.out.2
                obtain ⟨vz, uz, hz1, hz2, hz3, hz4⟩ := S14.out.cz
                obtain ⟨x0, x1, x2, x3, x4, x5⟩ := en_cells hz1
                obtain ⟨y0, y1, y2, y3, y4, y5⟩ := vfree6 hz1
                have HZ1 := Lib.hid hz1
                clear hz1 hz2 hz3 hz4
                go_upto_region 62 with fail
                have hq := cst6 (y0 := .int .u8 X.k) (y1 := .int .u16 X.t) (y2 := .int .u16 X.n) (y3 := .int .i64 X.p) (y4 := .slice qa X.l.length qc) (y5 := .slice qb X.m.length qd) HZ1.out
                have hf := cfr6 (.int .u8 X.k) (.int .u16 X.t) (.int .u16 X.n) (.int .i64 X.p) (.slice qa X.l.length qc) (.slice qb X.m.length qd) (b := p.gX) (S := fun k => k = p.gX) (Fr.refl _ w14) (fun _ => rfl)
                clear z0 z1 z2 z3 z4 z5 x0 x1 x2 x3 x4 x5 y0 y1 y2 y3 y4 y5
                have IN : Hid (OnI p Q w ((((((w14.setCell ⟨p.gX, 0, none⟩ (.int .u8 X.k)).setCell ⟨p.gX, 1, none⟩ (.int .u16 X.t)).setCell ⟨p.gX, 2, none⟩ (.int .u16 X.n)).setCell ⟨p.gX, 3, none⟩ (.int .i64 X.p)).setCell ⟨p.gX, 4, none⟩ (.slice qa X.l.length qc)).setCell ⟨p.gX, 5, none⟩ (.slice qb X.m.length qd)) V Cn hvn u13 way' X val acc true rd (k + 1)) := Lib.hid (by
                  have hs := S14.out.cho FF.out hf hq E14.out.1 E14.out.2.1 E14.out.2.2
                  have hfr : Fr (OnM p hvn u13) w14 _ := hf.mono (fun _ _ e => .inr (.inr e))
                  exact OnI.next ⟨hs, A14.out.step S14.out hfr, P12.out, I11.out.f, fun _ => CHO.out, S14.out.frame FN.out F14.out hfr, I11.out.r, I11.out.n⟩)
                generalize ((((((w14.setCell ⟨p.gX, 0, none⟩ (.int .u8 X.k)).setCell ⟨p.gX, 1, none⟩ (.int .u16 X.t)).setCell ⟨p.gX, 2, none⟩ (.int .u16 X.n)).setCell ⟨p.gX, 3, none⟩ (.int .i64 X.p)).setCell ⟨p.gX, 4, none⟩ (.slice qa X.l.length qc)).setCell ⟨p.gX, 5, none⟩ (.slice qb X.m.length qd)) = w15 at *
                clear hq hf
                have hk3 := HN.out
                go_wp2_with fail
                refine HandM.intro (l.length - (k + 1)) ?measure ?mix
                case measure => omega
                case mix => exact hJJ _ _ _ (by kernel_rfl) ⟨k + 1, V, Cn, hvn, way', X, val, acc, true, rd, by omega, rfl, by first | rfl | (show Value.int .i64 _ = _; congr 1), by rfl, by first | rfl | (show Value.int .i64 _ = _; congr 1), IN⟩
              | true =>
                obtain ⟨z0, z1, z2, z3, z4, z5⟩ := en_cells Q14.out.2
                obtain ⟨vz, uz, hz1, hz2, hz3, hz4⟩ := S14.out.cz
                obtain ⟨za, zc, hzv, -⟩ := hz2.1.shape
                obtain ⟨zb, zd, hzu, -⟩ := hz2.2.shape
                have hzv' : vz = .slice za cz.l.length zc := hzv
                have hzu' : uz = .slice zb cz.m.length zd := hzu
                subst hzv' hzu'
                obtain ⟨x0, x1, x2, x3, x4, x5⟩ := en_cells hz1
                have HZ2 := Lib.hid hz2
                clear hz1 hz2 hz3 hz4 hzv hzu
                go_wp2_with fail
                refine (vsame_any X cz _ _ _ _ w14 E14.out.1 HZ2.out E14.out.2.2.2).mono ?_
                rintro er w14' ⟨rfl, f14⟩
                have hsame : X.same cz = true := (En.same_iff _ _).2 (HSX.out.resolve_left (by decide))
                rw [hsame]
                have S14' := Lib.hid (S14.out.fr f14)
                have A14' := Lib.hid (A14.out.keep f14 (fun h => h) (fun h => h) (fun h => h) (fun h => h))
                have F14' := Lib.hid (F14.out.trans f14 (fun _ _ h => h))
                have E14' := Lib.hid (And.intro (E14.out.1.fr f14) E14.out.2)
                have Q14' := Lib.hid (And.intro trivial (crow_kept Q14.out.2 f14 (fun h => h)))
                clear f14 hsame z0 z1 z2 z3 z4 z5 x0 x1 x2 x3 x4 x5 HZ2 S14 A14 F14 E14 Q14
                clear w14
                obtain ⟨w14, rfl⟩ : ∃ w9 : World, w9 = w14' := ⟨_, rfl⟩
                have S14 := S14'
                have A14 := A14'
                have F14 := F14'
                have E14 := E14'
                have Q14 := Q14'
                clear S14' A14' F14' E14' Q14'
                dsimp only
                go_upto_region 46 with fail
                obtain ⟨z0, z1, z2, z3, z4, z5⟩ := en_cells Q14.out.2
                obtain ⟨vz, uz, hz1, hz2, hz3, hz4⟩ := S14.out.cz
                obtain ⟨x0, x1, x2, x3, x4, x5⟩ := en_cells hz1
                obtain ⟨y0, y1, y2, y3, y4, y5⟩ := vfree6 hz1
                have HZ1 := Lib.hid hz1
                clear hz1 hz2 hz3 hz4
                go_upto_region 62 with fail
                have hq := cst6 (y0 := .int .u8 X.k) (y1 := .int .u16 X.t) (y2 := .int .u16 X.n) (y3 := .int .i64 X.p) (y4 := .slice qa X.l.length qc) (y5 := .slice qb X.m.length qd) HZ1.out
                have hf := cfr6 (.int .u8 X.k) (.int .u16 X.t) (.int .u16 X.n) (.int .i64 X.p) (.slice qa X.l.length qc) (.slice qb X.m.length qd) (b := p.gX) (S := fun k => k = p.gX) (Fr.refl _ w14) (fun _ => rfl)
                clear z0 z1 z2 z3 z4 z5 x0 x1 x2 x3 x4 x5 y0 y1 y2 y3 y4 y5
                have IN : Hid (OnI p Q w ((((((w14.setCell ⟨p.gX, 0, none⟩ (.int .u8 X.k)).setCell ⟨p.gX, 1, none⟩ (.int .u16 X.t)).setCell ⟨p.gX, 2, none⟩ (.int .u16 X.n)).setCell ⟨p.gX, 3, none⟩ (.int .i64 X.p)).setCell ⟨p.gX, 4, none⟩ (.slice qa X.l.length qc)).setCell ⟨p.gX, 5, none⟩ (.slice qb X.m.length qd)) V Cn hvn u13 way' X val acc true rd (k + 1)) := Lib.hid (by
                  have hs := S14.out.cho FF.out hf hq E14.out.1 E14.out.2.1 E14.out.2.2
                  have hfr : Fr (OnM p hvn u13) w14 _ := hf.mono (fun _ _ e => .inr (.inr e))
                  exact OnI.next ⟨hs, A14.out.step S14.out hfr, P12.out, I11.out.f, fun _ => CHO.out, S14.out.frame FN.out F14.out hfr, I11.out.r, I11.out.n⟩)
                generalize ((((((w14.setCell ⟨p.gX, 0, none⟩ (.int .u8 X.k)).setCell ⟨p.gX, 1, none⟩ (.int .u16 X.t)).setCell ⟨p.gX, 2, none⟩ (.int .u16 X.n)).setCell ⟨p.gX, 3, none⟩ (.int .i64 X.p)).setCell ⟨p.gX, 4, none⟩ (.slice qa X.l.length qc)).setCell ⟨p.gX, 5, none⟩ (.slice qb X.m.length qd)) = w15 at *
                clear hq hf
                have hk3 := HN.out
                go_wp2_with fail
                refine HandM.intro (l.length - (k + 1)) ?measure ?mix
                case measure => omega
                case mix => exact hJJ _ _ _ (by kernel_rfl) ⟨k + 1, V, Cn, hvn, way', X, val, acc, true, rd, by omega, rfl, by first | rfl | (show Value.int .i64 _ = _; congr 1), by rfl, by first | rfl | (show Value.int .i64 _ = _; congr 1), IN⟩
end
end Go.Proofs.Ytcjfinabffpgkaa
