/-
  KindAlike: the law walked.
-/
import Derived.Test.YtdaabgnfgdojhaaKindAlikeMod
namespace Go.Proofs.Ytdaabgnfgdojhaa
open Go.RowKit
set_option linter.unusedSimpArgs false
set_option linter.unusedVariables false

theorem CpRow.faults {N : Nat} {R : Nat → Prop} {w : World} {v : Value} {l : List (Txt × Int)} (h : CpRow ftShown 52 2 N R w v l) (h1 : l.length ≤ 1000) (h2 : ∀ x ∈ l, x.1.length ≤ 1000) (P : Nat → Prop) (hN : ∀ k, N ≤ k → P k) : Faults P w l v := by
  refine ⟨h1, h2, ?_⟩
  rcases h.cells with ⟨h3, a, c, h4⟩ | ⟨g, cap, cur, hgN, rfl, hle, hg, hc⟩
  · exact .inl ⟨h3, a, c, h4⟩
  · refine .inr ⟨g, 0, cap, hN g hgN, rfl, hle, fun i x hi => ?_⟩
    obtain ⟨xs, _, hc, hx⟩ := hc i x hi
    have e : xs = [sv x.1, .int .i64 x.2] := hx
    subst e
    have key := fun (j : Nat) (u : Value) (hu : [sv x.1, .int .i64 x.2][j]? = some u) => (cell_of_row w g (i * 2 + j) _ _ _ hg).trans (hc j u hu)
    simp only [Nat.zero_add]
    exact ⟨key 0 _ rfl, key 1 _ rfl⟩

set_option maxRecDepth 100000 in
set_option maxHeartbeats 64000000 in
theorem alike_all (s : KS) (v : Value) (w : World) (k : Int) (k0 : 0 ≤ k) (k1 : k ≤ 255) (h : SShows w s v) :
    Calls Try.prog 6 #[v, .int .u8 k] w fun e w' => e = .returned (.bool true) ∧ Fr (fun _ => False) w w' := by
  have HSH := Lib.hid h
  obtain ⟨av, pv, rfl, hnu, _, hav, hpv⟩ := h
  have hnum8 : (0 : Int) ≤ (s.number : Int) ∧ (s.number : Int) ≤ 65535 := ⟨by omega, by omega⟩
  have HNUM8 := Lib.hid hnum8
  clear hnum8 hnu
  obtain ⟨aa, ac, rfl, hx1⟩ := hav.shape
  obtain ⟨pa, pc, rfl, hx2⟩ := hpv.shape
  clear hav hpv hx1 hx2
  obtain ⟨w0, hw0⟩ : ∃ w0, w0 = w.alloc (.cells #[.int .u16 s.number, .slice aa s.aliases.length ac, .int .u8 s.faults, .slice pa s.procs.length pc] 26) := ⟨_, rfl⟩
  have H0 := Lib.hid (show Fr (fun _ => False) w w0 ∧ w0.heap[w.heap.size]? = some (.cells #[.int .u16 s.number, .slice aa s.aliases.length ac, .int .u8 s.faults, .slice pa s.procs.length pc] 26 (0, 0)) from by rw [hw0]; exact ⟨(Fr.refl _ _).alloc _, heap_alloc_new _ _⟩)
  have haw := awake_any w0
  rw [hw0] at haw
  go_enter Try.func6, Try.ntmps6
  go_wp2_with fail
  refine haw.mono ?_
  rintro e w1 ⟨rfl, f1⟩
  rw [← hw0] at f1
  have H1 := Lib.hid (And.intro (H0.out.1.trans f1 (fun _ _ h => h)) (box_kept H0.out.2 f1 (fun h => h)))
  clear haw f1 hw0
  have r0 := cells_row H1.out.2 0 _ rfl
  have r1 := cells_row H1.out.2 1 _ rfl
  have r2 := cells_row H1.out.2 2 _ rfl
  have r3 := cells_row H1.out.2 3 _ rfl
  simp only [List.getElem_toArray, List.getElem_cons_succ, List.getElem_cons_zero] at r0 r1 r2 r3
  have hli := smallLight_any s _ w1 (HSH.out.fr H1.out.1)
  cases hB : smallE s with
  | false =>
    rw [hB] at hli
    go_wp2_with fail
    refine hli.mono ?_
    rintro e w2 ⟨rfl, f2⟩
    have F2 := Lib.hid f2
    clear f2 hli r0 r1 r2 r3
    go_wp2
    go_ret
    exact ⟨rfl, H1.out.1.trans F2.out (fun _ _ h => h)⟩
  | true =>
    rw [hB] at hli
    have HB := Lib.hid hB
    clear hB
    go_wp2_with fail
    refine hli.mono ?_
    rintro e w2 ⟨rfl, f2⟩
    have H2 := Lib.hid (And.intro (H1.out.1.trans f2 (fun _ _ h => h)) (box_kept H1.out.2 f2 (fun h => h)))
    clear f2 hli r0 r1 r2 r3
    have HT := Lib.hid (fun (wx : World) (f : Fr (fun _ => False) w wx) => table_any s _ wx (HSH.out.fr f) HB.out)
    go_wp2_with fail
    refine wp_region_links (by kernel_rfl) [some 13, some 14, some 15, some 16, some 5, some 6, none, none] rfl (by decide) (by intro d hd; simp at hd ⊢; omega)
      (fun st wx => TwoS w (tableE s) st wx ∧ wx.heap[w.heap.size]? = some (.cells #[.int .u16 s.number, .slice aa s.aliases.length ac, .int .u8 s.faults, .slice pa s.procs.length pc] 26 (0, 0)))
      [.free (.agg #[.int .u16 s.number, .slice aa s.aliases.length ac, .int .u8 s.faults, .slice pa s.procs.length pc]), .link none, .free (.agg #[.int .u16 s.number, .slice aa s.aliases.length ac, .int .u8 s.faults, .slice pa s.procs.length pc]), .link none, .link none, .link none, .link none, .link none]
      (by kernel_rfl) ?h0 ?step ?fin
    case h0 =>
      refine ⟨PhA.two ⟨H2.out.1.drew, fun v h => (by cases h), fun v h => (by cases h), fun v h => (by cases h), fun v h => (by cases h), fun v h => (by cases h)⟩ rfl rfl, H2.out.2⟩
    case step =>
      intro vals
      simp only [frOfU, fillU, List.setIfInBounds_toArray, List.set_cons_succ, List.set_cons_zero]
      repeat' (first | exact AllOps.nil | refine AllOps.cons ?_ ?_)
      all_goals
        intro st wx hS he hu hn K hK
        simp only [Act.put, List.setIfInBounds_toArray, List.set_cons_succ, List.set_cons_zero, List.getD_cons_zero, List.getD_cons_succ] at hK
        simp only [List.mem_cons, List.not_mem_nil, or_false, forall_eq_or_imp, forall_eq, Region.binds, forall_const, mode_gc, Bool.false_eq_true, false_imp_iff, List.getD_cons_zero, List.getD_cons_succ, OpSort.val, OpSort.isLink, Option.some.injEq, forall_eq', reduceCtorEq, implies_true, true_and, and_true] at he
        have c0 := cells_row hS.2 0 _ rfl
        have c1 := cells_row hS.2 1 _ rfl
        have c2 := cells_row hS.2 2 _ rfl
        have c3 := cells_row hS.2 3 _ rfl
        simp only [List.getElem_toArray, List.getElem_cons_succ, List.getElem_cons_zero] at c0 c1 c2 c3
        have HSX := Lib.hid hS
        clear hS
      all_goals first | (clear hu hn; (try simp only [he] at hK ⊢); go_simp; exact hK) | skip
      · have h6 := (hu 6 (by simp) (by kernel_rfl)).2
        have h7 := (hu 7 (by simp) (by kernel_rfl)).2
        have ha := Lib.hid (HSX.out.1.a h6 h7)
        have hsz := lt_of_block HSX.out.2
        clear hu hn
        simp only [he] at hK ⊢
        go_simp
        go_at_call 14
        refine (HT.out wx ha.out.fr).mono ?_
        rintro q1 wa ⟨v', rfl, ht, fa⟩
        exact hK _ _ (fun _ h => by cases h) ⟨PhA.two (ha.out.call1 fa ht hsz) h6 h7, box_kept HSX.out.2 fa (fun h => h)⟩
      · have h6 := (hu 6 (by simp) (by kernel_rfl)).2
        have h7 := (hu 7 (by simp) (by kernel_rfl)).2
        have ha := Lib.hid (HSX.out.1.a h6 h7)
        have hsz := lt_of_block HSX.out.2
        clear hu hn
        simp only [he] at hK ⊢
        go_simp
        go_at_call 14
        refine (HT.out wx ha.out.fr).mono ?_
        rintro q1 wa ⟨v', rfl, ht, fa⟩
        exact hK _ _ (fun _ h => by cases h) ⟨PhA.two (ha.out.call3 fa ht hsz) h6 h7, box_kept HSX.out.2 fa (fun h => h)⟩
      · have h6 := (hu 6 (by simp) (by kernel_rfl)).2
        have h7 := (hu 7 (by simp) (by kernel_rfl)).2
        have ha := Lib.hid (HSX.out.1.a h6 h7)
        have hsz := lt_of_block HSX.out.2
        clear hu hn
        go_simp
        exact hK _ _ (fun _ h => by cases h) ⟨PhA.two (ha.out.alloc4 hsz) h6 h7, box_kept HSX.out.2 ((Fr.refl (fun _ => False) _).alloc _) (fun h => h)⟩
      · have h6 := (hu 6 (by simp) (by kernel_rfl)).2
        have h7 := (hu 7 (by simp) (by kernel_rfl)).2
        have ha := Lib.hid (HSX.out.1.a h6 h7)
        have hsz := lt_of_block HSX.out.2
        clear hu hn
        go_simp
        exact hK _ _ (fun _ h => by cases h) ⟨PhA.two (ha.out.alloc5 hsz) h6 h7, box_kept HSX.out.2 ((Fr.refl (fun _ => False) _).alloc _) (fun h => h)⟩
      · have h7 := (hu 7 (by simp) (by kernel_rfl)).2
        have ha := Lib.hid (HSX.out.1.a hn h7)
        obtain ⟨s4, s1, s3, -, -, -, -, -, s5⟩ := he
        obtain ⟨g5, e4, hg5, hc5⟩ := ha.out.p4 _ s4
        obtain ⟨g6, e5, hg6, hc6⟩ := ha.out.p5 _ s5
        obtain ⟨na, n, m, a1, k1', c1', a2, k2', c2', a3, k3', c3', e1⟩ := (ha.out.t1 _ s1).six
        have HH := Lib.hid (And.intro s1 (And.intro s3 (And.intro (e4 ▸ s4) (And.intro (e5 ▸ s5) (And.intro e1 (And.intro hc5 (And.intro hg5 h7)))))))
        have z0 : wx.frozen? ⟨g5, 0, none⟩ = false := by simp [World.frozen?, hc5]
        have z1 : wx.frozen? ⟨g5, 1, none⟩ = false := by simp [World.frozen?, hc5]
        have z2 : wx.frozen? ⟨g5, 2, none⟩ = false := by simp [World.frozen?, hc5]
        have z3 : wx.frozen? ⟨g5, 3, none⟩ = false := by simp [World.frozen?, hc5]
        have z4 : wx.frozen? ⟨g5, 4, none⟩ = false := by simp [World.frozen?, hc5]
        have z5 : wx.frozen? ⟨g5, 5, none⟩ = false := by simp [World.frozen?, hc5]
        have d0 := cells_row hc5 0 _ rfl
        have d1 := cells_row hc5 1 _ rfl
        have d2 := cells_row hc5 2 _ rfl
        have d3 := cells_row hc5 3 _ rfl
        have d4 := cells_row hc5 4 _ rfl
        have d5 := cells_row hc5 5 _ rfl
        simp only [zero6, List.getElem_toArray, List.getElem_cons_succ, List.getElem_cons_zero] at d0 d1 d2 d3 d4 d5
        unfold ptr at e4
        clear hu hn hc5 hc6 s1 s3 s4 s5 e5
        simp only [e4, e1] at hK ⊢
        go_simp
        exact hK undef _ (fun _ h => by cases h) ⟨PhA.store6 ha.out HH.out.1 HH.out.2.1 HH.out.2.2.1 HH.out.2.2.2.1 HH.out.2.2.2.2.2.2.2 HH.out.2.2.2.2.1 (store_six HH.out.2.2.2.2.2.1) (fr_six _ _ _ _ _ _ _ _), box_kept HSX.out.2 (fr_six _ _ _ _ _ _ _ _) (fun e => by have := HH.out.2.2.2.2.2.2.1; omega)⟩
      · obtain ⟨s5, s3, s6, -⟩ := he
        have hb : PhB w (tableE s) st wx := by
          have h := HSX.out.1
          unfold TwoS at h
          rw [s6, show st 7 = none from hn] at h
          exact h
        have HB0 := Lib.hid hb
        obtain ⟨g5, g6, v3, _, s5', s3', _, hne, hg5, hg6, _, hc6, ht⟩ := hb
        obtain ⟨na, n, m, a1, k1', c1', a2, k2', c2', a3, k3', c3', e1⟩ := ht.six
        have e5 : vals 5 = ptr g6 := Option.some.inj (s5.symm.trans s5')
        have e3 : vals 3 = v3 := Option.some.inj (s3.symm.trans s3')
        have HH := Lib.hid (And.intro s3' (And.intro s5' (And.intro e1 (And.intro hc6 hg6))))
        have z0 : wx.frozen? ⟨g6, 0, none⟩ = false := by simp [World.frozen?, hc6]
        have z1 : wx.frozen? ⟨g6, 1, none⟩ = false := by simp [World.frozen?, hc6]
        have z2 : wx.frozen? ⟨g6, 2, none⟩ = false := by simp [World.frozen?, hc6]
        have z3 : wx.frozen? ⟨g6, 3, none⟩ = false := by simp [World.frozen?, hc6]
        have z4 : wx.frozen? ⟨g6, 4, none⟩ = false := by simp [World.frozen?, hc6]
        have z5 : wx.frozen? ⟨g6, 5, none⟩ = false := by simp [World.frozen?, hc6]
        have d0 := cells_row hc6 0 _ rfl
        have d1 := cells_row hc6 1 _ rfl
        have d2 := cells_row hc6 2 _ rfl
        have d3 := cells_row hc6 3 _ rfl
        have d4 := cells_row hc6 4 _ rfl
        have d5 := cells_row hc6 5 _ rfl
        simp only [zero6, List.getElem_toArray, List.getElem_cons_succ, List.getElem_cons_zero] at d0 d1 d2 d3 d4 d5
        rw [e1] at e3
        unfold ptr at e5
        clear hu hn hc6 s3 s5 s6 s3' s5' ht e1
        simp only [e5, e3] at hK ⊢
        go_simp
        exact hK undef _ (fun _ h => by cases h) ⟨PhB.store7 HB0.out HH.out.1 HH.out.2.1 HH.out.2.2.1 (store_six HH.out.2.2.2.1) (fr_six _ _ _ _ _ _ _ _), box_kept HSX.out.2 (fr_six _ _ _ _ _ _ _ _) (fun e => by have := HH.out.2.2.2.2; omega)⟩
    case fin =>
      intro vals w3 hS hV
      have h2 : ∃ g5 g6, some (vals 4) = some (ptr g5) ∧ some (vals 5) = some (ptr g6) ∧ TwoIn w (tableE s) (tableE s) g5 g6 w3 := hS.1
      obtain ⟨g5, g6, e4, e5, htw⟩ := h2
      have x4 := Option.some.inj e4
      have x5 := Option.some.inj e5
      have HTW := Lib.hid htw
      clear hS hV htw e4 e5
      unfold ptr at x4 x5
      simp only [frOfU, fillU, List.setIfInBounds_toArray, List.set_cons_succ, List.set_cons_zero]
      simp only [Nat.reduceAdd, x4, x5]
      clear x4 x5 HT
      obtain ⟨T, hT⟩ : ∃ T, T = tableE s := ⟨_, rfl⟩
      rw [← hT] at HTW
      have HTE := Lib.hid hT
      clear hT
      obtain ⟨hf, hne, hg5, hg6, ⟨cs5, hc5, ht5⟩, ⟨cs6, hc6, ht6⟩⟩ := HTW.out
      obtain ⟨tv, fv, pv', e6, hnl, hal, hfl, hpl⟩ := ht6
      obtain rfl : cs6 = #[sv T.name, .int .i64 T.number, .int .i64 T.version, tv, fv, pv'] := by simpa using e6
      obtain ⟨ta, tc, ca, rfl, hcal, hone1, hfirst1, hit1⟩ := items_first alShown (by decide) T.types tv hal.items (fun x xs h => alShown_one x xs h)
      obtain ⟨qa, qc, cp, rfl, hcpl, hone3, hfirst3, hit3⟩ := items_first prShown (by decide) T.procs pv' hpl.items (fun x xs h => prShown_one x xs h)
      obtain ⟨fa, fc, rfl, hfs⟩ := hfl.shape
      obtain ⟨N, hN⟩ : ∃ N, N = w3.heap.size := ⟨_, rfl⟩
      have hb1 : T.types.length ≤ 1000 := hal.1
      have hb2 : T.faults.length ≤ 1000 := hfl.1
      have hb3 : T.procs.length ≤ 1000 := hpl.1
      obtain ⟨w4, hw4⟩ : ∃ w4, w4 = w3.alloc (.cells #[] 49) := ⟨_, rfl⟩
      have f34 : Fr (fun _ => False) w3 w4 := by rw [hw4]; exact (Fr.refl _ _).alloc _
      have hg6l := lt_of_block hc6
      have hg5l := lt_of_block hc5
      have H3 := Lib.hid (And.intro hf (And.intro hne (And.intro hg5 (And.intro hg6 (And.intro (And.intro hc5 ht5) (And.intro hc6 (And.intro hfl (And.intro hnl (And.intro f34 (And.intro hg6l hg5l))))))))))
      have HI1 := Lib.hid (And.intro hit1 (And.intro hcal (And.intro hone1 hfirst1)))
      have HI3 := Lib.hid (And.intro hit3 (And.intro hcpl (And.intro hone3 hfirst3)))
      have HSZ := Lib.hid hN
      have d3 := cells_row hc6 3 _ rfl
      have d5 := cells_row hc6 5 _ rfl
      have z3 : w3.frozen? ⟨g6, 3, none⟩ = false := by simp [World.frozen?, hc6]
      simp only [List.getElem_toArray, List.getElem_cons_succ, List.getElem_cons_zero] at d3 d5
      have hemp := empty_row w3 N (by rw [hN]; exact Nat.le_refl _) 49 5
      have HEMP := Lib.hid hemp
      obtain ⟨i0, hi, hz0, hz1, hz2⟩ := info_parts Try.infoAlias
      have hcell : ∀ w', Fr (fun _ => False) w3 w' → (Builtin.firstCells 5 T.types.length (.slice ta T.types.length tc)).run Try.prog w' = .ok ca.toArray w' := fun w' f => hfirst1 w' (fun g o u _ hu => cell_fr (R := fun _ => True) f (fun _ _ h => h) trivial hu)
      have HC := Lib.hid hcell
      clear hf hne hg5 hg6 hc5 ht5 hc6 e6 hal hfl hpl hnl hit1 hcal hone1 hfirst1 hit3 hcpl hone3 hfirst3 hfs hN f34 hemp hcell HTW hw4
      have n6 : g6 ≠ w3.heap.size := by omega
      have n6' : w3.heap.size ≠ g6 := by omega
      clear hg5l
      go_wp2_with (at_builtin; refine wpList_append_sep rfl (.tmp 17) (.tmp 19) 28 28 rfl N 49 i0 (.agg #[.string ByteArray.empty, .int .u8 0, .int .i64 0, .slice none 0 0, .slice none 0 0]) 5 80 Try.underlying28 _ Try.underlying28 (.inr ⟨_, rfl⟩) hi hz0 hz1 hz2 rfl (by decide) (.slice (some ⟨w3.heap.size, 0, none⟩) 0 0) 0 [] rfl ?own _ T.types.length ca rfl (lenOf_slice _ _ _) ?len (HC.out _ ((Fr.refl (fun _ => False) w3).alloc (.cells #[] 49))) (HC.out _ (((Fr.refl (fun _ => False) w3).alloc (.cells #[] 49)).drew)) ?one ?b1 ?b2 ?base ?grow)
      case own => exact HEMP.out
      case len => exact HI1.out.2.1
      case one => exact HI1.out.2.2.1
      case b1 => unfold maxLen; omega
      case b2 => omega
      case base => have := HSZ.out; simp; omega
      case grow =>
        intro v1 w5 hown hg hv0
        have f5 : Fr (fun _ => False) w3 w5 := ((Fr.refl (fun _ => False) w3).alloc (.cells #[] 49)).trans (Fr.of_grown hg) (fun i hi e => by simp [Value.ownBlock] at e; omega)
        have hc1 : CpRow alShown 49 5 N (fun k => (w.heap.size < k ∧ k ≠ g5 ∧ k ≠ g6) ∧ k < w3.heap.size) w5 v1 T.types := by
          refine ⟨ca, by simpa using hown, fun i x hx => ?_⟩
          obtain ⟨xs, q1, q2, q3⟩ := HI1.out.1 i x hx
          exact ⟨xs, q1, q2, alShown.fr (alShown.mono q3 (fun k hk h => ⟨h, hk⟩)) f5 (fun _ _ h => h)⟩
        obtain ⟨ua, uc, rfl⟩ := hc1.slice
        have hc65 := box_kept H3.out.2.2.2.2.2.1 f5 (fun h => h)
        have hw : (w5.setCell ⟨g6, 3, none⟩ (.slice ua T.types.length uc)).heap[g6]? = some (.cells #[sv T.name, .int .i64 T.number, .int .i64 T.version, .slice ua T.types.length uc, .slice fa T.faults.length fc, .slice qa T.procs.length qc] 32 (0, 0)) := setCell_row 3 _ hc65
        have z3' : w5.frozen? ⟨g6, 3, none⟩ = false := by simp [World.frozen?, hc65]
        have d3' := cells_row hc65 3 _ rfl
        simp only [List.getElem_toArray, List.getElem_cons_succ, List.getElem_cons_zero] at d3'
        have H5 := Lib.hid (And.intro f5 (And.intro hc1 hw))
        clear hown hg hv0 f5 hc1 hw hc65
        go_upto_region 7 with fail
        obtain ⟨w6, hw6⟩ : ∃ w6, w6 = w5.setCell ⟨g6, 3, none⟩ (.slice ua T.types.length uc) := ⟨_, rfl⟩
        have f56 : Fr (fun k => k = g6) w5 w6 := by rw [hw6]; exact Fr.set1 (Fr.refl _ _) 3 _
        have low : ∀ k, ((w.heap.size < k ∧ k ≠ g5 ∧ k ≠ g6) ∧ k < w3.heap.size) → ¬ k = g6 := fun k h => h.1.2.2
        have f36 : Fr (fun k => k = g6) w3 w6 := (H5.out.1.mono (fun _ _ h => absurd h (fun h => h))).trans f56 (fun _ _ h => h)
        have hc1 := H5.out.2.1.fr f56 low (fun k hk e => by have := (H5.out.2.1.own k hk); have := HSZ.out; omega)
        have hc66 := H5.out.2.2
        rw [← hw6] at hc66 ⊢
        have hsz6 : w3.heap.size ≤ w6.heap.size := f36.size
        have hg66 := lt_of_block hc66
        have m6 : g6 ≠ w6.heap.size := by omega
        have m6' : w6.heap.size ≠ g6 := by omega
        have d5' := cells_row hc66 5 _ rfl
        have z5 : w6.frozen? ⟨g6, 5, none⟩ = false := by simp [World.frozen?, hc66]
        simp only [List.getElem_toArray, List.getElem_cons_succ, List.getElem_cons_zero] at d5'
        have H6 := Lib.hid (And.intro f36 (And.intro hc1 hc66))
        have HEMP3 := Lib.hid (empty_row w6 N (by rw [HSZ.out]; exact hsz6) 41 12)
        have hcell3 : ∀ w', Fr (fun k => k = g6) w3 w' → (Builtin.firstCells 12 T.procs.length (.slice qa T.procs.length qc)).run Try.prog w' = .ok cp.toArray w' := fun w' f => HI3.out.2.2.2 w' (fun g o u hR hu => cell_fr (R := fun k => w.heap.size < k ∧ k ≠ g5 ∧ k ≠ g6) f (fun k hk e => hk.2.2 e) hR hu)
        have HC3 := Lib.hid hcell3
        obtain ⟨i3, hi3, hz3, hz4, hz5⟩ := info_parts Try.infoProc
        clear f56 f36 hc1 hc66 hcell3 hw6 low z3' d3' d3 d5 n6 n6' z3
        go_wp2_with (at_builtin; refine wpList_append_sep rfl (.tmp 22) (.tmp 24) 30 30 rfl N 41 i3 (.agg #[.string ByteArray.empty, .int .i64 0, .int .u8 0, .int .i64 0, .slice none 0 0, .slice none 0 0, .int .u8 0, .int .i64 0, .slice none 0 0, .slice none 0 0, .int .u8 0, .int .i64 0]) 12 168 Try.underlying30 _ Try.underlying30 (.inr ⟨_, rfl⟩) hi3 hz3 hz4 hz5 rfl (by decide) (.slice (some ⟨w6.heap.size, 0, none⟩) 0 0) 0 [] rfl ?own _ T.procs.length cp rfl (lenOf_slice _ _ _) ?len (HC3.out _ (H6.out.1.alloc (.cells #[] 41))) (HC3.out _ ((H6.out.1.alloc (.cells #[] 41)).drew)) ?one ?b1 ?b2 ?base ?grow)
        case own => exact HEMP3.out
        case len => exact HI3.out.2.1
        case one => exact HI3.out.2.2.1
        case b1 => unfold maxLen; omega
        case b2 => omega
        case base => have := HSZ.out; simp; omega
        case grow =>
          intro v3 w7 hown hg hv0
          have f7 : Fr (fun _ => False) w6 w7 := ((Fr.refl (fun _ => False) w6).alloc (.cells #[] 41)).trans (Fr.of_grown hg) (fun i hi e => by simp [Value.ownBlock] at e; omega)
          have f37 : Fr (fun k => k = g6) w3 w7 := H6.out.1.trans f7 (fun _ _ h => absurd h (fun h => h))
          have low : ∀ k, ((w.heap.size < k ∧ k ≠ g5 ∧ k ≠ g6) ∧ k < w3.heap.size) → ¬ k = g6 := fun k h => h.1.2.2
          have hc3 : CpRow prShown 41 12 N (fun k => (w.heap.size < k ∧ k ≠ g5 ∧ k ≠ g6) ∧ k < w3.heap.size) w7 v3 T.procs := by
            refine ⟨cp, by simpa using hown, fun i x hx => ?_⟩
            obtain ⟨xs, q1, q2, q3⟩ := HI3.out.1 i x hx
            exact ⟨xs, q1, q2, prShown.fr (prShown.mono q3 (fun k hk h => ⟨h, hk⟩)) f37 low⟩
          obtain ⟨va, vc, rfl⟩ := hc3.slice
          have hc67 := box_kept H6.out.2.2 f7 (fun h => h)
          have z5' : w7.frozen? ⟨g6, 5, none⟩ = false := by simp [World.frozen?, hc67]
          have d5'' := cells_row hc67 5 _ rfl
          simp only [List.getElem_toArray, List.getElem_cons_succ, List.getElem_cons_zero] at d5''
          have hap : ∀ k, (Value.slice ua T.types.length uc).ownBlock = some k → (Value.slice va T.procs.length vc).ownBlock ≠ some k := fun k hk e => by
            have h1 := (H6.out.2.1.own k hk).2
            rcases hv0 with e' | e'
            · rw [e'] at e
              simp [Value.ownBlock] at e
              omega
            · rw [e'] at e
              simp at e
              omega
          have HAP := Lib.hid hap
          clear hap
          have H7 := Lib.hid (And.intro f37 (And.intro hc3 (And.intro hc67 (H6.out.2.1.fr f7 (fun _ _ h => h) (fun _ _ h => h)))))
          clear hown hg hv0 f7 f37 hc3 hc67 low z5 d5'
          go_upto_region 8 with fail
          obtain ⟨w8, hw8⟩ : ∃ w8, w8 = w7.setCell ⟨g6, 5, none⟩ (.slice va T.procs.length vc) := ⟨_, rfl⟩
          have hU : UState w T g5 g6 N (.slice ua T.types.length uc) (.slice fa T.faults.length fc) (.slice va T.procs.length vc) w8 := by
            have low : ∀ k, ((w.heap.size < k ∧ k ≠ g5 ∧ k ≠ g6) ∧ k < w3.heap.size) → ¬ k = g6 := fun k h => h.1.2.2
            have f78 : Fr (fun k => k = g6) w7 w8 := by rw [hw8]; exact Fr.set1 (Fr.refl _ _) 5 _
            have f38 : Fr (fun k => k = g6) w3 w8 := H7.out.1.trans f78 (fun _ _ h => h)
            have hN := HSZ.out
            have hg6N : g6 < N := by omega
            have low' : ∀ k, (w.heap.size < k ∧ k ≠ g5 ∧ k ≠ g6) → ¬ k = g6 := fun k h => h.2.2
            refine ⟨H3.out.1.trans f38 (fun i hi e => by have := H3.out.2.2.2.1; omega), H3.out.2.1, H3.out.2.2.1, H3.out.2.2.2.1, hg6N, ?_, by rw [hw8]; exact setCell_row 5 _ H7.out.2.2.1, ?_, ?_, ?_, by rw [HTE.out]; exact (by decide : faceT.length ≤ 999), ?_⟩
            · obtain ⟨q1, q2⟩ := H3.out.2.2.2.2.1
              refine ⟨cs5, box_kept q1 f38 H3.out.2.1, (q2.mono (S := fun k => (w.heap.size < k ∧ k ≠ g5 ∧ k ≠ g6) ∧ k < w3.heap.size) (fun k hk h => ⟨h, hk⟩)).fr f38 low |>.mono (fun k _ h => ⟨h.1, by rw [hN]; exact h.2⟩), ?_⟩
              rw [hN]
              exact lt_of_block q1
            · exact (H7.out.2.2.2.fr f78 low (fun k hk e => by have := (H7.out.2.2.2.own k hk).1; omega)).monoR (fun k h => ⟨h.1, by rw [hN]; exact h.2⟩)
            · exact ((H3.out.2.2.2.2.2.2.1.mono (S := fun k => (w.heap.size < k ∧ k ≠ g5 ∧ k ≠ g6) ∧ k < w3.heap.size) (fun k hk h => ⟨h, hk⟩)).fr f38 low).mono (fun k _ h => ⟨h.1, by rw [hN]; exact h.2⟩)
            · exact (H7.out.2.1.fr f78 low (fun k hk e => by have := (H7.out.2.1.own k hk).1; omega)).monoR (fun k h => ⟨h.1, by rw [hN]; exact h.2⟩)
            · exact ⟨HAP.out, by rw [HTE.out]; exact fun x hx => (aliasesE_short s _ x hx), by rw [HTE.out]; exact fun x hx => procsE_short s _ _ x hx, by rw [HTE.out]; exact fun x hx => (faultsE_short _ x hx)⟩
          have HU := Lib.hid hU
          have HN8 := Lib.hid (show N ≤ w8.heap.size from by
            rw [hw8]
            have q1 := (Fr.set1 (Fr.refl (fun k => k = g6) w7) 5 (.slice va T.procs.length vc)).size
            have q2 := H7.out.1.size
            have q3 := HSZ.out
            omega)
          rw [← hw8]
          clear hU hw8 z5' d5'' hsz6 hg66 hg6l m6 m6'
          obtain ⟨hf8, hne8, hg58, hg68, hg6N, ⟨cs, hc58, ht58, hg5N⟩, hc68, hct, hft, hpr, hnl8, hap8, hsh1, hsh2, hsh3⟩ := HU.out
          obtain ⟨nb, n', m', a1, l1, c1', a2, l2, c2', a3, l3, c3', e5⟩ := ht58.six
          obtain rfl : cs = #[.string nb, .int .i64 n', .int .i64 m', .slice a1 l1 c1', .slice a2 l2 c2', .slice a3 l3 c3'] := by simpa using e5
          have hok : okS s := SShows.ok HSH.out
          have HREFL := Lib.hid (show alikeE T T = true from by rw [HTE.out]; exact alikeE_refl _ (fun x hx => (tableE_types hok x hx).1) (fun p hp => (tableE_procs hok p hp).1))
          have HS1 := Lib.hid (show ∀ x ∈ T.types, sz x.2 ≤ 100000 from by rw [HTE.out]; exact fun x hx => Nat.le_trans (tableE_types hok x hx).2 (by decide))
          have HS2 := Lib.hid (show ∀ x ∈ T.procs, sz x.takes ≤ 100000 ∧ sz x.answers ≤ 100000 from by rw [HTE.out]; exact fun x hx => ⟨Nat.le_trans (tableE_procs hok x hx).2.1 (by decide), Nat.le_trans (tableE_procs hok x hx).2.2 (by decide)⟩)
          have HNUM := Lib.hid (show 0 ≤ T.number ∧ T.number ≤ 65535 from by rw [HTE.out]; exact HNUM8.out)
          have H58 := Lib.hid (And.intro hc58 (ht58.mono (S := fun k => k ≠ g6) (fun _ _ h => h.1.2.2)))
          have HA := Lib.hid (hct.aliases hb1 hsh1 (fun k => k ≠ g6) (fun k h => h.1.2.2) (fun k h e => by omega))
          have HF := Lib.hid (hft.mono (S := fun k => k ≠ g6) (fun _ _ h => h.1.2.2))
          have HP := Lib.hid (hpr.procs hb3 hsh2 (fun k => k ≠ g6) (fun k h => h.1.2.2) (fun k h e => by omega))
          have H68 := Lib.hid (And.intro hc68 hnl8)
          have x0 := cells_row hc58 0 _ rfl
          have x1 := cells_row hc58 1 _ rfl
          have x2 := cells_row hc58 2 _ rfl
          have x3 := cells_row hc58 3 _ rfl
          have x4 := cells_row hc58 4 _ rfl
          have x5 := cells_row hc58 5 _ rfl
          unfold sv at hc68
          have y0 := cells_row hc68 0 _ rfl
          have y1 := cells_row hc68 1 _ rfl
          have y2 := cells_row hc68 2 _ rfl
          have y3 := cells_row hc68 3 _ rfl
          have y4 := cells_row hc68 4 _ rfl
          have y5 := cells_row hc68 5 _ rfl
          simp only [List.getElem_toArray, List.getElem_cons_succ, List.getElem_cons_zero] at x0 x1 x2 x3 x4 x5 y0 y1 y2 y3 y4 y5
          have HRAW := Lib.hid (And.intro hct (And.intro hft (And.intro hpr (And.intro ht58 (And.intro hg5N (And.intro hap8 (And.intro hsh1 (And.intro hsh2 (And.intro hsh3 hg6N)))))))))
          have HM := Lib.hid (show T.types.length ≤ 4 ∧ T.procs.length ≤ 4 from by rw [HTE.out]; exact ⟨by simp [tableE, aliasesE]; omega, by simp [tableE, procsE]; omega⟩)
          have HF8 := Lib.hid hf8
          have HNE := Lib.hid (And.intro hne8 (And.intro hg58 hg68))
          clear hf8 hc58 ht58 hc68 hct hft hpr hnl8 hap8 hsh1 hsh2 hsh3 e5 hok hg6N hg5N
          rcases (by omega : k % 9 = 0 ∨ k % 9 = 1 ∨ k % 9 = 2 ∨ k % 9 = 3 ∨ k % 9 = 4 ∨ k % 9 = 5 ∨ k % 9 = 6 ∨ k % 9 = 7 ∨ k % 9 = 8) with h9 | h9 | h9 | h9 | h9 | h9 | h9 | h9 | h9
          · have hne := HNE.out.1
            have hne' : g6 ≠ g5 := fun e => HNE.out.1 e.symm
            have z0 : w8.frozen? ⟨g6, 0, none⟩ = false := by simp [World.frozen?, H68.out.1]
            have FS := Lib.hid (show Fr (fun k => k = g6) w8 (w8.setCell ⟨g6, 0, none⟩ (.string ⟨(T.name ++ [120]).toArray⟩)) from Fr.set1 (Fr.refl _ _) 0 _)
            have hadd : ∀ w, (Op.stringOp .add ⟨T.name.toArray⟩ ⟨#[120]⟩).run Try.prog w = .ok (.string ⟨(T.name ++ [120]).toArray⟩) w := fun w => by
              have e : (⟨T.name.toArray⟩ : ByteArray) ++ ⟨#[120]⟩ = ⟨(T.name ++ [120]).toArray⟩ := ByteArray.ext (by simp)
              rw [← e]
              exact run_string_add_sum w _ _ (by have := H68.out.2; simp [ByteArray.size]; omega)
            have t1 : Tabled (fun k => k ≠ g6) (w8.setCell ⟨g6, 0, none⟩ (.string ⟨(T.name ++ [120]).toArray⟩)) T (.agg #[.string nb, .int .i64 n', .int .i64 m', .slice a1 l1 c1', .slice a2 l2 c2', .slice a3 l3 c3']) := H58.out.2.fr FS.out (fun k hk e => hk e)
            have t2 : Tabled (fun k => k ≠ g6) (w8.setCell ⟨g6, 0, none⟩ (.string ⟨(T.name ++ [120]).toArray⟩)) ({ T with name := T.name ++ [120] }) (.agg #[(.string ⟨(T.name ++ [120]).toArray⟩), (.int .i64 T.number), (.int .i64 T.version), (.slice ua T.types.length uc), (.slice fa T.faults.length fc), (.slice va T.procs.length vc)]) := ⟨_, _, _, rfl, by have := H68.out.2; show (T.name ++ [120]).length ≤ 1000; simp; omega, HA.out.fr FS.out (fun k hk e => hk e), HF.out.fr FS.out (fun k hk e => hk e), HP.out.fr FS.out (fun k hk e => hk e)⟩
            have s1 : ∀ x ∈ ({ T with name := T.name ++ [120] }).types, sz x.2 ≤ 100000 := HS1.out
            have s2 : ∀ x ∈ ({ T with name := T.name ++ [120] }).procs, sz x.takes ≤ 100000 ∧ sz x.answers ≤ 100000 := HS2.out
            have q1 := alike_any (fun k => k ≠ g6) T ({ T with name := T.name ++ [120] }) _ _ (w8.setCell ⟨g6, 0, none⟩ (.string ⟨(T.name ++ [120]).toArray⟩)) t1 t2 HS1.out HS2.out
            have Q2 := Lib.hid (fun (wx : World) (f : Fr (fun _ => False) (w8.setCell ⟨g6, 0, none⟩ (.string ⟨(T.name ++ [120]).toArray⟩)) wx) => alike_any (fun k => k ≠ g6) ({ T with name := T.name ++ [120] }) T _ _ wx (t2.fr f (fun _ _ h => h)) (t1.fr f (fun _ _ h => h)) s1 s2)
            rw [(show alikeE T ({ T with name := T.name ++ [120] }) = false from alikeE_name (by simp))] at q1
            have E2 := Lib.hid ((show alikeE ({ T with name := T.name ++ [120] }) T = false from alikeE_name (by simp)))
            have HCC := Lib.hid (And.intro (box_kept H58.out.1 FS.out HNE.out.1) (setCell_row 0 (.string ⟨(T.name ++ [120]).toArray⟩) H68.out.1))
            clear t1 t2 s1 s2
            go_wp2_with fail
            refine q1.mono ?_
            rintro e w9 ⟨rfl, f9⟩
            have p5 := box_kept HCC.out.1 f9 (fun h => h)
            have p6 := box_kept HCC.out.2 f9 (fun h => h)
            have x0 := cells_row p5 0 _ rfl
            have x1 := cells_row p5 1 _ rfl
            have x2 := cells_row p5 2 _ rfl
            have x3 := cells_row p5 3 _ rfl
            have x4 := cells_row p5 4 _ rfl
            have x5 := cells_row p5 5 _ rfl
            have y0 := cells_row p6 0 _ rfl
            have y1 := cells_row p6 1 _ rfl
            have y2 := cells_row p6 2 _ rfl
            have y3 := cells_row p6 3 _ rfl
            have y4 := cells_row p6 4 _ rfl
            have y5 := cells_row p6 5 _ rfl
            simp only [List.getElem_toArray, List.getElem_cons_succ, List.getElem_cons_zero] at x0 x1 x2 x3 x4 x5 y0 y1 y2 y3 y4 y5
            have q2 := Q2.out w9 f9
            rw [E2.out] at q2
            have F9 := Lib.hid f9
            clear p5 p6 f9 q1
            go_wp2_with fail
            refine q2.mono ?_
            rintro e w10 ⟨rfl, f10⟩
            have F10 := Lib.hid f10
            clear f10 q2 x0 x1 x2 x3 x4 x5 y0 y1 y2 y3 y4 y5
            go_wp2
            go_ret
            exact ⟨rfl, (HF8.out.trans FS.out (fun i hi e => by have := HNE.out.2.2; omega)).trans (F9.out.trans F10.out (fun _ _ h => h)) (fun _ _ h => h)⟩
          · have hne := HNE.out.1
            have hne' : g6 ≠ g5 := fun e => HNE.out.1 e.symm
            have z1 : w8.frozen? ⟨g6, 1, none⟩ = false := by simp [World.frozen?, H68.out.1]
            have FS := Lib.hid (show Fr (fun k => k = g6) w8 (w8.setCell ⟨g6, 1, none⟩ (.int .i64 (T.number + 1))) from Fr.set1 (Fr.refl _ _) 1 _)
            have u1 : IntKind.i64.wrap (T.number + 1) = T.number + 1 := IntWalk.i64_in _ (by have := HNUM.out; omega)
            have u2 : wrap64 (T.number + 1) = T.number + 1 := IntWalk.wrap64_in _ (by have := HNUM.out; omega)
            have t1 : Tabled (fun k => k ≠ g6) (w8.setCell ⟨g6, 1, none⟩ (.int .i64 (T.number + 1))) T (.agg #[.string nb, .int .i64 n', .int .i64 m', .slice a1 l1 c1', .slice a2 l2 c2', .slice a3 l3 c3']) := H58.out.2.fr FS.out (fun k hk e => hk e)
            have t2 : Tabled (fun k => k ≠ g6) (w8.setCell ⟨g6, 1, none⟩ (.int .i64 (T.number + 1))) ({ T with number := T.number + 1 }) (.agg #[(.string ⟨T.name.toArray⟩), (.int .i64 (T.number + 1)), (.int .i64 T.version), (.slice ua T.types.length uc), (.slice fa T.faults.length fc), (.slice va T.procs.length vc)]) := ⟨_, _, _, rfl, Nat.le_trans H68.out.2 (by decide), HA.out.fr FS.out (fun k hk e => hk e), HF.out.fr FS.out (fun k hk e => hk e), HP.out.fr FS.out (fun k hk e => hk e)⟩
            have s1 : ∀ x ∈ ({ T with number := T.number + 1 }).types, sz x.2 ≤ 100000 := HS1.out
            have s2 : ∀ x ∈ ({ T with number := T.number + 1 }).procs, sz x.takes ≤ 100000 ∧ sz x.answers ≤ 100000 := HS2.out
            have q1 := alike_any (fun k => k ≠ g6) T ({ T with number := T.number + 1 }) _ _ (w8.setCell ⟨g6, 1, none⟩ (.int .i64 (T.number + 1))) t1 t2 HS1.out HS2.out
            have Q2 := Lib.hid (fun (wx : World) (f : Fr (fun _ => False) (w8.setCell ⟨g6, 1, none⟩ (.int .i64 (T.number + 1))) wx) => alike_any (fun k => k ≠ g6) ({ T with number := T.number + 1 }) T _ _ wx (t2.fr f (fun _ _ h => h)) (t1.fr f (fun _ _ h => h)) s1 s2)
            rw [(show alikeE T ({ T with number := T.number + 1 }) = false from alikeE_number (show T.number ≠ T.number + 1 from by omega))] at q1
            have E2 := Lib.hid ((show alikeE ({ T with number := T.number + 1 }) T = false from alikeE_number (show T.number + 1 ≠ T.number from by omega)))
            have HCC := Lib.hid (And.intro (box_kept H58.out.1 FS.out HNE.out.1) (setCell_row 1 (.int .i64 (T.number + 1)) H68.out.1))
            clear t1 t2 s1 s2
            go_wp2_with fail
            refine q1.mono ?_
            rintro e w9 ⟨rfl, f9⟩
            have p5 := box_kept HCC.out.1 f9 (fun h => h)
            have p6 := box_kept HCC.out.2 f9 (fun h => h)
            have x0 := cells_row p5 0 _ rfl
            have x1 := cells_row p5 1 _ rfl
            have x2 := cells_row p5 2 _ rfl
            have x3 := cells_row p5 3 _ rfl
            have x4 := cells_row p5 4 _ rfl
            have x5 := cells_row p5 5 _ rfl
            have y0 := cells_row p6 0 _ rfl
            have y1 := cells_row p6 1 _ rfl
            have y2 := cells_row p6 2 _ rfl
            have y3 := cells_row p6 3 _ rfl
            have y4 := cells_row p6 4 _ rfl
            have y5 := cells_row p6 5 _ rfl
            simp only [List.getElem_toArray, List.getElem_cons_succ, List.getElem_cons_zero] at x0 x1 x2 x3 x4 x5 y0 y1 y2 y3 y4 y5
            have q2 := Q2.out w9 f9
            rw [E2.out] at q2
            have F9 := Lib.hid f9
            clear p5 p6 f9 q1
            go_wp2_with fail
            refine q2.mono ?_
            rintro e w10 ⟨rfl, f10⟩
            have F10 := Lib.hid f10
            clear f10 q2 x0 x1 x2 x3 x4 x5 y0 y1 y2 y3 y4 y5
            go_wp2
            go_ret
            exact ⟨rfl, (HF8.out.trans FS.out (fun i hi e => by have := HNE.out.2.2; omega)).trans (F9.out.trans F10.out (fun _ _ h => h)) (fun _ _ h => h)⟩
          · have hne := HNE.out.1
            have hne' : g6 ≠ g5 := fun e => HNE.out.1 e.symm
            obtain ⟨cs, hown, hit⟩ := HRAW.out.1
            have HOWN := Lib.hid hown
            have HIT := Lib.hid hit
            have hg68 := lt_of_block H68.out.1
            have hg58 := lt_of_block H58.out.1
            have m1 : g6 ≠ w8.heap.size := by omega
            have m2 : w8.heap.size ≠ g6 := by omega
            have m3 : g5 ≠ w8.heap.size := by omega
            have m4 : w8.heap.size ≠ g5 := by omega
            obtain ⟨i8, hi8, hy0, hy1, hy2⟩ := info_parts Try.infoAlias
            clear hown hit
            go_wp2_with (at_builtin; refine wpList_append_sep rfl (.tmp 44) (.tmp 46) 28 28 rfl N 49 i8 (.agg #[.string ByteArray.empty, .int .u8 0, .int .i64 0, .slice none 0 0, .slice none 0 0]) 5 80 Try.underlying28 _ Try.underlying28 (.inr ⟨_, rfl⟩) hi8 hy0 hy1 hy2 rfl (by decide) (.slice ua T.types.length uc) T.types.length cs rfl ?own _ 1 [.string ⟨#[120]⟩, .int .u8 0, .int .i64 0, .slice none 0 0, .slice none 0 0] rfl (lenOf_slice _ _ _) rfl (first_one 1 5 rfl (heap_alloc_new _ _)) (first_one 1 5 rfl (by exact heap_alloc_new _ _)) ?one ?b1 ?b2 ?base ?grow)
            case own => exact World.ownsRow.alloc HOWN.out _
            case one => intro u hu; simp only [List.mem_cons, List.not_mem_nil, or_false] at hu; rcases hu with rfl | rfl | rfl | rfl | rfl <;> rfl
            case b1 => unfold maxLen; omega
            case b2 => omega
            case base => have := HN8.out; simp; omega
            case grow =>
            intro v' w11 hown hg hv0
            have f11 : Fr (fun k => (.slice ua T.types.length uc : Value).ownBlock = some k) w8 w11 := ((Fr.refl _ _).alloc _).trans ((Fr.of_grown hg).mono (fun _ _ e => e.symm)) (fun i hi e => e)
            have hc2 : CpRow alShown 49 5 N (Low w g5 g6 N) w11 v' (T.types ++ [([120], zeroT)]) := CpRow.push HOWN.out.1 (fun k h => h.2) (fun k hk => (World.ownsRow.lt HOWN.out k hk).1) HIT.out hown f11 ⟨_, _, _, _, rfl, zero_shows _ _⟩ rfl
            obtain ⟨ra, rn, rc, rfl⟩ : ∃ a n c, v' = .slice a n c := by obtain ⟨a, c, e⟩ := hc2.slice; exact ⟨a, _, c, e⟩
            have own5 : ∀ k, (.slice ua T.types.length uc : Value).ownBlock = some k → N ≤ k := fun k hk => (World.ownsRow.lt HOWN.out k hk).1
            have hNs := HRAW.out.2.2.2.2
            have hc61 := box_kept H68.out.1 f11 (fun e => by have := own5 _ e; have := hNs.2.2.2.2.2; omega)
            have hc51 := box_kept H58.out.1 f11 (fun e => by have := own5 _ e; have := hNs.1; omega)
            have FW := Lib.hid (show Fr (fun k => (.slice ua T.types.length uc : Value).ownBlock = some k ∨ k = g6) w8 (w11.setCell ⟨g6, 3, none⟩ (.slice ra rn rc)) from (f11.mono (fun _ _ e => .inl e)).trans (Fr.set1 (Fr.refl (fun k => k = g6) w11) 3 _) (fun _ _ e => .inr e))
            have fset : Fr (fun k => k = g6) w11 (w11.setCell ⟨g6, 3, none⟩ (.slice ra rn rc)) := Fr.set1 (Fr.refl _ _) 3 _
            have lowW : ∀ k, Low w g5 g6 N k → ¬ ((.slice ua T.types.length uc : Value).ownBlock = some k ∨ k = g6) := fun k hk e => by
              rcases e with e | e
              · have := own5 k e; have := hk.2; omega
              · exact hk.1.2.2 e
            have HT1 := Lib.hid (show Tabled (fun k => k ≠ g6) (w11.setCell ⟨g6, 3, none⟩ (.slice ra rn rc)) T (.agg #[.string nb, .int .i64 n', .int .i64 m', .slice a1 l1 c1', .slice a2 l2 c2', .slice a3 l3 c3']) from (HRAW.out.2.2.2.1.fr FW.out lowW).mono (fun _ _ h => h.1.2.2))
            have HT2 := Lib.hid (show Tabled (fun k => k ≠ g6) (w11.setCell ⟨g6, 3, none⟩ (.slice ra rn rc)) ({ T with types := T.types ++ [([120], zeroT)] }) (.agg #[(.string ⟨T.name.toArray⟩), (.int .i64 T.number), (.int .i64 T.version), (.slice ra rn rc), (.slice fa T.faults.length fc), (.slice va T.procs.length vc)]) from ⟨_, _, _, rfl, Nat.le_trans H68.out.2 (by decide), ((hc2.fr fset (fun k h => h.1.2.2) (fun k hk e => by have := (hc2.own k hk).1; have := hNs.2.2.2.2.2; omega)).aliases (by simp; have := HM.out; omega) (fun x hx => by rcases List.mem_append.1 hx with h | h; exact HRAW.out.2.2.2.2.2.2.1 x h; simp at h; subst h; decide) (fun k => k ≠ g6) (fun k h => h.1.2.2) (fun k h e => by have := hNs.2.2.2.2.2; omega)), (HRAW.out.2.1.fr FW.out lowW).mono (fun _ _ h => h.1.2.2), ((HRAW.out.2.2.1.fr FW.out lowW (fun k hk e => by rcases e with e | e; exact HRAW.out.2.2.2.2.2.1 k e hk; have := (HRAW.out.2.2.1.own k hk).1; have := hNs.2.2.2.2.2; omega)).procs hb3 HRAW.out.2.2.2.2.2.2.2.1 (fun k => k ≠ g6) (fun k h => h.1.2.2) (fun k h e => by have := hNs.2.2.2.2.2; omega))⟩)
            have H51 := Lib.hid (box_kept hc51 fset (fun e => HNE.out.1 e))
            have H61 := Lib.hid (show ((w11.setCell ⟨g6, 3, none⟩ (.slice ra rn rc))).heap[g6]? = some (.cells #[(.string ⟨T.name.toArray⟩), (.int .i64 T.number), (.int .i64 T.version), (.slice ra rn rc), (.slice fa T.faults.length fc), (.slice va T.procs.length vc)] 32 (0, 0)) from setCell_row 3 _ hc61)
            clear x0 x1 x2 x3 x4 x5 y0 y1 y2 y3 y4 y5
            have x0 := cells_row hc51 0 _ rfl
            have x1 := cells_row hc51 1 _ rfl
            have x2 := cells_row hc51 2 _ rfl
            have x3 := cells_row hc51 3 _ rfl
            have x4 := cells_row hc51 4 _ rfl
            have x5 := cells_row hc51 5 _ rfl
            have z3 : w11.frozen? ⟨g6, 3, none⟩ = false := by simp [World.frozen?, hc61]
            unfold sv at hc61
            have y0 := cells_row hc61 0 _ rfl
            have y1 := cells_row hc61 1 _ rfl
            have y2 := cells_row hc61 2 _ rfl
            have y3 := cells_row hc61 3 _ rfl
            have y4 := cells_row hc61 4 _ rfl
            have y5 := cells_row hc61 5 _ rfl
            simp only [List.getElem_toArray, List.getElem_cons_succ, List.getElem_cons_zero] at x0 x1 x2 x3 x4 x5 y0 y1 y2 y3 y4 y5
            clear hown hg hv0 f11 hc2 own5 hNs hc61 hc51 fset lowW m1 m2 m3 m4
            have t1 : Tabled (fun k => k ≠ g6) (w11.setCell ⟨g6, 3, none⟩ (.slice ra rn rc)) T (.agg #[.string nb, .int .i64 n', .int .i64 m', .slice a1 l1 c1', .slice a2 l2 c2', .slice a3 l3 c3']) := HT1.out
            have t2 : Tabled (fun k => k ≠ g6) (w11.setCell ⟨g6, 3, none⟩ (.slice ra rn rc)) ({ T with types := T.types ++ [([120], zeroT)] }) (.agg #[(.string ⟨T.name.toArray⟩), (.int .i64 T.number), (.int .i64 T.version), (.slice ra rn rc), (.slice fa T.faults.length fc), (.slice va T.procs.length vc)]) := HT2.out
            have s1 : ∀ x ∈ ({ T with types := T.types ++ [([120], zeroT)] }).types, sz x.2 ≤ 100000 := (fun x hx => by rcases List.mem_append.1 hx with h | h; exact HS1.out x h; simp at h; subst h; decide)
            have s2 : ∀ x ∈ ({ T with types := T.types ++ [([120], zeroT)] }).procs, sz x.takes ≤ 100000 ∧ sz x.answers ≤ 100000 := HS2.out
            have q1 := alike_any (fun k => k ≠ g6) T ({ T with types := T.types ++ [([120], zeroT)] }) _ _ (w11.setCell ⟨g6, 3, none⟩ (.slice ra rn rc)) t1 t2 HS1.out HS2.out
            have Q2 := Lib.hid (fun (wx : World) (f : Fr (fun _ => False) (w11.setCell ⟨g6, 3, none⟩ (.slice ra rn rc)) wx) => alike_any (fun k => k ≠ g6) ({ T with types := T.types ++ [([120], zeroT)] }) T _ _ wx (t2.fr f (fun _ _ h => h)) (t1.fr f (fun _ _ h => h)) s1 s2)
            rw [(show alikeE T ({ T with types := T.types ++ [([120], zeroT)] }) = false from alikeE_types (eqBy_len _ _ _ _ (by simp)))] at q1
            have E2 := Lib.hid ((show alikeE ({ T with types := T.types ++ [([120], zeroT)] }) T = false from alikeE_types (eqBy_len _ _ _ _ (by simp))))
            have HCC := Lib.hid (And.intro H51.out H61.out)
            clear t1 t2 s1 s2
            go_wp2_with fail
            refine q1.mono ?_
            rintro e w9 ⟨rfl, f9⟩
            have p5 := box_kept HCC.out.1 f9 (fun h => h)
            have p6 := box_kept HCC.out.2 f9 (fun h => h)
            have x0 := cells_row p5 0 _ rfl
            have x1 := cells_row p5 1 _ rfl
            have x2 := cells_row p5 2 _ rfl
            have x3 := cells_row p5 3 _ rfl
            have x4 := cells_row p5 4 _ rfl
            have x5 := cells_row p5 5 _ rfl
            have y0 := cells_row p6 0 _ rfl
            have y1 := cells_row p6 1 _ rfl
            have y2 := cells_row p6 2 _ rfl
            have y3 := cells_row p6 3 _ rfl
            have y4 := cells_row p6 4 _ rfl
            have y5 := cells_row p6 5 _ rfl
            simp only [List.getElem_toArray, List.getElem_cons_succ, List.getElem_cons_zero] at x0 x1 x2 x3 x4 x5 y0 y1 y2 y3 y4 y5
            have q2 := Q2.out w9 f9
            rw [E2.out] at q2
            have F9 := Lib.hid f9
            clear p5 p6 f9 q1
            go_wp2_with fail
            refine q2.mono ?_
            rintro e w10 ⟨rfl, f10⟩
            have F10 := Lib.hid f10
            clear f10 q2 x0 x1 x2 x3 x4 x5 y0 y1 y2 y3 y4 y5
            go_wp2
            go_ret
            exact ⟨rfl, (HF8.out.trans FW.out (fun i hi e => by rcases e with e | e; exact absurd (HRAW.out.2.2.2.2.2.2.2.2.2) (by have := (World.ownsRow.lt HOWN.out i e).1; have := HNE.out.2.2; have := HN8.out; omega); have := HNE.out.2.2; omega)).trans (F9.out.trans F10.out (fun _ _ h => h)) (fun _ _ h => h)⟩
          · have hne := HNE.out.1
            have hne' : g6 ≠ g5 := fun e => HNE.out.1 e.symm
            have hg68 := lt_of_block H68.out.1
            have hg58 := lt_of_block H58.out.1
            have m1 : g6 ≠ w8.heap.size := by omega
            have m2 : w8.heap.size ≠ g6 := by omega
            have m3 : g5 ≠ w8.heap.size := by omega
            have m4 : w8.heap.size ≠ g5 := by omega
            obtain ⟨fa', fc', cf, efv, hcfl, hfone, hffirst, hfit⟩ := items_first ftShown (by decide) T.faults (.slice fa T.faults.length fc) HRAW.out.2.1.items (fun x xs h => ftShown_one x xs h)
            have HFI := Lib.hid (And.intro hcfl (And.intro hfone (And.intro hffirst hfit)))
            have HEM := Lib.hid (empty_row w8 N HN8.out 52 2)
            have hcellf := hffirst (w8.alloc (.cells #[] 52)) (fun g o u _ hu => cell_fr (R := fun _ => True) ((Fr.refl (fun _ => False) w8).alloc (.cells #[] 52)) (fun _ _ h => h) trivial hu)
            have hcellf2 := hffirst ((w8.alloc (.cells #[] 52)).drew) (fun g o u _ hu => cell_fr (R := fun _ => True) (((Fr.refl (fun _ => False) w8).alloc (.cells #[] 52)).drew) (fun _ _ h => h) trivial hu)
            have HCF := Lib.hid (And.intro hcellf hcellf2)
            obtain ⟨i8, hi8, hy0, hy1, hy2⟩ := info_parts Try.infoFault
            clear efv hcfl hfone hffirst hfit hcellf hcellf2
            go_wp2_with (at_builtin; refine wpList_append_sep rfl (.tmp 51) (.tmp 53) 29 29 rfl N 52 i8 (.agg #[.string ByteArray.empty, .int .i64 0]) 2 24 Try.underlying29 _ Try.underlying29 (.inr ⟨_, rfl⟩) hi8 hy0 hy1 hy2 rfl (by decide) (.slice (some ⟨w8.heap.size, 0, none⟩) 0 0) 0 [] rfl ?own _ T.faults.length cf rfl (lenOf_slice _ _ _) ?len HCF.out.1 HCF.out.2 ?one ?b1 ?b2 ?base ?grow)
            case own => exact HEM.out
            case len => exact HFI.out.1
            case one => exact HFI.out.2.1
            case b1 => unfold maxLen; omega
            case b2 => omega
            case base => have := HN8.out; simp; omega
            case grow =>
            intro v1 w9 hown hg hv0
            have f9 : Fr (fun _ => False) w8 w9 := ((Fr.refl (fun _ => False) w8).alloc (.cells #[] 52)).trans (Fr.of_grown hg) (fun i hi e => by simp [Value.ownBlock] at e; omega)
            have hown' : w9.ownsRow N 52 2 v1 T.faults.length cf := by simpa using hown
            obtain ⟨sa, sc, rfl⟩ := slice_of_own hown'
            have HOW := Lib.hid (show ∀ i, (.slice sa T.faults.length sc : Value).ownBlock = some i → w8.heap.size ≤ i from fun i hi => by
              rcases hv0 with e | e
              · rw [e] at hi; simp [Value.ownBlock] at hi; omega
              · rw [e] at hi; simp at hi; omega)
            have hc69 := box_kept H68.out.1 f9 (fun h => h)
            have hc59 := box_kept H58.out.1 f9 (fun h => h)
            have hN9 : N ≤ w9.heap.size := Nat.le_trans HN8.out f9.size
            have H9 := Lib.hid (And.intro f9 (And.intro hown' (And.intro hc69 (And.intro hc59 hN9))))
            have hg69 := lt_of_block hc69
            have hg59 := lt_of_block hc59
            clear x0 x1 x2 x3 x4 x5 y0 y1 y2 y3 y4 y5 hown hg hv0 f9 hown' hc69 hc59 hN9 m1 m2 m3 m4
            have m1 : g6 ≠ w9.heap.size := by omega
            have m2 : w9.heap.size ≠ g6 := by omega
            go_wp2_with (at_builtin; refine wpList_append_sep rfl (.tmp 54) (.tmp 56) 29 29 rfl N 52 i8 (.agg #[.string ByteArray.empty, .int .i64 0]) 2 24 Try.underlying29 _ Try.underlying29 (.inr ⟨_, rfl⟩) hi8 hy0 hy1 hy2 rfl (by decide) (.slice sa T.faults.length sc) T.faults.length cf rfl ?own _ 1 [.string ⟨#[120]⟩, .int .i64 0] rfl (lenOf_slice _ _ _) rfl (first_one 1 2 rfl (heap_alloc_new _ _)) (first_one 1 2 rfl (by exact heap_alloc_new _ _)) ?one ?b1 ?b2 ?base ?grow)
            case own => exact World.ownsRow.alloc H9.out.2.1 _
            case one => intro u hu; simp only [List.mem_cons, List.not_mem_nil, or_false] at hu; rcases hu with rfl | rfl <;> rfl
            case b1 => unfold maxLen; omega
            case b2 => omega
            case base => have := H9.out.2.2.2.2; simp; omega
            case grow =>
            intro v2 w12 hown hg hv0
            have f12 : Fr (fun k => (.slice sa T.faults.length sc : Value).ownBlock = some k) w9 w12 := ((Fr.refl _ _).alloc _).trans ((Fr.of_grown hg).mono (fun _ _ e => e.symm)) (fun i hi e => e)
            have hc2 : CpRow ftShown 52 2 N (Low w g5 g6 N) w12 v2 (T.faults ++ [([120], 0)]) := CpRow.push (w := w9) HFI.out.1 (fun k h => h.2) (fun k hk => (World.ownsRow.lt H9.out.2.1 k hk).1) HFI.out.2.2.2 hown f12 rfl rfl
            obtain ⟨ra, rn, rc, rfl⟩ : ∃ a n c, v2 = .slice a n c := by obtain ⟨a, c, e⟩ := hc2.slice; exact ⟨a, _, c, e⟩
            have f11 : Fr (fun _ => False) w8 w12 := H9.out.1.trans f12 (fun i hi e => by have := HOW.out i e; omega)
            have hff : T.faults.length ≤ 4 := by rw [HTE.out]; simp [tableE, faultsE]; omega
            have hNs := HRAW.out.2.2.2.2
            have hc61 := box_kept H68.out.1 f11 (fun h => h)
            have hc51 := box_kept H58.out.1 f11 (fun h => h)
            have fset : Fr (fun k => k = g6) w12 (w12.setCell ⟨g6, 4, none⟩ (.slice ra rn rc)) := Fr.set1 (Fr.refl _ _) 4 _
            have FW := Lib.hid (show Fr (fun k => k = g6) w8 (w12.setCell ⟨g6, 4, none⟩ (.slice ra rn rc)) from (f11.mono (fun _ _ e => absurd e (fun h => h))).trans fset (fun _ _ e => e))
            have lowW : ∀ k, Low w g5 g6 N k → ¬ (k = g6) := fun k hk e => hk.1.2.2 e
            have HT1 := Lib.hid (show Tabled (fun k => k ≠ g6) (w12.setCell ⟨g6, 4, none⟩ (.slice ra rn rc)) T (.agg #[.string nb, .int .i64 n', .int .i64 m', .slice a1 l1 c1', .slice a2 l2 c2', .slice a3 l3 c3']) from (HRAW.out.2.2.2.1.fr FW.out lowW).mono (fun _ _ h => h.1.2.2))
            have HT2 := Lib.hid (show Tabled (fun k => k ≠ g6) (w12.setCell ⟨g6, 4, none⟩ (.slice ra rn rc)) ({ T with faults := T.faults ++ [([120], 0)] }) (.agg #[(.string ⟨T.name.toArray⟩), (.int .i64 T.number), (.int .i64 T.version), (.slice ua T.types.length uc), (.slice ra rn rc), (.slice va T.procs.length vc)]) from ⟨_, _, _, rfl, Nat.le_trans H68.out.2 (by decide), ((HRAW.out.1.fr FW.out lowW (fun k hk e => by have := (HRAW.out.1.own k hk).1; have := hNs.2.2.2.2.2; omega)).aliases hb1 HRAW.out.2.2.2.2.2.2.1 (fun k => k ≠ g6) (fun k h => h.1.2.2) (fun k h e => by have := hNs.2.2.2.2.2; omega)), ((hc2.fr fset (fun k h => h.1.2.2) (fun k hk e => by have := (hc2.own k hk).1; have := hNs.2.2.2.2.2; omega)).faults (by simp; omega) (fun x hx => by rcases List.mem_append.1 hx with h | h; exact HRAW.out.2.2.2.2.2.2.2.2.1 x h; simp at h; subst h; decide) (fun k => k ≠ g6) (fun k h e => by have := hNs.2.2.2.2.2; omega)), ((HRAW.out.2.2.1.fr FW.out lowW (fun k hk e => by have := (HRAW.out.2.2.1.own k hk).1; have := hNs.2.2.2.2.2; omega)).procs hb3 HRAW.out.2.2.2.2.2.2.2.1 (fun k => k ≠ g6) (fun k h => h.1.2.2) (fun k h e => by have := hNs.2.2.2.2.2; omega))⟩)
            have H51 := Lib.hid (box_kept hc51 fset (fun e => HNE.out.1 e))
            have H61 := Lib.hid (show ((w12.setCell ⟨g6, 4, none⟩ (.slice ra rn rc))).heap[g6]? = some (.cells #[(.string ⟨T.name.toArray⟩), (.int .i64 T.number), (.int .i64 T.version), (.slice ua T.types.length uc), (.slice ra rn rc), (.slice va T.procs.length vc)] 32 (0, 0)) from setCell_row 4 _ hc61)
            have x0 := cells_row hc51 0 _ rfl
            have x1 := cells_row hc51 1 _ rfl
            have x2 := cells_row hc51 2 _ rfl
            have x3 := cells_row hc51 3 _ rfl
            have x4 := cells_row hc51 4 _ rfl
            have x5 := cells_row hc51 5 _ rfl
            have z4 : w12.frozen? ⟨g6, 4, none⟩ = false := by simp [World.frozen?, hc61]
            unfold sv at hc61
            have y0 := cells_row hc61 0 _ rfl
            have y1 := cells_row hc61 1 _ rfl
            have y2 := cells_row hc61 2 _ rfl
            have y3 := cells_row hc61 3 _ rfl
            have y4 := cells_row hc61 4 _ rfl
            have y5 := cells_row hc61 5 _ rfl
            simp only [List.getElem_toArray, List.getElem_cons_succ, List.getElem_cons_zero] at x0 x1 x2 x3 x4 x5 y0 y1 y2 y3 y4 y5
            clear hown hg hv0 f11 f12 hc2 hNs hc61 hc51 fset lowW m1 m2 hg69 hg59 hff
            have t1 : Tabled (fun k => k ≠ g6) (w12.setCell ⟨g6, 4, none⟩ (.slice ra rn rc)) T (.agg #[.string nb, .int .i64 n', .int .i64 m', .slice a1 l1 c1', .slice a2 l2 c2', .slice a3 l3 c3']) := HT1.out
            have t2 : Tabled (fun k => k ≠ g6) (w12.setCell ⟨g6, 4, none⟩ (.slice ra rn rc)) ({ T with faults := T.faults ++ [([120], 0)] }) (.agg #[(.string ⟨T.name.toArray⟩), (.int .i64 T.number), (.int .i64 T.version), (.slice ua T.types.length uc), (.slice ra rn rc), (.slice va T.procs.length vc)]) := HT2.out
            have s1 : ∀ x ∈ ({ T with faults := T.faults ++ [([120], 0)] }).types, sz x.2 ≤ 100000 := HS1.out
            have s2 : ∀ x ∈ ({ T with faults := T.faults ++ [([120], 0)] }).procs, sz x.takes ≤ 100000 ∧ sz x.answers ≤ 100000 := HS2.out
            have q1 := alike_any (fun k => k ≠ g6) T ({ T with faults := T.faults ++ [([120], 0)] }) _ _ (w12.setCell ⟨g6, 4, none⟩ (.slice ra rn rc)) t1 t2 HS1.out HS2.out
            have Q2 := Lib.hid (fun (wx : World) (f : Fr (fun _ => False) (w12.setCell ⟨g6, 4, none⟩ (.slice ra rn rc)) wx) => alike_any (fun k => k ≠ g6) ({ T with faults := T.faults ++ [([120], 0)] }) T _ _ wx (t2.fr f (fun _ _ h => h)) (t1.fr f (fun _ _ h => h)) s1 s2)
            rw [(show alikeE T ({ T with faults := T.faults ++ [([120], 0)] }) = false from alikeE_faults (eqBy_len _ _ _ _ (by simp)))] at q1
            have E2 := Lib.hid ((show alikeE ({ T with faults := T.faults ++ [([120], 0)] }) T = false from alikeE_faults (eqBy_len _ _ _ _ (by simp))))
            have HCC := Lib.hid (And.intro H51.out H61.out)
            clear t1 t2 s1 s2
            go_wp2_with fail
            refine q1.mono ?_
            rintro e w9 ⟨rfl, f9⟩
            have p5 := box_kept HCC.out.1 f9 (fun h => h)
            have p6 := box_kept HCC.out.2 f9 (fun h => h)
            have x0 := cells_row p5 0 _ rfl
            have x1 := cells_row p5 1 _ rfl
            have x2 := cells_row p5 2 _ rfl
            have x3 := cells_row p5 3 _ rfl
            have x4 := cells_row p5 4 _ rfl
            have x5 := cells_row p5 5 _ rfl
            have y0 := cells_row p6 0 _ rfl
            have y1 := cells_row p6 1 _ rfl
            have y2 := cells_row p6 2 _ rfl
            have y3 := cells_row p6 3 _ rfl
            have y4 := cells_row p6 4 _ rfl
            have y5 := cells_row p6 5 _ rfl
            simp only [List.getElem_toArray, List.getElem_cons_succ, List.getElem_cons_zero] at x0 x1 x2 x3 x4 x5 y0 y1 y2 y3 y4 y5
            have q2 := Q2.out w9 f9
            rw [E2.out] at q2
            have F9 := Lib.hid f9
            clear p5 p6 f9 q1
            go_wp2_with fail
            refine q2.mono ?_
            rintro e w10 ⟨rfl, f10⟩
            have F10 := Lib.hid f10
            clear f10 q2 x0 x1 x2 x3 x4 x5 y0 y1 y2 y3 y4 y5
            go_wp2
            go_ret
            exact ⟨rfl, (HF8.out.trans FW.out (fun i hi e => by have := HNE.out.2.2; omega)).trans (F9.out.trans F10.out (fun _ _ h => h)) (fun _ _ h => h)⟩
          · have hne := HNE.out.1
            have hne' : g6 ≠ g5 := fun e => HNE.out.1 e.symm
            obtain ⟨cs, hown, hit⟩ := HRAW.out.2.2.1
            have HOWN := Lib.hid hown
            have HIT := Lib.hid hit
            have hg68 := lt_of_block H68.out.1
            have hg58 := lt_of_block H58.out.1
            have m1 : g6 ≠ w8.heap.size := by omega
            have m2 : w8.heap.size ≠ g6 := by omega
            have m3 : g5 ≠ w8.heap.size := by omega
            have m4 : w8.heap.size ≠ g5 := by omega
            obtain ⟨i8, hi8, hy0, hy1, hy2⟩ := info_parts Try.infoProc
            clear hown hit
            go_wp2_with (at_builtin; refine wpList_append_sep rfl (.tmp 62) (.tmp 64) 30 30 rfl N 41 i8 (.agg #[.string ByteArray.empty, .int .i64 0, .int .u8 0, .int .i64 0, .slice none 0 0, .slice none 0 0, .int .u8 0, .int .i64 0, .slice none 0 0, .slice none 0 0, .int .u8 0, .int .i64 0]) 12 168 Try.underlying30 _ Try.underlying30 (.inr ⟨_, rfl⟩) hi8 hy0 hy1 hy2 rfl (by decide) (.slice va T.procs.length vc) T.procs.length cs rfl ?own _ 1 [.string ⟨#[120]⟩, .int .i64 0, .int .u8 0, .int .i64 0, .slice none 0 0, .slice none 0 0, .int .u8 0, .int .i64 0, .slice none 0 0, .slice none 0 0, .int .u8 0, .int .i64 0] rfl (lenOf_slice _ _ _) rfl (first_one 1 12 rfl (heap_alloc_new _ _)) (first_one 1 12 rfl (by exact heap_alloc_new _ _)) ?one ?b1 ?b2 ?base ?grow)
            case own => exact World.ownsRow.alloc HOWN.out _
            case one => intro u hu; simp only [List.mem_cons, List.not_mem_nil, or_false] at hu; rcases hu with rfl | rfl | rfl | rfl | rfl | rfl | rfl | rfl | rfl | rfl | rfl | rfl <;> rfl
            case b1 => unfold maxLen; omega
            case b2 => omega
            case base => have := HN8.out; simp; omega
            case grow =>
            intro v' w11 hown hg hv0
            have f11 : Fr (fun k => (.slice va T.procs.length vc : Value).ownBlock = some k) w8 w11 := ((Fr.refl _ _).alloc _).trans ((Fr.of_grown hg).mono (fun _ _ e => e.symm)) (fun i hi e => e)
            have hc2 : CpRow prShown 41 12 N (Low w g5 g6 N) w11 v' (T.procs ++ [KProc.mk [120] 0 zeroT zeroT 0 0]) := CpRow.push HOWN.out.1 (fun k h => h.2) (fun k hk => (World.ownsRow.lt HOWN.out k hk).1) HIT.out hown f11 ⟨_, _, _, _, _, _, _, _, rfl, zero_shows _ _, zero_shows _ _⟩ rfl
            obtain ⟨ra, rn, rc, rfl⟩ : ∃ a n c, v' = .slice a n c := by obtain ⟨a, c, e⟩ := hc2.slice; exact ⟨a, _, c, e⟩
            have own5 : ∀ k, (.slice va T.procs.length vc : Value).ownBlock = some k → N ≤ k := fun k hk => (World.ownsRow.lt HOWN.out k hk).1
            have hNs := HRAW.out.2.2.2.2
            have hc61 := box_kept H68.out.1 f11 (fun e => by have := own5 _ e; have := hNs.2.2.2.2.2; omega)
            have hc51 := box_kept H58.out.1 f11 (fun e => by have := own5 _ e; have := hNs.1; omega)
            have FW := Lib.hid (show Fr (fun k => (.slice va T.procs.length vc : Value).ownBlock = some k ∨ k = g6) w8 (w11.setCell ⟨g6, 5, none⟩ (.slice ra rn rc)) from (f11.mono (fun _ _ e => .inl e)).trans (Fr.set1 (Fr.refl (fun k => k = g6) w11) 5 _) (fun _ _ e => .inr e))
            have fset : Fr (fun k => k = g6) w11 (w11.setCell ⟨g6, 5, none⟩ (.slice ra rn rc)) := Fr.set1 (Fr.refl _ _) 5 _
            have lowW : ∀ k, Low w g5 g6 N k → ¬ ((.slice va T.procs.length vc : Value).ownBlock = some k ∨ k = g6) := fun k hk e => by
              rcases e with e | e
              · have := own5 k e; have := hk.2; omega
              · exact hk.1.2.2 e
            have HT1 := Lib.hid (show Tabled (fun k => k ≠ g6) (w11.setCell ⟨g6, 5, none⟩ (.slice ra rn rc)) T (.agg #[.string nb, .int .i64 n', .int .i64 m', .slice a1 l1 c1', .slice a2 l2 c2', .slice a3 l3 c3']) from (HRAW.out.2.2.2.1.fr FW.out lowW).mono (fun _ _ h => h.1.2.2))
            have HT2 := Lib.hid (show Tabled (fun k => k ≠ g6) (w11.setCell ⟨g6, 5, none⟩ (.slice ra rn rc)) ({ T with procs := T.procs ++ [KProc.mk [120] 0 zeroT zeroT 0 0] }) (.agg #[(.string ⟨T.name.toArray⟩), (.int .i64 T.number), (.int .i64 T.version), (.slice ua T.types.length uc), (.slice fa T.faults.length fc), (.slice ra rn rc)]) from ⟨_, _, _, rfl, Nat.le_trans H68.out.2 (by decide), ((HRAW.out.1.fr FW.out lowW (fun k hk e => by rcases e with e | e; exact HRAW.out.2.2.2.2.2.1 k hk e; have := (HRAW.out.1.own k hk).1; have := hNs.2.2.2.2.2; omega)).aliases hb1 HRAW.out.2.2.2.2.2.2.1 (fun k => k ≠ g6) (fun k h => h.1.2.2) (fun k h e => by have := hNs.2.2.2.2.2; omega)), (HRAW.out.2.1.fr FW.out lowW).mono (fun _ _ h => h.1.2.2), ((hc2.fr fset (fun k h => h.1.2.2) (fun k hk e => by have := (hc2.own k hk).1; have := hNs.2.2.2.2.2; omega)).procs (by simp; have := HM.out; omega) (fun x hx => by rcases List.mem_append.1 hx with h | h; exact HRAW.out.2.2.2.2.2.2.2.1 x h; simp at h; subst h; decide) (fun k => k ≠ g6) (fun k h => h.1.2.2) (fun k h e => by have := hNs.2.2.2.2.2; omega))⟩)
            have H51 := Lib.hid (box_kept hc51 fset (fun e => HNE.out.1 e))
            have H61 := Lib.hid (show ((w11.setCell ⟨g6, 5, none⟩ (.slice ra rn rc))).heap[g6]? = some (.cells #[(.string ⟨T.name.toArray⟩), (.int .i64 T.number), (.int .i64 T.version), (.slice ua T.types.length uc), (.slice fa T.faults.length fc), (.slice ra rn rc)] 32 (0, 0)) from setCell_row 5 _ hc61)
            clear x0 x1 x2 x3 x4 x5 y0 y1 y2 y3 y4 y5
            have x0 := cells_row hc51 0 _ rfl
            have x1 := cells_row hc51 1 _ rfl
            have x2 := cells_row hc51 2 _ rfl
            have x3 := cells_row hc51 3 _ rfl
            have x4 := cells_row hc51 4 _ rfl
            have x5 := cells_row hc51 5 _ rfl
            have z5 : w11.frozen? ⟨g6, 5, none⟩ = false := by simp [World.frozen?, hc61]
            unfold sv at hc61
            have y0 := cells_row hc61 0 _ rfl
            have y1 := cells_row hc61 1 _ rfl
            have y2 := cells_row hc61 2 _ rfl
            have y3 := cells_row hc61 3 _ rfl
            have y4 := cells_row hc61 4 _ rfl
            have y5 := cells_row hc61 5 _ rfl
            simp only [List.getElem_toArray, List.getElem_cons_succ, List.getElem_cons_zero] at x0 x1 x2 x3 x4 x5 y0 y1 y2 y3 y4 y5
            clear hown hg hv0 f11 hc2 own5 hNs hc61 hc51 fset lowW m1 m2 m3 m4
            have t1 : Tabled (fun k => k ≠ g6) (w11.setCell ⟨g6, 5, none⟩ (.slice ra rn rc)) T (.agg #[.string nb, .int .i64 n', .int .i64 m', .slice a1 l1 c1', .slice a2 l2 c2', .slice a3 l3 c3']) := HT1.out
            have t2 : Tabled (fun k => k ≠ g6) (w11.setCell ⟨g6, 5, none⟩ (.slice ra rn rc)) ({ T with procs := T.procs ++ [KProc.mk [120] 0 zeroT zeroT 0 0] }) (.agg #[(.string ⟨T.name.toArray⟩), (.int .i64 T.number), (.int .i64 T.version), (.slice ua T.types.length uc), (.slice fa T.faults.length fc), (.slice ra rn rc)]) := HT2.out
            have s1 : ∀ x ∈ ({ T with procs := T.procs ++ [KProc.mk [120] 0 zeroT zeroT 0 0] }).types, sz x.2 ≤ 100000 := HS1.out
            have s2 : ∀ x ∈ ({ T with procs := T.procs ++ [KProc.mk [120] 0 zeroT zeroT 0 0] }).procs, sz x.takes ≤ 100000 ∧ sz x.answers ≤ 100000 := (fun x hx => by rcases List.mem_append.1 hx with h | h; exact HS2.out x h; simp at h; subst h; decide)
            have q1 := alike_any (fun k => k ≠ g6) T ({ T with procs := T.procs ++ [KProc.mk [120] 0 zeroT zeroT 0 0] }) _ _ (w11.setCell ⟨g6, 5, none⟩ (.slice ra rn rc)) t1 t2 HS1.out HS2.out
            have Q2 := Lib.hid (fun (wx : World) (f : Fr (fun _ => False) (w11.setCell ⟨g6, 5, none⟩ (.slice ra rn rc)) wx) => alike_any (fun k => k ≠ g6) ({ T with procs := T.procs ++ [KProc.mk [120] 0 zeroT zeroT 0 0] }) T _ _ wx (t2.fr f (fun _ _ h => h)) (t1.fr f (fun _ _ h => h)) s1 s2)
            rw [(show alikeE T ({ T with procs := T.procs ++ [KProc.mk [120] 0 zeroT zeroT 0 0] }) = false from alikeE_procs (eqBy_len _ _ _ _ (by simp)))] at q1
            have E2 := Lib.hid ((show alikeE ({ T with procs := T.procs ++ [KProc.mk [120] 0 zeroT zeroT 0 0] }) T = false from alikeE_procs (eqBy_len _ _ _ _ (by simp))))
            have HCC := Lib.hid (And.intro H51.out H61.out)
            clear t1 t2 s1 s2
            go_wp2_with fail
            refine q1.mono ?_
            rintro e w9 ⟨rfl, f9⟩
            have p5 := box_kept HCC.out.1 f9 (fun h => h)
            have p6 := box_kept HCC.out.2 f9 (fun h => h)
            have x0 := cells_row p5 0 _ rfl
            have x1 := cells_row p5 1 _ rfl
            have x2 := cells_row p5 2 _ rfl
            have x3 := cells_row p5 3 _ rfl
            have x4 := cells_row p5 4 _ rfl
            have x5 := cells_row p5 5 _ rfl
            have y0 := cells_row p6 0 _ rfl
            have y1 := cells_row p6 1 _ rfl
            have y2 := cells_row p6 2 _ rfl
            have y3 := cells_row p6 3 _ rfl
            have y4 := cells_row p6 4 _ rfl
            have y5 := cells_row p6 5 _ rfl
            simp only [List.getElem_toArray, List.getElem_cons_succ, List.getElem_cons_zero] at x0 x1 x2 x3 x4 x5 y0 y1 y2 y3 y4 y5
            have q2 := Q2.out w9 f9
            rw [E2.out] at q2
            have F9 := Lib.hid f9
            clear p5 p6 f9 q1
            go_wp2_with fail
            refine q2.mono ?_
            rintro e w10 ⟨rfl, f10⟩
            have F10 := Lib.hid f10
            clear f10 q2 x0 x1 x2 x3 x4 x5 y0 y1 y2 y3 y4 y5
            go_wp2
            go_ret
            exact ⟨rfl, (HF8.out.trans FW.out (fun i hi e => by rcases e with e | e; exact absurd (HRAW.out.2.2.2.2.2.2.2.2.2) (by have := (World.ownsRow.lt HOWN.out i e).1; have := HNE.out.2.2; have := HN8.out; omega); have := HNE.out.2.2; omega)).trans (F9.out.trans F10.out (fun _ _ h => h)) (fun _ _ h => h)⟩
          · have hne := HNE.out.1
            have hne' : g6 ≠ g5 := fun e => HNE.out.1 e.symm
            by_cases hz : T.procs.length = 0
            · have hzz : ¬ (0 : Int) < (T.procs.length : Int) := by rw [hz]; decide
              have HZ := Lib.hid hz
              clear hz
              have t1 : Tabled (fun k => k ≠ g6) w8 T (.agg #[.string nb, .int .i64 n', .int .i64 m', .slice a1 l1 c1', .slice a2 l2 c2', .slice a3 l3 c3']) := H58.out.2
              have t2 : Tabled (fun k => k ≠ g6) w8 (T) (.agg #[.string ⟨T.name.toArray⟩, .int .i64 T.number, .int .i64 T.version, .slice ua T.types.length uc, .slice fa T.faults.length fc, .slice va T.procs.length vc]) := ⟨_, _, _, rfl, Nat.le_trans H68.out.2 (by decide), HA.out, HF.out, HP.out⟩
              have s1 : ∀ x ∈ (T).types, sz x.2 ≤ 100000 := HS1.out
              have s2 : ∀ x ∈ (T).procs, sz x.takes ≤ 100000 ∧ sz x.answers ≤ 100000 := HS2.out
              have q1 := alike_any (fun k => k ≠ g6) T (T) _ _ w8 t1 t2 HS1.out HS2.out
              have Q2 := Lib.hid (fun (wx : World) (f : Fr (fun _ => False) w8 wx) => alike_any (fun k => k ≠ g6) (T) T _ _ wx (t2.fr f (fun _ _ h => h)) (t1.fr f (fun _ _ h => h)) s1 s2)
              rw [HREFL.out] at q1
              have E2 := Lib.hid (HREFL.out)
              have HCC := Lib.hid (And.intro H58.out.1 H68.out.1)
              clear t1 t2 s1 s2
              go_wp2_with fail
              refine q1.mono ?_
              rintro e w9 ⟨rfl, f9⟩
              have p5 := box_kept HCC.out.1 f9 (fun h => h)
              have p6 := box_kept HCC.out.2 f9 (fun h => h)
              have x0 := cells_row p5 0 _ rfl
              have x1 := cells_row p5 1 _ rfl
              have x2 := cells_row p5 2 _ rfl
              have x3 := cells_row p5 3 _ rfl
              have x4 := cells_row p5 4 _ rfl
              have x5 := cells_row p5 5 _ rfl
              have y0 := cells_row p6 0 _ rfl
              have y1 := cells_row p6 1 _ rfl
              have y2 := cells_row p6 2 _ rfl
              have y3 := cells_row p6 3 _ rfl
              have y4 := cells_row p6 4 _ rfl
              have y5 := cells_row p6 5 _ rfl
              simp only [List.getElem_toArray, List.getElem_cons_succ, List.getElem_cons_zero] at x0 x1 x2 x3 x4 x5 y0 y1 y2 y3 y4 y5
              have q2 := Q2.out w9 f9
              rw [E2.out] at q2
              have F9 := Lib.hid f9
              clear p5 p6 f9 q1
              go_wp2_with fail
              refine q2.mono ?_
              rintro e w10 ⟨rfl, f10⟩
              have F10 := Lib.hid f10
              clear f10 q2 x0 x1 x2 x3 x4 x5 y0 y1 y2 y3 y4 y5
              go_wp2
              go_ret
              exact ⟨rfl, (HF8.out).trans (F9.out.trans F10.out (fun _ _ h => h)) (fun _ _ h => h)⟩
            have hz0 : 0 < T.procs.length := Nat.pos_of_ne_zero hz
            have hzz : (0 : Int) < (T.procs.length : Int) := Int.ofNat_lt.2 hz0
            clear hz
            obtain ⟨p, hp0⟩ : ∃ p, T.procs[0]? = some p := ⟨_, List.getElem?_eq_getElem hz0⟩
            have htm : 0 ≤ p.timeout ∧ p.timeout ≤ 1000 ∧ p.collate ≤ 2 := by
              have := tableE_times s p
              rw [← HTE.out] at this
              exact this (List.mem_of_getElem? hp0)
            have hpsh := HRAW.out.2.2.2.2.2.2.2.1 p (List.mem_of_getElem? hp0)
            have hpsz := HS2.out p (List.mem_of_getElem? hp0)
            have UU := Lib.hid (wrap_time p.timeout htm.1 htm.2.1)
            obtain ⟨g, rfl, -, hgN, n3, n1, cmm, zz, ht2, ht1⟩ := mod_proc HU.out p ({ p with timeout := p.timeout + 1 }) hp0 11 (.int .i64 (p.timeout + 1)) (.int .i64 p.timeout) (by decide) (fun _ _ _ _ _ _ _ _ => rfl) (fun _ _ _ _ _ _ _ _ => rfl) rfl rfl hpsh hb1 hb3
            have n2 : g6 ≠ g := fun e => n1 e.symm
            have n4 : g5 ≠ g := fun e => n3 e.symm
            have FW := Lib.hid (show Fr (fun k => k = g) w8 (w8.setCell ⟨g, 11, none⟩ (.int .i64 (p.timeout + 1))) from Fr.set1 (Fr.refl _ _) 11 _)
            have HT1 := Lib.hid (ht1 _ HRAW.out.2.2.2.1)
            have HT2 := Lib.hid ht2
            have HC5 := Lib.hid (box_kept H58.out.1 FW.out n4)
            have HC6 := Lib.hid (box_kept H68.out.1 FW.out n2)
            have EQ := Lib.hid (turned_proc (upd := { p with timeout := p.timeout + 1 }) hp0 (sameP_time p).1 (sameP_time p).2)
            have HSZ2 := Lib.hid (show ∀ x ∈ ({ T with procs := T.procs.set 0 ({ p with timeout := p.timeout + 1 }) }).procs, sz x.takes ≤ 100000 ∧ sz x.answers ≤ 100000 from set_all (x := { p with timeout := p.timeout + 1 }) HS2.out hpsz)
            have HGW := Lib.hid (show ¬ g < w.heap.size from by have := HRAW.out.2.2.2.2.2.2.2.2.2; have := HNE.out.2.2; omega)
            clear ht1 ht2 hpsh hpsz hp0 hgN htm
            have u1 := UU.out.1
            have u2 := UU.out.2
            have t1 : Tabled (fun k => k ≠ g6) (w8.setCell ⟨g, 11, none⟩ (.int .i64 (p.timeout + 1))) T (.agg #[.string nb, .int .i64 n', .int .i64 m', .slice a1 l1 c1', .slice a2 l2 c2', .slice a3 l3 c3']) := HT1.out
            have t2 : Tabled (fun k => k ≠ g6) (w8.setCell ⟨g, 11, none⟩ (.int .i64 (p.timeout + 1))) ({ T with procs := T.procs.set 0 ({ p with timeout := p.timeout + 1 }) }) (.agg #[(.string ⟨T.name.toArray⟩), (.int .i64 T.number), (.int .i64 T.version), (.slice ua T.types.length uc), (.slice fa T.faults.length fc), (.slice (some ⟨g, 0, none⟩) T.procs.length vc)]) := HT2.out
            have s1 : ∀ x ∈ ({ T with procs := T.procs.set 0 ({ p with timeout := p.timeout + 1 }) }).types, sz x.2 ≤ 100000 := HS1.out
            have s2 : ∀ x ∈ ({ T with procs := T.procs.set 0 ({ p with timeout := p.timeout + 1 }) }).procs, sz x.takes ≤ 100000 ∧ sz x.answers ≤ 100000 := HSZ2.out
            have q1 := alike_any (fun k => k ≠ g6) T ({ T with procs := T.procs.set 0 ({ p with timeout := p.timeout + 1 }) }) _ _ (w8.setCell ⟨g, 11, none⟩ (.int .i64 (p.timeout + 1))) t1 t2 HS1.out HS2.out
            have Q2 := Lib.hid (fun (wx : World) (f : Fr (fun _ => False) (w8.setCell ⟨g, 11, none⟩ (.int .i64 (p.timeout + 1))) wx) => alike_any (fun k => k ≠ g6) ({ T with procs := T.procs.set 0 ({ p with timeout := p.timeout + 1 }) }) T _ _ wx (t2.fr f (fun _ _ h => h)) (t1.fr f (fun _ _ h => h)) s1 s2)
            rw [EQ.out.1] at q1
            have E2 := Lib.hid (EQ.out.2)
            have HCC := Lib.hid (And.intro HC5.out HC6.out)
            clear t1 t2 s1 s2
            go_wp2_with fail
            refine q1.mono ?_
            rintro e w9 ⟨rfl, f9⟩
            have p5 := box_kept HCC.out.1 f9 (fun h => h)
            have p6 := box_kept HCC.out.2 f9 (fun h => h)
            have x0 := cells_row p5 0 _ rfl
            have x1 := cells_row p5 1 _ rfl
            have x2 := cells_row p5 2 _ rfl
            have x3 := cells_row p5 3 _ rfl
            have x4 := cells_row p5 4 _ rfl
            have x5 := cells_row p5 5 _ rfl
            have y0 := cells_row p6 0 _ rfl
            have y1 := cells_row p6 1 _ rfl
            have y2 := cells_row p6 2 _ rfl
            have y3 := cells_row p6 3 _ rfl
            have y4 := cells_row p6 4 _ rfl
            have y5 := cells_row p6 5 _ rfl
            simp only [List.getElem_toArray, List.getElem_cons_succ, List.getElem_cons_zero] at x0 x1 x2 x3 x4 x5 y0 y1 y2 y3 y4 y5
            have q2 := Q2.out w9 f9
            rw [E2.out] at q2
            have F9 := Lib.hid f9
            clear p5 p6 f9 q1
            go_wp2_with fail
            refine q2.mono ?_
            rintro e w10 ⟨rfl, f10⟩
            have F10 := Lib.hid f10
            clear f10 q2 x0 x1 x2 x3 x4 x5 y0 y1 y2 y3 y4 y5
            go_wp2
            go_ret
            exact ⟨rfl, (HF8.out.trans FW.out (fun i hi e => absurd hi (e ▸ HGW.out))).trans (F9.out.trans F10.out (fun _ _ h => h)) (fun _ _ h => h)⟩
          · have hne := HNE.out.1
            have hne' : g6 ≠ g5 := fun e => HNE.out.1 e.symm
            by_cases hz : T.procs.length = 0
            · have hzz : ¬ (0 : Int) < (T.procs.length : Int) := by rw [hz]; decide
              have HZ := Lib.hid hz
              clear hz
              have t1 : Tabled (fun k => k ≠ g6) w8 T (.agg #[.string nb, .int .i64 n', .int .i64 m', .slice a1 l1 c1', .slice a2 l2 c2', .slice a3 l3 c3']) := H58.out.2
              have t2 : Tabled (fun k => k ≠ g6) w8 (T) (.agg #[.string ⟨T.name.toArray⟩, .int .i64 T.number, .int .i64 T.version, .slice ua T.types.length uc, .slice fa T.faults.length fc, .slice va T.procs.length vc]) := ⟨_, _, _, rfl, Nat.le_trans H68.out.2 (by decide), HA.out, HF.out, HP.out⟩
              have s1 : ∀ x ∈ (T).types, sz x.2 ≤ 100000 := HS1.out
              have s2 : ∀ x ∈ (T).procs, sz x.takes ≤ 100000 ∧ sz x.answers ≤ 100000 := HS2.out
              have q1 := alike_any (fun k => k ≠ g6) T (T) _ _ w8 t1 t2 HS1.out HS2.out
              have Q2 := Lib.hid (fun (wx : World) (f : Fr (fun _ => False) w8 wx) => alike_any (fun k => k ≠ g6) (T) T _ _ wx (t2.fr f (fun _ _ h => h)) (t1.fr f (fun _ _ h => h)) s1 s2)
              rw [HREFL.out] at q1
              have E2 := Lib.hid (HREFL.out)
              have HCC := Lib.hid (And.intro H58.out.1 H68.out.1)
              clear t1 t2 s1 s2
              go_wp2_with fail
              refine q1.mono ?_
              rintro e w9 ⟨rfl, f9⟩
              have p5 := box_kept HCC.out.1 f9 (fun h => h)
              have p6 := box_kept HCC.out.2 f9 (fun h => h)
              have x0 := cells_row p5 0 _ rfl
              have x1 := cells_row p5 1 _ rfl
              have x2 := cells_row p5 2 _ rfl
              have x3 := cells_row p5 3 _ rfl
              have x4 := cells_row p5 4 _ rfl
              have x5 := cells_row p5 5 _ rfl
              have y0 := cells_row p6 0 _ rfl
              have y1 := cells_row p6 1 _ rfl
              have y2 := cells_row p6 2 _ rfl
              have y3 := cells_row p6 3 _ rfl
              have y4 := cells_row p6 4 _ rfl
              have y5 := cells_row p6 5 _ rfl
              simp only [List.getElem_toArray, List.getElem_cons_succ, List.getElem_cons_zero] at x0 x1 x2 x3 x4 x5 y0 y1 y2 y3 y4 y5
              have q2 := Q2.out w9 f9
              rw [E2.out] at q2
              have F9 := Lib.hid f9
              clear p5 p6 f9 q1
              go_wp2_with fail
              refine q2.mono ?_
              rintro e w10 ⟨rfl, f10⟩
              have F10 := Lib.hid f10
              clear f10 q2 x0 x1 x2 x3 x4 x5 y0 y1 y2 y3 y4 y5
              go_wp2
              go_ret
              exact ⟨rfl, (HF8.out).trans (F9.out.trans F10.out (fun _ _ h => h)) (fun _ _ h => h)⟩
            have hz0 : 0 < T.procs.length := Nat.pos_of_ne_zero hz
            have hzz : (0 : Int) < (T.procs.length : Int) := Int.ofNat_lt.2 hz0
            clear hz
            obtain ⟨p, hp0⟩ : ∃ p, T.procs[0]? = some p := ⟨_, List.getElem?_eq_getElem hz0⟩
            have htm : 0 ≤ p.timeout ∧ p.timeout ≤ 1000 ∧ p.collate ≤ 2 := by
              have := tableE_times s p
              rw [← HTE.out] at this
              exact this (List.mem_of_getElem? hp0)
            have hpsh := HRAW.out.2.2.2.2.2.2.2.1 p (List.mem_of_getElem? hp0)
            have hpsz := HS2.out p (List.mem_of_getElem? hp0)
            obtain ⟨cc, hcc⟩ : ∃ cc : Nat, cc = p.collate + 1 := ⟨_, rfl⟩
            have UU := Lib.hid (wrap_col cc p.collate hcc htm.2.2)
            have HCC2 := Lib.hid (sameP_collate p cc hcc)
            clear hcc
            obtain ⟨g, rfl, -, hgN, n3, n1, cmm, zz, ht2, ht1⟩ := mod_proc HU.out p ({ p with collate := cc }) hp0 10 (.int .u8 cc) (.int .u8 p.collate) (by decide) (fun _ _ _ _ _ _ _ _ => rfl) (fun _ _ _ _ _ _ _ _ => rfl) rfl rfl ⟨hpsh.1, UU.out.2.2⟩ hb1 hb3
            have n2 : g6 ≠ g := fun e => n1 e.symm
            have n4 : g5 ≠ g := fun e => n3 e.symm
            have FW := Lib.hid (show Fr (fun k => k = g) w8 (w8.setCell ⟨g, 10, none⟩ (.int .u8 cc)) from Fr.set1 (Fr.refl _ _) 10 _)
            have HT1 := Lib.hid (ht1 _ HRAW.out.2.2.2.1)
            have HT2 := Lib.hid ht2
            have HC5 := Lib.hid (box_kept H58.out.1 FW.out n4)
            have HC6 := Lib.hid (box_kept H68.out.1 FW.out n2)
            have EQ := Lib.hid (turned_proc (upd := { p with collate := cc }) hp0 HCC2.out.1 HCC2.out.2)
            have HSZ2 := Lib.hid (show ∀ x ∈ ({ T with procs := T.procs.set 0 ({ p with collate := cc }) }).procs, sz x.takes ≤ 100000 ∧ sz x.answers ≤ 100000 from set_all (x := { p with collate := cc }) HS2.out hpsz)
            have HGW := Lib.hid (show ¬ g < w.heap.size from by have := HRAW.out.2.2.2.2.2.2.2.2.2; have := HNE.out.2.2; omega)
            clear ht1 ht2 hpsh hpsz hp0 hgN htm
            have u1 := UU.out.1
            have u2 := UU.out.2.1
            have t1 : Tabled (fun k => k ≠ g6) (w8.setCell ⟨g, 10, none⟩ (.int .u8 cc)) T (.agg #[.string nb, .int .i64 n', .int .i64 m', .slice a1 l1 c1', .slice a2 l2 c2', .slice a3 l3 c3']) := HT1.out
            have t2 : Tabled (fun k => k ≠ g6) (w8.setCell ⟨g, 10, none⟩ (.int .u8 cc)) ({ T with procs := T.procs.set 0 ({ p with collate := cc }) }) (.agg #[(.string ⟨T.name.toArray⟩), (.int .i64 T.number), (.int .i64 T.version), (.slice ua T.types.length uc), (.slice fa T.faults.length fc), (.slice (some ⟨g, 0, none⟩) T.procs.length vc)]) := HT2.out
            have s1 : ∀ x ∈ ({ T with procs := T.procs.set 0 ({ p with collate := cc }) }).types, sz x.2 ≤ 100000 := HS1.out
            have s2 : ∀ x ∈ ({ T with procs := T.procs.set 0 ({ p with collate := cc }) }).procs, sz x.takes ≤ 100000 ∧ sz x.answers ≤ 100000 := HSZ2.out
            have q1 := alike_any (fun k => k ≠ g6) T ({ T with procs := T.procs.set 0 ({ p with collate := cc }) }) _ _ (w8.setCell ⟨g, 10, none⟩ (.int .u8 cc)) t1 t2 HS1.out HS2.out
            have Q2 := Lib.hid (fun (wx : World) (f : Fr (fun _ => False) (w8.setCell ⟨g, 10, none⟩ (.int .u8 cc)) wx) => alike_any (fun k => k ≠ g6) ({ T with procs := T.procs.set 0 ({ p with collate := cc }) }) T _ _ wx (t2.fr f (fun _ _ h => h)) (t1.fr f (fun _ _ h => h)) s1 s2)
            rw [EQ.out.1] at q1
            have E2 := Lib.hid (EQ.out.2)
            have HCC := Lib.hid (And.intro HC5.out HC6.out)
            clear t1 t2 s1 s2
            go_wp2_with fail
            refine q1.mono ?_
            rintro e w9 ⟨rfl, f9⟩
            have p5 := box_kept HCC.out.1 f9 (fun h => h)
            have p6 := box_kept HCC.out.2 f9 (fun h => h)
            have x0 := cells_row p5 0 _ rfl
            have x1 := cells_row p5 1 _ rfl
            have x2 := cells_row p5 2 _ rfl
            have x3 := cells_row p5 3 _ rfl
            have x4 := cells_row p5 4 _ rfl
            have x5 := cells_row p5 5 _ rfl
            have y0 := cells_row p6 0 _ rfl
            have y1 := cells_row p6 1 _ rfl
            have y2 := cells_row p6 2 _ rfl
            have y3 := cells_row p6 3 _ rfl
            have y4 := cells_row p6 4 _ rfl
            have y5 := cells_row p6 5 _ rfl
            simp only [List.getElem_toArray, List.getElem_cons_succ, List.getElem_cons_zero] at x0 x1 x2 x3 x4 x5 y0 y1 y2 y3 y4 y5
            have q2 := Q2.out w9 f9
            rw [E2.out] at q2
            have F9 := Lib.hid f9
            clear p5 p6 f9 q1
            go_wp2_with fail
            refine q2.mono ?_
            rintro e w10 ⟨rfl, f10⟩
            have F10 := Lib.hid f10
            clear f10 q2 x0 x1 x2 x3 x4 x5 y0 y1 y2 y3 y4 y5
            go_wp2
            go_ret
            exact ⟨rfl, (HF8.out.trans FW.out (fun i hi e => absurd hi (e ▸ HGW.out))).trans (F9.out.trans F10.out (fun _ _ h => h)) (fun _ _ h => h)⟩
          · have hne := HNE.out.1
            have hne' : g6 ≠ g5 := fun e => HNE.out.1 e.symm
            by_cases hz : T.types.length = 0
            · have hzz : ¬ (0 : Int) < (T.types.length : Int) := by rw [hz]; decide
              have HZ := Lib.hid hz
              clear hz
              have t1 : Tabled (fun k => k ≠ g6) w8 T (.agg #[.string nb, .int .i64 n', .int .i64 m', .slice a1 l1 c1', .slice a2 l2 c2', .slice a3 l3 c3']) := H58.out.2
              have t2 : Tabled (fun k => k ≠ g6) w8 (T) (.agg #[.string ⟨T.name.toArray⟩, .int .i64 T.number, .int .i64 T.version, .slice ua T.types.length uc, .slice fa T.faults.length fc, .slice va T.procs.length vc]) := ⟨_, _, _, rfl, Nat.le_trans H68.out.2 (by decide), HA.out, HF.out, HP.out⟩
              have s1 : ∀ x ∈ (T).types, sz x.2 ≤ 100000 := HS1.out
              have s2 : ∀ x ∈ (T).procs, sz x.takes ≤ 100000 ∧ sz x.answers ≤ 100000 := HS2.out
              have q1 := alike_any (fun k => k ≠ g6) T (T) _ _ w8 t1 t2 HS1.out HS2.out
              have Q2 := Lib.hid (fun (wx : World) (f : Fr (fun _ => False) w8 wx) => alike_any (fun k => k ≠ g6) (T) T _ _ wx (t2.fr f (fun _ _ h => h)) (t1.fr f (fun _ _ h => h)) s1 s2)
              rw [HREFL.out] at q1
              have E2 := Lib.hid (HREFL.out)
              have HCC := Lib.hid (And.intro H58.out.1 H68.out.1)
              clear t1 t2 s1 s2
              go_wp2_with fail
              refine q1.mono ?_
              rintro e w9 ⟨rfl, f9⟩
              have p5 := box_kept HCC.out.1 f9 (fun h => h)
              have p6 := box_kept HCC.out.2 f9 (fun h => h)
              have x0 := cells_row p5 0 _ rfl
              have x1 := cells_row p5 1 _ rfl
              have x2 := cells_row p5 2 _ rfl
              have x3 := cells_row p5 3 _ rfl
              have x4 := cells_row p5 4 _ rfl
              have x5 := cells_row p5 5 _ rfl
              have y0 := cells_row p6 0 _ rfl
              have y1 := cells_row p6 1 _ rfl
              have y2 := cells_row p6 2 _ rfl
              have y3 := cells_row p6 3 _ rfl
              have y4 := cells_row p6 4 _ rfl
              have y5 := cells_row p6 5 _ rfl
              simp only [List.getElem_toArray, List.getElem_cons_succ, List.getElem_cons_zero] at x0 x1 x2 x3 x4 x5 y0 y1 y2 y3 y4 y5
              have q2 := Q2.out w9 f9
              rw [E2.out] at q2
              have F9 := Lib.hid f9
              clear p5 p6 f9 q1
              go_wp2_with fail
              refine q2.mono ?_
              rintro e w10 ⟨rfl, f10⟩
              have F10 := Lib.hid f10
              clear f10 q2 x0 x1 x2 x3 x4 x5 y0 y1 y2 y3 y4 y5
              go_wp2
              go_ret
              exact ⟨rfl, (HF8.out).trans (F9.out.trans F10.out (fun _ _ h => h)) (fun _ _ h => h)⟩
            have hz0 : 0 < T.types.length := Nat.pos_of_ne_zero hz
            have hzz : (0 : Int) < (T.types.length : Int) := Int.ofNat_lt.2 hz0
            clear hz
            obtain ⟨q0, hp0⟩ : ∃ x, T.types[0]? = some x := ⟨_, List.getElem?_eq_getElem hz0⟩
            have htm : ∃ (k' : Nat) (m : Int) (ns : List Txt) (c : Nat) (of : Nat → KT), q0.2 = .mk k' m ns c of ∧ 0 ≤ m ∧ m ≤ 60 := by
              have := tableE_most (SShows.ok HSH.out) q0
              rw [← HTE.out] at this
              exact this (List.mem_of_getElem? hp0)
            obtain ⟨kk, mo, nn, cn, ofn, hx2, hm0, hm1⟩ := htm
            have hpsz := HS1.out q0 (List.mem_of_getElem? hp0)
            rw [hx2, sz_most kk mo (mo + 1)] at hpsz
            have UU := Lib.hid (wrap_time mo hm0 (Int.le_trans hm1 (by decide)))
            obtain ⟨g, rfl, -, hgN, n3, n1, cmm, zz, ht2, ht1⟩ := mod_alias HU.out q0 kk mo (mo + 1) nn cn ofn hp0 hx2 hb1 hb3
            have n2 : g6 ≠ g := fun e => n1 e.symm
            have n4 : g5 ≠ g := fun e => n3 e.symm
            have FW := Lib.hid (show Fr (fun k => k = g) w8 (w8.setCell ⟨g, 2, none⟩ (.int .i64 (mo + 1))) from Fr.set1 (Fr.refl _ _) 2 _)
            have HT1 := Lib.hid (ht1 _ HRAW.out.2.2.2.1)
            have HT2 := Lib.hid ht2
            have HC5 := Lib.hid (box_kept H58.out.1 FW.out n4)
            have HC6 := Lib.hid (box_kept H68.out.1 FW.out n2)
            have SM := sameA_most q0 kk mo nn cn ofn hx2
            have EQ := Lib.hid (turned_alias (upd := (q0.1, .mk kk (mo + 1) nn cn ofn)) hp0 SM.1 SM.2)
            have HSZ2 := Lib.hid (show ∀ x ∈ ({ T with types := T.types.set 0 (q0.1, .mk kk (mo + 1) nn cn ofn) }).types, sz x.2 ≤ 100000 from set_all (x := (q0.1, .mk kk (mo + 1) nn cn ofn)) HS1.out hpsz)
            have HGW := Lib.hid (show ¬ g < w.heap.size from by have := HRAW.out.2.2.2.2.2.2.2.2.2; have := HNE.out.2.2; omega)
            clear ht1 ht2 hpsz hp0 hgN hm0 hm1 hx2 SM
            have u1 := UU.out.1
            have u2 := UU.out.2
            have t1 : Tabled (fun k => k ≠ g6) (w8.setCell ⟨g, 2, none⟩ (.int .i64 (mo + 1))) T (.agg #[.string nb, .int .i64 n', .int .i64 m', .slice a1 l1 c1', .slice a2 l2 c2', .slice a3 l3 c3']) := HT1.out
            have t2 : Tabled (fun k => k ≠ g6) (w8.setCell ⟨g, 2, none⟩ (.int .i64 (mo + 1))) ({ T with types := T.types.set 0 (q0.1, .mk kk (mo + 1) nn cn ofn) }) (.agg #[(.string ⟨T.name.toArray⟩), (.int .i64 T.number), (.int .i64 T.version), (.slice (some ⟨g, 0, none⟩) T.types.length uc), (.slice fa T.faults.length fc), (.slice va T.procs.length vc)]) := HT2.out
            have s1 : ∀ x ∈ ({ T with types := T.types.set 0 (q0.1, .mk kk (mo + 1) nn cn ofn) }).types, sz x.2 ≤ 100000 := HSZ2.out
            have s2 : ∀ x ∈ ({ T with types := T.types.set 0 (q0.1, .mk kk (mo + 1) nn cn ofn) }).procs, sz x.takes ≤ 100000 ∧ sz x.answers ≤ 100000 := HS2.out
            have q1 := alike_any (fun k => k ≠ g6) T ({ T with types := T.types.set 0 (q0.1, .mk kk (mo + 1) nn cn ofn) }) _ _ (w8.setCell ⟨g, 2, none⟩ (.int .i64 (mo + 1))) t1 t2 HS1.out HS2.out
            have Q2 := Lib.hid (fun (wx : World) (f : Fr (fun _ => False) (w8.setCell ⟨g, 2, none⟩ (.int .i64 (mo + 1))) wx) => alike_any (fun k => k ≠ g6) ({ T with types := T.types.set 0 (q0.1, .mk kk (mo + 1) nn cn ofn) }) T _ _ wx (t2.fr f (fun _ _ h => h)) (t1.fr f (fun _ _ h => h)) s1 s2)
            rw [EQ.out.1] at q1
            have E2 := Lib.hid (EQ.out.2)
            have HCC := Lib.hid (And.intro HC5.out HC6.out)
            clear t1 t2 s1 s2
            go_wp2_with fail
            refine q1.mono ?_
            rintro e w9 ⟨rfl, f9⟩
            have p5 := box_kept HCC.out.1 f9 (fun h => h)
            have p6 := box_kept HCC.out.2 f9 (fun h => h)
            have x0 := cells_row p5 0 _ rfl
            have x1 := cells_row p5 1 _ rfl
            have x2 := cells_row p5 2 _ rfl
            have x3 := cells_row p5 3 _ rfl
            have x4 := cells_row p5 4 _ rfl
            have x5 := cells_row p5 5 _ rfl
            have y0 := cells_row p6 0 _ rfl
            have y1 := cells_row p6 1 _ rfl
            have y2 := cells_row p6 2 _ rfl
            have y3 := cells_row p6 3 _ rfl
            have y4 := cells_row p6 4 _ rfl
            have y5 := cells_row p6 5 _ rfl
            simp only [List.getElem_toArray, List.getElem_cons_succ, List.getElem_cons_zero] at x0 x1 x2 x3 x4 x5 y0 y1 y2 y3 y4 y5
            have q2 := Q2.out w9 f9
            rw [E2.out] at q2
            have F9 := Lib.hid f9
            clear p5 p6 f9 q1
            go_wp2_with fail
            refine q2.mono ?_
            rintro e w10 ⟨rfl, f10⟩
            have F10 := Lib.hid f10
            clear f10 q2 x0 x1 x2 x3 x4 x5 y0 y1 y2 y3 y4 y5
            go_wp2
            go_ret
            exact ⟨rfl, (HF8.out.trans FW.out (fun i hi e => absurd hi (e ▸ HGW.out))).trans (F9.out.trans F10.out (fun _ _ h => h)) (fun _ _ h => h)⟩
          · have t1 : Tabled (fun k => k ≠ g6) w8 T (.agg #[.string nb, .int .i64 n', .int .i64 m', .slice a1 l1 c1', .slice a2 l2 c2', .slice a3 l3 c3']) := H58.out.2
            have t2 : Tabled (fun k => k ≠ g6) w8 (T) (.agg #[.string ⟨T.name.toArray⟩, .int .i64 T.number, .int .i64 T.version, .slice ua T.types.length uc, .slice fa T.faults.length fc, .slice va T.procs.length vc]) := ⟨_, _, _, rfl, Nat.le_trans H68.out.2 (by decide), HA.out, HF.out, HP.out⟩
            have s1 : ∀ x ∈ (T).types, sz x.2 ≤ 100000 := HS1.out
            have s2 : ∀ x ∈ (T).procs, sz x.takes ≤ 100000 ∧ sz x.answers ≤ 100000 := HS2.out
            have q1 := alike_any (fun k => k ≠ g6) T (T) _ _ w8 t1 t2 HS1.out HS2.out
            have Q2 := Lib.hid (fun (wx : World) (f : Fr (fun _ => False) w8 wx) => alike_any (fun k => k ≠ g6) (T) T _ _ wx (t2.fr f (fun _ _ h => h)) (t1.fr f (fun _ _ h => h)) s1 s2)
            rw [HREFL.out] at q1
            have E2 := Lib.hid (HREFL.out)
            have HCC := Lib.hid (And.intro H58.out.1 H68.out.1)
            clear t1 t2 s1 s2
            go_wp2_with fail
            refine q1.mono ?_
            rintro e w9 ⟨rfl, f9⟩
            have p5 := box_kept HCC.out.1 f9 (fun h => h)
            have p6 := box_kept HCC.out.2 f9 (fun h => h)
            have x0 := cells_row p5 0 _ rfl
            have x1 := cells_row p5 1 _ rfl
            have x2 := cells_row p5 2 _ rfl
            have x3 := cells_row p5 3 _ rfl
            have x4 := cells_row p5 4 _ rfl
            have x5 := cells_row p5 5 _ rfl
            have y0 := cells_row p6 0 _ rfl
            have y1 := cells_row p6 1 _ rfl
            have y2 := cells_row p6 2 _ rfl
            have y3 := cells_row p6 3 _ rfl
            have y4 := cells_row p6 4 _ rfl
            have y5 := cells_row p6 5 _ rfl
            simp only [List.getElem_toArray, List.getElem_cons_succ, List.getElem_cons_zero] at x0 x1 x2 x3 x4 x5 y0 y1 y2 y3 y4 y5
            have q2 := Q2.out w9 f9
            rw [E2.out] at q2
            have F9 := Lib.hid f9
            clear p5 p6 f9 q1
            go_wp2_with fail
            refine q2.mono ?_
            rintro e w10 ⟨rfl, f10⟩
            have F10 := Lib.hid f10
            clear f10 q2 x0 x1 x2 x3 x4 x5 y0 y1 y2 y3 y4 y5
            go_wp2
            go_ret
            exact ⟨rfl, (HF8.out).trans (F9.out.trans F10.out (fun _ _ h => h)) (fun _ _ h => h)⟩

end Go.Proofs.Ytdaabgnfgdojhaa
