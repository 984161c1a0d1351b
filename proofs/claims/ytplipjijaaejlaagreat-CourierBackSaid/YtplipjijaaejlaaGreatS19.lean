/-
  CouBack, part 19 of what it rests on: KindCheckProcs.
-/
import Derived.Test.YtplipjijaaejlaaGreatS18
set_option linter.unusedVariables false
set_option linter.unusedSimpArgs false
set_option maxHeartbeats 64000000
namespace Go.Proofs.YtplipjijaaejlaaGreat
open Go.RowKit
open Go.Lib (hid)
section
set_option maxRecDepth 100000 in
theorem checkProcs_any (R : Nat → Prop) (t : KTab) (bef : List Txt) (v : Value) (b : Nat) (w : World) (hbl : bef.length ≤ 10000) (ht : Tabled R w t v) (hR : ∀ k, R k → k < b) (hb : b < w.heap.size) (hN : Nm (fun k => k < b) w b bef) :
    Calls Tryz.prog 83 #[v, namer b] w fun e w' => e = .returned (.int .i64 (firstE (procE bef t.types t.procs) t.procs.length)) ∧ Fr (fun k => b ≤ k) w w' := by
  have HT0 := Lib.hid ht
  obtain ⟨tv, fv, pv, rfl, _, hal, hfl, hpl⟩ := ht
  obtain ⟨ta, tc, rfl, _⟩ := hal.shape
  obtain ⟨fa, fc, rfl, _⟩ := hfl.shape
  have hall : t.procs.length ≤ 1000 := hpl.1
  have hnl := Lib.hid hpl.2.1
  have Hpl0 := Lib.hid hpl
  obtain ⟨a, c, rfl, hs⟩ := hpl.shape
  have Hpl := Lib.hid hpl
  have Hal := Lib.hid hal
  have Hs := Lib.hid hs
  have HN := Lib.hid hN
  have HR := Lib.hid hR
  clear hal hs hN hR hfl hpl
  obtain ⟨w0, hw0⟩ : ∃ w0, w0 = w.alloc (.cells #[sv t.name, .int .i64 t.number, .int .i64 t.version, .slice ta t.types.length tc, .slice fa t.faults.length fc, .slice a t.procs.length c] 130) := ⟨_, rfl⟩
  have f0 : Hid (Fr (fun _ => False) w w0) := Lib.hid (by rw [hw0]; exact (Fr.refl _ _).alloc _)
  have q2 : Hid (w0.heap[w.heap.size]? = some (.cells #[sv t.name, .int .i64 t.number, .int .i64 t.version, .slice ta t.types.length tc, .slice fa t.faults.length fc, .slice a t.procs.length c] 130 (0, 0))) := Lib.hid (by rw [hw0]; exact heap_alloc_new _ _)
  have c3 := cells_row q2.out 5 _ rfl
  have ix0 : ∀ (x0 x1 x2 x3 x4 x5 x6 x7 : Value) (w : World), (Instr.index 156 (.agg #[x0, x1, x2, x3, x4, x5, x6, x7]) (.int .i64 0)).run Tryz.prog w = .ok (.agg #[x0, x1, x2, x3]) w := fun _ _ _ _ _ _ _ _ _ => by kernel_rfl
  have ix1 : ∀ (x0 x1 x2 x3 x4 x5 x6 x7 : Value) (w : World), (Instr.index 156 (.agg #[x0, x1, x2, x3, x4, x5, x6, x7]) (.int .i64 1)).run Tryz.prog w = .ok (.agg #[x4, x5, x6, x7]) w := fun _ _ _ _ _ _ _ _ _ => by kernel_rfl
  unfold namer
  unfold sv at *
  go_enter Tryz.func83, Tryz.ntmps83
  go_wp2
  rw [← hw0]
  clear hw0 c3
  go_loopg [5, 6, 7, 9, 10, 11, 12, 16] t.procs.length (fun G u5 u6 u7 u9 u10 u11 u12 u16 wr => ∃ j : Nat, j ≤ t.procs.length ∧ G = t.procs.length - j ∧ u16 = .int .i64 j ∧ Hid (firstE (procE bef t.types t.procs) j = 0 ∧ Fr (fun k => b ≤ k) w wr ∧
    wr.heap[w.heap.size]? = some (.cells #[.string ⟨t.name.toArray⟩, .int .i64 t.number, .int .i64 t.version, .slice ta t.types.length tc, .slice fa t.faults.length fc, .slice a t.procs.length c] 130 (0, 0)) ∧
    Nm (fun k => k < b ∨ k = w.heap.size) wr b (bef ++ (t.procs.take j).map (·.name))))
  case atStart => exact ⟨0, Nat.zero_le _, rfl, by go_num, Lib.hid ⟨rfl, f0.out.mono (fun _ _ h => absurd h (fun h => h)), q2.out, by simpa using (HN.out.guard (Q := fun k => k < b ∨ k = w.heap.size) (fun k hk h => by omega)).fr f0.out (fun _ h => absurd h (fun h => h))⟩⟩
  case round =>
    obtain ⟨wo, rfl⟩ : ∃ wo : World, wo = wr := ⟨_, rfl⟩
    obtain ⟨j, hj, rfl, rfl, HI⟩ := hrel
    by_cases hlt : j < t.procs.length
    · rcases Hs.out with hz | ⟨hcap, g, off, hg, rfl, hcell⟩
      · omega
      obtain ⟨p, htt⟩ : ∃ p, t.procs[j]? = some p := ⟨t.procs[j], by rw [List.getElem?_eq_getElem hlt]⟩
      obtain ⟨x0, x1, x2, x3, y0, y1, y2, y3, q, hx, hy⟩ := hcell j _ htt
      have nb : ∀ k, R k → ¬ b ≤ k := fun k hk h => by have := HR.out k hk; omega
      have q : ∀ i u, (procCells p x0 x1 x2 x3 y0 y1 y2 y3)[i]? = some u → wo.cell? ⟨g, off + j * 12 + i, none⟩ = some u := fun i u hi => cell_fr HI.out.2.1 nb hg (q i u hi)
      obtain ⟨p0, p1, p2, p3, p4, p5, p6, p7, p8, p9, p10, p11⟩ := proc_cells q
      have NB := Lib.hid nb
      obtain ⟨pk, pm, pa, pn, pc, pa2, pn2, pc2, rfl, rfl, rfl, rfl⟩ := hx.cells
      obtain ⟨qk, qm, qa, qn, qc, qa2, qn2, qc2, rfl, rfl, rfl, rfl⟩ := hy.cells
      have HX := Lib.hid hx
      have HY := Lib.hid hy
      have hgd : t.procs.getD j noProc = p := by rw [List.getD_eq_getElem?_getD, htt]; rfl
      have hnml : p.name.length ≤ 1000 := (hnl.out _ (List.mem_of_getElem? htt)).1
      have htk : bef ++ (t.procs.take (j + 1)).map (·.name) = bef ++ (t.procs.take j).map (·.name) ++ [p.name] := by
        rw [List.take_add_one, htt]; simp
      have HGD := Lib.hid hgd
      have HTK := Lib.hid htk
      clear hcell nb htt hgd htk hx hy q
      unfold sv at p0
      obtain ⟨wb, hwb⟩ : ∃ wb, wb = wo.alloc (.cells #[.string ⟨p.name.toArray⟩, .int .i64 p.number, .int .u8 pk, .int .i64 pm, .slice pa pn pc, .slice pa2 pn2 pc2, .int .u8 qk, .int .i64 qm, .slice qa qn qc, .slice qa2 qn2 qc2, .int .u8 p.collate, .int .i64 p.timeout] 153) := ⟨_, rfl⟩
      have fb : Fr (fun _ => False) wo wb := by rw [hwb]; exact (Fr.refl _ _).alloc _
      have qb : wb.heap[wo.heap.size]? = some (.cells #[.string ⟨p.name.toArray⟩, .int .i64 p.number, .int .u8 pk, .int .i64 pm, .slice pa pn pc, .slice pa2 pn2 pc2, .int .u8 qk, .int .i64 qm, .slice qa qn qc, .slice qa2 qn2 qc2, .int .u8 p.collate, .int .i64 p.timeout] 153 (0, 0)) := by rw [hwb]; exact heap_alloc_new _ _
      have sb : wb.heap.size = wo.heap.size + 1 := by rw [hwb]; simp
      have hwr : w.heap.size + 1 ≤ wo.heap.size := lt_of_block HI.out.2.2.1
      have hNb : Nm (fun k => (k < b ∨ k = w.heap.size) ∨ k = wo.heap.size) wb b (bef ++ (t.procs.take j).map (·.name)) :=
        (HI.out.2.2.2.guard (Q := fun k => (k < b ∨ k = w.heap.size) ∨ k = wo.heap.size) (fun k hk h => by rcases h with h | h; exact h; omega)).fr fb (fun _ h => absurd h (fun h => h))
      have hnx := name_next _ b (bef ++ (t.procs.take j).map (·.name)) p.name wb hNb (fun k h => by omega) (by simp; omega) (by unfold maxLen; omega)
      unfold sv at hnx
      rw [hwb] at hnx
      have HB := Lib.hid (And.intro hwb (And.intro fb (And.intro qb sb)))
      clear hwb fb qb sb hNb
      obtain ⟨E, hE⟩ : ∃ E, E = nameE (bef ++ (t.procs.take j).map (·.name)) p.name := ⟨_, rfl⟩
      rw [← hE] at hnx
      have HE := Lib.hid hE
      clear hE
      go_wp2_with fail
      refine hnx.mono ?_
      rintro e w2 ⟨rfl, f2, N2⟩
      rw [← HB.out.1] at f2
      have HF2 := Lib.hid (And.intro f2 N2)
      clear f2 N2 hnx p0 p1 p2 p3 p4 p5 p6 p7 p8 p9 p10 p11
      by_cases he : E = 0
      · subst he
        have N2 := HF2.out.2 (by first | trivial | rfl)
        have qt := box_kept (box_kept HI.out.2.2.1 HB.out.2.1 (fun h => h)) HF2.out.1 (by omega)
        have qa := box_kept HB.out.2.2.1 HF2.out.1 (by omega)
        have fw2 : Fr (fun k => b ≤ k) w w2 := (HI.out.2.1.trans HB.out.2.1 (fun _ _ h => absurd h (fun h => h))).trans HF2.out.1 (fun i hi h => by omega)
        have d1 := cells_row qa 1 _ rfl
        have d10 := cells_row qa 10 _ rfl
        have d11 := cells_row qa 11 _ rfl
        have c5 := cells_row qt 5 _ rfl
        have hcp := contains_proc R (t.procs.take j) (.slice (some ⟨g, off, none⟩) j c) wo.heap.size _ p.number w2 ((Procs.take Hpl0.out j (by omega)).fr fw2 (fun k hk => NB.out k hk)) qa rfl
        have HQ := Lib.hid (And.intro qt (And.intro qa (And.intro fw2 N2)))
        obtain ⟨B, hB⟩ : ∃ B, B = (t.procs.take j).any (fun x => decide (x.number = p.number)) := ⟨_, rfl⟩
        rw [← hB] at hcp
        have HBB := Lib.hid hB
        have e0 : procE bef t.types t.procs j = procE1 t.types (t.procs.take j) p := by unfold procE; rw [HGD.out, if_pos HE.out.symm]
        have E0 := Lib.hid e0
        clear qt qa fw2 N2 hB e0
        have hjc : (j : Int) ≤ (c : Int) := by omega
        have hj0 : (0 : Int) ≤ (j : Int) := by omega
        by_cases hr : (!validN p.number || decide (p.timeout < 1) || decide (1000 < p.timeout) || decide (3 ≤ p.collate)) = true
        · have ea : procE bef t.types t.procs j = 2 := by rw [E0.out]; unfold procE1; rw [if_pos hr]
          have es : firstE (procE bef t.types t.procs) t.procs.length = 2 := by rw [firstE_stop _ _ j hlt HI.out.1 (by rw [ea]; decide), ea]
          have ES := Lib.hid es
          clear ea es
          have four : validN p.number = false ∨ validN p.number = true ∧ p.timeout < 1 ∨ validN p.number = true ∧ ¬ p.timeout < 1 ∧ 1000 < p.timeout ∨ validN p.number = true ∧ ¬ p.timeout < 1 ∧ ¬ 1000 < p.timeout ∧ (3 : Int) ≤ (p.collate : Int) := by
            simp at hr
            cases hv : validN p.number with
            | false => exact .inl rfl
            | true =>
              rw [hv] at hr
              simp at hr ⊢
              omega
          clear hr
          rcases four with hv | ⟨hv, h1⟩ | ⟨hv, h1, h2⟩ | ⟨hv, h1, h2, h3⟩ <;>
          (have HV := Lib.hid hv
           clear hv
           go_wp2_with fail
           refine (validN_any p.number _).mono ?_
           rintro e w' ⟨rfl, rfl⟩
           rw [HV.out]
           go_wp2
           go_ret
           rw [ES.out]
           exact ⟨rfl, HQ.out.2.2.1⟩)
        · have hr' := hr
          simp at hr'
          obtain ⟨⟨⟨hv, h1⟩, h2⟩, h3⟩ := hr'
          have h1' : ¬ p.timeout < 1 := by omega
          have h2' : ¬ 1000 < p.timeout := by omega
          have h3' : ¬ (3 : Int) ≤ (p.collate : Int) := by omega
          have HV := Lib.hid hv
          have HRR := Lib.hid hr
          clear hv h1 h2 h3 hr
          go_wp2_with fail
          refine (validN_any p.number _).mono ?_
          rintro e w' ⟨rfl, rfl⟩
          rw [HV.out]
          go_wp2_with fail
          refine hcp.mono ?_
          rintro e w3 ⟨rfl, f3⟩
          have f3 := Lib.hid f3
          have F3 := Lib.hid (HQ.out.2.2.1.trans f3.out (fun _ _ h => absurd h (fun h => h)))
          clear hcp
          cases hBv : B with
          | true =>
            have ea : procE bef t.types t.procs j = 9 := by rw [E0.out]; unfold procE1; rw [if_neg HRR.out, ← HBB.out, hBv]; rfl
            have es : firstE (procE bef t.types t.procs) t.procs.length = 9 := by rw [firstE_stop _ _ j hlt HI.out.1 (by rw [ea]; decide), ea]
            have ES := Lib.hid es
            clear ea es
            go_wp2
            go_ret
            rw [ES.out]
            exact ⟨rfl, F3.out⟩
          | false =>
            have ea : procE bef t.types t.procs j = if usedE t.types p.takes = 0 then usedE t.types p.answers else usedE t.types p.takes := by rw [E0.out]; unfold procE1; rw [if_neg HRR.out, ← HBB.out, hBv]; rfl
            have EA := Lib.hid ea
            clear ea hBv HBB
            have qa := box_kept HQ.out.2.1 f3.out (fun h => h)
            have qt := box_kept HQ.out.1 f3.out (fun h => h)
            have e2 := cells_row qa 2 _ rfl
            have e3 := cells_row qa 3 _ rfl
            have e4 := cells_row qa 4 _ rfl
            have e5 := cells_row qa 5 _ rfl
            have e6 := cells_row qa 6 _ rfl
            have e7 := cells_row qa 7 _ rfl
            have e8 := cells_row qa 8 _ rfl
            have e9 := cells_row qa 9 _ rfl
            have HQ3 := Lib.hid (And.intro qt qa)
            clear qt qa d1 d10 d11 c5
            go_wp2
            go_loopg [9, 10, 11, 12, 58] 2 (fun G u9 u10 u11 u12 u58 wr => ∃ i : Nat, i ≤ 2 ∧ G = 2 - i ∧ u58 = .int .i64 i ∧ Hid (Fr (fun _ => False) w3 wr ∧ (1 ≤ i → usedE t.types p.takes = 0) ∧ (2 ≤ i → usedE t.types p.answers = 0)))
            case atStart => exact ⟨0, by omega, rfl, by go_num, Lib.hid ⟨Fr.refl _ _, fun h => absurd h (by omega), fun h => absurd h (by omega)⟩⟩
            case round =>
              obtain ⟨i, hi, rfl, rfl, HJ⟩ := hrel
              obtain rfl | rfl | rfl : i = 0 ∨ i = 1 ∨ i = 2 := by omega
              · have qt := box_kept HQ3.out.1 HJ.out.1 (fun h => h)
                have n8 : w.heap.size < wr.heap.size := lt_of_block qt
                have n9 : w.heap.size ≠ wr.heap.size := by omega
                have c0 := cells_row qt 0 _ rfl
                have c1 := cells_row qt 1 _ rfl
                have c2 := cells_row qt 2 _ rfl
                have c3 := cells_row qt 3 _ rfl
                have c4 := cells_row qt 4 _ rfl
                have c5 := cells_row qt 5 _ rfl
                obtain ⟨wx, hwx⟩ : ∃ wx, wx = wr.alloc (.cells #[.int .u8 pk, .int .i64 pm, .slice pa pn pc, .slice pa2 pn2 pc2] 34) := ⟨_, rfl⟩
                have fx : Fr (fun _ => False) wr wx := by rw [hwx]; exact (Fr.refl _ _).alloc _
                have qx : wx.heap[wr.heap.size]? = some (.cells #[.int .u8 pk, .int .i64 pm, .slice pa pn pc, .slice pa2 pn2 pc2] 34 (0, 0)) := by rw [hwx]; exact heap_alloc_new _ _
                have fw : Fr (fun k => b ≤ k) w wx := (F3.out.trans HJ.out.1 (fun _ _ h => absurd h (fun h => h))).trans fx (fun _ _ h => absurd h (fun h => h))
                have hrt := right_any t.types p.takes R (.agg #[.int .u8 pk, .int .i64 pm, .slice pa pn pc, .slice pa2 pn2 pc2]) (.slice ta t.types.length tc) wx 5 5 rfl (by omega) (Shows.fr fw (fun k hk => NB.out k hk) _ _ HX.out) (Hal.out.fr fw (fun k hk => NB.out k hk))
                obtain ⟨E1, hE1⟩ : ∃ E1, E1 = rightE t.types p.takes 5 := ⟨_, rfl⟩
                rw [← hE1, hwx] at hrt
                have HE1 := Lib.hid hE1
                have HW := Lib.hid (And.intro hwx (And.intro fx (And.intro qx fw)))
                have QT := Lib.hid qt
                clear hE1 hwx fx qx fw qt
                go_wp2_with fail
                refine hrt.mono ?_
                rintro e w5 ⟨rfl, f5⟩
                rw [← HW.out.1] at f5
                have F5 := Lib.hid f5
                clear f5 hrt
                by_cases he1 : E1 = 0
                · subst he1
                  have fw5 : Fr (fun k => b ≤ k) w w5 := HW.out.2.2.2.trans F5.out (fun _ _ h => absurd h (fun h => h))
                  have qx := box_kept HW.out.2.2.1 F5.out (fun h => h)
                  have qt := box_kept (box_kept QT.out HW.out.2.1 (fun h => h)) F5.out (fun h => h)
                  have m0 := cells_row qx 0 _ rfl
                  have m1 := cells_row qx 1 _ rfl
                  have m2 := cells_row qx 2 _ rfl
                  have m3 := cells_row qx 3 _ rfl
                  have k0 := cells_row qt 0 _ rfl
                  have k1 := cells_row qt 1 _ rfl
                  have k2 := cells_row qt 2 _ rfl
                  have k3 := cells_row qt 3 _ rfl
                  have k4 := cells_row qt 4 _ rfl
                  have k5 := cells_row qt 5 _ rfl
                  have hwh := tabWhole_any R t p.takes _ (.agg #[.int .u8 pk, .int .i64 pm, .slice pa pn pc, .slice pa2 pn2 pc2]) w5 (HT0.out.fr fw5 (fun k hk => NB.out k hk)) (Shows.fr fw5 (fun k hk => NB.out k hk) _ _ HX.out)
                  have HX5 := Lib.hid fw5
                  obtain ⟨E2, hE2⟩ : ∃ E2, E2 = (wholeE 20 t.types p.takes 200).e := ⟨_, rfl⟩
                  have hue : usedE t.types p.takes = E2 := by unfold usedE; rw [if_pos HE1.out.symm, hE2]
                  have HUE := Lib.hid hue
                  have HE2 := Lib.hid hE2
                  clear fw5 qx qt c0 c1 c2 c3 c4 c5 hue hE2
                  go_wp2_with fail
                  refine hwh.mono ?_
                  rintro e w6 ⟨tv, rfl, f6, hs6⟩
                  rw [← HE2.out]
                  obtain ⟨k7, m7, a7, n7, c7, a8, n8, c8, rfl⟩ := hs6.four
                  have F6 := Lib.hid f6
                  clear f6 hs6 hwh m0 m1 m2 m3 k0 k1 k2 k3 k4 k5
                  have F7 := Lib.hid (HW.out.2.1.trans (F5.out.trans F6.out (fun _ _ h => h)) (fun _ _ h => h))
                  by_cases he2 : E2 = 0
                  · subst he2
                    go_wp2
                    go_roundg (2 - (0 + 1))
                    case measure => omega
                    case rel => exact ⟨0 + 1, by omega, rfl, by go_num, Lib.hid ⟨(HJ.out.1.trans F7.out (fun _ _ h => h)).alloc _, fun _ => HUE.out, fun h => absurd h (by omega)⟩⟩
                  · have he' : ¬ (E2 : Int) = 0 := by omega
                    go_wp2
                    go_ret
                    have ea : procE bef t.types t.procs j = E2 := by rw [EA.out, HUE.out, if_neg he2]
                    have es : firstE (procE bef t.types t.procs) t.procs.length = E2 := by rw [firstE_stop _ _ j hlt HI.out.1 (by rw [ea]; exact he2), ea]
                    rw [es]
                    exact ⟨rfl, (F3.out.trans (HJ.out.1.trans F7.out (fun _ _ h => h)) (fun _ _ h => absurd h (fun h => h))).alloc _⟩
                · have he' : ¬ (E1 : Int) = 0 := by omega
                  go_wp2
                  go_ret
                  have hue : usedE t.types p.takes = E1 := by unfold usedE; rw [← HE1.out, if_neg he1]
                  have ea : procE bef t.types t.procs j = E1 := by rw [EA.out, hue, if_neg he1]
                  have es : firstE (procE bef t.types t.procs) t.procs.length = E1 := by rw [firstE_stop _ _ j hlt HI.out.1 (by rw [ea]; exact he1), ea]
                  rw [es]
                  exact ⟨rfl, HW.out.2.2.2.trans F5.out (fun _ _ h => absurd h (fun h => h))⟩
              · have qt := box_kept HQ3.out.1 HJ.out.1 (fun h => h)
                have n8 : w.heap.size < wr.heap.size := lt_of_block qt
                have n9 : w.heap.size ≠ wr.heap.size := by omega
                have c0 := cells_row qt 0 _ rfl
                have c1 := cells_row qt 1 _ rfl
                have c2 := cells_row qt 2 _ rfl
                have c3 := cells_row qt 3 _ rfl
                have c4 := cells_row qt 4 _ rfl
                have c5 := cells_row qt 5 _ rfl
                obtain ⟨wx, hwx⟩ : ∃ wx, wx = wr.alloc (.cells #[.int .u8 qk, .int .i64 qm, .slice qa qn qc, .slice qa2 qn2 qc2] 34) := ⟨_, rfl⟩
                have fx : Fr (fun _ => False) wr wx := by rw [hwx]; exact (Fr.refl _ _).alloc _
                have qx : wx.heap[wr.heap.size]? = some (.cells #[.int .u8 qk, .int .i64 qm, .slice qa qn qc, .slice qa2 qn2 qc2] 34 (0, 0)) := by rw [hwx]; exact heap_alloc_new _ _
                have fw : Fr (fun k => b ≤ k) w wx := (F3.out.trans HJ.out.1 (fun _ _ h => absurd h (fun h => h))).trans fx (fun _ _ h => absurd h (fun h => h))
                have hrt := right_any t.types p.answers R (.agg #[.int .u8 qk, .int .i64 qm, .slice qa qn qc, .slice qa2 qn2 qc2]) (.slice ta t.types.length tc) wx 5 5 rfl (by omega) (Shows.fr fw (fun k hk => NB.out k hk) _ _ HY.out) (Hal.out.fr fw (fun k hk => NB.out k hk))
                obtain ⟨E1, hE1⟩ : ∃ E1, E1 = rightE t.types p.answers 5 := ⟨_, rfl⟩
                rw [← hE1, hwx] at hrt
                have HE1 := Lib.hid hE1
                have HW := Lib.hid (And.intro hwx (And.intro fx (And.intro qx fw)))
                have QT := Lib.hid qt
                clear hE1 hwx fx qx fw qt
                go_wp2_with fail
                refine hrt.mono ?_
                rintro e w5 ⟨rfl, f5⟩
                rw [← HW.out.1] at f5
                have F5 := Lib.hid f5
                clear f5 hrt
                by_cases he1 : E1 = 0
                · subst he1
                  have fw5 : Fr (fun k => b ≤ k) w w5 := HW.out.2.2.2.trans F5.out (fun _ _ h => absurd h (fun h => h))
                  have qx := box_kept HW.out.2.2.1 F5.out (fun h => h)
                  have qt := box_kept (box_kept QT.out HW.out.2.1 (fun h => h)) F5.out (fun h => h)
                  have m0 := cells_row qx 0 _ rfl
                  have m1 := cells_row qx 1 _ rfl
                  have m2 := cells_row qx 2 _ rfl
                  have m3 := cells_row qx 3 _ rfl
                  have k0 := cells_row qt 0 _ rfl
                  have k1 := cells_row qt 1 _ rfl
                  have k2 := cells_row qt 2 _ rfl
                  have k3 := cells_row qt 3 _ rfl
                  have k4 := cells_row qt 4 _ rfl
                  have k5 := cells_row qt 5 _ rfl
                  have hwh := tabWhole_any R t p.answers _ (.agg #[.int .u8 qk, .int .i64 qm, .slice qa qn qc, .slice qa2 qn2 qc2]) w5 (HT0.out.fr fw5 (fun k hk => NB.out k hk)) (Shows.fr fw5 (fun k hk => NB.out k hk) _ _ HY.out)
                  have HX5 := Lib.hid fw5
                  obtain ⟨E2, hE2⟩ : ∃ E2, E2 = (wholeE 20 t.types p.answers 200).e := ⟨_, rfl⟩
                  have hue : usedE t.types p.answers = E2 := by unfold usedE; rw [if_pos HE1.out.symm, hE2]
                  have HUE := Lib.hid hue
                  have HE2 := Lib.hid hE2
                  clear fw5 qx qt c0 c1 c2 c3 c4 c5 hue hE2
                  go_wp2_with fail
                  refine hwh.mono ?_
                  rintro e w6 ⟨tv, rfl, f6, hs6⟩
                  rw [← HE2.out]
                  obtain ⟨k7, m7, a7, n7, c7, a8, n8, c8, rfl⟩ := hs6.four
                  have F6 := Lib.hid f6
                  clear f6 hs6 hwh m0 m1 m2 m3 k0 k1 k2 k3 k4 k5
                  have F7 := Lib.hid (HW.out.2.1.trans (F5.out.trans F6.out (fun _ _ h => h)) (fun _ _ h => h))
                  by_cases he2 : E2 = 0
                  · subst he2
                    go_wp2
                    go_roundg (2 - (1 + 1))
                    case measure => omega
                    case rel => exact ⟨1 + 1, by omega, rfl, by go_num, Lib.hid ⟨(HJ.out.1.trans F7.out (fun _ _ h => h)).alloc _, fun _ => HJ.out.2.1 (by omega), fun _ => HUE.out⟩⟩
                  · have he' : ¬ (E2 : Int) = 0 := by omega
                    go_wp2
                    go_ret
                    have ea : procE bef t.types t.procs j = E2 := by rw [EA.out, if_pos (HJ.out.2.1 (by omega)), HUE.out]
                    have es : firstE (procE bef t.types t.procs) t.procs.length = E2 := by rw [firstE_stop _ _ j hlt HI.out.1 (by rw [ea]; exact he2), ea]
                    rw [es]
                    exact ⟨rfl, (F3.out.trans (HJ.out.1.trans F7.out (fun _ _ h => h)) (fun _ _ h => absurd h (fun h => h))).alloc _⟩
                · have he' : ¬ (E1 : Int) = 0 := by omega
                  go_wp2
                  go_ret
                  have hue : usedE t.types p.answers = E1 := by unfold usedE; rw [← HE1.out, if_neg he1]
                  have ea : procE bef t.types t.procs j = E1 := by rw [EA.out, if_pos (HJ.out.2.1 (by omega)), hue]
                  have es : firstE (procE bef t.types t.procs) t.procs.length = E1 := by rw [firstE_stop _ _ j hlt HI.out.1 (by rw [ea]; exact he1), ea]
                  rw [es]
                  exact ⟨rfl, HW.out.2.2.2.trans F5.out (fun _ _ h => absurd h (fun h => h))⟩
              · have ea : procE bef t.types t.procs j = 0 := by rw [EA.out, if_pos (HJ.out.2.1 (by omega))]; exact HJ.out.2.2 (by omega)
                have EA0 := Lib.hid ea
                clear ea
                go_wp2
                go_roundg (t.procs.length - (j + 1))
                case measure => omega
                case rel =>
                  refine ⟨j + 1, by omega, rfl, by go_num, Lib.hid ⟨firstE_step _ _ HI.out.1 EA0.out, F3.out.trans HJ.out.1 (fun _ _ h => absurd h (fun h => h)), box_kept HQ3.out.1 HJ.out.1 (fun h => h), ?_⟩⟩
                  rw [HTK.out]
                  exact (HQ.out.2.2.2.guard (Q := fun k => k < b ∨ k = w.heap.size) (fun k _ h => .inl h)).fr (f3.out.trans HJ.out.1 (fun _ _ h => h)) (fun _ h => absurd h (fun h => h))
      · have he' : ¬ (E : Int) = 0 := by omega
        go_wp2
        go_ret
        have ea : procE bef t.types t.procs j = E := by unfold procE; rw [HGD.out]; rw [if_neg (by rw [← HE.out]; exact he), HE.out]
        have es : firstE (procE bef t.types t.procs) t.procs.length = E := by rw [firstE_stop _ _ j hlt HI.out.1 (by rw [ea]; exact he), ea]
        rw [es]
        exact ⟨rfl, (HI.out.2.1.trans HB.out.2.1 (fun _ _ h => absurd h (fun h => h))).trans HF2.out.1 (fun i hi h => by omega)⟩
    · obtain rfl : j = t.procs.length := by omega
      go_wp2
      go_ret
      rw [HI.out.1]
      exact ⟨rfl, HI.out.2.1⟩
end
end Go.Proofs.YtplipjijaaejlaaGreat
