/-
  The laws' count of the types in one, references being what they stand for.
-/
import Derived.Test.YtdaabgnfgdojhaaKindStands
import Derived.Test.YtdaabgnfgdojhaaKindSizeDef
import Derived.Test.YtdaabgnfgdojhaaRegion
import Derived.Test.YtdaabgnfgdojhaaKindCopy
import Derived.Test.YtdaabgnfgdojhaaKindWell
import Derived.Test.YtdaabgnfgdojhaaKindCheck
import Derived.IntWalk
import Derived.Deep.Cut
import Derived.Deep.CutRange
namespace Go.Proofs.Ytdaabgnfgdojhaa
open Go.RowKit
set_option linter.unusedSimpArgs false
set_option linter.unusedVariables false

theorem stands_spec {al : List (Txt × KT)} {s : Txt} (h : ¬ standsN al [s] < 0) : ∃ (j : Nat) (hj : j < al.length), standsN al [s] = j ∧ al[j].1 = s ∧ ∀ i, (hi : i < j) → (al[i]'(by omega)).1 ≠ s := by
  have e : standsN al [s] = firstAt (fun x => decide (x.1 = s)) al := rfl
  rw [e] at h ⊢
  have h1 : al.any (fun x => decide (x.1 = s)) = true := by
    cases hc : al.any (fun x => decide (x.1 = s)) with
    | true => rfl
    | false => exact absurd (by unfold firstAt; rw [hc]; simp) h
  have hlt := List.findIdx_lt_length_of_exists (p := fun x : Txt × KT => decide (x.1 = s)) (xs := al) (by
    obtain ⟨x, hx, hp⟩ := List.any_eq_true.1 h1
    exact ⟨x, hx, hp⟩)
  refine ⟨_, hlt, by unfold firstAt; rw [if_pos h1], by simpa using List.findIdx_getElem (w := hlt), fun i hi => ?_⟩
  have := List.not_of_lt_findIdx hi
  simpa using this

/-- The count goes up to a thousand. -/
def capF (f : Nat → Nat) : Nat → Nat
  | 0 => 1
  | n + 1 => if capF f n < 1000 then capF f n + min 1000 (f n) else capF f n

theorem capF_sum (f : Nat → Nat) (n : Nat) : min 1000 (capF f n) = min 1000 (1 + ((List.range n).map f).sum) ∧ capF f n ≤ 2000 ∧ 1 ≤ capF f n := by
  induction n with
  | zero => simp [capF]
  | succ n ih =>
    rw [sum_succ]
    obtain ⟨h1, h2, h3⟩ := ih
    unfold capF
    split
    · omega
    · omega

set_option maxRecDepth 100000 in
set_option maxHeartbeats 16000000 in
theorem parts_any (lv : Nat) : ∀ (al : List (Txt × KT)) (t : KT) (R : Nat → Prop) (w : World) (na : ByteArray) (n1 n2 : Int) (av : Value) (fa : Option Addr) (fk fc : Nat) (pa : Option Addr) (pk pc : Nat) (v : Value) (mz : Int), fitsF lv al t → Aliases R w al av → Shows R w t v →
    Calls Try.prog 15 #[.agg #[.string na, .int .i64 n1, .int .i64 n2, av, .slice fa fk fc, .slice pa pk pc], v, .int .i64 mz] w fun e w' => e = .returned (.int .i64 ((min 1000 (sizeF lv al t) : Nat) : Int)) ∧ Fr (fun _ => False) w w' := by
  induction lv with
  | zero => exact fun _ _ _ _ _ _ _ _ _ _ _ _ _ _ _ _ h => h.elim
  | succ lv ih =>
  intro al t R w na n1 n2 av fa fk fc pa pk pc v mz hfit hal hsh
  cases t with
  | nil => exact hsh.elim
  | mk k m ns n of =>
  have HAL := Lib.hid hal
  have HSH := Lib.hid hsh
  have hl0 : al.length ≤ 1000 := hal.1
  obtain ⟨aa, ac, rfl, hs⟩ := hal.shape
  obtain ⟨vn, vo, rfl, hk, hn, ht, ho⟩ := hsh
  obtain ⟨ta, tc, rfl, hts⟩ := ht.shape
  obtain ⟨oa, oc, rfl, hos⟩ : ∃ a cap, vo = .slice a n cap ∧ (n = 0 ∨ n ≤ cap ∧ ∃ g off, a = some ⟨g, off, none⟩ ∧ ∀ i, i < n → ∃ x0 x1 x2 x3,
      w.cell? ⟨g, off + i * 4, none⟩ = some x0 ∧ w.cell? ⟨g, off + i * 4 + 1, none⟩ = some x1 ∧ w.cell? ⟨g, off + i * 4 + 2, none⟩ = some x2 ∧ w.cell? ⟨g, off + i * 4 + 3, none⟩ = some x3 ∧ Shows R w (of i) (.agg #[x0, x1, x2, x3])) := by
    rcases ho with ⟨rfl, a, cap, rfl⟩ | ⟨g, off, cap, hg, rfl, hle, hcell⟩
    · exact ⟨a, cap, rfl, .inl rfl⟩
    · exact ⟨_, cap, rfl, .inr ⟨hle, g, off, rfl, hcell⟩⟩
  have HS := Lib.hid hs
  have HTS := Lib.hid hts
  have HOS := Lib.hid hos
  have HFIT := Lib.hid hfit
  clear hs hts hos ho ht hal hfit
  have IH := Lib.hid ih
  clear ih
  have HSZ := Lib.hid (show sizeF (lv + 1) al (.mk k m ns n of) = if k = 9 then sizeF lv (al.take (standsN al ns).toNat) (al.getD (standsN al ns).toNat ([], .nil)).2 else 1 + ((List.range n).map (fun i => sizeF lv al (of i))).sum from rfl)
  obtain ⟨sz, hsz⟩ : ∃ z, z = sizeF (lv + 1) al (.mk k m ns n of) := ⟨_, rfl⟩
  rw [← hsz]
  have HSE := Lib.hid hsz
  clear hsz
  obtain ⟨kz, hkz⟩ : ∃ kz : Int, kz = k := ⟨_, rfl⟩
  rw [← hkz] at HSH ⊢
  have HKZ := Lib.hid hkz
  clear hkz
  obtain ⟨w0, hw0⟩ : ∃ w0, w0 = (w.alloc (.cells #[.string na, .int .i64 n1, .int .i64 n2, .slice aa al.length ac, .slice fa fk fc, .slice pa pk pc] 32)).alloc (.cells #[.int .u8 kz, .int .i64 m, .slice ta ns.length tc, .slice oa n oc] 38) := ⟨_, rfl⟩
  have H0 := Lib.hid (show Fr (fun _ => False) w w0 ∧ w0.heap[w.heap.size]? = some (.cells #[.string na, .int .i64 n1, .int .i64 n2, .slice aa al.length ac, .slice fa fk fc, .slice pa pk pc] 32 (0, 0)) ∧ w0.heap[w.heap.size + 1]? = some (.cells #[.int .u8 kz, .int .i64 m, .slice ta ns.length tc, .slice oa n oc] 38 (0, 0)) from by
    rw [hw0]
    refine ⟨((Fr.refl _ _).alloc _).alloc _, box_kept (S := fun _ => False) (heap_alloc_new _ _) ((Fr.refl _ _).alloc _) (fun h => h), ?_⟩
    have := heap_alloc_new (w.alloc (.cells #[.string na, .int .i64 n1, .int .i64 n2, .slice aa al.length ac, .slice fa fk fc, .slice pa pk pc] 32)) (.cells #[.int .u8 kz, .int .i64 m, .slice ta ns.length tc, .slice oa n oc] 38)
    simpa using this)
  by_cases h9 : kz = 9
  · subst h9
    have hk9 : k = 9 := by have := HKZ.out; omega
    have hf := HFIT.out
    simp only [fitsF, if_pos hk9] at hf
    obtain ⟨hns, hst, hf⟩ := hf
    obtain ⟨s, rfl⟩ : ∃ s, ns = [s] := List.length_eq_one_iff.1 hns
    simp only [List.length_singleton] at H0 hw0 HSH ⊢
    obtain ⟨j0, hj0, est, hnm, hbef⟩ := stands_spec hst
    have hgd : al.getD j0 ([], .nil) = al[j0] := by rw [List.getD_eq_getElem?_getD, List.getElem?_eq_getElem hj0]; rfl
    rw [est, Int.toNat_natCast, hgd] at hf
    have hz : sz = sizeF lv (al.take j0) al[j0].2 := by rw [HSE.out, HSZ.out, if_pos hk9, est, Int.toNat_natCast, hgd]
    have HJ := Lib.hid (And.intro hnm (And.intro hbef (And.intro hf hz)))
    rcases HTS.out with hz' | ⟨htc, gt, ot, _, rfl, htcell⟩
    · simp at hz'
    have ht0 := htcell 0 s rfl
    rw [Nat.add_zero] at ht0
    have HT0 := Lib.hid ht0
    rcases HS.out with hz' | ⟨hac, ga, oa', _, rfl, hacell⟩
    · omega
    have HAC := Lib.hid hacell
    clear hns hst est hnm hbef hgd hf hz htcell ht0 hacell hk9
    go_enter Try.func15, Try.ntmps15
    go_upto_region 2 with fail
    rw [← hw0]
    generalize hg2 : w.heap.size + 1 = g2 at H0 ⊢
    have HG2 := Lib.hid hg2
    have b0 := cells_row H0.out.2.1 3 _ rfl
    simp only [List.getElem_toArray, List.getElem_cons_succ, List.getElem_cons_zero] at b0
    clear hw0 hg2
    go_wp2_with fail
    clear b0
    go_loopg [7, 8, 18] al.length (fun G u7 u8 u18 wr => ∃ j : Nat, j ≤ j0 ∧ G = al.length - j ∧ u18 = .int .i64 j ∧ Hid (Fr (fun _ => False) w wr ∧ wr.heap[w.heap.size]? = some (.cells #[.string na, .int .i64 n1, .int .i64 n2, .slice (some ⟨ga, oa', none⟩) al.length ac, .slice fa fk fc, .slice pa pk pc] 32 (0, 0)) ∧ wr.heap[g2]? = some (.cells #[.int .u8 9, .int .i64 m, .slice (some ⟨gt, ot, none⟩) 1 tc, .slice oa n oc] 38 (0, 0))))
    case atStart => exact ⟨0, Nat.zero_le _, rfl, by go_num, H0⟩
    case round =>
      obtain ⟨j, hj, rfl, rfl, HI⟩ := hrel
      have hlt : j < al.length := by omega
      obtain ⟨d, hd⟩ : ∃ d, d = al[j] := ⟨_, rfl⟩
      obtain ⟨y0, y1, y2, y3, q, q0, q1, q2, q3, hy⟩ := HAC.out j d (by rw [List.getElem?_eq_getElem hlt, hd])
      have up : ∀ {o : Nat} {u : Value}, w.cell? ⟨ga, o, none⟩ = some u → wr.cell? ⟨ga, o, none⟩ = some u := fun {o u} hq => cell_fr (R := fun _ => True) HI.out.1 (fun _ _ h => h) trivial hq
      have q' := up q
      have q0' := up q0
      have q1' := up q1
      have q2' := up q2
      have q3' := up q3
      have t0 : wr.cell? ⟨gt, ot, none⟩ = some (sv s) := cell_fr (R := fun _ => True) HI.out.1 (fun _ _ h => h) trivial HT0.out
      have hgt := World.block_lt_of_cell? wr _ t0
      have hgt' : gt < wr.heap.size := hgt
      have hgt2 : gt ≠ wr.heap.size := by omega
      have hl1 := lt_of_block HI.out.2.1
      have hl2 := lt_of_block HI.out.2.2
      have n1' : w.heap.size ≠ wr.heap.size := by omega
      have n2' : g2 ≠ wr.heap.size := by omega
      have b2 := (cell_of_four HI.out.2.2).2.2.1
      have HD := Lib.hid hd
      have HY := Lib.hid hy
      obtain ⟨yk, ym, ya, yn, yc, ya', yn', yc', rfl, rfl, rfl, rfl⟩ := hy.cells
      have hbs : (d.1 == s) = decide (d.1 = s) := by by_cases h : d.1 = s <;> simp [h]
      clear up q q0 q1 q2 q3 hd hy hgt
      unfold sv at *
      by_cases he : d.1 = s
      · have hb1 : decide (d.1 = s) = true := by simpa using he
        rw [hb1] at hbs
        have He := Lib.hid he
        clear he hb1
        go_wp2_with fail
        go_quiet (fail)
        go_upto_region 6 with fail
        have he0 : j = j0 := Classical.byContradiction fun c => HJ.out.2.1 j (by omega) (by rw [← HD.out]; exact He.out)
        subst he0
        obtain ⟨wb, hwb⟩ : ∃ wb, wb = (wr.alloc (.cells #[.string ⟨d.1.toArray⟩, .int .u8 yk, .int .i64 ym, .slice ya yn yc, .slice ya' yn' yc'] 49)).drewN nq := ⟨_, rfl⟩
        have fb : Fr (fun _ => False) wr wb := by rw [hwb]; exact ((Fr.refl _ _).alloc _).drewN _
        have hbb : wb.heap[wr.heap.size]? = some (.cells #[.string ⟨d.1.toArray⟩, .int .u8 yk, .int .i64 ym, .slice ya yn yc, .slice ya' yn' yc'] 49 (0, 0)) := by rw [hwb]; exact heap_alloc_new _ _
        have HB := Lib.hid (And.intro (HI.out.1.trans fb (fun _ _ h => h)) (And.intro (box_kept HI.out.2.1 fb (fun h => h)) hbb))
        have hf := HJ.out.2.2.1
        rw [← HD.out] at hf
        have HK := Lib.hid (fun (wx : World) (f : Fr (fun _ => False) wb wx) => And.intro (IH.out (al.take j) d.2 R wx ⟨#[]⟩ 0 0 (.slice (some ⟨ga, oa', none⟩) j ac) none 0 0 none 0 0 (.agg #[.int .u8 yk, .int .i64 ym, .slice ya yn yc, .slice ya' yn' yc']) mz hf ((HAL.out.fr (HB.out.1.trans f (fun _ _ h => h)) (fun _ _ h => h)).take j (Nat.le_of_lt hlt)) (Shows.fr (HB.out.1.trans f (fun _ _ h => h)) (fun _ _ h => h) _ _ HY.out))
          (And.intro (box_kept HB.out.2.1 f (fun h => h)) (box_kept HB.out.2.2 f (fun h => h))))
        rw [← hwb]
        have hjc : j ≤ ac := by omega
        clear fb hbb hwb hf q' q0' q1' q2' q3' t0 b2 hbs hgt' hgt2 hl1 hl2 n1' n2'
        refine wp_region_told (by kernel_rfl) (fun a b => Fr (fun _ => False) a b) (fun w => Fr.refl _ w) (fun _ _ _ h k => h.trans k (fun _ _ h => h))
          [30, 31, 32, 33, 34, 35, 36, 37, 38, 6] rfl (by decide) (by intro d hd; simp at hd ⊢; omega)
          (fun i v _ => v = [.pointer (some ⟨w.heap.size, 3, none⟩), .slice (some ⟨ga, oa', none⟩) al.length ac, .int .i64 j, .slice (some ⟨ga, oa', none⟩) j ac,
            .agg #[.string ⟨#[]⟩, .int .i64 0, .int .i64 0, .slice (some ⟨ga, oa', none⟩) j ac, .slice none 0 0, .slice none 0 0], .pointer (some ⟨wr.heap.size, 1, none⟩),
            .agg #[.int .u8 yk, .int .i64 ym, .slice ya yn yc, .slice ya' yn' yc'], .int .i64 mz, .int .i64 ((min 1000 (sizeF lv (al.take j) d.2) : Nat) : Int), .int .i64 ((min 1000 (sizeF lv (al.take j) d.2) : Nat) : Int)].getD i undef)
          (fun _ _ _ _ _ h => h) (by kernel_rfl) ?step ?fin
        case step =>
          intro vals
          simp only [frOf, fill, List.setIfInBounds_toArray, List.set_cons_succ, List.set_cons_zero]
          repeat' (first | exact AllOps.nil | refine AllOps.cons ?_ ?_)
          all_goals
            intro wx hle he K hK
            simp only [Act.put, List.setIfInBounds_toArray, List.set_cons_succ, List.set_cons_zero, List.getD_cons_zero, List.getD_cons_succ] at hK
            simp only [List.mem_cons, List.not_mem_nil, or_false, forall_eq_or_imp, forall_eq, Region.binds, forall_const, false_imp_iff, List.getD_cons_zero, List.getD_cons_succ] at he
            try simp only [he] at hK
            obtain ⟨hrec, qt, qx⟩ := HK.out wx ⟨hle.os, hle.tape, hle.output, hle.size, hle.block⟩
            have e3 := cells_row qt 3 _ rfl
            have a1 := cells_row qx 1 _ rfl
            have a2 := cells_row qx 2 _ rfl
            have a3 := cells_row qx 3 _ rfl
            have a4 := cells_row qx 4 _ rfl
            simp only [List.getElem_toArray, List.getElem_cons_succ, List.getElem_cons_zero] at e3 a1 a2 a3 a4
            clear hle qt qx
            try go_simp
            first
              | (go_at_call 15; refine hrec.mono ?_; rintro e1 wa ⟨rfl, fa⟩; exact hK _ _ fa rfl)
              | exact hK _ _ (Fr.refl _ _) rfl
        case fin =>
          intro vals w' hle hV
          have h9 : vals 9 = .int .i64 ((min 1000 (sizeF lv (al.take j) d.2) : Nat) : Int) := hV 9 (by decide)
          clear hV
          have hfin := HB.out.1.trans (⟨hle.os, hle.tape, hle.output, hle.size, hle.block⟩ : Fr (fun _ => False) wb w') (fun _ _ h => h)
          simp only [frOf, fill, List.setIfInBounds_toArray, List.set_cons_succ, List.set_cons_zero, Nat.reduceAdd, h9]
          go_wp2_with fail
          go_ret
          rw [HJ.out.2.2.2, HD.out]
          exact ⟨rfl, hfin⟩
      · have hb1 : decide (d.1 = s) = false := by simpa using he
        rw [hb1] at hbs
        have He := Lib.hid he
        clear he hb1
        go_wp2_with fail
        go_quiet (fail)
        go_wp2
        go_roundg (al.length - (j + 1))
        case measure => omega
        case rel => exact ⟨j + 1, by
            have : j ≠ j0 := fun e => by
              subst e
              exact He.out (HD.out ▸ HJ.out.1)
            omega, rfl, by go_num, Lib.hid ⟨(HI.out.1.alloc _).drewN _, box_kept HI.out.2.1 (((Fr.refl (fun _ => False) _).alloc _).drewN _) (fun h => h), box_kept HI.out.2.2 (((Fr.refl (fun _ => False) _).alloc _).drewN _) (fun h => h)⟩⟩
  · have hk9 : ¬ k = 9 := by have := HKZ.out; omega
    have hf := HFIT.out
    simp only [fitsF, if_neg hk9] at hf
    obtain ⟨f, hfd⟩ : ∃ f : Nat → Nat, f = fun i => sizeF lv al (of i) := ⟨_, rfl⟩
    have hz : min 1000 sz = min 1000 (capF f n) := by rw [HSE.out, HSZ.out, if_neg hk9, (capF_sum f n).1, hfd]
    have HJ := Lib.hid (And.intro hf hz)
    have HFD := Lib.hid hfd
    have hkb : (kz == 9) = false := by simpa using h9
    clear hf hz hfd hk9
    go_enter Try.func15, Try.ntmps15
    go_upto_region 9 with fail
    rw [← hw0]
    generalize hg2 : w.heap.size + 1 = g2 at H0 ⊢
    have HG2 := Lib.hid hg2
    have b3 := (cell_of_four H0.out.2.2).2.2.2
    clear hw0 hg2
    go_wp2_with fail
    clear b3
    go_loopg [9, 11, 43] n (fun G u9 u11 u43 wr => ∃ j : Nat, j ≤ n ∧ G = n - j ∧ u43 = .int .i64 j ∧ u9 = .int .i64 ((capF f j : Nat) : Int) ∧ Hid (Fr (fun _ => False) w wr ∧ wr.heap[w.heap.size]? = some (.cells #[.string na, .int .i64 n1, .int .i64 n2, .slice aa al.length ac, .slice fa fk fc, .slice pa pk pc] 32 (0, 0)) ∧ wr.heap[g2]? = some (.cells #[.int .u8 kz, .int .i64 m, .slice ta ns.length tc, .slice oa n oc] 38 (0, 0))))
    case atStart => exact ⟨0, Nat.zero_le _, rfl, by go_num, rfl, H0⟩
    case round =>
      obtain ⟨j, hj, rfl, rfl, rfl, HI⟩ := hrel
      obtain ⟨cj, hcj⟩ : ∃ c, c = capF f j := ⟨_, rfl⟩
      have hcb : cj ≤ 2000 ∧ 1 ≤ cj := by rw [hcj]; exact (capF_sum f j).2
      obtain ⟨hcb, hcb1⟩ := hcb
      rw [← hcj]
      have HCJ := Lib.hid hcj
      clear hcj
      by_cases hlt : j < n
      · rcases HOS.out with hz' | ⟨hoc, go, oo, rfl, hocell⟩
        · omega
        obtain ⟨y0, y1, y2, y3, q0, q1, q2, q3, hy⟩ := hocell j hlt
        have up : ∀ {o : Nat} {u : Value}, w.cell? ⟨go, o, none⟩ = some u → wr.cell? ⟨go, o, none⟩ = some u := fun {o u} hq => cell_fr (R := fun _ => True) HI.out.1 (fun _ _ h => h) trivial hq
        have q0' := up q0
        have q1' := up q1
        have q2' := up q2
        have q3' := up q3
        have hl1 := lt_of_block HI.out.2.1
        have n1' : w.heap.size ≠ wr.heap.size := by omega
        have HY := Lib.hid hy
        obtain ⟨yk, ym, ya, yn, yc, ya', yn', yc', rfl, rfl, rfl, rfl⟩ := hy.cells
        clear up q0 q1 q2 q3 hy hocell
        by_cases hc : cj < 1000
        · have hcz : (cj : Int) < 1000 := by omega
          have e0 := cells_row HI.out.2.1 0 _ rfl
          have e1 := cells_row HI.out.2.1 1 _ rfl
          have e2 := cells_row HI.out.2.1 2 _ rfl
          have e3 := cells_row HI.out.2.1 3 _ rfl
          have e4 := cells_row HI.out.2.1 4 _ rfl
          have e5 := cells_row HI.out.2.1 5 _ rfl
          simp only [List.getElem_toArray, List.getElem_cons_succ, List.getElem_cons_zero] at e0 e1 e2 e3 e4 e5
          obtain ⟨wb, hwb⟩ : ∃ wb, wb = wr.alloc (.cells #[.int .u8 yk, .int .i64 ym, .slice ya yn yc, .slice ya' yn' yc'] 38) := ⟨_, rfl⟩
          have fb : Fr (fun _ => False) wr wb := by rw [hwb]; exact (Fr.refl _ _).alloc _
          have FB := Lib.hid fb
          have fw := HI.out.1.trans fb (fun _ _ h => h)
          have hrec := IH.out al (of j) R wb na n1 n2 (.slice aa al.length ac) fa fk fc pa pk pc (.agg #[.int .u8 yk, .int .i64 ym, .slice ya yn yc, .slice ya' yn' yc']) mz (HJ.out.1 j hlt) (HAL.out.fr fw (fun _ _ h => h)) (Shows.fr fw (fun _ _ h => h) _ _ HY.out)
          obtain ⟨q, hq⟩ : ∃ q, q = min 1000 (sizeF lv al (of j)) := ⟨_, rfl⟩
          have hqb : q ≤ 1000 := by omega
          have E := Lib.hid (show ((capF f (j + 1) : Nat) : Int) = (cj : Int) + (q : Int) from by
            have hc' : capF f j < 1000 := by rw [← HCJ.out]; exact hc
            have hfj : f j = sizeF lv al (of j) := by rw [HFD.out]
            simp only [capF, if_pos hc', hfj]
            have := HCJ.out
            omega)
          rw [← hq, hwb] at hrec
          rw [hwb] at FB
          clear fb fw hwb hq hc
          go_wp2_with fail
          refine hrec.mono ?_
          rintro e w5 ⟨rfl, f5⟩
          have F5 := Lib.hid (FB.out.trans f5 (fun _ _ h => h))
          clear f5 hrec FB e0 e1 e2 e3 e4 e5 q0' q1' q2' q3'
          go_wp2
          go_roundg (n - (j + 1))
          case measure => omega
          case rel => exact ⟨j + 1, by omega, rfl, by go_num, by rw [E.out], Lib.hid ⟨HI.out.1.trans F5.out (fun _ _ h => h), box_kept HI.out.2.1 F5.out (fun h => h), box_kept HI.out.2.2 F5.out (fun h => h)⟩⟩
        · have hcz : ¬ (cj : Int) < 1000 := by omega
          have E := Lib.hid (show ((capF f (j + 1) : Nat) : Int) = (cj : Int) from by
            have hc' : ¬ capF f j < 1000 := by rw [← HCJ.out]; exact hc
            simp only [capF, if_neg hc']
            rw [HCJ.out])
          clear hc
          go_wp2
          go_roundg (n - (j + 1))
          case measure => omega
          case rel => exact ⟨j + 1, by omega, rfl, by go_num, by rw [E.out], Lib.hid ⟨HI.out.1.alloc _, box_kept HI.out.2.1 ((Fr.refl (fun _ => False) _).alloc _) (fun h => h), box_kept HI.out.2.2 ((Fr.refl (fun _ => False) _).alloc _) (fun h => h)⟩⟩
      · obtain rfl : j = n := by omega
        have hmin : ∀ (ts : Array TypeId) (t : TypeId) (W : World), (Builtin.min_ ts t #[.int .i64 cj, .int .i64 1000]).run Try.prog W = .ok (.int .i64 ((min 1000 sz : Nat) : Int)) W := by
          intro ts t W
          have h1 := HJ.out.2
          rw [← HCJ.out] at h1
          rw [h1]
          simp [Builtin.min_, Builtin.min2]
          omega
        go_wp2
        go_ret
        exact ⟨rfl, HI.out.1⟩

end Go.Proofs.Ytdaabgnfgdojhaa
