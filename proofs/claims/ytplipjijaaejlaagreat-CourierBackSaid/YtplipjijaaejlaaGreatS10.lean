/-
  CouBack, part 10 of what it rests on: KindWhole2.
-/
import Derived.Test.YtplipjijaaejlaaGreatS09
set_option linter.unusedVariables false
set_option linter.unusedSimpArgs false
set_option maxHeartbeats 64000000
namespace Go.Proofs.YtplipjijaaejlaaGreat
open Go.RowKit
open Go.Lib (hid)
section
theorem first_one4 {P : Program} {w : World} {g : Nat} {y0 y1 y2 y3 : Value} {t : TypeId} {fr : Nat × Nat} (c : Nat) (h : w.heap[g]? = some (.cells #[y0, y1, y2, y3] t fr)) :
    (Builtin.firstCells 4 1 (.slice (some ⟨g, 0, none⟩) 1 c)).run P w = .ok #[y0, y1, y2, y3] w := by
  have := run_firstCells_some (P := P) w 4 1 ⟨g, 0, none⟩ 1 c [y0, y1, y2, y3] rfl (by
    intro j v hj
    have hplain : (⟨g, 0, none⟩ : Addr).add j = ⟨g, j, none⟩ := by unfold Addr.add; split <;> simp_all
    rw [hplain, cell_of_row w g j _ t fr h]
    simpa using hj)
  simpa using this

set_option maxRecDepth 100000 in
theorem whole_rest (lv : Nat) (ih : WholeAt lv) (al : List (Txt × KT)) (k : Nat) (m : Int) (ns : List Txt) (n : Nat) (of : Nat → KT) (R : Nat → Prop) (v av : Value) (lz : Int) (lb l : Nat) (w : World) (hk9 : k ≠ 9) (hlz : lz = lv + 1) (hlv : lv ≤ 99) (hl : l ≤ 1000) (hR : ¬ R lb) (hsh : Shows R w (.mk k m ns n of) v) (hal : Aliases R w al av) (hb : w.heap[lb]? = some (.cells #[.int .i64 l] 3 (0, 0))) :
    Calls Tryz.prog 103 #[v, av, .int .i64 lz, .pointer (some ⟨lb, 0, none⟩)] w (Wholed (wholeE (lv + 1) al (.mk k m ns n of) l) lb w) := by
  obtain ⟨i0, hi, hz0, hz1, hz2⟩ := info_parts Tryz.infoType
  have hlb := lt_of_block hb
  obtain ⟨vn, vo, rfl, hk255, hn, ht, ho⟩ := hsh
  have Ht := Lib.hid ht
  obtain ⟨a, c, rfl, _⟩ := ht.shape
  obtain ⟨a', c', rfl, hso⟩ : ∃ a' c', vo = .slice a' n c' ∧ (n = 0 ∨ n ≤ c' ∧ ∃ g off, R g ∧ a' = some ⟨g, off, none⟩ ∧ ∀ i, i < n → ∃ x0 x1 x2 x3,
      w.cell? ⟨g, off + i * 4, none⟩ = some x0 ∧ w.cell? ⟨g, off + i * 4 + 1, none⟩ = some x1 ∧ w.cell? ⟨g, off + i * 4 + 2, none⟩ = some x2 ∧ w.cell? ⟨g, off + i * 4 + 3, none⟩ = some x3 ∧
      Shows R w (of i) (.agg #[x0, x1, x2, x3])) := by
    rcases ho with ⟨rfl, a', c', rfl⟩ | ⟨g, off, cap', hg, rfl, hle, hc⟩
    · exact ⟨a', c', rfl, .inl rfl⟩
    · exact ⟨_, cap', rfl, .inr ⟨hle, g, off, hg, rfl, hc⟩⟩
  have Hso := Lib.hid hso
  clear ho ht hso
  have hl' : (lz == 0) = false := by simp; omega
  have h9' : ((k : Int) == 9) = false := by simp; omega
  have hz0' : 1 ≤ lz := by omega
  have hz1' : lz ≤ 100 := by omega
  have Hlz := Lib.hid hlz
  have Hb := Lib.hid hb
  have Hal := Lib.hid hal
  have HK9 := Lib.hid hk9
  clear hlz hb hal hk9
  obtain ⟨f, hf⟩ : ∃ f, f = fun i l => wholeE lv al (of i) l := ⟨_, rfl⟩
  have e9 : wholeE (lv + 1) al (.mk k m ns n of) l = if l = 0 then ⟨6, zeroT, l⟩ else
      if (wholeAll f n (l - 1)).e = 0 then ⟨0, .mk k m ns n (fun i => (wholeAll f n (l - 1)).ts.getD i .nil), (wholeAll f n (l - 1)).left⟩ else ⟨(wholeAll f n (l - 1)).e, zeroT, (wholeAll f n (l - 1)).left⟩ := by
    simp only [wholeE, if_neg HK9.out, hf]
  have E9 := Lib.hid e9
  have HF := Lib.hid hf
  clear e9 hf
  obtain ⟨w0, hw0⟩ : ∃ w0, w0 = (w.alloc (.cells #[.int .u8 k, .int .i64 m, .slice a ns.length c, .slice a' n c'] 34)).alloc (.cells #[.int .u8 0, .int .i64 0, .slice none 0 0, .slice none 0 0] 34) := ⟨_, rfl⟩
  have f0 : Hid (Fr (fun _ => False) w w0) := Lib.hid (by rw [hw0]; exact ((Fr.refl _ _).alloc _).alloc _)
  have q4 : Hid (w0.heap[w.heap.size]? = some (.cells #[.int .u8 k, .int .i64 m, .slice a ns.length c, .slice a' n c'] 34 (0, 0))) := Lib.hid (by rw [hw0, Below.heap_alloc _ _ _ (by simp)]; exact heap_alloc_new _ _)
  have q8 : Hid (w0.heap[w.heap.size + 1]? = some (.cells #[.int .u8 0, .int .i64 0, .slice none 0 0, .slice none 0 0] 34 (0, 0))) := Lib.hid (by rw [hw0]; exact heap_alloc_two _ _ _)
  have q0 : Hid (w0.heap[lb]? = some (.cells #[.int .i64 l] 3 (0, 0))) := Lib.hid (box_kept Hb.out f0.out (fun h => h))
  have s0 : Hid (w0.heap.size = w.heap.size + 2) := Lib.hid (by rw [hw0]; simp)
  have cl := cell_of_one Hb.out
  have zl := free_of_one Hb.out
  by_cases hl0 : l = 0
  · subst hl0
    go_enter Tryz.func103, Tryz.ntmps103
    go_wp2
    rw [← hw0]
    refine bodyPost_ret (results_cell_tmp_row rfl _ _ (w.heap.size + 1) 34 _ _ _ rfl q8.out Tryz.underlying34 rfl (by kernel_rfl)) rfl ?_
    simp only [E9.out, if_true]
    exact wholed_zero (e := 6) (f0.out.mono (fun _ _ h => absurd h (fun h => h))) q0.out hl
  · have hl0' : ((l : Int) == 0) = false := by simp; omega
    have hl1 : 1 ≤ l := by omega
    have HL0 := Lib.hid hl0
    clear hl0
    go_enter Tryz.func103, Tryz.ntmps103
    go_wp2
    obtain ⟨wz, hwz⟩ : ∃ wz, wz = w.setCell ⟨lb, 0, none⟩ (.int .i64 ((l : Int) - 1)) := ⟨_, rfl⟩
    have fz : Fr (fun k => k = lb) w wz := by
      rw [hwz]; exact Fr.setCell (p := ⟨lb, 0, none⟩) (Fr.refl (fun k => k = lb) w) (fun _ => rfl) _
    have sz : wz.heap.size = w.heap.size := by rw [hwz]; simp [World.setCell]
    have g0 : wz.heap[lb]? = some (.cells #[.int .i64 ((wholeAll f 0 (l - 1)).left : Nat)] 3 (0, 0)) := by
      rw [hwz, one_setCell Hb.out]
      show some (Obj.cells #[.int .i64 ((l : Int) - 1)] _ _) = some (Obj.cells #[.int .i64 ((l - 1 : Nat) : Int)] _ _)
      rw [show ((l - 1 : Nat) : Int) = (l : Int) - 1 by omega]
    rw [← hwz]
    obtain ⟨w2, hw2⟩ : ∃ w2, w2 = (wz.alloc (.cells #[.int .u8 k, .int .i64 m, .slice a ns.length c, .slice a' n c'] 34)).alloc (.cells #[.int .u8 0, .int .i64 0, .slice none 0 0, .slice none 0 0] 34) := ⟨_, rfl⟩
    rw [← hw2]
    have f2 : Fr (fun k => k = lb) w w2 := by rw [hw2]; exact (fz.alloc _).alloc _
    have g0 : w2.heap[lb]? = some (.cells #[.int .i64 ((wholeAll f 0 (l - 1)).left : Nat)] 3 (0, 0)) := by
      rw [hw2, Below.heap_alloc _ _ _ (by simp; omega), Below.heap_alloc _ _ _ (by omega)]; exact g0
    have g4 : w2.heap[w.heap.size]? = some (.cells #[.int .u8 k, .int .i64 m, .slice a ns.length c, .slice a' n c'] 34 (0, 0)) := by
      rw [hw2, Below.heap_alloc _ _ _ (by simp; omega), ← sz]; exact heap_alloc_new _ _
    have g8 : w2.heap[w.heap.size + 1]? = some (.cells #[.int .u8 0, .int .i64 0, .slice none 0 0, .slice none 0 0] 34 (0, 0)) := by
      rw [hw2, ← sz]; exact heap_alloc_two _ _ _
    have HSt := Lib.hid (And.intro f2 (And.intro g0 (And.intro g4 g8)))
    clear f2 g0 g4 g8 hw2 hw0 fz sz hwz
    go_loopg [13, 14, 15, 11, 55] n (fun G u13 u14 u15 u11 u55 wr => ∃ j : Nat, j ≤ n ∧ G = n - j ∧ u55 = .int .i64 j ∧ Hid ((Fr (fun k => k = lb) w wr ∧ wr.heap[lb]? = some (.cells #[.int .i64 ((wholeAll f j (l - 1)).left : Nat)] 3 (0, 0)) ∧
      wr.heap[w.heap.size]? = some (.cells #[.int .u8 k, .int .i64 m, .slice a ns.length c, .slice a' n c'] 34 (0, 0)) ∧ wr.heap[w.heap.size + 1]? = some (.cells #[.int .u8 0, .int .i64 0, .slice none 0 0, .slice none 0 0] 34 (0, 0))) ∧
      (wholeAll f j (l - 1)).e = 0 ∧ (wholeAll f j (l - 1)).ts.length = j ∧ (wholeAll f j (l - 1)).left ≤ 1000 ∧ TyRow (w.heap.size + 2) wr u11 (wholeAll f j (l - 1)).ts))
    case atStart => exact ⟨0, Nat.zero_le _, rfl, by go_num, Lib.hid ⟨HSt.out, rfl, rfl, (by show l - 1 ≤ 1000; omega), TyRow.nil _ _⟩⟩
    case round =>
      obtain ⟨j, hj, rfl, rfl, HI⟩ := hrel
      by_cases hlt : j < n
      · rcases Hso.out with hz | ⟨hcap, g, off, hg, rfl, hcell⟩
        · omega
        obtain ⟨x0, x1, x2, x3, y0, y1, y2, y3, hx⟩ := hcell j hlt
        have hgl : g < w.heap.size := World.block_lt_of_cell? w _ y0
        have nlb : ∀ k, R k → ¬ k = lb := fun k hk e => hR (e ▸ hk)
        have y0 := cell_fr HI.out.1.1 nlb hg y0
        have y1 := cell_fr HI.out.1.1 nlb hg y1
        have y2 := cell_fr HI.out.1.1 nlb hg y2
        have y3 := cell_fr HI.out.1.1 nlb hg y3
        obtain ⟨pk, pm, pa, pn, pc, pa', pn', pc', rfl, rfl, rfl, rfl⟩ := hx.cells
        have hws : w.heap.size + 2 ≤ wr.heap.size := by have := lt_of_block HI.out.1.2.2.2; omega
        have NLB := Lib.hid nlb
        clear hcell nlb
        have hwr : IntKind.i64.wrap (lz - 1) = lz - 1 := IntWalk.i64_in _ (by omega)
        obtain ⟨wb, hwb⟩ : ∃ wb, wb = wr.alloc (.cells #[.int .u8 pk, .int .i64 pm, .slice pa pn pc, .slice pa' pn' pc'] 34) := ⟨_, rfl⟩
        have fb : Fr (fun _ => False) wr wb := by rw [hwb]; exact (Fr.refl _ _).alloc _
        have fwb : Fr (fun k => k = lb) w wb := HI.out.1.1.trans fb (fun _ _ h => absurd h (fun h => h))
        have swb : wb.heap.size = wr.heap.size + 1 := by rw [hwb]; simp
        have hcall := ih al (of j) R (.agg #[.int .u8 pk, .int .i64 pm, .slice pa pn pc, .slice pa' pn' pc']) av (lz - 1) lb (wholeAll f j (l - 1)).left wb (by have := Hlz.out; omega) (by omega) HI.out.2.2.2.1 hR
          (Shows.fr fwb (fun k hk => NLB.out k hk) _ _ hx) (Hal.out.fr fwb (fun k hk => NLB.out k hk)) (box_kept HI.out.1.2.1 fb (fun h => h))
        obtain ⟨r, hr⟩ : ∃ r, r = f j (wholeAll f j (l - 1)).left := ⟨_, rfl⟩
        have hr' : wholeE lv al (of j) (wholeAll f j (l - 1)).left = r := by rw [hr, HF.out]
        rw [hr', hwb] at hcall
        have HR := Lib.hid hr
        have HB := Lib.hid (And.intro hwb (And.intro fb (And.intro fwb swb)))
        clear hx hr hr' hwb fb fwb swb
        obtain ⟨E, hE⟩ : ∃ E, E = r.e := ⟨_, rfl⟩
        have HE := Lib.hid hE
        rw [show Wholed r lb = fun w0 e w' => ∃ tv, e = .returned (.tuple #[tv, .int .i64 (E : Nat)]) ∧ Fr (fun k => k = lb) w0 w' ∧ w'.heap[lb]? = some (.cells #[.int .i64 (r.left : Nat)] 3 (0, 0)) ∧ Shows (fun k => w0.heap.size ≤ k) w' r.t tv ∧ r.left ≤ 1000 by rw [hE]; rfl] at hcall
        clear hE
        go_wp2_with fail
        refine hcall.mono ?_
        rintro e w3 ⟨tv, rfl, f3, g3, hs3, hl3⟩
        obtain ⟨k2, m2, a2, n2, c2, a3, n3, c3, rfl⟩ := hs3.four
        rw [← HB.out.1] at f3 hs3
        have h8 := box_kept (box_kept HI.out.1.2.2.2 HB.out.2.1 (fun h => h)) f3 (by omega)
        have h4 := box_kept (box_kept HI.out.1.2.2.1 HB.out.2.1 (fun h => h)) f3 (by omega)
        have hs3w : w.heap.size + 2 ≤ w3.heap.size := by have := f3.size; have := HB.out.2.2.2; omega
        go_upto_region 16 with fail
        obtain ⟨w4, hw4⟩ : ∃ w4, w4 = w3.alloc (.cells #[.int .u8 k2, .int .i64 m2, .slice a2 n2 c2, .slice a3 n3 c3] 34) := ⟨_, rfl⟩
        rw [← hw4]
        have f4 : Fr (fun _ => False) w3 w4 := by rw [hw4]; exact (Fr.refl _ _).alloc _
        have h8 := box_kept h8 f4 (fun h => h)
        have h4 := box_kept h4 f4 (fun h => h)
        have h14 : w4.heap[w3.heap.size]? = some (.cells #[.int .u8 k2, .int .i64 m2, .slice a2 n2 c2, .slice a3 n3 c3] 34 (0, 0)) := by rw [hw4]; exact heap_alloc_new _ _
        have hs4 : w4.heap.size = w3.heap.size + 1 := by rw [hw4]; simp
        have g3 := box_kept g3 f4 (fun h => h)
        have hs3 := Shows.fr (R := fun k => wb.heap.size ≤ k) f4 (fun _ _ h => h) _ _ hs3
        obtain ⟨b0, b1, b2, b3⟩ := cell_of_four h8
        obtain ⟨p0, p1, p2, p3⟩ := cell_of_four h14
        have z0 : w4.frozen? ⟨w.heap.size + 1, 0, none⟩ = false := by simp [World.frozen?, h8]
        have z1 : w4.frozen? ⟨w.heap.size + 1, 1, none⟩ = false := by simp [World.frozen?, h8]
        have z2 : w4.frozen? ⟨w.heap.size + 1, 2, none⟩ = false := by simp [World.frozen?, h8]
        have z3 : w4.frozen? ⟨w.heap.size + 1, 3, none⟩ = false := by simp [World.frozen?, h8]
        have H4 := Lib.hid (And.intro (HB.out.2.2.1.trans (f3.trans f4 (fun _ _ h => absurd h (fun h => h))) (fun _ _ h => h)) (And.intro (Fr.trans (S := fun k => k = lb) (HB.out.2.1.mono (fun _ _ h => absurd h (fun h => h))) (f3.trans f4 (fun _ _ h => absurd h (fun h => h))) (fun _ _ h => h)) (And.intro g3 (And.intro hs3 (And.intro hl3 (And.intro h8 h4))))))
        have hs4w : w.heap.size + 2 ≤ w4.heap.size := by omega
        clear f3 f4 g3 hs3 hl3 h8 h4 h14 hcall y0 y1 y2 y3 hw4 hs4
        by_cases he : E = 0
        · subst he
          obtain ⟨cs, hown, hts⟩ := TyRow.fr HI.out.2.2.2.2 H4.out.2.1 (fun k hk h => by omega)
          rw [HI.out.2.2.1] at hown
          have HO := Lib.hid hown
          have HTS := Lib.hid hts
          clear hown hts
          have hws4 : w.heap.size + 2 ≤ (w4.alloc (.cells #[.int .u8 k2, .int .i64 m2, .slice a2 n2 c2, .slice a3 n3 c3] 34)).heap.size := by simp; omega
          go_wp2_with (at_builtin; refine wpList_append_sep rfl (.tmp 72) (.tmp 74) 32 32 rfl (w.heap.size + 2) 34 i0 (.agg #[.int .u8 0, .int .i64 0, .slice none 0 0, .slice none 0 0]) 4 64 Tryz.underlying32 _ Tryz.underlying32 (.inr ⟨_, rfl⟩) hi hz0 hz1 hz2 rfl (by decide) u11 j cs rfl ?own _ 1 [.int .u8 k2, .int .i64 m2, .slice a2 n2 c2, .slice a3 n3 c3] rfl (lenOf_slice _ _ _) rfl ?c1 ?c2 ?one ?b1 ?b2 ?base ?grow)
          case own => exact World.ownsRow.alloc HO.out _
          case c1 => exact first_one4 1 (heap_alloc_new _ _)
          case c2 => exact first_one4 1 (by exact heap_alloc_new _ _)
          case one => intro u hu; simp at hu; rcases hu with rfl | rfl | rfl | rfl <;> rfl
          case b1 => unfold maxLen; omega
          case b2 => omega
          case base => exact hws4
          case grow =>
            intro v' w5 hown hg hv
            have HG := Lib.hid (And.intro hown (And.intro hg hv))
            clear hown hg hv
            go_wp2
            go_roundg (n - (j + 1))
            case measure => omega
            case rel =>
              have est := wholeAll_step f j (l - 1) HI.out.2.1 (by rw [← HR.out, ← HE.out])
              rw [← HR.out] at est
              have fo : Fr (fun k => w.heap.size + 2 ≤ k) w4 w5 := ((Fr.refl _ _).alloc _).trans (Fr.of_grown HG.out.2.1) (fun i _ e => (World.ownsRow.lt HO.out i e.symm).1)
              have lt11 : ∀ k, u11.ownBlock = some k → k < wr.heap.size := by
                obtain ⟨cs', h1, _⟩ := HI.out.2.2.2.2
                exact fun k hk => (World.ownsRow.lt h1 k hk).2
              have hst := Shows.mono (S := fun k => w.heap.size + 2 ≤ k ∧ u11.ownBlock ≠ some k) (fun k _ h => ⟨by have := HB.out.2.2.2; omega, fun e => by have := lt11 k e; have := HB.out.2.2.2; omega⟩) _ _ H4.out.2.2.2.1
              refine ⟨j + 1, by omega, rfl, by go_num, Lib.hid ⟨⟨H4.out.1.trans fo (fun i hi h => by omega), ?_, box_kept H4.out.2.2.2.2.2.2 fo (by omega), box_kept H4.out.2.2.2.2.2.1 fo (by omega)⟩, ?_, ?_, ?_, ?_⟩⟩
              · rw [est]; exact box_kept H4.out.2.2.1 fo (by omega)
              · rw [est]
              · rw [est]; simp [HI.out.2.2.1]
              · rw [est]; exact H4.out.2.2.2.2.1
              · rw [est]
                exact TyRow.push HTS.out (by rw [HO.out.1, HI.out.2.2.1]) (by rw [HI.out.2.2.1]) HG.out.1 ((Fr.refl _ _).alloc _) HG.out.2.1 (by simpa using HG.out.2.2) hst
        · have he' : ¬ (E : Int) = 0 := by omega
          go_wp2
          refine bodyPost_ret (results_cell_tmp_row rfl _ _ (w.heap.size + 1) 34 _ _ _ rfl (store_four H4.out.2.2.2.2.2.1) Tryz.underlying34 rfl (by kernel_rfl)) rfl ?_
          have est := wholeAll_stop f n j (l - 1) hlt HI.out.2.1 (by rw [← HR.out, ← HE.out]; exact he)
          rw [← HR.out] at est
          rw [E9.out, if_neg HL0.out, est, if_neg (by rw [← HE.out]; exact he), HE.out]
          exact wholed_zero (e := r.e) (fr_four _ _ _ _ H4.out.1 (fun h => by omega)) (by rw [other_four _ _ _ _ _ (by omega)]; exact H4.out.2.2.1) H4.out.2.2.2.2.1
      · obtain rfl : j = n := by omega
        have hws : w.heap.size + 2 ≤ wr.heap.size := by have := lt_of_block HI.out.1.2.2.2; omega
        have HWS := Lib.hid hws
        have nlb : ∀ k, R k → ¬ k = lb := fun k hk e => hR (e ▸ hk)
        have ht0 := (Ht.out.mono (S := fun k => R k ∧ k < w.heap.size) (fun k hk h => ⟨h, hk⟩)).fr HI.out.1.1 (fun k hk => nlb k hk.1)
        have HT0 := Lib.hid ht0
        have HQ := Lib.hid (fun (wx : World) (f : Fr (fun k => k = w.heap.size + 1) wr.drew wx) =>
          And.intro (box_kept (w0 := wr.drew) HI.out.1.2.2.1 f (by omega)) (copied_names _ ns _ wx (Texts.fr HT0.out (S := fun k => k = w.heap.size + 1) ⟨f.os, f.tape, f.output, f.size, f.block⟩ (fun k hk h => by omega))))
        obtain ⟨ua, un, uc, rfl⟩ : ∃ ua un uc, u11 = .slice ua un uc := by
          obtain ⟨_, hown, _⟩ := HI.out.2.2.2.2
          obtain ⟨ua, uc, e⟩ := slice_of_own hown
          exact ⟨ua, _, uc, e⟩
        have g8 := Lib.hid HI.out.1.2.2.2
        have glb := Lib.hid HI.out.1.2.1
        have HTY := Lib.hid HI.out.2.2.2.2
        clear nlb ht0 hws
        go_wp2_with fail
        refine wp_region_toldU (by kernel_rfl) (fun a b => Fr (fun k => k = w.heap.size + 1) a b) (fun w => Fr.refl _ w) (fun _ _ _ h k => h.trans k (fun _ _ h => h))
          [some 77, some 78, some 79, some 80, some 81, some 82, some 83, some 84, some 85, none, some 9] rfl (by decide) (by intro d hd; simp at hd ⊢; omega)
          (fun j wx => j = 9 → wx.heap[w.heap.size + 1]? = some (.cells #[.int .u8 0, .int .i64 0, .slice none 0 0, .slice none 0 0] 34 (0, 0)))
          (fun j v wx => ([fun v _ => v = .pointer (some ⟨w.heap.size, 0, none⟩), fun v _ => v = .int .u8 k, fun v _ => v = .pointer (some ⟨w.heap.size, 1, none⟩), fun v _ => v = .int .i64 m, fun v _ => v = .pointer (some ⟨w.heap.size, 2, none⟩), fun v _ => v = .slice a ns.length c,
            fun v wx => Texts (fun k => w.heap.size + 2 ≤ k) wx ns v, fun v _ => v = (.slice ua un uc),
            fun v wx => ∃ vn, v = .agg #[.int .u8 k, .int .i64 m, vn, (.slice ua un uc)] ∧ Texts (fun k => w.heap.size + 2 ≤ k) wx ns vn,
            fun _ wx => ∃ vn, wx.heap[w.heap.size + 1]? = some (.cells #[.int .u8 k, .int .i64 m, vn, (.slice ua un uc)] 34 (0, 0)) ∧ Texts (fun k => w.heap.size + 2 ≤ k) wx ns vn,
            fun v _ => v = .int .i64 0] : List (Value → World → Prop)).getD j (fun _ _ => True) v wx)
          (by kernel_rfl) ?u0 ?step ?fin
        case u0 => exact fun j _ _ => g8.out
        case step =>
          intro vals
          simp only [frOfU, fillU, List.setIfInBounds_toArray, List.set_cons_succ, List.set_cons_zero]
          repeat' (first | exact AllOps.nil | refine AllOps.cons ?_ ?_)
          all_goals
            intro wx hle he hu hw K hK
            clear hw
            simp only [Act.put, List.setIfInBounds_toArray, List.set_cons_succ, List.set_cons_zero, List.getD_cons_zero, List.getD_cons_succ] at hK
            simp only [List.mem_cons, List.not_mem_nil, or_false, forall_eq_or_imp, forall_eq, Region.binds, forall_const, false_imp_iff, List.getD_cons_zero, List.getD_cons_succ] at he
            obtain ⟨hq4, hcn⟩ := HQ.out wx hle
            obtain ⟨y0, y1, y2, y3⟩ := cell_of_four hq4
            have HCN := Lib.hid hcn
            have FW0 : w.heap.size + 2 ≤ wx.heap.size := Nat.le_trans HWS.out hle.size
            clear hle hq4 hcn
          all_goals first | ((try simp only [he] at hK ⊢); go_simp; exact hK _ _ (Fr.refl _ _) rfl (fun _ _ h => h) (fun _ _ _ h => h)) | skip
          · simp only [he] at hK ⊢
            go_simp
            go_at_call 106
            refine HCN.out.mono ?_
            rintro e1 wa ⟨vn, rfl, ht, fa⟩
            have ht' := Texts.mono ht (S := fun k => w.heap.size + 2 ≤ k) (fun k _ h => Nat.le_trans FW0 h)
            refine hK _ _ (fa.mono (fun _ _ h => absurd h (fun h => h))) ht' ?_ ?_
            · intro j hj h e
              have := h e
              rw [fa.block _ (lt_of_block this) (fun h => h)]; exact this
            · refine fun j u _ => pres_list ?_ j u
              have st : ∀ u, Texts (fun k => w.heap.size + 2 ≤ k) wx ns u → Texts (fun k => w.heap.size + 2 ≤ k) wa ns u := fun u h => h.fr fa (fun _ _ h => h)
              simp only [List.mem_cons, List.not_mem_nil, or_false, forall_eq_or_imp, forall_eq, imp_self, implies_true, true_and, and_true]
              refine ⟨fun u h => st u h, fun u h => ?_, fun u h => ?_⟩
              · obtain ⟨vn, e, h⟩ := h
                exact ⟨vn, e, st _ h⟩
              · obtain ⟨vn, e, h⟩ := h
                exact ⟨vn, by rw [fa.block _ (lt_of_block e) (fun h => h)]; exact e, st _ h⟩
          · obtain ⟨h1, h3, h6, h7⟩ := he
            obtain ⟨na, nc, e6, _⟩ := h6.shape
            rw [e6] at h6
            simp only [h1, h3, h7, e6] at hK ⊢
            go_simp
            exact hK _ _ (Fr.refl _ _) ⟨_, rfl, h6⟩ (fun _ _ h => h) (fun _ _ _ h => h)
          · obtain ⟨vn, h8v, htx⟩ := he.1
            obtain ⟨na, nc, rfl, _⟩ := htx.shape
            clear he
            simp only [h8v] at hK ⊢
            have h8 := hu rfl
            obtain ⟨b0, b1, b2, b3⟩ := cell_of_four h8
            have z0 : wx.frozen? ⟨w.heap.size + 1, 0, none⟩ = false := by simp [World.frozen?, h8]
            have z1 : wx.frozen? ⟨w.heap.size + 1, 1, none⟩ = false := by simp [World.frozen?, h8]
            have z2 : wx.frozen? ⟨w.heap.size + 1, 2, none⟩ = false := by simp [World.frozen?, h8]
            have z3 : wx.frozen? ⟨w.heap.size + 1, 3, none⟩ = false := by simp [World.frozen?, h8]
            have H8 := Lib.hid h8
            clear h8 hu
            go_simp
            have f8 := fr_four (w := wx) (b := w.heap.size + 1) (.int .u8 k) (.int .i64 m) (.slice na ns.length nc) (.slice ua un uc) (S := fun k => k = w.heap.size + 1) (Fr.refl _ _) (fun _ => rfl)
            have st : ∀ u, Texts (fun k => w.heap.size + 2 ≤ k) wx ns u → Texts (fun k => w.heap.size + 2 ≤ k) _ ns u := fun u h => h.fr f8 (fun k hk h => by omega)
            refine hK undef _ f8 ⟨_, store_four H8.out, st _ htx⟩ ?_ ?_
            · intro j hj h e
              exact absurd e hj
            · refine fun j u _ => pres_list ?_ j u
              simp only [List.mem_cons, List.not_mem_nil, or_false, forall_eq_or_imp, forall_eq, imp_self, implies_true, true_and, and_true]
              refine ⟨fun u h => st u h, fun u h => ?_, fun u h => ⟨_, store_four H8.out, st _ htx⟩⟩
              obtain ⟨vn, e, h⟩ := h
              exact ⟨vn, e, st _ h⟩
        case fin =>
          intro vals w' hle hV
          obtain ⟨vn, h8, htx⟩ := hV 9 (by decide)
          have h10 := hV 10 (by decide)
          clear hV
          simp only [List.getD_cons_zero, List.getD_cons_succ] at h10
          have fe : Fr (fun k => k = w.heap.size + 1) wr w' := ⟨hle.os, hle.tape, hle.output, hle.size, hle.block⟩
          simp only [frOfU, fillU, List.setIfInBounds_toArray, List.set_cons_succ, List.set_cons_zero, h10]
          go_wp2
          refine bodyPost_ret (results_cell_tmp_row rfl _ _ (w.heap.size + 1) 34 _ _ _ rfl h8 Tryz.underlying34 rfl (by kernel_rfl)) rfl ?_
          have e2 := E9.out
          rw [if_neg HL0.out, if_pos HI.out.2.1] at e2
          rw [e2]
          have hsh := TyRow.shows (m := m) (TyRow.fr HTY.out fe (fun k hk h => by omega)) HI.out.2.2.1 hk255 hn htx
          exact ⟨_, rfl, HI.out.1.1.trans fe (fun i hi h => by omega), box_kept glb.out fe (by omega), Shows.mono (fun k _ h => Nat.le_trans (Nat.le_add_right _ _) h) _ _ hsh, HI.out.2.2.2.1⟩

/-- EVERY TYPE, MADE WHOLE. -/
theorem whole_any (lv : Nat) : WholeAt lv := by
  induction lv with
  | zero =>
    intro al t R v av lz lb l w hlz _ hl hR hsh hal hb
    obtain rfl : lz = 0 := by simpa using hlz
    exact whole_zero al t R v av lb l w hl hsh hb
  | succ lv ih =>
    intro al t R v av lz lb l w hlz hlv hl hR hsh hal hb
    cases t with
    | nil => exact hsh.elim
    | mk k m ns n of =>
      by_cases hk : k = 9
      · subst hk
        exact whole_ref lv ih al m ns n of R v av lz lb l w (by omega) (by omega) hl hR hsh hal hb
      · exact whole_rest lv ih al k m ns n of R v av lz lb l w hk (by omega) (by omega) hl hR hsh hal hb
end
end Go.Proofs.YtplipjijaaejlaaGreat
