/-
  The laws' Turned: the part itself: one part more, or the first half of the parts.
-/
import Derived.Test.YtnhkahnihdfefaaMI
import Derived.Test.YtnhkahnihdfefaaMH
import Derived.Test.YtnhkahnihdfefaaMK
import Derived.Test.YtnhkahnihdfefaaMJ
import Derived.LoopN
namespace Go.Proofs.Ytnhkahnihdfefaa
open Go.RowKit
attribute [local go_sem] run_store_float
set_option linter.unusedVariables false
set_option linter.unusedSimpArgs false

theorem VKids.half {R : Nat → Prop} {w : World} {of : Nat → VT} {a : Option Addr} {n h c : Nat} (hk : VKids R w of a n c) (hn : h ≤ n) : VKids R w of a h c := by
  rcases hk with h0 | ⟨h1, g, off, hg, e, hc⟩
  · exact .inl (by omega)
  · exact .inr ⟨by omega, g, off, hg, e, fun i hi => hc i (by omega)⟩

set_option maxRecDepth 100000 in
set_option maxHeartbeats 16000000 in
theorem turn_more (wh : Nat) (hwh : wh ≤ 255) (hk : wh % 5 = 3) : LeafAt wh := by
  intro T R v pv w path x f s hvs hpv hpl hx0 hx1 hf hsl hsz hend
  have HVS := Lib.hid (VShows.mono (S := fun k => R k ∧ k < w.heap.size) (fun k hk h => ⟨h, hk⟩) _ _ hvs)
  obtain ⟨N, F, S, c, ov, va, cap, rfl, rfl, hVB, hVK⟩ := vshows_open HVS.out
  obtain ⟨pa, pc, rfl, _⟩ := hpv.shape
  obtain ⟨pl, hpl'⟩ : ∃ pl, path.length = pl := ⟨_, rfl⟩
  have hend' : pl = 0 ∨ c = 0 := by
    rcases hend with h | ⟨_, _, _, _, e⟩
    · left; rw [← hpl', h]; rfl
    · cases e; exact .inr rfl
  rw [hpl'] at hpl ⊢
  have HB := Lib.hid hVB
  have HVK := Lib.hid hVK
  have HSZ := Lib.hid hsz
  have HXF := Lib.hid (And.intro hx0 (And.intro hx1 (And.intro hf hsl)))
  obtain ⟨wz, hwz⟩ : ∃ wz : Int, (wh : Int) = wz := ⟨_, rfl⟩
  rw [hwz]
  have t0 : (wz % 5 == 0) = false := by simp; omega
  have t1 : (wz % 5 == 1) = false := by simp; omega
  have t2 : (wz % 5 == 2) = false := by simp; omega
  have t3 : (wz % 5 == 3) = true := by simp; omega
  have HK := Lib.hid hk
  have wz0 : 0 ≤ wz := by omega
  have wz1 : wz ≤ 255 := by omega
  have hc5 : c ≤ 50000 := by
    have h := hsz
    rw [szV] at h
    have hall : ∀ j, j ≤ ((List.range j).map fun i => szV (ov i)).sum := fun j => by
      induction j with
      | zero => simp
      | succ j ih => rw [List.range_succ, List.map_append, List.sum_append]; have := szV_pos (ov j); simp; omega
    have := hall c
    omega
  unfold sv
  obtain ⟨w1, hw1⟩ : ∃ w1, w1 = (w.alloc (.cells #[.int .i64 N, .float .f64 F, .string ⟨S.toArray⟩, .slice va c cap] 37)).alloc (.cells #[.int .i64 0, .float .f64 0, .string ⟨#[]⟩, .slice none 0 0] 37) := ⟨_, rfl⟩
  have f1 : Fr (fun _ => False) w w1 := by rw [hw1]; exact ((Fr.refl _ _).alloc _).alloc _
  have q1 : w1.heap[w.heap.size]? = some (.cells #[.int .i64 N, .float .f64 F, .string ⟨S.toArray⟩, .slice va c cap] 37 (0, 0)) := by rw [hw1]; exact heap_alloc_first _ _ _
  have p1 : w1.heap[w.heap.size + 1]? = some (.cells #[.int .i64 0, .float .f64 0, .string ⟨#[]⟩, .slice none 0 0] 37 (0, 0)) := by rw [hw1]; exact heap_alloc_two _ _ _
  go_enter Try.func19, Try.ntmps19
  go_upto_region 1 with fail
  rw [← hw1]
  obtain ⟨rb, hrb⟩ : ∃ rb, w.heap.size + 1 = rb := ⟨_, rfl⟩
  rw [hrb] at p1 ⊢
  have HRB := Lib.hid hrb
  obtain ⟨c0, c1, c2, c3⟩ := cell_of_four q1
  have z0 : w1.frozen? ⟨w.heap.size, 0, none⟩ = false := by simp [World.frozen?, q1]
  have z1 : w1.frozen? ⟨w.heap.size, 1, none⟩ = false := by simp [World.frozen?, q1]
  have z2 : w1.frozen? ⟨w.heap.size, 2, none⟩ = false := by simp [World.frozen?, q1]
  have z3 : w1.frozen? ⟨w.heap.size, 3, none⟩ = false := by simp [World.frozen?, q1]
  have H1 := Lib.hid (And.intro f1 (And.intro q1 p1))
  clear hw1 f1 q1 p1 hrb hvs hpv hpl' hend hVB hVK hsz hx0 hx1 hf hsl hwz hk
  by_cases h0 : pl = 0
  · have hp1 : ¬ (0 : Int) < (pl : Int) := by omega
    clear h0 hend'
    obtain ⟨a0, cs0, cells, ecs, hcl, hone, hfirst, hit⟩ := items_first vShown (by decide) ((List.range c).map ov) _ (VKids.items HVK.out) (fun x xs h => vShown_one x xs h)
    simp only [List.length_map, List.length_range] at ecs hcl hfirst
    cases ecs
    have HCL := Lib.hid (And.intro hcl (And.intro hone (And.intro hfirst hit)))
    clear hcl hone hfirst hit
    have HEMP := Lib.hid (empty_row w1 w1.heap.size (Nat.le_refl _) 37 4)
    obtain ⟨i0, hi, hz0, hz1, hz2⟩ := info_parts Try.infoValue
    have hcells : ∀ w', Fr (fun _ => False) w1 w' → (Builtin.firstCells 4 c (.slice va c cap)).run Try.prog w' = .ok cells.toArray w' := fun w' f => HCL.out.2.2.1 w' (fun g o u hg hu => cell_fr (R := fun _ => True) (H1.out.1.trans f (fun _ _ h => h)) (fun _ _ h => h) trivial hu)
    have HC := Lib.hid hcells
    clear hcells z0 z1 z2 z3 c0 c1 c2
    have hvl : w.heap.size < w1.heap.size := lt_of_block H1.out.2.1
    have hvn : w.heap.size ≠ w1.heap.size := by omega
    go_upto_region 16 with fail
    go_wp2_with (at_builtin; refine wpList_append_sep rfl (.tmp 79) (.tmp 81) 35 35 rfl w1.heap.size 37 i0 (.agg #[.int .i64 0, .float .f64 0, .string ⟨#[]⟩, .slice none 0 0]) 4 56 Try.underlying35 _ Try.underlying35 (.inr ⟨_, rfl⟩) hi hz0 hz1 hz2 rfl (by decide) (.slice (some ⟨w1.heap.size, 0, none⟩) 0 0) 0 [] rfl ?own _ c cells rfl (lenOf_slice _ _ _) ?len (HC.out _ ((Fr.refl (fun _ => False) w1).alloc (.cells #[] 37))) (HC.out _ (((Fr.refl (fun _ => False) w1).alloc (.cells #[] 37)).drew)) ?one ?b1 ?b2 ?base ?grow)
    case own => exact HEMP.out
    case len => exact HCL.out.1
    case one => exact HCL.out.2.1
    case b1 => unfold maxLen; omega
    case b2 => omega
    case grow =>
      intro v1 w5 hown hg5 hv0
      have f5 : Fr (fun _ => False) w1 w5 := ((Fr.refl (fun _ => False) w1).alloc (.cells #[] 37)).trans (Fr.of_grown hg5) (fun i hi e => by simp [Value.ownBlock] at e; omega)
      have hown' : w5.ownsRow w1.heap.size 37 4 v1 c cells := by simpa using hown
      have hob1 : ∀ k, v1.ownBlock = some k → w1.heap.size ≤ k := by
        intro k hk
        have hs := ((Fr.refl (fun _ => False) w1).alloc (.cells #[] 37)).size
        rcases hv0 with h | h <;> rw [h] at hk
        · simp [Value.ownBlock] at hk; omega
        · have := Option.some.inj hk; omega
      have H5 := Lib.hid (And.intro f5 (And.intro hown' hob1))
      clear hown hown' hg5 hv0 f5 hob1
      have f5a : Fr (fun _ => False) w5 (w5.alloc (.cells #[.int .i64 x, .float .f64 0, .string ⟨#[]⟩, .slice none 0 0] 37)) := (Fr.refl _ _).alloc _
      have q5a : (w5.alloc (.cells #[.int .i64 x, .float .f64 0, .string ⟨#[]⟩, .slice none 0 0] 37)).heap[w5.heap.size]? = some (.cells #[.int .i64 x, .float .f64 0, .string ⟨#[]⟩, .slice none 0 0] 37 (0, 0)) := heap_alloc_new _ _
      have H5A := Lib.hid (And.intro f5a q5a)
      clear f5a q5a c3
      go_wp2_with (at_builtin; refine wpList_append_sep rfl (.tmp 82) (.tmp 85) 35 35 rfl w1.heap.size 37 i0 (.agg #[.int .i64 0, .float .f64 0, .string ⟨#[]⟩, .slice none 0 0]) 4 56 Try.underlying35 _ Try.underlying35 (.inr ⟨_, rfl⟩) hi hz0 hz1 hz2 rfl (by decide) v1 c cells rfl ?own2 (.slice (some ⟨w5.heap.size, 0, none⟩) 1 1) 1 [.int .i64 x, .float .f64 0, .string ⟨#[]⟩, .slice none 0 0] rfl (fun w => lenOf_slice _ _ _ _) rfl ?fc1 ?fc2 ?one2 ?b12 ?b22 ?base2 ?grow2)
      case own2 => exact ownsRow_fr H5.out.2.1 H5A.out.1 (fun _ _ h => h)
      case fc1 => exact first_one 1 4 rfl H5A.out.2
      case fc2 => exact first_one 1 4 rfl (w := World.drew _) H5A.out.2
      case one2 => intro u hu; simp at hu; rcases hu with rfl | rfl | rfl | rfl <;> rfl
      case b12 => unfold maxLen; omega
      case b22 => omega
      case base2 => have := H5.out.1.size; have := H5A.out.1.size; omega
      case grow2 =>
        intro v2 w7 hown2 hg7 hv2
        have f7 : Fr (fun _ => False) w1 w7 := (H5.out.1.trans H5A.out.1 (fun _ _ h => h)).trans (Fr.of_grown hg7) (fun i hi e => by have := H5.out.2.2 i (by first | exact e | exact e.symm); omega)
        obtain ⟨og, uc, cur, rfl, hogB, hog, hcuc, hccell⟩ : ∃ og uc cur, v2 = .slice (some ⟨og, 0, none⟩) (c + 1) uc ∧ w1.heap.size ≤ og ∧ w7.heap[og]? = some (.cells cur 37 (0, 0)) ∧ c + 1 ≤ uc ∧ ∀ j u, (cells ++ [.int .i64 x, .float .f64 0, .string ⟨#[]⟩, .slice none 0 0])[j]? = some u → cur[j]? = some u := by
          have h := hown2
          rcases h.2 with ⟨_, hz⟩ | ⟨og, cap', cur, rfl, hb, hgg, hle', _, hsz', htk⟩
          · omega
          · refine ⟨og, cap', cur, rfl, hb, hgg, hle', fun j u hu => ?_⟩
            have h2 := World.ownsRow.cells (g := og) hown2 rfl j u hu
            rw [plain_add, cell_of_row w7 og j _ _ _ hgg] at h2
            exact h2
        have HROW := Lib.hid (And.intro hogB (And.intro hog (And.intro hcuc hccell)))
        clear hown2 hg7 hv2 hogB hog hcuc hccell
        have q7 := box_kept H1.out.2.1 f7 (fun h => h)
        have p7 := box_kept H1.out.2.2 f7 (fun h => h)
        have c3 := cells_row q7 3 _ rfl
        have z3 : w7.frozen? ⟨w.heap.size, 3, none⟩ = false := by simp [World.frozen?, q7]
        have H7 := Lib.hid (And.intro (H1.out.1.trans f7 (fun _ _ h => h)) (And.intro q7 p7))
        clear f7 q7 p7
        go_upto_region 17 with fail
        obtain ⟨w8, hw8⟩ : ∃ w8, w8 = w7.setCell ⟨w.heap.size, 3, none⟩ (.slice (some ⟨og, 0, none⟩) (c + 1) uc) := ⟨_, rfl⟩
        rw [← hw8]
        have f8 : Fr (fun k => k = w.heap.size) w7 w8 := by rw [hw8]; exact Fr.set1 (Fr.refl _ _) _ _
        have q8 : w8.heap[w.heap.size]? = some (.cells #[.int .i64 N, .float .f64 F, .string ⟨S.toArray⟩, .slice (some ⟨og, 0, none⟩) (c + 1) uc] 37 (0, 0)) := by rw [hw8]; exact setCell_row 3 _ H7.out.2.1
        have hvr : w.heap.size < rb := by have := HRB.out; omega
        have hrl : rb < w1.heap.size := lt_of_block H1.out.2.2
        have p8 := box_kept H7.out.2.2 f8 (fun h => by omega)
        have g8 := box_kept HROW.out.2.1 f8 (fun h => by have := HROW.out.1; omega)
        obtain ⟨d0, d1, d2, d3⟩ := cell_of_four q8
        obtain ⟨b0, b1, b2, b3⟩ := cell_of_four p8
        have u0 : w8.frozen? ⟨rb, 0, none⟩ = false := by simp [World.frozen?, p8]
        have u1 : w8.frozen? ⟨rb, 1, none⟩ = false := by simp [World.frozen?, p8]
        have u2 : w8.frozen? ⟨rb, 2, none⟩ = false := by simp [World.frozen?, p8]
        have u3 : w8.frozen? ⟨rb, 3, none⟩ = false := by simp [World.frozen?, p8]
        have H8 := Lib.hid (And.intro (H7.out.1.trans f8 (fun i hi h => by omega)) (And.intro p8 g8))
        clear hw8 f8 q8 p8 g8 c3 z3
        go_wp2
        refine bodyPost_ret (results_cell_row rfl _ _ rb 37 _ _ _ rfl (store_four H8.out.2.1) Try.underlying37 rfl (by kernel_rfl)) rfl ?_
        have fs : Fr (fun k => k = rb) w8 ((((w8.setCell ⟨rb, 0, none⟩ (.int .i64 N)).setCell ⟨rb, 1, none⟩ (.float .f64 F)).setCell ⟨rb, 2, none⟩ (.string ⟨S.toArray⟩)).setCell ⟨rb, 3, none⟩ (.slice (some ⟨og, 0, none⟩) (c + 1) uc)) := fr_four _ _ _ _ (Fr.refl _ _) (fun _ => rfl)
        refine ⟨_, rfl, ?_, H8.out.1.trans fs (fun i hi h => by omega)⟩
        have e : leafE wh x f s (.mk N F S c ov) = .mk N F S (c + 1) (fun i => if i < c then ov i else vnum x) := by unfold leafE; rw [HK.out]; simp
        rw [e]
        have hb := HB.out
        have hx := HXF.out
        obtain ⟨hogB, hog, hcuc, hccell⟩ := HROW.out
        refine vshows_mk (s := S) (by unfold VB at hb ⊢; omega) (.inr ⟨hcuc, og, 0, .inr (by omega), rfl, fun i hi => ?_⟩)
        have rd : ∀ (j : Nat) (u : Value), (cells ++ [.int .i64 x, .float .f64 0, .string ⟨#[]⟩, .slice none 0 0])[j]? = some u → (((((w8.setCell ⟨rb, 0, none⟩ (.int .i64 N)).setCell ⟨rb, 1, none⟩ (.float .f64 F)).setCell ⟨rb, 2, none⟩ (.string ⟨S.toArray⟩)).setCell ⟨rb, 3, none⟩ (.slice (some ⟨og, 0, none⟩) (c + 1) uc)).cell? ⟨og, j, none⟩) = some u := fun j u hu => by
          refine cell_fr (R := fun k => k = og) fs (fun k hk h => by omega) rfl ?_
          rw [cell_of_row w8 og j _ _ _ H8.out.2.2]
          exact hccell j u hu
        rw [Nat.zero_add]
        by_cases hic : i < c
        · obtain ⟨xs, e1, e2, y0, y1, y2, y3, rfl, hy⟩ := HCL.out.2.2.2 i (ov i) (by rw [List.getElem?_map, List.getElem?_range hic]; rfl)
          have cc := fun (j : Nat) (u : Value) (hj : j < 4) (hu : [y0, y1, y2, y3][j]? = some u) => rd (i * 4 + j) u (by rw [List.getElem?_append_left (by rw [HCL.out.1]; omega)]; exact e2 j u hu)
          have r0 := cc 0 _ (by omega) rfl
          have r1 := cc 1 _ (by omega) rfl
          have r2 := cc 2 _ (by omega) rfl
          have r3 := cc 3 _ (by omega) rfl
          rw [Nat.add_zero] at r0
          refine ⟨y0, y1, y2, y3, r0, r1, r2, r3, ?_⟩
          show VShows _ _ (if i < c then ov i else vnum x) _
          rw [if_pos hic]
          exact VShows.mono (fun k _ hk => .inl hk.1) _ _ (VShows.fr fs (fun k hk e => by omega) _ _ (VShows.fr H8.out.1 (fun _ _ h => h) _ _ hy))
        · obtain rfl : i = c := by omega
          have cc := fun (j : Nat) (u : Value) (hu : [Value.int .i64 x, .float .f64 0, .string ⟨#[]⟩, .slice none 0 0][j]? = some u) => rd (i * 4 + j) u (by rw [List.getElem?_append_right (by rw [HCL.out.1]; omega), HCL.out.1, Nat.add_sub_cancel_left]; exact hu)
          have r0 := cc 0 _ rfl
          have r1 := cc 1 _ rfl
          have r2 := cc 2 _ rfl
          have r3 := cc 3 _ rfl
          rw [Nat.add_zero] at r0
          refine ⟨_, _, _, _, r0, r1, r2, r3, ?_⟩
          show VShows _ _ (if i < i then ov i else vnum x) _
          rw [if_neg (Nat.lt_irrefl _)]
          exact vshows_mk (s := []) ⟨by omega, by omega, by omega, by unfold maxLen; simp, by omega⟩ (.inl rfl)

  · have hp1 : (0 : Int) < (pl : Int) := by omega
    have hc0 : c = 0 := by omega
    have hp2 : ¬ (0 : Int) < (c : Int) := by omega
    clear h0 hend' hc0
    obtain ⟨a0, cs0, cells, ecs, hcl, hone, hfirst, hit⟩ := items_first vShown (by decide) ((List.range c).map ov) _ (VKids.items HVK.out) (fun x xs h => vShown_one x xs h)
    simp only [List.length_map, List.length_range] at ecs hcl hfirst
    cases ecs
    have HCL := Lib.hid (And.intro hcl (And.intro hone (And.intro hfirst hit)))
    clear hcl hone hfirst hit
    have HEMP := Lib.hid (empty_row w1 w1.heap.size (Nat.le_refl _) 37 4)
    obtain ⟨i0, hi, hz0, hz1, hz2⟩ := info_parts Try.infoValue
    have hcells : ∀ w', Fr (fun _ => False) w1 w' → (Builtin.firstCells 4 c (.slice va c cap)).run Try.prog w' = .ok cells.toArray w' := fun w' f => HCL.out.2.2.1 w' (fun g o u hg hu => cell_fr (R := fun _ => True) (H1.out.1.trans f (fun _ _ h => h)) (fun _ _ h => h) trivial hu)
    have HC := Lib.hid hcells
    clear hcells z0 z1 z2 z3 c0 c1 c2
    have hvl : w.heap.size < w1.heap.size := lt_of_block H1.out.2.1
    have hvn : w.heap.size ≠ w1.heap.size := by omega
    go_upto_region 16 with fail
    go_wp2_with (at_builtin; refine wpList_append_sep rfl (.tmp 79) (.tmp 81) 35 35 rfl w1.heap.size 37 i0 (.agg #[.int .i64 0, .float .f64 0, .string ⟨#[]⟩, .slice none 0 0]) 4 56 Try.underlying35 _ Try.underlying35 (.inr ⟨_, rfl⟩) hi hz0 hz1 hz2 rfl (by decide) (.slice (some ⟨w1.heap.size, 0, none⟩) 0 0) 0 [] rfl ?own _ c cells rfl (lenOf_slice _ _ _) ?len (HC.out _ ((Fr.refl (fun _ => False) w1).alloc (.cells #[] 37))) (HC.out _ (((Fr.refl (fun _ => False) w1).alloc (.cells #[] 37)).drew)) ?one ?b1 ?b2 ?base ?grow)
    case own => exact HEMP.out
    case len => exact HCL.out.1
    case one => exact HCL.out.2.1
    case b1 => unfold maxLen; omega
    case b2 => omega
    case grow =>
      intro v1 w5 hown hg5 hv0
      have f5 : Fr (fun _ => False) w1 w5 := ((Fr.refl (fun _ => False) w1).alloc (.cells #[] 37)).trans (Fr.of_grown hg5) (fun i hi e => by simp [Value.ownBlock] at e; omega)
      have hown' : w5.ownsRow w1.heap.size 37 4 v1 c cells := by simpa using hown
      have hob1 : ∀ k, v1.ownBlock = some k → w1.heap.size ≤ k := by
        intro k hk
        have hs := ((Fr.refl (fun _ => False) w1).alloc (.cells #[] 37)).size
        rcases hv0 with h | h <;> rw [h] at hk
        · simp [Value.ownBlock] at hk; omega
        · have := Option.some.inj hk; omega
      have H5 := Lib.hid (And.intro f5 (And.intro hown' hob1))
      clear hown hown' hg5 hv0 f5 hob1
      have f5a : Fr (fun _ => False) w5 (w5.alloc (.cells #[.int .i64 x, .float .f64 0, .string ⟨#[]⟩, .slice none 0 0] 37)) := (Fr.refl _ _).alloc _
      have q5a : (w5.alloc (.cells #[.int .i64 x, .float .f64 0, .string ⟨#[]⟩, .slice none 0 0] 37)).heap[w5.heap.size]? = some (.cells #[.int .i64 x, .float .f64 0, .string ⟨#[]⟩, .slice none 0 0] 37 (0, 0)) := heap_alloc_new _ _
      have H5A := Lib.hid (And.intro f5a q5a)
      clear f5a q5a c3
      go_wp2_with (at_builtin; refine wpList_append_sep rfl (.tmp 82) (.tmp 85) 35 35 rfl w1.heap.size 37 i0 (.agg #[.int .i64 0, .float .f64 0, .string ⟨#[]⟩, .slice none 0 0]) 4 56 Try.underlying35 _ Try.underlying35 (.inr ⟨_, rfl⟩) hi hz0 hz1 hz2 rfl (by decide) v1 c cells rfl ?own2 (.slice (some ⟨w5.heap.size, 0, none⟩) 1 1) 1 [.int .i64 x, .float .f64 0, .string ⟨#[]⟩, .slice none 0 0] rfl (fun w => lenOf_slice _ _ _ _) rfl ?fc1 ?fc2 ?one2 ?b12 ?b22 ?base2 ?grow2)
      case own2 => exact ownsRow_fr H5.out.2.1 H5A.out.1 (fun _ _ h => h)
      case fc1 => exact first_one 1 4 rfl H5A.out.2
      case fc2 => exact first_one 1 4 rfl (w := World.drew _) H5A.out.2
      case one2 => intro u hu; simp at hu; rcases hu with rfl | rfl | rfl | rfl <;> rfl
      case b12 => unfold maxLen; omega
      case b22 => omega
      case base2 => have := H5.out.1.size; have := H5A.out.1.size; omega
      case grow2 =>
        intro v2 w7 hown2 hg7 hv2
        have f7 : Fr (fun _ => False) w1 w7 := (H5.out.1.trans H5A.out.1 (fun _ _ h => h)).trans (Fr.of_grown hg7) (fun i hi e => by have := H5.out.2.2 i (by first | exact e | exact e.symm); omega)
        obtain ⟨og, uc, cur, rfl, hogB, hog, hcuc, hccell⟩ : ∃ og uc cur, v2 = .slice (some ⟨og, 0, none⟩) (c + 1) uc ∧ w1.heap.size ≤ og ∧ w7.heap[og]? = some (.cells cur 37 (0, 0)) ∧ c + 1 ≤ uc ∧ ∀ j u, (cells ++ [.int .i64 x, .float .f64 0, .string ⟨#[]⟩, .slice none 0 0])[j]? = some u → cur[j]? = some u := by
          have h := hown2
          rcases h.2 with ⟨_, hz⟩ | ⟨og, cap', cur, rfl, hb, hgg, hle', _, hsz', htk⟩
          · omega
          · refine ⟨og, cap', cur, rfl, hb, hgg, hle', fun j u hu => ?_⟩
            have h2 := World.ownsRow.cells (g := og) hown2 rfl j u hu
            rw [plain_add, cell_of_row w7 og j _ _ _ hgg] at h2
            exact h2
        have HROW := Lib.hid (And.intro hogB (And.intro hog (And.intro hcuc hccell)))
        clear hown2 hg7 hv2 hogB hog hcuc hccell
        have q7 := box_kept H1.out.2.1 f7 (fun h => h)
        have p7 := box_kept H1.out.2.2 f7 (fun h => h)
        have c3 := cells_row q7 3 _ rfl
        have z3 : w7.frozen? ⟨w.heap.size, 3, none⟩ = false := by simp [World.frozen?, q7]
        have H7 := Lib.hid (And.intro (H1.out.1.trans f7 (fun _ _ h => h)) (And.intro q7 p7))
        clear f7 q7 p7
        go_upto_region 17 with fail
        obtain ⟨w8, hw8⟩ : ∃ w8, w8 = w7.setCell ⟨w.heap.size, 3, none⟩ (.slice (some ⟨og, 0, none⟩) (c + 1) uc) := ⟨_, rfl⟩
        rw [← hw8]
        have f8 : Fr (fun k => k = w.heap.size) w7 w8 := by rw [hw8]; exact Fr.set1 (Fr.refl _ _) _ _
        have q8 : w8.heap[w.heap.size]? = some (.cells #[.int .i64 N, .float .f64 F, .string ⟨S.toArray⟩, .slice (some ⟨og, 0, none⟩) (c + 1) uc] 37 (0, 0)) := by rw [hw8]; exact setCell_row 3 _ H7.out.2.1
        have hvr : w.heap.size < rb := by have := HRB.out; omega
        have hrl : rb < w1.heap.size := lt_of_block H1.out.2.2
        have p8 := box_kept H7.out.2.2 f8 (fun h => by omega)
        have g8 := box_kept HROW.out.2.1 f8 (fun h => by have := HROW.out.1; omega)
        obtain ⟨d0, d1, d2, d3⟩ := cell_of_four q8
        obtain ⟨b0, b1, b2, b3⟩ := cell_of_four p8
        have u0 : w8.frozen? ⟨rb, 0, none⟩ = false := by simp [World.frozen?, p8]
        have u1 : w8.frozen? ⟨rb, 1, none⟩ = false := by simp [World.frozen?, p8]
        have u2 : w8.frozen? ⟨rb, 2, none⟩ = false := by simp [World.frozen?, p8]
        have u3 : w8.frozen? ⟨rb, 3, none⟩ = false := by simp [World.frozen?, p8]
        have H8 := Lib.hid (And.intro (H7.out.1.trans f8 (fun i hi h => by omega)) (And.intro p8 g8))
        clear hw8 f8 q8 p8 g8 c3 z3
        go_wp2
        refine bodyPost_ret (results_cell_row rfl _ _ rb 37 _ _ _ rfl (store_four H8.out.2.1) Try.underlying37 rfl (by kernel_rfl)) rfl ?_
        have fs : Fr (fun k => k = rb) w8 ((((w8.setCell ⟨rb, 0, none⟩ (.int .i64 N)).setCell ⟨rb, 1, none⟩ (.float .f64 F)).setCell ⟨rb, 2, none⟩ (.string ⟨S.toArray⟩)).setCell ⟨rb, 3, none⟩ (.slice (some ⟨og, 0, none⟩) (c + 1) uc)) := fr_four _ _ _ _ (Fr.refl _ _) (fun _ => rfl)
        refine ⟨_, rfl, ?_, H8.out.1.trans fs (fun i hi h => by omega)⟩
        have e : leafE wh x f s (.mk N F S c ov) = .mk N F S (c + 1) (fun i => if i < c then ov i else vnum x) := by unfold leafE; rw [HK.out]; simp
        rw [e]
        have hb := HB.out
        have hx := HXF.out
        obtain ⟨hogB, hog, hcuc, hccell⟩ := HROW.out
        refine vshows_mk (s := S) (by unfold VB at hb ⊢; omega) (.inr ⟨hcuc, og, 0, .inr (by omega), rfl, fun i hi => ?_⟩)
        have rd : ∀ (j : Nat) (u : Value), (cells ++ [.int .i64 x, .float .f64 0, .string ⟨#[]⟩, .slice none 0 0])[j]? = some u → (((((w8.setCell ⟨rb, 0, none⟩ (.int .i64 N)).setCell ⟨rb, 1, none⟩ (.float .f64 F)).setCell ⟨rb, 2, none⟩ (.string ⟨S.toArray⟩)).setCell ⟨rb, 3, none⟩ (.slice (some ⟨og, 0, none⟩) (c + 1) uc)).cell? ⟨og, j, none⟩) = some u := fun j u hu => by
          refine cell_fr (R := fun k => k = og) fs (fun k hk h => by omega) rfl ?_
          rw [cell_of_row w8 og j _ _ _ H8.out.2.2]
          exact hccell j u hu
        rw [Nat.zero_add]
        by_cases hic : i < c
        · obtain ⟨xs, e1, e2, y0, y1, y2, y3, rfl, hy⟩ := HCL.out.2.2.2 i (ov i) (by rw [List.getElem?_map, List.getElem?_range hic]; rfl)
          have cc := fun (j : Nat) (u : Value) (hj : j < 4) (hu : [y0, y1, y2, y3][j]? = some u) => rd (i * 4 + j) u (by rw [List.getElem?_append_left (by rw [HCL.out.1]; omega)]; exact e2 j u hu)
          have r0 := cc 0 _ (by omega) rfl
          have r1 := cc 1 _ (by omega) rfl
          have r2 := cc 2 _ (by omega) rfl
          have r3 := cc 3 _ (by omega) rfl
          rw [Nat.add_zero] at r0
          refine ⟨y0, y1, y2, y3, r0, r1, r2, r3, ?_⟩
          show VShows _ _ (if i < c then ov i else vnum x) _
          rw [if_pos hic]
          exact VShows.mono (fun k _ hk => .inl hk.1) _ _ (VShows.fr fs (fun k hk e => by omega) _ _ (VShows.fr H8.out.1 (fun _ _ h => h) _ _ hy))
        · obtain rfl : i = c := by omega
          have cc := fun (j : Nat) (u : Value) (hu : [Value.int .i64 x, .float .f64 0, .string ⟨#[]⟩, .slice none 0 0][j]? = some u) => rd (i * 4 + j) u (by rw [List.getElem?_append_right (by rw [HCL.out.1]; omega), HCL.out.1, Nat.add_sub_cancel_left]; exact hu)
          have r0 := cc 0 _ rfl
          have r1 := cc 1 _ rfl
          have r2 := cc 2 _ rfl
          have r3 := cc 3 _ rfl
          rw [Nat.add_zero] at r0
          refine ⟨_, _, _, _, r0, r1, r2, r3, ?_⟩
          show VShows _ _ (if i < i then ov i else vnum x) _
          rw [if_neg (Nat.lt_irrefl _)]
          exact vshows_mk (s := []) ⟨by omega, by omega, by omega, by unfold maxLen; simp, by omega⟩ (.inl rfl)

set_option maxRecDepth 100000 in
set_option maxHeartbeats 16000000 in
theorem turn_half (wh : Nat) (hwh : wh ≤ 255) (hk : wh % 5 = 4) : LeafAt wh := by
  intro T R v pv w path x f s hvs hpv hpl hx0 hx1 hf hsl hsz hend
  have HVS := Lib.hid (VShows.mono (S := fun k => R k ∧ k < w.heap.size) (fun k hk h => ⟨h, hk⟩) _ _ hvs)
  obtain ⟨N, F, S, c, ov, va, cap, rfl, rfl, hVB, hVK⟩ := vshows_open HVS.out
  obtain ⟨pa, pc, rfl, _⟩ := hpv.shape
  obtain ⟨pl, hpl'⟩ : ∃ pl, path.length = pl := ⟨_, rfl⟩
  have hend' : pl = 0 ∨ c = 0 := by
    rcases hend with h | ⟨_, _, _, _, e⟩
    · left; rw [← hpl', h]; rfl
    · cases e; exact .inr rfl
  rw [hpl'] at hpl ⊢
  have HB := Lib.hid hVB
  have HVK := Lib.hid hVK
  have HSZ := Lib.hid hsz
  have HXF := Lib.hid (And.intro hx0 (And.intro hx1 (And.intro hf hsl)))
  obtain ⟨wz, hwz⟩ : ∃ wz : Int, (wh : Int) = wz := ⟨_, rfl⟩
  rw [hwz]
  have t0 : (wz % 5 == 0) = false := by simp; omega
  have t1 : (wz % 5 == 1) = false := by simp; omega
  have t2 : (wz % 5 == 2) = false := by simp; omega
  have t3 : (wz % 5 == 3) = false := by simp; omega
  have HK := Lib.hid hk
  have wz0 : 0 ≤ wz := by omega
  have wz1 : wz ≤ 255 := by omega
  have hc5 : c ≤ 50000 := by
    have h := hsz
    rw [szV] at h
    have hall : ∀ j, j ≤ ((List.range j).map fun i => szV (ov i)).sum := fun j => by
      induction j with
      | zero => simp
      | succ j ih => rw [List.range_succ, List.map_append, List.sum_append]; have := szV_pos (ov j); simp; omega
    have := hall c
    omega
  unfold sv
  obtain ⟨w1, hw1⟩ : ∃ w1, w1 = (w.alloc (.cells #[.int .i64 N, .float .f64 F, .string ⟨S.toArray⟩, .slice va c cap] 37)).alloc (.cells #[.int .i64 0, .float .f64 0, .string ⟨#[]⟩, .slice none 0 0] 37) := ⟨_, rfl⟩
  have f1 : Fr (fun _ => False) w w1 := by rw [hw1]; exact ((Fr.refl _ _).alloc _).alloc _
  have q1 : w1.heap[w.heap.size]? = some (.cells #[.int .i64 N, .float .f64 F, .string ⟨S.toArray⟩, .slice va c cap] 37 (0, 0)) := by rw [hw1]; exact heap_alloc_first _ _ _
  have p1 : w1.heap[w.heap.size + 1]? = some (.cells #[.int .i64 0, .float .f64 0, .string ⟨#[]⟩, .slice none 0 0] 37 (0, 0)) := by rw [hw1]; exact heap_alloc_two _ _ _
  go_enter Try.func19, Try.ntmps19
  go_upto_region 1 with fail
  rw [← hw1]
  obtain ⟨rb, hrb⟩ : ∃ rb, w.heap.size + 1 = rb := ⟨_, rfl⟩
  rw [hrb] at p1 ⊢
  have HRB := Lib.hid hrb
  obtain ⟨c0, c1, c2, c3⟩ := cell_of_four q1
  have z0 : w1.frozen? ⟨w.heap.size, 0, none⟩ = false := by simp [World.frozen?, q1]
  have z1 : w1.frozen? ⟨w.heap.size, 1, none⟩ = false := by simp [World.frozen?, q1]
  have z2 : w1.frozen? ⟨w.heap.size, 2, none⟩ = false := by simp [World.frozen?, q1]
  have z3 : w1.frozen? ⟨w.heap.size, 3, none⟩ = false := by simp [World.frozen?, q1]
  have H1 := Lib.hid (And.intro f1 (And.intro q1 p1))
  clear hw1 f1 q1 p1 hrb hvs hpv hpl' hend hVB hVK hsz hx0 hx1 hf hsl hwz hk
  by_cases h0 : pl = 0
  · have hp1 : ¬ (0 : Int) < (pl : Int) := by omega
    clear h0 hend'
    obtain ⟨hc2, hhc2⟩ : ∃ hc2, c / 2 = hc2 := ⟨_, rfl⟩
    have hd1 : (c : Int).tdiv 2 = (hc2 : Int) := by rw [← hhc2]; exact (Int.ofNat_tdiv c 2).symm
    have hd2 : (c : Int) / 2 = (hc2 : Int) := by rw [← hhc2]; omega
    have hd3 : hc2 ≤ c := by omega
    have HCAP : Hid (c = 0 ∨ c ≤ cap) := Lib.hid (by
      rcases HVK.out with h | h
      · exact .inl h
      · exact .inr h.1)
    have hd4 : c = 0 ∨ hc2 ≤ cap := by have := HCAP.out; omega
    have H2C := Lib.hid hhc2
    rcases hd4 with hcz | hcap
    · have hz2 : hc2 = 0 := by omega
      subst hcz
      subst hz2
      clear hd1 hd2 hd3
      go_upto_region 17 with fail
      obtain ⟨w2, hw2⟩ : ∃ w2, w2 = w1.setCell ⟨w.heap.size, 3, none⟩ (.slice va 0 cap) := ⟨_, rfl⟩
      rw [← hw2]
      have f2 : Fr (fun k => k = w.heap.size) w1 w2 := by rw [hw2]; exact Fr.set1 (Fr.refl _ _) _ _
      have q2 : w2.heap[w.heap.size]? = some (.cells #[.int .i64 N, .float .f64 F, .string ⟨S.toArray⟩, .slice va 0 cap] 37 (0, 0)) := by rw [hw2]; exact setCell_row 3 _ H1.out.2.1
      have hvr : w.heap.size < rb := by have := HRB.out; omega
      have p2 := box_kept H1.out.2.2 f2 (fun h => by omega)
      obtain ⟨d0, d1, d2, d3⟩ := cell_of_four q2
      obtain ⟨b0, b1, b2, b3⟩ := cell_of_four p2
      have u0 : w2.frozen? ⟨rb, 0, none⟩ = false := by simp [World.frozen?, p2]
      have u1 : w2.frozen? ⟨rb, 1, none⟩ = false := by simp [World.frozen?, p2]
      have u2 : w2.frozen? ⟨rb, 2, none⟩ = false := by simp [World.frozen?, p2]
      have u3 : w2.frozen? ⟨rb, 3, none⟩ = false := by simp [World.frozen?, p2]
      have H2 := Lib.hid (And.intro (H1.out.1.trans f2 (fun i hi h => by omega)) p2)
      clear hw2 f2 q2 p2 c0 c1 c2 c3 z0 z1 z2 z3
      go_wp2
      refine bodyPost_ret (results_cell_row rfl _ _ rb 37 _ _ _ rfl (store_four H2.out.2) Try.underlying37 rfl (by kernel_rfl)) rfl ?_
      have fs : Fr (fun k => k = rb) w2 ((((w2.setCell ⟨rb, 0, none⟩ (.int .i64 N)).setCell ⟨rb, 1, none⟩ (.float .f64 F)).setCell ⟨rb, 2, none⟩ (.string ⟨S.toArray⟩)).setCell ⟨rb, 3, none⟩ (.slice va 0 cap)) := fr_four _ _ _ _ (Fr.refl _ _) (fun _ => rfl)
      refine ⟨_, rfl, ?_, H2.out.1.trans fs (fun i hi h => by omega)⟩
      have e : leafE wh x f s (.mk N F S 0 ov) = .mk N F S 0 ov := by unfold leafE; rw [HK.out]; simp
      rw [e]
      have hb := HB.out
      refine VShows.mono (fun k _ (h : R k ∧ k < w.heap.size) => .inl h.1) _ _ (vshows_mk (s := S) (by unfold VB at hb ⊢; omega) (((VKids.half HVK.out (Nat.le_refl 0)).fr H2.out.1 (fun _ _ h => h)).fr fs (fun k hk e => by omega)))

    · clear hd2
      go_upto_region 17 with fail
      obtain ⟨w2, hw2⟩ : ∃ w2, w2 = w1.setCell ⟨w.heap.size, 3, none⟩ (.slice va hc2 cap) := ⟨_, rfl⟩
      rw [← hw2]
      have f2 : Fr (fun k => k = w.heap.size) w1 w2 := by rw [hw2]; exact Fr.set1 (Fr.refl _ _) _ _
      have q2 : w2.heap[w.heap.size]? = some (.cells #[.int .i64 N, .float .f64 F, .string ⟨S.toArray⟩, .slice va hc2 cap] 37 (0, 0)) := by rw [hw2]; exact setCell_row 3 _ H1.out.2.1
      have hvr : w.heap.size < rb := by have := HRB.out; omega
      have p2 := box_kept H1.out.2.2 f2 (fun h => by omega)
      obtain ⟨d0, d1, d2, d3⟩ := cell_of_four q2
      obtain ⟨b0, b1, b2, b3⟩ := cell_of_four p2
      have u0 : w2.frozen? ⟨rb, 0, none⟩ = false := by simp [World.frozen?, p2]
      have u1 : w2.frozen? ⟨rb, 1, none⟩ = false := by simp [World.frozen?, p2]
      have u2 : w2.frozen? ⟨rb, 2, none⟩ = false := by simp [World.frozen?, p2]
      have u3 : w2.frozen? ⟨rb, 3, none⟩ = false := by simp [World.frozen?, p2]
      have H2 := Lib.hid (And.intro (H1.out.1.trans f2 (fun i hi h => by omega)) p2)
      clear hw2 f2 q2 p2 c0 c1 c2 c3 z0 z1 z2 z3
      go_wp2
      refine bodyPost_ret (results_cell_row rfl _ _ rb 37 _ _ _ rfl (store_four H2.out.2) Try.underlying37 rfl (by kernel_rfl)) rfl ?_
      have fs : Fr (fun k => k = rb) w2 ((((w2.setCell ⟨rb, 0, none⟩ (.int .i64 N)).setCell ⟨rb, 1, none⟩ (.float .f64 F)).setCell ⟨rb, 2, none⟩ (.string ⟨S.toArray⟩)).setCell ⟨rb, 3, none⟩ (.slice va hc2 cap)) := fr_four _ _ _ _ (Fr.refl _ _) (fun _ => rfl)
      refine ⟨_, rfl, ?_, H2.out.1.trans fs (fun i hi h => by omega)⟩
      have e : leafE wh x f s (.mk N F S c ov) = .mk N F S hc2 ov := by unfold leafE; rw [HK.out]; simp [H2C.out]
      rw [e]
      have hb := HB.out
      refine VShows.mono (fun k _ (h : R k ∧ k < w.heap.size) => .inl h.1) _ _ (vshows_mk (s := S) (by unfold VB at hb ⊢; omega) (((VKids.half HVK.out hd3).fr H2.out.1 (fun _ _ h => h)).fr fs (fun k hk e => by omega)))

  · have hp1 : (0 : Int) < (pl : Int) := by omega
    have hc0 : c = 0 := by omega
    have hp2 : ¬ (0 : Int) < (c : Int) := by omega
    clear h0 hend' hc0
    obtain ⟨hc2, hhc2⟩ : ∃ hc2, c / 2 = hc2 := ⟨_, rfl⟩
    have hd1 : (c : Int).tdiv 2 = (hc2 : Int) := by rw [← hhc2]; exact (Int.ofNat_tdiv c 2).symm
    have hd2 : (c : Int) / 2 = (hc2 : Int) := by rw [← hhc2]; omega
    have hd3 : hc2 ≤ c := by omega
    have HCAP : Hid (c = 0 ∨ c ≤ cap) := Lib.hid (by
      rcases HVK.out with h | h
      · exact .inl h
      · exact .inr h.1)
    have hd4 : c = 0 ∨ hc2 ≤ cap := by have := HCAP.out; omega
    have H2C := Lib.hid hhc2
    rcases hd4 with hcz | hcap
    · have hz2 : hc2 = 0 := by omega
      subst hcz
      subst hz2
      clear hd1 hd2 hd3
      go_upto_region 17 with fail
      obtain ⟨w2, hw2⟩ : ∃ w2, w2 = w1.setCell ⟨w.heap.size, 3, none⟩ (.slice va 0 cap) := ⟨_, rfl⟩
      rw [← hw2]
      have f2 : Fr (fun k => k = w.heap.size) w1 w2 := by rw [hw2]; exact Fr.set1 (Fr.refl _ _) _ _
      have q2 : w2.heap[w.heap.size]? = some (.cells #[.int .i64 N, .float .f64 F, .string ⟨S.toArray⟩, .slice va 0 cap] 37 (0, 0)) := by rw [hw2]; exact setCell_row 3 _ H1.out.2.1
      have hvr : w.heap.size < rb := by have := HRB.out; omega
      have p2 := box_kept H1.out.2.2 f2 (fun h => by omega)
      obtain ⟨d0, d1, d2, d3⟩ := cell_of_four q2
      obtain ⟨b0, b1, b2, b3⟩ := cell_of_four p2
      have u0 : w2.frozen? ⟨rb, 0, none⟩ = false := by simp [World.frozen?, p2]
      have u1 : w2.frozen? ⟨rb, 1, none⟩ = false := by simp [World.frozen?, p2]
      have u2 : w2.frozen? ⟨rb, 2, none⟩ = false := by simp [World.frozen?, p2]
      have u3 : w2.frozen? ⟨rb, 3, none⟩ = false := by simp [World.frozen?, p2]
      have H2 := Lib.hid (And.intro (H1.out.1.trans f2 (fun i hi h => by omega)) p2)
      clear hw2 f2 q2 p2 c0 c1 c2 c3 z0 z1 z2 z3
      go_wp2
      refine bodyPost_ret (results_cell_row rfl _ _ rb 37 _ _ _ rfl (store_four H2.out.2) Try.underlying37 rfl (by kernel_rfl)) rfl ?_
      have fs : Fr (fun k => k = rb) w2 ((((w2.setCell ⟨rb, 0, none⟩ (.int .i64 N)).setCell ⟨rb, 1, none⟩ (.float .f64 F)).setCell ⟨rb, 2, none⟩ (.string ⟨S.toArray⟩)).setCell ⟨rb, 3, none⟩ (.slice va 0 cap)) := fr_four _ _ _ _ (Fr.refl _ _) (fun _ => rfl)
      refine ⟨_, rfl, ?_, H2.out.1.trans fs (fun i hi h => by omega)⟩
      have e : leafE wh x f s (.mk N F S 0 ov) = .mk N F S 0 ov := by unfold leafE; rw [HK.out]; simp
      rw [e]
      have hb := HB.out
      refine VShows.mono (fun k _ (h : R k ∧ k < w.heap.size) => .inl h.1) _ _ (vshows_mk (s := S) (by unfold VB at hb ⊢; omega) (((VKids.half HVK.out (Nat.le_refl 0)).fr H2.out.1 (fun _ _ h => h)).fr fs (fun k hk e => by omega)))

    · clear hd2
      go_upto_region 17 with fail
      obtain ⟨w2, hw2⟩ : ∃ w2, w2 = w1.setCell ⟨w.heap.size, 3, none⟩ (.slice va hc2 cap) := ⟨_, rfl⟩
      rw [← hw2]
      have f2 : Fr (fun k => k = w.heap.size) w1 w2 := by rw [hw2]; exact Fr.set1 (Fr.refl _ _) _ _
      have q2 : w2.heap[w.heap.size]? = some (.cells #[.int .i64 N, .float .f64 F, .string ⟨S.toArray⟩, .slice va hc2 cap] 37 (0, 0)) := by rw [hw2]; exact setCell_row 3 _ H1.out.2.1
      have hvr : w.heap.size < rb := by have := HRB.out; omega
      have p2 := box_kept H1.out.2.2 f2 (fun h => by omega)
      obtain ⟨d0, d1, d2, d3⟩ := cell_of_four q2
      obtain ⟨b0, b1, b2, b3⟩ := cell_of_four p2
      have u0 : w2.frozen? ⟨rb, 0, none⟩ = false := by simp [World.frozen?, p2]
      have u1 : w2.frozen? ⟨rb, 1, none⟩ = false := by simp [World.frozen?, p2]
      have u2 : w2.frozen? ⟨rb, 2, none⟩ = false := by simp [World.frozen?, p2]
      have u3 : w2.frozen? ⟨rb, 3, none⟩ = false := by simp [World.frozen?, p2]
      have H2 := Lib.hid (And.intro (H1.out.1.trans f2 (fun i hi h => by omega)) p2)
      clear hw2 f2 q2 p2 c0 c1 c2 c3 z0 z1 z2 z3
      go_wp2
      refine bodyPost_ret (results_cell_row rfl _ _ rb 37 _ _ _ rfl (store_four H2.out.2) Try.underlying37 rfl (by kernel_rfl)) rfl ?_
      have fs : Fr (fun k => k = rb) w2 ((((w2.setCell ⟨rb, 0, none⟩ (.int .i64 N)).setCell ⟨rb, 1, none⟩ (.float .f64 F)).setCell ⟨rb, 2, none⟩ (.string ⟨S.toArray⟩)).setCell ⟨rb, 3, none⟩ (.slice va hc2 cap)) := fr_four _ _ _ _ (Fr.refl _ _) (fun _ => rfl)
      refine ⟨_, rfl, ?_, H2.out.1.trans fs (fun i hi h => by omega)⟩
      have e : leafE wh x f s (.mk N F S c ov) = .mk N F S hc2 ov := by unfold leafE; rw [HK.out]; simp [H2C.out]
      rw [e]
      have hb := HB.out
      refine VShows.mono (fun k _ (h : R k ∧ k < w.heap.size) => .inl h.1) _ _ (vshows_mk (s := S) (by unfold VB at hb ⊢; omega) (((VKids.half HVK.out hd3).fr H2.out.1 (fun _ _ h => h)).fr fs (fun k hk e => by omega)))

theorem leaf_all (wh : Nat) (hwh : wh ≤ 255) : LeafAt wh := by
  rcases (by omega : wh % 5 = 0 ∨ wh % 5 = 1 ∨ wh % 5 = 2 ∨ wh % 5 = 3 ∨ wh % 5 = 4) with h | h | h | h | h
  · exact turn_num wh hwh h
  · exact turn_float wh hwh h
  · exact turn_text wh hwh h
  · exact turn_more wh hwh h
  · exact turn_half wh hwh h

end Go.Proofs.Ytnhkahnihdfefaa

/-
  Pure: a value is one of a type, as the program has it and as the answer has it; types of the laws are good and have values.
-/
namespace Go.Proofs.Ytnhkahnihdfefaa
open Go.RowKit
set_option linter.unusedVariables false
set_option linter.unusedSimpArgs false

theorem same_zero (x : Int) (f : Nat) (s : Txt) (c : Nat) (ov : Nat → VT) : sameV (.mk x f s c ov) zeroV = (decide (x = 0) && decide (Fl.canon f = 0) && decide (s = []) && decide (c = 0)) := by
  unfold zeroV
  rw [sameV]
  have : Fl.canon 0 = 0 := by decide +kernel
  rw [this]
  by_cases hc : c = 0
  · subst hc; simp
  · simp [hc]

theorem canon0 : Fl.canon 0 = 0 := by decide +kernel

theorem isE_iff (k : Nat) (m : Int) (ns : List Txt) (n : Nat) (of : Nat → KT) (N : Int) (f : Nat) (s : Txt) (c : Nat) (ov : Nat → VT) :
    isE (.mk k m ns n of) (.mk N f s c ov) = true ↔ (k ≠ 3 → Fl.canon f = 0) ∧ (k ≠ 4 → s = []) ∧ ((k < 5 ∨ k = 7) → c = 0) ∧ lowE k ≤ N ∧ N ≤ highE k ns.length n ∧ (k = 4 → (s.length : Int) ≤ m) ∧ (k = 5 → (c : Int) ≤ m) ∧ (k = 6 → c = n) ∧ (k = 8 → c = 1) ∧
      ∀ i, i < c → isE (of (if k = 6 then i else if k = 8 then N.toNat else 0)) (ov i) = true := by
  rw [isE]
  constructor
  · intro h
    split at h
    · cases h
    rename_i h1
    split at h
    · cases h
    rename_i h2
    split at h
    · cases h
    rename_i h3
    split at h
    · cases h
    rename_i h4
    rw [List.all_eq_true] at h
    refine ⟨fun hk => Classical.byContradiction fun e => h1 (.inl ⟨hk, e⟩), fun hk => Classical.byContradiction fun e => h1 (.inr ⟨hk, e⟩), fun hk => ?_, by omega, by omega, fun hk => by omega, fun hk => by omega, fun hk => by omega, fun hk => by omega, fun i hi => h i (List.mem_range.2 hi)⟩
    omega
  · rintro ⟨a1, a2, a3, a4, a5, a6, a7, a8, a9, a10⟩
    rw [if_neg, if_neg, if_neg, if_neg, List.all_eq_true]
    · exact fun i hi => a10 i (List.mem_range.1 hi)
    · rintro (⟨h, h'⟩ | ⟨h, h'⟩)
      · exact h' (a8 h)
      · exact h' (a9 h)
    · rintro (h | h | ⟨h, h'⟩ | ⟨h, h'⟩)
      · omega
      · omega
      · have := a6 h; omega
      · have := a7 h; omega
    · rintro ⟨h, h'⟩
      have := a3 h; omega
    · rintro (⟨h, h'⟩ | ⟨h, h'⟩)
      · exact h' (a1 h)
      · exact h' (a2 h)

/-- THE PROGRAM'S ANSWER IS THE DOCUMENT'S. -/
theorem fits_is (t : KT) : goodE t → ∀ T, fitsE t T = isE t T := by
  induction t with
  | nil => exact fun h => h.elim
  | mk k m ns n of ih =>
    rintro ⟨⟨hn12, hown⟩, hkids⟩ T
    obtain ⟨hk8, hmost, hone, hparts, hnames, hnone⟩ := own_facts hown
    cases T with
    | nil => rfl
    | mk N f s c ov =>
      rw [Bool.eq_iff_iff, isE_iff, fitsE]
      simp only [same_zero, canon0]
      rcases (by omega : k = 0 ∨ k = 1 ∨ k = 2 ∨ k = 3 ∨ k = 4 ∨ k = 5 ∨ k = 6 ∨ k = 7 ∨ k = 8) with h | h | h | h | h | h | h | h | h <;> subst h
      · simp [lowE, highE]
        constructor
        · rintro ⟨⟨a, b⟩, ⟨c1, c2⟩, c3⟩; subst c3; exact ⟨c1, c2, rfl, a, b, fun i hi => by omega⟩
        · rintro ⟨a, b, c3, d, e, _⟩; exact ⟨⟨d, e⟩, ⟨a, b⟩, c3⟩
      · simp [lowE, highE]
        constructor
        · rintro ⟨⟨a, b⟩, ⟨c1, c2⟩, c3⟩; subst c3; exact ⟨c1, c2, rfl, a, b, fun i hi => by omega⟩
        · rintro ⟨a, b, c3, d, e, _⟩; exact ⟨⟨d, e⟩, ⟨a, b⟩, c3⟩
      · simp [lowE, highE]
        constructor
        · rintro ⟨⟨a, b⟩, ⟨c1, c2⟩, c3⟩; subst c3; exact ⟨c1, c2, rfl, a, b, fun i hi => by omega⟩
        · rintro ⟨a, b, c3, d, e, _⟩; exact ⟨⟨d, e⟩, ⟨a, b⟩, c3⟩
      · simp [lowE, highE]
        constructor
        · rintro ⟨⟨a, b⟩, c3⟩; subst c3; exact ⟨b, rfl, by omega, by omega, fun i hi => by omega⟩
        · rintro ⟨a, b, c3, d, _⟩; exact ⟨⟨by omega, a⟩, b⟩
      · simp [lowE, highE]
        constructor
        · rintro ⟨a, ⟨b, c1⟩, c3⟩; subst c3; exact ⟨c1, rfl, by omega, by omega, a, fun i hi => by omega⟩
        · rintro ⟨a, c3, d, e, g, _⟩; exact ⟨g, ⟨by omega, a⟩, c3⟩
      · have h1 := hone rfl
        subst h1
        have hi0 := ih 0 (hkids 0 (by omega))
        simp [lowE, highE, hi0]
        constructor
        · rintro ⟨⟨a, b⟩, ⟨c1, c2⟩, c3⟩; exact ⟨c2, c3, by omega, by omega, a, b⟩
        · rintro ⟨a, b, c1, c2, d, e⟩; exact ⟨⟨d, e⟩, ⟨by omega, a⟩, b⟩
      · simp [lowE, highE]
        constructor
        · rintro ⟨⟨a, b⟩, ⟨c1, c2⟩, c3⟩; subst a; exact ⟨c2, c3, by omega, by omega, rfl, fun i hi => by rw [← ih i (hkids i hi)]; exact b i hi⟩
        · rintro ⟨a, b, c1, c2, d, e⟩; subst d; exact ⟨⟨rfl, fun i hi => by rw [ih i (hkids i hi)]; exact e i hi⟩, ⟨by omega, a⟩, b⟩
      · simp [lowE, highE]
        constructor
        · rintro ⟨⟨a, b⟩, ⟨c1, c2⟩, c3⟩; subst c3; exact ⟨c1, c2, rfl, a, b, fun i hi => by omega⟩
        · rintro ⟨a, b, c3, d, e, _⟩; exact ⟨⟨d, e⟩, ⟨a, b⟩, c3⟩
      · simp [lowE, highE]
        constructor
        · rintro ⟨⟨⟨a, b⟩, a', b'⟩, c1, c3⟩
          subst a'
          exact ⟨c1, c3, a, b, rfl, fun i hi => (by (have e : i = 0 := by omega); subst e; rw [← ih _ (hkids N.toNat (by omega))]; exact b')⟩
        · rintro ⟨a, b, c1, c2, d, e⟩
          subst d
          exact ⟨⟨⟨c1, c2⟩, rfl, by rw [ih _ (hkids N.toNat (by omega))]; exact e 0 (by omega)⟩, a, b⟩

/-- No part of a node is missing. -/
def vokN : KN → Prop
  | .nil => False
  | .mk _ _ c of => ∀ i, i < c → vokN (of i)

theorem NShows.vok {w : World} (t : KN) : ∀ v, NShows w t v → vokN t := by
  induction t with
  | nil => exact fun _ h => h.elim
  | mk k n c of ih =>
    rintro v ⟨vo, rfl, hk, hn, hc, ho⟩ i hi
    rcases ho with ⟨h, _⟩ | ⟨g, off, cap, rfl, hle, hcell⟩
    · omega
    · obtain ⟨x0, x1, x2, _, _, _, hx⟩ := hcell i hi
      exact ih i _ hx

theorem vnamed_nameT (i : Nat) (hi : i < 4) (n : Nat) : named (nameT i n) = true := by
  have key : ∀ j < 26, ∀ i < 4, named [UInt8.ofNat (97 + i), UInt8.ofNat (65 + j), 48] = true := by decide +kernel
  have := key (n % 26) (Nat.mod_lt _ (by decide)) i hi
  have e : ((65 : Int) + (n : Int) % 26).toNat = 65 + n % 26 := by omega
  unfold nameT
  rw [e]
  exact this

theorem vnameT_ne (i j : Nat) (hi : i < 4) (hj : j < 4) (h : i ≠ j) (n : Int) : nameT i n ≠ nameT j n := by
  have key : ∀ i < 4, ∀ j < 4, i ≠ j → UInt8.ofNat (97 + i) ≠ UInt8.ofNat (97 + j) := by decide
  intro e
  unfold nameT at e
  simp only [List.cons.injEq] at e
  exact key i hi j hj h e.1

theorem vnames_right (n c : Nat) (h0 : 1 ≤ c) (hc : c ≤ 3) : checkNamesE ((List.range c).map (fun i => nameT i n)) = 0 := by
  have h01 := vnameT_ne 0 1 (by omega) (by omega) (by omega) n
  have h02 := vnameT_ne 0 2 (by omega) (by omega) (by omega) n
  have h12 := vnameT_ne 1 2 (by omega) (by omega) (by omega) n
  have n0 := vnamed_nameT 0 (by omega) n
  have n1 := vnamed_nameT 1 (by omega) n
  have n2 := vnamed_nameT 2 (by omega) n
  unfold checkNamesE
  rw [if_neg (by simp; omega)]
  rcases (by omega : c = 1 ∨ c = 2 ∨ c = 3) with rfl | rfl | rfl <;> simp [List.range_succ, namesE, nameE, n0, n1, n2, h01, h02, h12]

theorem leaf_good (q : Nat) (hq : q < 4) (of : Nat → KT) : goodE (.mk q 0 [] 0 of) := by
  refine ⟨⟨by omega, ?_⟩, fun i hi => by omega⟩
  rcases (by omega : q = 0 ∨ q = 1 ∨ q = 2 ∨ q = 3) with rfl | rfl | rfl | rfl <;> simp [ownOK, sizedB, formedB]

/-- A type of the laws, of nothing that is known. -/
theorem good_type (t : KN) : ∀ d, 1 ≤ d → vokN t → goodE (typeE [] t d) ∧ ∀ lv, d ≤ lv → hasE (typeE [] t d) lv = true := by
  induction t with
  | nil => exact fun _ _ h => h.elim
  | mk kd n c of ih =>
    intro d hd ok
    rw [typeE_mk]
    have hsub : ∀ i, 2 ≤ d → goodE (subE [] c of d i) ∧ ∀ lv, d - 1 ≤ lv → hasE (subE [] c of d i) lv = true := by
      intro i h2
      unfold subE
      split
      · have h4 : i % 4 < 4 := Nat.mod_lt _ (by decide)
        refine ⟨leaf_good _ h4 _, fun lv hlv => ?_⟩
        rw [hasE, if_neg (by omega)]
        rfl
      · exact ih _ _ (by omega) (ok _ (Nat.mod_lt _ (by omega)))
    have h60 : (1 : Int) ≤ 1 + ((n % 60 : Nat) : Int) ∧ 1 + ((n % 60 : Nat) : Int) ≤ 60 := by have := Nat.mod_lt n (show 0 < 60 by decide); omega
    have h3 : n % 3 < 3 := Nat.mod_lt _ (by decide)
    have hnm : checkNamesE ((List.range (1 + n % 3)).map (fun i => nameT i n)) = 0 := vnames_right n _ (by omega) (by omega)
    obtain ⟨k, hk⟩ : ∃ k, k = kindE kd d [] := ⟨_, rfl⟩
    have hk9 : k ≤ 8 ∧ (k = 5 ∨ k = 6 ∨ k = 8 → 2 ≤ d) := by
      rw [hk]; unfold kindE
      split
      · omega
      · rename_i h
        simp only [List.length_nil, and_true] at h
        omega
    rw [← hk]
    clear hk
    rcases (by omega : k = 0 ∨ k = 1 ∨ k = 2 ∨ k = 3 ∨ k = 4 ∨ k = 5 ∨ k = 6 ∨ k = 7 ∨ k = 8) with h | h | h | h | h | h | h | h | h <;> subst h
    · exact ⟨leaf_good 0 (by omega) _, fun lv hlv => by simp [mkE, hasE]; omega⟩
    · exact ⟨leaf_good 1 (by omega) _, fun lv hlv => by simp [mkE, hasE]; omega⟩
    · exact ⟨leaf_good 2 (by omega) _, fun lv hlv => by simp [mkE, hasE]; omega⟩
    · exact ⟨leaf_good 3 (by omega) _, fun lv hlv => by simp [mkE, hasE]; omega⟩
    · have e : mkE [] 4 n (subE [] c of d) = .mk 4 (1 + (n % 60 : Nat)) [] 0 (fun _ => .nil) := by simp [mkE]
      rw [e]
      refine ⟨⟨⟨by omega, ?_⟩, fun i hi => by omega⟩, fun lv hlv => by simp [hasE]; omega⟩
      unfold ownOK sizedB formedB
      rw [decide_eq_true h60]
      simp
    · have hs := hsub 0 (hk9.2 (by omega))
      have e : mkE [] 5 n (subE [] c of d) = .mk 5 (1 + (n % 60 : Nat)) [] 1 (fun _ => subE [] c of d 0) := by simp [mkE]
      rw [e]
      refine ⟨⟨⟨by omega, ?_⟩, fun i hi => hs.1⟩, fun lv hlv => ?_⟩
      · unfold ownOK sizedB formedB
        rw [decide_eq_true h60]
        simp
      · rw [hasE, if_neg (by omega), List.all_eq_true]
        exact fun i _ => hs.2 _ (by omega)
    · have hs := fun i => hsub i (hk9.2 (by omega))
      have e : mkE [] 6 n (subE [] c of d) = .mk 6 0 ((List.range (1 + n % 3)).map (fun i => nameT i n)) (1 + n % 3) (subE [] c of d) := by simp [mkE]
      rw [e]
      refine ⟨⟨⟨by omega, ?_⟩, fun i hi => (hs i).1⟩, fun lv hlv => ?_⟩
      · unfold ownOK sizedB formedB
        simp only [if_pos (show (6 : Nat) = 6 ∨ (6 : Nat) = 7 ∨ (6 : Nat) = 8 by decide)]
        rw [hnm]
        simp
      · rw [hasE, if_neg (by omega), List.all_eq_true]
        exact fun i _ => (hs i).2 _ (by omega)
    · have e : mkE [] 7 n (subE [] c of d) = .mk 7 0 ((List.range (1 + n % 3)).map (fun i => nameT i n)) 0 (fun _ => .nil) := by simp [mkE]
      rw [e]
      refine ⟨⟨⟨by omega, ?_⟩, fun i hi => by omega⟩, fun lv hlv => by simp [hasE]; omega⟩
      unfold ownOK sizedB formedB
      simp only [if_pos (show (7 : Nat) = 6 ∨ (7 : Nat) = 7 ∨ (7 : Nat) = 8 by decide)]
      rw [hnm]
      simp
    · have hs := fun i => hsub i (hk9.2 (by omega))
      have e : mkE [] 8 n (subE [] c of d) = .mk 8 0 ((List.range (1 + n % 3)).map (fun i => nameT i n)) (1 + n % 3) (subE [] c of d) := by simp [mkE]
      rw [e]
      refine ⟨⟨⟨by omega, ?_⟩, fun i hi => (hs i).1⟩, fun lv hlv => ?_⟩
      · unfold ownOK sizedB formedB
        simp only [if_pos (show (8 : Nat) = 6 ∨ (8 : Nat) = 7 ∨ (8 : Nat) = 8 by decide)]
        rw [hnm]
        simp
      · rw [hasE, if_neg (by omega), List.all_eq_true]
        exact fun i _ => (hs i).2 _ (by omega)

/-- What the check answers of a type of the laws. -/
theorem val_is (t : KN) (T : VT) (h : vokN t) : valE (typeE [] t 4) T = if isE (typeE [] t 4) T then 0 else 17 := by
  obtain ⟨hg, hh⟩ := good_type t 4 (by omega) h
  unfold valE isVal
  rw [hh 20 (by omega), fits_is _ hg, Bool.true_and]

end Go.Proofs.Ytnhkahnihdfefaa

/-
  How much a turned value may grow; Flat of what is no value of the type; the state of one value made and laid in a box.
-/
namespace Go.Proofs.Ytnhkahnihdfefaa
open Go.RowKit
attribute [local go_sem] run_store_float
set_option linter.unusedVariables false
set_option linter.unusedSimpArgs false

theorem sum_grow (g h : Nat → Nat) (q : Nat) (hq : h q ≤ g q + 1) (ho : ∀ i, i ≠ q → h i ≤ g i) (c : Nat) : ((List.range c).map h).sum ≤ ((List.range c).map g).sum + (if q < c then 1 else 0) := by
  induction c with
  | zero => simp
  | succ c ih =>
    rw [List.range_succ, List.map_append, List.map_append, List.sum_append, List.sum_append]
    simp only [List.map_cons, List.map_nil, List.sum_cons, List.sum_nil, Nat.add_zero]
    by_cases e : c = q
    · subst e
      rw [if_neg (Nat.lt_irrefl _)] at ih
      rw [if_pos (Nat.lt_succ_self _)]
      omega
    · have := ho c e
      by_cases hl : q < c
      · rw [if_pos hl] at ih
        rw [if_pos (by omega)]
        omega
      · rw [if_neg hl] at ih
        rw [if_neg (by omega)]
        omega

theorem sum_shrink (g : Nat → Nat) (a b : Nat) (h : a ≤ b) : ((List.range a).map g).sum ≤ ((List.range b).map g).sum := by
  induction b with
  | zero => obtain rfl : a = 0 := by omega
            exact Nat.le_refl _
  | succ b ih =>
    by_cases e : a = b + 1
    · subst e; exact Nat.le_refl _
    · rw [List.range_succ (n := b), List.map_append, List.sum_append]
      have := ih (by omega)
      omega

theorem leaf_size (wh : Nat) (x : Int) (f : Nat) (s : Txt) (T : VT) : szV (leafE wh x f s T) ≤ szV T + 1 := by
  cases T with
  | nil => simp [leafE]
  | mk N F S c ov =>
    rw [leafE]
    split
    · rw [szV, szV]; omega
    split
    · rw [szV, szV]; omega
    split
    · rw [szV, szV]; omega
    split
    · rw [szV, szV, List.range_succ, List.map_append, List.sum_append]
      simp only [List.map_cons, List.map_nil, List.sum_cons, List.sum_nil, Nat.add_zero, Nat.lt_irrefl, if_false]
      have e : (List.range c).map (fun i => szV (if i < c then ov i else vnum x)) = (List.range c).map (fun i => szV (ov i)) := by
        apply List.map_congr_left
        intro i hi
        rw [if_pos (List.mem_range.1 hi)]
      rw [e]
      have : szV (vnum x) = 1 := rfl
      omega
    · rw [szV, szV]
      have := sum_shrink (fun i => szV (ov i)) (c / 2) c (by omega)
      omega

theorem turn_size (wh : Nat) (x : Int) (f : Nat) (s : Txt) (T : VT) : ∀ path, szV (turnE wh x f s T path) ≤ szV T + 1 := by
  induction T with
  | nil => intro path; simp [turnE]
  | mk N F S c ov ih =>
    intro path
    unfold turnE
    by_cases hc : path = [] ∨ c = 0
    · rw [if_pos hc]; exact leaf_size _ _ _ _ _
    · rw [if_neg hc, szV, szV]
      have := sum_grow (fun i => szV (ov i)) (fun i => szV (if i = (path.getD 0 0).toNat % c then turnE wh x f s (ov i) path.tail else ov i)) ((path.getD 0 0).toNat % c)
        (by simp only [if_true]; exact ih _ _) (fun i hi => by simp only [if_neg hi]; exact Nat.le_refl _) c
      split at this <;> omega

set_option maxRecDepth 100000 in
set_option maxHeartbeats 16000000 in
theorem flat_none (R : Nat → Prop) (t : KT) (T : VT) (v vv : Value) (w : World) (mz : Int) (hsh : Shows R w t v) (hvs : VShows R w T vv) (hsz : szV T ≤ 100000) (h17 : valE t T = 17) :
    Calls Try.prog 16 #[v, vv, .int .i64 mz] w fun e w' => e = .returned (.slice none 0 0) ∧ Fr (fun _ => False) w w' := by
  obtain ⟨k, m, a, n, c, a', n', c', rfl⟩ := hsh.four
  obtain ⟨N, f, s, va, vc, cap, rfl⟩ := hvs.lit
  obtain ⟨w1, hw1⟩ : ∃ w1, w1 = (w.alloc (.cells #[.int .u8 k, .int .i64 m, .slice a n c, .slice a' n' c'] 32)).alloc (.cells #[.int .i64 N, .float .f64 f, .string s, .slice va vc cap] 37) := ⟨_, rfl⟩
  have f1 : Fr (fun _ => False) w w1 := by rw [hw1]; exact ((Fr.refl _ _).alloc _).alloc _
  have q1 : w1.heap[w.heap.size]? = some (.cells #[.int .u8 k, .int .i64 m, .slice a n c, .slice a' n' c'] 32 (0, 0)) := by rw [hw1]; exact heap_alloc_first _ _ _
  have v1 : w1.heap[w.heap.size + 1]? = some (.cells #[.int .i64 N, .float .f64 f, .string s, .slice va vc cap] 37 (0, 0)) := by rw [hw1]; exact heap_alloc_two _ _ _
  have hchk := vcheck_any R t T _ _ w1 (Shows.fr f1 (fun _ _ h => h) _ _ hsh) (VShows.fr f1 (fun _ _ h => h) _ _ hvs) hsz
  rw [h17] at hchk
  have H1 := Lib.hid f1
  clear hsh hvs hsz h17 f1
  obtain ⟨c0, c1, c2, c3⟩ := cell_of_four q1
  obtain ⟨d0, d1, d2, d3⟩ := cell_of_four v1
  clear q1 v1
  go_enter Try.func16, Try.ntmps16
  go_upto_region 1 with fail
  rw [← hw1]
  clear hw1
  go_wp2_with fail
  refine hchk.mono ?_
  rintro e w2 ⟨rfl, f2⟩
  have F2 := Lib.hid f2
  clear f2 hchk c0 c1 c2 c3 d0 d1 d2 d3
  go_wp2
  go_ret
  exact ⟨rfl, H1.out.trans F2.out (fun _ _ h => h)⟩

/-- Off the box. -/
def VOff (st : Nat → Option Value) : Nat → Prop := fun k => st 9 ≠ some (vptr k)

/-- Ahead of the store. -/
structure VOneA (w : World) (TT : Nat → VT) (st : Nat → Option Value) (wx : World) : Prop where
  fr : Fr (fun _ => False) w wx
  f6 : ∀ v, st 6 = some v → ∃ fa, fa < 18446744073709551616 ∧ v = .float .f64 fa
  t8 : ∀ v, st 8 = some v → ∃ fa, fa < 18446744073709551616 ∧ VShows (VOff st) wx (TT fa) v
  p9 : ∀ v, st 9 = some v → ∃ g, v = vptr g ∧ w.heap.size ≤ g ∧ wx.heap[g]? = some (.cells zero4 37 (0, 0))

/-- A value in its box. -/
def VOneIn (w : World) (TT : Nat → VT) (g : Nat) (wx : World) : Prop :=
  Fr (fun _ => False) w wx ∧ w.heap.size ≤ g ∧ ∃ cs fa, fa < 18446744073709551616 ∧ wx.heap[g]? = some (.cells cs 37 (0, 0)) ∧ VShows (fun k => k ≠ g) wx (TT fa) (.agg cs)

def VOneS (w : World) (TT : Nat → VT) (st : Nat → Option Value) (wx : World) : Prop := match st 10 with
  | none => VOneA w TT st wx
  | some _ => ∃ g, st 9 = some (vptr g) ∧ VOneIn w TT g wx

theorem VOneS.a {w : World} {TT : Nat → VT} {st : Nat → Option Value} {wx : World} (h : VOneS w TT st wx) (h10 : st 10 = none) : VOneA w TT st wx := by
  unfold VOneS at h; rw [h10] at h; exact h

theorem VOneA.one {w : World} {TT : Nat → VT} {st : Nat → Option Value} {wx : World} (h : VOneA w TT st wx) (h10 : st 10 = none) : VOneS w TT st wx := by
  unfold VOneS; rw [h10]; exact h

theorem VOneS.fr {w : World} {TT : Nat → VT} {st : Nat → Option Value} {wx : World} (h : VOneS w TT st wx) : Fr (fun _ => False) w wx := by
  unfold VOneS at h
  split at h
  · exact h.fr
  · obtain ⟨_, _, hf, _⟩ := h; exact hf

theorem VOneA.later {w wx wy : World} {TT : Nat → VT} {st : Nat → Option Value} (h : VOneA w TT st wx) (f : Fr (fun _ => False) wx wy) : VOneA w TT st wy where
  fr := h.fr.trans f (fun _ _ h => h)
  f6 := h.f6
  t8 v hv := by obtain ⟨fa, h1, h2⟩ := h.t8 v hv; exact ⟨fa, h1, VShows.fr f (fun _ _ h => h) _ _ h2⟩
  p9 v hv := by obtain ⟨g, e, hg, hc⟩ := h.p9 v hv; exact ⟨g, e, hg, box_kept hc f (fun h => h)⟩

theorem VOneA.call6 {w wx : World} {TT : Nat → VT} {st : Nat → Option Value} (h : VOneA w TT st wx) {fa : Nat} (hfa : fa < 18446744073709551616) : VOneA w TT (vupd st 6 (.float .f64 fa)) wx :=
  { fr := h.fr, f6 := fun u hu => by (have e : Value.float .f64 fa = u := by simpa [vupd] using hu); subst e; exact ⟨fa, hfa, rfl⟩, t8 := h.t8, p9 := h.p9 }

theorem VOneA.call8 {w wx wy : World} {TT : Nat → VT} {st : Nat → Option Value} (h : VOneA w TT st wx) (f : Fr (fun _ => False) wx wy) {fa : Nat} (hfa : fa < 18446744073709551616) {v : Value} (ht : VShows (fun k => k < w.heap.size ∨ wx.heap.size ≤ k) wy (TT fa) v) : VOneA w TT (vupd st 8 v) wy :=
  have hl := h.later f
  { fr := hl.fr, f6 := hl.f6, t8 := fun u hu => by
      have e : v = u := by simpa [vupd] using hu
      subst e
      refine ⟨fa, hfa, VShows.mono (fun k _ hk => ?_) _ _ ht⟩
      intro e
      obtain ⟨g, eg, hg, hc⟩ := h.p9 _ e
      have := vptr_inj eg
      have := lt_of_block hc
      omega
    p9 := hl.p9 }

theorem VOneA.alloc9 {w wx : World} {TT : Nat → VT} {st : Nat → Option Value} (h : VOneA w TT st wx) : VOneA w TT (vupd st 9 (vptr wx.heap.size)) (wx.alloc (.cells zero4 37)) :=
  have f : Fr (fun _ => False) wx (wx.alloc (.cells zero4 37)) := (Fr.refl (fun _ => False) wx).alloc (.cells zero4 37)
  { fr := h.fr.trans f (fun _ _ h => h), f6 := h.f6,
    t8 := fun u hu => by
      obtain ⟨fa, h1, h2⟩ := h.t8 u hu
      refine ⟨fa, h1, VShows.mono (fun k _ hk => ?_) _ _ (VShows.fr f (fun _ _ h => h) _ _ (VShows.mono (S := fun k => k < wx.heap.size) (fun k hk _ => hk) _ _ h2))⟩
      intro e
      have := vptr_inj (Option.some.inj (show some (vptr wx.heap.size) = some (vptr k) from e))
      omega
    p9 := fun u hu => by (have e : vptr wx.heap.size = u := by simpa [vupd] using hu); subst e; exact ⟨_, rfl, h.fr.size, heap_alloc_new _ _⟩ }

theorem VOneA.store10 {w wx wy : World} {TT : Nat → VT} {st : Nat → Option Value} (h : VOneA w TT st wx) {v8 u : Value} {g : Nat} {cs : Array Value} (h8 : st 8 = some v8) (h9 : st 9 = some (vptr g)) (hv : v8 = .agg cs)
    (hy : wy.heap[g]? = some (.cells cs 37 (0, 0))) (f : Fr (fun k => k = g) wx wy) : VOneS w TT (vupd st 10 u) wy := by
  unfold VOneS
  rw [show vupd st 10 u 10 = some u from rfl]
  obtain ⟨g', e, hg, hc⟩ := h.p9 _ h9
  obtain rfl := vptr_inj e
  obtain ⟨fa, hfa, ht⟩ := h.t8 _ h8
  subst hv
  refine ⟨g, h9, h.fr.trans f (fun i hi e => by omega), hg, cs, fa, hfa, hy, VShows.fr f (fun k hk e => hk e) _ _ (VShows.mono (S := fun k => k ≠ g) (fun k _ hk e => ?_) _ _ ht)⟩
  exact hk (by rw [e]; exact h9)

/-- The answer's type, its value. -/
def VRefS (w : World) (t : KT) (T : VT) : List Value → World → Prop
  | [], wx => Fr (fun _ => False) w wx
  | [r], wx => Fr (fun _ => False) w wx ∧ RShows (fun _ => True) wx t r
  | [r, u], wx => Fr (fun _ => False) w wx ∧ RShows (fun _ => True) wx t r ∧ VShows (fun _ => True) wx T u
  | _, wx => Fr (fun _ => False) w wx

theorem VRefS.fr {w : World} {t : KT} {T : VT} {l : List Value} {wx : World} (h : VRefS w t T l wx) : Fr (fun _ => False) w wx := by
  match l with
  | [] => exact h
  | [_] => exact h.1
  | [_, _] => exact h.1
  | _ :: _ :: _ :: _ => exact h

end Go.Proofs.Ytnhkahnihdfefaa

/-
  The law ValueChecks, walked.
-/
namespace Go.Proofs.Ytnhkahnihdfefaa
open Go.RowKit
attribute [local go_sem] run_store_float
set_option linter.unusedVariables false
set_option linter.unusedSimpArgs false

set_option maxRecDepth 100000 in
set_option maxHeartbeats 32000000 in
theorem valuechecks_walk (t : KN) (vn lv pv : Value) (l : List Int) (path : List UInt8) (wz x f e : Int) (s : Txt) (hwz0 : 0 ≤ wz) (hwz1 : wz ≤ 255) (hx0 : -9223372036854775808 ≤ x) (hx1 : x ≤ 9223372036854775807) (hf0 : 0 ≤ f) (hf1 : f ≤ 18446744073709551615) (he0 : 0 ≤ e) (he1 : e ≤ 255)
    (w : World) (hn : NShows w t vn) (hl : SeesL w lv (l.map (Value.int .i64))) (hlw : ∀ n ∈ l, (Lit.int .i64 n).wf = true) (hp : Sees w pv path) :
    Calls Try.prog 4 #[vn, lv, pv, .int .u8 wz, .int .i64 x, .int .u64 f, .int .u8 e, sv s] w fun e w' => e = .returned (.bool true) ∧ Fr (fun _ => False) w w' := by
  obtain ⟨wn, rfl⟩ : ∃ wn : Nat, wz = (wn : Int) := ⟨wz.toNat, by omega⟩
  have hwn : wn ≤ 255 := by omega
  obtain ⟨k, n, a, c, cap, rfl⟩ := hn.cells
  obtain ⟨la, lc, rfl⟩ := seesL_slice hl
  obtain ⟨pa, pc, rfl, _⟩ := hp.shape
  simp only [List.length_map] at hl ⊢
  have HVOK := Lib.hid (NShows.vok t _ hn)
  have HN := Lib.hid hn
  have HL := Lib.hid (And.intro hl hlw)
  have HP := Lib.hid hp
  obtain ⟨ll, hll⟩ : ∃ ll, l.length = ll := ⟨_, rfl⟩
  obtain ⟨pl, hpl⟩ : ∃ pl, path.length = pl := ⟨_, rfl⟩
  rw [hll, hpl]
  have HLL := Lib.hid (And.intro hll hpl)
  have HX := Lib.hid (And.intro hx0 (And.intro hx1 hwn))
  obtain ⟨x5, hx5⟩ : ∃ x5 : Int, x.tmod 5 = x5 := ⟨_, rfl⟩
  have hx50 : -5 < x5 := by rw [← hx5]; exact Int.lt_tmod_of_pos x (by decide)
  have hx51 : x5 < 5 := by rw [← hx5]; exact Int.tmod_lt_of_pos x (by decide)
  have HX5 := Lib.hid (And.intro hx5 (And.intro hx50 hx51))
  clear hn hl hlw hp hll hpl hx5 hx50 hx51 hwz0 hwz1
  unfold sv
  obtain ⟨w1, hw1⟩ : ∃ w1, w1 = w.alloc (.cells #[.int .u8 k, .int .u8 n, .slice a c cap] 24) := ⟨_, rfl⟩
  have f1 : Fr (fun _ => False) w w1 := by rw [hw1]; exact (Fr.refl _ _).alloc _
  have q1 : w1.heap[w.heap.size]? = some (.cells #[.int .u8 k, .int .u8 n, .slice a c cap] 24 (0, 0)) := by rw [hw1]; exact heap_alloc_new _ _
  have H1 := Lib.hid (And.intro f1 q1)
  go_enter Try.func4, Try.ntmps4
  go_upto_region 1 with fail
  rw [← hw1]
  clear hw1 f1 q1
  go_wp2_with fail
  refine (vawake_any _).mono ?_
  rintro er w2 ⟨rfl, f2⟩
  have q2 := box_kept H1.out.2 f2 (fun h => h)
  have c0 := cells_row q2 0 _ rfl
  have c1 := cells_row q2 1 _ rfl
  have c2 := cells_row q2 2 _ rfl
  have H2 := Lib.hid (And.intro (H1.out.1.trans f2 (fun _ _ h => h)) q2)
  clear f2 q2
  have hli := light_any t _ w2 4 4 rfl (by omega) (NShows.fr H2.out.1 _ _ HN.out)
  cases hB : lightE t 4 with
  | false =>
    rw [hB] at hli
    clear hB
    go_wp2_with fail
    refine hli.mono ?_
    rintro er w3 ⟨rfl, f3⟩
    have F3 := Lib.hid f3
    clear f3 hli c0 c1 c2
    go_wp2
    go_ret
    exact ⟨rfl, H2.out.1.trans F3.out (fun _ _ h => h)⟩
  | true =>
    rw [hB] at hli
    clear hB
    go_wp2_with fail
    refine hli.mono ?_
    rintro er w3 ⟨rfl, f3⟩
    have H3 := Lib.hid (And.intro (H2.out.1.trans f3 (fun _ _ h => h)) (box_kept H2.out.2 f3 (fun h => h)))
    clear f3 hli c0 c1 c2
    by_cases h40 : 40 < ll
    · have b40 : (40 : Int) < (ll : Int) := by omega
      clear h40
      go_wp2
      go_ret
      exact ⟨rfl, H3.out.1⟩
    have b40 : ¬ (40 : Int) < (ll : Int) := by omega
    by_cases h10 : 10 < pl
    · have b10 : (10 : Int) < (pl : Int) := by omega
      clear h40 h10
      go_wp2
      go_ret
      exact ⟨rfl, H3.out.1⟩
    have b10 : ¬ (10 : Int) < (pl : Int) := by omega
    by_cases h100 : (100 : Int) < (s.length : Int)
    · clear h40 h10
      go_wp2
      go_ret
      exact ⟨rfl, H3.out.1⟩
    have c0 := cells_row H3.out.2 0 _ rfl
    have c1 := cells_row H3.out.2 1 _ rfl
    have c2 := cells_row H3.out.2 2 _ rfl
    have hty := vtype_any t _ w3 (NShows.fr H3.out.1 _ _ HN.out)
    have HM := Lib.hid (And.intro h40 (And.intro h10 h100))
    clear h40 h10
    go_wp2_with fail
    refine hty.mono ?_
    rintro er w4 ⟨tv, rfl, hs4, f4⟩
    have F4 := Lib.hid (H3.out.1.trans f4 (fun _ _ h => h))
    obtain ⟨tk, tm, ta, tn, tc, ta', tn', tc', rfl⟩ := hs4.four
    obtain ⟨w5, hw5⟩ : ∃ w5, w5 = w4.alloc (.cells #[.int .u8 tk, .int .i64 tm, .slice ta tn tc, .slice ta' tn' tc'] 32) := ⟨_, rfl⟩
    have f5 : Fr (fun _ => False) w4 w5 := by rw [hw5]; exact (Fr.refl _ _).alloc _
    have q5 : w5.heap[w4.heap.size]? = some (.cells #[.int .u8 tk, .int .i64 tm, .slice ta tn tc, .slice ta' tn' tc'] 32 (0, 0)) := by rw [hw5]; exact heap_alloc_new _ _
    have H5 := Lib.hid (And.intro (F4.out.trans f5 (fun _ _ h => h)) (And.intro q5 (Shows.fr f5 (fun _ _ h => h) _ _ (Shows.mono (S := fun _ => True) (fun _ _ _ => trivial) _ _ hs4))))
    clear hty f4 hs4 c0 c1 c2 h100 b10 b40 f5
    go_upto_region 6 with fail
    rw [← hw5]
    clear hw5
    obtain ⟨tb, htb⟩ : ∃ tb, w4.heap.size = tb := ⟨_, rfl⟩
    rw [htb] at q5 H5 ⊢
    clear htb
    obtain ⟨c0, c1, c2, c3⟩ := cell_of_four q5
    clear q5
    have hnum := nums_of HL.out.1 HL.out.2 (by have := HLL.out.1; have := HM.out.1; omega)
    rw [HLL.out.1] at hnum
    have hbu := Build_any (fun _ => True) l (typeE [] t 4) _ (.slice la ll lc) w5 H5.out.2.2 (hnum.fr H5.out.1 (fun _ _ h => h)) (by have := cost_typeE [] t 4; omega)
    clear hnum
    go_wp2_with fail
    refine hbu.mono ?_
    rintro er w6 ⟨v', rfl, hv6, f6⟩
    obtain ⟨T, hT⟩ : ∃ T, BuildE l (typeE [] t 4) = T := ⟨_, rfl⟩
    rw [hT] at hv6
    have HSZ : Hid (szV T ≤ 256) := Lib.hid (by
      rw [← hT]
      unfold BuildE
      by_cases hB : (surveyE (typeE [] t 4) 1000 0).1 = true
      · rw [if_pos hB]
        exact Nat.le_trans (build_le l _ (survey_good _ _ _ hB) (0, 0)).2 (cost_typeE [] t 4)
      · rw [if_neg hB]
        simp [zeroV, szV])
    obtain ⟨zn, zf, zs, za, zc, zcap, rfl⟩ := hv6.lit
    obtain ⟨w7, hw7⟩ : ∃ w7, w7 = w6.alloc (.cells #[.int .i64 zn, .float .f64 zf, .string zs, .slice za zc zcap] 37) := ⟨_, rfl⟩
    have f7 : Fr (fun _ => False) w6 w7 := by rw [hw7]; exact (Fr.refl _ _).alloc _
    have q7 : w7.heap[w6.heap.size]? = some (.cells #[.int .i64 zn, .float .f64 zf, .string zs, .slice za zc zcap] 37 (0, 0)) := by rw [hw7]; exact heap_alloc_new _ _
    have H7 := Lib.hid (And.intro ((H5.out.1.trans f6 (fun _ _ h => h)).trans f7 (fun _ _ h => h)) (And.intro q7 (And.intro (VShows.fr f7 (fun _ _ h => h) _ _ (VShows.mono (S := fun k => k < w6.heap.size) (fun k hk _ => hk) _ _ hv6)) (And.intro (box_kept (box_kept H5.out.2.1 f6 (fun h => h)) f7 (fun h => h)) (Shows.fr f7 (fun _ _ h => h) _ _ (Shows.fr f6 (fun _ _ h => h) _ _ H5.out.2.2))))))
    clear hT hbu f6 hv6 f7 q7 c0 c1 c2 c3
    go_upto_region 7 with fail
    rw [← hw7]
    clear hw7
    obtain ⟨vb, hvb⟩ : ∃ vb, w6.heap.size = vb := ⟨_, rfl⟩
    rw [hvb] at H7 ⊢
    clear hvb
    obtain ⟨w8, hw8⟩ : ∃ w8, w8 = w7.alloc (.cells #[.int .i64 x, .int .i64 x5] 2) := ⟨_, rfl⟩
    have f8 : Fr (fun _ => False) w7 w8 := by rw [hw8]; exact (Fr.refl _ _).alloc _
    have q8 : w8.heap[w7.heap.size]? = some (.cells #[.int .i64 x, .int .i64 x5] 2 (0, 0)) := by rw [hw8]; exact heap_alloc_new _ _
    have H8 := Lib.hid (And.intro (H7.out.1.trans f8 (fun _ _ h => h)) (And.intro q8 (And.intro (box_kept H7.out.2.1 f8 (fun h => h)) (And.intro (VShows.fr f8 (fun _ _ h => h) _ _ H7.out.2.2.1) (And.intro (box_kept H7.out.2.2.2.1 f8 (fun h => h)) (Shows.fr f8 (fun _ _ h => h) _ _ H7.out.2.2.2.2))))))
    clear f8 q8
    have hm1 : x.tmod 5 = x5 := HX5.out.1
    have hm2 : IntKind.i64.wrap x5 = x5 := IntWalk.i64_in _ (by have := HX5.out.2; omega)
    have HM2 := Lib.hid hm2
    clear hm2
    go_wp2
    rw [← hw8]
    clear hw8 hm1
    obtain ⟨ab, hab⟩ : ∃ ab, w7.heap.size = ab := ⟨_, rfl⟩
    rw [hab] at H8 ⊢
    clear hab
    go_loopg [20, 21, 22, 53] 2 (fun G u20 u21 u22 u53 wr => ∃ j : Nat, j ≤ 2 ∧ G = 2 - j ∧ u53 = .int .i64 j ∧ Hid (Fr (fun _ => False) w8 wr))
    case atStart => exact ⟨0, Nat.zero_le _, rfl, by go_num, Lib.hid (Fr.refl _ _)⟩
    case round =>
      obtain ⟨j, hj, rfl, rfl, HI⟩ := hrel
      by_cases hlt : j < 2
      · obtain ⟨xk, hxc, hxk0, hxk1⟩ : ∃ xk, wr.cell? ⟨ab, j, none⟩ = some (.int .i64 xk) ∧ -9223372036854775808 ≤ xk ∧ xk ≤ 9223372036854775807 := by
          have qr := box_kept H8.out.2.1 HI.out (fun h => h)
          rcases (by omega : j = 0 ∨ j = 1) with rfl | rfl
          · exact ⟨x, cells_row qr 0 _ rfl, HX.out.1, HX.out.2.1⟩
          · exact ⟨x5, cells_row qr 1 _ rfl, by have := HX5.out.2; omega, by have := HX5.out.2; omega⟩
        have HLT := Lib.hid hlt
        have HXK := Lib.hid (And.intro hxk0 hxk1)
        have jc : (j : Int) < 2 := by omega
        have j0 : (0 : Int) ≤ (j : Int) := by omega
        clear hlt hxk0 hxk1
        go_upto_region 10 with fail
        clear hxc jc j0
        have hr := H8.out.1.trans HI.out (fun _ _ h => h)
        have qv := box_kept H8.out.2.2.1 HI.out (fun h => h)
        have qt := box_kept H8.out.2.2.2.2.1 HI.out (fun h => h)
        have hvl : vb < wr.heap.size := lt_of_block qv
        have HWR := Lib.hid (And.intro hr (And.intro qv (And.intro (VShows.fr HI.out (fun _ _ h => h) _ _ H8.out.2.2.2.1) (And.intro qt (Shows.fr HI.out (fun _ _ h => h) _ _ H8.out.2.2.2.2.2)))))
        clear hr qv qt
        have hpl : path.length ≤ 1000 := by have := HLL.out.2; have := HM.out.2.1; omega
        have HTN := Lib.hid (fun (b : Nat) (hb : b < 18446744073709551616) (wx : World) (fx : Fr (fun _ => False) wr wx) => turn_all wn HX.out.2.2 (leaf_all wn HX.out.2.2) T (fun k => k < wr.heap.size) (.agg #[.int .i64 zn, .float .f64 zf, .string zs, .slice za zc zcap]) (.slice pa path.length pc) wx path xk b s (VShows.fr fx (fun _ _ h => h) _ _ (VShows.mono (fun k _ hk => by omega) _ _ HWR.out.2.2.1)) (HP.out.fr (HWR.out.1.trans fx (fun _ _ h => h)) (fun _ _ h => h)) hpl HXK.out.1 HXK.out.2 hb (by have := HM.out.2.2; unfold maxLen; omega) (by have := HSZ.out; omega))
        clear hpl hvl
        refine wp_region_links (by kernel_rfl) [some 57, some 58, some 59, some 60, some 61, some 62, some 63, some 64, some 65, some 21, none] rfl (by decide) (by intro d hd; simp at hd ⊢; omega)
          (fun st wx => VOneS wr (fun fa => turnE wn xk fa s T path) st wx)
          [.free (.agg #[.int .i64 zn, .float .f64 zf, .string zs, .slice za zc zcap]), .free (.slice pa pl pc), .free (.int .u8 wn), .free (.int .i64 xk), .free (.int .u64 f), .free (.int .u8 e), .link none, .free (.string ⟨s.toArray⟩), .link none, .link none, .link none]
          (by kernel_rfl) ?h0 ?step ?fin
        case h0 => exact VOneA.one ⟨(Fr.refl _ _).drew, fun v h => (by cases h), fun v h => (by cases h), fun v h => (by cases h)⟩ rfl
        case step =>
          intro vals
          simp only [frOfU, fillU, List.setIfInBounds_toArray, List.set_cons_succ, List.set_cons_zero]
          repeat' (first | exact AllOps.nil | refine AllOps.cons ?_ ?_)
          all_goals
            intro st wx hS he hu hn K hK
            simp only [Act.put, List.setIfInBounds_toArray, List.set_cons_succ, List.set_cons_zero, List.getD_cons_zero, List.getD_cons_succ] at hK
            simp only [List.mem_cons, List.not_mem_nil, or_false, forall_eq_or_imp, forall_eq, Region.binds, forall_const, vmode_gc, Bool.false_eq_true, false_imp_iff, List.getD_cons_zero, List.getD_cons_succ, OpSort.val, OpSort.isLink, Option.some.injEq, forall_eq', reduceCtorEq, implies_true, true_and, and_true] at he
            obtain ⟨c0, c1, c2, c3⟩ := cell_of_four (box_kept HWR.out.2.1 hS.fr (fun h => h))
            have HSX := Lib.hid hS
            clear hS
          all_goals first | (clear hu hn; (try simp only [he] at hK ⊢); go_simp; exact hK) | skip
          · have h10 := (hu 10 (by simp) (by kernel_rfl)).2
            have ha := Lib.hid (HSX.out.a h10)
            clear hu hn
            simp only [he] at hK ⊢
            go_simp
            go_at_call 20
            refine (float_any f e hf0 hf1 he0 he1 _).mono ?_
            rintro q1 wa ⟨fa, hfa, rfl, rfl⟩
            exact hK _ _ (fun _ h => by cases h) (VOneA.one (ha.out.call6 hfa) h10)
          · have h10 := (hu 10 (by simp) (by kernel_rfl)).2
            have ha := Lib.hid (HSX.out.a h10)
            clear hu hn
            obtain ⟨a0, a1, a2, a3, s6, a7, -⟩ := he
            obtain ⟨fa, hfa, e6⟩ := ha.out.f6 _ s6
            simp only [a0, a1, a2, a3, a7, e6] at hK ⊢
            go_simp
            go_at_call 19
            have ht := HTN.out fa hfa wx ha.out.fr
            rw [HLL.out.2] at ht
            refine ht.mono ?_
            rintro q1 wa ⟨v', rfl, ht, fra⟩
            exact hK _ _ (fun _ h => by cases h) (VOneA.one (ha.out.call8 fra hfa ht) h10)
          · have h10 := (hu 10 (by simp) (by kernel_rfl)).2
            have ha := Lib.hid (HSX.out.a h10)
            clear hu hn
            go_simp
            exact hK _ _ (fun _ h => by cases h) (VOneA.one ha.out.alloc9 h10)
          · have ha := Lib.hid (HSX.out.a hn)
            obtain ⟨s9, s8, -⟩ := he
            obtain ⟨g9, e9, hg9, hc9⟩ := ha.out.p9 _ s9
            obtain ⟨fa, hfa, ht8⟩ := ha.out.t8 _ s8
            obtain ⟨an, af, ax, aa, ac, acap, e8⟩ := ht8.lit
            have HH := Lib.hid (And.intro s8 (And.intro (e9 ▸ s9) (And.intro e8 (And.intro hc9 hg9))))
            have z0 : wx.frozen? ⟨g9, 0, none⟩ = false := by simp [World.frozen?, hc9]
            have z1 : wx.frozen? ⟨g9, 1, none⟩ = false := by simp [World.frozen?, hc9]
            have z2 : wx.frozen? ⟨g9, 2, none⟩ = false := by simp [World.frozen?, hc9]
            have z3 : wx.frozen? ⟨g9, 3, none⟩ = false := by simp [World.frozen?, hc9]
            have d0 := cells_row hc9 0 _ rfl
            have d1 := cells_row hc9 1 _ rfl
            have d2 := cells_row hc9 2 _ rfl
            have d3 := cells_row hc9 3 _ rfl
            simp only [zero4, List.getElem_toArray, List.getElem_cons_succ, List.getElem_cons_zero] at d0 d1 d2 d3
            unfold vptr at e9
            clear hu hn hc9 s8 s9 ht8 c0 c1 c2 c3
            simp only [e9, e8] at hK ⊢
            go_simp
            exact hK undef _ (fun _ h => by cases h) (VOneA.store10 ha.out HH.out.1 HH.out.2.1 HH.out.2.2.1 (store_four HH.out.2.2.2.1) (fr_four _ _ _ _ (Fr.refl _ _) (fun _ => rfl)))
        case fin =>
          intro vals wq hS hV
          have h2 : ∃ g9, some (vals 9) = some (vptr g9) ∧ VOneIn wr (fun fa => turnE wn xk fa s T path) g9 wq := hS
          obtain ⟨ub, e9, fq, hg9, cs, fa, hfa, hcs, hus⟩ := h2
          have x9 := Option.some.inj e9
          clear hS hV e9
          unfold vptr at x9
          simp only [frOfU, fillU, List.setIfInBounds_toArray, List.set_cons_succ, List.set_cons_zero]
          simp only [Nat.reduceAdd, x9]
          clear x9
          obtain ⟨TU, hTU⟩ : ∃ TU, turnE wn xk fa s T path = TU := ⟨_, rfl⟩
          have hus' : VShows (fun k => k ≠ ub) wq TU (.agg cs) := by rw [← hTU]; exact hus
          have HSU : Hid (szV TU ≤ 257) := Lib.hid (by rw [← hTU]; have := turn_size wn xk fa s T path; have := HSZ.out; omega)
          obtain ⟨un, uf, us, ua, uc, ucap, e8⟩ := hus'.lit
          cases e8
          have qt := box_kept HWR.out.2.2.2.1 fq (fun h => h)
          have HQ := Lib.hid (And.intro (HWR.out.1.trans fq (fun _ _ h => h)) (And.intro qt (And.intro (Shows.fr fq (fun _ _ h => h) _ _ HWR.out.2.2.2.2) (And.intro hcs (And.intro (VShows.mono (S := fun _ => True) (fun _ _ _ => trivial) _ _ hus') (HI.out.trans fq (fun _ _ h => h)))))))
          clear hus hus' hcs qt fq hg9 hTU hfa HTN HWR
          obtain ⟨BB, hBB⟩ : ∃ BB, isE (typeE [] t 4) TU = BB := ⟨_, rfl⟩
          have HBB := Lib.hid hBB
          clear hBB
          go_upto_region 12 with fail
          refine wp_region_chain (by kernel_rfl) [some 66, some 67, some 68, some 69, some 70, some 71] rfl (by decide) (by intro d hd; simp at hd ⊢; omega)
            [1, 3, 4] (VRefS wq (typeE [] t 4) TU)
            [.free (.agg #[.int .u8 tk, .int .i64 tm, .slice ta tn tc, .slice ta' tn' tc']), .link none, .free (.agg #[.int .i64 un, .float .f64 uf, .string us, .slice ua uc ucap]), .link none, .link (some (.bool BB)), .free (.bool (!BB))]
            (by kernel_rfl) (by kernel_rfl) ?g0 ?gstep ?gfin
          case g0 => exact (Fr.refl _ _).drew
          case gstep =>
            intro vals2
            simp only [frOfU, fillU, List.setIfInBounds_toArray, List.set_cons_succ, List.set_cons_zero]
            repeat' (first | exact AllOps.nil | refine AllOps.cons ?_ ?_)
            all_goals
              intro cvs wx hS he hu hlim K hK
              simp only [Act.put, List.setIfInBounds_toArray, List.set_cons_succ, List.set_cons_zero, List.getD_cons_zero, List.getD_cons_succ] at hK
              simp only [List.mem_cons, List.not_mem_nil, or_false, forall_eq_or_imp, forall_eq, Region.binds, forall_const, vmode_gc, Bool.false_eq_true, false_imp_iff, List.getD_cons_zero, List.getD_cons_succ, OpSort.val, Option.some.injEq, forall_eq', reduceCtorEq, implies_true, true_and, and_true] at he
              have HSX := Lib.hid hS
              obtain ⟨c0, c1, c2, c3⟩ := cell_of_four (box_kept HQ.out.2.1 hS.fr (fun h => h))
              obtain ⟨d0, d1, d2, d3⟩ := cell_of_four (box_kept HQ.out.2.2.2.1 hS.fr (fun h => h))
              clear hS
            all_goals first | (clear hlim hu; (try simp only [he] at hK ⊢); go_simp; exact hK) | skip
            · obtain rfl := hlim (0 : Nat) rfl
              have h1 := HSX.out
              simp only [List.take_zero, List.map_nil] at h1
              simp only [he] at hK ⊢
              go_simp
              go_at_call 13
              refine (ref_any (typeE [] t 4) (fun _ => True) _ wx (Shows.fr h1 (fun _ _ h => h) _ _ HQ.out.2.2.1) (good_type t 4 (by omega) HVOK.out).1).mono ?_
              rintro er wa ⟨v', rfl, hrs, fra⟩
              exact hK _ _ (fun _ h => by cases h) ⟨h1.trans fra (fun _ _ h => h), RShows.mono (fun _ _ _ => trivial) _ _ hrs⟩
            · obtain rfl := hlim (1 : Nat) rfl
              have h1 := HSX.out
              simp only [List.take_succ_cons, List.take_zero, List.map_cons, List.map_nil] at h1 hK
              obtain ⟨h1, hr1⟩ := h1
              simp only [he] at hK ⊢
              go_simp
              go_at_call 15
              refine (refv_any TU (fun _ => True) _ wx (VShows.fr h1 (fun _ _ h => h) _ _ HQ.out.2.2.2.2.1) (by have := HSU.out; omega)).mono ?_
              rintro er wa ⟨v', rfl, hvs, fra⟩
              exact hK _ _ (fun _ h => by cases h) ⟨h1.trans fra (fun _ _ h => h), RShows.fr fra (fun _ _ h => h) _ _ hr1, VShows.mono (fun _ _ _ => trivial) _ _ hvs⟩
            · obtain rfl := hlim (2 : Nat) rfl
              have h1 := HSX.out
              simp only [List.take_succ_cons, List.take_zero, List.map_cons, List.map_nil] at h1 hK
              obtain ⟨h1, hr1, hu1⟩ := h1
              go_simp
              go_at_call 21
              refine (is_any (typeE [] t 4) (fun _ => True) _ _ wx TU (good_type t 4 (by omega) HVOK.out).1 hr1 hu1).mono ?_
              rintro er wa ⟨rfl, fra⟩
              exact hK _ _ (fun _ h => by cases h; rw [HBB.out]) (h1.trans fra (fun _ _ h => h))
          case gfin =>
            intro vals2 wp hS hV
            have v5 := hV 5 _ (by decide) rfl
            clear hV
            have hS : Fr (fun _ => False) wq wp := hS
            simp only [frOfU, fillU, List.setIfInBounds_toArray, List.set_cons_succ, List.set_cons_zero]
            simp only [Nat.reduceAdd, v5]
            clear v5
            obtain ⟨c0, c1, c2, c3⟩ := cell_of_four (box_kept HQ.out.2.1 hS (fun h => h))
            obtain ⟨d0, d1, d2, d3⟩ := cell_of_four (box_kept HQ.out.2.2.2.1 hS (fun h => h))
            have hve := val_is t TU HVOK.out
            rw [HBB.out] at hve
            have hchk := vcheck_any (fun _ => True) (typeE [] t 4) TU _ _ wp (Shows.fr hS (fun _ _ h => h) _ _ HQ.out.2.2.1) (VShows.fr hS (fun _ _ h => h) _ _ HQ.out.2.2.2.2.1) (by have := HSU.out; omega)
            rw [hve] at hchk
            have HVE := Lib.hid hve
            have HWP := Lib.hid hS
            clear hS hve
            cases BB with
            | true =>
              simp only [if_true] at hchk
              go_wp2_with fail
              refine hchk.mono ?_
              rintro er wc ⟨rfl, fc⟩
              have FC := Lib.hid ((HQ.out.2.2.2.2.2.trans HWP.out (fun _ _ h => h)).trans fc (fun _ _ h => h))
              clear hchk fc c0 c1 c2 c3 d0 d1 d2 d3
              go_wp2
              go_roundg (2 - (j + 1))
              case measure => have := HLT.out; omega
              case rel => exact ⟨j + 1, HLT.out, rfl, by go_num, FC⟩
            | false =>
              simp only [Bool.false_eq_true, if_false] at hchk
              go_wp2_with fail
              refine hchk.mono ?_
              rintro er wc ⟨rfl, fc⟩
              obtain ⟨e0, e1, e2, e3⟩ := cell_of_four (box_kept (box_kept HQ.out.2.1 HWP.out (fun h => h)) fc (fun h => h))
              obtain ⟨g0, g1, g2, g3⟩ := cell_of_four (box_kept (box_kept HQ.out.2.2.2.1 HWP.out (fun h => h)) fc (fun h => h))
              have hflat := flat_none (fun _ => True) (typeE [] t 4) TU _ _ wc 9 (Shows.fr fc (fun _ _ h => h) _ _ (Shows.fr HWP.out (fun _ _ h => h) _ _ HQ.out.2.2.1)) (VShows.fr fc (fun _ _ h => h) _ _ (VShows.fr HWP.out (fun _ _ h => h) _ _ HQ.out.2.2.2.2.1)) (by have := HSU.out; omega) (by rw [HVE.out]; rfl)
              have FC := Lib.hid ((HQ.out.2.2.2.2.2.trans HWP.out (fun _ _ h => h)).trans fc (fun _ _ h => h))
              clear hchk fc c0 c1 c2 c3 d0 d1 d2 d3
              go_wp2_with fail
              refine hflat.mono ?_
              rintro er wd ⟨rfl, fd⟩
              have FD := Lib.hid (FC.out.trans fd (fun _ _ h => h))
              clear hflat fd e0 e1 e2 e3 g0 g1 g2 g3
              go_wp2
              go_roundg (2 - (j + 1))
              case measure => have := HLT.out; omega
              case rel => exact ⟨j + 1, HLT.out, rfl, by go_num, FD⟩
      · obtain rfl : j = 2 := by omega
        go_wp2
        go_ret
        exact ⟨rfl, H8.out.1.trans HI.out (fun _ _ h => h)⟩

end Go.Proofs.Ytnhkahnihdfefaa

/-
  The law ValueChecks with its arguments as the row hands them.
-/
namespace Go.Proofs.Ytnhkahnihdfefaa
open Go.ChangeShapes Go.WideShapes Go.ChangeAt Go.RowKit

theorem sv_bytes (s : ByteArray) : sv s.data.toList = .string s := by
  obtain ⟨d⟩ := s
  unfold sv
  simp

theorem valuechecks_all {W : World} (t : KN) (vn : Value) (hn : NShows W t vn) (v1 : Value) (l1 : List Int) (w1 : SeesL W v1 (l1.map (Value.int .i64))) (wf1 : ∀ n ∈ l1, (Lit.int .i64 n).wf = true) (v2 : Value) (l2 : List Int) (w2 : SeesL W v2 (l2.map (Value.int .u8))) (wf2 : ∀ n ∈ l2, (Lit.int .u8 n).wf = true)
    (wz : Int) (hwz0 : 0 ≤ wz) (hwz1 : wz ≤ 255) (x : Int) (hx0 : -9223372036854775808 ≤ x) (hx1 : x ≤ 9223372036854775807) (f : Int) (hf0 : 0 ≤ f) (hf1 : f ≤ 18446744073709551615) (e : Int) (he0 : 0 ≤ e) (he1 : e ≤ 255) (s : ByteArray) :
    Calls Try.prog 4 #[vn, v1, v2, .int .u8 wz, .int .i64 x, .int .u64 f, .int .u8 e, .string s] W fun e w' => e = .returned (.bool true) ∧ Fr (fun _ => False) W w' := by
  rw [← sv_bytes s]
  exact valuechecks_walk t vn v1 v2 l1 _ wz x f e s.data.toList hwz0 hwz1 hx0 hx1 hf0 hf1 he0 he1 W hn w1 wf1 (sees_u8 w2 wf2)

end Go.Proofs.Ytnhkahnihdfefaa
