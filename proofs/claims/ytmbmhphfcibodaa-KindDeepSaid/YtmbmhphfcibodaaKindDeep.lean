/-
  The law KindDeep, walked.
-/
import Derived.Test.YtmbmhphfcibodaaKindDeepMath
import Derived.Test.YtmbmhphfcibodaaKindSame
import Derived.Test.YtmbmhphfcibodaaKindAwake
namespace Go.Proofs.Ytmbmhphfcibodaa
open Go.RowKit

theorem sz_same (a : KT) : ∀ b, sameE a b = true → sz a = sz b := by
  induction a with
  | nil => intro b h; simp [sameE] at h
  | mk k m ns n of ih =>
    intro b h
    cases b with
    | nil => simp [sameE] at h
    | mk k' m' ns' n' of' =>
      simp only [sameE, Bool.and_eq_true, decide_eq_true_eq, List.all_eq_true, List.mem_range] at h
      obtain ⟨⟨⟨⟨_, _⟩, _⟩, rfl⟩, hc⟩ := h
      simp only [sz]
      congr 2
      apply List.map_congr_left
      intro i hi
      exact ih i _ (hc i (List.mem_range.1 hi))

theorem Try.infoAlias : (Try.prog.info? 49).map (fun i => (i.zero, i.size, i.bytes)) = some (some (.agg #[.string ⟨#[]⟩, .int .u8 0, .int .i64 0, .slice none 0 0, .slice none 0 0]), 5, 80) := by kernel_rfl

theorem setCell_cells {w : World} {b : Nat} {cs : Array Value} {y : Value} {t : TypeId} (i : Nat) (h : w.heap[b]? = some (.cells cs t (0, 0))) :
    (w.setCell ⟨b, i, none⟩ y).heap[b]? = some (.cells (cs.setIfInBounds i y) t (0, 0)) := by
  have hb := lt_of_block h
  unfold World.setCell
  simp only [Array.getElem?_modify, if_true, h, Option.map_some]
  simp

theorem first_one5 {P : Program} {w : World} {g : Nat} {y0 y1 y2 y3 y4 : Value} {t : TypeId} {fr : Nat × Nat} (c : Nat) (h : w.heap[g]? = some (.cells #[y0, y1, y2, y3, y4] t fr)) :
    (Builtin.firstCells 5 1 (.slice (some ⟨g, 0, none⟩) 1 c)).run P w = .ok #[y0, y1, y2, y3, y4] w := by
  have := run_firstCells_some (P := P) w 5 1 ⟨g, 0, none⟩ 1 c [y0, y1, y2, y3, y4] rfl (by
    intro j v hj
    rw [plain_add, cell_of_row w g j _ t fr h]
    simpa using hj)
  simpa using this

set_option maxRecDepth 100000 in
set_option maxHeartbeats 32000000 in
theorem deep_any (many kk : Int) (h0 : 0 ≤ many) (h1 : many ≤ 255) (k0 : 0 ≤ kk) (k1 : kk ≤ 255) (w : World) :
    Calls Try.prog 8 #[.int .u8 many, .int .u8 kk] w fun e w' => e = .returned (.bool true) ∧ Fr (fun _ => False) w w' := by
  obtain ⟨n, hn⟩ : ∃ n : Nat, many % 9 = n := ⟨(many % 9).toNat, by omega⟩
  obtain ⟨m, hm⟩ : ∃ m : Int, 1 + kk % 60 = m := ⟨_, rfl⟩
  have hn8 : n ≤ 8 := by omega
  have hm0 : 1 ≤ m := by omega
  have hm1 : m ≤ 60 := by omega
  go_enter Try.func8, Try.ntmps8
  go_wp2_with fail
  refine (awake_any _).mono ?_
  rintro e w1 ⟨rfl, f1⟩
  have F1 := Lib.hid f1
  clear f1
  go_wp2
  obtain ⟨w2, hw2⟩ : ∃ w2, w2 = w1.alloc (.cells #[.int .u8 0, .int .i64 0, .slice none 0 0, .slice none 0 0] 38) := ⟨_, rfl⟩
  rw [← hw2]
  have g2 : w2.heap[w1.heap.size]? = some (.cells #[.int .u8 0, .int .i64 0, .slice none 0 0, .slice none 0 0] 38 (0, 0)) := by rw [hw2]; exact heap_alloc_new _ _
  have f2 : Fr (fun _ => False) w1 w2 := by rw [hw2]; exact (Fr.refl _ _).alloc _
  have H2 := Lib.hid (And.intro (F1.out.trans f2 (fun _ _ h => h)) g2)
  clear hw2 g2 f2
  have hm' := Lib.hid hm
  go_loopg [19] n (fun g u19 wr => ∃ j : Nat, j ≤ n ∧ g = n - j ∧ u19 = .int .i64 j ∧ Hid (Fr (fun _ => False) w wr ∧ ∃ (k : Nat) (mm : Int) (a : Option Addr) (l c : Nat) (a' : Option Addr) (l' c' : Nat),
    wr.heap[w1.heap.size]? = some (.cells #[.int .u8 k, .int .i64 mm, .slice a l c, .slice a' l' c'] 38 (0, 0)) ∧ Shows (fun k => w1.heap.size < k) wr (nest m j) (.agg #[.int .u8 k, .int .i64 mm, .slice a l c, .slice a' l' c'])))
  case atStart => exact ⟨0, Nat.zero_le _, rfl, by go_num, Lib.hid ⟨H2.out.1, 0, 0, none, 0, 0, none, 0, 0, H2.out.2, zero_shows _ _⟩⟩
  case round =>
    obtain ⟨j, hj, rfl, rfl, HI⟩ := hrel
    obtain ⟨k, mm, a, l, c, a', l', c', hq, hs⟩ := HI.out.2
    obtain ⟨u0, u1, u2, u3⟩ := cell_of_four hq
    have z0 : wr.frozen? ⟨w1.heap.size, 0, none⟩ = false := by simp [World.frozen?, hq]
    have z1 : wr.frozen? ⟨w1.heap.size, 1, none⟩ = false := by simp [World.frozen?, hq]
    have z2 : wr.frozen? ⟨w1.heap.size, 2, none⟩ = false := by simp [World.frozen?, hq]
    have z3 : wr.frozen? ⟨w1.heap.size, 3, none⟩ = false := by simp [World.frozen?, hq]
    have hlt1 : w1.heap.size < wr.heap.size := lt_of_block hq
    have n1 : w1.heap.size ≠ wr.heap.size := by omega
    have n2 : wr.heap.size ≠ w1.heap.size := by omega
    have HQ := Lib.hid (And.intro hq hs)
    clear hq hs
    by_cases hlt : j < n
    · go_wp2
      go_roundg (n - (j + 1))
      case measure => omega
      case rel =>
        obtain ⟨wz, hwz⟩ : ∃ wz, wz = (((wr.setCell ⟨w1.heap.size, 0, none⟩ (.int .u8 5)).setCell ⟨w1.heap.size, 1, none⟩ (.int .i64 m)).setCell ⟨w1.heap.size, 2, none⟩ (.slice none 0 0)).setCell ⟨w1.heap.size, 3, none⟩ (.slice (some ⟨wr.heap.size, 0, none⟩) 1 1) := ⟨_, rfl⟩
        have fz : Fr (fun k => k = w1.heap.size) wr wz := by rw [hwz]; exact fr_four _ _ _ _ (Fr.refl _ _) (fun _ => rfl)
        have gz : wz.heap[w1.heap.size]? = some (.cells #[.int .u8 (5 : Nat), .int .i64 m, .slice none 0 0, .slice (some ⟨wr.heap.size, 0, none⟩) 1 1] 38 (0, 0)) := by rw [hwz]; exact store_four HQ.out.1
        have sz' : wz.heap.size = wr.heap.size := by rw [hwz]; simp [World.setCell]
        rw [← hwz]
        have gr := heap_alloc_new wz (.cells #[.int .u8 k, .int .i64 mm, .slice a l c, .slice a' l' c'] 38)
        rw [sz'] at gr
        obtain ⟨c0, c1, c2, c3⟩ := cell_of_four gr
        have fa : Fr (fun k => k = w1.heap.size) wr (wz.alloc (.cells #[.int .u8 k, .int .i64 mm, .slice a l c, .slice a' l' c'] 38)) := fz.alloc _
        have hb1 : w.heap.size ≤ w1.heap.size := F1.out.size
        refine ⟨j + 1, by omega, rfl, by go_num, Lib.hid ⟨HI.out.1.trans fa (fun i hi h => by omega), 5, m, none, 0, 0, some ⟨wr.heap.size, 0, none⟩, 1, 1, ?_, ?_⟩⟩
        · rw [Below.heap_alloc _ _ _ (by omega)]; exact gz
        · refine ⟨_, _, rfl, by omega, by omega, ⟨by simp, by simp, .inl ⟨rfl, _, _, rfl⟩⟩, .inr ⟨wr.heap.size, 0, 1, hlt1, rfl, Nat.le_refl _, fun i hi => ?_⟩⟩
          obtain rfl : i = 0 := by omega
          exact ⟨_, _, _, _, c0, c1, c2, c3, Shows.fr fa (fun k hk h => by omega) _ _ HQ.out.2⟩
    · obtain rfl : j = n := by omega
      obtain ⟨wA, hwA⟩ : ∃ wA, wA = (wr.alloc (.cells #[.string ⟨#[98]⟩, .int .u8 k, .int .i64 mm, .slice a l c, .slice a' l' c'] 49)).alloc (.cells #[.string ⟨#[97]⟩, .int .i64 0, .int .i64 0, .slice (some ⟨wr.heap.size, 0, none⟩) 1 1, .slice none 0 0, .slice none 0 0] 32) := ⟨_, rfl⟩
      have fA : Fr (fun _ => False) wr wA := by rw [hwA]; exact ((Fr.refl _ _).alloc _).alloc _
      have qa : wA.heap[wr.heap.size]? = some (.cells #[.string ⟨#[98]⟩, .int .u8 k, .int .i64 mm, .slice a l c, .slice a' l' c'] 49 (0, 0)) := by rw [hwA]; exact heap_alloc_first _ _ _
      have qt : wA.heap[wr.heap.size + 1]? = some (.cells #[.string ⟨#[97]⟩, .int .i64 0, .int .i64 0, .slice (some ⟨wr.heap.size, 0, none⟩) 1 1, .slice none 0 0, .slice none 0 0] 32 (0, 0)) := by rw [hwA]; exact heap_alloc_two _ _ _
      have hxA := Shows.fr fA (fun _ _ h => h) _ _ HQ.out.2
      have htab : Tabled (fun _ => True) wA (tab1 m j) (.agg #[.string ⟨#[97]⟩, .int .i64 0, .int .i64 0, .slice (some ⟨wr.heap.size, 0, none⟩) 1 1, .slice none 0 0, .slice none 0 0]) := by
        refine ⟨_, _, _, rfl, by simp [tab1], ⟨by simp [tab1], by simp [tab1], .inr ⟨wr.heap.size, 0, 1, trivial, rfl, Nat.le_refl _, fun i x hi => ?_⟩⟩, ⟨by simp [tab1], by simp [tab1], .inl ⟨rfl, _, _, rfl⟩⟩, ⟨by simp [tab1], by simp [tab1], .inl ⟨rfl, _, _, rfl⟩⟩⟩
        have hi0 := (List.getElem?_eq_some_iff.1 hi).1
        obtain rfl : i = 0 := by simpa [tab1] using hi0
        simp [tab1] at hi
        subst hi
        exact ⟨_, _, _, _, cells_row qa 0 _ rfl, cells_row qa 1 _ rfl, cells_row qa 2 _ rfl, cells_row qa 3 _ rfl, cells_row qa 4 _ rfl, Shows.mono (fun _ _ _ => trivial) _ _ hxA⟩
      have hck := check_any (fun _ => True) (tab1 m j) _ wA htab
      rw [check_tab1 m hm0 hm1] at hck
      have HA := Lib.hid (And.intro fA (And.intro qa (And.intro qt hxA)))
      have HWA := Lib.hid hwA
      rw [hwA] at hck
      clear fA qa qt hxA htab hwA
      by_cases h5 : j < 5
      · rw [if_pos h5] at hck
        have h4 : ¬ (4 : Int) < (j : Int) := by omega
        go_wp2_with fail
        refine hck.mono ?_
        rintro e w5 ⟨rfl, f5⟩
        rw [← HWA.out] at f5
        have F5 := Lib.hid f5
        clear f5 hck
        obtain ⟨i0, hi, hz0, hz1, hz2⟩ := info_parts Try.infoAlias
        have hsz5 : wr.heap.size + 2 ≤ w5.heap.size := Nat.le_trans (lt_of_block HA.out.2.2.1) F5.out.size
        go_upto_region 18 with fail
        obtain ⟨w6, hw6⟩ : ∃ w6, w6 = (w5.alloc (.cells #[.string ⟨#[98]⟩] 9)).alloc (.cells #[.int .u8 9, .int .i64 0, .slice (some ⟨w5.heap.size, 0, none⟩) 1 1, .slice none 0 0] 38) := ⟨_, rfl⟩
        rw [← hw6]
        have f6 : Fr (fun _ => False) w5 w6 := by rw [hw6]; exact ((Fr.refl _ _).alloc _).alloc _
        have qy : w6.heap[w5.heap.size]? = some (.cells #[.string ⟨#[98]⟩] 9 (0, 0)) := by rw [hw6]; exact heap_alloc_first _ _ _
        have q9 : w6.heap[w5.heap.size + 1]? = some (.cells #[.int .u8 9, .int .i64 0, .slice (some ⟨w5.heap.size, 0, none⟩) 1 1, .slice none 0 0] 38 (0, 0)) := by rw [hw6]; exact heap_alloc_two _ _ _
        have s6 : w6.heap.size = w5.heap.size + 2 := by rw [hw6]; simp
        have qt := box_kept (box_kept HA.out.2.2.1 F5.out (fun h => h)) f6 (fun h => h)
        have qa := box_kept (box_kept HA.out.2.1 F5.out (fun h => h)) f6 (fun h => h)
        have F6 := Lib.hid (F5.out.trans f6 (fun _ _ h => h))
        have c3 := cells_row qt 3 _ rfl
        have d0 := cells_row q9 0 _ rfl
        have d1 := cells_row q9 1 _ rfl
        have d2 := cells_row q9 2 _ rfl
        have d3 := cells_row q9 3 _ rfl
        have H6 := Lib.hid (And.intro qy (And.intro q9 (And.intro qt (And.intro qa s6))))
        clear hw6 f6 qy q9 qt qa
        have n1 : wr.heap.size + 1 ≠ w6.heap.size := by omega
        have n2 : wr.heap.size + 1 ≠ w6.heap.size + 1 := by omega
        have hsz6 : wr.heap.size + 2 ≤ w6.heap.size := by omega
        clear s6
        go_wp2_with (at_builtin; refine wpList_append_sep rfl (.tmp 44) (.tmp 49) 28 28 rfl 0 49 i0 (.agg #[.string ⟨#[]⟩, .int .u8 0, .int .i64 0, .slice none 0 0, .slice none 0 0]) 5 80 Try.underlying28 _ Try.underlying28 (.inr ⟨_, rfl⟩) hi hz0 hz1 hz2 rfl (by decide) (.slice (some ⟨wr.heap.size, 0, none⟩) 1 1) 1 [.string ⟨#[98]⟩, .int .u8 k, .int .i64 mm, .slice a l c, .slice a' l' c'] rfl ?own _ 1 [.string ⟨#[99]⟩, .int .u8 5, .int .i64 2, .slice none 0 0, .slice (some ⟨w6.heap.size, 0, none⟩) 1 1] rfl (lenOf_slice _ _ _) rfl ?c1 ?c2 ?one ?b1 ?b2 (Nat.zero_le _) ?grow)
        case own => exact ⟨rfl, .inr ⟨wr.heap.size, 1, _, rfl, Nat.zero_le _, by rw [Below.heap_alloc _ _ _ (by simp; omega), Below.heap_alloc _ _ _ (by omega)]; exact H6.out.2.2.2.1, Nat.le_refl _, by unfold maxLen; omega, rfl, rfl⟩⟩
        case c1 => exact first_one5 1 (by have := heap_alloc_two w6 (.cells #[.int .u8 9, .int .i64 0, .slice (some ⟨w5.heap.size, 0, none⟩) 1 1, .slice none 0 0] 38) (.cells #[.string ⟨#[99]⟩, .int .u8 5, .int .i64 2, .slice none 0 0, .slice (some ⟨w6.heap.size, 0, none⟩) 1 1] 49); exact this)
        case c2 => exact first_one5 1 (by have := heap_alloc_two w6 (.cells #[.int .u8 9, .int .i64 0, .slice (some ⟨w5.heap.size, 0, none⟩) 1 1, .slice none 0 0] 38) (.cells #[.string ⟨#[99]⟩, .int .u8 5, .int .i64 2, .slice none 0 0, .slice (some ⟨w6.heap.size, 0, none⟩) 1 1] 49); exact this)
        case one => intro u hu; simp at hu; rcases hu with rfl | rfl | rfl | rfl | rfl <;> rfl
        case b1 => unfold maxLen; omega
        case b2 => omega
        case grow =>
          intro v' w7 hown hg hv
          obtain ⟨a7, c7, rfl⟩ := slice_of_own hown
          have f67 : Fr (fun k => k = wr.heap.size) w6 w7 := (((Fr.refl _ _).alloc _).alloc _).trans (Fr.of_grown hg) (fun i hi e => by simp [Value.ownBlock] at e; exact e)
          have qt := box_kept H6.out.2.2.1 f67 (by omega)
          have c3 := cells_row qt 3 _ rfl
          have z3 : w7.frozen? ⟨wr.heap.size + 1, 3, none⟩ = false := by simp [World.frozen?, qt]
          have H7 := Lib.hid (And.intro hown (And.intro f67 (And.intro qt (And.intro hg hv))))
          clear hown f67 qt hg hv
          go_upto_region 19 with fail
          obtain ⟨w8, hw8⟩ : ∃ w8, w8 = w7.setCell ⟨wr.heap.size + 1, 3, none⟩ (.slice a7 2 c7) := ⟨_, rfl⟩
          rw [← hw8]
          have f78 : Fr (fun k => k = wr.heap.size + 1) w7 w8 := by rw [hw8]; exact Fr.setCell (p := ⟨wr.heap.size + 1, 3, none⟩) (Fr.refl (fun k => k = wr.heap.size + 1) w7) (fun _ => rfl) _
          have qt8 : w8.heap[wr.heap.size + 1]? = some (.cells #[.string ⟨#[97]⟩, .int .i64 0, .int .i64 0, .slice a7 2 c7, .slice none 0 0, .slice none 0 0] 32 (0, 0)) := by rw [hw8]; exact setCell_cells 3 H7.out.2.2.1
          have hob : ∀ k, (Value.slice a7 2 c7).ownBlock = some k → k = wr.heap.size ∨ k = w6.heap.size + 2 := by
            intro k hk
            rcases H7.out.2.2.2.2 with h | h
            · left
              have h' : (Value.slice a7 2 c7).ownBlock = some wr.heap.size := h
              rw [h'] at hk; cases hk; rfl
            · right
              have h' : (Value.slice a7 2 c7).ownBlock = some (w6.heap.size + 2) := by simpa using h
              rw [h'] at hk; cases hk; rfl
          have own8 := ownsRow_fr H7.out.1 f78 (fun k hk e => by rcases hob k hk with h | h <;> omega)
          have f68 : Fr (fun k => k = wr.heap.size ∨ k = wr.heap.size + 1) w6 w8 := (H7.out.2.1.mono (fun _ _ h => .inl h)).trans f78 (fun _ _ h => .inr h)
          have f08 : Fr (fun k => k = wr.heap.size ∨ k = wr.heap.size + 1) wr w8 := ((HA.out.1.trans F6.out (fun _ _ h => h)).mono (fun _ _ h => absurd h (fun h => h))).trans f68 (fun _ _ h => h)
          have hx8 : Shows (fun k => w1.heap.size < k ∧ k < wr.heap.size) w8 (nest m j) (.agg #[.int .u8 k, .int .i64 mm, .slice a l c, .slice a' l' c']) :=
            Shows.fr f08 (fun k hk h => by omega) _ _ (Shows.mono (S := fun k => w1.heap.size < k ∧ k < wr.heap.size) (fun k hk h => ⟨h, hk⟩) _ _ HQ.out.2)
          have hbx8 := box_kept HQ.out.1 f08 (by omega)
          have qy8 := box_kept H6.out.1 f68 (by omega)
          have qz7 : w7.heap[w6.heap.size]? = some (.cells #[.int .u8 9, .int .i64 0, .slice (some ⟨w5.heap.size, 0, none⟩) 1 1, .slice none 0 0] 38 (0, 0)) := by
            rw [H7.out.2.2.2.1.block _ (by simp; omega) (fun e => by simp [Value.ownBlock] at e; omega)]
            exact heap_alloc_first _ _ _
          have qz8 := box_kept qz7 f78 (by omega)
          have hsz8 : w6.heap.size + 2 ≤ w8.heap.size := by
            have h1 := H7.out.2.2.2.1.size
            have h2 := f78.size
            simp at h1
            omega
          have hss : Shows (fun _ => True) w8 seqB (.agg #[.int .u8 5, .int .i64 2, .slice none 0 0, .slice (some ⟨w6.heap.size, 0, none⟩) 1 1]) := by
            refine ⟨_, _, rfl, by omega, by omega, ⟨by simp, by simp, .inl ⟨rfl, _, _, rfl⟩⟩, .inr ⟨w6.heap.size, 0, 1, trivial, rfl, Nat.le_refl _, fun i hi => ?_⟩⟩
            obtain rfl : i = 0 := by omega
            refine ⟨_, _, _, _, cells_row qz8 0 _ rfl, cells_row qz8 1 _ rfl, cells_row qz8 2 _ rfl, cells_row qz8 3 _ rfl, ?_⟩
            refine ⟨_, _, rfl, by omega, by omega, ⟨by simp, by simp, .inr ⟨w5.heap.size, 0, 1, trivial, rfl, Nat.le_refl _, fun i s hi => ?_⟩⟩, .inl ⟨rfl, _, _, rfl⟩⟩
            have hi0 := (List.getElem?_eq_some_iff.1 hi).1
            obtain rfl : i = 0 := by simpa using hi0
            simp at hi
            subst hi
            exact cells_row qy8 0 _ rfl
          have htab2 : Tabled (fun _ => True) w8 (tab2 m j) (.agg #[.string ⟨#[97]⟩, .int .i64 0, .int .i64 0, .slice a7 2 c7, .slice none 0 0, .slice none 0 0]) := by
            have hcap : ∃ g7, a7 = some ⟨g7, 0, none⟩ ∧ 2 ≤ c7 := by
              rcases own8.2 with ⟨e, _⟩ | ⟨g, cap, cur, e, hb, hgg, hle, _⟩
              · cases e
              · simp only [Value.slice.injEq] at e; obtain ⟨rfl, _, rfl⟩ := e; exact ⟨g, rfl, hle⟩
            obtain ⟨g7, rfl, hc7⟩ := hcap
            have hcell := fun (i : Nat) (u : Value) (hu : ([.string ⟨#[98]⟩, .int .u8 k, .int .i64 mm, .slice a l c, .slice a' l' c'] ++ [.string ⟨#[99]⟩, .int .u8 5, .int .i64 2, .slice none 0 0, .slice (some ⟨w6.heap.size, 0, none⟩) 1 1] : List Value)[i]? = some u) => World.ownsRow.cells (g := g7) own8 rfl i u hu
            simp only [plain_add] at hcell
            refine ⟨_, _, _, rfl, by simp [tab2], ⟨by simp [tab2], by simp [tab2], .inr ⟨g7, 0, c7, trivial, rfl, hc7, fun i x hi => ?_⟩⟩, ⟨by simp [tab2], by simp [tab2], .inl ⟨rfl, _, _, rfl⟩⟩, ⟨by simp [tab2], by simp [tab2], .inl ⟨rfl, _, _, rfl⟩⟩⟩
            have hi0 := (List.getElem?_eq_some_iff.1 hi).1
            have hi2 : i = 0 ∨ i = 1 := by simp [tab2] at hi0; omega
            rcases hi2 with rfl | rfl
            · simp [tab2] at hi
              subst hi
              exact ⟨_, _, _, _, hcell 0 _ rfl, hcell 1 _ rfl, hcell 2 _ rfl, hcell 3 _ rfl, hcell 4 _ rfl, Shows.mono (fun _ _ _ => trivial) _ _ hx8⟩
            · simp [tab2] at hi
              subst hi
              exact ⟨_, _, _, _, hcell 5 _ rfl, hcell 6 _ rfl, hcell 7 _ rfl, hcell 8 _ rfl, hcell 9 _ rfl, hss⟩
          have H8 := Lib.hid (And.intro f08 (And.intro qt8 (And.intro htab2 (And.intro hx8 hbx8))))
          have e0 := cells_row qt8 0 _ rfl
          have e1 := cells_row qt8 1 _ rfl
          have e2 := cells_row qt8 2 _ rfl
          have e3 := cells_row qt8 3 _ rfl
          have e4 := cells_row qt8 4 _ rfl
          have e5 := cells_row qt8 5 _ rfl
          have hsz80 : wr.heap.size + 2 ≤ w8.heap.size := by omega
          clear hw8 f78 qt8 hob own8 f68 f08 hx8 hbx8 qy8 qz7 qz8 hss htab2 c3 z3 d0 d1 d2 d3
          have nt : wr.heap.size + 1 ≠ w8.heap.size := by omega
          have fc : Fr (fun _ => False) w8 (w8.alloc (.cells #[.string ⟨#[99]⟩] 9)) := (Fr.refl _ _).alloc _
          have hwh := tabWhole_any (fun _ => True) (tab2 m j) (refT [99]) (.agg #[.string ⟨#[97]⟩, .int .i64 0, .int .i64 0, .slice a7 2 c7, .slice none 0 0, .slice none 0 0]) (.agg #[.int .u8 9, .int .i64 0, .slice (some ⟨w8.heap.size, 0, none⟩) 1 1, .slice none 0 0]) _ (H8.out.2.2.1.fr fc (fun _ _ h => h)) (by
            refine ⟨_, _, rfl, by omega, by omega, ⟨by simp, by simp, .inr ⟨w8.heap.size, 0, 1, trivial, rfl, Nat.le_refl _, fun i s hi => ?_⟩⟩, .inl ⟨rfl, _, _, rfl⟩⟩
            have hi0 := (List.getElem?_eq_some_iff.1 hi).1
            obtain rfl : i = 0 := by simpa using hi0
            simp at hi
            subst hi
            exact cells_row (heap_alloc_new w8 _) 0 _ rfl)
          obtain ⟨hr0, W, hrt, hsm⟩ := whole_c m j h5
          obtain ⟨r, hr⟩ : ∃ r, r = wholeE 20 (tab2 m j).types (refT [99]) 200 := ⟨_, rfl⟩
          rw [← hr] at hwh hr0 hrt
          have FC := Lib.hid fc
          have HR := Lib.hid (And.intro hr0 (And.intro hrt hsm))
          clear fc hr hr0 hrt hsm
          go_wp2_with fail
          refine hwh.mono ?_
          rintro e w9 ⟨tv, rfl, f9, hs9⟩
          rw [HR.out.1]
          rw [HR.out.2.1] at hs9
          obtain ⟨t0, t1, t2, t3, rfl⟩ : ∃ t0 t1 t2 t3, tv = .agg #[t0, t1, t2, t3] := by
            obtain ⟨_, _, _, _, _, _, _, _, e⟩ := hs9.four
            exact ⟨_, _, _, _, e⟩
          obtain ⟨wk, wm, wns, wof, wa, wc', wa2, wn, wc2, hmk, rfl, rfl, rfl, rfl, _, _, hkids⟩ := shows_open hs9
          obtain ⟨rfl, rfl, rfl, rfl, hof⟩ : 5 = wk ∧ 2 = wm ∧ [] = wns ∧ 1 = wn ∧ (fun i => [W].getD i .nil) = wof := by
            injection hmk with e1 e2 e3 e4 e5
            exact ⟨e1, e2, e3, e4, e5⟩
          rcases hkids with hz | ⟨hwc, gk, ok, hgk, rfl, hkid⟩
          · omega
          obtain ⟨v0, v1, v2, v3, q0, q1, q2, q3, hW⟩ := hkid 0 (by omega)
          rw [← hof] at hW
          have hW : Shows _ w9 W (.agg #[v0, v1, v2, v3]) := hW
          obtain ⟨vk, vm, va, vn, vc, va2, vn2, vc2, rfl, rfl, rfl, rfl⟩ := hW.cells
          have F9 := Lib.hid f9
          have HW := Lib.hid (And.intro q0 (And.intro q1 (And.intro q2 (And.intro q3 hW))))
          clear hwh f9 hs9 hkid q0 q1 q2 q3 hW hmk hof e0 e1 e2 e3 e4 e5
          go_upto_region 20 with fail
          obtain ⟨w10, hw10⟩ : ∃ w10, w10 = w9.alloc (.cells #[.int .u8 5, .int .i64 2, .slice wa 0 wc', .slice (some ⟨gk, ok, none⟩) 1 wc2] 38) := ⟨_, rfl⟩
          have f10 : Fr (fun _ => False) w9 w10 := by rw [hw10]; exact (Fr.refl _ _).alloc _
          have q10 : w10.heap[w9.heap.size]? = some (.cells #[.int .u8 5, .int .i64 2, .slice wa 0 wc', .slice (some ⟨gk, ok, none⟩) 1 wc2] 38 (0, 0)) := by rw [hw10]; exact heap_alloc_new _ _
          rw [← hw10]
          have f810 := (FC.out.trans F9.out (fun _ _ h => h)).trans f10 (fun _ _ h => h)
          have HK := Lib.hid (fun (wx : World) (hx : Fr (fun _ => False) w10.drew wx) =>
            have fx : Fr (fun _ => False) w10 wx := ⟨hx.os, hx.tape, hx.output, hx.size, hx.block⟩
            have f8x := f810.trans fx (fun _ _ h => h)
            have f9x := f10.trans fx (fun _ _ h => h)
            And.intro (check_any (fun _ => True) (tab2 m j) _ wx (H8.out.2.2.1.fr f8x (fun _ _ h => h)))
            (And.intro (same_any (fun _ => True) W (nest m j) _ _ wx (Shows.fr f9x (fun _ _ h => h) _ _ (Shows.mono (S := fun _ => True) (fun _ _ _ => trivial) _ _ HW.out.2.2.2.2)) (Shows.fr f8x (fun _ _ h => h) _ _ (Shows.mono (S := fun _ => True) (fun _ _ _ => trivial) _ _ H8.out.2.2.2.1)) (by rw [sz_same _ _ HR.out.2.2, sz_nest]; omega))
            (And.intro (box_kept H8.out.2.1 f8x (fun h => h)) (And.intro (box_kept H8.out.2.2.2.2 f8x (fun h => h)) (And.intro (box_kept q10 fx (fun h => h))
            (And.intro (cell_fr (R := fun _ => True) f9x (fun _ _ h => h) trivial HW.out.1) (And.intro (cell_fr (R := fun _ => True) f9x (fun _ _ h => h) trivial HW.out.2.1) (And.intro (cell_fr (R := fun _ => True) f9x (fun _ _ h => h) trivial HW.out.2.2.1) (cell_fr (R := fun _ => True) f9x (fun _ _ h => h) trivial HW.out.2.2.2.1)))))))))
          have FB := Lib.hid ((HI.out.1.trans H8.out.1 (fun i hi h => by have := HI.out.1.size; omega)).trans f810 (fun _ _ h => h))
          have hc2 := check_tab2 m hm0 hm1 j h5
          have HC2 := Lib.hid (And.intro hc2 HR.out.2.2)
          clear hw10 f10 q10 f810 hc2
          refine wp_region_told (by kernel_rfl) (fun a b => Fr (fun _ => False) a b) (fun w => Fr.refl _ w) (fun _ _ _ h k => h.trans k (fun _ _ h => h))
            [59, 60, 61, 62, 63, 64, 65, 66, 67, 68, 69, 70, 71, 72, 73, 74, 75, 76, 77, 78, 79, 80, 81, 82, 83, 84, 4] rfl (by decide) (by intro d hd; simp at hd ⊢; omega)
            (fun i v _ => v = [.agg #[.string ⟨#[97]⟩, .int .i64 0, .int .i64 0, .slice a7 2 c7, .slice none 0 0, .slice none 0 0], .int .i64 0, .bool true, .bool true, .int .i64 0, .bool true, .bool true, .bool true, .pointer (some ⟨w9.heap.size, 0, none⟩), .int .u8 5, .bool true, .bool true, .bool true, .pointer (some ⟨w9.heap.size, 3, none⟩), .slice (some ⟨gk, ok, none⟩) 1 wc2, .int .i64 1, .bool true, .bool true, .bool true, .pointer (some ⟨w9.heap.size, 3, none⟩), .slice (some ⟨gk, ok, none⟩) 1 wc2, .pointer (some ⟨gk, ok, none⟩),
              .agg #[.int .u8 vk, .int .i64 vm, .slice va vn vc, .slice va2 vn2 vc2], .agg #[.int .u8 k, .int .i64 mm, .slice a l c, .slice a' l' c'], .bool true, .bool true, .bool true].getD i undef)
            (fun _ _ _ _ _ h => h) (by kernel_rfl) ?step ?fin
          case step =>
            intro vals
            simp only [frOf, fill, List.setIfInBounds_toArray, List.set_cons_succ, List.set_cons_zero]
            repeat' (first | exact AllOps.nil | refine AllOps.cons ?_ ?_)
            all_goals
              intro wx hle he K hK
              simp only [Act.put, List.setIfInBounds_toArray, List.set_cons_succ, List.set_cons_zero, List.getD_cons_zero, List.getD_cons_succ] at hK
              simp only [List.mem_cons, List.not_mem_nil, or_false, forall_eq_or_imp, forall_eq, Region.binds, forall_const, false_imp_iff, List.getD_cons_zero, List.getD_cons_succ] at he
              try simp only [he] at hK
              obtain ⟨hck2, hsm2, qt, qx, q10, r0, r1, r2, r3⟩ := HK.out wx hle
              rw [HC2.out.1] at hck2
              rw [HC2.out.2] at hsm2
              have e0 := cells_row qt 0 _ rfl
              have e1 := cells_row qt 1 _ rfl
              have e2 := cells_row qt 2 _ rfl
              have e3 := cells_row qt 3 _ rfl
              have e4 := cells_row qt 4 _ rfl
              have e5 := cells_row qt 5 _ rfl
              obtain ⟨x0, x1, x2, x3⟩ := cell_of_four qx
              obtain ⟨y0, y1, y2, y3⟩ := cell_of_four q10
              simp only [Nat.zero_mul, Nat.add_zero] at r0 r1 r2 r3
              clear hle qt qx q10
              try go_simp
              first
                | (go_at_call 13; refine hck2.mono ?_; rintro e1 wa ⟨rfl, fa⟩; exact hK _ _ fa rfl)
                | (go_at_call 19; refine hsm2.mono ?_; rintro e1 wa ⟨rfl, fa⟩; exact hK _ _ fa rfl)
                | exact hK _ _ (Fr.refl _ _) rfl
          case fin =>
            intro vals w' hle hV
            have h26 : vals 26 = .bool true := hV 26 (by decide)
            clear hV
            have hfin := FB.out.trans (⟨hle.os, hle.tape, hle.output, hle.size, hle.block⟩ : Fr (fun _ => False) w10 w') (fun _ _ h => h)
            simp only [frOf, fill, List.setIfInBounds_toArray, List.set_cons_succ, List.set_cons_zero, Nat.reduceAdd, h26]
            go_wp2_with fail
            go_ret
            exact ⟨rfl, hfin⟩
      · rw [if_neg h5] at hck
        have h4 : (4 : Int) < (j : Int) := by omega
        go_wp2_with fail
        refine hck.mono ?_
        rintro e w5 ⟨rfl, f5⟩
        rw [← HWA.out] at f5
        have F5 := Lib.hid f5
        clear f5 hck
        go_wp2
        go_ret
        exact ⟨rfl, (HI.out.1.trans HA.out.1 (fun _ _ h => h)).trans F5.out (fun _ _ h => h)⟩

/-- In the order in which the statement's lift gives them. -/
theorem deep_all (many : Int) (h0 : 0 ≤ many) (h1 : many ≤ 255) (kk : Int) (k0 : 0 ≤ kk) (k1 : kk ≤ 255) (w : World) :
    Calls Try.prog 8 #[.int .u8 many, .int .u8 kk] w fun e w' => e = .returned (.bool true) ∧ Fr (fun _ => False) w w' :=
  deep_any many kk h0 h1 k0 k1 w

end Go.Proofs.Ytmbmhphfcibodaa
