/-
  The laws' nodes as plain trees; a node's value in memory; is it small?
-/
import Derived.Test.YtdaabgnfgdojhaaKindAlike3
namespace Go.Proofs.Ytdaabgnfgdojhaa
open Go.RowKit

/-- A node: its two numbers, how many it has below it, and which ('nil' stands for those that there aren't). -/
inductive KN where
  | nil
  | mk (k n : Nat) (c : Nat) (of : Nat → KN)

/-- The value v shows the node t. -/
def NShows (w : World) : KN → Value → Prop
  | .nil, _ => False
  | .mk k n c of, v => ∃ vo, v = .agg #[.int .u8 k, .int .u8 n, vo] ∧ k ≤ 255 ∧ n ≤ 255 ∧ c ≤ maxLen ∧
    ((c = 0 ∧ ∃ a cap, vo = .slice a 0 cap) ∨
     ∃ g off cap, vo = .slice (some ⟨g, off, none⟩) c cap ∧ c ≤ cap ∧ ∀ i, i < c → ∃ x0 x1 x2,
      w.cell? ⟨g, off + i * 3, none⟩ = some x0 ∧ w.cell? ⟨g, off + i * 3 + 1, none⟩ = some x1 ∧ w.cell? ⟨g, off + i * 3 + 2, none⟩ = some x2 ∧ NShows w (of i) (.agg #[x0, x1, x2]))

theorem NShows.fr {w w' : World} (hf : Fr (fun _ => False) w w') (t : KN) : ∀ v, NShows w t v → NShows w' t v := by
  induction t with
  | nil => exact fun _ h => h.elim
  | mk k n c of ih =>
    rintro v ⟨vo, rfl, hk, hn, hc, ho⟩
    refine ⟨vo, rfl, hk, hn, hc, ?_⟩
    rcases ho with h | ⟨g, off, cap, rfl, hle, hcell⟩
    · exact .inl h
    · refine .inr ⟨g, off, cap, rfl, hle, fun i hi => ?_⟩
      obtain ⟨x0, x1, x2, c0, c1, c2, hx⟩ := hcell i hi
      exact ⟨x0, x1, x2, cell_fr (R := fun _ => True) hf (fun _ _ h => h) trivial c0, cell_fr (R := fun _ => True) hf (fun _ _ h => h) trivial c1, cell_fr (R := fun _ => True) hf (fun _ _ h => h) trivial c2, ih i _ hx⟩

theorem NShows.cells {w : World} {t : KN} {v : Value} (h : NShows w t v) : ∃ (k n : Nat) (a : Option Addr) (c cap : Nat), v = .agg #[.int .u8 k, .int .u8 n, .slice a c cap] := by
  cases t with
  | nil => exact h.elim
  | mk k n c of =>
    obtain ⟨vo, rfl, _, _, _, ⟨_, a, cap, rfl⟩ | ⟨g, off, cap, rfl, _⟩⟩ := h
    · exact ⟨k, n, a, 0, cap, rfl⟩
    · exact ⟨k, n, _, c, cap, rfl⟩

/-- Is it small? -/
def lightE : KN → Nat → Bool
  | .nil, _ => true
  | .mk _ _ c of, d => (List.range c).all (fun i => decide (1 ≤ d) && lightE (of i) (d - 1)) && decide (c ≤ 3)

set_option maxRecDepth 100000 in
set_option maxHeartbeats 16000000 in
theorem light_any (t : KN) : ∀ (v : Value) (w : World) (d : Nat) (dz : Int), dz = d → d ≤ 100 → NShows w t v →
    Calls Try.prog 30 #[v, .int .i64 dz] w fun e w' => e = .returned (.bool (lightE t d)) ∧ Fr (fun _ => False) w w' := by
  induction t with
  | nil => exact fun _ _ _ _ _ _ h => h.elim
  | mk k n c of ih =>
  intro v w d dz hdz hd hsh
  obtain ⟨vo, rfl, hk, hn, hc, ho⟩ := hsh
  obtain ⟨a, cap, rfl, hs⟩ : ∃ a cap, vo = .slice a c cap ∧ (c = 0 ∨ c ≤ cap ∧ ∃ g off, a = some ⟨g, off, none⟩ ∧ ∀ i, i < c → ∃ x0 x1 x2,
      w.cell? ⟨g, off + i * 3, none⟩ = some x0 ∧ w.cell? ⟨g, off + i * 3 + 1, none⟩ = some x1 ∧ w.cell? ⟨g, off + i * 3 + 2, none⟩ = some x2 ∧ NShows w (of i) (.agg #[x0, x1, x2])) := by
    rcases ho with ⟨rfl, a, cap, rfl⟩ | ⟨g, off, cap, rfl, hle, hcell⟩
    · exact ⟨a, cap, rfl, .inl rfl⟩
    · exact ⟨_, cap, rfl, .inr ⟨hle, g, off, rfl, hcell⟩⟩
  have Hs := Lib.hid hs
  have Hdz := Lib.hid hdz
  unfold maxLen at hc
  have hd0 : 0 ≤ dz := by omega
  have hd1 : dz ≤ 100 := by omega
  clear ho hs hdz
  obtain ⟨w0, hw0⟩ : ∃ w0, w0 = w.alloc (.cells #[.int .u8 k, .int .u8 n, .slice a c cap] 77) := ⟨_, rfl⟩
  have f0 : Hid (Fr (fun _ => False) w w0) := Lib.hid (by rw [hw0]; exact (Fr.refl _ _).alloc _)
  have q0 : Hid (w0.heap[w.heap.size]? = some (.cells #[.int .u8 k, .int .u8 n, .slice a c cap] 77 (0, 0))) := Lib.hid (by rw [hw0]; exact heap_alloc_new _ _)
  go_enter Try.func30, Try.ntmps30
  go_wp2
  rw [← hw0]
  clear hw0
  go_loopg [6, 10] c (fun G u6 u10 wr => ∃ j : Nat, j ≤ c ∧ G = c - j ∧ u10 = .int .i64 j ∧ Hid (Fr (fun _ => False) w wr ∧ (wr.heap[w.heap.size]? = some (.cells #[.int .u8 k, .int .u8 n, .slice a c cap] 77 (0, 0))) ∧ ∀ i, i < j → (decide (1 ≤ d) && lightE (of i) (d - 1)) = true))
  case atStart => exact ⟨0, Nat.zero_le _, rfl, by go_num, Lib.hid ⟨f0.out, q0.out, fun i hi => by omega⟩⟩
  case round =>
    obtain ⟨j, hj, rfl, rfl, HI⟩ := hrel
    by_cases hlt : j < c
    · rcases Hs.out with hz | ⟨hcap, g, off, rfl, hcell⟩
      · omega
      obtain ⟨x0, x1, x2, y0, y1, y2, hx⟩ := hcell j hlt
      have y0 := cell_fr (R := fun _ => True) HI.out.1 (fun _ _ h => h) trivial y0
      have y1 := cell_fr (R := fun _ => True) HI.out.1 (fun _ _ h => h) trivial y1
      have y2 := cell_fr (R := fun _ => True) HI.out.1 (fun _ _ h => h) trivial y2
      obtain ⟨pk, pn, pa, pc, pcap, e⟩ := hx.cells
      simp at e
      obtain ⟨rfl, rfl, rfl⟩ := e
      have HFalse := Lib.hid (show (decide (1 ≤ d) && lightE (of j) (d - 1)) = false → lightE (.mk k n c of) d = false from fun h => by
        unfold lightE
        have : (List.range c).all (fun i => decide (1 ≤ d) && lightE (of i) (d - 1)) = false := by
          rw [List.all_eq_false]
          exact ⟨j, List.mem_range.2 hlt, by simpa using h⟩
        rw [this]; rfl)
      by_cases hd2 : d = 0
      · have b1 : dz < 1 := by have := Hdz.out; omega
        have E := Lib.hid (HFalse.out (by rw [hd2]; rfl))
        clear hcell hx hd2
        go_wp2
        go_ret
        rw [E.out]
        exact ⟨rfl, HI.out.1.alloc _⟩
      · have b1 : ¬ dz < 1 := by have := Hdz.out; omega
        have fb : Fr (fun _ => False) w (wr.alloc (.cells #[.int .u8 pk, .int .u8 pn, .slice pa pc pcap] 77)) := HI.out.1.alloc _
        have hrec := ih j _ _ (d - 1) (dz - 1) (by have := Hdz.out; omega) (by omega) (NShows.fr fb _ _ hx)
        have FB := Lib.hid fb
        have HD := Lib.hid (show 1 ≤ d by omega)
        clear hcell hx fb hd2
        cases hB : lightE (of j) (d - 1) with
        | true =>
          rw [hB] at hrec
          have HB := Lib.hid hB
          clear hB
          go_wp2_with fail
          refine hrec.mono ?_
          rintro e w5 ⟨rfl, f5⟩
          have F5 := Lib.hid f5
          clear f5 hrec
          go_wp2
          go_roundg (c - (j + 1))
          case measure => omega
          case rel => exact ⟨j + 1, by omega, rfl, by go_num, Lib.hid ⟨FB.out.trans F5.out (fun _ _ h => h), box_kept (box_kept HI.out.2.1 ((Fr.refl (fun _ => False) _).alloc _) (fun h => h)) F5.out (fun h => h), fun i hi => by
            by_cases h : i < j
            · exact HI.out.2.2 i h
            · obtain rfl : i = j := by omega
              rw [HB.out, decide_eq_true HD.out]; rfl⟩⟩
        | false =>
          rw [hB] at hrec
          have E := Lib.hid (HFalse.out (by rw [hB]; simp))
          clear hB
          go_wp2_with fail
          refine hrec.mono ?_
          rintro e w5 ⟨rfl, f5⟩
          have F5 := Lib.hid f5
          clear f5 hrec
          go_wp2
          go_ret
          rw [E.out]
          exact ⟨rfl, FB.out.trans F5.out (fun _ _ h => h)⟩
    · obtain rfl : j = c := by omega
      have y2 := cells_row HI.out.2.1 2 _ rfl
      have E : Hid (lightE (.mk k n j of) d = decide ((j : Int) ≤ 3)) := Lib.hid (by
        unfold lightE
        rw [List.all_eq_true.2 (fun i hi => HI.out.2.2 i (List.mem_range.1 hi)), Bool.true_and, Bool.eq_iff_iff]
        simp
        omega)
      go_wp2
      go_ret
      rw [E.out]
      exact ⟨rfl, HI.out.1⟩

end Go.Proofs.Ytdaabgnfgdojhaa
