/-
  The laws' argument as plain data; its value in memory; is it small?
-/
import Derived.Test.YtdaabgnfgdojhaaKindNode
namespace Go.Proofs.Ytdaabgnfgdojhaa
open Go.RowKit

structure KSP where
  takes : KN
  answers : KN
  collate : Nat
  timeout : Nat

structure KS where
  number : Nat
  aliases : List KN
  faults : Nat
  procs : List KSP

/-- The slice v shows these nodes. -/
def Nodes (w : World) (l : List KN) (v : Value) : Prop :=
  l.length ≤ maxLen ∧
  ((l = [] ∧ ∃ a c, v = .slice a 0 c) ∨
   ∃ g off cap, v = .slice (some ⟨g, off, none⟩) l.length cap ∧ l.length ≤ cap ∧ ∀ i x, l[i]? = some x → ∃ x0 x1 x2,
      w.cell? ⟨g, off + i * 3, none⟩ = some x0 ∧ w.cell? ⟨g, off + i * 3 + 1, none⟩ = some x1 ∧ w.cell? ⟨g, off + i * 3 + 2, none⟩ = some x2 ∧ NShows w x (.agg #[x0, x1, x2]))

/-- The slice v shows these procedures. -/
def SProcs (w : World) (l : List KSP) (v : Value) : Prop :=
  l.length ≤ maxLen ∧ (∀ p ∈ l, p.collate ≤ 255 ∧ p.timeout ≤ 65535) ∧
  ((l = [] ∧ ∃ a c, v = .slice a 0 c) ∨
   ∃ g off cap, v = .slice (some ⟨g, off, none⟩) l.length cap ∧ l.length ≤ cap ∧ ∀ i p, l[i]? = some p → ∃ x0 x1 x2 y0 y1 y2,
      (∀ j u, [x0, x1, x2, y0, y1, y2, .int .u8 p.collate, .int .u16 p.timeout][j]? = some u → w.cell? ⟨g, off + i * 8 + j, none⟩ = some u) ∧
      NShows w p.takes (.agg #[x0, x1, x2]) ∧ NShows w p.answers (.agg #[y0, y1, y2]))

/-- The value v shows the argument s. -/
def SShows (w : World) (s : KS) (v : Value) : Prop :=
  ∃ av pv, v = .agg #[.int .u16 s.number, av, .int .u8 s.faults, pv] ∧ s.number ≤ 65535 ∧ s.faults ≤ 255 ∧ Nodes w s.aliases av ∧ SProcs w s.procs pv

theorem Nodes.fr {w w' : World} {l : List KN} {v : Value} (h : Nodes w l v) (hf : Fr (fun _ => False) w w') : Nodes w' l v := by
  obtain ⟨h1, h2 | ⟨g, off, cap, rfl, hle, hc⟩⟩ := h
  · exact ⟨h1, .inl h2⟩
  · refine ⟨h1, .inr ⟨g, off, cap, rfl, hle, fun i x hi => ?_⟩⟩
    obtain ⟨x0, x1, x2, c0, c1, c2, hx⟩ := hc i x hi
    exact ⟨x0, x1, x2, cell_fr (R := fun _ => True) hf (fun _ _ h => h) trivial c0, cell_fr (R := fun _ => True) hf (fun _ _ h => h) trivial c1, cell_fr (R := fun _ => True) hf (fun _ _ h => h) trivial c2, NShows.fr hf _ _ hx⟩

theorem SProcs.fr {w w' : World} {l : List KSP} {v : Value} (h : SProcs w l v) (hf : Fr (fun _ => False) w w') : SProcs w' l v := by
  obtain ⟨h0, h1, h2 | ⟨g, off, cap, rfl, hle, hc⟩⟩ := h
  · exact ⟨h0, h1, .inl h2⟩
  · refine ⟨h0, h1, .inr ⟨g, off, cap, rfl, hle, fun i x hi => ?_⟩⟩
    obtain ⟨x0, x1, x2, y0, y1, y2, c, hx, hy⟩ := hc i x hi
    exact ⟨x0, x1, x2, y0, y1, y2, fun j u hj => cell_fr (R := fun _ => True) hf (fun _ _ h => h) trivial (c j u hj), NShows.fr hf _ _ hx, NShows.fr hf _ _ hy⟩

theorem SShows.fr {w w' : World} {s : KS} {v : Value} (h : SShows w s v) (hf : Fr (fun _ => False) w w') : SShows w' s v := by
  obtain ⟨av, pv, e, h1, h2, h3, h4⟩ := h
  exact ⟨av, pv, e, h1, h2, h3.fr hf, h4.fr hf⟩

theorem Nodes.shape {w : World} {l : List KN} {v : Value} (h : Nodes w l v) : ∃ a c, v = .slice a l.length c ∧ (l.length = 0 ∨ l.length ≤ c ∧ ∃ g off, a = some ⟨g, off, none⟩ ∧ ∀ i x, l[i]? = some x → ∃ x0 x1 x2,
      w.cell? ⟨g, off + i * 3, none⟩ = some x0 ∧ w.cell? ⟨g, off + i * 3 + 1, none⟩ = some x1 ∧ w.cell? ⟨g, off + i * 3 + 2, none⟩ = some x2 ∧ NShows w x (.agg #[x0, x1, x2])) := by
  obtain ⟨h1, ⟨rfl, a, c, rfl⟩ | ⟨g, off, cap, rfl, hle, hc⟩⟩ := h
  · exact ⟨a, c, rfl, .inl rfl⟩
  · exact ⟨_, cap, rfl, .inr ⟨hle, g, off, rfl, hc⟩⟩

theorem SProcs.shape {w : World} {l : List KSP} {v : Value} (h : SProcs w l v) : ∃ a c, v = .slice a l.length c ∧ (l.length = 0 ∨ l.length ≤ c ∧ ∃ g off, a = some ⟨g, off, none⟩ ∧ ∀ i p, l[i]? = some p → ∃ x0 x1 x2 y0 y1 y2,
      (∀ j u, [x0, x1, x2, y0, y1, y2, .int .u8 p.collate, .int .u16 p.timeout][j]? = some u → w.cell? ⟨g, off + i * 8 + j, none⟩ = some u) ∧
      NShows w p.takes (.agg #[x0, x1, x2]) ∧ NShows w p.answers (.agg #[y0, y1, y2])) := by
  obtain ⟨h0, h1, ⟨rfl, a, c, rfl⟩ | ⟨g, off, cap, rfl, hle, hc⟩⟩ := h
  · exact ⟨a, c, rfl, .inl rfl⟩
  · exact ⟨_, cap, rfl, .inr ⟨hle, g, off, rfl, hc⟩⟩

/-- Is it small? -/
def smallE (s : KS) : Bool := s.aliases.all (fun a => lightE a 3) && s.procs.all (fun p => lightE p.takes 3 && lightE p.answers 3) && decide (s.aliases.length ≤ 10) && decide (s.procs.length ≤ 10)

theorem all_take {α : Type} (f : α → Bool) (l : List α) (h : ∀ (i : Nat) (x : α), l[i]? = some x → f x = true) : l.all f = true := by
  rw [List.all_eq_true]
  intro x hx
  obtain ⟨i, hi, rfl⟩ := List.getElem_of_mem hx
  exact h i _ (List.getElem?_eq_getElem hi)

theorem all_not {α : Type} (f : α → Bool) (l : List α) (i : Nat) (x : α) (hx : l[i]? = some x) (h : f x = false) : l.all f = false := by
  rw [List.all_eq_false]
  exact ⟨x, List.mem_of_getElem? hx, by simpa using h⟩

set_option maxRecDepth 100000 in
set_option maxHeartbeats 16000000 in
theorem smallLight_any (s : KS) (v : Value) (w : World) (h : SShows w s v) :
    Calls Try.prog 13 #[v] w fun e w' => e = .returned (.bool (smallE s)) ∧ Fr (fun _ => False) w w' := by
  obtain ⟨av, pv, rfl, _, _, hav, hpv⟩ := h
  have l1 : s.aliases.length ≤ maxLen := hav.1
  have l2 : s.procs.length ≤ maxLen := hpv.1
  unfold maxLen at l1 l2
  obtain ⟨a, c, rfl, hs⟩ := hav.shape
  obtain ⟨a', c', rfl, hs'⟩ := hpv.shape
  have Hs := Lib.hid hs
  have Hs' := Lib.hid hs'
  clear hs hs' hav hpv
  obtain ⟨w0, hw0⟩ : ∃ w0, w0 = w.alloc (.cells #[.int .u16 s.number, .slice a s.aliases.length c, .int .u8 s.faults, .slice a' s.procs.length c'] 26) := ⟨_, rfl⟩
  have f0 : Hid (Fr (fun _ => False) w w0) := Lib.hid (by rw [hw0]; exact (Fr.refl _ _).alloc _)
  have q0 : Hid (w0.heap[w.heap.size]? = some (.cells #[.int .u16 s.number, .slice a s.aliases.length c, .int .u8 s.faults, .slice a' s.procs.length c'] 26 (0, 0))) := Lib.hid (by rw [hw0]; exact heap_alloc_new _ _)
  go_enter Try.func13, Try.ntmps13
  go_wp2
  rw [← hw0]
  clear hw0
  go_loopg [4, 10] s.aliases.length (fun G u4 u10 wr => ∃ j : Nat, j ≤ s.aliases.length ∧ G = s.aliases.length - j ∧ u10 = .int .i64 j ∧ Hid (Fr (fun _ => False) w wr ∧ (wr.heap[w.heap.size]? = some (.cells #[.int .u16 s.number, .slice a s.aliases.length c, .int .u8 s.faults, .slice a' s.procs.length c'] 26 (0, 0))) ∧ ∀ i x, i < j → s.aliases[i]? = some x → lightE x 3 = true))
  case atStart => exact ⟨0, Nat.zero_le _, rfl, by go_num, Lib.hid ⟨f0.out, q0.out, fun i _ hi => by omega⟩⟩
  case round =>
    obtain ⟨j, hj, rfl, rfl, HI⟩ := hrel
    by_cases hlt : j < s.aliases.length
    · rcases Hs.out with hz | ⟨hcap, g, off, rfl, hcell⟩
      · omega
      obtain ⟨x, hx0⟩ : ∃ x, s.aliases[j]? = some x := ⟨_, List.getElem?_eq_getElem hlt⟩
      obtain ⟨x0, x1, x2, y0, y1, y2, hx⟩ := hcell j x hx0
      have y0 := cell_fr (R := fun _ => True) HI.out.1 (fun _ _ h => h) trivial y0
      have y1 := cell_fr (R := fun _ => True) HI.out.1 (fun _ _ h => h) trivial y1
      have y2 := cell_fr (R := fun _ => True) HI.out.1 (fun _ _ h => h) trivial y2
      obtain ⟨pk, pn, pa, pc, pcap, e⟩ := hx.cells
      simp at e
      obtain ⟨rfl, rfl, rfl⟩ := e
      have fb : Fr (fun _ => False) w (wr.alloc (.cells #[.int .u8 pk, .int .u8 pn, .slice pa pc pcap] 77)) := HI.out.1.alloc _
      have hrec := light_any x _ _ 3 3 rfl (by omega) (NShows.fr fb _ _ hx)
      have FB := Lib.hid fb
      have HX := Lib.hid hx0
      clear hcell hx fb hx0
      cases hB : lightE x 3 with
      | true =>
        rw [hB] at hrec
        have HB := Lib.hid hB
        clear hB
        go_wp2_with fail
        refine hrec.mono ?_
        rintro e w5 ⟨rfl, f5⟩
        have F5 := Lib.hid f5
        clear f5 hrec
        go_wp2
        go_roundg (s.aliases.length - (j + 1))
        case measure => omega
        case rel => exact ⟨j + 1, by omega, rfl, by go_num, Lib.hid ⟨FB.out.trans F5.out (fun _ _ h => h), box_kept (box_kept HI.out.2.1 ((Fr.refl (fun _ => False) _).alloc _) (fun h => h)) F5.out (fun h => h), fun i y hi hy => by
          by_cases h : i < j
          · exact HI.out.2.2 i y h hy
          · obtain rfl : i = j := by omega
            rw [HX.out] at hy; cases hy; exact HB.out⟩⟩
      | false =>
        rw [hB] at hrec
        have E : Hid (smallE s = false) := Lib.hid (by unfold smallE; rw [all_not _ _ j x HX.out hB]; rfl)
        clear hB
        go_wp2_with fail
        refine hrec.mono ?_
        rintro e w5 ⟨rfl, f5⟩
        have F5 := Lib.hid f5
        clear f5 hrec
        go_wp2
        go_ret
        rw [E.out]
        exact ⟨rfl, FB.out.trans F5.out (fun _ _ h => h)⟩
    · obtain rfl : j = s.aliases.length := by omega
      have c3 := cells_row HI.out.2.1 3 _ rfl
      have HAl := Lib.hid (all_take (fun a => lightE a 3) s.aliases (fun i x hx => HI.out.2.2 i x (List.getElem?_eq_some_iff.1 hx).1 hx))
      obtain ⟨wo, rfl⟩ : ∃ wo : World, wo = wr := ⟨_, rfl⟩
      go_wp2
      go_loopg [6, 21] s.procs.length (fun G u6 u21 wr => ∃ j : Nat, j ≤ s.procs.length ∧ G = s.procs.length - j ∧ u21 = .int .i64 j ∧ Hid (Fr (fun _ => False) w wr ∧ (wr.heap[w.heap.size]? = some (.cells #[.int .u16 s.number, .slice a s.aliases.length c, .int .u8 s.faults, .slice a' s.procs.length c'] 26 (0, 0))) ∧ ∀ (i : Nat) (x : KSP), i < j → s.procs[i]? = some x → (lightE x.takes 3 && lightE x.answers 3) = true))
      case atStart => exact ⟨0, Nat.zero_le _, rfl, by go_num, Lib.hid ⟨HI.out.1, HI.out.2.1, fun i _ hi => by omega⟩⟩
      case round =>
        obtain ⟨j, hj, rfl, rfl, HJ⟩ := hrel
        by_cases hlt : j < s.procs.length
        · rcases Hs'.out with hz | ⟨hcap, g, off, rfl, hcell⟩
          · omega
          obtain ⟨p, hp0⟩ : ∃ x, s.procs[j]? = some x := ⟨_, List.getElem?_eq_getElem hlt⟩
          obtain ⟨x0, x1, x2, y0, y1, y2, hcs, hx, hy⟩ := hcell j p hp0
          have up := fun (i : Nat) (u : Value) (hu : [x0, x1, x2, y0, y1, y2, .int .u8 p.collate, .int .u16 p.timeout][i]? = some u) => cell_fr (R := fun _ => True) HJ.out.1 (fun _ _ h => h) trivial (hcs i u hu)
          have r0 := up 0 _ rfl
          have r1 := up 1 _ rfl
          have r2 := up 2 _ rfl
          have r3 := up 3 _ rfl
          have r4 := up 4 _ rfl
          have r5 := up 5 _ rfl
          have r6 := up 6 _ rfl
          have r7 := up 7 _ rfl
          rw [Nat.add_zero] at r0
          obtain ⟨pk, pn, pa, pc, pcap, e⟩ := hx.cells
          simp at e
          obtain ⟨rfl, rfl, rfl⟩ := e
          obtain ⟨qk, qn, qa, qc, qcap, e⟩ := hy.cells
          simp at e
          obtain ⟨rfl, rfl, rfl⟩ := e
          obtain ⟨wb, hwb⟩ : ∃ wb, wb = wr.alloc (.cells #[.int .u8 pk, .int .u8 pn, .slice pa pc pcap, .int .u8 qk, .int .u8 qn, .slice qa qc qcap, .int .u8 p.collate, .int .u16 p.timeout] 80) := ⟨_, rfl⟩
          have fwb : Fr (fun _ => False) wr wb := by rw [hwb]; exact (Fr.refl _ _).alloc _
          have qb : wb.heap[wr.heap.size]? = some (.cells #[.int .u8 pk, .int .u8 pn, .slice pa pc pcap, .int .u8 qk, .int .u8 qn, .slice qa qc qcap, .int .u8 p.collate, .int .u16 p.timeout] 80 (0, 0)) := by rw [hwb]; exact heap_alloc_new _ _
          have fb := HJ.out.1.trans fwb (fun _ _ h => h)
          have hrec := light_any p.takes _ _ 3 3 rfl (by omega) (NShows.fr fb _ _ hx)
          have HRY := Lib.hid (fun (w5 : World) (f5 : Fr (fun _ => False) wb w5) => light_any p.answers _ w5 3 3 rfl (by omega) (NShows.fr (fb.trans f5 (fun _ _ h => h)) _ _ hy))
          rw [hwb] at hrec
          have HW := Lib.hid (And.intro hwb (And.intro fwb (And.intro qb fb)))
          have HX := Lib.hid hp0
          clear hcell hx hy fb hp0 up hcs hwb fwb qb
          cases hB : lightE p.takes 3 with
          | false =>
            rw [hB] at hrec
            have E : Hid (smallE s = false) := Lib.hid (by unfold smallE; rw [all_not _ s.procs j p HX.out (by rw [hB]; rfl)]; simp)
            clear hB
            go_wp2_with fail
            refine hrec.mono ?_
            rintro e w5 ⟨rfl, f5⟩
            rw [← HW.out.1] at f5
            have F5 := Lib.hid f5
            clear f5 hrec
            go_wp2
            go_ret
            rw [E.out]
            exact ⟨rfl, HW.out.2.2.2.trans F5.out (fun _ _ h => h)⟩
          | true =>
            rw [hB] at hrec
            have HB := Lib.hid hB
            clear hB
            go_wp2_with fail
            refine hrec.mono ?_
            rintro e w5 ⟨rfl, f5⟩
            rw [← HW.out.1] at f5
            have qb5 := box_kept HW.out.2.2.1 f5 (fun h => h)
            have m3 := cells_row qb5 3 _ rfl
            have m4 := cells_row qb5 4 _ rfl
            have m5 := cells_row qb5 5 _ rfl
            have hry := HRY.out w5 f5
            have F5 := Lib.hid f5
            clear f5 hrec qb5 r0 r1 r2 r3 r4 r5 r6 r7
            cases hC : lightE p.answers 3 with
            | false =>
              rw [hC] at hry
              have E : Hid (smallE s = false) := Lib.hid (by unfold smallE; rw [all_not _ s.procs j p HX.out (by rw [hC, Bool.and_false])]; simp)
              clear hC
              go_wp2_with fail
              refine hry.mono ?_
              rintro e w6 ⟨rfl, f6⟩
              have F6 := Lib.hid f6
              clear f6 hry
              go_wp2
              go_ret
              rw [E.out]
              exact ⟨rfl, (HW.out.2.2.2.trans F5.out (fun _ _ h => h)).trans F6.out (fun _ _ h => h)⟩
            | true =>
              rw [hC] at hry
              have HC := Lib.hid hC
              clear hC
              go_wp2_with fail
              refine hry.mono ?_
              rintro e w6 ⟨rfl, f6⟩
              have F6 := Lib.hid f6
              clear f6 hry
              go_wp2
              go_roundg (s.procs.length - (j + 1))
              case measure => omega
              case rel => exact ⟨j + 1, by omega, rfl, by go_num, Lib.hid ⟨(HW.out.2.2.2.trans F5.out (fun _ _ h => h)).trans F6.out (fun _ _ h => h), box_kept (box_kept (box_kept HJ.out.2.1 HW.out.2.1 (fun h => h)) F5.out (fun h => h)) F6.out (fun h => h), fun i y hi hy => by
                by_cases h : i < j
                · exact HJ.out.2.2 i y h hy
                · obtain rfl : i = j := by omega
                  rw [HX.out] at hy; cases hy; rw [HB.out, HC.out]; rfl⟩⟩
        · obtain rfl : j = s.procs.length := by omega
          have k1 := cells_row HJ.out.2.1 1 _ rfl
          have k3 := cells_row HJ.out.2.1 3 _ rfl
          have E : Hid (smallE s = (decide (s.aliases.length ≤ 10) && decide (s.procs.length ≤ 10))) := Lib.hid (by
            unfold smallE
            rw [HAl.out, all_take (fun p : KSP => lightE p.takes 3 && lightE p.answers 3) s.procs (fun i x hx => HJ.out.2.2 i x (List.getElem?_eq_some_iff.1 hx).1 hx)]
            rfl)
          have four : (s.aliases.length : Int) ≤ 10 ∧ (s.procs.length : Int) ≤ 10 ∧ Hid (smallE s = true) ∨ (s.aliases.length : Int) ≤ 10 ∧ ¬ (s.procs.length : Int) ≤ 10 ∧ Hid (smallE s = false) ∨ ¬ (s.aliases.length : Int) ≤ 10 ∧ Hid (smallE s = false) := by
            by_cases h1 : s.aliases.length ≤ 10
            · by_cases h2 : s.procs.length ≤ 10
              · exact .inl ⟨by omega, by omega, Lib.hid (by rw [E.out, decide_eq_true h1, decide_eq_true h2]; rfl)⟩
              · exact .inr (.inl ⟨by omega, by omega, Lib.hid (by rw [E.out, decide_eq_false h2, Bool.and_false])⟩)
            · exact .inr (.inr ⟨by omega, Lib.hid (by rw [E.out, decide_eq_false h1]; rfl)⟩)
          rcases four with ⟨b1, b2, EB⟩ | ⟨b1, b2, EB⟩ | ⟨b1, EB⟩ <;>
          (go_wp2
           go_ret
           rw [EB.out]
           exact ⟨rfl, HJ.out.1⟩)

end Go.Proofs.Ytdaabgnfgdojhaa
