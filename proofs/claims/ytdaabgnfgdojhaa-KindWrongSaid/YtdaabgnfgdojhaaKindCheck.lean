/-
  package kind: the checks of an interface's aliases and of its faults.
-/
import Derived.Test.YtdaabgnfgdojhaaKindTab
import Derived.Test.YtdaabgnfgdojhaaKindWhole2
namespace Go.Proofs.Ytdaabgnfgdojhaa
open Go.RowKit

set_option maxHeartbeats 1000000 in
theorem validN_any (n : Int) (w : World) : Calls Try.prog 33 #[.int .i64 n] w fun e w' => e = .returned (.bool (validN n)) ∧ w = w' := by
  by_cases h0 : 0 ≤ n <;> by_cases h1 : n ≤ 65535 <;>
    (go_enter Try.func33, Try.ntmps33
     go_wp2
     go_ret
     exact ⟨ret_bool (by simp [validN, h0, h1]), rfl⟩)

theorem cells_row {w : World} {b : Nat} {cs : Array Value} {t : TypeId} (h : w.heap[b]? = some (.cells cs t (0, 0))) (i : Nat) (u : Value) (hu : cs[i]? = some u) : w.cell? ⟨b, i, none⟩ = some u := by
  rw [cell_of_row w b i cs t (0, 0) h]; exact hu

set_option maxRecDepth 100000 in
set_option maxHeartbeats 16000000 in
theorem checkTypes_any (R : Nat → Prop) (t : KTab) (v : Value) (b : Nat) (w : World) (ht : Tabled R w t v) (hR : ∀ k, R k → k < b) (hb : b < w.heap.size) (hN : Nm (fun k => k < b) w b []) :
    Calls Try.prog 35 #[v, namer b] w fun e w' => e = .returned (.int .i64 (firstE (aliasE t.types) t.types.length)) ∧ Fr (fun k => b ≤ k) w w' ∧ (firstE (aliasE t.types) t.types.length = 0 → Nm (fun k => k < b) w' b (t.types.map (·.1))) := by
  obtain ⟨tv, fv, pv, rfl, _, hal, hfl, hpl⟩ := ht
  obtain ⟨fa, fc, rfl, _⟩ := hfl.shape
  obtain ⟨pa, pc, rfl, _⟩ := hpl.shape
  have hall : t.types.length ≤ 1000 := hal.1
  have hnl := Lib.hid hal.2.1
  have Hal0 := Lib.hid hal
  obtain ⟨a, c, rfl, hs⟩ := hal.shape
  have Hal := Lib.hid hal
  have Hs := Lib.hid hs
  have HN := Lib.hid hN
  have HR := Lib.hid hR
  clear hal hs hN hR hfl hpl
  obtain ⟨w0, hw0⟩ : ∃ w0, w0 = w.alloc (.cells #[sv t.name, .int .i64 t.number, .int .i64 t.version, .slice a t.types.length c, .slice fa t.faults.length fc, .slice pa t.procs.length pc] 32) := ⟨_, rfl⟩
  have f0 : Hid (Fr (fun _ => False) w w0) := Lib.hid (by rw [hw0]; exact (Fr.refl _ _).alloc _)
  have q2 : Hid (w0.heap[w.heap.size]? = some (.cells #[sv t.name, .int .i64 t.number, .int .i64 t.version, .slice a t.types.length c, .slice fa t.faults.length fc, .slice pa t.procs.length pc] 32 (0, 0))) := Lib.hid (by rw [hw0]; exact heap_alloc_new _ _)
  have s0 : Hid (w0.heap.size = w.heap.size + 1) := Lib.hid (by rw [hw0]; simp)
  have c3 := cells_row q2.out 3 _ rfl
  unfold namer
  unfold sv at *
  go_enter Try.func35, Try.ntmps35
  go_wp2
  rw [← hw0]
  clear hw0 c3
  go_loopg [5, 6, 7, 8, 12] t.types.length (fun G u5 u6 u7 u8 u12 wr => ∃ j : Nat, j ≤ t.types.length ∧ G = t.types.length - j ∧ u12 = .int .i64 j ∧ Hid (firstE (aliasE t.types) j = 0 ∧ Fr (fun k => b ≤ k) w wr ∧
    wr.heap[w.heap.size]? = some (.cells #[.string ⟨t.name.toArray⟩, .int .i64 t.number, .int .i64 t.version, .slice a t.types.length c, .slice fa t.faults.length fc, .slice pa t.procs.length pc] 32 (0, 0)) ∧
    Nm (fun k => k < b ∨ k = w.heap.size) wr b ((t.types.take j).map (·.1))))
  case atStart => exact ⟨0, Nat.zero_le _, rfl, by go_num, Lib.hid ⟨rfl, f0.out.mono (fun _ _ h => absurd h (fun h => h)), q2.out, (HN.out.guard (Q := fun k => k < b ∨ k = w.heap.size) (fun k hk h => by omega)).fr f0.out (fun _ h => absurd h (fun h => h))⟩⟩
  case round =>
    obtain ⟨j, hj, rfl, rfl, HI⟩ := hrel
    by_cases hlt : j < t.types.length
    · rcases Hs.out with hz | ⟨hcap, g, off, hg, rfl, hcell⟩
      · omega
      obtain ⟨nm, tt, htt⟩ : ∃ nm tt, t.types[j]? = some (nm, tt) := ⟨t.types[j].1, t.types[j].2, by rw [List.getElem?_eq_getElem hlt]⟩
      obtain ⟨x0, x1, x2, x3, y, y0, y1, y2, y3, hx⟩ := hcell j _ htt
      have nb : ∀ k, R k → ¬ b ≤ k := fun k hk h => by have := HR.out k hk; omega
      have y := cell_fr HI.out.2.1 nb hg y
      have y0 := cell_fr HI.out.2.1 nb hg y0
      have y1 := cell_fr HI.out.2.1 nb hg y1
      have y2 := cell_fr HI.out.2.1 nb hg y2
      have y3 := cell_fr HI.out.2.1 nb hg y3
      have NB := Lib.hid nb
      obtain ⟨pk, pm, pa', pn, pc', pa2, pn2, pc2, rfl, rfl, rfl, rfl⟩ := hx.cells
      have HX := Lib.hid hx
      have hgd : t.types.getD j ([], .nil) = (nm, tt) := by rw [List.getD_eq_getElem?_getD, htt]; rfl
      have hnml : nm.length ≤ 1000 := hnl.out _ (List.mem_of_getElem? htt)
      have htk : (t.types.take (j + 1)).map (·.1) = (t.types.take j).map (·.1) ++ [nm] := by
        rw [List.take_add_one, htt]; simp
      have HGD := Lib.hid hgd
      have HTK := Lib.hid htk
      clear hcell nb hx htt hgd htk
      unfold sv at y
      -- the alias in its own box
      obtain ⟨wb, hwb⟩ : ∃ wb, wb = wr.alloc (.cells #[.string ⟨nm.toArray⟩, .int .u8 pk, .int .i64 pm, .slice pa' pn pc', .slice pa2 pn2 pc2] 49) := ⟨_, rfl⟩
      have fb : Fr (fun _ => False) wr wb := by rw [hwb]; exact (Fr.refl _ _).alloc _
      have qb : wb.heap[wr.heap.size]? = some (.cells #[.string ⟨nm.toArray⟩, .int .u8 pk, .int .i64 pm, .slice pa' pn pc', .slice pa2 pn2 pc2] 49 (0, 0)) := by rw [hwb]; exact heap_alloc_new _ _
      have sb : wb.heap.size = wr.heap.size + 1 := by rw [hwb]; simp
      have hwr : w.heap.size + 1 ≤ wr.heap.size := lt_of_block HI.out.2.2.1
      have hNb : Nm (fun k => (k < b ∨ k = w.heap.size) ∨ k = wr.heap.size) wb b ((t.types.take j).map (·.1)) :=
        (HI.out.2.2.2.guard (Q := fun k => (k < b ∨ k = w.heap.size) ∨ k = wr.heap.size) (fun k hk h => by rcases h with h | h; exact h; omega)).fr fb (fun _ h => absurd h (fun h => h))
      have hnx := name_next _ b ((t.types.take j).map (·.1)) nm wb hNb (fun k h => by omega) (by simp; omega) (by unfold maxLen; omega)
      unfold sv at hnx
      rw [hwb] at hnx
      have z0 := cells_row qb 0 _ rfl
      have HB := Lib.hid (And.intro hwb (And.intro fb (And.intro qb sb)))
      clear hwb fb qb sb hNb
      obtain ⟨E, hE⟩ : ∃ E, E = nameE ((t.types.take j).map (·.1)) nm := ⟨_, rfl⟩
      rw [← hE] at hnx
      have HE := Lib.hid hE
      clear hE
      go_wp2_with fail
      refine hnx.mono ?_
      rintro e w2 ⟨rfl, f2, N2⟩
      rw [← HB.out.1] at f2
      have HF2 := Lib.hid (And.intro f2 N2)
      clear f2 N2 hnx
      by_cases he : E = 0
      · subst he
        have N2 := HF2.out.2 (by first | trivial | rfl)
        have qt := box_kept (box_kept HI.out.2.2.1 HB.out.2.1 (fun h => h)) HF2.out.1 (by omega)
        have qa := box_kept HB.out.2.2.1 HF2.out.1 (by omega)
        have fw2 : Fr (fun k => b ≤ k) w w2 := (HI.out.2.1.trans HB.out.2.1 (fun _ _ h => absurd h (fun h => h))).trans HF2.out.1 (fun i hi h => by omega)
        have hsl : ∀ wx : World, Fr (fun _ => False) w2.drew wx → Calls Try.prog 60 #[.agg #[.int .u8 pk, .int .i64 pm, .slice pa' pn pc', .slice pa2 pn2 pc2], .slice (some ⟨g, off, none⟩) j c, .int .i64 5] wx fun e w' => e = .returned (.int .i64 (rightE (t.types.take j) tt 5)) ∧ Fr (fun _ => False) wx w' := fun wx fx =>
          have fwx : Fr (fun k => b ≤ k) w wx := ⟨fx.os.trans fw2.os, fx.tape.trans fw2.tape, fx.output.trans fw2.output, Nat.le_trans fw2.size fx.size, fun i hi hs => (fx.block i (Nat.lt_of_lt_of_le hi fw2.size) (fun h => h)).trans (fw2.block i hi hs)⟩
          right_any (t.types.take j) tt R _ _ wx 5 5 rfl (by omega) (Shows.fr fwx (fun k hk => NB.out k hk) _ _ HX.out) ((Aliases.take Hal0.out j (by omega)).fr fwx (fun k hk => NB.out k hk))
        have HSL := Lib.hid hsl
        have HQ := Lib.hid (And.intro qt (And.intro qa (And.intro fw2 N2)))
        obtain ⟨E2, hE2⟩ : ∃ E2, E2 = rightE (t.types.take j) tt 5 := ⟨_, rfl⟩
        have HE2 := Lib.hid hE2
        clear hsl qt qa fw2 N2 z0 hE2 y y0 y1 y2 y3
        have hjc : (j : Int) ≤ (c : Int) := by omega
        have hj0 : (0 : Int) ≤ (j : Int) := by omega
        have ea : aliasE t.types j = E2 := by unfold aliasE; rw [HGD.out]; rw [if_pos HE.out.symm, HE2.out]
        have EA := Lib.hid ea
        clear ea
        go_wp2_with fail
        refine wp_region_told (by kernel_rfl) (fun a b => Fr (fun _ => False) a b) (fun w => Fr.refl _ w) (fun _ _ _ h k => h.trans k (fun _ _ h => h))
          [24, 25, 26, 27, 28, 29, 30, 8] rfl (by decide) (by intro d hd; simp at hd ⊢; omega)
          (fun i v _ => v = [.pointer (some ⟨wr.heap.size, 1, none⟩), .agg #[.int .u8 pk, .int .i64 pm, .slice pa' pn pc', .slice pa2 pn2 pc2], .pointer (some ⟨w.heap.size, 3, none⟩), .slice (some ⟨g, off, none⟩) t.types.length c, .int .i64 j, .slice (some ⟨g, off, none⟩) j c, .int .i64 (E2 : Nat), .int .i64 (E2 : Nat)].getD i undef)
          (fun _ _ _ _ _ h => h) (by kernel_rfl) ?step ?fin
        case step =>
          intro vals
          simp only [frOf, fill, List.setIfInBounds_toArray, List.set_cons_succ, List.set_cons_zero]
          repeat' (first | exact AllOps.nil | refine AllOps.cons ?_ ?_)
          all_goals
            intro wx hle he K hK
            simp only [Act.put, List.setIfInBounds_toArray, List.set_cons_succ, List.set_cons_zero, List.getD_cons_zero, List.getD_cons_succ] at hK
            simp only [List.mem_cons, List.not_mem_nil, or_false, forall_eq_or_imp, forall_eq, Region.binds, forall_const, false_imp_iff, List.getD_cons_zero, List.getD_cons_succ] at he
            try simp only [he] at hK
            have hcall := HSL.out wx hle
            have fx : Fr (fun _ => False) w2 wx := ⟨hle.os, hle.tape, hle.output, hle.size, hle.block⟩
            have c3 := cells_row (box_kept HQ.out.1 fx (fun h => h)) 3 _ rfl
            have d1 := cells_row (box_kept HQ.out.2.1 fx (fun h => h)) 1 _ rfl
            have d2 := cells_row (box_kept HQ.out.2.1 fx (fun h => h)) 2 _ rfl
            have d3 := cells_row (box_kept HQ.out.2.1 fx (fun h => h)) 3 _ rfl
            have d4 := cells_row (box_kept HQ.out.2.1 fx (fun h => h)) 4 _ rfl
            clear hle fx
            try go_simp
            first
              | (go_at_call 60; refine hcall.mono ?_; rintro e1 wa ⟨rfl, fa⟩; rw [← HE2.out]; exact hK _ _ fa rfl)
              | exact hK _ _ (Fr.refl _ _) rfl
        case fin =>
          intro vals w' hle hV
          have h7 : vals 7 = .int .i64 (E2 : Nat) := hV 7 (by decide)
          clear hV
          have fx : Fr (fun _ => False) w2 w' := ⟨hle.os, hle.tape, hle.output, hle.size, hle.block⟩
          have HFX := Lib.hid fx
          clear hle fx
          simp only [frOf, fill, List.setIfInBounds_toArray, List.set_cons_succ, List.set_cons_zero, h7]
          by_cases he2 : E2 = 0
          · subst he2
            go_wp2
            go_roundg (t.types.length - (j + 1))
            case measure => omega
            case rel =>
              refine ⟨j + 1, by omega, rfl, by go_num, Lib.hid ⟨firstE_step _ _ HI.out.1 EA.out, HQ.out.2.2.1.trans HFX.out (fun _ _ h => absurd h (fun h => h)), box_kept HQ.out.1 HFX.out (fun h => h), ?_⟩⟩
              rw [HTK.out]
              exact (HQ.out.2.2.2.guard (Q := fun k => k < b ∨ k = w.heap.size) (fun k _ h => .inl h)).fr HFX.out (fun _ h => absurd h (fun h => h))
          · have he' : ¬ (E2 : Int) = 0 := by omega
            go_wp2
            go_ret
            have es : firstE (aliasE t.types) t.types.length = E2 := by rw [firstE_stop _ _ j hlt HI.out.1 (by rw [EA.out]; exact he2), EA.out]
            rw [es]
            exact ⟨rfl, HQ.out.2.2.1.trans HFX.out (fun _ _ h => absurd h (fun h => h)), fun h => absurd h he2⟩
      · have he' : ¬ (E : Int) = 0 := by omega
        go_wp2
        go_ret
        have ea : aliasE t.types j = E := by unfold aliasE; rw [HGD.out]; rw [if_neg (by rw [← HE.out]; exact he), HE.out]
        have es : firstE (aliasE t.types) t.types.length = E := by rw [firstE_stop _ _ j hlt HI.out.1 (by rw [ea]; exact he), ea]
        rw [es]
        refine ⟨rfl, (HI.out.2.1.trans HB.out.2.1 (fun _ _ h => absurd h (fun h => h))).trans HF2.out.1 (fun i hi h => by omega), fun h => absurd h he⟩
    · obtain rfl : j = t.types.length := by omega
      go_wp2
      go_ret
      rw [HI.out.1]
      refine ⟨rfl, HI.out.2.1, fun _ => ?_⟩
      have := HI.out.2.2.2
      rw [List.take_length] at this
      exact this.guard (fun k _ h => .inl h)

end Go.Proofs.Ytdaabgnfgdojhaa
