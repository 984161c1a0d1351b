/-
  What the program's crc.Right gives.
-/
import Derived.Test.YtplijlgkchbdaaaCrcPut
import Derived.Test.YtplijlgkchbdaaaCrcMixes
import Derived.Deep.RegionWith
import Derived.Deep.Cut
import Derived.Deep.CutRange
import Derived.Deep.QuietTactic
import Derived.BigQuiet
import Derived.Stop.BytesEq
namespace Go.Proofs.Ytplijlgkchbdaaa
open Go.RowKit

set_option maxHeartbeats 4000000 in
theorem right_any (v : Value) (l : List UInt8) (w : World) (hs : Sees w v l) (hl : l.length ≤ 1000) :
    Calls Try.prog 12 #[v] w fun e w' => e = .returned (.bool (Crc.right l)) ∧ Fr (fun _ => False) w w' := by
  obtain ⟨a, c, rfl, hn⟩ := hs.shape
  by_cases h4 : 4 ≤ l.length
  · clear hn
    obtain ⟨h, hh⟩ : ∃ h, l.length = h + 4 := ⟨l.length - 4, by omega⟩
    rcases hs with ⟨h0, _⟩ | ⟨g, off, cap, e, hle, hc⟩
    · rw [h0] at hh; simp at hh
    simp only [Value.slice.injEq] at e
    obtain ⟨rfl, _, rfl⟩ := e
    have hsh : Sees w (.slice (some ⟨g, off, none⟩) h c) (l.take h) := by
      have := sees_take (w := w) (a := some ⟨g, off, none⟩) (n := l.length) (c := c) (l := l) (.inr ⟨g, off, c, rfl, hle, hc⟩) h (by omega)
      exact this
    have c0 := hc h (by omega)
    have c1 := hc (h + 1) (by omega)
    have c2 := hc (h + 2) (by omega)
    have c3 := hc (h + 3) (by omega)
    rw [← Nat.add_assoc] at c1 c2 c3
    have hsl : l.drop h = [l.getD h 0, l.getD (h + 1) 0, l.getD (h + 2) 0, l.getD (h + 3) 0] := by
      rw [List.drop_eq_getElem_cons (by omega), List.drop_eq_getElem_cons (by omega), List.drop_eq_getElem_cons (by omega), List.drop_eq_getElem_cons (by omega), List.drop_of_length_le (by omega)]
      simp [List.getD, show h < l.length by omega, show h + 1 < l.length by omega, show h + 2 < l.length by omega, show h + 3 < l.length by omega]
    have hlt := Crc.sum_lt (l.take h)
    have hr : Crc.right l = decide ([l.getD h 0, l.getD (h + 1) 0, l.getD (h + 2) 0, l.getD (h + 3) 0] = be4 (Crc.sum (l.take h))) := by
      unfold Crc.right
      rw [decide_eq_true h4, Bool.true_and, show l.length - 4 = h by omega, hsl]
    have hsum : ∀ W, Sees W (.slice (some ⟨g, off, none⟩) h c) (l.take h) → Calls Try.prog 9 #[.slice (some ⟨g, off, none⟩) h c] W fun e w' => e = .returned (.int .u32 (Crc.sum (l.take h))) ∧ w' = W :=
      fun W hW => sum_any _ (l.take h) W hW (by rw [List.length_take]; omega)
    have HSH := Lib.hid hsh
    clear hsl hc hsh
    rw [hh] at hle ⊢
    clear h4
    have hh2 : h ≤ 1000 := by omega
    clear hh hl
    unfold bv at c0 c1 c2 c3
    generalize l.getD h 0 = x0 at *
    generalize l.getD (h + 1) 0 = x1 at *
    generalize l.getD (h + 2) 0 = x2 at *
    generalize l.getD (h + 3) 0 = x3 at *
    generalize Crc.sum (l.take h) = s at *
    obtain ⟨d0, d1, d2, d3, hb⟩ : ∃ d0 d1 d2 d3, be4 s = [d0, d1, d2, d3] := ⟨_, _, _, _, rfl⟩
    have he := encoded_any s hlt
    rw [hb] at he hr
    have HSM := Lib.hid hsum
    clear hsum
    unfold arr bv at he
    simp only [List.map_cons, List.map_nil] at he
    have HE := Lib.hid he
    clear he hb
    have heq : ∀ W : World, (Op.equalIn 10000 34 (.agg #[.int .u8 x0.toNat, .int .u8 x1.toNat, .int .u8 x2.toNat, .int .u8 x3.toNat]) (.agg #[.int .u8 d0.toNat, .int .u8 d1.toNat, .int .u8 d2.toNat, .int .u8 d3.toNat])).run Try.prog W = .ok ([x0, x1, x2, x3] == [d0, d1, d2, d3]) W :=
      fun W => run_equalIn_bytes W 9998 34 5 4 Try.underlying34 Try.underlying5 Try.sizeOf5 [x0, x1, x2, x3] [d0, d1, d2, d3] rfl rfl
    have hbb : ([x0, x1, x2, x3] == [d0, d1, d2, d3]) = Crc.right l := by rw [hr, Bool.eq_iff_iff]; simp
    rw [hbb] at heq
    clear hbb
    have HR := Lib.hid hr
    clear hr
    generalize hrr : Crc.right l = rr at *
    have HRR := Lib.hid hrr
    clear hrr
    have hcc : ∀ W, Fr (fun _ => False) w.drew W → W.cell? ⟨g, off + h, none⟩ = some (.int .u8 x0.toNat) ∧ W.cell? ⟨g, off + h + 1, none⟩ = some (.int .u8 x1.toNat) ∧ W.cell? ⟨g, off + h + 2, none⟩ = some (.int .u8 x2.toNat) ∧ W.cell? ⟨g, off + h + 3, none⟩ = some (.int .u8 x3.toNat) := by
      intro W hf
      have hg : g < w.heap.size := World.block_lt_of_cell? w _ c0
      exact ⟨(hf.cell (p := ⟨g, off + h, none⟩) hg (fun h => h)).trans c0, (hf.cell (p := ⟨g, off + h + 1, none⟩) hg (fun h => h)).trans c1, (hf.cell (p := ⟨g, off + h + 2, none⟩) hg (fun h => h)).trans c2, (hf.cell (p := ⟨g, off + h + 3, none⟩) hg (fun h => h)).trans c3⟩
    have hch : ¬ c = h := by omega
    have HCC := Lib.hid hcc
    clear hcc
    have hat : ∀ (W : World) (cp : Nat), (Instr.arrayAt 34 (.slice (some ⟨g, off + h, none⟩) 4 cp)).run Try.prog W = .ok (.pointer (some ⟨g, off + h, none⟩)) W := fun W cp => run_arrayAt W 34 _ 4 _ 4 cp Try.underlying34 (Nat.le_refl _)
    go_enter Try.func12, Try.ntmps12
    go_wp2_with fail
    go_cut [2] from 9 to 19 (fun r wx => r = .bool rr ∧ Fr (fun _ => False) w wx)
    case first =>
      go_region_with (first
        | (go_at_call 9; refine (HSM.out _ ?_).mono ?_; exact HSH.out; rintro e wa ⟨rfl, rfl⟩)
        | (go_at_call 13; refine (HE.out _).mono ?_; rintro e wa ⟨rfl, fa⟩; obtain ⟨k0, k1, k2, k3⟩ := HCC.out _ fa))
      all_goals (go_wp2_with fail; go_meet; exact ⟨rfl, fa.os, fa.tape, fa.output, fa.size, fa.block⟩)
    case rest =>
      obtain ⟨rfl, fw⟩ := hcut
      clear HSM HSH HE HCC heq hat c0 c1 c2 c3
      go_wp2_with fail
      go_ret
      exact ⟨rfl, fw⟩
  · clear hn
    have hr : Crc.right l = false := by unfold Crc.right; rw [decide_eq_false h4]; rfl
    rw [hr]
    go_enter Try.func12, Try.ntmps12
    go_wp2_with fail
    go_ret
    exact ⟨rfl, Fr.refl _ _⟩
end Go.Proofs.Ytplijlgkchbdaaa
