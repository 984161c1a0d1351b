/-
  What the document's answer for bytes with their sum gives.
-/
import Derived.Test.YtplijlgkchbdaaaRefSum
import Derived.Test.YtplijlgkchbdaaaRefLong
import Derived.Deep.RegionWith
import Derived.Deep.Cut
import Derived.Deep.CutRange
namespace Go.Proofs.Ytplijlgkchbdaaa
open Go.RowKit

set_option maxHeartbeats 4000000 in
theorem refsummed_any (v : Value) (l : List UInt8) (w : World) (hs : Sees w v l) (hl : l.length ≤ 300) :
    Calls Try.prog 11 #[v] w fun e w' => e = .returned (.string ⟨(Crc.summed l).toArray⟩) ∧ Fr (fun _ => False) w w' := by
  obtain ⟨a, c, rfl, hn⟩ := hs.shape
  clear hn
  have hcv : ∀ W, Fr (fun _ => False) w.drew W → (convert 22 9 (.slice a l.length c)).run Try.prog W = .ok (.string ⟨l.toArray⟩) W :=
    fun W hf => (Sees.fr (w := w.drew) hs hf (fun _ _ h => h)).string _ _ _ Try.underlying22 Try.underlying5 Try.underlying9
  have hc0 := hcv w.drew (Fr.refl _ _)
  have HCV := Lib.hid hcv
  have hrs : ∀ W, Fr (fun _ => False) w.drew W → Calls Try.prog 10 #[.slice a l.length c] W fun e w' => e = .returned (.int .u32 (Crc.sum l)) ∧ Fr (fun _ => False) W w' :=
    fun W hf => refsum_any _ l W (Sees.fr (w := w.drew) hs hf (fun _ _ h => h)) hl
  have HRS := Lib.hid hrs
  have hlt := Crc.sum_lt l
  have hlen : (be4 (Crc.sum l)).length = 4 := be4_length _
  have hcat : (⟨l.toArray⟩ : ByteArray) ++ ⟨(be4 (Crc.sum l)).toArray⟩ = ⟨(Crc.summed l).toArray⟩ := by
    unfold Crc.summed
    apply ByteArray.ext
    rw [ByteArray.data_append]
    simp
  have HCAT := Lib.hid hcat
  have hz1 : (⟨l.toArray⟩ : ByteArray).size = l.length := rfl
  have hz2 : (⟨(be4 (Crc.sum l)).toArray⟩ : ByteArray).size = 4 := rfl
  clear hcv hrs hs hlen hcat
  generalize Crc.sum l = s at *
  go_enter Try.func11, Try.ntmps11
  go_wp2_with fail
  go_cut [2] from 3 to 9 (fun r wx => r = .string ⟨(Crc.summed l).toArray⟩ ∧ Fr (fun _ => False) w wx)
  case first =>
    go_region_with (first
      | (go_at_call 10; refine (HRS.out _ (Fr.refl _ _)).mono ?_; rintro e wa ⟨rfl, fa⟩; have k1 := HCV.out _ fa)
      | (go_at_call 16; refine (reflong_any s (by omega) (by omega) _).mono ?_; rintro e wb ⟨vb, rfl, mb⟩; have k2 := mb.1.sees.string (P := Try.prog) _ _ _ Try.underlying22 Try.underlying5 Try.underlying9; have k3 := HCV.out _ (fa.trans mb.2.1 (fun _ _ h => h))))
    all_goals
      first
      | (exfalso; omega)
      | (have ff := fa.trans mb.2.1 (fun _ _ h => h)
         go_wp2_with fail
         rw [HCAT.out]
         go_meet
         exact ⟨rfl, ff.os, ff.tape, ff.output, ff.size, ff.block⟩)
  case rest =>
    obtain ⟨rfl, fw⟩ := hcut
    clear HCV hc0 HRS HCAT
    go_wp2_with fail
    go_ret
    exact ⟨rfl, fw⟩
end Go.Proofs.Ytplijlgkchbdaaa
