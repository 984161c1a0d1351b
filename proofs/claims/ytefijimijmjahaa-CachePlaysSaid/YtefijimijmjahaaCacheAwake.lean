/-
  The fixed fact of the laws on caches.
-/
import Derived.Test.YtefijimijmjahaaCacheApi
namespace Go.Proofs.Ytefijimijmjahaa
open Go.RowKit
set_option maxRecDepth 100000

set_option maxHeartbeats 8000000 in
theorem cacheAwake_any (w : World) : Calls Try.prog 7 #[] w fun y w' => y = .returned (.bool true) ∧ Fr (fun _ => False) w w' := by
  go_enter Try.func7, Try.ntmps7
  go_wp2_with fail
  refine (cnew_any 1 w).mono ?_
  rintro y w1 ⟨b, rfl, h1, f1⟩
  have H1 := Lib.hid h1
  have F1 := Lib.hid f1
  clear h1 f1
  have hp := cput_new H1.out (0, 1) (by unfold IdOk; omega) (by simp) 0 0 (.slice none 0 0) [] (.inl ⟨rfl, _, _, rfl⟩) (by simp)
  unfold kv av at hp
  go_wp2_with fail
  refine hp.mono ?_
  rintro y w2 ⟨rfl, h2, f2⟩
  have H2 := Lib.hid h2
  have F2 := Lib.hid f2
  clear h2 f2 hp
  have hp := cput_new H2.out (0, 2) (by unfold IdOk; omega) (by simp) 0 0 (.slice none 0 0) [] (.inl ⟨rfl, _, _, rfl⟩) (by simp)
  unfold kv av at hp
  go_wp2_with fail
  refine hp.mono ?_
  rintro y w3 ⟨rfl, h3, f3⟩
  have H3 := Lib.hid h3
  have F3 := Lib.hid f3
  clear h3 f3 hp
  go_wp2_with fail
  have hk := ckept_any H3.out
  have e1 : min (clampM 1) (([] : List (IdN × An)) ++ [((0, 1), 0, 0, [])] ++ [((0, 2), 0, 0, [])]).length = 1 := rfl
  rw [e1] at hk
  refine hk.mono ?_
  rintro y w4 ⟨rfl, rfl⟩
  clear hk e1
  go_wp2_with fail
  have hs := cseen_any H3.out (0, 1) (by unfold IdOk; omega)
  unfold kv at hs
  refine hs.mono ?_
  rintro y w5 ⟨rfl, f5⟩
  have F5 := Lib.hid f5
  clear f5 hs
  go_wp2_with fail
  go_ret
  refine ⟨rfl, ((F1.out.trans F2.out (fun k hk h => by omega)).trans F3.out (fun k hk h => ?_)).trans F5.out (fun _ _ h => h)⟩
  have := F1.out.size
  omega
end Go.Proofs.Ytefijimijmjahaa
