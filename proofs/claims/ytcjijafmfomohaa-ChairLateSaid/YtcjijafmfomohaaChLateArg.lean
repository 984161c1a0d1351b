/-
  The law ChairLate for its arguments as they are handed in.
-/
import Derived.Test.YtcjijafmfomohaaChLateLaw
namespace Go.Proofs.Ytcjijafmfomohaa

theorem chlate_all (m : Int) (h0 : 0 ≤ m) (h1 : m ≤ 65535) (l : List CaE) (v : Value) {w : World} (h : CaActs w l v) (s : Sm) (vs : Value) (hs : SmV w s vs) :
    Calls Try.prog 4 #[.int .u16 m, v, vs] w fun e w' => e = .returned (.bool true) ∧ Fr (fun _ => False) w w' := by
  obtain ⟨mb, rfl⟩ : ∃ mb : Nat, m = mb := ⟨m.toNat, by omega⟩
  obtain ⟨sa, sc, rfl, hse, hok⟩ := hs
  rcases h with ⟨rfl, a, c, rfl⟩ | ⟨g, off, cap, rfl, hle, hall⟩
  · exact chlate_law mb [] a c s sa sc w (by omega) (.inl rfl) hse hok
  · exact chlate_law mb l _ cap s sa sc w (by omega) (.inr ⟨g, off, rfl, hle, hall⟩) hse hok

end Go.Proofs.Ytcjijafmfomohaa
