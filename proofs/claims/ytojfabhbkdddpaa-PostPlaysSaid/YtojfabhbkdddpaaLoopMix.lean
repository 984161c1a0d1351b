/-
  A loop whose body writes very many slots: the frame of a round is the frame ahead of the loop, with the written slots' values handed over as one function (so nothing is taken apart slot by slot).
-/
import Derived.Test.YtojfabhbkdddpaaApp
import Derived.Deep.LoopGhost
namespace Go.Proofs.Ytojfabhbkdddpaa
open Go.RowKit

def mixU (u : Nat → Value) : Nat → List Bool → List Value → List Value
  | i, true :: m, _ :: l => u i :: mixU u (i + 1) m l
  | i, false :: m, x :: l => x :: mixU u (i + 1) m l
  | _, _, l => l

theorem mixU_t (u : Nat → Value) (i : Nat) (m : List Bool) (x : Value) (l : List Value) : mixU u i (true :: m) (x :: l) = u i :: mixU u (i + 1) m l := rfl
theorem mixU_f (u : Nat → Value) (i : Nat) (m : List Bool) (x : Value) (l : List Value) : mixU u i (false :: m) (x :: l) = x :: mixU u (i + 1) m l := rfl
theorem mixU_n (u : Nat → Value) (i : Nat) : mixU u i [] [] = [] := rfl

def HandM {D : Type} (mk : List Value → D → Act) (J : Nat → List Value → World → Prop) (d : D) (n : Nat) (a : Act) (w : World) : Prop := ∃ k fr, k < n ∧ a = mk fr d ∧ J k fr w

theorem HandM.intro {D : Type} {mk : List Value → D → Act} {J : Nat → List Value → World → Prop} {d : D} {n : Nat} {w : World} {fr : List Value} (k : Nat) (h1 : k < n) (h2 : J k fr w) : HandM mk J d n (mk fr d) w := ⟨k, fr, h1, rfl, h2⟩

theorem loop_mix {P : Program} {Q : Exit → Act → World → Prop} {c : Code} (mask : List Bool) (R : Nat → (Nat → Value) → World → Prop) (n0 : Nat) {fr0 : List Value} {w : World}
    (hm : mixU (fun i => fr0.getD i undef) 0 mask fr0 = fr0) (h0 : R n0 (fun i => fr0.getD i undef) w)
    (round : ∀ n u w, R n u w → ∀ (J : Nat → List Value → World → Prop) (K : Act → World → Prop), (∀ k fr w', mixU (fun i => fr.getD i undef) 0 mask fr0 = fr → R k (fun i => fr.getD i undef) w' → J k fr w') →
      (∀ a' w', HandM (fun (fr : List Value) (_ : Unit) => (⟨fr.toArray, []⟩ : Act)) J () n a' w' → K a' w') → c.wp P (Exit.then K Q) ⟨(mixU u 0 mask fr0).toArray, []⟩ w) :
    (Code.loop c).wp P Q ⟨fr0.toArray, []⟩ w := by
  refine wp_loop_ghost (fun n a w => ∃ u, R n u w ∧ a = (⟨(mixU u 0 mask fr0).toArray, []⟩ : Act)) n0 ⟨_, h0, by rw [hm]⟩ ?_
  rintro n a w ⟨u, hR, rfl⟩
  refine round n u w hR (fun k fr w' => mixU (fun i => fr.getD i undef) 0 mask fr0 = fr ∧ R k (fun i => fr.getD i undef) w') _ (fun k fr w' h1 h2 => ⟨h1, h2⟩) ?_
  rintro a' w' ⟨k, fr, hk, rfl, h1, h2⟩
  exact ⟨k, hk, _, h2, by rw [h1]⟩
end Go.Proofs.Ytojfabhbkdddpaa
