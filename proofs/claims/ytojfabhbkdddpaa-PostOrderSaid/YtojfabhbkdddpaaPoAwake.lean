/-
  Post: a new one; the laws' fixed fact.
-/
import Derived.Test.YtojfabhbkdddpaaPoSpoil
import Derived.Lib.SlBytesConst
namespace Go.Proofs.Ytojfabhbkdddpaa
open Go.RowKit
set_option maxRecDepth 100000
set_option linter.unusedSimpArgs false
set_option linter.unusedVariables false

abbrev oPo (v : Value) : Obj := Obj.cells #[v] 27 (0, 0)

theorem post_new (w : World) (B : Nat) (hB : B ≤ w.heap.size) : PostIn (w.alloc (oPo nilS)) B w.heap.size nilS [] where
  here := heap_alloc_new w _
  bB := hB
  row := World.ownsRow_nil _ _ _ _
  own := fun x hx => by cases hx
  ap := .nil
  many := by simp

/-- A post, told without memory. -/
def PostS (w : World) (B b : Nat) (R : List PF) : Prop := ∃ v L, PostIn w B b v L ∧ L.map Fl.p = R
/-- Another state of the post in the block b. -/
def PostT (w w' : World) (B b : Nat) (R R' : List PF) : Prop := ∃ v L v' L', L.map Fl.p = R ∧ L'.map Fl.p = R' ∧ PNew w w' B b v L v' L'

theorem abcd (w : World) : Sees (w.alloc (.cells #[.int .u8 97, .int .u8 98, .int .u8 99, .int .u8 100] 5 (4, 5))) (.slice (some ⟨w.heap.size, 0, none⟩) 4 4) [97, 98, 99, 100] := by
  refine .inr ⟨w.heap.size, 0, 4, rfl, by simp, fun j hj => ?_⟩
  have q := heap_alloc_new w (.cells #[.int .u8 97, .int .u8 98, .int .u8 99, .int .u8 100] 5 (4, 5))
  rw [cell_of_row _ _ _ _ _ _ q]
  match j, hj with
  | 0, _ => rfl
  | 1, _ => rfl
  | 2, _ => rfl
  | 3, _ => rfl

set_option maxHeartbeats 4000000 in
theorem awake_any (w : World) : Calls Try.prog 7 #[] w fun e w' => e = .returned (.bool true) ∧ Fr (fun _ => False) w w' := by
  have h0 := post_new w w.heap.size (Nat.le_refl _)
  have f0 : Fr (fun _ => False) w (w.alloc (oPo nilS)) := (Fr.refl _ _).alloc _
  have kc := fun (w : World) (C : Array Value) (n c : Nat) => Lib.run_convert_bytes_const (P := Try.prog) w 30 5 C n c Try.underlying30 Try.underlying5
  replace kc := kc (w.alloc (oPo nilS))
  rw [World.size_alloc] at kc
  go_enter Try.func7, Try.ntmps7
  go_wp2_with fail
  clear kc
  have hs := abcd (w.alloc (oPo nilS))
  have f1 : Fr (fun _ => False) (w.alloc (oPo nilS)) ((w.alloc (oPo nilS)).alloc (.cells #[.int .u8 97, .int .u8 98, .int .u8 99, .int .u8 100] 5 (4, 5))) := (Fr.refl _ _).alloc _
  have h1 := h0.fr0 f1
  rw [World.size_alloc] at hs
  generalize (w.alloc (oPo nilS)).alloc (.cells #[.int .u8 97, .int .u8 98, .int .u8 99, .int .u8 100] 5 (4, 5)) = w1 at *
  generalize w.alloc (oPo nilS) = w0 at *
  generalize hb : w.heap.size = b at *
  refine (send_any h1 3 _ _ hs (by decide)).mono ?_
  rintro e w2 ⟨rfl, v2, L2, n2, e2⟩
  rw [show sendP (List.map Fl.p []) (3, [97, 98, 99, 100], false) = [(3, [97, 98, 99, 100], false)] from rfl] at e2
  have F2 := Lib.hid (And.intro (f0.trans f1 (fun _ _ h => h)) (And.intro n2 (And.intro hb e2)))
  clear hs f1 h1 h0 f0 hb n2 e2
  simp only [List.length_nil, show decide (0 < 400) = true from rfl]
  go_wp2_with fail
  refine (spoil_any F2.out.2.1.inn 0 5 (by omega) 1 (by omega)).mono ?_
  rintro e w3 ⟨rfl, v3, L3, n3, e3⟩
  rw [F2.out.2.2.2] at e3 ⊢
  rw [show spoilB [(3, [97, 98, 99, 100], false)] 0 1 = true from rfl]
  have F3 := Lib.hid (And.intro n3 e3)
  clear n3 e3
  go_wp2_with fail
  refine (spoil_any F3.out.1.inn 0 5 (by omega) 1 (by omega)).mono ?_
  rintro e w4 ⟨rfl, v4, L4, n4, e4⟩
  rw [F3.out.2] at e4 ⊢
  rw [show spoilB (spoilP [(3, [97, 98, 99, 100], false)] 0 5 1) 0 1 = false from rfl]
  have F4 := Lib.hid (And.intro n4 e4)
  clear n4 e4
  go_wp2_with fail
  refine (len_any F4.out.1.inn).mono ?_
  rintro e w5 ⟨rfl, rfl⟩
  have hl : L4.length = 1 := by
    have := congrArg List.length F4.out.2
    rw [List.length_map] at this
    rw [this]
    rfl
  rw [hl]
  go_wp2_with fail
  go_ret
  have hall := F2.out.2.1.trans (F3.out.1.trans F4.out.1)
  refine ⟨rfl, F2.out.1.trans hall.fr (fun k hk hp => ?_)⟩
  rcases hp with e | e | ⟨x, hx, _⟩
  · have := F2.out.2.2.1; omega
  · cases e
  · cases hx
end Go.Proofs.Ytojfabhbkdddpaa
