/-
  Package troupe: how many members are in a list; Has, Most, All, Check, Same.
-/
import Derived.Test.YtcjijafmfomohaaTrBase
import Derived.Deep.QuietTactic
import Derived.BigQuiet
namespace Go.Proofs.Ytcjijafmfomohaa
open Go.RowKit
set_option maxRecDepth 100000

/-- A view in a block of its own. -/
abbrev oVw (n : Int) (a : Option Addr) (k c : Nat) : Obj := Obj.cells #[.int .i64 n, .slice a k c] 34 (0, 0)

/-- How many of l are in m. -/
def inC (l m : List Int) : Nat := l.countP (fun x => decide (x ∈ m))

theorem inC_le (l m : List Int) : inC l m ≤ l.length := List.countP_le_length
theorem inC_step (l m : List Int) (k : Nat) (hk : k < l.length) : inC (l.take (k + 1)) m = inC (l.take k) m + (if l[k] ∈ m then 1 else 0) := by
  unfold inC
  rw [List.take_succ_eq_append_getElem hk, List.countP_append, List.countP_singleton]
  simp

theorem vw_cells {w : World} {g : Nat} {n : Int} {a : Option Addr} {k c : Nat} (h : w.heap[g]? = some (oVw n a k c)) : w.cell? ⟨g, 0, none⟩ = some (.int .i64 n) ∧ w.cell? ⟨g, 1, none⟩ = some (.slice a k c) := by
  constructor <;> (rw [cell_of_row w g _ _ _ _ h]; rfl)

theorem lblock_kept {S : Nat → Prop} {w0 w1 : World} {b : Nat} {o : Obj} (h : w0.heap[b]? = some o) (f : Fr S w0 w1) (hb : ¬ S b) : w1.heap[b]? = some o := by
  rw [f.block b (Array.getElem?_eq_some_iff.1 h).1 hb]; exact h

set_option maxHeartbeats 4000000 in
theorem among_any (n : Int) (l m : List Int) (a b : Option Addr) (c d : Nat) (w : World) (hc : SIc w a c l) (hd : SIc w b d m) (hs : l.length ≤ 1000) (hs' : m.length ≤ 1000) :
    Calls Try.prog 34 #[.agg #[.int .i64 n, .slice a l.length c], .slice b m.length d] w fun e w' => e = .returned (.int .i64 (inC l m)) ∧ Fr (fun _ => False) w w' := by
  have hq := vw_cells (heap_alloc_new w (oVw n a l.length c))
  have f0 : Fr (fun _ => False) w (w.alloc (oVw n a l.length c)) := (Fr.refl _ _).alloc _
  have Hc := Lib.hid hc
  have Hd := Lib.hid hd
  clear hc hd
  go_enter Try.func34, Try.ntmps34
  go_upto_region 2 with fail
  generalize w.alloc (oVw n a l.length c) = w0 at *
  generalize w.heap.size = gv at *
  obtain ⟨q0, q1⟩ := hq
  have F0 := Lib.hid f0
  clear f0
  go_wp2_with fail
  clear q0 q1
  go_loopg [5, 11] l.length (fun g u5 u11 wr => ∃ k q : Nat, k ≤ l.length ∧ q ≤ k ∧ g = l.length - k ∧ u11 = .int .i64 k ∧ u5 = .int .i64 q ∧ Hid (q = inC (l.take k) m) ∧ Hid (Fr (fun _ => False) w wr))
  case atStart => exact ⟨0, 0, Nat.zero_le _, Nat.zero_le _, rfl, rfl, rfl, Lib.hid (by simp [inC]), F0⟩
  case round =>
    obtain ⟨k, q, hk, hqk, rfl, rfl, rfl, HQ, F⟩ := hrel
    by_cases hlt : k < l.length
    · obtain ⟨hcap, g, off, rfl, hcell⟩ := (Hc.out.fr F.out) (by omega)
      obtain ⟨x, hx⟩ : ∃ x, x = l[k] := ⟨_, rfl⟩
      have hck := hcell k hlt
      rw [← hx] at hck
      have Hx := Lib.hid hx
      clear hcell hx hcap
      have HST := Lib.hid (inC_step l m k hlt)
      go_wp2_with fail
      refine (contains_any m x b d _ (Hd.out.fr F.out) hs').mono ?_
      rintro e w1 ⟨rfl, rfl⟩
      by_cases he : x ∈ m
      · have he1 : decide (x ∈ m) = true := by simp [he]
        have HE : Hid (q + 1 = inC (l.take (k + 1)) m) := Lib.hid (by rw [HST.out, ← HQ.out, ← Hx.out, if_pos he])
        rw [he1]
        clear he he1
        go_wp2_with fail
        go_roundg (l.length - (k + 1))
        case measure => omega
        case rel => exact ⟨k + 1, q + 1, by omega, by omega, rfl, by congr 1, by congr 1, HE, F⟩
      · have he1 : decide (x ∈ m) = false := by simp [he]
        have HE : Hid (q = inC (l.take (k + 1)) m) := Lib.hid (by rw [HST.out, ← HQ.out, ← Hx.out, if_neg he]; rfl)
        rw [he1]
        clear he he1
        go_wp2_with fail
        go_roundg (l.length - (k + 1))
        case measure => omega
        case rel => exact ⟨k + 1, q, by omega, by omega, rfl, by congr 1, rfl, HE, F⟩
    · go_wp2_with fail
      go_ret
      refine ⟨lret_int ?_, F.out⟩
      rw [HQ.out, List.take_of_length_le (by omega)]

set_option maxHeartbeats 4000000 in
theorem has_any (n x : Int) (l : List Int) (a : Option Addr) (c : Nat) (w : World) (hc : SIc w a c l) (hs : l.length ≤ 1000) :
    Calls Try.prog 29 #[.agg #[.int .i64 n, .slice a l.length c], .int .i64 x] w fun e w' => e = .returned (.bool (decide (x ∈ l))) ∧ Fr (fun _ => False) w w' := by
  have hq := vw_cells (heap_alloc_new w (oVw n a l.length c))
  have f0 : Fr (fun _ => False) w (w.alloc (oVw n a l.length c)) := (Fr.refl _ _).alloc _
  have Hc := Lib.hid hc
  clear hc
  go_enter Try.func29, Try.ntmps29
  go_upto_region 1 with fail
  generalize w.alloc (oVw n a l.length c) = w0 at *
  generalize w.heap.size = gv at *
  obtain ⟨q0, q1⟩ := hq
  have F0 := Lib.hid f0
  clear f0
  go_wp2_with fail
  refine (contains_any l x a c _ (Hc.out.fr F0.out) hs).mono ?_
  rintro e w1 ⟨rfl, rfl⟩
  clear q0 q1
  go_wp2_with fail
  go_ret
  exact ⟨rfl, F0.out⟩

end Go.Proofs.Ytcjijafmfomohaa
