/-
  What package call does with calls and answers: their checks, and their encoding.
-/
import Derived.Test.YtmpnomngnfffbaaRef
import Derived.LoopN
namespace Go.Proofs.Ytmpnomngnfffbaa
open Go.RowKit

/-- A call and an answer, as values. -/
def cv (t n p : Int) (v : Value) : Value := .agg #[.int .u16 t, .int .u16 n, .int .i64 p, v]
def av (e r : Int) (v : Value) : Value := .agg #[.int .i64 e, .int .i64 r, v]

/-- Their encoding. -/
def callB (t n p : Int) (l : List UInt8) : List UInt8 := be2 t.toNat ++ be2 n.toNat ++ be2 p.toNat ++ txt l
def ansB (e r : Int) (l : List UInt8) : List UInt8 := be2 e.toNat ++ be2 r.toNat ++ txt l

/-- The first error of numbers that are Words, and so many bytes. -/
def okN (p : Int) : Bool := decide (0 ≤ p) && decide (p ≤ 65535)
def sizeN (n : Nat) : Int := if n ≤ 4000 then 0 else 6
def cchk (p : Int) (n : Nat) : Int := if okN p = true then sizeN n else 2
def achk (e r : Int) (n : Nat) : Int := if okN e = true then cchk r n else 2

theorem crow {w : World} {b : Nat} {cs : Array Value} {t : TypeId} (h : w.heap[b]? = some (.cells cs t (0, 0))) (i : Nat) (u : Value) (hu : cs[i]? = some u) : w.cell? ⟨b, i, none⟩ = some u := by
  simp only [World.cell?, h]
  simpa using hu

set_option maxRecDepth 100000 in
set_option maxHeartbeats 4000000 in
theorem check1_any (a : Option Addr) (n c : Nat) (g : Nat) (p : Int) (w : World) (hg : w.heap[g]? = some (.cells #[.int .i64 p] 3 (0, 0))) :
    Calls Try.prog 43 #[.slice a n c, .slice (some ⟨g, 0, none⟩) 1 1] w fun e w' => e = .returned (.int .i64 (cchk p n)) ∧ Fr (fun _ => False) w w' := by
  have c0 := crow hg 0 _ rfl
  by_cases h0 : p < 0
  · have hE : cchk p n = 2 := by unfold cchk okN; simp; omega
    have HE := Lib.hid hE; clear hE
    go_enter Try.func43, Try.ntmps43
    go_wp2
    refine wp_loop_rounds 1 ?_
    rw [rounds_succ]
    go_wp2
    go_ret
    rw [HE.out]
    exact ⟨rfl, Fr.refl _ _⟩
  by_cases h1 : 65535 < p
  · have hE : cchk p n = 2 := by unfold cchk okN; simp; omega
    have HE := Lib.hid hE; clear hE
    have h0' : decide (p < 0) = false := by simp; omega
    clear h0
    go_enter Try.func43, Try.ntmps43
    go_wp2
    refine wp_loop_rounds 1 ?_
    rw [rounds_succ]
    go_wp2
    go_ret
    rw [HE.out]
    exact ⟨rfl, Fr.refl _ _⟩
  have hE : cchk p n = sizeN n := by unfold cchk okN; simp; omega
  have HE := Lib.hid hE; clear hE
  have h0' : decide (p < 0) = false := by simp; omega
  have h1' : decide (65535 < p) = false := by simp; omega
  clear h0 h1
  by_cases h2 : (4000 : Int) < n
  · have hZ : sizeN n = 6 := by unfold sizeN; rw [if_neg (by omega)]
    have HZ := Lib.hid hZ; clear hZ
    go_enter Try.func43, Try.ntmps43
    go_wp2
    refine wp_loop_rounds 2 ?_
    rw [rounds_succ]
    go_wp2
    rw [rounds_succ]
    go_wp2
    go_ret
    rw [HE.out, HZ.out]
    exact ⟨rfl, Fr.refl _ _⟩
  · have hZ : sizeN n = 0 := by unfold sizeN; rw [if_pos (by omega)]
    have HZ := Lib.hid hZ; clear hZ
    have h2' : decide ((4000 : Int) < n) = false := by simp; omega
    clear h2
    go_enter Try.func43, Try.ntmps43
    go_wp2
    refine wp_loop_rounds 2 ?_
    rw [rounds_succ]
    go_wp2
    rw [rounds_succ]
    go_wp2
    go_ret
    rw [HE.out, HZ.out]
    exact ⟨rfl, Fr.refl _ _⟩

/-- The three ways of a number: below, above, a Word. -/
theorem three (p : Int) : (p < 0 ∧ okN p = false) ∨ ((decide (p < 0) = false ∧ (65535 : Int) < p) ∧ okN p = false) ∨ ((decide (p < 0) = false ∧ decide ((65535 : Int) < p) = false) ∧ okN p = true) := by
  unfold okN
  by_cases h0 : p < 0
  · left; simp; omega
  · by_cases h1 : 65535 < p
    · right; left; simp; omega
    · right; right; simp; omega

set_option maxRecDepth 100000 in
set_option maxHeartbeats 4000000 in
theorem check2_any (a : Option Addr) (n c : Nat) (g : Nat) (p r : Int) (w : World) (hg : w.heap[g]? = some (.cells #[.int .i64 p, .int .i64 r] 3 (0, 0))) :
    Calls Try.prog 43 #[.slice a n c, .slice (some ⟨g, 0, none⟩) 2 2] w fun e w' => e = .returned (.int .i64 (achk p r n)) ∧ Fr (fun _ => False) w w' := by
  have c0 := crow hg 0 _ rfl
  have c1 := crow hg 1 _ rfl
  rcases three p with ⟨h0, hE⟩ | ⟨⟨h0, h1⟩, hE⟩ | ⟨⟨h0, h1⟩, hE⟩
  · have HE : Hid (achk p r n = 2) := Lib.hid (by unfold achk; rw [hE]; rfl)
    clear hE
    go_enter Try.func43, Try.ntmps43
    go_wp2
    refine wp_loop_rounds 1 ?_
    rw [rounds_succ]
    go_wp2
    go_ret
    rw [HE.out]
    exact ⟨rfl, Fr.refl _ _⟩
  · have HE : Hid (achk p r n = 2) := Lib.hid (by unfold achk; rw [hE]; rfl)
    clear hE
    go_enter Try.func43, Try.ntmps43
    go_wp2
    refine wp_loop_rounds 1 ?_
    rw [rounds_succ]
    go_wp2
    go_ret
    rw [HE.out]
    exact ⟨rfl, Fr.refl _ _⟩
  · have HE : Hid (achk p r n = cchk r n) := Lib.hid (by unfold achk; rw [if_pos hE])
    clear hE
    rcases three r with ⟨k0, kE⟩ | ⟨⟨k0, k1⟩, kE⟩ | ⟨⟨k0, k1⟩, kE⟩
    · have KE : Hid (cchk r n = 2) := Lib.hid (by unfold cchk; rw [kE]; rfl)
      clear kE
      go_enter Try.func43, Try.ntmps43
      go_wp2
      refine wp_loop_rounds 2 ?_
      rw [rounds_succ]
      go_wp2
      rw [rounds_succ]
      go_wp2
      go_ret
      rw [HE.out, KE.out]
      exact ⟨rfl, Fr.refl _ _⟩
    · have KE : Hid (cchk r n = 2) := Lib.hid (by unfold cchk; rw [kE]; rfl)
      clear kE
      go_enter Try.func43, Try.ntmps43
      go_wp2
      refine wp_loop_rounds 2 ?_
      rw [rounds_succ]
      go_wp2
      rw [rounds_succ]
      go_wp2
      go_ret
      rw [HE.out, KE.out]
      exact ⟨rfl, Fr.refl _ _⟩
    · have KE : Hid (cchk r n = sizeN n) := Lib.hid (by unfold cchk; rw [if_pos kE])
      clear kE
      by_cases h2 : (4000 : Int) < n
      · have hZ : sizeN n = 6 := by unfold sizeN; rw [if_neg (by omega)]
        have HZ := Lib.hid hZ; clear hZ
        go_enter Try.func43, Try.ntmps43
        go_wp2
        refine wp_loop_rounds 3 ?_
        rw [rounds_succ]
        go_wp2
        rw [rounds_succ]
        go_wp2
        rw [rounds_succ]
        go_wp2
        go_ret
        rw [HE.out, KE.out, HZ.out]
        exact ⟨rfl, Fr.refl _ _⟩
      · have hZ : sizeN n = 0 := by unfold sizeN; rw [if_pos (by omega)]
        have HZ := Lib.hid hZ; clear hZ
        have h2' : decide ((4000 : Int) < n) = false := by simp; omega
        clear h2
        go_enter Try.func43, Try.ntmps43
        go_wp2
        refine wp_loop_rounds 3 ?_
        rw [rounds_succ]
        go_wp2
        rw [rounds_succ]
        go_wp2
        rw [rounds_succ]
        go_wp2
        go_ret
        rw [HE.out, KE.out, HZ.out]
        exact ⟨rfl, Fr.refl _ _⟩

end Go.Proofs.Ytmpnomngnfffbaa
