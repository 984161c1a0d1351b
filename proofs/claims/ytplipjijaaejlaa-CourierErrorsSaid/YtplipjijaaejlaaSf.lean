/-
  CouAny, part 6 of what it rests on: ValFit, ValFit2, ValFit3, KindNode, KindName, KindTyped, KindTypeP.
-/
import Derived.Test.YtplipjijaaejlaaSe
import Derived.IntWalk
import Derived.Deep.Cut
import Derived.Deep.CutRange
set_option linter.unusedVariables false
set_option linter.unusedSimpArgs false
set_option maxHeartbeats 32000000
namespace Go.Proofs.Ytplipjijaaejlaa
open Go.RowKit
open Go.Lib (hid)
section
attribute [local go_sem] run_store_float

/-- IS A VALUE ONE OF A TYPE? -/
def fitsE : KT → VT → Bool
  | .nil, _ => false
  | .mk _ _ _ _ _, .nil => false
  | .mk k m ns n of, .mk N f s c ov =>
    if k = 0 then decide (0 ≤ N ∧ N ≤ 1) && sameV (.mk 0 f s c ov) zeroV
    else if k = 1 then decide (0 ≤ N ∧ N ≤ 65535) && sameV (.mk 0 f s c ov) zeroV
    else if k = 2 then decide (-2147483648 ≤ N ∧ N ≤ 2147483647) && sameV (.mk 0 f s c ov) zeroV
    else if k = 3 then true && sameV (.mk N 0 s c ov) zeroV
    else if k = 4 then decide ((s.length : Int) ≤ m) && sameV (.mk N f [] c ov) zeroV
    else if k = 7 then decide (0 ≤ N ∧ N ≤ (ns.length : Int) - 1) && sameV (.mk 0 f s c ov) zeroV
    else if k = 5 then (decide ((c : Int) ≤ m) && (decide (n = 1) && (List.range c).all (fun i => fitsE (of 0) (ov i)))) && sameV (.mk N f s 0 ov) zeroV
    else if k = 6 then (decide (c = n) && (List.range c).all (fun i => fitsE (of i) (ov i))) && sameV (.mk N f s 0 ov) zeroV
    else if k = 8 then (decide (0 ≤ N ∧ N ≤ (n : Int) - 1) && (decide (c = 1) && fitsE (of N.toNat) (ov 0))) && sameV (.mk 0 f s 0 ov) zeroV
    else false

def FitsAt (t : KT) : Prop := ∀ (R : Nat → Prop) (v vv : Value) (w : World) (T : VT), Shows R w t v → VShows R w T vv → szV T ≤ 100000 →
  Calls Try.prog 25 #[v, vv] w fun e w' => e = .returned (.bool (fitsE t T)) ∧ Fr (fun _ => False) w w'

theorem range_one (c : Nat) (ov : Nat → VT) : szV (.mk 0 0 [] c ov) = 1 + ((List.range c).map fun i => szV (ov i)).sum := rfl

set_option maxRecDepth 100000 in
theorem fit_k0 (k : Nat) (m : Int) (ns : List Txt) (n : Nat) (of : Nat → KT) (hk0 : k = 0) : FitsAt (.mk k m ns n of) := by
  intro R v vv w T hsh hvs hsz
  have HSH := Lib.hid (Shows.mono (S := fun k => R k ∧ k < w.heap.size) (fun k hk h => ⟨h, hk⟩) _ _ hsh)
  have HVS := Lib.hid (VShows.mono (S := fun k => R k ∧ k < w.heap.size) (fun k hk h => ⟨h, hk⟩) _ _ hvs)
  clear hvs
  obtain ⟨N, f, s, c, ov, va, cap, rfl, rfl, hVB, hVK⟩ := vshows_open HVS.out
  obtain ⟨vn, vo, rfl, hk, hn, ht, ho⟩ := hsh
  obtain ⟨na, nc, rfl, _⟩ := ht.shape
  obtain ⟨a', c', rfl⟩ : ∃ a' c', vo = .slice a' n c' := by
    rcases ho with ⟨rfl, a', c', rfl⟩ | ⟨g, off, cap, hg, rfl, hle, hc⟩
    · exact ⟨a', c', rfl⟩
    · exact ⟨_, cap, rfl⟩
  have hns : ns.length ≤ 1000 := ht.1
  obtain ⟨hN0, hN1, hf64, hsl, hc5⟩ := hVB
  have HB := Lib.hid (And.intro hN0 (And.intro hN1 (And.intro hf64 (And.intro hsl hc5))))
  have HVK := Lib.hid hVK
  have HSZ := Lib.hid hsz
  have HK0 := Lib.hid hk0
  unfold sv
  obtain ⟨kz, hkz⟩ : ∃ kz : Int, (k : Int) = kz := ⟨_, rfl⟩
  rw [hkz]
  have HKZ := Lib.hid hkz
  have e0 : (kz == 0) = true := by simp; omega
  obtain ⟨w1, hw1⟩ : ∃ w1, w1 = (w.alloc (.cells #[.int .u8 kz, .int .i64 m, .slice na ns.length nc, .slice a' n c'] 34)).alloc (.cells #[.int .i64 N, .float .f64 f, .string ⟨s.toArray⟩, .slice va c cap] 42) := ⟨_, rfl⟩
  have f1 : Fr (fun _ => False) w w1 := by rw [hw1]; exact ((Fr.refl _ _).alloc _).alloc _
  have q1 : w1.heap[w.heap.size]? = some (.cells #[.int .u8 kz, .int .i64 m, .slice na ns.length nc, .slice a' n c'] 34 (0, 0)) := by rw [hw1]; exact heap_alloc_first _ _ _
  have v1 : w1.heap[w.heap.size + 1]? = some (.cells #[.int .i64 N, .float .f64 f, .string ⟨s.toArray⟩, .slice va c cap] 42 (0, 0)) := by rw [hw1]; exact heap_alloc_two _ _ _
  go_enter Try.func25, Try.ntmps25
  go_upto_region 2 with fail
  rw [← hw1]
  obtain ⟨vb, hvb⟩ : ∃ vb, w.heap.size + 1 = vb := ⟨_, rfl⟩
  rw [hvb] at v1 ⊢
  have HVBX := Lib.hid hvb
  have o1 : w.heap.size ≠ vb := by omega
  have o2 : vb ≠ w.heap.size := by omega
  have c0 := cells_row q1 0 _ rfl
  have c1 := cells_row q1 1 _ rfl
  have c2 := cells_row q1 2 _ rfl
  have c3 := cells_row q1 3 _ rfl
  have d0 := cells_row v1 0 _ rfl
  have d1 := cells_row v1 1 _ rfl
  have d2 := cells_row v1 2 _ rfl
  have d3 := cells_row v1 3 _ rfl
  have z0 : w1.frozen? ⟨vb, 0, none⟩ = false := by simp [World.frozen?, v1]
  have z1 : w1.frozen? ⟨vb, 1, none⟩ = false := by simp [World.frozen?, v1]
  have z2 : w1.frozen? ⟨vb, 2, none⟩ = false := by simp [World.frozen?, v1]
  have z3 : w1.frozen? ⟨vb, 3, none⟩ = false := by simp [World.frozen?, v1]
  have H1 := Lib.hid (And.intro f1 (And.intro q1 v1))
  clear hw1 f1 q1 v1 hvb hkz hk0 hk hn ht ho hVK hsz hN0 hN1 hf64 hsl hc5
  obtain ⟨B, hB⟩ : ∃ B, decide (0 ≤ N ∧ N ≤ 1) = B := ⟨_, rfl⟩
  have hw := within_told N 0 1 B hB w1
  have HBB := Lib.hid hB
  clear hB
  go_wp2_with fail
  refine hw.mono ?_
  rintro e w1' ⟨rfl, rfl⟩
  clear hw
  go_upto_region 22 with fail
  obtain ⟨w2, hw2⟩ : ∃ w2, w2 = w1.setCell ⟨vb, 0, none⟩ (.int .i64 0) := ⟨_, rfl⟩
  rw [← hw2]
  have f2 : Fr (fun k => k = vb) w1 w2 := by rw [hw2]; exact (Fr.refl _ _).set1 _ _
  have v2 : w2.heap[vb]? = some (.cells #[.int .i64 0, .float .f64 f, .string ⟨s.toArray⟩, .slice va c cap] 42 (0, 0)) := by rw [hw2]; exact setCell_row 0 _ H1.out.2.2
  have hsame := vsame_any (fun k => R k ∧ k < w.heap.size) (.mk 0 f s c ov) zeroV (.agg #[.int .i64 0, .float .f64 f, .string ⟨s.toArray⟩, .slice va c cap]) _ w2 (vshows_mk (n := 0) (f := f) (s := s) (by have := HB.out; unfold VB; omega) (HVK.out.fr (H1.out.1.trans f2 (fun i hi h => by have := HVBX.out; omega)) (fun _ _ h => h))) (zeroV_shows _ _) (by have h := HSZ.out; simp only [szV] at h ⊢; first | exact h | (simp; try omega))
  have HE := Lib.hid (show fitsE (.mk k m ns n of) (.mk N f s c ov) = (B && sameV (.mk 0 f s c ov) zeroV) from by rw [← HBB.out]; have hk := HK0.out; subst hk; rw [fitsE]; simp)
  have d0 := cells_row v2 0 _ rfl
  have d1 := cells_row v2 1 _ rfl
  have d2 := cells_row v2 2 _ rfl
  have d3 := cells_row v2 3 _ rfl
  have F2 : Hid (Fr (fun _ => False) w w2) := Lib.hid (H1.out.1.trans f2 (fun i hi h => by have := HVBX.out; omega))
  clear hw2 f2 v2
  cases hB : B with
  | false =>
    clear hsame
    rw [hB] at HE
    clear hB
    go_wp2
    go_ret
    rw [HE.out]
    exact ⟨rfl, F2.out⟩
  | true =>
    rw [hB] at HE
    clear hB
    go_wp2_with fail
    refine hsame.mono ?_
    rintro e w3 ⟨rfl, f3⟩
    have F3 := Lib.hid f3
    clear f3 hsame
    go_wp2
    go_ret
    rw [HE.out]
    exact ⟨rfl, F2.out.trans F3.out (fun _ _ h => h)⟩

set_option maxRecDepth 100000 in
theorem fit_k1 (k : Nat) (m : Int) (ns : List Txt) (n : Nat) (of : Nat → KT) (hk0 : k = 1) : FitsAt (.mk k m ns n of) := by
  intro R v vv w T hsh hvs hsz
  have HSH := Lib.hid (Shows.mono (S := fun k => R k ∧ k < w.heap.size) (fun k hk h => ⟨h, hk⟩) _ _ hsh)
  have HVS := Lib.hid (VShows.mono (S := fun k => R k ∧ k < w.heap.size) (fun k hk h => ⟨h, hk⟩) _ _ hvs)
  clear hvs
  obtain ⟨N, f, s, c, ov, va, cap, rfl, rfl, hVB, hVK⟩ := vshows_open HVS.out
  obtain ⟨vn, vo, rfl, hk, hn, ht, ho⟩ := hsh
  obtain ⟨na, nc, rfl, _⟩ := ht.shape
  obtain ⟨a', c', rfl⟩ : ∃ a' c', vo = .slice a' n c' := by
    rcases ho with ⟨rfl, a', c', rfl⟩ | ⟨g, off, cap, hg, rfl, hle, hc⟩
    · exact ⟨a', c', rfl⟩
    · exact ⟨_, cap, rfl⟩
  have hns : ns.length ≤ 1000 := ht.1
  obtain ⟨hN0, hN1, hf64, hsl, hc5⟩ := hVB
  have HB := Lib.hid (And.intro hN0 (And.intro hN1 (And.intro hf64 (And.intro hsl hc5))))
  have HVK := Lib.hid hVK
  have HSZ := Lib.hid hsz
  have HK0 := Lib.hid hk0
  unfold sv
  obtain ⟨kz, hkz⟩ : ∃ kz : Int, (k : Int) = kz := ⟨_, rfl⟩
  rw [hkz]
  have HKZ := Lib.hid hkz
  have e0 : (kz == 0) = false := by simp; omega
  have e1 : (kz == 1) = true := by simp; omega
  obtain ⟨w1, hw1⟩ : ∃ w1, w1 = (w.alloc (.cells #[.int .u8 kz, .int .i64 m, .slice na ns.length nc, .slice a' n c'] 34)).alloc (.cells #[.int .i64 N, .float .f64 f, .string ⟨s.toArray⟩, .slice va c cap] 42) := ⟨_, rfl⟩
  have f1 : Fr (fun _ => False) w w1 := by rw [hw1]; exact ((Fr.refl _ _).alloc _).alloc _
  have q1 : w1.heap[w.heap.size]? = some (.cells #[.int .u8 kz, .int .i64 m, .slice na ns.length nc, .slice a' n c'] 34 (0, 0)) := by rw [hw1]; exact heap_alloc_first _ _ _
  have v1 : w1.heap[w.heap.size + 1]? = some (.cells #[.int .i64 N, .float .f64 f, .string ⟨s.toArray⟩, .slice va c cap] 42 (0, 0)) := by rw [hw1]; exact heap_alloc_two _ _ _
  go_enter Try.func25, Try.ntmps25
  go_upto_region 2 with fail
  rw [← hw1]
  obtain ⟨vb, hvb⟩ : ∃ vb, w.heap.size + 1 = vb := ⟨_, rfl⟩
  rw [hvb] at v1 ⊢
  have HVBX := Lib.hid hvb
  have o1 : w.heap.size ≠ vb := by omega
  have o2 : vb ≠ w.heap.size := by omega
  have c0 := cells_row q1 0 _ rfl
  have c1 := cells_row q1 1 _ rfl
  have c2 := cells_row q1 2 _ rfl
  have c3 := cells_row q1 3 _ rfl
  have d0 := cells_row v1 0 _ rfl
  have d1 := cells_row v1 1 _ rfl
  have d2 := cells_row v1 2 _ rfl
  have d3 := cells_row v1 3 _ rfl
  have z0 : w1.frozen? ⟨vb, 0, none⟩ = false := by simp [World.frozen?, v1]
  have z1 : w1.frozen? ⟨vb, 1, none⟩ = false := by simp [World.frozen?, v1]
  have z2 : w1.frozen? ⟨vb, 2, none⟩ = false := by simp [World.frozen?, v1]
  have z3 : w1.frozen? ⟨vb, 3, none⟩ = false := by simp [World.frozen?, v1]
  have H1 := Lib.hid (And.intro f1 (And.intro q1 v1))
  clear hw1 f1 q1 v1 hvb hkz hk0 hk hn ht ho hVK hsz hN0 hN1 hf64 hsl hc5
  obtain ⟨B, hB⟩ : ∃ B, decide (0 ≤ N ∧ N ≤ 65535) = B := ⟨_, rfl⟩
  have hw := within_told N 0 65535 B hB w1
  have HBB := Lib.hid hB
  clear hB
  go_wp2_with fail
  refine hw.mono ?_
  rintro e w1' ⟨rfl, rfl⟩
  clear hw
  go_upto_region 22 with fail
  obtain ⟨w2, hw2⟩ : ∃ w2, w2 = w1.setCell ⟨vb, 0, none⟩ (.int .i64 0) := ⟨_, rfl⟩
  rw [← hw2]
  have f2 : Fr (fun k => k = vb) w1 w2 := by rw [hw2]; exact (Fr.refl _ _).set1 _ _
  have v2 : w2.heap[vb]? = some (.cells #[.int .i64 0, .float .f64 f, .string ⟨s.toArray⟩, .slice va c cap] 42 (0, 0)) := by rw [hw2]; exact setCell_row 0 _ H1.out.2.2
  have hsame := vsame_any (fun k => R k ∧ k < w.heap.size) (.mk 0 f s c ov) zeroV (.agg #[.int .i64 0, .float .f64 f, .string ⟨s.toArray⟩, .slice va c cap]) _ w2 (vshows_mk (n := 0) (f := f) (s := s) (by have := HB.out; unfold VB; omega) (HVK.out.fr (H1.out.1.trans f2 (fun i hi h => by have := HVBX.out; omega)) (fun _ _ h => h))) (zeroV_shows _ _) (by have h := HSZ.out; simp only [szV] at h ⊢; first | exact h | (simp; try omega))
  have HE := Lib.hid (show fitsE (.mk k m ns n of) (.mk N f s c ov) = (B && sameV (.mk 0 f s c ov) zeroV) from by rw [← HBB.out]; have hk := HK0.out; subst hk; rw [fitsE]; simp)
  have d0 := cells_row v2 0 _ rfl
  have d1 := cells_row v2 1 _ rfl
  have d2 := cells_row v2 2 _ rfl
  have d3 := cells_row v2 3 _ rfl
  have F2 : Hid (Fr (fun _ => False) w w2) := Lib.hid (H1.out.1.trans f2 (fun i hi h => by have := HVBX.out; omega))
  clear hw2 f2 v2
  cases hB : B with
  | false =>
    clear hsame
    rw [hB] at HE
    clear hB
    go_wp2
    go_ret
    rw [HE.out]
    exact ⟨rfl, F2.out⟩
  | true =>
    rw [hB] at HE
    clear hB
    go_wp2_with fail
    refine hsame.mono ?_
    rintro e w3 ⟨rfl, f3⟩
    have F3 := Lib.hid f3
    clear f3 hsame
    go_wp2
    go_ret
    rw [HE.out]
    exact ⟨rfl, F2.out.trans F3.out (fun _ _ h => h)⟩

set_option maxRecDepth 100000 in
theorem fit_k2 (k : Nat) (m : Int) (ns : List Txt) (n : Nat) (of : Nat → KT) (hk0 : k = 2) : FitsAt (.mk k m ns n of) := by
  intro R v vv w T hsh hvs hsz
  have HSH := Lib.hid (Shows.mono (S := fun k => R k ∧ k < w.heap.size) (fun k hk h => ⟨h, hk⟩) _ _ hsh)
  have HVS := Lib.hid (VShows.mono (S := fun k => R k ∧ k < w.heap.size) (fun k hk h => ⟨h, hk⟩) _ _ hvs)
  clear hvs
  obtain ⟨N, f, s, c, ov, va, cap, rfl, rfl, hVB, hVK⟩ := vshows_open HVS.out
  obtain ⟨vn, vo, rfl, hk, hn, ht, ho⟩ := hsh
  obtain ⟨na, nc, rfl, _⟩ := ht.shape
  obtain ⟨a', c', rfl⟩ : ∃ a' c', vo = .slice a' n c' := by
    rcases ho with ⟨rfl, a', c', rfl⟩ | ⟨g, off, cap, hg, rfl, hle, hc⟩
    · exact ⟨a', c', rfl⟩
    · exact ⟨_, cap, rfl⟩
  have hns : ns.length ≤ 1000 := ht.1
  obtain ⟨hN0, hN1, hf64, hsl, hc5⟩ := hVB
  have HB := Lib.hid (And.intro hN0 (And.intro hN1 (And.intro hf64 (And.intro hsl hc5))))
  have HVK := Lib.hid hVK
  have HSZ := Lib.hid hsz
  have HK0 := Lib.hid hk0
  unfold sv
  obtain ⟨kz, hkz⟩ : ∃ kz : Int, (k : Int) = kz := ⟨_, rfl⟩
  rw [hkz]
  have HKZ := Lib.hid hkz
  have e0 : (kz == 0) = false := by simp; omega
  have e1 : (kz == 1) = false := by simp; omega
  have e2 : (kz == 2) = true := by simp; omega
  obtain ⟨w1, hw1⟩ : ∃ w1, w1 = (w.alloc (.cells #[.int .u8 kz, .int .i64 m, .slice na ns.length nc, .slice a' n c'] 34)).alloc (.cells #[.int .i64 N, .float .f64 f, .string ⟨s.toArray⟩, .slice va c cap] 42) := ⟨_, rfl⟩
  have f1 : Fr (fun _ => False) w w1 := by rw [hw1]; exact ((Fr.refl _ _).alloc _).alloc _
  have q1 : w1.heap[w.heap.size]? = some (.cells #[.int .u8 kz, .int .i64 m, .slice na ns.length nc, .slice a' n c'] 34 (0, 0)) := by rw [hw1]; exact heap_alloc_first _ _ _
  have v1 : w1.heap[w.heap.size + 1]? = some (.cells #[.int .i64 N, .float .f64 f, .string ⟨s.toArray⟩, .slice va c cap] 42 (0, 0)) := by rw [hw1]; exact heap_alloc_two _ _ _
  go_enter Try.func25, Try.ntmps25
  go_upto_region 2 with fail
  rw [← hw1]
  obtain ⟨vb, hvb⟩ : ∃ vb, w.heap.size + 1 = vb := ⟨_, rfl⟩
  rw [hvb] at v1 ⊢
  have HVBX := Lib.hid hvb
  have o1 : w.heap.size ≠ vb := by omega
  have o2 : vb ≠ w.heap.size := by omega
  have c0 := cells_row q1 0 _ rfl
  have c1 := cells_row q1 1 _ rfl
  have c2 := cells_row q1 2 _ rfl
  have c3 := cells_row q1 3 _ rfl
  have d0 := cells_row v1 0 _ rfl
  have d1 := cells_row v1 1 _ rfl
  have d2 := cells_row v1 2 _ rfl
  have d3 := cells_row v1 3 _ rfl
  have z0 : w1.frozen? ⟨vb, 0, none⟩ = false := by simp [World.frozen?, v1]
  have z1 : w1.frozen? ⟨vb, 1, none⟩ = false := by simp [World.frozen?, v1]
  have z2 : w1.frozen? ⟨vb, 2, none⟩ = false := by simp [World.frozen?, v1]
  have z3 : w1.frozen? ⟨vb, 3, none⟩ = false := by simp [World.frozen?, v1]
  have H1 := Lib.hid (And.intro f1 (And.intro q1 v1))
  clear hw1 f1 q1 v1 hvb hkz hk0 hk hn ht ho hVK hsz hN0 hN1 hf64 hsl hc5
  obtain ⟨B, hB⟩ : ∃ B, decide ((-2147483648) ≤ N ∧ N ≤ 2147483647) = B := ⟨_, rfl⟩
  have hw := within_told N (-2147483648) 2147483647 B hB w1
  have HBB := Lib.hid hB
  clear hB
  go_wp2_with fail
  refine hw.mono ?_
  rintro e w1' ⟨rfl, rfl⟩
  clear hw
  go_upto_region 22 with fail
  obtain ⟨w2, hw2⟩ : ∃ w2, w2 = w1.setCell ⟨vb, 0, none⟩ (.int .i64 0) := ⟨_, rfl⟩
  rw [← hw2]
  have f2 : Fr (fun k => k = vb) w1 w2 := by rw [hw2]; exact (Fr.refl _ _).set1 _ _
  have v2 : w2.heap[vb]? = some (.cells #[.int .i64 0, .float .f64 f, .string ⟨s.toArray⟩, .slice va c cap] 42 (0, 0)) := by rw [hw2]; exact setCell_row 0 _ H1.out.2.2
  have hsame := vsame_any (fun k => R k ∧ k < w.heap.size) (.mk 0 f s c ov) zeroV (.agg #[.int .i64 0, .float .f64 f, .string ⟨s.toArray⟩, .slice va c cap]) _ w2 (vshows_mk (n := 0) (f := f) (s := s) (by have := HB.out; unfold VB; omega) (HVK.out.fr (H1.out.1.trans f2 (fun i hi h => by have := HVBX.out; omega)) (fun _ _ h => h))) (zeroV_shows _ _) (by have h := HSZ.out; simp only [szV] at h ⊢; first | exact h | (simp; try omega))
  have HE := Lib.hid (show fitsE (.mk k m ns n of) (.mk N f s c ov) = (B && sameV (.mk 0 f s c ov) zeroV) from by rw [← HBB.out]; have hk := HK0.out; subst hk; rw [fitsE]; simp)
  have d0 := cells_row v2 0 _ rfl
  have d1 := cells_row v2 1 _ rfl
  have d2 := cells_row v2 2 _ rfl
  have d3 := cells_row v2 3 _ rfl
  have F2 : Hid (Fr (fun _ => False) w w2) := Lib.hid (H1.out.1.trans f2 (fun i hi h => by have := HVBX.out; omega))
  clear hw2 f2 v2
  cases hB : B with
  | false =>
    clear hsame
    rw [hB] at HE
    clear hB
    go_wp2
    go_ret
    rw [HE.out]
    exact ⟨rfl, F2.out⟩
  | true =>
    rw [hB] at HE
    clear hB
    go_wp2_with fail
    refine hsame.mono ?_
    rintro e w3 ⟨rfl, f3⟩
    have F3 := Lib.hid f3
    clear f3 hsame
    go_wp2
    go_ret
    rw [HE.out]
    exact ⟨rfl, F2.out.trans F3.out (fun _ _ h => h)⟩

set_option maxRecDepth 100000 in
theorem fit_k7 (k : Nat) (m : Int) (ns : List Txt) (n : Nat) (of : Nat → KT) (hk0 : k = 7) : FitsAt (.mk k m ns n of) := by
  intro R v vv w T hsh hvs hsz
  have HSH := Lib.hid (Shows.mono (S := fun k => R k ∧ k < w.heap.size) (fun k hk h => ⟨h, hk⟩) _ _ hsh)
  have HVS := Lib.hid (VShows.mono (S := fun k => R k ∧ k < w.heap.size) (fun k hk h => ⟨h, hk⟩) _ _ hvs)
  clear hvs
  obtain ⟨N, f, s, c, ov, va, cap, rfl, rfl, hVB, hVK⟩ := vshows_open HVS.out
  obtain ⟨vn, vo, rfl, hk, hn, ht, ho⟩ := hsh
  obtain ⟨na, nc, rfl, _⟩ := ht.shape
  obtain ⟨a', c', rfl⟩ : ∃ a' c', vo = .slice a' n c' := by
    rcases ho with ⟨rfl, a', c', rfl⟩ | ⟨g, off, cap, hg, rfl, hle, hc⟩
    · exact ⟨a', c', rfl⟩
    · exact ⟨_, cap, rfl⟩
  have hns : ns.length ≤ 1000 := ht.1
  obtain ⟨hN0, hN1, hf64, hsl, hc5⟩ := hVB
  have HB := Lib.hid (And.intro hN0 (And.intro hN1 (And.intro hf64 (And.intro hsl hc5))))
  have HVK := Lib.hid hVK
  have HSZ := Lib.hid hsz
  have HK0 := Lib.hid hk0
  unfold sv
  obtain ⟨kz, hkz⟩ : ∃ kz : Int, (k : Int) = kz := ⟨_, rfl⟩
  rw [hkz]
  have HKZ := Lib.hid hkz
  have e0 : (kz == 0) = false := by simp; omega
  have e1 : (kz == 1) = false := by simp; omega
  have e2 : (kz == 2) = false := by simp; omega
  have e3 : (kz == 3) = false := by simp; omega
  have e4 : (kz == 4) = false := by simp; omega
  have e7 : (kz == 7) = true := by simp; omega
  obtain ⟨w1, hw1⟩ : ∃ w1, w1 = (w.alloc (.cells #[.int .u8 kz, .int .i64 m, .slice na ns.length nc, .slice a' n c'] 34)).alloc (.cells #[.int .i64 N, .float .f64 f, .string ⟨s.toArray⟩, .slice va c cap] 42) := ⟨_, rfl⟩
  have f1 : Fr (fun _ => False) w w1 := by rw [hw1]; exact ((Fr.refl _ _).alloc _).alloc _
  have q1 : w1.heap[w.heap.size]? = some (.cells #[.int .u8 kz, .int .i64 m, .slice na ns.length nc, .slice a' n c'] 34 (0, 0)) := by rw [hw1]; exact heap_alloc_first _ _ _
  have v1 : w1.heap[w.heap.size + 1]? = some (.cells #[.int .i64 N, .float .f64 f, .string ⟨s.toArray⟩, .slice va c cap] 42 (0, 0)) := by rw [hw1]; exact heap_alloc_two _ _ _
  go_enter Try.func25, Try.ntmps25
  go_upto_region 2 with fail
  rw [← hw1]
  obtain ⟨vb, hvb⟩ : ∃ vb, w.heap.size + 1 = vb := ⟨_, rfl⟩
  rw [hvb] at v1 ⊢
  have HVBX := Lib.hid hvb
  have o1 : w.heap.size ≠ vb := by omega
  have o2 : vb ≠ w.heap.size := by omega
  have c0 := cells_row q1 0 _ rfl
  have c1 := cells_row q1 1 _ rfl
  have c2 := cells_row q1 2 _ rfl
  have c3 := cells_row q1 3 _ rfl
  have d0 := cells_row v1 0 _ rfl
  have d1 := cells_row v1 1 _ rfl
  have d2 := cells_row v1 2 _ rfl
  have d3 := cells_row v1 3 _ rfl
  have z0 : w1.frozen? ⟨vb, 0, none⟩ = false := by simp [World.frozen?, v1]
  have z1 : w1.frozen? ⟨vb, 1, none⟩ = false := by simp [World.frozen?, v1]
  have z2 : w1.frozen? ⟨vb, 2, none⟩ = false := by simp [World.frozen?, v1]
  have z3 : w1.frozen? ⟨vb, 3, none⟩ = false := by simp [World.frozen?, v1]
  have H1 := Lib.hid (And.intro f1 (And.intro q1 v1))
  clear hw1 f1 q1 v1 hvb hkz hk0 hk hn ht ho hVK hsz hN0 hN1 hf64 hsl hc5
  obtain ⟨B, hB⟩ : ∃ B, decide (0 ≤ N ∧ N ≤ (ns.length : Int) - 1) = B := ⟨_, rfl⟩
  have hw := isIndex_any N ns.length (by omega) w1
  rw [hB] at hw
  have HBB := Lib.hid hB
  clear hB
  go_wp2_with fail
  refine hw.mono ?_
  rintro e w1' ⟨rfl, rfl⟩
  clear hw
  go_upto_region 22 with fail
  obtain ⟨w2, hw2⟩ : ∃ w2, w2 = w1.setCell ⟨vb, 0, none⟩ (.int .i64 0) := ⟨_, rfl⟩
  rw [← hw2]
  have f2 : Fr (fun k => k = vb) w1 w2 := by rw [hw2]; exact (Fr.refl _ _).set1 _ _
  have v2 : w2.heap[vb]? = some (.cells #[.int .i64 0, .float .f64 f, .string ⟨s.toArray⟩, .slice va c cap] 42 (0, 0)) := by rw [hw2]; exact setCell_row 0 _ H1.out.2.2
  have hsame := vsame_any (fun k => R k ∧ k < w.heap.size) (.mk 0 f s c ov) zeroV (.agg #[.int .i64 0, .float .f64 f, .string ⟨s.toArray⟩, .slice va c cap]) _ w2 (vshows_mk (n := 0) (f := f) (s := s) (by have := HB.out; unfold VB; omega) (HVK.out.fr (H1.out.1.trans f2 (fun i hi h => by have := HVBX.out; omega)) (fun _ _ h => h))) (zeroV_shows _ _) (by have h := HSZ.out; simp only [szV] at h ⊢; first | exact h | (simp; try omega))
  have HE := Lib.hid (show fitsE (.mk k m ns n of) (.mk N f s c ov) = (B && sameV (.mk 0 f s c ov) zeroV) from by rw [← HBB.out]; have hk := HK0.out; subst hk; rw [fitsE]; simp)
  have d0 := cells_row v2 0 _ rfl
  have d1 := cells_row v2 1 _ rfl
  have d2 := cells_row v2 2 _ rfl
  have d3 := cells_row v2 3 _ rfl
  have F2 : Hid (Fr (fun _ => False) w w2) := Lib.hid (H1.out.1.trans f2 (fun i hi h => by have := HVBX.out; omega))
  clear hw2 f2 v2
  cases hB : B with
  | false =>
    clear hsame
    rw [hB] at HE
    clear hB
    go_wp2
    go_ret
    rw [HE.out]
    exact ⟨rfl, F2.out⟩
  | true =>
    rw [hB] at HE
    clear hB
    go_wp2_with fail
    refine hsame.mono ?_
    rintro e w3 ⟨rfl, f3⟩
    have F3 := Lib.hid f3
    clear f3 hsame
    go_wp2
    go_ret
    rw [HE.out]
    exact ⟨rfl, F2.out.trans F3.out (fun _ _ h => h)⟩

set_option maxRecDepth 100000 in
theorem fit_k3 (k : Nat) (m : Int) (ns : List Txt) (n : Nat) (of : Nat → KT) (hk0 : k = 3) : FitsAt (.mk k m ns n of) := by
  intro R v vv w T hsh hvs hsz
  have HSH := Lib.hid (Shows.mono (S := fun k => R k ∧ k < w.heap.size) (fun k hk h => ⟨h, hk⟩) _ _ hsh)
  have HVS := Lib.hid (VShows.mono (S := fun k => R k ∧ k < w.heap.size) (fun k hk h => ⟨h, hk⟩) _ _ hvs)
  clear hvs
  obtain ⟨N, f, s, c, ov, va, cap, rfl, rfl, hVB, hVK⟩ := vshows_open HVS.out
  obtain ⟨vn, vo, rfl, hk, hn, ht, ho⟩ := hsh
  obtain ⟨na, nc, rfl, _⟩ := ht.shape
  obtain ⟨a', c', rfl⟩ : ∃ a' c', vo = .slice a' n c' := by
    rcases ho with ⟨rfl, a', c', rfl⟩ | ⟨g, off, cap, hg, rfl, hle, hc⟩
    · exact ⟨a', c', rfl⟩
    · exact ⟨_, cap, rfl⟩
  have hns : ns.length ≤ 1000 := ht.1
  obtain ⟨hN0, hN1, hf64, hsl, hc5⟩ := hVB
  have HB := Lib.hid (And.intro hN0 (And.intro hN1 (And.intro hf64 (And.intro hsl hc5))))
  have HVK := Lib.hid hVK
  have HSZ := Lib.hid hsz
  have HK0 := Lib.hid hk0
  unfold sv
  obtain ⟨kz, hkz⟩ : ∃ kz : Int, (k : Int) = kz := ⟨_, rfl⟩
  rw [hkz]
  have HKZ := Lib.hid hkz
  have e0 : (kz == 0) = false := by simp; omega
  have e1 : (kz == 1) = false := by simp; omega
  have e2 : (kz == 2) = false := by simp; omega
  have e3 : (kz == 3) = true := by simp; omega
  obtain ⟨w1, hw1⟩ : ∃ w1, w1 = (w.alloc (.cells #[.int .u8 kz, .int .i64 m, .slice na ns.length nc, .slice a' n c'] 34)).alloc (.cells #[.int .i64 N, .float .f64 f, .string ⟨s.toArray⟩, .slice va c cap] 42) := ⟨_, rfl⟩
  have f1 : Fr (fun _ => False) w w1 := by rw [hw1]; exact ((Fr.refl _ _).alloc _).alloc _
  have q1 : w1.heap[w.heap.size]? = some (.cells #[.int .u8 kz, .int .i64 m, .slice na ns.length nc, .slice a' n c'] 34 (0, 0)) := by rw [hw1]; exact heap_alloc_first _ _ _
  have v1 : w1.heap[w.heap.size + 1]? = some (.cells #[.int .i64 N, .float .f64 f, .string ⟨s.toArray⟩, .slice va c cap] 42 (0, 0)) := by rw [hw1]; exact heap_alloc_two _ _ _
  go_enter Try.func25, Try.ntmps25
  go_upto_region 2 with fail
  rw [← hw1]
  obtain ⟨vb, hvb⟩ : ∃ vb, w.heap.size + 1 = vb := ⟨_, rfl⟩
  rw [hvb] at v1 ⊢
  have HVBX := Lib.hid hvb
  have o1 : w.heap.size ≠ vb := by omega
  have o2 : vb ≠ w.heap.size := by omega
  have c0 := cells_row q1 0 _ rfl
  have c1 := cells_row q1 1 _ rfl
  have c2 := cells_row q1 2 _ rfl
  have c3 := cells_row q1 3 _ rfl
  have d0 := cells_row v1 0 _ rfl
  have d1 := cells_row v1 1 _ rfl
  have d2 := cells_row v1 2 _ rfl
  have d3 := cells_row v1 3 _ rfl
  have z0 : w1.frozen? ⟨vb, 0, none⟩ = false := by simp [World.frozen?, v1]
  have z1 : w1.frozen? ⟨vb, 1, none⟩ = false := by simp [World.frozen?, v1]
  have z2 : w1.frozen? ⟨vb, 2, none⟩ = false := by simp [World.frozen?, v1]
  have z3 : w1.frozen? ⟨vb, 3, none⟩ = false := by simp [World.frozen?, v1]
  have H1 := Lib.hid (And.intro f1 (And.intro q1 v1))
  clear hw1 f1 q1 v1 hvb hkz hk0 hk hn ht ho hVK hsz hN0 hN1 hf64 hsl hc5
  obtain ⟨B, hB⟩ : ∃ B, true = B := ⟨_, rfl⟩
  have HBB := Lib.hid hB
  subst hB
  go_upto_region 22 with fail
  obtain ⟨w2, hw2⟩ : ∃ w2, w2 = w1.setCell ⟨vb, 1, none⟩ (.float .f64 0) := ⟨_, rfl⟩
  rw [← hw2]
  have f2 : Fr (fun k => k = vb) w1 w2 := by rw [hw2]; exact (Fr.refl _ _).set1 _ _
  have v2 : w2.heap[vb]? = some (.cells #[.int .i64 N, .float .f64 0, .string ⟨s.toArray⟩, .slice va c cap] 42 (0, 0)) := by rw [hw2]; exact setCell_row 1 _ H1.out.2.2
  have hsame := vsame_any (fun k => R k ∧ k < w.heap.size) (.mk N 0 s c ov) zeroV (.agg #[.int .i64 N, .float .f64 0, .string ⟨s.toArray⟩, .slice va c cap]) _ w2 (vshows_mk (n := N) (f := 0) (s := s) (by have := HB.out; unfold VB; omega) (HVK.out.fr (H1.out.1.trans f2 (fun i hi h => by have := HVBX.out; omega)) (fun _ _ h => h))) (zeroV_shows _ _) (by have h := HSZ.out; simp only [szV] at h ⊢; first | exact h | (simp; try omega))
  have HE := Lib.hid (show fitsE (.mk k m ns n of) (.mk N f s c ov) = (true && sameV (.mk N 0 s c ov) zeroV) from by have hk := HK0.out; subst hk; rw [fitsE]; simp)
  have d0 := cells_row v2 0 _ rfl
  have d1 := cells_row v2 1 _ rfl
  have d2 := cells_row v2 2 _ rfl
  have d3 := cells_row v2 3 _ rfl
  have F2 : Hid (Fr (fun _ => False) w w2) := Lib.hid (H1.out.1.trans f2 (fun i hi h => by have := HVBX.out; omega))
  clear hw2 f2 v2
  go_wp2_with fail
  refine hsame.mono ?_
  rintro e w3 ⟨rfl, f3⟩
  have F3 := Lib.hid f3
  clear f3 hsame
  go_wp2
  go_ret
  rw [HE.out]
  exact ⟨rfl, F2.out.trans F3.out (fun _ _ h => h)⟩

set_option maxRecDepth 100000 in
theorem fit_k4 (k : Nat) (m : Int) (ns : List Txt) (n : Nat) (of : Nat → KT) (hk0 : k = 4) : FitsAt (.mk k m ns n of) := by
  intro R v vv w T hsh hvs hsz
  have HSH := Lib.hid (Shows.mono (S := fun k => R k ∧ k < w.heap.size) (fun k hk h => ⟨h, hk⟩) _ _ hsh)
  have HVS := Lib.hid (VShows.mono (S := fun k => R k ∧ k < w.heap.size) (fun k hk h => ⟨h, hk⟩) _ _ hvs)
  clear hvs
  obtain ⟨N, f, s, c, ov, va, cap, rfl, rfl, hVB, hVK⟩ := vshows_open HVS.out
  obtain ⟨vn, vo, rfl, hk, hn, ht, ho⟩ := hsh
  obtain ⟨na, nc, rfl, _⟩ := ht.shape
  obtain ⟨a', c', rfl⟩ : ∃ a' c', vo = .slice a' n c' := by
    rcases ho with ⟨rfl, a', c', rfl⟩ | ⟨g, off, cap, hg, rfl, hle, hc⟩
    · exact ⟨a', c', rfl⟩
    · exact ⟨_, cap, rfl⟩
  have hns : ns.length ≤ 1000 := ht.1
  obtain ⟨hN0, hN1, hf64, hsl, hc5⟩ := hVB
  have HB := Lib.hid (And.intro hN0 (And.intro hN1 (And.intro hf64 (And.intro hsl hc5))))
  have HVK := Lib.hid hVK
  have HSZ := Lib.hid hsz
  have HK0 := Lib.hid hk0
  unfold sv
  obtain ⟨kz, hkz⟩ : ∃ kz : Int, (k : Int) = kz := ⟨_, rfl⟩
  rw [hkz]
  have HKZ := Lib.hid hkz
  have e0 : (kz == 0) = false := by simp; omega
  have e1 : (kz == 1) = false := by simp; omega
  have e2 : (kz == 2) = false := by simp; omega
  have e3 : (kz == 3) = false := by simp; omega
  have e4 : (kz == 4) = true := by simp; omega
  obtain ⟨w1, hw1⟩ : ∃ w1, w1 = (w.alloc (.cells #[.int .u8 kz, .int .i64 m, .slice na ns.length nc, .slice a' n c'] 34)).alloc (.cells #[.int .i64 N, .float .f64 f, .string ⟨s.toArray⟩, .slice va c cap] 42) := ⟨_, rfl⟩
  have f1 : Fr (fun _ => False) w w1 := by rw [hw1]; exact ((Fr.refl _ _).alloc _).alloc _
  have q1 : w1.heap[w.heap.size]? = some (.cells #[.int .u8 kz, .int .i64 m, .slice na ns.length nc, .slice a' n c'] 34 (0, 0)) := by rw [hw1]; exact heap_alloc_first _ _ _
  have v1 : w1.heap[w.heap.size + 1]? = some (.cells #[.int .i64 N, .float .f64 f, .string ⟨s.toArray⟩, .slice va c cap] 42 (0, 0)) := by rw [hw1]; exact heap_alloc_two _ _ _
  go_enter Try.func25, Try.ntmps25
  go_upto_region 2 with fail
  rw [← hw1]
  obtain ⟨vb, hvb⟩ : ∃ vb, w.heap.size + 1 = vb := ⟨_, rfl⟩
  rw [hvb] at v1 ⊢
  have HVBX := Lib.hid hvb
  have o1 : w.heap.size ≠ vb := by omega
  have o2 : vb ≠ w.heap.size := by omega
  have c0 := cells_row q1 0 _ rfl
  have c1 := cells_row q1 1 _ rfl
  have c2 := cells_row q1 2 _ rfl
  have c3 := cells_row q1 3 _ rfl
  have d0 := cells_row v1 0 _ rfl
  have d1 := cells_row v1 1 _ rfl
  have d2 := cells_row v1 2 _ rfl
  have d3 := cells_row v1 3 _ rfl
  have z0 : w1.frozen? ⟨vb, 0, none⟩ = false := by simp [World.frozen?, v1]
  have z1 : w1.frozen? ⟨vb, 1, none⟩ = false := by simp [World.frozen?, v1]
  have z2 : w1.frozen? ⟨vb, 2, none⟩ = false := by simp [World.frozen?, v1]
  have z3 : w1.frozen? ⟨vb, 3, none⟩ = false := by simp [World.frozen?, v1]
  have H1 := Lib.hid (And.intro f1 (And.intro q1 v1))
  clear hw1 f1 q1 v1 hvb hkz hk0 hk hn ht ho hVK hsz hN0 hN1 hf64 hsl hc5
  have hs0 : ((⟨s.toArray⟩ : ByteArray).size : Int) = (s.length : Int) := by simp [ByteArray.size]
  by_cases hB : (s.length : Int) ≤ m
  · have HDB : Hid (decide ((s.length : Int) ≤ m) = true) := Lib.hid (by simpa using hB)
    go_upto_region 22 with fail
    obtain ⟨w2, hw2⟩ : ∃ w2, w2 = w1.setCell ⟨vb, 2, none⟩ (.string ⟨#[]⟩) := ⟨_, rfl⟩
    rw [← hw2]
    have f2 : Fr (fun k => k = vb) w1 w2 := by rw [hw2]; exact (Fr.refl _ _).set1 _ _
    have v2 : w2.heap[vb]? = some (.cells #[.int .i64 N, .float .f64 f, .string ⟨#[]⟩, .slice va c cap] 42 (0, 0)) := by rw [hw2]; exact setCell_row 2 _ H1.out.2.2
    have hsame := vsame_any (fun k => R k ∧ k < w.heap.size) (.mk N f [] c ov) zeroV (.agg #[.int .i64 N, .float .f64 f, .string ⟨#[]⟩, .slice va c cap]) _ w2 (vshows_mk (n := N) (f := f) (s := []) (by have := HB.out; unfold VB maxLen; simp; omega) (HVK.out.fr (H1.out.1.trans f2 (fun i hi h => by have := HVBX.out; omega)) (fun _ _ h => h))) (zeroV_shows _ _) (by have h := HSZ.out; simp only [szV] at h ⊢; first | exact h | (simp; try omega))
    have HE := Lib.hid (show fitsE (.mk k m ns n of) (.mk N f s c ov) = (true && sameV (.mk N f [] c ov) zeroV) from by rw [← HDB.out]; have hk := HK0.out; subst hk; rw [fitsE]; simp)
    have d0 := cells_row v2 0 _ rfl
    have d1 := cells_row v2 1 _ rfl
    have d2 := cells_row v2 2 _ rfl
    have d3 := cells_row v2 3 _ rfl
    have F2 : Hid (Fr (fun _ => False) w w2) := Lib.hid (H1.out.1.trans f2 (fun i hi h => by have := HVBX.out; omega))
    clear hw2 f2 v2
    go_wp2_with fail
    refine hsame.mono ?_
    rintro e w3 ⟨rfl, f3⟩
    have F3 := Lib.hid f3
    clear f3 hsame
    go_wp2
    go_ret
    rw [HE.out]
    exact ⟨rfl, F2.out.trans F3.out (fun _ _ h => h)⟩
  · have HDB : Hid (decide ((s.length : Int) ≤ m) = false) := Lib.hid (by simpa using hB)
    go_upto_region 22 with fail
    obtain ⟨w2, hw2⟩ : ∃ w2, w2 = w1.setCell ⟨vb, 2, none⟩ (.string ⟨#[]⟩) := ⟨_, rfl⟩
    rw [← hw2]
    have f2 : Fr (fun k => k = vb) w1 w2 := by rw [hw2]; exact (Fr.refl _ _).set1 _ _
    have v2 : w2.heap[vb]? = some (.cells #[.int .i64 N, .float .f64 f, .string ⟨#[]⟩, .slice va c cap] 42 (0, 0)) := by rw [hw2]; exact setCell_row 2 _ H1.out.2.2
    have hsame := vsame_any (fun k => R k ∧ k < w.heap.size) (.mk N f [] c ov) zeroV (.agg #[.int .i64 N, .float .f64 f, .string ⟨#[]⟩, .slice va c cap]) _ w2 (vshows_mk (n := N) (f := f) (s := []) (by have := HB.out; unfold VB maxLen; simp; omega) (HVK.out.fr (H1.out.1.trans f2 (fun i hi h => by have := HVBX.out; omega)) (fun _ _ h => h))) (zeroV_shows _ _) (by have h := HSZ.out; simp only [szV] at h ⊢; first | exact h | (simp; try omega))
    have HE := Lib.hid (show fitsE (.mk k m ns n of) (.mk N f s c ov) = (false && sameV (.mk N f [] c ov) zeroV) from by rw [← HDB.out]; have hk := HK0.out; subst hk; rw [fitsE]; simp)
    have d0 := cells_row v2 0 _ rfl
    have d1 := cells_row v2 1 _ rfl
    have d2 := cells_row v2 2 _ rfl
    have d3 := cells_row v2 3 _ rfl
    have F2 : Hid (Fr (fun _ => False) w w2) := Lib.hid (H1.out.1.trans f2 (fun i hi h => by have := HVBX.out; omega))
    clear hw2 f2 v2
    clear hsame
    go_wp2
    go_ret
    rw [HE.out]
    exact ⟨rfl, F2.out⟩
end
section
attribute [local go_sem] run_store_float

set_option maxRecDepth 100000 in
theorem each_one (of : Nat → KT) (ih : ∀ i, FitsAt (of i)) (ov : Nat → VT) (R : Nat → Prop) (a' : Option Addr) (n : Nat) (c' : Nat) (va : Option Addr) (c cap : Nat) (w : World) (hks : Kids R w of a' n c') (hvs : VKids R w ov va c cap) (hsz : ∀ i, i < c → szV (ov i) ≤ 100000) (hc5 : c ≤ 100000) (hnc : n = 1) :
    Calls Try.prog 54 #[.slice a' n c', .slice va c cap] w fun e w' => e = .returned (.bool ((List.range c).all (fun i => fitsE (of 0) (ov i)))) ∧ Fr (fun _ => False) w w' := by
  have HKS := Lib.hid hks
  have HVS := Lib.hid hvs
  have HSZ := Lib.hid hsz
  have HNC := Lib.hid hnc
  clear hks hvs hsz
  have hn1 : ((n : Int) == 1) = true := by simp; omega
  have hn2 : ((n : Int) != 1) = false := by unfold bne; rw [hn1]; rfl
  clear hnc
  go_enter Try.func54, Try.ntmps54
  go_wp2
  go_loopg [6, 12] c (fun G u6 u12 wr => ∃ j : Nat, j ≤ c ∧ G = c - j ∧ u12 = .int .i64 j ∧ Hid (Fr (fun _ => False) w wr ∧ ∀ i, i < j → fitsE (of 0) (ov i) = true))
  case atStart => exact ⟨0, Nat.zero_le _, rfl, by go_num, Lib.hid ⟨Fr.refl _ _, fun i hi => by omega⟩⟩
  case round =>
    obtain ⟨j, hj, rfl, rfl, HI⟩ := hrel
    by_cases hlt : j < c
    · rcases HKS.out with hz | ⟨hcap, g, off, hg, rfl, hcell⟩
      · have := HNC.out; omega
      rcases HVS.out with hz | ⟨hvcap, gv, ov', hgv, rfl, hvcell⟩
      · omega
      obtain ⟨x0, x1, x2, x3, y0, y1, y2, y3, hx⟩ := hcell 0 (by have := HNC.out; omega)
      obtain ⟨s0, s1, s2, s3, r0, r1, r2, r3, hs⟩ := hvcell j hlt
      obtain ⟨xk, xm, xa, xn, xc, xa', xn', xc', rfl, rfl, rfl, rfl⟩ := hx.cells
      obtain ⟨zn, zf, zs, za, zc, zcap, es⟩ := hs.lit
      simp only [Value.agg.injEq, Array.mk.injEq, List.cons.injEq, and_true] at es
      obtain ⟨rfl, rfl, rfl, rfl⟩ := es
      simp only [Nat.zero_mul, Nat.add_zero] at y0 y1 y2 y3
      have r0 := cell_fr HI.out.1 (fun _ _ h => h) hgv r0
      have r1 := cell_fr HI.out.1 (fun _ _ h => h) hgv r1
      have r2 := cell_fr HI.out.1 (fun _ _ h => h) hgv r2
      have r3 := cell_fr HI.out.1 (fun _ _ h => h) hgv r3
      obtain ⟨wp, hwp⟩ : ∃ wp, wp = wr.alloc (.cells #[.int .i64 zn, .float .f64 zf, .string zs, .slice za zc zcap] 42) := ⟨_, rfl⟩
      have fp : Fr (fun _ => False) wr wp := by rw [hwp]; exact (Fr.refl _ _).alloc _
      have qp : wp.heap[wr.heap.size]? = some (.cells #[.int .i64 zn, .float .f64 zf, .string zs, .slice za zc zcap] 42 (0, 0)) := by rw [hwp]; exact heap_alloc_new _ _
      have HY := Lib.hid (And.intro hg (And.intro y0 (And.intro y1 (And.intro y2 y3))))
      have HX := Lib.hid (And.intro hx hs)
      have HP := Lib.hid (And.intro (HI.out.1.trans fp (fun _ _ h => h)) qp)
      have HLT := Lib.hid hlt
      have jc : (j : Int) < (c : Int) := by omega
      skip
      have HN1 := Lib.hid (show 0 < n from by have := HNC.out; omega)
      clear hcell hvcell hx hs y0 y1 y2 y3 fp qp
      go_upto_region 6 with fail
      rw [← hwp]
      obtain ⟨pb, hpb⟩ : ∃ pb, wr.heap.size = pb := ⟨_, rfl⟩
      rw [hpb]
      rw [hpb] at HP
      clear hwp hpb r0 r1 r2 r3
      obtain ⟨BB, hBB⟩ : ∃ BB, fitsE (of 0) (ov j) = BB := ⟨_, rfl⟩
      have HBB := Lib.hid hBB
      clear hBB
      have n0 : 0 < n := HN1.out
      refine wp_region_chain (by kernel_rfl) [some 16, some 17, some 18, some 19, some 20, some 21] rfl (by decide) (by intro d hd; simp at hd ⊢; omega)
        [4] (fun _ wx => Fr (fun _ => False) wp wx)
        [.free (.slice (some ⟨g, off, none⟩) n c'), .free (.pointer (some ⟨g, off, none⟩)), .free (.agg #[.int .u8 xk, .int .i64 xm, .slice xa xn xc, .slice xa' xn' xc']), .free (.agg #[.int .i64 zn, .float .f64 zf, .string zs, .slice za zc zcap]), .link (some (.bool BB)), .free (.bool (!BB))]
        (by kernel_rfl) (by kernel_rfl) ?h0 ?step ?fin
      case h0 => exact (Fr.refl _ _).drew
      case step =>
        intro vals2
        simp only [frOfU, fillU, List.setIfInBounds_toArray, List.set_cons_succ, List.set_cons_zero]
        repeat' (first | exact AllOps.nil | refine AllOps.cons ?_ ?_)
        all_goals
          intro cvs wx hS he hu hlim K hK
          simp only [Act.put, List.setIfInBounds_toArray, List.set_cons_succ, List.set_cons_zero, List.getD_cons_zero, List.getD_cons_succ] at hK
          simp only [List.mem_cons, List.not_mem_nil, or_false, forall_eq_or_imp, forall_eq, Region.binds, forall_const, vmode_gc, Bool.false_eq_true, false_imp_iff, List.getD_cons_zero, List.getD_cons_succ, OpSort.val, Option.some.injEq, forall_eq', reduceCtorEq, implies_true, true_and, and_true] at he
          have HSX := Lib.hid hS
          clear hS
        all_goals first | (clear hlim hu; (try simp only [he] at hK ⊢); go_simp; exact hK) | skip
        · have e0 := cell_fr HSX.out (fun _ _ h => h) HY.out.1 (cell_fr HP.out.1 (fun _ _ h => h) HY.out.1 HY.out.2.1)
          have e1 := cell_fr HSX.out (fun _ _ h => h) HY.out.1 (cell_fr HP.out.1 (fun _ _ h => h) HY.out.1 HY.out.2.2.1)
          have e2 := cell_fr HSX.out (fun _ _ h => h) HY.out.1 (cell_fr HP.out.1 (fun _ _ h => h) HY.out.1 HY.out.2.2.2.1)
          have e3 := cell_fr HSX.out (fun _ _ h => h) HY.out.1 (cell_fr HP.out.1 (fun _ _ h => h) HY.out.1 HY.out.2.2.2.2)
          clear hlim hu
          simp only [he] at hK ⊢
          go_simp
          exact hK
        · obtain ⟨e0, e1, e2, e3⟩ := cell_of_four (box_kept HP.out.2 HSX.out (fun h => h))
          clear hlim hu
          simp only [he] at hK ⊢
          go_simp
          exact hK
        · simp only [he] at hK ⊢
          go_simp
          go_at_call 25
          refine (ih 0 R _ _ wx (ov j) (Shows.fr HSX.out (fun _ _ h => h) _ _ (Shows.fr HP.out.1 (fun _ _ h => h) _ _ HX.out.1)) (VShows.fr HSX.out (fun _ _ h => h) _ _ (VShows.fr HP.out.1 (fun _ _ h => h) _ _ HX.out.2)) (HSZ.out j HLT.out)).mono ?_
          rintro e1 wa ⟨rfl, fa⟩
          exact hK _ _ (fun _ h => by cases h; rw [HBB.out]) (HSX.out.trans fa (fun _ _ h => h))
      case fin =>
        intro vals2 w7 hS hV
        have v5 := hV 5 _ (by decide) rfl
        clear hV
        have H7 := Lib.hid (HP.out.1.trans hS (fun _ _ h => h))
        clear hS
        simp only [frOfU, fillU, List.setIfInBounds_toArray, List.set_cons_succ, List.set_cons_zero]
        simp only [Nat.reduceAdd, v5]
        clear v5
        cases BB with
        | true =>
          go_wp2
          go_roundg (c - (j + 1))
          case measure => have := HLT.out; omega
          case rel => exact ⟨j + 1, HLT.out, rfl, by go_num, Lib.hid ⟨H7.out, fun i hi => by
            by_cases h : i < j
            · exact HI.out.2 i h
            · obtain rfl : i = j := by omega
              exact HBB.out⟩⟩
        | false =>
          have EF : Hid ((List.range c).all (fun i => fitsE (of 0) (ov i)) = false) := Lib.hid (by
            rw [List.all_eq_false]
            exact ⟨j, List.mem_range.2 HLT.out, by simp [HBB.out]⟩)
          go_wp2
          go_ret
          rw [EF.out]
          exact ⟨rfl, H7.out⟩
    · obtain rfl : j = c := by omega
      have ET : Hid ((List.range j).all (fun i => fitsE (of 0) (ov i)) = true) := Lib.hid (by
        rw [List.all_eq_true]
        exact fun i hi => HI.out.2 i (List.mem_range.1 hi))
      go_wp2
      go_ret
      rw [ET.out]
      exact ⟨rfl, HI.out.1⟩


set_option maxRecDepth 100000 in
theorem each_any (of : Nat → KT) (ih : ∀ i, FitsAt (of i)) (ov : Nat → VT) (R : Nat → Prop) (a' : Option Addr) (n : Nat) (c' : Nat) (va : Option Addr) (c cap : Nat) (w : World) (hks : Kids R w of a' n c') (hvs : VKids R w ov va c cap) (hsz : ∀ i, i < c → szV (ov i) ≤ 100000) (hc5 : c ≤ 100000) :
    Calls Try.prog 54 #[.slice a' n c', .slice va c cap] w fun e w' => e = .returned (.bool (decide (n = 1) && (List.range c).all (fun i => fitsE (of 0) (ov i)))) ∧ Fr (fun _ => False) w w' := by
  by_cases hn : n = 1
  · rw [decide_eq_true hn, Bool.true_and]
    exact each_one of ih ov R a' n c' va c cap w hks hvs hsz hc5 hn
  · rw [decide_eq_false hn, Bool.false_and]
    have hn1 : ((n : Int) == 1) = false := by simp; omega
    have hn2 : ((n : Int) != 1) = true := by unfold bne; rw [hn1]; rfl
    clear hn hks hvs
    go_enter Try.func54, Try.ntmps54
    go_wp2
    go_ret
    exact ⟨rfl, Fr.refl _ _⟩

set_option maxRecDepth 100000 in
theorem all_any (of : Nat → KT) (ih : ∀ i, FitsAt (of i)) (ov : Nat → VT) (R : Nat → Prop) (a' : Option Addr) (n : Nat) (c' : Nat) (va : Option Addr) (c cap : Nat) (w : World) (hks : Kids R w of a' n c') (hvs : VKids R w ov va c cap) (hsz : ∀ i, i < c → szV (ov i) ≤ 100000) (hc5 : c ≤ 100000) (hnc : c = n) :
    Calls Try.prog 55 #[.slice a' n c', .slice va c cap] w fun e w' => e = .returned (.bool ((List.range c).all (fun i => fitsE (of i) (ov i)))) ∧ Fr (fun _ => False) w w' := by
  have HKS := Lib.hid hks
  have HVS := Lib.hid hvs
  have HSZ := Lib.hid hsz
  have HNC := Lib.hid hnc
  clear hks hvs hsz
  clear hnc
  go_enter Try.func55, Try.ntmps55
  go_wp2
  go_loopg [5, 6, 9] c (fun G u5 u6 u9 wr => ∃ j : Nat, j ≤ c ∧ G = c - j ∧ u9 = .int .i64 j ∧ Hid (Fr (fun _ => False) w wr ∧ ∀ i, i < j → fitsE (of i) (ov i) = true))
  case atStart => exact ⟨0, Nat.zero_le _, rfl, by go_num, Lib.hid ⟨Fr.refl _ _, fun i hi => by omega⟩⟩
  case round =>
    obtain ⟨j, hj, rfl, rfl, HI⟩ := hrel
    by_cases hlt : j < c
    · rcases HKS.out with hz | ⟨hcap, g, off, hg, rfl, hcell⟩
      · have := HNC.out; omega
      rcases HVS.out with hz | ⟨hvcap, gv, ov', hgv, rfl, hvcell⟩
      · omega
      obtain ⟨x0, x1, x2, x3, y0, y1, y2, y3, hx⟩ := hcell j (by have := HNC.out; omega)
      obtain ⟨s0, s1, s2, s3, r0, r1, r2, r3, hs⟩ := hvcell j hlt
      obtain ⟨xk, xm, xa, xn, xc, xa', xn', xc', rfl, rfl, rfl, rfl⟩ := hx.cells
      obtain ⟨zn, zf, zs, za, zc, zcap, es⟩ := hs.lit
      simp only [Value.agg.injEq, Array.mk.injEq, List.cons.injEq, and_true] at es
      obtain ⟨rfl, rfl, rfl, rfl⟩ := es
      skip
      have r0 := cell_fr HI.out.1 (fun _ _ h => h) hgv r0
      have r1 := cell_fr HI.out.1 (fun _ _ h => h) hgv r1
      have r2 := cell_fr HI.out.1 (fun _ _ h => h) hgv r2
      have r3 := cell_fr HI.out.1 (fun _ _ h => h) hgv r3
      obtain ⟨wp, hwp⟩ : ∃ wp, wp = wr.alloc (.cells #[.int .i64 zn, .float .f64 zf, .string zs, .slice za zc zcap] 42) := ⟨_, rfl⟩
      have fp : Fr (fun _ => False) wr wp := by rw [hwp]; exact (Fr.refl _ _).alloc _
      have qp : wp.heap[wr.heap.size]? = some (.cells #[.int .i64 zn, .float .f64 zf, .string zs, .slice za zc zcap] 42 (0, 0)) := by rw [hwp]; exact heap_alloc_new _ _
      have HY := Lib.hid (And.intro hg (And.intro y0 (And.intro y1 (And.intro y2 y3))))
      have HX := Lib.hid (And.intro hx hs)
      have HP := Lib.hid (And.intro (HI.out.1.trans fp (fun _ _ h => h)) qp)
      have HLT := Lib.hid hlt
      have jc : (j : Int) < (c : Int) := by omega
      have jn : (j : Int) < (n : Int) := by have := HNC.out; omega
      have HN1 := Lib.hid (show 0 < n from by have := HNC.out; omega)
      clear hcell hvcell hx hs y0 y1 y2 y3 fp qp
      go_upto_region 4 with fail
      rw [← hwp]
      obtain ⟨pb, hpb⟩ : ∃ pb, wr.heap.size = pb := ⟨_, rfl⟩
      rw [hpb]
      rw [hpb] at HP
      clear hwp hpb r0 r1 r2 r3
      obtain ⟨BB, hBB⟩ : ∃ BB, fitsE (of j) (ov j) = BB := ⟨_, rfl⟩
      have HBB := Lib.hid hBB
      clear hBB
      skip
      refine wp_region_chain (by kernel_rfl) [some 14, some 15, some 16, some 17, some 18, some 19, some 20] rfl (by decide) (by intro d hd; simp at hd ⊢; omega)
        [5] (fun _ wx => Fr (fun _ => False) wp wx)
        [.free (.slice (some ⟨g, off, none⟩) n c'), .free (.int .i64 j), .free (.pointer (some ⟨g, off + j * 4, none⟩)), .free (.agg #[.int .u8 xk, .int .i64 xm, .slice xa xn xc, .slice xa' xn' xc']), .free (.agg #[.int .i64 zn, .float .f64 zf, .string zs, .slice za zc zcap]), .link (some (.bool BB)), .free (.bool (!BB))]
        (by kernel_rfl) (by kernel_rfl) ?h0 ?step ?fin
      case h0 => exact (Fr.refl _ _).drew
      case step =>
        intro vals2
        simp only [frOfU, fillU, List.setIfInBounds_toArray, List.set_cons_succ, List.set_cons_zero]
        repeat' (first | exact AllOps.nil | refine AllOps.cons ?_ ?_)
        all_goals
          intro cvs wx hS he hu hlim K hK
          simp only [Act.put, List.setIfInBounds_toArray, List.set_cons_succ, List.set_cons_zero, List.getD_cons_zero, List.getD_cons_succ] at hK
          simp only [List.mem_cons, List.not_mem_nil, or_false, forall_eq_or_imp, forall_eq, Region.binds, forall_const, vmode_gc, Bool.false_eq_true, false_imp_iff, List.getD_cons_zero, List.getD_cons_succ, OpSort.val, Option.some.injEq, forall_eq', reduceCtorEq, implies_true, true_and, and_true] at he
          have HSX := Lib.hid hS
          clear hS
        all_goals first | (clear hlim hu; (try simp only [he] at hK ⊢); go_simp; exact hK) | skip
        · have e0 := cell_fr HSX.out (fun _ _ h => h) HY.out.1 (cell_fr HP.out.1 (fun _ _ h => h) HY.out.1 HY.out.2.1)
          have e1 := cell_fr HSX.out (fun _ _ h => h) HY.out.1 (cell_fr HP.out.1 (fun _ _ h => h) HY.out.1 HY.out.2.2.1)
          have e2 := cell_fr HSX.out (fun _ _ h => h) HY.out.1 (cell_fr HP.out.1 (fun _ _ h => h) HY.out.1 HY.out.2.2.2.1)
          have e3 := cell_fr HSX.out (fun _ _ h => h) HY.out.1 (cell_fr HP.out.1 (fun _ _ h => h) HY.out.1 HY.out.2.2.2.2)
          clear hlim hu
          simp only [he] at hK ⊢
          go_simp
          exact hK
        · obtain ⟨e0, e1, e2, e3⟩ := cell_of_four (box_kept HP.out.2 HSX.out (fun h => h))
          clear hlim hu
          simp only [he] at hK ⊢
          go_simp
          exact hK
        · simp only [he] at hK ⊢
          go_simp
          go_at_call 25
          refine (ih j R _ _ wx (ov j) (Shows.fr HSX.out (fun _ _ h => h) _ _ (Shows.fr HP.out.1 (fun _ _ h => h) _ _ HX.out.1)) (VShows.fr HSX.out (fun _ _ h => h) _ _ (VShows.fr HP.out.1 (fun _ _ h => h) _ _ HX.out.2)) (HSZ.out j HLT.out)).mono ?_
          rintro e1 wa ⟨rfl, fa⟩
          exact hK _ _ (fun _ h => by cases h; rw [HBB.out]) (HSX.out.trans fa (fun _ _ h => h))
      case fin =>
        intro vals2 w7 hS hV
        have v5 := hV 6 _ (by decide) rfl
        clear hV
        have H7 := Lib.hid (HP.out.1.trans hS (fun _ _ h => h))
        clear hS
        simp only [frOfU, fillU, List.setIfInBounds_toArray, List.set_cons_succ, List.set_cons_zero]
        simp only [Nat.reduceAdd, v5]
        clear v5
        cases BB with
        | true =>
          go_wp2
          go_roundg (c - (j + 1))
          case measure => have := HLT.out; omega
          case rel => exact ⟨j + 1, HLT.out, rfl, by go_num, Lib.hid ⟨H7.out, fun i hi => by
            by_cases h : i < j
            · exact HI.out.2 i h
            · obtain rfl : i = j := by omega
              exact HBB.out⟩⟩
        | false =>
          have EF : Hid ((List.range c).all (fun i => fitsE (of i) (ov i)) = false) := Lib.hid (by
            rw [List.all_eq_false]
            exact ⟨j, List.mem_range.2 HLT.out, by simp [HBB.out]⟩)
          go_wp2
          go_ret
          rw [EF.out]
          exact ⟨rfl, H7.out⟩
    · obtain rfl : j = c := by omega
      have ET : Hid ((List.range j).all (fun i => fitsE (of i) (ov i)) = true) := Lib.hid (by
        rw [List.all_eq_true]
        exact fun i hi => HI.out.2 i (List.mem_range.1 hi))
      go_wp2
      go_ret
      rw [ET.out]
      exact ⟨rfl, HI.out.1⟩


set_option maxRecDepth 100000 in
theorem fit_k5 (k : Nat) (m : Int) (ns : List Txt) (n : Nat) (of : Nat → KT) (ih : ∀ i, FitsAt (of i)) (hk0 : k = 5) : FitsAt (.mk k m ns n of) := by
  intro R v vv w T hsh hvs hsz
  have HSH := Lib.hid (Shows.mono (S := fun k => R k ∧ k < w.heap.size) (fun k hk h => ⟨h, hk⟩) _ _ hsh)
  have HVS := Lib.hid (VShows.mono (S := fun k => R k ∧ k < w.heap.size) (fun k hk h => ⟨h, hk⟩) _ _ hvs)
  clear hvs
  obtain ⟨N, f, s, c, ov, va, cap, rfl, rfl, hVB, hVK⟩ := vshows_open HVS.out
  obtain ⟨vn, vo, rfl, hk, hn, ht, ho⟩ := hsh
  obtain ⟨na, nc, rfl, _⟩ := ht.shape
  obtain ⟨a', c', rfl⟩ : ∃ a' c', vo = .slice a' n c' := by
    rcases ho with ⟨rfl, a', c', rfl⟩ | ⟨g, off, cap, hg, rfl, hle, hc⟩
    · exact ⟨a', c', rfl⟩
    · exact ⟨_, cap, rfl⟩
  have hns : ns.length ≤ 1000 := ht.1
  obtain ⟨hN0, hN1, hf64, hsl, hc5⟩ := hVB
  have HB := Lib.hid (And.intro hN0 (And.intro hN1 (And.intro hf64 (And.intro hsl hc5))))
  have HVK := Lib.hid hVK
  have HSZ := Lib.hid hsz
  have HK0 := Lib.hid hk0
  unfold sv
  obtain ⟨kz, hkz⟩ : ∃ kz : Int, (k : Int) = kz := ⟨_, rfl⟩
  rw [hkz]
  have HKZ := Lib.hid hkz
  have e0 : (kz == 0) = false := by simp; omega
  have e1 : (kz == 1) = false := by simp; omega
  have e2 : (kz == 2) = false := by simp; omega
  have e3 : (kz == 3) = false := by simp; omega
  have e4 : (kz == 4) = false := by simp; omega
  have e7 : (kz == 7) = false := by simp; omega
  have e5 : (kz == 5) = true := by simp; omega
  obtain ⟨w1, hw1⟩ : ∃ w1, w1 = (w.alloc (.cells #[.int .u8 kz, .int .i64 m, .slice na ns.length nc, .slice a' n c'] 34)).alloc (.cells #[.int .i64 N, .float .f64 f, .string ⟨s.toArray⟩, .slice va c cap] 42) := ⟨_, rfl⟩
  have f1 : Fr (fun _ => False) w w1 := by rw [hw1]; exact ((Fr.refl _ _).alloc _).alloc _
  have q1 : w1.heap[w.heap.size]? = some (.cells #[.int .u8 kz, .int .i64 m, .slice na ns.length nc, .slice a' n c'] 34 (0, 0)) := by rw [hw1]; exact heap_alloc_first _ _ _
  have v1 : w1.heap[w.heap.size + 1]? = some (.cells #[.int .i64 N, .float .f64 f, .string ⟨s.toArray⟩, .slice va c cap] 42 (0, 0)) := by rw [hw1]; exact heap_alloc_two _ _ _
  go_enter Try.func25, Try.ntmps25
  go_upto_region 2 with fail
  rw [← hw1]
  obtain ⟨vb, hvb⟩ : ∃ vb, w.heap.size + 1 = vb := ⟨_, rfl⟩
  rw [hvb] at v1 ⊢
  have HVBX := Lib.hid hvb
  have o1 : w.heap.size ≠ vb := by omega
  have o2 : vb ≠ w.heap.size := by omega
  have c0 := cells_row q1 0 _ rfl
  have c1 := cells_row q1 1 _ rfl
  have c2 := cells_row q1 2 _ rfl
  have c3 := cells_row q1 3 _ rfl
  have d0 := cells_row v1 0 _ rfl
  have d1 := cells_row v1 1 _ rfl
  have d2 := cells_row v1 2 _ rfl
  have d3 := cells_row v1 3 _ rfl
  have z0 : w1.frozen? ⟨vb, 0, none⟩ = false := by simp [World.frozen?, v1]
  have z1 : w1.frozen? ⟨vb, 1, none⟩ = false := by simp [World.frozen?, v1]
  have z2 : w1.frozen? ⟨vb, 2, none⟩ = false := by simp [World.frozen?, v1]
  have z3 : w1.frozen? ⟨vb, 3, none⟩ = false := by simp [World.frozen?, v1]
  have H1 := Lib.hid (And.intro f1 (And.intro q1 v1))
  clear hw1 f1 q1 v1 hvb hkz hk0 hk hn ht ho hVK hsz hN0 hN1 hf64 hsl hc5
  have hks : Kids (fun k => R k ∧ k < w.heap.size) w of a' n c' := by
    have h := HSH.out
    rw [HKZ.out] at h
    obtain ⟨k2, m2, ns2, of2, a2, c2, a3, n3, c3, e1, e2, e3, e4, e5, _, _, hk⟩ := shows_open h
    cases e1
    cases e5
    exact hk
  have HKK := Lib.hid (hks.fr H1.out.1 (fun _ _ h => h))
  have HVV := Lib.hid (HVK.out.fr H1.out.1 (fun _ _ h => h))
  have hss : ∀ i, i < c → szV (ov i) ≤ 100000 := fun i hi => by
    have h := HSZ.out
    rw [szV] at h
    have h2 := sumTo_le (fun i => szV (ov i)) i c hi
    unfold sumTo at h2
    omega
  have hcc : c ≤ 100000 := HB.out.2.2.2.2
  clear hks
  by_cases hB : (c : Int) ≤ m
  · have HDB : Hid (decide ((c : Int) ≤ m) = true) := Lib.hid (by simpa using hB)
    have hcall := each_any of ih ov (fun k => R k ∧ k < w.heap.size) a' n c' va c cap w1 HKK.out HVV.out hss hcc
    have HEQ : Hid (fitsE (.mk k m ns n of) (.mk N f s c ov) = ((decide (n = 1) && (List.range c).all (fun i => fitsE (of 0) (ov i))) && sameV (.mk N f s 0 ov) zeroV)) := Lib.hid (by
      have hk := HK0.out; subst hk; rw [fitsE]; rw [HDB.out]; simp)
    obtain ⟨BB, hBB⟩ : ∃ BB, (decide (n = 1) && (List.range c).all (fun i => fitsE (of 0) (ov i))) = BB := ⟨_, rfl⟩
    rw [hBB] at hcall HEQ
    clear hBB
    go_wp2_with fail
    refine hcall.mono ?_
    rintro e w3 ⟨rfl, f3⟩
    clear hcall
    have F3 := Lib.hid f3
    have v3 := box_kept H1.out.2.2 f3 (fun h => h)
    have z3 : w3.frozen? ⟨vb, 3, none⟩ = false := by simp [World.frozen?, v3]
    have d3 := cells_row v3 3 _ rfl
    clear f3
    go_upto_region 22 with fail
    obtain ⟨w2, hw2⟩ : ∃ w2, w2 = w3.setCell ⟨vb, 3, none⟩ (.slice none 0 0) := ⟨_, rfl⟩
    rw [← hw2]
    have f2 : Fr (fun k => k = vb) w3 w2 := by rw [hw2]; exact (Fr.refl _ _).set1 _ _
    have v2 : w2.heap[vb]? = some (.cells #[.int .i64 N, .float .f64 f, .string ⟨s.toArray⟩, .slice none 0 0] 42 (0, 0)) := by rw [hw2]; exact setCell_row 3 _ v3
    have hsame := vsame_any (fun k => R k ∧ k < w.heap.size) (.mk N f s 0 ov) zeroV (.agg #[.int .i64 N, .float .f64 f, .string ⟨s.toArray⟩, .slice none 0 0]) _ w2 (vshows_mk (n := N) (f := f) (s := s) (by have := HB.out; unfold VB; omega) (.inl rfl)) (zeroV_shows _ _) (by have h := HSZ.out; simp only [szV] at h ⊢; first | exact h | (simp; try omega))
    have HE := Lib.hid (show fitsE (.mk k m ns n of) (.mk N f s c ov) = (BB && sameV (.mk N f s 0 ov) zeroV) from HEQ.out)
    have d0 := cells_row v2 0 _ rfl
    have d1 := cells_row v2 1 _ rfl
    have d2 := cells_row v2 2 _ rfl
    have d3 := cells_row v2 3 _ rfl
    have F2 : Hid (Fr (fun _ => False) w w2) := Lib.hid ((H1.out.1.trans F3.out (fun _ _ h => h)).trans f2 (fun i hi h => by have := HVBX.out; omega))
    clear hw2 f2 v2
    cases hBB : BB with
    | false =>
      clear hsame
      rw [hBB] at HE
      clear hBB
      go_wp2
      go_ret
      rw [HE.out]
      exact ⟨rfl, F2.out⟩
    | true =>
      rw [hBB] at HE
      clear hBB
      go_wp2_with fail
      refine hsame.mono ?_
      rintro e w3 ⟨rfl, f3⟩
      have F3 := Lib.hid f3
      clear f3 hsame
      go_wp2
      go_ret
      rw [HE.out]
      exact ⟨rfl, F2.out.trans F3.out (fun _ _ h => h)⟩
  · have HEQ : Hid (fitsE (.mk k m ns n of) (.mk N f s c ov) = false) := Lib.hid (by
      have hk := HK0.out; subst hk; rw [fitsE]; rw [decide_eq_false hB]; simp)
    go_wp2
    go_ret
    rw [HEQ.out]
    refine ⟨rfl, H1.out.1.setCell (p := ⟨vb, 3, none⟩) (fun h => by have := HVBX.out; simp at h; omega) _⟩

set_option maxRecDepth 100000 in
theorem fit_k6 (k : Nat) (m : Int) (ns : List Txt) (n : Nat) (of : Nat → KT) (ih : ∀ i, FitsAt (of i)) (hk0 : k = 6) : FitsAt (.mk k m ns n of) := by
  intro R v vv w T hsh hvs hsz
  have HSH := Lib.hid (Shows.mono (S := fun k => R k ∧ k < w.heap.size) (fun k hk h => ⟨h, hk⟩) _ _ hsh)
  have HVS := Lib.hid (VShows.mono (S := fun k => R k ∧ k < w.heap.size) (fun k hk h => ⟨h, hk⟩) _ _ hvs)
  clear hvs
  obtain ⟨N, f, s, c, ov, va, cap, rfl, rfl, hVB, hVK⟩ := vshows_open HVS.out
  obtain ⟨vn, vo, rfl, hk, hn, ht, ho⟩ := hsh
  obtain ⟨na, nc, rfl, _⟩ := ht.shape
  obtain ⟨a', c', rfl⟩ : ∃ a' c', vo = .slice a' n c' := by
    rcases ho with ⟨rfl, a', c', rfl⟩ | ⟨g, off, cap, hg, rfl, hle, hc⟩
    · exact ⟨a', c', rfl⟩
    · exact ⟨_, cap, rfl⟩
  have hns : ns.length ≤ 1000 := ht.1
  obtain ⟨hN0, hN1, hf64, hsl, hc5⟩ := hVB
  have HB := Lib.hid (And.intro hN0 (And.intro hN1 (And.intro hf64 (And.intro hsl hc5))))
  have HVK := Lib.hid hVK
  have HSZ := Lib.hid hsz
  have HK0 := Lib.hid hk0
  unfold sv
  obtain ⟨kz, hkz⟩ : ∃ kz : Int, (k : Int) = kz := ⟨_, rfl⟩
  rw [hkz]
  have HKZ := Lib.hid hkz
  have e0 : (kz == 0) = false := by simp; omega
  have e1 : (kz == 1) = false := by simp; omega
  have e2 : (kz == 2) = false := by simp; omega
  have e3 : (kz == 3) = false := by simp; omega
  have e4 : (kz == 4) = false := by simp; omega
  have e7 : (kz == 7) = false := by simp; omega
  have e5 : (kz == 5) = false := by simp; omega
  have e6 : (kz == 6) = true := by simp; omega
  obtain ⟨w1, hw1⟩ : ∃ w1, w1 = (w.alloc (.cells #[.int .u8 kz, .int .i64 m, .slice na ns.length nc, .slice a' n c'] 34)).alloc (.cells #[.int .i64 N, .float .f64 f, .string ⟨s.toArray⟩, .slice va c cap] 42) := ⟨_, rfl⟩
  have f1 : Fr (fun _ => False) w w1 := by rw [hw1]; exact ((Fr.refl _ _).alloc _).alloc _
  have q1 : w1.heap[w.heap.size]? = some (.cells #[.int .u8 kz, .int .i64 m, .slice na ns.length nc, .slice a' n c'] 34 (0, 0)) := by rw [hw1]; exact heap_alloc_first _ _ _
  have v1 : w1.heap[w.heap.size + 1]? = some (.cells #[.int .i64 N, .float .f64 f, .string ⟨s.toArray⟩, .slice va c cap] 42 (0, 0)) := by rw [hw1]; exact heap_alloc_two _ _ _
  go_enter Try.func25, Try.ntmps25
  go_upto_region 2 with fail
  rw [← hw1]
  obtain ⟨vb, hvb⟩ : ∃ vb, w.heap.size + 1 = vb := ⟨_, rfl⟩
  rw [hvb] at v1 ⊢
  have HVBX := Lib.hid hvb
  have o1 : w.heap.size ≠ vb := by omega
  have o2 : vb ≠ w.heap.size := by omega
  have c0 := cells_row q1 0 _ rfl
  have c1 := cells_row q1 1 _ rfl
  have c2 := cells_row q1 2 _ rfl
  have c3 := cells_row q1 3 _ rfl
  have d0 := cells_row v1 0 _ rfl
  have d1 := cells_row v1 1 _ rfl
  have d2 := cells_row v1 2 _ rfl
  have d3 := cells_row v1 3 _ rfl
  have z0 : w1.frozen? ⟨vb, 0, none⟩ = false := by simp [World.frozen?, v1]
  have z1 : w1.frozen? ⟨vb, 1, none⟩ = false := by simp [World.frozen?, v1]
  have z2 : w1.frozen? ⟨vb, 2, none⟩ = false := by simp [World.frozen?, v1]
  have z3 : w1.frozen? ⟨vb, 3, none⟩ = false := by simp [World.frozen?, v1]
  have H1 := Lib.hid (And.intro f1 (And.intro q1 v1))
  clear hw1 f1 q1 v1 hvb hkz hk0 hk hn ht ho hVK hsz hN0 hN1 hf64 hsl hc5
  have hks : Kids (fun k => R k ∧ k < w.heap.size) w of a' n c' := by
    have h := HSH.out
    rw [HKZ.out] at h
    obtain ⟨k2, m2, ns2, of2, a2, c2, a3, n3, c3, e1, e2, e3, e4, e5, _, _, hk⟩ := shows_open h
    cases e1
    cases e5
    exact hk
  have HKK := Lib.hid (hks.fr H1.out.1 (fun _ _ h => h))
  have HVV := Lib.hid (HVK.out.fr H1.out.1 (fun _ _ h => h))
  have hss : ∀ i, i < c → szV (ov i) ≤ 100000 := fun i hi => by
    have h := HSZ.out
    rw [szV] at h
    have h2 := sumTo_le (fun i => szV (ov i)) i c hi
    unfold sumTo at h2
    omega
  have hcc : c ≤ 100000 := HB.out.2.2.2.2
  clear hks
  by_cases hB : c = n
  · have hB1 : ((c : Int) == (n : Int)) = true := by simp; omega
    have HDB : Hid (decide (c = n) = true) := Lib.hid (by simpa using hB)
    have hcall := all_any of ih ov (fun k => R k ∧ k < w.heap.size) a' n c' va c cap w1 HKK.out HVV.out hss hcc hB
    have HEQ : Hid (fitsE (.mk k m ns n of) (.mk N f s c ov) = (((List.range c).all (fun i => fitsE (of i) (ov i))) && sameV (.mk N f s 0 ov) zeroV)) := Lib.hid (by
      have hk := HK0.out; subst hk; rw [fitsE]; rw [HDB.out]; simp)
    clear hB
    obtain ⟨BB, hBB⟩ : ∃ BB, ((List.range c).all (fun i => fitsE (of i) (ov i))) = BB := ⟨_, rfl⟩
    rw [hBB] at hcall HEQ
    clear hBB
    go_wp2_with fail
    refine hcall.mono ?_
    rintro e w3 ⟨rfl, f3⟩
    clear hcall
    have F3 := Lib.hid f3
    have v3 := box_kept H1.out.2.2 f3 (fun h => h)
    have z3 : w3.frozen? ⟨vb, 3, none⟩ = false := by simp [World.frozen?, v3]
    have d3 := cells_row v3 3 _ rfl
    clear f3
    go_upto_region 22 with fail
    obtain ⟨w2, hw2⟩ : ∃ w2, w2 = w3.setCell ⟨vb, 3, none⟩ (.slice none 0 0) := ⟨_, rfl⟩
    rw [← hw2]
    have f2 : Fr (fun k => k = vb) w3 w2 := by rw [hw2]; exact (Fr.refl _ _).set1 _ _
    have v2 : w2.heap[vb]? = some (.cells #[.int .i64 N, .float .f64 f, .string ⟨s.toArray⟩, .slice none 0 0] 42 (0, 0)) := by rw [hw2]; exact setCell_row 3 _ v3
    have hsame := vsame_any (fun k => R k ∧ k < w.heap.size) (.mk N f s 0 ov) zeroV (.agg #[.int .i64 N, .float .f64 f, .string ⟨s.toArray⟩, .slice none 0 0]) _ w2 (vshows_mk (n := N) (f := f) (s := s) (by have := HB.out; unfold VB; omega) (.inl rfl)) (zeroV_shows _ _) (by have h := HSZ.out; simp only [szV] at h ⊢; first | exact h | (simp; try omega))
    have HE := Lib.hid (show fitsE (.mk k m ns n of) (.mk N f s c ov) = (BB && sameV (.mk N f s 0 ov) zeroV) from HEQ.out)
    have d0 := cells_row v2 0 _ rfl
    have d1 := cells_row v2 1 _ rfl
    have d2 := cells_row v2 2 _ rfl
    have d3 := cells_row v2 3 _ rfl
    have F2 : Hid (Fr (fun _ => False) w w2) := Lib.hid ((H1.out.1.trans F3.out (fun _ _ h => h)).trans f2 (fun i hi h => by have := HVBX.out; omega))
    clear hw2 f2 v2
    cases hBB : BB with
    | false =>
      clear hsame
      rw [hBB] at HE
      clear hBB
      go_wp2
      go_ret
      rw [HE.out]
      exact ⟨rfl, F2.out⟩
    | true =>
      rw [hBB] at HE
      clear hBB
      go_wp2_with fail
      refine hsame.mono ?_
      rintro e w3 ⟨rfl, f3⟩
      have F3 := Lib.hid f3
      clear f3 hsame
      go_wp2
      go_ret
      rw [HE.out]
      exact ⟨rfl, F2.out.trans F3.out (fun _ _ h => h)⟩
  · have hB1 : ((c : Int) == (n : Int)) = false := by simp; omega
    have HEQ : Hid (fitsE (.mk k m ns n of) (.mk N f s c ov) = false) := Lib.hid (by
      have hk := HK0.out; subst hk; rw [fitsE]; rw [decide_eq_false hB]; simp)
    clear hB
    go_wp2
    go_ret
    rw [HEQ.out]
    refine ⟨rfl, H1.out.1.setCell (p := ⟨vb, 3, none⟩) (fun h => by have := HVBX.out; simp at h; omega) _⟩
end
section
attribute [local go_sem] run_store_float

set_option maxRecDepth 100000 in
theorem fit_k8 (k : Nat) (m : Int) (ns : List Txt) (n : Nat) (of : Nat → KT) (ih : ∀ i, FitsAt (of i)) (hk0 : k = 8) : FitsAt (.mk k m ns n of) := by
  intro R v vv w T hsh hvs hsz
  have HSH := Lib.hid (Shows.mono (S := fun k => R k ∧ k < w.heap.size) (fun k hk h => ⟨h, hk⟩) _ _ hsh)
  have HVS := Lib.hid (VShows.mono (S := fun k => R k ∧ k < w.heap.size) (fun k hk h => ⟨h, hk⟩) _ _ hvs)
  clear hvs
  obtain ⟨N, f, s, c, ov, va, cap, rfl, rfl, hVB, hVK⟩ := vshows_open HVS.out
  obtain ⟨vn, vo, rfl, hk, hn, ht, ho⟩ := hsh
  obtain ⟨na, nc, rfl, _⟩ := ht.shape
  obtain ⟨a', c', rfl⟩ : ∃ a' c', vo = .slice a' n c' := by
    rcases ho with ⟨rfl, a', c', rfl⟩ | ⟨g, off, cap, hg, rfl, hle, hc⟩
    · exact ⟨a', c', rfl⟩
    · exact ⟨_, cap, rfl⟩
  have hns : ns.length ≤ 1000 := ht.1
  have HNN := Lib.hid hn
  obtain ⟨hN0, hN1, hf64, hsl, hc5⟩ := hVB
  have HB := Lib.hid (And.intro hN0 (And.intro hN1 (And.intro hf64 (And.intro hsl hc5))))
  have HVK := Lib.hid hVK
  have HSZ := Lib.hid hsz
  have HK0 := Lib.hid hk0
  unfold sv
  obtain ⟨kz, hkz⟩ : ∃ kz : Int, (k : Int) = kz := ⟨_, rfl⟩
  rw [hkz]
  have HKZ := Lib.hid hkz
  have e0 : (kz == 0) = false := by simp; omega
  have e1 : (kz == 1) = false := by simp; omega
  have e2 : (kz == 2) = false := by simp; omega
  have e3 : (kz == 3) = false := by simp; omega
  have e4 : (kz == 4) = false := by simp; omega
  have e7 : (kz == 7) = false := by simp; omega
  have e5 : (kz == 5) = false := by simp; omega
  have e6 : (kz == 6) = false := by simp; omega
  have e8 : (kz == 8) = true := by simp; omega
  obtain ⟨w1, hw1⟩ : ∃ w1, w1 = (w.alloc (.cells #[.int .u8 kz, .int .i64 m, .slice na ns.length nc, .slice a' n c'] 34)).alloc (.cells #[.int .i64 N, .float .f64 f, .string ⟨s.toArray⟩, .slice va c cap] 42) := ⟨_, rfl⟩
  have f1 : Fr (fun _ => False) w w1 := by rw [hw1]; exact ((Fr.refl _ _).alloc _).alloc _
  have q1 : w1.heap[w.heap.size]? = some (.cells #[.int .u8 kz, .int .i64 m, .slice na ns.length nc, .slice a' n c'] 34 (0, 0)) := by rw [hw1]; exact heap_alloc_first _ _ _
  have v1 : w1.heap[w.heap.size + 1]? = some (.cells #[.int .i64 N, .float .f64 f, .string ⟨s.toArray⟩, .slice va c cap] 42 (0, 0)) := by rw [hw1]; exact heap_alloc_two _ _ _
  go_enter Try.func25, Try.ntmps25
  go_upto_region 2 with fail
  rw [← hw1]
  obtain ⟨vb, hvb⟩ : ∃ vb, w.heap.size + 1 = vb := ⟨_, rfl⟩
  rw [hvb] at v1 ⊢
  have HVBX := Lib.hid hvb
  have o1 : w.heap.size ≠ vb := by omega
  have o2 : vb ≠ w.heap.size := by omega
  have c0 := cells_row q1 0 _ rfl
  have c1 := cells_row q1 1 _ rfl
  have c2 := cells_row q1 2 _ rfl
  have c3 := cells_row q1 3 _ rfl
  have d0 := cells_row v1 0 _ rfl
  have d1 := cells_row v1 1 _ rfl
  have d2 := cells_row v1 2 _ rfl
  have d3 := cells_row v1 3 _ rfl
  have z0 : w1.frozen? ⟨vb, 0, none⟩ = false := by simp [World.frozen?, v1]
  have z1 : w1.frozen? ⟨vb, 1, none⟩ = false := by simp [World.frozen?, v1]
  have z2 : w1.frozen? ⟨vb, 2, none⟩ = false := by simp [World.frozen?, v1]
  have z3 : w1.frozen? ⟨vb, 3, none⟩ = false := by simp [World.frozen?, v1]
  have H1 := Lib.hid (And.intro f1 (And.intro q1 v1))
  clear hw1 f1 q1 v1 hvb hkz hk0 hk hn ht ho hVK hsz hN0 hN1 hf64 hsl hc5
  have hks : Kids (fun k => R k ∧ k < w.heap.size) w of a' n c' := by
    have h := HSH.out
    rw [HKZ.out] at h
    obtain ⟨k2, m2, ns2, of2, a2, c2, a3, n3, c3, e1, e2, e3, e4, e5, _, _, hk⟩ := shows_open h
    cases e1
    cases e5
    exact hk
  have HKK := Lib.hid (hks.fr H1.out.1 (fun _ _ h => h))
  have HVV := Lib.hid (HVK.out.fr H1.out.1 (fun _ _ h => h))
  have hss : ∀ i, i < c → szV (ov i) ≤ 100000 := fun i hi => by
    have h := HSZ.out
    rw [szV] at h
    have h2 := sumTo_le (fun i => szV (ov i)) i c hi
    unfold sumTo at h2
    omega
  have hcc : c ≤ 100000 := HB.out.2.2.2.2
  have hn1000 : n ≤ 1000 := HNN.out
  clear hks
  by_cases hN : 0 ≤ N ∧ N ≤ (n : Int) - 1
  case neg =>
    have HDN : Hid (decide (0 ≤ N ∧ N ≤ (n : Int) - 1) = false) := Lib.hid (decide_eq_false hN)
    clear hN
    go_upto_region 20 with fail
    refine wp_region_chain (by kernel_rfl) [some 82, some 83, some 84, some 85, some 86, some 87, some 88, some 89, some 90, some 91, some 92, some 93, some 94, some 95, some 96, some 97, some 98, some 99, some 100, some 101, some 102, some 103, some 104, some 105, some 106, some 5] rfl (by decide) (by intro d hd; simp at hd ⊢; omega)
      [] (fun _ wx => Fr (fun _ => False) w1 wx)
      [.free (.pointer (some ⟨vb, 0, none⟩)), .free (.int .i64 N), .free (.pointer (some ⟨w.heap.size, 3, none⟩)), .free (.slice a' n c'), .free (.int .i64 n), .free (.bool false), .free (.bool false), .free undef, .free undef, .free undef, .free undef, .free (.bool false), .free (.bool false), .free undef, .free undef, .free undef, .free undef, .free undef, .free undef, .free undef, .free undef, .free undef, .free undef, .free undef, .free (.bool false), .free (.bool false)]
      (by kernel_rfl) (by kernel_rfl) ?h0A ?stepA ?finA
    case h0A => exact (Fr.refl _ _).drew
    case stepA =>
      intro vals2
      simp only [frOfU, fillU, List.setIfInBounds_toArray, List.set_cons_succ, List.set_cons_zero]
      repeat' (first | exact AllOps.nil | refine AllOps.cons ?_ ?_)
      all_goals
        intro cvs wx hS he hu hlim K hK
        simp only [Act.put, List.setIfInBounds_toArray, List.set_cons_succ, List.set_cons_zero, List.getD_cons_zero, List.getD_cons_succ] at hK
        simp only [List.mem_cons, List.not_mem_nil, or_false, forall_eq_or_imp, forall_eq, Region.binds, forall_const, vmode_gc, Bool.false_eq_true, false_imp_iff, List.getD_cons_zero, List.getD_cons_succ, OpSort.val, Option.some.injEq, forall_eq', reduceCtorEq, implies_true, true_and, and_true] at he
        have HSX := Lib.hid hS
        clear hS hlim hu
      all_goals first | ((try simp only [he] at hK ⊢); go_simp; exact hK) | skip
      all_goals first | (have qt := box_kept H1.out.2.1 HSX.out (fun h => h); have qv := box_kept H1.out.2.2 HSX.out (fun h => h); have k3 := cells_row qt 3 _ rfl; have l0 := cells_row qv 0 _ rfl; have l3 := cells_row qv 3 _ rfl; clear qt qv; (try simp only [he] at hK ⊢); go_simp; exact hK) | skip
      · simp only [he] at hK ⊢
        go_simp
        go_at_call 53
        refine (isIndex_any N n (by omega) wx).mono ?_
        rintro e1 wa ⟨rfl, rfl⟩
        rw [HDN.out]
        exact hK
    case finA =>
    intro vals2 w3 hS hV
    have v25 := hV 25 _ (by decide) rfl
    clear hV
    have f3 : Fr (fun _ => False) w1 w3 := hS
    clear hS
    simp only [frOfU, fillU, List.setIfInBounds_toArray, List.set_cons_succ, List.set_cons_zero]
    simp only [Nat.reduceAdd, v25]
    clear v25
    have F3 := Lib.hid f3
    have v3 := box_kept H1.out.2.2 f3 (fun h => h)
    have z0 : w3.frozen? ⟨vb, 0, none⟩ = false := by simp [World.frozen?, v3]
    have z3 : w3.frozen? ⟨vb, 3, none⟩ = false := by simp [World.frozen?, v3]
    have d0 := cells_row v3 0 _ rfl
    have d3 := cells_row v3 3 _ rfl
    clear f3
    go_upto_region 22 with fail
    obtain ⟨w2, hw2⟩ : ∃ w2, w2 = (w3.setCell ⟨vb, 0, none⟩ (.int .i64 0)).setCell ⟨vb, 3, none⟩ (.slice none 0 0) := ⟨_, rfl⟩
    rw [← hw2]
    have f2 : Fr (fun k => k = vb) w3 w2 := by rw [hw2]; exact ((Fr.refl _ _).set1 _ _).set1 _ _
    have v2 : w2.heap[vb]? = some (.cells #[.int .i64 0, .float .f64 f, .string ⟨s.toArray⟩, .slice none 0 0] 42 (0, 0)) := by rw [hw2]; exact setCell_row 3 _ (setCell_row 0 _ v3)
    have hsame := vsame_any (fun k => R k ∧ k < w.heap.size) (.mk 0 f s 0 ov) zeroV (.agg #[.int .i64 0, .float .f64 f, .string ⟨s.toArray⟩, .slice none 0 0]) _ w2 (vshows_mk (n := 0) (f := f) (s := s) (by have := HB.out; unfold VB; omega) (.inl rfl)) (zeroV_shows _ _) (by have h := HSZ.out; simp only [szV] at h ⊢; first | exact h | (simp; try omega))
    have HE := Lib.hid (show fitsE (.mk k m ns n of) (.mk N f s c ov) = (false && sameV (.mk 0 f s 0 ov) zeroV) from by have hk := HK0.out; subst hk; rw [fitsE, HDN.out]; simp)
    have d0 := cells_row v2 0 _ rfl
    have d1 := cells_row v2 1 _ rfl
    have d2 := cells_row v2 2 _ rfl
    have d3 := cells_row v2 3 _ rfl
    have F2 : Hid (Fr (fun _ => False) w w2) := Lib.hid ((H1.out.1.trans F3.out (fun _ _ h => h)).trans f2 (fun i hi h => by have := HVBX.out; omega))
    clear hw2 f2 v2
    clear hsame
    go_wp2
    go_ret
    rw [HE.out]
    exact ⟨rfl, F2.out⟩

  have HDN : Hid (decide (0 ≤ N ∧ N ≤ (n : Int) - 1) = true) := Lib.hid (decide_eq_true hN)
  by_cases hc1 : c = 1
  case neg =>
    have HDC : Hid (decide (c = 1) = false) := Lib.hid (decide_eq_false hc1)
    have hc2 : ((c : Int) == 1) = false := by simp; omega
    clear hN hc1
    go_upto_region 20 with fail
    refine wp_region_chain (by kernel_rfl) [some 82, some 83, some 84, some 85, some 86, some 87, some 88, some 89, some 90, some 91, some 92, some 93, some 94, some 95, some 96, some 97, some 98, some 99, some 100, some 101, some 102, some 103, some 104, some 105, some 106, some 5] rfl (by decide) (by intro d hd; simp at hd ⊢; omega)
      [] (fun _ wx => Fr (fun _ => False) w1 wx)
      [.free (.pointer (some ⟨vb, 0, none⟩)), .free (.int .i64 N), .free (.pointer (some ⟨w.heap.size, 3, none⟩)), .free (.slice a' n c'), .free (.int .i64 n), .free (.bool true), .free (.bool true), .free (.pointer (some ⟨vb, 3, none⟩)), .free (.slice va c cap), .free (.int .i64 c), .free (.bool false), .free (.bool false), .free (.bool false), .free undef, .free undef, .free undef, .free undef, .free undef, .free undef, .free undef, .free undef, .free undef, .free undef, .free undef, .free (.bool false), .free (.bool false)]
      (by kernel_rfl) (by kernel_rfl) ?h0B ?stepB ?finB
    case h0B => exact (Fr.refl _ _).drew
    case stepB =>
      intro vals2
      simp only [frOfU, fillU, List.setIfInBounds_toArray, List.set_cons_succ, List.set_cons_zero]
      repeat' (first | exact AllOps.nil | refine AllOps.cons ?_ ?_)
      all_goals
        intro cvs wx hS he hu hlim K hK
        simp only [Act.put, List.setIfInBounds_toArray, List.set_cons_succ, List.set_cons_zero, List.getD_cons_zero, List.getD_cons_succ] at hK
        simp only [List.mem_cons, List.not_mem_nil, or_false, forall_eq_or_imp, forall_eq, Region.binds, forall_const, vmode_gc, Bool.false_eq_true, false_imp_iff, List.getD_cons_zero, List.getD_cons_succ, OpSort.val, Option.some.injEq, forall_eq', reduceCtorEq, implies_true, true_and, and_true] at he
        have HSX := Lib.hid hS
        clear hS hlim hu
      all_goals first | ((try simp only [he] at hK ⊢); go_simp; exact hK) | skip
      all_goals first | (have qt := box_kept H1.out.2.1 HSX.out (fun h => h); have qv := box_kept H1.out.2.2 HSX.out (fun h => h); have k3 := cells_row qt 3 _ rfl; have l0 := cells_row qv 0 _ rfl; have l3 := cells_row qv 3 _ rfl; clear qt qv; (try simp only [he] at hK ⊢); go_simp; exact hK) | skip
      · simp only [he] at hK ⊢
        go_simp
        go_at_call 53
        refine (isIndex_any N n (by omega) wx).mono ?_
        rintro e1 wa ⟨rfl, rfl⟩
        rw [HDN.out]
        exact hK
    case finB =>
    intro vals2 w3 hS hV
    have v25 := hV 25 _ (by decide) rfl
    clear hV
    have f3 : Fr (fun _ => False) w1 w3 := hS
    clear hS
    simp only [frOfU, fillU, List.setIfInBounds_toArray, List.set_cons_succ, List.set_cons_zero]
    simp only [Nat.reduceAdd, v25]
    clear v25
    have F3 := Lib.hid f3
    have v3 := box_kept H1.out.2.2 f3 (fun h => h)
    have z0 : w3.frozen? ⟨vb, 0, none⟩ = false := by simp [World.frozen?, v3]
    have z3 : w3.frozen? ⟨vb, 3, none⟩ = false := by simp [World.frozen?, v3]
    have d0 := cells_row v3 0 _ rfl
    have d3 := cells_row v3 3 _ rfl
    clear f3
    go_upto_region 22 with fail
    obtain ⟨w2, hw2⟩ : ∃ w2, w2 = (w3.setCell ⟨vb, 0, none⟩ (.int .i64 0)).setCell ⟨vb, 3, none⟩ (.slice none 0 0) := ⟨_, rfl⟩
    rw [← hw2]
    have f2 : Fr (fun k => k = vb) w3 w2 := by rw [hw2]; exact ((Fr.refl _ _).set1 _ _).set1 _ _
    have v2 : w2.heap[vb]? = some (.cells #[.int .i64 0, .float .f64 f, .string ⟨s.toArray⟩, .slice none 0 0] 42 (0, 0)) := by rw [hw2]; exact setCell_row 3 _ (setCell_row 0 _ v3)
    have hsame := vsame_any (fun k => R k ∧ k < w.heap.size) (.mk 0 f s 0 ov) zeroV (.agg #[.int .i64 0, .float .f64 f, .string ⟨s.toArray⟩, .slice none 0 0]) _ w2 (vshows_mk (n := 0) (f := f) (s := s) (by have := HB.out; unfold VB; omega) (.inl rfl)) (zeroV_shows _ _) (by have h := HSZ.out; simp only [szV] at h ⊢; first | exact h | (simp; try omega))
    have HE := Lib.hid (show fitsE (.mk k m ns n of) (.mk N f s c ov) = (false && sameV (.mk 0 f s 0 ov) zeroV) from by have hk := HK0.out; subst hk; rw [fitsE, HDN.out, HDC.out]; simp)
    have d0 := cells_row v2 0 _ rfl
    have d1 := cells_row v2 1 _ rfl
    have d2 := cells_row v2 2 _ rfl
    have d3 := cells_row v2 3 _ rfl
    have F2 : Hid (Fr (fun _ => False) w w2) := Lib.hid ((H1.out.1.trans F3.out (fun _ _ h => h)).trans f2 (fun i hi h => by have := HVBX.out; omega))
    clear hw2 f2 v2
    clear hsame
    go_wp2
    go_ret
    rw [HE.out]
    exact ⟨rfl, F2.out⟩

  obtain ⟨x, hx⟩ : ∃ x : Nat, N = (x : Int) := ⟨N.toNat, by omega⟩
  have hxn : x < n := by omega
  have hxi : (x : Int) < (n : Int) := by omega
  have hx0 : (0 : Int) ≤ (x : Int) := by omega
  rcases HKK.out with hz | ⟨hcap, g, off, hg, rfl, hcell⟩
  · omega
  rcases HVV.out with hz | ⟨hvcap, gv, ov', hgv, rfl, hvcell⟩
  · omega
  obtain ⟨x0, x1, x2, x3, y0, y1, y2, y3, hxs⟩ := hcell x hxn
  obtain ⟨s0, s1, s2, s3, r0, r1, r2, r3, hs⟩ := hvcell 0 (by omega)
  obtain ⟨xk, xm, xa, xn, xc, xa', xn', xc', rfl, rfl, rfl, rfl⟩ := hxs.cells
  obtain ⟨zn, zf, zs, za, zc, zcap, es⟩ := hs.lit
  simp only [Value.agg.injEq, Array.mk.injEq, List.cons.injEq, and_true] at es
  obtain ⟨rfl, rfl, rfl, rfl⟩ := es
  simp only [Nat.zero_mul, Nat.add_zero] at r0 r1 r2 r3
  have HY := Lib.hid (And.intro hg (And.intro y0 (And.intro y1 (And.intro y2 y3))))
  have HR := Lib.hid (And.intro hgv (And.intro r0 (And.intro r1 (And.intro r2 r3))))
  have HXS := Lib.hid (And.intro hxs hs)
  have hss0 := hss 0 (by omega)
  have HSS := Lib.hid hss0
  clear hcell hvcell hxs hs y0 y1 y2 y3 r0 r1 r2 r3 hss hN hss0 hcc
  obtain ⟨BB, hBB⟩ : ∃ BB, fitsE (of x) (ov 0) = BB := ⟨_, rfl⟩
  have HBB := Lib.hid hBB
  have HEQ : Hid (fitsE (.mk k m ns n of) (.mk N f s c ov) = (BB && sameV (.mk 0 f s 0 ov) zeroV)) := Lib.hid (by
    have hk := HK0.out; subst hk; rw [fitsE, HDN.out, decide_eq_true hc1]; rw [hx]; simp only [Int.toNat_natCast, hBB]; simp)
  clear hBB
  subst hc1 hx
  clear HKK HVV
  go_upto_region 20 with fail
  refine wp_region_chain (by kernel_rfl) [some 82, some 83, some 84, some 85, some 86, some 87, some 88, some 89, some 90, some 91, some 92, some 93, some 94, some 95, some 96, some 97, some 98, some 99, some 100, some 101, some 102, some 103, some 104, some 105, some 106, some 5] rfl (by decide) (by intro d hd; simp at hd ⊢; omega)
    [23] (fun _ wx => Fr (fun _ => False) w1 wx)
    [.free (.pointer (some ⟨vb, 0, none⟩)), .free (.int .i64 x), .free (.pointer (some ⟨w.heap.size, 3, none⟩)), .free (.slice (some ⟨g, off, none⟩) n c'), .free (.int .i64 n), .free (.bool true), .free (.bool true), .free (.pointer (some ⟨vb, 3, none⟩)), .free (.slice (some ⟨gv, ov', none⟩) 1 cap), .free (.int .i64 1), .free (.bool true), .free (.bool true), .free (.bool true), .free (.pointer (some ⟨w.heap.size, 3, none⟩)), .free (.slice (some ⟨g, off, none⟩) n c'), .free (.pointer (some ⟨vb, 0, none⟩)), .free (.int .i64 x), .free (.pointer (some ⟨g, off + x * 4, none⟩)), .free (.agg #[.int .u8 xk, .int .i64 xm, .slice xa xn xc, .slice xa' xn' xc']), .free (.pointer (some ⟨vb, 3, none⟩)), .free (.slice (some ⟨gv, ov', none⟩) 1 cap), .free (.pointer (some ⟨gv, ov', none⟩)), .free (.agg #[.int .i64 zn, .float .f64 zf, .string zs, .slice za zc zcap]), .link (some (.bool BB)), .free (.bool BB), .free (.bool BB)]
    (by kernel_rfl) (by kernel_rfl) ?h0C ?stepC ?finC
  case h0C => exact (Fr.refl _ _).drew
  case stepC =>
    intro vals2
    simp only [frOfU, fillU, List.setIfInBounds_toArray, List.set_cons_succ, List.set_cons_zero]
    repeat' (first | exact AllOps.nil | refine AllOps.cons ?_ ?_)
    all_goals
      intro cvs wx hS he hu hlim K hK
      simp only [Act.put, List.setIfInBounds_toArray, List.set_cons_succ, List.set_cons_zero, List.getD_cons_zero, List.getD_cons_succ] at hK
      simp only [List.mem_cons, List.not_mem_nil, or_false, forall_eq_or_imp, forall_eq, Region.binds, forall_const, vmode_gc, Bool.false_eq_true, false_imp_iff, List.getD_cons_zero, List.getD_cons_succ, OpSort.val, Option.some.injEq, forall_eq', reduceCtorEq, implies_true, true_and, and_true] at he
      have HSX := Lib.hid hS
      clear hS hlim hu
    all_goals first | ((try simp only [he] at hK ⊢); go_simp; exact hK) | skip
    all_goals first | (have qt := box_kept H1.out.2.1 HSX.out (fun h => h); have qv := box_kept H1.out.2.2 HSX.out (fun h => h); have k3 := cells_row qt 3 _ rfl; have l0 := cells_row qv 0 _ rfl; have l3 := cells_row qv 3 _ rfl; clear qt qv; (try simp only [he] at hK ⊢); go_simp; exact hK) | skip
    · simp only [he] at hK ⊢
      go_simp
      go_at_call 53
      refine (isIndex_any x n (by omega) wx).mono ?_
      rintro e1 wa ⟨rfl, rfl⟩
      rw [HDN.out]
      exact hK
    · have e0 := cell_fr (R := fun k => R k ∧ k < w.heap.size) HSX.out (fun _ _ h => h) HY.out.1 HY.out.2.1
      have e1 := cell_fr (R := fun k => R k ∧ k < w.heap.size) HSX.out (fun _ _ h => h) HY.out.1 HY.out.2.2.1
      have e2 := cell_fr (R := fun k => R k ∧ k < w.heap.size) HSX.out (fun _ _ h => h) HY.out.1 HY.out.2.2.2.1
      have e3 := cell_fr (R := fun k => R k ∧ k < w.heap.size) HSX.out (fun _ _ h => h) HY.out.1 HY.out.2.2.2.2
      simp only [he] at hK ⊢
      go_simp
      exact hK
    · have e0 := cell_fr (R := fun k => R k ∧ k < w.heap.size) HSX.out (fun _ _ h => h) HR.out.1 HR.out.2.1
      have e1 := cell_fr (R := fun k => R k ∧ k < w.heap.size) HSX.out (fun _ _ h => h) HR.out.1 HR.out.2.2.1
      have e2 := cell_fr (R := fun k => R k ∧ k < w.heap.size) HSX.out (fun _ _ h => h) HR.out.1 HR.out.2.2.2.1
      have e3 := cell_fr (R := fun k => R k ∧ k < w.heap.size) HSX.out (fun _ _ h => h) HR.out.1 HR.out.2.2.2.2
      simp only [he] at hK ⊢
      go_simp
      exact hK
    · simp only [he] at hK ⊢
      go_simp
      go_at_call 25
      refine (ih x (fun k => R k ∧ k < w.heap.size) _ _ wx (ov 0) (Shows.fr HSX.out (fun _ _ h => h) _ _ HXS.out.1) (VShows.fr HSX.out (fun _ _ h => h) _ _ HXS.out.2) HSS.out).mono ?_
      rintro e1 wa ⟨rfl, fa⟩
      exact hK _ _ (fun _ h => by cases h; rw [HBB.out]) (HSX.out.trans fa (fun _ _ h => h))
  case finC =>
  intro vals2 w3 hS hV
  have v25 := hV 25 _ (by decide) rfl
  clear hV
  have f3 : Fr (fun _ => False) w1 w3 := hS
  clear hS
  simp only [frOfU, fillU, List.setIfInBounds_toArray, List.set_cons_succ, List.set_cons_zero]
  simp only [Nat.reduceAdd, v25]
  clear v25
  have F3 := Lib.hid f3
  have v3 := box_kept H1.out.2.2 f3 (fun h => h)
  have z0 : w3.frozen? ⟨vb, 0, none⟩ = false := by simp [World.frozen?, v3]
  have z3 : w3.frozen? ⟨vb, 3, none⟩ = false := by simp [World.frozen?, v3]
  have d0 := cells_row v3 0 _ rfl
  have d3 := cells_row v3 3 _ rfl
  clear f3
  go_upto_region 22 with fail
  obtain ⟨w2, hw2⟩ : ∃ w2, w2 = (w3.setCell ⟨vb, 0, none⟩ (.int .i64 0)).setCell ⟨vb, 3, none⟩ (.slice none 0 0) := ⟨_, rfl⟩
  rw [← hw2]
  have f2 : Fr (fun k => k = vb) w3 w2 := by rw [hw2]; exact ((Fr.refl _ _).set1 _ _).set1 _ _
  have v2 : w2.heap[vb]? = some (.cells #[.int .i64 0, .float .f64 f, .string ⟨s.toArray⟩, .slice none 0 0] 42 (0, 0)) := by rw [hw2]; exact setCell_row 3 _ (setCell_row 0 _ v3)
  have hsame := vsame_any (fun k => R k ∧ k < w.heap.size) (.mk 0 f s 0 ov) zeroV (.agg #[.int .i64 0, .float .f64 f, .string ⟨s.toArray⟩, .slice none 0 0]) _ w2 (vshows_mk (n := 0) (f := f) (s := s) (by have := HB.out; unfold VB; omega) (.inl rfl)) (zeroV_shows _ _) (by have h := HSZ.out; simp only [szV] at h ⊢; first | exact h | (simp; try omega))
  have HE := Lib.hid (show fitsE (.mk k m ns n of) (.mk x f s 1 ov) = (BB && sameV (.mk 0 f s 0 ov) zeroV) from HEQ.out)
  have d0 := cells_row v2 0 _ rfl
  have d1 := cells_row v2 1 _ rfl
  have d2 := cells_row v2 2 _ rfl
  have d3 := cells_row v2 3 _ rfl
  have F2 : Hid (Fr (fun _ => False) w w2) := Lib.hid ((H1.out.1.trans F3.out (fun _ _ h => h)).trans f2 (fun i hi h => by have := HVBX.out; omega))
  clear hw2 f2 v2
  cases hBB : BB with
  | false =>
    clear hsame
    rw [hBB] at HE
    clear hBB
    go_wp2
    go_ret
    rw [HE.out]
    exact ⟨rfl, F2.out⟩
  | true =>
    rw [hBB] at HE
    clear hBB
    go_wp2_with fail
    refine hsame.mono ?_
    rintro e w3 ⟨rfl, f3⟩
    have F3 := Lib.hid f3
    clear f3 hsame
    go_wp2
    go_ret
    rw [HE.out]
    exact ⟨rfl, F2.out.trans F3.out (fun _ _ h => h)⟩

set_option maxRecDepth 100000 in
theorem fit_rest (k : Nat) (m : Int) (ns : List Txt) (n : Nat) (of : Nat → KT) (hk0 : 9 ≤ k) : FitsAt (.mk k m ns n of) := by
  intro R v vv w T hsh hvs hsz
  obtain ⟨N, f, s, c, ov, va, cap, rfl, rfl, hVB, hVK⟩ := vshows_open hvs
  obtain ⟨vn, vo, rfl, hk, hn, ht, ho⟩ := hsh
  obtain ⟨na, nc, rfl, _⟩ := ht.shape
  obtain ⟨a', c', rfl⟩ : ∃ a' c', vo = .slice a' n c' := by
    rcases ho with ⟨rfl, a', c', rfl⟩ | ⟨g, off, cap, hg, rfl, hle, hc⟩
    · exact ⟨a', c', rfl⟩
    · exact ⟨_, cap, rfl⟩
  have HE : Hid (fitsE (.mk k m ns n of) (.mk N f s c ov) = false) := Lib.hid (by
    rw [fitsE, if_neg (by omega), if_neg (by omega), if_neg (by omega), if_neg (by omega), if_neg (by omega), if_neg (by omega), if_neg (by omega), if_neg (by omega), if_neg (by omega)])
  unfold sv
  obtain ⟨kz, hkz⟩ : ∃ kz : Int, (k : Int) = kz := ⟨_, rfl⟩
  rw [hkz]
  have e0 : (kz == 0) = false := by simp; omega
  have e1 : (kz == 1) = false := by simp; omega
  have e2 : (kz == 2) = false := by simp; omega
  have e3 : (kz == 3) = false := by simp; omega
  have e4 : (kz == 4) = false := by simp; omega
  have e7 : (kz == 7) = false := by simp; omega
  have e5 : (kz == 5) = false := by simp; omega
  have e6 : (kz == 6) = false := by simp; omega
  have e8 : (kz == 8) = false := by simp; omega
  clear hVB hVK ho hk hn ht hk0 hkz hsz hvs
  go_enter Try.func25, Try.ntmps25
  go_wp2
  go_ret
  rw [HE.out]
  exact ⟨rfl, ((Fr.refl _ _).alloc _).alloc _⟩

theorem fits_any (t : KT) : FitsAt t := by
  induction t with
  | nil => exact fun _ _ _ _ _ h => h.elim
  | mk k m ns n of ih =>
    by_cases h9 : 9 ≤ k
    · exact fit_rest k m ns n of h9
    · rcases (by omega : k = 0 ∨ k = 1 ∨ k = 2 ∨ k = 3 ∨ k = 4 ∨ k = 5 ∨ k = 6 ∨ k = 7 ∨ k = 8) with h | h | h | h | h | h | h | h | h
      · exact fit_k0 k m ns n of h
      · exact fit_k1 k m ns n of h
      · exact fit_k2 k m ns n of h
      · exact fit_k3 k m ns n of h
      · exact fit_k4 k m ns n of h
      · exact fit_k5 k m ns n of ih h
      · exact fit_k6 k m ns n of ih h
      · exact fit_k7 k m ns n of h
      · exact fit_k8 k m ns n of ih h

/-- Is it a value of the type? -/
def isVal (t : KT) (T : VT) : Bool := hasE t 20 && fitsE t T

/-- The check's answer. -/
def valE (t : KT) (T : VT) : Nat := if isVal t T then 0 else 17

set_option maxRecDepth 100000 in
theorem vcheck_any (R : Nat → Prop) (t : KT) (T : VT) (v vv : Value) (w : World) (hsh : Shows R w t v) (hvs : VShows R w T vv) (hsz : szV T ≤ 100000) :
    Calls Try.prog 14 #[v, vv] w fun e w' => e = .returned (.int .i64 (valE t T : Nat)) ∧ Fr (fun _ => False) w w' := by
  obtain ⟨k, m, a, n, c, a', n', c', rfl⟩ := hsh.four
  obtain ⟨N, f, s, va, vc, cap, rfl⟩ := hvs.lit
  obtain ⟨w1, hw1⟩ : ∃ w1, w1 = (w.alloc (.cells #[.int .u8 k, .int .i64 m, .slice a n c, .slice a' n' c'] 34)).alloc (.cells #[.int .i64 N, .float .f64 f, .string s, .slice va vc cap] 42) := ⟨_, rfl⟩
  have f1 : Fr (fun _ => False) w w1 := by rw [hw1]; exact ((Fr.refl _ _).alloc _).alloc _
  have q1 : w1.heap[w.heap.size]? = some (.cells #[.int .u8 k, .int .i64 m, .slice a n c, .slice a' n' c'] 34 (0, 0)) := by rw [hw1]; exact heap_alloc_first _ _ _
  have v1 : w1.heap[w.heap.size + 1]? = some (.cells #[.int .i64 N, .float .f64 f, .string s, .slice va vc cap] 42 (0, 0)) := by rw [hw1]; exact heap_alloc_two _ _ _
  have H0 := Lib.hid (And.intro hsh hvs)
  have HSZ := Lib.hid hsz
  have hhas := has_any t R _ w1 20 20 rfl (by omega) (Shows.fr f1 (fun _ _ h => h) _ _ hsh)
  have H1 := Lib.hid (And.intro f1 (And.intro q1 v1))
  obtain ⟨B1, hB1⟩ : ∃ B1, hasE t 20 = B1 := ⟨_, rfl⟩
  obtain ⟨B2, hB2⟩ : ∃ B2, fitsE t T = B2 := ⟨_, rfl⟩
  rw [hB1] at hhas
  have HE : Hid (valE t T = if (B1 && B2) then 0 else 17) := Lib.hid (by unfold valE isVal; rw [hB1, hB2])
  have HB2 := Lib.hid hB2
  clear hsh hvs hsz hB1 hB2 f1 q1 v1
  go_enter Try.func14, Try.ntmps14
  go_upto_region 1 with fail
  rw [← hw1]
  clear hw1
  obtain ⟨c0, c1, c2, c3⟩ := cell_of_four H1.out.2.1
  obtain ⟨d0, d1, d2, d3⟩ := cell_of_four H1.out.2.2
  cases B1 with
  | false =>
    go_wp2_with fail
    refine hhas.mono ?_
    rintro e w2 ⟨rfl, f2⟩
    have F2 := Lib.hid f2
    clear f2 hhas c0 c1 c2 c3 d0 d1 d2 d3
    go_wp2
    go_ret
    rw [HE.out]
    exact ⟨rfl, H1.out.1.trans F2.out (fun _ _ h => h)⟩
  | true =>
    go_wp2_with fail
    refine hhas.mono ?_
    rintro e w2 ⟨rfl, f2⟩
    have F2 := Lib.hid (H1.out.1.trans f2 (fun _ _ h => h))
    obtain ⟨i0, i1, i2, i3⟩ := cell_of_four (box_kept H1.out.2.1 f2 (fun h => h))
    obtain ⟨j0, j1, j2, j3⟩ := cell_of_four (box_kept H1.out.2.2 f2 (fun h => h))
    have hfit := fits_any t R _ _ w2 T (Shows.fr F2.out (fun _ _ h => h) _ _ H0.out.1) (VShows.fr F2.out (fun _ _ h => h) _ _ H0.out.2) HSZ.out
    rw [HB2.out] at hfit
    clear f2 hhas c0 c1 c2 c3 d0 d1 d2 d3
    cases B2 with
    | false =>
      go_wp2_with fail
      refine hfit.mono ?_
      rintro e w3 ⟨rfl, f3⟩
      have F3 := Lib.hid f3
      clear f3 hfit i0 i1 i2 i3 j0 j1 j2 j3
      go_wp2
      go_ret
      rw [HE.out]
      exact ⟨rfl, F2.out.trans F3.out (fun _ _ h => h)⟩
    | true =>
      go_wp2_with fail
      refine hfit.mono ?_
      rintro e w3 ⟨rfl, f3⟩
      have F3 := Lib.hid f3
      clear f3 hfit i0 i1 i2 i3 j0 j1 j2 j3
      go_wp2
      go_ret
      rw [HE.out]
      exact ⟨rfl, F2.out.trans F3.out (fun _ _ h => h)⟩
end
section
/-- A node: its two numbers, how many it has below it, and which ('nil' stands for those that there aren't). -/
inductive KN where
  | nil
  | mk (k n : Nat) (c : Nat) (of : Nat → KN)

/-- The value v shows the node t. -/
def NShows (w : World) : KN → Value → Prop
  | .nil, _ => False
  | .mk k n c of, v => ∃ vo, v = .agg #[.int .u8 k, .int .u8 n, vo] ∧ k ≤ 255 ∧ n ≤ 255 ∧ c ≤ maxLen ∧
    ((c = 0 ∧ ∃ a cap, vo = .slice a 0 cap) ∨
     ∃ g off cap, vo = .slice (some ⟨g, off, none⟩) c cap ∧ c ≤ cap ∧ ∀ i, i < c → ∃ x0 x1 x2,
      w.cell? ⟨g, off + i * 3, none⟩ = some x0 ∧ w.cell? ⟨g, off + i * 3 + 1, none⟩ = some x1 ∧ w.cell? ⟨g, off + i * 3 + 2, none⟩ = some x2 ∧ NShows w (of i) (.agg #[x0, x1, x2]))

theorem NShows.fr {w w' : World} (hf : Fr (fun _ => False) w w') (t : KN) : ∀ v, NShows w t v → NShows w' t v := by
  induction t with
  | nil => exact fun _ h => h.elim
  | mk k n c of ih =>
    rintro v ⟨vo, rfl, hk, hn, hc, ho⟩
    refine ⟨vo, rfl, hk, hn, hc, ?_⟩
    rcases ho with h | ⟨g, off, cap, rfl, hle, hcell⟩
    · exact .inl h
    · refine .inr ⟨g, off, cap, rfl, hle, fun i hi => ?_⟩
      obtain ⟨x0, x1, x2, c0, c1, c2, hx⟩ := hcell i hi
      exact ⟨x0, x1, x2, cell_fr (R := fun _ => True) hf (fun _ _ h => h) trivial c0, cell_fr (R := fun _ => True) hf (fun _ _ h => h) trivial c1, cell_fr (R := fun _ => True) hf (fun _ _ h => h) trivial c2, ih i _ hx⟩

theorem NShows.cells {w : World} {t : KN} {v : Value} (h : NShows w t v) : ∃ (k n : Nat) (a : Option Addr) (c cap : Nat), v = .agg #[.int .u8 k, .int .u8 n, .slice a c cap] := by
  cases t with
  | nil => exact h.elim
  | mk k n c of =>
    obtain ⟨vo, rfl, _, _, _, ⟨_, a, cap, rfl⟩ | ⟨g, off, cap, rfl, _⟩⟩ := h
    · exact ⟨k, n, a, 0, cap, rfl⟩
    · exact ⟨k, n, _, c, cap, rfl⟩

/-- Is it small? -/
def lightE : KN → Nat → Bool
  | .nil, _ => true
  | .mk _ _ c of, d => (List.range c).all (fun i => decide (1 ≤ d) && lightE (of i) (d - 1)) && decide (c ≤ 3)

set_option maxRecDepth 100000 in
theorem light_any (t : KN) : ∀ (v : Value) (w : World) (d : Nat) (dz : Int), dz = d → d ≤ 100 → NShows w t v →
    Calls Try.prog 8 #[v, .int .i64 dz] w fun e w' => e = .returned (.bool (lightE t d)) ∧ Fr (fun _ => False) w w' := by
  induction t with
  | nil => exact fun _ _ _ _ _ _ h => h.elim
  | mk k n c of ih =>
  intro v w d dz hdz hd hsh
  obtain ⟨vo, rfl, hk, hn, hc, ho⟩ := hsh
  obtain ⟨a, cap, rfl, hs⟩ : ∃ a cap, vo = .slice a c cap ∧ (c = 0 ∨ c ≤ cap ∧ ∃ g off, a = some ⟨g, off, none⟩ ∧ ∀ i, i < c → ∃ x0 x1 x2,
      w.cell? ⟨g, off + i * 3, none⟩ = some x0 ∧ w.cell? ⟨g, off + i * 3 + 1, none⟩ = some x1 ∧ w.cell? ⟨g, off + i * 3 + 2, none⟩ = some x2 ∧ NShows w (of i) (.agg #[x0, x1, x2])) := by
    rcases ho with ⟨rfl, a, cap, rfl⟩ | ⟨g, off, cap, rfl, hle, hcell⟩
    · exact ⟨a, cap, rfl, .inl rfl⟩
    · exact ⟨_, cap, rfl, .inr ⟨hle, g, off, rfl, hcell⟩⟩
  have Hs := Lib.hid hs
  have Hdz := Lib.hid hdz
  unfold maxLen at hc
  have hd0 : 0 ≤ dz := by omega
  have hd1 : dz ≤ 100 := by omega
  clear ho hs hdz
  obtain ⟨w0, hw0⟩ : ∃ w0, w0 = w.alloc (.cells #[.int .u8 k, .int .u8 n, .slice a c cap] 24) := ⟨_, rfl⟩
  have f0 : Hid (Fr (fun _ => False) w w0) := Lib.hid (by rw [hw0]; exact (Fr.refl _ _).alloc _)
  have q0 : Hid (w0.heap[w.heap.size]? = some (.cells #[.int .u8 k, .int .u8 n, .slice a c cap] 24 (0, 0))) := Lib.hid (by rw [hw0]; exact heap_alloc_new _ _)
  go_enter Try.func8, Try.ntmps8
  go_wp2
  rw [← hw0]
  clear hw0
  go_loopg [6, 10] c (fun G u6 u10 wr => ∃ j : Nat, j ≤ c ∧ G = c - j ∧ u10 = .int .i64 j ∧ Hid (Fr (fun _ => False) w wr ∧ (wr.heap[w.heap.size]? = some (.cells #[.int .u8 k, .int .u8 n, .slice a c cap] 24 (0, 0))) ∧ ∀ i, i < j → (decide (1 ≤ d) && lightE (of i) (d - 1)) = true))
  case atStart => exact ⟨0, Nat.zero_le _, rfl, by go_num, Lib.hid ⟨f0.out, q0.out, fun i hi => by omega⟩⟩
  case round =>
    obtain ⟨j, hj, rfl, rfl, HI⟩ := hrel
    by_cases hlt : j < c
    · rcases Hs.out with hz | ⟨hcap, g, off, rfl, hcell⟩
      · omega
      obtain ⟨x0, x1, x2, y0, y1, y2, hx⟩ := hcell j hlt
      have y0 := cell_fr (R := fun _ => True) HI.out.1 (fun _ _ h => h) trivial y0
      have y1 := cell_fr (R := fun _ => True) HI.out.1 (fun _ _ h => h) trivial y1
      have y2 := cell_fr (R := fun _ => True) HI.out.1 (fun _ _ h => h) trivial y2
      obtain ⟨pk, pn, pa, pc, pcap, e⟩ := hx.cells
      simp at e
      obtain ⟨rfl, rfl, rfl⟩ := e
      have HFalse := Lib.hid (show (decide (1 ≤ d) && lightE (of j) (d - 1)) = false → lightE (.mk k n c of) d = false from fun h => by
        unfold lightE
        have : (List.range c).all (fun i => decide (1 ≤ d) && lightE (of i) (d - 1)) = false := by
          rw [List.all_eq_false]
          exact ⟨j, List.mem_range.2 hlt, by simpa using h⟩
        rw [this]; rfl)
      by_cases hd2 : d = 0
      · have b1 : dz < 1 := by have := Hdz.out; omega
        have E := Lib.hid (HFalse.out (by rw [hd2]; rfl))
        clear hcell hx hd2
        go_wp2
        go_ret
        rw [E.out]
        exact ⟨rfl, HI.out.1.alloc _⟩
      · have b1 : ¬ dz < 1 := by have := Hdz.out; omega
        have fb : Fr (fun _ => False) w (wr.alloc (.cells #[.int .u8 pk, .int .u8 pn, .slice pa pc pcap] 24)) := HI.out.1.alloc _
        have hrec := ih j _ _ (d - 1) (dz - 1) (by have := Hdz.out; omega) (by omega) (NShows.fr fb _ _ hx)
        have FB := Lib.hid fb
        have HD := Lib.hid (show 1 ≤ d by omega)
        clear hcell hx fb hd2
        cases hB : lightE (of j) (d - 1) with
        | true =>
          rw [hB] at hrec
          have HB := Lib.hid hB
          clear hB
          go_wp2_with fail
          refine hrec.mono ?_
          rintro e w5 ⟨rfl, f5⟩
          have F5 := Lib.hid f5
          clear f5 hrec
          go_wp2
          go_roundg (c - (j + 1))
          case measure => omega
          case rel => exact ⟨j + 1, by omega, rfl, by go_num, Lib.hid ⟨FB.out.trans F5.out (fun _ _ h => h), box_kept (box_kept HI.out.2.1 ((Fr.refl (fun _ => False) _).alloc _) (fun h => h)) F5.out (fun h => h), fun i hi => by
            by_cases h : i < j
            · exact HI.out.2.2 i h
            · obtain rfl : i = j := by omega
              rw [HB.out, decide_eq_true HD.out]; rfl⟩⟩
        | false =>
          rw [hB] at hrec
          have E := Lib.hid (HFalse.out (by rw [hB]; simp))
          clear hB
          go_wp2_with fail
          refine hrec.mono ?_
          rintro e w5 ⟨rfl, f5⟩
          have F5 := Lib.hid f5
          clear f5 hrec
          go_wp2
          go_ret
          rw [E.out]
          exact ⟨rfl, FB.out.trans F5.out (fun _ _ h => h)⟩
    · obtain rfl : j = c := by omega
      have y2 := cells_row HI.out.2.1 2 _ rfl
      have E : Hid (lightE (.mk k n j of) d = decide ((j : Int) ≤ 3)) := Lib.hid (by
        unfold lightE
        rw [List.all_eq_true.2 (fun i hi => HI.out.2.2 i (List.mem_range.1 hi)), Bool.true_and, Bool.eq_iff_iff]
        simp
        omega)
      go_wp2
      go_ret
      rw [E.out]
      exact ⟨rfl, HI.out.1⟩
end
section
/-- The name of number i, by a small number. -/
def nameT (i : Nat) (n : Int) : Txt := [UInt8.ofNat (97 + i), UInt8.ofNat (65 + n % 26).toNat, 48]

set_option maxRecDepth 100000 in
theorem nameOf_any (i : Nat) (hi : i ≤ 3) (n : Int) (h0 : 0 ≤ n) (h1 : n ≤ 255) (w : World) :
    Calls Try.prog 27 #[.int .i64 i, .int .u8 n] w fun e w' => e = .returned (sv (nameT i n)) ∧ Fr (fun _ => False) w w' := by
  have hconv : ∀ c0 : Int, 0 ≤ c0 → c0 ≤ 255 → (convert 26 9 (.slice (some ⟨w.heap.size, 0, none⟩) 3 3)).run Try.prog (w.alloc (.cells #[.int .u8 c0, .int .u8 (65 + n % 26), .int .u8 48] 5)) = .ok (.string ⟨[UInt8.ofNat c0.toNat, UInt8.ofNat (65 + n % 26).toNat, 48].toArray⟩) (w.alloc (.cells #[.int .u8 c0, .int .u8 (65 + n % 26), .int .u8 48] 5)) := by
    intro c0 a0 a1
    have e0 := bv_of c0 a0 a1
    have e1 := bv_of (65 + n % 26) (by omega) (by omega)
    refine Sees.string (P := Try.prog) (sees_new w.heap.size (heap_alloc_new w _) (c := 3) (l := [UInt8.ofNat c0.toNat, UInt8.ofNat (65 + n % 26).toNat, 48]) (fun j hj => ?_) (by simp)) 26 5 9 Try.underlying26 Try.underlying5 Try.underlying9
    simp at hj
    rcases (by omega : j = 0 ∨ j = 1 ∨ j = 2) with rfl | rfl | rfl
    · simp [← e0]
    · simp [← e1]
    · rfl
  have q0 := hconv 97 (by omega) (by omega)
  have q1 := hconv 98 (by omega) (by omega)
  have q2 := hconv 99 (by omega) (by omega)
  have q3 := hconv 100 (by omega) (by omega)
  clear hconv
  rcases (by omega : i = 0 ∨ i = 1 ∨ i = 2 ∨ i = 3) with rfl | rfl | rfl | rfl <;>
  (go_enter Try.func27, Try.ntmps27
   go_wp2
   go_ret
   exact ⟨rfl, (Fr.refl _ _).alloc _⟩)
end
section
/-- The kind that a node's type has. -/
def kindE (kd d : Nat) (known : List Txt) : Nat :=
  if kd % 10 = 9 ∧ known.length = 0 ∨ d ≤ 1 ∧ (kd % 10 = 5 ∨ kd % 10 = 6 ∨ kd % 10 = 8) then 1 else kd % 10

/-- The type of kind k by small numbers, its parts by 'sub'. -/
def mkE (known : List Txt) (k n : Nat) (sub : Nat → KT) : KT :=
  if k = 4 then .mk 4 (1 + (n % 60 : Nat)) [] 0 (fun _ => .nil)
  else if k = 5 then .mk 5 (1 + (n % 60 : Nat)) [] 1 (fun _ => sub 0)
  else if k = 6 ∨ k = 8 then .mk k 0 ((List.range (1 + n % 3)).map (fun i => nameT i n)) (1 + n % 3) sub
  else if k = 7 then .mk 7 0 ((List.range (1 + n % 3)).map (fun i => nameT i n)) 0 (fun _ => .nil)
  else if k = 9 then .mk 9 0 [known.getD (n % known.length) []] 0 (fun _ => .nil)
  else .mk k 0 [] 0 (fun _ => .nil)

/-- A node's type, so deep at most. -/
def typeE (known : List Txt) : KN → Nat → KT
  | .nil, _ => .nil
  | .mk kd n c of, d => mkE known (kindE kd d known) n (fun i => if c = 0 then .mk (i % 4) 0 [] 0 (fun _ => .nil) else typeE known (of (i % c)) (d - 1))

def subE (known : List Txt) (c : Nat) (of : Nat → KN) (d i : Nat) : KT := if c = 0 then .mk (i % 4) 0 [] 0 (fun _ => .nil) else typeE known (of (i % c)) (d - 1)

theorem typeE_mk (known : List Txt) (kd n c : Nat) (of : Nat → KN) (d : Nat) : typeE known (.mk kd n c of) d = mkE known (kindE kd d known) n (subE known c of d) := rfl

def TypeAt (known : List Txt) (t : KN) : Prop := ∀ (R : Nat → Prop) (v vk : Value) (w : World) (d : Nat) (dz : Int), dz = d → 1 ≤ d → d ≤ 100 → NShows w t v → Texts R w known vk →
  Calls Try.prog 15 #[v, .int .i64 dz, vk] w fun e w' => ∃ v', e = .returned v' ∧ Shows (fun k => w.heap.size ≤ k) w' (typeE known t d) v' ∧ Fr (fun _ => False) w w'

theorem texts_none (R : Nat → Prop) (w : World) (a : Option Addr) (c : Nat) : Texts R w [] (.slice a 0 c) := ⟨by simp, by simp, .inl ⟨rfl, _, _, rfl⟩⟩

/-- A type in a new block of its own: ahead of the call, behind it, behind the store. -/
def OneS (w : World) (T : KT) : List Value → World → Prop
  | [], wx => Fr (fun _ => False) w wx ∧ wx.heap[w.heap.size]? = some (.cells #[.int .u8 0, .int .i64 0, .slice none 0 0, .slice none 0 0] 34 (0, 0))
  | [v], wx => Fr (fun _ => False) w wx ∧ wx.heap[w.heap.size]? = some (.cells #[.int .u8 0, .int .i64 0, .slice none 0 0, .slice none 0 0] 34 (0, 0)) ∧ Shows (fun k => w.heap.size + 1 ≤ k) wx T v
  | _ :: _ :: _, wx => Fr (fun _ => False) w wx ∧ ∃ y0 y1 y2 y3, wx.heap[w.heap.size]? = some (.cells #[y0, y1, y2, y3] 34 (0, 0)) ∧ Shows (fun k => w.heap.size + 1 ≤ k) wx T (.agg #[y0, y1, y2, y3])

theorem OneS.fr {w : World} {T : KT} {cvs : List Value} {wx : World} (h : OneS w T cvs wx) : Fr (fun _ => False) w wx := by
  match cvs with
  | [] => exact h.1
  | [_] => exact h.1
  | _ :: _ :: _ => exact h.1

set_option maxRecDepth 100000 in
theorem sub_any (known : List Txt) (kd n c : Nat) (of : Nat → KN) (ih : ∀ i, TypeAt known (of i)) (R : Nat → Prop) (a vk : Value) (w : World) (d : Nat) (dz : Int) (bn bd bk i : Nat) (hi : i ≤ 100) (hdz : dz = d) (hd1 : 2 ≤ d) (hd : d ≤ 100)
    (hn : w.heap[bn]? = some (.cells #[.int .u8 kd, .int .u8 n, a] 24 (0, 0))) (hbd : w.heap[bd]? = some (.cells #[.int .i64 dz] 3 (0, 0))) (hbk : w.heap[bk]? = some (.cells #[vk] 31 (0, 0)))
    (hsh : NShows w (.mk kd n c of) (.agg #[.int .u8 kd, .int .u8 n, a])) (hk : Texts R w known vk) :
    Calls Try.prog 26 #[.int .i64 i, .pointer (some ⟨bn, 0, none⟩), .pointer (some ⟨bd, 0, none⟩), .pointer (some ⟨bk, 0, none⟩)] w fun e w' => ∃ v', e = .returned v' ∧ Shows (fun k => w.heap.size ≤ k) w' (subE known c of d i) v' ∧ Fr (fun _ => False) w w' := by
  obtain ⟨vo, e, _, _, hc, ho⟩ := hsh
  simp at e
  subst e
  have hln := lt_of_block hn
  have hlbd := lt_of_block hbd
  have hlbk := lt_of_block hbk
  by_cases hc0 : c = 0
  · subst hc0
    obtain ⟨aa, cap, rfl⟩ : ∃ aa cap, a = .slice aa 0 cap := by
      rcases ho with ⟨_, aa, cap, rfl⟩ | ⟨g, off, cap, rfl, _⟩
      · exact ⟨aa, cap, rfl⟩
      · exact ⟨_, cap, rfl⟩
    have y2 := cells_row hn 2 _ rfl
    have i0 : (0 : Int) ≤ (i : Int) := by omega
    have i1 : (i : Int) ≤ 100 := by omega
    have z : ((w.alloc (.cells #[.int .u8 0, .int .i64 0, .slice none 0 0, .slice none 0 0] 34)).heap[w.heap.size]?) = some (.cells #[.int .u8 0, .int .i64 0, .slice none 0 0, .slice none 0 0] 34 (0, 0)) := heap_alloc_new _ _
    have Hz := Lib.hid z
    clear hdz hbd hbk hk ho hn z hc hd1 hd ih
    go_enter Try.func26, Try.ntmps26
    go_wp2
    refine bodyPost_ret (results_cell_row rfl _ _ w.heap.size 34 _ _ _ rfl (heap_alloc_new _ _) Try.underlying34 rfl (by kernel_rfl)) rfl ?_
    refine ⟨_, rfl, ?_, (Fr.refl _ _).alloc _⟩
    unfold subE
    rw [if_pos rfl]
    exact ⟨.slice none 0 0, .slice none 0 0, by simp, by omega, by omega, texts_none _ _ _ _, .inl ⟨rfl, _, _, rfl⟩⟩
  · obtain ⟨g, off, cap, rfl, hle, hcell⟩ : ∃ g off cap, a = .slice (some ⟨g, off, none⟩) c cap ∧ c ≤ cap ∧ ∀ i, i < c → ∃ x0 x1 x2,
      w.cell? ⟨g, off + i * 3, none⟩ = some x0 ∧ w.cell? ⟨g, off + i * 3 + 1, none⟩ = some x1 ∧ w.cell? ⟨g, off + i * 3 + 2, none⟩ = some x2 ∧ NShows w (of i) (.agg #[x0, x1, x2]) := by
      rcases ho with ⟨h, _⟩ | h
      · exact absurd h hc0
      · exact h
    obtain ⟨q, hq⟩ : ∃ q, q = i % c := ⟨_, rfl⟩
    have hq1 : q ≤ 100 := by rw [hq]; exact Nat.le_trans (Nat.mod_le _ _) hi
    have hqc : q < c := by rw [hq]; exact Nat.mod_lt _ (by omega)
    have hqz : (i : Int) % (c : Int) = (q : Int) := by rw [hq]; rfl
    obtain ⟨x0, x1, x2, c0, c1, c2, hx⟩ := hcell q hqc
    obtain ⟨pk, pn, pa, pc, pcap, e⟩ := hx.cells
    simp at e
    obtain ⟨rfl, rfl, rfl⟩ := e
    have HS : Hid (subE known c of d i = typeE known (of q) (d - 1)) := Lib.hid (by unfold subE; rw [if_neg hc0, hq])
    have HC := Lib.hid (fun (wx : World) (f : Fr (fun _ => False) w wx) => ih q R _ vk wx (d - 1) (dz - 1) (by omega) (by omega) (by omega) (NShows.fr f _ _ hx) (hk.fr f (fun _ _ h => h)))
    have HQ := Lib.hid (fun (wx : World) (f : Fr (fun _ => False) w wx) =>
      have up : ∀ {gg o : Nat} {u : Value}, w.cell? ⟨gg, o, none⟩ = some u → wx.cell? ⟨gg, o, none⟩ = some u := fun h => cell_fr (R := fun _ => True) f (fun _ _ h => h) trivial h
      And.intro (up (cells_row hn 2 _ rfl)) (And.intro (up (cell_of_one hbd)) (And.intro (up (cell_of_one hbk)) (And.intro (up c0) (And.intro (up c1) (up c2))))))
    have i0 : (0 : Int) ≤ (i : Int) := by omega
    have i1 : (i : Int) ≤ 100 := by omega
    have i2 : (0 : Int) ≤ (q : Int) := by omega
    have i3 : (q : Int) < (c : Int) := by omega
    have i4 : ¬ (c : Int) = 0 := by omega
    have i5 : 1 ≤ dz := by omega
    have d1 : IntKind.i64.wrap (dz - 1) = dz - 1 := IntWalk.i64_in _ (by omega)
    have d2 : wrap64 (dz - 1) = dz - 1 := IntWalk.wrap64_in _ (by omega)
    have d3 : Int.tmod (i : Int) (c : Int) = (q : Int) := by rw [Int.tmod_eq_emod_of_nonneg (by omega)]; exact hqz
    have d4 : IntKind.i64.wrap (q : Int) = (q : Int) := IntWalk.i64_in _ (by omega)
    have i6 : dz ≤ 100 := by omega
    have i7 : ((c : Int) == 0) = false := by simpa using hc0
    have hcm : (c : Int) ≤ 9223372036854775807 := by unfold maxLen at hc; omega
    have y2 := cells_row hn 2 _ rfl
    clear hdz hbd hbk hk ho hn hd1 hd ih hq hcell c0 c1 c2 hx hc
    obtain ⟨w0, hw0⟩ : ∃ w0, w0 = w.alloc (.cells #[.int .u8 0, .int .i64 0, .slice none 0 0, .slice none 0 0] 34) := ⟨_, rfl⟩
    have F0 : Hid (Fr (fun _ => False) w w0 ∧ w0.heap[w.heap.size]? = some (.cells #[.int .u8 0, .int .i64 0, .slice none 0 0, .slice none 0 0] 34 (0, 0))) := Lib.hid (by rw [hw0]; exact ⟨(Fr.refl _ _).alloc _, heap_alloc_new _ _⟩)
    go_enter Try.func26, Try.ntmps26
    go_wp2_with fail
    rw [← hw0]
    clear hw0 y2
    refine wp_region_chain (by kernel_rfl) [some 14, some 15, some 16, some 17, some 18, some 19, some 20, some 21, some 22, some 23, some 24, some 25, some 26, none] rfl (by decide) (by intro d hd; simp at hd ⊢; omega)
      [12, 13] (OneS w (typeE known (of q) (d - 1)))
      [.free (.pointer (some ⟨bn, 2, none⟩)), .free (.slice (some ⟨g, off, none⟩) c cap), .free (.int .i64 i), .free (.pointer (some ⟨bn, 2, none⟩)), .free (.slice (some ⟨g, off, none⟩) c cap), .free (.int .i64 c), .free (.int .i64 q), .free (.pointer (some ⟨g, off + q * 3, none⟩)),
       .free (.agg #[.int .u8 pk, .int .u8 pn, .slice pa pc pcap]), .free (.int .i64 dz), .free (.int .i64 (dz - 1)), .free vk, .link none, .link none]
      (by kernel_rfl) (by kernel_rfl) ?h0 ?step ?fin
    case h0 => exact ⟨F0.out.1.drew, F0.out.2⟩
    case step =>
      intro vals
      simp only [frOfU, fillU, List.setIfInBounds_toArray, List.set_cons_succ, List.set_cons_zero]
      repeat' (first | exact AllOps.nil | refine AllOps.cons ?_ ?_)
      all_goals
        intro cvs wx hS he hu hlim K hK
        clear hu
        simp only [Act.put, List.setIfInBounds_toArray, List.set_cons_succ, List.set_cons_zero, List.getD_cons_zero, List.getD_cons_succ] at hK
        simp only [List.mem_cons, List.not_mem_nil, or_false, forall_eq_or_imp, forall_eq, Region.binds, forall_const, false_imp_iff, List.getD_cons_zero, List.getD_cons_succ, OpSort.val, Option.some.injEq, forall_eq', reduceCtorEq, implies_true, true_and, and_true] at he
        have FX := Lib.hid hS.fr
        obtain ⟨r0, r1, r2, r3, r4, r5⟩ := HQ.out wx hS.fr
        simp only [List.getElem_toArray, List.getElem_cons_succ, List.getElem_cons_zero] at r0
        have HSX := Lib.hid hS
        clear hS
      all_goals first | (clear hlim; (try simp only [he] at hK ⊢); go_simp; exact hK) | skip
      · obtain rfl := hlim (0 : Nat) rfl
        have h1 := HSX.out
        simp only [List.take_zero, List.map_nil] at h1
        simp only [he] at hK ⊢
        go_simp
        go_at_call 15
        refine (HC.out wx FX.out).mono ?_
        rintro e1 wa ⟨v', rfl, hsv, fa⟩
        refine hK _ _ (fun _ h => by cases h) ⟨FX.out.trans fa (fun _ _ h => h), box_kept h1.2 fa (fun h => h), Shows.mono (fun k _ hk => ?_) _ _ hsv⟩
        have := lt_of_block h1.2
        omega
      · obtain rfl := hlim (1 : Nat) rfl
        have h1 := HSX.out
        clear HSX hlim
        simp only [List.take_succ_cons, List.take_zero, List.map_cons, List.map_nil] at h1 hK
        obtain ⟨_, hb, hs⟩ := h1
        obtain ⟨tk, tm, ta, tn, tc, ta', tn', tc', e12⟩ := hs.four
        have z0 : wx.frozen? ⟨w.heap.size, 0, none⟩ = false := by simp [World.frozen?, hb]
        have z1 : wx.frozen? ⟨w.heap.size, 1, none⟩ = false := by simp [World.frozen?, hb]
        have z2 : wx.frozen? ⟨w.heap.size, 2, none⟩ = false := by simp [World.frozen?, hb]
        have z3 : wx.frozen? ⟨w.heap.size, 3, none⟩ = false := by simp [World.frozen?, hb]
        obtain ⟨b0, b1, b2, b3⟩ := cell_of_four hb
        rw [e12] at hs
        have HB := Lib.hid (And.intro hb hs)
        clear hb hs
        simp only [he, e12] at hK ⊢
        go_simp
        refine hK undef _ (fun _ h => by cases h) ⟨fr_four _ _ _ _ FX.out (fun h => absurd h (Nat.lt_irrefl _)), _, _, _, _, store_four HB.out.1, Shows.fr (S := fun k => k = w.heap.size) (fr_four _ _ _ _ (Fr.refl _ _) (fun _ => rfl)) (fun k hk h => by omega) _ _ HB.out.2⟩
    case fin =>
      intro vals w' hS hV
      clear hV
      simp only [List.map_cons, List.map_nil] at hS
      obtain ⟨hf, y0, y1, y2, y3, hb, hs⟩ := hS
      have HF := Lib.hid (And.intro hf (And.intro hb hs))
      clear hf hb hs
      simp only [frOfU, fillU, List.setIfInBounds_toArray, List.set_cons_succ, List.set_cons_zero]
      go_wp2
      refine bodyPost_ret (results_cell_row rfl _ _ w.heap.size 34 _ _ _ rfl HF.out.2.1 Try.underlying34 rfl (by kernel_rfl)) rfl ?_
      rw [HS.out]
      exact ⟨_, rfl, Shows.mono (fun k _ h => Nat.le_trans (Nat.le_succ _) h) _ _ HF.out.2.2, HF.out.1⟩
end
section
/-- A node made a type, at one depth. -/
def TypeOne (known : List Txt) (t : KN) (d : Nat) : Prop := ∀ (R : Nat → Prop) (v vk : Value) (w : World) (dz : Int), dz = d → 1 ≤ d → d ≤ 100 → NShows w t v → Texts R w known vk →
  Calls Try.prog 15 #[v, .int .i64 dz, vk] w fun e w' => ∃ v', e = .returned v' ∧ Shows (fun k => w.heap.size ≤ k) w' (typeE known t d) v' ∧ Fr (fun _ => False) w w'

theorem heap_alloc_4 (w : World) (a b c x y : Obj) : (((((w.alloc a).alloc b).alloc c).alloc x).alloc y).heap[w.heap.size + 1 + 1 + 1]? = some x := by
  rw [Below.heap_alloc _ _ _ (by simp)]
  have := heap_alloc_new (((w.alloc a).alloc b).alloc c) x
  simpa using this

set_option maxRecDepth 100000 in
theorem type_k0 (known : List Txt) (kd n c : Nat) (of : Nat → KN) (d : Nat) (hkk : kd % 10 = 0) : TypeOne known (.mk kd n c of) d := by
  intro R v vk w dz hdz hd1 hd hsh hk
  obtain ⟨vo, rfl, hkd, hn, hc, ho⟩ := hsh
  obtain ⟨oa, on, oc, rfl⟩ : ∃ oa on oc, vo = .slice oa on oc := by
    rcases ho with ⟨_, aa, cap, rfl⟩ | ⟨g, off, cap, rfl, _⟩
    · exact ⟨aa, 0, cap, rfl⟩
    · exact ⟨_, c, cap, rfl⟩
  obtain ⟨ka, kc, rfl, hks⟩ := hk.shape
  have hl1 := hk.1
  have h10 : (kd : Int) % 10 = 0 := by omega
  have HT : Hid (typeE known (.mk kd n c of) d = .mk 0 0 [] 0 (fun _ => .nil)) := Lib.hid (by
    rw [typeE_mk]
    have e : kindE kd d known = 0 := by unfold kindE; rw [hkk]; simp
    rw [e]
    rfl)
  clear ho hk hks hkk hdz
  go_enter Try.func15, Try.ntmps15
  go_wp2
  all_goals refine bodyPost_ret (results_cell_row rfl _ _ (w.heap.size + 1 + 1 + 1) 34 _ _ _ rfl (heap_alloc_4 _ _ _ _ _ _) Try.underlying34 rfl (by kernel_rfl)) rfl ?_
  all_goals rw [HT.out]
  all_goals exact ⟨_, rfl, ⟨.slice none 0 0, .slice none 0 0, by simp, by omega, by omega, texts_none _ _ _ _, .inl ⟨rfl, _, _, rfl⟩⟩, (((((Fr.refl _ _).alloc _).alloc _).alloc _).alloc _).alloc _⟩

set_option maxRecDepth 100000 in
theorem type_k1 (known : List Txt) (kd n c : Nat) (of : Nat → KN) (d : Nat) (hkk : kd % 10 = 1) : TypeOne known (.mk kd n c of) d := by
  intro R v vk w dz hdz hd1 hd hsh hk
  obtain ⟨vo, rfl, hkd, hn, hc, ho⟩ := hsh
  obtain ⟨oa, on, oc, rfl⟩ : ∃ oa on oc, vo = .slice oa on oc := by
    rcases ho with ⟨_, aa, cap, rfl⟩ | ⟨g, off, cap, rfl, _⟩
    · exact ⟨aa, 0, cap, rfl⟩
    · exact ⟨_, c, cap, rfl⟩
  obtain ⟨ka, kc, rfl, hks⟩ := hk.shape
  have hl1 := hk.1
  have h10 : (kd : Int) % 10 = 1 := by omega
  have HT : Hid (typeE known (.mk kd n c of) d = .mk 1 0 [] 0 (fun _ => .nil)) := Lib.hid (by
    rw [typeE_mk]
    have e : kindE kd d known = 1 := by unfold kindE; rw [hkk]; simp
    rw [e]
    rfl)
  clear ho hk hks hkk hdz
  go_enter Try.func15, Try.ntmps15
  go_wp2
  all_goals refine bodyPost_ret (results_cell_row rfl _ _ (w.heap.size + 1 + 1 + 1) 34 _ _ _ rfl (heap_alloc_4 _ _ _ _ _ _) Try.underlying34 rfl (by kernel_rfl)) rfl ?_
  all_goals rw [HT.out]
  all_goals exact ⟨_, rfl, ⟨.slice none 0 0, .slice none 0 0, by simp, by omega, by omega, texts_none _ _ _ _, .inl ⟨rfl, _, _, rfl⟩⟩, (((((Fr.refl _ _).alloc _).alloc _).alloc _).alloc _).alloc _⟩

set_option maxRecDepth 100000 in
theorem type_k2 (known : List Txt) (kd n c : Nat) (of : Nat → KN) (d : Nat) (hkk : kd % 10 = 2) : TypeOne known (.mk kd n c of) d := by
  intro R v vk w dz hdz hd1 hd hsh hk
  obtain ⟨vo, rfl, hkd, hn, hc, ho⟩ := hsh
  obtain ⟨oa, on, oc, rfl⟩ : ∃ oa on oc, vo = .slice oa on oc := by
    rcases ho with ⟨_, aa, cap, rfl⟩ | ⟨g, off, cap, rfl, _⟩
    · exact ⟨aa, 0, cap, rfl⟩
    · exact ⟨_, c, cap, rfl⟩
  obtain ⟨ka, kc, rfl, hks⟩ := hk.shape
  have hl1 := hk.1
  have h10 : (kd : Int) % 10 = 2 := by omega
  have HT : Hid (typeE known (.mk kd n c of) d = .mk 2 0 [] 0 (fun _ => .nil)) := Lib.hid (by
    rw [typeE_mk]
    have e : kindE kd d known = 2 := by unfold kindE; rw [hkk]; simp
    rw [e]
    rfl)
  clear ho hk hks hkk hdz
  go_enter Try.func15, Try.ntmps15
  go_wp2
  all_goals refine bodyPost_ret (results_cell_row rfl _ _ (w.heap.size + 1 + 1 + 1) 34 _ _ _ rfl (heap_alloc_4 _ _ _ _ _ _) Try.underlying34 rfl (by kernel_rfl)) rfl ?_
  all_goals rw [HT.out]
  all_goals exact ⟨_, rfl, ⟨.slice none 0 0, .slice none 0 0, by simp, by omega, by omega, texts_none _ _ _ _, .inl ⟨rfl, _, _, rfl⟩⟩, (((((Fr.refl _ _).alloc _).alloc _).alloc _).alloc _).alloc _⟩

set_option maxRecDepth 100000 in
theorem type_k3 (known : List Txt) (kd n c : Nat) (of : Nat → KN) (d : Nat) (hkk : kd % 10 = 3) : TypeOne known (.mk kd n c of) d := by
  intro R v vk w dz hdz hd1 hd hsh hk
  obtain ⟨vo, rfl, hkd, hn, hc, ho⟩ := hsh
  obtain ⟨oa, on, oc, rfl⟩ : ∃ oa on oc, vo = .slice oa on oc := by
    rcases ho with ⟨_, aa, cap, rfl⟩ | ⟨g, off, cap, rfl, _⟩
    · exact ⟨aa, 0, cap, rfl⟩
    · exact ⟨_, c, cap, rfl⟩
  obtain ⟨ka, kc, rfl, hks⟩ := hk.shape
  have hl1 := hk.1
  have h10 : (kd : Int) % 10 = 3 := by omega
  have HT : Hid (typeE known (.mk kd n c of) d = .mk 3 0 [] 0 (fun _ => .nil)) := Lib.hid (by
    rw [typeE_mk]
    have e : kindE kd d known = 3 := by unfold kindE; rw [hkk]; simp
    rw [e]
    rfl)
  clear ho hk hks hkk hdz
  go_enter Try.func15, Try.ntmps15
  go_wp2
  all_goals refine bodyPost_ret (results_cell_row rfl _ _ (w.heap.size + 1 + 1 + 1) 34 _ _ _ rfl (heap_alloc_4 _ _ _ _ _ _) Try.underlying34 rfl (by kernel_rfl)) rfl ?_
  all_goals rw [HT.out]
  all_goals exact ⟨_, rfl, ⟨.slice none 0 0, .slice none 0 0, by simp, by omega, by omega, texts_none _ _ _ _, .inl ⟨rfl, _, _, rfl⟩⟩, (((((Fr.refl _ _).alloc _).alloc _).alloc _).alloc _).alloc _⟩

set_option maxRecDepth 100000 in
theorem type_k4 (known : List Txt) (kd n c : Nat) (of : Nat → KN) (d : Nat) (hkk : kd % 10 = 4) : TypeOne known (.mk kd n c of) d := by
  intro R v vk w dz hdz hd1 hd hsh hk
  obtain ⟨vo, rfl, hkd, hn, hc, ho⟩ := hsh
  obtain ⟨oa, on, oc, rfl⟩ : ∃ oa on oc, vo = .slice oa on oc := by
    rcases ho with ⟨_, aa, cap, rfl⟩ | ⟨g, off, cap, rfl, _⟩
    · exact ⟨aa, 0, cap, rfl⟩
    · exact ⟨_, c, cap, rfl⟩
  obtain ⟨ka, kc, rfl, hks⟩ := hk.shape
  have hl1 := hk.1
  have h10 : (kd : Int) % 10 = 4 := by omega
  have n60 : (0 : Int) ≤ (n : Int) % 60 ∧ (n : Int) % 60 ≤ 59 := by omega
  have N60 := Lib.hid n60
  clear n60
  have HT : Hid (typeE known (.mk kd n c of) d = .mk 4 (1 + (n % 60 : Nat)) [] 0 (fun _ => .nil)) := Lib.hid (by
    rw [typeE_mk]
    have e : kindE kd d known = 4 := by unfold kindE; rw [hkk]; simp
    rw [e]
    rfl)
  clear ho hk hks hkk hdz
  go_enter Try.func15, Try.ntmps15
  go_wp2
  all_goals refine bodyPost_ret (results_cell_row rfl _ _ (w.heap.size + 1 + 1 + 1) 34 _ _ _ rfl (heap_alloc_4 _ _ _ _ _ _) Try.underlying34 rfl (by kernel_rfl)) rfl ?_
  all_goals rw [HT.out]
  all_goals exact ⟨_, rfl, ⟨.slice none 0 0, .slice none 0 0, by simp, by omega, by omega, texts_none _ _ _ _, .inl ⟨rfl, _, _, rfl⟩⟩, (((((Fr.refl _ _).alloc _).alloc _).alloc _).alloc _).alloc _⟩

set_option maxRecDepth 100000 in
theorem type_d5 (known : List Txt) (kd n c : Nat) (of : Nat → KN) (d : Nat) (hd2 : d = 1) (hkk : kd % 10 = 5) : TypeOne known (.mk kd n c of) d := by
  intro R v vk w dz hdz hd1 hd hsh hk
  obtain ⟨vo, rfl, hkd, hn, hc, ho⟩ := hsh
  obtain ⟨oa, on, oc, rfl⟩ : ∃ oa on oc, vo = .slice oa on oc := by
    rcases ho with ⟨_, aa, cap, rfl⟩ | ⟨g, off, cap, rfl, _⟩
    · exact ⟨aa, 0, cap, rfl⟩
    · exact ⟨_, c, cap, rfl⟩
  obtain ⟨ka, kc, rfl, hks⟩ := hk.shape
  have hl1 := hk.1
  have h10 : (kd : Int) % 10 = 5 := by omega
  obtain rfl : dz = 1 := by omega
  have HT : Hid (typeE known (.mk kd n c of) d = .mk 1 0 [] 0 (fun _ => .nil)) := Lib.hid (by
    rw [typeE_mk]
    have e : kindE kd d known = 1 := by unfold kindE; rw [hkk]; simp [hd2]
    rw [e]
    rfl)
  clear ho hk hks hkk hdz hd2 hd1 hd
  go_enter Try.func15, Try.ntmps15
  go_wp2
  all_goals refine bodyPost_ret (results_cell_row rfl _ _ (w.heap.size + 1 + 1 + 1) 34 _ _ _ rfl (heap_alloc_4 _ _ _ _ _ _) Try.underlying34 rfl (by kernel_rfl)) rfl ?_
  all_goals rw [HT.out]
  all_goals exact ⟨_, rfl, ⟨.slice none 0 0, .slice none 0 0, by simp, by omega, by omega, texts_none _ _ _ _, .inl ⟨rfl, _, _, rfl⟩⟩, (((((Fr.refl _ _).alloc _).alloc _).alloc _).alloc _).alloc _⟩

set_option maxRecDepth 100000 in
theorem type_d6 (known : List Txt) (kd n c : Nat) (of : Nat → KN) (d : Nat) (hd2 : d = 1) (hkk : kd % 10 = 6) : TypeOne known (.mk kd n c of) d := by
  intro R v vk w dz hdz hd1 hd hsh hk
  obtain ⟨vo, rfl, hkd, hn, hc, ho⟩ := hsh
  obtain ⟨oa, on, oc, rfl⟩ : ∃ oa on oc, vo = .slice oa on oc := by
    rcases ho with ⟨_, aa, cap, rfl⟩ | ⟨g, off, cap, rfl, _⟩
    · exact ⟨aa, 0, cap, rfl⟩
    · exact ⟨_, c, cap, rfl⟩
  obtain ⟨ka, kc, rfl, hks⟩ := hk.shape
  have hl1 := hk.1
  have h10 : (kd : Int) % 10 = 6 := by omega
  obtain rfl : dz = 1 := by omega
  have HT : Hid (typeE known (.mk kd n c of) d = .mk 1 0 [] 0 (fun _ => .nil)) := Lib.hid (by
    rw [typeE_mk]
    have e : kindE kd d known = 1 := by unfold kindE; rw [hkk]; simp [hd2]
    rw [e]
    rfl)
  clear ho hk hks hkk hdz hd2 hd1 hd
  go_enter Try.func15, Try.ntmps15
  go_wp2
  all_goals refine bodyPost_ret (results_cell_row rfl _ _ (w.heap.size + 1 + 1 + 1) 34 _ _ _ rfl (heap_alloc_4 _ _ _ _ _ _) Try.underlying34 rfl (by kernel_rfl)) rfl ?_
  all_goals rw [HT.out]
  all_goals exact ⟨_, rfl, ⟨.slice none 0 0, .slice none 0 0, by simp, by omega, by omega, texts_none _ _ _ _, .inl ⟨rfl, _, _, rfl⟩⟩, (((((Fr.refl _ _).alloc _).alloc _).alloc _).alloc _).alloc _⟩

set_option maxRecDepth 100000 in
theorem type_d8 (known : List Txt) (kd n c : Nat) (of : Nat → KN) (d : Nat) (hd2 : d = 1) (hkk : kd % 10 = 8) : TypeOne known (.mk kd n c of) d := by
  intro R v vk w dz hdz hd1 hd hsh hk
  obtain ⟨vo, rfl, hkd, hn, hc, ho⟩ := hsh
  obtain ⟨oa, on, oc, rfl⟩ : ∃ oa on oc, vo = .slice oa on oc := by
    rcases ho with ⟨_, aa, cap, rfl⟩ | ⟨g, off, cap, rfl, _⟩
    · exact ⟨aa, 0, cap, rfl⟩
    · exact ⟨_, c, cap, rfl⟩
  obtain ⟨ka, kc, rfl, hks⟩ := hk.shape
  have hl1 := hk.1
  have h10 : (kd : Int) % 10 = 8 := by omega
  obtain rfl : dz = 1 := by omega
  have HT : Hid (typeE known (.mk kd n c of) d = .mk 1 0 [] 0 (fun _ => .nil)) := Lib.hid (by
    rw [typeE_mk]
    have e : kindE kd d known = 1 := by unfold kindE; rw [hkk]; simp [hd2]
    rw [e]
    rfl)
  clear ho hk hks hkk hdz hd2 hd1 hd
  go_enter Try.func15, Try.ntmps15
  go_wp2
  all_goals refine bodyPost_ret (results_cell_row rfl _ _ (w.heap.size + 1 + 1 + 1) 34 _ _ _ rfl (heap_alloc_4 _ _ _ _ _ _) Try.underlying34 rfl (by kernel_rfl)) rfl ?_
  all_goals rw [HT.out]
  all_goals exact ⟨_, rfl, ⟨.slice none 0 0, .slice none 0 0, by simp, by omega, by omega, texts_none _ _ _ _, .inl ⟨rfl, _, _, rfl⟩⟩, (((((Fr.refl _ _).alloc _).alloc _).alloc _).alloc _).alloc _⟩

set_option maxRecDepth 100000 in
theorem type_e9 (known : List Txt) (kd n c : Nat) (of : Nat → KN) (d : Nat) (hl : known.length = 0) (hkk : kd % 10 = 9) : TypeOne known (.mk kd n c of) d := by
  intro R v vk w dz hdz hd1 hd hsh hk
  obtain ⟨vo, rfl, hkd, hn, hc, ho⟩ := hsh
  obtain ⟨oa, on, oc, rfl⟩ : ∃ oa on oc, vo = .slice oa on oc := by
    rcases ho with ⟨_, aa, cap, rfl⟩ | ⟨g, off, cap, rfl, _⟩
    · exact ⟨aa, 0, cap, rfl⟩
    · exact ⟨_, c, cap, rfl⟩
  obtain ⟨ka, kc, rfl, hks⟩ := hk.shape
  have hl1 := hk.1
  have h10 : (kd : Int) % 10 = 9 := by omega
  rw [hl]
  have HT : Hid (typeE known (.mk kd n c of) d = .mk 1 0 [] 0 (fun _ => .nil)) := Lib.hid (by
    rw [typeE_mk]
    have e : kindE kd d known = 1 := by unfold kindE; rw [hkk]; simp [hl]
    rw [e]
    rfl)
  clear ho hk hks hkk hdz hl
  go_enter Try.func15, Try.ntmps15
  go_wp2
  all_goals refine bodyPost_ret (results_cell_row rfl _ _ (w.heap.size + 1 + 1 + 1) 34 _ _ _ rfl (heap_alloc_4 _ _ _ _ _ _) Try.underlying34 rfl (by kernel_rfl)) rfl ?_
  all_goals rw [HT.out]
  all_goals exact ⟨_, rfl, ⟨.slice none 0 0, .slice none 0 0, by simp, by omega, by omega, texts_none _ _ _ _, .inl ⟨rfl, _, _, rfl⟩⟩, (((((Fr.refl _ _).alloc _).alloc _).alloc _).alloc _).alloc _⟩
end
end Go.Proofs.Ytplipjijaaejlaa
