/-
  CouBack, part 26 of what it rests on: ValFit.
-/
import Derived.Test.YtplipjijaaejlaaGreatS17
import Derived.Test.YtplipjijaaejlaaGreatS25
set_option linter.unusedVariables false
set_option linter.unusedSimpArgs false
set_option maxHeartbeats 64000000
namespace Go.Proofs.YtplipjijaaejlaaGreat
open Go.RowKit
open Go.Lib (hid)
section
attribute [local go_sem] run_store_float

/-- IS A VALUE ONE OF A TYPE? -/
def fitsE : KT → VT → Bool
  | .nil, _ => false
  | .mk _ _ _ _ _, .nil => false
  | .mk k m ns n of, .mk N f s c ov =>
    if k = 0 then decide (0 ≤ N ∧ N ≤ 1) && sameV (.mk 0 f s c ov) zeroV
    else if k = 1 then decide (0 ≤ N ∧ N ≤ 65535) && sameV (.mk 0 f s c ov) zeroV
    else if k = 2 then decide (-2147483648 ≤ N ∧ N ≤ 2147483647) && sameV (.mk 0 f s c ov) zeroV
    else if k = 3 then true && sameV (.mk N 0 s c ov) zeroV
    else if k = 4 then decide ((s.length : Int) ≤ m) && sameV (.mk N f [] c ov) zeroV
    else if k = 7 then decide (0 ≤ N ∧ N ≤ (ns.length : Int) - 1) && sameV (.mk 0 f s c ov) zeroV
    else if k = 5 then (decide ((c : Int) ≤ m) && (decide (n = 1) && (List.range c).all (fun i => fitsE (of 0) (ov i)))) && sameV (.mk N f s 0 ov) zeroV
    else if k = 6 then (decide (c = n) && (List.range c).all (fun i => fitsE (of i) (ov i))) && sameV (.mk N f s 0 ov) zeroV
    else if k = 8 then (decide (0 ≤ N ∧ N ≤ (n : Int) - 1) && (decide (c = 1) && fitsE (of N.toNat) (ov 0))) && sameV (.mk 0 f s 0 ov) zeroV
    else false

def FitsAt (t : KT) : Prop := ∀ (R : Nat → Prop) (v vv : Value) (w : World) (T : VT), Shows R w t v → VShows R w T vv → szV T ≤ 100000 →
  Calls Tryz.prog 25 #[v, vv] w fun e w' => e = .returned (.bool (fitsE t T)) ∧ Fr (fun _ => False) w w'

theorem range_one (c : Nat) (ov : Nat → VT) : szV (.mk 0 0 [] c ov) = 1 + ((List.range c).map fun i => szV (ov i)).sum := rfl

set_option maxRecDepth 100000 in
theorem fit_k0 (k : Nat) (m : Int) (ns : List Txt) (n : Nat) (of : Nat → KT) (hk0 : k = 0) : FitsAt (.mk k m ns n of) := by
  intro R v vv w T hsh hvs hsz
  have HSH := Lib.hid (Shows.mono (S := fun k => R k ∧ k < w.heap.size) (fun k hk h => ⟨h, hk⟩) _ _ hsh)
  have HVS := Lib.hid (VShows.mono (S := fun k => R k ∧ k < w.heap.size) (fun k hk h => ⟨h, hk⟩) _ _ hvs)
  clear hvs
  obtain ⟨N, f, s, c, ov, va, cap, rfl, rfl, hVB, hVK⟩ := vshows_open HVS.out
  obtain ⟨vn, vo, rfl, hk, hn, ht, ho⟩ := hsh
  obtain ⟨na, nc, rfl, _⟩ := ht.shape
  obtain ⟨a', c', rfl⟩ : ∃ a' c', vo = .slice a' n c' := by
    rcases ho with ⟨rfl, a', c', rfl⟩ | ⟨g, off, cap, hg, rfl, hle, hc⟩
    · exact ⟨a', c', rfl⟩
    · exact ⟨_, cap, rfl⟩
  have hns : ns.length ≤ 1000 := ht.1
  obtain ⟨hN0, hN1, hf64, hsl, hc5⟩ := hVB
  have HB := Lib.hid (And.intro hN0 (And.intro hN1 (And.intro hf64 (And.intro hsl hc5))))
  have HVK := Lib.hid hVK
  have HSZ := Lib.hid hsz
  have HK0 := Lib.hid hk0
  unfold sv
  obtain ⟨kz, hkz⟩ : ∃ kz : Int, (k : Int) = kz := ⟨_, rfl⟩
  rw [hkz]
  have HKZ := Lib.hid hkz
  have e0 : (kz == 0) = true := by simp; omega
  obtain ⟨w1, hw1⟩ : ∃ w1, w1 = (w.alloc (.cells #[.int .u8 kz, .int .i64 m, .slice na ns.length nc, .slice a' n c'] 34)).alloc (.cells #[.int .i64 N, .float .f64 f, .string ⟨s.toArray⟩, .slice va c cap] 39) := ⟨_, rfl⟩
  have f1 : Fr (fun _ => False) w w1 := by rw [hw1]; exact ((Fr.refl _ _).alloc _).alloc _
  have q1 : w1.heap[w.heap.size]? = some (.cells #[.int .u8 kz, .int .i64 m, .slice na ns.length nc, .slice a' n c'] 34 (0, 0)) := by rw [hw1]; exact heap_alloc_first _ _ _
  have v1 : w1.heap[w.heap.size + 1]? = some (.cells #[.int .i64 N, .float .f64 f, .string ⟨s.toArray⟩, .slice va c cap] 39 (0, 0)) := by rw [hw1]; exact heap_alloc_two _ _ _
  go_enter Tryz.func25, Tryz.ntmps25
  go_upto_region 2 with fail
  rw [← hw1]
  obtain ⟨vb, hvb⟩ : ∃ vb, w.heap.size + 1 = vb := ⟨_, rfl⟩
  rw [hvb] at v1 ⊢
  have HVBX := Lib.hid hvb
  have o1 : w.heap.size ≠ vb := by omega
  have o2 : vb ≠ w.heap.size := by omega
  have c0 := cells_row q1 0 _ rfl
  have c1 := cells_row q1 1 _ rfl
  have c2 := cells_row q1 2 _ rfl
  have c3 := cells_row q1 3 _ rfl
  have d0 := cells_row v1 0 _ rfl
  have d1 := cells_row v1 1 _ rfl
  have d2 := cells_row v1 2 _ rfl
  have d3 := cells_row v1 3 _ rfl
  have z0 : w1.frozen? ⟨vb, 0, none⟩ = false := by simp [World.frozen?, v1]
  have z1 : w1.frozen? ⟨vb, 1, none⟩ = false := by simp [World.frozen?, v1]
  have z2 : w1.frozen? ⟨vb, 2, none⟩ = false := by simp [World.frozen?, v1]
  have z3 : w1.frozen? ⟨vb, 3, none⟩ = false := by simp [World.frozen?, v1]
  have H1 := Lib.hid (And.intro f1 (And.intro q1 v1))
  clear hw1 f1 q1 v1 hvb hkz hk0 hk hn ht ho hVK hsz hN0 hN1 hf64 hsl hc5
  obtain ⟨B, hB⟩ : ∃ B, decide (0 ≤ N ∧ N ≤ 1) = B := ⟨_, rfl⟩
  have hw := within_told N 0 1 B hB w1
  have HBB := Lib.hid hB
  clear hB
  go_wp2_with fail
  refine hw.mono ?_
  rintro e w1' ⟨rfl, rfl⟩
  clear hw
  go_upto_region 22 with fail
  obtain ⟨w2, hw2⟩ : ∃ w2, w2 = w1.setCell ⟨vb, 0, none⟩ (.int .i64 0) := ⟨_, rfl⟩
  rw [← hw2]
  have f2 : Fr (fun k => k = vb) w1 w2 := by rw [hw2]; exact (Fr.refl _ _).set1 _ _
  have v2 : w2.heap[vb]? = some (.cells #[.int .i64 0, .float .f64 f, .string ⟨s.toArray⟩, .slice va c cap] 39 (0, 0)) := by rw [hw2]; exact setCell_row 0 _ H1.out.2.2
  have hsame := vsame_any (fun k => R k ∧ k < w.heap.size) (.mk 0 f s c ov) zeroV (.agg #[.int .i64 0, .float .f64 f, .string ⟨s.toArray⟩, .slice va c cap]) _ w2 (vshows_mk (n := 0) (f := f) (s := s) (by have := HB.out; unfold VB; omega) (HVK.out.fr (H1.out.1.trans f2 (fun i hi h => by have := HVBX.out; omega)) (fun _ _ h => h))) (zeroV_shows _ _) (by have h := HSZ.out; simp only [szV] at h ⊢; first | exact h | (simp; try omega))
  have HE := Lib.hid (show fitsE (.mk k m ns n of) (.mk N f s c ov) = (B && sameV (.mk 0 f s c ov) zeroV) from by rw [← HBB.out]; have hk := HK0.out; subst hk; rw [fitsE]; simp)
  have d0 := cells_row v2 0 _ rfl
  have d1 := cells_row v2 1 _ rfl
  have d2 := cells_row v2 2 _ rfl
  have d3 := cells_row v2 3 _ rfl
  have F2 : Hid (Fr (fun _ => False) w w2) := Lib.hid (H1.out.1.trans f2 (fun i hi h => by have := HVBX.out; omega))
  clear hw2 f2 v2
  cases hB : B with
  | false =>
    clear hsame
    rw [hB] at HE
    clear hB
    go_wp2
    go_ret
    rw [HE.out]
    exact ⟨rfl, F2.out⟩
  | true =>
    rw [hB] at HE
    clear hB
    go_wp2_with fail
    refine hsame.mono ?_
    rintro e w3 ⟨rfl, f3⟩
    have F3 := Lib.hid f3
    clear f3 hsame
    go_wp2
    go_ret
    rw [HE.out]
    exact ⟨rfl, F2.out.trans F3.out (fun _ _ h => h)⟩

set_option maxRecDepth 100000 in
theorem fit_k1 (k : Nat) (m : Int) (ns : List Txt) (n : Nat) (of : Nat → KT) (hk0 : k = 1) : FitsAt (.mk k m ns n of) := by
  intro R v vv w T hsh hvs hsz
  have HSH := Lib.hid (Shows.mono (S := fun k => R k ∧ k < w.heap.size) (fun k hk h => ⟨h, hk⟩) _ _ hsh)
  have HVS := Lib.hid (VShows.mono (S := fun k => R k ∧ k < w.heap.size) (fun k hk h => ⟨h, hk⟩) _ _ hvs)
  clear hvs
  obtain ⟨N, f, s, c, ov, va, cap, rfl, rfl, hVB, hVK⟩ := vshows_open HVS.out
  obtain ⟨vn, vo, rfl, hk, hn, ht, ho⟩ := hsh
  obtain ⟨na, nc, rfl, _⟩ := ht.shape
  obtain ⟨a', c', rfl⟩ : ∃ a' c', vo = .slice a' n c' := by
    rcases ho with ⟨rfl, a', c', rfl⟩ | ⟨g, off, cap, hg, rfl, hle, hc⟩
    · exact ⟨a', c', rfl⟩
    · exact ⟨_, cap, rfl⟩
  have hns : ns.length ≤ 1000 := ht.1
  obtain ⟨hN0, hN1, hf64, hsl, hc5⟩ := hVB
  have HB := Lib.hid (And.intro hN0 (And.intro hN1 (And.intro hf64 (And.intro hsl hc5))))
  have HVK := Lib.hid hVK
  have HSZ := Lib.hid hsz
  have HK0 := Lib.hid hk0
  unfold sv
  obtain ⟨kz, hkz⟩ : ∃ kz : Int, (k : Int) = kz := ⟨_, rfl⟩
  rw [hkz]
  have HKZ := Lib.hid hkz
  have e0 : (kz == 0) = false := by simp; omega
  have e1 : (kz == 1) = true := by simp; omega
  obtain ⟨w1, hw1⟩ : ∃ w1, w1 = (w.alloc (.cells #[.int .u8 kz, .int .i64 m, .slice na ns.length nc, .slice a' n c'] 34)).alloc (.cells #[.int .i64 N, .float .f64 f, .string ⟨s.toArray⟩, .slice va c cap] 39) := ⟨_, rfl⟩
  have f1 : Fr (fun _ => False) w w1 := by rw [hw1]; exact ((Fr.refl _ _).alloc _).alloc _
  have q1 : w1.heap[w.heap.size]? = some (.cells #[.int .u8 kz, .int .i64 m, .slice na ns.length nc, .slice a' n c'] 34 (0, 0)) := by rw [hw1]; exact heap_alloc_first _ _ _
  have v1 : w1.heap[w.heap.size + 1]? = some (.cells #[.int .i64 N, .float .f64 f, .string ⟨s.toArray⟩, .slice va c cap] 39 (0, 0)) := by rw [hw1]; exact heap_alloc_two _ _ _
  go_enter Tryz.func25, Tryz.ntmps25
  go_upto_region 2 with fail
  rw [← hw1]
  obtain ⟨vb, hvb⟩ : ∃ vb, w.heap.size + 1 = vb := ⟨_, rfl⟩
  rw [hvb] at v1 ⊢
  have HVBX := Lib.hid hvb
  have o1 : w.heap.size ≠ vb := by omega
  have o2 : vb ≠ w.heap.size := by omega
  have c0 := cells_row q1 0 _ rfl
  have c1 := cells_row q1 1 _ rfl
  have c2 := cells_row q1 2 _ rfl
  have c3 := cells_row q1 3 _ rfl
  have d0 := cells_row v1 0 _ rfl
  have d1 := cells_row v1 1 _ rfl
  have d2 := cells_row v1 2 _ rfl
  have d3 := cells_row v1 3 _ rfl
  have z0 : w1.frozen? ⟨vb, 0, none⟩ = false := by simp [World.frozen?, v1]
  have z1 : w1.frozen? ⟨vb, 1, none⟩ = false := by simp [World.frozen?, v1]
  have z2 : w1.frozen? ⟨vb, 2, none⟩ = false := by simp [World.frozen?, v1]
  have z3 : w1.frozen? ⟨vb, 3, none⟩ = false := by simp [World.frozen?, v1]
  have H1 := Lib.hid (And.intro f1 (And.intro q1 v1))
  clear hw1 f1 q1 v1 hvb hkz hk0 hk hn ht ho hVK hsz hN0 hN1 hf64 hsl hc5
  obtain ⟨B, hB⟩ : ∃ B, decide (0 ≤ N ∧ N ≤ 65535) = B := ⟨_, rfl⟩
  have hw := within_told N 0 65535 B hB w1
  have HBB := Lib.hid hB
  clear hB
  go_wp2_with fail
  refine hw.mono ?_
  rintro e w1' ⟨rfl, rfl⟩
  clear hw
  go_upto_region 22 with fail
  obtain ⟨w2, hw2⟩ : ∃ w2, w2 = w1.setCell ⟨vb, 0, none⟩ (.int .i64 0) := ⟨_, rfl⟩
  rw [← hw2]
  have f2 : Fr (fun k => k = vb) w1 w2 := by rw [hw2]; exact (Fr.refl _ _).set1 _ _
  have v2 : w2.heap[vb]? = some (.cells #[.int .i64 0, .float .f64 f, .string ⟨s.toArray⟩, .slice va c cap] 39 (0, 0)) := by rw [hw2]; exact setCell_row 0 _ H1.out.2.2
  have hsame := vsame_any (fun k => R k ∧ k < w.heap.size) (.mk 0 f s c ov) zeroV (.agg #[.int .i64 0, .float .f64 f, .string ⟨s.toArray⟩, .slice va c cap]) _ w2 (vshows_mk (n := 0) (f := f) (s := s) (by have := HB.out; unfold VB; omega) (HVK.out.fr (H1.out.1.trans f2 (fun i hi h => by have := HVBX.out; omega)) (fun _ _ h => h))) (zeroV_shows _ _) (by have h := HSZ.out; simp only [szV] at h ⊢; first | exact h | (simp; try omega))
  have HE := Lib.hid (show fitsE (.mk k m ns n of) (.mk N f s c ov) = (B && sameV (.mk 0 f s c ov) zeroV) from by rw [← HBB.out]; have hk := HK0.out; subst hk; rw [fitsE]; simp)
  have d0 := cells_row v2 0 _ rfl
  have d1 := cells_row v2 1 _ rfl
  have d2 := cells_row v2 2 _ rfl
  have d3 := cells_row v2 3 _ rfl
  have F2 : Hid (Fr (fun _ => False) w w2) := Lib.hid (H1.out.1.trans f2 (fun i hi h => by have := HVBX.out; omega))
  clear hw2 f2 v2
  cases hB : B with
  | false =>
    clear hsame
    rw [hB] at HE
    clear hB
    go_wp2
    go_ret
    rw [HE.out]
    exact ⟨rfl, F2.out⟩
  | true =>
    rw [hB] at HE
    clear hB
    go_wp2_with fail
    refine hsame.mono ?_
    rintro e w3 ⟨rfl, f3⟩
    have F3 := Lib.hid f3
    clear f3 hsame
    go_wp2
    go_ret
    rw [HE.out]
    exact ⟨rfl, F2.out.trans F3.out (fun _ _ h => h)⟩

set_option maxRecDepth 100000 in
theorem fit_k2 (k : Nat) (m : Int) (ns : List Txt) (n : Nat) (of : Nat → KT) (hk0 : k = 2) : FitsAt (.mk k m ns n of) := by
  intro R v vv w T hsh hvs hsz
  have HSH := Lib.hid (Shows.mono (S := fun k => R k ∧ k < w.heap.size) (fun k hk h => ⟨h, hk⟩) _ _ hsh)
  have HVS := Lib.hid (VShows.mono (S := fun k => R k ∧ k < w.heap.size) (fun k hk h => ⟨h, hk⟩) _ _ hvs)
  clear hvs
  obtain ⟨N, f, s, c, ov, va, cap, rfl, rfl, hVB, hVK⟩ := vshows_open HVS.out
  obtain ⟨vn, vo, rfl, hk, hn, ht, ho⟩ := hsh
  obtain ⟨na, nc, rfl, _⟩ := ht.shape
  obtain ⟨a', c', rfl⟩ : ∃ a' c', vo = .slice a' n c' := by
    rcases ho with ⟨rfl, a', c', rfl⟩ | ⟨g, off, cap, hg, rfl, hle, hc⟩
    · exact ⟨a', c', rfl⟩
    · exact ⟨_, cap, rfl⟩
  have hns : ns.length ≤ 1000 := ht.1
  obtain ⟨hN0, hN1, hf64, hsl, hc5⟩ := hVB
  have HB := Lib.hid (And.intro hN0 (And.intro hN1 (And.intro hf64 (And.intro hsl hc5))))
  have HVK := Lib.hid hVK
  have HSZ := Lib.hid hsz
  have HK0 := Lib.hid hk0
  unfold sv
  obtain ⟨kz, hkz⟩ : ∃ kz : Int, (k : Int) = kz := ⟨_, rfl⟩
  rw [hkz]
  have HKZ := Lib.hid hkz
  have e0 : (kz == 0) = false := by simp; omega
  have e1 : (kz == 1) = false := by simp; omega
  have e2 : (kz == 2) = true := by simp; omega
  obtain ⟨w1, hw1⟩ : ∃ w1, w1 = (w.alloc (.cells #[.int .u8 kz, .int .i64 m, .slice na ns.length nc, .slice a' n c'] 34)).alloc (.cells #[.int .i64 N, .float .f64 f, .string ⟨s.toArray⟩, .slice va c cap] 39) := ⟨_, rfl⟩
  have f1 : Fr (fun _ => False) w w1 := by rw [hw1]; exact ((Fr.refl _ _).alloc _).alloc _
  have q1 : w1.heap[w.heap.size]? = some (.cells #[.int .u8 kz, .int .i64 m, .slice na ns.length nc, .slice a' n c'] 34 (0, 0)) := by rw [hw1]; exact heap_alloc_first _ _ _
  have v1 : w1.heap[w.heap.size + 1]? = some (.cells #[.int .i64 N, .float .f64 f, .string ⟨s.toArray⟩, .slice va c cap] 39 (0, 0)) := by rw [hw1]; exact heap_alloc_two _ _ _
  go_enter Tryz.func25, Tryz.ntmps25
  go_upto_region 2 with fail
  rw [← hw1]
  obtain ⟨vb, hvb⟩ : ∃ vb, w.heap.size + 1 = vb := ⟨_, rfl⟩
  rw [hvb] at v1 ⊢
  have HVBX := Lib.hid hvb
  have o1 : w.heap.size ≠ vb := by omega
  have o2 : vb ≠ w.heap.size := by omega
  have c0 := cells_row q1 0 _ rfl
  have c1 := cells_row q1 1 _ rfl
  have c2 := cells_row q1 2 _ rfl
  have c3 := cells_row q1 3 _ rfl
  have d0 := cells_row v1 0 _ rfl
  have d1 := cells_row v1 1 _ rfl
  have d2 := cells_row v1 2 _ rfl
  have d3 := cells_row v1 3 _ rfl
  have z0 : w1.frozen? ⟨vb, 0, none⟩ = false := by simp [World.frozen?, v1]
  have z1 : w1.frozen? ⟨vb, 1, none⟩ = false := by simp [World.frozen?, v1]
  have z2 : w1.frozen? ⟨vb, 2, none⟩ = false := by simp [World.frozen?, v1]
  have z3 : w1.frozen? ⟨vb, 3, none⟩ = false := by simp [World.frozen?, v1]
  have H1 := Lib.hid (And.intro f1 (And.intro q1 v1))
  clear hw1 f1 q1 v1 hvb hkz hk0 hk hn ht ho hVK hsz hN0 hN1 hf64 hsl hc5
  obtain ⟨B, hB⟩ : ∃ B, decide ((-2147483648) ≤ N ∧ N ≤ 2147483647) = B := ⟨_, rfl⟩
  have hw := within_told N (-2147483648) 2147483647 B hB w1
  have HBB := Lib.hid hB
  clear hB
  go_wp2_with fail
  refine hw.mono ?_
  rintro e w1' ⟨rfl, rfl⟩
  clear hw
  go_upto_region 22 with fail
  obtain ⟨w2, hw2⟩ : ∃ w2, w2 = w1.setCell ⟨vb, 0, none⟩ (.int .i64 0) := ⟨_, rfl⟩
  rw [← hw2]
  have f2 : Fr (fun k => k = vb) w1 w2 := by rw [hw2]; exact (Fr.refl _ _).set1 _ _
  have v2 : w2.heap[vb]? = some (.cells #[.int .i64 0, .float .f64 f, .string ⟨s.toArray⟩, .slice va c cap] 39 (0, 0)) := by rw [hw2]; exact setCell_row 0 _ H1.out.2.2
  have hsame := vsame_any (fun k => R k ∧ k < w.heap.size) (.mk 0 f s c ov) zeroV (.agg #[.int .i64 0, .float .f64 f, .string ⟨s.toArray⟩, .slice va c cap]) _ w2 (vshows_mk (n := 0) (f := f) (s := s) (by have := HB.out; unfold VB; omega) (HVK.out.fr (H1.out.1.trans f2 (fun i hi h => by have := HVBX.out; omega)) (fun _ _ h => h))) (zeroV_shows _ _) (by have h := HSZ.out; simp only [szV] at h ⊢; first | exact h | (simp; try omega))
  have HE := Lib.hid (show fitsE (.mk k m ns n of) (.mk N f s c ov) = (B && sameV (.mk 0 f s c ov) zeroV) from by rw [← HBB.out]; have hk := HK0.out; subst hk; rw [fitsE]; simp)
  have d0 := cells_row v2 0 _ rfl
  have d1 := cells_row v2 1 _ rfl
  have d2 := cells_row v2 2 _ rfl
  have d3 := cells_row v2 3 _ rfl
  have F2 : Hid (Fr (fun _ => False) w w2) := Lib.hid (H1.out.1.trans f2 (fun i hi h => by have := HVBX.out; omega))
  clear hw2 f2 v2
  cases hB : B with
  | false =>
    clear hsame
    rw [hB] at HE
    clear hB
    go_wp2
    go_ret
    rw [HE.out]
    exact ⟨rfl, F2.out⟩
  | true =>
    rw [hB] at HE
    clear hB
    go_wp2_with fail
    refine hsame.mono ?_
    rintro e w3 ⟨rfl, f3⟩
    have F3 := Lib.hid f3
    clear f3 hsame
    go_wp2
    go_ret
    rw [HE.out]
    exact ⟨rfl, F2.out.trans F3.out (fun _ _ h => h)⟩

set_option maxRecDepth 100000 in
theorem fit_k7 (k : Nat) (m : Int) (ns : List Txt) (n : Nat) (of : Nat → KT) (hk0 : k = 7) : FitsAt (.mk k m ns n of) := by
  intro R v vv w T hsh hvs hsz
  have HSH := Lib.hid (Shows.mono (S := fun k => R k ∧ k < w.heap.size) (fun k hk h => ⟨h, hk⟩) _ _ hsh)
  have HVS := Lib.hid (VShows.mono (S := fun k => R k ∧ k < w.heap.size) (fun k hk h => ⟨h, hk⟩) _ _ hvs)
  clear hvs
  obtain ⟨N, f, s, c, ov, va, cap, rfl, rfl, hVB, hVK⟩ := vshows_open HVS.out
  obtain ⟨vn, vo, rfl, hk, hn, ht, ho⟩ := hsh
  obtain ⟨na, nc, rfl, _⟩ := ht.shape
  obtain ⟨a', c', rfl⟩ : ∃ a' c', vo = .slice a' n c' := by
    rcases ho with ⟨rfl, a', c', rfl⟩ | ⟨g, off, cap, hg, rfl, hle, hc⟩
    · exact ⟨a', c', rfl⟩
    · exact ⟨_, cap, rfl⟩
  have hns : ns.length ≤ 1000 := ht.1
  obtain ⟨hN0, hN1, hf64, hsl, hc5⟩ := hVB
  have HB := Lib.hid (And.intro hN0 (And.intro hN1 (And.intro hf64 (And.intro hsl hc5))))
  have HVK := Lib.hid hVK
  have HSZ := Lib.hid hsz
  have HK0 := Lib.hid hk0
  unfold sv
  obtain ⟨kz, hkz⟩ : ∃ kz : Int, (k : Int) = kz := ⟨_, rfl⟩
  rw [hkz]
  have HKZ := Lib.hid hkz
  have e0 : (kz == 0) = false := by simp; omega
  have e1 : (kz == 1) = false := by simp; omega
  have e2 : (kz == 2) = false := by simp; omega
  have e3 : (kz == 3) = false := by simp; omega
  have e4 : (kz == 4) = false := by simp; omega
  have e7 : (kz == 7) = true := by simp; omega
  obtain ⟨w1, hw1⟩ : ∃ w1, w1 = (w.alloc (.cells #[.int .u8 kz, .int .i64 m, .slice na ns.length nc, .slice a' n c'] 34)).alloc (.cells #[.int .i64 N, .float .f64 f, .string ⟨s.toArray⟩, .slice va c cap] 39) := ⟨_, rfl⟩
  have f1 : Fr (fun _ => False) w w1 := by rw [hw1]; exact ((Fr.refl _ _).alloc _).alloc _
  have q1 : w1.heap[w.heap.size]? = some (.cells #[.int .u8 kz, .int .i64 m, .slice na ns.length nc, .slice a' n c'] 34 (0, 0)) := by rw [hw1]; exact heap_alloc_first _ _ _
  have v1 : w1.heap[w.heap.size + 1]? = some (.cells #[.int .i64 N, .float .f64 f, .string ⟨s.toArray⟩, .slice va c cap] 39 (0, 0)) := by rw [hw1]; exact heap_alloc_two _ _ _
  go_enter Tryz.func25, Tryz.ntmps25
  go_upto_region 2 with fail
  rw [← hw1]
  obtain ⟨vb, hvb⟩ : ∃ vb, w.heap.size + 1 = vb := ⟨_, rfl⟩
  rw [hvb] at v1 ⊢
  have HVBX := Lib.hid hvb
  have o1 : w.heap.size ≠ vb := by omega
  have o2 : vb ≠ w.heap.size := by omega
  have c0 := cells_row q1 0 _ rfl
  have c1 := cells_row q1 1 _ rfl
  have c2 := cells_row q1 2 _ rfl
  have c3 := cells_row q1 3 _ rfl
  have d0 := cells_row v1 0 _ rfl
  have d1 := cells_row v1 1 _ rfl
  have d2 := cells_row v1 2 _ rfl
  have d3 := cells_row v1 3 _ rfl
  have z0 : w1.frozen? ⟨vb, 0, none⟩ = false := by simp [World.frozen?, v1]
  have z1 : w1.frozen? ⟨vb, 1, none⟩ = false := by simp [World.frozen?, v1]
  have z2 : w1.frozen? ⟨vb, 2, none⟩ = false := by simp [World.frozen?, v1]
  have z3 : w1.frozen? ⟨vb, 3, none⟩ = false := by simp [World.frozen?, v1]
  have H1 := Lib.hid (And.intro f1 (And.intro q1 v1))
  clear hw1 f1 q1 v1 hvb hkz hk0 hk hn ht ho hVK hsz hN0 hN1 hf64 hsl hc5
  obtain ⟨B, hB⟩ : ∃ B, decide (0 ≤ N ∧ N ≤ (ns.length : Int) - 1) = B := ⟨_, rfl⟩
  have hw := isIndex_any N ns.length (by omega) w1
  rw [hB] at hw
  have HBB := Lib.hid hB
  clear hB
  go_wp2_with fail
  refine hw.mono ?_
  rintro e w1' ⟨rfl, rfl⟩
  clear hw
  go_upto_region 22 with fail
  obtain ⟨w2, hw2⟩ : ∃ w2, w2 = w1.setCell ⟨vb, 0, none⟩ (.int .i64 0) := ⟨_, rfl⟩
  rw [← hw2]
  have f2 : Fr (fun k => k = vb) w1 w2 := by rw [hw2]; exact (Fr.refl _ _).set1 _ _
  have v2 : w2.heap[vb]? = some (.cells #[.int .i64 0, .float .f64 f, .string ⟨s.toArray⟩, .slice va c cap] 39 (0, 0)) := by rw [hw2]; exact setCell_row 0 _ H1.out.2.2
  have hsame := vsame_any (fun k => R k ∧ k < w.heap.size) (.mk 0 f s c ov) zeroV (.agg #[.int .i64 0, .float .f64 f, .string ⟨s.toArray⟩, .slice va c cap]) _ w2 (vshows_mk (n := 0) (f := f) (s := s) (by have := HB.out; unfold VB; omega) (HVK.out.fr (H1.out.1.trans f2 (fun i hi h => by have := HVBX.out; omega)) (fun _ _ h => h))) (zeroV_shows _ _) (by have h := HSZ.out; simp only [szV] at h ⊢; first | exact h | (simp; try omega))
  have HE := Lib.hid (show fitsE (.mk k m ns n of) (.mk N f s c ov) = (B && sameV (.mk 0 f s c ov) zeroV) from by rw [← HBB.out]; have hk := HK0.out; subst hk; rw [fitsE]; simp)
  have d0 := cells_row v2 0 _ rfl
  have d1 := cells_row v2 1 _ rfl
  have d2 := cells_row v2 2 _ rfl
  have d3 := cells_row v2 3 _ rfl
  have F2 : Hid (Fr (fun _ => False) w w2) := Lib.hid (H1.out.1.trans f2 (fun i hi h => by have := HVBX.out; omega))
  clear hw2 f2 v2
  cases hB : B with
  | false =>
    clear hsame
    rw [hB] at HE
    clear hB
    go_wp2
    go_ret
    rw [HE.out]
    exact ⟨rfl, F2.out⟩
  | true =>
    rw [hB] at HE
    clear hB
    go_wp2_with fail
    refine hsame.mono ?_
    rintro e w3 ⟨rfl, f3⟩
    have F3 := Lib.hid f3
    clear f3 hsame
    go_wp2
    go_ret
    rw [HE.out]
    exact ⟨rfl, F2.out.trans F3.out (fun _ _ h => h)⟩

set_option maxRecDepth 100000 in
theorem fit_k3 (k : Nat) (m : Int) (ns : List Txt) (n : Nat) (of : Nat → KT) (hk0 : k = 3) : FitsAt (.mk k m ns n of) := by
  intro R v vv w T hsh hvs hsz
  have HSH := Lib.hid (Shows.mono (S := fun k => R k ∧ k < w.heap.size) (fun k hk h => ⟨h, hk⟩) _ _ hsh)
  have HVS := Lib.hid (VShows.mono (S := fun k => R k ∧ k < w.heap.size) (fun k hk h => ⟨h, hk⟩) _ _ hvs)
  clear hvs
  obtain ⟨N, f, s, c, ov, va, cap, rfl, rfl, hVB, hVK⟩ := vshows_open HVS.out
  obtain ⟨vn, vo, rfl, hk, hn, ht, ho⟩ := hsh
  obtain ⟨na, nc, rfl, _⟩ := ht.shape
  obtain ⟨a', c', rfl⟩ : ∃ a' c', vo = .slice a' n c' := by
    rcases ho with ⟨rfl, a', c', rfl⟩ | ⟨g, off, cap, hg, rfl, hle, hc⟩
    · exact ⟨a', c', rfl⟩
    · exact ⟨_, cap, rfl⟩
  have hns : ns.length ≤ 1000 := ht.1
  obtain ⟨hN0, hN1, hf64, hsl, hc5⟩ := hVB
  have HB := Lib.hid (And.intro hN0 (And.intro hN1 (And.intro hf64 (And.intro hsl hc5))))
  have HVK := Lib.hid hVK
  have HSZ := Lib.hid hsz
  have HK0 := Lib.hid hk0
  unfold sv
  obtain ⟨kz, hkz⟩ : ∃ kz : Int, (k : Int) = kz := ⟨_, rfl⟩
  rw [hkz]
  have HKZ := Lib.hid hkz
  have e0 : (kz == 0) = false := by simp; omega
  have e1 : (kz == 1) = false := by simp; omega
  have e2 : (kz == 2) = false := by simp; omega
  have e3 : (kz == 3) = true := by simp; omega
  obtain ⟨w1, hw1⟩ : ∃ w1, w1 = (w.alloc (.cells #[.int .u8 kz, .int .i64 m, .slice na ns.length nc, .slice a' n c'] 34)).alloc (.cells #[.int .i64 N, .float .f64 f, .string ⟨s.toArray⟩, .slice va c cap] 39) := ⟨_, rfl⟩
  have f1 : Fr (fun _ => False) w w1 := by rw [hw1]; exact ((Fr.refl _ _).alloc _).alloc _
  have q1 : w1.heap[w.heap.size]? = some (.cells #[.int .u8 kz, .int .i64 m, .slice na ns.length nc, .slice a' n c'] 34 (0, 0)) := by rw [hw1]; exact heap_alloc_first _ _ _
  have v1 : w1.heap[w.heap.size + 1]? = some (.cells #[.int .i64 N, .float .f64 f, .string ⟨s.toArray⟩, .slice va c cap] 39 (0, 0)) := by rw [hw1]; exact heap_alloc_two _ _ _
  go_enter Tryz.func25, Tryz.ntmps25
  go_upto_region 2 with fail
  rw [← hw1]
  obtain ⟨vb, hvb⟩ : ∃ vb, w.heap.size + 1 = vb := ⟨_, rfl⟩
  rw [hvb] at v1 ⊢
  have HVBX := Lib.hid hvb
  have o1 : w.heap.size ≠ vb := by omega
  have o2 : vb ≠ w.heap.size := by omega
  have c0 := cells_row q1 0 _ rfl
  have c1 := cells_row q1 1 _ rfl
  have c2 := cells_row q1 2 _ rfl
  have c3 := cells_row q1 3 _ rfl
  have d0 := cells_row v1 0 _ rfl
  have d1 := cells_row v1 1 _ rfl
  have d2 := cells_row v1 2 _ rfl
  have d3 := cells_row v1 3 _ rfl
  have z0 : w1.frozen? ⟨vb, 0, none⟩ = false := by simp [World.frozen?, v1]
  have z1 : w1.frozen? ⟨vb, 1, none⟩ = false := by simp [World.frozen?, v1]
  have z2 : w1.frozen? ⟨vb, 2, none⟩ = false := by simp [World.frozen?, v1]
  have z3 : w1.frozen? ⟨vb, 3, none⟩ = false := by simp [World.frozen?, v1]
  have H1 := Lib.hid (And.intro f1 (And.intro q1 v1))
  clear hw1 f1 q1 v1 hvb hkz hk0 hk hn ht ho hVK hsz hN0 hN1 hf64 hsl hc5
  obtain ⟨B, hB⟩ : ∃ B, true = B := ⟨_, rfl⟩
  have HBB := Lib.hid hB
  subst hB
  go_upto_region 22 with fail
  obtain ⟨w2, hw2⟩ : ∃ w2, w2 = w1.setCell ⟨vb, 1, none⟩ (.float .f64 0) := ⟨_, rfl⟩
  rw [← hw2]
  have f2 : Fr (fun k => k = vb) w1 w2 := by rw [hw2]; exact (Fr.refl _ _).set1 _ _
  have v2 : w2.heap[vb]? = some (.cells #[.int .i64 N, .float .f64 0, .string ⟨s.toArray⟩, .slice va c cap] 39 (0, 0)) := by rw [hw2]; exact setCell_row 1 _ H1.out.2.2
  have hsame := vsame_any (fun k => R k ∧ k < w.heap.size) (.mk N 0 s c ov) zeroV (.agg #[.int .i64 N, .float .f64 0, .string ⟨s.toArray⟩, .slice va c cap]) _ w2 (vshows_mk (n := N) (f := 0) (s := s) (by have := HB.out; unfold VB; omega) (HVK.out.fr (H1.out.1.trans f2 (fun i hi h => by have := HVBX.out; omega)) (fun _ _ h => h))) (zeroV_shows _ _) (by have h := HSZ.out; simp only [szV] at h ⊢; first | exact h | (simp; try omega))
  have HE := Lib.hid (show fitsE (.mk k m ns n of) (.mk N f s c ov) = (true && sameV (.mk N 0 s c ov) zeroV) from by have hk := HK0.out; subst hk; rw [fitsE]; simp)
  have d0 := cells_row v2 0 _ rfl
  have d1 := cells_row v2 1 _ rfl
  have d2 := cells_row v2 2 _ rfl
  have d3 := cells_row v2 3 _ rfl
  have F2 : Hid (Fr (fun _ => False) w w2) := Lib.hid (H1.out.1.trans f2 (fun i hi h => by have := HVBX.out; omega))
  clear hw2 f2 v2
  go_wp2_with fail
  refine hsame.mono ?_
  rintro e w3 ⟨rfl, f3⟩
  have F3 := Lib.hid f3
  clear f3 hsame
  go_wp2
  go_ret
  rw [HE.out]
  exact ⟨rfl, F2.out.trans F3.out (fun _ _ h => h)⟩

set_option maxRecDepth 100000 in
theorem fit_k4 (k : Nat) (m : Int) (ns : List Txt) (n : Nat) (of : Nat → KT) (hk0 : k = 4) : FitsAt (.mk k m ns n of) := by
  intro R v vv w T hsh hvs hsz
  have HSH := Lib.hid (Shows.mono (S := fun k => R k ∧ k < w.heap.size) (fun k hk h => ⟨h, hk⟩) _ _ hsh)
  have HVS := Lib.hid (VShows.mono (S := fun k => R k ∧ k < w.heap.size) (fun k hk h => ⟨h, hk⟩) _ _ hvs)
  clear hvs
  obtain ⟨N, f, s, c, ov, va, cap, rfl, rfl, hVB, hVK⟩ := vshows_open HVS.out
  obtain ⟨vn, vo, rfl, hk, hn, ht, ho⟩ := hsh
  obtain ⟨na, nc, rfl, _⟩ := ht.shape
  obtain ⟨a', c', rfl⟩ : ∃ a' c', vo = .slice a' n c' := by
    rcases ho with ⟨rfl, a', c', rfl⟩ | ⟨g, off, cap, hg, rfl, hle, hc⟩
    · exact ⟨a', c', rfl⟩
    · exact ⟨_, cap, rfl⟩
  have hns : ns.length ≤ 1000 := ht.1
  obtain ⟨hN0, hN1, hf64, hsl, hc5⟩ := hVB
  have HB := Lib.hid (And.intro hN0 (And.intro hN1 (And.intro hf64 (And.intro hsl hc5))))
  have HVK := Lib.hid hVK
  have HSZ := Lib.hid hsz
  have HK0 := Lib.hid hk0
  unfold sv
  obtain ⟨kz, hkz⟩ : ∃ kz : Int, (k : Int) = kz := ⟨_, rfl⟩
  rw [hkz]
  have HKZ := Lib.hid hkz
  have e0 : (kz == 0) = false := by simp; omega
  have e1 : (kz == 1) = false := by simp; omega
  have e2 : (kz == 2) = false := by simp; omega
  have e3 : (kz == 3) = false := by simp; omega
  have e4 : (kz == 4) = true := by simp; omega
  obtain ⟨w1, hw1⟩ : ∃ w1, w1 = (w.alloc (.cells #[.int .u8 kz, .int .i64 m, .slice na ns.length nc, .slice a' n c'] 34)).alloc (.cells #[.int .i64 N, .float .f64 f, .string ⟨s.toArray⟩, .slice va c cap] 39) := ⟨_, rfl⟩
  have f1 : Fr (fun _ => False) w w1 := by rw [hw1]; exact ((Fr.refl _ _).alloc _).alloc _
  have q1 : w1.heap[w.heap.size]? = some (.cells #[.int .u8 kz, .int .i64 m, .slice na ns.length nc, .slice a' n c'] 34 (0, 0)) := by rw [hw1]; exact heap_alloc_first _ _ _
  have v1 : w1.heap[w.heap.size + 1]? = some (.cells #[.int .i64 N, .float .f64 f, .string ⟨s.toArray⟩, .slice va c cap] 39 (0, 0)) := by rw [hw1]; exact heap_alloc_two _ _ _
  go_enter Tryz.func25, Tryz.ntmps25
  go_upto_region 2 with fail
  rw [← hw1]
  obtain ⟨vb, hvb⟩ : ∃ vb, w.heap.size + 1 = vb := ⟨_, rfl⟩
  rw [hvb] at v1 ⊢
  have HVBX := Lib.hid hvb
  have o1 : w.heap.size ≠ vb := by omega
  have o2 : vb ≠ w.heap.size := by omega
  have c0 := cells_row q1 0 _ rfl
  have c1 := cells_row q1 1 _ rfl
  have c2 := cells_row q1 2 _ rfl
  have c3 := cells_row q1 3 _ rfl
  have d0 := cells_row v1 0 _ rfl
  have d1 := cells_row v1 1 _ rfl
  have d2 := cells_row v1 2 _ rfl
  have d3 := cells_row v1 3 _ rfl
  have z0 : w1.frozen? ⟨vb, 0, none⟩ = false := by simp [World.frozen?, v1]
  have z1 : w1.frozen? ⟨vb, 1, none⟩ = false := by simp [World.frozen?, v1]
  have z2 : w1.frozen? ⟨vb, 2, none⟩ = false := by simp [World.frozen?, v1]
  have z3 : w1.frozen? ⟨vb, 3, none⟩ = false := by simp [World.frozen?, v1]
  have H1 := Lib.hid (And.intro f1 (And.intro q1 v1))
  clear hw1 f1 q1 v1 hvb hkz hk0 hk hn ht ho hVK hsz hN0 hN1 hf64 hsl hc5
  have hs0 : ((⟨s.toArray⟩ : ByteArray).size : Int) = (s.length : Int) := by simp [ByteArray.size]
  by_cases hB : (s.length : Int) ≤ m
  · have HDB : Hid (decide ((s.length : Int) ≤ m) = true) := Lib.hid (by simpa using hB)
    go_upto_region 22 with fail
    obtain ⟨w2, hw2⟩ : ∃ w2, w2 = w1.setCell ⟨vb, 2, none⟩ (.string ⟨#[]⟩) := ⟨_, rfl⟩
    rw [← hw2]
    have f2 : Fr (fun k => k = vb) w1 w2 := by rw [hw2]; exact (Fr.refl _ _).set1 _ _
    have v2 : w2.heap[vb]? = some (.cells #[.int .i64 N, .float .f64 f, .string ⟨#[]⟩, .slice va c cap] 39 (0, 0)) := by rw [hw2]; exact setCell_row 2 _ H1.out.2.2
    have hsame := vsame_any (fun k => R k ∧ k < w.heap.size) (.mk N f [] c ov) zeroV (.agg #[.int .i64 N, .float .f64 f, .string ⟨#[]⟩, .slice va c cap]) _ w2 (vshows_mk (n := N) (f := f) (s := []) (by have := HB.out; unfold VB maxLen; simp; omega) (HVK.out.fr (H1.out.1.trans f2 (fun i hi h => by have := HVBX.out; omega)) (fun _ _ h => h))) (zeroV_shows _ _) (by have h := HSZ.out; simp only [szV] at h ⊢; first | exact h | (simp; try omega))
    have HE := Lib.hid (show fitsE (.mk k m ns n of) (.mk N f s c ov) = (true && sameV (.mk N f [] c ov) zeroV) from by rw [← HDB.out]; have hk := HK0.out; subst hk; rw [fitsE]; simp)
    have d0 := cells_row v2 0 _ rfl
    have d1 := cells_row v2 1 _ rfl
    have d2 := cells_row v2 2 _ rfl
    have d3 := cells_row v2 3 _ rfl
    have F2 : Hid (Fr (fun _ => False) w w2) := Lib.hid (H1.out.1.trans f2 (fun i hi h => by have := HVBX.out; omega))
    clear hw2 f2 v2
    go_wp2_with fail
    refine hsame.mono ?_
    rintro e w3 ⟨rfl, f3⟩
    have F3 := Lib.hid f3
    clear f3 hsame
    go_wp2
    go_ret
    rw [HE.out]
    exact ⟨rfl, F2.out.trans F3.out (fun _ _ h => h)⟩
  · have HDB : Hid (decide ((s.length : Int) ≤ m) = false) := Lib.hid (by simpa using hB)
    go_upto_region 22 with fail
    obtain ⟨w2, hw2⟩ : ∃ w2, w2 = w1.setCell ⟨vb, 2, none⟩ (.string ⟨#[]⟩) := ⟨_, rfl⟩
    rw [← hw2]
    have f2 : Fr (fun k => k = vb) w1 w2 := by rw [hw2]; exact (Fr.refl _ _).set1 _ _
    have v2 : w2.heap[vb]? = some (.cells #[.int .i64 N, .float .f64 f, .string ⟨#[]⟩, .slice va c cap] 39 (0, 0)) := by rw [hw2]; exact setCell_row 2 _ H1.out.2.2
    have hsame := vsame_any (fun k => R k ∧ k < w.heap.size) (.mk N f [] c ov) zeroV (.agg #[.int .i64 N, .float .f64 f, .string ⟨#[]⟩, .slice va c cap]) _ w2 (vshows_mk (n := N) (f := f) (s := []) (by have := HB.out; unfold VB maxLen; simp; omega) (HVK.out.fr (H1.out.1.trans f2 (fun i hi h => by have := HVBX.out; omega)) (fun _ _ h => h))) (zeroV_shows _ _) (by have h := HSZ.out; simp only [szV] at h ⊢; first | exact h | (simp; try omega))
    have HE := Lib.hid (show fitsE (.mk k m ns n of) (.mk N f s c ov) = (false && sameV (.mk N f [] c ov) zeroV) from by rw [← HDB.out]; have hk := HK0.out; subst hk; rw [fitsE]; simp)
    have d0 := cells_row v2 0 _ rfl
    have d1 := cells_row v2 1 _ rfl
    have d2 := cells_row v2 2 _ rfl
    have d3 := cells_row v2 3 _ rfl
    have F2 : Hid (Fr (fun _ => False) w w2) := Lib.hid (H1.out.1.trans f2 (fun i hi h => by have := HVBX.out; omega))
    clear hw2 f2 v2
    clear hsame
    go_wp2
    go_ret
    rw [HE.out]
    exact ⟨rfl, F2.out⟩
end
end Go.Proofs.YtplipjijaaejlaaGreat
