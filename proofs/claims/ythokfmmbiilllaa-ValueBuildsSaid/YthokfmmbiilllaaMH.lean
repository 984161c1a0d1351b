/-
  package value: bounds (within, isIndex); whether a type has values (hasValues).
-/
import Derived.Test.YthokfmmbiilllaaMF
import Derived.Test.YthokfmmbiilllaaMG
import Derived.Test.YthokfmmbiilllaaME
import Derived.Test.YthokfmmbiilllaaMA
set_option linter.unusedSimpArgs false
set_option linter.unusedVariables false
namespace Go.Proofs.Ythokfmmbiilllaa
open Go.RowKit
set_option linter.unusedVariables false

set_option maxHeartbeats 4000000 in
theorem within_any (n lo hi : Int) (w : World) : Calls Try.prog 36 #[.int .i64 n, .int .i64 lo, .int .i64 hi] w fun e w' => e = .returned (.bool (decide (lo ≤ n ∧ n ≤ hi))) ∧ w = w' := by
  by_cases h1 : lo ≤ n
  · by_cases h2 : n ≤ hi
    · go_enter Try.func36, Try.ntmps36
      go_wp2
      go_ret
      exact ⟨ret_bool (by simp; omega), rfl⟩
    · go_enter Try.func36, Try.ntmps36
      go_wp2
      go_ret
      exact ⟨ret_bool (by simp; omega), rfl⟩
  · go_enter Try.func36, Try.ntmps36
    go_wp2
    go_ret
    exact ⟨ret_bool (by simp; omega), rfl⟩

theorem within_told (n lo hi : Int) (B : Bool) (hB : decide (lo ≤ n ∧ n ≤ hi) = B) (w : World) : Calls Try.prog 36 #[.int .i64 n, .int .i64 lo, .int .i64 hi] w fun e w' => e = .returned (.bool B) ∧ w = w' := by
  rw [← hB]; exact within_any n lo hi w

set_option maxHeartbeats 4000000 in
theorem isIndex_any (n : Int) (len : Nat) (hl : len ≤ 100000) (w : World) : Calls Try.prog 37 #[.int .i64 n, .int .i64 (len : Nat)] w fun e w' => e = .returned (.bool (decide (0 ≤ n ∧ n ≤ (len : Int) - 1))) ∧ w = w' := by
  obtain ⟨B, hB⟩ : ∃ B, decide (0 ≤ n ∧ n ≤ (len : Int) - 1) = B := ⟨_, rfl⟩
  have hw := within_told n 0 ((len : Int) - 1) B hB w
  rw [hB]
  clear hB
  go_enter Try.func37, Try.ntmps37
  go_wp2_with fail
  refine hw.mono ?_
  rintro e w1 ⟨rfl, rfl⟩
  go_wp2
  go_ret
  exact ⟨rfl, rfl⟩

/-- Has a type values: no Ref in it, and not so many levels? -/
def hasE : KT → Nat → Bool
  | .nil, _ => false
  | .mk k _ _ n of, lv => if k = 9 ∨ lv = 0 then false else (List.range n).all (fun i => hasE (of i) (lv - 1))

set_option maxRecDepth 100000 in
set_option maxHeartbeats 16000000 in
theorem has_any (t : KT) : ∀ (R : Nat → Prop) (v : Value) (w : World) (lv : Nat) (lz : Int), lz = lv → lv ≤ 1000 → Shows R w t v →
    Calls Try.prog 23 #[v, .int .i64 lz] w fun e w' => e = .returned (.bool (hasE t lv)) ∧ Fr (fun _ => False) w w' := by
  induction t with
  | nil => exact fun _ _ _ _ _ _ _ h => h.elim
  | mk k m ns n of ih =>
  intro R v w lv lz hlz hlv hsh
  obtain ⟨vn, vo, rfl, hk, hn, ht, ho⟩ := hsh
  obtain ⟨a, c, rfl, _⟩ := ht.shape
  obtain ⟨a', c', rfl, hs⟩ : ∃ a' c', vo = .slice a' n c' ∧ Kids R w of a' n c' := by
    rcases ho with ⟨rfl, a', c', rfl⟩ | ⟨g, off, cap, hg, rfl, hle, hc⟩
    · exact ⟨a', c', rfl, .inl rfl⟩
    · exact ⟨_, cap, rfl, .inr ⟨hle, g, off, hg, rfl, hc⟩⟩
  have HS := Lib.hid hs
  have HLZ := Lib.hid hlz
  have lz0 : 0 ≤ lz := by omega
  have lz1 : lz ≤ 1000 := by omega
  clear ho hs hlz ht
  obtain ⟨w0, hw0⟩ : ∃ w0, w0 = w.alloc (.cells #[.int .u8 k, .int .i64 m, .slice a ns.length c, .slice a' n c'] 32) := ⟨_, rfl⟩
  have f0 : Fr (fun _ => False) w w0 := by rw [hw0]; exact (Fr.refl _ _).alloc _
  have q0 : w0.heap[w.heap.size]? = some (.cells #[.int .u8 k, .int .i64 m, .slice a ns.length c, .slice a' n c'] 32 (0, 0)) := by rw [hw0]; exact heap_alloc_new _ _
  have c0 := cells_row q0 0 _ rfl
  have c3 := cells_row q0 3 _ rfl
  have H0 := Lib.hid (And.intro f0 q0)
  by_cases h9 : k = 9
  · have E : Hid (hasE (.mk k m ns n of) lv = false) := Lib.hid (by rw [hasE, if_pos (.inl h9)])
    have e9 : ((k : Int) == 9) = true := by simp; omega
    clear h9 f0 q0
    go_enter Try.func23, Try.ntmps23
    go_upto_region 1 with fail
    rw [← hw0]
    clear hw0
    go_wp2
    go_ret
    rw [E.out]
    exact ⟨rfl, H0.out.1⟩
  have e9 : ((k : Int) == 9) = false := by simp; omega
  by_cases hl : lv = 0
  · have E : Hid (hasE (.mk k m ns n of) lv = false) := Lib.hid (by rw [hasE, if_pos (.inr hl)])
    have ez : (lz == 0) = true := by have := HLZ.out; simp; omega
    clear hl h9 f0 q0
    go_enter Try.func23, Try.ntmps23
    go_upto_region 1 with fail
    rw [← hw0]
    clear hw0
    go_wp2
    go_ret
    rw [E.out]
    exact ⟨rfl, H0.out.1⟩
  have ez : (lz == 0) = false := by have := HLZ.out; simp; omega
  have E : Hid (hasE (.mk k m ns n of) lv = (List.range n).all (fun i => hasE (of i) (lv - 1))) := Lib.hid (by rw [hasE, if_neg (by omega)])
  have HL := Lib.hid hl
  clear hl h9 f0 q0
  go_enter Try.func23, Try.ntmps23
  go_upto_region 1 with fail
  rw [← hw0]
  clear hw0
  go_wp2
  clear c0 c3 e9 ez
  go_loopg [6, 17] n (fun G u6 u17 wr => ∃ j : Nat, j ≤ n ∧ G = n - j ∧ u17 = .int .i64 j ∧ Hid (Fr (fun _ => False) w wr ∧ ∀ i, i < j → hasE (of i) (lv - 1) = true))
  case atStart => exact ⟨0, Nat.zero_le _, rfl, by go_num, Lib.hid ⟨H0.out.1, fun i hi => by omega⟩⟩
  case round =>
    obtain ⟨j, hj, rfl, rfl, HI⟩ := hrel
    by_cases hlt : j < n
    · rcases HS.out with hz | ⟨hcap, g, off, hg, rfl, hcell⟩
      · omega
      obtain ⟨x0, x1, x2, x3, y0, y1, y2, y3, hx⟩ := hcell j hlt
      have y0 := cell_fr HI.out.1 (fun _ _ h => h) hg y0
      have y1 := cell_fr HI.out.1 (fun _ _ h => h) hg y1
      have y2 := cell_fr HI.out.1 (fun _ _ h => h) hg y2
      have y3 := cell_fr HI.out.1 (fun _ _ h => h) hg y3
      obtain ⟨xk, xm, xa, xn, xc, xa', xn', xc', rfl, rfl, rfl, rfl⟩ := hx.cells
      have fb : Fr (fun _ => False) w (wr.alloc (.cells #[.int .u8 xk, .int .i64 xm, .slice xa xn xc, .slice xa' xn' xc'] 32)) := HI.out.1.alloc _
      have hrec := ih j R _ _ (lv - 1) (lz - 1) (by have := HLZ.out; have := HL.out; omega) (by omega) (Shows.fr fb (fun _ _ h => h) _ _ hx)
      have FB := Lib.hid fb
      have HLT := Lib.hid hlt
      clear hcell hx fb
      cases hB : hasE (of j) (lv - 1) with
      | true =>
        rw [hB] at hrec
        have HB := Lib.hid hB
        clear hB
        go_wp2_with fail
        refine hrec.mono ?_
        rintro e w5 ⟨rfl, f5⟩
        have F5 := Lib.hid f5
        clear f5 hrec
        go_wp2
        go_roundg (n - (j + 1))
        case measure => omega
        case rel => exact ⟨j + 1, by omega, rfl, by go_num, Lib.hid ⟨FB.out.trans F5.out (fun _ _ h => h), fun i hi => by
          by_cases h : i < j
          · exact HI.out.2 i h
          · obtain rfl : i = j := by omega
            exact HB.out⟩⟩
      | false =>
        rw [hB] at hrec
        have EF : Hid (hasE (.mk k m ns n of) lv = false) := Lib.hid (by
          rw [E.out, List.all_eq_false]
          exact ⟨j, List.mem_range.2 hlt, by simp [hB]⟩)
        clear hB
        go_wp2_with fail
        refine hrec.mono ?_
        rintro e w5 ⟨rfl, f5⟩
        have F5 := Lib.hid f5
        clear f5 hrec
        go_wp2
        go_ret
        rw [EF.out]
        exact ⟨rfl, FB.out.trans F5.out (fun _ _ h => h)⟩
    · obtain rfl : j = n := by omega
      have ET : Hid (hasE (.mk k m ns j of) lv = true) := Lib.hid (by
        rw [E.out, List.all_eq_true]
        exact fun i hi => HI.out.2 i (List.mem_range.1 hi))
      go_wp2
      go_ret
      rw [ET.out]
      exact ⟨rfl, HI.out.1⟩

end Go.Proofs.Ythokfmmbiilllaa

/-
  package value: whether a value is one of a type (fits): the kinds, but for a Choice.
-/
namespace Go.Proofs.Ythokfmmbiilllaa
open Go.RowKit
attribute [local go_sem] run_store_float
set_option linter.unusedVariables false
set_option linter.unusedSimpArgs false

/-- IS A VALUE ONE OF A TYPE? -/
def fitsE : KT → VT → Bool
  | .nil, _ => false
  | .mk _ _ _ _ _, .nil => false
  | .mk k m ns n of, .mk N f s c ov =>
    if k = 0 then decide (0 ≤ N ∧ N ≤ 1) && sameV (.mk 0 f s c ov) zeroV
    else if k = 1 then decide (0 ≤ N ∧ N ≤ 65535) && sameV (.mk 0 f s c ov) zeroV
    else if k = 2 then decide (-2147483648 ≤ N ∧ N ≤ 2147483647) && sameV (.mk 0 f s c ov) zeroV
    else if k = 3 then true && sameV (.mk N 0 s c ov) zeroV
    else if k = 4 then decide ((s.length : Int) ≤ m) && sameV (.mk N f [] c ov) zeroV
    else if k = 7 then decide (0 ≤ N ∧ N ≤ (ns.length : Int) - 1) && sameV (.mk 0 f s c ov) zeroV
    else if k = 5 then (decide ((c : Int) ≤ m) && (decide (n = 1) && (List.range c).all (fun i => fitsE (of 0) (ov i)))) && sameV (.mk N f s 0 ov) zeroV
    else if k = 6 then (decide (c = n) && (List.range c).all (fun i => fitsE (of i) (ov i))) && sameV (.mk N f s 0 ov) zeroV
    else if k = 8 then (decide (0 ≤ N ∧ N ≤ (n : Int) - 1) && (decide (c = 1) && fitsE (of N.toNat) (ov 0))) && sameV (.mk 0 f s 0 ov) zeroV
    else false

def FitsAt (t : KT) : Prop := ∀ (R : Nat → Prop) (v vv : Value) (w : World) (T : VT), Shows R w t v → VShows R w T vv → szV T ≤ 100000 →
  Calls Try.prog 24 #[v, vv] w fun e w' => e = .returned (.bool (fitsE t T)) ∧ Fr (fun _ => False) w w'

theorem range_one (c : Nat) (ov : Nat → VT) : szV (.mk 0 0 [] c ov) = 1 + ((List.range c).map fun i => szV (ov i)).sum := rfl

set_option maxRecDepth 100000 in
set_option maxHeartbeats 16000000 in
theorem fit_k0 (k : Nat) (m : Int) (ns : List Txt) (n : Nat) (of : Nat → KT) (hk0 : k = 0) : FitsAt (.mk k m ns n of) := by
  intro R v vv w T hsh hvs hsz
  have HSH := Lib.hid (Shows.mono (S := fun k => R k ∧ k < w.heap.size) (fun k hk h => ⟨h, hk⟩) _ _ hsh)
  have HVS := Lib.hid (VShows.mono (S := fun k => R k ∧ k < w.heap.size) (fun k hk h => ⟨h, hk⟩) _ _ hvs)
  clear hvs
  obtain ⟨N, f, s, c, ov, va, cap, rfl, rfl, hVB, hVK⟩ := vshows_open HVS.out
  obtain ⟨vn, vo, rfl, hk, hn, ht, ho⟩ := hsh
  obtain ⟨na, nc, rfl, _⟩ := ht.shape
  obtain ⟨a', c', rfl⟩ : ∃ a' c', vo = .slice a' n c' := by
    rcases ho with ⟨rfl, a', c', rfl⟩ | ⟨g, off, cap, hg, rfl, hle, hc⟩
    · exact ⟨a', c', rfl⟩
    · exact ⟨_, cap, rfl⟩
  have hns : ns.length ≤ 1000 := ht.1
  obtain ⟨hN0, hN1, hf64, hsl, hc5⟩ := hVB
  have HB := Lib.hid (And.intro hN0 (And.intro hN1 (And.intro hf64 (And.intro hsl hc5))))
  have HVK := Lib.hid hVK
  have HSZ := Lib.hid hsz
  have HK0 := Lib.hid hk0
  unfold sv
  obtain ⟨kz, hkz⟩ : ∃ kz : Int, (k : Int) = kz := ⟨_, rfl⟩
  rw [hkz]
  have HKZ := Lib.hid hkz
  have e0 : (kz == 0) = true := by simp; omega
  obtain ⟨w1, hw1⟩ : ∃ w1, w1 = (w.alloc (.cells #[.int .u8 kz, .int .i64 m, .slice na ns.length nc, .slice a' n c'] 32)).alloc (.cells #[.int .i64 N, .float .f64 f, .string ⟨s.toArray⟩, .slice va c cap] 37) := ⟨_, rfl⟩
  have f1 : Fr (fun _ => False) w w1 := by rw [hw1]; exact ((Fr.refl _ _).alloc _).alloc _
  have q1 : w1.heap[w.heap.size]? = some (.cells #[.int .u8 kz, .int .i64 m, .slice na ns.length nc, .slice a' n c'] 32 (0, 0)) := by rw [hw1]; exact heap_alloc_first _ _ _
  have v1 : w1.heap[w.heap.size + 1]? = some (.cells #[.int .i64 N, .float .f64 f, .string ⟨s.toArray⟩, .slice va c cap] 37 (0, 0)) := by rw [hw1]; exact heap_alloc_two _ _ _
  go_enter Try.func24, Try.ntmps24
  go_upto_region 2 with fail
  rw [← hw1]
  obtain ⟨vb, hvb⟩ : ∃ vb, w.heap.size + 1 = vb := ⟨_, rfl⟩
  rw [hvb] at v1 ⊢
  have HVBX := Lib.hid hvb
  have o1 : w.heap.size ≠ vb := by omega
  have o2 : vb ≠ w.heap.size := by omega
  have c0 := cells_row q1 0 _ rfl
  have c1 := cells_row q1 1 _ rfl
  have c2 := cells_row q1 2 _ rfl
  have c3 := cells_row q1 3 _ rfl
  have d0 := cells_row v1 0 _ rfl
  have d1 := cells_row v1 1 _ rfl
  have d2 := cells_row v1 2 _ rfl
  have d3 := cells_row v1 3 _ rfl
  have z0 : w1.frozen? ⟨vb, 0, none⟩ = false := by simp [World.frozen?, v1]
  have z1 : w1.frozen? ⟨vb, 1, none⟩ = false := by simp [World.frozen?, v1]
  have z2 : w1.frozen? ⟨vb, 2, none⟩ = false := by simp [World.frozen?, v1]
  have z3 : w1.frozen? ⟨vb, 3, none⟩ = false := by simp [World.frozen?, v1]
  have H1 := Lib.hid (And.intro f1 (And.intro q1 v1))
  clear hw1 f1 q1 v1 hvb hkz hk0 hk hn ht ho hVK hsz hN0 hN1 hf64 hsl hc5
  obtain ⟨B, hB⟩ : ∃ B, decide (0 ≤ N ∧ N ≤ 1) = B := ⟨_, rfl⟩
  have hw := within_told N 0 1 B hB w1
  have HBB := Lib.hid hB
  clear hB
  go_wp2_with fail
  refine hw.mono ?_
  rintro e w1' ⟨rfl, rfl⟩
  clear hw
  go_upto_region 22 with fail
  obtain ⟨w2, hw2⟩ : ∃ w2, w2 = w1.setCell ⟨vb, 0, none⟩ (.int .i64 0) := ⟨_, rfl⟩
  rw [← hw2]
  have f2 : Fr (fun k => k = vb) w1 w2 := by rw [hw2]; exact (Fr.refl _ _).set1 _ _
  have v2 : w2.heap[vb]? = some (.cells #[.int .i64 0, .float .f64 f, .string ⟨s.toArray⟩, .slice va c cap] 37 (0, 0)) := by rw [hw2]; exact setCell_row 0 _ H1.out.2.2
  have hsame := vsame_any (fun k => R k ∧ k < w.heap.size) (.mk 0 f s c ov) zeroV (.agg #[.int .i64 0, .float .f64 f, .string ⟨s.toArray⟩, .slice va c cap]) _ w2 (vshows_mk (n := 0) (f := f) (s := s) (by have := HB.out; unfold VB; omega) (HVK.out.fr (H1.out.1.trans f2 (fun i hi h => by have := HVBX.out; omega)) (fun _ _ h => h))) (zeroV_shows _ _) (by have h := HSZ.out; simp only [szV] at h ⊢; first | exact h | (simp; try omega))
  have HE := Lib.hid (show fitsE (.mk k m ns n of) (.mk N f s c ov) = (B && sameV (.mk 0 f s c ov) zeroV) from by rw [← HBB.out]; have hk := HK0.out; subst hk; rw [fitsE]; simp)
  have d0 := cells_row v2 0 _ rfl
  have d1 := cells_row v2 1 _ rfl
  have d2 := cells_row v2 2 _ rfl
  have d3 := cells_row v2 3 _ rfl
  have F2 : Hid (Fr (fun _ => False) w w2) := Lib.hid (H1.out.1.trans f2 (fun i hi h => by have := HVBX.out; omega))
  clear hw2 f2 v2
  cases hB : B with
  | false =>
    clear hsame
    rw [hB] at HE
    clear hB
    go_wp2
    go_ret
    rw [HE.out]
    exact ⟨rfl, F2.out⟩
  | true =>
    rw [hB] at HE
    clear hB
    go_wp2_with fail
    refine hsame.mono ?_
    rintro e w3 ⟨rfl, f3⟩
    have F3 := Lib.hid f3
    clear f3 hsame
    go_wp2
    go_ret
    rw [HE.out]
    exact ⟨rfl, F2.out.trans F3.out (fun _ _ h => h)⟩

set_option maxRecDepth 100000 in
set_option maxHeartbeats 16000000 in
theorem fit_k1 (k : Nat) (m : Int) (ns : List Txt) (n : Nat) (of : Nat → KT) (hk0 : k = 1) : FitsAt (.mk k m ns n of) := by
  intro R v vv w T hsh hvs hsz
  have HSH := Lib.hid (Shows.mono (S := fun k => R k ∧ k < w.heap.size) (fun k hk h => ⟨h, hk⟩) _ _ hsh)
  have HVS := Lib.hid (VShows.mono (S := fun k => R k ∧ k < w.heap.size) (fun k hk h => ⟨h, hk⟩) _ _ hvs)
  clear hvs
  obtain ⟨N, f, s, c, ov, va, cap, rfl, rfl, hVB, hVK⟩ := vshows_open HVS.out
  obtain ⟨vn, vo, rfl, hk, hn, ht, ho⟩ := hsh
  obtain ⟨na, nc, rfl, _⟩ := ht.shape
  obtain ⟨a', c', rfl⟩ : ∃ a' c', vo = .slice a' n c' := by
    rcases ho with ⟨rfl, a', c', rfl⟩ | ⟨g, off, cap, hg, rfl, hle, hc⟩
    · exact ⟨a', c', rfl⟩
    · exact ⟨_, cap, rfl⟩
  have hns : ns.length ≤ 1000 := ht.1
  obtain ⟨hN0, hN1, hf64, hsl, hc5⟩ := hVB
  have HB := Lib.hid (And.intro hN0 (And.intro hN1 (And.intro hf64 (And.intro hsl hc5))))
  have HVK := Lib.hid hVK
  have HSZ := Lib.hid hsz
  have HK0 := Lib.hid hk0
  unfold sv
  obtain ⟨kz, hkz⟩ : ∃ kz : Int, (k : Int) = kz := ⟨_, rfl⟩
  rw [hkz]
  have HKZ := Lib.hid hkz
  have e0 : (kz == 0) = false := by simp; omega
  have e1 : (kz == 1) = true := by simp; omega
  obtain ⟨w1, hw1⟩ : ∃ w1, w1 = (w.alloc (.cells #[.int .u8 kz, .int .i64 m, .slice na ns.length nc, .slice a' n c'] 32)).alloc (.cells #[.int .i64 N, .float .f64 f, .string ⟨s.toArray⟩, .slice va c cap] 37) := ⟨_, rfl⟩
  have f1 : Fr (fun _ => False) w w1 := by rw [hw1]; exact ((Fr.refl _ _).alloc _).alloc _
  have q1 : w1.heap[w.heap.size]? = some (.cells #[.int .u8 kz, .int .i64 m, .slice na ns.length nc, .slice a' n c'] 32 (0, 0)) := by rw [hw1]; exact heap_alloc_first _ _ _
  have v1 : w1.heap[w.heap.size + 1]? = some (.cells #[.int .i64 N, .float .f64 f, .string ⟨s.toArray⟩, .slice va c cap] 37 (0, 0)) := by rw [hw1]; exact heap_alloc_two _ _ _
  go_enter Try.func24, Try.ntmps24
  go_upto_region 2 with fail
  rw [← hw1]
  obtain ⟨vb, hvb⟩ : ∃ vb, w.heap.size + 1 = vb := ⟨_, rfl⟩
  rw [hvb] at v1 ⊢
  have HVBX := Lib.hid hvb
  have o1 : w.heap.size ≠ vb := by omega
  have o2 : vb ≠ w.heap.size := by omega
  have c0 := cells_row q1 0 _ rfl
  have c1 := cells_row q1 1 _ rfl
  have c2 := cells_row q1 2 _ rfl
  have c3 := cells_row q1 3 _ rfl
  have d0 := cells_row v1 0 _ rfl
  have d1 := cells_row v1 1 _ rfl
  have d2 := cells_row v1 2 _ rfl
  have d3 := cells_row v1 3 _ rfl
  have z0 : w1.frozen? ⟨vb, 0, none⟩ = false := by simp [World.frozen?, v1]
  have z1 : w1.frozen? ⟨vb, 1, none⟩ = false := by simp [World.frozen?, v1]
  have z2 : w1.frozen? ⟨vb, 2, none⟩ = false := by simp [World.frozen?, v1]
  have z3 : w1.frozen? ⟨vb, 3, none⟩ = false := by simp [World.frozen?, v1]
  have H1 := Lib.hid (And.intro f1 (And.intro q1 v1))
  clear hw1 f1 q1 v1 hvb hkz hk0 hk hn ht ho hVK hsz hN0 hN1 hf64 hsl hc5
  obtain ⟨B, hB⟩ : ∃ B, decide (0 ≤ N ∧ N ≤ 65535) = B := ⟨_, rfl⟩
  have hw := within_told N 0 65535 B hB w1
  have HBB := Lib.hid hB
  clear hB
  go_wp2_with fail
  refine hw.mono ?_
  rintro e w1' ⟨rfl, rfl⟩
  clear hw
  go_upto_region 22 with fail
  obtain ⟨w2, hw2⟩ : ∃ w2, w2 = w1.setCell ⟨vb, 0, none⟩ (.int .i64 0) := ⟨_, rfl⟩
  rw [← hw2]
  have f2 : Fr (fun k => k = vb) w1 w2 := by rw [hw2]; exact (Fr.refl _ _).set1 _ _
  have v2 : w2.heap[vb]? = some (.cells #[.int .i64 0, .float .f64 f, .string ⟨s.toArray⟩, .slice va c cap] 37 (0, 0)) := by rw [hw2]; exact setCell_row 0 _ H1.out.2.2
  have hsame := vsame_any (fun k => R k ∧ k < w.heap.size) (.mk 0 f s c ov) zeroV (.agg #[.int .i64 0, .float .f64 f, .string ⟨s.toArray⟩, .slice va c cap]) _ w2 (vshows_mk (n := 0) (f := f) (s := s) (by have := HB.out; unfold VB; omega) (HVK.out.fr (H1.out.1.trans f2 (fun i hi h => by have := HVBX.out; omega)) (fun _ _ h => h))) (zeroV_shows _ _) (by have h := HSZ.out; simp only [szV] at h ⊢; first | exact h | (simp; try omega))
  have HE := Lib.hid (show fitsE (.mk k m ns n of) (.mk N f s c ov) = (B && sameV (.mk 0 f s c ov) zeroV) from by rw [← HBB.out]; have hk := HK0.out; subst hk; rw [fitsE]; simp)
  have d0 := cells_row v2 0 _ rfl
  have d1 := cells_row v2 1 _ rfl
  have d2 := cells_row v2 2 _ rfl
  have d3 := cells_row v2 3 _ rfl
  have F2 : Hid (Fr (fun _ => False) w w2) := Lib.hid (H1.out.1.trans f2 (fun i hi h => by have := HVBX.out; omega))
  clear hw2 f2 v2
  cases hB : B with
  | false =>
    clear hsame
    rw [hB] at HE
    clear hB
    go_wp2
    go_ret
    rw [HE.out]
    exact ⟨rfl, F2.out⟩
  | true =>
    rw [hB] at HE
    clear hB
    go_wp2_with fail
    refine hsame.mono ?_
    rintro e w3 ⟨rfl, f3⟩
    have F3 := Lib.hid f3
    clear f3 hsame
    go_wp2
    go_ret
    rw [HE.out]
    exact ⟨rfl, F2.out.trans F3.out (fun _ _ h => h)⟩

set_option maxRecDepth 100000 in
set_option maxHeartbeats 16000000 in
theorem fit_k2 (k : Nat) (m : Int) (ns : List Txt) (n : Nat) (of : Nat → KT) (hk0 : k = 2) : FitsAt (.mk k m ns n of) := by
  intro R v vv w T hsh hvs hsz
  have HSH := Lib.hid (Shows.mono (S := fun k => R k ∧ k < w.heap.size) (fun k hk h => ⟨h, hk⟩) _ _ hsh)
  have HVS := Lib.hid (VShows.mono (S := fun k => R k ∧ k < w.heap.size) (fun k hk h => ⟨h, hk⟩) _ _ hvs)
  clear hvs
  obtain ⟨N, f, s, c, ov, va, cap, rfl, rfl, hVB, hVK⟩ := vshows_open HVS.out
  obtain ⟨vn, vo, rfl, hk, hn, ht, ho⟩ := hsh
  obtain ⟨na, nc, rfl, _⟩ := ht.shape
  obtain ⟨a', c', rfl⟩ : ∃ a' c', vo = .slice a' n c' := by
    rcases ho with ⟨rfl, a', c', rfl⟩ | ⟨g, off, cap, hg, rfl, hle, hc⟩
    · exact ⟨a', c', rfl⟩
    · exact ⟨_, cap, rfl⟩
  have hns : ns.length ≤ 1000 := ht.1
  obtain ⟨hN0, hN1, hf64, hsl, hc5⟩ := hVB
  have HB := Lib.hid (And.intro hN0 (And.intro hN1 (And.intro hf64 (And.intro hsl hc5))))
  have HVK := Lib.hid hVK
  have HSZ := Lib.hid hsz
  have HK0 := Lib.hid hk0
  unfold sv
  obtain ⟨kz, hkz⟩ : ∃ kz : Int, (k : Int) = kz := ⟨_, rfl⟩
  rw [hkz]
  have HKZ := Lib.hid hkz
  have e0 : (kz == 0) = false := by simp; omega
  have e1 : (kz == 1) = false := by simp; omega
  have e2 : (kz == 2) = true := by simp; omega
  obtain ⟨w1, hw1⟩ : ∃ w1, w1 = (w.alloc (.cells #[.int .u8 kz, .int .i64 m, .slice na ns.length nc, .slice a' n c'] 32)).alloc (.cells #[.int .i64 N, .float .f64 f, .string ⟨s.toArray⟩, .slice va c cap] 37) := ⟨_, rfl⟩
  have f1 : Fr (fun _ => False) w w1 := by rw [hw1]; exact ((Fr.refl _ _).alloc _).alloc _
  have q1 : w1.heap[w.heap.size]? = some (.cells #[.int .u8 kz, .int .i64 m, .slice na ns.length nc, .slice a' n c'] 32 (0, 0)) := by rw [hw1]; exact heap_alloc_first _ _ _
  have v1 : w1.heap[w.heap.size + 1]? = some (.cells #[.int .i64 N, .float .f64 f, .string ⟨s.toArray⟩, .slice va c cap] 37 (0, 0)) := by rw [hw1]; exact heap_alloc_two _ _ _
  go_enter Try.func24, Try.ntmps24
  go_upto_region 2 with fail
  rw [← hw1]
  obtain ⟨vb, hvb⟩ : ∃ vb, w.heap.size + 1 = vb := ⟨_, rfl⟩
  rw [hvb] at v1 ⊢
  have HVBX := Lib.hid hvb
  have o1 : w.heap.size ≠ vb := by omega
  have o2 : vb ≠ w.heap.size := by omega
  have c0 := cells_row q1 0 _ rfl
  have c1 := cells_row q1 1 _ rfl
  have c2 := cells_row q1 2 _ rfl
  have c3 := cells_row q1 3 _ rfl
  have d0 := cells_row v1 0 _ rfl
  have d1 := cells_row v1 1 _ rfl
  have d2 := cells_row v1 2 _ rfl
  have d3 := cells_row v1 3 _ rfl
  have z0 : w1.frozen? ⟨vb, 0, none⟩ = false := by simp [World.frozen?, v1]
  have z1 : w1.frozen? ⟨vb, 1, none⟩ = false := by simp [World.frozen?, v1]
  have z2 : w1.frozen? ⟨vb, 2, none⟩ = false := by simp [World.frozen?, v1]
  have z3 : w1.frozen? ⟨vb, 3, none⟩ = false := by simp [World.frozen?, v1]
  have H1 := Lib.hid (And.intro f1 (And.intro q1 v1))
  clear hw1 f1 q1 v1 hvb hkz hk0 hk hn ht ho hVK hsz hN0 hN1 hf64 hsl hc5
  obtain ⟨B, hB⟩ : ∃ B, decide ((-2147483648) ≤ N ∧ N ≤ 2147483647) = B := ⟨_, rfl⟩
  have hw := within_told N (-2147483648) 2147483647 B hB w1
  have HBB := Lib.hid hB
  clear hB
  go_wp2_with fail
  refine hw.mono ?_
  rintro e w1' ⟨rfl, rfl⟩
  clear hw
  go_upto_region 22 with fail
  obtain ⟨w2, hw2⟩ : ∃ w2, w2 = w1.setCell ⟨vb, 0, none⟩ (.int .i64 0) := ⟨_, rfl⟩
  rw [← hw2]
  have f2 : Fr (fun k => k = vb) w1 w2 := by rw [hw2]; exact (Fr.refl _ _).set1 _ _
  have v2 : w2.heap[vb]? = some (.cells #[.int .i64 0, .float .f64 f, .string ⟨s.toArray⟩, .slice va c cap] 37 (0, 0)) := by rw [hw2]; exact setCell_row 0 _ H1.out.2.2
  have hsame := vsame_any (fun k => R k ∧ k < w.heap.size) (.mk 0 f s c ov) zeroV (.agg #[.int .i64 0, .float .f64 f, .string ⟨s.toArray⟩, .slice va c cap]) _ w2 (vshows_mk (n := 0) (f := f) (s := s) (by have := HB.out; unfold VB; omega) (HVK.out.fr (H1.out.1.trans f2 (fun i hi h => by have := HVBX.out; omega)) (fun _ _ h => h))) (zeroV_shows _ _) (by have h := HSZ.out; simp only [szV] at h ⊢; first | exact h | (simp; try omega))
  have HE := Lib.hid (show fitsE (.mk k m ns n of) (.mk N f s c ov) = (B && sameV (.mk 0 f s c ov) zeroV) from by rw [← HBB.out]; have hk := HK0.out; subst hk; rw [fitsE]; simp)
  have d0 := cells_row v2 0 _ rfl
  have d1 := cells_row v2 1 _ rfl
  have d2 := cells_row v2 2 _ rfl
  have d3 := cells_row v2 3 _ rfl
  have F2 : Hid (Fr (fun _ => False) w w2) := Lib.hid (H1.out.1.trans f2 (fun i hi h => by have := HVBX.out; omega))
  clear hw2 f2 v2
  cases hB : B with
  | false =>
    clear hsame
    rw [hB] at HE
    clear hB
    go_wp2
    go_ret
    rw [HE.out]
    exact ⟨rfl, F2.out⟩
  | true =>
    rw [hB] at HE
    clear hB
    go_wp2_with fail
    refine hsame.mono ?_
    rintro e w3 ⟨rfl, f3⟩
    have F3 := Lib.hid f3
    clear f3 hsame
    go_wp2
    go_ret
    rw [HE.out]
    exact ⟨rfl, F2.out.trans F3.out (fun _ _ h => h)⟩

set_option maxRecDepth 100000 in
set_option maxHeartbeats 16000000 in
theorem fit_k7 (k : Nat) (m : Int) (ns : List Txt) (n : Nat) (of : Nat → KT) (hk0 : k = 7) : FitsAt (.mk k m ns n of) := by
  intro R v vv w T hsh hvs hsz
  have HSH := Lib.hid (Shows.mono (S := fun k => R k ∧ k < w.heap.size) (fun k hk h => ⟨h, hk⟩) _ _ hsh)
  have HVS := Lib.hid (VShows.mono (S := fun k => R k ∧ k < w.heap.size) (fun k hk h => ⟨h, hk⟩) _ _ hvs)
  clear hvs
  obtain ⟨N, f, s, c, ov, va, cap, rfl, rfl, hVB, hVK⟩ := vshows_open HVS.out
  obtain ⟨vn, vo, rfl, hk, hn, ht, ho⟩ := hsh
  obtain ⟨na, nc, rfl, _⟩ := ht.shape
  obtain ⟨a', c', rfl⟩ : ∃ a' c', vo = .slice a' n c' := by
    rcases ho with ⟨rfl, a', c', rfl⟩ | ⟨g, off, cap, hg, rfl, hle, hc⟩
    · exact ⟨a', c', rfl⟩
    · exact ⟨_, cap, rfl⟩
  have hns : ns.length ≤ 1000 := ht.1
  obtain ⟨hN0, hN1, hf64, hsl, hc5⟩ := hVB
  have HB := Lib.hid (And.intro hN0 (And.intro hN1 (And.intro hf64 (And.intro hsl hc5))))
  have HVK := Lib.hid hVK
  have HSZ := Lib.hid hsz
  have HK0 := Lib.hid hk0
  unfold sv
  obtain ⟨kz, hkz⟩ : ∃ kz : Int, (k : Int) = kz := ⟨_, rfl⟩
  rw [hkz]
  have HKZ := Lib.hid hkz
  have e0 : (kz == 0) = false := by simp; omega
  have e1 : (kz == 1) = false := by simp; omega
  have e2 : (kz == 2) = false := by simp; omega
  have e3 : (kz == 3) = false := by simp; omega
  have e4 : (kz == 4) = false := by simp; omega
  have e7 : (kz == 7) = true := by simp; omega
  obtain ⟨w1, hw1⟩ : ∃ w1, w1 = (w.alloc (.cells #[.int .u8 kz, .int .i64 m, .slice na ns.length nc, .slice a' n c'] 32)).alloc (.cells #[.int .i64 N, .float .f64 f, .string ⟨s.toArray⟩, .slice va c cap] 37) := ⟨_, rfl⟩
  have f1 : Fr (fun _ => False) w w1 := by rw [hw1]; exact ((Fr.refl _ _).alloc _).alloc _
  have q1 : w1.heap[w.heap.size]? = some (.cells #[.int .u8 kz, .int .i64 m, .slice na ns.length nc, .slice a' n c'] 32 (0, 0)) := by rw [hw1]; exact heap_alloc_first _ _ _
  have v1 : w1.heap[w.heap.size + 1]? = some (.cells #[.int .i64 N, .float .f64 f, .string ⟨s.toArray⟩, .slice va c cap] 37 (0, 0)) := by rw [hw1]; exact heap_alloc_two _ _ _
  go_enter Try.func24, Try.ntmps24
  go_upto_region 2 with fail
  rw [← hw1]
  obtain ⟨vb, hvb⟩ : ∃ vb, w.heap.size + 1 = vb := ⟨_, rfl⟩
  rw [hvb] at v1 ⊢
  have HVBX := Lib.hid hvb
  have o1 : w.heap.size ≠ vb := by omega
  have o2 : vb ≠ w.heap.size := by omega
  have c0 := cells_row q1 0 _ rfl
  have c1 := cells_row q1 1 _ rfl
  have c2 := cells_row q1 2 _ rfl
  have c3 := cells_row q1 3 _ rfl
  have d0 := cells_row v1 0 _ rfl
  have d1 := cells_row v1 1 _ rfl
  have d2 := cells_row v1 2 _ rfl
  have d3 := cells_row v1 3 _ rfl
  have z0 : w1.frozen? ⟨vb, 0, none⟩ = false := by simp [World.frozen?, v1]
  have z1 : w1.frozen? ⟨vb, 1, none⟩ = false := by simp [World.frozen?, v1]
  have z2 : w1.frozen? ⟨vb, 2, none⟩ = false := by simp [World.frozen?, v1]
  have z3 : w1.frozen? ⟨vb, 3, none⟩ = false := by simp [World.frozen?, v1]
  have H1 := Lib.hid (And.intro f1 (And.intro q1 v1))
  clear hw1 f1 q1 v1 hvb hkz hk0 hk hn ht ho hVK hsz hN0 hN1 hf64 hsl hc5
  obtain ⟨B, hB⟩ : ∃ B, decide (0 ≤ N ∧ N ≤ (ns.length : Int) - 1) = B := ⟨_, rfl⟩
  have hw := isIndex_any N ns.length (by omega) w1
  rw [hB] at hw
  have HBB := Lib.hid hB
  clear hB
  go_wp2_with fail
  refine hw.mono ?_
  rintro e w1' ⟨rfl, rfl⟩
  clear hw
  go_upto_region 22 with fail
  obtain ⟨w2, hw2⟩ : ∃ w2, w2 = w1.setCell ⟨vb, 0, none⟩ (.int .i64 0) := ⟨_, rfl⟩
  rw [← hw2]
  have f2 : Fr (fun k => k = vb) w1 w2 := by rw [hw2]; exact (Fr.refl _ _).set1 _ _
  have v2 : w2.heap[vb]? = some (.cells #[.int .i64 0, .float .f64 f, .string ⟨s.toArray⟩, .slice va c cap] 37 (0, 0)) := by rw [hw2]; exact setCell_row 0 _ H1.out.2.2
  have hsame := vsame_any (fun k => R k ∧ k < w.heap.size) (.mk 0 f s c ov) zeroV (.agg #[.int .i64 0, .float .f64 f, .string ⟨s.toArray⟩, .slice va c cap]) _ w2 (vshows_mk (n := 0) (f := f) (s := s) (by have := HB.out; unfold VB; omega) (HVK.out.fr (H1.out.1.trans f2 (fun i hi h => by have := HVBX.out; omega)) (fun _ _ h => h))) (zeroV_shows _ _) (by have h := HSZ.out; simp only [szV] at h ⊢; first | exact h | (simp; try omega))
  have HE := Lib.hid (show fitsE (.mk k m ns n of) (.mk N f s c ov) = (B && sameV (.mk 0 f s c ov) zeroV) from by rw [← HBB.out]; have hk := HK0.out; subst hk; rw [fitsE]; simp)
  have d0 := cells_row v2 0 _ rfl
  have d1 := cells_row v2 1 _ rfl
  have d2 := cells_row v2 2 _ rfl
  have d3 := cells_row v2 3 _ rfl
  have F2 : Hid (Fr (fun _ => False) w w2) := Lib.hid (H1.out.1.trans f2 (fun i hi h => by have := HVBX.out; omega))
  clear hw2 f2 v2
  cases hB : B with
  | false =>
    clear hsame
    rw [hB] at HE
    clear hB
    go_wp2
    go_ret
    rw [HE.out]
    exact ⟨rfl, F2.out⟩
  | true =>
    rw [hB] at HE
    clear hB
    go_wp2_with fail
    refine hsame.mono ?_
    rintro e w3 ⟨rfl, f3⟩
    have F3 := Lib.hid f3
    clear f3 hsame
    go_wp2
    go_ret
    rw [HE.out]
    exact ⟨rfl, F2.out.trans F3.out (fun _ _ h => h)⟩

set_option maxRecDepth 100000 in
set_option maxHeartbeats 16000000 in
theorem fit_k3 (k : Nat) (m : Int) (ns : List Txt) (n : Nat) (of : Nat → KT) (hk0 : k = 3) : FitsAt (.mk k m ns n of) := by
  intro R v vv w T hsh hvs hsz
  have HSH := Lib.hid (Shows.mono (S := fun k => R k ∧ k < w.heap.size) (fun k hk h => ⟨h, hk⟩) _ _ hsh)
  have HVS := Lib.hid (VShows.mono (S := fun k => R k ∧ k < w.heap.size) (fun k hk h => ⟨h, hk⟩) _ _ hvs)
  clear hvs
  obtain ⟨N, f, s, c, ov, va, cap, rfl, rfl, hVB, hVK⟩ := vshows_open HVS.out
  obtain ⟨vn, vo, rfl, hk, hn, ht, ho⟩ := hsh
  obtain ⟨na, nc, rfl, _⟩ := ht.shape
  obtain ⟨a', c', rfl⟩ : ∃ a' c', vo = .slice a' n c' := by
    rcases ho with ⟨rfl, a', c', rfl⟩ | ⟨g, off, cap, hg, rfl, hle, hc⟩
    · exact ⟨a', c', rfl⟩
    · exact ⟨_, cap, rfl⟩
  have hns : ns.length ≤ 1000 := ht.1
  obtain ⟨hN0, hN1, hf64, hsl, hc5⟩ := hVB
  have HB := Lib.hid (And.intro hN0 (And.intro hN1 (And.intro hf64 (And.intro hsl hc5))))
  have HVK := Lib.hid hVK
  have HSZ := Lib.hid hsz
  have HK0 := Lib.hid hk0
  unfold sv
  obtain ⟨kz, hkz⟩ : ∃ kz : Int, (k : Int) = kz := ⟨_, rfl⟩
  rw [hkz]
  have HKZ := Lib.hid hkz
  have e0 : (kz == 0) = false := by simp; omega
  have e1 : (kz == 1) = false := by simp; omega
  have e2 : (kz == 2) = false := by simp; omega
  have e3 : (kz == 3) = true := by simp; omega
  obtain ⟨w1, hw1⟩ : ∃ w1, w1 = (w.alloc (.cells #[.int .u8 kz, .int .i64 m, .slice na ns.length nc, .slice a' n c'] 32)).alloc (.cells #[.int .i64 N, .float .f64 f, .string ⟨s.toArray⟩, .slice va c cap] 37) := ⟨_, rfl⟩
  have f1 : Fr (fun _ => False) w w1 := by rw [hw1]; exact ((Fr.refl _ _).alloc _).alloc _
  have q1 : w1.heap[w.heap.size]? = some (.cells #[.int .u8 kz, .int .i64 m, .slice na ns.length nc, .slice a' n c'] 32 (0, 0)) := by rw [hw1]; exact heap_alloc_first _ _ _
  have v1 : w1.heap[w.heap.size + 1]? = some (.cells #[.int .i64 N, .float .f64 f, .string ⟨s.toArray⟩, .slice va c cap] 37 (0, 0)) := by rw [hw1]; exact heap_alloc_two _ _ _
  go_enter Try.func24, Try.ntmps24
  go_upto_region 2 with fail
  rw [← hw1]
  obtain ⟨vb, hvb⟩ : ∃ vb, w.heap.size + 1 = vb := ⟨_, rfl⟩
  rw [hvb] at v1 ⊢
  have HVBX := Lib.hid hvb
  have o1 : w.heap.size ≠ vb := by omega
  have o2 : vb ≠ w.heap.size := by omega
  have c0 := cells_row q1 0 _ rfl
  have c1 := cells_row q1 1 _ rfl
  have c2 := cells_row q1 2 _ rfl
  have c3 := cells_row q1 3 _ rfl
  have d0 := cells_row v1 0 _ rfl
  have d1 := cells_row v1 1 _ rfl
  have d2 := cells_row v1 2 _ rfl
  have d3 := cells_row v1 3 _ rfl
  have z0 : w1.frozen? ⟨vb, 0, none⟩ = false := by simp [World.frozen?, v1]
  have z1 : w1.frozen? ⟨vb, 1, none⟩ = false := by simp [World.frozen?, v1]
  have z2 : w1.frozen? ⟨vb, 2, none⟩ = false := by simp [World.frozen?, v1]
  have z3 : w1.frozen? ⟨vb, 3, none⟩ = false := by simp [World.frozen?, v1]
  have H1 := Lib.hid (And.intro f1 (And.intro q1 v1))
  clear hw1 f1 q1 v1 hvb hkz hk0 hk hn ht ho hVK hsz hN0 hN1 hf64 hsl hc5
  obtain ⟨B, hB⟩ : ∃ B, true = B := ⟨_, rfl⟩
  have HBB := Lib.hid hB
  subst hB
  go_upto_region 22 with fail
  obtain ⟨w2, hw2⟩ : ∃ w2, w2 = w1.setCell ⟨vb, 1, none⟩ (.float .f64 0) := ⟨_, rfl⟩
  rw [← hw2]
  have f2 : Fr (fun k => k = vb) w1 w2 := by rw [hw2]; exact (Fr.refl _ _).set1 _ _
  have v2 : w2.heap[vb]? = some (.cells #[.int .i64 N, .float .f64 0, .string ⟨s.toArray⟩, .slice va c cap] 37 (0, 0)) := by rw [hw2]; exact setCell_row 1 _ H1.out.2.2
  have hsame := vsame_any (fun k => R k ∧ k < w.heap.size) (.mk N 0 s c ov) zeroV (.agg #[.int .i64 N, .float .f64 0, .string ⟨s.toArray⟩, .slice va c cap]) _ w2 (vshows_mk (n := N) (f := 0) (s := s) (by have := HB.out; unfold VB; omega) (HVK.out.fr (H1.out.1.trans f2 (fun i hi h => by have := HVBX.out; omega)) (fun _ _ h => h))) (zeroV_shows _ _) (by have h := HSZ.out; simp only [szV] at h ⊢; first | exact h | (simp; try omega))
  have HE := Lib.hid (show fitsE (.mk k m ns n of) (.mk N f s c ov) = (true && sameV (.mk N 0 s c ov) zeroV) from by have hk := HK0.out; subst hk; rw [fitsE]; simp)
  have d0 := cells_row v2 0 _ rfl
  have d1 := cells_row v2 1 _ rfl
  have d2 := cells_row v2 2 _ rfl
  have d3 := cells_row v2 3 _ rfl
  have F2 : Hid (Fr (fun _ => False) w w2) := Lib.hid (H1.out.1.trans f2 (fun i hi h => by have := HVBX.out; omega))
  clear hw2 f2 v2
  go_wp2_with fail
  refine hsame.mono ?_
  rintro e w3 ⟨rfl, f3⟩
  have F3 := Lib.hid f3
  clear f3 hsame
  go_wp2
  go_ret
  rw [HE.out]
  exact ⟨rfl, F2.out.trans F3.out (fun _ _ h => h)⟩

set_option maxRecDepth 100000 in
set_option maxHeartbeats 16000000 in
theorem fit_k4 (k : Nat) (m : Int) (ns : List Txt) (n : Nat) (of : Nat → KT) (hk0 : k = 4) : FitsAt (.mk k m ns n of) := by
  intro R v vv w T hsh hvs hsz
  have HSH := Lib.hid (Shows.mono (S := fun k => R k ∧ k < w.heap.size) (fun k hk h => ⟨h, hk⟩) _ _ hsh)
  have HVS := Lib.hid (VShows.mono (S := fun k => R k ∧ k < w.heap.size) (fun k hk h => ⟨h, hk⟩) _ _ hvs)
  clear hvs
  obtain ⟨N, f, s, c, ov, va, cap, rfl, rfl, hVB, hVK⟩ := vshows_open HVS.out
  obtain ⟨vn, vo, rfl, hk, hn, ht, ho⟩ := hsh
  obtain ⟨na, nc, rfl, _⟩ := ht.shape
  obtain ⟨a', c', rfl⟩ : ∃ a' c', vo = .slice a' n c' := by
    rcases ho with ⟨rfl, a', c', rfl⟩ | ⟨g, off, cap, hg, rfl, hle, hc⟩
    · exact ⟨a', c', rfl⟩
    · exact ⟨_, cap, rfl⟩
  have hns : ns.length ≤ 1000 := ht.1
  obtain ⟨hN0, hN1, hf64, hsl, hc5⟩ := hVB
  have HB := Lib.hid (And.intro hN0 (And.intro hN1 (And.intro hf64 (And.intro hsl hc5))))
  have HVK := Lib.hid hVK
  have HSZ := Lib.hid hsz
  have HK0 := Lib.hid hk0
  unfold sv
  obtain ⟨kz, hkz⟩ : ∃ kz : Int, (k : Int) = kz := ⟨_, rfl⟩
  rw [hkz]
  have HKZ := Lib.hid hkz
  have e0 : (kz == 0) = false := by simp; omega
  have e1 : (kz == 1) = false := by simp; omega
  have e2 : (kz == 2) = false := by simp; omega
  have e3 : (kz == 3) = false := by simp; omega
  have e4 : (kz == 4) = true := by simp; omega
  obtain ⟨w1, hw1⟩ : ∃ w1, w1 = (w.alloc (.cells #[.int .u8 kz, .int .i64 m, .slice na ns.length nc, .slice a' n c'] 32)).alloc (.cells #[.int .i64 N, .float .f64 f, .string ⟨s.toArray⟩, .slice va c cap] 37) := ⟨_, rfl⟩
  have f1 : Fr (fun _ => False) w w1 := by rw [hw1]; exact ((Fr.refl _ _).alloc _).alloc _
  have q1 : w1.heap[w.heap.size]? = some (.cells #[.int .u8 kz, .int .i64 m, .slice na ns.length nc, .slice a' n c'] 32 (0, 0)) := by rw [hw1]; exact heap_alloc_first _ _ _
  have v1 : w1.heap[w.heap.size + 1]? = some (.cells #[.int .i64 N, .float .f64 f, .string ⟨s.toArray⟩, .slice va c cap] 37 (0, 0)) := by rw [hw1]; exact heap_alloc_two _ _ _
  go_enter Try.func24, Try.ntmps24
  go_upto_region 2 with fail
  rw [← hw1]
  obtain ⟨vb, hvb⟩ : ∃ vb, w.heap.size + 1 = vb := ⟨_, rfl⟩
  rw [hvb] at v1 ⊢
  have HVBX := Lib.hid hvb
  have o1 : w.heap.size ≠ vb := by omega
  have o2 : vb ≠ w.heap.size := by omega
  have c0 := cells_row q1 0 _ rfl
  have c1 := cells_row q1 1 _ rfl
  have c2 := cells_row q1 2 _ rfl
  have c3 := cells_row q1 3 _ rfl
  have d0 := cells_row v1 0 _ rfl
  have d1 := cells_row v1 1 _ rfl
  have d2 := cells_row v1 2 _ rfl
  have d3 := cells_row v1 3 _ rfl
  have z0 : w1.frozen? ⟨vb, 0, none⟩ = false := by simp [World.frozen?, v1]
  have z1 : w1.frozen? ⟨vb, 1, none⟩ = false := by simp [World.frozen?, v1]
  have z2 : w1.frozen? ⟨vb, 2, none⟩ = false := by simp [World.frozen?, v1]
  have z3 : w1.frozen? ⟨vb, 3, none⟩ = false := by simp [World.frozen?, v1]
  have H1 := Lib.hid (And.intro f1 (And.intro q1 v1))
  clear hw1 f1 q1 v1 hvb hkz hk0 hk hn ht ho hVK hsz hN0 hN1 hf64 hsl hc5
  have hs0 : ((⟨s.toArray⟩ : ByteArray).size : Int) = (s.length : Int) := by simp [ByteArray.size]
  by_cases hB : (s.length : Int) ≤ m
  · have HDB : Hid (decide ((s.length : Int) ≤ m) = true) := Lib.hid (by simpa using hB)
    go_upto_region 22 with fail
    obtain ⟨w2, hw2⟩ : ∃ w2, w2 = w1.setCell ⟨vb, 2, none⟩ (.string ⟨#[]⟩) := ⟨_, rfl⟩
    rw [← hw2]
    have f2 : Fr (fun k => k = vb) w1 w2 := by rw [hw2]; exact (Fr.refl _ _).set1 _ _
    have v2 : w2.heap[vb]? = some (.cells #[.int .i64 N, .float .f64 f, .string ⟨#[]⟩, .slice va c cap] 37 (0, 0)) := by rw [hw2]; exact setCell_row 2 _ H1.out.2.2
    have hsame := vsame_any (fun k => R k ∧ k < w.heap.size) (.mk N f [] c ov) zeroV (.agg #[.int .i64 N, .float .f64 f, .string ⟨#[]⟩, .slice va c cap]) _ w2 (vshows_mk (n := N) (f := f) (s := []) (by have := HB.out; unfold VB maxLen; simp; omega) (HVK.out.fr (H1.out.1.trans f2 (fun i hi h => by have := HVBX.out; omega)) (fun _ _ h => h))) (zeroV_shows _ _) (by have h := HSZ.out; simp only [szV] at h ⊢; first | exact h | (simp; try omega))
    have HE := Lib.hid (show fitsE (.mk k m ns n of) (.mk N f s c ov) = (true && sameV (.mk N f [] c ov) zeroV) from by rw [← HDB.out]; have hk := HK0.out; subst hk; rw [fitsE]; simp)
    have d0 := cells_row v2 0 _ rfl
    have d1 := cells_row v2 1 _ rfl
    have d2 := cells_row v2 2 _ rfl
    have d3 := cells_row v2 3 _ rfl
    have F2 : Hid (Fr (fun _ => False) w w2) := Lib.hid (H1.out.1.trans f2 (fun i hi h => by have := HVBX.out; omega))
    clear hw2 f2 v2
    go_wp2_with fail
    refine hsame.mono ?_
    rintro e w3 ⟨rfl, f3⟩
    have F3 := Lib.hid f3
    clear f3 hsame
    go_wp2
    go_ret
    rw [HE.out]
    exact ⟨rfl, F2.out.trans F3.out (fun _ _ h => h)⟩
  · have HDB : Hid (decide ((s.length : Int) ≤ m) = false) := Lib.hid (by simpa using hB)
    go_upto_region 22 with fail
    obtain ⟨w2, hw2⟩ : ∃ w2, w2 = w1.setCell ⟨vb, 2, none⟩ (.string ⟨#[]⟩) := ⟨_, rfl⟩
    rw [← hw2]
    have f2 : Fr (fun k => k = vb) w1 w2 := by rw [hw2]; exact (Fr.refl _ _).set1 _ _
    have v2 : w2.heap[vb]? = some (.cells #[.int .i64 N, .float .f64 f, .string ⟨#[]⟩, .slice va c cap] 37 (0, 0)) := by rw [hw2]; exact setCell_row 2 _ H1.out.2.2
    have hsame := vsame_any (fun k => R k ∧ k < w.heap.size) (.mk N f [] c ov) zeroV (.agg #[.int .i64 N, .float .f64 f, .string ⟨#[]⟩, .slice va c cap]) _ w2 (vshows_mk (n := N) (f := f) (s := []) (by have := HB.out; unfold VB maxLen; simp; omega) (HVK.out.fr (H1.out.1.trans f2 (fun i hi h => by have := HVBX.out; omega)) (fun _ _ h => h))) (zeroV_shows _ _) (by have h := HSZ.out; simp only [szV] at h ⊢; first | exact h | (simp; try omega))
    have HE := Lib.hid (show fitsE (.mk k m ns n of) (.mk N f s c ov) = (false && sameV (.mk N f [] c ov) zeroV) from by rw [← HDB.out]; have hk := HK0.out; subst hk; rw [fitsE]; simp)
    have d0 := cells_row v2 0 _ rfl
    have d1 := cells_row v2 1 _ rfl
    have d2 := cells_row v2 2 _ rfl
    have d3 := cells_row v2 3 _ rfl
    have F2 : Hid (Fr (fun _ => False) w w2) := Lib.hid (H1.out.1.trans f2 (fun i hi h => by have := HVBX.out; omega))
    clear hw2 f2 v2
    clear hsame
    go_wp2
    go_ret
    rw [HE.out]
    exact ⟨rfl, F2.out⟩

end Go.Proofs.Ythokfmmbiilllaa

/-
  package value: whether values are each of a type (eachFits), of types (allFit); whether a value is one of a Seq, of a Record.
-/
namespace Go.Proofs.Ythokfmmbiilllaa
open Go.RowKit
attribute [local go_sem] run_store_float
set_option linter.unusedVariables false
set_option linter.unusedSimpArgs false

set_option maxRecDepth 100000 in
set_option maxHeartbeats 16000000 in
theorem each_one (of : Nat → KT) (ih : ∀ i, FitsAt (of i)) (ov : Nat → VT) (R : Nat → Prop) (a' : Option Addr) (n : Nat) (c' : Nat) (va : Option Addr) (c cap : Nat) (w : World) (hks : Kids R w of a' n c') (hvs : VKids R w ov va c cap) (hsz : ∀ i, i < c → szV (ov i) ≤ 100000) (hc5 : c ≤ 100000) (hnc : n = 1) :
    Calls Try.prog 38 #[.slice a' n c', .slice va c cap] w fun e w' => e = .returned (.bool ((List.range c).all (fun i => fitsE (of 0) (ov i)))) ∧ Fr (fun _ => False) w w' := by
  have HKS := Lib.hid hks
  have HVS := Lib.hid hvs
  have HSZ := Lib.hid hsz
  have HNC := Lib.hid hnc
  clear hks hvs hsz
  have hn1 : ((n : Int) == 1) = true := by simp; omega
  have hn2 : ((n : Int) != 1) = false := by unfold bne; rw [hn1]; rfl
  clear hnc
  go_enter Try.func38, Try.ntmps38
  go_wp2
  go_loopg [6, 12] c (fun G u6 u12 wr => ∃ j : Nat, j ≤ c ∧ G = c - j ∧ u12 = .int .i64 j ∧ Hid (Fr (fun _ => False) w wr ∧ ∀ i, i < j → fitsE (of 0) (ov i) = true))
  case atStart => exact ⟨0, Nat.zero_le _, rfl, by go_num, Lib.hid ⟨Fr.refl _ _, fun i hi => by omega⟩⟩
  case round =>
    obtain ⟨j, hj, rfl, rfl, HI⟩ := hrel
    by_cases hlt : j < c
    · rcases HKS.out with hz | ⟨hcap, g, off, hg, rfl, hcell⟩
      · have := HNC.out; omega
      rcases HVS.out with hz | ⟨hvcap, gv, ov', hgv, rfl, hvcell⟩
      · omega
      obtain ⟨x0, x1, x2, x3, y0, y1, y2, y3, hx⟩ := hcell 0 (by have := HNC.out; omega)
      obtain ⟨s0, s1, s2, s3, r0, r1, r2, r3, hs⟩ := hvcell j hlt
      obtain ⟨xk, xm, xa, xn, xc, xa', xn', xc', rfl, rfl, rfl, rfl⟩ := hx.cells
      obtain ⟨zn, zf, zs, za, zc, zcap, es⟩ := hs.lit
      simp only [Value.agg.injEq, Array.mk.injEq, List.cons.injEq, and_true] at es
      obtain ⟨rfl, rfl, rfl, rfl⟩ := es
      simp only [Nat.zero_mul, Nat.add_zero] at y0 y1 y2 y3
      have r0 := cell_fr HI.out.1 (fun _ _ h => h) hgv r0
      have r1 := cell_fr HI.out.1 (fun _ _ h => h) hgv r1
      have r2 := cell_fr HI.out.1 (fun _ _ h => h) hgv r2
      have r3 := cell_fr HI.out.1 (fun _ _ h => h) hgv r3
      obtain ⟨wp, hwp⟩ : ∃ wp, wp = wr.alloc (.cells #[.int .i64 zn, .float .f64 zf, .string zs, .slice za zc zcap] 37) := ⟨_, rfl⟩
      have fp : Fr (fun _ => False) wr wp := by rw [hwp]; exact (Fr.refl _ _).alloc _
      have qp : wp.heap[wr.heap.size]? = some (.cells #[.int .i64 zn, .float .f64 zf, .string zs, .slice za zc zcap] 37 (0, 0)) := by rw [hwp]; exact heap_alloc_new _ _
      have HY := Lib.hid (And.intro hg (And.intro y0 (And.intro y1 (And.intro y2 y3))))
      have HX := Lib.hid (And.intro hx hs)
      have HP := Lib.hid (And.intro (HI.out.1.trans fp (fun _ _ h => h)) qp)
      have HLT := Lib.hid hlt
      have jc : (j : Int) < (c : Int) := by omega
      skip
      have HN1 := Lib.hid (show 0 < n from by have := HNC.out; omega)
      clear hcell hvcell hx hs y0 y1 y2 y3 fp qp
      go_upto_region 6 with fail
      rw [← hwp]
      obtain ⟨pb, hpb⟩ : ∃ pb, wr.heap.size = pb := ⟨_, rfl⟩
      rw [hpb]
      rw [hpb] at HP
      clear hwp hpb r0 r1 r2 r3
      obtain ⟨BB, hBB⟩ : ∃ BB, fitsE (of 0) (ov j) = BB := ⟨_, rfl⟩
      have HBB := Lib.hid hBB
      clear hBB
      have n0 : 0 < n := HN1.out
      refine wp_region_chain (by kernel_rfl) [some 16, some 17, some 18, some 19, some 20, some 21] rfl (by decide) (by intro d hd; simp at hd ⊢; omega)
        [4] (fun _ wx => Fr (fun _ => False) wp wx)
        [.free (.slice (some ⟨g, off, none⟩) n c'), .free (.pointer (some ⟨g, off, none⟩)), .free (.agg #[.int .u8 xk, .int .i64 xm, .slice xa xn xc, .slice xa' xn' xc']), .free (.agg #[.int .i64 zn, .float .f64 zf, .string zs, .slice za zc zcap]), .link (some (.bool BB)), .free (.bool (!BB))]
        (by kernel_rfl) (by kernel_rfl) ?h0 ?step ?fin
      case h0 => exact (Fr.refl _ _).drew
      case step =>
        intro vals2
        simp only [frOfU, fillU, List.setIfInBounds_toArray, List.set_cons_succ, List.set_cons_zero]
        repeat' (first | exact AllOps.nil | refine AllOps.cons ?_ ?_)
        all_goals
          intro cvs wx hS he hu hlim K hK
          simp only [Act.put, List.setIfInBounds_toArray, List.set_cons_succ, List.set_cons_zero, List.getD_cons_zero, List.getD_cons_succ] at hK
          simp only [List.mem_cons, List.not_mem_nil, or_false, forall_eq_or_imp, forall_eq, Region.binds, forall_const, vmode_gc, Bool.false_eq_true, false_imp_iff, List.getD_cons_zero, List.getD_cons_succ, OpSort.val, Option.some.injEq, forall_eq', reduceCtorEq, implies_true, true_and, and_true] at he
          have HSX := Lib.hid hS
          clear hS
        all_goals first | (clear hlim hu; (try simp only [he] at hK ⊢); go_simp; exact hK) | skip
        · have e0 := cell_fr HSX.out (fun _ _ h => h) HY.out.1 (cell_fr HP.out.1 (fun _ _ h => h) HY.out.1 HY.out.2.1)
          have e1 := cell_fr HSX.out (fun _ _ h => h) HY.out.1 (cell_fr HP.out.1 (fun _ _ h => h) HY.out.1 HY.out.2.2.1)
          have e2 := cell_fr HSX.out (fun _ _ h => h) HY.out.1 (cell_fr HP.out.1 (fun _ _ h => h) HY.out.1 HY.out.2.2.2.1)
          have e3 := cell_fr HSX.out (fun _ _ h => h) HY.out.1 (cell_fr HP.out.1 (fun _ _ h => h) HY.out.1 HY.out.2.2.2.2)
          clear hlim hu
          simp only [he] at hK ⊢
          go_simp
          exact hK
        · obtain ⟨e0, e1, e2, e3⟩ := cell_of_four (box_kept HP.out.2 HSX.out (fun h => h))
          clear hlim hu
          simp only [he] at hK ⊢
          go_simp
          exact hK
        · simp only [he] at hK ⊢
          go_simp
          go_at_call 24
          refine (ih 0 R _ _ wx (ov j) (Shows.fr HSX.out (fun _ _ h => h) _ _ (Shows.fr HP.out.1 (fun _ _ h => h) _ _ HX.out.1)) (VShows.fr HSX.out (fun _ _ h => h) _ _ (VShows.fr HP.out.1 (fun _ _ h => h) _ _ HX.out.2)) (HSZ.out j HLT.out)).mono ?_
          rintro e1 wa ⟨rfl, fa⟩
          exact hK _ _ (fun _ h => by cases h; rw [HBB.out]) (HSX.out.trans fa (fun _ _ h => h))
      case fin =>
        intro vals2 w7 hS hV
        have v5 := hV 5 _ (by decide) rfl
        clear hV
        have H7 := Lib.hid (HP.out.1.trans hS (fun _ _ h => h))
        clear hS
        simp only [frOfU, fillU, List.setIfInBounds_toArray, List.set_cons_succ, List.set_cons_zero]
        simp only [Nat.reduceAdd, v5]
        clear v5
        cases BB with
        | true =>
          go_wp2
          go_roundg (c - (j + 1))
          case measure => have := HLT.out; omega
          case rel => exact ⟨j + 1, HLT.out, rfl, by go_num, Lib.hid ⟨H7.out, fun i hi => by
            by_cases h : i < j
            · exact HI.out.2 i h
            · obtain rfl : i = j := by omega
              exact HBB.out⟩⟩
        | false =>
          have EF : Hid ((List.range c).all (fun i => fitsE (of 0) (ov i)) = false) := Lib.hid (by
            rw [List.all_eq_false]
            exact ⟨j, List.mem_range.2 HLT.out, by simp [HBB.out]⟩)
          go_wp2
          go_ret
          rw [EF.out]
          exact ⟨rfl, H7.out⟩
    · obtain rfl : j = c := by omega
      have ET : Hid ((List.range j).all (fun i => fitsE (of 0) (ov i)) = true) := Lib.hid (by
        rw [List.all_eq_true]
        exact fun i hi => HI.out.2 i (List.mem_range.1 hi))
      go_wp2
      go_ret
      rw [ET.out]
      exact ⟨rfl, HI.out.1⟩


set_option maxRecDepth 100000 in
set_option maxHeartbeats 4000000 in
theorem each_any (of : Nat → KT) (ih : ∀ i, FitsAt (of i)) (ov : Nat → VT) (R : Nat → Prop) (a' : Option Addr) (n : Nat) (c' : Nat) (va : Option Addr) (c cap : Nat) (w : World) (hks : Kids R w of a' n c') (hvs : VKids R w ov va c cap) (hsz : ∀ i, i < c → szV (ov i) ≤ 100000) (hc5 : c ≤ 100000) :
    Calls Try.prog 38 #[.slice a' n c', .slice va c cap] w fun e w' => e = .returned (.bool (decide (n = 1) && (List.range c).all (fun i => fitsE (of 0) (ov i)))) ∧ Fr (fun _ => False) w w' := by
  by_cases hn : n = 1
  · rw [decide_eq_true hn, Bool.true_and]
    exact each_one of ih ov R a' n c' va c cap w hks hvs hsz hc5 hn
  · rw [decide_eq_false hn, Bool.false_and]
    have hn1 : ((n : Int) == 1) = false := by simp; omega
    have hn2 : ((n : Int) != 1) = true := by unfold bne; rw [hn1]; rfl
    clear hn hks hvs
    go_enter Try.func38, Try.ntmps38
    go_wp2
    go_ret
    exact ⟨rfl, Fr.refl _ _⟩

set_option maxRecDepth 100000 in
set_option maxHeartbeats 16000000 in
theorem all_any (of : Nat → KT) (ih : ∀ i, FitsAt (of i)) (ov : Nat → VT) (R : Nat → Prop) (a' : Option Addr) (n : Nat) (c' : Nat) (va : Option Addr) (c cap : Nat) (w : World) (hks : Kids R w of a' n c') (hvs : VKids R w ov va c cap) (hsz : ∀ i, i < c → szV (ov i) ≤ 100000) (hc5 : c ≤ 100000) (hnc : c = n) :
    Calls Try.prog 39 #[.slice a' n c', .slice va c cap] w fun e w' => e = .returned (.bool ((List.range c).all (fun i => fitsE (of i) (ov i)))) ∧ Fr (fun _ => False) w w' := by
  have HKS := Lib.hid hks
  have HVS := Lib.hid hvs
  have HSZ := Lib.hid hsz
  have HNC := Lib.hid hnc
  clear hks hvs hsz
  clear hnc
  go_enter Try.func39, Try.ntmps39
  go_wp2
  go_loopg [5, 6, 9] c (fun G u5 u6 u9 wr => ∃ j : Nat, j ≤ c ∧ G = c - j ∧ u9 = .int .i64 j ∧ Hid (Fr (fun _ => False) w wr ∧ ∀ i, i < j → fitsE (of i) (ov i) = true))
  case atStart => exact ⟨0, Nat.zero_le _, rfl, by go_num, Lib.hid ⟨Fr.refl _ _, fun i hi => by omega⟩⟩
  case round =>
    obtain ⟨j, hj, rfl, rfl, HI⟩ := hrel
    by_cases hlt : j < c
    · rcases HKS.out with hz | ⟨hcap, g, off, hg, rfl, hcell⟩
      · have := HNC.out; omega
      rcases HVS.out with hz | ⟨hvcap, gv, ov', hgv, rfl, hvcell⟩
      · omega
      obtain ⟨x0, x1, x2, x3, y0, y1, y2, y3, hx⟩ := hcell j (by have := HNC.out; omega)
      obtain ⟨s0, s1, s2, s3, r0, r1, r2, r3, hs⟩ := hvcell j hlt
      obtain ⟨xk, xm, xa, xn, xc, xa', xn', xc', rfl, rfl, rfl, rfl⟩ := hx.cells
      obtain ⟨zn, zf, zs, za, zc, zcap, es⟩ := hs.lit
      simp only [Value.agg.injEq, Array.mk.injEq, List.cons.injEq, and_true] at es
      obtain ⟨rfl, rfl, rfl, rfl⟩ := es
      skip
      have r0 := cell_fr HI.out.1 (fun _ _ h => h) hgv r0
      have r1 := cell_fr HI.out.1 (fun _ _ h => h) hgv r1
      have r2 := cell_fr HI.out.1 (fun _ _ h => h) hgv r2
      have r3 := cell_fr HI.out.1 (fun _ _ h => h) hgv r3
      obtain ⟨wp, hwp⟩ : ∃ wp, wp = wr.alloc (.cells #[.int .i64 zn, .float .f64 zf, .string zs, .slice za zc zcap] 37) := ⟨_, rfl⟩
      have fp : Fr (fun _ => False) wr wp := by rw [hwp]; exact (Fr.refl _ _).alloc _
      have qp : wp.heap[wr.heap.size]? = some (.cells #[.int .i64 zn, .float .f64 zf, .string zs, .slice za zc zcap] 37 (0, 0)) := by rw [hwp]; exact heap_alloc_new _ _
      have HY := Lib.hid (And.intro hg (And.intro y0 (And.intro y1 (And.intro y2 y3))))
      have HX := Lib.hid (And.intro hx hs)
      have HP := Lib.hid (And.intro (HI.out.1.trans fp (fun _ _ h => h)) qp)
      have HLT := Lib.hid hlt
      have jc : (j : Int) < (c : Int) := by omega
      have jn : (j : Int) < (n : Int) := by have := HNC.out; omega
      have HN1 := Lib.hid (show 0 < n from by have := HNC.out; omega)
      clear hcell hvcell hx hs y0 y1 y2 y3 fp qp
      go_upto_region 4 with fail
      rw [← hwp]
      obtain ⟨pb, hpb⟩ : ∃ pb, wr.heap.size = pb := ⟨_, rfl⟩
      rw [hpb]
      rw [hpb] at HP
      clear hwp hpb r0 r1 r2 r3
      obtain ⟨BB, hBB⟩ : ∃ BB, fitsE (of j) (ov j) = BB := ⟨_, rfl⟩
      have HBB := Lib.hid hBB
      clear hBB
      skip
      refine wp_region_chain (by kernel_rfl) [some 14, some 15, some 16, some 17, some 18, some 19, some 20] rfl (by decide) (by intro d hd; simp at hd ⊢; omega)
        [5] (fun _ wx => Fr (fun _ => False) wp wx)
        [.free (.slice (some ⟨g, off, none⟩) n c'), .free (.int .i64 j), .free (.pointer (some ⟨g, off + j * 4, none⟩)), .free (.agg #[.int .u8 xk, .int .i64 xm, .slice xa xn xc, .slice xa' xn' xc']), .free (.agg #[.int .i64 zn, .float .f64 zf, .string zs, .slice za zc zcap]), .link (some (.bool BB)), .free (.bool (!BB))]
        (by kernel_rfl) (by kernel_rfl) ?h0 ?step ?fin
      case h0 => exact (Fr.refl _ _).drew
      case step =>
        intro vals2
        simp only [frOfU, fillU, List.setIfInBounds_toArray, List.set_cons_succ, List.set_cons_zero]
        repeat' (first | exact AllOps.nil | refine AllOps.cons ?_ ?_)
        all_goals
          intro cvs wx hS he hu hlim K hK
          simp only [Act.put, List.setIfInBounds_toArray, List.set_cons_succ, List.set_cons_zero, List.getD_cons_zero, List.getD_cons_succ] at hK
          simp only [List.mem_cons, List.not_mem_nil, or_false, forall_eq_or_imp, forall_eq, Region.binds, forall_const, vmode_gc, Bool.false_eq_true, false_imp_iff, List.getD_cons_zero, List.getD_cons_succ, OpSort.val, Option.some.injEq, forall_eq', reduceCtorEq, implies_true, true_and, and_true] at he
          have HSX := Lib.hid hS
          clear hS
        all_goals first | (clear hlim hu; (try simp only [he] at hK ⊢); go_simp; exact hK) | skip
        · have e0 := cell_fr HSX.out (fun _ _ h => h) HY.out.1 (cell_fr HP.out.1 (fun _ _ h => h) HY.out.1 HY.out.2.1)
          have e1 := cell_fr HSX.out (fun _ _ h => h) HY.out.1 (cell_fr HP.out.1 (fun _ _ h => h) HY.out.1 HY.out.2.2.1)
          have e2 := cell_fr HSX.out (fun _ _ h => h) HY.out.1 (cell_fr HP.out.1 (fun _ _ h => h) HY.out.1 HY.out.2.2.2.1)
          have e3 := cell_fr HSX.out (fun _ _ h => h) HY.out.1 (cell_fr HP.out.1 (fun _ _ h => h) HY.out.1 HY.out.2.2.2.2)
          clear hlim hu
          simp only [he] at hK ⊢
          go_simp
          exact hK
        · obtain ⟨e0, e1, e2, e3⟩ := cell_of_four (box_kept HP.out.2 HSX.out (fun h => h))
          clear hlim hu
          simp only [he] at hK ⊢
          go_simp
          exact hK
        · simp only [he] at hK ⊢
          go_simp
          go_at_call 24
          refine (ih j R _ _ wx (ov j) (Shows.fr HSX.out (fun _ _ h => h) _ _ (Shows.fr HP.out.1 (fun _ _ h => h) _ _ HX.out.1)) (VShows.fr HSX.out (fun _ _ h => h) _ _ (VShows.fr HP.out.1 (fun _ _ h => h) _ _ HX.out.2)) (HSZ.out j HLT.out)).mono ?_
          rintro e1 wa ⟨rfl, fa⟩
          exact hK _ _ (fun _ h => by cases h; rw [HBB.out]) (HSX.out.trans fa (fun _ _ h => h))
      case fin =>
        intro vals2 w7 hS hV
        have v5 := hV 6 _ (by decide) rfl
        clear hV
        have H7 := Lib.hid (HP.out.1.trans hS (fun _ _ h => h))
        clear hS
        simp only [frOfU, fillU, List.setIfInBounds_toArray, List.set_cons_succ, List.set_cons_zero]
        simp only [Nat.reduceAdd, v5]
        clear v5
        cases BB with
        | true =>
          go_wp2
          go_roundg (c - (j + 1))
          case measure => have := HLT.out; omega
          case rel => exact ⟨j + 1, HLT.out, rfl, by go_num, Lib.hid ⟨H7.out, fun i hi => by
            by_cases h : i < j
            · exact HI.out.2 i h
            · obtain rfl : i = j := by omega
              exact HBB.out⟩⟩
        | false =>
          have EF : Hid ((List.range c).all (fun i => fitsE (of i) (ov i)) = false) := Lib.hid (by
            rw [List.all_eq_false]
            exact ⟨j, List.mem_range.2 HLT.out, by simp [HBB.out]⟩)
          go_wp2
          go_ret
          rw [EF.out]
          exact ⟨rfl, H7.out⟩
    · obtain rfl : j = c := by omega
      have ET : Hid ((List.range j).all (fun i => fitsE (of i) (ov i)) = true) := Lib.hid (by
        rw [List.all_eq_true]
        exact fun i hi => HI.out.2 i (List.mem_range.1 hi))
      go_wp2
      go_ret
      rw [ET.out]
      exact ⟨rfl, HI.out.1⟩


set_option maxRecDepth 100000 in
set_option maxHeartbeats 16000000 in
theorem fit_k5 (k : Nat) (m : Int) (ns : List Txt) (n : Nat) (of : Nat → KT) (ih : ∀ i, FitsAt (of i)) (hk0 : k = 5) : FitsAt (.mk k m ns n of) := by
  intro R v vv w T hsh hvs hsz
  have HSH := Lib.hid (Shows.mono (S := fun k => R k ∧ k < w.heap.size) (fun k hk h => ⟨h, hk⟩) _ _ hsh)
  have HVS := Lib.hid (VShows.mono (S := fun k => R k ∧ k < w.heap.size) (fun k hk h => ⟨h, hk⟩) _ _ hvs)
  clear hvs
  obtain ⟨N, f, s, c, ov, va, cap, rfl, rfl, hVB, hVK⟩ := vshows_open HVS.out
  obtain ⟨vn, vo, rfl, hk, hn, ht, ho⟩ := hsh
  obtain ⟨na, nc, rfl, _⟩ := ht.shape
  obtain ⟨a', c', rfl⟩ : ∃ a' c', vo = .slice a' n c' := by
    rcases ho with ⟨rfl, a', c', rfl⟩ | ⟨g, off, cap, hg, rfl, hle, hc⟩
    · exact ⟨a', c', rfl⟩
    · exact ⟨_, cap, rfl⟩
  have hns : ns.length ≤ 1000 := ht.1
  obtain ⟨hN0, hN1, hf64, hsl, hc5⟩ := hVB
  have HB := Lib.hid (And.intro hN0 (And.intro hN1 (And.intro hf64 (And.intro hsl hc5))))
  have HVK := Lib.hid hVK
  have HSZ := Lib.hid hsz
  have HK0 := Lib.hid hk0
  unfold sv
  obtain ⟨kz, hkz⟩ : ∃ kz : Int, (k : Int) = kz := ⟨_, rfl⟩
  rw [hkz]
  have HKZ := Lib.hid hkz
  have e0 : (kz == 0) = false := by simp; omega
  have e1 : (kz == 1) = false := by simp; omega
  have e2 : (kz == 2) = false := by simp; omega
  have e3 : (kz == 3) = false := by simp; omega
  have e4 : (kz == 4) = false := by simp; omega
  have e7 : (kz == 7) = false := by simp; omega
  have e5 : (kz == 5) = true := by simp; omega
  obtain ⟨w1, hw1⟩ : ∃ w1, w1 = (w.alloc (.cells #[.int .u8 kz, .int .i64 m, .slice na ns.length nc, .slice a' n c'] 32)).alloc (.cells #[.int .i64 N, .float .f64 f, .string ⟨s.toArray⟩, .slice va c cap] 37) := ⟨_, rfl⟩
  have f1 : Fr (fun _ => False) w w1 := by rw [hw1]; exact ((Fr.refl _ _).alloc _).alloc _
  have q1 : w1.heap[w.heap.size]? = some (.cells #[.int .u8 kz, .int .i64 m, .slice na ns.length nc, .slice a' n c'] 32 (0, 0)) := by rw [hw1]; exact heap_alloc_first _ _ _
  have v1 : w1.heap[w.heap.size + 1]? = some (.cells #[.int .i64 N, .float .f64 f, .string ⟨s.toArray⟩, .slice va c cap] 37 (0, 0)) := by rw [hw1]; exact heap_alloc_two _ _ _
  go_enter Try.func24, Try.ntmps24
  go_upto_region 2 with fail
  rw [← hw1]
  obtain ⟨vb, hvb⟩ : ∃ vb, w.heap.size + 1 = vb := ⟨_, rfl⟩
  rw [hvb] at v1 ⊢
  have HVBX := Lib.hid hvb
  have o1 : w.heap.size ≠ vb := by omega
  have o2 : vb ≠ w.heap.size := by omega
  have c0 := cells_row q1 0 _ rfl
  have c1 := cells_row q1 1 _ rfl
  have c2 := cells_row q1 2 _ rfl
  have c3 := cells_row q1 3 _ rfl
  have d0 := cells_row v1 0 _ rfl
  have d1 := cells_row v1 1 _ rfl
  have d2 := cells_row v1 2 _ rfl
  have d3 := cells_row v1 3 _ rfl
  have z0 : w1.frozen? ⟨vb, 0, none⟩ = false := by simp [World.frozen?, v1]
  have z1 : w1.frozen? ⟨vb, 1, none⟩ = false := by simp [World.frozen?, v1]
  have z2 : w1.frozen? ⟨vb, 2, none⟩ = false := by simp [World.frozen?, v1]
  have z3 : w1.frozen? ⟨vb, 3, none⟩ = false := by simp [World.frozen?, v1]
  have H1 := Lib.hid (And.intro f1 (And.intro q1 v1))
  clear hw1 f1 q1 v1 hvb hkz hk0 hk hn ht ho hVK hsz hN0 hN1 hf64 hsl hc5
  have hks : Kids (fun k => R k ∧ k < w.heap.size) w of a' n c' := by
    have h := HSH.out
    rw [HKZ.out] at h
    obtain ⟨k2, m2, ns2, of2, a2, c2, a3, n3, c3, e1, e2, e3, e4, e5, _, _, hk⟩ := shows_open h
    cases e1
    cases e5
    exact hk
  have HKK := Lib.hid (hks.fr H1.out.1 (fun _ _ h => h))
  have HVV := Lib.hid (HVK.out.fr H1.out.1 (fun _ _ h => h))
  have hss : ∀ i, i < c → szV (ov i) ≤ 100000 := fun i hi => by
    have h := HSZ.out
    rw [szV] at h
    have h2 := sumTo_le (fun i => szV (ov i)) i c hi
    unfold sumTo at h2
    omega
  have hcc : c ≤ 100000 := HB.out.2.2.2.2
  clear hks
  by_cases hB : (c : Int) ≤ m
  · have HDB : Hid (decide ((c : Int) ≤ m) = true) := Lib.hid (by simpa using hB)
    have hcall := each_any of ih ov (fun k => R k ∧ k < w.heap.size) a' n c' va c cap w1 HKK.out HVV.out hss hcc
    have HEQ : Hid (fitsE (.mk k m ns n of) (.mk N f s c ov) = ((decide (n = 1) && (List.range c).all (fun i => fitsE (of 0) (ov i))) && sameV (.mk N f s 0 ov) zeroV)) := Lib.hid (by
      have hk := HK0.out; subst hk; rw [fitsE]; rw [HDB.out]; simp)
    obtain ⟨BB, hBB⟩ : ∃ BB, (decide (n = 1) && (List.range c).all (fun i => fitsE (of 0) (ov i))) = BB := ⟨_, rfl⟩
    rw [hBB] at hcall HEQ
    clear hBB
    go_wp2_with fail
    refine hcall.mono ?_
    rintro e w3 ⟨rfl, f3⟩
    clear hcall
    have F3 := Lib.hid f3
    have v3 := box_kept H1.out.2.2 f3 (fun h => h)
    have z3 : w3.frozen? ⟨vb, 3, none⟩ = false := by simp [World.frozen?, v3]
    have d3 := cells_row v3 3 _ rfl
    clear f3
    go_upto_region 22 with fail
    obtain ⟨w2, hw2⟩ : ∃ w2, w2 = w3.setCell ⟨vb, 3, none⟩ (.slice none 0 0) := ⟨_, rfl⟩
    rw [← hw2]
    have f2 : Fr (fun k => k = vb) w3 w2 := by rw [hw2]; exact (Fr.refl _ _).set1 _ _
    have v2 : w2.heap[vb]? = some (.cells #[.int .i64 N, .float .f64 f, .string ⟨s.toArray⟩, .slice none 0 0] 37 (0, 0)) := by rw [hw2]; exact setCell_row 3 _ v3
    have hsame := vsame_any (fun k => R k ∧ k < w.heap.size) (.mk N f s 0 ov) zeroV (.agg #[.int .i64 N, .float .f64 f, .string ⟨s.toArray⟩, .slice none 0 0]) _ w2 (vshows_mk (n := N) (f := f) (s := s) (by have := HB.out; unfold VB; omega) (.inl rfl)) (zeroV_shows _ _) (by have h := HSZ.out; simp only [szV] at h ⊢; first | exact h | (simp; try omega))
    have HE := Lib.hid (show fitsE (.mk k m ns n of) (.mk N f s c ov) = (BB && sameV (.mk N f s 0 ov) zeroV) from HEQ.out)
    have d0 := cells_row v2 0 _ rfl
    have d1 := cells_row v2 1 _ rfl
    have d2 := cells_row v2 2 _ rfl
    have d3 := cells_row v2 3 _ rfl
    have F2 : Hid (Fr (fun _ => False) w w2) := Lib.hid ((H1.out.1.trans F3.out (fun _ _ h => h)).trans f2 (fun i hi h => by have := HVBX.out; omega))
    clear hw2 f2 v2
    cases hBB : BB with
    | false =>
      clear hsame
      rw [hBB] at HE
      clear hBB
      go_wp2
      go_ret
      rw [HE.out]
      exact ⟨rfl, F2.out⟩
    | true =>
      rw [hBB] at HE
      clear hBB
      go_wp2_with fail
      refine hsame.mono ?_
      rintro e w3 ⟨rfl, f3⟩
      have F3 := Lib.hid f3
      clear f3 hsame
      go_wp2
      go_ret
      rw [HE.out]
      exact ⟨rfl, F2.out.trans F3.out (fun _ _ h => h)⟩
  · have HEQ : Hid (fitsE (.mk k m ns n of) (.mk N f s c ov) = false) := Lib.hid (by
      have hk := HK0.out; subst hk; rw [fitsE]; rw [decide_eq_false hB]; simp)
    go_wp2
    go_ret
    rw [HEQ.out]
    refine ⟨rfl, H1.out.1.setCell (p := ⟨vb, 3, none⟩) (fun h => by have := HVBX.out; simp at h; omega) _⟩

set_option maxRecDepth 100000 in
set_option maxHeartbeats 16000000 in
theorem fit_k6 (k : Nat) (m : Int) (ns : List Txt) (n : Nat) (of : Nat → KT) (ih : ∀ i, FitsAt (of i)) (hk0 : k = 6) : FitsAt (.mk k m ns n of) := by
  intro R v vv w T hsh hvs hsz
  have HSH := Lib.hid (Shows.mono (S := fun k => R k ∧ k < w.heap.size) (fun k hk h => ⟨h, hk⟩) _ _ hsh)
  have HVS := Lib.hid (VShows.mono (S := fun k => R k ∧ k < w.heap.size) (fun k hk h => ⟨h, hk⟩) _ _ hvs)
  clear hvs
  obtain ⟨N, f, s, c, ov, va, cap, rfl, rfl, hVB, hVK⟩ := vshows_open HVS.out
  obtain ⟨vn, vo, rfl, hk, hn, ht, ho⟩ := hsh
  obtain ⟨na, nc, rfl, _⟩ := ht.shape
  obtain ⟨a', c', rfl⟩ : ∃ a' c', vo = .slice a' n c' := by
    rcases ho with ⟨rfl, a', c', rfl⟩ | ⟨g, off, cap, hg, rfl, hle, hc⟩
    · exact ⟨a', c', rfl⟩
    · exact ⟨_, cap, rfl⟩
  have hns : ns.length ≤ 1000 := ht.1
  obtain ⟨hN0, hN1, hf64, hsl, hc5⟩ := hVB
  have HB := Lib.hid (And.intro hN0 (And.intro hN1 (And.intro hf64 (And.intro hsl hc5))))
  have HVK := Lib.hid hVK
  have HSZ := Lib.hid hsz
  have HK0 := Lib.hid hk0
  unfold sv
  obtain ⟨kz, hkz⟩ : ∃ kz : Int, (k : Int) = kz := ⟨_, rfl⟩
  rw [hkz]
  have HKZ := Lib.hid hkz
  have e0 : (kz == 0) = false := by simp; omega
  have e1 : (kz == 1) = false := by simp; omega
  have e2 : (kz == 2) = false := by simp; omega
  have e3 : (kz == 3) = false := by simp; omega
  have e4 : (kz == 4) = false := by simp; omega
  have e7 : (kz == 7) = false := by simp; omega
  have e5 : (kz == 5) = false := by simp; omega
  have e6 : (kz == 6) = true := by simp; omega
  obtain ⟨w1, hw1⟩ : ∃ w1, w1 = (w.alloc (.cells #[.int .u8 kz, .int .i64 m, .slice na ns.length nc, .slice a' n c'] 32)).alloc (.cells #[.int .i64 N, .float .f64 f, .string ⟨s.toArray⟩, .slice va c cap] 37) := ⟨_, rfl⟩
  have f1 : Fr (fun _ => False) w w1 := by rw [hw1]; exact ((Fr.refl _ _).alloc _).alloc _
  have q1 : w1.heap[w.heap.size]? = some (.cells #[.int .u8 kz, .int .i64 m, .slice na ns.length nc, .slice a' n c'] 32 (0, 0)) := by rw [hw1]; exact heap_alloc_first _ _ _
  have v1 : w1.heap[w.heap.size + 1]? = some (.cells #[.int .i64 N, .float .f64 f, .string ⟨s.toArray⟩, .slice va c cap] 37 (0, 0)) := by rw [hw1]; exact heap_alloc_two _ _ _
  go_enter Try.func24, Try.ntmps24
  go_upto_region 2 with fail
  rw [← hw1]
  obtain ⟨vb, hvb⟩ : ∃ vb, w.heap.size + 1 = vb := ⟨_, rfl⟩
  rw [hvb] at v1 ⊢
  have HVBX := Lib.hid hvb
  have o1 : w.heap.size ≠ vb := by omega
  have o2 : vb ≠ w.heap.size := by omega
  have c0 := cells_row q1 0 _ rfl
  have c1 := cells_row q1 1 _ rfl
  have c2 := cells_row q1 2 _ rfl
  have c3 := cells_row q1 3 _ rfl
  have d0 := cells_row v1 0 _ rfl
  have d1 := cells_row v1 1 _ rfl
  have d2 := cells_row v1 2 _ rfl
  have d3 := cells_row v1 3 _ rfl
  have z0 : w1.frozen? ⟨vb, 0, none⟩ = false := by simp [World.frozen?, v1]
  have z1 : w1.frozen? ⟨vb, 1, none⟩ = false := by simp [World.frozen?, v1]
  have z2 : w1.frozen? ⟨vb, 2, none⟩ = false := by simp [World.frozen?, v1]
  have z3 : w1.frozen? ⟨vb, 3, none⟩ = false := by simp [World.frozen?, v1]
  have H1 := Lib.hid (And.intro f1 (And.intro q1 v1))
  clear hw1 f1 q1 v1 hvb hkz hk0 hk hn ht ho hVK hsz hN0 hN1 hf64 hsl hc5
  have hks : Kids (fun k => R k ∧ k < w.heap.size) w of a' n c' := by
    have h := HSH.out
    rw [HKZ.out] at h
    obtain ⟨k2, m2, ns2, of2, a2, c2, a3, n3, c3, e1, e2, e3, e4, e5, _, _, hk⟩ := shows_open h
    cases e1
    cases e5
    exact hk
  have HKK := Lib.hid (hks.fr H1.out.1 (fun _ _ h => h))
  have HVV := Lib.hid (HVK.out.fr H1.out.1 (fun _ _ h => h))
  have hss : ∀ i, i < c → szV (ov i) ≤ 100000 := fun i hi => by
    have h := HSZ.out
    rw [szV] at h
    have h2 := sumTo_le (fun i => szV (ov i)) i c hi
    unfold sumTo at h2
    omega
  have hcc : c ≤ 100000 := HB.out.2.2.2.2
  clear hks
  by_cases hB : c = n
  · have hB1 : ((c : Int) == (n : Int)) = true := by simp; omega
    have HDB : Hid (decide (c = n) = true) := Lib.hid (by simpa using hB)
    have hcall := all_any of ih ov (fun k => R k ∧ k < w.heap.size) a' n c' va c cap w1 HKK.out HVV.out hss hcc hB
    have HEQ : Hid (fitsE (.mk k m ns n of) (.mk N f s c ov) = (((List.range c).all (fun i => fitsE (of i) (ov i))) && sameV (.mk N f s 0 ov) zeroV)) := Lib.hid (by
      have hk := HK0.out; subst hk; rw [fitsE]; rw [HDB.out]; simp)
    clear hB
    obtain ⟨BB, hBB⟩ : ∃ BB, ((List.range c).all (fun i => fitsE (of i) (ov i))) = BB := ⟨_, rfl⟩
    rw [hBB] at hcall HEQ
    clear hBB
    go_wp2_with fail
    refine hcall.mono ?_
    rintro e w3 ⟨rfl, f3⟩
    clear hcall
    have F3 := Lib.hid f3
    have v3 := box_kept H1.out.2.2 f3 (fun h => h)
    have z3 : w3.frozen? ⟨vb, 3, none⟩ = false := by simp [World.frozen?, v3]
    have d3 := cells_row v3 3 _ rfl
    clear f3
    go_upto_region 22 with fail
    obtain ⟨w2, hw2⟩ : ∃ w2, w2 = w3.setCell ⟨vb, 3, none⟩ (.slice none 0 0) := ⟨_, rfl⟩
    rw [← hw2]
    have f2 : Fr (fun k => k = vb) w3 w2 := by rw [hw2]; exact (Fr.refl _ _).set1 _ _
    have v2 : w2.heap[vb]? = some (.cells #[.int .i64 N, .float .f64 f, .string ⟨s.toArray⟩, .slice none 0 0] 37 (0, 0)) := by rw [hw2]; exact setCell_row 3 _ v3
    have hsame := vsame_any (fun k => R k ∧ k < w.heap.size) (.mk N f s 0 ov) zeroV (.agg #[.int .i64 N, .float .f64 f, .string ⟨s.toArray⟩, .slice none 0 0]) _ w2 (vshows_mk (n := N) (f := f) (s := s) (by have := HB.out; unfold VB; omega) (.inl rfl)) (zeroV_shows _ _) (by have h := HSZ.out; simp only [szV] at h ⊢; first | exact h | (simp; try omega))
    have HE := Lib.hid (show fitsE (.mk k m ns n of) (.mk N f s c ov) = (BB && sameV (.mk N f s 0 ov) zeroV) from HEQ.out)
    have d0 := cells_row v2 0 _ rfl
    have d1 := cells_row v2 1 _ rfl
    have d2 := cells_row v2 2 _ rfl
    have d3 := cells_row v2 3 _ rfl
    have F2 : Hid (Fr (fun _ => False) w w2) := Lib.hid ((H1.out.1.trans F3.out (fun _ _ h => h)).trans f2 (fun i hi h => by have := HVBX.out; omega))
    clear hw2 f2 v2
    cases hBB : BB with
    | false =>
      clear hsame
      rw [hBB] at HE
      clear hBB
      go_wp2
      go_ret
      rw [HE.out]
      exact ⟨rfl, F2.out⟩
    | true =>
      rw [hBB] at HE
      clear hBB
      go_wp2_with fail
      refine hsame.mono ?_
      rintro e w3 ⟨rfl, f3⟩
      have F3 := Lib.hid f3
      clear f3 hsame
      go_wp2
      go_ret
      rw [HE.out]
      exact ⟨rfl, F2.out.trans F3.out (fun _ _ h => h)⟩
  · have hB1 : ((c : Int) == (n : Int)) = false := by simp; omega
    have HEQ : Hid (fitsE (.mk k m ns n of) (.mk N f s c ov) = false) := Lib.hid (by
      have hk := HK0.out; subst hk; rw [fitsE]; rw [decide_eq_false hB]; simp)
    clear hB
    go_wp2
    go_ret
    rw [HEQ.out]
    refine ⟨rfl, H1.out.1.setCell (p := ⟨vb, 3, none⟩) (fun h => by have := HVBX.out; simp at h; omega) _⟩

end Go.Proofs.Ythokfmmbiilllaa

/-
  package value: whether a value is one of a Choice, of a type of no kind; of every type; Check.
-/
namespace Go.Proofs.Ythokfmmbiilllaa
open Go.RowKit
attribute [local go_sem] run_store_float
set_option linter.unusedVariables false
set_option linter.unusedSimpArgs false

set_option maxRecDepth 100000 in
set_option maxHeartbeats 16000000 in
theorem fit_k8 (k : Nat) (m : Int) (ns : List Txt) (n : Nat) (of : Nat → KT) (ih : ∀ i, FitsAt (of i)) (hk0 : k = 8) : FitsAt (.mk k m ns n of) := by
  intro R v vv w T hsh hvs hsz
  have HSH := Lib.hid (Shows.mono (S := fun k => R k ∧ k < w.heap.size) (fun k hk h => ⟨h, hk⟩) _ _ hsh)
  have HVS := Lib.hid (VShows.mono (S := fun k => R k ∧ k < w.heap.size) (fun k hk h => ⟨h, hk⟩) _ _ hvs)
  clear hvs
  obtain ⟨N, f, s, c, ov, va, cap, rfl, rfl, hVB, hVK⟩ := vshows_open HVS.out
  obtain ⟨vn, vo, rfl, hk, hn, ht, ho⟩ := hsh
  obtain ⟨na, nc, rfl, _⟩ := ht.shape
  obtain ⟨a', c', rfl⟩ : ∃ a' c', vo = .slice a' n c' := by
    rcases ho with ⟨rfl, a', c', rfl⟩ | ⟨g, off, cap, hg, rfl, hle, hc⟩
    · exact ⟨a', c', rfl⟩
    · exact ⟨_, cap, rfl⟩
  have hns : ns.length ≤ 1000 := ht.1
  have HNN := Lib.hid hn
  obtain ⟨hN0, hN1, hf64, hsl, hc5⟩ := hVB
  have HB := Lib.hid (And.intro hN0 (And.intro hN1 (And.intro hf64 (And.intro hsl hc5))))
  have HVK := Lib.hid hVK
  have HSZ := Lib.hid hsz
  have HK0 := Lib.hid hk0
  unfold sv
  obtain ⟨kz, hkz⟩ : ∃ kz : Int, (k : Int) = kz := ⟨_, rfl⟩
  rw [hkz]
  have HKZ := Lib.hid hkz
  have e0 : (kz == 0) = false := by simp; omega
  have e1 : (kz == 1) = false := by simp; omega
  have e2 : (kz == 2) = false := by simp; omega
  have e3 : (kz == 3) = false := by simp; omega
  have e4 : (kz == 4) = false := by simp; omega
  have e7 : (kz == 7) = false := by simp; omega
  have e5 : (kz == 5) = false := by simp; omega
  have e6 : (kz == 6) = false := by simp; omega
  have e8 : (kz == 8) = true := by simp; omega
  obtain ⟨w1, hw1⟩ : ∃ w1, w1 = (w.alloc (.cells #[.int .u8 kz, .int .i64 m, .slice na ns.length nc, .slice a' n c'] 32)).alloc (.cells #[.int .i64 N, .float .f64 f, .string ⟨s.toArray⟩, .slice va c cap] 37) := ⟨_, rfl⟩
  have f1 : Fr (fun _ => False) w w1 := by rw [hw1]; exact ((Fr.refl _ _).alloc _).alloc _
  have q1 : w1.heap[w.heap.size]? = some (.cells #[.int .u8 kz, .int .i64 m, .slice na ns.length nc, .slice a' n c'] 32 (0, 0)) := by rw [hw1]; exact heap_alloc_first _ _ _
  have v1 : w1.heap[w.heap.size + 1]? = some (.cells #[.int .i64 N, .float .f64 f, .string ⟨s.toArray⟩, .slice va c cap] 37 (0, 0)) := by rw [hw1]; exact heap_alloc_two _ _ _
  go_enter Try.func24, Try.ntmps24
  go_upto_region 2 with fail
  rw [← hw1]
  obtain ⟨vb, hvb⟩ : ∃ vb, w.heap.size + 1 = vb := ⟨_, rfl⟩
  rw [hvb] at v1 ⊢
  have HVBX := Lib.hid hvb
  have o1 : w.heap.size ≠ vb := by omega
  have o2 : vb ≠ w.heap.size := by omega
  have c0 := cells_row q1 0 _ rfl
  have c1 := cells_row q1 1 _ rfl
  have c2 := cells_row q1 2 _ rfl
  have c3 := cells_row q1 3 _ rfl
  have d0 := cells_row v1 0 _ rfl
  have d1 := cells_row v1 1 _ rfl
  have d2 := cells_row v1 2 _ rfl
  have d3 := cells_row v1 3 _ rfl
  have z0 : w1.frozen? ⟨vb, 0, none⟩ = false := by simp [World.frozen?, v1]
  have z1 : w1.frozen? ⟨vb, 1, none⟩ = false := by simp [World.frozen?, v1]
  have z2 : w1.frozen? ⟨vb, 2, none⟩ = false := by simp [World.frozen?, v1]
  have z3 : w1.frozen? ⟨vb, 3, none⟩ = false := by simp [World.frozen?, v1]
  have H1 := Lib.hid (And.intro f1 (And.intro q1 v1))
  clear hw1 f1 q1 v1 hvb hkz hk0 hk hn ht ho hVK hsz hN0 hN1 hf64 hsl hc5
  have hks : Kids (fun k => R k ∧ k < w.heap.size) w of a' n c' := by
    have h := HSH.out
    rw [HKZ.out] at h
    obtain ⟨k2, m2, ns2, of2, a2, c2, a3, n3, c3, e1, e2, e3, e4, e5, _, _, hk⟩ := shows_open h
    cases e1
    cases e5
    exact hk
  have HKK := Lib.hid (hks.fr H1.out.1 (fun _ _ h => h))
  have HVV := Lib.hid (HVK.out.fr H1.out.1 (fun _ _ h => h))
  have hss : ∀ i, i < c → szV (ov i) ≤ 100000 := fun i hi => by
    have h := HSZ.out
    rw [szV] at h
    have h2 := sumTo_le (fun i => szV (ov i)) i c hi
    unfold sumTo at h2
    omega
  have hcc : c ≤ 100000 := HB.out.2.2.2.2
  have hn1000 : n ≤ 1000 := HNN.out
  clear hks
  by_cases hN : 0 ≤ N ∧ N ≤ (n : Int) - 1
  case neg =>
    have HDN : Hid (decide (0 ≤ N ∧ N ≤ (n : Int) - 1) = false) := Lib.hid (decide_eq_false hN)
    clear hN
    go_upto_region 20 with fail
    refine wp_region_chain (by kernel_rfl) [some 82, some 83, some 84, some 85, some 86, some 87, some 88, some 89, some 90, some 91, some 92, some 93, some 94, some 95, some 96, some 97, some 98, some 99, some 100, some 101, some 102, some 103, some 104, some 105, some 106, some 5] rfl (by decide) (by intro d hd; simp at hd ⊢; omega)
      [] (fun _ wx => Fr (fun _ => False) w1 wx)
      [.free (.pointer (some ⟨vb, 0, none⟩)), .free (.int .i64 N), .free (.pointer (some ⟨w.heap.size, 3, none⟩)), .free (.slice a' n c'), .free (.int .i64 n), .free (.bool false), .free (.bool false), .free undef, .free undef, .free undef, .free undef, .free (.bool false), .free (.bool false), .free undef, .free undef, .free undef, .free undef, .free undef, .free undef, .free undef, .free undef, .free undef, .free undef, .free undef, .free (.bool false), .free (.bool false)]
      (by kernel_rfl) (by kernel_rfl) ?h0A ?stepA ?finA
    case h0A => exact (Fr.refl _ _).drew
    case stepA =>
      intro vals2
      simp only [frOfU, fillU, List.setIfInBounds_toArray, List.set_cons_succ, List.set_cons_zero]
      repeat' (first | exact AllOps.nil | refine AllOps.cons ?_ ?_)
      all_goals
        intro cvs wx hS he hu hlim K hK
        simp only [Act.put, List.setIfInBounds_toArray, List.set_cons_succ, List.set_cons_zero, List.getD_cons_zero, List.getD_cons_succ] at hK
        simp only [List.mem_cons, List.not_mem_nil, or_false, forall_eq_or_imp, forall_eq, Region.binds, forall_const, vmode_gc, Bool.false_eq_true, false_imp_iff, List.getD_cons_zero, List.getD_cons_succ, OpSort.val, Option.some.injEq, forall_eq', reduceCtorEq, implies_true, true_and, and_true] at he
        have HSX := Lib.hid hS
        clear hS hlim hu
      all_goals first | ((try simp only [he] at hK ⊢); go_simp; exact hK) | skip
      all_goals first | (have qt := box_kept H1.out.2.1 HSX.out (fun h => h); have qv := box_kept H1.out.2.2 HSX.out (fun h => h); have k3 := cells_row qt 3 _ rfl; have l0 := cells_row qv 0 _ rfl; have l3 := cells_row qv 3 _ rfl; clear qt qv; (try simp only [he] at hK ⊢); go_simp; exact hK) | skip
      · simp only [he] at hK ⊢
        go_simp
        go_at_call 37
        refine (isIndex_any N n (by omega) wx).mono ?_
        rintro e1 wa ⟨rfl, rfl⟩
        rw [HDN.out]
        exact hK
    case finA =>
    intro vals2 w3 hS hV
    have v25 := hV 25 _ (by decide) rfl
    clear hV
    have f3 : Fr (fun _ => False) w1 w3 := hS
    clear hS
    simp only [frOfU, fillU, List.setIfInBounds_toArray, List.set_cons_succ, List.set_cons_zero]
    simp only [Nat.reduceAdd, v25]
    clear v25
    have F3 := Lib.hid f3
    have v3 := box_kept H1.out.2.2 f3 (fun h => h)
    have z0 : w3.frozen? ⟨vb, 0, none⟩ = false := by simp [World.frozen?, v3]
    have z3 : w3.frozen? ⟨vb, 3, none⟩ = false := by simp [World.frozen?, v3]
    have d0 := cells_row v3 0 _ rfl
    have d3 := cells_row v3 3 _ rfl
    clear f3
    go_upto_region 22 with fail
    obtain ⟨w2, hw2⟩ : ∃ w2, w2 = (w3.setCell ⟨vb, 0, none⟩ (.int .i64 0)).setCell ⟨vb, 3, none⟩ (.slice none 0 0) := ⟨_, rfl⟩
    rw [← hw2]
    have f2 : Fr (fun k => k = vb) w3 w2 := by rw [hw2]; exact ((Fr.refl _ _).set1 _ _).set1 _ _
    have v2 : w2.heap[vb]? = some (.cells #[.int .i64 0, .float .f64 f, .string ⟨s.toArray⟩, .slice none 0 0] 37 (0, 0)) := by rw [hw2]; exact setCell_row 3 _ (setCell_row 0 _ v3)
    have hsame := vsame_any (fun k => R k ∧ k < w.heap.size) (.mk 0 f s 0 ov) zeroV (.agg #[.int .i64 0, .float .f64 f, .string ⟨s.toArray⟩, .slice none 0 0]) _ w2 (vshows_mk (n := 0) (f := f) (s := s) (by have := HB.out; unfold VB; omega) (.inl rfl)) (zeroV_shows _ _) (by have h := HSZ.out; simp only [szV] at h ⊢; first | exact h | (simp; try omega))
    have HE := Lib.hid (show fitsE (.mk k m ns n of) (.mk N f s c ov) = (false && sameV (.mk 0 f s 0 ov) zeroV) from by have hk := HK0.out; subst hk; rw [fitsE, HDN.out]; simp)
    have d0 := cells_row v2 0 _ rfl
    have d1 := cells_row v2 1 _ rfl
    have d2 := cells_row v2 2 _ rfl
    have d3 := cells_row v2 3 _ rfl
    have F2 : Hid (Fr (fun _ => False) w w2) := Lib.hid ((H1.out.1.trans F3.out (fun _ _ h => h)).trans f2 (fun i hi h => by have := HVBX.out; omega))
    clear hw2 f2 v2
    clear hsame
    go_wp2
    go_ret
    rw [HE.out]
    exact ⟨rfl, F2.out⟩

  have HDN : Hid (decide (0 ≤ N ∧ N ≤ (n : Int) - 1) = true) := Lib.hid (decide_eq_true hN)
  by_cases hc1 : c = 1
  case neg =>
    have HDC : Hid (decide (c = 1) = false) := Lib.hid (decide_eq_false hc1)
    have hc2 : ((c : Int) == 1) = false := by simp; omega
    clear hN hc1
    go_upto_region 20 with fail
    refine wp_region_chain (by kernel_rfl) [some 82, some 83, some 84, some 85, some 86, some 87, some 88, some 89, some 90, some 91, some 92, some 93, some 94, some 95, some 96, some 97, some 98, some 99, some 100, some 101, some 102, some 103, some 104, some 105, some 106, some 5] rfl (by decide) (by intro d hd; simp at hd ⊢; omega)
      [] (fun _ wx => Fr (fun _ => False) w1 wx)
      [.free (.pointer (some ⟨vb, 0, none⟩)), .free (.int .i64 N), .free (.pointer (some ⟨w.heap.size, 3, none⟩)), .free (.slice a' n c'), .free (.int .i64 n), .free (.bool true), .free (.bool true), .free (.pointer (some ⟨vb, 3, none⟩)), .free (.slice va c cap), .free (.int .i64 c), .free (.bool false), .free (.bool false), .free (.bool false), .free undef, .free undef, .free undef, .free undef, .free undef, .free undef, .free undef, .free undef, .free undef, .free undef, .free undef, .free (.bool false), .free (.bool false)]
      (by kernel_rfl) (by kernel_rfl) ?h0B ?stepB ?finB
    case h0B => exact (Fr.refl _ _).drew
    case stepB =>
      intro vals2
      simp only [frOfU, fillU, List.setIfInBounds_toArray, List.set_cons_succ, List.set_cons_zero]
      repeat' (first | exact AllOps.nil | refine AllOps.cons ?_ ?_)
      all_goals
        intro cvs wx hS he hu hlim K hK
        simp only [Act.put, List.setIfInBounds_toArray, List.set_cons_succ, List.set_cons_zero, List.getD_cons_zero, List.getD_cons_succ] at hK
        simp only [List.mem_cons, List.not_mem_nil, or_false, forall_eq_or_imp, forall_eq, Region.binds, forall_const, vmode_gc, Bool.false_eq_true, false_imp_iff, List.getD_cons_zero, List.getD_cons_succ, OpSort.val, Option.some.injEq, forall_eq', reduceCtorEq, implies_true, true_and, and_true] at he
        have HSX := Lib.hid hS
        clear hS hlim hu
      all_goals first | ((try simp only [he] at hK ⊢); go_simp; exact hK) | skip
      all_goals first | (have qt := box_kept H1.out.2.1 HSX.out (fun h => h); have qv := box_kept H1.out.2.2 HSX.out (fun h => h); have k3 := cells_row qt 3 _ rfl; have l0 := cells_row qv 0 _ rfl; have l3 := cells_row qv 3 _ rfl; clear qt qv; (try simp only [he] at hK ⊢); go_simp; exact hK) | skip
      · simp only [he] at hK ⊢
        go_simp
        go_at_call 37
        refine (isIndex_any N n (by omega) wx).mono ?_
        rintro e1 wa ⟨rfl, rfl⟩
        rw [HDN.out]
        exact hK
    case finB =>
    intro vals2 w3 hS hV
    have v25 := hV 25 _ (by decide) rfl
    clear hV
    have f3 : Fr (fun _ => False) w1 w3 := hS
    clear hS
    simp only [frOfU, fillU, List.setIfInBounds_toArray, List.set_cons_succ, List.set_cons_zero]
    simp only [Nat.reduceAdd, v25]
    clear v25
    have F3 := Lib.hid f3
    have v3 := box_kept H1.out.2.2 f3 (fun h => h)
    have z0 : w3.frozen? ⟨vb, 0, none⟩ = false := by simp [World.frozen?, v3]
    have z3 : w3.frozen? ⟨vb, 3, none⟩ = false := by simp [World.frozen?, v3]
    have d0 := cells_row v3 0 _ rfl
    have d3 := cells_row v3 3 _ rfl
    clear f3
    go_upto_region 22 with fail
    obtain ⟨w2, hw2⟩ : ∃ w2, w2 = (w3.setCell ⟨vb, 0, none⟩ (.int .i64 0)).setCell ⟨vb, 3, none⟩ (.slice none 0 0) := ⟨_, rfl⟩
    rw [← hw2]
    have f2 : Fr (fun k => k = vb) w3 w2 := by rw [hw2]; exact ((Fr.refl _ _).set1 _ _).set1 _ _
    have v2 : w2.heap[vb]? = some (.cells #[.int .i64 0, .float .f64 f, .string ⟨s.toArray⟩, .slice none 0 0] 37 (0, 0)) := by rw [hw2]; exact setCell_row 3 _ (setCell_row 0 _ v3)
    have hsame := vsame_any (fun k => R k ∧ k < w.heap.size) (.mk 0 f s 0 ov) zeroV (.agg #[.int .i64 0, .float .f64 f, .string ⟨s.toArray⟩, .slice none 0 0]) _ w2 (vshows_mk (n := 0) (f := f) (s := s) (by have := HB.out; unfold VB; omega) (.inl rfl)) (zeroV_shows _ _) (by have h := HSZ.out; simp only [szV] at h ⊢; first | exact h | (simp; try omega))
    have HE := Lib.hid (show fitsE (.mk k m ns n of) (.mk N f s c ov) = (false && sameV (.mk 0 f s 0 ov) zeroV) from by have hk := HK0.out; subst hk; rw [fitsE, HDN.out, HDC.out]; simp)
    have d0 := cells_row v2 0 _ rfl
    have d1 := cells_row v2 1 _ rfl
    have d2 := cells_row v2 2 _ rfl
    have d3 := cells_row v2 3 _ rfl
    have F2 : Hid (Fr (fun _ => False) w w2) := Lib.hid ((H1.out.1.trans F3.out (fun _ _ h => h)).trans f2 (fun i hi h => by have := HVBX.out; omega))
    clear hw2 f2 v2
    clear hsame
    go_wp2
    go_ret
    rw [HE.out]
    exact ⟨rfl, F2.out⟩

  obtain ⟨x, hx⟩ : ∃ x : Nat, N = (x : Int) := ⟨N.toNat, by omega⟩
  have hxn : x < n := by omega
  have hxi : (x : Int) < (n : Int) := by omega
  have hx0 : (0 : Int) ≤ (x : Int) := by omega
  rcases HKK.out with hz | ⟨hcap, g, off, hg, rfl, hcell⟩
  · omega
  rcases HVV.out with hz | ⟨hvcap, gv, ov', hgv, rfl, hvcell⟩
  · omega
  obtain ⟨x0, x1, x2, x3, y0, y1, y2, y3, hxs⟩ := hcell x hxn
  obtain ⟨s0, s1, s2, s3, r0, r1, r2, r3, hs⟩ := hvcell 0 (by omega)
  obtain ⟨xk, xm, xa, xn, xc, xa', xn', xc', rfl, rfl, rfl, rfl⟩ := hxs.cells
  obtain ⟨zn, zf, zs, za, zc, zcap, es⟩ := hs.lit
  simp only [Value.agg.injEq, Array.mk.injEq, List.cons.injEq, and_true] at es
  obtain ⟨rfl, rfl, rfl, rfl⟩ := es
  simp only [Nat.zero_mul, Nat.add_zero] at r0 r1 r2 r3
  have HY := Lib.hid (And.intro hg (And.intro y0 (And.intro y1 (And.intro y2 y3))))
  have HR := Lib.hid (And.intro hgv (And.intro r0 (And.intro r1 (And.intro r2 r3))))
  have HXS := Lib.hid (And.intro hxs hs)
  have hss0 := hss 0 (by omega)
  have HSS := Lib.hid hss0
  clear hcell hvcell hxs hs y0 y1 y2 y3 r0 r1 r2 r3 hss hN hss0 hcc
  obtain ⟨BB, hBB⟩ : ∃ BB, fitsE (of x) (ov 0) = BB := ⟨_, rfl⟩
  have HBB := Lib.hid hBB
  have HEQ : Hid (fitsE (.mk k m ns n of) (.mk N f s c ov) = (BB && sameV (.mk 0 f s 0 ov) zeroV)) := Lib.hid (by
    have hk := HK0.out; subst hk; rw [fitsE, HDN.out, decide_eq_true hc1]; rw [hx]; simp only [Int.toNat_natCast, hBB]; simp)
  clear hBB
  subst hc1 hx
  clear HKK HVV
  go_upto_region 20 with fail
  refine wp_region_chain (by kernel_rfl) [some 82, some 83, some 84, some 85, some 86, some 87, some 88, some 89, some 90, some 91, some 92, some 93, some 94, some 95, some 96, some 97, some 98, some 99, some 100, some 101, some 102, some 103, some 104, some 105, some 106, some 5] rfl (by decide) (by intro d hd; simp at hd ⊢; omega)
    [23] (fun _ wx => Fr (fun _ => False) w1 wx)
    [.free (.pointer (some ⟨vb, 0, none⟩)), .free (.int .i64 x), .free (.pointer (some ⟨w.heap.size, 3, none⟩)), .free (.slice (some ⟨g, off, none⟩) n c'), .free (.int .i64 n), .free (.bool true), .free (.bool true), .free (.pointer (some ⟨vb, 3, none⟩)), .free (.slice (some ⟨gv, ov', none⟩) 1 cap), .free (.int .i64 1), .free (.bool true), .free (.bool true), .free (.bool true), .free (.pointer (some ⟨w.heap.size, 3, none⟩)), .free (.slice (some ⟨g, off, none⟩) n c'), .free (.pointer (some ⟨vb, 0, none⟩)), .free (.int .i64 x), .free (.pointer (some ⟨g, off + x * 4, none⟩)), .free (.agg #[.int .u8 xk, .int .i64 xm, .slice xa xn xc, .slice xa' xn' xc']), .free (.pointer (some ⟨vb, 3, none⟩)), .free (.slice (some ⟨gv, ov', none⟩) 1 cap), .free (.pointer (some ⟨gv, ov', none⟩)), .free (.agg #[.int .i64 zn, .float .f64 zf, .string zs, .slice za zc zcap]), .link (some (.bool BB)), .free (.bool BB), .free (.bool BB)]
    (by kernel_rfl) (by kernel_rfl) ?h0C ?stepC ?finC
  case h0C => exact (Fr.refl _ _).drew
  case stepC =>
    intro vals2
    simp only [frOfU, fillU, List.setIfInBounds_toArray, List.set_cons_succ, List.set_cons_zero]
    repeat' (first | exact AllOps.nil | refine AllOps.cons ?_ ?_)
    all_goals
      intro cvs wx hS he hu hlim K hK
      simp only [Act.put, List.setIfInBounds_toArray, List.set_cons_succ, List.set_cons_zero, List.getD_cons_zero, List.getD_cons_succ] at hK
      simp only [List.mem_cons, List.not_mem_nil, or_false, forall_eq_or_imp, forall_eq, Region.binds, forall_const, vmode_gc, Bool.false_eq_true, false_imp_iff, List.getD_cons_zero, List.getD_cons_succ, OpSort.val, Option.some.injEq, forall_eq', reduceCtorEq, implies_true, true_and, and_true] at he
      have HSX := Lib.hid hS
      clear hS hlim hu
    all_goals first | ((try simp only [he] at hK ⊢); go_simp; exact hK) | skip
    all_goals first | (have qt := box_kept H1.out.2.1 HSX.out (fun h => h); have qv := box_kept H1.out.2.2 HSX.out (fun h => h); have k3 := cells_row qt 3 _ rfl; have l0 := cells_row qv 0 _ rfl; have l3 := cells_row qv 3 _ rfl; clear qt qv; (try simp only [he] at hK ⊢); go_simp; exact hK) | skip
    · simp only [he] at hK ⊢
      go_simp
      go_at_call 37
      refine (isIndex_any x n (by omega) wx).mono ?_
      rintro e1 wa ⟨rfl, rfl⟩
      rw [HDN.out]
      exact hK
    · have e0 := cell_fr (R := fun k => R k ∧ k < w.heap.size) HSX.out (fun _ _ h => h) HY.out.1 HY.out.2.1
      have e1 := cell_fr (R := fun k => R k ∧ k < w.heap.size) HSX.out (fun _ _ h => h) HY.out.1 HY.out.2.2.1
      have e2 := cell_fr (R := fun k => R k ∧ k < w.heap.size) HSX.out (fun _ _ h => h) HY.out.1 HY.out.2.2.2.1
      have e3 := cell_fr (R := fun k => R k ∧ k < w.heap.size) HSX.out (fun _ _ h => h) HY.out.1 HY.out.2.2.2.2
      simp only [he] at hK ⊢
      go_simp
      exact hK
    · have e0 := cell_fr (R := fun k => R k ∧ k < w.heap.size) HSX.out (fun _ _ h => h) HR.out.1 HR.out.2.1
      have e1 := cell_fr (R := fun k => R k ∧ k < w.heap.size) HSX.out (fun _ _ h => h) HR.out.1 HR.out.2.2.1
      have e2 := cell_fr (R := fun k => R k ∧ k < w.heap.size) HSX.out (fun _ _ h => h) HR.out.1 HR.out.2.2.2.1
      have e3 := cell_fr (R := fun k => R k ∧ k < w.heap.size) HSX.out (fun _ _ h => h) HR.out.1 HR.out.2.2.2.2
      simp only [he] at hK ⊢
      go_simp
      exact hK
    · simp only [he] at hK ⊢
      go_simp
      go_at_call 24
      refine (ih x (fun k => R k ∧ k < w.heap.size) _ _ wx (ov 0) (Shows.fr HSX.out (fun _ _ h => h) _ _ HXS.out.1) (VShows.fr HSX.out (fun _ _ h => h) _ _ HXS.out.2) HSS.out).mono ?_
      rintro e1 wa ⟨rfl, fa⟩
      exact hK _ _ (fun _ h => by cases h; rw [HBB.out]) (HSX.out.trans fa (fun _ _ h => h))
  case finC =>
  intro vals2 w3 hS hV
  have v25 := hV 25 _ (by decide) rfl
  clear hV
  have f3 : Fr (fun _ => False) w1 w3 := hS
  clear hS
  simp only [frOfU, fillU, List.setIfInBounds_toArray, List.set_cons_succ, List.set_cons_zero]
  simp only [Nat.reduceAdd, v25]
  clear v25
  have F3 := Lib.hid f3
  have v3 := box_kept H1.out.2.2 f3 (fun h => h)
  have z0 : w3.frozen? ⟨vb, 0, none⟩ = false := by simp [World.frozen?, v3]
  have z3 : w3.frozen? ⟨vb, 3, none⟩ = false := by simp [World.frozen?, v3]
  have d0 := cells_row v3 0 _ rfl
  have d3 := cells_row v3 3 _ rfl
  clear f3
  go_upto_region 22 with fail
  obtain ⟨w2, hw2⟩ : ∃ w2, w2 = (w3.setCell ⟨vb, 0, none⟩ (.int .i64 0)).setCell ⟨vb, 3, none⟩ (.slice none 0 0) := ⟨_, rfl⟩
  rw [← hw2]
  have f2 : Fr (fun k => k = vb) w3 w2 := by rw [hw2]; exact ((Fr.refl _ _).set1 _ _).set1 _ _
  have v2 : w2.heap[vb]? = some (.cells #[.int .i64 0, .float .f64 f, .string ⟨s.toArray⟩, .slice none 0 0] 37 (0, 0)) := by rw [hw2]; exact setCell_row 3 _ (setCell_row 0 _ v3)
  have hsame := vsame_any (fun k => R k ∧ k < w.heap.size) (.mk 0 f s 0 ov) zeroV (.agg #[.int .i64 0, .float .f64 f, .string ⟨s.toArray⟩, .slice none 0 0]) _ w2 (vshows_mk (n := 0) (f := f) (s := s) (by have := HB.out; unfold VB; omega) (.inl rfl)) (zeroV_shows _ _) (by have h := HSZ.out; simp only [szV] at h ⊢; first | exact h | (simp; try omega))
  have HE := Lib.hid (show fitsE (.mk k m ns n of) (.mk x f s 1 ov) = (BB && sameV (.mk 0 f s 0 ov) zeroV) from HEQ.out)
  have d0 := cells_row v2 0 _ rfl
  have d1 := cells_row v2 1 _ rfl
  have d2 := cells_row v2 2 _ rfl
  have d3 := cells_row v2 3 _ rfl
  have F2 : Hid (Fr (fun _ => False) w w2) := Lib.hid ((H1.out.1.trans F3.out (fun _ _ h => h)).trans f2 (fun i hi h => by have := HVBX.out; omega))
  clear hw2 f2 v2
  cases hBB : BB with
  | false =>
    clear hsame
    rw [hBB] at HE
    clear hBB
    go_wp2
    go_ret
    rw [HE.out]
    exact ⟨rfl, F2.out⟩
  | true =>
    rw [hBB] at HE
    clear hBB
    go_wp2_with fail
    refine hsame.mono ?_
    rintro e w3 ⟨rfl, f3⟩
    have F3 := Lib.hid f3
    clear f3 hsame
    go_wp2
    go_ret
    rw [HE.out]
    exact ⟨rfl, F2.out.trans F3.out (fun _ _ h => h)⟩

set_option maxRecDepth 100000 in
set_option maxHeartbeats 16000000 in
theorem fit_rest (k : Nat) (m : Int) (ns : List Txt) (n : Nat) (of : Nat → KT) (hk0 : 9 ≤ k) : FitsAt (.mk k m ns n of) := by
  intro R v vv w T hsh hvs hsz
  obtain ⟨N, f, s, c, ov, va, cap, rfl, rfl, hVB, hVK⟩ := vshows_open hvs
  obtain ⟨vn, vo, rfl, hk, hn, ht, ho⟩ := hsh
  obtain ⟨na, nc, rfl, _⟩ := ht.shape
  obtain ⟨a', c', rfl⟩ : ∃ a' c', vo = .slice a' n c' := by
    rcases ho with ⟨rfl, a', c', rfl⟩ | ⟨g, off, cap, hg, rfl, hle, hc⟩
    · exact ⟨a', c', rfl⟩
    · exact ⟨_, cap, rfl⟩
  have HE : Hid (fitsE (.mk k m ns n of) (.mk N f s c ov) = false) := Lib.hid (by
    rw [fitsE, if_neg (by omega), if_neg (by omega), if_neg (by omega), if_neg (by omega), if_neg (by omega), if_neg (by omega), if_neg (by omega), if_neg (by omega), if_neg (by omega)])
  unfold sv
  obtain ⟨kz, hkz⟩ : ∃ kz : Int, (k : Int) = kz := ⟨_, rfl⟩
  rw [hkz]
  have e0 : (kz == 0) = false := by simp; omega
  have e1 : (kz == 1) = false := by simp; omega
  have e2 : (kz == 2) = false := by simp; omega
  have e3 : (kz == 3) = false := by simp; omega
  have e4 : (kz == 4) = false := by simp; omega
  have e7 : (kz == 7) = false := by simp; omega
  have e5 : (kz == 5) = false := by simp; omega
  have e6 : (kz == 6) = false := by simp; omega
  have e8 : (kz == 8) = false := by simp; omega
  clear hVB hVK ho hk hn ht hk0 hkz hsz hvs
  go_enter Try.func24, Try.ntmps24
  go_wp2
  go_ret
  rw [HE.out]
  exact ⟨rfl, ((Fr.refl _ _).alloc _).alloc _⟩

theorem fits_any (t : KT) : FitsAt t := by
  induction t with
  | nil => exact fun _ _ _ _ _ h => h.elim
  | mk k m ns n of ih =>
    by_cases h9 : 9 ≤ k
    · exact fit_rest k m ns n of h9
    · rcases (by omega : k = 0 ∨ k = 1 ∨ k = 2 ∨ k = 3 ∨ k = 4 ∨ k = 5 ∨ k = 6 ∨ k = 7 ∨ k = 8) with h | h | h | h | h | h | h | h | h
      · exact fit_k0 k m ns n of h
      · exact fit_k1 k m ns n of h
      · exact fit_k2 k m ns n of h
      · exact fit_k3 k m ns n of h
      · exact fit_k4 k m ns n of h
      · exact fit_k5 k m ns n of ih h
      · exact fit_k6 k m ns n of ih h
      · exact fit_k7 k m ns n of h
      · exact fit_k8 k m ns n of ih h

/-- Is it a value of the type? -/
def isVal (t : KT) (T : VT) : Bool := hasE t 20 && fitsE t T

/-- The check's answer. -/
def valE (t : KT) (T : VT) : Nat := if isVal t T then 0 else 17

set_option maxRecDepth 100000 in
set_option maxHeartbeats 16000000 in
theorem vcheck_any (R : Nat → Prop) (t : KT) (T : VT) (v vv : Value) (w : World) (hsh : Shows R w t v) (hvs : VShows R w T vv) (hsz : szV T ≤ 100000) :
    Calls Try.prog 15 #[v, vv] w fun e w' => e = .returned (.int .i64 (valE t T : Nat)) ∧ Fr (fun _ => False) w w' := by
  obtain ⟨k, m, a, n, c, a', n', c', rfl⟩ := hsh.four
  obtain ⟨N, f, s, va, vc, cap, rfl⟩ := hvs.lit
  obtain ⟨w1, hw1⟩ : ∃ w1, w1 = (w.alloc (.cells #[.int .u8 k, .int .i64 m, .slice a n c, .slice a' n' c'] 32)).alloc (.cells #[.int .i64 N, .float .f64 f, .string s, .slice va vc cap] 37) := ⟨_, rfl⟩
  have f1 : Fr (fun _ => False) w w1 := by rw [hw1]; exact ((Fr.refl _ _).alloc _).alloc _
  have q1 : w1.heap[w.heap.size]? = some (.cells #[.int .u8 k, .int .i64 m, .slice a n c, .slice a' n' c'] 32 (0, 0)) := by rw [hw1]; exact heap_alloc_first _ _ _
  have v1 : w1.heap[w.heap.size + 1]? = some (.cells #[.int .i64 N, .float .f64 f, .string s, .slice va vc cap] 37 (0, 0)) := by rw [hw1]; exact heap_alloc_two _ _ _
  have H0 := Lib.hid (And.intro hsh hvs)
  have HSZ := Lib.hid hsz
  have hhas := has_any t R _ w1 20 20 rfl (by omega) (Shows.fr f1 (fun _ _ h => h) _ _ hsh)
  have H1 := Lib.hid (And.intro f1 (And.intro q1 v1))
  obtain ⟨B1, hB1⟩ : ∃ B1, hasE t 20 = B1 := ⟨_, rfl⟩
  obtain ⟨B2, hB2⟩ : ∃ B2, fitsE t T = B2 := ⟨_, rfl⟩
  rw [hB1] at hhas
  have HE : Hid (valE t T = if (B1 && B2) then 0 else 17) := Lib.hid (by unfold valE isVal; rw [hB1, hB2])
  have HB2 := Lib.hid hB2
  clear hsh hvs hsz hB1 hB2 f1 q1 v1
  go_enter Try.func15, Try.ntmps15
  go_upto_region 1 with fail
  rw [← hw1]
  clear hw1
  obtain ⟨c0, c1, c2, c3⟩ := cell_of_four H1.out.2.1
  obtain ⟨d0, d1, d2, d3⟩ := cell_of_four H1.out.2.2
  cases B1 with
  | false =>
    go_wp2_with fail
    refine hhas.mono ?_
    rintro e w2 ⟨rfl, f2⟩
    have F2 := Lib.hid f2
    clear f2 hhas c0 c1 c2 c3 d0 d1 d2 d3
    go_wp2
    go_ret
    rw [HE.out]
    exact ⟨rfl, H1.out.1.trans F2.out (fun _ _ h => h)⟩
  | true =>
    go_wp2_with fail
    refine hhas.mono ?_
    rintro e w2 ⟨rfl, f2⟩
    have F2 := Lib.hid (H1.out.1.trans f2 (fun _ _ h => h))
    obtain ⟨i0, i1, i2, i3⟩ := cell_of_four (box_kept H1.out.2.1 f2 (fun h => h))
    obtain ⟨j0, j1, j2, j3⟩ := cell_of_four (box_kept H1.out.2.2 f2 (fun h => h))
    have hfit := fits_any t R _ _ w2 T (Shows.fr F2.out (fun _ _ h => h) _ _ H0.out.1) (VShows.fr F2.out (fun _ _ h => h) _ _ H0.out.2) HSZ.out
    rw [HB2.out] at hfit
    clear f2 hhas c0 c1 c2 c3 d0 d1 d2 d3
    cases B2 with
    | false =>
      go_wp2_with fail
      refine hfit.mono ?_
      rintro e w3 ⟨rfl, f3⟩
      have F3 := Lib.hid f3
      clear f3 hfit i0 i1 i2 i3 j0 j1 j2 j3
      go_wp2
      go_ret
      rw [HE.out]
      exact ⟨rfl, F2.out.trans F3.out (fun _ _ h => h)⟩
    | true =>
      go_wp2_with fail
      refine hfit.mono ?_
      rintro e w3 ⟨rfl, f3⟩
      have F3 := Lib.hid f3
      clear f3 hfit i0 i1 i2 i3 j0 j1 j2 j3
      go_wp2
      go_ret
      rw [HE.out]
      exact ⟨rfl, F2.out.trans F3.out (fun _ _ h => h)⟩

end Go.Proofs.Ythokfmmbiilllaa

/-
  The laws' fixed fact: the chapter's example.
-/
namespace Go.Proofs.Ythokfmmbiilllaa
open Go.RowKit
attribute [local go_sem] run_store_float
set_option linter.unusedVariables false

def cardT : KT := .mk 1 0 [] 0 (fun _ => .nil)

def twoT : KT := .mk 6 0 [[97], [98]] 2 (fun _ => cardT)

def seven : VT := listV [vnum 7, vnum 7]

theorem two_right : (surveyE twoT 1000 0).1 = true := by kernel_rfl

theorem two_built : BuildE [7] twoT = seven := by
  have h : BuildE [7] twoT = (buildE [7] twoT (0, 0)).1 := by unfold BuildE; rw [two_right]; rfl
  rw [h]
  rfl

theorem two_not : valE cardT seven = 17 := by kernel_rfl

set_option maxRecDepth 100000 in
set_option maxHeartbeats 16000000 in
theorem vawake_any (w : World) : Calls Try.prog 4 #[] w fun e w' => e = .returned (.bool true) ∧ Fr (fun _ => False) w w' := by
  go_enter Try.func4, Try.ntmps4
  go_upto_region 2 with fail
  obtain ⟨w1, hw1⟩ : ∃ w1, w1 = w.alloc (.cells #[.int .u8 1, .int .i64 0, .slice none 0 0, .slice none 0 0] 32) := ⟨_, rfl⟩
  rw [← hw1]
  have q1 : w1.heap[w.heap.size]? = some (.cells #[.int .u8 1, .int .i64 0, .slice none 0 0, .slice none 0 0] 32 (0, 0)) := by rw [hw1]; exact heap_alloc_new _ _
  have f1 : Fr (fun _ => False) w w1 := by rw [hw1]; exact (Fr.refl _ _).alloc _
  obtain ⟨c0, c1, c2, c3⟩ := cell_of_four q1
  have l1 : w.heap.size < w1.heap.size := lt_of_block q1
  have n1 : w.heap.size ≠ w1.heap.size := by omega
  have H1 := Lib.hid (And.intro f1 q1)
  clear hw1 f1 q1
  obtain ⟨w2, hw2⟩ : ∃ w2, w2 = ((w1.alloc (.cells #[.string ⟨#[97]⟩, .string ⟨#[98]⟩] 9)).alloc (.cells #[.int .u8 1, .int .i64 0, .slice none 0 0, .slice none 0 0, .int .u8 1, .int .i64 0, .slice none 0 0, .slice none 0 0] 32)).alloc (.cells #[.int .i64 7] 2) := ⟨_, rfl⟩
  have f2 : Fr (fun _ => False) w1 w2 := by rw [hw2]; exact (((Fr.refl _ _).alloc _).alloc _).alloc _
  have g1 : w2.heap[w1.heap.size]? = some (.cells #[.string ⟨#[97]⟩, .string ⟨#[98]⟩] 9 (0, 0)) := by
    rw [hw2, Below.heap_alloc _ _ _ (by simp; omega)]; exact heap_alloc_first _ _ _
  have g2 : w2.heap[w1.heap.size + 1]? = some (.cells #[.int .u8 1, .int .i64 0, .slice none 0 0, .slice none 0 0, .int .u8 1, .int .i64 0, .slice none 0 0, .slice none 0 0] 32 (0, 0)) := by
    rw [hw2, Below.heap_alloc _ _ _ (by simp)]; exact heap_alloc_two _ _ _
  have g3 : w2.heap[w1.heap.size + 1 + 1]? = some (.cells #[.int .i64 7] 2 (0, 0)) := by
    have h := heap_alloc_new ((w1.alloc (.cells #[.string ⟨#[97]⟩, .string ⟨#[98]⟩] 9)).alloc (.cells #[.int .u8 1, .int .i64 0, .slice none 0 0, .slice none 0 0, .int .u8 1, .int .i64 0, .slice none 0 0, .slice none 0 0] 32)) (.cells #[.int .i64 7] 2)
    rw [show ((w1.alloc (.cells #[.string ⟨#[97]⟩, .string ⟨#[98]⟩] 9)).alloc (.cells #[.int .u8 1, .int .i64 0, .slice none 0 0, .slice none 0 0, .int .u8 1, .int .i64 0, .slice none 0 0, .slice none 0 0] 32)).heap.size = w1.heap.size + 1 + 1 by simp] at h
    rw [hw2]
    exact h
  have hty : Shows (fun _ => True) w2 twoT (.agg #[.int .u8 6, .int .i64 0, .slice (some ⟨w1.heap.size, 0, none⟩) 2 2, .slice (some ⟨w1.heap.size + 1, 0, none⟩) 2 2]) := by
    refine ⟨_, _, rfl, by omega, by omega, ⟨by simp, by simp, .inr ⟨w1.heap.size, 0, 2, trivial, rfl, Nat.le_refl _, fun j s hj => ?_⟩⟩, .inr ⟨w1.heap.size + 1, 0, 2, trivial, rfl, Nat.le_refl _, fun i hi => ?_⟩⟩
    · have hj2 := (List.getElem?_eq_some_iff.1 hj).1
      rcases (by simp at hj2; omega : j = 0 ∨ j = 1) with rfl | rfl
      · cases hj; exact cells_row g1 0 _ rfl
      · cases hj; exact cells_row g1 1 _ rfl
    · rcases (by omega : i = 0 ∨ i = 1) with rfl | rfl
      · exact ⟨_, _, _, _, cells_row g2 0 _ rfl, cells_row g2 1 _ rfl, cells_row g2 2 _ rfl, cells_row g2 3 _ rfl, _, _, rfl, by omega, by omega, ⟨by simp, by simp, .inl ⟨rfl, _, _, rfl⟩⟩, .inl ⟨rfl, _, _, rfl⟩⟩
      · exact ⟨_, _, _, _, cells_row g2 4 _ rfl, cells_row g2 5 _ rfl, cells_row g2 6 _ rfl, cells_row g2 7 _ rfl, _, _, rfl, by omega, by omega, ⟨by simp, by simp, .inl ⟨rfl, _, _, rfl⟩⟩, .inl ⟨rfl, _, _, rfl⟩⟩
  have hnum : Nums (fun _ => True) w2 [7] (.slice (some ⟨w1.heap.size + 1 + 1, 0, none⟩) 1 1) := by
    refine ⟨by simp, by simp, .inr ⟨_, 0, 1, trivial, rfl, Nat.le_refl _, fun j x hj => ?_⟩⟩
    have hj2 := (List.getElem?_eq_some_iff.1 hj).1
    obtain rfl : j = 0 := by simp at hj2; omega
    cases hj
    exact cells_row g3 0 _ rfl
  have hbu := Build_any (fun _ => True) [7] twoT _ _ w2 hty hnum (by decide +kernel)
  rw [two_built] at hbu
  have H2 := Lib.hid (H1.out.1.trans f2 (fun _ _ h => h))
  have Q2 := Lib.hid (box_kept H1.out.2 f2 (fun h => h))
  have HW2 := Lib.hid hw2
  rw [hw2] at hbu
  clear hw2 f2 g1 g2 g3 hty hnum
  go_wp2_with fail
  refine hbu.mono ?_
  rintro e w3 ⟨v', rfl, hv, f3⟩
  rw [← HW2.out] at hv f3
  obtain ⟨N, f, s, c, ov, va, cap, eT, rfl, hVB, hVK⟩ := vshows_open hv
  unfold seven listV at eT
  cases eT
  rcases hVK with hz | ⟨hle, g, off, hg, rfl, hc⟩
  · cases hz
  obtain ⟨x0, x1, x2, x3, y0, y1, y2, y3, hx⟩ := hc 0 (by decide)
  obtain ⟨z0, z1, z2, z3, u0, u1, u2, u3, hz⟩ := hc 1 (by decide)
  obtain ⟨_, _, _, _, _, _, _, e1, e2, _, _⟩ := vshows_open hx
  cases e1
  simp only [Value.agg.injEq, Array.mk.injEq, List.cons.injEq, and_true] at e2
  obtain ⟨rfl, _, _, _⟩ := e2
  obtain ⟨_, _, _, _, _, _, _, e1, e2, _, _⟩ := vshows_open hz
  cases e1
  simp only [Value.agg.injEq, Array.mk.injEq, List.cons.injEq, and_true] at e2
  obtain ⟨rfl, _, _, _⟩ := e2
  have HV := Lib.hid hv
  have F3 := Lib.hid (H2.out.trans f3 (fun _ _ h => h))
  have q3 := box_kept Q2.out f3 (fun h => h)
  have hl3 := lt_of_block q3
  have hgl : g < w3.heap.size := World.block_lt_of_cell? w3 _ y0
  have Q3 := Lib.hid q3
  simp only [Nat.zero_mul, Nat.one_mul, Nat.add_zero] at y0 u0
  have HY := Lib.hid (And.intro y0 u0)
  clear hc hx hz hv f3 y0 y1 y2 y3 u0 u1 u2 u3 q3 hbu c0 c1 c2 c3 hVB
  obtain ⟨wb, hwb⟩ : ∃ wb, wb = w3.alloc (.cells #[.int .i64 0, .float .f64 0, Value.string ⟨#[]⟩, .slice (some ⟨g, off, none⟩) 2 cap] 37) := ⟨_, rfl⟩
  have fb : Fr (fun _ => False) w3 wb := by rw [hwb]; exact (Fr.refl _ _).alloc _
  have qb : wb.heap[w3.heap.size]? = some (.cells #[.int .i64 0, .float .f64 0, Value.string ⟨#[]⟩, .slice (some ⟨g, off, none⟩) 2 cap] 37 (0, 0)) := by rw [hwb]; exact heap_alloc_new _ _
  have y0 := cell_fr (R := fun _ => True) fb (fun _ _ h => h) trivial HY.out.1
  have u0 := cell_fr (R := fun _ => True) fb (fun _ _ h => h) trivial HY.out.2
  obtain ⟨c0, c1, c2, c3⟩ := cell_of_four (box_kept Q3.out fb (fun h => h))
  obtain ⟨d0, d1, d2, d3⟩ := cell_of_four qb
  have hck := vcheck_any (fun _ => True) cardT seven (.agg #[.int .u8 1, .int .i64 0, .slice none 0 0, .slice none 0 0]) (.agg #[.int .i64 0, .float .f64 0, .string ⟨#[]⟩, .slice (some ⟨g, off, none⟩) 2 cap]) wb
    ⟨_, _, rfl, by omega, by omega, ⟨by simp, by simp, .inl ⟨rfl, _, _, rfl⟩⟩, .inl ⟨rfl, _, _, rfl⟩⟩ (VShows.mono (fun _ _ _ => trivial) _ _ (VShows.fr fb (fun _ _ h => h) _ _ HV.out)) (by decide +kernel)
  rw [two_not] at hck
  have FB := Lib.hid (F3.out.trans fb (fun _ _ h => h))
  have hck2 : Calls Try.prog 15 #[.agg #[.int .u8 1, .int .i64 0, .slice none 0 0, .slice none 0 0], .agg #[.int .i64 0, .float .f64 0, .string ⟨#[]⟩, .slice (some ⟨g, off, none⟩) 2 cap]] wb fun e w' => e = .returned (.int .i64 17) ∧ Fr (fun _ => False) wb w' := hck
  have hle2 : 2 ≤ cap := hle
  unfold sv
  go_upto_region 3 with fail
  clear hle hck
  rw [← hwb]
  clear hwb qb fb
  go_wp2_with fail
  refine hck2.mono ?_
  rintro e w5 ⟨rfl, f5⟩
  have F5 := Lib.hid f5
  clear f5 hck2 c0 c1 c2 c3 d0 d1 d2 d3 y0 u0
  go_wp2
  go_ret
  exact ⟨rfl, FB.out.trans F5.out (fun _ _ h => h)⟩

end Go.Proofs.Ythokfmmbiilllaa

/-
  The laws' Type: a node made a type; how many values it has at most.
-/
namespace Go.Proofs.Ythokfmmbiilllaa
open Go.RowKit
set_option linter.unusedVariables false

theorem four_pos (d : Nat) : 1 ≤ 4 ^ d := Nat.pos_of_ne_zero (by simp)

theorem sum_le (c : Nat → Nat) (B : Nat) (h : ∀ i, c i ≤ B) (n : Nat) : ((List.range n).map c).sum ≤ n * B := by
  induction n with
  | zero => simp
  | succ n ih => rw [List.range_succ, List.map_append, List.sum_append, Nat.succ_mul]; have := h n; simp; omega

theorem cost_typeE (known : List Txt) (t : KN) : ∀ d, costE (typeE known t d) ≤ 4 ^ d := by
  induction t with
  | nil => exact fun d => four_pos d
  | mk kd n c of ih =>
    intro d
    have h4 := four_pos d
    rw [typeE_mk]
    have hleaf : ∀ k m ns of', k ≠ 5 → costE (.mk k m ns 0 of') = 1 := fun k m ns of' hk => by rw [costE, if_neg hk]; rfl
    have hsub : ∀ i, costE (subE known c of d i) ≤ 4 ^ (d - 1) := by
      intro i
      unfold subE
      split
      · rw [hleaf _ _ _ _ (by omega)]; exact four_pos _
      · exact ih _ _
    by_cases hd : d ≤ 1
    · have hk : kindE kd d known ≠ 5 ∧ kindE kd d known ≠ 6 ∧ kindE kd d known ≠ 8 := by
        unfold kindE
        split <;> omega
      unfold mkE
      split
      · rw [hleaf _ _ _ _ (by omega)]; exact h4
      split
      · omega
      split
      · omega
      split
      · rw [hleaf _ _ _ _ (by omega)]; exact h4
      split
      · rw [hleaf _ _ _ _ (by omega)]; exact h4
      · rw [hleaf _ _ _ _ (by omega)]; exact h4
    · have e : 4 ^ d = 4 * 4 ^ (d - 1) := by
        have : d = (d - 1) + 1 := by omega
        rw [this, Nat.pow_succ, Nat.add_sub_cancel]; omega
      have h1 := four_pos (d - 1)
      unfold mkE
      split
      · rw [hleaf _ _ _ _ (by omega)]; exact h4
      split
      · rw [cost_seq]
        have := hsub 0
        omega
      split
      · rename_i hk
        rw [costE, if_neg (by omega)]
        have := sum_le (fun i => costE (subE known c of d i)) (4 ^ (d - 1)) hsub (1 + n % 3)
        have h3 : (1 + n % 3) * 4 ^ (d - 1) ≤ 3 * 4 ^ (d - 1) := Nat.mul_le_mul_right _ (by omega)
        omega
      split
      · rw [hleaf _ _ _ _ (by omega)]; exact h4
      split
      · rw [hleaf _ _ _ _ (by omega)]; exact h4
      · rename_i hk5 _ _ _
        rw [hleaf _ _ _ _ hk5]; exact h4

set_option maxRecDepth 100000 in
set_option maxHeartbeats 8000000 in
theorem vtype_any (t : KN) (v : Value) (w : World) (h : NShows w t v) :
    Calls Try.prog 6 #[v] w fun e w' => ∃ v', e = .returned v' ∧ Shows (fun k => w.heap.size ≤ k) w' (typeE [] t 4) v' ∧ Fr (fun _ => False) w w' := by
  obtain ⟨k, n, a, c, cap, rfl⟩ := h.cells
  obtain ⟨w1, hw1⟩ : ∃ w1, w1 = (w.alloc (.cells #[.int .u8 k, .int .u8 n, .slice a c cap] 24)).alloc (.cells #[.int .u8 0, .int .i64 0, .slice none 0 0, .slice none 0 0] 32) := ⟨_, rfl⟩
  have f1 : Fr (fun _ => False) w w1 := by rw [hw1]; exact ((Fr.refl _ _).alloc _).alloc _
  have q1 : w1.heap[w.heap.size]? = some (.cells #[.int .u8 k, .int .u8 n, .slice a c cap] 24 (0, 0)) := by rw [hw1]; exact heap_alloc_first _ _ _
  have p1 : w1.heap[w.heap.size + 1]? = some (.cells #[.int .u8 0, .int .i64 0, .slice none 0 0, .slice none 0 0] 32 (0, 0)) := by rw [hw1]; exact heap_alloc_two _ _ _
  have hty := type_any [] t (fun _ => True) (.agg #[.int .u8 k, .int .u8 n, .slice a c cap]) (.slice none 0 0) w1 4 4 rfl (by omega) (by omega) (NShows.fr f1 _ _ h) (texts_none _ _ _ _)
  have c0 := cells_row q1 0 _ rfl
  have c1 := cells_row q1 1 _ rfl
  have c2 := cells_row q1 2 _ rfl
  go_enter Try.func6, Try.ntmps6
  go_upto_region 1 with fail
  rw [← hw1]
  obtain ⟨rb, hrb⟩ : ∃ rb, w.heap.size + 1 = rb := ⟨_, rfl⟩
  rw [hrb] at p1 ⊢
  have HRB := Lib.hid hrb
  have hrbl : rb < w1.heap.size := lt_of_block p1
  have H1 := Lib.hid (And.intro f1 p1)
  clear hw1 f1 q1 p1 hrb h
  go_wp2_with fail
  refine hty.mono ?_
  rintro e w2 ⟨v', rfl, hs, f2⟩
  have p2 := box_kept H1.out.2 f2 (fun h => h)
  have t0 := cells_row p2 0 _ rfl
  have t1 := cells_row p2 1 _ rfl
  have t2 := cells_row p2 2 _ rfl
  have t3 := cells_row p2 3 _ rfl
  have u0 : w2.frozen? ⟨rb, 0, none⟩ = false := by simp [World.frozen?, p2]
  have u1 : w2.frozen? ⟨rb, 1, none⟩ = false := by simp [World.frozen?, p2]
  have u2 : w2.frozen? ⟨rb, 2, none⟩ = false := by simp [World.frozen?, p2]
  have u3 : w2.frozen? ⟨rb, 3, none⟩ = false := by simp [World.frozen?, p2]
  obtain ⟨yk, ym, ya, yn, yc, ya', yn', yc', rfl⟩ := hs.four
  have H2 := Lib.hid (And.intro (H1.out.1.trans f2 (fun _ _ h => h)) (And.intro hs p2))
  clear f2 hs p2 hty c0 c1 c2
  go_wp2
  refine bodyPost_ret (results_cell_row rfl _ _ rb 32 _ _ _ rfl (store_four H2.out.2.2) Try.underlying32 rfl (by kernel_rfl)) rfl ?_
  have hb := HRB.out
  have fs : Fr (fun k => k = rb) w2 ((((w2.setCell ⟨rb, 0, none⟩ (.int .u8 yk)).setCell ⟨rb, 1, none⟩ (.int .i64 ym)).setCell ⟨rb, 2, none⟩ (.slice ya yn yc)).setCell ⟨rb, 3, none⟩ (.slice ya' yn' yc')) := fr_four _ _ _ _ (Fr.refl _ _) (fun _ => rfl)
  exact ⟨_, rfl, Shows.mono (fun k _ (hk : w1.heap.size ≤ k) => by omega) _ _ (Shows.fr fs (fun k (hk : w1.heap.size ≤ k) e => by omega) _ _ H2.out.2.1), H2.out.1.trans fs (fun i hi e => by omega)⟩

end Go.Proofs.Ythokfmmbiilllaa

/-
  What is a value of a type, as the answer has it, pure.
-/
namespace Go.Proofs.Ythokfmmbiilllaa
open Go.RowKit

def lowE (k : Nat) : Int := if k = 2 then -2147483648 else 0

def highE (k nn n : Nat) : Int := if k = 0 then 1 else if k = 1 then 65535 else if k = 2 then 2147483647 else if k = 7 then (nn : Int) - 1 else if k = 8 then (n : Int) - 1 else 0

def isE : KT → VT → Bool
  | .nil, _ => false
  | .mk _ _ _ _ _, .nil => false
  | .mk k m ns n of, .mk N f s c ov =>
    if k ≠ 3 ∧ Fl.canon f ≠ 0 ∨ k ≠ 4 ∧ s ≠ [] then false
    else if (k < 5 ∨ k = 7) ∧ 0 < c then false
    else if N < lowE k ∨ highE k ns.length n < N ∨ k = 4 ∧ m < s.length ∨ k = 5 ∧ m < c then false
    else if k = 6 ∧ c ≠ n ∨ k = 8 ∧ c ≠ 1 then false
    else (List.range c).all (fun i => isE (of (if k = 6 then i else if k = 8 then N.toNat else 0)) (ov i))

theorem isE_has {k : Nat} {m : Int} {ns : List Txt} {n : Nat} {of : Nat → KT} {N : Int} {f : Nat} {s : Txt} {c : Nat} {ov : Nat → VT} (h : (k < 5 ∨ k = 7) ∧ 0 < c) : isE (.mk k m ns n of) (.mk N f s c ov) = false := by
  rw [isE]
  split
  · rfl
  · first | rw [if_pos h] | rfl

theorem isE_range {k : Nat} {m : Int} {ns : List Txt} {n : Nat} {of : Nat → KT} {N : Int} {f : Nat} {s : Txt} {c : Nat} {ov : Nat → VT} (h : N < lowE k ∨ highE k ns.length n < N ∨ k = 4 ∧ m < s.length ∨ k = 5 ∧ m < c) : isE (.mk k m ns n of) (.mk N f s c ov) = false := by
  rw [isE]
  split
  · rfl
  · split
    · rfl
    · first | rw [if_pos h] | rfl

theorem isE_count {k : Nat} {m : Int} {ns : List Txt} {n : Nat} {of : Nat → KT} {N : Int} {f : Nat} {s : Txt} {c : Nat} {ov : Nat → VT} (h : k = 6 ∧ c ≠ n ∨ k = 8 ∧ c ≠ 1) : isE (.mk k m ns n of) (.mk N f s c ov) = false := by
  rw [isE]
  split
  · rfl
  · split
    · rfl
    · split
      · rfl
      · first | rw [if_pos h] | rfl

end Go.Proofs.Ythokfmmbiilllaa

/-
  A sum over fewer is less.
-/
namespace Go.Proofs.Ythokfmmbiilllaa

theorem sum_shrink (g : Nat → Nat) (a b : Nat) (h : a ≤ b) : ((List.range a).map g).sum ≤ ((List.range b).map g).sum := by
  induction b with
  | zero => obtain rfl : a = 0 := by omega
            exact Nat.le_refl _
  | succ b ih =>
    by_cases e : a = b + 1
    · subst e; exact Nat.le_refl _
    · rw [List.range_succ (n := b), List.map_append, List.sum_append]
      have := ih (by omega)
      omega

end Go.Proofs.Ythokfmmbiilllaa

/-
  Pure: a value is one of a type, as the program has it and as the answer has it; types of the laws are good and have values.
-/
namespace Go.Proofs.Ythokfmmbiilllaa
open Go.RowKit
set_option linter.unusedVariables false
set_option linter.unusedSimpArgs false

theorem same_zero (x : Int) (f : Nat) (s : Txt) (c : Nat) (ov : Nat → VT) : sameV (.mk x f s c ov) zeroV = (decide (x = 0) && decide (Fl.canon f = 0) && decide (s = []) && decide (c = 0)) := by
  unfold zeroV
  rw [sameV]
  have : Fl.canon 0 = 0 := by decide +kernel
  rw [this]
  by_cases hc : c = 0
  · subst hc; simp
  · simp [hc]

theorem canon0 : Fl.canon 0 = 0 := by decide +kernel

theorem isE_iff (k : Nat) (m : Int) (ns : List Txt) (n : Nat) (of : Nat → KT) (N : Int) (f : Nat) (s : Txt) (c : Nat) (ov : Nat → VT) :
    isE (.mk k m ns n of) (.mk N f s c ov) = true ↔ (k ≠ 3 → Fl.canon f = 0) ∧ (k ≠ 4 → s = []) ∧ ((k < 5 ∨ k = 7) → c = 0) ∧ lowE k ≤ N ∧ N ≤ highE k ns.length n ∧ (k = 4 → (s.length : Int) ≤ m) ∧ (k = 5 → (c : Int) ≤ m) ∧ (k = 6 → c = n) ∧ (k = 8 → c = 1) ∧
      ∀ i, i < c → isE (of (if k = 6 then i else if k = 8 then N.toNat else 0)) (ov i) = true := by
  rw [isE]
  constructor
  · intro h
    split at h
    · cases h
    rename_i h1
    split at h
    · cases h
    rename_i h2
    split at h
    · cases h
    rename_i h3
    split at h
    · cases h
    rename_i h4
    rw [List.all_eq_true] at h
    refine ⟨fun hk => Classical.byContradiction fun e => h1 (.inl ⟨hk, e⟩), fun hk => Classical.byContradiction fun e => h1 (.inr ⟨hk, e⟩), fun hk => ?_, by omega, by omega, fun hk => by omega, fun hk => by omega, fun hk => by omega, fun hk => by omega, fun i hi => h i (List.mem_range.2 hi)⟩
    omega
  · rintro ⟨a1, a2, a3, a4, a5, a6, a7, a8, a9, a10⟩
    rw [if_neg, if_neg, if_neg, if_neg, List.all_eq_true]
    · exact fun i hi => a10 i (List.mem_range.1 hi)
    · rintro (⟨h, h'⟩ | ⟨h, h'⟩)
      · exact h' (a8 h)
      · exact h' (a9 h)
    · rintro (h | h | ⟨h, h'⟩ | ⟨h, h'⟩)
      · omega
      · omega
      · have := a6 h; omega
      · have := a7 h; omega
    · rintro ⟨h, h'⟩
      have := a3 h; omega
    · rintro (⟨h, h'⟩ | ⟨h, h'⟩)
      · exact h' (a1 h)
      · exact h' (a2 h)

/-- THE PROGRAM'S ANSWER IS THE DOCUMENT'S. -/
theorem fits_is (t : KT) : goodE t → ∀ T, fitsE t T = isE t T := by
  induction t with
  | nil => exact fun h => h.elim
  | mk k m ns n of ih =>
    rintro ⟨⟨hn12, hown⟩, hkids⟩ T
    obtain ⟨hk8, hmost, hone, hparts, hnames, hnone⟩ := own_facts hown
    cases T with
    | nil => rfl
    | mk N f s c ov =>
      rw [Bool.eq_iff_iff, isE_iff, fitsE]
      simp only [same_zero, canon0]
      rcases (by omega : k = 0 ∨ k = 1 ∨ k = 2 ∨ k = 3 ∨ k = 4 ∨ k = 5 ∨ k = 6 ∨ k = 7 ∨ k = 8) with h | h | h | h | h | h | h | h | h <;> subst h
      · simp [lowE, highE]
        constructor
        · rintro ⟨⟨a, b⟩, ⟨c1, c2⟩, c3⟩; subst c3; exact ⟨c1, c2, rfl, a, b, fun i hi => by omega⟩
        · rintro ⟨a, b, c3, d, e, _⟩; exact ⟨⟨d, e⟩, ⟨a, b⟩, c3⟩
      · simp [lowE, highE]
        constructor
        · rintro ⟨⟨a, b⟩, ⟨c1, c2⟩, c3⟩; subst c3; exact ⟨c1, c2, rfl, a, b, fun i hi => by omega⟩
        · rintro ⟨a, b, c3, d, e, _⟩; exact ⟨⟨d, e⟩, ⟨a, b⟩, c3⟩
      · simp [lowE, highE]
        constructor
        · rintro ⟨⟨a, b⟩, ⟨c1, c2⟩, c3⟩; subst c3; exact ⟨c1, c2, rfl, a, b, fun i hi => by omega⟩
        · rintro ⟨a, b, c3, d, e, _⟩; exact ⟨⟨d, e⟩, ⟨a, b⟩, c3⟩
      · simp [lowE, highE]
        constructor
        · rintro ⟨⟨a, b⟩, c3⟩; subst c3; exact ⟨b, rfl, by omega, by omega, fun i hi => by omega⟩
        · rintro ⟨a, b, c3, d, _⟩; exact ⟨⟨by omega, a⟩, b⟩
      · simp [lowE, highE]
        constructor
        · rintro ⟨a, ⟨b, c1⟩, c3⟩; subst c3; exact ⟨c1, rfl, by omega, by omega, a, fun i hi => by omega⟩
        · rintro ⟨a, c3, d, e, g, _⟩; exact ⟨g, ⟨by omega, a⟩, c3⟩
      · have h1 := hone rfl
        subst h1
        have hi0 := ih 0 (hkids 0 (by omega))
        simp [lowE, highE, hi0]
        constructor
        · rintro ⟨⟨a, b⟩, ⟨c1, c2⟩, c3⟩; exact ⟨c2, c3, by omega, by omega, a, b⟩
        · rintro ⟨a, b, c1, c2, d, e⟩; exact ⟨⟨d, e⟩, ⟨by omega, a⟩, b⟩
      · simp [lowE, highE]
        constructor
        · rintro ⟨⟨a, b⟩, ⟨c1, c2⟩, c3⟩; subst a; exact ⟨c2, c3, by omega, by omega, rfl, fun i hi => by rw [← ih i (hkids i hi)]; exact b i hi⟩
        · rintro ⟨a, b, c1, c2, d, e⟩; subst d; exact ⟨⟨rfl, fun i hi => by rw [ih i (hkids i hi)]; exact e i hi⟩, ⟨by omega, a⟩, b⟩
      · simp [lowE, highE]
        constructor
        · rintro ⟨⟨a, b⟩, ⟨c1, c2⟩, c3⟩; subst c3; exact ⟨c1, c2, rfl, a, b, fun i hi => by omega⟩
        · rintro ⟨a, b, c3, d, e, _⟩; exact ⟨⟨d, e⟩, ⟨a, b⟩, c3⟩
      · simp [lowE, highE]
        constructor
        · rintro ⟨⟨⟨a, b⟩, a', b'⟩, c1, c3⟩
          subst a'
          exact ⟨c1, c3, a, b, rfl, fun i hi => (by (have e : i = 0 := by omega); subst e; rw [← ih _ (hkids N.toNat (by omega))]; exact b')⟩
        · rintro ⟨a, b, c1, c2, d, e⟩
          subst d
          exact ⟨⟨⟨c1, c2⟩, rfl, by rw [ih _ (hkids N.toNat (by omega))]; exact e 0 (by omega)⟩, a, b⟩

/-- No part of a node is missing. -/
def vokN : KN → Prop
  | .nil => False
  | .mk _ _ c of => ∀ i, i < c → vokN (of i)

theorem NShows.vok {w : World} (t : KN) : ∀ v, NShows w t v → vokN t := by
  induction t with
  | nil => exact fun _ h => h.elim
  | mk k n c of ih =>
    rintro v ⟨vo, rfl, hk, hn, hc, ho⟩ i hi
    rcases ho with ⟨h, _⟩ | ⟨g, off, cap, rfl, hle, hcell⟩
    · omega
    · obtain ⟨x0, x1, x2, _, _, _, hx⟩ := hcell i hi
      exact ih i _ hx

theorem vnamed_nameT (i : Nat) (hi : i < 4) (n : Nat) : named (nameT i n) = true := by
  have key : ∀ j < 26, ∀ i < 4, named [UInt8.ofNat (97 + i), UInt8.ofNat (65 + j), 48] = true := by decide +kernel
  have := key (n % 26) (Nat.mod_lt _ (by decide)) i hi
  have e : ((65 : Int) + (n : Int) % 26).toNat = 65 + n % 26 := by omega
  unfold nameT
  rw [e]
  exact this

theorem vnameT_ne (i j : Nat) (hi : i < 4) (hj : j < 4) (h : i ≠ j) (n : Int) : nameT i n ≠ nameT j n := by
  have key : ∀ i < 4, ∀ j < 4, i ≠ j → UInt8.ofNat (97 + i) ≠ UInt8.ofNat (97 + j) := by decide
  intro e
  unfold nameT at e
  simp only [List.cons.injEq] at e
  exact key i hi j hj h e.1

theorem vnames_right (n c : Nat) (h0 : 1 ≤ c) (hc : c ≤ 3) : checkNamesE ((List.range c).map (fun i => nameT i n)) = 0 := by
  have h01 := vnameT_ne 0 1 (by omega) (by omega) (by omega) n
  have h02 := vnameT_ne 0 2 (by omega) (by omega) (by omega) n
  have h12 := vnameT_ne 1 2 (by omega) (by omega) (by omega) n
  have n0 := vnamed_nameT 0 (by omega) n
  have n1 := vnamed_nameT 1 (by omega) n
  have n2 := vnamed_nameT 2 (by omega) n
  unfold checkNamesE
  rw [if_neg (by simp; omega)]
  rcases (by omega : c = 1 ∨ c = 2 ∨ c = 3) with rfl | rfl | rfl <;> simp [List.range_succ, namesE, nameE, n0, n1, n2, h01, h02, h12]

theorem leaf_good (q : Nat) (hq : q < 4) (of : Nat → KT) : goodE (.mk q 0 [] 0 of) := by
  refine ⟨⟨by omega, ?_⟩, fun i hi => by omega⟩
  rcases (by omega : q = 0 ∨ q = 1 ∨ q = 2 ∨ q = 3) with rfl | rfl | rfl | rfl <;> simp [ownOK, sizedB, formedB]

/-- A type of the laws, of nothing that is known. -/
theorem good_type (t : KN) : ∀ d, 1 ≤ d → vokN t → goodE (typeE [] t d) ∧ ∀ lv, d ≤ lv → hasE (typeE [] t d) lv = true := by
  induction t with
  | nil => exact fun _ _ h => h.elim
  | mk kd n c of ih =>
    intro d hd ok
    rw [typeE_mk]
    have hsub : ∀ i, 2 ≤ d → goodE (subE [] c of d i) ∧ ∀ lv, d - 1 ≤ lv → hasE (subE [] c of d i) lv = true := by
      intro i h2
      unfold subE
      split
      · have h4 : i % 4 < 4 := Nat.mod_lt _ (by decide)
        refine ⟨leaf_good _ h4 _, fun lv hlv => ?_⟩
        rw [hasE, if_neg (by omega)]
        rfl
      · exact ih _ _ (by omega) (ok _ (Nat.mod_lt _ (by omega)))
    have h60 : (1 : Int) ≤ 1 + ((n % 60 : Nat) : Int) ∧ 1 + ((n % 60 : Nat) : Int) ≤ 60 := by have := Nat.mod_lt n (show 0 < 60 by decide); omega
    have h3 : n % 3 < 3 := Nat.mod_lt _ (by decide)
    have hnm : checkNamesE ((List.range (1 + n % 3)).map (fun i => nameT i n)) = 0 := vnames_right n _ (by omega) (by omega)
    obtain ⟨k, hk⟩ : ∃ k, k = kindE kd d [] := ⟨_, rfl⟩
    have hk9 : k ≤ 8 ∧ (k = 5 ∨ k = 6 ∨ k = 8 → 2 ≤ d) := by
      rw [hk]; unfold kindE
      split
      · omega
      · rename_i h
        simp only [List.length_nil, and_true] at h
        omega
    rw [← hk]
    clear hk
    rcases (by omega : k = 0 ∨ k = 1 ∨ k = 2 ∨ k = 3 ∨ k = 4 ∨ k = 5 ∨ k = 6 ∨ k = 7 ∨ k = 8) with h | h | h | h | h | h | h | h | h <;> subst h
    · exact ⟨leaf_good 0 (by omega) _, fun lv hlv => by simp [mkE, hasE]; omega⟩
    · exact ⟨leaf_good 1 (by omega) _, fun lv hlv => by simp [mkE, hasE]; omega⟩
    · exact ⟨leaf_good 2 (by omega) _, fun lv hlv => by simp [mkE, hasE]; omega⟩
    · exact ⟨leaf_good 3 (by omega) _, fun lv hlv => by simp [mkE, hasE]; omega⟩
    · have e : mkE [] 4 n (subE [] c of d) = .mk 4 (1 + (n % 60 : Nat)) [] 0 (fun _ => .nil) := by simp [mkE]
      rw [e]
      refine ⟨⟨⟨by omega, ?_⟩, fun i hi => by omega⟩, fun lv hlv => by simp [hasE]; omega⟩
      unfold ownOK sizedB formedB
      rw [decide_eq_true h60]
      simp
    · have hs := hsub 0 (hk9.2 (by omega))
      have e : mkE [] 5 n (subE [] c of d) = .mk 5 (1 + (n % 60 : Nat)) [] 1 (fun _ => subE [] c of d 0) := by simp [mkE]
      rw [e]
      refine ⟨⟨⟨by omega, ?_⟩, fun i hi => hs.1⟩, fun lv hlv => ?_⟩
      · unfold ownOK sizedB formedB
        rw [decide_eq_true h60]
        simp
      · rw [hasE, if_neg (by omega), List.all_eq_true]
        exact fun i _ => hs.2 _ (by omega)
    · have hs := fun i => hsub i (hk9.2 (by omega))
      have e : mkE [] 6 n (subE [] c of d) = .mk 6 0 ((List.range (1 + n % 3)).map (fun i => nameT i n)) (1 + n % 3) (subE [] c of d) := by simp [mkE]
      rw [e]
      refine ⟨⟨⟨by omega, ?_⟩, fun i hi => (hs i).1⟩, fun lv hlv => ?_⟩
      · unfold ownOK sizedB formedB
        simp only [if_pos (show (6 : Nat) = 6 ∨ (6 : Nat) = 7 ∨ (6 : Nat) = 8 by decide)]
        rw [hnm]
        simp
      · rw [hasE, if_neg (by omega), List.all_eq_true]
        exact fun i _ => (hs i).2 _ (by omega)
    · have e : mkE [] 7 n (subE [] c of d) = .mk 7 0 ((List.range (1 + n % 3)).map (fun i => nameT i n)) 0 (fun _ => .nil) := by simp [mkE]
      rw [e]
      refine ⟨⟨⟨by omega, ?_⟩, fun i hi => by omega⟩, fun lv hlv => by simp [hasE]; omega⟩
      unfold ownOK sizedB formedB
      simp only [if_pos (show (7 : Nat) = 6 ∨ (7 : Nat) = 7 ∨ (7 : Nat) = 8 by decide)]
      rw [hnm]
      simp
    · have hs := fun i => hsub i (hk9.2 (by omega))
      have e : mkE [] 8 n (subE [] c of d) = .mk 8 0 ((List.range (1 + n % 3)).map (fun i => nameT i n)) (1 + n % 3) (subE [] c of d) := by simp [mkE]
      rw [e]
      refine ⟨⟨⟨by omega, ?_⟩, fun i hi => (hs i).1⟩, fun lv hlv => ?_⟩
      · unfold ownOK sizedB formedB
        simp only [if_pos (show (8 : Nat) = 6 ∨ (8 : Nat) = 7 ∨ (8 : Nat) = 8 by decide)]
        rw [hnm]
        simp
      · rw [hasE, if_neg (by omega), List.all_eq_true]
        exact fun i _ => (hs i).2 _ (by omega)

/-- What the check answers of a type of the laws. -/
theorem val_is (t : KN) (T : VT) (h : vokN t) : valE (typeE [] t 4) T = if isE (typeE [] t 4) T then 0 else 17 := by
  obtain ⟨hg, hh⟩ := good_type t 4 (by omega) h
  unfold valE isVal
  rw [hh 20 (by omega), fits_is _ hg, Bool.true_and]

end Go.Proofs.Ythokfmmbiilllaa
