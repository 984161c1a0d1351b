/-
  CouBack, part 47 of what it rests on: Take2.
-/
import Derived.Test.YtplipjijaaejlaaGreatS46
set_option linter.unusedVariables false
set_option linter.unusedSimpArgs false
set_option maxHeartbeats 64000000
namespace Go.Proofs.YtplipjijaaejlaaGreat
open Go.RowKit
open Go.Lib (hid)
section
attribute [local go_sem] run_store_float
set_option maxRecDepth 100000

/-- What take says, where it doesn't stop at once. -/
def TakeGo (t : KT) : Prop := ∀ (R0 : Nat → Prop) (v : Value) (w : World) (fb rb B : Nat) (l : List UInt8) (q : Nat) (lv : Nat) (lz : Int), lz = lv → lv ≤ 100 → Shows R0 w t v → UnSt fb rb B w ((l, 0), q) → B ≤ w.heap.size → (∀ k, R0 k → ¬ TDirt fb rb k) → q ≤ 1048575 → lv ≠ 0 →
  Calls Tryz.prog 34 #[.pointer (some ⟨fb, 0, none⟩), v, .int .i64 lz] w fun e w' => ∃ v', e = .returned v' ∧ VShows (fun k => w.heap.size ≤ k) w' (takeE t lv ((l, 0), q)).1 v' ∧ UnSt fb rb B w' (takeE t lv ((l, 0), q)).2 ∧ Fr (TDirt fb rb) w w'

theorem take_k0 (k : Nat) (m : Int) (ns : List Txt) (n : Nat) (of : Nat → KT) (hk0 : k = 0) : TakeGo (.mk k m ns n of) := by
  intro R0 v w fb rb B l q lv lz hlz hlv hsh hst hB hR hq hlv0
  have HE : Hid (takeE (.mk k m ns n of) lv ((l, 0), q) = (vnum (withinS (l, 0) 1).1, ((withinS (l, 0) 1).2, q + 1))) := Lib.hid (by
    subst hk0
    unfold takeE
    rw [if_neg (by show ¬ (lv = 0 ∨ 1048576 < q + 1); omega)]
    rfl)
  obtain ⟨na, nc, a', c', rfl, hs⟩ := shows_lit hsh
  have hph := take_head fb rb B ((l, 0), q) w #[.int .u8 k, .int .i64 m, .slice na ns.length nc, .slice a' n c'] hst hB
  have f1 : Fr (fun _ => False) w ((w.alloc (.cells #[.int .u8 k, .int .i64 m, .slice na ns.length nc, .slice a' n c'] 34)).alloc (.cells #[.int .i64 0, .float .f64 0, .string ⟨#[]⟩, .slice none 0 0] 39)) := ((Fr.refl _ _).alloc _).alloc _
  obtain ⟨p0, p1, z1⟩ := un_cells (hst.fr f1 (fun _ _ h => h))
  have hfb1 : fb ≠ w.heap.size := by have := hst.lt; omega
  have hfb2 : fb ≠ w.heap.size + 1 := by have := hst.lt; omega
  have HSH := Lib.hid (And.intro hsh (And.intro hs hR))
  have HST := Lib.hid hst
  clear hsh hst hs hR
  simp only at p0 p1 z1 hph
  have hqw : IntKind.i64.wrap ((q : Int) + 1) = (q : Int) + 1 := by rw [IntKind.wrap_i64]; omega
  obtain ⟨qz, hqz⟩ : ∃ qz : Int, (q : Int) + 1 = qz := ⟨_, rfl⟩
  have hbig : ¬ (1048576 : Int) < qz := by omega
  have hz0 : (lz == 0) = false := by simp; omega
  rw [hqz] at hph hqw
  have HQZ := Lib.hid hqz
  have HQ := Lib.hid hq
  have HLZ := Lib.hid (And.intro hlz hlv)
  clear hlz hlv hq
  obtain ⟨kz, hkz⟩ : ∃ kz : Int, ((k : Nat) : Int) = kz := ⟨_, rfl⟩
  rw [hkz] at hph f1 p0 p1 z1 ⊢
  have e0 : (kz == 0) = true := by simp; omega
  have e1 : (kz == 1) = false := by simp; omega
  have e2 : (kz == 2) = false := by simp; omega
  have e3 : (kz == 3) = false := by simp; omega
  have e4 : (kz == 4) = false := by simp; omega
  have e5 : (kz == 5) = false := by simp; omega
  have e6 : (kz == 6) = false := by simp; omega
  have e7 : (kz == 7) = false := by simp; omega
  have e8 : (kz == 8) = false := by simp; omega
  have HKZ := Lib.hid hkz
  clear hkz hk0
  go_enter Tryz.func34, Tryz.ntmps34
  go_upto_region 1 with fail
  obtain ⟨w1, hw1⟩ : ∃ w1, (w.alloc (.cells #[.int .u8 kz, .int .i64 m, .slice na ns.length nc, .slice a' n c'] 34)).alloc (.cells #[.int .i64 0, .float .f64 0, .string ⟨#[]⟩, .slice none 0 0] 39) = w1 := ⟨_, rfl⟩
  rw [hw1] at hph f1 p0 p1 z1 ⊢
  clear hw1
  obtain ⟨vb, hvb⟩ : ∃ vb, w.heap.size + 1 = vb := ⟨_, rfl⟩
  rw [hvb] at hph hfb2 ⊢
  obtain ⟨tb, htb⟩ : ∃ tb, w.heap.size = tb := ⟨_, rfl⟩
  rw [htb] at hph hfb1 ⊢
  have HTB := Lib.hid htb
  clear hvb htb f1
  go_upto_region 2 with fail
  try rw [hqz]
  clear p0 p1 z1 hqz hqw hfb1 hfb2
  generalize w1.setCell ⟨fb, 1, none⟩ (.int .i64 qz) = w2 at *
  obtain ⟨p0, p1, z1⟩ := un_cells hph.st
  simp only at p1
  rw [show (((q + 1 : Nat) : Nat) : Int) = qz from by rw [← HQZ.out]; omega] at p1
  obtain ⟨c0, c1, c2, c3⟩ := cell_of_four hph.tbox
  have HPH := Lib.hid hph
  clear hph
  obtain ⟨rv, hrd, hrv, hrB⟩ := HPH.out.st.rd
  simp only at hrd
  have HRV := Lib.hid (And.intro hrd (And.intro hrv hrB))
  clear hrd hrv hrB
  obtain ⟨x, hx⟩ : ∃ x, (withinS (l, 0) 1).1 = x := ⟨_, rfl⟩
  obtain ⟨sx, hsx⟩ : ∃ sx, (withinS (l, 0) 1).2 = sx := ⟨_, rfl⟩
  have hcall := rdwithin_any rb rv l 0 1 w2 HRV.out.1
  have hxb := withinS_small (l, 0) 1
  rw [hx] at hxb
  rw [hx, hsx] at HE hcall
  have HX := Lib.hid hxb
  clear hx hsx hxb
  go_wp2_with fail
  refine hcall.mono ?_
  clear hcall
  rintro er w3 ⟨rfl, hrd3⟩
  obtain ⟨hu, hf3⟩ := reads_own HPH.out.st HRV.out.2.1 HRV.out.2.2 hrd3
  have HU := Lib.hid (And.intro hu (HPH.out.fr.trans hf3 (fun _ _ h => h)))
  have hvb3 := box_kept HPH.out.vbox hf3 HPH.out.voff.1
  clear hu hf3 hrd3 c0 c1 c2 c3 p0 p1 z1
  obtain ⟨d0, d1, d2, d3⟩ := cell_of_four hvb3
  have u0 : w3.frozen? ⟨vb, 0, none⟩ = false := by simp [World.frozen?, hvb3]
  have u1 : w3.frozen? ⟨vb, 1, none⟩ = false := by simp [World.frozen?, hvb3]
  have u2 : w3.frozen? ⟨vb, 2, none⟩ = false := by simp [World.frozen?, hvb3]
  have u3 : w3.frozen? ⟨vb, 3, none⟩ = false := by simp [World.frozen?, hvb3]
  have HV3 := Lib.hid hvb3
  clear hvb3
  go_wp2
  refine bodyPost_ret (results_cell_row rfl _ _ vb 39 _ _ _ rfl (store_four HV3.out) Tryz.underlying39 rfl (by kernel_rfl)) rfl ?_
  exact take_done HV3.out HU.out.1 HU.out.2 HPH.out.voff.2.1 HPH.out.voff.2.2 (leaf_shows x 0 [] (by have := HX.out; unfold VB maxLen; simp; omega)) HE.out

theorem take_k1 (k : Nat) (m : Int) (ns : List Txt) (n : Nat) (of : Nat → KT) (hk0 : k = 1) : TakeGo (.mk k m ns n of) := by
  intro R0 v w fb rb B l q lv lz hlz hlv hsh hst hB hR hq hlv0
  have HE : Hid (takeE (.mk k m ns n of) lv ((l, 0), q) = (vnum (numS (l, 0) 2).1, ((numS (l, 0) 2).2, q + 1))) := Lib.hid (by
    subst hk0
    unfold takeE
    rw [if_neg (by show ¬ (lv = 0 ∨ 1048576 < q + 1); omega)]
    rfl)
  obtain ⟨na, nc, a', c', rfl, hs⟩ := shows_lit hsh
  have hph := take_head fb rb B ((l, 0), q) w #[.int .u8 k, .int .i64 m, .slice na ns.length nc, .slice a' n c'] hst hB
  have f1 : Fr (fun _ => False) w ((w.alloc (.cells #[.int .u8 k, .int .i64 m, .slice na ns.length nc, .slice a' n c'] 34)).alloc (.cells #[.int .i64 0, .float .f64 0, .string ⟨#[]⟩, .slice none 0 0] 39)) := ((Fr.refl _ _).alloc _).alloc _
  obtain ⟨p0, p1, z1⟩ := un_cells (hst.fr f1 (fun _ _ h => h))
  have hfb1 : fb ≠ w.heap.size := by have := hst.lt; omega
  have hfb2 : fb ≠ w.heap.size + 1 := by have := hst.lt; omega
  have HSH := Lib.hid (And.intro hsh (And.intro hs hR))
  have HST := Lib.hid hst
  clear hsh hst hs hR
  simp only at p0 p1 z1 hph
  have hqw : IntKind.i64.wrap ((q : Int) + 1) = (q : Int) + 1 := by rw [IntKind.wrap_i64]; omega
  obtain ⟨qz, hqz⟩ : ∃ qz : Int, (q : Int) + 1 = qz := ⟨_, rfl⟩
  have hbig : ¬ (1048576 : Int) < qz := by omega
  have hz0 : (lz == 0) = false := by simp; omega
  rw [hqz] at hph hqw
  have HQZ := Lib.hid hqz
  have HQ := Lib.hid hq
  have HLZ := Lib.hid (And.intro hlz hlv)
  clear hlz hlv hq
  obtain ⟨kz, hkz⟩ : ∃ kz : Int, ((k : Nat) : Int) = kz := ⟨_, rfl⟩
  rw [hkz] at hph f1 p0 p1 z1 ⊢
  have e0 : (kz == 0) = false := by simp; omega
  have e1 : (kz == 1) = true := by simp; omega
  have e2 : (kz == 2) = false := by simp; omega
  have e3 : (kz == 3) = false := by simp; omega
  have e4 : (kz == 4) = false := by simp; omega
  have e5 : (kz == 5) = false := by simp; omega
  have e6 : (kz == 6) = false := by simp; omega
  have e7 : (kz == 7) = false := by simp; omega
  have e8 : (kz == 8) = false := by simp; omega
  have HKZ := Lib.hid hkz
  clear hkz hk0
  go_enter Tryz.func34, Tryz.ntmps34
  go_upto_region 1 with fail
  obtain ⟨w1, hw1⟩ : ∃ w1, (w.alloc (.cells #[.int .u8 kz, .int .i64 m, .slice na ns.length nc, .slice a' n c'] 34)).alloc (.cells #[.int .i64 0, .float .f64 0, .string ⟨#[]⟩, .slice none 0 0] 39) = w1 := ⟨_, rfl⟩
  rw [hw1] at hph f1 p0 p1 z1 ⊢
  clear hw1
  obtain ⟨vb, hvb⟩ : ∃ vb, w.heap.size + 1 = vb := ⟨_, rfl⟩
  rw [hvb] at hph hfb2 ⊢
  obtain ⟨tb, htb⟩ : ∃ tb, w.heap.size = tb := ⟨_, rfl⟩
  rw [htb] at hph hfb1 ⊢
  have HTB := Lib.hid htb
  clear hvb htb f1
  go_upto_region 2 with fail
  try rw [hqz]
  clear p0 p1 z1 hqz hqw hfb1 hfb2
  generalize w1.setCell ⟨fb, 1, none⟩ (.int .i64 qz) = w2 at *
  obtain ⟨p0, p1, z1⟩ := un_cells hph.st
  simp only at p1
  rw [show (((q + 1 : Nat) : Nat) : Int) = qz from by rw [← HQZ.out]; omega] at p1
  obtain ⟨c0, c1, c2, c3⟩ := cell_of_four hph.tbox
  have HPH := Lib.hid hph
  clear hph
  obtain ⟨rv, hrd, hrv, hrB⟩ := HPH.out.st.rd
  simp only at hrd
  have HRV := Lib.hid (And.intro hrd (And.intro hrv hrB))
  clear hrd hrv hrB
  obtain ⟨x, hx⟩ : ∃ x, (numS (l, 0) 2).1 = x := ⟨_, rfl⟩
  obtain ⟨sx, hsx⟩ : ∃ sx, (numS (l, 0) 2).2 = sx := ⟨_, rfl⟩
  have hcall := rword_any rb rv l 0 w2 HRV.out.1
  have hxb : (numS (l, 0) 2).1 < 256 ^ 2 := numS_small (l, 0) 2
  rw [hx] at hxb
  rw [hx, hsx] at HE hcall
  have hxw : IntKind.i64.wrap (x : Int) = (x : Int) := by rw [IntKind.wrap_i64]; omega
  have HX := Lib.hid hxb
  clear hx hsx hxb
  go_wp2_with fail
  refine hcall.mono ?_
  clear hcall
  rintro er w3 ⟨rfl, hrd3⟩
  obtain ⟨hu, hf3⟩ := reads_own HPH.out.st HRV.out.2.1 HRV.out.2.2 hrd3
  have HU := Lib.hid (And.intro hu (HPH.out.fr.trans hf3 (fun _ _ h => h)))
  have hvb3 := box_kept HPH.out.vbox hf3 HPH.out.voff.1
  clear hu hf3 hrd3 c0 c1 c2 c3 p0 p1 z1
  obtain ⟨d0, d1, d2, d3⟩ := cell_of_four hvb3
  have u0 : w3.frozen? ⟨vb, 0, none⟩ = false := by simp [World.frozen?, hvb3]
  have u1 : w3.frozen? ⟨vb, 1, none⟩ = false := by simp [World.frozen?, hvb3]
  have u2 : w3.frozen? ⟨vb, 2, none⟩ = false := by simp [World.frozen?, hvb3]
  have u3 : w3.frozen? ⟨vb, 3, none⟩ = false := by simp [World.frozen?, hvb3]
  have HV3 := Lib.hid hvb3
  clear hvb3
  go_wp2
  refine bodyPost_ret (results_cell_row rfl _ _ vb 39 _ _ _ rfl (store_four HV3.out) Tryz.underlying39 rfl (by kernel_rfl)) rfl ?_
  clear hxw
  exact take_done HV3.out HU.out.1 HU.out.2 HPH.out.voff.2.1 HPH.out.voff.2.2 (leaf_shows x 0 [] (by have := HX.out; unfold VB maxLen; simp; omega)) HE.out

theorem take_k2 (k : Nat) (m : Int) (ns : List Txt) (n : Nat) (of : Nat → KT) (hk0 : k = 2) : TakeGo (.mk k m ns n of) := by
  intro R0 v w fb rb B l q lv lz hlz hlv hsh hst hB hR hq hlv0
  have HE : Hid (takeE (.mk k m ns n of) lv ((l, 0), q) = (vnum (long32 (numS (l, 0) 4).1), ((numS (l, 0) 4).2, q + 1))) := Lib.hid (by
    subst hk0
    unfold takeE
    rw [if_neg (by show ¬ (lv = 0 ∨ 1048576 < q + 1); omega)]
    rfl)
  obtain ⟨na, nc, a', c', rfl, hs⟩ := shows_lit hsh
  have hph := take_head fb rb B ((l, 0), q) w #[.int .u8 k, .int .i64 m, .slice na ns.length nc, .slice a' n c'] hst hB
  have f1 : Fr (fun _ => False) w ((w.alloc (.cells #[.int .u8 k, .int .i64 m, .slice na ns.length nc, .slice a' n c'] 34)).alloc (.cells #[.int .i64 0, .float .f64 0, .string ⟨#[]⟩, .slice none 0 0] 39)) := ((Fr.refl _ _).alloc _).alloc _
  obtain ⟨p0, p1, z1⟩ := un_cells (hst.fr f1 (fun _ _ h => h))
  have hfb1 : fb ≠ w.heap.size := by have := hst.lt; omega
  have hfb2 : fb ≠ w.heap.size + 1 := by have := hst.lt; omega
  have HSH := Lib.hid (And.intro hsh (And.intro hs hR))
  have HST := Lib.hid hst
  clear hsh hst hs hR
  simp only at p0 p1 z1 hph
  have hqw : IntKind.i64.wrap ((q : Int) + 1) = (q : Int) + 1 := by rw [IntKind.wrap_i64]; omega
  obtain ⟨qz, hqz⟩ : ∃ qz : Int, (q : Int) + 1 = qz := ⟨_, rfl⟩
  have hbig : ¬ (1048576 : Int) < qz := by omega
  have hz0 : (lz == 0) = false := by simp; omega
  rw [hqz] at hph hqw
  have HQZ := Lib.hid hqz
  have HQ := Lib.hid hq
  have HLZ := Lib.hid (And.intro hlz hlv)
  clear hlz hlv hq
  obtain ⟨kz, hkz⟩ : ∃ kz : Int, ((k : Nat) : Int) = kz := ⟨_, rfl⟩
  rw [hkz] at hph f1 p0 p1 z1 ⊢
  have e0 : (kz == 0) = false := by simp; omega
  have e1 : (kz == 1) = false := by simp; omega
  have e2 : (kz == 2) = true := by simp; omega
  have e3 : (kz == 3) = false := by simp; omega
  have e4 : (kz == 4) = false := by simp; omega
  have e5 : (kz == 5) = false := by simp; omega
  have e6 : (kz == 6) = false := by simp; omega
  have e7 : (kz == 7) = false := by simp; omega
  have e8 : (kz == 8) = false := by simp; omega
  have HKZ := Lib.hid hkz
  clear hkz hk0
  go_enter Tryz.func34, Tryz.ntmps34
  go_upto_region 1 with fail
  obtain ⟨w1, hw1⟩ : ∃ w1, (w.alloc (.cells #[.int .u8 kz, .int .i64 m, .slice na ns.length nc, .slice a' n c'] 34)).alloc (.cells #[.int .i64 0, .float .f64 0, .string ⟨#[]⟩, .slice none 0 0] 39) = w1 := ⟨_, rfl⟩
  rw [hw1] at hph f1 p0 p1 z1 ⊢
  clear hw1
  obtain ⟨vb, hvb⟩ : ∃ vb, w.heap.size + 1 = vb := ⟨_, rfl⟩
  rw [hvb] at hph hfb2 ⊢
  obtain ⟨tb, htb⟩ : ∃ tb, w.heap.size = tb := ⟨_, rfl⟩
  rw [htb] at hph hfb1 ⊢
  have HTB := Lib.hid htb
  clear hvb htb f1
  go_upto_region 2 with fail
  try rw [hqz]
  clear p0 p1 z1 hqz hqw hfb1 hfb2
  generalize w1.setCell ⟨fb, 1, none⟩ (.int .i64 qz) = w2 at *
  obtain ⟨p0, p1, z1⟩ := un_cells hph.st
  simp only at p1
  rw [show (((q + 1 : Nat) : Nat) : Int) = qz from by rw [← HQZ.out]; omega] at p1
  obtain ⟨c0, c1, c2, c3⟩ := cell_of_four hph.tbox
  have HPH := Lib.hid hph
  clear hph
  obtain ⟨rv, hrd, hrv, hrB⟩ := HPH.out.st.rd
  simp only at hrd
  have HRV := Lib.hid (And.intro hrd (And.intro hrv hrB))
  clear hrd hrv hrB
  obtain ⟨x, hx⟩ : ∃ x, (numS (l, 0) 4).1 = x := ⟨_, rfl⟩
  obtain ⟨sx, hsx⟩ : ∃ sx, (numS (l, 0) 4).2 = sx := ⟨_, rfl⟩
  have hcall := rlong_any rb rv l 0 w2 HRV.out.1
  have hxb : (numS (l, 0) 4).1 < 256 ^ 4 := numS_small (l, 0) 4
  rw [hx] at hxb
  rw [hx, hsx] at HE hcall
  obtain ⟨y, hy⟩ : ∃ y, long32 x = y := ⟨_, rfl⟩
  have hxw : IntKind.i32.wrap (x : Int) = y := by rw [wrap32_long _ (by omega) (by omega), hy]
  have hyb : -2147483648 ≤ y ∧ y ≤ 2147483647 := by rw [← hy]; unfold long32; constructor <;> split <;> omega
  have hyw : IntKind.i64.wrap y = y := by rw [IntKind.wrap_i64]; omega
  rw [hy] at HE
  have HX := Lib.hid hyb
  clear hx hsx hxb hy hyb
  go_wp2_with fail
  refine hcall.mono ?_
  clear hcall
  rintro er w3 ⟨rfl, hrd3⟩
  obtain ⟨hu, hf3⟩ := reads_own HPH.out.st HRV.out.2.1 HRV.out.2.2 hrd3
  have HU := Lib.hid (And.intro hu (HPH.out.fr.trans hf3 (fun _ _ h => h)))
  have hvb3 := box_kept HPH.out.vbox hf3 HPH.out.voff.1
  clear hu hf3 hrd3 c0 c1 c2 c3 p0 p1 z1
  obtain ⟨d0, d1, d2, d3⟩ := cell_of_four hvb3
  have u0 : w3.frozen? ⟨vb, 0, none⟩ = false := by simp [World.frozen?, hvb3]
  have u1 : w3.frozen? ⟨vb, 1, none⟩ = false := by simp [World.frozen?, hvb3]
  have u2 : w3.frozen? ⟨vb, 2, none⟩ = false := by simp [World.frozen?, hvb3]
  have u3 : w3.frozen? ⟨vb, 3, none⟩ = false := by simp [World.frozen?, hvb3]
  have HV3 := Lib.hid hvb3
  clear hvb3
  go_wp2
  refine bodyPost_ret (results_cell_row rfl _ _ vb 39 _ _ _ rfl (store_four HV3.out) Tryz.underlying39 rfl (by kernel_rfl)) rfl ?_
  clear hxw hyw
  exact take_done HV3.out HU.out.1 HU.out.2 HPH.out.voff.2.1 HPH.out.voff.2.2 (leaf_shows y 0 [] (by have := HX.out; unfold VB maxLen; simp; omega)) HE.out

theorem tfloat_any (fb rb B : Nat) (l : List UInt8) (q : Nat) (w : World) (h : UnSt fb rb B w ((l, 0), q)) :
    Calls Tryz.prog 61 #[.pointer (some ⟨fb, 0, none⟩)] w fun e w' => e = .returned (.float .f64 (Fl.canon (numS (l, 0) 8).1)) ∧ UnSt fb rb B w' ((if Fl.canon (numS (l, 0) 8).1 = (numS (l, 0) 8).1 then (numS (l, 0) 8).2 else failS (numS (l, 0) 8).2 4), q) ∧ Fr (TDirt fb rb) w w' := by
  obtain ⟨rv, hrd, hrv, hrB⟩ := h.rd
  simp only at hrd
  obtain ⟨p0, p1, z1⟩ := un_cells h
  have H := Lib.hid h
  have HRV := Lib.hid (And.intro hrd (And.intro hrv hrB))
  clear h hrd hrv hrB
  obtain ⟨x, hx⟩ : ∃ x, (numS (l, 0) 8).1 = x := ⟨_, rfl⟩
  obtain ⟨l2, x2, hsx⟩ : ∃ l2 x2, (numS (l, 0) 8).2 = (l2, x2) := ⟨_, _, rfl⟩
  have hcall := rquad_any rb rv l 0 w HRV.out.1
  rw [hx, hsx] at hcall ⊢
  clear hx hsx
  obtain ⟨sz, hsz⟩ : ∃ sz, (if Fl.canon x = x then (l2, x2) else failS (l2, x2) 4) = sz := ⟨_, rfl⟩
  rw [hsz]
  have HSZ := Lib.hid hsz
  clear hsz
  go_enter Tryz.func61, Tryz.ntmps61
  go_wp2_with fail
  refine hcall.mono ?_
  clear hcall
  rintro er w1 ⟨rfl, hrd1⟩
  obtain ⟨hu, hf1⟩ := reads_own H.out HRV.out.2.1 HRV.out.2.2 hrd1
  have HU := Lib.hid (And.intro hu hf1)
  clear hu hf1 hrd1 p0 p1 z1
  obtain ⟨p0, p1, z1⟩ := un_cells HU.out.1
  go_wp2_with fail
  refine (of_any x w1).mono ?_
  rintro er w2 ⟨rfl, rfl⟩
  by_cases hc : Fl.canon x = x
  · have hcb : ((Fl.canon x : Int) == x) = true := by simp [hc]
    obtain rfl : (l2, x2) = sz := by have := HSZ.out; rw [if_pos hc] at this; exact this
    rw [hcb]
    clear hcb hc
    go_wp2
    go_ret
    exact ⟨rfl, HU.out.1, HU.out.2⟩
  · have hcb : ((Fl.canon x : Int) == x) = false := by simp; omega
    obtain rfl : failS (l2, x2) 4 = sz := by have := HSZ.out; rw [if_neg hc] at this; exact this
    rw [hcb]
    clear hcb hc
    obtain ⟨rv2, hrd2, hrv2, hrB2⟩ := HU.out.1.rd
    simp only at hrd2
    have HR2 := Lib.hid (And.intro hrv2 hrB2)
    have hfail := rdfail_any rb rv2 l2 x2 4 w1 hrd2
    clear hrd2 hrv2 hrB2
    go_wp2_with fail
    refine hfail.mono ?_
    clear hfail
    rintro er w3 ⟨rfl, hrd3⟩
    obtain ⟨hu, hf3⟩ := reads_own HU.out.1 HR2.out.1 HR2.out.2 hrd3
    have HU3 := Lib.hid (And.intro hu (HU.out.2.trans hf3 (fun _ _ h => h)))
    clear hu hf3 hrd3 p0 p1 z1
    go_wp2
    go_ret
    exact ⟨rfl, HU3.out.1, HU3.out.2⟩

theorem take_k3 (k : Nat) (m : Int) (ns : List Txt) (n : Nat) (of : Nat → KT) (hk0 : k = 3) : TakeGo (.mk k m ns n of) := by
  intro R0 v w fb rb B l q lv lz hlz hlv hsh hst hB hR hq hlv0
  have HE : Hid (takeE (.mk k m ns n of) lv ((l, 0), q) = (.mk 0 (Fl.canon (numS (l, 0) 8).1) [] 0 (fun _ => .nil), ((if Fl.canon (numS (l, 0) 8).1 = (numS (l, 0) 8).1 then (numS (l, 0) 8).2 else failS (numS (l, 0) 8).2 4), q + 1))) := Lib.hid (by
    subst hk0
    unfold takeE
    rw [if_neg (by show ¬ (lv = 0 ∨ 1048576 < q + 1); omega)]
    rfl)
  obtain ⟨na, nc, a', c', rfl, hs⟩ := shows_lit hsh
  have hph := take_head fb rb B ((l, 0), q) w #[.int .u8 k, .int .i64 m, .slice na ns.length nc, .slice a' n c'] hst hB
  have f1 : Fr (fun _ => False) w ((w.alloc (.cells #[.int .u8 k, .int .i64 m, .slice na ns.length nc, .slice a' n c'] 34)).alloc (.cells #[.int .i64 0, .float .f64 0, .string ⟨#[]⟩, .slice none 0 0] 39)) := ((Fr.refl _ _).alloc _).alloc _
  obtain ⟨p0, p1, z1⟩ := un_cells (hst.fr f1 (fun _ _ h => h))
  have hfb1 : fb ≠ w.heap.size := by have := hst.lt; omega
  have hfb2 : fb ≠ w.heap.size + 1 := by have := hst.lt; omega
  have HSH := Lib.hid (And.intro hsh (And.intro hs hR))
  have HST := Lib.hid hst
  clear hsh hst hs hR
  simp only at p0 p1 z1 hph
  have hqw : IntKind.i64.wrap ((q : Int) + 1) = (q : Int) + 1 := by rw [IntKind.wrap_i64]; omega
  obtain ⟨qz, hqz⟩ : ∃ qz : Int, (q : Int) + 1 = qz := ⟨_, rfl⟩
  have hbig : ¬ (1048576 : Int) < qz := by omega
  have hz0 : (lz == 0) = false := by simp; omega
  rw [hqz] at hph hqw
  have HQZ := Lib.hid hqz
  have HQ := Lib.hid hq
  have HLZ := Lib.hid (And.intro hlz hlv)
  clear hlz hlv hq
  obtain ⟨kz, hkz⟩ : ∃ kz : Int, ((k : Nat) : Int) = kz := ⟨_, rfl⟩
  rw [hkz] at hph f1 p0 p1 z1 ⊢
  have e0 : (kz == 0) = false := by simp; omega
  have e1 : (kz == 1) = false := by simp; omega
  have e2 : (kz == 2) = false := by simp; omega
  have e3 : (kz == 3) = true := by simp; omega
  have e4 : (kz == 4) = false := by simp; omega
  have e5 : (kz == 5) = false := by simp; omega
  have e6 : (kz == 6) = false := by simp; omega
  have e7 : (kz == 7) = false := by simp; omega
  have e8 : (kz == 8) = false := by simp; omega
  have HKZ := Lib.hid hkz
  clear hkz hk0
  go_enter Tryz.func34, Tryz.ntmps34
  go_upto_region 1 with fail
  obtain ⟨w1, hw1⟩ : ∃ w1, (w.alloc (.cells #[.int .u8 kz, .int .i64 m, .slice na ns.length nc, .slice a' n c'] 34)).alloc (.cells #[.int .i64 0, .float .f64 0, .string ⟨#[]⟩, .slice none 0 0] 39) = w1 := ⟨_, rfl⟩
  rw [hw1] at hph f1 p0 p1 z1 ⊢
  clear hw1
  obtain ⟨vb, hvb⟩ : ∃ vb, w.heap.size + 1 = vb := ⟨_, rfl⟩
  rw [hvb] at hph hfb2 ⊢
  obtain ⟨tb, htb⟩ : ∃ tb, w.heap.size = tb := ⟨_, rfl⟩
  rw [htb] at hph hfb1 ⊢
  have HTB := Lib.hid htb
  clear hvb htb f1
  go_upto_region 2 with fail
  try rw [hqz]
  clear p0 p1 z1 hqz hqw hfb1 hfb2
  generalize w1.setCell ⟨fb, 1, none⟩ (.int .i64 qz) = w2 at *
  obtain ⟨p0, p1, z1⟩ := un_cells hph.st
  simp only at p1
  rw [show (((q + 1 : Nat) : Nat) : Int) = qz from by rw [← HQZ.out]; omega] at p1
  obtain ⟨c0, c1, c2, c3⟩ := cell_of_four hph.tbox
  have HPH := Lib.hid hph
  clear hph
  obtain ⟨rv, hrd, hrv, hrB⟩ := HPH.out.st.rd
  simp only at hrd
  have HRV := Lib.hid (And.intro hrd (And.intro hrv hrB))
  clear hrd hrv hrB
  obtain ⟨sx, hsx⟩ : ∃ sx, (if Fl.canon (numS (l, 0) 8).1 = (numS (l, 0) 8).1 then (numS (l, 0) 8).2 else failS (numS (l, 0) 8).2 4) = sx := ⟨_, rfl⟩
  obtain ⟨x, hx⟩ : ∃ x, Fl.canon (numS (l, 0) 8).1 = x := ⟨_, rfl⟩
  have hcall := tfloat_any fb rb B l (q + 1) w2 HPH.out.st
  have hxb : x < 18446744073709551616 := by rw [← hx]; exact Fl.canon_lt (numS_small (l, 0) 8)
  rw [hsx] at HE hcall
  rw [hx] at HE hcall
  have HX := Lib.hid hxb
  clear hx hsx hxb
  go_wp2_with fail
  refine hcall.mono ?_
  clear hcall
  rintro er w3 ⟨rfl, hu, hf3⟩
  have HU := Lib.hid (And.intro hu (HPH.out.fr.trans hf3 (fun _ _ h => h)))
  have hvb3 := box_kept HPH.out.vbox hf3 HPH.out.voff.1
  clear hu hf3 c0 c1 c2 c3 p0 p1 z1
  obtain ⟨d0, d1, d2, d3⟩ := cell_of_four hvb3
  have u0 : w3.frozen? ⟨vb, 0, none⟩ = false := by simp [World.frozen?, hvb3]
  have u1 : w3.frozen? ⟨vb, 1, none⟩ = false := by simp [World.frozen?, hvb3]
  have u2 : w3.frozen? ⟨vb, 2, none⟩ = false := by simp [World.frozen?, hvb3]
  have u3 : w3.frozen? ⟨vb, 3, none⟩ = false := by simp [World.frozen?, hvb3]
  have HV3 := Lib.hid hvb3
  clear hvb3
  go_wp2
  refine bodyPost_ret (results_cell_row rfl _ _ vb 39 _ _ _ rfl (store_four HV3.out) Tryz.underlying39 rfl (by kernel_rfl)) rfl ?_
  exact take_done HV3.out HU.out.1 HU.out.2 HPH.out.voff.2.1 HPH.out.voff.2.2 (leaf_shows 0 x [] (by have := HX.out; unfold VB maxLen; simp; omega)) HE.out

theorem take_kd (k : Nat) (m : Int) (ns : List Txt) (n : Nat) (of : Nat → KT) (hk0 : 9 ≤ k) : TakeGo (.mk k m ns n of) := by
  intro R0 v w fb rb B l q lv lz hlz hlv hsh hst hB hR hq hlv0
  have HE : Hid (takeE (.mk k m ns n of) lv ((l, 0), q) = (zeroV, (failS (l, 0) 5, q + 1))) := Lib.hid (by
    unfold takeE
    rw [if_neg (by show ¬ (lv = 0 ∨ 1048576 < q + 1); omega), if_neg (by omega), if_neg (by omega), if_neg (by omega), if_neg (by omega), if_neg (by omega), if_neg (by omega), if_neg (by omega), if_neg (by omega), if_neg (by omega)])
  obtain ⟨na, nc, a', c', rfl, hs⟩ := shows_lit hsh
  have hph := take_head fb rb B ((l, 0), q) w #[.int .u8 k, .int .i64 m, .slice na ns.length nc, .slice a' n c'] hst hB
  have f1 : Fr (fun _ => False) w ((w.alloc (.cells #[.int .u8 k, .int .i64 m, .slice na ns.length nc, .slice a' n c'] 34)).alloc (.cells #[.int .i64 0, .float .f64 0, .string ⟨#[]⟩, .slice none 0 0] 39)) := ((Fr.refl _ _).alloc _).alloc _
  obtain ⟨p0, p1, z1⟩ := un_cells (hst.fr f1 (fun _ _ h => h))
  have hfb1 : fb ≠ w.heap.size := by have := hst.lt; omega
  have hfb2 : fb ≠ w.heap.size + 1 := by have := hst.lt; omega
  have HSH := Lib.hid (And.intro hsh (And.intro hs hR))
  have HST := Lib.hid hst
  clear hsh hst hs hR
  simp only at p0 p1 z1 hph
  have hqw : IntKind.i64.wrap ((q : Int) + 1) = (q : Int) + 1 := by rw [IntKind.wrap_i64]; omega
  obtain ⟨qz, hqz⟩ : ∃ qz : Int, (q : Int) + 1 = qz := ⟨_, rfl⟩
  have hbig : ¬ (1048576 : Int) < qz := by omega
  have hz0 : (lz == 0) = false := by simp; omega
  rw [hqz] at hph hqw
  have HQZ := Lib.hid hqz
  have HQ := Lib.hid hq
  have HLZ := Lib.hid (And.intro hlz hlv)
  clear hlz hlv hq
  obtain ⟨kz, hkz⟩ : ∃ kz : Int, ((k : Nat) : Int) = kz := ⟨_, rfl⟩
  rw [hkz] at hph f1 p0 p1 z1 ⊢
  have e0 : (kz == 0) = false := by simp; omega
  have e1 : (kz == 1) = false := by simp; omega
  have e2 : (kz == 2) = false := by simp; omega
  have e3 : (kz == 3) = false := by simp; omega
  have e4 : (kz == 4) = false := by simp; omega
  have e5 : (kz == 5) = false := by simp; omega
  have e6 : (kz == 6) = false := by simp; omega
  have e7 : (kz == 7) = false := by simp; omega
  have e8 : (kz == 8) = false := by simp; omega
  have HKZ := Lib.hid hkz
  clear hkz hk0
  go_enter Tryz.func34, Tryz.ntmps34
  go_upto_region 1 with fail
  obtain ⟨w1, hw1⟩ : ∃ w1, (w.alloc (.cells #[.int .u8 kz, .int .i64 m, .slice na ns.length nc, .slice a' n c'] 34)).alloc (.cells #[.int .i64 0, .float .f64 0, .string ⟨#[]⟩, .slice none 0 0] 39) = w1 := ⟨_, rfl⟩
  rw [hw1] at hph f1 p0 p1 z1 ⊢
  clear hw1
  obtain ⟨vb, hvb⟩ : ∃ vb, w.heap.size + 1 = vb := ⟨_, rfl⟩
  rw [hvb] at hph hfb2 ⊢
  obtain ⟨tb, htb⟩ : ∃ tb, w.heap.size = tb := ⟨_, rfl⟩
  rw [htb] at hph hfb1 ⊢
  have HTB := Lib.hid htb
  clear hvb htb f1
  go_upto_region 2 with fail
  try rw [hqz]
  clear p0 p1 z1 hqz hqw hfb1 hfb2
  generalize w1.setCell ⟨fb, 1, none⟩ (.int .i64 qz) = w2 at *
  obtain ⟨p0, p1, z1⟩ := un_cells hph.st
  simp only at p1
  rw [show (((q + 1 : Nat) : Nat) : Int) = qz from by rw [← HQZ.out]; omega] at p1
  obtain ⟨c0, c1, c2, c3⟩ := cell_of_four hph.tbox
  have HPH := Lib.hid hph
  clear hph
  obtain ⟨rv, hrd, hrv, hrB⟩ := HPH.out.st.rd
  simp only at hrd
  have HRV := Lib.hid (And.intro hrd (And.intro hrv hrB))
  clear hrd hrv hrB
  have hcall := rdfail_any rb rv l 0 5 w2 HRV.out.1
  obtain ⟨sx, hsx⟩ : ∃ sx, failS (l, 0) 5 = sx := ⟨_, rfl⟩
  rw [hsx] at HE hcall
  clear hsx
  go_wp2_with fail
  refine hcall.mono ?_
  clear hcall
  rintro er w3 ⟨rfl, hrd3⟩
  obtain ⟨hu, hf3⟩ := reads_own HPH.out.st HRV.out.2.1 HRV.out.2.2 hrd3
  have HU := Lib.hid (And.intro hu (HPH.out.fr.trans hf3 (fun _ _ h => h)))
  have hvb3 := box_kept HPH.out.vbox hf3 HPH.out.voff.1
  clear hu hf3 hrd3 c0 c1 c2 c3 p0 p1 z1
  obtain ⟨d0, d1, d2, d3⟩ := cell_of_four hvb3
  have u0 : w3.frozen? ⟨vb, 0, none⟩ = false := by simp [World.frozen?, hvb3]
  have u1 : w3.frozen? ⟨vb, 1, none⟩ = false := by simp [World.frozen?, hvb3]
  have u2 : w3.frozen? ⟨vb, 2, none⟩ = false := by simp [World.frozen?, hvb3]
  have u3 : w3.frozen? ⟨vb, 3, none⟩ = false := by simp [World.frozen?, hvb3]
  have HV3 := Lib.hid hvb3
  clear hvb3
  go_wp2
  refine bodyPost_ret (results_cell_row rfl _ _ vb 39 _ _ _ rfl (store_four HV3.out) Tryz.underlying39 rfl (by kernel_rfl)) rfl ?_
  exact take_done HV3.out HU.out.1 HU.out.2 HPH.out.voff.2.1 HPH.out.voff.2.2 (leaf_shows 0 0 [] (by unfold VB maxLen; simp)) HE.out

theorem take_stop (k : Nat) (m : Int) (ns : List Txt) (n : Nat) (of : Nat → KT) (R0 : Nat → Prop) (v : Value) (w : World) (fb rb B : Nat) (l : List UInt8) (q : Nat) (lv : Nat) (lz : Int) (hlz : lz = lv) (hlv : lv ≤ 100) (hsh : Shows R0 w (.mk k m ns n of) v) (hst : UnSt fb rb B w ((l, 0), q)) (hB : B ≤ w.heap.size) (hR : ∀ k, R0 k → ¬ TDirt fb rb k) (hq : q ≤ 1048576) (hb : lv = 0 ∨ 1048576 < q + 1) :
    Calls Tryz.prog 34 #[.pointer (some ⟨fb, 0, none⟩), v, .int .i64 lz] w fun e w' => ∃ v', e = .returned v' ∧ VShows (fun k => w.heap.size ≤ k) w' (takeE (.mk k m ns n of) lv ((l, 0), q)).1 v' ∧ UnSt fb rb B w' (takeE (.mk k m ns n of) lv ((l, 0), q)).2 ∧ Fr (TDirt fb rb) w w' := by
  have HE : Hid (takeE (.mk k m ns n of) lv ((l, 0), q) = (zeroV, (failS (l, 0) 6, q + 1))) := Lib.hid (by
    unfold takeE
    rw [if_pos (by show lv = 0 ∨ 1048576 < q + 1; exact hb)])
  have HB := Lib.hid hb
  clear hb
  obtain ⟨na, nc, a', c', rfl, hs⟩ := shows_lit hsh
  have hph := take_head fb rb B ((l, 0), q) w #[.int .u8 k, .int .i64 m, .slice na ns.length nc, .slice a' n c'] hst hB
  have f1 : Fr (fun _ => False) w ((w.alloc (.cells #[.int .u8 k, .int .i64 m, .slice na ns.length nc, .slice a' n c'] 34)).alloc (.cells #[.int .i64 0, .float .f64 0, .string ⟨#[]⟩, .slice none 0 0] 39)) := ((Fr.refl _ _).alloc _).alloc _
  obtain ⟨p0, p1, z1⟩ := un_cells (hst.fr f1 (fun _ _ h => h))
  have hfb1 : fb ≠ w.heap.size := by have := hst.lt; omega
  have hfb2 : fb ≠ w.heap.size + 1 := by have := hst.lt; omega
  have HSH := Lib.hid (And.intro hsh (And.intro hs hR))
  have HST := Lib.hid hst
  clear hsh hst hs hR
  simp only at p0 p1 z1 hph
  have hqw : IntKind.i64.wrap ((q : Int) + 1) = (q : Int) + 1 := by rw [IntKind.wrap_i64]; omega
  obtain ⟨qz, hqz⟩ : ∃ qz : Int, (q : Int) + 1 = qz := ⟨_, rfl⟩
  rw [hqz] at hph hqw
  have HQZ := Lib.hid hqz
  have HQ := Lib.hid hq
  have HLZ := Lib.hid (And.intro hlz hlv)
  clear hlz hlv hq
  obtain ⟨kz, hkz⟩ : ∃ kz : Int, ((k : Nat) : Int) = kz := ⟨_, rfl⟩
  rw [hkz] at hph f1 p0 p1 z1 ⊢
  have HKZ := Lib.hid hkz
  clear hkz
  go_enter Tryz.func34, Tryz.ntmps34
  go_upto_region 1 with fail
  obtain ⟨w1, hw1⟩ : ∃ w1, (w.alloc (.cells #[.int .u8 kz, .int .i64 m, .slice na ns.length nc, .slice a' n c'] 34)).alloc (.cells #[.int .i64 0, .float .f64 0, .string ⟨#[]⟩, .slice none 0 0] 39) = w1 := ⟨_, rfl⟩
  rw [hw1] at hph f1 p0 p1 z1 ⊢
  clear hw1
  obtain ⟨vb, hvb⟩ : ∃ vb, w.heap.size + 1 = vb := ⟨_, rfl⟩
  rw [hvb] at hph hfb2 ⊢
  obtain ⟨tb, htb⟩ : ∃ tb, w.heap.size = tb := ⟨_, rfl⟩
  rw [htb] at hph hfb1 ⊢
  have HTB := Lib.hid htb
  clear hvb htb f1
  go_upto_region 2 with fail
  try rw [hqz]
  clear p0 p1 z1 hqz hqw hfb1 hfb2
  generalize w1.setCell ⟨fb, 1, none⟩ (.int .i64 qz) = w2 at *
  obtain ⟨p0, p1, z1⟩ := un_cells hph.st
  simp only at p1
  rw [show (((q + 1 : Nat) : Nat) : Int) = qz from by rw [← HQZ.out]; omega] at p1
  obtain ⟨c0, c1, c2, c3⟩ := cell_of_four hph.tbox
  have HPH := Lib.hid hph
  clear hph
  obtain ⟨rv, hrd, hrv, hrB⟩ := HPH.out.st.rd
  simp only at hrd
  have HRV := Lib.hid (And.intro hrd (And.intro hrv hrB))
  clear hrd hrv hrB
  have hcall := rdfail_any rb rv l 0 6 w2 HRV.out.1
  obtain ⟨sx, hsx⟩ : ∃ sx, failS (l, 0) 6 = sx := ⟨_, rfl⟩
  rw [hsx] at HE hcall
  clear hsx
  by_cases h0 : lv = 0
  · have hz0 : (lz == 0) = true := by have := HLZ.out.1; simp; omega
    clear h0
    go_wp2_with fail
    refine hcall.mono ?_
    clear hcall
    rintro er w3 ⟨rfl, hrd3⟩
    obtain ⟨hu, hf3⟩ := reads_own HPH.out.st HRV.out.2.1 HRV.out.2.2 hrd3
    have HU := Lib.hid (And.intro hu (HPH.out.fr.trans hf3 (fun _ _ h => h)))
    have hvb3 := box_kept HPH.out.vbox hf3 HPH.out.voff.1
    clear hu hf3 hrd3 c0 c1 c2 c3 p0 p1 z1
    obtain ⟨d0, d1, d2, d3⟩ := cell_of_four hvb3
    have u0 : w3.frozen? ⟨vb, 0, none⟩ = false := by simp [World.frozen?, hvb3]
    have u1 : w3.frozen? ⟨vb, 1, none⟩ = false := by simp [World.frozen?, hvb3]
    have u2 : w3.frozen? ⟨vb, 2, none⟩ = false := by simp [World.frozen?, hvb3]
    have u3 : w3.frozen? ⟨vb, 3, none⟩ = false := by simp [World.frozen?, hvb3]
    have HV3 := Lib.hid hvb3
    clear hvb3
    go_wp2
    refine bodyPost_ret (results_cell_row rfl _ _ vb 39 _ _ _ rfl (store_four HV3.out) Tryz.underlying39 rfl (by kernel_rfl)) rfl ?_
    exact take_done HV3.out HU.out.1 HU.out.2 HPH.out.voff.2.1 HPH.out.voff.2.2 (leaf_shows 0 0 [] (by unfold VB maxLen; simp)) HE.out
  · have hz0 : (lz == 0) = false := by have := HLZ.out.1; simp; omega
    have hbig : (1048576 : Int) < qz := by have := HB.out; have := HQZ.out; omega
    clear h0
    go_wp2_with fail
    refine hcall.mono ?_
    clear hcall
    rintro er w3 ⟨rfl, hrd3⟩
    obtain ⟨hu, hf3⟩ := reads_own HPH.out.st HRV.out.2.1 HRV.out.2.2 hrd3
    have HU := Lib.hid (And.intro hu (HPH.out.fr.trans hf3 (fun _ _ h => h)))
    have hvb3 := box_kept HPH.out.vbox hf3 HPH.out.voff.1
    clear hu hf3 hrd3 c0 c1 c2 c3 p0 p1 z1
    obtain ⟨d0, d1, d2, d3⟩ := cell_of_four hvb3
    have u0 : w3.frozen? ⟨vb, 0, none⟩ = false := by simp [World.frozen?, hvb3]
    have u1 : w3.frozen? ⟨vb, 1, none⟩ = false := by simp [World.frozen?, hvb3]
    have u2 : w3.frozen? ⟨vb, 2, none⟩ = false := by simp [World.frozen?, hvb3]
    have u3 : w3.frozen? ⟨vb, 3, none⟩ = false := by simp [World.frozen?, hvb3]
    have HV3 := Lib.hid hvb3
    clear hvb3
    go_wp2
    refine bodyPost_ret (results_cell_row rfl _ _ vb 39 _ _ _ rfl (store_four HV3.out) Tryz.underlying39 rfl (by kernel_rfl)) rfl ?_
    exact take_done HV3.out HU.out.1 HU.out.2 HPH.out.voff.2.1 HPH.out.voff.2.2 (leaf_shows 0 0 [] (by unfold VB maxLen; simp)) HE.out

theorem take_k4 (k : Nat) (m : Int) (ns : List Txt) (n : Nat) (of : Nat → KT) (hk0 : k = 4) : TakeGo (.mk k m ns n of) := by
  intro R0 v w fb rb B l q lv lz hlz hlv hsh hst hB hR hq hlv0
  have HE : Hid (takeE (.mk k m ns n of) lv ((l, 0), q) = (.mk 0 0 (textS (l, 0) m).1 0 (fun _ => .nil), ((textS (l, 0) m).2, q + 1))) := Lib.hid (by
    subst hk0
    unfold takeE
    rw [if_neg (by show ¬ (lv = 0 ∨ 1048576 < q + 1); omega)]
    rfl)
  obtain ⟨na, nc, a', c', rfl, hs⟩ := shows_lit hsh
  have hph := take_head fb rb B ((l, 0), q) w #[.int .u8 k, .int .i64 m, .slice na ns.length nc, .slice a' n c'] hst hB
  have f1 : Fr (fun _ => False) w ((w.alloc (.cells #[.int .u8 k, .int .i64 m, .slice na ns.length nc, .slice a' n c'] 34)).alloc (.cells #[.int .i64 0, .float .f64 0, .string ⟨#[]⟩, .slice none 0 0] 39)) := ((Fr.refl _ _).alloc _).alloc _
  obtain ⟨p0, p1, z1⟩ := un_cells (hst.fr f1 (fun _ _ h => h))
  have hfb1 : fb ≠ w.heap.size := by have := hst.lt; omega
  have hfb2 : fb ≠ w.heap.size + 1 := by have := hst.lt; omega
  have HSH := Lib.hid (And.intro hsh (And.intro hs hR))
  have HST := Lib.hid hst
  clear hsh hst hs hR
  simp only at p0 p1 z1 hph
  have hqw : IntKind.i64.wrap ((q : Int) + 1) = (q : Int) + 1 := by rw [IntKind.wrap_i64]; omega
  obtain ⟨qz, hqz⟩ : ∃ qz : Int, (q : Int) + 1 = qz := ⟨_, rfl⟩
  have hbig : ¬ (1048576 : Int) < qz := by omega
  have hz0 : (lz == 0) = false := by simp; omega
  rw [hqz] at hph hqw
  have HQZ := Lib.hid hqz
  have HQ := Lib.hid hq
  have HLZ := Lib.hid (And.intro hlz hlv)
  clear hlz hlv hq
  obtain ⟨kz, hkz⟩ : ∃ kz : Int, ((k : Nat) : Int) = kz := ⟨_, rfl⟩
  rw [hkz] at hph f1 p0 p1 z1 ⊢
  have e0 : (kz == 0) = false := by simp; omega
  have e1 : (kz == 1) = false := by simp; omega
  have e2 : (kz == 2) = false := by simp; omega
  have e3 : (kz == 3) = false := by simp; omega
  have e4 : (kz == 4) = true := by simp; omega
  have e5 : (kz == 5) = false := by simp; omega
  have e6 : (kz == 6) = false := by simp; omega
  have e7 : (kz == 7) = false := by simp; omega
  have e8 : (kz == 8) = false := by simp; omega
  have HKZ := Lib.hid hkz
  clear hkz hk0
  go_enter Tryz.func34, Tryz.ntmps34
  go_upto_region 1 with fail
  obtain ⟨w1, hw1⟩ : ∃ w1, (w.alloc (.cells #[.int .u8 kz, .int .i64 m, .slice na ns.length nc, .slice a' n c'] 34)).alloc (.cells #[.int .i64 0, .float .f64 0, .string ⟨#[]⟩, .slice none 0 0] 39) = w1 := ⟨_, rfl⟩
  rw [hw1] at hph f1 p0 p1 z1 ⊢
  clear hw1
  obtain ⟨vb, hvb⟩ : ∃ vb, w.heap.size + 1 = vb := ⟨_, rfl⟩
  rw [hvb] at hph hfb2 ⊢
  obtain ⟨tb, htb⟩ : ∃ tb, w.heap.size = tb := ⟨_, rfl⟩
  rw [htb] at hph hfb1 ⊢
  have HTB := Lib.hid htb
  clear hvb htb f1
  go_upto_region 2 with fail
  try rw [hqz]
  clear p0 p1 z1 hqz hqw hfb1 hfb2
  generalize w1.setCell ⟨fb, 1, none⟩ (.int .i64 qz) = w2 at *
  obtain ⟨p0, p1, z1⟩ := un_cells hph.st
  simp only at p1
  rw [show (((q + 1 : Nat) : Nat) : Int) = qz from by rw [← HQZ.out]; omega] at p1
  obtain ⟨c0, c1, c2, c3⟩ := cell_of_four hph.tbox
  have HPH := Lib.hid hph
  clear hph
  obtain ⟨rv, hrd, hrv, hrB⟩ := HPH.out.st.rd
  simp only at hrd
  have HRV := Lib.hid (And.intro hrd (And.intro hrv hrB))
  clear hrd hrv hrB
  have HTO := Lib.hid (show ¬ (TDirt fb rb tb ∨ tb = vb) from fun h => h.elim HPH.out.toff HPH.out.two)
  obtain ⟨x, hx⟩ : ∃ x, (textS (l, 0) m).1 = x := ⟨_, rfl⟩
  obtain ⟨sx, hsx⟩ : ∃ sx, (textS (l, 0) m).2 = sx := ⟨_, rfl⟩
  have hcall := fun W h => rtext_any rb rv l 0 m W h
  have hxb : (textS (l, 0) m).1.length ≤ 65536 := textS_len (l, 0) m
  rw [hx] at hxb
  simp only [hx, hsx] at HE hcall
  have HX := Lib.hid hxb
  obtain ⟨X, hX⟩ : ∃ X : ByteArray, ⟨x.toArray⟩ = X := ⟨_, rfl⟩
  simp only [hX] at hcall
  have HXX := Lib.hid hX
  clear hx hsx hxb hX
  go_upto_region 15 with fail
  clear c0 c1 c2 c3 p0 p1 z1
  refine wp_region_chain (by kernel_rfl) [some 65, some 66, some 67, some 68, some 69, some 70, some 71, some 72, none] rfl (by decide) (by intro d hd; simp at hd ⊢; omega)
    [6, 8] (fun cvs wx => TkS fb rb B vb w2 (sx, q + 1) #[.int .i64 0, .float .f64 0, .string X, .slice none 0 0] cvs wx)
    [.free (.pointer (some ⟨fb, 0, none⟩)), .free (.pointer (some ⟨fb, 0, none⟩)), .free (.pointer (some ⟨fb, 0, none⟩)), .free (.pointer (some ⟨rb, 0, none⟩)), .free (.pointer (some ⟨tb, 1, none⟩)), .free (.int .i64 m), .link (some (.string X)), .free (.agg #[.int .i64 0, .float .f64 0, .string X, .slice none 0 0]), .link none]
    (by kernel_rfl) (by kernel_rfl) ?h15 ?step15 ?fin15
  case h15 => exact (Fr.refl _ _).drew
  case step15 =>
    intro vals
    simp only [frOfU, fillU, List.setIfInBounds_toArray, List.set_cons_succ, List.set_cons_zero]
    repeat' (first | exact AllOps.nil | refine AllOps.cons ?_ ?_)
    all_goals
      intro cvs wx hS he hu hlim Kc hK
      simp only [Act.put, List.setIfInBounds_toArray, List.set_cons_succ, List.set_cons_zero, List.getD_cons_zero, List.getD_cons_succ] at hK
      simp only [List.mem_cons, List.not_mem_nil, or_false, forall_eq_or_imp, forall_eq, Region.binds, forall_const, pmode_gc, Bool.false_eq_true, false_imp_iff, List.getD_cons_zero, List.getD_cons_succ, OpSort.val, Option.some.injEq, forall_eq', reduceCtorEq, implies_true, true_and, and_true] at he
      have hp0 := hS.ptr HPH.out.st
      obtain ⟨c0, c1, c2, c3⟩ := cell_of_four (box_kept HPH.out.tbox hS.fr HTO.out)
      have HSX := Lib.hid hS
      clear hS
    all_goals first | (clear hlim hu; (try simp only [he] at hK ⊢); go_simp; exact hK) | skip
    · obtain rfl := hlim (0 : Nat) rfl
      have h1 : Fr (fun _ => False) w2 wx := HSX.out
      clear HSX hlim hu
      simp only [he] at hK ⊢
      go_simp
      go_at_call 62
      refine (hcall wx (HRV.out.1.fr h1 (fun h => h) (fun _ _ h => h))).mono ?_
      rintro er wa ⟨rfl, hrd3⟩
      obtain ⟨hu, hf3⟩ := reads_own (HPH.out.st.fr h1 (fun _ _ h => h)) HRV.out.2.1 HRV.out.2.2 hrd3
      exact hK _ _ (fun _ h => by cases h; rfl) ⟨hu, (h1.mono (fun _ _ h => h.elim)).trans hf3 (fun _ _ h => h)⟩
    · obtain rfl := hlim (1 : Nat) rfl
      have h1 := HSX.out
      simp only [List.take_succ_cons, List.take_zero, List.map_cons, List.map_nil] at h1 hK
      have hx1 : UnSt fb rb B wx (sx, q + 1) := h1.1
      have hx2 : Fr (TDirt fb rb) w2 wx := h1.2
      have hvb3 := box_kept HPH.out.vbox hx2 HPH.out.voff.1
      obtain ⟨d0, d1, d2, d3⟩ := cell_of_four hvb3
      have u0 : wx.frozen? ⟨vb, 0, none⟩ = false := by simp [World.frozen?, hvb3]
      have u1 : wx.frozen? ⟨vb, 1, none⟩ = false := by simp [World.frozen?, hvb3]
      have u2 : wx.frozen? ⟨vb, 2, none⟩ = false := by simp [World.frozen?, hvb3]
      have u3 : wx.frozen? ⟨vb, 3, none⟩ = false := by simp [World.frozen?, hvb3]
      have HV3 := Lib.hid hvb3
      have HU3 := Lib.hid (And.intro hx1 hx2)
      clear HSX h1 hlim hu hx1 hx2 hvb3
      simp only [he] at hK ⊢
      go_simp
      refine hK undef _ (fun _ h => by cases h) ?_
      have hfs : Fr (fun k => k = vb) wx _ := fr_four (.int .i64 0) (.float .f64 0) (.string X) (.slice none 0 0) (Fr.refl _ _) (fun _ => rfl)
      exact ⟨HU3.out.1.fr hfs (fun k hk e => by have := HPH.out.voff.2.2; omega), (HU3.out.2.mono (fun _ _ h => .inl h)).trans (hfs.mono (fun _ _ h => .inr h)) (fun _ _ h => h), store_four HV3.out⟩
  case fin15 =>
  intro vals w3 hS hV
  have v0 := hV 0 _ (by decide) rfl
  have v1 := hV 1 _ (by decide) rfl
  have v2 := hV 2 _ (by decide) rfl
  have v3 := hV 3 _ (by decide) rfl
  have v4 := hV 4 _ (by decide) rfl
  have v5 := hV 5 _ (by decide) rfl
  have v6 := hV 6 _ (by decide) rfl
  have v7 := hV 7 _ (by decide) rfl
  clear hV
  simp only [frOfU, fillU, List.setIfInBounds_toArray, List.set_cons_succ, List.set_cons_zero]
  simp only [Nat.reduceAdd, v0, v1, v2, v3, v4, v5, v6, v7]
  clear v0 v1 v2 v3 v4 v5 v6 v7
  have h3 : UnSt fb rb B w3 (sx, q + 1) ∧ Fr (fun k => TDirt fb rb k ∨ k = vb) w2 w3 ∧ w3.heap[vb]? = some (.cells #[.int .i64 0, .float .f64 0, .string X, .slice none 0 0] 39 (0, 0)) := hS
  clear hS
  have H3 := Lib.hid h3
  clear h3
  go_wp2
  refine bodyPost_ret (results_cell_row rfl _ _ vb 39 _ _ _ rfl H3.out.2.2 Tryz.underlying39 rfl (by kernel_rfl)) rfl ?_
  exact take_done2 H3.out.1 HPH.out.fr H3.out.2.1 HPH.out.voff.2.1 (HXX.out ▸ leaf_shows 0 0 x (by have := HX.out; unfold VB maxLen; simp; omega)) HE.out

theorem take_k7 (k : Nat) (m : Int) (ns : List Txt) (n : Nat) (of : Nat → KT) (hk0 : k = 7) : TakeGo (.mk k m ns n of) := by
  intro R0 v w fb rb B l q lv lz hlz hlv hsh hst hB hR hq hlv0
  have HE : Hid (takeE (.mk k m ns n of) lv ((l, 0), q) = (vnum (withinS (l, 0) ((ns.length : Int) - 1)).1, ((withinS (l, 0) ((ns.length : Int) - 1)).2, q + 1))) := Lib.hid (by
    subst hk0
    unfold takeE
    rw [if_neg (by show ¬ (lv = 0 ∨ 1048576 < q + 1); omega)]
    rfl)
  have hns : ns.length ≤ 1000 := by obtain ⟨_, _, _, _, _, ht, _⟩ := hsh; exact ht.1
  have HNS := Lib.hid hns
  clear hns
  obtain ⟨na, nc, a', c', rfl, hs⟩ := shows_lit hsh
  have hph := take_head fb rb B ((l, 0), q) w #[.int .u8 k, .int .i64 m, .slice na ns.length nc, .slice a' n c'] hst hB
  have f1 : Fr (fun _ => False) w ((w.alloc (.cells #[.int .u8 k, .int .i64 m, .slice na ns.length nc, .slice a' n c'] 34)).alloc (.cells #[.int .i64 0, .float .f64 0, .string ⟨#[]⟩, .slice none 0 0] 39)) := ((Fr.refl _ _).alloc _).alloc _
  obtain ⟨p0, p1, z1⟩ := un_cells (hst.fr f1 (fun _ _ h => h))
  have hfb1 : fb ≠ w.heap.size := by have := hst.lt; omega
  have hfb2 : fb ≠ w.heap.size + 1 := by have := hst.lt; omega
  have HSH := Lib.hid (And.intro hsh (And.intro hs hR))
  have HST := Lib.hid hst
  clear hsh hst hs hR
  simp only at p0 p1 z1 hph
  have hqw : IntKind.i64.wrap ((q : Int) + 1) = (q : Int) + 1 := by rw [IntKind.wrap_i64]; omega
  obtain ⟨qz, hqz⟩ : ∃ qz : Int, (q : Int) + 1 = qz := ⟨_, rfl⟩
  have hbig : ¬ (1048576 : Int) < qz := by omega
  have hz0 : (lz == 0) = false := by simp; omega
  rw [hqz] at hph hqw
  have HQZ := Lib.hid hqz
  have HQ := Lib.hid hq
  have HLZ := Lib.hid (And.intro hlz hlv)
  clear hlz hlv hq
  obtain ⟨kz, hkz⟩ : ∃ kz : Int, ((k : Nat) : Int) = kz := ⟨_, rfl⟩
  rw [hkz] at hph f1 p0 p1 z1 ⊢
  have e0 : (kz == 0) = false := by simp; omega
  have e1 : (kz == 1) = false := by simp; omega
  have e2 : (kz == 2) = false := by simp; omega
  have e3 : (kz == 3) = false := by simp; omega
  have e4 : (kz == 4) = false := by simp; omega
  have e5 : (kz == 5) = false := by simp; omega
  have e6 : (kz == 6) = false := by simp; omega
  have e7 : (kz == 7) = true := by simp; omega
  have e8 : (kz == 8) = false := by simp; omega
  have HKZ := Lib.hid hkz
  clear hkz hk0
  go_enter Tryz.func34, Tryz.ntmps34
  go_upto_region 1 with fail
  obtain ⟨w1, hw1⟩ : ∃ w1, (w.alloc (.cells #[.int .u8 kz, .int .i64 m, .slice na ns.length nc, .slice a' n c'] 34)).alloc (.cells #[.int .i64 0, .float .f64 0, .string ⟨#[]⟩, .slice none 0 0] 39) = w1 := ⟨_, rfl⟩
  rw [hw1] at hph f1 p0 p1 z1 ⊢
  clear hw1
  obtain ⟨vb, hvb⟩ : ∃ vb, w.heap.size + 1 = vb := ⟨_, rfl⟩
  rw [hvb] at hph hfb2 ⊢
  obtain ⟨tb, htb⟩ : ∃ tb, w.heap.size = tb := ⟨_, rfl⟩
  rw [htb] at hph hfb1 ⊢
  have HTB := Lib.hid htb
  clear hvb htb f1
  go_upto_region 2 with fail
  try rw [hqz]
  clear p0 p1 z1 hqz hqw hfb1 hfb2
  generalize w1.setCell ⟨fb, 1, none⟩ (.int .i64 qz) = w2 at *
  obtain ⟨p0, p1, z1⟩ := un_cells hph.st
  simp only at p1
  rw [show (((q + 1 : Nat) : Nat) : Int) = qz from by rw [← HQZ.out]; omega] at p1
  obtain ⟨c0, c1, c2, c3⟩ := cell_of_four hph.tbox
  have HPH := Lib.hid hph
  clear hph
  obtain ⟨rv, hrd, hrv, hrB⟩ := HPH.out.st.rd
  simp only at hrd
  have HRV := Lib.hid (And.intro hrd (And.intro hrv hrB))
  clear hrd hrv hrB
  have HTO := Lib.hid (show ¬ (TDirt fb rb tb ∨ tb = vb) from fun h => h.elim HPH.out.toff HPH.out.two)
  obtain ⟨nz, hnz⟩ : ∃ nz, ns.length = nz := ⟨_, rfl⟩
  rw [hnz] at HE HNS ⊢
  have HPH2 : Hid (w2.heap[tb]? = some (.cells #[.int .u8 kz, .int .i64 m, .slice na nz nc, .slice a' n c'] 34 (0, 0))) := Lib.hid (by rw [← hnz]; exact HPH.out.tbox)
  obtain ⟨yz, hyz⟩ : ∃ yz : Int, (nz : Int) - 1 = yz := ⟨_, rfl⟩
  have hyw : IntKind.i64.wrap yz = yz := by have := HNS.out; rw [IntKind.wrap_i64]; omega
  rw [hyz] at HE
  obtain ⟨x, hx⟩ : ∃ x, (withinS (l, 0) yz).1 = x := ⟨_, rfl⟩
  obtain ⟨sx, hsx⟩ : ∃ sx, (withinS (l, 0) yz).2 = sx := ⟨_, rfl⟩
  have hcall := fun W h => rdwithin_any rb rv l 0 yz W h
  have hxb := withinS_small (l, 0) yz
  rw [hx] at hxb
  simp only [hx, hsx] at HE hcall
  have HX := Lib.hid hxb
  have HYZ := Lib.hid hyz
  have HYW := Lib.hid hyw
  clear hx hsx hxb hnz hyz hyw
  go_upto_region 21 with fail
  clear c0 c1 c2 c3 p0 p1 z1
  refine wp_region_chain (by kernel_rfl) [some 92, some 93, some 94, some 95, some 96, some 97, some 98, some 99, some 100, some 101, none] rfl (by decide) (by intro d hd; simp at hd ⊢; omega)
    [8, 10] (fun cvs wx => TkS fb rb B vb w2 (sx, q + 1) #[.int .i64 x, .float .f64 0, .string ⟨#[]⟩, .slice none 0 0] cvs wx)
    [.free (.pointer (some ⟨fb, 0, none⟩)), .free (.pointer (some ⟨fb, 0, none⟩)), .free (.pointer (some ⟨fb, 0, none⟩)), .free (.pointer (some ⟨rb, 0, none⟩)), .free (.pointer (some ⟨tb, 2, none⟩)), .free (.slice na nz nc), .free (.int .i64 nz), .free (.int .i64 yz), .link (some (.int .i64 x)), .free (.agg #[.int .i64 x, .float .f64 0, .string ⟨#[]⟩, .slice none 0 0]), .link none]
    (by kernel_rfl) (by kernel_rfl) ?h21 ?step21 ?fin21
  case h21 => exact (Fr.refl _ _).drew
  case step21 =>
    intro vals
    simp only [frOfU, fillU, List.setIfInBounds_toArray, List.set_cons_succ, List.set_cons_zero]
    repeat' (first | exact AllOps.nil | refine AllOps.cons ?_ ?_)
    all_goals
      intro cvs wx hS he hu hlim Kc hK
      simp only [Act.put, List.setIfInBounds_toArray, List.set_cons_succ, List.set_cons_zero, List.getD_cons_zero, List.getD_cons_succ] at hK
      simp only [List.mem_cons, List.not_mem_nil, or_false, forall_eq_or_imp, forall_eq, Region.binds, forall_const, pmode_gc, Bool.false_eq_true, false_imp_iff, List.getD_cons_zero, List.getD_cons_succ, OpSort.val, Option.some.injEq, forall_eq', reduceCtorEq, implies_true, true_and, and_true] at he
      have hp0 := hS.ptr HPH.out.st
      obtain ⟨c0, c1, c2, c3⟩ := cell_of_four (box_kept HPH2.out hS.fr HTO.out)
      have hyz := HYZ.out
      have hyw := HYW.out
      have HSX := Lib.hid hS
      clear hS
    all_goals first | (clear hlim hu; (try simp only [he] at hK ⊢); go_simp; exact hK) | skip
    · obtain rfl := hlim (0 : Nat) rfl
      have h1 : Fr (fun _ => False) w2 wx := HSX.out
      clear hyz hyw
      clear HSX hlim hu
      simp only [he] at hK ⊢
      go_simp
      go_at_call 58
      refine (hcall wx (HRV.out.1.fr h1 (fun h => h) (fun _ _ h => h))).mono ?_
      rintro er wa ⟨rfl, hrd3⟩
      obtain ⟨hu, hf3⟩ := reads_own (HPH.out.st.fr h1 (fun _ _ h => h)) HRV.out.2.1 HRV.out.2.2 hrd3
      exact hK _ _ (fun _ h => by cases h; rfl) ⟨hu, (h1.mono (fun _ _ h => h.elim)).trans hf3 (fun _ _ h => h)⟩
    · obtain rfl := hlim (1 : Nat) rfl
      have h1 := HSX.out
      clear hyz hyw
      simp only [List.take_succ_cons, List.take_zero, List.map_cons, List.map_nil] at h1 hK
      have hx1 : UnSt fb rb B wx (sx, q + 1) := h1.1
      have hx2 : Fr (TDirt fb rb) w2 wx := h1.2
      have hvb3 := box_kept HPH.out.vbox hx2 HPH.out.voff.1
      obtain ⟨d0, d1, d2, d3⟩ := cell_of_four hvb3
      have u0 : wx.frozen? ⟨vb, 0, none⟩ = false := by simp [World.frozen?, hvb3]
      have u1 : wx.frozen? ⟨vb, 1, none⟩ = false := by simp [World.frozen?, hvb3]
      have u2 : wx.frozen? ⟨vb, 2, none⟩ = false := by simp [World.frozen?, hvb3]
      have u3 : wx.frozen? ⟨vb, 3, none⟩ = false := by simp [World.frozen?, hvb3]
      have HV3 := Lib.hid hvb3
      have HU3 := Lib.hid (And.intro hx1 hx2)
      clear HSX h1 hlim hu hx1 hx2 hvb3
      simp only [he] at hK ⊢
      go_simp
      refine hK undef _ (fun _ h => by cases h) ?_
      have hfs : Fr (fun k => k = vb) wx _ := fr_four (.int .i64 x) (.float .f64 0) (.string ⟨#[]⟩) (.slice none 0 0) (Fr.refl _ _) (fun _ => rfl)
      exact ⟨HU3.out.1.fr hfs (fun k hk e => by have := HPH.out.voff.2.2; omega), (HU3.out.2.mono (fun _ _ h => .inl h)).trans (hfs.mono (fun _ _ h => .inr h)) (fun _ _ h => h), store_four HV3.out⟩
  case fin21 =>
  intro vals w3 hS hV
  have v0 := hV 0 _ (by decide) rfl
  have v1 := hV 1 _ (by decide) rfl
  have v2 := hV 2 _ (by decide) rfl
  have v3 := hV 3 _ (by decide) rfl
  have v4 := hV 4 _ (by decide) rfl
  have v5 := hV 5 _ (by decide) rfl
  have v6 := hV 6 _ (by decide) rfl
  have v7 := hV 7 _ (by decide) rfl
  have v8 := hV 8 _ (by decide) rfl
  have v9 := hV 9 _ (by decide) rfl
  clear hV
  simp only [frOfU, fillU, List.setIfInBounds_toArray, List.set_cons_succ, List.set_cons_zero]
  simp only [Nat.reduceAdd, v0, v1, v2, v3, v4, v5, v6, v7, v8, v9]
  clear v0 v1 v2 v3 v4 v5 v6 v7 v8 v9
  have h3 : UnSt fb rb B w3 (sx, q + 1) ∧ Fr (fun k => TDirt fb rb k ∨ k = vb) w2 w3 ∧ w3.heap[vb]? = some (.cells #[.int .i64 x, .float .f64 0, .string ⟨#[]⟩, .slice none 0 0] 39 (0, 0)) := hS
  clear hS
  have H3 := Lib.hid h3
  clear h3
  go_wp2
  refine bodyPost_ret (results_cell_row rfl _ _ vb 39 _ _ _ rfl H3.out.2.2 Tryz.underlying39 rfl (by kernel_rfl)) rfl ?_
  exact take_done2 H3.out.1 HPH.out.fr H3.out.2.1 HPH.out.voff.2.1 (leaf_shows x 0 [] (by have := HX.out; unfold VB maxLen; simp; omega)) HE.out
end
end Go.Proofs.YtplipjijaaejlaaGreat
