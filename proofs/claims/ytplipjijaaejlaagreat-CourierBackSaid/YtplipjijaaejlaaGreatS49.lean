/-
  CouBack, part 49 of what it rests on: Take4.
-/
import Derived.Test.YtplipjijaaejlaaGreatS48
set_option linter.unusedVariables false
set_option linter.unusedSimpArgs false
set_option maxHeartbeats 64000000
namespace Go.Proofs.YtplipjijaaejlaaGreat
open Go.RowKit
open Go.Lib (hid)
section
attribute [local go_sem] run_store_float
set_option maxRecDepth 100000

/-- A value of parts. -/
theorem parts_shows {R : Nat → Prop} {w : World} {B : Nat} {po : Value} {L : List VT} (h : PartsAt B w po L) (hL : L.length ≤ 100000) (hR : ∀ k, k < w.heap.size → B ≤ k → R k) : VShows R w (partsV L) (.agg #[.int .i64 0, .float .f64 0, .string ⟨#[]⟩, po]) := by
  obtain ⟨a, cap, rfl, hk⟩ := h
  have h0 : VShows (fun k => B ≤ k) w (partsV L) (.agg #[.int .i64 0, .float .f64 0, .string ⟨#[]⟩, .slice a L.length cap]) := vshows_mk (s := []) (by unfold VB maxLen; simp; omega) hk
  exact VShows.mono hR _ _ h0

theorem take_k6 (k : Nat) (m : Int) (ns : List Txt) (n : Nat) (of : Nat → KT) (ih : ∀ i, i < n → TakeAt (of i)) (hk0 : k = 6) : TakeGo (.mk k m ns n of) := by
  intro R0 v w fb rb B l q lv lz hlz hlv hsh hst hB hR hq hlv0
  have HE : Hid (takeE (.mk k m ns n of) lv ((l, 0), q) = (partsV (eachN (fun i s' => takeE (of (if k = 5 then 0 else i)) (lv - 1) s') n ((l, 0), q + 1)).1, (eachN (fun i s' => takeE (of (if k = 5 then 0 else i)) (lv - 1) s') n ((l, 0), q + 1)).2)) := Lib.hid (by
    subst hk0
    rw [takeE, if_neg (by show ¬ (lv = 0 ∨ 1048576 < q + 1); omega), if_neg (by omega), if_neg (by omega), if_neg (by omega), if_neg (by omega), if_neg (by omega), if_neg (by omega), if_pos rfl]
    simp)
  have HK5 := Lib.hid (show k ≠ 5 by omega)
  have hn1 : n ≤ 1000 := by obtain ⟨_, _, _, _, hn, _, _⟩ := hsh; exact hn
  have HN1 := Lib.hid hn1
  have HIH := Lib.hid ih
  have HLV0 := Lib.hid hlv0
  have HB0 := Lib.hid hB
  clear hn1 ih
  obtain ⟨na, nc, a', c', rfl, hs⟩ := shows_lit hsh
  have hph := take_head fb rb B ((l, 0), q) w #[.int .u8 k, .int .i64 m, .slice na ns.length nc, .slice a' n c'] hst hB
  have f1 : Fr (fun _ => False) w ((w.alloc (.cells #[.int .u8 k, .int .i64 m, .slice na ns.length nc, .slice a' n c'] 34)).alloc (.cells #[.int .i64 0, .float .f64 0, .string ⟨#[]⟩, .slice none 0 0] 39)) := ((Fr.refl _ _).alloc _).alloc _
  obtain ⟨p0, p1, z1⟩ := un_cells (hst.fr f1 (fun _ _ h => h))
  have hfb1 : fb ≠ w.heap.size := by have := hst.lt; omega
  have hfb2 : fb ≠ w.heap.size + 1 := by have := hst.lt; omega
  have HSH := Lib.hid (And.intro hsh (And.intro hs hR))
  have HST := Lib.hid hst
  clear hsh hst hs hR
  simp only at p0 p1 z1 hph
  have hqw : IntKind.i64.wrap ((q : Int) + 1) = (q : Int) + 1 := by rw [IntKind.wrap_i64]; omega
  obtain ⟨qz, hqz⟩ : ∃ qz : Int, (q : Int) + 1 = qz := ⟨_, rfl⟩
  have hbig : ¬ (1048576 : Int) < qz := by omega
  have hz0 : (lz == 0) = false := by simp; omega
  rw [hqz] at hph hqw
  have HQZ := Lib.hid hqz
  have HQ := Lib.hid hq
  have HLZ := Lib.hid (And.intro hlz hlv)
  clear hlz hlv hq
  obtain ⟨kz, hkz⟩ : ∃ kz : Int, ((k : Nat) : Int) = kz := ⟨_, rfl⟩
  rw [hkz] at hph f1 p0 p1 z1 ⊢
  have e0 : (kz == 0) = false := by simp; omega
  have e1 : (kz == 1) = false := by simp; omega
  have e2 : (kz == 2) = false := by simp; omega
  have e3 : (kz == 3) = false := by simp; omega
  have e4 : (kz == 4) = false := by simp; omega
  have e5 : (kz == 5) = false := by simp; omega
  have e6 : (kz == 6) = true := by simp; omega
  have e7 : (kz == 7) = false := by simp; omega
  have e8 : (kz == 8) = false := by simp; omega
  have HKZ := Lib.hid hkz
  clear hkz hk0
  go_enter Tryz.func34, Tryz.ntmps34
  go_upto_region 1 with fail
  obtain ⟨w1, hw1⟩ : ∃ w1, (w.alloc (.cells #[.int .u8 kz, .int .i64 m, .slice na ns.length nc, .slice a' n c'] 34)).alloc (.cells #[.int .i64 0, .float .f64 0, .string ⟨#[]⟩, .slice none 0 0] 39) = w1 := ⟨_, rfl⟩
  rw [hw1] at hph f1 p0 p1 z1 ⊢
  clear hw1
  obtain ⟨vb, hvb⟩ : ∃ vb, w.heap.size + 1 = vb := ⟨_, rfl⟩
  rw [hvb] at hph hfb2 ⊢
  obtain ⟨tb, htb⟩ : ∃ tb, w.heap.size = tb := ⟨_, rfl⟩
  rw [htb] at hph hfb1 ⊢
  have HTB := Lib.hid htb
  clear hvb htb f1
  go_upto_region 2 with fail
  try rw [hqz]
  clear p0 p1 z1 hqz hqw hfb1 hfb2
  generalize w1.setCell ⟨fb, 1, none⟩ (.int .i64 qz) = w2 at *
  obtain ⟨p0, p1, z1⟩ := un_cells hph.st
  simp only at p1
  rw [show (((q + 1 : Nat) : Nat) : Int) = qz from by rw [← HQZ.out]; omega] at p1
  obtain ⟨c0, c1, c2, c3⟩ := cell_of_four hph.tbox
  have HPH := Lib.hid hph
  clear hph
  obtain ⟨rv, hrd, hrv, hrB⟩ := HPH.out.st.rd
  simp only at hrd
  have HRV := Lib.hid (And.intro hrd (And.intro hrv hrB))
  clear hrd hrv hrB
  have hcall := teach_any k m ns n of n lv lz HLZ.out.1 (by have := HLZ.out.2; have := HLV0.out; omega) (fun i hi => by rw [if_neg HK5.out]; exact HIH.out i hi) (fun i hi => by rw [if_neg HK5.out]; exact hi) (by have := HN1.out; omega) R0 _ w2 fb rb B ((l, 0), q + 1) (Shows.fr HPH.out.fr (fun x hx => HSH.out.2.2 x hx) _ _ HSH.out.1) HPH.out.st (Nat.le_trans HB0.out HPH.out.fr.size) HSH.out.2.2 ⟨by have := HQ.out; show q + 1 ≤ _; omega, fun _ => by have := HQ.out; show q + 1 ≤ _; omega⟩
  rw [HKZ.out] at hcall
  have HLL := Lib.hid (each_len (fun i s' => takeE (of (if k = 5 then 0 else i)) (lv - 1) s') ((l, 0), q + 1) n)
  obtain ⟨E, hE⟩ : ∃ E, eachN (fun i s' => takeE (of (if k = 5 then 0 else i)) (lv - 1) s') n ((l, 0), q + 1) = E := ⟨_, rfl⟩
  rw [hE] at HE hcall HLL
  clear hE
  go_wp2_with fail
  refine hcall.mono ?_
  clear hcall
  rintro er w3 ⟨po, rfl, hpo, hu, hf3⟩
  obtain ⟨a9, c9, rfl, hk9⟩ := hpo
  obtain ⟨z9, hz9⟩ : ∃ z9, E.1.length = z9 := ⟨_, rfl⟩
  rw [hz9] at hk9 ⊢
  have HPO : Hid (PartsAt w2.heap.size w3 (.slice a9 z9 c9) E.1) := Lib.hid ⟨a9, c9, by rw [hz9], by rw [hz9]; exact hk9⟩
  clear hk9 hz9
  have HU := Lib.hid (And.intro hu (HPH.out.fr.trans hf3 (fun _ _ h => h)))
  have hvb3 := box_kept HPH.out.vbox hf3 HPH.out.voff.1
  clear hu hf3 c0 c1 c2 c3 p0 p1 z1
  obtain ⟨d0, d1, d2, d3⟩ := cell_of_four hvb3
  have u0 : w3.frozen? ⟨vb, 0, none⟩ = false := by simp [World.frozen?, hvb3]
  have u1 : w3.frozen? ⟨vb, 1, none⟩ = false := by simp [World.frozen?, hvb3]
  have u2 : w3.frozen? ⟨vb, 2, none⟩ = false := by simp [World.frozen?, hvb3]
  have u3 : w3.frozen? ⟨vb, 3, none⟩ = false := by simp [World.frozen?, hvb3]
  have HV3 := Lib.hid hvb3
  clear hvb3
  go_wp2
  refine bodyPost_ret (results_cell_row rfl _ _ vb 39 _ _ _ rfl (store_four HV3.out) Tryz.underlying39 rfl (by kernel_rfl)) rfl ?_
  exact take_done HV3.out HU.out.1 HU.out.2 HPH.out.voff.2.1 HPH.out.voff.2.2 (parts_shows HPO.out (by have := HLL.out; have := HN1.out; omega) (fun x _ hx => by have := lt_of_block HPH.out.vbox; have := HPH.out.fr.size; omega)) HE.out

theorem telem_bad (k : Nat) (m : Int) (ns : List Txt) (n : Nat) (of : Nat → KT) (hk0 : k = 5) (hn : n ≠ 1) (R0 : Nat → Prop) (tv : Value) (w : World) (fb rb B : Nat) (l : List UInt8) (q : Nat) (lv : Nat) (lz : Int) (hlz : lz = lv) (hlv : 1 ≤ lv ∧ lv ≤ 100) (hsh : Shows R0 w (.mk k m ns n of) tv) (hst : UnSt fb rb B w ((l, 0), q)) (hB : B ≤ w.heap.size) (hR : ∀ k, R0 k → ¬ TDirt fb rb k) (hq : q ≤ 1048576) :
    Calls Tryz.prog 63 #[.pointer (some ⟨fb, 0, none⟩), tv, .int .i64 lz] w fun e w' => e = .returned (.slice none 0 0) ∧ UnSt fb rb B w' (failS (l, 0) 4, q) ∧ Fr (TDirt fb rb) w w' := by
  obtain ⟨tk, tm, ta, tn, tc, ta', tn', tc', e0⟩ := hsh.four
  obtain ⟨na, nc, a', c', e1, hs⟩ := shows_lit hsh
  rw [e0] at hsh ⊢
  rw [e0] at e1
  simp only [Value.agg.injEq, Array.mk.injEq, List.cons.injEq, and_true, Value.slice.injEq, Value.int.injEq, true_and] at e1
  have hn' : tn' = n := e1.2.2.2.2.1
  have hm' : tm = m := e1.2.1
  subst hm'
  subst hn'
  clear e0 e1 hs
  obtain ⟨w1, hw1⟩ : ∃ w1, w1 = w.alloc (.cells #[.int .u8 tk, .int .i64 tm, .slice ta tn tc, .slice ta' tn' tc'] 34) := ⟨_, rfl⟩
  have f1 : Fr (fun _ => False) w w1 := by rw [hw1]; exact (Fr.refl _ _).alloc _
  have q1 : w1.heap[w.heap.size]? = some (.cells #[.int .u8 tk, .int .i64 tm, .slice ta tn tc, .slice ta' tn' tc'] 34 (0, 0)) := by rw [hw1]; exact heap_alloc_new _ _
  have HSH := Lib.hid (Shows.fr f1 (fun _ _ h => h) _ _ hsh)
  have HST := Lib.hid (hst.fr f1 (fun _ _ h => h))
  have HB1 := Lib.hid (And.intro hB hst.lt)
  have F1 := Lib.hid f1
  have HR := Lib.hid hR
  have HQ := Lib.hid hq
  have HLV := Lib.hid (And.intro hlz hlv)
  have HK0 := Lib.hid hk0
  obtain ⟨p0, p1, zz⟩ := un_cells HST.out
  obtain ⟨rv, hrd, hrv, hrB⟩ := HST.out.rd
  have HRV := Lib.hid (And.intro hrd (And.intro hrv hrB))
  clear hrd hrv hrB hsh hst hB f1 hR hq hlz hlv hk0
  go_enter Tryz.func63, Tryz.ntmps63
  go_upto_region 1 with fail
  rw [← hw1]
  clear hw1
  obtain ⟨tb, htb⟩ : ∃ tb, w.heap.size = tb := ⟨_, rfl⟩
  rw [htb] at q1 ⊢
  have H1 := Lib.hid (And.intro q1 htb)
  obtain ⟨c0, c1, c2, c3⟩ := cell_of_four q1
  clear q1 htb
  have hnz : ((tn' : Int) != 1) = true := by simp; omega
  have hnz2 : ((tn' : Int) == 1) = false := by simp; omega
  have hcall := rdfail_any rb rv l 0 4 w1 HRV.out.1
  clear hn
  go_wp2_with fail
  refine hcall.mono ?_
  clear hcall
  rintro er w3 ⟨rfl, hrd3⟩
  obtain ⟨hu, hf3⟩ := reads_own HST.out HRV.out.2.1 HRV.out.2.2 hrd3
  have HU := Lib.hid (And.intro hu ((F1.out.mono (fun _ _ h => h.elim)).trans hf3 (fun _ _ h => h)))
  clear hu hf3 hrd3 c0 c1 c2 c3 p0 p1 zz
  go_wp2
  go_ret
  exact ⟨rfl, HU.out.1, HU.out.2⟩

/-- The region that takes a sequence: ahead of Within, behind it, behind each, behind the store. -/
def ElS (fb rb B : Nat) (w2 : World) (s2 s3 : TS) (L : List VT) : List Value → World → Prop
  | [], wx => Fr (fun _ => False) w2 wx
  | [_], wx => UnSt fb rb B wx s2 ∧ Fr (TDirt fb rb) w2 wx
  | [_, v], wx => (UnSt fb rb B wx s3 ∧ Fr (TDirt fb rb) w2 wx) ∧ PartsAt w2.heap.size wx v L
  | _ :: _ :: u :: _, wx => (UnSt fb rb B wx s3 ∧ Fr (TDirt fb rb) w2 wx) ∧ PartsAt w2.heap.size wx u L

theorem ElS.fr {fb rb B : Nat} {w2 wx : World} {s2 s3 : TS} {L : List VT} {cvs : List Value} (h : ElS fb rb B w2 s2 s3 L cvs wx) : Fr (TDirt fb rb) w2 wx := by
  match cvs with
  | [] => exact Fr.mono h (fun _ _ h => h.elim)
  | [_] => exact h.2
  | [_, _] => exact h.1.2
  | _ :: _ :: _ :: _ => exact h.1.2

theorem ElS.ptr {fb rb B : Nat} {w2 wx : World} {s1 s2 s3 : TS} {L : List VT} {cvs : List Value} (h : ElS fb rb B w2 s2 s3 L cvs wx) (hp : UnSt fb rb B w2 s1) : wx.cell? ⟨fb, 0, none⟩ = some (.pointer (some ⟨rb, 0, none⟩)) := by
  match cvs with
  | [] => exact (un_cells (hp.fr (S := fun _ => False) h (fun _ _ h => h))).1
  | [_] => exact (un_cells h.1).1
  | [_, _] => exact (un_cells h.1.1).1
  | _ :: _ :: _ :: _ => exact (un_cells h.1.1).1

theorem telem_go (k : Nat) (m : Int) (ns : List Txt) (n : Nat) (of : Nat → KT) (hk0 : k = 5) (hn : n = 1) (ih : ∀ i, i < n → TakeAt (of i)) (R0 : Nat → Prop) (tv : Value) (w : World) (fb rb B : Nat) (l : List UInt8) (q : Nat) (lv : Nat) (lz : Int) (hlz : lz = lv) (hlv : 1 ≤ lv ∧ lv ≤ 100) (hsh : Shows R0 w (.mk k m ns n of) tv) (hst : UnSt fb rb B w ((l, 0), q)) (hB : B ≤ w.heap.size) (hR : ∀ k, R0 k → ¬ TDirt fb rb k) (hq : q ≤ 1048576) :
    Calls Tryz.prog 63 #[.pointer (some ⟨fb, 0, none⟩), tv, .int .i64 lz] w fun e w' => ∃ po, e = .returned po ∧ PartsAt w.heap.size w' po (eachN (fun i s' => takeE (of (if k = 5 then 0 else i)) (lv - 1) s') (withinS (l, 0) m).1 ((withinS (l, 0) m).2, q)).1 ∧
      UnSt fb rb B w' (eachN (fun i s' => takeE (of (if k = 5 then 0 else i)) (lv - 1) s') (withinS (l, 0) m).1 ((withinS (l, 0) m).2, q)).2 ∧ Fr (TDirt fb rb) w w' := by
  obtain ⟨tk, tm, ta, tn, tc, ta', tn', tc', e0⟩ := hsh.four
  obtain ⟨na, nc, a', c', e1, hs⟩ := shows_lit hsh
  rw [e0] at hsh ⊢
  rw [e0] at e1
  simp only [Value.agg.injEq, Array.mk.injEq, List.cons.injEq, and_true, Value.slice.injEq, Value.int.injEq, true_and] at e1
  have hn' : tn' = n := e1.2.2.2.2.1
  have hm' : tm = m := e1.2.1
  subst hm'
  subst hn'
  clear e0 e1 hs
  obtain ⟨w1, hw1⟩ : ∃ w1, w1 = w.alloc (.cells #[.int .u8 tk, .int .i64 tm, .slice ta tn tc, .slice ta' tn' tc'] 34) := ⟨_, rfl⟩
  have f1 : Fr (fun _ => False) w w1 := by rw [hw1]; exact (Fr.refl _ _).alloc _
  have q1 : w1.heap[w.heap.size]? = some (.cells #[.int .u8 tk, .int .i64 tm, .slice ta tn tc, .slice ta' tn' tc'] 34 (0, 0)) := by rw [hw1]; exact heap_alloc_new _ _
  have HSH := Lib.hid (Shows.fr f1 (fun _ _ h => h) _ _ hsh)
  have HST := Lib.hid (hst.fr f1 (fun _ _ h => h))
  have HB1 := Lib.hid (And.intro hB hst.lt)
  have F1 := Lib.hid f1
  have HR := Lib.hid hR
  have HQ := Lib.hid hq
  have HLV := Lib.hid (And.intro hlz hlv)
  have HK0 := Lib.hid hk0
  obtain ⟨p0, p1, zz⟩ := un_cells HST.out
  obtain ⟨rv, hrd, hrv, hrB⟩ := HST.out.rd
  have HRV := Lib.hid (And.intro hrd (And.intro hrv hrB))
  clear hrd hrv hrB hsh hst hB f1 hR hq hlz hlv hk0
  obtain ⟨X, hX⟩ : ∃ X, (withinS (l, 0) tm).1 = X := ⟨_, rfl⟩
  obtain ⟨sx, hsx⟩ : ∃ sx, (withinS (l, 0) tm).2 = sx := ⟨_, rfl⟩
  have hXb := withinS_small (l, 0) tm
  have hcall := fun W h => rdwithin_any rb rv l 0 tm W h
  rw [hX] at hXb
  simp only [hX, hsx] at hcall ⊢
  have HXB := Lib.hid hXb
  obtain ⟨E, hE⟩ : ∃ E, eachN (fun i s' => takeE (of (if k = 5 then 0 else i)) (lv - 1) s') X (sx, q) = E := ⟨_, rfl⟩
  rw [hE]
  have HE := Lib.hid hE
  have hnz : ((tn' : Int) == 1) = true := by simp; omega
  have hnz2 : ((tn' : Int) != 1) = false := by simp; omega
  have HN := Lib.hid hn
  have HIH := Lib.hid ih
  clear hXb hE hX hsx ih hn
  go_enter Tryz.func63, Tryz.ntmps63
  go_upto_region 1 with fail
  rw [← hw1]
  clear hw1
  obtain ⟨tb, htb⟩ : ∃ tb, w.heap.size = tb := ⟨_, rfl⟩
  rw [htb] at q1 ⊢
  have H1 := Lib.hid (And.intro q1 htb)
  obtain ⟨c0, c1, c2, c3⟩ := cell_of_four q1
  clear q1 htb
  have HOFF : Hid (¬ TDirt fb rb tb) := Lib.hid (fun h => by have := HB1.out; have := H1.out.2; rcases h with h | h <;> omega)
  go_upto_region 4 with fail
  clear c0 c1 c2 c3 p0 p1 zz hnz hnz2
  refine wp_region_chain (by kernel_rfl) [some 16, some 17, some 18, some 19, some 20, some 21, some 22, some 23, some 24, some 25, some 26, some 6] rfl (by decide) (by intro d hd; simp at hd ⊢; omega)
    [8, 10, 11] (fun cvs wx => ElS fb rb B w1 (sx, q) E.2 E.1 cvs wx)
    [.free (.pointer (some ⟨fb, 0, none⟩)), .free (.agg #[.int .u8 tk, .int .i64 tm, .slice ta tn tc, .slice ta' tn' tc']), .free (.pointer (some ⟨fb, 0, none⟩)), .free (.pointer (some ⟨fb, 0, none⟩)), .free (.pointer (some ⟨fb, 0, none⟩)), .free (.pointer (some ⟨rb, 0, none⟩)), .free (.pointer (some ⟨tb, 1, none⟩)), .free (.int .i64 tm), .link (some (.int .i64 X)), .free (.int .i64 lz), .link none, .link none]
    (by kernel_rfl) (by kernel_rfl) ?h4 ?step4 ?fin4
  case h4 => exact (Fr.refl _ _).drew
  case step4 =>
    intro vals
    simp only [frOfU, fillU, List.setIfInBounds_toArray, List.set_cons_succ, List.set_cons_zero]
    repeat' (first | exact AllOps.nil | refine AllOps.cons ?_ ?_)
    all_goals
      intro cvs wx hS he hu hlim Kc hK
      simp only [Act.put, List.setIfInBounds_toArray, List.set_cons_succ, List.set_cons_zero, List.getD_cons_zero, List.getD_cons_succ] at hK
      simp only [List.mem_cons, List.not_mem_nil, or_false, forall_eq_or_imp, forall_eq, Region.binds, forall_const, pmode_gc, Bool.false_eq_true, false_imp_iff, List.getD_cons_zero, List.getD_cons_succ, OpSort.val, Option.some.injEq, forall_eq', reduceCtorEq, implies_true, true_and, and_true] at he
      have hp0 := hS.ptr HST.out
      obtain ⟨c0, c1, c2, c3⟩ := cell_of_four (box_kept H1.out.1 hS.fr HOFF.out)
      have HSX := Lib.hid hS
      clear hS
    all_goals first | (clear hlim hu; (try simp only [he] at hK ⊢); go_simp; exact hK) | skip
    · obtain rfl := hlim (0 : Nat) rfl
      have h1 : Fr (fun _ => False) w1 wx := HSX.out
      clear HSX hlim hu c0 c1 c2 c3 hp0
      simp only [he] at hK ⊢
      go_simp
      go_at_call 58
      refine (hcall wx (HRV.out.1.fr h1 (fun h => h) (fun _ _ h => h))).mono ?_
      rintro er wa ⟨rfl, hrd3⟩
      obtain ⟨hu, hf3⟩ := reads_own (HST.out.fr h1 (fun _ _ h => h)) HRV.out.2.1 HRV.out.2.2 hrd3
      exact hK _ _ (fun _ h => by cases h; rfl) ⟨hu, (h1.mono (fun _ _ h => h.elim)).trans hf3 (fun _ _ h => h)⟩
    · obtain rfl := hlim (1 : Nat) rfl
      have h1 := HSX.out
      clear HSX hlim hu c0 c1 c2 c3 hp0
      simp only [List.take_succ_cons, List.take_zero, List.map_cons, List.map_nil] at h1 hK
      have hx1 : UnSt fb rb B wx (sx, q) := h1.1
      have hx2 : Fr (TDirt fb rb) w1 wx := h1.2
      clear h1
      simp only [he] at hK ⊢
      go_simp
      go_at_call 64
      have ht := teach_any k tm ns tn' of X lv lz HLV.out.1 HLV.out.2 (fun i hi => by rw [if_pos HK0.out]; exact HIH.out 0 (by have := HN.out; omega)) (fun i hi => by rw [if_pos HK0.out]; have := HN.out; omega) (by have := HXB.out; omega) R0 _ wx fb rb B (sx, q) (Shows.fr hx2 (fun x hx => HR.out x hx) _ _ HSH.out) hx1 (Nat.le_trans HB1.out.1 (Nat.le_trans F1.out.size hx2.size)) HR.out ⟨by have := HQ.out; show q ≤ _; omega, fun _ => HQ.out⟩
      rw [HE.out] at ht
      refine ht.mono ?_
      rintro er wa ⟨po, rfl, hpo, hu3, hf3⟩
      exact hK _ _ (fun _ h => by cases h) ⟨⟨hu3, hx2.trans hf3 (fun _ _ h => h)⟩, parts_mono hpo hx2.size⟩
    · obtain rfl := hlim (2 : Nat) rfl
      have h1 := HSX.out
      clear HSX hlim hu c0 c1 c2 c3 hp0
      simp only [List.take_succ_cons, List.take_zero, List.map_cons, List.map_nil] at h1 hK
      simp only [he] at hK ⊢
      go_simp
      exact hK _ _ (fun _ h => by cases h) h1
  case fin4 =>
  intro vals w3 hS hV
  have v0 := hV 0 _ (by decide) rfl
  have v1 := hV 1 _ (by decide) rfl
  have v2 := hV 2 _ (by decide) rfl
  have v3 := hV 3 _ (by decide) rfl
  have v4 := hV 4 _ (by decide) rfl
  have v5 := hV 5 _ (by decide) rfl
  have v6 := hV 6 _ (by decide) rfl
  have v7 := hV 7 _ (by decide) rfl
  have v8 := hV 8 _ (by decide) rfl
  have v9 := hV 9 _ (by decide) rfl
  clear hV
  simp only [frOfU, fillU, List.setIfInBounds_toArray, List.set_cons_succ, List.set_cons_zero]
  simp only [Nat.reduceAdd, v0, v1, v2, v3, v4, v5, v6, v7, v8, v9]
  clear v0 v1 v2 v3 v4 v5 v6 v7 v8 v9
  have h3 : (UnSt fb rb B w3 E.2 ∧ Fr (TDirt fb rb) w1 w3) ∧ PartsAt w1.heap.size w3 (vals 11) E.1 := hS
  have H3 := Lib.hid h3
  clear hS h3
  go_wp2
  go_ret
  exact ⟨_, rfl, parts_mono H3.out.2 F1.out.size, H3.out.1.1, (F1.out.mono (fun _ _ h => h.elim)).trans H3.out.1.2 (fun _ _ h => h)⟩
theorem take_k5b (k : Nat) (m : Int) (ns : List Txt) (n : Nat) (of : Nat → KT) (ih : ∀ i, i < n → TakeAt (of i)) (hk0 : k = 5) (hn : n ≠ 1) : TakeGo (.mk k m ns n of) := by
  intro R0 v w fb rb B l q lv lz hlz hlv hsh hst hB hR hq hlv0
  have HE : Hid (takeE (.mk k m ns n of) lv ((l, 0), q) = (zeroV, (failS (l, 0) 4, q + 1))) := Lib.hid (by
    subst hk0
    rw [takeE, if_neg (by show ¬ (lv = 0 ∨ 1048576 < q + 1); omega), if_neg (by omega), if_neg (by omega), if_neg (by omega), if_neg (by omega), if_neg (by omega), if_pos rfl]
    simp [hn])
  have HK5 := Lib.hid hk0
  have HIH := Lib.hid ih
  have HNN := Lib.hid hn
  have HLV0 := Lib.hid hlv0
  have HB0 := Lib.hid hB
  clear ih hn
  obtain ⟨na, nc, a', c', rfl, hs⟩ := shows_lit hsh
  have hph := take_head fb rb B ((l, 0), q) w #[.int .u8 k, .int .i64 m, .slice na ns.length nc, .slice a' n c'] hst hB
  have f1 : Fr (fun _ => False) w ((w.alloc (.cells #[.int .u8 k, .int .i64 m, .slice na ns.length nc, .slice a' n c'] 34)).alloc (.cells #[.int .i64 0, .float .f64 0, .string ⟨#[]⟩, .slice none 0 0] 39)) := ((Fr.refl _ _).alloc _).alloc _
  obtain ⟨p0, p1, z1⟩ := un_cells (hst.fr f1 (fun _ _ h => h))
  have hfb1 : fb ≠ w.heap.size := by have := hst.lt; omega
  have hfb2 : fb ≠ w.heap.size + 1 := by have := hst.lt; omega
  have HSH := Lib.hid (And.intro hsh (And.intro hs hR))
  have HST := Lib.hid hst
  clear hsh hst hs hR
  simp only at p0 p1 z1 hph
  have hqw : IntKind.i64.wrap ((q : Int) + 1) = (q : Int) + 1 := by rw [IntKind.wrap_i64]; omega
  obtain ⟨qz, hqz⟩ : ∃ qz : Int, (q : Int) + 1 = qz := ⟨_, rfl⟩
  have hbig : ¬ (1048576 : Int) < qz := by omega
  have hz0 : (lz == 0) = false := by simp; omega
  rw [hqz] at hph hqw
  have HQZ := Lib.hid hqz
  have HQ := Lib.hid hq
  have HLZ := Lib.hid (And.intro hlz hlv)
  clear hlz hlv hq
  obtain ⟨kz, hkz⟩ : ∃ kz : Int, ((k : Nat) : Int) = kz := ⟨_, rfl⟩
  rw [hkz] at hph f1 p0 p1 z1 ⊢
  have e0 : (kz == 0) = false := by simp; omega
  have e1 : (kz == 1) = false := by simp; omega
  have e2 : (kz == 2) = false := by simp; omega
  have e3 : (kz == 3) = false := by simp; omega
  have e4 : (kz == 4) = false := by simp; omega
  have e5 : (kz == 5) = true := by simp; omega
  have e6 : (kz == 6) = false := by simp; omega
  have e7 : (kz == 7) = false := by simp; omega
  have e8 : (kz == 8) = false := by simp; omega
  have HKZ := Lib.hid hkz
  clear hkz hk0
  go_enter Tryz.func34, Tryz.ntmps34
  go_upto_region 1 with fail
  obtain ⟨w1, hw1⟩ : ∃ w1, (w.alloc (.cells #[.int .u8 kz, .int .i64 m, .slice na ns.length nc, .slice a' n c'] 34)).alloc (.cells #[.int .i64 0, .float .f64 0, .string ⟨#[]⟩, .slice none 0 0] 39) = w1 := ⟨_, rfl⟩
  rw [hw1] at hph f1 p0 p1 z1 ⊢
  clear hw1
  obtain ⟨vb, hvb⟩ : ∃ vb, w.heap.size + 1 = vb := ⟨_, rfl⟩
  rw [hvb] at hph hfb2 ⊢
  obtain ⟨tb, htb⟩ : ∃ tb, w.heap.size = tb := ⟨_, rfl⟩
  rw [htb] at hph hfb1 ⊢
  have HTB := Lib.hid htb
  clear hvb htb f1
  go_upto_region 2 with fail
  try rw [hqz]
  clear p0 p1 z1 hqz hqw hfb1 hfb2
  generalize w1.setCell ⟨fb, 1, none⟩ (.int .i64 qz) = w2 at *
  obtain ⟨p0, p1, z1⟩ := un_cells hph.st
  simp only at p1
  rw [show (((q + 1 : Nat) : Nat) : Int) = qz from by rw [← HQZ.out]; omega] at p1
  obtain ⟨c0, c1, c2, c3⟩ := cell_of_four hph.tbox
  have HPH := Lib.hid hph
  clear hph
  obtain ⟨rv, hrd, hrv, hrB⟩ := HPH.out.st.rd
  simp only at hrd
  have HRV := Lib.hid (And.intro hrd (And.intro hrv hrB))
  clear hrd hrv hrB
  have hcall := telem_bad k m ns n of HK5.out HNN.out R0 _ w2 fb rb B l (q + 1) lv lz HLZ.out.1 (by have := HLZ.out.2; have := HLV0.out; omega) (Shows.fr HPH.out.fr (fun x hx => HSH.out.2.2 x hx) _ _ HSH.out.1) HPH.out.st (Nat.le_trans HB0.out HPH.out.fr.size) HSH.out.2.2 (by have := HQ.out; omega)
  rw [HKZ.out] at hcall
  go_wp2_with fail
  refine hcall.mono ?_
  clear hcall
  rintro er w3 ⟨rfl, hu, hf3⟩
  have HU := Lib.hid (And.intro hu (HPH.out.fr.trans hf3 (fun _ _ h => h)))
  have hvb3 := box_kept HPH.out.vbox hf3 HPH.out.voff.1
  clear hu hf3 c0 c1 c2 c3 p0 p1 z1
  obtain ⟨d0, d1, d2, d3⟩ := cell_of_four hvb3
  have u0 : w3.frozen? ⟨vb, 0, none⟩ = false := by simp [World.frozen?, hvb3]
  have u1 : w3.frozen? ⟨vb, 1, none⟩ = false := by simp [World.frozen?, hvb3]
  have u2 : w3.frozen? ⟨vb, 2, none⟩ = false := by simp [World.frozen?, hvb3]
  have u3 : w3.frozen? ⟨vb, 3, none⟩ = false := by simp [World.frozen?, hvb3]
  have HV3 := Lib.hid hvb3
  clear hvb3
  go_wp2
  refine bodyPost_ret (results_cell_row rfl _ _ vb 39 _ _ _ rfl (store_four HV3.out) Tryz.underlying39 rfl (by kernel_rfl)) rfl ?_
  exact take_done HV3.out HU.out.1 HU.out.2 HPH.out.voff.2.1 HPH.out.voff.2.2 (leaf_shows 0 0 [] (by unfold VB maxLen; simp)) HE.out

theorem take_k5g (k : Nat) (m : Int) (ns : List Txt) (n : Nat) (of : Nat → KT) (ih : ∀ i, i < n → TakeAt (of i)) (hk0 : k = 5) (hn : n = 1) : TakeGo (.mk k m ns n of) := by
  intro R0 v w fb rb B l q lv lz hlz hlv hsh hst hB hR hq hlv0
  have HE : Hid (takeE (.mk k m ns n of) lv ((l, 0), q) = (partsV (eachN (fun i s' => takeE (of (if k = 5 then 0 else i)) (lv - 1) s') (withinS (l, 0) m).1 ((withinS (l, 0) m).2, q + 1)).1, (eachN (fun i s' => takeE (of (if k = 5 then 0 else i)) (lv - 1) s') (withinS (l, 0) m).1 ((withinS (l, 0) m).2, q + 1)).2)) := Lib.hid (by
    subst hk0
    rw [takeE, if_neg (by show ¬ (lv = 0 ∨ 1048576 < q + 1); omega), if_neg (by omega), if_neg (by omega), if_neg (by omega), if_neg (by omega), if_neg (by omega), if_pos rfl]
    simp [hn])
  have HK5 := Lib.hid hk0
  have HIH := Lib.hid ih
  have HNN := Lib.hid hn
  have HLV0 := Lib.hid hlv0
  have HB0 := Lib.hid hB
  clear ih hn
  obtain ⟨na, nc, a', c', rfl, hs⟩ := shows_lit hsh
  have hph := take_head fb rb B ((l, 0), q) w #[.int .u8 k, .int .i64 m, .slice na ns.length nc, .slice a' n c'] hst hB
  have f1 : Fr (fun _ => False) w ((w.alloc (.cells #[.int .u8 k, .int .i64 m, .slice na ns.length nc, .slice a' n c'] 34)).alloc (.cells #[.int .i64 0, .float .f64 0, .string ⟨#[]⟩, .slice none 0 0] 39)) := ((Fr.refl _ _).alloc _).alloc _
  obtain ⟨p0, p1, z1⟩ := un_cells (hst.fr f1 (fun _ _ h => h))
  have hfb1 : fb ≠ w.heap.size := by have := hst.lt; omega
  have hfb2 : fb ≠ w.heap.size + 1 := by have := hst.lt; omega
  have HSH := Lib.hid (And.intro hsh (And.intro hs hR))
  have HST := Lib.hid hst
  clear hsh hst hs hR
  simp only at p0 p1 z1 hph
  have hqw : IntKind.i64.wrap ((q : Int) + 1) = (q : Int) + 1 := by rw [IntKind.wrap_i64]; omega
  obtain ⟨qz, hqz⟩ : ∃ qz : Int, (q : Int) + 1 = qz := ⟨_, rfl⟩
  have hbig : ¬ (1048576 : Int) < qz := by omega
  have hz0 : (lz == 0) = false := by simp; omega
  rw [hqz] at hph hqw
  have HQZ := Lib.hid hqz
  have HQ := Lib.hid hq
  have HLZ := Lib.hid (And.intro hlz hlv)
  clear hlz hlv hq
  obtain ⟨kz, hkz⟩ : ∃ kz : Int, ((k : Nat) : Int) = kz := ⟨_, rfl⟩
  rw [hkz] at hph f1 p0 p1 z1 ⊢
  have e0 : (kz == 0) = false := by simp; omega
  have e1 : (kz == 1) = false := by simp; omega
  have e2 : (kz == 2) = false := by simp; omega
  have e3 : (kz == 3) = false := by simp; omega
  have e4 : (kz == 4) = false := by simp; omega
  have e5 : (kz == 5) = true := by simp; omega
  have e6 : (kz == 6) = false := by simp; omega
  have e7 : (kz == 7) = false := by simp; omega
  have e8 : (kz == 8) = false := by simp; omega
  have HKZ := Lib.hid hkz
  clear hkz hk0
  go_enter Tryz.func34, Tryz.ntmps34
  go_upto_region 1 with fail
  obtain ⟨w1, hw1⟩ : ∃ w1, (w.alloc (.cells #[.int .u8 kz, .int .i64 m, .slice na ns.length nc, .slice a' n c'] 34)).alloc (.cells #[.int .i64 0, .float .f64 0, .string ⟨#[]⟩, .slice none 0 0] 39) = w1 := ⟨_, rfl⟩
  rw [hw1] at hph f1 p0 p1 z1 ⊢
  clear hw1
  obtain ⟨vb, hvb⟩ : ∃ vb, w.heap.size + 1 = vb := ⟨_, rfl⟩
  rw [hvb] at hph hfb2 ⊢
  obtain ⟨tb, htb⟩ : ∃ tb, w.heap.size = tb := ⟨_, rfl⟩
  rw [htb] at hph hfb1 ⊢
  have HTB := Lib.hid htb
  clear hvb htb f1
  go_upto_region 2 with fail
  try rw [hqz]
  clear p0 p1 z1 hqz hqw hfb1 hfb2
  generalize w1.setCell ⟨fb, 1, none⟩ (.int .i64 qz) = w2 at *
  obtain ⟨p0, p1, z1⟩ := un_cells hph.st
  simp only at p1
  rw [show (((q + 1 : Nat) : Nat) : Int) = qz from by rw [← HQZ.out]; omega] at p1
  obtain ⟨c0, c1, c2, c3⟩ := cell_of_four hph.tbox
  have HPH := Lib.hid hph
  clear hph
  obtain ⟨rv, hrd, hrv, hrB⟩ := HPH.out.st.rd
  simp only at hrd
  have HRV := Lib.hid (And.intro hrd (And.intro hrv hrB))
  clear hrd hrv hrB
  have hcall := telem_go k m ns n of HK5.out HNN.out HIH.out R0 _ w2 fb rb B l (q + 1) lv lz HLZ.out.1 (by have := HLZ.out.2; have := HLV0.out; omega) (Shows.fr HPH.out.fr (fun x hx => HSH.out.2.2 x hx) _ _ HSH.out.1) HPH.out.st (Nat.le_trans HB0.out HPH.out.fr.size) HSH.out.2.2 (by have := HQ.out; omega)
  rw [HKZ.out] at hcall
  have HLL := Lib.hid (each_len (fun i s' => takeE (of (if k = 5 then 0 else i)) (lv - 1) s') ((withinS (l, 0) m).2, q + 1) (withinS (l, 0) m).1)
  have HWB := Lib.hid (withinS_small (l, 0) m)
  obtain ⟨E, hE⟩ : ∃ E, eachN (fun i s' => takeE (of (if k = 5 then 0 else i)) (lv - 1) s') (withinS (l, 0) m).1 ((withinS (l, 0) m).2, q + 1) = E := ⟨_, rfl⟩
  rw [hE] at HE hcall HLL
  clear hE
  go_wp2_with fail
  refine hcall.mono ?_
  clear hcall
  rintro er w3 ⟨po, rfl, hpo, hu, hf3⟩
  obtain ⟨a9, c9, rfl, hk9⟩ := hpo
  obtain ⟨z9, hz9⟩ : ∃ z9, E.1.length = z9 := ⟨_, rfl⟩
  rw [hz9] at hk9 ⊢
  have HPO : Hid (PartsAt w2.heap.size w3 (.slice a9 z9 c9) E.1) := Lib.hid ⟨a9, c9, by rw [hz9], by rw [hz9]; exact hk9⟩
  clear hk9 hz9
  have HU := Lib.hid (And.intro hu (HPH.out.fr.trans hf3 (fun _ _ h => h)))
  have hvb3 := box_kept HPH.out.vbox hf3 HPH.out.voff.1
  clear hu hf3 c0 c1 c2 c3 p0 p1 z1
  obtain ⟨d0, d1, d2, d3⟩ := cell_of_four hvb3
  have u0 : w3.frozen? ⟨vb, 0, none⟩ = false := by simp [World.frozen?, hvb3]
  have u1 : w3.frozen? ⟨vb, 1, none⟩ = false := by simp [World.frozen?, hvb3]
  have u2 : w3.frozen? ⟨vb, 2, none⟩ = false := by simp [World.frozen?, hvb3]
  have u3 : w3.frozen? ⟨vb, 3, none⟩ = false := by simp [World.frozen?, hvb3]
  have HV3 := Lib.hid hvb3
  clear hvb3
  go_wp2
  refine bodyPost_ret (results_cell_row rfl _ _ vb 39 _ _ _ rfl (store_four HV3.out) Tryz.underlying39 rfl (by kernel_rfl)) rfl ?_
  exact take_done HV3.out HU.out.1 HU.out.2 HPH.out.voff.2.1 HPH.out.voff.2.2 (parts_shows HPO.out (by have := HLL.out; have := HWB.out; omega) (fun x _ hx => by have := lt_of_block HPH.out.vbox; have := HPH.out.fr.size; omega)) HE.out

theorem within_le (st : List UInt8 × Int) (m : Int) (h : (withinS st m).2.2 = 0) : ((withinS st m).1 : Int) ≤ m := by
  by_cases hc : m < (numS st 2).1
  · exfalso
    unfold withinS at h
    rw [if_pos hc] at h
    exact fail_ne _ _ (by omega) h
  · unfold withinS
    rw [if_neg hc]
    omega

/-- A region with one call of the Reader: ahead of it, behind it. -/
def ChS (fb rb B : Nat) (w2 : World) (s2 : TS) : List Value → World → Prop
  | [], wx => Fr (fun _ => False) w2 wx
  | _ :: _, wx => UnSt fb rb B wx s2 ∧ Fr (TDirt fb rb) w2 wx

theorem ChS.fr {fb rb B : Nat} {w2 wx : World} {s2 : TS} {cvs : List Value} (h : ChS fb rb B w2 s2 cvs wx) : Fr (TDirt fb rb) w2 wx := by
  match cvs with
  | [] => exact Fr.mono h (fun _ _ h => h.elim)
  | _ :: _ => exact h.2

theorem ChS.ptr {fb rb B : Nat} {w2 wx : World} {s1 s2 : TS} {cvs : List Value} (h : ChS fb rb B w2 s2 cvs wx) (hp : UnSt fb rb B w2 s1) : wx.cell? ⟨fb, 0, none⟩ = some (.pointer (some ⟨rb, 0, none⟩)) := by
  match cvs with
  | [] => exact (un_cells (hp.fr (S := fun _ => False) h (fun _ _ h => h))).1
  | _ :: _ => exact (un_cells h.1).1

theorem tchoice_any (k : Nat) (m : Int) (ns : List Txt) (n : Nat) (of : Nat → KT) (ih : ∀ i, i < n → TakeAt (of i)) (R0 : Nat → Prop) (tv : Value) (w : World) (fb rb B : Nat) (l : List UInt8) (q : Nat) (lv : Nat) (lz : Int) (hlz : lz = lv) (hlv : 1 ≤ lv ∧ lv ≤ 100) (hsh : Shows R0 w (.mk k m ns n of) tv) (hst : UnSt fb rb B w ((l, 0), q)) (hB : B ≤ w.heap.size) (hR : ∀ k, R0 k → ¬ TDirt fb rb k) (hq : q ≤ 1048576) (r : VT × TS)
    (hr : r = if (withinS (l, 0) ((n : Int) - 1)).2.2 ≠ 0 then (zeroV, ((withinS (l, 0) ((n : Int) - 1)).2, q)) else (.mk (withinS (l, 0) ((n : Int) - 1)).1 0 [] 1 (fun _ => (takeE (of (withinS (l, 0) ((n : Int) - 1)).1) (lv - 1) ((withinS (l, 0) ((n : Int) - 1)).2, q)).1), (takeE (of (withinS (l, 0) ((n : Int) - 1)).1) (lv - 1) ((withinS (l, 0) ((n : Int) - 1)).2, q)).2)) :
    Calls Tryz.prog 65 #[.pointer (some ⟨fb, 0, none⟩), tv, .int .i64 lz] w fun e w' => ∃ v', e = .returned v' ∧ VShows (fun k => w.heap.size ≤ k) w' r.1 v' ∧ UnSt fb rb B w' r.2 ∧ Fr (TDirt fb rb) w w' := by
  obtain ⟨tk, tm, ta, tn, tc, ta', tn', tc', e0⟩ := hsh.four
  have hn1 : n ≤ 1000 := by obtain ⟨_, _, _, _, hn, _, _⟩ := hsh; exact hn
  obtain ⟨na, nc, a', c', e1, hs⟩ := shows_lit hsh
  rw [e0] at hsh ⊢
  rw [e0] at e1
  simp only [Value.agg.injEq, Array.mk.injEq, List.cons.injEq, and_true, Value.slice.injEq, Value.int.injEq, true_and] at e1
  obtain ⟨hn', hc'⟩ := e1.2.2.2.2
  have ha' : ta' = a' := e1.2.2.2.1
  subst hn'
  subst hc'
  subst ha'
  clear e0 e1
  obtain ⟨w1, hw1⟩ : ∃ w1, w1 = (w.alloc (.cells #[.int .u8 tk, .int .i64 tm, .slice ta tn tc, .slice ta' tn' tc'] 34)).alloc (.cells #[.int .i64 0, .float .f64 0, .string ⟨#[]⟩, .slice none 0 0] 39) := ⟨_, rfl⟩
  have f1 : Fr (fun _ => False) w w1 := by rw [hw1]; exact ((Fr.refl _ _).alloc _).alloc _
  have q1 : w1.heap[w.heap.size]? = some (.cells #[.int .u8 tk, .int .i64 tm, .slice ta tn tc, .slice ta' tn' tc'] 34 (0, 0)) := by rw [hw1]; exact heap_alloc_first _ _ _
  have r1 : w1.heap[w.heap.size + 1]? = some (.cells #[.int .i64 0, .float .f64 0, .string ⟨#[]⟩, .slice none 0 0] 39 (0, 0)) := by rw [hw1]; exact heap_alloc_two _ _ _
  have HSH := Lib.hid (And.intro (Shows.fr f1 (fun _ _ h => h) _ _ hsh) hs)
  have HST := Lib.hid (hst.fr f1 (fun _ _ h => h))
  have HB1 := Lib.hid (And.intro hB hst.lt)
  have F1 := Lib.hid f1
  have HR := Lib.hid hR
  have HQ := Lib.hid hq
  have HLV := Lib.hid (And.intro hlz hlv)
  have HN1 := Lib.hid hn1
  have HIH := Lib.hid ih
  obtain ⟨p0, p1, zz⟩ := un_cells HST.out
  obtain ⟨rv, hrd, hrv, hrB⟩ := HST.out.rd
  have HRV := Lib.hid (And.intro hrd (And.intro hrv hrB))
  obtain ⟨yn, hyn⟩ : ∃ yn : Int, (tn' : Int) - 1 = yn := ⟨_, rfl⟩
  have hyw : IntKind.i64.wrap yn = yn := by rw [IntKind.wrap_i64]; omega
  rw [hyn] at hr
  have hXb := withinS_small (l, 0) yn
  have hXl := within_le (l, 0) yn
  have hcall := fun W h => rdwithin_any rb rv l 0 yn W h
  obtain ⟨X, hX⟩ : ∃ X, (withinS (l, 0) yn).1 = X := ⟨_, rfl⟩
  obtain ⟨l3, x3, hsx⟩ : ∃ l3 x3, (withinS (l, 0) yn).2 = (l3, x3) := ⟨_, _, rfl⟩
  rw [hX] at hXb
  simp only [hX, hsx] at hcall hr hXl
  have HX := Lib.hid (And.intro hXb hXl)
  have HRR := Lib.hid hr
  have HYN := Lib.hid hyn
  have HYW := Lib.hid hyw
  clear hrd hrv hrB hsh hst hB f1 hR hq hlz hlv hn1 ih hs hXb hXl hX hsx hr hyn hyw
  go_enter Tryz.func65, Tryz.ntmps65
  go_upto_region 1 with fail
  rw [← hw1]
  clear hw1
  obtain ⟨vb, hvb⟩ : ∃ vb, w.heap.size + 1 = vb := ⟨_, rfl⟩
  rw [hvb] at r1 ⊢
  obtain ⟨tb, htb⟩ : ∃ tb, w.heap.size = tb := ⟨_, rfl⟩
  rw [htb] at q1 ⊢
  have H1 := Lib.hid (And.intro q1 (And.intro htb (And.intro r1 hvb)))
  have HOFF : Hid (¬ TDirt fb rb tb ∧ ¬ TDirt fb rb vb) := Lib.hid (by
    have := HB1.out
    exact ⟨fun h => by rcases h with h | h <;> omega, fun h => by rcases h with h | h <;> omega⟩)
  clear q1 htb r1 hvb p0 p1 zz
  refine wp_region_chain (by kernel_rfl) [some 8, some 9, some 10, some 11, some 12, some 13, some 14, some 15, some 16, some 7] rfl (by decide) (by intro d hd; simp at hd ⊢; omega)
    [8, 9] (fun cvs wx => ChS fb rb B w1 ((l3, x3), q) cvs wx)
    [.free (.pointer (some ⟨fb, 0, none⟩)), .free (.pointer (some ⟨fb, 0, none⟩)), .free (.pointer (some ⟨fb, 0, none⟩)), .free (.pointer (some ⟨rb, 0, none⟩)), .free (.pointer (some ⟨tb, 3, none⟩)), .free (.slice ta' tn' tc'), .free (.int .i64 tn'), .free (.int .i64 yn), .link (some (.int .i64 X)), .link (some (.int .i64 X))]
    (by kernel_rfl) (by kernel_rfl) ?h1 ?step1 ?fin1
  case h1 => exact (Fr.refl _ _).drew
  case step1 =>
    intro vals
    simp only [frOfU, fillU, List.setIfInBounds_toArray, List.set_cons_succ, List.set_cons_zero]
    repeat' (first | exact AllOps.nil | refine AllOps.cons ?_ ?_)
    all_goals
      intro cvs wx hS he hu hlim Kc hK
      simp only [Act.put, List.setIfInBounds_toArray, List.set_cons_succ, List.set_cons_zero, List.getD_cons_zero, List.getD_cons_succ] at hK
      simp only [List.mem_cons, List.not_mem_nil, or_false, forall_eq_or_imp, forall_eq, Region.binds, forall_const, pmode_gc, Bool.false_eq_true, false_imp_iff, List.getD_cons_zero, List.getD_cons_succ, OpSort.val, Option.some.injEq, forall_eq', reduceCtorEq, implies_true, true_and, and_true] at he
      have hp0 := hS.ptr HST.out
      obtain ⟨c0, c1, c2, c3⟩ := cell_of_four (box_kept H1.out.1 hS.fr HOFF.out.1)
      have hyn := HYN.out
      have hyw := HYW.out
      have HSX := Lib.hid hS
      clear hS
    all_goals first | (clear hlim hu; (try simp only [he] at hK ⊢); go_simp; exact hK) | skip
    · obtain rfl := hlim (0 : Nat) rfl
      have h1 : Fr (fun _ => False) w1 wx := HSX.out
      clear HSX hlim hu c0 c1 c2 c3 hp0 hyn hyw
      simp only [he] at hK ⊢
      go_simp
      go_at_call 58
      refine (hcall wx (HRV.out.1.fr h1 (fun h => h) (fun _ _ h => h))).mono ?_
      rintro er wa ⟨rfl, hrd3⟩
      obtain ⟨hu, hf3⟩ := reads_own (HST.out.fr h1 (fun _ _ h => h)) HRV.out.2.1 HRV.out.2.2 hrd3
      exact hK _ _ (fun _ h => by cases h; rfl) ⟨hu, (h1.mono (fun _ _ h => h.elim)).trans hf3 (fun _ _ h => h)⟩
    · obtain rfl := hlim (1 : Nat) rfl
      have h1 := HSX.out
      clear HSX hlim hu c0 c1 c2 c3 hp0 hyn hyw
      simp only [List.take_succ_cons, List.take_zero, List.map_cons, List.map_nil] at h1 hK
      simp only [he] at hK ⊢
      go_simp
      exact hK _ _ (fun _ h => by cases h; rfl) h1
  case fin1 =>
  intro vals w3 hS hV
  have v0 := hV 0 _ (by decide) rfl
  have v1 := hV 1 _ (by decide) rfl
  have v2 := hV 2 _ (by decide) rfl
  have v3 := hV 3 _ (by decide) rfl
  have v4 := hV 4 _ (by decide) rfl
  have v5 := hV 5 _ (by decide) rfl
  have v6 := hV 6 _ (by decide) rfl
  have v7 := hV 7 _ (by decide) rfl
  have v8 := hV 8 _ (by decide) rfl
  have v9 := hV 9 _ (by decide) rfl
  clear hV
  simp only [frOfU, fillU, List.setIfInBounds_toArray, List.set_cons_succ, List.set_cons_zero]
  simp only [Nat.reduceAdd, v0, v1, v2, v3, v4, v5, v6, v7, v8, v9]
  clear v0 v1 v2 v3 v4 v5 v6 v7 v8 v9
  have h3 : UnSt fb rb B w3 ((l3, x3), q) ∧ Fr (TDirt fb rb) w1 w3 := hS
  have H3 := Lib.hid h3
  clear hS h3 hcall
  obtain ⟨p0, p1, zz⟩ := un_cells H3.out.1
  obtain ⟨rv2, hrd2, hrv2, hrB2⟩ := H3.out.1.rd
  have herr := rderr_any rb rv2 l3 x3 w3 hrd2
  clear hrd2 hrv2 hrB2
  have hvb3 := box_kept H1.out.2.2.1 H3.out.2 HOFF.out.2
  obtain ⟨d0, d1, d2, d3⟩ := cell_of_four hvb3
  have u0 : w3.frozen? ⟨vb, 0, none⟩ = false := by simp [World.frozen?, hvb3]
  have u1 : w3.frozen? ⟨vb, 1, none⟩ = false := by simp [World.frozen?, hvb3]
  have u2 : w3.frozen? ⟨vb, 2, none⟩ = false := by simp [World.frozen?, hvb3]
  have u3 : w3.frozen? ⟨vb, 3, none⟩ = false := by simp [World.frozen?, hvb3]
  have HV3 := Lib.hid hvb3
  clear hvb3
  by_cases hx3 : x3 = 0
  case neg =>
    have hxe : (x3 != 0) = true := by simp; omega
    have hxe2 : (x3 == 0) = false := by simp; omega
    have HE : Hid (r = (zeroV, ((l3, x3), q))) := Lib.hid (by rw [HRR.out, if_pos hx3])
    clear hx3
    go_wp2_with fail
    refine herr.mono ?_
    clear herr
    rintro er w4 ⟨rfl, rfl⟩
    go_wp2
    refine bodyPost_ret (results_cell_row rfl _ _ vb 39 _ _ _ rfl (store_four HV3.out) Tryz.underlying39 rfl (by kernel_rfl)) rfl ?_
    exact take_done HV3.out H3.out.1 ((F1.out.mono (fun _ _ h => h.elim)).trans H3.out.2 (fun _ _ h => h)) (by have := H1.out.2; omega) (by have := H1.out.2; have := HB1.out.1; omega) (leaf_shows 0 0 [] (by unfold VB maxLen; simp)) HE.out
  case pos =>
    subst hx3
    have HE : Hid (r = (.mk X 0 [] 1 (fun _ => (takeE (of X) (lv - 1) ((l3, 0), q)).1), (takeE (of X) (lv - 1) ((l3, 0), q)).2)) := Lib.hid (by rw [HRR.out, if_neg (by simp)])
    have hXn : X < tn' := by have h := HX.out.2 rfl; have := HYN.out; omega
    have HXN := Lib.hid hXn
    have FW := Lib.hid ((F1.out.mono (fun _ _ h => h.elim) : Fr (TDirt fb rb) w w1).trans H3.out.2 (fun _ _ h => h))
    rcases HSH.out.2 with hz | ⟨hcap, g, off, hg, rfl, hcell⟩
    · omega
    obtain ⟨x0, x1, x2, x3, s0, s1, s2, s3, hx⟩ := hcell X hXn
    obtain ⟨xk, xm, xa, xn, xc, xa', xn', xc', rfl, rfl, rfl, rfl⟩ := hx.cells
    have g0 := cell_fr FW.out (fun x hx => HR.out x hx) hg s0
    have g1 := cell_fr FW.out (fun x hx => HR.out x hx) hg s1
    have g2 := cell_fr FW.out (fun x hx => HR.out x hx) hg s2
    have g3 := cell_fr FW.out (fun x hx => HR.out x hx) hg s3
    have htake := HIH.out X hXn R0 _ w3 fb rb B ((l3, 0), q) (lv - 1) (lz - 1) (by have := HLV.out; omega) (by have := HLV.out; omega) (Shows.fr FW.out (fun x hx => HR.out x hx) _ _ hx) H3.out.1 (Nat.le_trans HB1.out.1 FW.out.size) HR.out rfl HQ.out
    obtain ⟨yz, hyz⟩ : ∃ yz : Int, lz - 1 = yz := ⟨_, rfl⟩
    have hyw : IntKind.i64.wrap yz = yz := by have := HLV.out; rw [IntKind.wrap_i64]; omega
    rw [hyz] at htake
    have hXi : (X : Int) < (tn' : Int) := by omega
    have hX0 : (0 : Int) ≤ (X : Int) := by omega
    obtain ⟨t0, t1, t2, t3⟩ := cell_of_four (box_kept H1.out.1 H3.out.2 HOFF.out.1)
    clear hcell s0 s1 s2 s3 hx hcap hXn
    go_wp2_with fail
    refine herr.mono ?_
    clear herr
    rintro er w4 ⟨rfl, rfl⟩
    go_wp2_with fail
    refine htake.mono ?_
    clear htake
    rintro er w4 ⟨v2, rfl, hv2, hu4, f4⟩
    obtain ⟨zn, zf, zs, za, zc, zcap, rfl⟩ := hv2.lit
    have hvb4 := box_kept HV3.out f4 HOFF.out.2
    clear u0 u1 u2 u3 d0 d1 d2 d3 t0 t1 t2 t3 g0 g1 g2 g3 p0 p1 zz hyz hyw hXi
    have HW4 := Lib.hid (And.intro hv2 (And.intro hu4 (And.intro f4 hvb4)))
    have hvl : vb < w4.heap.size := lt_of_block hvb4
    have hvn : vb ≠ w4.heap.size := by omega
    obtain ⟨d0, d1, d2, d3⟩ := cell_of_four hvb4
    have u0 : w4.frozen? ⟨vb, 0, none⟩ = false := by simp [World.frozen?, hvb4]
    have u1 : w4.frozen? ⟨vb, 1, none⟩ = false := by simp [World.frozen?, hvb4]
    have u2 : w4.frozen? ⟨vb, 2, none⟩ = false := by simp [World.frozen?, hvb4]
    have u3 : w4.frozen? ⟨vb, 3, none⟩ = false := by simp [World.frozen?, hvb4]
    clear hv2 hu4 f4 hvb4
    go_wp2
    obtain ⟨ws, hws⟩ : ∃ ws, ws = ((((w4.setCell ⟨vb, 0, none⟩ (.int .i64 X)).setCell ⟨vb, 1, none⟩ (.float .f64 0)).setCell ⟨vb, 2, none⟩ (.string ⟨#[]⟩)).setCell ⟨vb, 3, none⟩ (.slice (some ⟨w4.heap.size, 0, none⟩) 1 1)) := ⟨_, rfl⟩
    have fs : Fr (fun k => k = vb) w4 ws := by rw [hws]; exact fr_four _ _ _ _ (Fr.refl _ _) (fun _ => rfl)
    have qs : ws.heap[vb]? = some (.cells #[.int .i64 X, .float .f64 0, .string ⟨#[]⟩, .slice (some ⟨w4.heap.size, 0, none⟩) 1 1] 39 (0, 0)) := by rw [hws]; exact store_four HW4.out.2.2.2
    have es : ws.heap.size = w4.heap.size := by rw [hws]; simp
    rw [← hws]
    have fal : Fr (fun _ => False) ws (ws.alloc (.cells #[.int .i64 zn, .float .f64 zf, .string zs, .slice za zc zcap] 39)) := (Fr.refl _ _).alloc _
    have gn := heap_alloc_new ws (.cells #[.int .i64 zn, .float .f64 zf, .string zs, .slice za zc zcap] 39)
    rw [es] at gn
    have qw := box_kept qs fal (fun h => h)
    refine bodyPost_ret (results_cell_row rfl _ _ vb 39 _ _ _ rfl qw Tryz.underlying39 rfl (by kernel_rfl)) rfl ?_
    have hvl3 := lt_of_block HV3.out
    have hv5 := VShows.fr fal (fun _ _ h => h) _ _ (VShows.fr fs (fun x hx e => by omega) _ _ HW4.out.1)
    have hX2 := HX.out.1
    refine take_done2 ((HW4.out.2.1.fr fs (fun x hx e => by have := H1.out.2; have := HB1.out.1; omega)).fr fal (fun _ _ h => h)) FW.out (((HW4.out.2.2.1.mono (fun _ _ h => .inl h)).trans (fs.mono (fun _ _ h => .inr h)) (fun _ _ h => h)).trans fal (fun _ _ h => h.elim)) (by have := H1.out.2; omega) (vshows_mk (s := []) (by unfold VB maxLen; simp; omega) (.inr ⟨by omega, w4.heap.size, 0, by have := FW.out.size; have := HW4.out.2.2.1.size; omega, rfl, fun i hi => ?_⟩)) HE.out
    obtain rfl : i = 0 := by omega
    exact ⟨_, _, _, _, cells_row gn 0 _ rfl, cells_row gn 1 _ rfl, cells_row gn 2 _ rfl, cells_row gn 3 _ rfl, VShows.mono (fun x _ hx => Nat.le_trans FW.out.size hx) _ _ hv5⟩
theorem take_k8 (k : Nat) (m : Int) (ns : List Txt) (n : Nat) (of : Nat → KT) (ih : ∀ i, i < n → TakeAt (of i)) (hk0 : k = 8) : TakeGo (.mk k m ns n of) := by
  intro R0 v w fb rb B l q lv lz hlz hlv hsh hst hB hR hq hlv0
  have HE : Hid (takeE (.mk k m ns n of) lv ((l, 0), q) = if (withinS (l, 0) ((n : Int) - 1)).2.2 ≠ 0 then (zeroV, ((withinS (l, 0) ((n : Int) - 1)).2, q + 1)) else (.mk (withinS (l, 0) ((n : Int) - 1)).1 0 [] 1 (fun _ => (takeE (of (withinS (l, 0) ((n : Int) - 1)).1) (lv - 1) ((withinS (l, 0) ((n : Int) - 1)).2, q + 1)).1), (takeE (of (withinS (l, 0) ((n : Int) - 1)).1) (lv - 1) ((withinS (l, 0) ((n : Int) - 1)).2, q + 1)).2)) := Lib.hid (by
    subst hk0
    rw [takeE, if_neg (by show ¬ (lv = 0 ∨ 1048576 < q + 1); omega), if_neg (by omega), if_neg (by omega), if_neg (by omega), if_neg (by omega), if_neg (by omega), if_neg (by omega), if_neg (by omega), if_neg (by omega), if_pos rfl])
  have HIH := Lib.hid ih
  have HLV0 := Lib.hid hlv0
  have HB0 := Lib.hid hB
  clear ih
  obtain ⟨na, nc, a', c', rfl, hs⟩ := shows_lit hsh
  have hph := take_head fb rb B ((l, 0), q) w #[.int .u8 k, .int .i64 m, .slice na ns.length nc, .slice a' n c'] hst hB
  have f1 : Fr (fun _ => False) w ((w.alloc (.cells #[.int .u8 k, .int .i64 m, .slice na ns.length nc, .slice a' n c'] 34)).alloc (.cells #[.int .i64 0, .float .f64 0, .string ⟨#[]⟩, .slice none 0 0] 39)) := ((Fr.refl _ _).alloc _).alloc _
  obtain ⟨p0, p1, z1⟩ := un_cells (hst.fr f1 (fun _ _ h => h))
  have hfb1 : fb ≠ w.heap.size := by have := hst.lt; omega
  have hfb2 : fb ≠ w.heap.size + 1 := by have := hst.lt; omega
  have HSH := Lib.hid (And.intro hsh (And.intro hs hR))
  have HST := Lib.hid hst
  clear hsh hst hs hR
  simp only at p0 p1 z1 hph
  have hqw : IntKind.i64.wrap ((q : Int) + 1) = (q : Int) + 1 := by rw [IntKind.wrap_i64]; omega
  obtain ⟨qz, hqz⟩ : ∃ qz : Int, (q : Int) + 1 = qz := ⟨_, rfl⟩
  have hbig : ¬ (1048576 : Int) < qz := by omega
  have hz0 : (lz == 0) = false := by simp; omega
  rw [hqz] at hph hqw
  have HQZ := Lib.hid hqz
  have HQ := Lib.hid hq
  have HLZ := Lib.hid (And.intro hlz hlv)
  clear hlz hlv hq
  obtain ⟨kz, hkz⟩ : ∃ kz : Int, ((k : Nat) : Int) = kz := ⟨_, rfl⟩
  rw [hkz] at hph f1 p0 p1 z1 ⊢
  have e0 : (kz == 0) = false := by simp; omega
  have e1 : (kz == 1) = false := by simp; omega
  have e2 : (kz == 2) = false := by simp; omega
  have e3 : (kz == 3) = false := by simp; omega
  have e4 : (kz == 4) = false := by simp; omega
  have e5 : (kz == 5) = false := by simp; omega
  have e6 : (kz == 6) = false := by simp; omega
  have e7 : (kz == 7) = false := by simp; omega
  have e8 : (kz == 8) = true := by simp; omega
  have HKZ := Lib.hid hkz
  clear hkz hk0
  go_enter Tryz.func34, Tryz.ntmps34
  go_upto_region 1 with fail
  obtain ⟨w1, hw1⟩ : ∃ w1, (w.alloc (.cells #[.int .u8 kz, .int .i64 m, .slice na ns.length nc, .slice a' n c'] 34)).alloc (.cells #[.int .i64 0, .float .f64 0, .string ⟨#[]⟩, .slice none 0 0] 39) = w1 := ⟨_, rfl⟩
  rw [hw1] at hph f1 p0 p1 z1 ⊢
  clear hw1
  obtain ⟨vb, hvb⟩ : ∃ vb, w.heap.size + 1 = vb := ⟨_, rfl⟩
  rw [hvb] at hph hfb2 ⊢
  obtain ⟨tb, htb⟩ : ∃ tb, w.heap.size = tb := ⟨_, rfl⟩
  rw [htb] at hph hfb1 ⊢
  have HTB := Lib.hid htb
  clear hvb htb f1
  go_upto_region 2 with fail
  try rw [hqz]
  clear p0 p1 z1 hqz hqw hfb1 hfb2
  generalize w1.setCell ⟨fb, 1, none⟩ (.int .i64 qz) = w2 at *
  obtain ⟨p0, p1, z1⟩ := un_cells hph.st
  simp only at p1
  rw [show (((q + 1 : Nat) : Nat) : Int) = qz from by rw [← HQZ.out]; omega] at p1
  obtain ⟨c0, c1, c2, c3⟩ := cell_of_four hph.tbox
  have HPH := Lib.hid hph
  clear hph
  obtain ⟨rv, hrd, hrv, hrB⟩ := HPH.out.st.rd
  simp only at hrd
  have HRV := Lib.hid (And.intro hrd (And.intro hrv hrB))
  clear hrd hrv hrB
  have hcall := tchoice_any k m ns n of HIH.out R0 _ w2 fb rb B l (q + 1) lv lz HLZ.out.1 (by have := HLZ.out.2; have := HLV0.out; omega) (Shows.fr HPH.out.fr (fun x hx => HSH.out.2.2 x hx) _ _ HSH.out.1) HPH.out.st (Nat.le_trans HB0.out HPH.out.fr.size) HSH.out.2.2 (by have := HQ.out; omega) _ HE.out
  rw [HKZ.out] at hcall
  clear HE
  obtain ⟨r, hr⟩ : ∃ r, takeE (.mk k m ns n of) lv ((l, 0), q) = r := ⟨_, rfl⟩
  have HE : Hid (takeE (.mk k m ns n of) lv ((l, 0), q) = (r.1, r.2)) := Lib.hid hr
  rw [hr] at hcall
  clear hr
  go_wp2_with fail
  refine hcall.mono ?_
  clear hcall
  rintro er w3 ⟨v', rfl, hv', hu, hf3⟩
  obtain ⟨zn, zf, zs, za, zc, zcap, rfl⟩ := hv'.lit
  have HPO := Lib.hid hv'
  clear hv'
  have HU := Lib.hid (And.intro hu (HPH.out.fr.trans hf3 (fun _ _ h => h)))
  have hvb3 := box_kept HPH.out.vbox hf3 HPH.out.voff.1
  clear hu hf3 c0 c1 c2 c3 p0 p1 z1
  obtain ⟨d0, d1, d2, d3⟩ := cell_of_four hvb3
  have u0 : w3.frozen? ⟨vb, 0, none⟩ = false := by simp [World.frozen?, hvb3]
  have u1 : w3.frozen? ⟨vb, 1, none⟩ = false := by simp [World.frozen?, hvb3]
  have u2 : w3.frozen? ⟨vb, 2, none⟩ = false := by simp [World.frozen?, hvb3]
  have u3 : w3.frozen? ⟨vb, 3, none⟩ = false := by simp [World.frozen?, hvb3]
  have HV3 := Lib.hid hvb3
  clear hvb3
  go_wp2
  refine bodyPost_ret (results_cell_row rfl _ _ vb 39 _ _ _ rfl (store_four HV3.out) Tryz.underlying39 rfl (by kernel_rfl)) rfl ?_
  exact take_done HV3.out HU.out.1 HU.out.2 HPH.out.voff.2.1 HPH.out.voff.2.2 (VShows.mono (fun x _ hx => by have := lt_of_block HPH.out.vbox; have := HPH.out.fr.size; omega) _ _ HPO.out) HE.out

/-- What take does, with a type of any kind. -/
theorem untake_any (t : KT) : TakeAt t := by
  induction t with
  | nil => exact fun _ _ _ _ _ _ _ _ _ _ _ h => h.elim
  | mk k m ns n of ih =>
    intro R0 v w fb rb B s lv lz hlz hlv hsh hst hB hR he hq
    obtain ⟨⟨l, x⟩, q⟩ := s
    simp only at he hq
    subst he
    by_cases hb : lv = 0 ∨ 1048576 < q + 1
    · exact take_stop k m ns n of R0 v w fb rb B l q lv lz hlz hlv hsh hst hB hR hq hb
    have hgo : TakeGo (.mk k m ns n of) := by
      by_cases k0 : k = 0
      · exact take_k0 k m ns n of k0
      by_cases k1 : k = 1
      · exact take_k1 k m ns n of k1
      by_cases k2 : k = 2
      · exact take_k2 k m ns n of k2
      by_cases k3 : k = 3
      · exact take_k3 k m ns n of k3
      by_cases k4 : k = 4
      · exact take_k4 k m ns n of k4
      by_cases k5 : k = 5
      · by_cases hn : n = 1
        · exact take_k5g k m ns n of (fun i _ => ih i) k5 hn
        · exact take_k5b k m ns n of (fun i _ => ih i) k5 hn
      by_cases k6 : k = 6
      · exact take_k6 k m ns n of (fun i _ => ih i) k6
      by_cases k7 : k = 7
      · exact take_k7 k m ns n of k7
      by_cases k8 : k = 8
      · exact take_k8 k m ns n of (fun i _ => ih i) k8
      exact take_kd k m ns n of (by omega)
    exact hgo R0 v w fb rb B l q lv lz hlz hlv hsh hst hB hR (by omega) (by omega)
end
end Go.Proofs.YtplipjijaaejlaaGreat
