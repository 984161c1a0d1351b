/-
  CouAny, part 11 of what it rests on: Take4, Take5, TakeMath, PFacts, TakeEnc, CouAnyTake, OwnB, Two.
-/
import Derived.Test.YtplipjijaaejlaaSj
set_option linter.unusedVariables false
set_option linter.unusedSimpArgs false
set_option maxHeartbeats 32000000
namespace Go.Proofs.Ytplipjijaaejlaa
open Go.RowKit
open Go.Lib (hid)
section
attribute [local go_sem] run_store_float
set_option maxRecDepth 100000

/-- A value of parts. -/
theorem parts_shows {R : Nat → Prop} {w : World} {B : Nat} {po : Value} {L : List VT} (h : PartsAt B w po L) (hL : L.length ≤ 100000) (hR : ∀ k, k < w.heap.size → B ≤ k → R k) : VShows R w (partsV L) (.agg #[.int .i64 0, .float .f64 0, .string ⟨#[]⟩, po]) := by
  obtain ⟨a, cap, rfl, hk⟩ := h
  have h0 : VShows (fun k => B ≤ k) w (partsV L) (.agg #[.int .i64 0, .float .f64 0, .string ⟨#[]⟩, .slice a L.length cap]) := vshows_mk (s := []) (by unfold VB maxLen; simp; omega) hk
  exact VShows.mono hR _ _ h0

theorem take_k6 (k : Nat) (m : Int) (ns : List Txt) (n : Nat) (of : Nat → KT) (ih : ∀ i, i < n → TakeAt (of i)) (hk0 : k = 6) : TakeGo (.mk k m ns n of) := by
  intro R0 v w fb rb B l q lv lz hlz hlv hsh hst hB hR hq hlv0
  have HE : Hid (takeE (.mk k m ns n of) lv ((l, 0), q) = (partsV (eachN (fun i s' => takeE (of (if k = 5 then 0 else i)) (lv - 1) s') n ((l, 0), q + 1)).1, (eachN (fun i s' => takeE (of (if k = 5 then 0 else i)) (lv - 1) s') n ((l, 0), q + 1)).2)) := Lib.hid (by
    subst hk0
    rw [takeE, if_neg (by show ¬ (lv = 0 ∨ 1048576 < q + 1); omega), if_neg (by omega), if_neg (by omega), if_neg (by omega), if_neg (by omega), if_neg (by omega), if_neg (by omega), if_pos rfl]
    simp)
  have HK5 := Lib.hid (show k ≠ 5 by omega)
  have hn1 : n ≤ 1000 := by obtain ⟨_, _, _, _, hn, _, _⟩ := hsh; exact hn
  have HN1 := Lib.hid hn1
  have HIH := Lib.hid ih
  have HLV0 := Lib.hid hlv0
  have HB0 := Lib.hid hB
  clear hn1 ih
  obtain ⟨na, nc, a', c', rfl, hs⟩ := shows_lit hsh
  have hph := take_head fb rb B ((l, 0), q) w #[.int .u8 k, .int .i64 m, .slice na ns.length nc, .slice a' n c'] hst hB
  have f1 : Fr (fun _ => False) w ((w.alloc (.cells #[.int .u8 k, .int .i64 m, .slice na ns.length nc, .slice a' n c'] 34)).alloc (.cells #[.int .i64 0, .float .f64 0, .string ⟨#[]⟩, .slice none 0 0] 42)) := ((Fr.refl _ _).alloc _).alloc _
  obtain ⟨p0, p1, z1⟩ := un_cells (hst.fr f1 (fun _ _ h => h))
  have hfb1 : fb ≠ w.heap.size := by have := hst.lt; omega
  have hfb2 : fb ≠ w.heap.size + 1 := by have := hst.lt; omega
  have HSH := Lib.hid (And.intro hsh (And.intro hs hR))
  have HST := Lib.hid hst
  clear hsh hst hs hR
  simp only at p0 p1 z1 hph
  have hqw : IntKind.i64.wrap ((q : Int) + 1) = (q : Int) + 1 := by rw [IntKind.wrap_i64]; omega
  obtain ⟨qz, hqz⟩ : ∃ qz : Int, (q : Int) + 1 = qz := ⟨_, rfl⟩
  have hbig : ¬ (1048576 : Int) < qz := by omega
  have hz0 : (lz == 0) = false := by simp; omega
  rw [hqz] at hph hqw
  have HQZ := Lib.hid hqz
  have HQ := Lib.hid hq
  have HLZ := Lib.hid (And.intro hlz hlv)
  clear hlz hlv hq
  obtain ⟨kz, hkz⟩ : ∃ kz : Int, ((k : Nat) : Int) = kz := ⟨_, rfl⟩
  rw [hkz] at hph f1 p0 p1 z1 ⊢
  have e0 : (kz == 0) = false := by simp; omega
  have e1 : (kz == 1) = false := by simp; omega
  have e2 : (kz == 2) = false := by simp; omega
  have e3 : (kz == 3) = false := by simp; omega
  have e4 : (kz == 4) = false := by simp; omega
  have e5 : (kz == 5) = false := by simp; omega
  have e6 : (kz == 6) = true := by simp; omega
  have e7 : (kz == 7) = false := by simp; omega
  have e8 : (kz == 8) = false := by simp; omega
  have HKZ := Lib.hid hkz
  clear hkz hk0
  go_enter Try.func21, Try.ntmps21
  go_upto_region 1 with fail
  obtain ⟨w1, hw1⟩ : ∃ w1, (w.alloc (.cells #[.int .u8 kz, .int .i64 m, .slice na ns.length nc, .slice a' n c'] 34)).alloc (.cells #[.int .i64 0, .float .f64 0, .string ⟨#[]⟩, .slice none 0 0] 42) = w1 := ⟨_, rfl⟩
  rw [hw1] at hph f1 p0 p1 z1 ⊢
  clear hw1
  obtain ⟨vb, hvb⟩ : ∃ vb, w.heap.size + 1 = vb := ⟨_, rfl⟩
  rw [hvb] at hph hfb2 ⊢
  obtain ⟨tb, htb⟩ : ∃ tb, w.heap.size = tb := ⟨_, rfl⟩
  rw [htb] at hph hfb1 ⊢
  have HTB := Lib.hid htb
  clear hvb htb f1
  go_upto_region 2 with fail
  try rw [hqz]
  clear p0 p1 z1 hqz hqw hfb1 hfb2
  generalize w1.setCell ⟨fb, 1, none⟩ (.int .i64 qz) = w2 at *
  obtain ⟨p0, p1, z1⟩ := un_cells hph.st
  simp only at p1
  rw [show (((q + 1 : Nat) : Nat) : Int) = qz from by rw [← HQZ.out]; omega] at p1
  obtain ⟨c0, c1, c2, c3⟩ := cell_of_four hph.tbox
  have HPH := Lib.hid hph
  clear hph
  obtain ⟨rv, hrd, hrv, hrB⟩ := HPH.out.st.rd
  simp only at hrd
  have HRV := Lib.hid (And.intro hrd (And.intro hrv hrB))
  clear hrd hrv hrB
  have hcall := teach_any k m ns n of n lv lz HLZ.out.1 (by have := HLZ.out.2; have := HLV0.out; omega) (fun i hi => by rw [if_neg HK5.out]; exact HIH.out i hi) (fun i hi => by rw [if_neg HK5.out]; exact hi) (by have := HN1.out; omega) R0 _ w2 fb rb B ((l, 0), q + 1) (Shows.fr HPH.out.fr (fun x hx => HSH.out.2.2 x hx) _ _ HSH.out.1) HPH.out.st (Nat.le_trans HB0.out HPH.out.fr.size) HSH.out.2.2 ⟨by have := HQ.out; show q + 1 ≤ _; omega, fun _ => by have := HQ.out; show q + 1 ≤ _; omega⟩
  rw [HKZ.out] at hcall
  have HLL := Lib.hid (each_len (fun i s' => takeE (of (if k = 5 then 0 else i)) (lv - 1) s') ((l, 0), q + 1) n)
  obtain ⟨E, hE⟩ : ∃ E, eachN (fun i s' => takeE (of (if k = 5 then 0 else i)) (lv - 1) s') n ((l, 0), q + 1) = E := ⟨_, rfl⟩
  rw [hE] at HE hcall HLL
  clear hE
  go_wp2_with fail
  refine hcall.mono ?_
  clear hcall
  rintro er w3 ⟨po, rfl, hpo, hu, hf3⟩
  obtain ⟨a9, c9, rfl, hk9⟩ := hpo
  obtain ⟨z9, hz9⟩ : ∃ z9, E.1.length = z9 := ⟨_, rfl⟩
  rw [hz9] at hk9 ⊢
  have HPO : Hid (PartsAt w2.heap.size w3 (.slice a9 z9 c9) E.1) := Lib.hid ⟨a9, c9, by rw [hz9], by rw [hz9]; exact hk9⟩
  clear hk9 hz9
  have HU := Lib.hid (And.intro hu (HPH.out.fr.trans hf3 (fun _ _ h => h)))
  have hvb3 := box_kept HPH.out.vbox hf3 HPH.out.voff.1
  clear hu hf3 c0 c1 c2 c3 p0 p1 z1
  obtain ⟨d0, d1, d2, d3⟩ := cell_of_four hvb3
  have u0 : w3.frozen? ⟨vb, 0, none⟩ = false := by simp [World.frozen?, hvb3]
  have u1 : w3.frozen? ⟨vb, 1, none⟩ = false := by simp [World.frozen?, hvb3]
  have u2 : w3.frozen? ⟨vb, 2, none⟩ = false := by simp [World.frozen?, hvb3]
  have u3 : w3.frozen? ⟨vb, 3, none⟩ = false := by simp [World.frozen?, hvb3]
  have HV3 := Lib.hid hvb3
  clear hvb3
  go_wp2
  refine bodyPost_ret (results_cell_row rfl _ _ vb 42 _ _ _ rfl (store_four HV3.out) Try.underlying42 rfl (by kernel_rfl)) rfl ?_
  exact take_done HV3.out HU.out.1 HU.out.2 HPH.out.voff.2.1 HPH.out.voff.2.2 (parts_shows HPO.out (by have := HLL.out; have := HN1.out; omega) (fun x _ hx => by have := lt_of_block HPH.out.vbox; have := HPH.out.fr.size; omega)) HE.out

theorem telem_bad (k : Nat) (m : Int) (ns : List Txt) (n : Nat) (of : Nat → KT) (hk0 : k = 5) (hn : n ≠ 1) (R0 : Nat → Prop) (tv : Value) (w : World) (fb rb B : Nat) (l : List UInt8) (q : Nat) (lv : Nat) (lz : Int) (hlz : lz = lv) (hlv : 1 ≤ lv ∧ lv ≤ 100) (hsh : Shows R0 w (.mk k m ns n of) tv) (hst : UnSt fb rb B w ((l, 0), q)) (hB : B ≤ w.heap.size) (hR : ∀ k, R0 k → ¬ TDirt fb rb k) (hq : q ≤ 1048576) :
    Calls Try.prog 47 #[.pointer (some ⟨fb, 0, none⟩), tv, .int .i64 lz] w fun e w' => e = .returned (.slice none 0 0) ∧ UnSt fb rb B w' (failS (l, 0) 4, q) ∧ Fr (TDirt fb rb) w w' := by
  obtain ⟨tk, tm, ta, tn, tc, ta', tn', tc', e0⟩ := hsh.four
  obtain ⟨na, nc, a', c', e1, hs⟩ := shows_lit hsh
  rw [e0] at hsh ⊢
  rw [e0] at e1
  simp only [Value.agg.injEq, Array.mk.injEq, List.cons.injEq, and_true, Value.slice.injEq, Value.int.injEq, true_and] at e1
  have hn' : tn' = n := e1.2.2.2.2.1
  have hm' : tm = m := e1.2.1
  subst hm'
  subst hn'
  clear e0 e1 hs
  obtain ⟨w1, hw1⟩ : ∃ w1, w1 = w.alloc (.cells #[.int .u8 tk, .int .i64 tm, .slice ta tn tc, .slice ta' tn' tc'] 34) := ⟨_, rfl⟩
  have f1 : Fr (fun _ => False) w w1 := by rw [hw1]; exact (Fr.refl _ _).alloc _
  have q1 : w1.heap[w.heap.size]? = some (.cells #[.int .u8 tk, .int .i64 tm, .slice ta tn tc, .slice ta' tn' tc'] 34 (0, 0)) := by rw [hw1]; exact heap_alloc_new _ _
  have HSH := Lib.hid (Shows.fr f1 (fun _ _ h => h) _ _ hsh)
  have HST := Lib.hid (hst.fr f1 (fun _ _ h => h))
  have HB1 := Lib.hid (And.intro hB hst.lt)
  have F1 := Lib.hid f1
  have HR := Lib.hid hR
  have HQ := Lib.hid hq
  have HLV := Lib.hid (And.intro hlz hlv)
  have HK0 := Lib.hid hk0
  obtain ⟨p0, p1, zz⟩ := un_cells HST.out
  obtain ⟨rv, hrd, hrv, hrB⟩ := HST.out.rd
  have HRV := Lib.hid (And.intro hrd (And.intro hrv hrB))
  clear hrd hrv hrB hsh hst hB f1 hR hq hlz hlv hk0
  go_enter Try.func47, Try.ntmps47
  go_upto_region 1 with fail
  rw [← hw1]
  clear hw1
  obtain ⟨tb, htb⟩ : ∃ tb, w.heap.size = tb := ⟨_, rfl⟩
  rw [htb] at q1 ⊢
  have H1 := Lib.hid (And.intro q1 htb)
  obtain ⟨c0, c1, c2, c3⟩ := cell_of_four q1
  clear q1 htb
  have hnz : ((tn' : Int) != 1) = true := by simp; omega
  have hnz2 : ((tn' : Int) == 1) = false := by simp; omega
  have hcall := rdfail_any rb rv l 0 4 w1 HRV.out.1
  clear hn
  go_wp2_with fail
  refine hcall.mono ?_
  clear hcall
  rintro er w3 ⟨rfl, hrd3⟩
  obtain ⟨hu, hf3⟩ := reads_own HST.out HRV.out.2.1 HRV.out.2.2 hrd3
  have HU := Lib.hid (And.intro hu ((F1.out.mono (fun _ _ h => h.elim)).trans hf3 (fun _ _ h => h)))
  clear hu hf3 hrd3 c0 c1 c2 c3 p0 p1 zz
  go_wp2
  go_ret
  exact ⟨rfl, HU.out.1, HU.out.2⟩

/-- The region that takes a sequence: ahead of Within, behind it, behind each, behind the store. -/
def ElS (fb rb B : Nat) (w2 : World) (s2 s3 : TS) (L : List VT) : List Value → World → Prop
  | [], wx => Fr (fun _ => False) w2 wx
  | [_], wx => UnSt fb rb B wx s2 ∧ Fr (TDirt fb rb) w2 wx
  | [_, v], wx => (UnSt fb rb B wx s3 ∧ Fr (TDirt fb rb) w2 wx) ∧ PartsAt w2.heap.size wx v L
  | _ :: _ :: u :: _, wx => (UnSt fb rb B wx s3 ∧ Fr (TDirt fb rb) w2 wx) ∧ PartsAt w2.heap.size wx u L

theorem ElS.fr {fb rb B : Nat} {w2 wx : World} {s2 s3 : TS} {L : List VT} {cvs : List Value} (h : ElS fb rb B w2 s2 s3 L cvs wx) : Fr (TDirt fb rb) w2 wx := by
  match cvs with
  | [] => exact Fr.mono h (fun _ _ h => h.elim)
  | [_] => exact h.2
  | [_, _] => exact h.1.2
  | _ :: _ :: _ :: _ => exact h.1.2

theorem ElS.ptr {fb rb B : Nat} {w2 wx : World} {s1 s2 s3 : TS} {L : List VT} {cvs : List Value} (h : ElS fb rb B w2 s2 s3 L cvs wx) (hp : UnSt fb rb B w2 s1) : wx.cell? ⟨fb, 0, none⟩ = some (.pointer (some ⟨rb, 0, none⟩)) := by
  match cvs with
  | [] => exact (un_cells (hp.fr (S := fun _ => False) h (fun _ _ h => h))).1
  | [_] => exact (un_cells h.1).1
  | [_, _] => exact (un_cells h.1.1).1
  | _ :: _ :: _ :: _ => exact (un_cells h.1.1).1

theorem telem_go (k : Nat) (m : Int) (ns : List Txt) (n : Nat) (of : Nat → KT) (hk0 : k = 5) (hn : n = 1) (ih : ∀ i, i < n → TakeAt (of i)) (R0 : Nat → Prop) (tv : Value) (w : World) (fb rb B : Nat) (l : List UInt8) (q : Nat) (lv : Nat) (lz : Int) (hlz : lz = lv) (hlv : 1 ≤ lv ∧ lv ≤ 100) (hsh : Shows R0 w (.mk k m ns n of) tv) (hst : UnSt fb rb B w ((l, 0), q)) (hB : B ≤ w.heap.size) (hR : ∀ k, R0 k → ¬ TDirt fb rb k) (hq : q ≤ 1048576) :
    Calls Try.prog 47 #[.pointer (some ⟨fb, 0, none⟩), tv, .int .i64 lz] w fun e w' => ∃ po, e = .returned po ∧ PartsAt w.heap.size w' po (eachN (fun i s' => takeE (of (if k = 5 then 0 else i)) (lv - 1) s') (withinS (l, 0) m).1 ((withinS (l, 0) m).2, q)).1 ∧
      UnSt fb rb B w' (eachN (fun i s' => takeE (of (if k = 5 then 0 else i)) (lv - 1) s') (withinS (l, 0) m).1 ((withinS (l, 0) m).2, q)).2 ∧ Fr (TDirt fb rb) w w' := by
  obtain ⟨tk, tm, ta, tn, tc, ta', tn', tc', e0⟩ := hsh.four
  obtain ⟨na, nc, a', c', e1, hs⟩ := shows_lit hsh
  rw [e0] at hsh ⊢
  rw [e0] at e1
  simp only [Value.agg.injEq, Array.mk.injEq, List.cons.injEq, and_true, Value.slice.injEq, Value.int.injEq, true_and] at e1
  have hn' : tn' = n := e1.2.2.2.2.1
  have hm' : tm = m := e1.2.1
  subst hm'
  subst hn'
  clear e0 e1 hs
  obtain ⟨w1, hw1⟩ : ∃ w1, w1 = w.alloc (.cells #[.int .u8 tk, .int .i64 tm, .slice ta tn tc, .slice ta' tn' tc'] 34) := ⟨_, rfl⟩
  have f1 : Fr (fun _ => False) w w1 := by rw [hw1]; exact (Fr.refl _ _).alloc _
  have q1 : w1.heap[w.heap.size]? = some (.cells #[.int .u8 tk, .int .i64 tm, .slice ta tn tc, .slice ta' tn' tc'] 34 (0, 0)) := by rw [hw1]; exact heap_alloc_new _ _
  have HSH := Lib.hid (Shows.fr f1 (fun _ _ h => h) _ _ hsh)
  have HST := Lib.hid (hst.fr f1 (fun _ _ h => h))
  have HB1 := Lib.hid (And.intro hB hst.lt)
  have F1 := Lib.hid f1
  have HR := Lib.hid hR
  have HQ := Lib.hid hq
  have HLV := Lib.hid (And.intro hlz hlv)
  have HK0 := Lib.hid hk0
  obtain ⟨p0, p1, zz⟩ := un_cells HST.out
  obtain ⟨rv, hrd, hrv, hrB⟩ := HST.out.rd
  have HRV := Lib.hid (And.intro hrd (And.intro hrv hrB))
  clear hrd hrv hrB hsh hst hB f1 hR hq hlz hlv hk0
  obtain ⟨X, hX⟩ : ∃ X, (withinS (l, 0) tm).1 = X := ⟨_, rfl⟩
  obtain ⟨sx, hsx⟩ : ∃ sx, (withinS (l, 0) tm).2 = sx := ⟨_, rfl⟩
  have hXb := withinS_small (l, 0) tm
  have hcall := fun W h => rdwithin_any rb rv l 0 tm W h
  rw [hX] at hXb
  simp only [hX, hsx] at hcall ⊢
  have HXB := Lib.hid hXb
  obtain ⟨E, hE⟩ : ∃ E, eachN (fun i s' => takeE (of (if k = 5 then 0 else i)) (lv - 1) s') X (sx, q) = E := ⟨_, rfl⟩
  rw [hE]
  have HE := Lib.hid hE
  have hnz : ((tn' : Int) == 1) = true := by simp; omega
  have hnz2 : ((tn' : Int) != 1) = false := by simp; omega
  have HN := Lib.hid hn
  have HIH := Lib.hid ih
  clear hXb hE hX hsx ih hn
  go_enter Try.func47, Try.ntmps47
  go_upto_region 1 with fail
  rw [← hw1]
  clear hw1
  obtain ⟨tb, htb⟩ : ∃ tb, w.heap.size = tb := ⟨_, rfl⟩
  rw [htb] at q1 ⊢
  have H1 := Lib.hid (And.intro q1 htb)
  obtain ⟨c0, c1, c2, c3⟩ := cell_of_four q1
  clear q1 htb
  have HOFF : Hid (¬ TDirt fb rb tb) := Lib.hid (fun h => by have := HB1.out; have := H1.out.2; rcases h with h | h <;> omega)
  go_upto_region 4 with fail
  clear c0 c1 c2 c3 p0 p1 zz hnz hnz2
  refine wp_region_chain (by kernel_rfl) [some 16, some 17, some 18, some 19, some 20, some 21, some 22, some 23, some 24, some 25, some 26, some 6] rfl (by decide) (by intro d hd; simp at hd ⊢; omega)
    [8, 10, 11] (fun cvs wx => ElS fb rb B w1 (sx, q) E.2 E.1 cvs wx)
    [.free (.pointer (some ⟨fb, 0, none⟩)), .free (.agg #[.int .u8 tk, .int .i64 tm, .slice ta tn tc, .slice ta' tn' tc']), .free (.pointer (some ⟨fb, 0, none⟩)), .free (.pointer (some ⟨fb, 0, none⟩)), .free (.pointer (some ⟨fb, 0, none⟩)), .free (.pointer (some ⟨rb, 0, none⟩)), .free (.pointer (some ⟨tb, 1, none⟩)), .free (.int .i64 tm), .link (some (.int .i64 X)), .free (.int .i64 lz), .link none, .link none]
    (by kernel_rfl) (by kernel_rfl) ?h4 ?step4 ?fin4
  case h4 => exact (Fr.refl _ _).drew
  case step4 =>
    intro vals
    simp only [frOfU, fillU, List.setIfInBounds_toArray, List.set_cons_succ, List.set_cons_zero]
    repeat' (first | exact AllOps.nil | refine AllOps.cons ?_ ?_)
    all_goals
      intro cvs wx hS he hu hlim Kc hK
      simp only [Act.put, List.setIfInBounds_toArray, List.set_cons_succ, List.set_cons_zero, List.getD_cons_zero, List.getD_cons_succ] at hK
      simp only [List.mem_cons, List.not_mem_nil, or_false, forall_eq_or_imp, forall_eq, Region.binds, forall_const, pmode_gc, Bool.false_eq_true, false_imp_iff, List.getD_cons_zero, List.getD_cons_succ, OpSort.val, Option.some.injEq, forall_eq', reduceCtorEq, implies_true, true_and, and_true] at he
      have hp0 := hS.ptr HST.out
      obtain ⟨c0, c1, c2, c3⟩ := cell_of_four (box_kept H1.out.1 hS.fr HOFF.out)
      have HSX := Lib.hid hS
      clear hS
    all_goals first | (clear hlim hu; (try simp only [he] at hK ⊢); go_simp; exact hK) | skip
    · obtain rfl := hlim (0 : Nat) rfl
      have h1 : Fr (fun _ => False) w1 wx := HSX.out
      clear HSX hlim hu c0 c1 c2 c3 hp0
      simp only [he] at hK ⊢
      go_simp
      go_at_call 42
      refine (hcall wx (HRV.out.1.fr h1 (fun h => h) (fun _ _ h => h))).mono ?_
      rintro er wa ⟨rfl, hrd3⟩
      obtain ⟨hu, hf3⟩ := reads_own (HST.out.fr h1 (fun _ _ h => h)) HRV.out.2.1 HRV.out.2.2 hrd3
      exact hK _ _ (fun _ h => by cases h; rfl) ⟨hu, (h1.mono (fun _ _ h => h.elim)).trans hf3 (fun _ _ h => h)⟩
    · obtain rfl := hlim (1 : Nat) rfl
      have h1 := HSX.out
      clear HSX hlim hu c0 c1 c2 c3 hp0
      simp only [List.take_succ_cons, List.take_zero, List.map_cons, List.map_nil] at h1 hK
      have hx1 : UnSt fb rb B wx (sx, q) := h1.1
      have hx2 : Fr (TDirt fb rb) w1 wx := h1.2
      clear h1
      simp only [he] at hK ⊢
      go_simp
      go_at_call 48
      have ht := teach_any k tm ns tn' of X lv lz HLV.out.1 HLV.out.2 (fun i hi => by rw [if_pos HK0.out]; exact HIH.out 0 (by have := HN.out; omega)) (fun i hi => by rw [if_pos HK0.out]; have := HN.out; omega) (by have := HXB.out; omega) R0 _ wx fb rb B (sx, q) (Shows.fr hx2 (fun x hx => HR.out x hx) _ _ HSH.out) hx1 (Nat.le_trans HB1.out.1 (Nat.le_trans F1.out.size hx2.size)) HR.out ⟨by have := HQ.out; show q ≤ _; omega, fun _ => HQ.out⟩
      rw [HE.out] at ht
      refine ht.mono ?_
      rintro er wa ⟨po, rfl, hpo, hu3, hf3⟩
      exact hK _ _ (fun _ h => by cases h) ⟨⟨hu3, hx2.trans hf3 (fun _ _ h => h)⟩, parts_mono hpo hx2.size⟩
    · obtain rfl := hlim (2 : Nat) rfl
      have h1 := HSX.out
      clear HSX hlim hu c0 c1 c2 c3 hp0
      simp only [List.take_succ_cons, List.take_zero, List.map_cons, List.map_nil] at h1 hK
      simp only [he] at hK ⊢
      go_simp
      exact hK _ _ (fun _ h => by cases h) h1
  case fin4 =>
  intro vals w3 hS hV
  have v0 := hV 0 _ (by decide) rfl
  have v1 := hV 1 _ (by decide) rfl
  have v2 := hV 2 _ (by decide) rfl
  have v3 := hV 3 _ (by decide) rfl
  have v4 := hV 4 _ (by decide) rfl
  have v5 := hV 5 _ (by decide) rfl
  have v6 := hV 6 _ (by decide) rfl
  have v7 := hV 7 _ (by decide) rfl
  have v8 := hV 8 _ (by decide) rfl
  have v9 := hV 9 _ (by decide) rfl
  clear hV
  simp only [frOfU, fillU, List.setIfInBounds_toArray, List.set_cons_succ, List.set_cons_zero]
  simp only [Nat.reduceAdd, v0, v1, v2, v3, v4, v5, v6, v7, v8, v9]
  clear v0 v1 v2 v3 v4 v5 v6 v7 v8 v9
  have h3 : (UnSt fb rb B w3 E.2 ∧ Fr (TDirt fb rb) w1 w3) ∧ PartsAt w1.heap.size w3 (vals 11) E.1 := hS
  have H3 := Lib.hid h3
  clear hS h3
  go_wp2
  go_ret
  exact ⟨_, rfl, parts_mono H3.out.2 F1.out.size, H3.out.1.1, (F1.out.mono (fun _ _ h => h.elim)).trans H3.out.1.2 (fun _ _ h => h)⟩
theorem take_k5b (k : Nat) (m : Int) (ns : List Txt) (n : Nat) (of : Nat → KT) (ih : ∀ i, i < n → TakeAt (of i)) (hk0 : k = 5) (hn : n ≠ 1) : TakeGo (.mk k m ns n of) := by
  intro R0 v w fb rb B l q lv lz hlz hlv hsh hst hB hR hq hlv0
  have HE : Hid (takeE (.mk k m ns n of) lv ((l, 0), q) = (zeroV, (failS (l, 0) 4, q + 1))) := Lib.hid (by
    subst hk0
    rw [takeE, if_neg (by show ¬ (lv = 0 ∨ 1048576 < q + 1); omega), if_neg (by omega), if_neg (by omega), if_neg (by omega), if_neg (by omega), if_neg (by omega), if_pos rfl]
    simp [hn])
  have HK5 := Lib.hid hk0
  have HIH := Lib.hid ih
  have HNN := Lib.hid hn
  have HLV0 := Lib.hid hlv0
  have HB0 := Lib.hid hB
  clear ih hn
  obtain ⟨na, nc, a', c', rfl, hs⟩ := shows_lit hsh
  have hph := take_head fb rb B ((l, 0), q) w #[.int .u8 k, .int .i64 m, .slice na ns.length nc, .slice a' n c'] hst hB
  have f1 : Fr (fun _ => False) w ((w.alloc (.cells #[.int .u8 k, .int .i64 m, .slice na ns.length nc, .slice a' n c'] 34)).alloc (.cells #[.int .i64 0, .float .f64 0, .string ⟨#[]⟩, .slice none 0 0] 42)) := ((Fr.refl _ _).alloc _).alloc _
  obtain ⟨p0, p1, z1⟩ := un_cells (hst.fr f1 (fun _ _ h => h))
  have hfb1 : fb ≠ w.heap.size := by have := hst.lt; omega
  have hfb2 : fb ≠ w.heap.size + 1 := by have := hst.lt; omega
  have HSH := Lib.hid (And.intro hsh (And.intro hs hR))
  have HST := Lib.hid hst
  clear hsh hst hs hR
  simp only at p0 p1 z1 hph
  have hqw : IntKind.i64.wrap ((q : Int) + 1) = (q : Int) + 1 := by rw [IntKind.wrap_i64]; omega
  obtain ⟨qz, hqz⟩ : ∃ qz : Int, (q : Int) + 1 = qz := ⟨_, rfl⟩
  have hbig : ¬ (1048576 : Int) < qz := by omega
  have hz0 : (lz == 0) = false := by simp; omega
  rw [hqz] at hph hqw
  have HQZ := Lib.hid hqz
  have HQ := Lib.hid hq
  have HLZ := Lib.hid (And.intro hlz hlv)
  clear hlz hlv hq
  obtain ⟨kz, hkz⟩ : ∃ kz : Int, ((k : Nat) : Int) = kz := ⟨_, rfl⟩
  rw [hkz] at hph f1 p0 p1 z1 ⊢
  have e0 : (kz == 0) = false := by simp; omega
  have e1 : (kz == 1) = false := by simp; omega
  have e2 : (kz == 2) = false := by simp; omega
  have e3 : (kz == 3) = false := by simp; omega
  have e4 : (kz == 4) = false := by simp; omega
  have e5 : (kz == 5) = true := by simp; omega
  have e6 : (kz == 6) = false := by simp; omega
  have e7 : (kz == 7) = false := by simp; omega
  have e8 : (kz == 8) = false := by simp; omega
  have HKZ := Lib.hid hkz
  clear hkz hk0
  go_enter Try.func21, Try.ntmps21
  go_upto_region 1 with fail
  obtain ⟨w1, hw1⟩ : ∃ w1, (w.alloc (.cells #[.int .u8 kz, .int .i64 m, .slice na ns.length nc, .slice a' n c'] 34)).alloc (.cells #[.int .i64 0, .float .f64 0, .string ⟨#[]⟩, .slice none 0 0] 42) = w1 := ⟨_, rfl⟩
  rw [hw1] at hph f1 p0 p1 z1 ⊢
  clear hw1
  obtain ⟨vb, hvb⟩ : ∃ vb, w.heap.size + 1 = vb := ⟨_, rfl⟩
  rw [hvb] at hph hfb2 ⊢
  obtain ⟨tb, htb⟩ : ∃ tb, w.heap.size = tb := ⟨_, rfl⟩
  rw [htb] at hph hfb1 ⊢
  have HTB := Lib.hid htb
  clear hvb htb f1
  go_upto_region 2 with fail
  try rw [hqz]
  clear p0 p1 z1 hqz hqw hfb1 hfb2
  generalize w1.setCell ⟨fb, 1, none⟩ (.int .i64 qz) = w2 at *
  obtain ⟨p0, p1, z1⟩ := un_cells hph.st
  simp only at p1
  rw [show (((q + 1 : Nat) : Nat) : Int) = qz from by rw [← HQZ.out]; omega] at p1
  obtain ⟨c0, c1, c2, c3⟩ := cell_of_four hph.tbox
  have HPH := Lib.hid hph
  clear hph
  obtain ⟨rv, hrd, hrv, hrB⟩ := HPH.out.st.rd
  simp only at hrd
  have HRV := Lib.hid (And.intro hrd (And.intro hrv hrB))
  clear hrd hrv hrB
  have hcall := telem_bad k m ns n of HK5.out HNN.out R0 _ w2 fb rb B l (q + 1) lv lz HLZ.out.1 (by have := HLZ.out.2; have := HLV0.out; omega) (Shows.fr HPH.out.fr (fun x hx => HSH.out.2.2 x hx) _ _ HSH.out.1) HPH.out.st (Nat.le_trans HB0.out HPH.out.fr.size) HSH.out.2.2 (by have := HQ.out; omega)
  rw [HKZ.out] at hcall
  go_wp2_with fail
  refine hcall.mono ?_
  clear hcall
  rintro er w3 ⟨rfl, hu, hf3⟩
  have HU := Lib.hid (And.intro hu (HPH.out.fr.trans hf3 (fun _ _ h => h)))
  have hvb3 := box_kept HPH.out.vbox hf3 HPH.out.voff.1
  clear hu hf3 c0 c1 c2 c3 p0 p1 z1
  obtain ⟨d0, d1, d2, d3⟩ := cell_of_four hvb3
  have u0 : w3.frozen? ⟨vb, 0, none⟩ = false := by simp [World.frozen?, hvb3]
  have u1 : w3.frozen? ⟨vb, 1, none⟩ = false := by simp [World.frozen?, hvb3]
  have u2 : w3.frozen? ⟨vb, 2, none⟩ = false := by simp [World.frozen?, hvb3]
  have u3 : w3.frozen? ⟨vb, 3, none⟩ = false := by simp [World.frozen?, hvb3]
  have HV3 := Lib.hid hvb3
  clear hvb3
  go_wp2
  refine bodyPost_ret (results_cell_row rfl _ _ vb 42 _ _ _ rfl (store_four HV3.out) Try.underlying42 rfl (by kernel_rfl)) rfl ?_
  exact take_done HV3.out HU.out.1 HU.out.2 HPH.out.voff.2.1 HPH.out.voff.2.2 (leaf_shows 0 0 [] (by unfold VB maxLen; simp)) HE.out

theorem take_k5g (k : Nat) (m : Int) (ns : List Txt) (n : Nat) (of : Nat → KT) (ih : ∀ i, i < n → TakeAt (of i)) (hk0 : k = 5) (hn : n = 1) : TakeGo (.mk k m ns n of) := by
  intro R0 v w fb rb B l q lv lz hlz hlv hsh hst hB hR hq hlv0
  have HE : Hid (takeE (.mk k m ns n of) lv ((l, 0), q) = (partsV (eachN (fun i s' => takeE (of (if k = 5 then 0 else i)) (lv - 1) s') (withinS (l, 0) m).1 ((withinS (l, 0) m).2, q + 1)).1, (eachN (fun i s' => takeE (of (if k = 5 then 0 else i)) (lv - 1) s') (withinS (l, 0) m).1 ((withinS (l, 0) m).2, q + 1)).2)) := Lib.hid (by
    subst hk0
    rw [takeE, if_neg (by show ¬ (lv = 0 ∨ 1048576 < q + 1); omega), if_neg (by omega), if_neg (by omega), if_neg (by omega), if_neg (by omega), if_neg (by omega), if_pos rfl]
    simp [hn])
  have HK5 := Lib.hid hk0
  have HIH := Lib.hid ih
  have HNN := Lib.hid hn
  have HLV0 := Lib.hid hlv0
  have HB0 := Lib.hid hB
  clear ih hn
  obtain ⟨na, nc, a', c', rfl, hs⟩ := shows_lit hsh
  have hph := take_head fb rb B ((l, 0), q) w #[.int .u8 k, .int .i64 m, .slice na ns.length nc, .slice a' n c'] hst hB
  have f1 : Fr (fun _ => False) w ((w.alloc (.cells #[.int .u8 k, .int .i64 m, .slice na ns.length nc, .slice a' n c'] 34)).alloc (.cells #[.int .i64 0, .float .f64 0, .string ⟨#[]⟩, .slice none 0 0] 42)) := ((Fr.refl _ _).alloc _).alloc _
  obtain ⟨p0, p1, z1⟩ := un_cells (hst.fr f1 (fun _ _ h => h))
  have hfb1 : fb ≠ w.heap.size := by have := hst.lt; omega
  have hfb2 : fb ≠ w.heap.size + 1 := by have := hst.lt; omega
  have HSH := Lib.hid (And.intro hsh (And.intro hs hR))
  have HST := Lib.hid hst
  clear hsh hst hs hR
  simp only at p0 p1 z1 hph
  have hqw : IntKind.i64.wrap ((q : Int) + 1) = (q : Int) + 1 := by rw [IntKind.wrap_i64]; omega
  obtain ⟨qz, hqz⟩ : ∃ qz : Int, (q : Int) + 1 = qz := ⟨_, rfl⟩
  have hbig : ¬ (1048576 : Int) < qz := by omega
  have hz0 : (lz == 0) = false := by simp; omega
  rw [hqz] at hph hqw
  have HQZ := Lib.hid hqz
  have HQ := Lib.hid hq
  have HLZ := Lib.hid (And.intro hlz hlv)
  clear hlz hlv hq
  obtain ⟨kz, hkz⟩ : ∃ kz : Int, ((k : Nat) : Int) = kz := ⟨_, rfl⟩
  rw [hkz] at hph f1 p0 p1 z1 ⊢
  have e0 : (kz == 0) = false := by simp; omega
  have e1 : (kz == 1) = false := by simp; omega
  have e2 : (kz == 2) = false := by simp; omega
  have e3 : (kz == 3) = false := by simp; omega
  have e4 : (kz == 4) = false := by simp; omega
  have e5 : (kz == 5) = true := by simp; omega
  have e6 : (kz == 6) = false := by simp; omega
  have e7 : (kz == 7) = false := by simp; omega
  have e8 : (kz == 8) = false := by simp; omega
  have HKZ := Lib.hid hkz
  clear hkz hk0
  go_enter Try.func21, Try.ntmps21
  go_upto_region 1 with fail
  obtain ⟨w1, hw1⟩ : ∃ w1, (w.alloc (.cells #[.int .u8 kz, .int .i64 m, .slice na ns.length nc, .slice a' n c'] 34)).alloc (.cells #[.int .i64 0, .float .f64 0, .string ⟨#[]⟩, .slice none 0 0] 42) = w1 := ⟨_, rfl⟩
  rw [hw1] at hph f1 p0 p1 z1 ⊢
  clear hw1
  obtain ⟨vb, hvb⟩ : ∃ vb, w.heap.size + 1 = vb := ⟨_, rfl⟩
  rw [hvb] at hph hfb2 ⊢
  obtain ⟨tb, htb⟩ : ∃ tb, w.heap.size = tb := ⟨_, rfl⟩
  rw [htb] at hph hfb1 ⊢
  have HTB := Lib.hid htb
  clear hvb htb f1
  go_upto_region 2 with fail
  try rw [hqz]
  clear p0 p1 z1 hqz hqw hfb1 hfb2
  generalize w1.setCell ⟨fb, 1, none⟩ (.int .i64 qz) = w2 at *
  obtain ⟨p0, p1, z1⟩ := un_cells hph.st
  simp only at p1
  rw [show (((q + 1 : Nat) : Nat) : Int) = qz from by rw [← HQZ.out]; omega] at p1
  obtain ⟨c0, c1, c2, c3⟩ := cell_of_four hph.tbox
  have HPH := Lib.hid hph
  clear hph
  obtain ⟨rv, hrd, hrv, hrB⟩ := HPH.out.st.rd
  simp only at hrd
  have HRV := Lib.hid (And.intro hrd (And.intro hrv hrB))
  clear hrd hrv hrB
  have hcall := telem_go k m ns n of HK5.out HNN.out HIH.out R0 _ w2 fb rb B l (q + 1) lv lz HLZ.out.1 (by have := HLZ.out.2; have := HLV0.out; omega) (Shows.fr HPH.out.fr (fun x hx => HSH.out.2.2 x hx) _ _ HSH.out.1) HPH.out.st (Nat.le_trans HB0.out HPH.out.fr.size) HSH.out.2.2 (by have := HQ.out; omega)
  rw [HKZ.out] at hcall
  have HLL := Lib.hid (each_len (fun i s' => takeE (of (if k = 5 then 0 else i)) (lv - 1) s') ((withinS (l, 0) m).2, q + 1) (withinS (l, 0) m).1)
  have HWB := Lib.hid (withinS_small (l, 0) m)
  obtain ⟨E, hE⟩ : ∃ E, eachN (fun i s' => takeE (of (if k = 5 then 0 else i)) (lv - 1) s') (withinS (l, 0) m).1 ((withinS (l, 0) m).2, q + 1) = E := ⟨_, rfl⟩
  rw [hE] at HE hcall HLL
  clear hE
  go_wp2_with fail
  refine hcall.mono ?_
  clear hcall
  rintro er w3 ⟨po, rfl, hpo, hu, hf3⟩
  obtain ⟨a9, c9, rfl, hk9⟩ := hpo
  obtain ⟨z9, hz9⟩ : ∃ z9, E.1.length = z9 := ⟨_, rfl⟩
  rw [hz9] at hk9 ⊢
  have HPO : Hid (PartsAt w2.heap.size w3 (.slice a9 z9 c9) E.1) := Lib.hid ⟨a9, c9, by rw [hz9], by rw [hz9]; exact hk9⟩
  clear hk9 hz9
  have HU := Lib.hid (And.intro hu (HPH.out.fr.trans hf3 (fun _ _ h => h)))
  have hvb3 := box_kept HPH.out.vbox hf3 HPH.out.voff.1
  clear hu hf3 c0 c1 c2 c3 p0 p1 z1
  obtain ⟨d0, d1, d2, d3⟩ := cell_of_four hvb3
  have u0 : w3.frozen? ⟨vb, 0, none⟩ = false := by simp [World.frozen?, hvb3]
  have u1 : w3.frozen? ⟨vb, 1, none⟩ = false := by simp [World.frozen?, hvb3]
  have u2 : w3.frozen? ⟨vb, 2, none⟩ = false := by simp [World.frozen?, hvb3]
  have u3 : w3.frozen? ⟨vb, 3, none⟩ = false := by simp [World.frozen?, hvb3]
  have HV3 := Lib.hid hvb3
  clear hvb3
  go_wp2
  refine bodyPost_ret (results_cell_row rfl _ _ vb 42 _ _ _ rfl (store_four HV3.out) Try.underlying42 rfl (by kernel_rfl)) rfl ?_
  exact take_done HV3.out HU.out.1 HU.out.2 HPH.out.voff.2.1 HPH.out.voff.2.2 (parts_shows HPO.out (by have := HLL.out; have := HWB.out; omega) (fun x _ hx => by have := lt_of_block HPH.out.vbox; have := HPH.out.fr.size; omega)) HE.out

theorem within_le (st : List UInt8 × Int) (m : Int) (h : (withinS st m).2.2 = 0) : ((withinS st m).1 : Int) ≤ m := by
  by_cases hc : m < (numS st 2).1
  · exfalso
    unfold withinS at h
    rw [if_pos hc] at h
    exact fail_ne _ _ (by omega) h
  · unfold withinS
    rw [if_neg hc]
    omega

/-- A region with one call of the Reader: ahead of it, behind it. -/
def ChS (fb rb B : Nat) (w2 : World) (s2 : TS) : List Value → World → Prop
  | [], wx => Fr (fun _ => False) w2 wx
  | _ :: _, wx => UnSt fb rb B wx s2 ∧ Fr (TDirt fb rb) w2 wx

theorem ChS.fr {fb rb B : Nat} {w2 wx : World} {s2 : TS} {cvs : List Value} (h : ChS fb rb B w2 s2 cvs wx) : Fr (TDirt fb rb) w2 wx := by
  match cvs with
  | [] => exact Fr.mono h (fun _ _ h => h.elim)
  | _ :: _ => exact h.2

theorem ChS.ptr {fb rb B : Nat} {w2 wx : World} {s1 s2 : TS} {cvs : List Value} (h : ChS fb rb B w2 s2 cvs wx) (hp : UnSt fb rb B w2 s1) : wx.cell? ⟨fb, 0, none⟩ = some (.pointer (some ⟨rb, 0, none⟩)) := by
  match cvs with
  | [] => exact (un_cells (hp.fr (S := fun _ => False) h (fun _ _ h => h))).1
  | _ :: _ => exact (un_cells h.1).1

theorem tchoice_any (k : Nat) (m : Int) (ns : List Txt) (n : Nat) (of : Nat → KT) (ih : ∀ i, i < n → TakeAt (of i)) (R0 : Nat → Prop) (tv : Value) (w : World) (fb rb B : Nat) (l : List UInt8) (q : Nat) (lv : Nat) (lz : Int) (hlz : lz = lv) (hlv : 1 ≤ lv ∧ lv ≤ 100) (hsh : Shows R0 w (.mk k m ns n of) tv) (hst : UnSt fb rb B w ((l, 0), q)) (hB : B ≤ w.heap.size) (hR : ∀ k, R0 k → ¬ TDirt fb rb k) (hq : q ≤ 1048576) (r : VT × TS)
    (hr : r = if (withinS (l, 0) ((n : Int) - 1)).2.2 ≠ 0 then (zeroV, ((withinS (l, 0) ((n : Int) - 1)).2, q)) else (.mk (withinS (l, 0) ((n : Int) - 1)).1 0 [] 1 (fun _ => (takeE (of (withinS (l, 0) ((n : Int) - 1)).1) (lv - 1) ((withinS (l, 0) ((n : Int) - 1)).2, q)).1), (takeE (of (withinS (l, 0) ((n : Int) - 1)).1) (lv - 1) ((withinS (l, 0) ((n : Int) - 1)).2, q)).2)) :
    Calls Try.prog 49 #[.pointer (some ⟨fb, 0, none⟩), tv, .int .i64 lz] w fun e w' => ∃ v', e = .returned v' ∧ VShows (fun k => w.heap.size ≤ k) w' r.1 v' ∧ UnSt fb rb B w' r.2 ∧ Fr (TDirt fb rb) w w' := by
  obtain ⟨tk, tm, ta, tn, tc, ta', tn', tc', e0⟩ := hsh.four
  have hn1 : n ≤ 1000 := by obtain ⟨_, _, _, _, hn, _, _⟩ := hsh; exact hn
  obtain ⟨na, nc, a', c', e1, hs⟩ := shows_lit hsh
  rw [e0] at hsh ⊢
  rw [e0] at e1
  simp only [Value.agg.injEq, Array.mk.injEq, List.cons.injEq, and_true, Value.slice.injEq, Value.int.injEq, true_and] at e1
  obtain ⟨hn', hc'⟩ := e1.2.2.2.2
  have ha' : ta' = a' := e1.2.2.2.1
  subst hn'
  subst hc'
  subst ha'
  clear e0 e1
  obtain ⟨w1, hw1⟩ : ∃ w1, w1 = (w.alloc (.cells #[.int .u8 tk, .int .i64 tm, .slice ta tn tc, .slice ta' tn' tc'] 34)).alloc (.cells #[.int .i64 0, .float .f64 0, .string ⟨#[]⟩, .slice none 0 0] 42) := ⟨_, rfl⟩
  have f1 : Fr (fun _ => False) w w1 := by rw [hw1]; exact ((Fr.refl _ _).alloc _).alloc _
  have q1 : w1.heap[w.heap.size]? = some (.cells #[.int .u8 tk, .int .i64 tm, .slice ta tn tc, .slice ta' tn' tc'] 34 (0, 0)) := by rw [hw1]; exact heap_alloc_first _ _ _
  have r1 : w1.heap[w.heap.size + 1]? = some (.cells #[.int .i64 0, .float .f64 0, .string ⟨#[]⟩, .slice none 0 0] 42 (0, 0)) := by rw [hw1]; exact heap_alloc_two _ _ _
  have HSH := Lib.hid (And.intro (Shows.fr f1 (fun _ _ h => h) _ _ hsh) hs)
  have HST := Lib.hid (hst.fr f1 (fun _ _ h => h))
  have HB1 := Lib.hid (And.intro hB hst.lt)
  have F1 := Lib.hid f1
  have HR := Lib.hid hR
  have HQ := Lib.hid hq
  have HLV := Lib.hid (And.intro hlz hlv)
  have HN1 := Lib.hid hn1
  have HIH := Lib.hid ih
  obtain ⟨p0, p1, zz⟩ := un_cells HST.out
  obtain ⟨rv, hrd, hrv, hrB⟩ := HST.out.rd
  have HRV := Lib.hid (And.intro hrd (And.intro hrv hrB))
  obtain ⟨yn, hyn⟩ : ∃ yn : Int, (tn' : Int) - 1 = yn := ⟨_, rfl⟩
  have hyw : IntKind.i64.wrap yn = yn := by rw [IntKind.wrap_i64]; omega
  rw [hyn] at hr
  have hXb := withinS_small (l, 0) yn
  have hXl := within_le (l, 0) yn
  have hcall := fun W h => rdwithin_any rb rv l 0 yn W h
  obtain ⟨X, hX⟩ : ∃ X, (withinS (l, 0) yn).1 = X := ⟨_, rfl⟩
  obtain ⟨l3, x3, hsx⟩ : ∃ l3 x3, (withinS (l, 0) yn).2 = (l3, x3) := ⟨_, _, rfl⟩
  rw [hX] at hXb
  simp only [hX, hsx] at hcall hr hXl
  have HX := Lib.hid (And.intro hXb hXl)
  have HRR := Lib.hid hr
  have HYN := Lib.hid hyn
  have HYW := Lib.hid hyw
  clear hrd hrv hrB hsh hst hB f1 hR hq hlz hlv hn1 ih hs hXb hXl hX hsx hr hyn hyw
  go_enter Try.func49, Try.ntmps49
  go_upto_region 1 with fail
  rw [← hw1]
  clear hw1
  obtain ⟨vb, hvb⟩ : ∃ vb, w.heap.size + 1 = vb := ⟨_, rfl⟩
  rw [hvb] at r1 ⊢
  obtain ⟨tb, htb⟩ : ∃ tb, w.heap.size = tb := ⟨_, rfl⟩
  rw [htb] at q1 ⊢
  have H1 := Lib.hid (And.intro q1 (And.intro htb (And.intro r1 hvb)))
  have HOFF : Hid (¬ TDirt fb rb tb ∧ ¬ TDirt fb rb vb) := Lib.hid (by
    have := HB1.out
    exact ⟨fun h => by rcases h with h | h <;> omega, fun h => by rcases h with h | h <;> omega⟩)
  clear q1 htb r1 hvb p0 p1 zz
  refine wp_region_chain (by kernel_rfl) [some 8, some 9, some 10, some 11, some 12, some 13, some 14, some 15, some 16, some 7] rfl (by decide) (by intro d hd; simp at hd ⊢; omega)
    [8, 9] (fun cvs wx => ChS fb rb B w1 ((l3, x3), q) cvs wx)
    [.free (.pointer (some ⟨fb, 0, none⟩)), .free (.pointer (some ⟨fb, 0, none⟩)), .free (.pointer (some ⟨fb, 0, none⟩)), .free (.pointer (some ⟨rb, 0, none⟩)), .free (.pointer (some ⟨tb, 3, none⟩)), .free (.slice ta' tn' tc'), .free (.int .i64 tn'), .free (.int .i64 yn), .link (some (.int .i64 X)), .link (some (.int .i64 X))]
    (by kernel_rfl) (by kernel_rfl) ?h1 ?step1 ?fin1
  case h1 => exact (Fr.refl _ _).drew
  case step1 =>
    intro vals
    simp only [frOfU, fillU, List.setIfInBounds_toArray, List.set_cons_succ, List.set_cons_zero]
    repeat' (first | exact AllOps.nil | refine AllOps.cons ?_ ?_)
    all_goals
      intro cvs wx hS he hu hlim Kc hK
      simp only [Act.put, List.setIfInBounds_toArray, List.set_cons_succ, List.set_cons_zero, List.getD_cons_zero, List.getD_cons_succ] at hK
      simp only [List.mem_cons, List.not_mem_nil, or_false, forall_eq_or_imp, forall_eq, Region.binds, forall_const, pmode_gc, Bool.false_eq_true, false_imp_iff, List.getD_cons_zero, List.getD_cons_succ, OpSort.val, Option.some.injEq, forall_eq', reduceCtorEq, implies_true, true_and, and_true] at he
      have hp0 := hS.ptr HST.out
      obtain ⟨c0, c1, c2, c3⟩ := cell_of_four (box_kept H1.out.1 hS.fr HOFF.out.1)
      have hyn := HYN.out
      have hyw := HYW.out
      have HSX := Lib.hid hS
      clear hS
    all_goals first | (clear hlim hu; (try simp only [he] at hK ⊢); go_simp; exact hK) | skip
    · obtain rfl := hlim (0 : Nat) rfl
      have h1 : Fr (fun _ => False) w1 wx := HSX.out
      clear HSX hlim hu c0 c1 c2 c3 hp0 hyn hyw
      simp only [he] at hK ⊢
      go_simp
      go_at_call 42
      refine (hcall wx (HRV.out.1.fr h1 (fun h => h) (fun _ _ h => h))).mono ?_
      rintro er wa ⟨rfl, hrd3⟩
      obtain ⟨hu, hf3⟩ := reads_own (HST.out.fr h1 (fun _ _ h => h)) HRV.out.2.1 HRV.out.2.2 hrd3
      exact hK _ _ (fun _ h => by cases h; rfl) ⟨hu, (h1.mono (fun _ _ h => h.elim)).trans hf3 (fun _ _ h => h)⟩
    · obtain rfl := hlim (1 : Nat) rfl
      have h1 := HSX.out
      clear HSX hlim hu c0 c1 c2 c3 hp0 hyn hyw
      simp only [List.take_succ_cons, List.take_zero, List.map_cons, List.map_nil] at h1 hK
      simp only [he] at hK ⊢
      go_simp
      exact hK _ _ (fun _ h => by cases h; rfl) h1
  case fin1 =>
  intro vals w3 hS hV
  have v0 := hV 0 _ (by decide) rfl
  have v1 := hV 1 _ (by decide) rfl
  have v2 := hV 2 _ (by decide) rfl
  have v3 := hV 3 _ (by decide) rfl
  have v4 := hV 4 _ (by decide) rfl
  have v5 := hV 5 _ (by decide) rfl
  have v6 := hV 6 _ (by decide) rfl
  have v7 := hV 7 _ (by decide) rfl
  have v8 := hV 8 _ (by decide) rfl
  have v9 := hV 9 _ (by decide) rfl
  clear hV
  simp only [frOfU, fillU, List.setIfInBounds_toArray, List.set_cons_succ, List.set_cons_zero]
  simp only [Nat.reduceAdd, v0, v1, v2, v3, v4, v5, v6, v7, v8, v9]
  clear v0 v1 v2 v3 v4 v5 v6 v7 v8 v9
  have h3 : UnSt fb rb B w3 ((l3, x3), q) ∧ Fr (TDirt fb rb) w1 w3 := hS
  have H3 := Lib.hid h3
  clear hS h3 hcall
  obtain ⟨p0, p1, zz⟩ := un_cells H3.out.1
  obtain ⟨rv2, hrd2, hrv2, hrB2⟩ := H3.out.1.rd
  have herr := rderr_any rb rv2 l3 x3 w3 hrd2
  clear hrd2 hrv2 hrB2
  have hvb3 := box_kept H1.out.2.2.1 H3.out.2 HOFF.out.2
  obtain ⟨d0, d1, d2, d3⟩ := cell_of_four hvb3
  have u0 : w3.frozen? ⟨vb, 0, none⟩ = false := by simp [World.frozen?, hvb3]
  have u1 : w3.frozen? ⟨vb, 1, none⟩ = false := by simp [World.frozen?, hvb3]
  have u2 : w3.frozen? ⟨vb, 2, none⟩ = false := by simp [World.frozen?, hvb3]
  have u3 : w3.frozen? ⟨vb, 3, none⟩ = false := by simp [World.frozen?, hvb3]
  have HV3 := Lib.hid hvb3
  clear hvb3
  by_cases hx3 : x3 = 0
  case neg =>
    have hxe : (x3 != 0) = true := by simp; omega
    have hxe2 : (x3 == 0) = false := by simp; omega
    have HE : Hid (r = (zeroV, ((l3, x3), q))) := Lib.hid (by rw [HRR.out, if_pos hx3])
    clear hx3
    go_wp2_with fail
    refine herr.mono ?_
    clear herr
    rintro er w4 ⟨rfl, rfl⟩
    go_wp2
    refine bodyPost_ret (results_cell_row rfl _ _ vb 42 _ _ _ rfl (store_four HV3.out) Try.underlying42 rfl (by kernel_rfl)) rfl ?_
    exact take_done HV3.out H3.out.1 ((F1.out.mono (fun _ _ h => h.elim)).trans H3.out.2 (fun _ _ h => h)) (by have := H1.out.2; omega) (by have := H1.out.2; have := HB1.out.1; omega) (leaf_shows 0 0 [] (by unfold VB maxLen; simp)) HE.out
  case pos =>
    subst hx3
    have HE : Hid (r = (.mk X 0 [] 1 (fun _ => (takeE (of X) (lv - 1) ((l3, 0), q)).1), (takeE (of X) (lv - 1) ((l3, 0), q)).2)) := Lib.hid (by rw [HRR.out, if_neg (by simp)])
    have hXn : X < tn' := by have h := HX.out.2 rfl; have := HYN.out; omega
    have HXN := Lib.hid hXn
    have FW := Lib.hid ((F1.out.mono (fun _ _ h => h.elim) : Fr (TDirt fb rb) w w1).trans H3.out.2 (fun _ _ h => h))
    rcases HSH.out.2 with hz | ⟨hcap, g, off, hg, rfl, hcell⟩
    · omega
    obtain ⟨x0, x1, x2, x3, s0, s1, s2, s3, hx⟩ := hcell X hXn
    obtain ⟨xk, xm, xa, xn, xc, xa', xn', xc', rfl, rfl, rfl, rfl⟩ := hx.cells
    have g0 := cell_fr FW.out (fun x hx => HR.out x hx) hg s0
    have g1 := cell_fr FW.out (fun x hx => HR.out x hx) hg s1
    have g2 := cell_fr FW.out (fun x hx => HR.out x hx) hg s2
    have g3 := cell_fr FW.out (fun x hx => HR.out x hx) hg s3
    have htake := HIH.out X hXn R0 _ w3 fb rb B ((l3, 0), q) (lv - 1) (lz - 1) (by have := HLV.out; omega) (by have := HLV.out; omega) (Shows.fr FW.out (fun x hx => HR.out x hx) _ _ hx) H3.out.1 (Nat.le_trans HB1.out.1 FW.out.size) HR.out rfl HQ.out
    obtain ⟨yz, hyz⟩ : ∃ yz : Int, lz - 1 = yz := ⟨_, rfl⟩
    have hyw : IntKind.i64.wrap yz = yz := by have := HLV.out; rw [IntKind.wrap_i64]; omega
    rw [hyz] at htake
    have hXi : (X : Int) < (tn' : Int) := by omega
    have hX0 : (0 : Int) ≤ (X : Int) := by omega
    obtain ⟨t0, t1, t2, t3⟩ := cell_of_four (box_kept H1.out.1 H3.out.2 HOFF.out.1)
    clear hcell s0 s1 s2 s3 hx hcap hXn
    go_wp2_with fail
    refine herr.mono ?_
    clear herr
    rintro er w4 ⟨rfl, rfl⟩
    go_wp2_with fail
    refine htake.mono ?_
    clear htake
    rintro er w4 ⟨v2, rfl, hv2, hu4, f4⟩
    obtain ⟨zn, zf, zs, za, zc, zcap, rfl⟩ := hv2.lit
    have hvb4 := box_kept HV3.out f4 HOFF.out.2
    clear u0 u1 u2 u3 d0 d1 d2 d3 t0 t1 t2 t3 g0 g1 g2 g3 p0 p1 zz hyz hyw hXi
    have HW4 := Lib.hid (And.intro hv2 (And.intro hu4 (And.intro f4 hvb4)))
    have hvl : vb < w4.heap.size := lt_of_block hvb4
    have hvn : vb ≠ w4.heap.size := by omega
    obtain ⟨d0, d1, d2, d3⟩ := cell_of_four hvb4
    have u0 : w4.frozen? ⟨vb, 0, none⟩ = false := by simp [World.frozen?, hvb4]
    have u1 : w4.frozen? ⟨vb, 1, none⟩ = false := by simp [World.frozen?, hvb4]
    have u2 : w4.frozen? ⟨vb, 2, none⟩ = false := by simp [World.frozen?, hvb4]
    have u3 : w4.frozen? ⟨vb, 3, none⟩ = false := by simp [World.frozen?, hvb4]
    clear hv2 hu4 f4 hvb4
    go_wp2
    obtain ⟨ws, hws⟩ : ∃ ws, ws = ((((w4.setCell ⟨vb, 0, none⟩ (.int .i64 X)).setCell ⟨vb, 1, none⟩ (.float .f64 0)).setCell ⟨vb, 2, none⟩ (.string ⟨#[]⟩)).setCell ⟨vb, 3, none⟩ (.slice (some ⟨w4.heap.size, 0, none⟩) 1 1)) := ⟨_, rfl⟩
    have fs : Fr (fun k => k = vb) w4 ws := by rw [hws]; exact fr_four _ _ _ _ (Fr.refl _ _) (fun _ => rfl)
    have qs : ws.heap[vb]? = some (.cells #[.int .i64 X, .float .f64 0, .string ⟨#[]⟩, .slice (some ⟨w4.heap.size, 0, none⟩) 1 1] 42 (0, 0)) := by rw [hws]; exact store_four HW4.out.2.2.2
    have es : ws.heap.size = w4.heap.size := by rw [hws]; simp
    rw [← hws]
    have fal : Fr (fun _ => False) ws (ws.alloc (.cells #[.int .i64 zn, .float .f64 zf, .string zs, .slice za zc zcap] 42)) := (Fr.refl _ _).alloc _
    have gn := heap_alloc_new ws (.cells #[.int .i64 zn, .float .f64 zf, .string zs, .slice za zc zcap] 42)
    rw [es] at gn
    have qw := box_kept qs fal (fun h => h)
    refine bodyPost_ret (results_cell_row rfl _ _ vb 42 _ _ _ rfl qw Try.underlying42 rfl (by kernel_rfl)) rfl ?_
    have hvl3 := lt_of_block HV3.out
    have hv5 := VShows.fr fal (fun _ _ h => h) _ _ (VShows.fr fs (fun x hx e => by omega) _ _ HW4.out.1)
    have hX2 := HX.out.1
    refine take_done2 ((HW4.out.2.1.fr fs (fun x hx e => by have := H1.out.2; have := HB1.out.1; omega)).fr fal (fun _ _ h => h)) FW.out (((HW4.out.2.2.1.mono (fun _ _ h => .inl h)).trans (fs.mono (fun _ _ h => .inr h)) (fun _ _ h => h)).trans fal (fun _ _ h => h.elim)) (by have := H1.out.2; omega) (vshows_mk (s := []) (by unfold VB maxLen; simp; omega) (.inr ⟨by omega, w4.heap.size, 0, by have := FW.out.size; have := HW4.out.2.2.1.size; omega, rfl, fun i hi => ?_⟩)) HE.out
    obtain rfl : i = 0 := by omega
    exact ⟨_, _, _, _, cells_row gn 0 _ rfl, cells_row gn 1 _ rfl, cells_row gn 2 _ rfl, cells_row gn 3 _ rfl, VShows.mono (fun x _ hx => Nat.le_trans FW.out.size hx) _ _ hv5⟩
theorem take_k8 (k : Nat) (m : Int) (ns : List Txt) (n : Nat) (of : Nat → KT) (ih : ∀ i, i < n → TakeAt (of i)) (hk0 : k = 8) : TakeGo (.mk k m ns n of) := by
  intro R0 v w fb rb B l q lv lz hlz hlv hsh hst hB hR hq hlv0
  have HE : Hid (takeE (.mk k m ns n of) lv ((l, 0), q) = if (withinS (l, 0) ((n : Int) - 1)).2.2 ≠ 0 then (zeroV, ((withinS (l, 0) ((n : Int) - 1)).2, q + 1)) else (.mk (withinS (l, 0) ((n : Int) - 1)).1 0 [] 1 (fun _ => (takeE (of (withinS (l, 0) ((n : Int) - 1)).1) (lv - 1) ((withinS (l, 0) ((n : Int) - 1)).2, q + 1)).1), (takeE (of (withinS (l, 0) ((n : Int) - 1)).1) (lv - 1) ((withinS (l, 0) ((n : Int) - 1)).2, q + 1)).2)) := Lib.hid (by
    subst hk0
    rw [takeE, if_neg (by show ¬ (lv = 0 ∨ 1048576 < q + 1); omega), if_neg (by omega), if_neg (by omega), if_neg (by omega), if_neg (by omega), if_neg (by omega), if_neg (by omega), if_neg (by omega), if_neg (by omega), if_pos rfl])
  have HIH := Lib.hid ih
  have HLV0 := Lib.hid hlv0
  have HB0 := Lib.hid hB
  clear ih
  obtain ⟨na, nc, a', c', rfl, hs⟩ := shows_lit hsh
  have hph := take_head fb rb B ((l, 0), q) w #[.int .u8 k, .int .i64 m, .slice na ns.length nc, .slice a' n c'] hst hB
  have f1 : Fr (fun _ => False) w ((w.alloc (.cells #[.int .u8 k, .int .i64 m, .slice na ns.length nc, .slice a' n c'] 34)).alloc (.cells #[.int .i64 0, .float .f64 0, .string ⟨#[]⟩, .slice none 0 0] 42)) := ((Fr.refl _ _).alloc _).alloc _
  obtain ⟨p0, p1, z1⟩ := un_cells (hst.fr f1 (fun _ _ h => h))
  have hfb1 : fb ≠ w.heap.size := by have := hst.lt; omega
  have hfb2 : fb ≠ w.heap.size + 1 := by have := hst.lt; omega
  have HSH := Lib.hid (And.intro hsh (And.intro hs hR))
  have HST := Lib.hid hst
  clear hsh hst hs hR
  simp only at p0 p1 z1 hph
  have hqw : IntKind.i64.wrap ((q : Int) + 1) = (q : Int) + 1 := by rw [IntKind.wrap_i64]; omega
  obtain ⟨qz, hqz⟩ : ∃ qz : Int, (q : Int) + 1 = qz := ⟨_, rfl⟩
  have hbig : ¬ (1048576 : Int) < qz := by omega
  have hz0 : (lz == 0) = false := by simp; omega
  rw [hqz] at hph hqw
  have HQZ := Lib.hid hqz
  have HQ := Lib.hid hq
  have HLZ := Lib.hid (And.intro hlz hlv)
  clear hlz hlv hq
  obtain ⟨kz, hkz⟩ : ∃ kz : Int, ((k : Nat) : Int) = kz := ⟨_, rfl⟩
  rw [hkz] at hph f1 p0 p1 z1 ⊢
  have e0 : (kz == 0) = false := by simp; omega
  have e1 : (kz == 1) = false := by simp; omega
  have e2 : (kz == 2) = false := by simp; omega
  have e3 : (kz == 3) = false := by simp; omega
  have e4 : (kz == 4) = false := by simp; omega
  have e5 : (kz == 5) = false := by simp; omega
  have e6 : (kz == 6) = false := by simp; omega
  have e7 : (kz == 7) = false := by simp; omega
  have e8 : (kz == 8) = true := by simp; omega
  have HKZ := Lib.hid hkz
  clear hkz hk0
  go_enter Try.func21, Try.ntmps21
  go_upto_region 1 with fail
  obtain ⟨w1, hw1⟩ : ∃ w1, (w.alloc (.cells #[.int .u8 kz, .int .i64 m, .slice na ns.length nc, .slice a' n c'] 34)).alloc (.cells #[.int .i64 0, .float .f64 0, .string ⟨#[]⟩, .slice none 0 0] 42) = w1 := ⟨_, rfl⟩
  rw [hw1] at hph f1 p0 p1 z1 ⊢
  clear hw1
  obtain ⟨vb, hvb⟩ : ∃ vb, w.heap.size + 1 = vb := ⟨_, rfl⟩
  rw [hvb] at hph hfb2 ⊢
  obtain ⟨tb, htb⟩ : ∃ tb, w.heap.size = tb := ⟨_, rfl⟩
  rw [htb] at hph hfb1 ⊢
  have HTB := Lib.hid htb
  clear hvb htb f1
  go_upto_region 2 with fail
  try rw [hqz]
  clear p0 p1 z1 hqz hqw hfb1 hfb2
  generalize w1.setCell ⟨fb, 1, none⟩ (.int .i64 qz) = w2 at *
  obtain ⟨p0, p1, z1⟩ := un_cells hph.st
  simp only at p1
  rw [show (((q + 1 : Nat) : Nat) : Int) = qz from by rw [← HQZ.out]; omega] at p1
  obtain ⟨c0, c1, c2, c3⟩ := cell_of_four hph.tbox
  have HPH := Lib.hid hph
  clear hph
  obtain ⟨rv, hrd, hrv, hrB⟩ := HPH.out.st.rd
  simp only at hrd
  have HRV := Lib.hid (And.intro hrd (And.intro hrv hrB))
  clear hrd hrv hrB
  have hcall := tchoice_any k m ns n of HIH.out R0 _ w2 fb rb B l (q + 1) lv lz HLZ.out.1 (by have := HLZ.out.2; have := HLV0.out; omega) (Shows.fr HPH.out.fr (fun x hx => HSH.out.2.2 x hx) _ _ HSH.out.1) HPH.out.st (Nat.le_trans HB0.out HPH.out.fr.size) HSH.out.2.2 (by have := HQ.out; omega) _ HE.out
  rw [HKZ.out] at hcall
  clear HE
  obtain ⟨r, hr⟩ : ∃ r, takeE (.mk k m ns n of) lv ((l, 0), q) = r := ⟨_, rfl⟩
  have HE : Hid (takeE (.mk k m ns n of) lv ((l, 0), q) = (r.1, r.2)) := Lib.hid hr
  rw [hr] at hcall
  clear hr
  go_wp2_with fail
  refine hcall.mono ?_
  clear hcall
  rintro er w3 ⟨v', rfl, hv', hu, hf3⟩
  obtain ⟨zn, zf, zs, za, zc, zcap, rfl⟩ := hv'.lit
  have HPO := Lib.hid hv'
  clear hv'
  have HU := Lib.hid (And.intro hu (HPH.out.fr.trans hf3 (fun _ _ h => h)))
  have hvb3 := box_kept HPH.out.vbox hf3 HPH.out.voff.1
  clear hu hf3 c0 c1 c2 c3 p0 p1 z1
  obtain ⟨d0, d1, d2, d3⟩ := cell_of_four hvb3
  have u0 : w3.frozen? ⟨vb, 0, none⟩ = false := by simp [World.frozen?, hvb3]
  have u1 : w3.frozen? ⟨vb, 1, none⟩ = false := by simp [World.frozen?, hvb3]
  have u2 : w3.frozen? ⟨vb, 2, none⟩ = false := by simp [World.frozen?, hvb3]
  have u3 : w3.frozen? ⟨vb, 3, none⟩ = false := by simp [World.frozen?, hvb3]
  have HV3 := Lib.hid hvb3
  clear hvb3
  go_wp2
  refine bodyPost_ret (results_cell_row rfl _ _ vb 42 _ _ _ rfl (store_four HV3.out) Try.underlying42 rfl (by kernel_rfl)) rfl ?_
  exact take_done HV3.out HU.out.1 HU.out.2 HPH.out.voff.2.1 HPH.out.voff.2.2 (VShows.mono (fun x _ hx => by have := lt_of_block HPH.out.vbox; have := HPH.out.fr.size; omega) _ _ HPO.out) HE.out

/-- What take does, with a type of any kind. -/
theorem untake_any (t : KT) : TakeAt t := by
  induction t with
  | nil => exact fun _ _ _ _ _ _ _ _ _ _ _ h => h.elim
  | mk k m ns n of ih =>
    intro R0 v w fb rb B s lv lz hlz hlv hsh hst hB hR he hq
    obtain ⟨⟨l, x⟩, q⟩ := s
    simp only at he hq
    subst he
    by_cases hb : lv = 0 ∨ 1048576 < q + 1
    · exact take_stop k m ns n of R0 v w fb rb B l q lv lz hlz hlv hsh hst hB hR hq hb
    have hgo : TakeGo (.mk k m ns n of) := by
      by_cases k0 : k = 0
      · exact take_k0 k m ns n of k0
      by_cases k1 : k = 1
      · exact take_k1 k m ns n of k1
      by_cases k2 : k = 2
      · exact take_k2 k m ns n of k2
      by_cases k3 : k = 3
      · exact take_k3 k m ns n of k3
      by_cases k4 : k = 4
      · exact take_k4 k m ns n of k4
      by_cases k5 : k = 5
      · by_cases hn : n = 1
        · exact take_k5g k m ns n of (fun i _ => ih i) k5 hn
        · exact take_k5b k m ns n of (fun i _ => ih i) k5 hn
      by_cases k6 : k = 6
      · exact take_k6 k m ns n of (fun i _ => ih i) k6
      by_cases k7 : k = 7
      · exact take_k7 k m ns n of k7
      by_cases k8 : k = 8
      · exact take_k8 k m ns n of (fun i _ => ih i) k8
      exact take_kd k m ns n of (by omega)
    exact hgo R0 v w fb rb B l q lv lz hlz hlv hsh hst hB hR (by omega) (by omega)
end
section
attribute [local go_sem] run_store_float
set_option maxRecDepth 100000

/-- Take, of too many bytes. -/
theorem Take_long (v : Value) (a : Option Addr) (z c : Nat) (w : World) (hz : 4000 < z) (k : Nat) (m : Int) (ns : List Txt) (n : Nat) (of : Nat → KT) (R0 : Nat → Prop) (hsh : Shows R0 w (.mk k m ns n of) v) :
    Calls Try.prog 12 #[v, .slice a z c] w fun e w' => e = .returned (.tuple #[.agg #[.int .i64 0, .float .f64 0, .string ⟨#[]⟩, .slice none 0 0], .int .i64 6]) ∧ Fr (fun _ => False) w w' := by
  obtain ⟨tk, tm, ta, tn, tc, ta', tn', tc', rfl⟩ := hsh.four
  have hzi : (4000 : Int) < (z : Int) := by omega
  obtain ⟨w1, hw1⟩ : ∃ w1, w1 = (w.alloc (.cells #[.int .u8 tk, .int .i64 tm, .slice ta tn tc, .slice ta' tn' tc'] 34)).alloc (.cells #[.int .i64 0, .float .f64 0, .string ⟨#[]⟩, .slice none 0 0] 42) := ⟨_, rfl⟩
  have f1 : Fr (fun _ => False) w w1 := by rw [hw1]; exact ((Fr.refl _ _).alloc _).alloc _
  have r1 : w1.heap[w.heap.size + 1]? = some (.cells #[.int .i64 0, .float .f64 0, .string ⟨#[]⟩, .slice none 0 0] 42 (0, 0)) := by rw [hw1]; exact heap_alloc_two _ _ _
  have F1 := Lib.hid f1
  clear hsh hz f1
  go_enter Try.func12, Try.ntmps12
  go_upto_region 1 with fail
  rw [← hw1]
  clear hw1
  obtain ⟨vb, hvb⟩ : ∃ vb, w.heap.size + 1 = vb := ⟨_, rfl⟩
  rw [hvb] at r1 ⊢
  have HVB := Lib.hid (And.intro hvb r1)
  clear hvb
  obtain ⟨d0, d1, d2, d3⟩ := cell_of_four r1
  have u0 : w1.frozen? ⟨vb, 0, none⟩ = false := by simp [World.frozen?, r1]
  have u1 : w1.frozen? ⟨vb, 1, none⟩ = false := by simp [World.frozen?, r1]
  have u2 : w1.frozen? ⟨vb, 2, none⟩ = false := by simp [World.frozen?, r1]
  have u3 : w1.frozen? ⟨vb, 3, none⟩ = false := by simp [World.frozen?, r1]
  clear r1
  go_wp2
  refine bodyPost_ret (results_cell_tmp_row rfl _ _ vb 42 _ _ _ rfl (store_four HVB.out.2) Try.underlying42 rfl (by kernel_rfl)) rfl ?_
  exact ⟨rfl, fr_four _ _ _ _ F1.out (fun h => by have := HVB.out.1; omega)⟩

/-- The error of Take. -/
def takeErr (t : KT) (l : List UInt8) : Int := if (if (takeE t 20 ((l, 0), 0)).2.1.1 = [] then (takeE t 20 ((l, 0), 0)).2.1.2 else 12) ≠ 0 then (if (takeE t 20 ((l, 0), 0)).2.1.1 = [] then (takeE t 20 ((l, 0), 0)).2.1.2 else 12) else (valE t (takeE t 20 ((l, 0), 0)).1 : Nat)

theorem Take_any (t : KT) (R0 : Nat → Prop) (v bv : Value) (l : List UInt8) (w : World) (hsh : Shows R0 w t v) (hb : Sees w bv l) (hl : l.length ≤ 4000) (hsz : szV (takeE t 20 ((l, 0), 0)).1 ≤ 100000) :
    Calls Try.prog 12 #[v, bv] w fun e w' => ∃ v', e = .returned (.tuple #[v', .int .i64 (takeErr t l)]) ∧ VShows (fun k => w.heap.size ≤ k) w' (if takeErr t l = 0 then (takeE t 20 ((l, 0), 0)).1 else zeroV) v' ∧ Fr (fun _ => False) w w' := by
  obtain ⟨E, hE⟩ : ∃ E, takeErr t l = E := ⟨_, rfl⟩
  rw [hE]
  have HE := Lib.hid hE
  clear hE
  obtain ⟨tk, tm, ta, tn, tc, ta', tn', tc', rfl⟩ := hsh.four
  obtain ⟨a, c, rfl, hbs⟩ := hb.shape
  have hli : (l.length : Int) ≤ 4000 := by omega
  obtain ⟨w1, hw1⟩ : ∃ w1, w1 = (w.alloc (.cells #[.int .u8 tk, .int .i64 tm, .slice ta tn tc, .slice ta' tn' tc'] 34)).alloc (.cells #[.int .i64 0, .float .f64 0, .string ⟨#[]⟩, .slice none 0 0] 42) := ⟨_, rfl⟩
  have f1 : Fr (fun _ => False) w w1 := by rw [hw1]; exact ((Fr.refl _ _).alloc _).alloc _
  have q1 : w1.heap[w.heap.size]? = some (.cells #[.int .u8 tk, .int .i64 tm, .slice ta tn tc, .slice ta' tn' tc'] 34 (0, 0)) := by rw [hw1]; exact heap_alloc_first _ _ _
  have r1 : w1.heap[w.heap.size + 1]? = some (.cells #[.int .i64 0, .float .f64 0, .string ⟨#[]⟩, .slice none 0 0] 42 (0, 0)) := by rw [hw1]; exact heap_alloc_two _ _ _
  have HSH := Lib.hid (Shows.fr f1 (fun _ _ h => h) _ _ (Shows.mono (S := fun k => k < w.heap.size) (fun k h _ => h) _ _ hsh))
  have hread := rdread_any _ l w1 (hb.fr f1 (fun _ _ h => h)) (by omega)
  have H1 := Lib.hid (And.intro f1 (And.intro q1 r1))
  have HSZ := Lib.hid (And.intro hl hsz)
  clear hsh hb hl hsz f1 q1 r1 hbs
  go_enter Try.func12, Try.ntmps12
  go_upto_region 1 with fail
  rw [← hw1]
  clear hw1
  go_wp2_with fail
  refine hread.mono ?_
  clear hread
  rintro er w2 ⟨rb, rv, rfl, hrd, f2, hrb, hro⟩
  have HRD := Lib.hid (And.intro hrd (And.intro f2 (And.intro hrb hro)))
  have hrl := hrd.lt
  clear hrd f2 hrb hro
  go_upto_region 4 with fail
  obtain ⟨fb, hfb⟩ : ∃ fb, w2.heap.size = fb := ⟨_, rfl⟩
  have hnew := heap_alloc_new w2 (.cells #[.pointer (some ⟨rb, 0, none⟩), .int .i64 0] 69)
  have fn : Fr (fun _ => False) w2 (w2.alloc (.cells #[.pointer (some ⟨rb, 0, none⟩), .int .i64 0] 69)) := (Fr.refl _ _).alloc _
  have hsz3 : (w2.alloc (.cells #[.pointer (some ⟨rb, 0, none⟩), .int .i64 0] 69)).heap.size = w2.heap.size + 1 := by simp
  generalize w2.alloc (.cells #[.pointer (some ⟨rb, 0, none⟩), .int .i64 0] 69) = w3 at *
  rw [hfb] at hnew hsz3 hrl
  try rw [hfb]
  have hun : UnSt fb rb (fb + 1) w3 ((l, 0), 0) := ⟨hnew, ⟨rv, HRD.out.1.fr fn (fun h => h) (fun _ _ h => h), fun e => by have := HRD.out.1.old _ e; omega, fun k e => by have := HRD.out.1.old _ e; omega⟩, by omega, by omega, by omega⟩
  have hw1s := H1.out.1.size
  have hl1 := lt_of_block H1.out.2.2
  have hoff : ∀ k, k < w1.heap.size → ¬ TDirt fb rb k := fun k hk h => by
    have := HRD.out.2.2.1
    have := HRD.out.2.1.size
    rcases h with h | h <;> omega
  have F3 := Lib.hid (HRD.out.2.1.trans fn (fun _ _ h => h))
  have htake := untake_any t (fun k => k < w.heap.size) _ w3 fb rb (fb + 1) ((l, 0), 0) 20 20 rfl (by omega) (Shows.fr F3.out (fun _ _ h => h) _ _ HSH.out) hun (by omega) (fun k hk => hoff k (by omega)) rfl (by omega)
  obtain ⟨c0, c1, c2, c3⟩ := cell_of_four (box_kept H1.out.2.1 F3.out (fun h => h))
  have HOFF := Lib.hid (And.intro hoff (And.intro hfb (And.intro hsz3 hrl)))
  have HL1 := Lib.hid (And.intro hw1s hl1)
  obtain ⟨T, s4, hr⟩ : ∃ T s4, takeE t 20 ((l, 0), 0) = (T, s4) := ⟨_, _, rfl⟩
  have HR := Lib.hid hr
  rw [hr] at htake
  clear hun hoff hnew fn hsz3 hrl hfb hw1s hl1 hr
  go_wp2_with fail
  refine htake.mono ?_
  clear htake
  rintro er w4 ⟨v', rfl, hv4, hu4, f4⟩
  obtain ⟨zn, zf, zs, za, zc, zcap, rfl⟩ := hv4.lit
  have H4 := Lib.hid (And.intro hv4 (And.intro hu4 f4))
  clear hv4 hu4 f4 c0 c1 c2 c3
  go_upto_region 5 with fail
  obtain ⟨⟨l4, x4⟩, q4⟩ := s4
  have fal : Fr (fun _ => False) w4 (w4.alloc (.cells #[.int .i64 zn, .float .f64 zf, .string zs, .slice za zc zcap] 42)) := (Fr.refl _ _).alloc _
  have hxb := heap_alloc_new w4 (.cells #[.int .i64 zn, .float .f64 zf, .string zs, .slice za zc zcap] 42)
  generalize w4.alloc (.cells #[.int .i64 zn, .float .f64 zf, .string zs, .slice za zc zcap] 42) = w5 at *
  have F5 : Hid (Fr (TDirt fb rb) w1 w5) := Lib.hid (((F3.out.mono (fun _ _ h => h.elim)).trans H4.out.2.2 (fun _ _ h => h)).trans fal (fun _ _ h => h.elim))
  have FW : Hid (Fr (fun _ => False) w w5) := Lib.hid (H1.out.1.trans F5.out (fun k hk h => HOFF.out.1 k (by have := HL1.out.1; omega) h))
  have hun5 := H4.out.2.1.fr fal (fun _ _ h => h)
  obtain ⟨p0, p1, zz⟩ := un_cells hun5
  obtain ⟨rv4, hrd4, -, -⟩ := hun5.rd
  simp only at hrd4
  have hend := rdend_any rb rv4 l4 x4 w5 hrd4
  have HV5 := Lib.hid (VShows.fr fal (fun _ _ h => h) _ _ H4.out.1)
  have HX5 := Lib.hid hxb
  have hvb5 := box_kept H1.out.2.2 F5.out (HOFF.out.1 _ HL1.out.2)
  have HVB5 := Lib.hid hvb5
  have HTB5 := Lib.hid (box_kept H1.out.2.1 F5.out (HOFF.out.1 _ (by have := HL1.out.2; omega)))
  have HS5 := Lib.hid (Shows.fr F5.out (fun k hk => HOFF.out.1 k (by have := HL1.out.1; omega)) _ _ HSH.out)
  obtain ⟨e1, he1⟩ : ∃ e1 : Int, (if l4 = [] then x4 else 12) = e1 := ⟨_, rfl⟩
  rw [he1] at hend
  have HE1 : Hid ((e1 ≠ 0 → E = e1) ∧ (e1 = 0 → E = (valE t T : Nat))) := Lib.hid (by
    have h := HE.out
    unfold takeErr at h
    rw [HR.out] at h
    simp only [he1] at h
    constructor
    · intro hn; rw [if_pos hn] at h; exact h.symm
    · intro hz; rw [if_neg (by simp [hz])] at h; exact h.symm)
  have HTT : Hid ((takeE t 20 ((l, 0), 0)).1 = T) := Lib.hid (by rw [HR.out])
  rw [HTT.out] at HSZ
  clear fal hxb hun5 hrd4 hvb5 he1
  go_wp2_with fail
  refine hend.mono ?_
  clear hend
  rintro er w6 ⟨rfl, rfl⟩
  by_cases h1 : e1 = 0
  case neg =>
    have hne : (e1 != 0) = true := by simp [h1]
    have hne2 : (e1 == 0) = false := by simp [h1]
    obtain rfl : E = e1 := HE1.out.1 h1
    have HE0 := Lib.hid h1
    have hvb5 := HVB5.out
    clear h1
    obtain ⟨d0, d1, d2, d3⟩ := cell_of_four hvb5
    have u0 : w5.frozen? ⟨w.heap.size + 1, 0, none⟩ = false := by simp [World.frozen?, hvb5]
    have u1 : w5.frozen? ⟨w.heap.size + 1, 1, none⟩ = false := by simp [World.frozen?, hvb5]
    have u2 : w5.frozen? ⟨w.heap.size + 1, 2, none⟩ = false := by simp [World.frozen?, hvb5]
    have u3 : w5.frozen? ⟨w.heap.size + 1, 3, none⟩ = false := by simp [World.frozen?, hvb5]
    clear hvb5
    go_wp2
    refine bodyPost_ret (results_cell_tmp_row rfl _ _ (w.heap.size + 1) 42 _ _ _ rfl (store_four HVB5.out) Try.underlying42 rfl (by kernel_rfl)) rfl ?_
    exact ⟨_, rfl, leaf_shows 0 0 [] (by unfold VB maxLen; simp), fr_four _ _ _ _ FW.out (fun h => by omega)⟩
  case pos =>
  subst h1
  have hchk := vcheck_any (fun _ => True) t T _ _ w5 (Shows.mono (S := fun _ => True) (fun _ _ _ => trivial) _ _ HS5.out) (VShows.mono (S := fun _ => True) (fun _ _ _ => trivial) _ _ HV5.out) HSZ.out.2
  obtain ⟨c0, c1, c2, c3⟩ := cell_of_four HTB5.out
  obtain ⟨y0, y1, y2, y3⟩ := cell_of_four HX5.out
  obtain ⟨e2, he2⟩ : ∃ e2 : Int, ((valE t T : Nat) : Int) = e2 := ⟨_, rfl⟩
  rw [he2] at hchk
  obtain rfl : E = e2 := by rw [← he2]; exact HE1.out.2 rfl
  clear he2
  go_wp2_with fail
  refine hchk.mono ?_
  clear hchk
  rintro er w7 ⟨rfl, f7⟩
  have hvb7 := box_kept HVB5.out f7 (fun h => h)
  have hxb7 := box_kept HX5.out f7 (fun h => h)
  have HVB7 := Lib.hid hvb7
  have F7 := Lib.hid f7
  clear f7 c0 c1 c2 c3 y0 y1 y2 y3 p0 p1 zz
  obtain ⟨y0, y1, y2, y3⟩ := cell_of_four hxb7
  obtain ⟨d0, d1, d2, d3⟩ := cell_of_four hvb7
  have u0 : w7.frozen? ⟨w.heap.size + 1, 0, none⟩ = false := by simp [World.frozen?, hvb7]
  have u1 : w7.frozen? ⟨w.heap.size + 1, 1, none⟩ = false := by simp [World.frozen?, hvb7]
  have u2 : w7.frozen? ⟨w.heap.size + 1, 2, none⟩ = false := by simp [World.frozen?, hvb7]
  have u3 : w7.frozen? ⟨w.heap.size + 1, 3, none⟩ = false := by simp [World.frozen?, hvb7]
  clear hvb7 hxb7
  by_cases h1 : E = 0
  case neg =>
    have hne : (E != 0) = true := by simp [h1]
    have hne2 : (E == 0) = false := by simp [h1]
    have HE0 := Lib.hid h1
    clear h1
    go_wp2
    refine bodyPost_ret (results_cell_tmp_row rfl _ _ (w.heap.size + 1) 42 _ _ _ rfl (store_four HVB7.out) Try.underlying42 rfl (by kernel_rfl)) rfl ?_
    exact ⟨_, rfl, leaf_shows 0 0 [] (by unfold VB maxLen; simp), fr_four _ _ _ _ (FW.out.trans F7.out (fun _ _ h => h)) (fun h => by omega)⟩
  case pos =>
    subst h1
    go_wp2
    refine bodyPost_ret (results_cell_tmp_row rfl _ _ (w.heap.size + 1) 42 _ _ _ rfl (store_four HVB7.out) Try.underlying42 rfl (by kernel_rfl)) rfl ?_
    have fs : Fr (fun k => k = w.heap.size + 1) w7 ((((w7.setCell ⟨w.heap.size + 1, 0, none⟩ (.int .i64 zn)).setCell ⟨w.heap.size + 1, 1, none⟩ (.float .f64 zf)).setCell ⟨w.heap.size + 1, 2, none⟩ (.string zs)).setCell ⟨w.heap.size + 1, 3, none⟩ (.slice za zc zcap)) := fr_four _ _ _ _ (Fr.refl _ _) (fun _ => rfl)
    refine ⟨_, rfl, ?_, fr_four _ _ _ _ (FW.out.trans F7.out (fun _ _ h => h)) (fun h => by omega)⟩
    rw [HTT.out]
    refine VShows.mono (fun k _ h => ?_) _ _ (VShows.fr fs (fun k h e => ?_) _ _ (VShows.fr F7.out (fun _ _ h => h) _ _ HV5.out))
    · have := F3.out.size; have := HL1.out.2; omega
    · have := F3.out.size; have := HL1.out.2; omega
end
section
/-- A type without holes. -/
def realT : KT → Prop
  | .nil => False
  | .mk _ _ _ n of => ∀ i, i < n → realT (of i)

theorem good_real (t : KT) : goodE t → realT t := by
  induction t with
  | nil => exact fun h => h
  | mk k m ns n of ih => exact fun h i hi => ih i (h.2 i hi)

theorem parts_sz (L : List VT) : szV (partsV L) = 1 + (L.map szV).sum := by
  unfold partsV
  rw [szV]
  congr 2
  apply List.ext_getElem
  · simp
  · intro i h1 h2
    simp at h1
    simp [List.getD, List.getElem?_eq_getElem h1]

theorem each_sz (g : Nat → TS → VT × TS) (n : Nat) (hg : ∀ i s, i < n → s.1.2 = 0 → szV (g i s).1 + s.2 ≤ (g i s).2.2) (s : TS) (j : Nat) (hj : j ≤ n) : ((eachN g j s).1.map szV).sum + s.2 ≤ (eachN g j s).2.2 := by
  induction j with
  | zero => simp [eachN]
  | succ j ih =>
    have h1 := ih (by omega)
    unfold eachN
    by_cases h : (eachN g j s).2.1.2 ≠ 0
    · rw [if_pos h]; exact h1
    · rw [if_neg h]
      have h2 := hg j (eachN g j s).2 (by omega) (by simpa using h)
      simp only [List.map_append, List.map_cons, List.map_nil, List.sum_append, List.sum_cons, List.sum_nil]
      omega

theorem zero_sz : szV zeroV = 1 := by decide +kernel

theorem take_sz (t : KT) : realT t → ∀ (lv : Nat) (s : TS), s.1.2 = 0 → szV (takeE t lv s).1 + s.2 ≤ (takeE t lv s).2.2 := by
  induction t with
  | nil => exact fun h => h.elim
  | mk k m ns n of ih =>
    intro hr lv s h0
    have hleaf : ∀ (a : Int) (f : Nat) (x : Txt), szV (.mk a f x 0 (fun _ => .nil)) = 1 := fun a f x => by rw [szV]; simp
    have hz := zero_sz
    unfold takeE
    by_cases hb : lv = 0 ∨ 1048576 < s.2 + 1
    · rw [if_pos hb]; show szV zeroV + s.2 ≤ s.2 + 1; omega
    rw [if_neg hb]
    by_cases k0 : k = 0
    · rw [if_pos k0]; show szV (vnum _) + s.2 ≤ s.2 + 1; rw [vnum, hleaf]; omega
    rw [if_neg k0]
    by_cases k1 : k = 1
    · rw [if_pos k1]; show szV (vnum _) + s.2 ≤ s.2 + 1; rw [vnum, hleaf]; omega
    rw [if_neg k1]
    by_cases k2 : k = 2
    · rw [if_pos k2]; show szV (vnum _) + s.2 ≤ s.2 + 1; rw [vnum, hleaf]; omega
    rw [if_neg k2]
    by_cases k3 : k = 3
    · rw [if_pos k3]; show szV (.mk _ _ _ _ _) + s.2 ≤ s.2 + 1; rw [hleaf]; omega
    rw [if_neg k3]
    by_cases k4 : k = 4
    · rw [if_pos k4]; show szV (.mk _ _ _ _ _) + s.2 ≤ s.2 + 1; rw [hleaf]; omega
    rw [if_neg k4]
    by_cases k5 : k = 5
    · rw [if_pos k5]
      by_cases hn : n ≠ 1
      · rw [if_pos hn]; show szV zeroV + s.2 ≤ s.2 + 1; omega
      · rw [if_neg hn]
        have h := each_sz (fun _ s' => takeE (of 0) (lv - 1) s') (withinS s.1 m).1 (fun i s' _ hs => ih 0 (hr 0 (by omega)) _ _ hs) ((withinS s.1 m).2, s.2 + 1) (withinS s.1 m).1 (Nat.le_refl _)
        simp only [parts_sz] at h ⊢
        omega
    rw [if_neg k5]
    by_cases k6 : k = 6
    · rw [if_pos k6]
      have h := each_sz (fun i s' => takeE (of i) (lv - 1) s') n (fun i s' hi hs => ih i (hr i hi) _ _ hs) (s.1, s.2 + 1) n (Nat.le_refl _)
      simp only [parts_sz] at h ⊢
      omega
    rw [if_neg k6]
    by_cases k7 : k = 7
    · rw [if_pos k7]; show szV (vnum _) + s.2 ≤ s.2 + 1; rw [vnum, hleaf]; omega
    rw [if_neg k7]
    by_cases k8 : k = 8
    · rw [if_pos k8]
      by_cases hn : (withinS s.1 ((n : Int) - 1)).2.2 ≠ 0
      · rw [if_pos hn]; show szV zeroV + s.2 ≤ s.2 + 1; omega
      · rw [if_neg hn]
        have hx := within_le s.1 ((n : Int) - 1) (by simpa using hn)
        have h := ih (withinS s.1 ((n : Int) - 1)).1 (hr _ (by omega)) (lv - 1) ((withinS s.1 ((n : Int) - 1)).2, s.2 + 1) (by simpa using hn)
        simp only at h ⊢
        rw [szV]
        simp only [List.range_one, List.map_cons, List.map_nil, List.sum_cons, List.sum_nil]
        omega
    rw [if_neg k8]
    show szV zeroV + s.2 ≤ s.2 + 1; omega
end
section
theorem nextS_two (l : List UInt8) (e : Int) (k : Nat) (hc : e ≠ 0 → l = []) :
    ((nextS (l, e) k).2.2 = 0 ∧ e = 0 ∧ k ≤ l.length ∧ (nextS (l, e) k).1 = l.take k ∧ (nextS (l, e) k).2.1 = l.drop k) ∨
    ((nextS (l, e) k).2.2 ≠ 0 ∧ (nextS (l, e) k).2.1 = [] ∧ (nextS (l, e) k).1 = [] ∧ (e ≠ 0 → (nextS (l, e) k).2.2 = e)) := by
  unfold nextS failS
  by_cases he : e = 0
  · subst he
    by_cases hk : l.length < k
    · right; simp [hk]
    · left; simp [hk]; omega
  · have hl := hc he
    subst hl
    right
    by_cases hk : (0 : Nat) < k
    · simp [hk, he]
    · simp [hk, he]

theorem numS_two (l : List UInt8) (e : Int) (k : Nat) (hc : e ≠ 0 → l = []) :
    ((numS (l, e) k).2.2 = 0 ∧ e = 0 ∧ k ≤ l.length ∧ (numS (l, e) k).1 = beNum (l.take k) ∧ (numS (l, e) k).2.1 = l.drop k) ∨
    ((numS (l, e) k).2.2 ≠ 0 ∧ (numS (l, e) k).2.1 = [] ∧ (numS (l, e) k).1 = 0 ∧ (e ≠ 0 → (numS (l, e) k).2.2 = e)) := by
  unfold numS
  rcases nextS_two l e k hc with ⟨h1, h2, h3, h4, h5⟩ | ⟨h1, h2, h3, h4⟩
  · left; exact ⟨h1, h2, h3, by rw [h4], h5⟩
  · right; exact ⟨h1, h2, by rw [h3]; rfl, h4⟩

theorem withinS_two (l : List UInt8) (e : Int) (most : Int) (hc : e ≠ 0 → l = []) :
    ((withinS (l, e) most).2.2 = 0 ∧ e = 0 ∧ 2 ≤ l.length ∧ (withinS (l, e) most).1 = beNum (l.take 2) ∧ ((withinS (l, e) most).1 : Int) ≤ most ∧ (withinS (l, e) most).2.1 = l.drop 2) ∨
    ((withinS (l, e) most).2.2 ≠ 0 ∧ (withinS (l, e) most).2.1 = [] ∧ (withinS (l, e) most).1 = 0 ∧ (e ≠ 0 → (withinS (l, e) most).2.2 = e)) := by
  unfold withinS
  rcases numS_two l e 2 hc with ⟨h1, h2, h3, h4, h5⟩ | ⟨h1, h2, h3, h4⟩
  · by_cases hm : most < ((numS (l, e) 2).1 : Int)
    · right
      rw [if_pos hm]
      subst h2
      unfold failS
      simp [h1]
    · left
      rw [if_neg hm]
      exact ⟨h1, h2, h3, h4, by omega, h5⟩
  · right
    by_cases hm : most < ((numS (l, e) 2).1 : Int)
    · rw [if_pos hm]
      unfold failS
      simp [h1, h2]
      exact h4
    · rw [if_neg hm]
      exact ⟨h1, h2, h3, h4⟩

theorem textS_two (l : List UInt8) (e : Int) (most : Int) (hc : e ≠ 0 → l = []) :
    ((textS (l, e) most).2.2 = 0 ∧ e = 0 ∧ l = txt (textS (l, e) most).1 ++ (textS (l, e) most).2.1 ∧ ((textS (l, e) most).1.length : Int) ≤ most ∧ (textS (l, e) most).1.length < 65536) ∨
    ((textS (l, e) most).2.2 ≠ 0 ∧ (textS (l, e) most).2.1 = [] ∧ (textS (l, e) most).1 = [] ∧ (e ≠ 0 → (textS (l, e) most).2.2 = e)) := by
  have hsm := withinS_small (l, e) most
  have ht : textS (l, e) most = (if (nextS ((withinS (l, e) most).2.1, (withinS (l, e) most).2.2) ((withinS (l, e) most).1 + (withinS (l, e) most).1 % 2)).2.2 ≠ 0 then ([], (nextS ((withinS (l, e) most).2.1, (withinS (l, e) most).2.2) ((withinS (l, e) most).1 + (withinS (l, e) most).1 % 2)).2) else if (withinS (l, e) most).1 % 2 = 1 ∧ (nextS ((withinS (l, e) most).2.1, (withinS (l, e) most).2.2) ((withinS (l, e) most).1 + (withinS (l, e) most).1 % 2)).1.getD (withinS (l, e) most).1 0 ≠ 0 then ([], failS (nextS ((withinS (l, e) most).2.1, (withinS (l, e) most).2.2) ((withinS (l, e) most).1 + (withinS (l, e) most).1 % 2)).2 4) else ((nextS ((withinS (l, e) most).2.1, (withinS (l, e) most).2.2) ((withinS (l, e) most).1 + (withinS (l, e) most).1 % 2)).1.take (withinS (l, e) most).1, (nextS ((withinS (l, e) most).2.1, (withinS (l, e) most).2.2) ((withinS (l, e) most).1 + (withinS (l, e) most).1 % 2)).2)) := rfl
  have hw := withinS_two l e most hc
  rw [ht]
  clear ht
  generalize withinS (l, e) most = p at *
  have hn := nextS_two p.2.1 p.2.2 (p.1 + p.1 % 2) (by
    intro h
    rcases hw with ⟨h1, _⟩ | ⟨_, h2, _⟩
    · exact absurd h1 h
    · exact h2)
  generalize nextS (p.2.1, p.2.2) (p.1 + p.1 % 2) = r at *
  rcases hn with ⟨n1, n2, n3, n4, n5⟩ | ⟨n1, n2, n3, n4⟩
  · rcases hw with ⟨w1, w2, w3, w4, w5, w6⟩ | ⟨w1, _⟩
    · by_cases hpad : p.1 % 2 = 1 ∧ r.1.getD p.1 0 ≠ 0
      · right
        rw [if_neg (by simpa using n1), if_pos hpad]
        unfold failS
        simp [n1, w2]
      · left
        rw [if_neg (by simpa using n1), if_neg hpad]
        have hlen : (r.1.take p.1).length = p.1 := by rw [n4]; simp; omega
        refine ⟨n1, w2, ?_, by rw [hlen]; exact w5, by rw [hlen]; exact hsm⟩
        show l = txt (r.1.take p.1) ++ r.2.1
        have e1 : l = l.take 2 ++ p.2.1 := by rw [w6, List.take_append_drop]
        have e2 : p.2.1 = r.1 ++ r.2.1 := by rw [n4, n5, List.take_append_drop]
        have e3 : be2 p.1 = l.take 2 := by rw [w4]; exact be2_beNum _ (by simp; omega)
        have e4 : r.1 = r.1.take p.1 ++ (if p.1 % 2 = 1 then [0] else []) := by
          have hr : r.1.length = p.1 + p.1 % 2 := by rw [n4]; simp; omega
          by_cases ho : p.1 % 2 = 1
          · rw [if_pos ho]
            have hz : r.1.getD p.1 0 = 0 := by
              by_cases hz : r.1.getD p.1 0 = 0
              · exact hz
              · exact absurd ⟨ho, hz⟩ hpad
            have hlt : p.1 < r.1.length := by omega
            have e5 : r.1.drop p.1 = [0] := by
              rw [List.drop_eq_getElem_cons hlt, List.drop_eq_nil_of_le (by omega)]
              simp [List.getD, hlt] at hz
              rw [hz]
            conv => lhs; rw [← List.take_append_drop p.1 r.1, e5]
          · rw [if_neg ho, List.append_nil, List.take_of_length_le (by omega)]
        unfold txt
        rw [hlen, e3, List.append_assoc, List.append_assoc]
        conv => lhs; rw [e1, e2]
        conv => lhs; rw [e4]
        rw [List.append_assoc]
    · exact absurd n2 w1
  · right
    rw [if_pos n1]
    refine ⟨n1, n2, rfl, ?_⟩
    intro he
    rcases hw with ⟨_, w2, _⟩ | ⟨w1, _, _, w4⟩
    · exact absurd w2 he
    · show r.2.2 = e
      rw [n4 w1, w4 he]
end
section
/-- What holds of what was taken: enc, the encoding; lv, the levels. -/
structure TkOk (enc : VT → List UInt8) (lv : Nat) (s : TS) (r : VT × TS) : Prop where
  ok : r.2.1.2 = 0 → s.1.1 = enc r.1 ++ r.2.1.1 ∧ r.2.1.1.length + 2 ≤ s.1.1.length
  bad : r.2.1.2 ≠ 0 → r.2.1.1 = []
  le : 2 * r.2.2 + lv * r.2.1.1.length ≤ 2 * s.2 + lv * s.1.1.length + (if r.2.1.2 = 0 then 0 else 2 * (lv + 1))

structure EachOk (e : Nat → VT → List UInt8) (lv j : Nat) (s : TS) (r : List VT × TS) : Prop where
  ok : r.2.1.2 = 0 → r.1.length = j ∧ s.1.1 = partsB (fun i => e i (r.1.getD i zeroV)) j ++ r.2.1.1 ∧ r.2.1.1.length + 2 * j ≤ s.1.1.length
  bad : r.2.1.2 ≠ 0 → r.2.1.1 = []
  le : 2 * r.2.2 + lv * r.2.1.1.length ≤ 2 * s.2 + lv * s.1.1.length + (if r.2.1.2 = 0 then 0 else 2 * (lv + 1))

theorem partsB_congr (g h : Nat → List UInt8) : ∀ j, (∀ i, i < j → g i = h i) → partsB g j = partsB h j
  | 0, _ => rfl
  | j + 1, hh => by rw [partsB_succ, partsB_succ, partsB_congr g h j (fun i hi => hh i (by omega)), hh j (by omega)]

theorem each_ok (g : Nat → TS → VT × TS) (e : Nat → VT → List UInt8) (lv n : Nat) (hg : ∀ i s, i < n → s.1.2 = 0 → TkOk (e i) lv s (g i s)) (s : TS) (h0 : s.1.2 = 0) : ∀ j, j ≤ n → EachOk e lv j s (eachN g j s)
  | 0, _ => ⟨fun _ => ⟨rfl, by simp [eachN, partsB], by simp [eachN]⟩, fun h => absurd h0 h, by simp [eachN, h0]⟩
  | j + 1, hj => by
    obtain ⟨i1, i2, i3⟩ := each_ok g e lv n hg s h0 j (by omega)
    unfold eachN
    by_cases h : (eachN g j s).2.1.2 ≠ 0
    · rw [if_pos h]
      exact ⟨fun h' => absurd h' h, i2, i3⟩
    · rw [if_neg h]
      have h' : (eachN g j s).2.1.2 = 0 := by simpa using h
      obtain ⟨a1, a2, a3⟩ := i1 h'
      obtain ⟨g1, g2, g3⟩ := hg j (eachN g j s).2 (by omega) h'
      rw [if_pos h'] at i3
      refine ⟨fun hh => ?_, g2, ?_⟩
      · obtain ⟨b1, b2⟩ := g1 hh
        refine ⟨by simp [a1], ?_, by show (g j (eachN g j s).2).2.1.1.length + 2 * (j + 1) ≤ s.1.1.length; omega⟩
        rw [partsB_succ]
        have e1 : partsB (fun i => e i (((eachN g j s).1 ++ [(g j (eachN g j s).2).1]).getD i zeroV)) j = partsB (fun i => e i ((eachN g j s).1.getD i zeroV)) j := partsB_congr _ _ j (fun i hi => by
          simp only [List.getD, List.getElem?_append_left (show i < (eachN g j s).1.length by omega)])
        have e2 : ((eachN g j s).1 ++ [(g j (eachN g j s).2).1]).getD j zeroV = (g j (eachN g j s).2).1 := by
          simp only [List.getD]
          rw [List.getElem?_append_right (by omega), a1, Nat.sub_self]
          rfl
        rw [e1, e2, List.append_assoc, ← b1]
        exact a2
      · show 2 * (g j (eachN g j s).2).2.2 + lv * (g j (eachN g j s).2).2.1.1.length ≤ 2 * s.2 + lv * s.1.1.length + (if (g j (eachN g j s).2).2.1.2 = 0 then 0 else 2 * (lv + 1))
        omega

theorem take_two (l : List UInt8) (h : 2 ≤ l.length) : l = be2 (beNum (l.take 2)) ++ l.drop 2 := by
  rw [be2_beNum (l.take 2) (by simp; omega), List.take_append_drop]
theorem take_four (l : List UInt8) (h : 4 ≤ l.length) : l = be4 (beNum (l.take 4)) ++ l.drop 4 := by
  rw [be4_beNum (l.take 4) (by simp; omega), List.take_append_drop]
theorem take_eight (l : List UInt8) (h : 8 ≤ l.length) : l = be8 (beNum (l.take 8)) ++ l.drop 8 := by
  rw [be8_beNum (l.take 8) (by simp; omega), List.take_append_drop]

theorem long_back (x : Nat) (h : x < 4294967296) : (long32 x % 4294967296).toNat = x := by
  unfold long32
  split <;> omega

/-- One value without parts. -/
theorem leaf_ok (enc : VT → List UInt8) (lv : Nat) (hlv : 0 < lv) (s : TS) (v : VT) (st : List UInt8 × Int) (h : (st.2 = 0 ∧ s.1.1 = enc v ++ st.1 ∧ st.1.length + 2 ≤ s.1.1.length) ∨ (st.2 ≠ 0 ∧ st.1 = [])) : TkOk enc lv s (v, (st, s.2 + 1)) := by
  rcases h with ⟨h1, h2, h3⟩ | ⟨h1, h2⟩
  · refine ⟨fun _ => ⟨h2, h3⟩, fun h => absurd h1 h, ?_⟩
    show 2 * (s.2 + 1) + lv * st.1.length ≤ _
    rw [if_pos h1]
    have : lv * (st.1.length + 2) ≤ lv * s.1.1.length := Nat.mul_le_mul_left lv h3
    rw [Nat.mul_add] at this
    omega
  · refine ⟨fun h => absurd h h1, fun _ => h2, ?_⟩
    show 2 * (s.2 + 1) + lv * st.1.length ≤ _
    rw [if_neg h1, h2]
    simp only [List.length_nil, Nat.mul_zero]
    omega

theorem fail_nil (st : List UInt8 × Int) (x : Int) (h0 : st.2 = 0) (hx : x ≠ 0) : (failS st x).2 ≠ 0 ∧ (failS st x).1 = [] := by
  unfold failS
  rw [if_neg (by simp [hx, h0])]
  exact ⟨hx, rfl⟩

theorem take_enc (t : KT) : goodE t → ∀ lv s, s.1.2 = 0 → TkOk (encE t) lv s (takeE t lv s) := by
  induction t with
  | nil => exact fun h => h.elim
  | mk k m ns n of ih =>
    rintro ⟨⟨hn12, hown⟩, hkids⟩ lv s h0
    obtain ⟨hk8, hmost, hone, hparts, hnames, hnone⟩ := own_facts hown
    obtain ⟨⟨l, e⟩, c⟩ := s
    simp only at h0
    subst h0
    have hcl : (0 : Int) ≠ 0 → l = [] := fun h => absurd rfl h
    unfold takeE
    by_cases hb : lv = 0 ∨ 1048576 < c + 1
    · rw [if_pos hb]
      obtain ⟨f1, f2⟩ := fail_nil (l, 0) 6 rfl (by decide)
      refine ⟨fun h => absurd h f1, fun _ => f2, ?_⟩
      show 2 * (c + 1) + lv * (failS (l, 0) 6).1.length ≤ _
      rw [if_neg f1, f2]
      simp only [List.length_nil, Nat.mul_zero]
      omega
    rw [if_neg hb]
    have hlv : 0 < lv := by omega
    clear hb
    rcases (by omega : k = 0 ∨ k = 1 ∨ k = 2 ∨ k = 3 ∨ k = 4 ∨ k = 5 ∨ k = 6 ∨ k = 7 ∨ k = 8) with h | h | h | h | h | h | h | h | h
    · subst h
      rw [if_pos rfl]
      refine leaf_ok _ lv hlv ((l, 0), c) _ _ ?_
      rcases withinS_two l 0 1 hcl with ⟨h1, _, h3, h4, h5, h6⟩ | ⟨h1, h2, _⟩
      · refine .inl ⟨h1, ?_, by rw [h6]; simp; omega⟩
        show l = encE _ (vnum _) ++ _
        simp only [vnum, encE]
        simp
        rw [h6, h4]
        exact take_two l h3
      · exact .inr ⟨h1, h2⟩
    · subst h
      rw [if_neg (by decide), if_pos rfl]
      refine leaf_ok _ lv hlv ((l, 0), c) _ _ ?_
      rcases numS_two l 0 2 hcl with ⟨h1, _, h3, h4, h5⟩ | ⟨h1, h2, _⟩
      · refine .inl ⟨h1, ?_, by rw [h5]; simp; omega⟩
        show l = encE _ (vnum _) ++ _
        simp only [vnum, encE]
        simp
        rw [h5, h4]
        exact take_two l h3
      · exact .inr ⟨h1, h2⟩
    · subst h
      rw [if_neg (by decide), if_neg (by decide), if_pos rfl]
      refine leaf_ok _ lv hlv ((l, 0), c) _ _ ?_
      rcases numS_two l 0 4 hcl with ⟨h1, _, h3, h4, h5⟩ | ⟨h1, h2, _⟩
      · refine .inl ⟨h1, ?_, by rw [h5]; simp; omega⟩
        show l = encE _ (vnum _) ++ _
        have e1 : encE (.mk 2 m ns n of) (vnum (long32 (numS (l, 0) 4).1)) = be4 (long32 (numS (l, 0) 4).1 % 4294967296).toNat := by simp [vnum, encE]
        have hs : (numS (l, 0) 4).1 < 4294967296 := numS_small (l, 0) 4
        rw [e1, long_back _ hs, h5, h4]
        exact take_four l h3
      · exact .inr ⟨h1, h2⟩
    · subst h
      rw [if_neg (by decide), if_neg (by decide), if_neg (by decide), if_pos rfl]
      refine leaf_ok _ lv hlv ((l, 0), c) _ _ ?_
      rcases numS_two l 0 8 hcl with ⟨h1, _, h3, h4, h5⟩ | ⟨h1, h2, _⟩
      · by_cases hc : Fl.canon (numS (l, 0) 8).1 = (numS (l, 0) 8).1
        · rw [if_pos hc]
          refine .inl ⟨h1, ?_, by rw [h5]; simp; omega⟩
          show l = encE _ _ ++ _
          have e1 : encE (.mk 3 m ns n of) (.mk 0 (Fl.canon (numS (l, 0) 8).1) [] 0 (fun _ => .nil)) = be8 (Fl.canon (Fl.canon (numS (l, 0) 8).1)) := by simp [encE]
          rw [e1, hc, hc, h5, h4]
          exact take_eight l h3
        · rw [if_neg hc]
          obtain ⟨f1, f2⟩ := fail_nil (numS (l, 0) 8).2 4 h1 (by decide)
          exact .inr ⟨f1, f2⟩
      · right
        by_cases hc : Fl.canon (numS (l, 0) 8).1 = (numS (l, 0) 8).1
        · rw [if_pos hc]; exact ⟨h1, h2⟩
        · rw [if_neg hc]
          unfold failS
          rw [if_pos (.inr h1)]
          exact ⟨h1, h2⟩
    · subst h
      rw [if_neg (by decide), if_neg (by decide), if_neg (by decide), if_neg (by decide), if_pos rfl]
      refine leaf_ok _ lv hlv ((l, 0), c) _ _ ?_
      rcases textS_two l 0 m hcl with ⟨h1, _, h3, h4, h5⟩ | ⟨h1, h2, _⟩
      · refine .inl ⟨h1, ?_, ?_⟩
        · show l = encE _ _ ++ _
          have e1 : encE (.mk 4 m ns n of) (.mk 0 0 (textS (l, 0) m).1 0 (fun _ => .nil)) = txt (textS (l, 0) m).1 := by simp [encE]
          rw [e1]
          exact h3
        · show (textS (l, 0) m).2.1.length + 2 ≤ l.length
          have := congrArg List.length h3
          unfold txt at this
          simp only [List.length_append, be2_length] at this
          omega
      · exact .inr ⟨h1, h2⟩
    · subst h
      rw [if_neg (by decide), if_neg (by decide), if_neg (by decide), if_neg (by decide), if_neg (by decide), if_pos rfl]
      have hn1 := hone rfl
      rw [if_neg (by omega)]
      obtain ⟨q, rfl⟩ : ∃ q, lv = q + 1 := ⟨lv - 1, by omega⟩
      rw [Nat.add_sub_cancel]
      rcases withinS_two l 0 m hcl with ⟨h1, _, h3, h4, h5, h6⟩ | ⟨h1, h2, h3, _⟩
      · have he := each_ok (fun _ s' => takeE (of 0) q s') (fun _ v => encE (of 0) v) q (withinS (l, 0) m).1 (fun i s' _ hs => ih 0 (hkids 0 (by omega)) q s' hs) ((withinS (l, 0) m).2, c + 1) h1 (withinS (l, 0) m).1 (Nat.le_refl _)
        generalize eachN (fun _ s' => takeE (of 0) q s') (withinS (l, 0) m).1 ((withinS (l, 0) m).2, c + 1) = r at *
        obtain ⟨a1, a2, a3⟩ := he
        simp only at a1 a3
        have hlen : (withinS (l, 0) m).2.1.length + 2 = l.length := by rw [h6]; simp; omega
        have hq : q * (withinS (l, 0) m).2.1.length ≤ q * l.length := Nat.mul_le_mul_left q (by omega)
        refine ⟨fun h => ?_, a2, ?_⟩
        · obtain ⟨b1, b2, b3⟩ := a1 h
          refine ⟨?_, by show r.2.1.1.length + 2 ≤ l.length; omega⟩
          show l = encE _ (partsV r.1) ++ r.2.1.1
          unfold partsV
          rw [encE_seq 5 m ns n of 0 0 [] r.1.length _ rfl, b1, List.append_assoc]
          simp only [if_pos]
          rw [← b2, h6, h4]
          exact take_two l h3
        · show 2 * r.2.2 + (q + 1) * r.2.1.1.length ≤ 2 * c + (q + 1) * l.length + (if r.2.1.2 = 0 then 0 else 2 * (q + 1 + 1))
          simp only [Nat.add_mul, Nat.one_mul]
          by_cases h : r.2.1.2 = 0
          · obtain ⟨b1, b2, b3⟩ := a1 h
            rw [if_pos h] at a3 ⊢
            omega
          · rw [if_neg h] at a3 ⊢
            rw [a2 h] at a3 ⊢
            simp only [List.length_nil, Nat.mul_zero] at a3 ⊢
            omega
      · rw [h3]
        refine ⟨fun h => absurd h h1, fun _ => h2, ?_⟩
        show 2 * (c + 1) + (q + 1) * (withinS (l, 0) m).2.1.length ≤ 2 * c + (q + 1) * l.length + (if (withinS (l, 0) m).2.2 = 0 then 0 else 2 * (q + 1 + 1))
        rw [if_neg h1, h2]
        simp only [List.length_nil, Nat.mul_zero]
        omega
    · subst h
      rw [if_neg (by decide), if_neg (by decide), if_neg (by decide), if_neg (by decide), if_neg (by decide), if_neg (by decide), if_pos rfl]
      obtain ⟨q, rfl⟩ : ∃ q, lv = q + 1 := ⟨lv - 1, by omega⟩
      rw [Nat.add_sub_cancel]
      have hnn := hparts (.inl rfl)
      have hns := hnames (.inl rfl)
      have he := each_ok (fun i s' => takeE (of i) q s') (fun i v => encE (of i) v) q n (fun i s' hi hs => ih i (hkids i hi) q s' hs) ((l, 0), c + 1) rfl n (Nat.le_refl _)
      generalize eachN (fun i s' => takeE (of i) q s') n ((l, 0), c + 1) = r at *
      obtain ⟨a1, a2, a3⟩ := he
      simp only at a1 a3
      refine ⟨fun h => ?_, a2, ?_⟩
      · obtain ⟨b1, b2, b3⟩ := a1 h
        refine ⟨?_, by show r.2.1.1.length + 2 ≤ l.length; omega⟩
        show l = encE _ (partsV r.1) ++ r.2.1.1
        unfold partsV
        rw [encE_rec 6 m ns n of 0 0 [] r.1.length _ rfl, b1]
        exact b2
      · show 2 * r.2.2 + (q + 1) * r.2.1.1.length ≤ 2 * c + (q + 1) * l.length + (if r.2.1.2 = 0 then 0 else 2 * (q + 1 + 1))
        simp only [Nat.add_mul, Nat.one_mul]
        by_cases h : r.2.1.2 = 0
        · obtain ⟨b1, b2, b3⟩ := a1 h
          rw [if_pos h] at a3 ⊢
          omega
        · rw [if_neg h] at a3 ⊢
          rw [a2 h] at a3 ⊢
          simp only [List.length_nil, Nat.mul_zero] at a3 ⊢
          omega
    · subst h
      rw [if_neg (by decide), if_neg (by decide), if_neg (by decide), if_neg (by decide), if_neg (by decide), if_neg (by decide), if_neg (by decide), if_pos rfl]
      refine leaf_ok _ lv hlv ((l, 0), c) _ _ ?_
      rcases withinS_two l 0 ((ns.length : Int) - 1) hcl with ⟨h1, _, h3, h4, h5, h6⟩ | ⟨h1, h2, _⟩
      · refine .inl ⟨h1, ?_, by rw [h6]; simp; omega⟩
        show l = encE _ (vnum _) ++ _
        simp only [vnum, encE]
        simp
        rw [h6, h4]
        exact take_two l h3
      · exact .inr ⟨h1, h2⟩
    · subst h
      rw [if_neg (by decide), if_neg (by decide), if_neg (by decide), if_neg (by decide), if_neg (by decide), if_neg (by decide), if_neg (by decide), if_neg (by decide), if_pos rfl]
      obtain ⟨q, rfl⟩ : ∃ q, lv = q + 1 := ⟨lv - 1, by omega⟩
      rw [Nat.add_sub_cancel]
      rcases withinS_two l 0 ((n : Int) - 1) hcl with ⟨h1, _, h3, h4, h5, h6⟩ | ⟨h1, h2, _⟩
      · rw [if_neg (by simpa using h1)]
        have he := ih (withinS (l, 0) ((n : Int) - 1)).1 (hkids _ (by omega)) q ((withinS (l, 0) ((n : Int) - 1)).2, c + 1) h1
        obtain ⟨a1, a2, a3⟩ := he
        have hlen : (withinS (l, 0) ((n : Int) - 1)).2.1.length + 2 = l.length := by rw [h6]; simp; omega
        generalize takeE (of (withinS (l, 0) ((n : Int) - 1)).1) q ((withinS (l, 0) ((n : Int) - 1)).2, c + 1) = r at *
        simp only at a1 a3
        have hq : q * (withinS (l, 0) ((n : Int) - 1)).2.1.length ≤ q * l.length := Nat.mul_le_mul_left q (by omega)
        refine ⟨fun h => ?_, a2, ?_⟩
        · obtain ⟨b1, b2⟩ := a1 h
          refine ⟨?_, by show r.2.1.1.length + 2 ≤ l.length; omega⟩
          show l = encE _ (.mk _ 0 [] 1 (fun _ => r.1)) ++ r.2.1.1
          rw [encE_cho 8 m ns n of _ 0 [] _ rfl, Int.toNat_natCast, List.append_assoc, ← b1, h6, h4]
          exact take_two l h3
        · show 2 * r.2.2 + (q + 1) * r.2.1.1.length ≤ 2 * c + (q + 1) * l.length + (if r.2.1.2 = 0 then 0 else 2 * (q + 1 + 1))
          simp only [Nat.add_mul, Nat.one_mul]
          by_cases h : r.2.1.2 = 0
          · obtain ⟨b1, b2⟩ := a1 h
            rw [if_pos h] at a3 ⊢
            omega
          · rw [if_neg h] at a3 ⊢
            rw [a2 h] at a3 ⊢
            simp only [List.length_nil, Nat.mul_zero] at a3 ⊢
            omega
      · rw [if_pos h1]
        refine ⟨fun h => absurd h h1, fun _ => h2, ?_⟩
        show 2 * (c + 1) + (q + 1) * (withinS (l, 0) ((n : Int) - 1)).2.1.length ≤ 2 * c + (q + 1) * l.length + (if (withinS (l, 0) ((n : Int) - 1)).2.2 = 0 then 0 else 2 * (q + 1 + 1))
        rw [if_neg h1, h2]
        simp only [List.length_nil, Nat.mul_zero]
        omega

/-- Of a good type: what Take wants. -/
theorem take_small (t : KT) (hg : goodE t) (l : List UInt8) (hl : l.length ≤ 4000) : szV (takeE t 20 ((l, 0), 0)).1 ≤ 100000 := by
  have h1 := take_sz t (good_real t hg) 20 ((l, 0), 0) rfl
  have h2 := (take_enc t hg 20 ((l, 0), 0) rfl).le
  simp only at h1 h2
  split at h2 <;> omega
end
section
attribute [local go_sem] run_store_float
set_option maxRecDepth 100000

/-- The error of Take, of any bytes; what it takes. -/
def tkErr (t : KT) (l : List UInt8) : Int := if 4000 < l.length then 6 else takeErr t l
def tkV (t : KT) (l : List UInt8) : VT := (takeE t 20 ((l, 0), 0)).1

theorem tkErr_ok (t : KT) (hg : goodE t) (l : List UInt8) (h : tkErr t l = 0) : encE t (tkV t l) = l ∧ isVal t (tkV t l) = true ∧ szV (tkV t l) ≤ 100000 ∧ l.length ≤ 4000 := by
  unfold tkErr at h
  by_cases hl : 4000 < l.length
  · rw [if_pos hl] at h; omega
  rw [if_neg hl] at h
  unfold takeErr at h
  have he := take_enc t hg 20 ((l, 0), 0) rfl
  have hs := take_small t hg l (by omega)
  unfold tkV
  by_cases h1 : (if (takeE t 20 ((l, 0), 0)).2.1.1 = [] then (takeE t 20 ((l, 0), 0)).2.1.2 else 12) ≠ 0
  · rw [if_pos h1] at h; exact absurd h h1
  rw [if_neg h1] at h
  by_cases h2 : (takeE t 20 ((l, 0), 0)).2.1.1 = []
  · rw [if_pos h2] at h1
    have h3 : (takeE t 20 ((l, 0), 0)).2.1.2 = 0 := by simpa using h1
    have h4 := (he.ok h3).1
    rw [h2, List.append_nil] at h4
    refine ⟨h4.symm, ?_, hs, by omega⟩
    unfold valE at h
    by_cases hv : isVal t (takeE t 20 ((l, 0), 0)).1 = true
    · exact hv
    · rw [if_neg hv] at h
      omega
  · rw [if_neg h2] at h1
    omega

theorem takeC (R : Nat → Prop) (t : KT) (hg : goodE t) (v bv : Value) (l : List UInt8) (w : World) (hsh : Shows R w t v) (hb : Sees w bv l) :
    Calls Try.prog 12 #[v, bv] w fun e w' => ∃ v', e = .returned (.tuple #[v', .int .i64 (tkErr t l)]) ∧ VShows (fun k => w.heap.size ≤ k) w' (if tkErr t l = 0 then tkV t l else zeroV) v' ∧ Fr (fun _ => False) w w' := by
  unfold tkErr tkV
  by_cases hl : 4000 < l.length
  · rw [if_pos hl]
    obtain ⟨a, c, rfl, _⟩ := hb.shape
    cases t with
    | nil => exact hg.elim
    | mk k m ns n of =>
      refine (Take_long v a l.length c w hl k m ns n of R hsh).mono ?_
      rintro e w' ⟨rfl, f⟩
      exact ⟨_, rfl, by rw [if_neg (by decide)]; exact zeroV_shows _ _, f⟩
  · rw [if_neg hl]
    exact Take_any t R v bv l w hsh hb (by omega) (take_small t hg l (by omega))
end
section
set_option maxRecDepth 100000

theorem sees_at {w : World} {a : Option Addr} {n c : Nat} {l : List UInt8} (h : Sees w (.slice a n c) l) (k : Nat) (hk : k < l.length) : ∃ g o, a = some ⟨g, o, none⟩ ∧ w.cell? ⟨g, o + k, none⟩ = some (bv (l.getD k 0)) := by
  rcases h with ⟨rfl, _⟩ | ⟨g, off, cap, e, hle, hc⟩
  · simp at hk
  · simp only [Value.slice.injEq] at e
    exact ⟨g, off, e.1, hc k hk⟩

theorem sees_lt {w : World} {g o n c : Nat} {l : List UInt8} (h : Sees w (.slice (some ⟨g, o, none⟩) n c) l) (k : Nat) (hk : k < l.length) : g < w.heap.size := by
  obtain ⟨g', o', e, hc⟩ := sees_at h k hk
  simp only [Option.some.injEq, Addr.mk.injEq] at e
  obtain ⟨rfl, _⟩ := e
  exact World.block_lt_of_cell? w _ hc

theorem own_at {w : World} {g n c : Nat} {l : List UInt8} (h : Own w (.slice (some ⟨g, 0, none⟩) n c) l) (k : Nat) (hk : k < l.length) : w.cell? ⟨g, 0 + k, none⟩ = some (bv (l.getD k 0)) := by
  obtain ⟨g', o', e, hc⟩ := sees_at h.sees k hk
  simp only [Option.some.injEq, Addr.mk.injEq] at e
  obtain ⟨rfl, rfl, _⟩ := e
  exact hc

theorem own_len {w : World} {g n c : Nat} {l : List UInt8} (h : Own w (.slice (some ⟨g, 0, none⟩) n c) l) : n = l.length := by
  rcases h.2 with ⟨e, _⟩ | ⟨g', cap', cur, h', _⟩
  · simp at e
  · simp at h'; exact h'.2.1

theorem own_frozen {w : World} {g n c : Nat} {l : List UInt8} (h : Own w (.slice (some ⟨g, 0, none⟩) n c) l) (k : Nat) : w.frozen? ⟨g, k, none⟩ = false := by
  obtain rfl := own_len h
  exact World.ownsRow.frozenAt h k

theorem own_set {w : World} {g n c : Nat} {l : List UInt8} (h : Own w (.slice (some ⟨g, 0, none⟩) n c) l) (k : Nat) (u : UInt8) : Own (w.setCell ⟨g, k, none⟩ (bv u)) (.slice (some ⟨g, 0, none⟩) n c) (l.set k u) := by
  obtain rfl := own_len h
  have := (World.ownsRow.stored h k (bv u)).1
  unfold Own
  rw [List.length_set, List.map_set]
  exact this

theorem empty_row8 (w : World) (base : Nat) (hb : base ≤ w.heap.size) (e : TypeId) (size : Nat) : (w.alloc (.cells #[] e)).ownsRow base e size (.slice (some ⟨w.heap.size, 0, none⟩) 0 0) 0 [] :=
  ⟨by simp, .inr ⟨w.heap.size, 0, #[], rfl, hb, heap_alloc_new w _, Nat.le_refl _, by unfold maxLen; omega, by simp, by simp⟩⟩

theorem bits_xor_nat (k : IntKind) (j : Nat) (hj : j ≤ k.bits) (hk : ∀ n : Int, 0 ≤ n → n < 2 ^ j → k.wrap n = n) (a b : Nat) (ha : a < 2 ^ j) (hb : b < 2 ^ j) :
    bits .xor k a b = ((a ^^^ b : Nat) : Int) := by
  have hp : 2 ^ j ≤ 2 ^ k.bits := Nat.pow_le_pow_right (by decide) hj
  have ha' : a % 2 ^ k.bits = a := Nat.mod_eq_of_lt (Nat.lt_of_lt_of_le ha hp)
  have hb' : b % 2 ^ k.bits = b := Nat.mod_eq_of_lt (Nat.lt_of_lt_of_le hb hp)
  simp only [bits, BitVec.ofInt_natCast, BitVec.toNat_xor, BitVec.toNat_ofNat, ha', hb']
  exact hk _ (Int.natCast_nonneg _) (by exact_mod_cast Nat.xor_lt_two_pow ha hb)

theorem xor_u8 (a b : Nat) (ha : a < 256) (hb : b < 256) : bits .xor .u8 (a : Int) (b : Int) = ((a ^^^ b : Nat) : Int) :=
  bits_xor_nat .u8 8 (by decide) wraps_u8 a b ha hb

theorem sees_old8 {w : World} {v : Value} {l : List UInt8} (h : Sees w v l) (hl : l ≠ []) : ∀ k, v.ownBlock = some k → k < w.heap.size := by
  rcases h with ⟨e, _⟩ | ⟨g, off, cap, rfl, _, hc⟩
  · exact absurd e hl
  · intro k hk
    have h0 := hc 0 (List.length_pos_iff.2 hl)
    cases hk
    exact World.block_lt_of_cell? w _ h0

theorem made_shape {v : Value} {l : List UInt8} {w w' : World} (h : Made v l w w') (hl : 0 < l.length) : ∃ g c, v = .slice (some ⟨g, 0, none⟩) l.length c ∧ l.length ≤ c := by
  rcases h.1.2 with ⟨_, h0⟩ | ⟨g, cap, cur, e, _, _, hle, _⟩
  · omega
  · exact ⟨g, cap, e, by omega⟩

theorem made_empty (w : World) : Made (.slice (some ⟨w.heap.size, 0, none⟩) 0 0) [] w (w.alloc (.cells #[] 5)) :=
  ⟨empty_row8 w 0 (Nat.zero_le _) 5 1, (Fr.refl _ _).alloc _, fun k hk => by have : w.heap.size = k := Option.some.inj hk; omega⟩

/-- Bytes put behind a row that was made. -/
theorem opWp_app {w wb wm : World} {o : Oper} {a : Act} {K : Act → World → Prop} {Q : Exit → Act → World → Prop} (s x : Operand)
    (ho : o.op = .call { callee := .builtin .append, args := #[s, x], argTypes := #[26, 26] })
    (v : Value) (hs : a.eval s = v) (xv : Value) (hx : a.eval x = xv) (L l : List UInt8) (h1 : Made v L wb wm) (hf : Fr (fun _ => False) wm w) (h2 : Sees w xv l) (hlen : L.length + l.length ≤ 100000)
    (h : ∀ v' w', Made v' (L ++ l) wb w' → K (a.put o.dst v') w') : o.wp Try.prog a w K Q := by
  obtain ⟨i0, hi, hz0, hz1, hz2⟩ := info_parts Try.infoU8
  obtain ⟨ax, cx, e, _⟩ := h2.shape
  subst e
  have hown := h1.1.fr hf (fun _ _ h => h)
  obtain ⟨v', w', hr, k2, k3, k4⟩ := run_append_sep (P := Try.prog) w 0 26 26 o.type 5 i0 (.int .u8 0) 1 1 Try.underlying26 _ Try.underlying26 (.inr ⟨_, rfl⟩) hi hz0 hz1 hz2 rfl (by decide) v L.length (L.map bv) hown (.slice ax l.length cx) l.length (l.map bv) (fun w => lenOf_slice _ _ _ _) (by simp) h2.first (h2.drew).first (bv_one _) (by unfold maxLen; omega) (by omega) (Nat.zero_le _)
  unfold Oper.wp execOp
  simp only [ho, resolve, invoke, builtin, Sem.run_bind, Sem.run_pure, Result.andThen_ok, List.map_toArray, List.map_cons, List.map_nil, hs, hx, hr]
  exact h v' w' (Made.append h1 hf rfl k2 k3 k4)
end
section
theorem qmode_gc : (Region.Mode.any == Region.Mode.gc) = false := rfl

def qptr (g : Nat) : Value := .pointer (some ⟨g, 0, none⟩)
theorem qptr_inj {g g' : Nat} (h : qptr g = qptr g') : g = g' := by unfold qptr at h; simpa using h
def qupd (st : Nat → Option Value) (i : Nat) (v : Value) : Nat → Option Value := fun j => if j = i then some v else st j
theorem qupd_at (st : Nat → Option Value) (i : Nat) (v : Value) : qupd st i v i = some v := by unfold qupd; rw [if_pos rfl]
theorem qupd_ne (st : Nat → Option Value) (i j : Nat) (v : Value) (h : j ≠ i) : qupd st i v j = st j := by unfold qupd; rw [if_neg h]

/-- Two blocks made since w, of these cells. -/
def Two (w : World) (x y : Value) (cx cy : Array Value) (tx ty : TypeId) (wx : World) : Prop :=
  ∃ g1 g2, x = .pointer (some ⟨g1, 0, none⟩) ∧ y = .pointer (some ⟨g2, 0, none⟩) ∧ g1 ≠ g2 ∧ w.heap.size ≤ g1 ∧ w.heap.size ≤ g2 ∧ Fr (fun _ => False) w wx ∧ wx.heap[g1]? = some (.cells cx tx (0, 0)) ∧ wx.heap[g2]? = some (.cells cy ty (0, 0))

structure PX (tx ty : TypeId) (zx zy cx cy : Array Value) (a1 a2 s1 s2 : Nat) (w : World) (st : Nat → Option Value) (wx : World) : Prop where
  fr : Fr (fun _ => False) w wx
  p1 : ∀ v, st a1 = some v → ∃ g, v = qptr g ∧ w.heap.size ≤ g ∧ wx.heap[g]? = some (.cells (if (st s1).isNone then zx else cx) tx (0, 0))
  p2 : ∀ v, st a2 = some v → ∃ g, v = qptr g ∧ w.heap.size ≤ g ∧ wx.heap[g]? = some (.cells (if (st s2).isNone then zy else cy) ty (0, 0))
  ne : ∀ v, st a1 = some v → st a2 ≠ some v

theorem kept_box {S : Nat → Prop} {w0 w1 : World} {b : Nat} {o : Obj} (h : w0.heap[b]? = some o) (f : Fr S w0 w1) (hb : ¬ S b) : w1.heap[b]? = some o := by
  rw [f.block b (Array.getElem?_eq_some_iff.1 h).1 hb]; exact h

theorem qfree {w : World} {b : Nat} {cs : Array Value} {t : TypeId} (h : w.heap[b]? = some (.cells cs t (0, 0))) (i : Nat) : w.frozen? ⟨b, i, none⟩ = false := by
  simp [World.frozen?, h]
theorem qrow {w : World} {b : Nat} {cs : Array Value} {t : TypeId} (h : w.heap[b]? = some (.cells cs t (0, 0))) (i : Nat) (u : Value) (hu : cs[i]? = some u) : w.cell? ⟨b, i, none⟩ = some u := by
  simp only [World.cell?, h]
  simpa using hu

section
variable {tx ty : TypeId} {zx zy cx cy : Array Value} {a1 a2 s1 s2 : Nat} {w wx wy : World} {st : Nat → Option Value}

theorem PX.start : PX tx ty zx zy cx cy a1 a2 s1 s2 w (fun _ => none) w.drew :=
  ⟨(Fr.refl _ _).drew, fun v h => (by cases h), fun v h => (by cases h), fun v h => (by cases h)⟩

theorem PX.call (h : PX tx ty zx zy cx cy a1 a2 s1 s2 w st wx) (i : Nat) (v : Value) (f : Fr (fun _ => False) wx wy) (h1 : i ≠ a1) (h2 : i ≠ a2) (h3 : i ≠ s1) (h4 : i ≠ s2) : PX tx ty zx zy cx cy a1 a2 s1 s2 w (qupd st i v) wy := by
  refine ⟨h.fr.trans f (fun _ _ h => h), fun u hu => ?_, fun u hu => ?_, fun u hu => ?_⟩
  · rw [qupd_ne _ _ _ _ h1.symm] at hu
    obtain ⟨g, e, hg, hc⟩ := h.p1 u hu
    exact ⟨g, e, hg, by rw [qupd_ne _ _ _ _ h3.symm]; exact kept_box hc f (fun h => h)⟩
  · rw [qupd_ne _ _ _ _ h2.symm] at hu
    obtain ⟨g, e, hg, hc⟩ := h.p2 u hu
    exact ⟨g, e, hg, by rw [qupd_ne _ _ _ _ h4.symm]; exact kept_box hc f (fun h => h)⟩
  · rw [qupd_ne _ _ _ _ h1.symm] at hu
    rw [qupd_ne _ _ _ _ h2.symm]
    exact h.ne u hu

theorem PX.alloc1 (h : PX tx ty zx zy cx cy a1 a2 s1 s2 w st wx) (h0 : st s1 = none) (h2 : a1 ≠ a2) (h3 : a1 ≠ s1) (h4 : a1 ≠ s2) : PX tx ty zx zy cx cy a1 a2 s1 s2 w (qupd st a1 (.pointer (some ⟨wx.heap.size, 0, none⟩))) (wx.alloc (.cells zx tx)) := by
  have f : Fr (fun _ => False) wx (wx.alloc (.cells zx tx)) := (Fr.refl _ _).alloc _
  refine ⟨h.fr.trans f (fun _ _ h => h), fun u hu => ?_, fun u hu => ?_, fun u hu => ?_⟩
  · rw [qupd_at] at hu
    cases hu
    refine ⟨_, rfl, h.fr.size, ?_⟩
    rw [qupd_ne _ _ _ _ h3.symm, h0]
    exact heap_alloc_new wx _
  · rw [qupd_ne _ _ _ _ h2.symm] at hu
    obtain ⟨g, e, hg, hc⟩ := h.p2 u hu
    exact ⟨g, e, hg, by rw [qupd_ne _ _ _ _ h4.symm]; exact kept_box hc f (fun h => h)⟩
  · rw [qupd_at] at hu
    cases hu
    rw [qupd_ne _ _ _ _ h2.symm]
    intro hu
    obtain ⟨g, e, hg, hc⟩ := h.p2 _ hu
    have := qptr_inj e
    have := (Array.getElem?_eq_some_iff.1 hc).1
    omega

theorem PX.alloc2 (h : PX tx ty zx zy cx cy a1 a2 s1 s2 w st wx) (h0 : st s2 = none) (h2 : a1 ≠ a2) (h3 : a2 ≠ s1) (h4 : a2 ≠ s2) : PX tx ty zx zy cx cy a1 a2 s1 s2 w (qupd st a2 (.pointer (some ⟨wx.heap.size, 0, none⟩))) (wx.alloc (.cells zy ty)) := by
  have f : Fr (fun _ => False) wx (wx.alloc (.cells zy ty)) := (Fr.refl _ _).alloc _
  refine ⟨h.fr.trans f (fun _ _ h => h), fun u hu => ?_, fun u hu => ?_, fun u hu => ?_⟩
  · rw [qupd_ne _ _ _ _ h2] at hu
    obtain ⟨g, e, hg, hc⟩ := h.p1 u hu
    exact ⟨g, e, hg, by rw [qupd_ne _ _ _ _ h3.symm]; exact kept_box hc f (fun h => h)⟩
  · rw [qupd_at] at hu
    cases hu
    refine ⟨_, rfl, h.fr.size, ?_⟩
    rw [qupd_ne _ _ _ _ h4.symm, h0]
    exact heap_alloc_new wx _
  · rw [qupd_ne _ _ _ _ h2] at hu
    rw [qupd_at]
    intro hv
    cases hv
    obtain ⟨g, e, hg, hc⟩ := h.p1 _ hu
    have := qptr_inj e
    have := (Array.getElem?_eq_some_iff.1 hc).1
    omega

theorem PX.at1 (h : PX tx ty zx zy cx cy a1 a2 s1 s2 w st wx) (h0 : st s1 = none) {v : Value} (hv : st a1 = some v) : ∃ g, v = .pointer (some ⟨g, 0, none⟩) ∧ wx.heap[g]? = some (.cells zx tx (0, 0)) := by
  obtain ⟨g, e, _, hc⟩ := h.p1 v hv
  rw [h0] at hc
  exact ⟨g, e, hc⟩
theorem PX.at2 (h : PX tx ty zx zy cx cy a1 a2 s1 s2 w st wx) (h0 : st s2 = none) {v : Value} (hv : st a2 = some v) : ∃ g, v = .pointer (some ⟨g, 0, none⟩) ∧ wx.heap[g]? = some (.cells zy ty (0, 0)) := by
  obtain ⟨g, e, _, hc⟩ := h.p2 v hv
  rw [h0] at hc
  exact ⟨g, e, hc⟩

theorem PX.store1 (h : PX tx ty zx zy cx cy a1 a2 s1 s2 w st wx) {g : Nat} (hv : st a1 = some (.pointer (some ⟨g, 0, none⟩))) (u : Value) (h1 : s1 ≠ a1) (h2 : s1 ≠ a2) (h3 : s1 ≠ s2)
    (hy : wy.heap[g]? = some (.cells cx tx (0, 0))) (f : Fr (fun k => k = g) wx wy) : PX tx ty zx zy cx cy a1 a2 s1 s2 w (qupd st s1 u) wy := by
  obtain ⟨g', e, hg, _⟩ := h.p1 _ hv
  obtain rfl := qptr_inj (g := g) e
  refine ⟨h.fr.trans f (fun i hi e => by omega), fun x hx => ?_, fun x hx => ?_, fun x hx => ?_⟩
  · rw [qupd_ne _ _ _ _ h1.symm, hv] at hx
    cases hx
    refine ⟨g, rfl, hg, ?_⟩
    rw [qupd_at]
    exact hy
  · rw [qupd_ne _ _ _ _ h2.symm] at hx
    obtain ⟨g', e, hg', hc⟩ := h.p2 x hx
    refine ⟨g', e, hg', ?_⟩
    rw [qupd_ne _ _ _ _ h3.symm]
    refine kept_box hc f (fun e' => h.ne _ hv ?_)
    rw [hx, e, e']
    rfl
  · rw [qupd_ne _ _ _ _ h1.symm] at hx
    rw [qupd_ne _ _ _ _ h2.symm]
    exact h.ne x hx

theorem PX.store2 (h : PX tx ty zx zy cx cy a1 a2 s1 s2 w st wx) {g : Nat} (hv : st a2 = some (.pointer (some ⟨g, 0, none⟩))) (u : Value) (h1 : s2 ≠ a1) (h2 : s2 ≠ a2) (h3 : s2 ≠ s1)
    (hy : wy.heap[g]? = some (.cells cy ty (0, 0))) (f : Fr (fun k => k = g) wx wy) : PX tx ty zx zy cx cy a1 a2 s1 s2 w (qupd st s2 u) wy := by
  obtain ⟨g', e, hg, _⟩ := h.p2 _ hv
  obtain rfl := qptr_inj (g := g) e
  refine ⟨h.fr.trans f (fun i hi e => by omega), fun x hx => ?_, fun x hx => ?_, fun x hx => ?_⟩
  · rw [qupd_ne _ _ _ _ h1.symm] at hx
    obtain ⟨g', e, hg', hc⟩ := h.p1 x hx
    refine ⟨g', e, hg', ?_⟩
    rw [qupd_ne _ _ _ _ h3.symm]
    refine kept_box hc f (fun e' => h.ne _ hx ?_)
    rw [hv, e, e']
    rfl
  · rw [qupd_ne _ _ _ _ h2.symm, hv] at hx
    cases hx
    refine ⟨g, rfl, hg, ?_⟩
    rw [qupd_at]
    exact hy
  · rw [qupd_ne _ _ _ _ h1.symm] at hx
    rw [qupd_ne _ _ _ _ h2.symm]
    exact h.ne x hx

theorem PX.fin (h : PX tx ty zx zy cx cy a1 a2 s1 s2 w st wx) {x y u v : Value} (e1 : st a1 = some x) (e2 : st a2 = some y) (e3 : st s1 = some u) (e4 : st s2 = some v) : Two w x y cx cy tx ty wx := by
  obtain ⟨g1, e, hg1, hc1⟩ := h.p1 _ e1
  obtain ⟨g2, e', hg2, hc2⟩ := h.p2 _ e2
  rw [e3] at hc1
  rw [e4] at hc2
  refine ⟨g1, g2, e, e', fun hh => h.ne _ e1 (by rw [e2, e, e', hh]), hg1, hg2, h.fr, hc1, hc2⟩
end
end
end Go.Proofs.Ytplipjijaaejlaa
