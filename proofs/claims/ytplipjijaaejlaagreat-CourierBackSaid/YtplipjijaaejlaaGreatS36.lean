/-
  CouBack, part 36 of what it rests on: Put4.
-/
import Derived.Test.YtplipjijaaejlaaGreatS35
set_option linter.unusedVariables false
set_option linter.unusedSimpArgs false
set_option maxHeartbeats 64000000
namespace Go.Proofs.YtplipjijaaejlaaGreat
open Go.RowKit
open Go.Lib (hid)
section
attribute [local go_sem] run_store_float
set_option maxRecDepth 100000

theorem szV_sum (N : Int) (f : Nat) (s : Txt) (c : Nat) (ov : Nat → VT) : szV (.mk N f s c ov) = 1 + sumTo (fun i => szV (ov i)) c := by rw [szV]; rfl

theorem encE_rec (k : Nat) (m : Int) (ns : List Txt) (n : Nat) (of : Nat → KT) (N : Int) (f : Nat) (s : Txt) (c : Nat) (ov : Nat → VT) (hk : k = 6) : encE (.mk k m ns n of) (.mk N f s c ov) = partsB (fun i => encE (of (if k = 5 then 0 else i)) (ov i)) c := by
  subst hk
  simp [encE, partsB]

theorem encE_seq (k : Nat) (m : Int) (ns : List Txt) (n : Nat) (of : Nat → KT) (N : Int) (f : Nat) (s : Txt) (c : Nat) (ov : Nat → VT) (hk : k = 5) : encE (.mk k m ns n of) (.mk N f s c ov) = be2 c ++ partsB (fun i => encE (of (if k = 5 then 0 else i)) (ov i)) c := by
  subst hk
  simp [encE, partsB]

theorem encE_cho (k : Nat) (m : Int) (ns : List Txt) (n : Nat) (of : Nat → KT) (N : Int) (f : Nat) (s : Txt) (ov : Nat → VT) (hk : k = 8) : encE (.mk k m ns n of) (.mk N f s 1 ov) = be2 N.toNat ++ encE (of N.toNat) (ov 0) := by
  subst hk
  simp [encE]

theorem put_k6 (k : Nat) (m : Int) (ns : List Txt) (n : Nat) (of : Nat → KT) (ih : ∀ i, i < n → PutAt (of i)) (hk0 : k = 6) : PutAt (.mk k m ns n of) := by
  intro R0 v vv w T fb q nv l hsh0 hvs0 hgood his hst hR0 hl hq
  obtain ⟨R, hRd⟩ : ∃ R : Nat → Prop, R = fun k => R0 k ∧ k < w.heap.size := ⟨_, rfl⟩
  have hR : ∀ k, R k → k < w.heap.size ∧ k ≠ fb ∧ nv.ownBlock ≠ some k := by rw [hRd]; exact fun k h => ⟨h.2, hR0 k h.1⟩
  have hsh : Shows R w _ v := Shows.mono (fun k hk h => by rw [hRd]; exact ⟨h, hk⟩) _ _ hsh0
  have hvs : VShows R w T vv := VShows.mono (fun k hk h => by rw [hRd]; exact ⟨h, hk⟩) _ _ hvs0
  clear hsh0 hvs0 hR0 hRd
  obtain ⟨N, f, s, c, ov, va, cap, rfl, rfl, hVB, hVK⟩ := vshows_open hvs
  obtain ⟨na, nc, a', c', rfl, hs⟩ := shows_lit hsh
  obtain ⟨hN0, hN1, hf64, hsl, hc5⟩ := hVB
  obtain ⟨⟨hn12, hown⟩, hkids⟩ := hgood
  obtain ⟨-, hmost, hone, hparts, hnames, hnone⟩ := own_facts hown
  obtain ⟨i1, i2, i3, i4, i5, i6, i7, i8, i9, i10⟩ := (isE_iff k m ns n of N f s c ov).1 his
  have hcn : c = n := i8 hk0
  have HGI : Hid (∀ i, i < c → goodE (of (if k = 5 then 0 else i)) ∧ isE (of (if k = 5 then 0 else i)) (ov i) = true) := Lib.hid (fun i hi => by
    have h := i10 i hi
    rw [if_pos hk0] at h
    rw [if_neg (by omega)]
    exact ⟨hkids i (by omega), h⟩)
  have HIN : Hid (∀ i, i < c → (if k = 5 then 0 else i) < n) := Lib.hid (fun i hi => by rw [if_neg (by omega)]; omega)
  have HIH : Hid (∀ i, i < c → PutAt (of (if k = 5 then 0 else i))) := Lib.hid (fun i hi => by rw [if_neg (by omega)]; exact ih i (by omega))
  have HE : Hid (encE (.mk k m ns n of) (.mk N f s c ov) = partsB (fun i => encE (of (if k = 5 then 0 else i)) (ov i)) c ∧ szV (.mk N f s c ov) = 1 + sumTo (fun i => szV (ov i)) c) := Lib.hid ⟨encE_rec k m ns n of N f s c ov hk0, szV_sum N f s c ov⟩
  rw [HE.out.1, HE.out.2]
  rw [HE.out.2] at hq
  obtain ⟨E, hEE⟩ : ∃ E, partsB (fun i => encE (of (if k = 5 then 0 else i)) (ov i)) c = E := ⟨_, rfl⟩
  rw [hEE]
  have HEE := Lib.hid hEE
  clear hEE HE
  have HVK := Lib.hid hVK
  have HC5 := Lib.hid hc5
  clear hVK hs hkids ih hcn
  obtain ⟨OK, hOK⟩ : ∃ OK, decide ((l ++ E).length ≤ 4000) = OK := ⟨_, rfl⟩
  rw [hOK]
  have HOK := Lib.hid hOK
  clear hOK
  have hph := put_head R fb q nv l w #[.int .u8 k, .int .i64 m, .slice na ns.length nc, .slice a' n c'] #[.int .i64 N, .float .f64 f, .string ⟨s.toArray⟩, .slice va c cap] hst hR
  have f1 : Fr (fun _ => False) w ((w.alloc (.cells #[.int .u8 k, .int .i64 m, .slice na ns.length nc, .slice a' n c'] 34)).alloc (.cells #[.int .i64 N, .float .f64 f, .string ⟨s.toArray⟩, .slice va c cap] 39)) := ((Fr.refl _ _).alloc _).alloc _
  obtain ⟨p1, z1⟩ := pk_cells (hst.fr f1 (fun h => h) (fun _ _ h => h))
  have HL := Lib.hid hl
  have HQ := Lib.hid hq
  have hfb1 : fb ≠ w.heap.size := by have := lt_of_block hst.here; omega
  have hfb2 : fb ≠ w.heap.size + 1 := by have := lt_of_block hst.here; omega
  have HSH0 := Lib.hid hsh
  clear hsh hvs hst hR hown i1 i2 i3 i4 i5 i6 i7 i8 i9 i10 hmost hone hparts hnames hnone hl hq his hn12
  have hqw : IntKind.i64.wrap ((q : Int) + 1) = (q : Int) + 1 := by have := HQ.out; rw [IntKind.wrap_i64]; omega
  obtain ⟨qz, hqz⟩ : ∃ qz : Int, (q : Int) + 1 = qz := ⟨_, rfl⟩
  have hbig : ¬ (1048576 : Int) < qz := by have := HQ.out; omega
  rw [hqz] at hph hqw
  have HQZ := Lib.hid hqz
  have HQW := Lib.hid hqw
  clear hqw
  obtain ⟨kz, hkz⟩ : ∃ kz : Int, ((k : Nat) : Int) = kz := ⟨_, rfl⟩
  rw [hkz] at hph f1 p1 z1 ⊢
  have e0 : (kz == 0) = false := by simp; omega
  have e1 : (kz == 1) = false := by simp; omega
  have e7 : (kz == 7) = false := by simp; omega
  have e2 : (kz == 2) = false := by simp; omega
  have e3 : (kz == 3) = false := by simp; omega
  have e4 : (kz == 4) = false := by simp; omega
  have e5 : (kz == 5) = false := by simp; omega
  have e6 : (kz == 6) = true := by simp; omega
  have e8 : (kz == 8) = false := by simp; omega
  have HKZ := Lib.hid hkz
  clear hkz hk0
  unfold sv
  go_enter Tryz.func31, Tryz.ntmps31
  go_upto_region 1 with fail
  obtain ⟨w1, hw1⟩ : ∃ w1, (w.alloc (.cells #[.int .u8 kz, .int .i64 m, .slice na ns.length nc, .slice a' n c'] 34)).alloc (.cells #[.int .i64 N, .float .f64 f, .string ⟨s.toArray⟩, .slice va c cap] 39) = w1 := ⟨_, rfl⟩
  rw [hw1] at hph f1 p1 z1 ⊢
  clear hw1
  obtain ⟨vb, hvb⟩ : ∃ vb, w.heap.size + 1 = vb := ⟨_, rfl⟩
  rw [hvb] at hph hfb2 ⊢
  obtain ⟨tb, htb⟩ : ∃ tb, w.heap.size = tb := ⟨_, rfl⟩
  rw [htb] at hph hfb1 ⊢
  clear hvb htb
  have F1 := Lib.hid f1
  clear f1
  go_upto_region 2 with fail
  try rw [hqz]
  clear p1 z1 hqz
  generalize w1.setCell ⟨fb, 1, none⟩ (.int .i64 qz) = w2 at *
  obtain ⟨p1, z1⟩ := pk_cells hph.fr.1
  rw [show (((q + 1 : Nat) : Nat) : Int) = qz from by rw [← HQZ.out]; omega] at p1
  obtain ⟨c0, c1, c2, c3⟩ := cell_of_four hph.tbox
  obtain ⟨d0, d1, d2, d3⟩ := cell_of_four hph.vbox
  have HPH := Lib.hid hph
  clear hph
  have hshz : Shows R w (.mk k m ns n of) (.agg #[.int .u8 kz, .int .i64 m, .slice na ns.length nc, .slice a' n c']) := by rw [← HKZ.out]; exact HSH0.out
  have hoffR : ∀ x, R x → ¬ (x = fb ∨ nv.ownBlock = some x) := fun x hx h => by
    rcases h with h | h
    · exact (HPH.out.roff x hx).2.1 h
    · exact (HPH.out.roff x hx).2.2 h
  have HCALL := Lib.hid (peach_any k m ns n of c ov HIH.out R _ w2 fb (q + 1) nv l va cap (Shows.fr HPH.out.fr.2.1 hoffR _ _ hshz) (HVK.out.fr HPH.out.fr.2.1 hoffR) HIN.out HGI.out HPH.out.fr.1 (fun x hx => (HPH.out.roff x hx).2) HL.out (by have := HQ.out; omega) HC5.out)
  rw [HEE.out] at HCALL
  clear hshz hoffR
  go_wp2_with fail
  refine HCALL.out.mono ?_
  rintro e w3 ⟨rfl, nv2, l2, q2, hp, hok⟩
  have HP : Hid (PkIn fb nv w q2 nv2 l2 w3) := Lib.hid (HPH.out.fr.trans hp)
  have HK := Lib.hid hok
  rw [HOK.out]
  clear hp hok c0 c1 c2 c3 d0 d1 d2 d3 p1 z1
  go_wp2_with fail
  go_ret
  refine ⟨rfl, nv2, l2, q2, HP.out, fun h => ?_⟩
  obtain ⟨e1, e2⟩ := HK.out (by rw [HOK.out]; exact h)
  exact ⟨e1, by rw [e2]; omega⟩

theorem put_k5 (k : Nat) (m : Int) (ns : List Txt) (n : Nat) (of : Nat → KT) (ih : ∀ i, i < n → PutAt (of i)) (hk0 : k = 5) : PutAt (.mk k m ns n of) := by
  intro R0 v vv w T fb q nv l hsh0 hvs0 hgood his hst hR0 hl hq
  obtain ⟨R, hRd⟩ : ∃ R : Nat → Prop, R = fun k => R0 k ∧ k < w.heap.size := ⟨_, rfl⟩
  have hR : ∀ k, R k → k < w.heap.size ∧ k ≠ fb ∧ nv.ownBlock ≠ some k := by rw [hRd]; exact fun k h => ⟨h.2, hR0 k h.1⟩
  have hsh : Shows R w _ v := Shows.mono (fun k hk h => by rw [hRd]; exact ⟨h, hk⟩) _ _ hsh0
  have hvs : VShows R w T vv := VShows.mono (fun k hk h => by rw [hRd]; exact ⟨h, hk⟩) _ _ hvs0
  clear hsh0 hvs0 hR0 hRd
  obtain ⟨N, f, s, c, ov, va, cap, rfl, rfl, hVB, hVK⟩ := vshows_open hvs
  obtain ⟨na, nc, a', c', rfl, hs⟩ := shows_lit hsh
  obtain ⟨hN0, hN1, hf64, hsl, hc5⟩ := hVB
  obtain ⟨⟨hn12, hown⟩, hkids⟩ := hgood
  obtain ⟨-, hmost, hone, hparts, hnames, hnone⟩ := own_facts hown
  obtain ⟨i1, i2, i3, i4, i5, i6, i7, i8, i9, i10⟩ := (isE_iff k m ns n of N f s c ov).1 his
  have hn1 : n = 1 := hone hk0
  have hc60 : c ≤ 60 := by have h1 := i7 hk0; have h2 := hmost (by omega); omega
  have HGI : Hid (∀ i, i < c → goodE (of (if k = 5 then 0 else i)) ∧ isE (of (if k = 5 then 0 else i)) (ov i) = true) := Lib.hid (fun i hi => by
    have h := i10 i hi
    rw [if_neg (by omega), if_neg (by omega)] at h
    rw [if_pos hk0]
    exact ⟨hkids 0 (by omega), h⟩)
  have HIN : Hid (∀ i, i < c → (if k = 5 then 0 else i) < n) := Lib.hid (fun i hi => by rw [if_pos hk0]; omega)
  have HIH : Hid (∀ i, i < c → PutAt (of (if k = 5 then 0 else i))) := Lib.hid (fun i hi => by rw [if_pos hk0]; exact ih 0 (by omega))
  have HE : Hid (encE (.mk k m ns n of) (.mk N f s c ov) = be2 c ++ partsB (fun i => encE (of (if k = 5 then 0 else i)) (ov i)) c ∧ szV (.mk N f s c ov) = 1 + sumTo (fun i => szV (ov i)) c) := Lib.hid ⟨encE_seq k m ns n of N f s c ov hk0, szV_sum N f s c ov⟩
  rw [HE.out.1, HE.out.2]
  rw [HE.out.2] at hq
  obtain ⟨E, hEE⟩ : ∃ E, partsB (fun i => encE (of (if k = 5 then 0 else i)) (ov i)) c = E := ⟨_, rfl⟩
  rw [hEE]
  have HEE := Lib.hid hEE
  clear hEE HE
  have HVK := Lib.hid hVK
  have HC5 := Lib.hid hc5
  have HC60 := Lib.hid hc60
  clear hVK hs hkids ih hn1 hc60
  obtain ⟨OK, hOK⟩ : ∃ OK, decide ((l ++ (be2 c ++ E)).length ≤ 4000) = OK := ⟨_, rfl⟩
  rw [hOK]
  have HOK := Lib.hid hOK
  clear hOK
  have hph := put_head R fb q nv l w #[.int .u8 k, .int .i64 m, .slice na ns.length nc, .slice a' n c'] #[.int .i64 N, .float .f64 f, .string ⟨s.toArray⟩, .slice va c cap] hst hR
  have f1 : Fr (fun _ => False) w ((w.alloc (.cells #[.int .u8 k, .int .i64 m, .slice na ns.length nc, .slice a' n c'] 34)).alloc (.cells #[.int .i64 N, .float .f64 f, .string ⟨s.toArray⟩, .slice va c cap] 39)) := ((Fr.refl _ _).alloc _).alloc _
  obtain ⟨p1, z1⟩ := pk_cells (hst.fr f1 (fun h => h) (fun _ _ h => h))
  have HL := Lib.hid hl
  have HQ := Lib.hid hq
  have hfb1 : fb ≠ w.heap.size := by have := lt_of_block hst.here; omega
  have hfb2 : fb ≠ w.heap.size + 1 := by have := lt_of_block hst.here; omega
  have HSH0 := Lib.hid hsh
  clear hsh hvs hst hR hown i1 i2 i3 i4 i5 i6 i7 i8 i9 i10 hmost hone hparts hnames hnone hl hq his hn12
  have hqw : IntKind.i64.wrap ((q : Int) + 1) = (q : Int) + 1 := by have := HQ.out; rw [IntKind.wrap_i64]; omega
  obtain ⟨qz, hqz⟩ : ∃ qz : Int, (q : Int) + 1 = qz := ⟨_, rfl⟩
  have hbig : ¬ (1048576 : Int) < qz := by have := HQ.out; omega
  rw [hqz] at hph hqw
  have HQZ := Lib.hid hqz
  have HQW := Lib.hid hqw
  clear hqw
  obtain ⟨kz, hkz⟩ : ∃ kz : Int, ((k : Nat) : Int) = kz := ⟨_, rfl⟩
  rw [hkz] at hph f1 p1 z1 ⊢
  have e0 : (kz == 0) = false := by simp; omega
  have e1 : (kz == 1) = false := by simp; omega
  have e7 : (kz == 7) = false := by simp; omega
  have e2 : (kz == 2) = false := by simp; omega
  have e3 : (kz == 3) = false := by simp; omega
  have e4 : (kz == 4) = false := by simp; omega
  have e5 : (kz == 5) = true := by simp; omega
  have e6 : (kz == 6) = false := by simp; omega
  have e8 : (kz == 8) = false := by simp; omega
  have HKZ := Lib.hid hkz
  clear hkz hk0
  unfold sv
  go_enter Tryz.func31, Tryz.ntmps31
  go_upto_region 1 with fail
  obtain ⟨w1, hw1⟩ : ∃ w1, (w.alloc (.cells #[.int .u8 kz, .int .i64 m, .slice na ns.length nc, .slice a' n c'] 34)).alloc (.cells #[.int .i64 N, .float .f64 f, .string ⟨s.toArray⟩, .slice va c cap] 39) = w1 := ⟨_, rfl⟩
  rw [hw1] at hph f1 p1 z1 ⊢
  clear hw1
  obtain ⟨vb, hvb⟩ : ∃ vb, w.heap.size + 1 = vb := ⟨_, rfl⟩
  rw [hvb] at hph hfb2 ⊢
  obtain ⟨tb, htb⟩ : ∃ tb, w.heap.size = tb := ⟨_, rfl⟩
  rw [htb] at hph hfb1 ⊢
  clear hvb htb
  have F1 := Lib.hid f1
  clear f1
  go_upto_region 2 with fail
  try rw [hqz]
  clear p1 z1 hqz
  generalize w1.setCell ⟨fb, 1, none⟩ (.int .i64 qz) = w2 at *
  obtain ⟨p1, z1⟩ := pk_cells hph.fr.1
  rw [show (((q + 1 : Nat) : Nat) : Int) = qz from by rw [← HQZ.out]; omega] at p1
  obtain ⟨c0, c1, c2, c3⟩ := cell_of_four hph.tbox
  obtain ⟨d0, d1, d2, d3⟩ := cell_of_four hph.vbox
  have HPH := Lib.hid hph
  clear hph
  have hshz : Shows R w (.mk k m ns n of) (.agg #[.int .u8 kz, .int .i64 m, .slice na ns.length nc, .slice a' n c']) := by rw [← HKZ.out]; exact HSH0.out
  have hoffR : ∀ x, R x → ¬ (x = fb ∨ nv.ownBlock = some x) := fun x hx h => by
    rcases h with h | h
    · exact (HPH.out.roff x hx).2.1 h
    · exact (HPH.out.roff x hx).2.2 h
  have HSH2 := Lib.hid (Shows.fr HPH.out.fr.2.1 hoffR _ _ hshz)
  have HVK2 := Lib.hid (HVK.out.fr HPH.out.fr.2.1 hoffR)
  clear hshz hoffR
  go_wp2_with fail
  refine (pkword_any fb (q + 1) nv l c (by omega) (by have := HC60.out; omega) _ HPH.out.fr.1 HL.out).mono ?_
  rintro e w3 ⟨rfl, nv1, h2, h3, h4⟩
  rw [Int.toNat_natCast] at h2
  have H3 : Hid (PkIn fb nv w2 (q + 1) nv1 (l ++ be2 c) w3) := Lib.hid ⟨h2, h3, h4⟩
  clear h2 h3 h4 c0 c1 c2 c3 d0 d1 d2 d3 p1 z1
  have hoffR : ∀ x, R x → ¬ (x = fb ∨ nv.ownBlock = some x) := fun x hx h => by
    rcases h with h | h
    · exact (HPH.out.roff x hx).2.1 h
    · exact (HPH.out.roff x hx).2.2 h
  obtain ⟨c0, c1, c2, c3⟩ := cell_of_four (box_kept HPH.out.tbox H3.out.2.1 (fun h => by rcases h with h | h; exact HPH.out.toff.2.1 h; exact HPH.out.toff.2.2 h))
  obtain ⟨d0, d1, d2, d3⟩ := cell_of_four (box_kept HPH.out.vbox H3.out.2.1 (fun h => by rcases h with h | h; exact HPH.out.voff.2.1 h; exact HPH.out.voff.2.2 h))
  by_cases hfit : l.length + 2 ≤ 4000
  · rw [decide_eq_true hfit]
    have HCALL := Lib.hid (peach_any k m ns n of c ov HIH.out R _ w3 fb (q + 1) nv1 (l ++ be2 c) va cap (Shows.fr H3.out.2.1 hoffR _ _ HSH2.out) (HVK2.out.fr H3.out.2.1 hoffR) HIN.out HGI.out H3.out.1 (fun x hx => by
        have h := H3.out.off (HPH.out.roff x hx).1 (HPH.out.roff x hx).2.1 (HPH.out.roff x hx).2.2
        exact ⟨fun e => h (.inl e), fun e => h (.inr e)⟩) (by rw [List.length_append, be2_length]; exact hfit) (by have := HQ.out; omega) HC5.out)
    rw [HEE.out] at HCALL
    clear hfit hoffR
    go_wp2_with fail
    refine HCALL.out.mono ?_
    rintro e w4 ⟨rfl, nv2, l2, q2, hp, hok⟩
    have HP : Hid (PkIn fb nv w q2 nv2 l2 w4) := Lib.hid ((HPH.out.fr.trans H3.out).trans hp)
    have HOK2 : Hid (decide ((l ++ be2 c ++ E).length ≤ 4000) = OK) := Lib.hid (by rw [← HOK.out, List.append_assoc])
    have HK := Lib.hid hok
    rw [HOK2.out]
    clear hp hok c0 c1 c2 c3 d0 d1 d2 d3
    go_wp2_with fail
    go_ret
    refine ⟨rfl, nv2, l2, q2, HP.out, fun h => ?_⟩
    obtain ⟨e1, e2⟩ := HK.out (by rw [HOK2.out]; exact h)
    exact ⟨by rw [e1, List.append_assoc], by rw [e2]; omega⟩
  · rw [decide_eq_false hfit]
    have HNO : Hid (OK = false) := Lib.hid (by
      rw [← HOK.out]
      refine decide_eq_false (fun h => hfit ?_)
      rw [List.length_append, List.length_append, be2_length] at h
      omega)
    have HP : Hid (PkIn fb nv w (q + 1) nv1 (l ++ be2 c) w3) := Lib.hid (HPH.out.fr.trans H3.out)
    clear hfit hoffR
    go_wp2_with fail
    go_ret
    exact ⟨by rw [HNO.out]; rfl, nv1, _, _, HP.out, fun h => by rw [HNO.out] at h; cases h⟩

/-- While a choice's value is put. -/
def ChoS (fb : Nat) (nv : Value) (w2 : World) (c : Nat) (l l1 : List UInt8) (ok : Bool) (l2 : List UInt8) (c2 : Nat) : List Value → World → Prop
  | [], wx => PkIn fb nv w2 c nv l wx
  | [_], wx => ∃ nv1, PkIn fb nv w2 c nv1 l1 wx
  | [_, _], wx => ∃ nv1, PkIn fb nv w2 c nv1 l1 wx
  | _, wx => PkEnd fb nv w2 wx ok l2 c2
theorem ChoS.fr {fb : Nat} {nv : Value} {w2 : World} {c : Nat} {l l1 : List UInt8} {ok : Bool} {l2 : List UInt8} {c2 : Nat} {cvs : List Value} {wx : World} (h : ChoS fb nv w2 c l l1 ok l2 c2 cvs wx) : Fr (fun k => k = fb ∨ nv.ownBlock = some k) w2 wx := by
  unfold ChoS at h
  split at h
  · exact h.2.1
  · obtain ⟨_, h⟩ := h; exact h.2.1
  · obtain ⟨_, h⟩ := h; exact h.2.1
  · obtain ⟨_, _, _, h, _⟩ := h; exact h.2.1

theorem put_k8 (k : Nat) (m : Int) (ns : List Txt) (n : Nat) (of : Nat → KT) (ih : ∀ i, i < n → PutAt (of i)) (hk0 : k = 8) : PutAt (.mk k m ns n of) := by
  intro R0 v vv w T fb q nv l hsh0 hvs0 hgood his hst hR0 hl hq
  obtain ⟨R, hRd⟩ : ∃ R : Nat → Prop, R = fun k => R0 k ∧ k < w.heap.size := ⟨_, rfl⟩
  have hR : ∀ k, R k → k < w.heap.size ∧ k ≠ fb ∧ nv.ownBlock ≠ some k := by rw [hRd]; exact fun k h => ⟨h.2, hR0 k h.1⟩
  have hsh : Shows R w _ v := Shows.mono (fun k hk h => by rw [hRd]; exact ⟨h, hk⟩) _ _ hsh0
  have hvs : VShows R w T vv := VShows.mono (fun k hk h => by rw [hRd]; exact ⟨h, hk⟩) _ _ hvs0
  clear hsh0 hvs0 hR0 hRd
  obtain ⟨N, f, s, c, ov, va, cap, rfl, rfl, hVB, hVK⟩ := vshows_open hvs
  obtain ⟨na, nc, a', c', rfl, hs⟩ := shows_lit hsh
  obtain ⟨hN0, hN1, hf64, hsl, hc5⟩ := hVB
  obtain ⟨⟨hn12, hown⟩, hkids⟩ := hgood
  obtain ⟨-, hmost, hone, hparts, hnames, hnone⟩ := own_facts hown
  obtain ⟨i1, i2, i3, i4, i5, i6, i7, i8, i9, i10⟩ := (isE_iff k m ns n of N f s c ov).1 his
  have hc1 : c = 1 := i9 hk0
  subst hc1
  have hNa : 0 ≤ N := by simpa [lowE, hk0] using i4
  obtain ⟨NN, rfl⟩ := Int.eq_ofNat_of_zero_le hNa
  have hNb : NN < n := by
    have h := i5
    simp [highE, hk0] at h
    omega
  have hgi : goodE (of NN) ∧ isE (of NN) (ov 0) = true := by
    have h := i10 0 (by omega)
    rw [if_neg (by omega), if_pos hk0, Int.toNat_natCast] at h
    exact ⟨hkids NN hNb, h⟩
  have HGI := Lib.hid hgi
  have HIH := Lib.hid (ih NN hNb)
  have HE : Hid (encE (.mk k m ns n of) (.mk (NN : Int) f s 1 ov) = be2 NN ++ encE (of NN) (ov 0) ∧ szV (.mk (NN : Int) f s 1 ov) = 1 + szV (ov 0)) := Lib.hid ⟨by have := encE_cho k m ns n of (NN : Int) f s ov hk0; rwa [Int.toNat_natCast] at this, by rw [szV_sum]; simp [sumTo]⟩
  rw [HE.out.1, HE.out.2]
  rw [HE.out.2] at hq
  have HNB : Hid (NN < n ∧ n ≤ 12) := Lib.hid ⟨hNb, hn12⟩
  rcases hs with hz | ⟨hcap, g, off, hg, rfl, hcell⟩
  · omega
  rcases hVK with hz | ⟨hvcap, gv, ov', hgv, rfl, hvcell⟩
  · omega
  obtain ⟨x0, x1, x2, x3, y0, y1, y2, y3, hx⟩ := hcell NN hNb
  obtain ⟨s0, s1, s2, s3, r0, r1, r2, r3, hsv⟩ := hvcell 0 (by omega)
  obtain ⟨xk, xm, xa, xn, xc, xa', xn', xc', rfl, rfl, rfl, rfl⟩ := hx.cells
  obtain ⟨zn, zf, zs, za, zc, zcap, es⟩ := hsv.lit
  simp only [Value.agg.injEq, Array.mk.injEq, List.cons.injEq, and_true] at es
  obtain ⟨rfl, rfl, rfl, rfl⟩ := es
  simp only [Nat.zero_mul, Nat.add_zero] at r0 r1 r2 r3
  have HY := Lib.hid (And.intro hg (And.intro y0 (And.intro y1 (And.intro y2 y3))))
  have HZ := Lib.hid (And.intro hgv (And.intro r0 (And.intro r1 (And.intro r2 r3))))
  have HX := Lib.hid (And.intro hx hsv)
  clear hcell hvcell hx hsv y0 y1 y2 y3 r0 r1 r2 r3 hkids ih hgi hNa hNb hcap hvcap
  obtain ⟨OK, hOK⟩ : ∃ OK, decide ((l ++ (be2 NN ++ encE (of NN) (ov 0))).length ≤ 4000) = OK := ⟨_, rfl⟩
  rw [hOK]
  have HOK := Lib.hid hOK
  clear hOK
  have hph := put_head R fb q nv l w #[.int .u8 k, .int .i64 m, .slice na ns.length nc, .slice (some ⟨g, off, none⟩) n c'] #[.int .i64 (NN : Int), .float .f64 f, .string ⟨s.toArray⟩, .slice (some ⟨gv, ov', none⟩) 1 cap] hst hR
  have f1 : Fr (fun _ => False) w ((w.alloc (.cells #[.int .u8 k, .int .i64 m, .slice na ns.length nc, .slice (some ⟨g, off, none⟩) n c'] 34)).alloc (.cells #[.int .i64 (NN : Int), .float .f64 f, .string ⟨s.toArray⟩, .slice (some ⟨gv, ov', none⟩) 1 cap] 39)) := ((Fr.refl _ _).alloc _).alloc _
  obtain ⟨p1, z1⟩ := pk_cells (hst.fr f1 (fun h => h) (fun _ _ h => h))
  have HL := Lib.hid hl
  have HQ := Lib.hid hq
  have hfb1 : fb ≠ w.heap.size := by have := lt_of_block hst.here; omega
  have hfb2 : fb ≠ w.heap.size + 1 := by have := lt_of_block hst.here; omega
  have HSH0 := Lib.hid hsh
  clear hsh hvs hst hR hown i1 i2 i3 i4 i5 i6 i7 i8 i9 i10 hmost hone hparts hnames hnone hl hq his hn12
  have hqw : IntKind.i64.wrap ((q : Int) + 1) = (q : Int) + 1 := by have := HQ.out; rw [IntKind.wrap_i64]; omega
  obtain ⟨qz, hqz⟩ : ∃ qz : Int, (q : Int) + 1 = qz := ⟨_, rfl⟩
  have hbig : ¬ (1048576 : Int) < qz := by have := HQ.out; omega
  rw [hqz] at hph hqw
  have HQZ := Lib.hid hqz
  have HQW := Lib.hid hqw
  clear hqw
  obtain ⟨kz, hkz⟩ : ∃ kz : Int, ((k : Nat) : Int) = kz := ⟨_, rfl⟩
  rw [hkz] at hph f1 p1 z1 ⊢
  have e0 : (kz == 0) = false := by simp; omega
  have e1 : (kz == 1) = false := by simp; omega
  have e7 : (kz == 7) = false := by simp; omega
  have e2 : (kz == 2) = false := by simp; omega
  have e3 : (kz == 3) = false := by simp; omega
  have e4 : (kz == 4) = false := by simp; omega
  have e5 : (kz == 5) = false := by simp; omega
  have e6 : (kz == 6) = false := by simp; omega
  have e8 : (kz == 8) = true := by simp; omega
  have HKZ := Lib.hid hkz
  clear hkz hk0
  unfold sv
  go_enter Tryz.func31, Tryz.ntmps31
  go_upto_region 1 with fail
  obtain ⟨w1, hw1⟩ : ∃ w1, (w.alloc (.cells #[.int .u8 kz, .int .i64 m, .slice na ns.length nc, .slice (some ⟨g, off, none⟩) n c'] 34)).alloc (.cells #[.int .i64 (NN : Int), .float .f64 f, .string ⟨s.toArray⟩, .slice (some ⟨gv, ov', none⟩) 1 cap] 39) = w1 := ⟨_, rfl⟩
  rw [hw1] at hph f1 p1 z1 ⊢
  clear hw1
  obtain ⟨vb, hvb⟩ : ∃ vb, w.heap.size + 1 = vb := ⟨_, rfl⟩
  rw [hvb] at hph hfb2 ⊢
  obtain ⟨tb, htb⟩ : ∃ tb, w.heap.size = tb := ⟨_, rfl⟩
  rw [htb] at hph hfb1 ⊢
  clear hvb htb
  have F1 := Lib.hid f1
  clear f1
  go_upto_region 2 with fail
  try rw [hqz]
  clear p1 z1 hqz
  generalize w1.setCell ⟨fb, 1, none⟩ (.int .i64 qz) = w2 at *
  obtain ⟨p1, z1⟩ := pk_cells hph.fr.1
  rw [show (((q + 1 : Nat) : Nat) : Int) = qz from by rw [← HQZ.out]; omega] at p1
  obtain ⟨c0, c1, c2, c3⟩ := cell_of_four hph.tbox
  obtain ⟨d0, d1, d2, d3⟩ := cell_of_four hph.vbox
  have HPH := Lib.hid hph
  clear hph
  have hnb0 : (NN : Int) < (n : Int) := by have := HNB.out; omega
  have hoffR : ∀ x, R x → ¬ (x = fb ∨ nv.ownBlock = some x) := fun x hx h => by
    rcases h with h | h
    · exact (HPH.out.roff x hx).2.1 h
    · exact (HPH.out.roff x hx).2.2 h
  have HOR := Lib.hid hoffR
  have HOG : Hid (¬ (g = fb ∨ nv.ownBlock = some g)) := Lib.hid (hoffR g HY.out.1)
  have HOV : Hid (¬ (gv = fb ∨ nv.ownBlock = some gv)) := Lib.hid (hoffR gv HZ.out.1)
  have HYZ : Hid ((w2.cell? ⟨g, off + NN * 4, none⟩ = some (.int .u8 xk) ∧ w2.cell? ⟨g, off + NN * 4 + 1, none⟩ = some (.int .i64 xm) ∧ w2.cell? ⟨g, off + NN * 4 + 2, none⟩ = some (.slice xa xn xc) ∧ w2.cell? ⟨g, off + NN * 4 + 3, none⟩ = some (.slice xa' xn' xc')) ∧
      (w2.cell? ⟨gv, ov', none⟩ = some (.int .i64 zn) ∧ w2.cell? ⟨gv, ov' + 1, none⟩ = some (.float .f64 zf) ∧ w2.cell? ⟨gv, ov' + 2, none⟩ = some (.string zs) ∧ w2.cell? ⟨gv, ov' + 3, none⟩ = some (.slice za zc zcap))) := Lib.hid
    ⟨⟨cell_fr HPH.out.fr.2.1 hoffR HY.out.1 HY.out.2.1, cell_fr HPH.out.fr.2.1 hoffR HY.out.1 HY.out.2.2.1, cell_fr HPH.out.fr.2.1 hoffR HY.out.1 HY.out.2.2.2.1, cell_fr HPH.out.fr.2.1 hoffR HY.out.1 HY.out.2.2.2.2⟩,
     ⟨cell_fr HPH.out.fr.2.1 hoffR HZ.out.1 HZ.out.2.1, cell_fr HPH.out.fr.2.1 hoffR HZ.out.1 HZ.out.2.2.1, cell_fr HPH.out.fr.2.1 hoffR HZ.out.1 HZ.out.2.2.2.1, cell_fr HPH.out.fr.2.1 hoffR HZ.out.1 HZ.out.2.2.2.2⟩⟩
  have HX2 : Hid (Shows R w2 (of NN) (.agg #[.int .u8 xk, .int .i64 xm, .slice xa xn xc, .slice xa' xn' xc']) ∧ VShows R w2 (ov 0) (.agg #[.int .i64 zn, .float .f64 zf, .string zs, .slice za zc zcap])) := Lib.hid ⟨Shows.fr HPH.out.fr.2.1 hoffR _ _ HX.out.1, VShows.fr HPH.out.fr.2.1 hoffR _ _ HX.out.2⟩
  clear hoffR
  go_upto_region 20 with fail
  clear c0 c1 c2 c3 d0 d1 d2 d3 p1 z1
  have HFIT : Hid (l.length + 2 ≤ 4000 ∨ OK = false) := Lib.hid (by
    by_cases h : l.length + 2 ≤ 4000
    · exact .inl h
    · right
      rw [← HOK.out]
      refine decide_eq_false (fun h' => h ?_)
      rw [List.length_append, List.length_append, be2_length] at h'
      omega)
  by_cases hfit : l.length + 2 ≤ 4000
  · have HF1 := Lib.hid hfit
    clear hfit
    refine wp_region_chain (by kernel_rfl) [some 76, some 77, some 78, some 79, some 80, some 81, some 82, some 83, some 84, some 85, some 86, some 87, some 88, some 89, some 90, some 91, some 92, some 93, some 6] rfl (by decide) (by intro d hd; simp at hd ⊢; omega)
      [3, 4, 16] (fun cvs wx => ChoS fb nv w2 (q + 1) l (l ++ be2 NN) OK (l ++ be2 NN ++ encE (of NN) (ov 0)) (q + 1 + szV (ov 0)) cvs wx)
      [.free (.pointer (some ⟨fb, 0, none⟩)), .free (.pointer (some ⟨vb, 0, none⟩)), .free (.int .i64 (NN : Int)), .link (some (.bool true)), .link (some (.bool true)), .free (.pointer (some ⟨fb, 0, none⟩)), .free (.pointer (some ⟨tb, 3, none⟩)), .free (.slice (some ⟨g, off, none⟩) n c'), .free (.pointer (some ⟨vb, 0, none⟩)), .free (.int .i64 (NN : Int)), .free (.pointer (some ⟨g, off + NN * 4, none⟩)), .free (.agg #[.int .u8 xk, .int .i64 xm, .slice xa xn xc, .slice xa' xn' xc']), .free (.pointer (some ⟨vb, 3, none⟩)), .free (.slice (some ⟨gv, ov', none⟩) 1 cap), .free (.pointer (some ⟨gv, ov', none⟩)), .free (.agg #[.int .i64 zn, .float .f64 zf, .string zs, .slice za zc zcap]), .link (some (.bool OK)), .free (.bool OK), .free (.bool OK)]
      (by kernel_rfl) (by kernel_rfl) ?h20a ?step20a ?fin20a
    case h20a => exact (PkIn.start HPH.out.fr.1).quiet (Fr.refl _ _).drew
    case step20a =>
      intro vals
      simp only [frOfU, fillU, List.setIfInBounds_toArray, List.set_cons_succ, List.set_cons_zero]
      repeat' (first | exact AllOps.nil | refine AllOps.cons ?_ ?_)
      all_goals
        intro cvs wx hS he hu hlim Kc hK
        simp only [Act.put, List.setIfInBounds_toArray, List.set_cons_succ, List.set_cons_zero, List.getD_cons_zero, List.getD_cons_succ] at hK
        simp only [List.mem_cons, List.not_mem_nil, or_false, forall_eq_or_imp, forall_eq, Region.binds, forall_const, pmode_gc, Bool.false_eq_true, false_imp_iff, List.getD_cons_zero, List.getD_cons_succ, OpSort.val, Option.some.injEq, forall_eq', reduceCtorEq, implies_true, true_and, and_true] at he
        have hfr := ChoS.fr hS
        obtain ⟨u0, u1, u2, u3⟩ := cell_of_four (box_kept HPH.out.vbox hfr (fun h => by rcases h with h | h; exact HPH.out.voff.2.1 h; exact HPH.out.voff.2.2 h))
        obtain ⟨t0, t1, t2, t3⟩ := cell_of_four (box_kept HPH.out.tbox hfr (fun h => by rcases h with h | h; exact HPH.out.toff.2.1 h; exact HPH.out.toff.2.2 h))
        have y0 := cell_fr (R := fun k => k = g) hfr (fun k hk => by rw [hk]; exact HOG.out) rfl HYZ.out.1.1
        have y1 := cell_fr (R := fun k => k = g) hfr (fun k hk => by rw [hk]; exact HOG.out) rfl HYZ.out.1.2.1
        have y2 := cell_fr (R := fun k => k = g) hfr (fun k hk => by rw [hk]; exact HOG.out) rfl HYZ.out.1.2.2.1
        have y3 := cell_fr (R := fun k => k = g) hfr (fun k hk => by rw [hk]; exact HOG.out) rfl HYZ.out.1.2.2.2
        have v0 := cell_fr (R := fun k => k = gv) hfr (fun k hk => by rw [hk]; exact HOV.out) rfl HYZ.out.2.1
        have v1 := cell_fr (R := fun k => k = gv) hfr (fun k hk => by rw [hk]; exact HOV.out) rfl HYZ.out.2.2.1
        have v2 := cell_fr (R := fun k => k = gv) hfr (fun k hk => by rw [hk]; exact HOV.out) rfl HYZ.out.2.2.2.1
        have v3 := cell_fr (R := fun k => k = gv) hfr (fun k hk => by rw [hk]; exact HOV.out) rfl HYZ.out.2.2.2.2
        clear hfr
        have HSX := Lib.hid hS
        clear hS
      all_goals first | (clear hlim hu; (try simp only [he] at hK ⊢); go_simp; exact hK) | skip
      · obtain rfl := hlim (0 : Nat) rfl
        have h1 : PkIn fb nv w2 (q + 1) nv l wx := HSX.out
        have H1 := Lib.hid h1
        clear hlim hu HSX h1 u0 u1 u2 u3 t0 t1 t2 t3 y0 y1 y2 y3 v0 v1 v2 v3
        simp only [he] at hK ⊢
        clear he
        go_simp
        go_at_call 49
        refine (pkword_any fb (q + 1) nv l (NN : Int) (by omega) (by have := HNB.out; omega) _ H1.out.1 HL.out).mono ?_
        rintro e1 wb ⟨rfl, nv2, h2, h3, h4⟩
        rw [Int.toNat_natCast] at h2
        rw [decide_eq_true HF1.out]
        exact hK _ _ (fun _ h => by cases h; rfl) ⟨nv2, H1.out.trans ⟨h2, h3, h4⟩⟩
      · obtain rfl := hlim (1 : Nat) rfl
        have h1 := HSX.out
        clear HSX hlim hu u0 u1 u2 u3 t0 t1 t2 t3 y0 y1 y2 y3 v0 v1 v2 v3
        simp only [List.take_succ_cons, List.take_zero, List.map_cons, List.map_nil] at h1 hK
        simp only [he] at hK ⊢
        clear he
        go_simp
        exact hK _ _ (fun _ h => by cases h; rfl) h1
      · obtain rfl := hlim (2 : Nat) rfl
        have h1 := HSX.out
        clear HSX hlim hu u0 u1 u2 u3 t0 t1 t2 t3 y0 y1 y2 y3 v0 v1 v2 v3
        simp only [List.take_succ_cons, List.take_zero, List.map_cons, List.map_nil] at h1 hK
        obtain ⟨nv1, h2⟩ : ∃ nv1, PkIn fb nv w2 (q + 1) nv1 (l ++ be2 NN) wx := h1
        have H2 := Lib.hid h2
        clear h2
        simp only [he] at hK ⊢
        clear he
        go_simp
        go_at_call 31
        refine (HIH.out R _ _ wx (ov 0) fb (q + 1) nv1 (l ++ be2 NN) (Shows.fr H2.out.2.1 HOR.out _ _ HX2.out.1) (VShows.fr H2.out.2.1 HOR.out _ _ HX2.out.2) HGI.out.1 HGI.out.2 H2.out.1 (fun x hx => by
          have h := H2.out.off (HPH.out.roff x hx).1 (HPH.out.roff x hx).2.1 (HPH.out.roff x hx).2.2
          exact ⟨fun e => h (.inl e), fun e => h (.inr e)⟩) (by rw [List.length_append, be2_length]; exact HF1.out) (by have := HQ.out; omega)).mono ?_
        rintro e1 wb ⟨rfl, nv2, l2, c2, hp2, hok⟩
        have e5 : decide ((l ++ be2 NN ++ encE (of NN) (ov 0)).length ≤ 4000) = OK := by rw [← HOK.out, List.append_assoc]
        rw [e5] at hok ⊢
        exact hK _ _ (fun _ h => by cases h; rfl) ⟨nv2, l2, c2, H2.out.trans hp2, hok⟩
    case fin20a =>
      intro vals w3 hS hV
      have v18 := hV 18 _ (by decide) rfl
      clear hV
      simp only [List.map_cons, List.map_nil] at hS
      obtain ⟨nv2, l2, c2, hp, hok⟩ : PkEnd fb nv w2 w3 OK (l ++ be2 NN ++ encE (of NN) (ov 0)) (q + 1 + szV (ov 0)) := hS
      have HP : Hid (PkIn fb nv w c2 nv2 l2 w3) := Lib.hid (HPH.out.fr.trans hp)
      have HK := Lib.hid hok
      clear hp hok
      simp only [frOfU, fillU, List.setIfInBounds_toArray, List.set_cons_succ, List.set_cons_zero]
      simp only [Nat.reduceAdd, v18]
      clear v18
      go_wp2_with fail
      go_ret
      refine ⟨rfl, nv2, l2, c2, HP.out, fun h => ?_⟩
      obtain ⟨e1, e2⟩ := HK.out h
      exact ⟨by rw [e1, List.append_assoc], by rw [e2]; omega⟩
  · have HNO : Hid (OK = false) := Lib.hid (by
      rcases HFIT.out with h | h
      · exact absurd h hfit
      · exact h)
    have HF1 := Lib.hid hfit
    clear hfit
    refine wp_region_chain (by kernel_rfl) [some 76, some 77, some 78, some 79, some 80, some 81, some 82, some 83, some 84, some 85, some 86, some 87, some 88, some 89, some 90, some 91, some 92, some 93, some 6] rfl (by decide) (by intro d hd; simp at hd ⊢; omega)
      [3] (fun cvs wx => ChoS fb nv w2 (q + 1) l (l ++ be2 NN) OK (l ++ be2 NN ++ encE (of NN) (ov 0)) (q + 1 + szV (ov 0)) cvs wx)
      [.free (.pointer (some ⟨fb, 0, none⟩)), .free (.pointer (some ⟨vb, 0, none⟩)), .free (.int .i64 (NN : Int)), .link (some (.bool false)), .free (.bool false), .free undef, .free undef, .free undef, .free undef, .free undef, .free undef, .free undef, .free undef, .free undef, .free undef, .free undef, .free undef, .free (.bool false), .free (.bool false)]
      (by kernel_rfl) (by kernel_rfl) ?h20b ?step20b ?fin20b
    case h20b => exact (PkIn.start HPH.out.fr.1).quiet (Fr.refl _ _).drew
    case step20b =>
      intro vals
      simp only [frOfU, fillU, List.setIfInBounds_toArray, List.set_cons_succ, List.set_cons_zero]
      repeat' (first | exact AllOps.nil | refine AllOps.cons ?_ ?_)
      all_goals
        intro cvs wx hS he hu hlim Kc hK
        simp only [Act.put, List.setIfInBounds_toArray, List.set_cons_succ, List.set_cons_zero, List.getD_cons_zero, List.getD_cons_succ] at hK
        simp only [List.mem_cons, List.not_mem_nil, or_false, forall_eq_or_imp, forall_eq, Region.binds, forall_const, pmode_gc, Bool.false_eq_true, false_imp_iff, List.getD_cons_zero, List.getD_cons_succ, OpSort.val, Option.some.injEq, forall_eq', reduceCtorEq, implies_true, true_and, and_true] at he
        have hfr := ChoS.fr hS
        obtain ⟨u0, u1, u2, u3⟩ := cell_of_four (box_kept HPH.out.vbox hfr (fun h => by rcases h with h | h; exact HPH.out.voff.2.1 h; exact HPH.out.voff.2.2 h))
        obtain ⟨t0, t1, t2, t3⟩ := cell_of_four (box_kept HPH.out.tbox hfr (fun h => by rcases h with h | h; exact HPH.out.toff.2.1 h; exact HPH.out.toff.2.2 h))
        have y0 := cell_fr (R := fun k => k = g) hfr (fun k hk => by rw [hk]; exact HOG.out) rfl HYZ.out.1.1
        have y1 := cell_fr (R := fun k => k = g) hfr (fun k hk => by rw [hk]; exact HOG.out) rfl HYZ.out.1.2.1
        have y2 := cell_fr (R := fun k => k = g) hfr (fun k hk => by rw [hk]; exact HOG.out) rfl HYZ.out.1.2.2.1
        have y3 := cell_fr (R := fun k => k = g) hfr (fun k hk => by rw [hk]; exact HOG.out) rfl HYZ.out.1.2.2.2
        have v0 := cell_fr (R := fun k => k = gv) hfr (fun k hk => by rw [hk]; exact HOV.out) rfl HYZ.out.2.1
        have v1 := cell_fr (R := fun k => k = gv) hfr (fun k hk => by rw [hk]; exact HOV.out) rfl HYZ.out.2.2.1
        have v2 := cell_fr (R := fun k => k = gv) hfr (fun k hk => by rw [hk]; exact HOV.out) rfl HYZ.out.2.2.2.1
        have v3 := cell_fr (R := fun k => k = gv) hfr (fun k hk => by rw [hk]; exact HOV.out) rfl HYZ.out.2.2.2.2
        clear hfr
        have HSX := Lib.hid hS
        clear hS
      all_goals first | (clear hlim hu; (try simp only [he] at hK ⊢); go_simp; exact hK) | skip
      · obtain rfl := hlim (0 : Nat) rfl
        have h1 : PkIn fb nv w2 (q + 1) nv l wx := HSX.out
        have H1 := Lib.hid h1
        clear hlim hu HSX h1 u0 u1 u2 u3 t0 t1 t2 t3 y0 y1 y2 y3 v0 v1 v2 v3
        simp only [he] at hK ⊢
        clear he
        go_simp
        go_at_call 49
        refine (pkword_any fb (q + 1) nv l (NN : Int) (by omega) (by have := HNB.out; omega) _ H1.out.1 HL.out).mono ?_
        rintro e1 wb ⟨rfl, nv2, h2, h3, h4⟩
        rw [Int.toNat_natCast] at h2
        rw [decide_eq_false HF1.out]
        exact hK _ _ (fun _ h => by cases h; rfl) ⟨nv2, H1.out.trans ⟨h2, h3, h4⟩⟩
    case fin20b =>
      intro vals w3 hS hV
      have v18 := hV 18 _ (by decide) rfl
      clear hV
      simp only [List.map_cons, List.map_nil] at hS
      obtain ⟨nv2, hp⟩ : ∃ nv1, PkIn fb nv w2 (q + 1) nv1 (l ++ be2 NN) w3 := hS
      have HP : Hid (PkIn fb nv w (q + 1) nv2 (l ++ be2 NN) w3) := Lib.hid (HPH.out.fr.trans hp)
      clear hp
      simp only [frOfU, fillU, List.setIfInBounds_toArray, List.set_cons_succ, List.set_cons_zero]
      simp only [Nat.reduceAdd, v18]
      clear v18
      go_wp2_with fail
      go_ret
      exact ⟨by rw [HNO.out]; rfl, nv2, _, _, HP.out, fun h => by rw [HNO.out] at h; cases h⟩

theorem put_any (t : KT) : PutAt t := by
  induction t with
  | nil => exact fun _ _ _ _ _ _ _ _ _ h => h.elim
  | mk k m ns n of ih =>
    intro R v vv w T fb q nv l h1 h2 hg h3 h4 h5 h6 h7
    have hk := (own_facts hg.1.2).1
    have key : PutAt (.mk k m ns n of) := by
      rcases (by omega : k = 0 ∨ k = 1 ∨ k = 2 ∨ k = 3 ∨ k = 4 ∨ k = 5 ∨ k = 6 ∨ k = 7 ∨ k = 8) with h | h | h | h | h | h | h | h | h
      · exact put_k0 k m ns n of (fun i _ => ih i) h
      · exact put_k1 k m ns n of (fun i _ => ih i) h
      · exact put_k2 k m ns n of (fun i _ => ih i) h
      · exact put_k3 k m ns n of (fun i _ => ih i) h
      · exact put_k4 k m ns n of (fun i _ => ih i) h
      · exact put_k5 k m ns n of (fun i _ => ih i) h
      · exact put_k6 k m ns n of (fun i _ => ih i) h
      · exact put_k7 k m ns n of (fun i _ => ih i) h
      · exact put_k8 k m ns n of (fun i _ => ih i) h
    exact key R v vv w T fb q nv l h1 h2 hg h3 h4 h5 h6 h7
end
end Go.Proofs.YtplipjijaaejlaaGreat
