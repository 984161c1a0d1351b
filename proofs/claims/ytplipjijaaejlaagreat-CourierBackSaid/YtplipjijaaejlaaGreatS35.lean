/-
  CouBack, part 35 of what it rests on: Put3.
-/
import Derived.Test.YtplipjijaaejlaaGreatS34
set_option linter.unusedVariables false
set_option linter.unusedSimpArgs false
set_option maxHeartbeats 64000000
namespace Go.Proofs.YtplipjijaaejlaaGreat
open Go.RowKit
open Go.Lib (hid)
section
attribute [local go_sem] run_store_float
set_option maxRecDepth 100000

theorem PkSt.count {fb q : Nat} {nv : Value} {l : List UInt8} {w : World} (h : PkSt fb w q nv l) : PkSt fb (w.setCell ⟨fb, 1, none⟩ (.int .i64 ((q : Int) + 1))) (q + 1) nv l := by
  refine ⟨?_, ?_, h.apart⟩
  · rw [setCell_row 1 _ h.here]
    simp
  · exact ownsRow_setCell_other h.own (a := ⟨fb, 1, none⟩) h.apart _

theorem pk_cells {fb q : Nat} {nv : Value} {l : List UInt8} {w : World} (h : PkSt fb w q nv l) : w.cell? ⟨fb, 1, none⟩ = some (.int .i64 (q : Int)) ∧ w.frozen? ⟨fb, 1, none⟩ = false := by
  constructor
  · exact cells_row h.here 1 _ rfl
  · simp [World.frozen?, h.here]

/-- The parts of a type, as the walk has them. -/
theorem shows_lit {R : Nat → Prop} {w : World} {k : Nat} {m : Int} {ns : List Txt} {n : Nat} {of : Nat → KT} {v : Value} (h : Shows R w (.mk k m ns n of) v) : ∃ na nc a' c', v = .agg #[.int .u8 k, .int .i64 m, .slice na ns.length nc, .slice a' n c'] ∧ Kids R w of a' n c' := by
  obtain ⟨vn, vo, rfl, hk, hn, ht, ho⟩ := h
  obtain ⟨na, nc, rfl, -⟩ := ht.shape
  rcases ho with ⟨rfl, a', c', rfl⟩ | ⟨g, off, cap, hg, rfl, hle, hc⟩
  · exact ⟨na, nc, a', c', rfl, .inl rfl⟩
  · exact ⟨na, nc, _, cap, rfl, .inr ⟨hle, g, off, hg, rfl, hc⟩⟩

/-- What holds when put has begun: the two boxes, the count. -/
structure PutHead (R : Nat → Prop) (fb q : Nat) (nv : Value) (l : List UInt8) (w w2 : World) (tb vb : Nat) (tcs vcs : Array Value) : Prop where
  fr : PkIn fb nv w (q + 1) nv l w2
  tbox : w2.heap[tb]? = some (.cells tcs 34 (0, 0))
  vbox : w2.heap[vb]? = some (.cells vcs 39 (0, 0))
  toff : tb < w2.heap.size ∧ tb ≠ fb ∧ nv.ownBlock ≠ some tb
  voff : vb < w2.heap.size ∧ vb ≠ fb ∧ nv.ownBlock ≠ some vb
  roff : ∀ k, R k → k < w2.heap.size ∧ k ≠ fb ∧ nv.ownBlock ≠ some k

theorem put_head (R : Nat → Prop) (fb q : Nat) (nv : Value) (l : List UInt8) (w : World) (tcs vcs : Array Value) (hst : PkSt fb w q nv l) (hR : ∀ k, R k → k < w.heap.size ∧ k ≠ fb ∧ nv.ownBlock ≠ some k) :
    PutHead R fb q nv l w (((w.alloc (.cells tcs 34)).alloc (.cells vcs 39)).setCell ⟨fb, 1, none⟩ (.int .i64 ((q : Int) + 1))) w.heap.size (w.heap.size + 1) tcs vcs := by
  have f1 : Fr (fun _ => False) w ((w.alloc (.cells tcs 34)).alloc (.cells vcs 39)) := ((Fr.refl _ _).alloc _).alloc _
  have h1 := hst.fr f1 (fun h => h) (fun _ _ h => h)
  have hfb := lt_of_block hst.here
  have hown := own_lt' hst.own
  have f2 : Fr (fun k => k = fb) ((w.alloc (.cells tcs 34)).alloc (.cells vcs 39)) (((w.alloc (.cells tcs 34)).alloc (.cells vcs 39)).setCell ⟨fb, 1, none⟩ (.int .i64 ((q : Int) + 1))) := Fr.set1 (Fr.refl _ _) 1 _
  have hsz : ((w.alloc (.cells tcs 34)).alloc (.cells vcs 39)).heap.size = w.heap.size + 2 := by simp
  have hs2 := f2.size
  refine ⟨⟨h1.count, (f1.mono (fun _ _ h => h.elim)).trans (f2.mono (fun _ _ h => .inl h)) (fun _ _ h => h), .inl rfl⟩, ?_, ?_, ⟨by omega, by omega, fun e => by have := hown _ e; omega⟩, ⟨by omega, by omega, fun e => by have := hown _ e; omega⟩, fun k hk => ⟨by have := (hR k hk).1; omega, (hR k hk).2⟩⟩
  · exact box_kept (heap_alloc_first _ _ _) f2 (by show ¬ w.heap.size = fb; omega)
  · exact box_kept (heap_alloc_two _ _ _) f2 (by show ¬ w.heap.size + 1 = fb; omega)

theorem put_k0 (k : Nat) (m : Int) (ns : List Txt) (n : Nat) (of : Nat → KT) (ih : ∀ i, i < n → PutAt (of i)) (hk0 : k = 0) : PutAt (.mk k m ns n of) := by
  intro R0 v vv w T fb q nv l hsh0 hvs0 hgood his hst hR0 hl hq
  obtain ⟨R, hRd⟩ : ∃ R : Nat → Prop, R = fun k => R0 k ∧ k < w.heap.size := ⟨_, rfl⟩
  have hR : ∀ k, R k → k < w.heap.size ∧ k ≠ fb ∧ nv.ownBlock ≠ some k := by rw [hRd]; exact fun k h => ⟨h.2, hR0 k h.1⟩
  have hsh : Shows R w _ v := Shows.mono (fun k hk h => by rw [hRd]; exact ⟨h, hk⟩) _ _ hsh0
  have hvs : VShows R w T vv := VShows.mono (fun k hk h => by rw [hRd]; exact ⟨h, hk⟩) _ _ hvs0
  clear hsh0 hvs0 hR0 hRd
  obtain ⟨N, f, s, c, ov, va, cap, rfl, rfl, hVB, hVK⟩ := vshows_open hvs
  obtain ⟨na, nc, a', c', rfl, hs⟩ := shows_lit hsh
  obtain ⟨hN0, hN1, hf64, hsl, hc5⟩ := hVB
  obtain ⟨⟨hn12, hown⟩, hkids⟩ := hgood
  obtain ⟨-, hmost, hone, hparts, hnames, hnone⟩ := own_facts hown
  obtain ⟨i1, i2, i3, i4, i5, i6, i7, i8, i9, i10⟩ := (isE_iff k m ns n of N f s c ov).1 his
  have hc0 : c = 0 := i3 (by omega)
  have hNa : 0 ≤ N := by simpa [lowE, hk0] using i4
  have hNb : N ≤ 65535 := by
    have h := i5
    simp [highE, hk0] at h
    omega
  have HE : Hid (encE (.mk k m ns n of) (.mk N f s c ov) = be2 N.toNat ∧ szV (.mk N f s c ov) = 1) := Lib.hid ⟨by subst hk0; subst hc0; simp [encE], by subst hc0; simp [szV]⟩
  rw [HE.out.1, HE.out.2] at *
  have HNN := Lib.hid (And.intro hNa hNb)
  clear hNa hNb hVK hs hkids ih hc0
  obtain ⟨OK, hOK⟩ : ∃ OK, decide ((l ++ be2 N.toNat).length ≤ 4000) = OK := ⟨_, rfl⟩
  rw [hOK]
  have HOK := Lib.hid hOK
  clear hOK
  have hph := put_head R fb q nv l w #[.int .u8 k, .int .i64 m, .slice na ns.length nc, .slice a' n c'] #[.int .i64 N, .float .f64 f, .string ⟨s.toArray⟩, .slice va c cap] hst hR
  have f1 : Fr (fun _ => False) w ((w.alloc (.cells #[.int .u8 k, .int .i64 m, .slice na ns.length nc, .slice a' n c'] 34)).alloc (.cells #[.int .i64 N, .float .f64 f, .string ⟨s.toArray⟩, .slice va c cap] 39)) := ((Fr.refl _ _).alloc _).alloc _
  obtain ⟨p1, z1⟩ := pk_cells (hst.fr f1 (fun h => h) (fun _ _ h => h))
  have HL := Lib.hid hl
  have HQ := Lib.hid hq
  have hfb1 : fb ≠ w.heap.size := by have := lt_of_block hst.here; omega
  have hfb2 : fb ≠ w.heap.size + 1 := by have := lt_of_block hst.here; omega
  have HSH0 := Lib.hid hsh
  clear hsh hvs hst hR hown i1 i2 i3 i4 i5 i6 i7 i8 i9 i10 hmost hone hparts hnames hnone hl hq his hn12
  have hqw : IntKind.i64.wrap ((q : Int) + 1) = (q : Int) + 1 := by have := HQ.out; rw [IntKind.wrap_i64]; omega
  obtain ⟨qz, hqz⟩ : ∃ qz : Int, (q : Int) + 1 = qz := ⟨_, rfl⟩
  have hbig : ¬ (1048576 : Int) < qz := by have := HQ.out; omega
  rw [hqz] at hph hqw
  have HQZ := Lib.hid hqz
  have HQW := Lib.hid hqw
  clear hqw
  obtain ⟨kz, hkz⟩ : ∃ kz : Int, ((k : Nat) : Int) = kz := ⟨_, rfl⟩
  rw [hkz] at hph f1 p1 z1 ⊢
  have e0 : (kz == 0) = true := by simp; omega
  have e1 : (kz == 1) = false := by simp; omega
  have e7 : (kz == 7) = false := by simp; omega
  have e2 : (kz == 2) = false := by simp; omega
  have e3 : (kz == 3) = false := by simp; omega
  have e4 : (kz == 4) = false := by simp; omega
  have e5 : (kz == 5) = false := by simp; omega
  have e6 : (kz == 6) = false := by simp; omega
  have e8 : (kz == 8) = false := by simp; omega
  have HKZ := Lib.hid hkz
  clear hkz hk0
  unfold sv
  go_enter Tryz.func31, Tryz.ntmps31
  go_upto_region 1 with fail
  obtain ⟨w1, hw1⟩ : ∃ w1, (w.alloc (.cells #[.int .u8 kz, .int .i64 m, .slice na ns.length nc, .slice a' n c'] 34)).alloc (.cells #[.int .i64 N, .float .f64 f, .string ⟨s.toArray⟩, .slice va c cap] 39) = w1 := ⟨_, rfl⟩
  rw [hw1] at hph f1 p1 z1 ⊢
  clear hw1
  obtain ⟨vb, hvb⟩ : ∃ vb, w.heap.size + 1 = vb := ⟨_, rfl⟩
  rw [hvb] at hph hfb2 ⊢
  obtain ⟨tb, htb⟩ : ∃ tb, w.heap.size = tb := ⟨_, rfl⟩
  rw [htb] at hph hfb1 ⊢
  clear hvb htb
  have F1 := Lib.hid f1
  clear f1
  go_upto_region 2 with fail
  try rw [hqz]
  clear p1 z1 hqz
  generalize w1.setCell ⟨fb, 1, none⟩ (.int .i64 qz) = w2 at *
  obtain ⟨p1, z1⟩ := pk_cells hph.fr.1
  rw [show (((q + 1 : Nat) : Nat) : Int) = qz from by rw [← HQZ.out]; omega] at p1
  obtain ⟨c0, c1, c2, c3⟩ := cell_of_four hph.tbox
  obtain ⟨d0, d1, d2, d3⟩ := cell_of_four hph.vbox
  have HPH := Lib.hid hph
  clear hph
  go_wp2_with fail
  refine (pkword_any fb (q + 1) nv l N HNN.out.1 HNN.out.2 _ HPH.out.fr.1 HL.out).mono ?_
  rintro e w3 ⟨rfl, nv2, h2, h3, h4⟩
  have HP : Hid (PkIn fb nv w (q + 1) nv2 (l ++ be2 N.toNat) w3) := Lib.hid (HPH.out.fr.trans ⟨h2, h3, h4⟩)
  have HOK2 : Hid (decide (l.length + 2 ≤ 4000) = OK) := Lib.hid (by rw [← HOK.out, List.length_append, be2_length])
  rw [HOK2.out]
  clear h2 h3 h4 c0 c1 c2 c3 d0 d1 d2 d3 p1 z1
  go_wp2_with fail
  go_ret
  exact ⟨rfl, nv2, _, _, HP.out, fun _ => ⟨rfl, rfl⟩⟩

theorem put_k1 (k : Nat) (m : Int) (ns : List Txt) (n : Nat) (of : Nat → KT) (ih : ∀ i, i < n → PutAt (of i)) (hk0 : k = 1) : PutAt (.mk k m ns n of) := by
  intro R0 v vv w T fb q nv l hsh0 hvs0 hgood his hst hR0 hl hq
  obtain ⟨R, hRd⟩ : ∃ R : Nat → Prop, R = fun k => R0 k ∧ k < w.heap.size := ⟨_, rfl⟩
  have hR : ∀ k, R k → k < w.heap.size ∧ k ≠ fb ∧ nv.ownBlock ≠ some k := by rw [hRd]; exact fun k h => ⟨h.2, hR0 k h.1⟩
  have hsh : Shows R w _ v := Shows.mono (fun k hk h => by rw [hRd]; exact ⟨h, hk⟩) _ _ hsh0
  have hvs : VShows R w T vv := VShows.mono (fun k hk h => by rw [hRd]; exact ⟨h, hk⟩) _ _ hvs0
  clear hsh0 hvs0 hR0 hRd
  obtain ⟨N, f, s, c, ov, va, cap, rfl, rfl, hVB, hVK⟩ := vshows_open hvs
  obtain ⟨na, nc, a', c', rfl, hs⟩ := shows_lit hsh
  obtain ⟨hN0, hN1, hf64, hsl, hc5⟩ := hVB
  obtain ⟨⟨hn12, hown⟩, hkids⟩ := hgood
  obtain ⟨-, hmost, hone, hparts, hnames, hnone⟩ := own_facts hown
  obtain ⟨i1, i2, i3, i4, i5, i6, i7, i8, i9, i10⟩ := (isE_iff k m ns n of N f s c ov).1 his
  have hc0 : c = 0 := i3 (by omega)
  have hNa : 0 ≤ N := by simpa [lowE, hk0] using i4
  have hNb : N ≤ 65535 := by
    have h := i5
    simp [highE, hk0] at h
    omega
  have HE : Hid (encE (.mk k m ns n of) (.mk N f s c ov) = be2 N.toNat ∧ szV (.mk N f s c ov) = 1) := Lib.hid ⟨by subst hk0; subst hc0; simp [encE], by subst hc0; simp [szV]⟩
  rw [HE.out.1, HE.out.2] at *
  have HNN := Lib.hid (And.intro hNa hNb)
  clear hNa hNb hVK hs hkids ih hc0
  obtain ⟨OK, hOK⟩ : ∃ OK, decide ((l ++ be2 N.toNat).length ≤ 4000) = OK := ⟨_, rfl⟩
  rw [hOK]
  have HOK := Lib.hid hOK
  clear hOK
  have hph := put_head R fb q nv l w #[.int .u8 k, .int .i64 m, .slice na ns.length nc, .slice a' n c'] #[.int .i64 N, .float .f64 f, .string ⟨s.toArray⟩, .slice va c cap] hst hR
  have f1 : Fr (fun _ => False) w ((w.alloc (.cells #[.int .u8 k, .int .i64 m, .slice na ns.length nc, .slice a' n c'] 34)).alloc (.cells #[.int .i64 N, .float .f64 f, .string ⟨s.toArray⟩, .slice va c cap] 39)) := ((Fr.refl _ _).alloc _).alloc _
  obtain ⟨p1, z1⟩ := pk_cells (hst.fr f1 (fun h => h) (fun _ _ h => h))
  have HL := Lib.hid hl
  have HQ := Lib.hid hq
  have hfb1 : fb ≠ w.heap.size := by have := lt_of_block hst.here; omega
  have hfb2 : fb ≠ w.heap.size + 1 := by have := lt_of_block hst.here; omega
  have HSH0 := Lib.hid hsh
  clear hsh hvs hst hR hown i1 i2 i3 i4 i5 i6 i7 i8 i9 i10 hmost hone hparts hnames hnone hl hq his hn12
  have hqw : IntKind.i64.wrap ((q : Int) + 1) = (q : Int) + 1 := by have := HQ.out; rw [IntKind.wrap_i64]; omega
  obtain ⟨qz, hqz⟩ : ∃ qz : Int, (q : Int) + 1 = qz := ⟨_, rfl⟩
  have hbig : ¬ (1048576 : Int) < qz := by have := HQ.out; omega
  rw [hqz] at hph hqw
  have HQZ := Lib.hid hqz
  have HQW := Lib.hid hqw
  clear hqw
  obtain ⟨kz, hkz⟩ : ∃ kz : Int, ((k : Nat) : Int) = kz := ⟨_, rfl⟩
  rw [hkz] at hph f1 p1 z1 ⊢
  have e0 : (kz == 0) = false := by simp; omega
  have e1 : (kz == 1) = true := by simp; omega
  have e7 : (kz == 7) = false := by simp; omega
  have e2 : (kz == 2) = false := by simp; omega
  have e3 : (kz == 3) = false := by simp; omega
  have e4 : (kz == 4) = false := by simp; omega
  have e5 : (kz == 5) = false := by simp; omega
  have e6 : (kz == 6) = false := by simp; omega
  have e8 : (kz == 8) = false := by simp; omega
  have HKZ := Lib.hid hkz
  clear hkz hk0
  unfold sv
  go_enter Tryz.func31, Tryz.ntmps31
  go_upto_region 1 with fail
  obtain ⟨w1, hw1⟩ : ∃ w1, (w.alloc (.cells #[.int .u8 kz, .int .i64 m, .slice na ns.length nc, .slice a' n c'] 34)).alloc (.cells #[.int .i64 N, .float .f64 f, .string ⟨s.toArray⟩, .slice va c cap] 39) = w1 := ⟨_, rfl⟩
  rw [hw1] at hph f1 p1 z1 ⊢
  clear hw1
  obtain ⟨vb, hvb⟩ : ∃ vb, w.heap.size + 1 = vb := ⟨_, rfl⟩
  rw [hvb] at hph hfb2 ⊢
  obtain ⟨tb, htb⟩ : ∃ tb, w.heap.size = tb := ⟨_, rfl⟩
  rw [htb] at hph hfb1 ⊢
  clear hvb htb
  have F1 := Lib.hid f1
  clear f1
  go_upto_region 2 with fail
  try rw [hqz]
  clear p1 z1 hqz
  generalize w1.setCell ⟨fb, 1, none⟩ (.int .i64 qz) = w2 at *
  obtain ⟨p1, z1⟩ := pk_cells hph.fr.1
  rw [show (((q + 1 : Nat) : Nat) : Int) = qz from by rw [← HQZ.out]; omega] at p1
  obtain ⟨c0, c1, c2, c3⟩ := cell_of_four hph.tbox
  obtain ⟨d0, d1, d2, d3⟩ := cell_of_four hph.vbox
  have HPH := Lib.hid hph
  clear hph
  go_wp2_with fail
  refine (pkword_any fb (q + 1) nv l N HNN.out.1 HNN.out.2 _ HPH.out.fr.1 HL.out).mono ?_
  rintro e w3 ⟨rfl, nv2, h2, h3, h4⟩
  have HP : Hid (PkIn fb nv w (q + 1) nv2 (l ++ be2 N.toNat) w3) := Lib.hid (HPH.out.fr.trans ⟨h2, h3, h4⟩)
  have HOK2 : Hid (decide (l.length + 2 ≤ 4000) = OK) := Lib.hid (by rw [← HOK.out, List.length_append, be2_length])
  rw [HOK2.out]
  clear h2 h3 h4 c0 c1 c2 c3 d0 d1 d2 d3 p1 z1
  go_wp2_with fail
  go_ret
  exact ⟨rfl, nv2, _, _, HP.out, fun _ => ⟨rfl, rfl⟩⟩

theorem put_k7 (k : Nat) (m : Int) (ns : List Txt) (n : Nat) (of : Nat → KT) (ih : ∀ i, i < n → PutAt (of i)) (hk0 : k = 7) : PutAt (.mk k m ns n of) := by
  intro R0 v vv w T fb q nv l hsh0 hvs0 hgood his hst hR0 hl hq
  obtain ⟨R, hRd⟩ : ∃ R : Nat → Prop, R = fun k => R0 k ∧ k < w.heap.size := ⟨_, rfl⟩
  have hR : ∀ k, R k → k < w.heap.size ∧ k ≠ fb ∧ nv.ownBlock ≠ some k := by rw [hRd]; exact fun k h => ⟨h.2, hR0 k h.1⟩
  have hsh : Shows R w _ v := Shows.mono (fun k hk h => by rw [hRd]; exact ⟨h, hk⟩) _ _ hsh0
  have hvs : VShows R w T vv := VShows.mono (fun k hk h => by rw [hRd]; exact ⟨h, hk⟩) _ _ hvs0
  clear hsh0 hvs0 hR0 hRd
  obtain ⟨N, f, s, c, ov, va, cap, rfl, rfl, hVB, hVK⟩ := vshows_open hvs
  obtain ⟨na, nc, a', c', rfl, hs⟩ := shows_lit hsh
  obtain ⟨hN0, hN1, hf64, hsl, hc5⟩ := hVB
  obtain ⟨⟨hn12, hown⟩, hkids⟩ := hgood
  obtain ⟨-, hmost, hone, hparts, hnames, hnone⟩ := own_facts hown
  obtain ⟨i1, i2, i3, i4, i5, i6, i7, i8, i9, i10⟩ := (isE_iff k m ns n of N f s c ov).1 his
  have hc0 : c = 0 := i3 (by omega)
  have hNa : 0 ≤ N := by simpa [lowE, hk0] using i4
  have hNb : N ≤ 65535 := by
    have h := i5
    simp [highE, hk0] at h
    have := hnames (by omega); omega
  have HE : Hid (encE (.mk k m ns n of) (.mk N f s c ov) = be2 N.toNat ∧ szV (.mk N f s c ov) = 1) := Lib.hid ⟨by subst hk0; subst hc0; simp [encE], by subst hc0; simp [szV]⟩
  rw [HE.out.1, HE.out.2] at *
  have HNN := Lib.hid (And.intro hNa hNb)
  clear hNa hNb hVK hs hkids ih hc0
  obtain ⟨OK, hOK⟩ : ∃ OK, decide ((l ++ be2 N.toNat).length ≤ 4000) = OK := ⟨_, rfl⟩
  rw [hOK]
  have HOK := Lib.hid hOK
  clear hOK
  have hph := put_head R fb q nv l w #[.int .u8 k, .int .i64 m, .slice na ns.length nc, .slice a' n c'] #[.int .i64 N, .float .f64 f, .string ⟨s.toArray⟩, .slice va c cap] hst hR
  have f1 : Fr (fun _ => False) w ((w.alloc (.cells #[.int .u8 k, .int .i64 m, .slice na ns.length nc, .slice a' n c'] 34)).alloc (.cells #[.int .i64 N, .float .f64 f, .string ⟨s.toArray⟩, .slice va c cap] 39)) := ((Fr.refl _ _).alloc _).alloc _
  obtain ⟨p1, z1⟩ := pk_cells (hst.fr f1 (fun h => h) (fun _ _ h => h))
  have HL := Lib.hid hl
  have HQ := Lib.hid hq
  have hfb1 : fb ≠ w.heap.size := by have := lt_of_block hst.here; omega
  have hfb2 : fb ≠ w.heap.size + 1 := by have := lt_of_block hst.here; omega
  have HSH0 := Lib.hid hsh
  clear hsh hvs hst hR hown i1 i2 i3 i4 i5 i6 i7 i8 i9 i10 hmost hone hparts hnames hnone hl hq his hn12
  have hqw : IntKind.i64.wrap ((q : Int) + 1) = (q : Int) + 1 := by have := HQ.out; rw [IntKind.wrap_i64]; omega
  obtain ⟨qz, hqz⟩ : ∃ qz : Int, (q : Int) + 1 = qz := ⟨_, rfl⟩
  have hbig : ¬ (1048576 : Int) < qz := by have := HQ.out; omega
  rw [hqz] at hph hqw
  have HQZ := Lib.hid hqz
  have HQW := Lib.hid hqw
  clear hqw
  obtain ⟨kz, hkz⟩ : ∃ kz : Int, ((k : Nat) : Int) = kz := ⟨_, rfl⟩
  rw [hkz] at hph f1 p1 z1 ⊢
  have e0 : (kz == 0) = false := by simp; omega
  have e1 : (kz == 1) = false := by simp; omega
  have e7 : (kz == 7) = true := by simp; omega
  have e2 : (kz == 2) = false := by simp; omega
  have e3 : (kz == 3) = false := by simp; omega
  have e4 : (kz == 4) = false := by simp; omega
  have e5 : (kz == 5) = false := by simp; omega
  have e6 : (kz == 6) = false := by simp; omega
  have e8 : (kz == 8) = false := by simp; omega
  have HKZ := Lib.hid hkz
  clear hkz hk0
  unfold sv
  go_enter Tryz.func31, Tryz.ntmps31
  go_upto_region 1 with fail
  obtain ⟨w1, hw1⟩ : ∃ w1, (w.alloc (.cells #[.int .u8 kz, .int .i64 m, .slice na ns.length nc, .slice a' n c'] 34)).alloc (.cells #[.int .i64 N, .float .f64 f, .string ⟨s.toArray⟩, .slice va c cap] 39) = w1 := ⟨_, rfl⟩
  rw [hw1] at hph f1 p1 z1 ⊢
  clear hw1
  obtain ⟨vb, hvb⟩ : ∃ vb, w.heap.size + 1 = vb := ⟨_, rfl⟩
  rw [hvb] at hph hfb2 ⊢
  obtain ⟨tb, htb⟩ : ∃ tb, w.heap.size = tb := ⟨_, rfl⟩
  rw [htb] at hph hfb1 ⊢
  clear hvb htb
  have F1 := Lib.hid f1
  clear f1
  go_upto_region 2 with fail
  try rw [hqz]
  clear p1 z1 hqz
  generalize w1.setCell ⟨fb, 1, none⟩ (.int .i64 qz) = w2 at *
  obtain ⟨p1, z1⟩ := pk_cells hph.fr.1
  rw [show (((q + 1 : Nat) : Nat) : Int) = qz from by rw [← HQZ.out]; omega] at p1
  obtain ⟨c0, c1, c2, c3⟩ := cell_of_four hph.tbox
  obtain ⟨d0, d1, d2, d3⟩ := cell_of_four hph.vbox
  have HPH := Lib.hid hph
  clear hph
  go_wp2_with fail
  refine (pkword_any fb (q + 1) nv l N HNN.out.1 HNN.out.2 _ HPH.out.fr.1 HL.out).mono ?_
  rintro e w3 ⟨rfl, nv2, h2, h3, h4⟩
  have HP : Hid (PkIn fb nv w (q + 1) nv2 (l ++ be2 N.toNat) w3) := Lib.hid (HPH.out.fr.trans ⟨h2, h3, h4⟩)
  have HOK2 : Hid (decide (l.length + 2 ≤ 4000) = OK) := Lib.hid (by rw [← HOK.out, List.length_append, be2_length])
  rw [HOK2.out]
  clear h2 h3 h4 c0 c1 c2 c3 d0 d1 d2 d3 p1 z1
  go_wp2_with fail
  go_ret
  exact ⟨rfl, nv2, _, _, HP.out, fun _ => ⟨rfl, rfl⟩⟩

theorem put_k4 (k : Nat) (m : Int) (ns : List Txt) (n : Nat) (of : Nat → KT) (ih : ∀ i, i < n → PutAt (of i)) (hk0 : k = 4) : PutAt (.mk k m ns n of) := by
  intro R0 v vv w T fb q nv l hsh0 hvs0 hgood his hst hR0 hl hq
  obtain ⟨R, hRd⟩ : ∃ R : Nat → Prop, R = fun k => R0 k ∧ k < w.heap.size := ⟨_, rfl⟩
  have hR : ∀ k, R k → k < w.heap.size ∧ k ≠ fb ∧ nv.ownBlock ≠ some k := by rw [hRd]; exact fun k h => ⟨h.2, hR0 k h.1⟩
  have hsh : Shows R w _ v := Shows.mono (fun k hk h => by rw [hRd]; exact ⟨h, hk⟩) _ _ hsh0
  have hvs : VShows R w T vv := VShows.mono (fun k hk h => by rw [hRd]; exact ⟨h, hk⟩) _ _ hvs0
  clear hsh0 hvs0 hR0 hRd
  obtain ⟨N, f, s, c, ov, va, cap, rfl, rfl, hVB, hVK⟩ := vshows_open hvs
  obtain ⟨na, nc, a', c', rfl, hs⟩ := shows_lit hsh
  obtain ⟨hN0, hN1, hf64, hsl, hc5⟩ := hVB
  obtain ⟨⟨hn12, hown⟩, hkids⟩ := hgood
  obtain ⟨-, hmost, hone, hparts, hnames, hnone⟩ := own_facts hown
  obtain ⟨i1, i2, i3, i4, i5, i6, i7, i8, i9, i10⟩ := (isE_iff k m ns n of N f s c ov).1 his
  have hc0 : c = 0 := i3 (by omega)
  have hs60 : s.length ≤ 60 := by have h1 := i6 hk0; have h2 := hmost (by omega); omega
  have HE : Hid (encE (.mk k m ns n of) (.mk N f s c ov) = txt s ∧ szV (.mk N f s c ov) = 1) := Lib.hid ⟨by subst hk0; subst hc0; simp [encE], by subst hc0; simp [szV]⟩
  rw [HE.out.1, HE.out.2] at *
  have HS60 := Lib.hid hs60
  clear hs60 hVK hs hkids ih hc0
  obtain ⟨OK, hOK⟩ : ∃ OK, decide ((l ++ txt s).length ≤ 4000) = OK := ⟨_, rfl⟩
  rw [hOK]
  have HOK := Lib.hid hOK
  clear hOK
  have hph := put_head R fb q nv l w #[.int .u8 k, .int .i64 m, .slice na ns.length nc, .slice a' n c'] #[.int .i64 N, .float .f64 f, .string ⟨s.toArray⟩, .slice va c cap] hst hR
  have f1 : Fr (fun _ => False) w ((w.alloc (.cells #[.int .u8 k, .int .i64 m, .slice na ns.length nc, .slice a' n c'] 34)).alloc (.cells #[.int .i64 N, .float .f64 f, .string ⟨s.toArray⟩, .slice va c cap] 39)) := ((Fr.refl _ _).alloc _).alloc _
  obtain ⟨p1, z1⟩ := pk_cells (hst.fr f1 (fun h => h) (fun _ _ h => h))
  have HL := Lib.hid hl
  have HQ := Lib.hid hq
  have hfb1 : fb ≠ w.heap.size := by have := lt_of_block hst.here; omega
  have hfb2 : fb ≠ w.heap.size + 1 := by have := lt_of_block hst.here; omega
  have HSH0 := Lib.hid hsh
  clear hsh hvs hst hR hown i1 i2 i3 i4 i5 i6 i7 i8 i9 i10 hmost hone hparts hnames hnone hl hq his hn12
  have hqw : IntKind.i64.wrap ((q : Int) + 1) = (q : Int) + 1 := by have := HQ.out; rw [IntKind.wrap_i64]; omega
  obtain ⟨qz, hqz⟩ : ∃ qz : Int, (q : Int) + 1 = qz := ⟨_, rfl⟩
  have hbig : ¬ (1048576 : Int) < qz := by have := HQ.out; omega
  rw [hqz] at hph hqw
  have HQZ := Lib.hid hqz
  have HQW := Lib.hid hqw
  clear hqw
  obtain ⟨kz, hkz⟩ : ∃ kz : Int, ((k : Nat) : Int) = kz := ⟨_, rfl⟩
  rw [hkz] at hph f1 p1 z1 ⊢
  have e0 : (kz == 0) = false := by simp; omega
  have e1 : (kz == 1) = false := by simp; omega
  have e7 : (kz == 7) = false := by simp; omega
  have e2 : (kz == 2) = false := by simp; omega
  have e3 : (kz == 3) = false := by simp; omega
  have e4 : (kz == 4) = true := by simp; omega
  have e5 : (kz == 5) = false := by simp; omega
  have e6 : (kz == 6) = false := by simp; omega
  have e8 : (kz == 8) = false := by simp; omega
  have HKZ := Lib.hid hkz
  clear hkz hk0
  unfold sv
  go_enter Tryz.func31, Tryz.ntmps31
  go_upto_region 1 with fail
  obtain ⟨w1, hw1⟩ : ∃ w1, (w.alloc (.cells #[.int .u8 kz, .int .i64 m, .slice na ns.length nc, .slice a' n c'] 34)).alloc (.cells #[.int .i64 N, .float .f64 f, .string ⟨s.toArray⟩, .slice va c cap] 39) = w1 := ⟨_, rfl⟩
  rw [hw1] at hph f1 p1 z1 ⊢
  clear hw1
  obtain ⟨vb, hvb⟩ : ∃ vb, w.heap.size + 1 = vb := ⟨_, rfl⟩
  rw [hvb] at hph hfb2 ⊢
  obtain ⟨tb, htb⟩ : ∃ tb, w.heap.size = tb := ⟨_, rfl⟩
  rw [htb] at hph hfb1 ⊢
  clear hvb htb
  have F1 := Lib.hid f1
  clear f1
  go_upto_region 2 with fail
  try rw [hqz]
  clear p1 z1 hqz
  generalize w1.setCell ⟨fb, 1, none⟩ (.int .i64 qz) = w2 at *
  obtain ⟨p1, z1⟩ := pk_cells hph.fr.1
  rw [show (((q + 1 : Nat) : Nat) : Int) = qz from by rw [← HQZ.out]; omega] at p1
  obtain ⟨c0, c1, c2, c3⟩ := cell_of_four hph.tbox
  obtain ⟨d0, d1, d2, d3⟩ := cell_of_four hph.vbox
  have HPH := Lib.hid hph
  clear hph
  go_wp2_with fail
  refine (pktext_any fb (q + 1) nv l s HS60.out _ HPH.out.fr.1 HL.out).mono ?_
  rintro e w3 ⟨rfl, nv2, h2, h3, h4⟩
  have HP : Hid (PkIn fb nv w (q + 1) nv2 (l ++ txt s) w3) := Lib.hid (HPH.out.fr.trans ⟨h2, h3, h4⟩)
  have HOK2 : Hid (decide (l.length + (txt s).length ≤ 4000) = OK) := Lib.hid (by rw [← HOK.out, List.length_append])
  rw [HOK2.out]
  clear h2 h3 h4 c0 c1 c2 c3 d0 d1 d2 d3 p1 z1
  go_wp2_with fail
  go_ret
  exact ⟨rfl, nv2, _, _, HP.out, fun _ => ⟨rfl, rfl⟩⟩

/-- While a number of 32 or 64 bits is put. -/
def LeafS (fb : Nat) (nv : Value) (w2 : World) (c : Nat) (l l2 : List UInt8) : List Value → World → Prop
  | [], wx => PkIn fb nv w2 c nv l wx
  | _, wx => ∃ nv2, PkIn fb nv w2 c nv2 l2 wx
theorem LeafS.fr {fb : Nat} {nv : Value} {w2 : World} {c : Nat} {l l2 : List UInt8} {cvs : List Value} {wx : World} (h : LeafS fb nv w2 c l l2 cvs wx) : Fr (fun k => k = fb ∨ nv.ownBlock = some k) w2 wx := by
  unfold LeafS at h
  split at h
  · exact h.2.1
  · obtain ⟨_, h⟩ := h; exact h.2.1

theorem put_k2 (k : Nat) (m : Int) (ns : List Txt) (n : Nat) (of : Nat → KT) (ih : ∀ i, i < n → PutAt (of i)) (hk0 : k = 2) : PutAt (.mk k m ns n of) := by
  intro R0 v vv w T fb q nv l hsh0 hvs0 hgood his hst hR0 hl hq
  obtain ⟨R, hRd⟩ : ∃ R : Nat → Prop, R = fun k => R0 k ∧ k < w.heap.size := ⟨_, rfl⟩
  have hR : ∀ k, R k → k < w.heap.size ∧ k ≠ fb ∧ nv.ownBlock ≠ some k := by rw [hRd]; exact fun k h => ⟨h.2, hR0 k h.1⟩
  have hsh : Shows R w _ v := Shows.mono (fun k hk h => by rw [hRd]; exact ⟨h, hk⟩) _ _ hsh0
  have hvs : VShows R w T vv := VShows.mono (fun k hk h => by rw [hRd]; exact ⟨h, hk⟩) _ _ hvs0
  clear hsh0 hvs0 hR0 hRd
  obtain ⟨N, f, s, c, ov, va, cap, rfl, rfl, hVB, hVK⟩ := vshows_open hvs
  obtain ⟨na, nc, a', c', rfl, hs⟩ := shows_lit hsh
  obtain ⟨hN0, hN1, hf64, hsl, hc5⟩ := hVB
  obtain ⟨⟨hn12, hown⟩, hkids⟩ := hgood
  obtain ⟨-, hmost, hone, hparts, hnames, hnone⟩ := own_facts hown
  obtain ⟨i1, i2, i3, i4, i5, i6, i7, i8, i9, i10⟩ := (isE_iff k m ns n of N f s c ov).1 his
  have hc0 : c = 0 := i3 (by omega)
  have HE : Hid (encE (.mk k m ns n of) (.mk N f s c ov) = be4 (N % 4294967296).toNat ∧ szV (.mk N f s c ov) = 1) := Lib.hid ⟨by subst hk0; subst hc0; simp [encE], by subst hc0; simp [szV]⟩
  rw [HE.out.1, HE.out.2] at *
  obtain ⟨U, hU⟩ : ∃ U : Int, N % 4294967296 = U := ⟨_, rfl⟩
  have hU0 : 0 ≤ U ∧ U ≤ 4294967295 := by omega
  have hUw : IntKind.u32.wrap N = U := by rw [IntKind.wrap_u32]; exact hU
  rw [hU] at *
  have HU := Lib.hid (And.intro hU0 hUw)
  clear hU hU0 hUw hVK hs hkids ih hc0
  obtain ⟨OK, hOK⟩ : ∃ OK, decide ((l ++ be4 U.toNat).length ≤ 4000) = OK := ⟨_, rfl⟩
  rw [hOK]
  have HOK := Lib.hid hOK
  clear hOK
  have hph := put_head R fb q nv l w #[.int .u8 k, .int .i64 m, .slice na ns.length nc, .slice a' n c'] #[.int .i64 N, .float .f64 f, .string ⟨s.toArray⟩, .slice va c cap] hst hR
  have f1 : Fr (fun _ => False) w ((w.alloc (.cells #[.int .u8 k, .int .i64 m, .slice na ns.length nc, .slice a' n c'] 34)).alloc (.cells #[.int .i64 N, .float .f64 f, .string ⟨s.toArray⟩, .slice va c cap] 39)) := ((Fr.refl _ _).alloc _).alloc _
  obtain ⟨p1, z1⟩ := pk_cells (hst.fr f1 (fun h => h) (fun _ _ h => h))
  have HL := Lib.hid hl
  have HQ := Lib.hid hq
  have hfb1 : fb ≠ w.heap.size := by have := lt_of_block hst.here; omega
  have hfb2 : fb ≠ w.heap.size + 1 := by have := lt_of_block hst.here; omega
  have HSH0 := Lib.hid hsh
  clear hsh hvs hst hR hown i1 i2 i3 i4 i5 i6 i7 i8 i9 i10 hmost hone hparts hnames hnone hl hq his hn12
  have hqw : IntKind.i64.wrap ((q : Int) + 1) = (q : Int) + 1 := by have := HQ.out; rw [IntKind.wrap_i64]; omega
  obtain ⟨qz, hqz⟩ : ∃ qz : Int, (q : Int) + 1 = qz := ⟨_, rfl⟩
  have hbig : ¬ (1048576 : Int) < qz := by have := HQ.out; omega
  rw [hqz] at hph hqw
  have HQZ := Lib.hid hqz
  have HQW := Lib.hid hqw
  clear hqw
  obtain ⟨kz, hkz⟩ : ∃ kz : Int, ((k : Nat) : Int) = kz := ⟨_, rfl⟩
  rw [hkz] at hph f1 p1 z1 ⊢
  have e0 : (kz == 0) = false := by simp; omega
  have e1 : (kz == 1) = false := by simp; omega
  have e7 : (kz == 7) = false := by simp; omega
  have e2 : (kz == 2) = true := by simp; omega
  have e3 : (kz == 3) = false := by simp; omega
  have e4 : (kz == 4) = false := by simp; omega
  have e5 : (kz == 5) = false := by simp; omega
  have e6 : (kz == 6) = false := by simp; omega
  have e8 : (kz == 8) = false := by simp; omega
  have HKZ := Lib.hid hkz
  clear hkz hk0
  unfold sv
  go_enter Tryz.func31, Tryz.ntmps31
  go_upto_region 1 with fail
  obtain ⟨w1, hw1⟩ : ∃ w1, (w.alloc (.cells #[.int .u8 kz, .int .i64 m, .slice na ns.length nc, .slice a' n c'] 34)).alloc (.cells #[.int .i64 N, .float .f64 f, .string ⟨s.toArray⟩, .slice va c cap] 39) = w1 := ⟨_, rfl⟩
  rw [hw1] at hph f1 p1 z1 ⊢
  clear hw1
  obtain ⟨vb, hvb⟩ : ∃ vb, w.heap.size + 1 = vb := ⟨_, rfl⟩
  rw [hvb] at hph hfb2 ⊢
  obtain ⟨tb, htb⟩ : ∃ tb, w.heap.size = tb := ⟨_, rfl⟩
  rw [htb] at hph hfb1 ⊢
  clear hvb htb
  have F1 := Lib.hid f1
  clear f1
  go_upto_region 2 with fail
  try rw [hqz]
  clear p1 z1 hqz
  generalize w1.setCell ⟨fb, 1, none⟩ (.int .i64 qz) = w2 at *
  obtain ⟨p1, z1⟩ := pk_cells hph.fr.1
  rw [show (((q + 1 : Nat) : Nat) : Int) = qz from by rw [← HQZ.out]; omega] at p1
  obtain ⟨c0, c1, c2, c3⟩ := cell_of_four hph.tbox
  obtain ⟨d0, d1, d2, d3⟩ := cell_of_four hph.vbox
  have HPH := Lib.hid hph
  clear hph
  go_upto_region 10 with fail
  clear c0 c1 c2 c3 d0 d1 d2 d3 p1 z1
  refine wp_region_chain (by kernel_rfl) [some 31, some 32, some 33, some 34, some 35, some 36, some 37] rfl (by decide) (by intro d hd; simp at hd ⊢; omega)
    [6] (fun cvs wx => LeafS fb nv w2 (q + 1) l (l ++ be4 U.toNat) cvs wx)
    [.free (.pointer (some ⟨fb, 0, none⟩)), .free (.pointer (some ⟨fb, 0, none⟩)), .free (.pointer (some ⟨fb, 0, none⟩)), .free (.pointer (some ⟨vb, 0, none⟩)), .free (.int .i64 N), .free (.int .u32 U), .link none]
    (by kernel_rfl) (by kernel_rfl) ?h10 ?step10 ?fin10
  case h10 => exact (PkIn.start HPH.out.fr.1).quiet (Fr.refl _ _).drew
  case step10 =>
    intro vals
    simp only [frOfU, fillU, List.setIfInBounds_toArray, List.set_cons_succ, List.set_cons_zero]
    repeat' (first | exact AllOps.nil | refine AllOps.cons ?_ ?_)
    all_goals
      intro cvs wx hS he hu hlim Kc hK
      simp only [Act.put, List.setIfInBounds_toArray, List.set_cons_succ, List.set_cons_zero, List.getD_cons_zero, List.getD_cons_succ] at hK
      simp only [List.mem_cons, List.not_mem_nil, or_false, forall_eq_or_imp, forall_eq, Region.binds, forall_const, pmode_gc, Bool.false_eq_true, false_imp_iff, List.getD_cons_zero, List.getD_cons_succ, OpSort.val, Option.some.injEq, forall_eq', reduceCtorEq, implies_true, true_and, and_true] at he
      have hfr := LeafS.fr hS
      obtain ⟨u0, u1, u2, u3⟩ := cell_of_four (box_kept HPH.out.vbox hfr (fun h => by rcases h with h | h; exact HPH.out.voff.2.1 h; exact HPH.out.voff.2.2 h))
      have huw := HU.out.2
      clear hfr
      have HSX := Lib.hid hS
      clear hS
    all_goals first | (clear hlim hu; (try simp only [he] at hK ⊢); go_simp; exact hK) | skip
    · obtain rfl := hlim (0 : Nat) rfl
      have h1 : PkIn fb nv w2 (q + 1) nv l wx := HSX.out
      have H1 := Lib.hid h1
      clear hlim hu HSX h1 u0 u1 u2 u3 huw
      simp only [he] at hK ⊢
      clear he
      go_simp
      go_at_call 50
      refine (plong_any (q + 1 : Nat) fb nv l U HU.out.1.1 HU.out.1.2 _ H1.out.1 (by have := HL.out; omega)).mono ?_
      rintro e1 wb ⟨rfl, nv2, h2, h3, h4⟩
      exact hK _ _ (fun _ h => by cases h) ⟨nv2, H1.out.trans ⟨h2, h3, h4⟩⟩
  case fin10 =>
    intro vals w3 hS hV
    clear hV
    simp only [List.map_cons, List.map_nil] at hS
    obtain ⟨nv2, hp⟩ := hS
    have HP : Hid (PkIn fb nv w (q + 1) nv2 (l ++ be4 U.toNat) w3) := Lib.hid (HPH.out.fr.trans hp)
    clear hp
    simp only [frOfU, fillU, List.setIfInBounds_toArray, List.set_cons_succ, List.set_cons_zero]
    go_wp2_with fail
    refine (pfits_any fb (q + 1) nv2 _ _ HP.out.1).mono ?_
    rintro e w4 ⟨rfl, rfl⟩
    rw [HOK.out]
    go_wp2_with fail
    go_ret
    exact ⟨rfl, nv2, _, _, HP.out, fun _ => ⟨rfl, rfl⟩⟩

/-- While a float is put. -/
def RealS (fb : Nat) (nv : Value) (w2 : World) (c : Nat) (l l2 : List UInt8) : List Value → World → Prop
  | [], wx => PkIn fb nv w2 c nv l wx
  | [_], wx => PkIn fb nv w2 c nv l wx
  | _, wx => ∃ nv2, PkIn fb nv w2 c nv2 l2 wx
theorem RealS.fr {fb : Nat} {nv : Value} {w2 : World} {c : Nat} {l l2 : List UInt8} {cvs : List Value} {wx : World} (h : RealS fb nv w2 c l l2 cvs wx) : Fr (fun k => k = fb ∨ nv.ownBlock = some k) w2 wx := by
  unfold RealS at h
  split at h
  · exact h.2.1
  · exact h.2.1
  · obtain ⟨_, h⟩ := h; exact h.2.1

theorem put_k3 (k : Nat) (m : Int) (ns : List Txt) (n : Nat) (of : Nat → KT) (ih : ∀ i, i < n → PutAt (of i)) (hk0 : k = 3) : PutAt (.mk k m ns n of) := by
  intro R0 v vv w T fb q nv l hsh0 hvs0 hgood his hst hR0 hl hq
  obtain ⟨R, hRd⟩ : ∃ R : Nat → Prop, R = fun k => R0 k ∧ k < w.heap.size := ⟨_, rfl⟩
  have hR : ∀ k, R k → k < w.heap.size ∧ k ≠ fb ∧ nv.ownBlock ≠ some k := by rw [hRd]; exact fun k h => ⟨h.2, hR0 k h.1⟩
  have hsh : Shows R w _ v := Shows.mono (fun k hk h => by rw [hRd]; exact ⟨h, hk⟩) _ _ hsh0
  have hvs : VShows R w T vv := VShows.mono (fun k hk h => by rw [hRd]; exact ⟨h, hk⟩) _ _ hvs0
  clear hsh0 hvs0 hR0 hRd
  obtain ⟨N, f, s, c, ov, va, cap, rfl, rfl, hVB, hVK⟩ := vshows_open hvs
  obtain ⟨na, nc, a', c', rfl, hs⟩ := shows_lit hsh
  obtain ⟨hN0, hN1, hf64, hsl, hc5⟩ := hVB
  obtain ⟨⟨hn12, hown⟩, hkids⟩ := hgood
  obtain ⟨-, hmost, hone, hparts, hnames, hnone⟩ := own_facts hown
  obtain ⟨i1, i2, i3, i4, i5, i6, i7, i8, i9, i10⟩ := (isE_iff k m ns n of N f s c ov).1 his
  have hc0 : c = 0 := i3 (by omega)
  have HE : Hid (encE (.mk k m ns n of) (.mk N f s c ov) = be8 (Fl.canon f) ∧ szV (.mk N f s c ov) = 1) := Lib.hid ⟨by subst hk0; subst hc0; simp [encE], by subst hc0; simp [szV]⟩
  rw [HE.out.1, HE.out.2] at *
  have HF64 := Lib.hid (Fl.canon_lt hf64)
  clear hVK hs hkids ih hc0
  obtain ⟨OK, hOK⟩ : ∃ OK, decide ((l ++ be8 (Fl.canon f)).length ≤ 4000) = OK := ⟨_, rfl⟩
  rw [hOK]
  have HOK := Lib.hid hOK
  clear hOK
  have hph := put_head R fb q nv l w #[.int .u8 k, .int .i64 m, .slice na ns.length nc, .slice a' n c'] #[.int .i64 N, .float .f64 f, .string ⟨s.toArray⟩, .slice va c cap] hst hR
  have f1 : Fr (fun _ => False) w ((w.alloc (.cells #[.int .u8 k, .int .i64 m, .slice na ns.length nc, .slice a' n c'] 34)).alloc (.cells #[.int .i64 N, .float .f64 f, .string ⟨s.toArray⟩, .slice va c cap] 39)) := ((Fr.refl _ _).alloc _).alloc _
  obtain ⟨p1, z1⟩ := pk_cells (hst.fr f1 (fun h => h) (fun _ _ h => h))
  have HL := Lib.hid hl
  have HQ := Lib.hid hq
  have hfb1 : fb ≠ w.heap.size := by have := lt_of_block hst.here; omega
  have hfb2 : fb ≠ w.heap.size + 1 := by have := lt_of_block hst.here; omega
  have HSH0 := Lib.hid hsh
  clear hsh hvs hst hR hown i1 i2 i3 i4 i5 i6 i7 i8 i9 i10 hmost hone hparts hnames hnone hl hq his hn12
  have hqw : IntKind.i64.wrap ((q : Int) + 1) = (q : Int) + 1 := by have := HQ.out; rw [IntKind.wrap_i64]; omega
  obtain ⟨qz, hqz⟩ : ∃ qz : Int, (q : Int) + 1 = qz := ⟨_, rfl⟩
  have hbig : ¬ (1048576 : Int) < qz := by have := HQ.out; omega
  rw [hqz] at hph hqw
  have HQZ := Lib.hid hqz
  have HQW := Lib.hid hqw
  clear hqw
  obtain ⟨kz, hkz⟩ : ∃ kz : Int, ((k : Nat) : Int) = kz := ⟨_, rfl⟩
  rw [hkz] at hph f1 p1 z1 ⊢
  have e0 : (kz == 0) = false := by simp; omega
  have e1 : (kz == 1) = false := by simp; omega
  have e7 : (kz == 7) = false := by simp; omega
  have e2 : (kz == 2) = false := by simp; omega
  have e3 : (kz == 3) = true := by simp; omega
  have e4 : (kz == 4) = false := by simp; omega
  have e5 : (kz == 5) = false := by simp; omega
  have e6 : (kz == 6) = false := by simp; omega
  have e8 : (kz == 8) = false := by simp; omega
  have HKZ := Lib.hid hkz
  clear hkz hk0
  unfold sv
  go_enter Tryz.func31, Tryz.ntmps31
  go_upto_region 1 with fail
  obtain ⟨w1, hw1⟩ : ∃ w1, (w.alloc (.cells #[.int .u8 kz, .int .i64 m, .slice na ns.length nc, .slice a' n c'] 34)).alloc (.cells #[.int .i64 N, .float .f64 f, .string ⟨s.toArray⟩, .slice va c cap] 39) = w1 := ⟨_, rfl⟩
  rw [hw1] at hph f1 p1 z1 ⊢
  clear hw1
  obtain ⟨vb, hvb⟩ : ∃ vb, w.heap.size + 1 = vb := ⟨_, rfl⟩
  rw [hvb] at hph hfb2 ⊢
  obtain ⟨tb, htb⟩ : ∃ tb, w.heap.size = tb := ⟨_, rfl⟩
  rw [htb] at hph hfb1 ⊢
  clear hvb htb
  have F1 := Lib.hid f1
  clear f1
  go_upto_region 2 with fail
  try rw [hqz]
  clear p1 z1 hqz
  generalize w1.setCell ⟨fb, 1, none⟩ (.int .i64 qz) = w2 at *
  obtain ⟨p1, z1⟩ := pk_cells hph.fr.1
  rw [show (((q + 1 : Nat) : Nat) : Int) = qz from by rw [← HQZ.out]; omega] at p1
  obtain ⟨c0, c1, c2, c3⟩ := cell_of_four hph.tbox
  obtain ⟨d0, d1, d2, d3⟩ := cell_of_four hph.vbox
  have HPH := Lib.hid hph
  clear hph
  go_upto_region 12 with fail
  clear c0 c1 c2 c3 d0 d1 d2 d3 p1 z1
  refine wp_region_chain (by kernel_rfl) [some 40, some 41, some 42, some 43, some 44, some 45, some 46] rfl (by decide) (by intro d hd; simp at hd ⊢; omega)
    [5, 6] (fun cvs wx => RealS fb nv w2 (q + 1) l (l ++ be8 (Fl.canon f)) cvs wx)
    [.free (.pointer (some ⟨fb, 0, none⟩)), .free (.pointer (some ⟨fb, 0, none⟩)), .free (.pointer (some ⟨fb, 0, none⟩)), .free (.pointer (some ⟨vb, 1, none⟩)), .free (.float .f64 f), .link (some (.int .u64 (Fl.canon f))), .link none]
    (by kernel_rfl) (by kernel_rfl) ?h12 ?step12 ?fin12
  case h12 => exact (PkIn.start HPH.out.fr.1).quiet (Fr.refl _ _).drew
  case step12 =>
    intro vals
    simp only [frOfU, fillU, List.setIfInBounds_toArray, List.set_cons_succ, List.set_cons_zero]
    repeat' (first | exact AllOps.nil | refine AllOps.cons ?_ ?_)
    all_goals
      intro cvs wx hS he hu hlim Kc hK
      simp only [Act.put, List.setIfInBounds_toArray, List.set_cons_succ, List.set_cons_zero, List.getD_cons_zero, List.getD_cons_succ] at hK
      simp only [List.mem_cons, List.not_mem_nil, or_false, forall_eq_or_imp, forall_eq, Region.binds, forall_const, pmode_gc, Bool.false_eq_true, false_imp_iff, List.getD_cons_zero, List.getD_cons_succ, OpSort.val, Option.some.injEq, forall_eq', reduceCtorEq, implies_true, true_and, and_true] at he
      have hfr := RealS.fr hS
      obtain ⟨u0, u1, u2, u3⟩ := cell_of_four (box_kept HPH.out.vbox hfr (fun h => by rcases h with h | h; exact HPH.out.voff.2.1 h; exact HPH.out.voff.2.2 h))
      clear hfr
      have HSX := Lib.hid hS
      clear hS
    all_goals first | (clear hlim hu; (try simp only [he] at hK ⊢); go_simp; exact hK) | skip
    · obtain rfl := hlim (0 : Nat) rfl
      have h1 : PkIn fb nv w2 (q + 1) nv l wx := HSX.out
      have H1 := Lib.hid h1
      clear hlim hu HSX h1 u0 u1 u2 u3
      simp only [he] at hK ⊢
      clear he
      go_simp
      go_at_call 52
      refine (bits_any f _).mono ?_
      rintro e1 wb ⟨rfl, rfl⟩
      exact hK _ _ (fun _ h => by cases h; rfl) H1.out
    · obtain rfl := hlim (1 : Nat) rfl
      have h1 := HSX.out
      clear HSX hlim hu u0 u1 u2 u3
      simp only [List.take_succ_cons, List.take_zero, List.map_cons, List.map_nil] at h1 hK
      have H1 : Hid (PkIn fb nv w2 (q + 1) nv l wx) := Lib.hid h1
      clear h1
      simp only [he] at hK ⊢
      clear he
      go_simp
      go_at_call 51
      refine (pquad_any (q + 1 : Nat) fb nv l (Fl.canon f) (by omega) (by have := HF64.out; omega) _ H1.out.1 (by have := HL.out; omega)).mono ?_
      rintro e1 wb ⟨rfl, nv2, h2, h3, h4⟩
      rw [Int.toNat_natCast] at h2
      exact hK _ _ (fun _ h => by cases h) ⟨nv2, H1.out.trans ⟨h2, h3, h4⟩⟩
  case fin12 =>
    intro vals w3 hS hV
    clear hV
    simp only [List.map_cons, List.map_nil] at hS
    obtain ⟨nv2, hp⟩ := hS
    have HP : Hid (PkIn fb nv w (q + 1) nv2 (l ++ be8 (Fl.canon f)) w3) := Lib.hid (HPH.out.fr.trans hp)
    clear hp
    simp only [frOfU, fillU, List.setIfInBounds_toArray, List.set_cons_succ, List.set_cons_zero]
    go_wp2_with fail
    refine (pfits_any fb (q + 1) nv2 _ _ HP.out.1).mono ?_
    rintro e w4 ⟨rfl, rfl⟩
    rw [HOK.out]
    go_wp2_with fail
    go_ret
    exact ⟨rfl, nv2, _, _, HP.out, fun _ => ⟨rfl, rfl⟩⟩
end
end Go.Proofs.YtplipjijaaejlaaGreat
