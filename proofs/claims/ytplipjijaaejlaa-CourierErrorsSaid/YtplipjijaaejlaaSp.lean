/-
  CouErr, what it rests on behind Sl: OPut, OPut2, OPut3, OddMath, CouErrLaw, CouErrArg.
-/
import Derived.Test.YtplipjijaaejlaaSl
set_option linter.unusedVariables false
set_option linter.unusedSimpArgs false
set_option maxHeartbeats 64000000
namespace Go.Proofs.Ytplipjijaaejlaa
open Go.RowKit
open Go.Lib (hid)
section
attribute [local go_sem] run_store_float
set_option maxRecDepth 100000

/-- A type without parts, a value whose text is no longer than this. -/
def oddOK : KT → VT → Prop
  | .mk _ _ _ n _, .mk _ _ s _ _ => n = 0 ∧ s.length ≤ 3000
  | _, _ => False

def OPutAt (t : KT) : Prop := ∀ (R : Nat → Prop) (v vv : Value) (w : World) (T : VT) (fb c : Nat) (nv : Value) (l : List UInt8), Shows R w t v → VShows R w T vv → oddOK t T → isE t T = true → PkSt fb w c nv l → (∀ k, R k → k ≠ fb ∧ nv.ownBlock ≠ some k) → l.length ≤ 4000 → c + szV T ≤ 1000000 →
  Calls Try.prog 16 #[.pointer (some ⟨fb, 0, none⟩), v, vv] w fun e w' => e = .returned (.bool (decide ((l ++ encE t T).length ≤ 4000))) ∧ PkEnd fb nv w w' (decide ((l ++ encE t T).length ≤ 4000)) (l ++ encE t T) (c + szV T)

theorem pktext_long (fb c : Nat) (nv : Value) (l : List UInt8) (s : Txt) (hs : s.length ≤ 3000) (w : World) (h : PkSt fb w c nv l) (hl : l.length ≤ 4000) :
    Calls Try.prog 32 #[.pointer (some ⟨fb, 0, none⟩), .string ⟨s.toArray⟩] w fun e w' => e = .returned (.bool (decide (l.length + (txt s).length ≤ 4000))) ∧ PWrote (c : Int) fb nv (l ++ txt s) w w' := by
  obtain ⟨X, hX⟩ : ∃ X : ByteArray, X = ⟨s.toArray⟩ := ⟨_, rfl⟩
  have hXs : X.size = s.length := by rw [hX]; show s.toArray.size = s.length; simp
  have hXd : X.data.toList = s := by rw [hX]
  rw [← hX, ← hXd]
  have hX1 : X.size ≤ 3000 := by omega
  have hX2 : ¬ (4000 : Int) < (X.size : Int) := by omega
  clear hX hXs hXd hs
  go_enter Try.func32, Try.ntmps32
  go_wp2_with fail
  refine (ptext_any c fb nv l X (by omega) _ h (by omega)).mono ?_
  rintro e w1 ⟨rfl, h2⟩
  have H2 := Lib.hid h2
  obtain ⟨nv2, hp, hf, hv⟩ := h2
  clear hf hv hX2
  go_wp2_with fail
  refine (pfits_any fb c nv2 _ _ hp).mono ?_
  rintro e w2 ⟨rfl, rfl⟩
  go_wp2_with fail
  go_ret
  exact ⟨rfl, H2.out⟩

theorem oput_k0 (k : Nat) (m : Int) (ns : List Txt) (n : Nat) (of : Nat → KT) (hk0 : k = 0) : OPutAt (.mk k m ns n of) := by
  intro R0 v vv w T fb q nv l hsh0 hvs0 hgood his hst hR0 hl hq
  obtain ⟨R, hRd⟩ : ∃ R : Nat → Prop, R = fun k => R0 k ∧ k < w.heap.size := ⟨_, rfl⟩
  have hR : ∀ k, R k → k < w.heap.size ∧ k ≠ fb ∧ nv.ownBlock ≠ some k := by rw [hRd]; exact fun k h => ⟨h.2, hR0 k h.1⟩
  have hsh : Shows R w _ v := Shows.mono (fun k hk h => by rw [hRd]; exact ⟨h, hk⟩) _ _ hsh0
  have hvs : VShows R w T vv := VShows.mono (fun k hk h => by rw [hRd]; exact ⟨h, hk⟩) _ _ hvs0
  clear hsh0 hvs0 hR0 hRd
  obtain ⟨N, f, s, c, ov, va, cap, rfl, rfl, hVB, hVK⟩ := vshows_open hvs
  obtain ⟨na, nc, a', c', rfl, hs⟩ := shows_lit hsh
  obtain ⟨hN0, hN1, hf64, hsl, hc5⟩ := hVB
  obtain ⟨hn0z, hs3⟩ := hgood
  have hn12 : n ≤ 12 := by omega
  have hown : True := trivial
  have hkids : True := trivial
  have ih : True := trivial
  have hmost : True := trivial
  have hone : True := trivial
  have hparts : True := trivial
  have hnames : True := trivial
  have hnone : ¬ (k = 5 ∨ k = 6 ∨ k = 8) → n = 0 := fun _ => hn0z
  obtain ⟨i1, i2, i3, i4, i5, i6, i7, i8, i9, i10⟩ := (isE_iff k m ns n of N f s c ov).1 his
  have hc0 : c = 0 := i3 (by omega)
  have hNa : 0 ≤ N := by simpa [lowE, hk0] using i4
  have hNb : N ≤ 65535 := by
    have h := i5
    simp [highE, hk0] at h
    omega
  have HE : Hid (encE (.mk k m ns n of) (.mk N f s c ov) = be2 N.toNat ∧ szV (.mk N f s c ov) = 1) := Lib.hid ⟨by subst hk0; subst hc0; simp [encE], by subst hc0; simp [szV]⟩
  rw [HE.out.1, HE.out.2] at *
  have HNN := Lib.hid (And.intro hNa hNb)
  clear hNa hNb hVK hs hkids ih hc0
  obtain ⟨OK, hOK⟩ : ∃ OK, decide ((l ++ be2 N.toNat).length ≤ 4000) = OK := ⟨_, rfl⟩
  rw [hOK]
  have HOK := Lib.hid hOK
  clear hOK
  have hph := put_head R fb q nv l w #[.int .u8 k, .int .i64 m, .slice na ns.length nc, .slice a' n c'] #[.int .i64 N, .float .f64 f, .string ⟨s.toArray⟩, .slice va c cap] hst hR
  have f1 : Fr (fun _ => False) w ((w.alloc (.cells #[.int .u8 k, .int .i64 m, .slice na ns.length nc, .slice a' n c'] 34)).alloc (.cells #[.int .i64 N, .float .f64 f, .string ⟨s.toArray⟩, .slice va c cap] 42)) := ((Fr.refl _ _).alloc _).alloc _
  obtain ⟨p1, z1⟩ := pk_cells (hst.fr f1 (fun h => h) (fun _ _ h => h))
  have HL := Lib.hid hl
  have HQ := Lib.hid hq
  have hfb1 : fb ≠ w.heap.size := by have := lt_of_block hst.here; omega
  have hfb2 : fb ≠ w.heap.size + 1 := by have := lt_of_block hst.here; omega
  have HSH0 := Lib.hid hsh
  clear hsh hvs hst hR hown i1 i2 i3 i4 i5 i6 i7 i8 i9 i10 hmost hone hparts hnames hnone hl hq his hn12 hn0z hs3
  have hqw : IntKind.i64.wrap ((q : Int) + 1) = (q : Int) + 1 := by have := HQ.out; rw [IntKind.wrap_i64]; omega
  obtain ⟨qz, hqz⟩ : ∃ qz : Int, (q : Int) + 1 = qz := ⟨_, rfl⟩
  have hbig : ¬ (1048576 : Int) < qz := by have := HQ.out; omega
  rw [hqz] at hph hqw
  have HQZ := Lib.hid hqz
  have HQW := Lib.hid hqw
  clear hqw
  obtain ⟨kz, hkz⟩ : ∃ kz : Int, ((k : Nat) : Int) = kz := ⟨_, rfl⟩
  rw [hkz] at hph f1 p1 z1 ⊢
  have e0 : (kz == 0) = true := by simp; omega
  have e1 : (kz == 1) = false := by simp; omega
  have e7 : (kz == 7) = false := by simp; omega
  have e2 : (kz == 2) = false := by simp; omega
  have e3 : (kz == 3) = false := by simp; omega
  have e4 : (kz == 4) = false := by simp; omega
  have e5 : (kz == 5) = false := by simp; omega
  have e6 : (kz == 6) = false := by simp; omega
  have e8 : (kz == 8) = false := by simp; omega
  have HKZ := Lib.hid hkz
  clear hkz hk0
  unfold sv
  go_enter Try.func16, Try.ntmps16
  go_upto_region 1 with fail
  obtain ⟨w1, hw1⟩ : ∃ w1, (w.alloc (.cells #[.int .u8 kz, .int .i64 m, .slice na ns.length nc, .slice a' n c'] 34)).alloc (.cells #[.int .i64 N, .float .f64 f, .string ⟨s.toArray⟩, .slice va c cap] 42) = w1 := ⟨_, rfl⟩
  rw [hw1] at hph f1 p1 z1 ⊢
  clear hw1
  obtain ⟨vb, hvb⟩ : ∃ vb, w.heap.size + 1 = vb := ⟨_, rfl⟩
  rw [hvb] at hph hfb2 ⊢
  obtain ⟨tb, htb⟩ : ∃ tb, w.heap.size = tb := ⟨_, rfl⟩
  rw [htb] at hph hfb1 ⊢
  clear hvb htb
  have F1 := Lib.hid f1
  clear f1
  go_upto_region 2 with fail
  try rw [hqz]
  clear p1 z1 hqz
  generalize w1.setCell ⟨fb, 1, none⟩ (.int .i64 qz) = w2 at *
  obtain ⟨p1, z1⟩ := pk_cells hph.fr.1
  rw [show (((q + 1 : Nat) : Nat) : Int) = qz from by rw [← HQZ.out]; omega] at p1
  obtain ⟨c0, c1, c2, c3⟩ := cell_of_four hph.tbox
  obtain ⟨d0, d1, d2, d3⟩ := cell_of_four hph.vbox
  have HPH := Lib.hid hph
  clear hph
  go_wp2_with fail
  refine (pkword_any fb (q + 1) nv l N HNN.out.1 HNN.out.2 _ HPH.out.fr.1 HL.out).mono ?_
  rintro e w3 ⟨rfl, nv2, h2, h3, h4⟩
  have HP : Hid (PkIn fb nv w (q + 1) nv2 (l ++ be2 N.toNat) w3) := Lib.hid (HPH.out.fr.trans ⟨h2, h3, h4⟩)
  have HOK2 : Hid (decide (l.length + 2 ≤ 4000) = OK) := Lib.hid (by rw [← HOK.out, List.length_append, be2_length])
  rw [HOK2.out]
  clear h2 h3 h4 c0 c1 c2 c3 d0 d1 d2 d3 p1 z1
  go_wp2_with fail
  go_ret
  exact ⟨rfl, nv2, _, _, HP.out, fun _ => ⟨rfl, rfl⟩⟩

theorem oput_k1 (k : Nat) (m : Int) (ns : List Txt) (n : Nat) (of : Nat → KT) (hk0 : k = 1) : OPutAt (.mk k m ns n of) := by
  intro R0 v vv w T fb q nv l hsh0 hvs0 hgood his hst hR0 hl hq
  obtain ⟨R, hRd⟩ : ∃ R : Nat → Prop, R = fun k => R0 k ∧ k < w.heap.size := ⟨_, rfl⟩
  have hR : ∀ k, R k → k < w.heap.size ∧ k ≠ fb ∧ nv.ownBlock ≠ some k := by rw [hRd]; exact fun k h => ⟨h.2, hR0 k h.1⟩
  have hsh : Shows R w _ v := Shows.mono (fun k hk h => by rw [hRd]; exact ⟨h, hk⟩) _ _ hsh0
  have hvs : VShows R w T vv := VShows.mono (fun k hk h => by rw [hRd]; exact ⟨h, hk⟩) _ _ hvs0
  clear hsh0 hvs0 hR0 hRd
  obtain ⟨N, f, s, c, ov, va, cap, rfl, rfl, hVB, hVK⟩ := vshows_open hvs
  obtain ⟨na, nc, a', c', rfl, hs⟩ := shows_lit hsh
  obtain ⟨hN0, hN1, hf64, hsl, hc5⟩ := hVB
  obtain ⟨hn0z, hs3⟩ := hgood
  have hn12 : n ≤ 12 := by omega
  have hown : True := trivial
  have hkids : True := trivial
  have ih : True := trivial
  have hmost : True := trivial
  have hone : True := trivial
  have hparts : True := trivial
  have hnames : True := trivial
  have hnone : ¬ (k = 5 ∨ k = 6 ∨ k = 8) → n = 0 := fun _ => hn0z
  obtain ⟨i1, i2, i3, i4, i5, i6, i7, i8, i9, i10⟩ := (isE_iff k m ns n of N f s c ov).1 his
  have hc0 : c = 0 := i3 (by omega)
  have hNa : 0 ≤ N := by simpa [lowE, hk0] using i4
  have hNb : N ≤ 65535 := by
    have h := i5
    simp [highE, hk0] at h
    omega
  have HE : Hid (encE (.mk k m ns n of) (.mk N f s c ov) = be2 N.toNat ∧ szV (.mk N f s c ov) = 1) := Lib.hid ⟨by subst hk0; subst hc0; simp [encE], by subst hc0; simp [szV]⟩
  rw [HE.out.1, HE.out.2] at *
  have HNN := Lib.hid (And.intro hNa hNb)
  clear hNa hNb hVK hs hkids ih hc0
  obtain ⟨OK, hOK⟩ : ∃ OK, decide ((l ++ be2 N.toNat).length ≤ 4000) = OK := ⟨_, rfl⟩
  rw [hOK]
  have HOK := Lib.hid hOK
  clear hOK
  have hph := put_head R fb q nv l w #[.int .u8 k, .int .i64 m, .slice na ns.length nc, .slice a' n c'] #[.int .i64 N, .float .f64 f, .string ⟨s.toArray⟩, .slice va c cap] hst hR
  have f1 : Fr (fun _ => False) w ((w.alloc (.cells #[.int .u8 k, .int .i64 m, .slice na ns.length nc, .slice a' n c'] 34)).alloc (.cells #[.int .i64 N, .float .f64 f, .string ⟨s.toArray⟩, .slice va c cap] 42)) := ((Fr.refl _ _).alloc _).alloc _
  obtain ⟨p1, z1⟩ := pk_cells (hst.fr f1 (fun h => h) (fun _ _ h => h))
  have HL := Lib.hid hl
  have HQ := Lib.hid hq
  have hfb1 : fb ≠ w.heap.size := by have := lt_of_block hst.here; omega
  have hfb2 : fb ≠ w.heap.size + 1 := by have := lt_of_block hst.here; omega
  have HSH0 := Lib.hid hsh
  clear hsh hvs hst hR hown i1 i2 i3 i4 i5 i6 i7 i8 i9 i10 hmost hone hparts hnames hnone hl hq his hn12 hn0z hs3
  have hqw : IntKind.i64.wrap ((q : Int) + 1) = (q : Int) + 1 := by have := HQ.out; rw [IntKind.wrap_i64]; omega
  obtain ⟨qz, hqz⟩ : ∃ qz : Int, (q : Int) + 1 = qz := ⟨_, rfl⟩
  have hbig : ¬ (1048576 : Int) < qz := by have := HQ.out; omega
  rw [hqz] at hph hqw
  have HQZ := Lib.hid hqz
  have HQW := Lib.hid hqw
  clear hqw
  obtain ⟨kz, hkz⟩ : ∃ kz : Int, ((k : Nat) : Int) = kz := ⟨_, rfl⟩
  rw [hkz] at hph f1 p1 z1 ⊢
  have e0 : (kz == 0) = false := by simp; omega
  have e1 : (kz == 1) = true := by simp; omega
  have e7 : (kz == 7) = false := by simp; omega
  have e2 : (kz == 2) = false := by simp; omega
  have e3 : (kz == 3) = false := by simp; omega
  have e4 : (kz == 4) = false := by simp; omega
  have e5 : (kz == 5) = false := by simp; omega
  have e6 : (kz == 6) = false := by simp; omega
  have e8 : (kz == 8) = false := by simp; omega
  have HKZ := Lib.hid hkz
  clear hkz hk0
  unfold sv
  go_enter Try.func16, Try.ntmps16
  go_upto_region 1 with fail
  obtain ⟨w1, hw1⟩ : ∃ w1, (w.alloc (.cells #[.int .u8 kz, .int .i64 m, .slice na ns.length nc, .slice a' n c'] 34)).alloc (.cells #[.int .i64 N, .float .f64 f, .string ⟨s.toArray⟩, .slice va c cap] 42) = w1 := ⟨_, rfl⟩
  rw [hw1] at hph f1 p1 z1 ⊢
  clear hw1
  obtain ⟨vb, hvb⟩ : ∃ vb, w.heap.size + 1 = vb := ⟨_, rfl⟩
  rw [hvb] at hph hfb2 ⊢
  obtain ⟨tb, htb⟩ : ∃ tb, w.heap.size = tb := ⟨_, rfl⟩
  rw [htb] at hph hfb1 ⊢
  clear hvb htb
  have F1 := Lib.hid f1
  clear f1
  go_upto_region 2 with fail
  try rw [hqz]
  clear p1 z1 hqz
  generalize w1.setCell ⟨fb, 1, none⟩ (.int .i64 qz) = w2 at *
  obtain ⟨p1, z1⟩ := pk_cells hph.fr.1
  rw [show (((q + 1 : Nat) : Nat) : Int) = qz from by rw [← HQZ.out]; omega] at p1
  obtain ⟨c0, c1, c2, c3⟩ := cell_of_four hph.tbox
  obtain ⟨d0, d1, d2, d3⟩ := cell_of_four hph.vbox
  have HPH := Lib.hid hph
  clear hph
  go_wp2_with fail
  refine (pkword_any fb (q + 1) nv l N HNN.out.1 HNN.out.2 _ HPH.out.fr.1 HL.out).mono ?_
  rintro e w3 ⟨rfl, nv2, h2, h3, h4⟩
  have HP : Hid (PkIn fb nv w (q + 1) nv2 (l ++ be2 N.toNat) w3) := Lib.hid (HPH.out.fr.trans ⟨h2, h3, h4⟩)
  have HOK2 : Hid (decide (l.length + 2 ≤ 4000) = OK) := Lib.hid (by rw [← HOK.out, List.length_append, be2_length])
  rw [HOK2.out]
  clear h2 h3 h4 c0 c1 c2 c3 d0 d1 d2 d3 p1 z1
  go_wp2_with fail
  go_ret
  exact ⟨rfl, nv2, _, _, HP.out, fun _ => ⟨rfl, rfl⟩⟩

theorem oput_k4 (k : Nat) (m : Int) (ns : List Txt) (n : Nat) (of : Nat → KT) (hk0 : k = 4) : OPutAt (.mk k m ns n of) := by
  intro R0 v vv w T fb q nv l hsh0 hvs0 hgood his hst hR0 hl hq
  obtain ⟨R, hRd⟩ : ∃ R : Nat → Prop, R = fun k => R0 k ∧ k < w.heap.size := ⟨_, rfl⟩
  have hR : ∀ k, R k → k < w.heap.size ∧ k ≠ fb ∧ nv.ownBlock ≠ some k := by rw [hRd]; exact fun k h => ⟨h.2, hR0 k h.1⟩
  have hsh : Shows R w _ v := Shows.mono (fun k hk h => by rw [hRd]; exact ⟨h, hk⟩) _ _ hsh0
  have hvs : VShows R w T vv := VShows.mono (fun k hk h => by rw [hRd]; exact ⟨h, hk⟩) _ _ hvs0
  clear hsh0 hvs0 hR0 hRd
  obtain ⟨N, f, s, c, ov, va, cap, rfl, rfl, hVB, hVK⟩ := vshows_open hvs
  obtain ⟨na, nc, a', c', rfl, hs⟩ := shows_lit hsh
  obtain ⟨hN0, hN1, hf64, hsl, hc5⟩ := hVB
  obtain ⟨hn0z, hs3⟩ := hgood
  have hn12 : n ≤ 12 := by omega
  have hown : True := trivial
  have hkids : True := trivial
  have ih : True := trivial
  have hmost : True := trivial
  have hone : True := trivial
  have hparts : True := trivial
  have hnames : True := trivial
  have hnone : ¬ (k = 5 ∨ k = 6 ∨ k = 8) → n = 0 := fun _ => hn0z
  obtain ⟨i1, i2, i3, i4, i5, i6, i7, i8, i9, i10⟩ := (isE_iff k m ns n of N f s c ov).1 his
  have hc0 : c = 0 := i3 (by omega)
  have hs60 : s.length ≤ 3000 := hs3
  have HE : Hid (encE (.mk k m ns n of) (.mk N f s c ov) = txt s ∧ szV (.mk N f s c ov) = 1) := Lib.hid ⟨by subst hk0; subst hc0; simp [encE], by subst hc0; simp [szV]⟩
  rw [HE.out.1, HE.out.2] at *
  have HS60 := Lib.hid hs60
  clear hs60 hVK hs hkids ih hc0
  obtain ⟨OK, hOK⟩ : ∃ OK, decide ((l ++ txt s).length ≤ 4000) = OK := ⟨_, rfl⟩
  rw [hOK]
  have HOK := Lib.hid hOK
  clear hOK
  have hph := put_head R fb q nv l w #[.int .u8 k, .int .i64 m, .slice na ns.length nc, .slice a' n c'] #[.int .i64 N, .float .f64 f, .string ⟨s.toArray⟩, .slice va c cap] hst hR
  have f1 : Fr (fun _ => False) w ((w.alloc (.cells #[.int .u8 k, .int .i64 m, .slice na ns.length nc, .slice a' n c'] 34)).alloc (.cells #[.int .i64 N, .float .f64 f, .string ⟨s.toArray⟩, .slice va c cap] 42)) := ((Fr.refl _ _).alloc _).alloc _
  obtain ⟨p1, z1⟩ := pk_cells (hst.fr f1 (fun h => h) (fun _ _ h => h))
  have HL := Lib.hid hl
  have HQ := Lib.hid hq
  have hfb1 : fb ≠ w.heap.size := by have := lt_of_block hst.here; omega
  have hfb2 : fb ≠ w.heap.size + 1 := by have := lt_of_block hst.here; omega
  have HSH0 := Lib.hid hsh
  clear hsh hvs hst hR hown i1 i2 i3 i4 i5 i6 i7 i8 i9 i10 hmost hone hparts hnames hnone hl hq his hn12 hn0z hs3
  have hqw : IntKind.i64.wrap ((q : Int) + 1) = (q : Int) + 1 := by have := HQ.out; rw [IntKind.wrap_i64]; omega
  obtain ⟨qz, hqz⟩ : ∃ qz : Int, (q : Int) + 1 = qz := ⟨_, rfl⟩
  have hbig : ¬ (1048576 : Int) < qz := by have := HQ.out; omega
  rw [hqz] at hph hqw
  have HQZ := Lib.hid hqz
  have HQW := Lib.hid hqw
  clear hqw
  obtain ⟨kz, hkz⟩ : ∃ kz : Int, ((k : Nat) : Int) = kz := ⟨_, rfl⟩
  rw [hkz] at hph f1 p1 z1 ⊢
  have e0 : (kz == 0) = false := by simp; omega
  have e1 : (kz == 1) = false := by simp; omega
  have e7 : (kz == 7) = false := by simp; omega
  have e2 : (kz == 2) = false := by simp; omega
  have e3 : (kz == 3) = false := by simp; omega
  have e4 : (kz == 4) = true := by simp; omega
  have e5 : (kz == 5) = false := by simp; omega
  have e6 : (kz == 6) = false := by simp; omega
  have e8 : (kz == 8) = false := by simp; omega
  have HKZ := Lib.hid hkz
  clear hkz hk0
  unfold sv
  go_enter Try.func16, Try.ntmps16
  go_upto_region 1 with fail
  obtain ⟨w1, hw1⟩ : ∃ w1, (w.alloc (.cells #[.int .u8 kz, .int .i64 m, .slice na ns.length nc, .slice a' n c'] 34)).alloc (.cells #[.int .i64 N, .float .f64 f, .string ⟨s.toArray⟩, .slice va c cap] 42) = w1 := ⟨_, rfl⟩
  rw [hw1] at hph f1 p1 z1 ⊢
  clear hw1
  obtain ⟨vb, hvb⟩ : ∃ vb, w.heap.size + 1 = vb := ⟨_, rfl⟩
  rw [hvb] at hph hfb2 ⊢
  obtain ⟨tb, htb⟩ : ∃ tb, w.heap.size = tb := ⟨_, rfl⟩
  rw [htb] at hph hfb1 ⊢
  clear hvb htb
  have F1 := Lib.hid f1
  clear f1
  go_upto_region 2 with fail
  try rw [hqz]
  clear p1 z1 hqz
  generalize w1.setCell ⟨fb, 1, none⟩ (.int .i64 qz) = w2 at *
  obtain ⟨p1, z1⟩ := pk_cells hph.fr.1
  rw [show (((q + 1 : Nat) : Nat) : Int) = qz from by rw [← HQZ.out]; omega] at p1
  obtain ⟨c0, c1, c2, c3⟩ := cell_of_four hph.tbox
  obtain ⟨d0, d1, d2, d3⟩ := cell_of_four hph.vbox
  have HPH := Lib.hid hph
  clear hph
  go_wp2_with fail
  refine (pktext_long fb (q + 1) nv l s HS60.out _ HPH.out.fr.1 HL.out).mono ?_
  rintro e w3 ⟨rfl, nv2, h2, h3, h4⟩
  have HP : Hid (PkIn fb nv w (q + 1) nv2 (l ++ txt s) w3) := Lib.hid (HPH.out.fr.trans ⟨h2, h3, h4⟩)
  have HOK2 : Hid (decide (l.length + (txt s).length ≤ 4000) = OK) := Lib.hid (by rw [← HOK.out, List.length_append])
  rw [HOK2.out]
  clear h2 h3 h4 c0 c1 c2 c3 d0 d1 d2 d3 p1 z1
  go_wp2_with fail
  go_ret
  exact ⟨rfl, nv2, _, _, HP.out, fun _ => ⟨rfl, rfl⟩⟩

theorem oput_k2 (k : Nat) (m : Int) (ns : List Txt) (n : Nat) (of : Nat → KT) (hk0 : k = 2) : OPutAt (.mk k m ns n of) := by
  intro R0 v vv w T fb q nv l hsh0 hvs0 hgood his hst hR0 hl hq
  obtain ⟨R, hRd⟩ : ∃ R : Nat → Prop, R = fun k => R0 k ∧ k < w.heap.size := ⟨_, rfl⟩
  have hR : ∀ k, R k → k < w.heap.size ∧ k ≠ fb ∧ nv.ownBlock ≠ some k := by rw [hRd]; exact fun k h => ⟨h.2, hR0 k h.1⟩
  have hsh : Shows R w _ v := Shows.mono (fun k hk h => by rw [hRd]; exact ⟨h, hk⟩) _ _ hsh0
  have hvs : VShows R w T vv := VShows.mono (fun k hk h => by rw [hRd]; exact ⟨h, hk⟩) _ _ hvs0
  clear hsh0 hvs0 hR0 hRd
  obtain ⟨N, f, s, c, ov, va, cap, rfl, rfl, hVB, hVK⟩ := vshows_open hvs
  obtain ⟨na, nc, a', c', rfl, hs⟩ := shows_lit hsh
  obtain ⟨hN0, hN1, hf64, hsl, hc5⟩ := hVB
  obtain ⟨hn0z, hs3⟩ := hgood
  have hn12 : n ≤ 12 := by omega
  have hown : True := trivial
  have hkids : True := trivial
  have ih : True := trivial
  have hmost : True := trivial
  have hone : True := trivial
  have hparts : True := trivial
  have hnames : True := trivial
  have hnone : ¬ (k = 5 ∨ k = 6 ∨ k = 8) → n = 0 := fun _ => hn0z
  obtain ⟨i1, i2, i3, i4, i5, i6, i7, i8, i9, i10⟩ := (isE_iff k m ns n of N f s c ov).1 his
  have hc0 : c = 0 := i3 (by omega)
  have HE : Hid (encE (.mk k m ns n of) (.mk N f s c ov) = be4 (N % 4294967296).toNat ∧ szV (.mk N f s c ov) = 1) := Lib.hid ⟨by subst hk0; subst hc0; simp [encE], by subst hc0; simp [szV]⟩
  rw [HE.out.1, HE.out.2] at *
  obtain ⟨U, hU⟩ : ∃ U : Int, N % 4294967296 = U := ⟨_, rfl⟩
  have hU0 : 0 ≤ U ∧ U ≤ 4294967295 := by omega
  have hUw : IntKind.u32.wrap N = U := by rw [IntKind.wrap_u32]; exact hU
  rw [hU] at *
  have HU := Lib.hid (And.intro hU0 hUw)
  clear hU hU0 hUw hVK hs hkids ih hc0
  obtain ⟨OK, hOK⟩ : ∃ OK, decide ((l ++ be4 U.toNat).length ≤ 4000) = OK := ⟨_, rfl⟩
  rw [hOK]
  have HOK := Lib.hid hOK
  clear hOK
  have hph := put_head R fb q nv l w #[.int .u8 k, .int .i64 m, .slice na ns.length nc, .slice a' n c'] #[.int .i64 N, .float .f64 f, .string ⟨s.toArray⟩, .slice va c cap] hst hR
  have f1 : Fr (fun _ => False) w ((w.alloc (.cells #[.int .u8 k, .int .i64 m, .slice na ns.length nc, .slice a' n c'] 34)).alloc (.cells #[.int .i64 N, .float .f64 f, .string ⟨s.toArray⟩, .slice va c cap] 42)) := ((Fr.refl _ _).alloc _).alloc _
  obtain ⟨p1, z1⟩ := pk_cells (hst.fr f1 (fun h => h) (fun _ _ h => h))
  have HL := Lib.hid hl
  have HQ := Lib.hid hq
  have hfb1 : fb ≠ w.heap.size := by have := lt_of_block hst.here; omega
  have hfb2 : fb ≠ w.heap.size + 1 := by have := lt_of_block hst.here; omega
  have HSH0 := Lib.hid hsh
  clear hsh hvs hst hR hown i1 i2 i3 i4 i5 i6 i7 i8 i9 i10 hmost hone hparts hnames hnone hl hq his hn12 hn0z hs3
  have hqw : IntKind.i64.wrap ((q : Int) + 1) = (q : Int) + 1 := by have := HQ.out; rw [IntKind.wrap_i64]; omega
  obtain ⟨qz, hqz⟩ : ∃ qz : Int, (q : Int) + 1 = qz := ⟨_, rfl⟩
  have hbig : ¬ (1048576 : Int) < qz := by have := HQ.out; omega
  rw [hqz] at hph hqw
  have HQZ := Lib.hid hqz
  have HQW := Lib.hid hqw
  clear hqw
  obtain ⟨kz, hkz⟩ : ∃ kz : Int, ((k : Nat) : Int) = kz := ⟨_, rfl⟩
  rw [hkz] at hph f1 p1 z1 ⊢
  have e0 : (kz == 0) = false := by simp; omega
  have e1 : (kz == 1) = false := by simp; omega
  have e7 : (kz == 7) = false := by simp; omega
  have e2 : (kz == 2) = true := by simp; omega
  have e3 : (kz == 3) = false := by simp; omega
  have e4 : (kz == 4) = false := by simp; omega
  have e5 : (kz == 5) = false := by simp; omega
  have e6 : (kz == 6) = false := by simp; omega
  have e8 : (kz == 8) = false := by simp; omega
  have HKZ := Lib.hid hkz
  clear hkz hk0
  unfold sv
  go_enter Try.func16, Try.ntmps16
  go_upto_region 1 with fail
  obtain ⟨w1, hw1⟩ : ∃ w1, (w.alloc (.cells #[.int .u8 kz, .int .i64 m, .slice na ns.length nc, .slice a' n c'] 34)).alloc (.cells #[.int .i64 N, .float .f64 f, .string ⟨s.toArray⟩, .slice va c cap] 42) = w1 := ⟨_, rfl⟩
  rw [hw1] at hph f1 p1 z1 ⊢
  clear hw1
  obtain ⟨vb, hvb⟩ : ∃ vb, w.heap.size + 1 = vb := ⟨_, rfl⟩
  rw [hvb] at hph hfb2 ⊢
  obtain ⟨tb, htb⟩ : ∃ tb, w.heap.size = tb := ⟨_, rfl⟩
  rw [htb] at hph hfb1 ⊢
  clear hvb htb
  have F1 := Lib.hid f1
  clear f1
  go_upto_region 2 with fail
  try rw [hqz]
  clear p1 z1 hqz
  generalize w1.setCell ⟨fb, 1, none⟩ (.int .i64 qz) = w2 at *
  obtain ⟨p1, z1⟩ := pk_cells hph.fr.1
  rw [show (((q + 1 : Nat) : Nat) : Int) = qz from by rw [← HQZ.out]; omega] at p1
  obtain ⟨c0, c1, c2, c3⟩ := cell_of_four hph.tbox
  obtain ⟨d0, d1, d2, d3⟩ := cell_of_four hph.vbox
  have HPH := Lib.hid hph
  clear hph
  go_upto_region 10 with fail
  clear c0 c1 c2 c3 d0 d1 d2 d3 p1 z1
  refine wp_region_chain (by kernel_rfl) [some 31, some 32, some 33, some 34, some 35, some 36, some 37] rfl (by decide) (by intro d hd; simp at hd ⊢; omega)
    [6] (fun cvs wx => LeafS fb nv w2 (q + 1) l (l ++ be4 U.toNat) cvs wx)
    [.free (.pointer (some ⟨fb, 0, none⟩)), .free (.pointer (some ⟨fb, 0, none⟩)), .free (.pointer (some ⟨fb, 0, none⟩)), .free (.pointer (some ⟨vb, 0, none⟩)), .free (.int .i64 N), .free (.int .u32 U), .link none]
    (by kernel_rfl) (by kernel_rfl) ?h10 ?step10 ?fin10
  case h10 => exact (PkIn.start HPH.out.fr.1).quiet (Fr.refl _ _).drew
  case step10 =>
    intro vals
    simp only [frOfU, fillU, List.setIfInBounds_toArray, List.set_cons_succ, List.set_cons_zero]
    repeat' (first | exact AllOps.nil | refine AllOps.cons ?_ ?_)
    all_goals
      intro cvs wx hS he hu hlim Kc hK
      simp only [Act.put, List.setIfInBounds_toArray, List.set_cons_succ, List.set_cons_zero, List.getD_cons_zero, List.getD_cons_succ] at hK
      simp only [List.mem_cons, List.not_mem_nil, or_false, forall_eq_or_imp, forall_eq, Region.binds, forall_const, pmode_gc, Bool.false_eq_true, false_imp_iff, List.getD_cons_zero, List.getD_cons_succ, OpSort.val, Option.some.injEq, forall_eq', reduceCtorEq, implies_true, true_and, and_true] at he
      have hfr := LeafS.fr hS
      obtain ⟨u0, u1, u2, u3⟩ := cell_of_four (box_kept HPH.out.vbox hfr (fun h => by rcases h with h | h; exact HPH.out.voff.2.1 h; exact HPH.out.voff.2.2 h))
      have huw := HU.out.2
      clear hfr
      have HSX := Lib.hid hS
      clear hS
    all_goals first | (clear hlim hu; (try simp only [he] at hK ⊢); go_simp; exact hK) | skip
    · obtain rfl := hlim (0 : Nat) rfl
      have h1 : PkIn fb nv w2 (q + 1) nv l wx := HSX.out
      have H1 := Lib.hid h1
      clear hlim hu HSX h1 u0 u1 u2 u3 huw
      simp only [he] at hK ⊢
      clear he
      go_simp
      go_at_call 29
      refine (plong_any (q + 1 : Nat) fb nv l U HU.out.1.1 HU.out.1.2 _ H1.out.1 (by have := HL.out; omega)).mono ?_
      rintro e1 wb ⟨rfl, nv2, h2, h3, h4⟩
      exact hK _ _ (fun _ h => by cases h) ⟨nv2, H1.out.trans ⟨h2, h3, h4⟩⟩
  case fin10 =>
    intro vals w3 hS hV
    clear hV
    simp only [List.map_cons, List.map_nil] at hS
    obtain ⟨nv2, hp⟩ := hS
    have HP : Hid (PkIn fb nv w (q + 1) nv2 (l ++ be4 U.toNat) w3) := Lib.hid (HPH.out.fr.trans hp)
    clear hp
    simp only [frOfU, fillU, List.setIfInBounds_toArray, List.set_cons_succ, List.set_cons_zero]
    go_wp2_with fail
    refine (pfits_any fb (q + 1) nv2 _ _ HP.out.1).mono ?_
    rintro e w4 ⟨rfl, rfl⟩
    rw [HOK.out]
    go_wp2_with fail
    go_ret
    exact ⟨rfl, nv2, _, _, HP.out, fun _ => ⟨rfl, rfl⟩⟩

theorem oput_k3 (k : Nat) (m : Int) (ns : List Txt) (n : Nat) (of : Nat → KT) (hk0 : k = 3) : OPutAt (.mk k m ns n of) := by
  intro R0 v vv w T fb q nv l hsh0 hvs0 hgood his hst hR0 hl hq
  obtain ⟨R, hRd⟩ : ∃ R : Nat → Prop, R = fun k => R0 k ∧ k < w.heap.size := ⟨_, rfl⟩
  have hR : ∀ k, R k → k < w.heap.size ∧ k ≠ fb ∧ nv.ownBlock ≠ some k := by rw [hRd]; exact fun k h => ⟨h.2, hR0 k h.1⟩
  have hsh : Shows R w _ v := Shows.mono (fun k hk h => by rw [hRd]; exact ⟨h, hk⟩) _ _ hsh0
  have hvs : VShows R w T vv := VShows.mono (fun k hk h => by rw [hRd]; exact ⟨h, hk⟩) _ _ hvs0
  clear hsh0 hvs0 hR0 hRd
  obtain ⟨N, f, s, c, ov, va, cap, rfl, rfl, hVB, hVK⟩ := vshows_open hvs
  obtain ⟨na, nc, a', c', rfl, hs⟩ := shows_lit hsh
  obtain ⟨hN0, hN1, hf64, hsl, hc5⟩ := hVB
  obtain ⟨hn0z, hs3⟩ := hgood
  have hn12 : n ≤ 12 := by omega
  have hown : True := trivial
  have hkids : True := trivial
  have ih : True := trivial
  have hmost : True := trivial
  have hone : True := trivial
  have hparts : True := trivial
  have hnames : True := trivial
  have hnone : ¬ (k = 5 ∨ k = 6 ∨ k = 8) → n = 0 := fun _ => hn0z
  obtain ⟨i1, i2, i3, i4, i5, i6, i7, i8, i9, i10⟩ := (isE_iff k m ns n of N f s c ov).1 his
  have hc0 : c = 0 := i3 (by omega)
  have HE : Hid (encE (.mk k m ns n of) (.mk N f s c ov) = be8 (Fl.canon f) ∧ szV (.mk N f s c ov) = 1) := Lib.hid ⟨by subst hk0; subst hc0; simp [encE], by subst hc0; simp [szV]⟩
  rw [HE.out.1, HE.out.2] at *
  have HF64 := Lib.hid (Fl.canon_lt hf64)
  clear hVK hs hkids ih hc0
  obtain ⟨OK, hOK⟩ : ∃ OK, decide ((l ++ be8 (Fl.canon f)).length ≤ 4000) = OK := ⟨_, rfl⟩
  rw [hOK]
  have HOK := Lib.hid hOK
  clear hOK
  have hph := put_head R fb q nv l w #[.int .u8 k, .int .i64 m, .slice na ns.length nc, .slice a' n c'] #[.int .i64 N, .float .f64 f, .string ⟨s.toArray⟩, .slice va c cap] hst hR
  have f1 : Fr (fun _ => False) w ((w.alloc (.cells #[.int .u8 k, .int .i64 m, .slice na ns.length nc, .slice a' n c'] 34)).alloc (.cells #[.int .i64 N, .float .f64 f, .string ⟨s.toArray⟩, .slice va c cap] 42)) := ((Fr.refl _ _).alloc _).alloc _
  obtain ⟨p1, z1⟩ := pk_cells (hst.fr f1 (fun h => h) (fun _ _ h => h))
  have HL := Lib.hid hl
  have HQ := Lib.hid hq
  have hfb1 : fb ≠ w.heap.size := by have := lt_of_block hst.here; omega
  have hfb2 : fb ≠ w.heap.size + 1 := by have := lt_of_block hst.here; omega
  have HSH0 := Lib.hid hsh
  clear hsh hvs hst hR hown i1 i2 i3 i4 i5 i6 i7 i8 i9 i10 hmost hone hparts hnames hnone hl hq his hn12 hn0z hs3
  have hqw : IntKind.i64.wrap ((q : Int) + 1) = (q : Int) + 1 := by have := HQ.out; rw [IntKind.wrap_i64]; omega
  obtain ⟨qz, hqz⟩ : ∃ qz : Int, (q : Int) + 1 = qz := ⟨_, rfl⟩
  have hbig : ¬ (1048576 : Int) < qz := by have := HQ.out; omega
  rw [hqz] at hph hqw
  have HQZ := Lib.hid hqz
  have HQW := Lib.hid hqw
  clear hqw
  obtain ⟨kz, hkz⟩ : ∃ kz : Int, ((k : Nat) : Int) = kz := ⟨_, rfl⟩
  rw [hkz] at hph f1 p1 z1 ⊢
  have e0 : (kz == 0) = false := by simp; omega
  have e1 : (kz == 1) = false := by simp; omega
  have e7 : (kz == 7) = false := by simp; omega
  have e2 : (kz == 2) = false := by simp; omega
  have e3 : (kz == 3) = true := by simp; omega
  have e4 : (kz == 4) = false := by simp; omega
  have e5 : (kz == 5) = false := by simp; omega
  have e6 : (kz == 6) = false := by simp; omega
  have e8 : (kz == 8) = false := by simp; omega
  have HKZ := Lib.hid hkz
  clear hkz hk0
  unfold sv
  go_enter Try.func16, Try.ntmps16
  go_upto_region 1 with fail
  obtain ⟨w1, hw1⟩ : ∃ w1, (w.alloc (.cells #[.int .u8 kz, .int .i64 m, .slice na ns.length nc, .slice a' n c'] 34)).alloc (.cells #[.int .i64 N, .float .f64 f, .string ⟨s.toArray⟩, .slice va c cap] 42) = w1 := ⟨_, rfl⟩
  rw [hw1] at hph f1 p1 z1 ⊢
  clear hw1
  obtain ⟨vb, hvb⟩ : ∃ vb, w.heap.size + 1 = vb := ⟨_, rfl⟩
  rw [hvb] at hph hfb2 ⊢
  obtain ⟨tb, htb⟩ : ∃ tb, w.heap.size = tb := ⟨_, rfl⟩
  rw [htb] at hph hfb1 ⊢
  clear hvb htb
  have F1 := Lib.hid f1
  clear f1
  go_upto_region 2 with fail
  try rw [hqz]
  clear p1 z1 hqz
  generalize w1.setCell ⟨fb, 1, none⟩ (.int .i64 qz) = w2 at *
  obtain ⟨p1, z1⟩ := pk_cells hph.fr.1
  rw [show (((q + 1 : Nat) : Nat) : Int) = qz from by rw [← HQZ.out]; omega] at p1
  obtain ⟨c0, c1, c2, c3⟩ := cell_of_four hph.tbox
  obtain ⟨d0, d1, d2, d3⟩ := cell_of_four hph.vbox
  have HPH := Lib.hid hph
  clear hph
  go_upto_region 12 with fail
  clear c0 c1 c2 c3 d0 d1 d2 d3 p1 z1
  refine wp_region_chain (by kernel_rfl) [some 40, some 41, some 42, some 43, some 44, some 45, some 46] rfl (by decide) (by intro d hd; simp at hd ⊢; omega)
    [5, 6] (fun cvs wx => RealS fb nv w2 (q + 1) l (l ++ be8 (Fl.canon f)) cvs wx)
    [.free (.pointer (some ⟨fb, 0, none⟩)), .free (.pointer (some ⟨fb, 0, none⟩)), .free (.pointer (some ⟨fb, 0, none⟩)), .free (.pointer (some ⟨vb, 1, none⟩)), .free (.float .f64 f), .link (some (.int .u64 (Fl.canon f))), .link none]
    (by kernel_rfl) (by kernel_rfl) ?h12 ?step12 ?fin12
  case h12 => exact (PkIn.start HPH.out.fr.1).quiet (Fr.refl _ _).drew
  case step12 =>
    intro vals
    simp only [frOfU, fillU, List.setIfInBounds_toArray, List.set_cons_succ, List.set_cons_zero]
    repeat' (first | exact AllOps.nil | refine AllOps.cons ?_ ?_)
    all_goals
      intro cvs wx hS he hu hlim Kc hK
      simp only [Act.put, List.setIfInBounds_toArray, List.set_cons_succ, List.set_cons_zero, List.getD_cons_zero, List.getD_cons_succ] at hK
      simp only [List.mem_cons, List.not_mem_nil, or_false, forall_eq_or_imp, forall_eq, Region.binds, forall_const, pmode_gc, Bool.false_eq_true, false_imp_iff, List.getD_cons_zero, List.getD_cons_succ, OpSort.val, Option.some.injEq, forall_eq', reduceCtorEq, implies_true, true_and, and_true] at he
      have hfr := RealS.fr hS
      obtain ⟨u0, u1, u2, u3⟩ := cell_of_four (box_kept HPH.out.vbox hfr (fun h => by rcases h with h | h; exact HPH.out.voff.2.1 h; exact HPH.out.voff.2.2 h))
      clear hfr
      have HSX := Lib.hid hS
      clear hS
    all_goals first | (clear hlim hu; (try simp only [he] at hK ⊢); go_simp; exact hK) | skip
    · obtain rfl := hlim (0 : Nat) rfl
      have h1 : PkIn fb nv w2 (q + 1) nv l wx := HSX.out
      have H1 := Lib.hid h1
      clear hlim hu HSX h1 u0 u1 u2 u3
      simp only [he] at hK ⊢
      clear he
      go_simp
      go_at_call 31
      refine (bits_any f _).mono ?_
      rintro e1 wb ⟨rfl, rfl⟩
      exact hK _ _ (fun _ h => by cases h; rfl) H1.out
    · obtain rfl := hlim (1 : Nat) rfl
      have h1 := HSX.out
      clear HSX hlim hu u0 u1 u2 u3
      simp only [List.take_succ_cons, List.take_zero, List.map_cons, List.map_nil] at h1 hK
      have H1 : Hid (PkIn fb nv w2 (q + 1) nv l wx) := Lib.hid h1
      clear h1
      simp only [he] at hK ⊢
      clear he
      go_simp
      go_at_call 30
      refine (pquad_any (q + 1 : Nat) fb nv l (Fl.canon f) (by omega) (by have := HF64.out; omega) _ H1.out.1 (by have := HL.out; omega)).mono ?_
      rintro e1 wb ⟨rfl, nv2, h2, h3, h4⟩
      rw [Int.toNat_natCast] at h2
      exact hK _ _ (fun _ h => by cases h) ⟨nv2, H1.out.trans ⟨h2, h3, h4⟩⟩
  case fin12 =>
    intro vals w3 hS hV
    clear hV
    simp only [List.map_cons, List.map_nil] at hS
    obtain ⟨nv2, hp⟩ := hS
    have HP : Hid (PkIn fb nv w (q + 1) nv2 (l ++ be8 (Fl.canon f)) w3) := Lib.hid (HPH.out.fr.trans hp)
    clear hp
    simp only [frOfU, fillU, List.setIfInBounds_toArray, List.set_cons_succ, List.set_cons_zero]
    go_wp2_with fail
    refine (pfits_any fb (q + 1) nv2 _ _ HP.out.1).mono ?_
    rintro e w4 ⟨rfl, rfl⟩
    rw [HOK.out]
    go_wp2_with fail
    go_ret
    exact ⟨rfl, nv2, _, _, HP.out, fun _ => ⟨rfl, rfl⟩⟩
end
section
attribute [local go_sem] run_store_float
set_option maxRecDepth 100000

theorem oput_k6 (k : Nat) (m : Int) (ns : List Txt) (n : Nat) (of : Nat → KT) (hk0 : k = 6) : OPutAt (.mk k m ns n of) := by
  intro R0 v vv w T fb q nv l hsh0 hvs0 hgood his hst hR0 hl hq
  obtain ⟨R, hRd⟩ : ∃ R : Nat → Prop, R = fun k => R0 k ∧ k < w.heap.size := ⟨_, rfl⟩
  have hR : ∀ k, R k → k < w.heap.size ∧ k ≠ fb ∧ nv.ownBlock ≠ some k := by rw [hRd]; exact fun k h => ⟨h.2, hR0 k h.1⟩
  have hsh : Shows R w _ v := Shows.mono (fun k hk h => by rw [hRd]; exact ⟨h, hk⟩) _ _ hsh0
  have hvs : VShows R w T vv := VShows.mono (fun k hk h => by rw [hRd]; exact ⟨h, hk⟩) _ _ hvs0
  clear hsh0 hvs0 hR0 hRd
  obtain ⟨N, f, s, c, ov, va, cap, rfl, rfl, hVB, hVK⟩ := vshows_open hvs
  obtain ⟨na, nc, a', c', rfl, hs⟩ := shows_lit hsh
  obtain ⟨hN0, hN1, hf64, hsl, hc5⟩ := hVB
  obtain ⟨hn0z, hs3⟩ := hgood
  have hn12 : n ≤ 12 := by omega
  have hown : True := trivial
  have hkids : ∀ i, i < n → goodE (of i) := fun i hi => by omega
  have ih : ∀ i, i < n → PutAt (of i) := fun i hi => by omega
  have hmost : True := trivial
  have hone : True := trivial
  have hparts : True := trivial
  have hnames : True := trivial
  have hnone : ¬ (k = 5 ∨ k = 6 ∨ k = 8) → n = 0 := fun _ => hn0z
  obtain ⟨i1, i2, i3, i4, i5, i6, i7, i8, i9, i10⟩ := (isE_iff k m ns n of N f s c ov).1 his
  have hcn : c = n := i8 hk0
  have HGI : Hid (∀ i, i < c → goodE (of (if k = 5 then 0 else i)) ∧ isE (of (if k = 5 then 0 else i)) (ov i) = true) := Lib.hid (fun i hi => by
    have h := i10 i hi
    rw [if_pos hk0] at h
    rw [if_neg (by omega)]
    exact ⟨hkids i (by omega), h⟩)
  have HIN : Hid (∀ i, i < c → (if k = 5 then 0 else i) < n) := Lib.hid (fun i hi => by rw [if_neg (by omega)]; omega)
  have HIH : Hid (∀ i, i < c → PutAt (of (if k = 5 then 0 else i))) := Lib.hid (fun i hi => by rw [if_neg (by omega)]; exact ih i (by omega))
  have HE : Hid (encE (.mk k m ns n of) (.mk N f s c ov) = partsB (fun i => encE (of (if k = 5 then 0 else i)) (ov i)) c ∧ szV (.mk N f s c ov) = 1 + sumTo (fun i => szV (ov i)) c) := Lib.hid ⟨encE_rec k m ns n of N f s c ov hk0, szV_sum N f s c ov⟩
  rw [HE.out.1, HE.out.2]
  rw [HE.out.2] at hq
  obtain ⟨E, hEE⟩ : ∃ E, partsB (fun i => encE (of (if k = 5 then 0 else i)) (ov i)) c = E := ⟨_, rfl⟩
  rw [hEE]
  have HEE := Lib.hid hEE
  clear hEE HE
  have HVK := Lib.hid hVK
  have HC5 := Lib.hid hc5
  clear hVK hs hkids ih hcn
  clear hn0z hs3
  obtain ⟨OK, hOK⟩ : ∃ OK, decide ((l ++ E).length ≤ 4000) = OK := ⟨_, rfl⟩
  rw [hOK]
  have HOK := Lib.hid hOK
  clear hOK
  have hph := put_head R fb q nv l w #[.int .u8 k, .int .i64 m, .slice na ns.length nc, .slice a' n c'] #[.int .i64 N, .float .f64 f, .string ⟨s.toArray⟩, .slice va c cap] hst hR
  have f1 : Fr (fun _ => False) w ((w.alloc (.cells #[.int .u8 k, .int .i64 m, .slice na ns.length nc, .slice a' n c'] 34)).alloc (.cells #[.int .i64 N, .float .f64 f, .string ⟨s.toArray⟩, .slice va c cap] 42)) := ((Fr.refl _ _).alloc _).alloc _
  obtain ⟨p1, z1⟩ := pk_cells (hst.fr f1 (fun h => h) (fun _ _ h => h))
  have HL := Lib.hid hl
  have HQ := Lib.hid hq
  have hfb1 : fb ≠ w.heap.size := by have := lt_of_block hst.here; omega
  have hfb2 : fb ≠ w.heap.size + 1 := by have := lt_of_block hst.here; omega
  have HSH0 := Lib.hid hsh
  clear hsh hvs hst hR hown i1 i2 i3 i4 i5 i6 i7 i8 i9 i10 hmost hone hparts hnames hnone hl hq his hn12
  have hqw : IntKind.i64.wrap ((q : Int) + 1) = (q : Int) + 1 := by have := HQ.out; rw [IntKind.wrap_i64]; omega
  obtain ⟨qz, hqz⟩ : ∃ qz : Int, (q : Int) + 1 = qz := ⟨_, rfl⟩
  have hbig : ¬ (1048576 : Int) < qz := by have := HQ.out; omega
  rw [hqz] at hph hqw
  have HQZ := Lib.hid hqz
  have HQW := Lib.hid hqw
  clear hqw
  obtain ⟨kz, hkz⟩ : ∃ kz : Int, ((k : Nat) : Int) = kz := ⟨_, rfl⟩
  rw [hkz] at hph f1 p1 z1 ⊢
  have e0 : (kz == 0) = false := by simp; omega
  have e1 : (kz == 1) = false := by simp; omega
  have e7 : (kz == 7) = false := by simp; omega
  have e2 : (kz == 2) = false := by simp; omega
  have e3 : (kz == 3) = false := by simp; omega
  have e4 : (kz == 4) = false := by simp; omega
  have e5 : (kz == 5) = false := by simp; omega
  have e6 : (kz == 6) = true := by simp; omega
  have e8 : (kz == 8) = false := by simp; omega
  have HKZ := Lib.hid hkz
  clear hkz hk0
  unfold sv
  go_enter Try.func16, Try.ntmps16
  go_upto_region 1 with fail
  obtain ⟨w1, hw1⟩ : ∃ w1, (w.alloc (.cells #[.int .u8 kz, .int .i64 m, .slice na ns.length nc, .slice a' n c'] 34)).alloc (.cells #[.int .i64 N, .float .f64 f, .string ⟨s.toArray⟩, .slice va c cap] 42) = w1 := ⟨_, rfl⟩
  rw [hw1] at hph f1 p1 z1 ⊢
  clear hw1
  obtain ⟨vb, hvb⟩ : ∃ vb, w.heap.size + 1 = vb := ⟨_, rfl⟩
  rw [hvb] at hph hfb2 ⊢
  obtain ⟨tb, htb⟩ : ∃ tb, w.heap.size = tb := ⟨_, rfl⟩
  rw [htb] at hph hfb1 ⊢
  clear hvb htb
  have F1 := Lib.hid f1
  clear f1
  go_upto_region 2 with fail
  try rw [hqz]
  clear p1 z1 hqz
  generalize w1.setCell ⟨fb, 1, none⟩ (.int .i64 qz) = w2 at *
  obtain ⟨p1, z1⟩ := pk_cells hph.fr.1
  rw [show (((q + 1 : Nat) : Nat) : Int) = qz from by rw [← HQZ.out]; omega] at p1
  obtain ⟨c0, c1, c2, c3⟩ := cell_of_four hph.tbox
  obtain ⟨d0, d1, d2, d3⟩ := cell_of_four hph.vbox
  have HPH := Lib.hid hph
  clear hph
  have hshz : Shows R w (.mk k m ns n of) (.agg #[.int .u8 kz, .int .i64 m, .slice na ns.length nc, .slice a' n c']) := by rw [← HKZ.out]; exact HSH0.out
  have hoffR : ∀ x, R x → ¬ (x = fb ∨ nv.ownBlock = some x) := fun x hx h => by
    rcases h with h | h
    · exact (HPH.out.roff x hx).2.1 h
    · exact (HPH.out.roff x hx).2.2 h
  have HCALL := Lib.hid (peach_any k m ns n of c ov HIH.out R _ w2 fb (q + 1) nv l va cap (Shows.fr HPH.out.fr.2.1 hoffR _ _ hshz) (HVK.out.fr HPH.out.fr.2.1 hoffR) HIN.out HGI.out HPH.out.fr.1 (fun x hx => (HPH.out.roff x hx).2) HL.out (by have := HQ.out; omega) HC5.out)
  rw [HEE.out] at HCALL
  clear hshz hoffR
  go_wp2_with fail
  refine HCALL.out.mono ?_
  rintro e w3 ⟨rfl, nv2, l2, q2, hp, hok⟩
  have HP : Hid (PkIn fb nv w q2 nv2 l2 w3) := Lib.hid (HPH.out.fr.trans hp)
  have HK := Lib.hid hok
  rw [HOK.out]
  clear hp hok c0 c1 c2 c3 d0 d1 d2 d3 p1 z1
  go_wp2_with fail
  go_ret
  refine ⟨rfl, nv2, l2, q2, HP.out, fun h => ?_⟩
  obtain ⟨e1, e2⟩ := HK.out (by rw [HOK.out]; exact h)
  exact ⟨e1, by rw [e2]; omega⟩

theorem oput_any (k : Nat) (m : Int) (ns : List Txt) (n : Nat) (of : Nat → KT) (hk : k ≤ 4 ∨ k = 6) : OPutAt (.mk k m ns n of) := by
  rcases (by omega : k = 0 ∨ k = 1 ∨ k = 2 ∨ k = 3 ∨ k = 4 ∨ k = 6) with h | h | h | h | h | h
  · exact oput_k0 k m ns n of h
  · exact oput_k1 k m ns n of h
  · exact oput_k2 k m ns n of h
  · exact oput_k3 k m ns n of h
  · exact oput_k4 k m ns n of h
  · exact oput_k6 k m ns n of h
end
section
attribute [local go_sem] run_store_float
set_option maxRecDepth 100000

theorem OPut_any (R0 : Nat → Prop) (t : KT) (T : VT) (v vv : Value) (w : World) (hsh : Shows R0 w t v) (hvs : VShows R0 w T vv) (hput : OPutAt t) (ho : oddOK t T) (hfi : fitsE t T = isE t T) (hsz : szV T ≤ 100000) :
    Calls Try.prog 10 #[v, vv] w fun e w' => ∃ pv, e = .returned (.tuple #[pv, .int .i64 (putErr t T : Nat)]) ∧ NewB w w' pv (if putErr t T = 0 then encE t T else []) ∧ Fr (fun _ => False) w w' := by
  obtain ⟨P, hP⟩ : ∃ P, (if putErr t T = 0 then encE t T else []) = P := ⟨_, rfl⟩
  obtain ⟨E, hE⟩ : ∃ E, putErr t T = E := ⟨_, rfl⟩
  rw [hP, hE]
  rw [hE] at hP
  have HP := Lib.hid hP
  have HE := Lib.hid hE
  clear hP hE
  obtain ⟨k, m, a, n, c, a', n', c', rfl⟩ := hsh.four
  obtain ⟨N, f, s, va, vc, cap, rfl⟩ := hvs.lit
  obtain ⟨w1, hw1⟩ : ∃ w1, w1 = (w.alloc (.cells #[.int .u8 k, .int .i64 m, .slice a n c, .slice a' n' c'] 34)).alloc (.cells #[.int .i64 N, .float .f64 f, .string s, .slice va vc cap] 42) := ⟨_, rfl⟩
  have f1 : Fr (fun _ => False) w w1 := by rw [hw1]; exact ((Fr.refl _ _).alloc _).alloc _
  have q1 : w1.heap[w.heap.size]? = some (.cells #[.int .u8 k, .int .i64 m, .slice a n c, .slice a' n' c'] 34 (0, 0)) := by rw [hw1]; exact heap_alloc_first _ _ _
  have v1 : w1.heap[w.heap.size + 1]? = some (.cells #[.int .i64 N, .float .f64 f, .string s, .slice va vc cap] 42 (0, 0)) := by rw [hw1]; exact heap_alloc_two _ _ _
  have H0 := Lib.hid (And.intro (Shows.fr f1 (fun _ _ h => h) _ _ (Shows.mono (S := fun k => k < w.heap.size) (fun k hk _ => hk) _ _ hsh)) (VShows.fr f1 (fun _ _ h => h) _ _ (VShows.mono (S := fun k => k < w.heap.size) (fun k hk _ => hk) _ _ hvs)))
  have HG := Lib.hid (And.intro hput (And.intro ho hfi))
  have HSZ := Lib.hid hsz
  have F1 := Lib.hid f1
  clear hsh hvs hput ho hfi hsz f1
  go_enter Try.func10, Try.ntmps10
  go_upto_region 1 with fail
  rw [← hw1]
  clear hw1
  obtain ⟨vb, hvb⟩ : ∃ vb, w.heap.size + 1 = vb := ⟨_, rfl⟩
  rw [hvb] at v1 ⊢
  obtain ⟨tb, htb⟩ : ∃ tb, w.heap.size = tb := ⟨_, rfl⟩
  rw [htb] at q1 hvb H0 ⊢
  have HTV := Lib.hid (And.intro htb hvb)
  clear htb hvb
  obtain ⟨c0, c1, c2, c3⟩ := cell_of_four q1
  obtain ⟨d0, d1, d2, d3⟩ := cell_of_four v1
  have HB := Lib.hid (And.intro q1 v1)
  clear q1 v1
  go_wp2_with fail
  refine (vcheck_any (fun k => k < tb) t T _ _ w1 H0.out.1 H0.out.2 HSZ.out).mono ?_
  rintro e w2 ⟨rfl, f2⟩
  have HB2 := Lib.hid (And.intro (box_kept HB.out.1 f2 (fun h => h)) (box_kept HB.out.2 f2 (fun h => h)))
  have H2 := Lib.hid (And.intro (Shows.fr f2 (fun _ _ h => h) _ _ H0.out.1) (VShows.fr f2 (fun _ _ h => h) _ _ H0.out.2))
  have F2 := Lib.hid (F1.out.trans f2 (fun _ _ h => h))
  clear c0 c1 c2 c3 d0 d1 d2 d3 f2
  by_cases hv : isVal t T = true
  case neg =>
    have h17 : valE t T = 17 := by unfold valE; rw [if_neg hv]
    have HE17 : Hid (E = 17 ∧ P = []) := Lib.hid (by
      have h1 : E = 17 := by rw [← HE.out]; unfold putErr; rw [if_neg hv]
      refine ⟨h1, ?_⟩
      rw [← HP.out, h1]; rfl)
    rw [h17]
    clear hv h17
    go_wp2_with fail
    go_ret2
    exact ⟨_, by rw [HE17.out.1]; rfl, by rw [HE17.out.2]; exact ⟨World.ownsRow_nil _ 0 5 1, fun k hk => by cases hk⟩, F2.out⟩
  have h0 : valE t T = 0 := by unfold valE; rw [if_pos hv]
  have his : isE t T = true := by
    unfold isVal at hv
    rw [Bool.and_eq_true] at hv
    rw [← HG.out.2.2]; exact hv.2
  have HEE : Hid (E = if (encE t T).length ≤ 4000 then 0 else 6) := Lib.hid (by rw [← HE.out]; unfold putErr; rw [if_pos hv])
  rw [h0]
  have HIS := Lib.hid his
  clear hv h0 his
  have q3 : (w2.alloc (.cells #[.slice none 0 0, .int .i64 0] 57)).heap[w2.heap.size]? = some (.cells #[.slice none 0 0, .int .i64 0] 57 (0, 0)) := heap_alloc_new _ _
  have f3 : Fr (fun _ => False) w2 (w2.alloc (.cells #[.slice none 0 0, .int .i64 0] 57)) := (Fr.refl _ _).alloc _
  go_upto_region 5 with fail
  generalize w2.alloc (.cells #[.slice none 0 0, .int .i64 0] 57) = w3 at *
  have HFB : Hid (tb < w2.heap.size ∧ vb < w2.heap.size) := Lib.hid ⟨lt_of_block HB2.out.1, lt_of_block HB2.out.2⟩
  have HSW := Lib.hid F2.out.size
  generalize hfb : w2.heap.size = fb at *
  have HST : Hid (PkSt fb w3 0 (.slice none 0 0) []) := Lib.hid ⟨q3, World.ownsRow_nil _ 0 5 1, by simp [Value.ownBlock]⟩
  have HB3 := Lib.hid (And.intro (box_kept HB2.out.1 f3 (fun h => h)) (box_kept HB2.out.2 f3 (fun h => h)))
  have H3 := Lib.hid (And.intro (Shows.fr f3 (fun _ _ h => h) _ _ H2.out.1) (VShows.fr f3 (fun _ _ h => h) _ _ H2.out.2))
  have F3 := Lib.hid (F2.out.trans f3 (fun _ _ h => h))
  clear q3 f3 hfb
  obtain ⟨c0, c1, c2, c3⟩ := cell_of_four HB3.out.1
  obtain ⟨d0, d1, d2, d3⟩ := cell_of_four HB3.out.2
  go_wp2_with fail
  refine (HG.out.1 (fun k => k < tb) _ _ w3 T fb 0 (.slice none 0 0) [] H3.out.1 H3.out.2 HG.out.2.1 HIS.out HST.out (fun k hk => ⟨by have := HFB.out; omega, by simp [Value.ownBlock]⟩) (by simp) (by have := HSZ.out; omega)).mono ?_
  rintro e w4 ⟨rfl, nv2, l2, c4, hp, hok⟩
  rw [List.nil_append] at hok ⊢
  have HF4 : Hid (Fr (fun _ => False) w w4) := Lib.hid (F3.out.trans hp.2.1 (fun k hk h => by
    rcases h with h | h
    · have := HSW.out; omega
    · simp [Value.ownBlock] at h))
  have HPK := Lib.hid hp
  have HOK := Lib.hid hok
  clear c0 c1 c2 c3 d0 d1 d2 d3 hp hok
  by_cases hfit : (encE t T).length ≤ 4000
  · rw [decide_eq_true hfit]
    have HE0 : Hid (E = 0 ∧ P = encE t T ∧ l2 = encE t T) := Lib.hid (by
      have h1 : E = 0 := by rw [HEE.out, if_pos hfit]
      refine ⟨h1, by rw [← HP.out, h1]; rfl, (HOK.out (decide_eq_true hfit)).1⟩)
    have HLE := Lib.hid hfit
    clear hfit
    go_wp2_with fail
    refine (pbytes_any (c4 : Int) fb nv2 l2 _ HPK.out.1 (by rw [HE0.out.2.2]; have := HLE.out; omega)).mono ?_
    rintro e w5 ⟨v5, rfl, ho, f5, hk5⟩
    have H5 := Lib.hid (And.intro ho (And.intro f5 hk5))
    clear ho f5 hk5
    go_wp2_with fail
    go_ret2
    refine ⟨v5, by rw [HE0.out.1]; rfl, ⟨by rw [HE0.out.2.1, ← HE0.out.2.2]; exact H5.out.1, fun k hk => Nat.le_trans HF4.out.size (H5.out.2.2 k hk)⟩, HF4.out.trans H5.out.2.1 (fun _ _ h => h)⟩
  · rw [decide_eq_false hfit]
    have HE6 : Hid (E = 6 ∧ P = []) := Lib.hid (by
      have h1 : E = 6 := by rw [HEE.out, if_neg hfit]
      exact ⟨h1, by rw [← HP.out, h1]; rfl⟩)
    clear hfit
    go_wp2_with fail
    go_ret2
    exact ⟨_, by rw [HE6.out.1]; rfl, by rw [HE6.out.2]; exact ⟨World.ownsRow_nil _ 0 5 1, fun k hk => by cases hk⟩, HF4.out⟩
end
section
def oddT (k : Nat) (m : Int) : KT := .mk k m [] 0 (fun _ => .nil)

theorem within_neg (l : List UInt8) (m : Int) (hm : m < 0) : (withinS (l, 0) m).2.2 ≠ 0 := by
  intro h
  have := within_le (l, 0) m h
  omega

/-- A value without parts, whose text is not long. -/
def plainV : VT → Prop
  | .nil => False
  | .mk _ _ s c _ => c = 0 ∧ s.length ≤ 3000

theorem plain_sz (T : VT) (h : plainV T) : szV T = 1 := by
  cases T with
  | nil => exact h.elim
  | mk N f s c ov =>
    obtain ⟨rfl, _⟩ := h
    rw [szV]; simp

theorem odd_take (k : Nat) (m : Int) (l : List UInt8) (hl : l.length ≤ 3000) :
    plainV (takeE (oddT k m) 20 ((l, 0), 0)).1 ∧
    ((takeE (oddT k m) 20 ((l, 0), 0)).2.1.2 = 0 → (k ≤ 4 ∨ k = 6) ∧ l = encE (oddT k m) (takeE (oddT k m) 20 ((l, 0), 0)).1 ++ (takeE (oddT k m) 20 ((l, 0), 0)).2.1.1) := by
  have hcl : (0 : Int) ≠ 0 → l = [] := fun h => absurd rfl h
  have hz : plainV zeroV := ⟨rfl, Nat.zero_le _⟩
  have hv : ∀ x, plainV (vnum x) := fun x => ⟨rfl, Nat.zero_le _⟩
  unfold oddT takeE
  rw [if_neg (by show ¬ ((20 : Nat) = 0 ∨ 1048576 < 0 + 1); omega)]
  rcases (by omega : k = 0 ∨ k = 1 ∨ k = 2 ∨ k = 3 ∨ k = 4 ∨ k = 5 ∨ k = 6 ∨ k = 7 ∨ k = 8 ∨ 9 ≤ k) with h | h | h | h | h | h | h | h | h | h
  · subst h
    rw [if_pos rfl]
    refine ⟨hv _, fun h => ⟨.inl (by omega), ?_⟩⟩
    rcases withinS_two l 0 1 hcl with ⟨h1, _, h3, h4, h5, h6⟩ | ⟨h1, h2, _⟩
    · show l = encE _ (vnum _) ++ _
      simp only [vnum, encE]
      simp
      rw [h6, h4]
      exact take_two l h3
    · exact absurd h h1
  · subst h
    rw [if_neg (by decide), if_pos rfl]
    refine ⟨hv _, fun h => ⟨.inl (by omega), ?_⟩⟩
    rcases numS_two l 0 2 hcl with ⟨h1, _, h3, h4, h5⟩ | ⟨h1, h2, _⟩
    · show l = encE _ (vnum _) ++ _
      simp only [vnum, encE]
      simp
      rw [h5, h4]
      exact take_two l h3
    · exact absurd h h1
  · subst h
    rw [if_neg (by decide), if_neg (by decide), if_pos rfl]
    refine ⟨hv _, fun h => ⟨.inl (by omega), ?_⟩⟩
    rcases numS_two l 0 4 hcl with ⟨h1, _, h3, h4, h5⟩ | ⟨h1, h2, _⟩
    · show l = encE _ (vnum _) ++ _
      have e1 : encE (.mk 2 m [] 0 (fun _ => .nil)) (vnum (long32 (numS (l, 0) 4).1)) = be4 (long32 (numS (l, 0) 4).1 % 4294967296).toNat := by simp [vnum, encE]
      have hs : (numS (l, 0) 4).1 < 4294967296 := numS_small (l, 0) 4
      rw [e1, long_back _ hs, h5, h4]
      exact take_four l h3
    · exact absurd h h1
  · subst h
    rw [if_neg (by decide), if_neg (by decide), if_neg (by decide), if_pos rfl]
    refine ⟨⟨rfl, Nat.zero_le _⟩, fun h => ⟨.inl (by omega), ?_⟩⟩
    rcases numS_two l 0 8 hcl with ⟨h1, _, h3, h4, h5⟩ | ⟨h1, h2, _⟩
    · by_cases hc : Fl.canon (numS (l, 0) 8).1 = (numS (l, 0) 8).1
      · rw [if_pos hc]
        show l = encE _ _ ++ _
        have e1 : encE (.mk 3 m [] 0 (fun _ => .nil)) (.mk 0 (Fl.canon (numS (l, 0) 8).1) [] 0 (fun _ => .nil)) = be8 (Fl.canon (Fl.canon (numS (l, 0) 8).1)) := by simp [encE]
        rw [e1, hc, hc, h5, h4]
        exact take_eight l h3
      · rw [if_neg hc] at h
        exact absurd h (fail_nil (numS (l, 0) 8).2 4 h1 (by decide)).1
    · exfalso
      by_cases hc : Fl.canon (numS (l, 0) 8).1 = (numS (l, 0) 8).1
      · rw [if_pos hc] at h; exact h1 h
      · rw [if_neg hc] at h
        exact fail_ne _ 4 (by decide) h
  · subst h
    rw [if_neg (by decide), if_neg (by decide), if_neg (by decide), if_neg (by decide), if_pos rfl]
    rcases textS_two l 0 m hcl with ⟨h1, _, h3, h4, h5⟩ | ⟨h1, h2, h3, _⟩
    · refine ⟨⟨rfl, ?_⟩, fun h => ⟨.inl (by omega), ?_⟩⟩
      · have := congrArg List.length h3
        unfold txt at this
        simp only [List.length_append, be2_length] at this
        show (textS (l, 0) m).1.length ≤ 3000
        omega
      · show l = encE _ _ ++ _
        have e1 : encE (.mk 4 m [] 0 (fun _ => .nil)) (.mk 0 0 (textS (l, 0) m).1 0 (fun _ => .nil)) = txt (textS (l, 0) m).1 := by simp [encE]
        rw [e1]
        exact h3
    · exact ⟨⟨rfl, by rw [h3]; exact Nat.zero_le _⟩, fun h => absurd h h1⟩
  · subst h
    rw [if_neg (by decide), if_neg (by decide), if_neg (by decide), if_neg (by decide), if_neg (by decide), if_pos rfl, if_pos (by decide)]
    exact ⟨hz, fun h => absurd h (fail_nil (l, 0) 4 rfl (by decide)).1⟩
  · subst h
    rw [if_neg (by decide), if_neg (by decide), if_neg (by decide), if_neg (by decide), if_neg (by decide), if_neg (by decide), if_pos rfl]
    exact ⟨⟨rfl, Nat.zero_le _⟩, fun h => ⟨.inr rfl, by show l = encE _ (partsV []) ++ l; simp [partsV, encE]⟩⟩
  · subst h
    rw [if_neg (by decide), if_neg (by decide), if_neg (by decide), if_neg (by decide), if_neg (by decide), if_neg (by decide), if_neg (by decide), if_pos rfl]
    exact ⟨hv _, fun h => absurd h (within_neg l _ (by simp))⟩
  · subst h
    rw [if_neg (by decide), if_neg (by decide), if_neg (by decide), if_neg (by decide), if_neg (by decide), if_neg (by decide), if_neg (by decide), if_neg (by decide), if_pos rfl, if_pos (within_neg l _ (by simp))]
    exact ⟨hz, fun h => absurd h (within_neg l _ (by simp))⟩
  · rw [if_neg (by omega), if_neg (by omega), if_neg (by omega), if_neg (by omega), if_neg (by omega), if_neg (by omega), if_neg (by omega), if_neg (by omega), if_neg (by omega)]
    exact ⟨hz, fun h => absurd h (fail_nil (l, 0) 5 rfl (by decide)).1⟩

theorem fits_odd (k : Nat) (m : Int) (hk : k ≤ 4 ∨ k = 6) (T : VT) : fitsE (oddT k m) T = isE (oddT k m) T := by
  unfold oddT
  cases T with
  | nil => rfl
  | mk N f s c ov =>
    rw [Bool.eq_iff_iff, isE_iff, fitsE]
    simp only [same_zero, canon0]
    rcases (by omega : k = 0 ∨ k = 1 ∨ k = 2 ∨ k = 3 ∨ k = 4 ∨ k = 6) with h | h | h | h | h | h <;> subst h
    · simp [lowE, highE]
      constructor
      · rintro ⟨⟨a, b⟩, ⟨c1, c2⟩, c3⟩; subst c3; exact ⟨c1, c2, rfl, a, b, fun i hi => by omega⟩
      · rintro ⟨a, b, c3, d, e, _⟩; exact ⟨⟨d, e⟩, ⟨a, b⟩, c3⟩
    · simp [lowE, highE]
      constructor
      · rintro ⟨⟨a, b⟩, ⟨c1, c2⟩, c3⟩; subst c3; exact ⟨c1, c2, rfl, a, b, fun i hi => by omega⟩
      · rintro ⟨a, b, c3, d, e, _⟩; exact ⟨⟨d, e⟩, ⟨a, b⟩, c3⟩
    · simp [lowE, highE]
      constructor
      · rintro ⟨⟨a, b⟩, ⟨c1, c2⟩, c3⟩; subst c3; exact ⟨c1, c2, rfl, a, b, fun i hi => by omega⟩
      · rintro ⟨a, b, c3, d, e, _⟩; exact ⟨⟨d, e⟩, ⟨a, b⟩, c3⟩
    · simp [lowE, highE]
      constructor
      · rintro ⟨⟨a, b⟩, c3⟩; subst c3; exact ⟨b, rfl, by omega, by omega, fun i hi => by omega⟩
      · rintro ⟨a, b, c3, d, _⟩; exact ⟨⟨by omega, a⟩, b⟩
    · simp [lowE, highE]
      constructor
      · rintro ⟨a, ⟨b, c1⟩, c3⟩; subst c3; exact ⟨c1, rfl, by omega, by omega, a, fun i hi => by omega⟩
      · rintro ⟨a, c3, d, e, g, _⟩; exact ⟨g, ⟨by omega, a⟩, c3⟩
    · simp [lowE, highE]
      constructor
      · rintro ⟨⟨a, b⟩, ⟨c1, c2⟩, c3⟩; subst a; exact ⟨c2, c3, by omega, by omega, rfl, fun i hi => by omega⟩
      · rintro ⟨a, b, c1, c2, d, e⟩; subst d; exact ⟨⟨rfl, fun i hi => by omega⟩, ⟨by omega, a⟩, b⟩

/-- Of such a type: no error, so these are its bytes. -/
theorem odd_ok (k : Nat) (m : Int) (l : List UInt8) (hl : l.length ≤ 3000) (h : takeErr (oddT k m) l = 0) :
    (k ≤ 4 ∨ k = 6) ∧ encE (oddT k m) (tkV (oddT k m) l) = l ∧ isVal (oddT k m) (tkV (oddT k m) l) = true ∧ oddOK (oddT k m) (tkV (oddT k m) l) := by
  obtain ⟨hp, ho⟩ := odd_take k m l hl
  unfold takeErr at h
  unfold tkV
  by_cases h1 : (if (takeE (oddT k m) 20 ((l, 0), 0)).2.1.1 = [] then (takeE (oddT k m) 20 ((l, 0), 0)).2.1.2 else 12) ≠ 0
  · rw [if_pos h1] at h; exact absurd h h1
  rw [if_neg h1] at h
  by_cases h2 : (takeE (oddT k m) 20 ((l, 0), 0)).2.1.1 = []
  · rw [if_pos h2] at h1
    have h3 : (takeE (oddT k m) 20 ((l, 0), 0)).2.1.2 = 0 := by simpa using h1
    obtain ⟨a1, a2⟩ := ho h3
    rw [h2, List.append_nil] at a2
    refine ⟨a1, a2.symm, ?_, ?_⟩
    · unfold valE at h
      by_cases hv : isVal (oddT k m) (takeE (oddT k m) 20 ((l, 0), 0)).1 = true
      · exact hv
      · rw [if_neg hv] at h
        omega
    · generalize (takeE (oddT k m) 20 ((l, 0), 0)).1 = T at hp
      cases T with
      | nil => exact hp.elim
      | mk N f s c ov => exact ⟨rfl, hp.2⟩
  · rw [if_neg h2] at h1
    omega
end
section
attribute [local go_sem] run_store_float
set_option maxRecDepth 100000

theorem Take_longer (t : KT) (v : Value) (a : Option Addr) (c : Nat) (w : World) (hsh : Shows (fun _ => True) w t v) :
    Calls Try.prog 12 #[v, .slice a 4001 c] w fun e w' => e = .returned (.tuple #[.agg #[.int .i64 0, .float .f64 0, .string ⟨#[]⟩, .slice none 0 0], .int .i64 6]) ∧ Fr (fun _ => False) w w' := by
  cases t with
  | nil => exact hsh.elim
  | mk k m ns n of => exact Take_long v a 4001 c w (by decide) k m ns n of (fun _ => True) hsh

/-- While the long bytes are made and taken: what stands. -/
def ES (w : World) (st : Nat → Option Value) (wx : World) : Prop :=
  Fr (fun _ => False) w wx ∧ (∀ v, st 1 = some v → ∃ a c, v = .slice a 4001 c) ∧
  (∀ v, st 6 = some v → ∃ g, v = pptr g ∧ w.heap.size ≤ g ∧ wx.heap[g]? = some (.cells zeroV4 42 (0, 0)))

theorem ES.later {w wx wy : World} {st : Nat → Option Value} (h : ES w st wx) (f : Fr (fun _ => False) wx wy) : ES w st wy :=
  ⟨h.1.trans f (fun _ _ h => h), h.2.1, fun v hv => by obtain ⟨g, e, hg, hc⟩ := h.2.2 v hv; exact ⟨g, e, hg, box_kept hc f (fun h => h)⟩⟩

theorem ES.call {w wx wy : World} {st : Nat → Option Value} (h : ES w st wx) (i : Nat) (v : Value) (f : Fr (fun _ => False) wx wy) (h1 : 1 ≠ i) (h6 : 6 ≠ i) : ES w (pupd st i v) wy := by
  have hl := h.later f
  refine ⟨hl.1, fun u hu => ?_, fun u hu => ?_⟩
  · rw [pupd_ne _ _ _ _ h1] at hu; exact hl.2.1 u hu
  · rw [pupd_ne _ _ _ _ h6] at hu; exact hl.2.2 u hu

theorem ES.make {w wx wy : World} {st : Nat → Option Value} (h : ES w st wx) (a : Option Addr) (c : Nat) (f : Fr (fun _ => False) wx wy) : ES w (pupd st 1 (.slice a 4001 c)) wy := by
  have hl := h.later f
  refine ⟨hl.1, fun u hu => ?_, fun u hu => ?_⟩
  · rw [pupd_at] at hu; cases hu; exact ⟨_, _, rfl⟩
  · rw [pupd_ne _ _ _ _ (by decide)] at hu; exact hl.2.2 u hu

theorem ES.alloc {w wx : World} {st : Nat → Option Value} (h : ES w st wx) : ES w (pupd st 6 (pptr wx.heap.size)) (wx.alloc (.cells zeroV4 42)) := by
  have hl := h.later ((Fr.refl (fun _ => False) wx).alloc (.cells zeroV4 42))
  refine ⟨hl.1, fun u hu => ?_, fun u hu => ?_⟩
  · rw [pupd_ne _ _ _ _ (by decide)] at hu; exact hl.2.1 u hu
  · rw [pupd_at] at hu; cases hu; exact ⟨_, rfl, h.1.size, heap_alloc_new _ _⟩

theorem ES.store {w wx wy : World} {st : Nat → Option Value} (h : ES w st wx) {g : Nat} (u : Value) (e : st 6 = some (pptr g)) (hg : w.heap.size ≤ g) (hc : wy.heap[g]? = some (.cells zeroV4 42 (0, 0))) (f : Fr (fun k => k = g) wx wy) : ES w (pupd st 7 u) wy := by
  refine ⟨h.1.trans f (fun i hi e => by omega), fun v hv => ?_, fun v hv => ?_⟩
  · rw [pupd_ne _ _ _ _ (by decide)] at hv; exact h.2.1 v hv
  · rw [pupd_ne _ _ _ _ (by decide)] at hv
    rw [e] at hv
    cases hv
    exact ⟨g, rfl, hg, hc⟩

theorem odd_shows (R : Nat → Prop) (w : World) (k : Nat) (m : Int) (hk : k ≤ 255) : Shows R w (oddT k m) (.agg #[.int .u8 k, .int .i64 m, .slice none 0 0, .slice none 0 0]) :=
  ⟨.slice none 0 0, .slice none 0 0, rfl, hk, by omega, ⟨by simp, by simp, .inl ⟨rfl, none, 0, rfl⟩⟩, .inl ⟨rfl, none, 0, rfl⟩⟩

theorem make_long (W : World) : (Instr.makeSlice 26 (.int .i64 4001) (.int .i64 4001)).run Try.prog W = .ok (.slice (some ⟨W.heap.size, 0, none⟩) 4001 4001) (W.alloc (.cells (madeCells #[.int .u8 0] 4001) 5)) :=
  run_make_row' _ 5 (.int .u8 0) 1 Try.underlying26 Try.infoU8 rfl .i64 .i64 4001 (by omega) (by omega) W

theorem errs_walk (t u : KN) (vn vm lv rv : Value) (l : List Int) (raw : List UInt8) (k0 most : Int) (w : World) (hn : NShows w t vn) (hm : NShows w u vm) (hl : SeesL w lv (l.map (Value.int .i64))) (hlw : ∀ n ∈ l, (Lit.int .i64 n).wf = true) (hr : Sees w rv raw) (hk0 : 0 ≤ k0) (hk1 : k0 ≤ 255) :
    Calls Try.prog 5 #[vn, vm, lv, .int .u8 k0, .int .i64 most, rv] w fun e w' => e = .returned (.bool true) ∧ Fr (fun _ => False) w w' := by
  obtain ⟨k, n, a, c, cap, rfl⟩ := hn.cells
  obtain ⟨k', n', a', c', cap', rfl⟩ := hm.cells
  obtain ⟨la, lc, rfl⟩ := cslice hl
  obtain ⟨ra, rc, rfl, _⟩ := hr.shape
  simp only [List.length_map] at hl ⊢
  have HVOK := Lib.hid (And.intro (NShows.vok t _ hn) (NShows.vok u _ hm))
  have HN := Lib.hid (And.intro hn hm)
  have HL := Lib.hid (And.intro hl hlw)
  have HR := Lib.hid hr
  obtain ⟨ll, hll⟩ : ∃ ll, l.length = ll := ⟨_, rfl⟩
  rw [hll]
  have HLL := Lib.hid hll
  clear hn hm hl hlw hll hr
  obtain ⟨w1, hw1⟩ : ∃ w1, w1 = (w.alloc (.cells #[.int .u8 k, .int .u8 n, .slice a c cap] 24)).alloc (.cells #[.int .u8 k', .int .u8 n', .slice a' c' cap'] 24) := ⟨_, rfl⟩
  have f1 : Fr (fun _ => False) w w1 := by rw [hw1]; exact ((Fr.refl _ _).alloc _).alloc _
  have q1 : w1.heap[w.heap.size]? = some (.cells #[.int .u8 k, .int .u8 n, .slice a c cap] 24 (0, 0)) := by rw [hw1]; exact heap_alloc_first _ _ _
  have r1 : w1.heap[w.heap.size + 1]? = some (.cells #[.int .u8 k', .int .u8 n', .slice a' c' cap'] 24 (0, 0)) := by rw [hw1]; exact heap_alloc_two _ _ _
  go_enter Try.func5, Try.ntmps5
  go_upto_region 1 with fail
  rw [← hw1]
  obtain ⟨nb, hnb⟩ : ∃ nb, w.heap.size = nb := ⟨_, rfl⟩
  obtain ⟨mb, hmb⟩ : ∃ mb, w.heap.size + 1 = mb := ⟨_, rfl⟩
  rw [hmb] at r1 ⊢
  rw [hnb] at q1 ⊢
  have H1 := Lib.hid (And.intro f1 (And.intro q1 r1))
  clear hw1 f1 q1 r1 hnb hmb
  go_wp2_with fail
  refine (cawake_any _).mono ?_
  rintro er w2 ⟨rfl, f2⟩
  have H2 := Lib.hid (And.intro (H1.out.1.trans f2 (fun _ _ h => h)) (And.intro (box_kept H1.out.2.1 f2 (fun h => h)) (box_kept H1.out.2.2 f2 (fun h => h))))
  have c0 := cells_row H2.out.2.1 0 _ rfl
  have c1 := cells_row H2.out.2.1 1 _ rfl
  have c2 := cells_row H2.out.2.1 2 _ rfl
  clear f2
  have hli := light_any t _ w2 4 4 rfl (by omega) (NShows.fr H2.out.1 _ _ HN.out.1)
  cases hB : lightE t 4 with
  | false =>
    rw [hB] at hli
    clear hB
    go_wp2_with fail
    refine hli.mono ?_
    rintro er w3 ⟨rfl, f3⟩
    have F3 := Lib.hid f3
    clear f3 hli c0 c1 c2
    go_wp2
    go_ret
    exact ⟨rfl, H2.out.1.trans F3.out (fun _ _ h => h)⟩
  | true =>
  rw [hB] at hli
  clear hB
  go_wp2_with fail
  refine hli.mono ?_
  rintro er w3 ⟨rfl, f3⟩
  have H3 := Lib.hid (And.intro (H2.out.1.trans f3 (fun _ _ h => h)) (And.intro (box_kept H2.out.2.1 f3 (fun h => h)) (box_kept H2.out.2.2 f3 (fun h => h))))
  clear f3 hli c0 c1 c2
  have c0 := cells_row H3.out.2.2 0 _ rfl
  have c1 := cells_row H3.out.2.2 1 _ rfl
  have c2 := cells_row H3.out.2.2 2 _ rfl
  have hli := light_any u _ w3 4 4 rfl (by omega) (NShows.fr H3.out.1 _ _ HN.out.2)
  cases hB : lightE u 4 with
  | false =>
    rw [hB] at hli
    clear hB
    go_wp2_with fail
    refine hli.mono ?_
    rintro er w4 ⟨rfl, f4⟩
    have F4 := Lib.hid f4
    clear f4 hli c0 c1 c2
    go_wp2
    go_ret
    exact ⟨rfl, H3.out.1.trans F4.out (fun _ _ h => h)⟩
  | true =>
  rw [hB] at hli
  clear hB
  go_wp2_with fail
  refine hli.mono ?_
  rintro er w4 ⟨rfl, f4⟩
  have H4 := Lib.hid (And.intro (H3.out.1.trans f4 (fun _ _ h => h)) (And.intro (box_kept H3.out.2.1 f4 (fun h => h)) (box_kept H3.out.2.2 f4 (fun h => h))))
  clear f4 hli c0 c1 c2
  by_cases h40 : 40 < ll
  · have b40 : (40 : Int) < (ll : Int) := by omega
    clear h40
    go_wp2
    go_ret
    exact ⟨rfl, H4.out.1⟩
  have b40 : ¬ (40 : Int) < (ll : Int) := by omega
  have HM := Lib.hid h40
  clear h40
  by_cases h100 : 100 < raw.length
  · have b100 : (100 : Int) < (raw.length : Int) := by omega
    clear h100
    go_wp2
    go_ret
    exact ⟨rfl, H4.out.1⟩
  have b100 : ¬ (100 : Int) < (raw.length : Int) := by omega
  have HMR := Lib.hid h100
  clear h100
  go_upto_region 5 with fail
  clear b40 b100
  have hdif5 : PDif 1 3 99 4 5 := ⟨by decide, by decide, by decide, by decide, by decide, by decide, by decide, by decide, by decide, by decide⟩
  refine wp_region_links (by kernel_rfl) [some 46, some 47, some 48, some 49, some 13, some 14, none, none] rfl (by decide) (by intro d hd; simp at hd ⊢; omega)
    (fun st wx => (PS (seenT (typeE [] t 4)) (seenT (typeE [] u 4)) (seenN []) 34 34 zeroK4 zeroK4 1 3 99 4 5 6 7 w4) st wx)
    [.free (.agg #[.int .u8 k, .int .u8 n, .slice a c cap]), .link none, .free (.agg #[.int .u8 k', .int .u8 n', .slice a' c' cap']), .link none, .link none, .link none, .link none, .link none]
    (by kernel_rfl) ?h05 ?step5 ?fin5
  case h05 => exact PA.ps ⟨(Fr.refl _ _).drew, fun v h => (by cases h), fun v h => (by cases h), fun v h => (by cases h), fun v h => (by cases h), fun v h => (by cases h), fun v h => (by cases h)⟩ rfl rfl
  case step5 =>
    intro vals
    simp only [frOfU, fillU, List.setIfInBounds_toArray, List.set_cons_succ, List.set_cons_zero]
    repeat' (first | exact AllOps.nil | refine AllOps.cons ?_ ?_)
    all_goals
      intro st wx hS he hu hn Kc hK
      simp only [Act.put, List.setIfInBounds_toArray, List.set_cons_succ, List.set_cons_zero, List.getD_cons_zero, List.getD_cons_succ] at hK
      simp only [List.mem_cons, List.not_mem_nil, or_false, forall_eq_or_imp, forall_eq, Region.binds, forall_const, pmode_gc, Bool.false_eq_true, false_imp_iff, List.getD_cons_zero, List.getD_cons_succ, OpSort.val, OpSort.isLink, Option.some.injEq, forall_eq', reduceCtorEq, implies_true, true_and, and_true] at he
      have qn := box_kept H4.out.2.1 hS.fr (fun h => h)
      have qm := box_kept H4.out.2.2 hS.fr (fun h => h)
      have c0 := cells_row qn 0 _ rfl
      have c1 := cells_row qn 1 _ rfl
      have c2 := cells_row qn 2 _ rfl
      have e0 := cells_row qm 0 _ rfl
      have e1' := cells_row qm 1 _ rfl
      have e2'' := cells_row qm 2 _ rfl
      clear qn qm
      have HSX := Lib.hid hS
      clear hS
    all_goals first | (clear hu hn; (try simp only [he] at hK ⊢); go_simp; exact hK) | skip
    · have hs1 := (hu 6 (by simp) (by kernel_rfl)).2
      have hs2 := (hu 7 (by simp) (by kernel_rfl)).2
      have ha := Lib.hid (HSX.out.a hs1 hs2)
      clear hu hn
      simp only [he] at hK ⊢
      go_simp
      go_at_call 9
      refine (vtype_any t _ wx (NShows.fr (H4.out.1.trans ha.out.fr (fun _ _ h => h)) _ _ HN.out.1)).mono ?_
      rintro er wa ⟨v', rfl, ht0, fra⟩
      have ht : (seenT (typeE [] t 4)).sh (fun k => k < w4.heap.size ∨ wx.heap.size ≤ k) wa v' := Shows.mono (fun k _ h => .inr h) _ _ ht0
      exact hK _ _ (fun _ h => by cases h) (PA.ps (ha.out.call1 hdif5 fra ht) hs1 hs2)
    · have hs1 := (hu 6 (by simp) (by kernel_rfl)).2
      have hs2 := (hu 7 (by simp) (by kernel_rfl)).2
      have ha := Lib.hid (HSX.out.a hs1 hs2)
      clear hu hn
      simp only [he] at hK ⊢
      go_simp
      go_at_call 9
      refine (vtype_any u _ wx (NShows.fr (H4.out.1.trans ha.out.fr (fun _ _ h => h)) _ _ HN.out.2)).mono ?_
      rintro er wa ⟨v', rfl, ht0, fra⟩
      have ht : (seenT (typeE [] u 4)).sh (fun k => k < w4.heap.size ∨ wx.heap.size ≤ k) wa v' := Shows.mono (fun k _ h => .inr h) _ _ ht0
      exact hK _ _ (fun _ h => by cases h) (PA.ps (ha.out.call2 hdif5 fra ht) hs1 hs2)
    · have hs1 := (hu 6 (by simp) (by kernel_rfl)).2
      have hs2 := (hu 7 (by simp) (by kernel_rfl)).2
      have ha := Lib.hid (HSX.out.a hs1 hs2)
      clear hu hn
      go_simp
      exact hK _ _ (fun _ h => by cases h) (PA.ps (ha.out.alloc1 hdif5) hs1 hs2)
    · have hs1 := (hu 6 (by simp) (by kernel_rfl)).2
      have hs2 := (hu 7 (by simp) (by kernel_rfl)).2
      have ha := Lib.hid (HSX.out.a hs1 hs2)
      clear hu hn
      go_simp
      exact hK _ _ (fun _ h => by cases h) (PA.ps (ha.out.alloc2 hdif5) hs1 hs2)
    · have hs2 := (hu 7 (by simp) (by kernel_rfl)).2
      have ha := Lib.hid (HSX.out.a hn hs2)
      have sa : st 4 = some (vals 4) := by first | exact he | exact he.1 | exact he.2 | exact he.2.1 | exact he.2.2 | exact he.2.2.1 | exact he.2.2.2 | exact he.2.2.2.1 | exact he.2.2.2.2 | exact he.2.2.2.2.1 | exact he.2.2.2.2.2 | exact he.2.2.2.2.2.1 | exact he.2.2.2.2.2.2 | exact he.2.2.2.2.2.2.1 | exact he.2.2.2.2.2.2.2 | exact he.2.2.2.2.2.2.2.1 | exact he.2.2.2.2.2.2.2.2 | exact he.2.2.2.2.2.2.2.2.1 | exact he.2.2.2.2.2.2.2.2.2 | exact he.2.2.2.2.2.2.2.2.2.1 | exact he.2.2.2.2.2.2.2.2.2.2 | exact he.2.2.2.2.2.2.2.2.2.2.1 | exact he.2.2.2.2.2.2.2.2.2.2.2 | exact he.2.2.2.2.2.2.2.2.2.2.2.1 | exact he.2.2.2.2.2.2.2.2.2.2.2.2 | exact he.2.2.2.2.2.2.2.2.2.2.2.2.1 | exact he.2.2.2.2.2.2.2.2.2.2.2.2.2 | exact he.2.2.2.2.2.2.2.2.2.2.2.2.2.1 | exact he.2.2.2.2.2.2.2.2.2.2.2.2.2.2
      have sb : st 5 = some (vals 5) := by first | exact he | exact he.1 | exact he.2 | exact he.2.1 | exact he.2.2 | exact he.2.2.1 | exact he.2.2.2 | exact he.2.2.2.1 | exact he.2.2.2.2 | exact he.2.2.2.2.1 | exact he.2.2.2.2.2 | exact he.2.2.2.2.2.1 | exact he.2.2.2.2.2.2 | exact he.2.2.2.2.2.2.1 | exact he.2.2.2.2.2.2.2 | exact he.2.2.2.2.2.2.2.1 | exact he.2.2.2.2.2.2.2.2 | exact he.2.2.2.2.2.2.2.2.1 | exact he.2.2.2.2.2.2.2.2.2 | exact he.2.2.2.2.2.2.2.2.2.1 | exact he.2.2.2.2.2.2.2.2.2.2 | exact he.2.2.2.2.2.2.2.2.2.2.1 | exact he.2.2.2.2.2.2.2.2.2.2.2 | exact he.2.2.2.2.2.2.2.2.2.2.2.1 | exact he.2.2.2.2.2.2.2.2.2.2.2.2 | exact he.2.2.2.2.2.2.2.2.2.2.2.2.1 | exact he.2.2.2.2.2.2.2.2.2.2.2.2.2 | exact he.2.2.2.2.2.2.2.2.2.2.2.2.2.1 | exact he.2.2.2.2.2.2.2.2.2.2.2.2.2.2
      have sc : st 1 = some (vals 1) := by first | exact he | exact he.1 | exact he.2 | exact he.2.1 | exact he.2.2 | exact he.2.2.1 | exact he.2.2.2 | exact he.2.2.2.1 | exact he.2.2.2.2 | exact he.2.2.2.2.1 | exact he.2.2.2.2.2 | exact he.2.2.2.2.2.1 | exact he.2.2.2.2.2.2 | exact he.2.2.2.2.2.2.1 | exact he.2.2.2.2.2.2.2 | exact he.2.2.2.2.2.2.2.1 | exact he.2.2.2.2.2.2.2.2 | exact he.2.2.2.2.2.2.2.2.1 | exact he.2.2.2.2.2.2.2.2.2 | exact he.2.2.2.2.2.2.2.2.2.1 | exact he.2.2.2.2.2.2.2.2.2.2 | exact he.2.2.2.2.2.2.2.2.2.2.1 | exact he.2.2.2.2.2.2.2.2.2.2.2 | exact he.2.2.2.2.2.2.2.2.2.2.2.1 | exact he.2.2.2.2.2.2.2.2.2.2.2.2 | exact he.2.2.2.2.2.2.2.2.2.2.2.2.1 | exact he.2.2.2.2.2.2.2.2.2.2.2.2.2 | exact he.2.2.2.2.2.2.2.2.2.2.2.2.2.1 | exact he.2.2.2.2.2.2.2.2.2.2.2.2.2.2
      have sd : st 3 = some (vals 3) := by first | exact he | exact he.1 | exact he.2 | exact he.2.1 | exact he.2.2 | exact he.2.2.1 | exact he.2.2.2 | exact he.2.2.2.1 | exact he.2.2.2.2 | exact he.2.2.2.2.1 | exact he.2.2.2.2.2 | exact he.2.2.2.2.2.1 | exact he.2.2.2.2.2.2 | exact he.2.2.2.2.2.2.1 | exact he.2.2.2.2.2.2.2 | exact he.2.2.2.2.2.2.2.1 | exact he.2.2.2.2.2.2.2.2 | exact he.2.2.2.2.2.2.2.2.1 | exact he.2.2.2.2.2.2.2.2.2 | exact he.2.2.2.2.2.2.2.2.2.1 | exact he.2.2.2.2.2.2.2.2.2.2 | exact he.2.2.2.2.2.2.2.2.2.2.1 | exact he.2.2.2.2.2.2.2.2.2.2.2 | exact he.2.2.2.2.2.2.2.2.2.2.2.1 | exact he.2.2.2.2.2.2.2.2.2.2.2.2 | exact he.2.2.2.2.2.2.2.2.2.2.2.2.1 | exact he.2.2.2.2.2.2.2.2.2.2.2.2.2 | exact he.2.2.2.2.2.2.2.2.2.2.2.2.2.1 | exact he.2.2.2.2.2.2.2.2.2.2.2.2.2.2
      obtain ⟨g1, e1, hg1, hc1⟩ := ha.out.p1 _ sa
      obtain ⟨g2, e2, hg2, hc2⟩ := ha.out.p2 _ sb
      obtain ⟨k, m, a, n, c, a', n', c', el⟩ := shows_lit8 (ha.out.c1 _ sc)
      have HH := Lib.hid (And.intro sc (And.intro sd (And.intro (e1 ▸ sa) (And.intro (e2 ▸ sb) (And.intro el hc1)))))
      have z0 : wx.frozen? ⟨g1, 0, none⟩ = false := by simp [World.frozen?, hc1]
      have z1 : wx.frozen? ⟨g1, 1, none⟩ = false := by simp [World.frozen?, hc1]
      have z2 : wx.frozen? ⟨g1, 2, none⟩ = false := by simp [World.frozen?, hc1]
      have z3 : wx.frozen? ⟨g1, 3, none⟩ = false := by simp [World.frozen?, hc1]
      have d0 := cells_row hc1 0 _ rfl
      have d1 := cells_row hc1 1 _ rfl
      have d2 := cells_row hc1 2 _ rfl
      have d3 := cells_row hc1 3 _ rfl
      simp only [zeroK4, List.getElem_toArray, List.getElem_cons_succ, List.getElem_cons_zero] at d0 d1 d2 d3
      unfold pptr at e1
      clear hu hn hc1 hc2 sa sb sc sd e2 he c0 c1 c2 e0 e1' e2''
      simp only [e1, el] at hK ⊢
      go_simp
      exact hK undef _ (fun _ h => by cases h) (PA.store1 ha.out HH.out.1 HH.out.2.1 HH.out.2.2.1 HH.out.2.2.2.1 (by decide) hs2 (by decide) (by decide) (by decide) HH.out.2.2.2.2.1 (store_four HH.out.2.2.2.2.2) (fr_four _ _ _ _ (Fr.refl _ _) (fun _ => rfl)))
    · have sb : st 5 = some (vals 5) := by first | exact he | exact he.1 | exact he.2 | exact he.2.1 | exact he.2.2 | exact he.2.2.1 | exact he.2.2.2 | exact he.2.2.2.1 | exact he.2.2.2.2 | exact he.2.2.2.2.1 | exact he.2.2.2.2.2 | exact he.2.2.2.2.2.1 | exact he.2.2.2.2.2.2 | exact he.2.2.2.2.2.2.1 | exact he.2.2.2.2.2.2.2 | exact he.2.2.2.2.2.2.2.1 | exact he.2.2.2.2.2.2.2.2 | exact he.2.2.2.2.2.2.2.2.1 | exact he.2.2.2.2.2.2.2.2.2 | exact he.2.2.2.2.2.2.2.2.2.1 | exact he.2.2.2.2.2.2.2.2.2.2 | exact he.2.2.2.2.2.2.2.2.2.2.1 | exact he.2.2.2.2.2.2.2.2.2.2.2 | exact he.2.2.2.2.2.2.2.2.2.2.2.1 | exact he.2.2.2.2.2.2.2.2.2.2.2.2 | exact he.2.2.2.2.2.2.2.2.2.2.2.2.1 | exact he.2.2.2.2.2.2.2.2.2.2.2.2.2 | exact he.2.2.2.2.2.2.2.2.2.2.2.2.2.1 | exact he.2.2.2.2.2.2.2.2.2.2.2.2.2.2
      have sd : st 3 = some (vals 3) := by first | exact he | exact he.1 | exact he.2 | exact he.2.1 | exact he.2.2 | exact he.2.2.1 | exact he.2.2.2 | exact he.2.2.2.1 | exact he.2.2.2.2 | exact he.2.2.2.2.1 | exact he.2.2.2.2.2 | exact he.2.2.2.2.2.1 | exact he.2.2.2.2.2.2 | exact he.2.2.2.2.2.2.1 | exact he.2.2.2.2.2.2.2 | exact he.2.2.2.2.2.2.2.1 | exact he.2.2.2.2.2.2.2.2 | exact he.2.2.2.2.2.2.2.2.1 | exact he.2.2.2.2.2.2.2.2.2 | exact he.2.2.2.2.2.2.2.2.2.1 | exact he.2.2.2.2.2.2.2.2.2.2 | exact he.2.2.2.2.2.2.2.2.2.2.1 | exact he.2.2.2.2.2.2.2.2.2.2.2 | exact he.2.2.2.2.2.2.2.2.2.2.2.1 | exact he.2.2.2.2.2.2.2.2.2.2.2.2 | exact he.2.2.2.2.2.2.2.2.2.2.2.2.1 | exact he.2.2.2.2.2.2.2.2.2.2.2.2.2 | exact he.2.2.2.2.2.2.2.2.2.2.2.2.2.1 | exact he.2.2.2.2.2.2.2.2.2.2.2.2.2.2
      have ss : st 6 = some (vals 6) := by first | exact he | exact he.1 | exact he.2 | exact he.2.1 | exact he.2.2 | exact he.2.2.1 | exact he.2.2.2 | exact he.2.2.2.1 | exact he.2.2.2.2 | exact he.2.2.2.2.1 | exact he.2.2.2.2.2 | exact he.2.2.2.2.2.1 | exact he.2.2.2.2.2.2 | exact he.2.2.2.2.2.2.1 | exact he.2.2.2.2.2.2.2 | exact he.2.2.2.2.2.2.2.1 | exact he.2.2.2.2.2.2.2.2 | exact he.2.2.2.2.2.2.2.2.1 | exact he.2.2.2.2.2.2.2.2.2 | exact he.2.2.2.2.2.2.2.2.2.1 | exact he.2.2.2.2.2.2.2.2.2.2 | exact he.2.2.2.2.2.2.2.2.2.2.1 | exact he.2.2.2.2.2.2.2.2.2.2.2 | exact he.2.2.2.2.2.2.2.2.2.2.2.1 | exact he.2.2.2.2.2.2.2.2.2.2.2.2 | exact he.2.2.2.2.2.2.2.2.2.2.2.2.1 | exact he.2.2.2.2.2.2.2.2.2.2.2.2.2 | exact he.2.2.2.2.2.2.2.2.2.2.2.2.2.1 | exact he.2.2.2.2.2.2.2.2.2.2.2.2.2.2
      have hb := Lib.hid (HSX.out.b ss hn)
      obtain ⟨g1, g2, v2, ea, eb, e2', hf, hne, hg1, hg2, hX, hc2, hY⟩ := hb.out
      have e2 : vals 5 = pptr g2 := Option.some.inj (sb.symm.trans eb)
      have ev : vals 3 = v2 := Option.some.inj (sd.symm.trans e2')
      obtain ⟨k, m, a, n, c, a', n', c', el⟩ := shows_lit8 hY
      have HH := Lib.hid (And.intro (ev ▸ sd) (And.intro (e2 ▸ sb) (And.intro el hc2)))
      have z0 : wx.frozen? ⟨g2, 0, none⟩ = false := by simp [World.frozen?, hc2]
      have z1 : wx.frozen? ⟨g2, 1, none⟩ = false := by simp [World.frozen?, hc2]
      have z2 : wx.frozen? ⟨g2, 2, none⟩ = false := by simp [World.frozen?, hc2]
      have z3 : wx.frozen? ⟨g2, 3, none⟩ = false := by simp [World.frozen?, hc2]
      have d0 := cells_row hc2 0 _ rfl
      have d1 := cells_row hc2 1 _ rfl
      have d2 := cells_row hc2 2 _ rfl
      have d3 := cells_row hc2 3 _ rfl
      simp only [zeroK4, List.getElem_toArray, List.getElem_cons_succ, List.getElem_cons_zero] at d0 d1 d2 d3
      rw [el] at ev
      unfold pptr at e2
      clear hu hn hc2 sb sd ss ea eb e2' hX hY hf el he c0 c1 c2 e0 e1' e2''
      simp only [e2, ev] at hK ⊢
      go_simp
      exact hK undef _ (fun _ h => by cases h) (PB.store2 hb.out (HH.out.2.2.1 ▸ HH.out.1) HH.out.2.1 (by decide) (by decide) (by decide) rfl (store_four HH.out.2.2.2) (fr_four _ _ _ _ (Fr.refl _ _) (fun _ => rfl)))
  case fin5 =>
  intro vals w5 hS hV
  have v0 := hV 0 _ (by decide) rfl
  have h2 : ∃ g1 g2 v2, some (vals 4) = some (pptr g1) ∧ some (vals 5) = some (pptr g2) ∧ some (vals 3) = some v2 ∧ PIn (seenT (typeE [] t 4)) (seenT (typeE [] u 4)) 34 34 w4 g1 g2 w5 := hS
  obtain ⟨tb, ub, _, e4, e5, _, fo, hne, htb, hub, ⟨cs1, hc1, hx1⟩, ⟨cs2, hc2, hx2⟩⟩ := h2
  have x4 := Option.some.inj e4
  have x5 := Option.some.inj e5
  clear hS hV e4 e5
  unfold pptr at x4 x5
  simp only [frOfU, fillU, List.setIfInBounds_toArray, List.set_cons_succ, List.set_cons_zero]
  simp only [Nat.reduceAdd, x4, x5]
  clear x4 x5 hdif5 v0
  obtain ⟨tk, tm, ta, tn, tc, ta', tn', tc', e⟩ := shows_lit8 hx1
  cases e
  obtain ⟨uk, um, ua, un, uc, ua', un', uc', e⟩ := shows_lit8 hx2
  cases e
  have H5 := Lib.hid (And.intro (H4.out.1.trans fo (fun _ _ h => h)) (And.intro hc1 (And.intro (Shows.mono (S := fun _ => True) (fun _ _ _ => trivial) _ _ hx1) (And.intro hc2 (Shows.mono (S := fun _ => True) (fun _ _ _ => trivial) _ _ hx2)))))
  clear fo hne htb hub hc1 hx1 hc2 hx2
  have HG := Lib.hid (And.intro (good_type t 4 (by omega) HVOK.out.1) (good_type u 4 (by omega) HVOK.out.2))
  have HC := Lib.hid (And.intro (show costE (typeE [] t 4) ≤ 100000 from by have := cost_typeE [] t 4; omega) (show costE (typeE [] u 4) ≤ 100000 from by have := cost_typeE [] u 4; omega))
  have HBT := Lib.hid (build_type l u 4 (by omega) (by omega) HVOK.out.2)
  have HBS := Lib.hid (build_le l _ (good_type u 4 (by omega) HVOK.out.2).1 (0, 0)).2
  rw [← HBT.out.1] at HBS
  generalize typeE [] t 4 = T at *
  generalize typeE [] u 4 = U at *
  have HNU : Hid (Nums (fun _ => True) w l (.slice la ll lc)) := Lib.hid (by
    have h1 := cnums_of HL.out.1 HL.out.2 (by have := HM.out; have := HLL.out; omega)
    rw [HLL.out] at h1
    exact h1)
  obtain ⟨d0, d1, d2, d3⟩ := cell_of_four H5.out.2.2.2.1
  go_wp2_with fail
  refine (Build_any (fun _ => True) l U _ (.slice la ll lc) w5 H5.out.2.2.2.2 (HNU.out.fr H5.out.1 (fun _ _ h => h)) HC.out.2).mono ?_
  rintro er w6 ⟨v', rfl, hv6, f6⟩
  obtain ⟨vn, vf, vs, va, vc, vcap, rfl⟩ := vshows_lit6 hv6
  obtain ⟨w7, hw7⟩ : ∃ w7, w7 = w6.alloc (.cells #[.int .i64 vn, .float .f64 vf, .string vs, .slice va vc vcap] 42) := ⟨_, rfl⟩
  have f7 : Fr (fun _ => False) w6 w7 := by rw [hw7]; exact (Fr.refl _ _).alloc _
  have q7 : w7.heap[w6.heap.size]? = some (.cells #[.int .i64 vn, .float .f64 vf, .string vs, .slice va vc vcap] 42 (0, 0)) := by rw [hw7]; exact heap_alloc_new _ _
  clear d0 d1 d2 d3
  go_upto_region 7 with fail
  rw [← hw7]
  obtain ⟨vb, hvb⟩ : ∃ vb, w6.heap.size = vb := ⟨_, rfl⟩
  rw [hvb] at q7 ⊢
  obtain ⟨A, hA⟩ : ∃ A, BuildE l U = A := ⟨_, rfl⟩
  rw [hA] at hv6 HBS
  have F7 := Lib.hid (f6.trans f7 (fun _ _ h => h))
  have H7 : Hid (Fr (fun _ => False) w w7 ∧ (w7.heap[tb]? = some (.cells #[.int .u8 tk, .int .i64 tm, .slice ta tn tc, .slice ta' tn' tc'] 34 (0, 0)) ∧ Shows (fun _ => True) w7 T (.agg #[.int .u8 tk, .int .i64 tm, .slice ta tn tc, .slice ta' tn' tc'])) ∧ (w7.heap[vb]? = some (.cells #[.int .i64 vn, .float .f64 vf, .string vs, .slice va vc vcap] 42 (0, 0)) ∧ VShows (fun _ => True) w7 A (.agg #[.int .i64 vn, .float .f64 vf, .string vs, .slice va vc vcap]))) :=
    Lib.hid ⟨H5.out.1.trans F7.out (fun _ _ h => h), ⟨box_kept H5.out.2.1 F7.out (fun h => h), Shows.fr F7.out (fun _ _ h => h) _ _ H5.out.2.2.1⟩, ⟨q7, VShows.fr f7 (fun _ _ h => h) _ _ (VShows.mono (S := fun _ => True) (fun _ _ _ => trivial) _ _ hv6)⟩⟩
  have HSZ : Hid (szV A ≤ 100000) := Lib.hid (by have := HBS.out; have := HC.out; omega)
  clear hw7 f7 q7 f6 hv6 hvb hA HBT HBS F7
  obtain ⟨c0, c1, c2, c3⟩ := cell_of_four H7.out.2.1.1
  obtain ⟨d0, d1, d2, d3⟩ := cell_of_four H7.out.2.2.1
  go_wp2_with fail
  refine (Put_any (fun _ => True) T A _ _ w7 H7.out.2.1.2 H7.out.2.2.2 HG.out.1.1 HSZ.out).mono ?_
  rintro er w8 ⟨pv, rfl, hb8, f8⟩
  obtain ⟨pl, hpl⟩ : ∃ pl, (if putErr T A = 0 then encE T A else []) = pl := ⟨_, rfl⟩
  obtain ⟨pe, hpe⟩ : ∃ pe : Nat, putErr T A = pe := ⟨_, rfl⟩
  rw [hpl] at hb8
  rw [hpe] at hpl ⊢
  have HPE : Hid ((isVal T A = true ∧ (pe = 0 ∨ (pe = 6 ∧ pl = []))) ∨ (isVal T A = false ∧ pe = 17 ∧ pl = [])) := Lib.hid (by
    unfold putErr at hpe
    cases hv : isVal T A with
    | true =>
      rw [hv] at hpe
      by_cases h4 : (encE T A).length ≤ 4000
      · rw [if_pos rfl, if_pos h4] at hpe
        exact .inl ⟨rfl, .inl hpe.symm⟩
      · rw [if_pos rfl, if_neg h4] at hpe
        subst hpe
        exact .inl ⟨rfl, .inr ⟨rfl, by rw [← hpl, if_neg (by decide)]⟩⟩
    | false =>
      rw [hv] at hpe
      rw [if_neg (by decide)] at hpe
      subst hpe
      exact .inr ⟨rfl, rfl, by rw [← hpl, if_neg (by decide)]⟩)
  obtain ⟨pa, pc, rfl⟩ := new_slice hb8
  have H8 : Hid (Fr (fun _ => False) w w8 ∧ (w8.heap[tb]? = some (.cells #[.int .u8 tk, .int .i64 tm, .slice ta tn tc, .slice ta' tn' tc'] 34 (0, 0)) ∧ Shows (fun _ => True) w8 T (.agg #[.int .u8 tk, .int .i64 tm, .slice ta tn tc, .slice ta' tn' tc'])) ∧ (w8.heap[vb]? = some (.cells #[.int .i64 vn, .float .f64 vf, .string vs, .slice va vc vcap] 42 (0, 0)) ∧ VShows (fun _ => True) w8 A (.agg #[.int .i64 vn, .float .f64 vf, .string vs, .slice va vc vcap]))) :=
    Lib.hid ⟨H7.out.1.trans f8 (fun _ _ h => h), ⟨box_kept H7.out.2.1.1 f8 (fun h => h), Shows.fr f8 (fun _ _ h => h) _ _ H7.out.2.1.2⟩, ⟨box_kept H7.out.2.2.1 f8 (fun h => h), VShows.fr f8 (fun _ _ h => h) _ _ H7.out.2.2.2⟩⟩
  clear c0 c1 c2 c3 d0 d1 d2 d3 hb8 f8 hpl hpe
  go_upto_region 8 with fail
  have hmk := make_long
  refine wp_region_links (by kernel_rfl) [some 60, some 61, some 62, some 59, some 63, some 64, some 18, none, some 19] rfl (by decide) (by intro d hd; simp at hd ⊢; omega)
    (fun st wx => ES w8 st wx)
    [.free (.agg #[.int .u8 tk, .int .i64 tm, .slice ta tn tc, .slice ta' tn' tc']), .link none, .link (some (.tuple #[.agg #[.int .i64 0, .float .f64 0, .string ⟨#[]⟩, .slice none 0 0], .int .i64 6])), .free (.tuple #[.agg #[.int .i64 0, .float .f64 0, .string ⟨#[]⟩, .slice none 0 0], .int .i64 6]), .free (.agg #[.int .i64 0, .float .f64 0, .string ⟨#[]⟩, .slice none 0 0]), .free (.int .i64 6), .link none, .link none, .free (.int .i64 6)]
    (by kernel_rfl) ?h08 ?step8 ?fin8
  case h08 => exact ⟨(Fr.refl _ _).drew, fun v h => (by cases h), fun v h => (by cases h)⟩
  case step8 =>
    intro vals
    simp only [frOfU, fillU, List.setIfInBounds_toArray, List.set_cons_succ, List.set_cons_zero]
    repeat' (first | exact AllOps.nil | refine AllOps.cons ?_ ?_)
    all_goals
      intro st wx hS he hu hn Kc hK
      simp only [Act.put, List.setIfInBounds_toArray, List.set_cons_succ, List.set_cons_zero, List.getD_cons_zero, List.getD_cons_succ] at hK
      simp only [List.mem_cons, List.not_mem_nil, or_false, forall_eq_or_imp, forall_eq, Region.binds, forall_const, pmode_gc, Bool.false_eq_true, false_imp_iff, List.getD_cons_zero, List.getD_cons_succ, OpSort.val, OpSort.isLink, Option.some.injEq, forall_eq', reduceCtorEq, implies_true, true_and, and_true] at he
      obtain ⟨c0, c1, c2, c3⟩ := cell_of_four (box_kept H8.out.2.1.1 hS.1 (fun h => h))
      have HSX := Lib.hid hS
      clear hS
    all_goals first | (clear hu hn; (try simp only [he] at hK ⊢); go_simp; exact hK) | skip
    · clear hu hn c0 c1 c2 c3
      have hm := make_long wx
      go_simp
      exact hK _ _ (fun _ h => by cases h) (ES.make HSX.out _ _ ((Fr.refl _ _).alloc _))
    · have sa : st 1 = some (vals 1) := by first | exact he | exact he.1 | exact he.2 | exact he.2.1 | exact he.2.2 | exact he.2.2.1 | exact he.2.2.2 | exact he.2.2.2.1 | exact he.2.2.2.2 | exact he.2.2.2.2.1 | exact he.2.2.2.2.2 | exact he.2.2.2.2.2.1 | exact he.2.2.2.2.2.2 | exact he.2.2.2.2.2.2.1 | exact he.2.2.2.2.2.2.2 | exact he.2.2.2.2.2.2.2.1 | exact he.2.2.2.2.2.2.2.2 | exact he.2.2.2.2.2.2.2.2.1 | exact he.2.2.2.2.2.2.2.2.2 | exact he.2.2.2.2.2.2.2.2.2.1 | exact he.2.2.2.2.2.2.2.2.2.2 | exact he.2.2.2.2.2.2.2.2.2.2.1 | exact he.2.2.2.2.2.2.2.2.2.2.2 | exact he.2.2.2.2.2.2.2.2.2.2.2.1 | exact he.2.2.2.2.2.2.2.2.2.2.2.2 | exact he.2.2.2.2.2.2.2.2.2.2.2.2.1 | exact he.2.2.2.2.2.2.2.2.2.2.2.2.2 | exact he.2.2.2.2.2.2.2.2.2.2.2.2.2.1 | exact he.2.2.2.2.2.2.2.2.2.2.2.2.2.2
      have v0 : vals 0 = .agg #[.int .u8 tk, .int .i64 tm, .slice ta tn tc, .slice ta' tn' tc'] := by first | exact he | exact he.1 | exact he.2 | exact he.2.1 | exact he.2.2 | exact he.2.2.1 | exact he.2.2.2 | exact he.2.2.2.1 | exact he.2.2.2.2 | exact he.2.2.2.2.1 | exact he.2.2.2.2.2 | exact he.2.2.2.2.2.1 | exact he.2.2.2.2.2.2 | exact he.2.2.2.2.2.2.1 | exact he.2.2.2.2.2.2.2 | exact he.2.2.2.2.2.2.2.1 | exact he.2.2.2.2.2.2.2.2 | exact he.2.2.2.2.2.2.2.2.1 | exact he.2.2.2.2.2.2.2.2.2 | exact he.2.2.2.2.2.2.2.2.2.1 | exact he.2.2.2.2.2.2.2.2.2.2 | exact he.2.2.2.2.2.2.2.2.2.2.1 | exact he.2.2.2.2.2.2.2.2.2.2.2 | exact he.2.2.2.2.2.2.2.2.2.2.2.1 | exact he.2.2.2.2.2.2.2.2.2.2.2.2 | exact he.2.2.2.2.2.2.2.2.2.2.2.2.1 | exact he.2.2.2.2.2.2.2.2.2.2.2.2.2 | exact he.2.2.2.2.2.2.2.2.2.2.2.2.2.1 | exact he.2.2.2.2.2.2.2.2.2.2.2.2.2.2
      obtain ⟨a, c, e1⟩ := HSX.out.2.1 _ sa
      clear hu hn he sa c0 c1 c2 c3
      simp only [e1, v0] at hK ⊢
      clear e1 v0
      go_simp
      go_at_call 12
      refine (Take_longer T _ a c wx (Shows.fr HSX.out.1 (fun _ _ h => h) _ _ H8.out.2.1.2)).mono ?_
      rintro er wa ⟨rfl, fra⟩
      exact hK _ _ (fun _ h => by cases h; rfl) (ES.call HSX.out 2 _ fra (by decide) (by decide))
    · clear hu hn c0 c1 c2 c3
      go_simp
      exact hK _ _ (fun _ h => by cases h) (ES.alloc HSX.out)
    · have sa : st 6 = some (vals 6) := by first | exact he | exact he.1 | exact he.2 | exact he.2.1 | exact he.2.2 | exact he.2.2.1 | exact he.2.2.2 | exact he.2.2.2.1 | exact he.2.2.2.2 | exact he.2.2.2.2.1 | exact he.2.2.2.2.2 | exact he.2.2.2.2.2.1 | exact he.2.2.2.2.2.2 | exact he.2.2.2.2.2.2.1 | exact he.2.2.2.2.2.2.2 | exact he.2.2.2.2.2.2.2.1 | exact he.2.2.2.2.2.2.2.2 | exact he.2.2.2.2.2.2.2.2.1 | exact he.2.2.2.2.2.2.2.2.2 | exact he.2.2.2.2.2.2.2.2.2.1 | exact he.2.2.2.2.2.2.2.2.2.2 | exact he.2.2.2.2.2.2.2.2.2.2.1 | exact he.2.2.2.2.2.2.2.2.2.2.2 | exact he.2.2.2.2.2.2.2.2.2.2.2.1 | exact he.2.2.2.2.2.2.2.2.2.2.2.2 | exact he.2.2.2.2.2.2.2.2.2.2.2.2.1 | exact he.2.2.2.2.2.2.2.2.2.2.2.2.2 | exact he.2.2.2.2.2.2.2.2.2.2.2.2.2.1 | exact he.2.2.2.2.2.2.2.2.2.2.2.2.2.2
      have v4 : vals 4 = .agg #[.int .i64 0, .float .f64 0, .string ⟨#[]⟩, .slice none 0 0] := by first | exact he | exact he.1 | exact he.2 | exact he.2.1 | exact he.2.2 | exact he.2.2.1 | exact he.2.2.2 | exact he.2.2.2.1 | exact he.2.2.2.2 | exact he.2.2.2.2.1 | exact he.2.2.2.2.2 | exact he.2.2.2.2.2.1 | exact he.2.2.2.2.2.2 | exact he.2.2.2.2.2.2.1 | exact he.2.2.2.2.2.2.2 | exact he.2.2.2.2.2.2.2.1 | exact he.2.2.2.2.2.2.2.2 | exact he.2.2.2.2.2.2.2.2.1 | exact he.2.2.2.2.2.2.2.2.2 | exact he.2.2.2.2.2.2.2.2.2.1 | exact he.2.2.2.2.2.2.2.2.2.2 | exact he.2.2.2.2.2.2.2.2.2.2.1 | exact he.2.2.2.2.2.2.2.2.2.2.2 | exact he.2.2.2.2.2.2.2.2.2.2.2.1 | exact he.2.2.2.2.2.2.2.2.2.2.2.2 | exact he.2.2.2.2.2.2.2.2.2.2.2.2.1 | exact he.2.2.2.2.2.2.2.2.2.2.2.2.2 | exact he.2.2.2.2.2.2.2.2.2.2.2.2.2.1 | exact he.2.2.2.2.2.2.2.2.2.2.2.2.2.2
      obtain ⟨g1, e1, hg1, hc1⟩ := HSX.out.2.2 _ sa
      have HH := Lib.hid (And.intro (e1 ▸ sa) (And.intro hg1 hc1))
      have z0 : wx.frozen? ⟨g1, 0, none⟩ = false := by simp [World.frozen?, hc1]
      have z1 : wx.frozen? ⟨g1, 1, none⟩ = false := by simp [World.frozen?, hc1]
      have z2 : wx.frozen? ⟨g1, 2, none⟩ = false := by simp [World.frozen?, hc1]
      have z3 : wx.frozen? ⟨g1, 3, none⟩ = false := by simp [World.frozen?, hc1]
      have d0 := cells_row hc1 0 _ rfl
      have d1 := cells_row hc1 1 _ rfl
      have d2 := cells_row hc1 2 _ rfl
      have d3 := cells_row hc1 3 _ rfl
      simp only [zeroV4, List.getElem_toArray, List.getElem_cons_succ, List.getElem_cons_zero] at d0 d1 d2 d3
      unfold pptr at e1
      clear hu hn hc1 hg1 sa he c0 c1 c2 c3
      simp only [e1, v4] at hK ⊢
      go_simp
      exact hK undef _ (fun _ h => by cases h) (ES.store HSX.out undef HH.out.1 HH.out.2.1 (store_four HH.out.2.2) (fr_four _ _ _ _ (Fr.refl _ _) (fun _ => rfl)))
  case fin8 =>
  intro vals w9 hS hV
  have v8 := hV 8 _ (by decide) rfl
  have f9 := hS.1
  clear hS hV hmk
  simp only [frOfU, fillU, List.setIfInBounds_toArray, List.set_cons_succ, List.set_cons_zero]
  simp only [Nat.reduceAdd, v8]
  clear v8
  have H9 : Hid (Fr (fun _ => False) w w9 ∧ (w9.heap[tb]? = some (.cells #[.int .u8 tk, .int .i64 tm, .slice ta tn tc, .slice ta' tn' tc'] 34 (0, 0)) ∧ Shows (fun _ => True) w9 T (.agg #[.int .u8 tk, .int .i64 tm, .slice ta tn tc, .slice ta' tn' tc'])) ∧ (w9.heap[vb]? = some (.cells #[.int .i64 vn, .float .f64 vf, .string vs, .slice va vc vcap] 42 (0, 0)) ∧ VShows (fun _ => True) w9 A (.agg #[.int .i64 vn, .float .f64 vf, .string vs, .slice va vc vcap]))) :=
    Lib.hid ⟨H8.out.1.trans f9 (fun _ _ h => h), ⟨box_kept H8.out.2.1.1 f9 (fun h => h), Shows.fr f9 (fun _ _ h => h) _ _ H8.out.2.1.2⟩, ⟨box_kept H8.out.2.2.1 f9 (fun h => h), VShows.fr f9 (fun _ _ h => h) _ _ H8.out.2.2.2⟩⟩
  clear f9
  obtain ⟨kk, hkm, hk14⟩ : ∃ kk : Nat, k0.tmod 14 = (kk : Int) ∧ kk < 14 := by
    refine ⟨(k0 % 14).toNat, ?_, ?_⟩
    · rw [Int.tmod_eq_emod_of_nonneg hk0]; omega
    · omega
  obtain ⟨w10, hw10⟩ : ∃ w10, w10 = w9.alloc (.cells #[.int .u8 kk, .int .i64 most, .slice none 0 0, .slice none 0 0] 34) := ⟨_, rfl⟩
  have f10 : Fr (fun _ => False) w9 w10 := by rw [hw10]; exact (Fr.refl _ _).alloc _
  have q10 : w10.heap[w9.heap.size]? = some (.cells #[.int .u8 kk, .int .i64 most, .slice none 0 0, .slice none 0 0] 34 (0, 0)) := by rw [hw10]; exact heap_alloc_new _ _
  go_upto_region 10 with fail
  rw [← hw10]
  obtain ⟨ob, hob⟩ : ∃ ob, w9.heap.size = ob := ⟨_, rfl⟩
  rw [hob] at q10 ⊢
  have H10 : Hid (Fr (fun _ => False) w w10 ∧ (w10.heap[tb]? = some (.cells #[.int .u8 tk, .int .i64 tm, .slice ta tn tc, .slice ta' tn' tc'] 34 (0, 0)) ∧ Shows (fun _ => True) w10 T (.agg #[.int .u8 tk, .int .i64 tm, .slice ta tn tc, .slice ta' tn' tc'])) ∧ (w10.heap[vb]? = some (.cells #[.int .i64 vn, .float .f64 vf, .string vs, .slice va vc vcap] 42 (0, 0)) ∧ VShows (fun _ => True) w10 A (.agg #[.int .i64 vn, .float .f64 vf, .string vs, .slice va vc vcap]))) :=
    Lib.hid ⟨H9.out.1.trans f10 (fun _ _ h => h), ⟨box_kept H9.out.2.1.1 f10 (fun h => h), Shows.fr f10 (fun _ _ h => h) _ _ H9.out.2.1.2⟩, ⟨box_kept H9.out.2.2.1 f10 (fun h => h), VShows.fr f10 (fun _ _ h => h) _ _ H9.out.2.2.2⟩⟩
  have Q10 := Lib.hid q10
  have HK14 := Lib.hid hk14
  clear hw10 f10 q10 hob hkm hk14
  obtain ⟨d0, d1, d2, d3⟩ := cell_of_four Q10.out
  have HOT := Lib.hid (odd_take kk most raw (by have := HMR.out; omega))
  go_wp2_with fail
  refine (Take_any (oddT kk most) (fun _ => True) _ (.slice ra raw.length rc) raw w10 (odd_shows _ _ _ _ (by have := HK14.out; omega)) (HR.out.fr H10.out.1 (fun _ _ h => h)) (by have := HMR.out; omega) (by rw [plain_sz _ HOT.out.1]; omega)).mono ?_
  rintro er w11 ⟨v', rfl, hv11, f11⟩
  obtain ⟨te, hte⟩ : ∃ te, takeErr (oddT kk most) raw = te := ⟨_, rfl⟩
  rw [hte] at hv11 ⊢
  have HTE := Lib.hid hte
  obtain ⟨xn, xf, xs, xa, xc, xcap, rfl⟩ := vshows_lit6 hv11
  obtain ⟨w12, hw12⟩ : ∃ w12, w12 = w11.alloc (.cells #[.int .i64 xn, .float .f64 xf, .string xs, .slice xa xc xcap] 42) := ⟨_, rfl⟩
  have f12 : Fr (fun _ => False) w11 w12 := by rw [hw12]; exact (Fr.refl _ _).alloc _
  have q12 : w12.heap[w11.heap.size]? = some (.cells #[.int .i64 xn, .float .f64 xf, .string xs, .slice xa xc xcap] 42 (0, 0)) := by rw [hw12]; exact heap_alloc_new _ _
  have X12 := Lib.hid (VShows.fr f12 (fun _ _ h => h) _ _ (VShows.mono (S := fun _ => True) (fun _ _ _ => trivial) _ _ hv11))
  have F12 := Lib.hid (f11.trans f12 (fun _ _ h => h))
  clear d0 d1 d2 d3 hte hv11
  go_upto_region 11 with fail
  rw [← hw12]
  obtain ⟨xb, hxb⟩ : ∃ xb, w11.heap.size = xb := ⟨_, rfl⟩
  rw [hxb] at q12 ⊢
  have H12 : Hid (Fr (fun _ => False) w w12 ∧ (w12.heap[tb]? = some (.cells #[.int .u8 tk, .int .i64 tm, .slice ta tn tc, .slice ta' tn' tc'] 34 (0, 0)) ∧ Shows (fun _ => True) w12 T (.agg #[.int .u8 tk, .int .i64 tm, .slice ta tn tc, .slice ta' tn' tc'])) ∧ (w12.heap[vb]? = some (.cells #[.int .i64 vn, .float .f64 vf, .string vs, .slice va vc vcap] 42 (0, 0)) ∧ VShows (fun _ => True) w12 A (.agg #[.int .i64 vn, .float .f64 vf, .string vs, .slice va vc vcap]))) :=
    Lib.hid ⟨H10.out.1.trans F12.out (fun _ _ h => h), ⟨box_kept H10.out.2.1.1 F12.out (fun h => h), Shows.fr F12.out (fun _ _ h => h) _ _ H10.out.2.1.2⟩, ⟨box_kept H10.out.2.2.1 F12.out (fun h => h), VShows.fr F12.out (fun _ _ h => h) _ _ H10.out.2.2.2⟩⟩
  have O12 := Lib.hid (box_kept Q10.out F12.out (fun h => h))
  have Q12 := Lib.hid q12
  clear hw12 f12 q12 hxb f11 F12 Q10 H10
  by_cases hz : te = 0
  case neg =>
    have hzb : (te == 0) = false := by simp [hz]
    clear hz
    go_upto_region 15 with fail
    clear hzb
    obtain ⟨c0, c1, c2, c3⟩ := cell_of_four H12.out.2.1.1
    obtain ⟨d0, d1, d2, d3⟩ := cell_of_four H12.out.2.2.1
    have HCK := Lib.hid (vcheck_any (fun _ => True) T A (.agg #[.int .u8 tk, .int .i64 tm, .slice ta tn tc, .slice ta' tn' tc']) (.agg #[.int .i64 vn, .float .f64 vf, .string vs, .slice va vc vcap]) w12 H12.out.2.1.2 H12.out.2.2.2 HSZ.out)
    go_wp2_with fail
    refine HCK.out.mono ?_
    rintro er w14 ⟨rfl, f14⟩
    have F14 := Lib.hid (H12.out.1.trans f14 (fun _ _ h => h))
    obtain ⟨ve, hve⟩ : ∃ ve : Nat, valE T A = ve := ⟨_, rfl⟩
    rw [hve]
    unfold valE at hve
    clear f14 c0 c1 c2 c3 d0 d1 d2 d3 HCK
    rcases HPE.out with ⟨hv, rfl | ⟨rfl, rfl⟩⟩ | ⟨hv, rfl, rfl⟩
    · rw [hv, if_pos rfl] at hve
      subst hve
      clear hv
      dsimp only
      go_wp2_with fail
      go_ret
      exact ⟨rfl, F14.out⟩
    · rw [hv, if_pos rfl] at hve
      subst hve
      clear hv
      dsimp only [List.length_nil]
      go_wp2_with fail
      go_ret
      exact ⟨rfl, F14.out⟩
    · rw [hv, if_neg (by decide)] at hve
      subst hve
      clear hv
      dsimp only [List.length_nil]
      go_wp2_with fail
      go_ret
      exact ⟨rfl, F14.out⟩
  subst hz
  have HOK := Lib.hid (odd_ok kk most raw (by have := HMR.out; omega) HTE.out)
  have HXV := Lib.hid (show VShows (fun _ => True) w12 (tkV (oddT kk most) raw) (.agg #[.int .i64 xn, .float .f64 xf, .string xs, .slice xa xc xcap]) from by have := X12.out; rw [if_pos rfl] at this; exact this)
  have HPT := OPut_any (fun _ => True) (oddT kk most) (tkV (oddT kk most) raw) (.agg #[.int .u8 kk, .int .i64 most, .slice none 0 0, .slice none 0 0]) (.agg #[.int .i64 xn, .float .f64 xf, .string xs, .slice xa xc xcap]) w12 (odd_shows _ _ _ _ (by have := HK14.out; omega)) HXV.out (oput_any kk most [] 0 (fun _ => .nil) HOK.out.1) HOK.out.2.2.2 (fits_odd kk most HOK.out.1 _) (by unfold tkV; rw [plain_sz _ HOT.out.1]; omega)
  have hp0 : putErr (oddT kk most) (tkV (oddT kk most) raw) = 0 := by
    unfold putErr
    rw [if_pos HOK.out.2.2.1, HOK.out.2.1, if_pos (by have := HMR.out; omega)]
  rw [hp0, if_pos rfl, HOK.out.2.1] at HPT
  have HPUT := Lib.hid HPT
  clear HPT hp0
  obtain ⟨c0, c1, c2, c3⟩ := cell_of_four O12.out
  obtain ⟨d0, d1, d2, d3⟩ := cell_of_four Q12.out
  go_wp2_with fail
  refine HPUT.out.mono ?_
  rintro er w13 ⟨pv2, rfl, hnew, f13⟩
  have HNEW := Lib.hid hnew
  obtain ⟨xa2, xc2, rfl⟩ := new_slice hnew
  have H13 : Hid (Fr (fun _ => False) w w13 ∧ (w13.heap[tb]? = some (.cells #[.int .u8 tk, .int .i64 tm, .slice ta tn tc, .slice ta' tn' tc'] 34 (0, 0)) ∧ Shows (fun _ => True) w13 T (.agg #[.int .u8 tk, .int .i64 tm, .slice ta tn tc, .slice ta' tn' tc'])) ∧ (w13.heap[vb]? = some (.cells #[.int .i64 vn, .float .f64 vf, .string vs, .slice va vc vcap] 42 (0, 0)) ∧ VShows (fun _ => True) w13 A (.agg #[.int .i64 vn, .float .f64 vf, .string vs, .slice va vc vcap]))) :=
    Lib.hid ⟨H12.out.1.trans f13 (fun _ _ h => h), ⟨box_kept H12.out.2.1.1 f13 (fun h => h), Shows.fr f13 (fun _ _ h => h) _ _ H12.out.2.1.2⟩, ⟨box_kept H12.out.2.2.1 f13 (fun h => h), VShows.fr f13 (fun _ _ h => h) _ _ H12.out.2.2.2⟩⟩
  obtain ⟨SB, hSB⟩ : ∃ s : ByteArray, s = ⟨raw.toArray⟩ := ⟨_, rfl⟩
  have hc1 := new_string HNEW.out (Fr.refl _ _)
  have hc2 : (convert 26 9 (.slice ra raw.length rc)).run Try.prog w13 = .ok (.string ⟨raw.toArray⟩) w13 := (HR.out.fr H13.out.1 (fun _ _ h => h)).string 26 5 9 Try.underlying26 Try.underlying5 Try.underlying9
  rw [← hSB] at hc1 hc2
  clear hSB hnew f13 c0 c1 c2 c3 d0 d1 d2 d3
  dsimp only
  go_upto_region 15 with fail
  clear hc1 hc2
  obtain ⟨c0, c1, c2, c3⟩ := cell_of_four H13.out.2.1.1
  obtain ⟨d0, d1, d2, d3⟩ := cell_of_four H13.out.2.2.1
  have HCK := Lib.hid (vcheck_any (fun _ => True) T A (.agg #[.int .u8 tk, .int .i64 tm, .slice ta tn tc, .slice ta' tn' tc']) (.agg #[.int .i64 vn, .float .f64 vf, .string vs, .slice va vc vcap]) w13 H13.out.2.1.2 H13.out.2.2.2 HSZ.out)
  go_wp2_with fail
  refine HCK.out.mono ?_
  rintro er w14 ⟨rfl, f14⟩
  have F14 := Lib.hid (H13.out.1.trans f14 (fun _ _ h => h))
  obtain ⟨ve, hve⟩ : ∃ ve : Nat, valE T A = ve := ⟨_, rfl⟩
  rw [hve]
  unfold valE at hve
  clear f14 c0 c1 c2 c3 d0 d1 d2 d3 HCK
  rcases HPE.out with ⟨hv, rfl | ⟨rfl, rfl⟩⟩ | ⟨hv, rfl, rfl⟩
  · rw [hv, if_pos rfl] at hve
    subst hve
    clear hv
    dsimp only
    go_wp2_with fail
    go_ret
    exact ⟨rfl, F14.out⟩
  · rw [hv, if_pos rfl] at hve
    subst hve
    clear hv
    dsimp only [List.length_nil]
    go_wp2_with fail
    go_ret
    exact ⟨rfl, F14.out⟩
  · rw [hv, if_neg (by decide)] at hve
    subst hve
    clear hv
    dsimp only [List.length_nil]
    go_wp2_with fail
    go_ret
    exact ⟨rfl, F14.out⟩

/-- The law at its arguments. -/
theorem errs_all {W : World} (t : KN) (vn : Value) (hn : NShows W t vn) (u : KN) (vm : Value) (hm : NShows W u vm) (v1 : Value) (l1 : List Int) (w1 : SeesL W v1 (l1.map (Value.int .i64))) (wf1 : ∀ n ∈ l1, (Lit.int .i64 n).wf = true) (k0 : Int) (h0 : 0 ≤ k0) (h1 : k0 ≤ 255) (most : Int) (h2 : -9223372036854775808 ≤ most) (h3 : most ≤ 9223372036854775807) (v2 : Value) (l2 : List Int) (w2 : SeesL W v2 (l2.map (Value.int .u8))) (wf2 : ∀ n ∈ l2, (Lit.int .u8 n).wf = true) :
    Calls Try.prog 5 #[vn, vm, v1, .int .u8 k0, .int .i64 most, v2] W fun e w' => e = .returned (.bool true) ∧ Fr (fun _ => False) W w' :=
  errs_walk t u vn vm v1 v2 l1 _ k0 most W hn hm w1 wf1 (sees_u8 w2 wf2) h0 h1
end
section

end
end Go.Proofs.Ytplipjijaaejlaa
