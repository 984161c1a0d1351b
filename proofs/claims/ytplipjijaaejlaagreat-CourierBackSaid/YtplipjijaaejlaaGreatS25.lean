/-
  CouBack, part 25 of what it rests on: ValBuild4, ValBuilt.
-/
import Derived.Test.YtplipjijaaejlaaGreatS24
set_option linter.unusedVariables false
set_option linter.unusedSimpArgs false
set_option maxHeartbeats 64000000
namespace Go.Proofs.YtplipjijaaejlaaGreat
open Go.RowKit
open Go.Lib (hid)
section
attribute [local go_sem] run_store_float

theorem choice_done {l : List Int} {t : KT} {w w2 : World} {b rb tk bg tk2 bg2 : Nat} {nv : Value} {x0 x1 x2 x3 y0 y1 y2 y3 : Value} {x : Int} {T : VT}
    (p : w2.heap[rb]? = some (.cells #[x0, x1, x2, x3] 39 (0, 0))) (f2 : Fr (fun k => k = b) w w2) (b2 : BBox w2 b nv tk2 bg2) (hrb : rb ≠ b) (hrb0 : w.heap.size ≤ rb) (hB : VB x 0 [] 1)
    (hE : buildE l t (tk, bg) = (.mk x 0 [] 1 (fun _ => T), tk2, bg2)) (hs : VShows (fun k => rb < k) w2 T (.agg #[y0, y1, y2, y3])) :
    BuiltAs l t w b nv tk bg (.returned (.agg #[.int .i64 x, .float .f64 0, .string ⟨#[]⟩, .slice (some ⟨w2.heap.size, 0, none⟩) 1 1]))
      (((((w2.setCell ⟨rb, 0, none⟩ (.int .i64 x)).setCell ⟨rb, 1, none⟩ (.float .f64 0)).setCell ⟨rb, 2, none⟩ (.string ⟨#[]⟩)).setCell ⟨rb, 3, none⟩ (.slice (some ⟨w2.heap.size, 0, none⟩) 1 1)).alloc (.cells #[y0, y1, y2, y3] 39)) := by
  obtain ⟨wz, hwz⟩ : ∃ wz, wz = ((((w2.setCell ⟨rb, 0, none⟩ (.int .i64 x)).setCell ⟨rb, 1, none⟩ (.float .f64 0)).setCell ⟨rb, 2, none⟩ (.string ⟨#[]⟩)).setCell ⟨rb, 3, none⟩ (.slice (some ⟨w2.heap.size, 0, none⟩) 1 1)) := ⟨_, rfl⟩
  have fs : Fr (fun k => k = rb) w2 wz := by rw [hwz]; exact fr_four _ _ _ _ (Fr.refl _ _) (fun _ => rfl)
  have sz : wz.heap.size = w2.heap.size := by rw [hwz]; simp [World.setCell]
  have fz : Fr (fun k => k = rb) w2 (wz.alloc (.cells #[y0, y1, y2, y3] 39)) := fs.alloc _
  have gz := heap_alloc_new wz (.cells #[y0, y1, y2, y3] 39)
  rw [sz] at gz
  have hrl := lt_of_block p
  rw [← hwz]
  obtain ⟨c0, c1, c2, c3⟩ := cell_of_four gz
  refine ⟨_, rfl, ?_, f2.trans fz (fun i hi e => by omega), ?_⟩
  · rw [hE]
    refine VShows.mono (fun k _ (h : rb < k) => (by omega : w.heap.size ≤ k)) _ _ (vshows_mk (s := []) hB (.inr ⟨Nat.le_refl _, w2.heap.size, 0, hrl, rfl, fun i hi => ?_⟩))
    obtain rfl : i = 0 := by omega
    exact ⟨_, _, _, _, c0, c1, c2, c3, VShows.fr fz (fun k hk e => by omega) _ _ hs⟩
  · rw [hE]
    exact b2.fr fz (fun e => hrb e.symm)

set_option maxRecDepth 100000 in
theorem build_k5 (l : List Int) (k : Nat) (m : Int) (ns : List Txt) (n : Nat) (of : Nat → KT) (ih : ∀ i, BuildAt l (of i)) (hk0 : k = 5) : BuildAt l (.mk k m ns n of) := by
  intro R v nv w b tk bg hgood htk hbg hsh hRb hnum hbox
  have HGOOD := Lib.hid hgood
  have HSH := Lib.hid hsh
  obtain ⟨⟨hn12, hown⟩, hkids⟩ := hgood
  obtain ⟨hk8, hmost, hone, hparts, hnames, hnone⟩ := own_facts hown
  have hcost : 1 ≤ costE (.mk k m ns n of) := by unfold costE; omega
  have htk' : tk ≤ 100000 := by omega
  have hbg' : bg + 1 ≤ 100000 := by omega
  obtain ⟨vn, vo, rfl, hk, hn, ht, ho⟩ := hsh
  obtain ⟨a, c, rfl, _⟩ := ht.shape
  obtain ⟨a', c', rfl, hs⟩ : ∃ a' c', vo = .slice a' n c' ∧ Kids R w of a' n c' := by
    rcases ho with ⟨rfl, a', c', rfl⟩ | ⟨g, off, cap, hg, rfl, hle, hc⟩
    · exact ⟨a', c', rfl, .inl rfl⟩
    · exact ⟨_, cap, rfl, .inr ⟨hle, g, off, hg, rfl, hc⟩⟩
  have HS := Lib.hid hs
  have HRB := Lib.hid (show ∀ i, R i → ¬ i = b from fun i hi e => hRb (by rw [← e]; exact hi))
  have HN := Lib.hid hnum
  have HBX := Lib.hid hbox
  have hbl : b < w.heap.size := lt_of_block hbox
  unfold BBox at hbox
  have r0 := cells_row hbox 2 _ rfl
  have z0 : w.frozen? ⟨b, 2, none⟩ = false := by simp [World.frozen?, hbox]
  have n1 : b ≠ w.heap.size := by omega
  have n2 : w.heap.size ≠ b := by omega
  have n3 : b ≠ w.heap.size + 1 := by omega
  have n4 : w.heap.size + 1 ≠ b := by omega
  have HK := Lib.hid (And.intro hk0 (And.intro hmost (And.intro hone (And.intro hparts (And.intro hnames hnone)))))
  have HKIDS := Lib.hid hkids
  have HCST := Lib.hid (And.intro htk hbg)
  have HT := Lib.hid ht
  obtain ⟨kz, hkz⟩ : ∃ kz : Int, (k : Int) = kz := ⟨_, rfl⟩
  rw [hkz]
  have HKZ := Lib.hid hkz
  have e0 : (kz == 0) = false := by simp; omega
  have e1 : (kz == 1) = false := by simp; omega
  have e2 : (kz == 2) = false := by simp; omega
  have e3 : (kz == 3) = false := by simp; omega
  have e4 : (kz == 4) = false := by simp; omega
  have e5 : (kz == 5) = true := by simp; omega
  clear ho hs ht hRb hnum hbox hk0 hmost hone hparts hnames hnone hkids htk hbg hkz hown hcost hk
  go_enter Tryz.func19, Tryz.ntmps19
  go_upto_region 2 with fail
  obtain ⟨w1, hw1⟩ : ∃ w1, w1 = ((w.setCell ⟨b, 2, none⟩ (.int .i64 ((bg : Int) + 1))).alloc (.cells #[.int .u8 kz, .int .i64 m, .slice a ns.length c, .slice a' n c'] 34)).alloc (.cells #[.int .i64 0, .float .f64 0, .string ⟨#[]⟩, .slice none 0 0] 39) := ⟨_, rfl⟩
  rw [← hw1]
  obtain ⟨q1, p1, b1, f1⟩ := build_box kz m a ns.length c a' n c' HBX.out hw1
  obtain ⟨rb, hrb⟩ : ∃ rb, w.heap.size + 1 = rb := ⟨_, rfl⟩
  rw [hrb] at p1 ⊢
  have hrbb : rb ≠ b := by omega
  have hrb0 : w.heap.size ≤ rb := by omega
  have HRBX := Lib.hid hrb
  have c0 := cells_row q1 0 _ rfl
  have c1 := cells_row q1 1 _ rfl
  have c2 := cells_row q1 2 _ rfl
  have c3 := cells_row q1 3 _ rfl
  have HW1 := Lib.hid (And.intro q1 (And.intro p1 (And.intro b1 f1)))
  clear hw1 r0 z0 n1 n2 n3 n4 hrb q1 p1 b1 f1
  have hseq := seq_any l m ns n of (ih 0) R (.agg #[.int .u8 kz, .int .i64 m, .slice a ns.length c, .slice a' n c']) nv w1 b tk bg (by have := HGOOD.out; rw [HK.out.1] at this; exact this) (by have := HCST.out.1; rw [HK.out.1] at this; exact this) (by have := HCST.out.2; rw [HK.out.1] at this; exact this)
    (by
      have h := Shows.fr HW1.out.2.2.2 HRB.out _ _ HSH.out
      rw [HKZ.out] at h
      rw [← HK.out.1]
      exact h) (fun h => HRB.out b h rfl) (HN.out.fr HW1.out.2.2.2 HRB.out) HW1.out.2.2.1
  have HE5 : Hid (KT.mk k m ns n of = KT.mk 5 m ns n of) := Lib.hid (by rw [HK.out.1])
  go_wp2_with fail
  refine hseq.mono ?_
  rintro e w2 ⟨v', rfl, hsv, f2, b2⟩
  clear hseq
  obtain ⟨n', f', s', c'', of', a'', cap', eT, rfl, hVB, hK⟩ := vshows_open hsv
  unfold sv
  have hrbl := lt_of_block HW1.out.2.1
  have hEE : buildE l (.mk k m ns n of) (tk, bg) = (.mk n' f' s' c'' of', (buildE l (.mk 5 m ns n of) (tk, bg)).2.1, (buildE l (.mk 5 m ns n of) (tk, bg)).2.2) := by
    rw [HE5.out, ← eT]
  have hKK : VKids (fun k => w.heap.size ≤ k ∧ k ≠ rb) w2 of' a'' c'' cap' := by
    rcases hK with h | ⟨h1, gg, off, hg, e, hc⟩
    · exact .inl h
    · have hws := HW1.out.2.2.2.size
      refine .inr ⟨h1, gg, off, ⟨by omega, by omega⟩, e, fun i hi => ?_⟩
      obtain ⟨x0, x1, x2, x3, c0, c1, c2, c3, hx⟩ := hc i hi
      exact ⟨x0, x1, x2, x3, c0, c1, c2, c3, VShows.mono (fun k _ (h : w1.heap.size ≤ k) => ⟨by omega, by omega⟩) _ _ hx⟩
  have HZ := Lib.hid (And.intro hVB (And.intro hEE hKK))
  clear hsv eT hVB hK hEE hKK hrbl
  have p2 := box_kept HW1.out.2.1 f2 (fun e => hrbb e)
  have t0 := cells_row p2 0 _ rfl
  have t1 := cells_row p2 1 _ rfl
  have t2 := cells_row p2 2 _ rfl
  have t3 := cells_row p2 3 _ rfl
  have u0 : w2.frozen? ⟨rb, 0, none⟩ = false := by simp [World.frozen?, p2]
  have u1 : w2.frozen? ⟨rb, 1, none⟩ = false := by simp [World.frozen?, p2]
  have u2 : w2.frozen? ⟨rb, 2, none⟩ = false := by simp [World.frozen?, p2]
  have u3 : w2.frozen? ⟨rb, 3, none⟩ = false := by simp [World.frozen?, p2]
  have H2 := Lib.hid (And.intro p2 (And.intro (HW1.out.2.2.2.trans f2 (fun _ _ h => h)) b2))
  clear f2 b2 p2 c0 c1 c2 c3
  go_wp2
  refine bodyPost_ret (results_cell_row rfl _ _ rb 39 _ _ _ rfl (store_four H2.out.1) Tryz.underlying39 rfl (by kernel_rfl)) rfl ?_
  refine build_done H2.out.1 H2.out.2.1 H2.out.2.2 hrbb hrb0 (HZ.out.2.1) HZ.out.1 HZ.out.2.2

set_option maxRecDepth 100000 in
theorem build_k8 (l : List Int) (k : Nat) (m : Int) (ns : List Txt) (n : Nat) (of : Nat → KT) (ih : ∀ i, BuildAt l (of i)) (hk0 : k = 8) : BuildAt l (.mk k m ns n of) := by
  intro R v nv w b tk bg hgood htk hbg hsh hRb hnum hbox
  obtain ⟨⟨hn12, hown⟩, hkids⟩ := hgood
  obtain ⟨hk8, hmost, hone, hparts, hnames, hnone⟩ := own_facts hown
  have hcost : 1 ≤ costE (.mk k m ns n of) := by unfold costE; omega
  have htk' : tk ≤ 100000 := by omega
  have hbg' : bg + 1 ≤ 100000 := by omega
  obtain ⟨vn, vo, rfl, hk, hn, ht, ho⟩ := hsh
  obtain ⟨a, c, rfl, _⟩ := ht.shape
  obtain ⟨a', c', rfl, hs⟩ : ∃ a' c', vo = .slice a' n c' ∧ Kids R w of a' n c' := by
    rcases ho with ⟨rfl, a', c', rfl⟩ | ⟨g, off, cap, hg, rfl, hle, hc⟩
    · exact ⟨a', c', rfl, .inl rfl⟩
    · exact ⟨_, cap, rfl, .inr ⟨hle, g, off, hg, rfl, hc⟩⟩
  have HS := Lib.hid hs
  have HRB := Lib.hid (show ∀ i, R i → ¬ i = b from fun i hi e => hRb (by rw [← e]; exact hi))
  have HN := Lib.hid hnum
  have HBX := Lib.hid hbox
  have hbl : b < w.heap.size := lt_of_block hbox
  unfold BBox at hbox
  have r0 := cells_row hbox 2 _ rfl
  have z0 : w.frozen? ⟨b, 2, none⟩ = false := by simp [World.frozen?, hbox]
  have n1 : b ≠ w.heap.size := by omega
  have n2 : w.heap.size ≠ b := by omega
  have n3 : b ≠ w.heap.size + 1 := by omega
  have n4 : w.heap.size + 1 ≠ b := by omega
  have HK := Lib.hid (And.intro hk0 (And.intro hmost (And.intro hone (And.intro hparts (And.intro hnames hnone)))))
  have HKIDS := Lib.hid hkids
  have HCST := Lib.hid (And.intro htk hbg)
  have HT := Lib.hid ht
  obtain ⟨kz, hkz⟩ : ∃ kz : Int, (k : Int) = kz := ⟨_, rfl⟩
  rw [hkz]
  have e0 : (kz == 0) = false := by simp; omega
  have e1 : (kz == 1) = false := by simp; omega
  have e2 : (kz == 2) = false := by simp; omega
  have e3 : (kz == 3) = false := by simp; omega
  have e4 : (kz == 4) = false := by simp; omega
  have e5 : (kz == 5) = false := by simp; omega
  have e6 : (kz == 6) = false := by simp; omega
  have e7 : (kz == 7) = false := by simp; omega
  clear ho hs ht hRb hnum hbox hk0 hmost hone hparts hnames hnone hkids htk hbg hkz hown hcost hk
  go_enter Tryz.func19, Tryz.ntmps19
  go_upto_region 2 with fail
  obtain ⟨w1, hw1⟩ : ∃ w1, w1 = ((w.setCell ⟨b, 2, none⟩ (.int .i64 ((bg : Int) + 1))).alloc (.cells #[.int .u8 kz, .int .i64 m, .slice a ns.length c, .slice a' n c'] 34)).alloc (.cells #[.int .i64 0, .float .f64 0, .string ⟨#[]⟩, .slice none 0 0] 39) := ⟨_, rfl⟩
  rw [← hw1]
  obtain ⟨q1, p1, b1, f1⟩ := build_box kz m a ns.length c a' n c' HBX.out hw1
  obtain ⟨rb, hrb⟩ : ∃ rb, w.heap.size + 1 = rb := ⟨_, rfl⟩
  rw [hrb] at p1 ⊢
  have hrbb : rb ≠ b := by omega
  have hrb0 : w.heap.size ≤ rb := by omega
  have HRBX := Lib.hid hrb
  have c0 := cells_row q1 0 _ rfl
  have c1 := cells_row q1 1 _ rfl
  have c2 := cells_row q1 2 _ rfl
  have c3 := cells_row q1 3 _ rfl
  have HW1 := Lib.hid (And.intro q1 (And.intro p1 (And.intro b1 f1)))
  clear hw1 r0 z0 n1 n2 n3 n4 hrb q1 p1 b1 f1
  have HN2 := Lib.hid (HN.out.mono (S := fun k => R k ∧ k < w.heap.size) (fun k hk h => ⟨h, hk⟩))
  have hn1 : 1 ≤ n := by have := HK.out.2.2.2.1 (.inr HK.out.1); have := (HK.out.2.2.2.2.1 (.inr (.inr HK.out.1))).1; omega
  have htake := take_any R l nv b tk (bg + 1) (n : Int) w1 HW1.out.2.2.1 (HN.out.fr HW1.out.2.2.2 HRB.out) htk' (by omega) (by omega)
  obtain ⟨x, hx⟩ : ∃ x : Nat, numE l tk % (n : Int) = x := ⟨(numE l tk % (n : Int)).toNat, by have := Int.emod_nonneg (numE l tk) (show (n : Int) ≠ 0 by omega); omega⟩
  have hxn : x < n := by have := Int.emod_lt_of_pos (numE l tk) (show 0 < (n : Int) by omega); omega
  rw [hx] at htake
  have HX := Lib.hid hx
  rcases HS.out with hz | ⟨hcap, g, off, hg, rfl, hcell⟩
  · omega
  obtain ⟨z0, z1, z2, z3, y0, y1, y2, y3, hxs⟩ := hcell x hxn
  obtain ⟨xk, xm, xa, xn, xc, xa', xn', xc', rfl, rfl, rfl, rfl⟩ := hxs.cells
  have HXS := Lib.hid (Shows.mono (S := fun k => R k ∧ k < w.heap.size) (fun k hk h => ⟨h, hk⟩) _ _ hxs)
  have HY := Lib.hid (And.intro hg (And.intro y0 (And.intro y1 (And.intro y2 y3))))
  clear hx hcell y0 y1 y2 y3 hxs hg
  go_wp2_with fail
  refine htake.mono ?_
  rintro e w2 ⟨rfl, f2, b2⟩
  clear htake
  have q2 := box_kept HW1.out.1 f2 (fun e => by omega)
  have c3' := cells_row q2 3 _ rfl
  have f02 := HW1.out.2.2.2.trans f2 (fun _ _ h => h)
  have y0 := cell_fr f02 HRB.out HY.out.1 HY.out.2.1
  have y1 := cell_fr f02 HRB.out HY.out.1 HY.out.2.2.1
  have y2 := cell_fr f02 HRB.out HY.out.1 HY.out.2.2.2.1
  have y3 := cell_fr f02 HRB.out HY.out.1 HY.out.2.2.2.2
  have hxi : (x : Int) < (n : Int) := by omega
  have hx0 : (0 : Int) ≤ (x : Int) := by omega
  have hbnd : nextE l tk + costE (of x) ≤ 100000 ∧ (bg + 1) + costE (of x) ≤ 100000 := by
    have h1 := nextE_le l tk
    have h2 := HCST.out
    rw [cost_parts k m ns n of (by have := HK.out.1; omega)] at h2
    have h3 := sumTo_le (fun i => costE (of i)) x n hxn
    omega
  have hrec := ih x (fun k => R k ∧ k < w.heap.size) _ nv w2 b (nextE l tk) (bg + 1) (HKIDS.out x hxn) hbnd.1 hbnd.2 (Shows.fr f02 (fun k hk e => HRB.out k hk.1 e) _ _ HXS.out) (fun h => HRB.out b h.1 rfl) (HN2.out.fr f02 (fun k hk e => HRB.out k hk.1 e)) b2
  have H2 := Lib.hid (And.intro f02 (And.intro b2 (box_kept HW1.out.2.1 f2 (fun e => hrbb e))))
  clear f2 b2 q2 f02 c0 c1 c2 c3 hbnd
  go_wp2_with fail
  refine hrec.mono ?_
  rintro e w3 ⟨v', rfl, hsv, f3, b3⟩
  clear hrec c3' y0 y1 y2 y3
  obtain ⟨zn, zf, zs, za, zc, zcap, e4⟩ := hsv.lit
  subst e4
  have p3 := box_kept H2.out.2.2 f3 (fun e => hrbb e)
  have t0 := cells_row p3 0 _ rfl
  have t1 := cells_row p3 1 _ rfl
  have t2 := cells_row p3 2 _ rfl
  have t3 := cells_row p3 3 _ rfl
  have u0 : w3.frozen? ⟨rb, 0, none⟩ = false := by simp [World.frozen?, p3]
  have u1 : w3.frozen? ⟨rb, 1, none⟩ = false := by simp [World.frozen?, p3]
  have u2 : w3.frozen? ⟨rb, 2, none⟩ = false := by simp [World.frozen?, p3]
  have u3 : w3.frozen? ⟨rb, 3, none⟩ = false := by simp [World.frozen?, p3]
  have rl3 : rb < w3.heap.size := lt_of_block p3
  have rn1 : rb ≠ w3.heap.size := by omega
  have rn2 : w3.heap.size ≠ rb := by omega
  have rl2 : rb < w2.heap.size := lt_of_block H2.out.2.2
  have HE8 : Hid (buildE l (.mk k m ns n of) (tk, bg) = (.mk x 0 [] 1 (fun _ => (buildE l (of x) (nextE l tk, bg + 1)).1), (buildE l (of x) (nextE l tk, bg + 1)).2)) := Lib.hid (by
    rw [HK.out.1, buildE_choice, HX.out]
    rfl)
  have H3 := Lib.hid (And.intro p3 (And.intro (H2.out.1.trans f3 (fun _ _ h => h)) (And.intro b3 (VShows.mono (fun k _ (h : w2.heap.size ≤ k) => (by omega : rb < k)) _ _ hsv))))
  clear hsv f3 b3 p3
  go_wp2
  refine bodyPost_ret (results_cell_row rfl _ _ rb 39 _ _ _ rfl ((Below.heap_alloc _ _ _ (by simp [World.setCell]; omega)).trans (store_four H3.out.1)) Tryz.underlying39 rfl (by kernel_rfl)) rfl ?_
  exact choice_done H3.out.1 H3.out.2.1 H3.out.2.2.1 hrbb hrb0 (by unfold VB maxLen; simp; omega) HE8.out H3.out.2.2.2


/-- EVERY TYPE THAT IS RIGHT, BUILT. -/
theorem build_any (l : List Int) (t : KT) : BuildAt l t := by
  induction t with
  | nil => exact fun _ _ _ _ _ _ _ h => h.elim
  | mk k m ns n of ih =>
    intro R v nv w b tk bg hg h1 h2 h3 h4 h5 h6
    have hk := (own_facts hg.1.2).1
    have key : BuildAt l (.mk k m ns n of) := by
      rcases (by omega : k = 0 ∨ k = 1 ∨ k = 2 ∨ k = 3 ∨ k = 4 ∨ k = 5 ∨ k = 6 ∨ k = 7 ∨ k = 8) with h | h | h | h | h | h | h | h | h
      · exact build_k0 l k m ns n of h
      · exact build_k1 l k m ns n of h
      · exact build_k2 l k m ns n of h
      · exact build_k3 l k m ns n of h
      · exact build_k4 l k m ns n of h
      · exact build_k5 l k m ns n of ih h
      · exact build_k6 l k m ns n of ih h
      · exact build_k7 l k m ns n of h
      · exact build_k8 l k m ns n of ih h
    exact key R v nv w b tk bg hg h1 h2 h3 h4 h5 h6
end
section
attribute [local go_sem] run_store_float

def zeroV : VT := .mk 0 0 [] 0 (fun _ => .nil)

/-- What Build makes. -/
def BuildE (l : List Int) (t : KT) : VT := if (surveyE t 1000 0).1 = true then (buildE l t (0, 0)).1 else zeroV

theorem zeroV_shows (R : Nat → Prop) (w : World) : VShows R w zeroV (.agg #[.int .i64 0, .float .f64 0, .string ⟨#[]⟩, .slice none 0 0]) :=
  vshows_mk (s := []) (by unfold VB maxLen; simp) (.inl rfl)

set_option maxRecDepth 100000 in
theorem Build_any (R : Nat → Prop) (l : List Int) (t : KT) (v nv : Value) (w : World) (hsh : Shows R w t v) (hnum : Nums R w l nv) (hcost : costE t ≤ 100000) :
    Calls Tryz.prog 7 #[v, nv] w fun e w' => ∃ v', e = .returned v' ∧ VShows (fun k => w.heap.size ≤ k) w' (BuildE l t) v' ∧ Fr (fun _ => False) w w' := by
  obtain ⟨k, m, a, n, c, a', n', c', rfl⟩ := hsh.four
  obtain ⟨na, nc, rfl⟩ := hnum.shape
  have HSH := Lib.hid (Shows.mono (S := fun k => R k ∧ k < w.heap.size) (fun k hk h => ⟨h, hk⟩) _ _ hsh)
  have HN := Lib.hid (hnum.mono (S := fun k => R k ∧ k < w.heap.size) (fun k hk h => ⟨h, hk⟩))
  have HC := Lib.hid hcost
  clear hsh hnum hcost
  go_enter Tryz.func7, Tryz.ntmps7
  go_upto_region 2 with fail
  obtain ⟨w1, hw1⟩ : ∃ w1, w1 = ((w.alloc (.cells #[.int .u8 k, .int .i64 m, .slice a n c, .slice a' n' c'] 34)).alloc (.cells #[.int .i64 0, .float .f64 0, .string ⟨#[]⟩, .slice none 0 0] 39)).alloc (.cells #[.int .i64 0] 62) := ⟨_, rfl⟩
  rw [← hw1]
  have f1 : Fr (fun _ => False) w w1 := by rw [hw1]; exact (((Fr.refl _ _).alloc _).alloc _).alloc _
  have q1 : w1.heap[w.heap.size]? = some (.cells #[.int .u8 k, .int .i64 m, .slice a n c, .slice a' n' c'] 34 (0, 0)) := by
    rw [hw1, Below.heap_alloc _ _ _ (by simp; omega)]; exact heap_alloc_first _ _ _
  have p1 : w1.heap[w.heap.size + 1]? = some (.cells #[.int .i64 0, .float .f64 0, .string ⟨#[]⟩, .slice none 0 0] 39 (0, 0)) := by
    rw [hw1, Below.heap_alloc _ _ _ (by simp)]; exact heap_alloc_two _ _ _
  have b1 : w1.heap[w.heap.size + 1 + 1]? = some (.cells #[.int .i64 ((0 : Nat) : Int)] 62 (0, 0)) := by
    have h := heap_alloc_new ((w.alloc (.cells #[.int .u8 k, .int .i64 m, .slice a n c, .slice a' n' c'] 34)).alloc (.cells #[.int .i64 0, .float .f64 0, .string ⟨#[]⟩, .slice none 0 0] 39)) (.cells #[.int .i64 0] 62)
    rw [show ((w.alloc (.cells #[.int .u8 k, .int .i64 m, .slice a n c, .slice a' n' c'] 34)).alloc (.cells #[.int .i64 0, .float .f64 0, .string ⟨#[]⟩, .slice none 0 0] 39)).heap.size = w.heap.size + 1 + 1 by simp] at h
    rw [hw1]
    exact h
  obtain ⟨sb, hsb⟩ : ∃ sb, w.heap.size + 1 + 1 = sb := ⟨_, rfl⟩
  obtain ⟨rb, hrb⟩ : ∃ rb, w.heap.size + 1 = rb := ⟨_, rfl⟩
  obtain ⟨tb, htb⟩ : ∃ tb, w.heap.size = tb := ⟨_, rfl⟩
  rw [hsb] at b1 ⊢
  rw [hrb] at p1 ⊢
  have HTB := Lib.hid htb
  have o1 : tb < rb := by omega
  have o2 : rb < sb := by omega
  have q1' := q1
  rw [htb] at q1' ⊢
  have hsv := survey_any t (fun k => R k ∧ k < w.heap.size) _ w1 sb 1000 1000 0 rfl (by omega) (by omega) (fun h => by omega) (Shows.fr f1 (fun _ _ h => h) _ _ HSH.out) b1
  have c0 := cells_row q1' 0 _ rfl
  have c1 := cells_row q1' 1 _ rfl
  have c2 := cells_row q1' 2 _ rfl
  have c3 := cells_row q1' 3 _ rfl
  have H1 := Lib.hid (And.intro f1 (And.intro q1' (And.intro p1 b1)))
  clear hw1 f1 q1 q1' p1 b1 hsb hrb
  cases hB : (surveyE t 1000 0).1 with
  | false =>
    have HE : Hid (BuildE l t = zeroV) := Lib.hid (by unfold BuildE; rw [hB]; rfl)
    rw [hB] at hsv
    clear hB htb
    go_wp2_with fail
    refine hsv.mono ?_
    rintro e w2 ⟨rfl, f2, b2⟩
    have p2 := box_kept H1.out.2.2.1 f2 (fun h => by omega)
    have t0 := cells_row p2 0 _ rfl
    have t1 := cells_row p2 1 _ rfl
    have t2 := cells_row p2 2 _ rfl
    have t3 := cells_row p2 3 _ rfl
    have u0 : w2.frozen? ⟨rb, 0, none⟩ = false := by simp [World.frozen?, p2]
    have u1 : w2.frozen? ⟨rb, 1, none⟩ = false := by simp [World.frozen?, p2]
    have u2 : w2.frozen? ⟨rb, 2, none⟩ = false := by simp [World.frozen?, p2]
    have u3 : w2.frozen? ⟨rb, 3, none⟩ = false := by simp [World.frozen?, p2]
    have H2 := Lib.hid (And.intro f2 p2)
    clear f2 b2 p2 hsv c0 c1 c2 c3
    go_wp2
    refine bodyPost_ret (results_cell_row rfl _ _ rb 39 _ _ _ rfl (store_four H2.out.2) Tryz.underlying39 rfl (by kernel_rfl)) rfl ?_
    refine ⟨_, rfl, ?_, (H1.out.1.trans H2.out.1 (fun i hi h => by have := HTB.out; omega)).trans (fr_four (w := w2) _ _ _ _ (Fr.refl _ _) (fun _ => rfl) : Fr (fun k => k = rb) _ _) (fun i hi h => by have := HTB.out; omega)⟩
    rw [HE.out]
    exact zeroV_shows _ _
  | true =>
    have hgood := survey_good t 1000 0 hB
    have HG := Lib.hid hgood
    have HE : Hid (BuildE l t = (buildE l t (0, 0)).1) := Lib.hid (by unfold BuildE; rw [hB]; rfl)
    rw [hB] at hsv
    clear hB hgood
    go_wp2_with fail
    refine hsv.mono ?_
    rintro e w2 ⟨rfl, f2, b2⟩
    have f02 : Fr (fun _ => False) w w2 := H1.out.1.trans f2 (fun i hi h => by omega)
    have q2 := box_kept H1.out.2.1 f2 (fun h => by omega)
    have p2 := box_kept H1.out.2.2.1 f2 (fun h => by omega)
    have c0 := cells_row q2 0 _ rfl
    have c1 := cells_row q2 1 _ rfl
    have c2 := cells_row q2 2 _ rfl
    have c3 := cells_row q2 3 _ rfl
    have H2 := Lib.hid (And.intro f02 (And.intro q2 p2))
    have tl2 : tb < w2.heap.size := lt_of_block q2
    have tn2 : tb ≠ w2.heap.size := by omega
    have rl2 : rb < w2.heap.size := lt_of_block p2
    clear f2 b2 hsv f02 q2 p2
    obtain ⟨w3, hw3⟩ : ∃ w3, w3 = w2.alloc (.cells #[.slice na l.length nc, .int .i64 0, .int .i64 0] 65) := ⟨_, rfl⟩
    have f3 : Fr (fun _ => False) w2 w3 := by rw [hw3]; exact (Fr.refl _ _).alloc _
    have b3 : BBox w3 w2.heap.size (.slice na l.length nc) 0 0 := by rw [hw3]; exact heap_alloc_new _ _
    have f03 : Fr (fun _ => False) w w3 := H2.out.1.trans f3 (fun _ _ h => h)
    have hbd := build_any l t (fun k => R k ∧ k < w.heap.size) _ _ w3 w2.heap.size 0 0 HG.out (by have := HC.out; omega) (by have := HC.out; omega) (Shows.fr f03 (fun _ _ h => h) _ _ HSH.out) (fun h => by have := H2.out.1.size; omega) (HN.out.fr f03 (fun _ _ h => h)) b3
    have H3 := Lib.hid (And.intro f03 (box_kept H2.out.2.2 f3 (fun h => h)))
    have HW3 := Lib.hid hw3
    rw [hw3] at hbd
    clear hw3 f3 b3 f03
    go_wp2_with fail
    refine hbd.mono ?_
    rintro e w4 ⟨v', rfl, hv4, f4, b4⟩
    rw [← HW3.out] at hv4 f4
    have p4 := box_kept H3.out.2 f4 (fun h => by omega)
    have t0 := cells_row p4 0 _ rfl
    have t1 := cells_row p4 1 _ rfl
    have t2 := cells_row p4 2 _ rfl
    have t3 := cells_row p4 3 _ rfl
    have u0 : w4.frozen? ⟨rb, 0, none⟩ = false := by simp [World.frozen?, p4]
    have u1 : w4.frozen? ⟨rb, 1, none⟩ = false := by simp [World.frozen?, p4]
    have u2 : w4.frozen? ⟨rb, 2, none⟩ = false := by simp [World.frozen?, p4]
    have u3 : w4.frozen? ⟨rb, 3, none⟩ = false := by simp [World.frozen?, p4]
    obtain ⟨zn, zf, zs, za, zc, zcap, e4⟩ := hv4.lit
    subst e4
    have hs3 : rb < w3.heap.size := lt_of_block H3.out.2
    have H4 := Lib.hid (And.intro hv4 (And.intro f4 p4))
    clear hv4 f4 b4 p4 hbd c0 c1 c2 c3
    go_wp2
    refine bodyPost_ret (results_cell_row rfl _ _ rb 39 _ _ _ rfl (store_four H4.out.2.2) Tryz.underlying39 rfl (by kernel_rfl)) rfl ?_
    have fs : Fr (fun k => k = rb) w4 ((((w4.setCell ⟨rb, 0, none⟩ (.int .i64 zn)).setCell ⟨rb, 1, none⟩ (.float .f64 zf)).setCell ⟨rb, 2, none⟩ (.string zs)).setCell ⟨rb, 3, none⟩ (.slice za zc zcap)) := fr_four _ _ _ _ (Fr.refl _ _) (fun _ => rfl)
    refine ⟨_, rfl, ?_, (H3.out.1.trans H4.out.2.1 (fun i hi h => by have := H2.out.1.size; omega)).trans fs (fun i hi h => by have := HTB.out; omega)⟩
    rw [HE.out]
    have hb := HTB.out
    exact VShows.mono (fun k _ (h : w3.heap.size ≤ k) => by omega) _ _ (VShows.fr fs (fun k (hk : w3.heap.size ≤ k) e => by omega) _ _ H4.out.1)
end
end Go.Proofs.YtplipjijaaejlaaGreat
