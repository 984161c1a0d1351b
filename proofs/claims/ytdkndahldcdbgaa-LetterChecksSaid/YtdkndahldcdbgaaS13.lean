/-
  LetSame, part 13 of what it rests on: LetSame, LetAwake, LetArg, PairB.
-/
import Derived.Test.YtdkndahldcdbgaaS07
import Derived.Test.YtdkndahldcdbgaaS12
import Derived.Test.YtdkndahldcdbgaaS05
import Derived.Test.YtdkndahldcdbgaaS02
set_option linter.unusedVariables false
set_option linter.unusedSimpArgs false
set_option maxHeartbeats 64000000
namespace Go.Proofs.Ytdkndahldcdbgaa
open Go.RowKit
open Go.Lib (hid)
section
set_option maxRecDepth 100000

def Lt.sameH (x y : Lt) : Bool := decide (x.k = y.k ∧ x.f = y.f ∧ x.t = y.t ∧ x.p = y.p ∧ (x.b1 = y.b1 ∧ x.b2 = y.b2) ∧ (x.w1 = y.w1 ∧ x.w2 = y.w2) ∧ x.s = y.s ∧ x.it = y.it ∧ x.iN = y.iN)
def Lt.same (x y : Lt) : Bool := x.sameH y && (x.e.same y.e && ((decide (x.vn = y.vn) && decide (x.vm = y.vm)) && (decide (x.ct = y.ct ∧ x.cn = y.cn ∧ x.cp = y.cp ∧ x.cl = y.cl) && decide (x.ae = y.ae ∧ x.ar = y.ar ∧ x.al = y.al))))

theorem Lt.same_iff (x y : Lt) : x.same y = true ↔ x = y := by
  unfold Lt.same Lt.sameH
  cases x; cases y
  simp only [Bool.and_eq_true, decide_eq_true_eq, En.same_iff, Lt.mk.injEq]
  constructor
  · rintro ⟨⟨h1, h2, h3, h4, ⟨h5, h6⟩, ⟨h7, h8⟩, h9, h10, h11⟩, h12, ⟨h13, h14⟩, ⟨h15, h16, h17, h18⟩, h19, h20, h21⟩
    exact ⟨h1, h2, h3, h4, h5, h6, h7, h8, h9, h12, h13, h14, h15, h16, h17, h18, h10, h11, h19, h20, h21⟩
  · rintro ⟨h1, h2, h3, h4, h5, h6, h7, h8, h9, h12, h13, h14, h15, h16, h17, h18, h10, h11, h19, h20, h21⟩
    exact ⟨⟨h1, h2, h3, h4, ⟨h5, h6⟩, ⟨h7, h8⟩, h9, h10, h11⟩, h12, ⟨h13, h14⟩, ⟨h15, h16, h17, h18⟩, h19, h20, h21⟩

theorem Lt.same_of (x y : Lt) {h a b c d : Bool} (eh : h = x.sameH y) (ea : a = x.e.same y.e) (eb : b = (decide (x.vn = y.vn) && decide (x.vm = y.vm))) (ec : c = decide (x.ct = y.ct ∧ x.cn = y.cn ∧ x.cp = y.cp ∧ x.cl = y.cl)) (ed : d = decide (x.ae = y.ae ∧ x.ar = y.ar ∧ x.al = y.al)) : x.same y = (h && (a && (b && (c && d)))) := by
  rw [eh, ea, eb, ec, ed]; rfl

theorem lsame_any (x y : Lt) (s r : Ls) (w : World) (hx : LS w x s) (hy : LS w y r) (h1 : x.e.m.length ≤ 1000) (h2 : x.vm.length ≤ 1000) :
    Calls Try.prog 15 #[.agg (x.cs s), .agg (y.cs r)] w fun e w' => e = .returned (.bool (x.same y)) ∧ Fr (fun _ => False) w w' := by
  have q0 := heap_alloc_new w (oLt x s)
  have q1 := new_two w (oLt x s) (oLt y r)
  have f1 : Fr (fun _ => False) (w.alloc (oLt x s)) ((w.alloc (oLt x s)).alloc (oLt y r)) := (Fr.refl _ _).alloc _
  have Q := Lib.hid (And.intro (crow_kept q0 f1 (fun h => h)) q1)
  have F := Lib.hid (((Fr.refl (fun _ => False) w).alloc (oLt x s)).trans f1 (fun _ _ h => h))
  have HX := Lib.hid (And.intro hx (And.intro hy (And.intro h1 h2)))
  clear q0 q1 f1 hx hy h1 h2
  obtain ⟨hd, ehd⟩ : ∃ b, b = x.sameH y := ⟨_, rfl⟩
  obtain ⟨ba, eba⟩ : ∃ b, b = x.e.same y.e := ⟨_, rfl⟩
  obtain ⟨bb, ebb⟩ : ∃ b, b = (decide (x.vn = y.vn) && decide (x.vm = y.vm)) := ⟨_, rfl⟩
  obtain ⟨bc, ebc⟩ : ∃ b, b = decide (x.ct = y.ct ∧ x.cn = y.cn ∧ x.cp = y.cp ∧ x.cl = y.cl) := ⟨_, rfl⟩
  obtain ⟨bd, ebd⟩ : ∃ b, b = decide (x.ae = y.ae ∧ x.ar = y.ar ∧ x.al = y.al) := ⟨_, rfl⟩
  have HS := Lib.hid (Lt.same_of x y ehd eba ebb ebc ebd)
  obtain ⟨R, hR⟩ : ∃ R, R = x.same y := ⟨_, rfl⟩
  rw [← hR] at HS ⊢
  clear hR
  have HA := Lib.hid (And.intro eba (And.intro ebb (And.intro ebc ebd)))
  have HH := Lib.hid ehd
  clear eba ebb ebc ebd ehd
  obtain ⟨x0, x1, x2, x3, x4, x5, x6, x7, x8⟩ := lt_cells Q.out.1
  obtain ⟨x9, x10, x11, x12, x13, x14⟩ := lt_cells2 Q.out.1
  obtain ⟨-, -, -, -, -, -, x21, x22, -, -, -⟩ := lt_cells3 Q.out.1
  obtain ⟨y0, y1, y2, y3, y4, y5, y6, y7, y8⟩ := lt_cells Q.out.2
  obtain ⟨y9, y10, y11, y12, y13, y14⟩ := lt_cells2 Q.out.2
  obtain ⟨-, -, -, -, -, -, y21, y22, -, -, -⟩ := lt_cells3 Q.out.2
  go_enter Try.func15, Try.ntmps15
  go_wp2_with fail
  · have hd1 : hd = true := by rw [HH.out]; unfold Lt.sameH; simp [*]
    subst hd1
    have FW := Lib.hid F.out
    clear x0 x1 x2 x3 x4 x5 x6 x7 x8 x9 x10 x11 x12 x13 x14 x21 x22 y0 y1 y2 y3 y4 y5 y6 y7 y8 y9 y10 y11 y12 y13 y14 y21 y22
    generalize (w.alloc (oLt x s)).alloc (oLt y r) = w0 at *
    refine (vsame_any x.e y.e s.ea s.em r.ea r.em w0 (HX.out.1.e.fr FW.out) (HX.out.2.1.e.fr FW.out) HX.out.2.2.1).mono ?_
    rintro e w1 ⟨rfl, f1⟩
    have Q1 := Lib.hid (And.intro (crow_kept Q.out.1 f1 (fun h => h)) (crow_kept Q.out.2 f1 (fun h => h)))
    have F1 := Lib.hid (FW.out.trans f1 (fun _ _ h => h))
    clear f1 F FW Q
    rw [← HA.out.1]
    dsimp only
    cases ba with
    | false =>
      go_wp2_with fail
      go_ret
      exact ⟨by rw [HS.out]; rfl, F1.out⟩
    | true =>
      obtain ⟨x15, x16, -, -, -, -, -, -, -, -, -⟩ := lt_cells3 Q1.out.1
      obtain ⟨y15, y16, -, -, -, -, -, -, -, -, -⟩ := lt_cells3 Q1.out.2
      obtain ⟨a, c, hva, hcm⟩ := (HX.out.1.v.fr F1.out).shape
      obtain ⟨b, d, hvb, hdm⟩ := (HX.out.2.1.v.fr F1.out).shape
      have HM := Lib.hid (And.intro hcm hdm)
      rw [hva] at x16
      rw [hvb] at y16
      clear hcm hdm hva hvb
      go_wp2_with fail
      refine (tsame_any x.vn y.vn x.vm y.vm a b c d w1 HM.out.1 HM.out.2 HX.out.2.2.2).mono ?_
      rintro e w2 ⟨rfl, f2⟩
      have Q2 := Lib.hid (And.intro (crow_kept Q1.out.1 f2 (fun h => h)) (crow_kept Q1.out.2 f2 (fun h => h)))
      have F2 := Lib.hid (F1.out.trans f2 (fun _ _ h => h))
      clear f2 F1 Q1 x15 x16 y15 y16 HM
      rw [← HA.out.2.1]
      dsimp only
      cases bb with
      | false =>
        go_wp2_with fail
        go_ret
        exact ⟨by rw [HS.out]; rfl, F2.out⟩
      | true =>
        obtain ⟨-, -, x17, x18, x19, x20, -, -, -, -, -⟩ := lt_cells3 Q2.out.1
        obtain ⟨-, -, y17, y18, y19, y20, -, -, -, -, -⟩ := lt_cells3 Q2.out.2
        go_wp2_with fail
        refine (csame_any x.ct x.cn x.cp y.ct y.cn y.cp s.ca r.ca x.cl y.cl w2 (HX.out.1.c.fr F2.out (fun _ _ h => h)) (HX.out.2.1.c.fr F2.out (fun _ _ h => h))).mono ?_
        rintro e w3 ⟨rfl, f3⟩
        have Q3 := Lib.hid (And.intro (crow_kept Q2.out.1 f3 (fun h => h)) (crow_kept Q2.out.2 f3 (fun h => h)))
        have F3 := Lib.hid (F2.out.trans f3 (fun _ _ h => h))
        clear f3 F2 Q2 x17 x18 x19 x20 y17 y18 y19 y20
        rw [← HA.out.2.2.1]
        dsimp only
        cases bc with
        | false =>
          go_wp2_with fail
          go_ret
          exact ⟨by rw [HS.out]; rfl, F3.out⟩
        | true =>
          obtain ⟨-, -, -, -, -, -, -, -, x23, x24, x25⟩ := lt_cells3 Q3.out.1
          obtain ⟨-, -, -, -, -, -, -, -, y23, y24, y25⟩ := lt_cells3 Q3.out.2
          go_wp2_with fail
          refine (alike_any x.ae x.ar y.ae y.ar s.aa r.aa x.al y.al w3 (HX.out.1.a.fr F3.out (fun _ _ h => h)) (HX.out.2.1.a.fr F3.out (fun _ _ h => h))).mono ?_
          rintro e w4 ⟨rfl, f4⟩
          have F4 := Lib.hid (F3.out.trans f4 (fun _ _ h => h))
          clear f4 F3 Q3 x23 x24 x25 y23 y24 y25
          rw [← HA.out.2.2.2]
          dsimp only
          go_wp2_with fail
          go_ret
          exact ⟨by rw [HS.out]; rfl, F4.out⟩
  all_goals
    go_ret
    have hd1 : hd = false := by rw [HH.out]; unfold Lt.sameH; simp [*]
    exact ⟨by rw [HS.out, hd1]; rfl, F.out⟩
end
section
set_option maxRecDepth 100000

theorem chk_only (x : Lt) : x.only.chk = x.chk := by
  have e := only_only x
  unfold Lt.chk
  rw [e]
  rfl

/-- A letter whose parts may be passes its check. -/
theorem chk_zero {x : Lt} (ok : LtOk x) : x.chk = 0 := by
  have hh := only_has x
  unfold Lt.chk
  rw [if_neg (by have := ok.k1; omega), if_pos]
  · have hv : x.only.chkV = 0 := by
      unfold Lt.chkV
      rw [hh]
      by_cases h : hasE x.k x.s 64 = true
      · obtain ⟨⟨e1, e2⟩, -⟩ := only_a h
        obtain ⟨⟨-, hv, hc, -⟩, -⟩ := ok.a h
        rw [if_pos h, e1, e2, if_pos (longN_iff.2 hv), hc]
      · rw [if_neg h]
    have he : x.only.e.chk = 0 := by
      by_cases h : hasE x.k x.s 16 = true
      · rw [only_e h]; exact (ok.e h).ck
      · have : x.only.e = En.zero := by unfold Lt.only Lt.mask; simp [h]
        rw [this]; rfl
    have hc : cchk x.only.cp x.only.cl.length = 0 := by
      by_cases h : hasE x.k x.s 32 = true
      · rw [(only_c h).1, (only_c h).2]; exact cchk_ok (ok.c h).2.1 (ok.c h).2.2
      · have h1 : x.only.cp = 0 := by unfold Lt.only Lt.mask; simp [h]
        have h2 : x.only.cl = [] := by unfold Lt.only Lt.mask; simp [h]
        rw [h1, h2]; rfl
    have ha : achk x.only.ae x.only.ar x.only.al.length = 0 := by
      by_cases h : hasE x.k x.s 64 = true
      · obtain ⟨-, e3, e4, e5⟩ := only_a h
        rw [e3, e4, e5]; exact achk_ok (ok.a h).2.1 (ok.a h).2.2.1 (ok.a h).2.2.2
      · have h1 : x.only.ae = 0 := by unfold Lt.only Lt.mask; simp [h]
        have h2 : x.only.ar = 0 := by unfold Lt.only Lt.mask; simp [h]
        have h3 : x.only.al = [] := by unfold Lt.only Lt.mask; simp [h]
        rw [h1, h2, h3]; rfl
    unfold Lt.errs
    rw [hv, he, hc, ha]
    rfl
  · unfold Lt.nums
    simp only [Bool.and_eq_true, nodeN_iff, longN_iff, rightN_iff]
    refine ⟨⟨ok.f0, ok.f1⟩, ⟨ok.t0, ok.t1⟩, ?_, ?_, ?_⟩
    · by_cases h : hasE x.k x.s 1 = true
      · rw [only_p h]; exact ok.p h
      · have h1 : x.only.p = 0 := by unfold Lt.only Lt.mask; simp [h]
        rw [h1]; exact ⟨by decide, by decide⟩
    · by_cases h : hasE x.k x.s 2 = true
      · rw [(only_b h).1, (only_b h).2]; exact ok.b h
      · have h1 : x.only.b1 = 0 := by unfold Lt.only Lt.mask; simp [h]
        have h2 : x.only.b2 = 0 := by unfold Lt.only Lt.mask; simp [h]
        rw [h1, h2]; exact ⟨⟨by decide, by decide⟩, by decide, by decide⟩
    · by_cases h : hasE x.k x.s 8 = true
      · rw [(only_w h).1, (only_w h).2]; exact ok.w h
      · have h1 : x.only.w1 = 0 := by unfold Lt.only Lt.mask; simp [h]
        have h2 : x.only.w2 = 0 := by unfold Lt.only Lt.mask; simp [h]
        rw [h1, h2]; exact ⟨⟨by decide, by decide⟩, by decide, by decide⟩

/-- Of a letter that may be, and has nothing else: its bytes are read as it is. -/
theorem takeL_ltB {x : Lt} (ok : LtOk x) (hx : x.only = x) : takeL (ltB x) = (x, 0) := by
  have h := rd_of x ok hx []
  rw [List.append_nil] at h
  rw [takeL_of (Y := x) (T := ([], 0)) (by rw [h]) (by rw [h])]
  rw [if_neg (by decide), if_neg (by rw [chk_zero ok]; decide)]

theorem only_ty {x : Lt} (h : LtTy x) : LtTy x.only := by
  obtain ⟨h1, h2, h3, h4, h5, h6, h7, h8, h9, h10⟩ := h
  refine ⟨h1, h2, ?_, ?_, ?_, ?_, ?_, ?_, ?_, ?_⟩
  all_goals
    unfold Lt.only Lt.mask
    simp only
    split
    all_goals first | assumption | (show (0 : Int) ≤ 0; decide) | (show (0 : Int) ≤ 255; decide) | (show (0 : Int) ≤ 0 ∧ (0 : Int) ≤ 65535; decide)

/-- A Small's letter, if its lists are short. -/
def S17.light (y : S17) : Prop := y.e.c.l.length ≤ 100 ∧ y.c.l.length ≤ 100 ∧ y.a.l.length ≤ 100

theorem bits_le (m : Nat) (h : m < 65536) : (bitsL m).length ≤ 16 := (chkM_ok (bitsL_chk m h)).2.1

theorem all_ty {y : S17} (h : y.ok) (hl : y.light) : LtT y.all := by
  obtain ⟨hk, hf, ht, hp, hr, hbf, hnd, hls, he, hc, hvw, hmb, htr, hnm, ha⟩ := h
  obtain ⟨l1, l2, l3⟩ := hl
  have en := sm_ok he (by omega)
  have hm := bits_le y.mb hmb
  refine ⟨⟨?_, ?_, ?_, ?_, ?_, en.k0, ?_⟩, ⟨?_, ?_, en.k0, ?_, ⟨en.t0, en.t1⟩, ⟨en.n0, en.n1⟩, hc.1, hc.2.1, htr, hnm⟩⟩
  · have := en.l1; show y.e.en.l.length ≤ _; omega
  · have := en.m1; show y.e.en.m.length ≤ _; omega
  · show (bitsL y.mb).length ≤ _; omega
  · show y.c.l.length ≤ _; omega
  · show y.a.l.length ≤ _; omega
  · have := en.k1; show y.e.en.k ≤ _; omega
  · show 0 ≤ y.k % 8; omega
  · show y.k % 8 ≤ 255; omega
  · have := en.k1; show y.e.en.k ≤ _; omega

theorem okN_of {n : Int} (h : 0 ≤ n ∧ n ≤ 65535) : okN n = true := by unfold okN; simp [h.1, h.2]

theorem all_ok {y : S17} (h : y.ok) (hl : y.light) : LtOk y.all := by
  obtain ⟨hk, hf, ht, hp, hr, hbf, hnd, hls, he, hc, hvw, hmb, htr, hnm, ha⟩ := h
  obtain ⟨l1, l2, l3⟩ := hl
  refine ⟨?_, ?_, ?_, ?_, ?_, ?_, fun _ => hp, fun _ => ⟨hr, ?_, ?_⟩, fun _ => ⟨hbf, ?_, ?_⟩, fun _ => sm_ok he (by omega), fun _ => ⟨⟨hc.1, hc.2.1⟩, okN_of hc.2.2, ?_⟩, fun _ => ⟨⟨⟨htr, hnm⟩, hvw, bitsL_chk y.mb hmb, bits_in16 _, bits_le _ hmb⟩, okN_of ha.1, okN_of ha.2, ?_⟩⟩
  · show 0 ≤ y.k % 8; omega
  · show y.k % 8 ≤ 7; omega
  · show 0 ≤ y.f % 16; omega
  · show y.f % 16 ≤ 15; omega
  · show 0 ≤ y.t % 16; omega
  · show y.t % 16 ≤ 15; omega
  · show 0 ≤ y.nd % 16; omega
  · show y.nd % 16 ≤ 15; omega
  · show 0 ≤ y.ls % 16; omega
  · show y.ls % 16 ≤ 15; omega
  · show y.c.l.length ≤ 4000; omega
  · show y.a.l.length ≤ 4000; omega

theorem only_ok {x : Lt} (ty : LtTy x) (h : LtOk x) : LtOk x.only := ok_of_chk (only_ty ty) (by rw [chk_only]; exact chk_zero h)

theorem sletter_any (y : S17) (ve vc va : Value) (w : World) (hy : y.ok) (hl : y.light) (hs : S17S w y ve vc va) :
    Calls Try.prog 9 #[.agg (y.cs ve vc va)] w fun e w' => ∃ s', e = .returned (.agg (y.all.only.cs s')) ∧ LS w' y.all.only s' ∧ Fr (fun _ => False) w w' ∧ s'.new w.heap.size := by
  have q0 := heap_alloc_new w (oS17 y ve vc va)
  have q1 := new_two w (oS17 y ve vc va) (zLt 0 0 0)
  have f1 : Fr (fun _ => False) (w.alloc (oS17 y ve vc va)) ((w.alloc (oS17 y ve vc va)).alloc (zLt 0 0 0)) := (Fr.refl _ _).alloc _
  have f2 := ((Fr.refl (fun _ => False) w).alloc (oS17 y ve vc va)).trans f1 (fun _ _ h => h)
  have Q := Lib.hid (And.intro (crow_kept q0 f1 (fun h => h)) q1)
  have F := Lib.hid f2
  have HS := Lib.hid (hs.fr f2)
  have HT := Lib.hid (all_ty hy hl)
  clear q0 q1 f1 f2 hs hl
  go_enter Try.func9, Try.ntmps9
  go_upto_region 1 with fail
  generalize (w.alloc (oS17 y ve vc va)).alloc (zLt 0 0 0) = w0 at *
  obtain ⟨g, hg⟩ : ∃ g, g = w.heap.size := ⟨_, rfl⟩
  rw [← hg] at Q ⊢
  have HG := Lib.hid hg
  clear hg
  go_wp2_with (refine load_lt rfl 32 (.tmp 1) rfl g (y.cs ve vc va) 32 (0, 0) rfl Q.out.1 _ Try.underlying32 rfl (by kernel_rfl) ?_)
  refine (sall_any y ve vc va w0 hy HS.out).mono ?_
  rintro e w1 ⟨s1, rfl, hl1, f1⟩
  have Q1 := Lib.hid (crow_kept Q.out.2 f1 (fun h => h))
  have F1 := Lib.hid (F.out.trans f1 (fun _ _ h => h))
  have L1 := Lib.hid hl1
  clear hl1 f1 Q F HS
  dsimp only
  go_wp2_with fail
  refine (only_any y.all s1 w1 L1.out HT.out.l.el HT.out.l.em HT.out.l.vm HT.out.l.cl HT.out.l.al).mono ?_
  rintro e w2 ⟨s2, rfl, hl2, f2, hn2⟩
  have Q2 := Lib.hid (crow_kept Q1.out f2 (fun h => h))
  have F2 := Lib.hid (F1.out.trans f2 (fun _ _ h => h))
  have L2 := Lib.hid (And.intro hl2 (hn2.le (show g + 1 + 1 ≤ w1.heap.size from vt_lt Q1.out)))
  clear hl2 f2 hn2 Q1 F1 L1
  dsimp only
  go_wp2_with (refine store_lt rfl 51 (.tmp 2) (.tmp 5) rfl (g + 1) (y.all.only.cs s2) rfl rfl 51 _ Q2.out (by kernel_rfl) rfl L2.out.1.one ?_)
  have hq := setRow_heap _ _ _ (y.all.only.cs s2) _ _ Q2.out
  have hfr := Fr.letRow (S := fun k => k = g + 1) (Fr.refl _ w2) (g := g + 1) (fun _ => rfl) (y.all.only.cs s2)
  generalize w2.setRow (g + 1) (y.all.only.cs s2) = wz at *
  refine bodyPost_ret (results_cell_row rfl _ _ (g + 1) 51 _ _ _ rfl hq Try.underlying51 rfl (by kernel_rfl)) rfl ?_
  exact ⟨s2, rfl, L2.out.1.off hfr L2.out.2, F2.out.trans hfr (fun i hi e => by have := HG.out; omega), L2.out.2.le (by have := HG.out; omega)⟩

/-- A whole row loaded, by an operation that is guarded. -/
theorem load_ltg {P : Program} {w : World} {ops : Array Oper} {rest : List Oper} {o : Oper} {a : Act} {Q : Exit → Act → World → Prop} (hw : Region.wanted o (yielded ops a.tmps) = true) (t : TypeId) (x : Operand) (ho : o.op = .load t x)
    (b : Nat) (cs : Array Value) (T : TypeId) (fr : Nat × Nat) (hx : a.eval x = .pointer (some ⟨b, 0, none⟩)) (hg : w.heap[b]? = some (.cells cs T fr)) (d : TypeDesc) (hu : P.underlying t = some d)
    (hd : (match d with | .struct _ | .array _ _ => true | _ => false) = true) (hi : (P.info? t).map (·.size) = some cs.size)
    (h : wpList P ops Q rest (a.put o.dst (.agg cs)) w) : wpList P ops Q (o :: rest) a w := by
  refine wpList_step fun K hK => ?_
  rw [if_pos hw]
  exact wp_load_row t x ho b hx T cs fr d hg hu hd hi (hK _ _ h)

theorem zero_ok : LtOk Lt.zero := ⟨by decide, by decide, by decide, by decide, by decide, by decide, fun _ => by decide, fun _ => by decide, fun _ => by decide, fun h => absurd h (by decide), fun h => absurd h (by decide), fun h => absurd h (by decide)⟩
theorem zero_ty : LtT Lt.zero := (ty_zero (k := 0) (f := 0) (t := 0) ⟨by decide, by decide⟩).lt
theorem zero_only : Lt.zero.only = Lt.zero := by rfl

theorem lawake_any (w : World) : Calls Try.prog 7 #[] w fun e w' => e = .returned (.bool true) ∧ Fr (fun _ => False) w w' := by
  have hz : ∀ W, LS W Lt.zero Ls.nil := fun W => LS.zero W 0 0 0
  go_enter Try.func7, Try.ntmps7
  go_wp2_with fail
  refine (lput_ok Lt.zero Ls.nil w (hz w) zero_ty.l zero_ty.t (chk_zero zero_ok)).mono ?_
  rintro e w1 ⟨v1, rfl, ho1, f1, hv1⟩
  have S1 := Lib.hid ho1.sees
  have F1 := Lib.hid f1
  have hlen : (ltB Lt.zero).length = 16 := by rfl
  obtain ⟨a1, c1, e1, -⟩ := ho1.sees.shape
  rw [hlen] at e1
  subst e1
  have HLN := Lib.hid hlen
  clear ho1 f1 hv1 hlen
  dsimp only
  go_wp2_with fail
  refine (ltake_any _ (ltB Lt.zero) w1 S1.out (by rw [HLN.out]; omega)).mono ?_
  rintro e w2 ⟨s2, rfl, hl2, f2⟩
  rw [takeL_ltB zero_ok zero_only] at hl2 ⊢
  have F2 := Lib.hid (F1.out.trans f2 (fun _ _ h => h))
  have L2 := Lib.hid hl2
  have hq2 := heap_alloc_new w2 (zLt 0 0 0)
  have HZ2 := Lib.hid hq2
  clear hl2 f2 hq2
  dsimp only
  go_upto_region 3 with (refine store_lt rfl 51 (.tmp 3) (.tmp 13) rfl w2.heap.size (Lt.zero.cs s2) rfl rfl 51 _ HZ2.out (by kernel_rfl) rfl L2.out.one ?_)
  have q3 := setRow_heap _ _ _ (Lt.zero.cs s2) _ _ HZ2.out
  have f3 : Fr (fun _ => False) w2 ((w2.alloc (zLt 0 0 0)).setRow w2.heap.size (Lt.zero.cs s2)) := Fr.letRow ((Fr.refl _ _).alloc _) (fun h => absurd h (by omega)) _
  generalize (w2.alloc (zLt 0 0 0)).setRow w2.heap.size (Lt.zero.cs s2) = w3 at *
  obtain ⟨g3, hg3⟩ : ∃ g, g = w2.heap.size := ⟨_, rfl⟩
  rw [← hg3] at q3 ⊢
  have Q3 := Lib.hid q3
  have F3 := Lib.hid (F2.out.trans f3 (fun _ _ h => h))
  have L3 := Lib.hid (L2.out.fr f3)
  clear q3 f3 hg3 HZ2 F2 L2
  go_wp2_with (refine load_ltg rfl 51 (.tmp 3) rfl g3 (Lt.zero.cs s2) 51 (0, 0) rfl Q3.out _ Try.underlying51 rfl (by kernel_rfl) ?_)
  refine (lsame_any Lt.zero Lt.zero s2 Ls.nil w3 L3.out (hz w3) (by decide) (by decide)).mono ?_
  rintro e w4 ⟨rfl, f4⟩
  rw [(Lt.same_iff _ _).2 rfl]
  have F4 := Lib.hid (F3.out.trans f4 (fun _ _ h => h))
  clear f4
  dsimp only
  go_wp2_with fail
  go_ret
  exact ⟨rfl, F4.out⟩
end
section
open Go.ChangeShapes Go.WideShapes Go.ChangeAt Go.RowKit
set_option maxRecDepth 100000

def S17V (w : World) (y : S17) (v : Value) : Prop := ∃ ve vc va, v = .agg (y.cs ve vc va) ∧ S17S w y ve vc va ∧ y.ok

theorem cellsOf_S17 : Try.prog.cellsOf 32 = 26 := by kernel_rfl
theorem cellsOf_u32 : Try.prog.cellsOf 22 = 1 := by kernel_rfl
theorem cellsOf_bool : Try.prog.cellsOf 4 = 1 := by kernel_rfl
section
variable {H : Type} (enc : TypeId × Value → H) (w : World)

theorem sa_reads {fuel : Nat} {cs : List Value} {x : DataW H × List MemPlace} (h : DataW.trod enc Try.prog w 0 (fun _ => true) true fuel 30 cs = some x) :
    ∃ (s : Sa) (a : Option Addr) (c : Nat), cs = [.int .u16 s.e, .int .u16 s.r, .slice a s.l.length c] ∧ SeesO w (.slice a s.l.length c) s.l ∧ (0 ≤ s.e ∧ s.e ≤ 65535) ∧ 0 ≤ s.r ∧ s.r ≤ 65535 := by
  obtain ⟨xs, n, rfl, _, hl, hlen, hf⟩ := DataW.trod_struct Try.underlying30 h
  rw [cellsOf_Sa] at hl
  match cs, hl with
  | [c0, c1, c2], _ =>
  have f0 : DataW.trod enc Try.prog w 0 (fun _ => true) true n 23 (List.take (Try.prog.cellsOf 23) (List.drop 0 [c0, c1, c2])) = xs[0]? := hf 0 _ rfl
  have f1 : DataW.trod enc Try.prog w 0 (fun _ => true) true n 23 (List.take (Try.prog.cellsOf 23) (List.drop 1 [c0, c1, c2])) = xs[1]? := hf 1 _ rfl
  have f2 : DataW.trod enc Try.prog w 0 (fun _ => true) true n 24 (List.take (Try.prog.cellsOf 24) (List.drop 2 [c0, c1, c2])) = xs[2]? := hf 2 _ rfl
  have hl5 : xs.length = 3 := hlen
  rw [List.getElem?_eq_getElem (by omega)] at f0 f1 f2
  simp only [cellsOf_u16, cellsOf_u8s, List.drop_zero, List.drop_succ_cons, List.take_succ_cons, List.take_zero] at f0 f1 f2
  obtain ⟨k0, h0, e0⟩ := int_reads enc w Try.underlying23 f0
  obtain ⟨k1, h1, e1⟩ := int_reads enc w Try.underlying23 f1
  obtain ⟨l, a, c, e2, hs⟩ := u8s_reads enc w f2
  simp at e0 e1 e2
  subst e0 e1 e2
  have b0 := bounds_u16 h0
  have b1 := bounds_u16 h1
  exact ⟨⟨k0, k1, l⟩, a, c, rfl, hs, b0, b1.1, b1.2⟩

theorem s17_any {v : Value} {d : DataW H} {p : List MemPlace} {base : Nat} (hval : Value.okWide Try.prog w .any base 32 v)
    (h : DataW.Trod enc Try.prog w 0 (fun _ => true) true 32 v d p) : ∃ y, S17V w y v := by
  obtain ⟨cs, rfl, _⟩ := okWide_struct Try.underlying32 hval
  obtain ⟨fuel, hf⟩ := h
  obtain ⟨xs, n, rfl, _, hl, hlen, hf⟩ := DataW.trod_struct Try.underlying32 hf
  rw [cellsOf_S17] at hl
  have hcs : (Value.agg cs).cells.toList = cs.toList := rfl
  rw [hcs] at hl hf
  obtain ⟨cs⟩ := cs
  match cs, hl with
  | [c0, c1, c2, c3, c4, c5, c6, c7, c8, c9, c10, c11, c12, c13, c14, c15, c16, c17, c18, c19, c20, c21, c22, c23, c24, c25], _ =>
  have f0 : DataW.trod enc Try.prog w 0 (fun _ => true) true n 5 (List.take (Try.prog.cellsOf 5) (List.drop 0 [c0, c1, c2, c3, c4, c5, c6, c7, c8, c9, c10, c11, c12, c13, c14, c15, c16, c17, c18, c19, c20, c21, c22, c23, c24, c25])) = xs[0]? := hf 0 _ rfl
  have f1 : DataW.trod enc Try.prog w 0 (fun _ => true) true n 5 (List.take (Try.prog.cellsOf 5) (List.drop 1 [c0, c1, c2, c3, c4, c5, c6, c7, c8, c9, c10, c11, c12, c13, c14, c15, c16, c17, c18, c19, c20, c21, c22, c23, c24, c25])) = xs[1]? := hf 1 _ rfl
  have f2 : DataW.trod enc Try.prog w 0 (fun _ => true) true n 5 (List.take (Try.prog.cellsOf 5) (List.drop 2 [c0, c1, c2, c3, c4, c5, c6, c7, c8, c9, c10, c11, c12, c13, c14, c15, c16, c17, c18, c19, c20, c21, c22, c23, c24, c25])) = xs[2]? := hf 2 _ rfl
  have f3 : DataW.trod enc Try.prog w 0 (fun _ => true) true n 22 (List.take (Try.prog.cellsOf 22) (List.drop 3 [c0, c1, c2, c3, c4, c5, c6, c7, c8, c9, c10, c11, c12, c13, c14, c15, c16, c17, c18, c19, c20, c21, c22, c23, c24, c25])) = xs[3]? := hf 3 _ rfl
  have f4 : DataW.trod enc Try.prog w 0 (fun _ => true) true n 22 (List.take (Try.prog.cellsOf 22) (List.drop 4 [c0, c1, c2, c3, c4, c5, c6, c7, c8, c9, c10, c11, c12, c13, c14, c15, c16, c17, c18, c19, c20, c21, c22, c23, c24, c25])) = xs[4]? := hf 4 _ rfl
  have f5 : DataW.trod enc Try.prog w 0 (fun _ => true) true n 22 (List.take (Try.prog.cellsOf 22) (List.drop 5 [c0, c1, c2, c3, c4, c5, c6, c7, c8, c9, c10, c11, c12, c13, c14, c15, c16, c17, c18, c19, c20, c21, c22, c23, c24, c25])) = xs[5]? := hf 5 _ rfl
  have f6 : DataW.trod enc Try.prog w 0 (fun _ => true) true n 5 (List.take (Try.prog.cellsOf 5) (List.drop 6 [c0, c1, c2, c3, c4, c5, c6, c7, c8, c9, c10, c11, c12, c13, c14, c15, c16, c17, c18, c19, c20, c21, c22, c23, c24, c25])) = xs[6]? := hf 6 _ rfl
  have f7 : DataW.trod enc Try.prog w 0 (fun _ => true) true n 5 (List.take (Try.prog.cellsOf 5) (List.drop 7 [c0, c1, c2, c3, c4, c5, c6, c7, c8, c9, c10, c11, c12, c13, c14, c15, c16, c17, c18, c19, c20, c21, c22, c23, c24, c25])) = xs[7]? := hf 7 _ rfl
  have f8 : DataW.trod enc Try.prog w 0 (fun _ => true) true n 4 (List.take (Try.prog.cellsOf 4) (List.drop 8 [c0, c1, c2, c3, c4, c5, c6, c7, c8, c9, c10, c11, c12, c13, c14, c15, c16, c17, c18, c19, c20, c21, c22, c23, c24, c25])) = xs[8]? := hf 8 _ rfl
  have f9 : DataW.trod enc Try.prog w 0 (fun _ => true) true n 28 (List.take (Try.prog.cellsOf 28) (List.drop 9 [c0, c1, c2, c3, c4, c5, c6, c7, c8, c9, c10, c11, c12, c13, c14, c15, c16, c17, c18, c19, c20, c21, c22, c23, c24, c25])) = xs[9]? := hf 9 _ rfl
  have f10 : DataW.trod enc Try.prog w 0 (fun _ => true) true n 26 (List.take (Try.prog.cellsOf 26) (List.drop 15 [c0, c1, c2, c3, c4, c5, c6, c7, c8, c9, c10, c11, c12, c13, c14, c15, c16, c17, c18, c19, c20, c21, c22, c23, c24, c25])) = xs[10]? := hf 10 _ rfl
  have f11 : DataW.trod enc Try.prog w 0 (fun _ => true) true n 22 (List.take (Try.prog.cellsOf 22) (List.drop 19 [c0, c1, c2, c3, c4, c5, c6, c7, c8, c9, c10, c11, c12, c13, c14, c15, c16, c17, c18, c19, c20, c21, c22, c23, c24, c25])) = xs[11]? := hf 11 _ rfl
  have f12 : DataW.trod enc Try.prog w 0 (fun _ => true) true n 23 (List.take (Try.prog.cellsOf 23) (List.drop 20 [c0, c1, c2, c3, c4, c5, c6, c7, c8, c9, c10, c11, c12, c13, c14, c15, c16, c17, c18, c19, c20, c21, c22, c23, c24, c25])) = xs[12]? := hf 12 _ rfl
  have f13 : DataW.trod enc Try.prog w 0 (fun _ => true) true n 23 (List.take (Try.prog.cellsOf 23) (List.drop 21 [c0, c1, c2, c3, c4, c5, c6, c7, c8, c9, c10, c11, c12, c13, c14, c15, c16, c17, c18, c19, c20, c21, c22, c23, c24, c25])) = xs[13]? := hf 13 _ rfl
  have f14 : DataW.trod enc Try.prog w 0 (fun _ => true) true n 23 (List.take (Try.prog.cellsOf 23) (List.drop 22 [c0, c1, c2, c3, c4, c5, c6, c7, c8, c9, c10, c11, c12, c13, c14, c15, c16, c17, c18, c19, c20, c21, c22, c23, c24, c25])) = xs[14]? := hf 14 _ rfl
  have f15 : DataW.trod enc Try.prog w 0 (fun _ => true) true n 30 (List.take (Try.prog.cellsOf 30) (List.drop 23 [c0, c1, c2, c3, c4, c5, c6, c7, c8, c9, c10, c11, c12, c13, c14, c15, c16, c17, c18, c19, c20, c21, c22, c23, c24, c25])) = xs[15]? := hf 15 _ rfl
  have hl5 : xs.length = 16 := hlen
  rw [List.getElem?_eq_getElem (by omega)] at f0 f1 f2 f3 f4 f5 f6 f7 f8 f9 f10 f11 f12 f13 f14 f15
  simp only [cellsOf_u8, cellsOf_u16, cellsOf_u32, cellsOf_bool, cellsOf_Sm, cellsOf_Sc, cellsOf_Sa, List.drop_zero, List.drop_succ_cons, List.take_succ_cons, List.take_zero] at f0 f1 f2 f3 f4 f5 f6 f7 f8 f9 f10 f11 f12 f13 f14 f15
  obtain ⟨k0, h0, e0⟩ := int_reads enc w Try.underlying5 f0
  have b0 := bounds_u8 h0
  obtain ⟨k1, h1, e1⟩ := int_reads enc w Try.underlying5 f1
  have b1 := bounds_u8 h1
  obtain ⟨k2, h2, e2⟩ := int_reads enc w Try.underlying5 f2
  have b2 := bounds_u8 h2
  obtain ⟨k3, h3, e3⟩ := int_reads enc w Try.underlying22 f3
  have b3 := bounds_u32 h3
  obtain ⟨k4, h4, e4⟩ := int_reads enc w Try.underlying22 f4
  have b4 := bounds_u32 h4
  obtain ⟨k5, h5, e5⟩ := int_reads enc w Try.underlying22 f5
  have b5 := bounds_u32 h5
  obtain ⟨k6, h6, e6⟩ := int_reads enc w Try.underlying5 f6
  have b6 := bounds_u8 h6
  obtain ⟨k7, h7, e7⟩ := int_reads enc w Try.underlying5 f7
  have b7 := bounds_u8 h7
  obtain ⟨k8, e8⟩ := bool_reads enc w Try.underlying4 f8
  obtain ⟨sm, a1, m1, e9, hs1, hok1⟩ := sm_reads enc w f9
  obtain ⟨sc, a2, m2, e10, hs2, p0, p1, p2, p3, p4, p5⟩ := sc_reads enc w f10
  obtain ⟨k11, h11, e11⟩ := int_reads enc w Try.underlying22 f11
  have b11 := bounds_u32 h11
  obtain ⟨k12, h12, e12⟩ := int_reads enc w Try.underlying23 f12
  have b12 := bounds_u16 h12
  obtain ⟨k13, h13, e13⟩ := int_reads enc w Try.underlying23 f13
  have b13 := bounds_u16 h13
  obtain ⟨k14, h14, e14⟩ := int_reads enc w Try.underlying23 f14
  have b14 := bounds_u16 h14
  obtain ⟨sa, a3, m3, e15, hs3, q1, q2⟩ := sa_reads enc w f15
  simp at e0 e1 e2 e3 e4 e5 e6 e7 e8 e9 e10 e11 e12 e13 e14 e15
  obtain ⟨e90, e91, e92, e93, e94, e95⟩ := e9
  obtain ⟨e100, e101, e102, e103⟩ := e10
  obtain ⟨e150, e151, e152⟩ := e15
  subst e0 e1 e2 e3 e4 e5 e6 e7 e8 e90 e91 e92 e93 e94 e95 e100 e101 e102 e103 e11 e12 e13 e14 e150 e151 e152
  obtain ⟨k, rfl⟩ : ∃ k : Nat, k12 = k := ⟨k12.toNat, by omega⟩
  exact ⟨⟨k0, k1, k2, k3, k4, k5, k6, k7, k8, sm, sc, k11, k, k13, k14, sa⟩, _, _, _, rfl, ⟨hs1, hs2, hs3⟩, ⟨b0, b1, b2, b3, b4, b5, b6, b7, hok1, ⟨⟨p0, p1⟩, ⟨p2, p3⟩, p4, p5⟩, b11, by have := b12.2; show k < 65536; omega, b13, b14, q1, q2⟩⟩
end
end
section
theorem pmode_gc : (Region.Mode.any == Region.Mode.gc) = false := rfl

/-- What a value shows, in memory of R. -/
structure Seen where
  sh : (Nat → Prop) → World → Value → Prop
  fr : ∀ {R S : Nat → Prop} {w w' : World} {v : Value}, Fr S w w' → (∀ k, R k → ¬ S k) → sh R w v → sh R w' v
  mono : ∀ {R S : Nat → Prop} {w : World} {v : Value}, (∀ k, k < w.heap.size → R k → S k) → sh R w v → sh S w v

def pptr (g : Nat) : Value := .pointer (some ⟨g, 0, none⟩)

theorem pptr_inj {g g' : Nat} (h : pptr g = pptr g') : g = g' := by unfold pptr at h; simpa using h

def pupd (st : Nat → Option Value) (i : Nat) (v : Value) : Nat → Option Value := fun j => if j = i then some v else st j

theorem pupd_at (st : Nat → Option Value) (i : Nat) (v : Value) : pupd st i v i = some v := by unfold pupd; rw [if_pos rfl]

theorem pupd_ne (st : Nat → Option Value) (i j : Nat) (v : Value) (h : j ≠ i) : pupd st i v j = st j := by unfold pupd; rw [if_neg h]

def POff (a1 a2 : Nat) (st : Nat → Option Value) : Nat → Prop := fun k => st a1 ≠ some (pptr k) ∧ st a2 ≠ some (pptr k)

structure PDif (i1 i2 i3 a1 a2 : Nat) : Prop where
  d12 : i1 ≠ i2
  d13 : i1 ≠ i3
  d23 : i2 ≠ i3
  d1a : i1 ≠ a1
  d1b : i1 ≠ a2
  d2a : i2 ≠ a1
  d2b : i2 ≠ a2
  d3a : i3 ≠ a1
  d3b : i3 ≠ a2
  dab : a1 ≠ a2

/-- Ahead of the stores. -/
structure PA (X Y Z : Seen) (tx ty : TypeId) (zx zy : Array Value) (i1 i2 i3 a1 a2 : Nat) (w : World) (st : Nat → Option Value) (wx : World) : Prop where
  fr : Fr (fun _ => False) w wx
  c1 : ∀ v, st i1 = some v → X.sh (POff a1 a2 st) wx v
  c2 : ∀ v, st i2 = some v → Y.sh (POff a1 a2 st) wx v
  c3 : ∀ v, st i3 = some v → Z.sh (POff a1 a2 st) wx v
  p1 : ∀ v, st a1 = some v → ∃ g, v = pptr g ∧ w.heap.size ≤ g ∧ wx.heap[g]? = some (.cells zx tx (0, 0))
  p2 : ∀ v, st a2 = some v → ∃ g, v = pptr g ∧ w.heap.size ≤ g ∧ wx.heap[g]? = some (.cells zy ty (0, 0))
  ne : ∀ v, st a1 = some v → st a2 ≠ some v

/-- Two things in two blocks, all else off them. -/
def PIn (X Y : Seen) (tx ty : TypeId) (w : World) (g1 g2 : Nat) (wx : World) : Prop :=
  Fr (fun _ => False) w wx ∧ g1 ≠ g2 ∧ w.heap.size ≤ g1 ∧ w.heap.size ≤ g2 ∧
  (∃ cs, wx.heap[g1]? = some (.cells cs tx (0, 0)) ∧ X.sh (fun k => k ≠ g1 ∧ k ≠ g2) wx (.agg cs)) ∧
  (∃ cs, wx.heap[g2]? = some (.cells cs ty (0, 0)) ∧ Y.sh (fun k => k ≠ g1 ∧ k ≠ g2) wx (.agg cs))

/-- Between the stores. -/
def PB (X Y : Seen) (tx ty : TypeId) (zy : Array Value) (i2 a1 a2 : Nat) (w : World) (st : Nat → Option Value) (wx : World) : Prop :=
  ∃ g1 g2 v2, st a1 = some (pptr g1) ∧ st a2 = some (pptr g2) ∧ st i2 = some v2 ∧ Fr (fun _ => False) w wx ∧ g1 ≠ g2 ∧ w.heap.size ≤ g1 ∧ w.heap.size ≤ g2 ∧
  (∃ cs, wx.heap[g1]? = some (.cells cs tx (0, 0)) ∧ X.sh (fun k => k ≠ g1 ∧ k ≠ g2) wx (.agg cs)) ∧
  wx.heap[g2]? = some (.cells zy ty (0, 0)) ∧ Y.sh (fun k => k ≠ g1 ∧ k ≠ g2) wx v2

def PS (X Y Z : Seen) (tx ty : TypeId) (zx zy : Array Value) (i1 i2 i3 a1 a2 s1 s2 : Nat) (w : World) (st : Nat → Option Value) (wx : World) : Prop := match st s1, st s2 with
  | none, none => PA X Y Z tx ty zx zy i1 i2 i3 a1 a2 w st wx
  | some _, none => PB X Y tx ty zy i2 a1 a2 w st wx
  | _, some _ => ∃ g1 g2 v2, st a1 = some (pptr g1) ∧ st a2 = some (pptr g2) ∧ st i2 = some v2 ∧ PIn X Y tx ty w g1 g2 wx

section
variable {X Y Z : Seen} {tx ty : TypeId} {zx zy : Array Value} {i1 i2 i3 a1 a2 s1 s2 : Nat} {w wx wy : World} {st : Nat → Option Value}

theorem PS.a (h : PS X Y Z tx ty zx zy i1 i2 i3 a1 a2 s1 s2 w st wx) (h1 : st s1 = none) (h2 : st s2 = none) : PA X Y Z tx ty zx zy i1 i2 i3 a1 a2 w st wx := by
  unfold PS at h; rw [h1, h2] at h; exact h

theorem PS.b {u : Value} (h : PS X Y Z tx ty zx zy i1 i2 i3 a1 a2 s1 s2 w st wx) (h1 : st s1 = some u) (h2 : st s2 = none) : PB X Y tx ty zy i2 a1 a2 w st wx := by
  unfold PS at h; rw [h1, h2] at h; exact h

theorem PA.ps (h : PA X Y Z tx ty zx zy i1 i2 i3 a1 a2 w st wx) (h1 : st s1 = none) (h2 : st s2 = none) : PS X Y Z tx ty zx zy i1 i2 i3 a1 a2 s1 s2 w st wx := by
  unfold PS; rw [h1, h2]; exact h

theorem PS.fr (h : PS X Y Z tx ty zx zy i1 i2 i3 a1 a2 s1 s2 w st wx) : Fr (fun _ => False) w wx := by
  unfold PS at h
  split at h
  · exact h.fr
  · obtain ⟨_, _, _, _, _, _, hf, _⟩ := h; exact hf
  · obtain ⟨_, _, _, _, _, _, hf, _⟩ := h; exact hf

/-- Ahead of the second call nothing is stored. -/
theorem PS.early (h : PS X Y Z tx ty zx zy i1 i2 i3 a1 a2 s1 s2 w st wx) (h2 : st i2 = none) : st s1 = none ∧ st s2 = none := by
  unfold PS at h
  split at h
  · rename_i e1 e2
    exact ⟨e1, e2⟩
  · obtain ⟨_, _, _, _, _, e, _⟩ := h
    rw [h2] at e
    cases e
  · obtain ⟨_, _, _, _, _, e, _⟩ := h
    rw [h2] at e
    cases e

theorem PA.later (h : PA X Y Z tx ty zx zy i1 i2 i3 a1 a2 w st wx) (f : Fr (fun _ => False) wx wy) : PA X Y Z tx ty zx zy i1 i2 i3 a1 a2 w st wy where
  fr := h.fr.trans f (fun _ _ h => h)
  c1 v hv := X.fr f (fun _ _ h => h) (h.c1 v hv)
  c2 v hv := Y.fr f (fun _ _ h => h) (h.c2 v hv)
  c3 v hv := Z.fr f (fun _ _ h => h) (h.c3 v hv)
  p1 v hv := by obtain ⟨g, e, hg, hc⟩ := h.p1 v hv; exact ⟨g, e, hg, crow_kept hc f (fun h => h)⟩
  p2 v hv := by obtain ⟨g, e, hg, hc⟩ := h.p2 v hv; exact ⟨g, e, hg, crow_kept hc f (fun h => h)⟩
  ne := h.ne

theorem PA.new {S : Seen} (h : PA X Y Z tx ty zx zy i1 i2 i3 a1 a2 w st wx) {v : Value} (ht : S.sh (fun k => k < w.heap.size ∨ wx.heap.size ≤ k) wy v) : S.sh (POff a1 a2 st) wy v := by
  refine S.mono (fun k _ hk => ⟨fun e => ?_, fun e => ?_⟩) ht
  · obtain ⟨g, eg, hg, hc⟩ := h.p1 _ e
    have := pptr_inj eg
    have := lt_of_block hc
    omega
  · obtain ⟨g, eg, hg, hc⟩ := h.p2 _ e
    have := pptr_inj eg
    have := lt_of_block hc
    omega

theorem poff_upd (i : Nat) (v : Value) (h1 : i ≠ a1) (h2 : i ≠ a2) : POff a1 a2 (pupd st i v) = POff a1 a2 st := by
  unfold POff
  rw [pupd_ne _ _ _ _ h1.symm, pupd_ne _ _ _ _ h2.symm]

theorem PA.call1 (h : PA X Y Z tx ty zx zy i1 i2 i3 a1 a2 w st wx) (d : PDif i1 i2 i3 a1 a2) (f : Fr (fun _ => False) wx wy) {v : Value} (ht : X.sh (fun k => k < w.heap.size ∨ wx.heap.size ≤ k) wy v) : PA X Y Z tx ty zx zy i1 i2 i3 a1 a2 w (pupd st i1 v) wy := by
  have hl := h.later f
  refine ⟨hl.fr, fun u hu => ?_, fun u hu => ?_, fun u hu => ?_, fun u hu => ?_, fun u hu => ?_, fun u hu => ?_⟩
  · rw [pupd_at] at hu; cases hu; rw [poff_upd _ _ d.d1a d.d1b]; exact h.new ht
  · rw [pupd_ne _ _ _ _ d.d12.symm] at hu; rw [poff_upd _ _ d.d1a d.d1b]; exact hl.c2 u hu
  · rw [pupd_ne _ _ _ _ d.d13.symm] at hu; rw [poff_upd _ _ d.d1a d.d1b]; exact hl.c3 u hu
  · rw [pupd_ne _ _ _ _ d.d1a.symm] at hu; exact hl.p1 u hu
  · rw [pupd_ne _ _ _ _ d.d1b.symm] at hu; exact hl.p2 u hu
  · rw [pupd_ne _ _ _ _ d.d1a.symm] at hu; rw [pupd_ne _ _ _ _ d.d1b.symm]; exact hl.ne u hu

theorem PA.call2 (h : PA X Y Z tx ty zx zy i1 i2 i3 a1 a2 w st wx) (d : PDif i1 i2 i3 a1 a2) (f : Fr (fun _ => False) wx wy) {v : Value} (ht : Y.sh (fun k => k < w.heap.size ∨ wx.heap.size ≤ k) wy v) : PA X Y Z tx ty zx zy i1 i2 i3 a1 a2 w (pupd st i2 v) wy := by
  have hl := h.later f
  refine ⟨hl.fr, fun u hu => ?_, fun u hu => ?_, fun u hu => ?_, fun u hu => ?_, fun u hu => ?_, fun u hu => ?_⟩
  · rw [pupd_ne _ _ _ _ d.d12] at hu; rw [poff_upd _ _ d.d2a d.d2b]; exact hl.c1 u hu
  · rw [pupd_at] at hu; cases hu; rw [poff_upd _ _ d.d2a d.d2b]; exact h.new ht
  · rw [pupd_ne _ _ _ _ d.d23.symm] at hu; rw [poff_upd _ _ d.d2a d.d2b]; exact hl.c3 u hu
  · rw [pupd_ne _ _ _ _ d.d2a.symm] at hu; exact hl.p1 u hu
  · rw [pupd_ne _ _ _ _ d.d2b.symm] at hu; exact hl.p2 u hu
  · rw [pupd_ne _ _ _ _ d.d2a.symm] at hu; rw [pupd_ne _ _ _ _ d.d2b.symm]; exact hl.ne u hu

theorem PA.call3 (h : PA X Y Z tx ty zx zy i1 i2 i3 a1 a2 w st wx) (d : PDif i1 i2 i3 a1 a2) (f : Fr (fun _ => False) wx wy) {v : Value} (ht : Z.sh (fun k => k < w.heap.size ∨ wx.heap.size ≤ k) wy v) : PA X Y Z tx ty zx zy i1 i2 i3 a1 a2 w (pupd st i3 v) wy := by
  have hl := h.later f
  refine ⟨hl.fr, fun u hu => ?_, fun u hu => ?_, fun u hu => ?_, fun u hu => ?_, fun u hu => ?_, fun u hu => ?_⟩
  · rw [pupd_ne _ _ _ _ d.d13] at hu; rw [poff_upd _ _ d.d3a d.d3b]; exact hl.c1 u hu
  · rw [pupd_ne _ _ _ _ d.d23] at hu; rw [poff_upd _ _ d.d3a d.d3b]; exact hl.c2 u hu
  · rw [pupd_at] at hu; cases hu; rw [poff_upd _ _ d.d3a d.d3b]; exact h.new ht
  · rw [pupd_ne _ _ _ _ d.d3a.symm] at hu; exact hl.p1 u hu
  · rw [pupd_ne _ _ _ _ d.d3b.symm] at hu; exact hl.p2 u hu
  · rw [pupd_ne _ _ _ _ d.d3a.symm] at hu; rw [pupd_ne _ _ _ _ d.d3b.symm]; exact hl.ne u hu

theorem poff_new (S : Seen) {v : Value} (i : Nat) (cs : Array Value) (t : TypeId) (h : S.sh (POff a1 a2 st) wx v) : S.sh (POff a1 a2 (pupd st i (pptr wx.heap.size))) (wx.alloc (.cells cs t)) v := by
  have h1 := S.fr ((Fr.refl (fun _ => False) wx).alloc (.cells cs t)) (fun _ _ h => h) (S.mono (S := fun k => POff a1 a2 st k ∧ k < wx.heap.size) (fun k hk h => ⟨h, hk⟩) h)
  refine S.mono (fun k _ hk => ⟨fun e => ?_, fun e => ?_⟩) h1
  · unfold pupd at e
    split at e
    · have := pptr_inj (Option.some.inj e); omega
    · exact hk.1.1 e
  · unfold pupd at e
    split at e
    · have := pptr_inj (Option.some.inj e); omega
    · exact hk.1.2 e

theorem PA.alloc1 (h : PA X Y Z tx ty zx zy i1 i2 i3 a1 a2 w st wx) (d : PDif i1 i2 i3 a1 a2) : PA X Y Z tx ty zx zy i1 i2 i3 a1 a2 w (pupd st a1 (pptr wx.heap.size)) (wx.alloc (.cells zx tx)) := by
  have hl := h.later ((Fr.refl (fun _ => False) wx).alloc (.cells zx tx))
  refine ⟨hl.fr, fun u hu => ?_, fun u hu => ?_, fun u hu => ?_, fun u hu => ?_, fun u hu => ?_, fun u hu => ?_⟩
  · rw [pupd_ne _ _ _ _ d.d1a] at hu; exact poff_new X a1 _ _ (h.c1 u hu)
  · rw [pupd_ne _ _ _ _ d.d2a] at hu; exact poff_new Y a1 _ _ (h.c2 u hu)
  · rw [pupd_ne _ _ _ _ d.d3a] at hu; exact poff_new Z a1 _ _ (h.c3 u hu)
  · rw [pupd_at] at hu; cases hu; exact ⟨_, rfl, h.fr.size, heap_alloc_new _ _⟩
  · rw [pupd_ne _ _ _ _ d.dab.symm] at hu; exact hl.p2 u hu
  · rw [pupd_at] at hu; cases hu
    rw [pupd_ne _ _ _ _ d.dab.symm]
    intro e
    obtain ⟨g, eg, _, hc⟩ := h.p2 _ e
    have := pptr_inj eg
    have := lt_of_block hc
    omega

theorem PA.alloc2 (h : PA X Y Z tx ty zx zy i1 i2 i3 a1 a2 w st wx) (d : PDif i1 i2 i3 a1 a2) : PA X Y Z tx ty zx zy i1 i2 i3 a1 a2 w (pupd st a2 (pptr wx.heap.size)) (wx.alloc (.cells zy ty)) := by
  have hl := h.later ((Fr.refl (fun _ => False) wx).alloc (.cells zy ty))
  refine ⟨hl.fr, fun u hu => ?_, fun u hu => ?_, fun u hu => ?_, fun u hu => ?_, fun u hu => ?_, fun u hu => ?_⟩
  · rw [pupd_ne _ _ _ _ d.d1b] at hu; exact poff_new X a2 _ _ (h.c1 u hu)
  · rw [pupd_ne _ _ _ _ d.d2b] at hu; exact poff_new Y a2 _ _ (h.c2 u hu)
  · rw [pupd_ne _ _ _ _ d.d3b] at hu; exact poff_new Z a2 _ _ (h.c3 u hu)
  · rw [pupd_ne _ _ _ _ d.dab] at hu; exact hl.p1 u hu
  · rw [pupd_at] at hu; cases hu; exact ⟨_, rfl, h.fr.size, heap_alloc_new _ _⟩
  · rw [pupd_ne _ _ _ _ d.dab] at hu
    rw [pupd_at]
    intro e
    cases e
    obtain ⟨g, eg, _, hc⟩ := h.p1 _ hu
    have := pptr_inj eg
    have := lt_of_block hc
    omega

theorem PA.store1 (h : PA X Y Z tx ty zx zy i1 i2 i3 a1 a2 w st wx) {v1 v2 u : Value} {g1 g2 : Nat} {cs : Array Value} (h1 : st i1 = some v1) (h2 : st i2 = some v2) (ha : st a1 = some (pptr g1)) (hb : st a2 = some (pptr g2)) (hs : s2 ≠ s1) (hs2 : st s2 = none)
    (n1 : a1 ≠ s1) (n2 : a2 ≠ s1) (n3 : i2 ≠ s1) (hv : v1 = .agg cs)
    (hy : wy.heap[g1]? = some (.cells cs tx (0, 0))) (f : Fr (fun k => k = g1) wx wy) : PS X Y Z tx ty zx zy i1 i2 i3 a1 a2 s1 s2 w (pupd st s1 u) wy := by
  unfold PS
  rw [pupd_at, pupd_ne _ _ _ _ hs, hs2]
  obtain ⟨g, e, hg1, hc1⟩ := h.p1 _ ha
  obtain rfl := pptr_inj e
  obtain ⟨g', e', hg2, hc2⟩ := h.p2 _ hb
  obtain rfl := pptr_inj e'
  have hne : g1 ≠ g2 := fun e => h.ne _ ha (by rw [hb, e])
  have key : ∀ (S : Seen) v, S.sh (POff a1 a2 st) wx v → S.sh (fun k => k ≠ g1 ∧ k ≠ g2) wy v := fun S v hv =>
    S.fr f (fun k hk e => hk.1 e) (S.mono (S := fun k => k ≠ g1 ∧ k ≠ g2) (fun k _ hk => ⟨fun e => hk.1 (by rw [e]; exact ha), fun e => hk.2 (by rw [e]; exact hb)⟩) hv)
  exact ⟨g1, g2, v2, by rw [pupd_ne _ _ _ _ n1]; exact ha, by rw [pupd_ne _ _ _ _ n2]; exact hb, by rw [pupd_ne _ _ _ _ n3]; exact h2, h.fr.trans f (fun i hi e => by omega), hne, hg1, hg2, ⟨cs, hy, hv ▸ key X _ (h.c1 _ h1)⟩, crow_kept hc2 f (fun e => hne e.symm), key Y _ (h.c2 _ h2)⟩

theorem PB.store2 (h : PB X Y tx ty zy i2 a1 a2 w st wx) {v2 u : Value} {g2 : Nat} {cs : Array Value} (h2 : st i2 = some v2) (hb : st a2 = some (pptr g2)) (n1 : a1 ≠ s2) (n2 : a2 ≠ s2) (n3 : i2 ≠ s2) (hv : v2 = .agg cs)
    (hy : wy.heap[g2]? = some (.cells cs ty (0, 0))) (f : Fr (fun k => k = g2) wx wy) : PS X Y Z tx ty zx zy i1 i2 i3 a1 a2 s1 s2 w (pupd st s2 u) wy := by
  obtain ⟨g1, g, v, ha', hb', h2', hf, hne, hg1, hg2, ⟨cs1, hc1, ht1⟩, hc2, ht2⟩ := h
  obtain rfl := pptr_inj (Option.some.inj (hb'.symm.trans hb))
  obtain rfl := Option.some.inj (h2'.symm.trans h2)
  have e : PS X Y Z tx ty zx zy i1 i2 i3 a1 a2 s1 s2 w (pupd st s2 u) wy = ∃ g1 g2 v2, pupd st s2 u a1 = some (pptr g1) ∧ pupd st s2 u a2 = some (pptr g2) ∧ pupd st s2 u i2 = some v2 ∧ PIn X Y tx ty w g1 g2 wy := by
    unfold PS
    rw [pupd_at]
    split <;> simp_all
  rw [e]
  exact ⟨g1, g, _, by rw [pupd_ne _ _ _ _ n1]; exact ha', by rw [pupd_ne _ _ _ _ n2]; exact hb', by rw [pupd_ne _ _ _ _ n3]; exact h2', hf.trans f (fun i hi e => by omega), hne, hg1, hg2, ⟨cs1, crow_kept hc1 f hne, X.fr f (fun k hk e => hk.2 e) ht1⟩, ⟨cs, hy, hv ▸ Y.fr f (fun k hk e => hk.2 e) ht2⟩⟩

end
end
end Go.Proofs.Ytdkndahldcdbgaa
