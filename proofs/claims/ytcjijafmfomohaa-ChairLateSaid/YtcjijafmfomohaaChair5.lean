/-
  A chair that is made and opened; its entry; Awake.
-/
import Derived.Test.YtcjijafmfomohaaChair4
namespace Go.Proofs.Ytcjijafmfomohaa
open Go.RowKit
set_option maxRecDepth 100000

theorem chres_ct {P : Program} {fn : Func} {p u : Tmp} {ty : TypeId} (h : fn.results = #[.cell p ty, .tmp u]) (tmps : Array Value) (w : World) (g : Nat) (t : TypeId) (cs : Array Value) (fr : Nat × Nat) (d : TypeDesc)
    (hp : tmps.getD p undef = .pointer (some ⟨g, 0, none⟩)) (hg : w.heap[g]? = some (.cells cs t fr))
    (hu : P.underlying ty = some d) (hd : (match d with | .struct _ | .array _ _ => true | _ => false) = true) (hi : (P.info? ty).map (·.size) = some cs.size) :
    (results fn tmps).run P w = .ok (.tuple #[.agg cs, tmps.getD u undef]) w := by
  have hp' : tmps[p]?.getD undef = .pointer (some ⟨g, 0, none⟩) := by simpa using hp
  have h1 := run_loadVar_row w g t ty cs fr d hg hu hd hi
  simp [results, h, hp', asAddr, h1, Result.andThen]

set_option maxHeartbeats 8000000 in
theorem chapart_any (x : En) (v u : Value) (w : World) (h : ES w x v u) (hl : x.l.length ≤ 4000) (hm : x.m.length ≤ 1000) :
    Calls Try.prog 24 #[x.val v u] w fun e w' => ∃ v' u', e = .returned (x.val v' u') ∧ ES w' x v' u' ∧ Fr (fun _ => False) w w' ∧ (∀ k, v'.ownBlock = some k → w.heap.size ≤ k) ∧ (∀ k, u'.ownBlock = some k → w.heap.size ≤ k) := by
  obtain ⟨h1, g1⟩ := h
  obtain ⟨b, d, hu, k1⟩ := g1.shape
  subst hu
  have H1 := Lib.hid h1
  have G1 := Lib.hid k1
  have HL := Lib.hid hl
  have HM := Lib.hid hm
  clear h1 g1 k1 hl hm
  have q0 := heap_alloc_new w (x.obj v (.slice b x.m.length d))
  have f0 : Fr (fun _ => False) w (w.alloc (x.obj v (.slice b x.m.length d))) := (Fr.refl _ _).alloc _
  have hz : (w.alloc (x.obj v (.slice b x.m.length d))).heap.size = w.heap.size + 1 := by simp
  have q1 := heap_alloc_new (w.alloc (x.obj v (.slice b x.m.length d))) (oEn 0 0 0 0 nilS nilS)
  have f1 : Fr (fun _ => False) (w.alloc (x.obj v (.slice b x.m.length d))) ((w.alloc (x.obj v (.slice b x.m.length d))).alloc (oEn 0 0 0 0 nilS nilS)) := (Fr.refl _ _).alloc _
  rw [hz] at q1
  have Q := Lib.hid (And.intro (crow_kept q0 f1 (fun h => h)) q1)
  have F := Lib.hid (f0.trans f1 (fun _ _ h => h))
  clear q0 q1 f0 f1 hz
  go_enter Try.func24, Try.ntmps24
  go_upto_region 1 with fail
  generalize (w.alloc (x.obj v (.slice b x.m.length d))).alloc (oEn 0 0 0 0 nilS nilS) = w0 at *
  obtain ⟨c00, c01, c02, c03, c04, c05⟩ := en_cells Q.out.1
  have hlt : w.heap.size + 1 < w0.heap.size := (Array.getElem?_eq_some_iff.1 Q.out.2).1
  go_wp2_with fail
  refine (clone_any v x.l w0 (H1.out.fr F.out (fun _ _ h => h)) (by have := HL.out; omega)).mono ?_
  rintro e w1 ⟨v', rfl, ho, f1, hge⟩
  have Q1 := Lib.hid (And.intro (crow_kept Q.out.1 f1 (fun h => h)) (crow_kept Q.out.2 f1 (fun h => h)))
  have F1 := Lib.hid (F.out.trans f1 (fun _ _ h => h))
  have HO := Lib.hid ho.sees
  have HG := Lib.hid hge
  have hs1 := f1.size
  clear f1 ho hge c00 c01 c02 c03 c04 c05
  obtain ⟨a', c', hv', hnn⟩ := HO.out.shape
  subst hv'
  clear hnn
  obtain ⟨c00, c01, c02, c03, c04, c05⟩ := en_cells Q1.out.1
  obtain ⟨z00, z01, z02, z03, z04, z05⟩ := vfree6 Q1.out.1
  go_upto_region 2 with fail
  have q2 : (w1.setCell ⟨w.heap.size, 4, none⟩ (.slice a' x.l.length c')).heap[w.heap.size]? = some (x.obj (.slice a' x.l.length c') (.slice b x.m.length d)) := by
    rw [heap_setCell_same w1 w.heap.size 4 _ _ _ Q1.out.1]; rfl
  have f2 : Fr (fun k => k = w.heap.size) w1 (w1.setCell ⟨w.heap.size, 4, none⟩ (.slice a' x.l.length c')) := (Fr.refl (fun k => k = w.heap.size) w1).setCell (p := ⟨w.heap.size, 4, none⟩) (fun _ => rfl) _
  generalize w1.setCell ⟨w.heap.size, 4, none⟩ (.slice a' x.l.length c') = w2 at *
  have Q2 := Lib.hid (And.intro q2 (crow_kept Q1.out.2 f2 (by omega)))
  have F2 := Lib.hid (F1.out.trans f2 (fun k hk e => by omega))
  have HO2 := Lib.hid (HO.out.keep f2 (.inr fun k hk e => by have := HG.out k hk; omega))
  have hs2 := f2.size
  clear q2 f2 Q1 c00 c01 c02 c03 c04 c05 z00 z01 z02 z03 z04 z05 F1 HO
  obtain ⟨c00, c01, c02, c03, c04, c05⟩ := en_cells Q2.out.1
  go_wp2_with fail
  refine (lclone_any x.m b d w2 (G1.out.fr F2.out) HM.out).mono ?_
  rintro e w3 ⟨u', rfl, ho, f3⟩
  obtain ⟨b', d', hu'⟩ := slice_of_own ho
  subst hu'
  have Q3 := Lib.hid (And.intro (crow_kept Q2.out.1 f3 (fun h => h)) (crow_kept Q2.out.2 f3 (fun h => h)))
  have F3 := Lib.hid (F2.out.trans f3 (fun _ _ h => h))
  have HO3 := Lib.hid (HO2.out.fr f3 (fun _ _ h => h))
  have HU := Lib.hid ho
  have hs3 := f3.size
  clear f3 ho Q2 F2 HO2 c00 c01 c02 c03 c04 c05
  obtain ⟨c00, c01, c02, c03, c04, c05⟩ := en_cells Q3.out.1
  obtain ⟨z00, z01, z02, z03, z04, z05⟩ := vfree6 Q3.out.1
  go_upto_region 3 with fail
  have q4 : (w3.setCell ⟨w.heap.size, 5, none⟩ (.slice b' x.m.length d')).heap[w.heap.size]? = some (x.obj (.slice a' x.l.length c') (.slice b' x.m.length d')) := by
    rw [heap_setCell_same w3 w.heap.size 5 _ _ _ Q3.out.1]; rfl
  have f4 : Fr (fun k => k = w.heap.size) w3 (w3.setCell ⟨w.heap.size, 5, none⟩ (.slice b' x.m.length d')) := (Fr.refl (fun k => k = w.heap.size) w3).setCell (p := ⟨w.heap.size, 5, none⟩) (fun _ => rfl) _
  generalize w3.setCell ⟨w.heap.size, 5, none⟩ (.slice b' x.m.length d') = w4 at *
  have Q4 := Lib.hid (And.intro q4 (crow_kept Q3.out.2 f4 (by omega)))
  have F4 := Lib.hid (F3.out.trans f4 (fun k hk e => by omega))
  have HO4 := Lib.hid (HO3.out.keep f4 (.inr fun k hk e => by have := HG.out k hk; omega))
  have HU4 := Lib.hid (HU.out.si.keep f4 (.inr fun k hk e => by have := oi_le HU.out k hk; omega))
  have hs4 := f4.size
  clear q4 f4 Q3 c00 c01 c02 c03 c04 c05 z00 z01 z02 z03 z04 z05 F3 HO3
  obtain ⟨c00, c01, c02, c03, c04, c05⟩ := en_cells Q4.out.1
  obtain ⟨z00, z01, z02, z03, z04, z05⟩ := vfree6 Q4.out.2
  obtain ⟨d00, d01, d02, d03, d04, d05⟩ := en_cells Q4.out.2
  go_wp2_with fail
  have hq := cst6 (y0 := .int .u8 x.k) (y1 := .int .u16 x.t) (y2 := .int .u16 x.n) (y3 := .int .i64 x.p) (y4 := .slice a' x.l.length c') (y5 := .slice b' x.m.length d') Q4.out.2
  have hf := cfr6 (.int .u8 x.k) (.int .u16 x.t) (.int .u16 x.n) (.int .i64 x.p) (.slice a' x.l.length c') (.slice b' x.m.length d') (b := w.heap.size + 1) F4.out (fun h => absurd h (by omega))
  have hf1 := cfr6 (.int .u8 x.k) (.int .u16 x.t) (.int .u16 x.n) (.int .i64 x.p) (.slice a' x.l.length c') (.slice b' x.m.length d') (b := w.heap.size + 1) (S := fun k => k = w.heap.size + 1) (Fr.refl _ w4) (fun _ => rfl)
  refine bodyPost_ret (results_cell_row rfl _ _ (w.heap.size + 1) 47 _ _ _ rfl hq Try.underlying47 rfl (by kernel_rfl)) rfl ?_
  exact ⟨_, _, rfl, ⟨HO4.out.keep hf1 (.inr fun k hk e => by have := HG.out k hk; omega), HU4.out.keep hf1 (.inr fun k hk e => by have := oi_le HU.out k hk; omega)⟩, hf, fun k hk => by have := HG.out k hk; omega, fun k hk => by have := oi_le HU.out k hk; omega⟩

/-- A chair that is new. -/
def ChN.new : ChN := ⟨0, 0, 0, En.zero, 0, 0, false, []⟩

theorem chnewS (B : Nat) (ms : List Int) (ma : Option Addr) (mc : Nat) (w : World) (hm : SI w (.slice ma ms.length mc) ms) (hb : ∀ k, (Value.slice ma ms.length mc).ownBlock = some k → k < B) (hB : B ≤ w.heap.size) (hf : ms.length ≤ 16) :
    Calls Try.prog 7 #[.agg #[.int .i64 0, .slice ma ms.length mc]] w fun e w' => ∃ g, e = .returned (.pointer (some ⟨g, 0, none⟩)) ∧ w.heap.size ≤ g ∧ Fr (fun _ => False) w w' ∧ ChS w' g B ms ma mc .new nilS := by
  refine (chnew_any ma ms.length mc w).mono ?_
  rintro e w' ⟨g, rfl, hg, f, hr⟩
  refine ⟨g, rfl, hg, f, ⟨nilS, nilS, hr, es_zero _, .inl rfl, .inl rfl⟩, ⟨by decide, by decide⟩, World.ownsRow_nil _ _ _ _, Nat.le_trans hB f.size, by decide, by decide, List.nodup_nil, (fun n h => by cases h), hm.fr f, fun k hk => ⟨hb k hk, ?_⟩, hf⟩
  have := hb k hk
  omega

theorem chopenS (b B : Nat) (ms : List Int) (ma : Option Addr) (mc : Nat) (st : ChN) (hv : Value) (r m : Int) (y : En) (v' u' : Value) (w : World) (h : ChS w b B ms ma mc st hv) (hy : ES w y v' u') (ha : AwayS (fun k => k = b) y v' u') (hsm : EnSmall y) :
    Calls Try.prog 11 #[.pointer (some ⟨b, 0, none⟩), ball r m, y.val v' u'] w fun e w' =>
      e = .returned (.tuple #[]) ∧ Fr (fun k => k = b) w w' ∧ ChS w' b B ms ma mc (.open r m y) nilS := by
  obtain ⟨v, u, h1, h2, h3⟩ := h.row
  refine (chopen_any b ma ms.length mc st v u hv r m y v' u' w h1 hy).mono ?_
  rintro e w' ⟨rfl, f, hr⟩
  refine ⟨rfl, f, ⟨v', u', hr, hy.keepS ha f, ha.mono (fun k hk => ?_)⟩, hsm, World.ownsRow_nil _ _ _ _, Nat.le_trans h.base f.size, (by show (0 : Int) ≤ 1; decide), (by show (1 : Int) ≤ 3; decide), List.nodup_nil, (fun n h => by cases h), h.view.keep f (.inr (fun k hk e => (h.vb k hk).2 e)), h.vb, h.few⟩
  rcases hk with hk | hk
  · exact hk
  · cases hk

/-- The lists of an entry are new. -/
def FreshE (w : World) (v u : Value) : Prop := (∀ k, v.ownBlock = some k → w.heap.size ≤ k) ∧ (∀ k, u.ownBlock = some k → w.heap.size ≤ k)

set_option maxHeartbeats 8000000 in
theorem chentry_any (b B : Nat) (ms : List Int) (ma : Option Addr) (mc : Nat) (st : ChN) (hv : Value) (w : World) (h : ChS w b B ms ma mc st hv) (hp : st.ph = 2 ∨ st.ph = 3) :
    Calls Try.prog 15 #[.pointer (some ⟨b, 0, none⟩)] w fun e w' => ∃ v' u', e = .returned (.tuple #[st.x.val v' u', .bool true]) ∧ ES w' st.x v' u' ∧ Fr (fun _ => False) w w' ∧ FreshE w v' u' := by
  obtain ⟨v, u, h1, h2, h3⟩ := h.row
  have hlt := h.lt
  have hsm := h.small
  have f0 : Fr (fun _ => False) w (w.alloc (oEn 0 0 0 0 nilS nilS)) := (Fr.refl _ _).alloc _
  have Q0 := Lib.hid (And.intro (crow_kept h1 f0 (fun h => h)) (heap_alloc_new w (oEn 0 0 0 0 nilS nilS)))
  have F0 := Lib.hid f0
  have X0 := Lib.hid (h2.fr f0)
  have HSM := Lib.hid hsm
  clear h1 h2 h3 h f0 hsm
  go_enter Try.func15, Try.ntmps15
  go_upto_region 1 with fail
  generalize w.alloc (oEn 0 0 0 0 nilS nilS) = w0 at *
  generalize hgb : w.heap.size = gb at *
  have Hw := Lib.hid hgb
  clear hgb
  rcases hp with hp | hp
  · have hq1 : (st.ph == 2) = true := by simp [hp]
    have hq2 : (st.ph != 2) = false := by simp [hp]
    have hdn : decide (st.ph = 2) = true := by simp [hp]
    clear hp
    go_wp2_with fail
    refine (chphase_any b _ st v u hv _ Q0.out.1).mono ?_
    rintro e1 wa ⟨rfl, rfl⟩
    obtain ⟨c0, c1, c2, c3, c4, c5, c6, c7, c8, c9, c10, c11, c12, c13, c14⟩ := ch_cells Q0.out.1
    clear c0 c1 c2 c3 c4 c11 c12 c13 c14
    go_wp2_with fail
    refine (chapart_any st.x v u _ X0.out HSM.out.1 HSM.out.2).mono ?_
    rintro e1 w2 ⟨v', u', rfl, hes, f2, hg1, hg2⟩
    obtain ⟨a1, k1, hv1, hn1⟩ := hes.1.shape
    obtain ⟨a2, k2, hv2, hn2⟩ := hes.2.shape
    subst hv1 hv2
    have F2 := Lib.hid (F0.out.trans f2 (fun _ _ h => h))
    have Q2 := Lib.hid (crow_kept Q0.out.2 f2 (fun h => h))
    have X2 := Lib.hid (And.intro hes (And.intro hg1 hg2))
    have HS0 := Lib.hid F0.out.size
    clear f2 hes hg1 hg2 hn1 hn2 c5 c6 c7 c8 c9 c10
    obtain ⟨z00, z01, z02, z03, z04, z05⟩ := vfree6 Q2.out
    obtain ⟨d00, d01, d02, d03, d04, d05⟩ := en_cells Q2.out
    have hlt2 := lt_of Q2.out
    go_wp2_with fail
    have hq := cst6 (y0 := .int .u8 st.x.k) (y1 := .int .u16 st.x.t) (y2 := .int .u16 st.x.n) (y3 := .int .i64 st.x.p) (y4 := .slice a1 st.x.l.length k1) (y5 := .slice a2 st.x.m.length k2) Q2.out
    have hf := cfr6 (.int .u8 st.x.k) (.int .u16 st.x.t) (.int .u16 st.x.n) (.int .i64 st.x.p) (.slice a1 st.x.l.length k1) (.slice a2 st.x.m.length k2) (b := gb) (S := fun k => k = gb) (Fr.refl _ w2) (fun _ => rfl)
    refine bodyPost_ret (chres_ct rfl _ _ gb 47 _ _ _ rfl hq Try.underlying47 rfl (by kernel_rfl)) rfl ?_
    refine ⟨_, _, rfl, X2.out.1.keepS ⟨.inr (fun k hk e => ?_), .inr (fun k hk e => ?_)⟩ hf, F2.out.trans hf (fun k hk e => ?_), fun k hk => ?_, fun k hk => ?_⟩
    · have := X2.out.2.1 k hk; have := lt_of Q0.out.2; omega
    · have := X2.out.2.2 k hk; have := lt_of Q0.out.2; omega
    · have := Hw.out; omega
    · have := X2.out.2.1 k hk; have := HS0.out; omega
    · have := X2.out.2.2 k hk; have := HS0.out; omega

  · have hq1 : (st.ph == 2) = false := by simp [hp]
    have hq2 : (st.ph != 2) = true := by simp [hp]
    have hq3 : (st.ph == 3) = true := by simp [hp]
    have hq4 : (st.ph != 3) = false := by simp [hp]
    have hdn : decide (st.ph = 2) = false := by simp [hp]
    have hdn3 : decide (st.ph = 3) = true := by simp [hp]
    clear hp
    go_wp2_with fail
    refine (chphase_any b _ st v u hv _ Q0.out.1).mono ?_
    rintro e1 wa ⟨rfl, rfl⟩
    go_wp2_with fail
    refine (chphase_any b _ st v u hv _ Q0.out.1).mono ?_
    rintro e1 wa ⟨rfl, rfl⟩
    obtain ⟨c0, c1, c2, c3, c4, c5, c6, c7, c8, c9, c10, c11, c12, c13, c14⟩ := ch_cells Q0.out.1
    clear c0 c1 c2 c3 c4 c11 c12 c13 c14
    go_wp2_with fail
    refine (chapart_any st.x v u _ X0.out HSM.out.1 HSM.out.2).mono ?_
    rintro e1 w2 ⟨v', u', rfl, hes, f2, hg1, hg2⟩
    obtain ⟨a1, k1, hv1, hn1⟩ := hes.1.shape
    obtain ⟨a2, k2, hv2, hn2⟩ := hes.2.shape
    subst hv1 hv2
    have F2 := Lib.hid (F0.out.trans f2 (fun _ _ h => h))
    have Q2 := Lib.hid (crow_kept Q0.out.2 f2 (fun h => h))
    have X2 := Lib.hid (And.intro hes (And.intro hg1 hg2))
    have HS0 := Lib.hid F0.out.size
    clear f2 hes hg1 hg2 hn1 hn2 c5 c6 c7 c8 c9 c10
    obtain ⟨z00, z01, z02, z03, z04, z05⟩ := vfree6 Q2.out
    obtain ⟨d00, d01, d02, d03, d04, d05⟩ := en_cells Q2.out
    have hlt2 := lt_of Q2.out
    go_wp2_with fail
    have hq := cst6 (y0 := .int .u8 st.x.k) (y1 := .int .u16 st.x.t) (y2 := .int .u16 st.x.n) (y3 := .int .i64 st.x.p) (y4 := .slice a1 st.x.l.length k1) (y5 := .slice a2 st.x.m.length k2) Q2.out
    have hf := cfr6 (.int .u8 st.x.k) (.int .u16 st.x.t) (.int .u16 st.x.n) (.int .i64 st.x.p) (.slice a1 st.x.l.length k1) (.slice a2 st.x.m.length k2) (b := gb) (S := fun k => k = gb) (Fr.refl _ w2) (fun _ => rfl)
    refine bodyPost_ret (chres_ct rfl _ _ gb 47 _ _ _ rfl hq Try.underlying47 rfl (by kernel_rfl)) rfl ?_
    refine ⟨_, _, rfl, X2.out.1.keepS ⟨.inr (fun k hk e => ?_), .inr (fun k hk e => ?_)⟩ hf, F2.out.trans hf (fun k hk e => ?_), fun k hk => ?_, fun k hk => ?_⟩
    · have := X2.out.2.1 k hk; have := lt_of Q0.out.2; omega
    · have := X2.out.2.2 k hk; have := lt_of Q0.out.2; omega
    · have := Hw.out; omega
    · have := X2.out.2.1 k hk; have := HS0.out; omega
    · have := X2.out.2.2 k hk; have := HS0.out; omega

set_option maxHeartbeats 8000000 in
theorem chawake_any (w : World) : Calls Try.prog 5 #[] w fun e w' => e = .returned (.bool true) ∧ Fr (fun _ => False) w w' := by
  go_enter Try.func5, Try.ntmps5
  have h3 := oi_one w 3
  have f0 : Fr (fun _ => False) w (w.alloc (.cells #[.int .i64 3] 3)) := (Fr.refl _ _).alloc _
  go_wp2_with fail
  have hsz : w.heap.size < (w.alloc (.cells #[.int .i64 3] 3)).heap.size := by simp
  generalize w.alloc (.cells #[.int .i64 3] 3) = w0 at *
  have S0 := Lib.hid h3.si
  have F0 := Lib.hid f0
  clear h3 f0
  refine (chnewS (w.heap.size + 1) [3] (some ⟨w.heap.size, 0, none⟩) 1 w0 S0.out (fun k hk => by simp [Value.ownBlock] at hk; omega) hsz (by decide)).mono ?_
  rintro e1 w1 ⟨g, rfl, hg, f1, hc⟩
  have F1 := Lib.hid (F0.out.trans f1 (fun _ _ h => h))
  have C1 := Lib.hid hc
  have HG := Lib.hid (show w.heap.size ≤ g by have := F0.out.size; omega)
  clear f1 hc hg S0 F0
  go_wp2_with fail
  refine (chopenS g (w.heap.size + 1) [3] (some ⟨w.heap.size, 0, none⟩) 1 .new nilS 1 3 .zero nilS nilS w1 C1.out (es_zero _) ⟨.inl rfl, .inl rfl⟩ ⟨by decide, by decide⟩).mono ?_
  rintro e1 w2 ⟨rfl, f2, hc⟩
  have F2 := Lib.hid (F1.out.trans f2 (fun k hk e => by have := HG.out; omega))
  have C2 := Lib.hid hc
  clear f2 hc F1 C1
  go_wp2_with fail
  refine (chpromised_yes g (w.heap.size + 1) [3] (some ⟨w.heap.size, 0, none⟩) 1 _ nilS 3 1 3 0 0 .zero nilS nilS false w2 C2.out (es_zero _) ⟨.inl rfl, .inl rfl⟩ ⟨by decide, by decide⟩ (by decide)).mono ?_
  rintro e1 w3 ⟨rfl, f3, hv', hc, hn⟩
  have F3 := Lib.hid (F2.out.trans f3 (fun k hk e => by
    rcases e with e | e
    · have := HG.out; omega
    · cases e))
  have C3 := Lib.hid hc
  clear f3 hc F2 C2
  have he : ((ChN.open 1 3 En.zero).report 0 0 En.zero false).enough [3] 3 = true := by decide
  rw [he]
  clear he
  go_wp2_with fail
  obtain ⟨v, u, h1, _⟩ := C3.out.row
  refine (chphase_any g _ _ v u hv' _ h1).mono ?_
  rintro e1 wa ⟨rfl, rfl⟩
  have hph : (((ChN.open 1 3 En.zero).report 0 0 En.zero false).hear [3] 3).ph = 2 := by decide
  rw [hph]
  clear hph h1
  go_wp2_with fail
  go_ret
  exact ⟨rfl, F3.out⟩

end Go.Proofs.Ytcjijafmfomohaa
