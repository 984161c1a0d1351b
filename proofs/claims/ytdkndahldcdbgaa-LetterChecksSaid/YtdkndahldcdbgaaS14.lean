/-
  LetSame, part 14 of what it rests on: LetSameLaw.
-/
import Derived.Test.YtdkndahldcdbgaaS13
set_option linter.unusedVariables false
set_option linter.unusedSimpArgs false
set_option maxHeartbeats 64000000
namespace Go.Proofs.Ytdkndahldcdbgaa
open Go.RowKit
open Go.Lib (hid)
section
set_option maxRecDepth 100000

/-- A letter that is shown, in memory of R. -/
structure LsIn (R : Nat → Prop) (x : Lt) (s : Ls) : Prop where
  ea : x.e.l = [] ∨ ∀ k, s.ea.ownBlock = some k → R k
  em : x.e.m = [] ∨ ∀ k, s.em.ownBlock = some k → R k
  va : x.vm = [] ∨ ∀ k, s.va.ownBlock = some k → R k
  ca : x.cl = [] ∨ ∀ k, s.ca.ownBlock = some k → R k
  aa : x.al = [] ∨ ∀ k, s.aa.ownBlock = some k → R k

theorem lsin_lt {w : World} {x : Lt} {s : Ls} (h : LS w x s) {R S : Nat → Prop} (hRS : ∀ k, k < w.heap.size → R k → S k) (hi : LsIn R x s) : LsIn S x s := by
  have k8 : ∀ (u : Value) (l : List UInt8), Sees w u l → (l = [] ∨ ∀ k, u.ownBlock = some k → R k) → (l = [] ∨ ∀ k, u.ownBlock = some k → S k) := fun u l hs h => by
    by_cases hl : l = []
    · exact .inl hl
    · exact .inr fun k hk => hRS k (sees_old hs hl k hk) (h.resolve_left hl k hk)
  have kI : ∀ (u : Value) (l : List Int), SI w u l → (l = [] ∨ ∀ k, u.ownBlock = some k → R k) → (l = [] ∨ ∀ k, u.ownBlock = some k → S k) := fun u l hs h => by
    by_cases hl : l = []
    · exact .inl hl
    · obtain ⟨a, c, rfl, hc⟩ := hs.shape
      exact .inr fun k hk => hRS k (sic_old hc hl k hk) (h.resolve_left hl k hk)
  exact ⟨k8 _ _ h.e.1 hi.ea, kI _ _ h.e.2 hi.em, kI _ _ h.v hi.va, k8 _ _ h.c hi.ca, k8 _ _ h.a hi.aa⟩

theorem LS.inR {w w' : World} {x : Lt} {s : Ls} (h : LS w x s) {R S : Nat → Prop} (f : Fr S w w') (hRS : ∀ k, R k → ¬ S k) (hi : LsIn R x s) : LS w' x s :=
  ⟨⟨h.e.1.keep f (hi.ea.imp id (fun h k hk => hRS k (h k hk))), h.e.2.keep f (hi.em.imp id (fun h k hk => hRS k (h k hk)))⟩, h.v.keep f (hi.va.imp id (fun h k hk => hRS k (h k hk))), h.c.keep f (hi.ca.imp id (fun h k hk => hRS k (h k hk))), h.a.keep f (hi.aa.imp id (fun h k hk => hRS k (h k hk)))⟩

def seenL (x : Lt) : Seen where
  sh R w v := ∃ s, v = .agg (x.cs s) ∧ LS w x s ∧ LsIn R x s
  fr := by
    rintro R S w w' v f hRS ⟨s, h1, h2, h3⟩
    exact ⟨s, h1, h2.inR f hRS h3, h3⟩
  mono := by
    rintro R S w v hRS ⟨s, h1, h2, h3⟩
    exact ⟨s, h1, h2, lsin_lt h2 hRS h3⟩

theorem seen_new {x : Lt} {s : Ls} {wa : World} {n m : Nat} (h : LS wa x s) (hn : s.new m) : (seenL x).sh (fun k => k < n ∨ m ≤ k) wa (.agg (x.cs s)) :=
  ⟨s, rfl, h, ⟨.inr fun k hk => .inr (hn.ea k hk), .inr fun k hk => .inr (hn.em k hk), .inr fun k hk => .inr (hn.va k hk), .inr fun k hk => .inr (hn.ca k hk), .inr fun k hk => .inr (hn.aa k hk)⟩⟩

theorem S17S.one {w : World} {y : S17} {ve vc va : Value} (h : S17S w y ve vc va) : (y.cs ve vc va).all (·.oneCell') = true := by
  have h1 := h.e.1.one
  have h2 := h.c.1.one
  have h3 := h.a.1.one
  unfold S17.cs
  simp only [List.all_toArray, List.all_cons, List.all_nil, h1, h2, h3, Bool.and_true]
  rfl

theorem ltB_inj {x y : Lt} (hx : LtOk x) (hy : LtOk y) (ex : x.only = x) (ey : y.only = y) (h : ltB x = ltB y) : x = y := by
  have h1 := rd_of x hx ex []
  have h2 := rd_of y hy ey []
  rw [h, h2] at h1
  exact (congrArg Prod.fst h1).symm

theorem same_bytes {x y : Lt} (hx : LtOk x) (hy : LtOk y) (ex : x.only = x) (ey : y.only = y) : (((⟨(ltB x).toArray⟩ : ByteArray).toList == (⟨(ltB y).toArray⟩ : ByteArray).toList) == x.same y) = true := by
  rw [ctxt_beq]
  by_cases h : x = y
  · subst h
    rw [(Lt.same_iff _ _).2 rfl]
    simp
  · have h1 : x.same y = false := by
      cases hs : x.same y with
      | false => rfl
      | true => exact absurd ((Lt.same_iff _ _).1 hs) h
    rw [h1]
    have h2 : ¬ ltB x = ltB y := fun e => h (ltB_inj hx hy ex ey e)
    simp [h2]

/-- What lies in the second Small's block. -/
def SmT (w : World) (g : Nat) (y : S17) (wx : World) : Prop := ∃ ve vc va, wx.heap[g]? = some (oS17 y ve vc va) ∧ S17S w y ve vc va ∧ y.ok ∧ y.light

theorem wanted_yes {o : Oper} {y : Nat → Option Bool} {A B : Prop} (hg : Region.wanted o y = true) (h : A) : if Region.wanted o y = true then A else B := by
  rw [if_pos hg]; exact h

theorem s17_st4 {w : World} {g : Nat} {y : S17} {ve vc va : Value} {T : TypeId} (h : w.heap[g]? = some (.cells (y.cs ve vc va) T (0, 0))) (v : Int) : (w.setCell ⟨g, 4, none⟩ (.int .u32 v)).heap[g]? = some (.cells (S17.cs { y with r := v } ve vc va) T (0, 0)) := by
  rw [heap_setCell_same w g 4 _ T _ h]; rfl
theorem s17_st22 {w : World} {g : Nat} {y : S17} {ve vc va : Value} {T : TypeId} (h : w.heap[g]? = some (.cells (y.cs ve vc va) T (0, 0))) (v : Int) : (w.setCell ⟨g, 22, none⟩ (.int .u16 v)).heap[g]? = some (.cells (S17.cs { y with nm := v } ve vc va) T (0, 0)) := by
  rw [heap_setCell_same w g 22 _ T _ h]; rfl

theorem same_all {W : World} (y1 : S17) (v1 : Value) (h1 : S17V W y1 v1) (y2 : S17) (v2 : Value) (h2 : S17V W y2 v2) (what : Int) (hw0 : 0 ≤ what) (hw1 : what ≤ 255) :
    Calls Try.prog 6 #[v1, v2, .int .u8 what] W fun e w' => e = .returned (.bool true) ∧ Fr (fun _ => False) W w' := by
  obtain ⟨ve, vc, va, rfl, hs1, ok1⟩ := h1
  obtain ⟨ve2, vc2, va2, rfl, hs2, ok2⟩ := h2
  have q0 := heap_alloc_new W (oS17 y1 ve vc va)
  have q1 := new_two W (oS17 y1 ve vc va) (oS17 y2 ve2 vc2 va2)
  have f1 : Fr (fun _ => False) (W.alloc (oS17 y1 ve vc va)) ((W.alloc (oS17 y1 ve vc va)).alloc (oS17 y2 ve2 vc2 va2)) := (Fr.refl _ _).alloc _
  have f2 := ((Fr.refl (fun _ => False) W).alloc (oS17 y1 ve vc va)).trans f1 (fun _ _ h => h)
  have Q := Lib.hid (And.intro (crow_kept q0 f1 (fun h => h)) q1)
  have F := Lib.hid f2
  have HS := Lib.hid (And.intro hs1 hs2)
  have OK := Lib.hid (And.intro ok1 ok2)
  clear q0 q1 f1 f2 hs1 hs2 ok1 ok2
  go_enter Try.func6, Try.ntmps6
  go_upto_region 1 with fail
  generalize (W.alloc (oS17 y1 ve vc va)).alloc (oS17 y2 ve2 vc2 va2) = w0 at *
  obtain ⟨gt, hgt⟩ : ∃ g, g = W.heap.size + 1 := ⟨_, rfl⟩
  rw [← hgt] at Q ⊢
  obtain ⟨gs, hgs⟩ : ∃ g, g = W.heap.size := ⟨_, rfl⟩
  rw [← hgs] at Q ⊢
  have HG : Hid (gs = W.heap.size ∧ gt = W.heap.size + 1) := Lib.hid ⟨hgs, hgt⟩
  clear hgs hgt
  go_wp2_with fail
  refine (lawake_any w0).mono ?_
  rintro e w1 ⟨rfl, f1⟩
  have Q1 := Lib.hid (And.intro (crow_kept Q.out.1 f1 (fun h => h)) (crow_kept Q.out.2 f1 (fun h => h)))
  have F1 := Lib.hid (F.out.trans f1 (fun _ _ h => h))
  clear f1 F Q
  dsimp only
  go_wp2_with (refine load_lt rfl 32 (.tmp 3) rfl gs (y1.cs ve vc va) 32 (0, 0) rfl Q1.out.1 _ Try.underlying32 rfl (by kernel_rfl) ?_)
  refine (light_any y1 ve vc va w1 (HS.out.1.fr F1.out)).mono ?_
  rintro e w2 ⟨rfl, f2⟩
  have Q2 := Lib.hid (And.intro (crow_kept Q1.out.1 f2 (fun h => h)) (crow_kept Q1.out.2 f2 (fun h => h)))
  have F2 := Lib.hid (F1.out.trans f2 (fun _ _ h => h))
  clear f2 F1 Q1
  by_cases l1 : y1.light
  case neg =>
    have hL : (decide (y1.e.c.l.length ≤ 100) && (decide (y1.c.l.length ≤ 100) && decide (y1.a.l.length ≤ 100))) = false := by
      unfold S17.light at l1
      simp only [Bool.and_eq_false_iff, decide_eq_false_iff_not]
      omega
    rw [hL]
    clear l1 hL
    dsimp only
    go_wp2_with fail
    go_ret
    exact ⟨rfl, F2.out⟩
  have hL : (decide (y1.e.c.l.length ≤ 100) && (decide (y1.c.l.length ≤ 100) && decide (y1.a.l.length ≤ 100))) = true := by
    obtain ⟨a, b, c⟩ := l1
    simp [a, b, c]
  rw [hL]
  have L1 := Lib.hid l1
  clear l1 hL
  dsimp only
  go_wp2_with (refine load_ltg rfl 32 (.tmp 4) rfl gt (y2.cs ve2 vc2 va2) 32 (0, 0) rfl Q2.out.2 _ Try.underlying32 rfl (by kernel_rfl) ?_)
  refine (light_any y2 ve2 vc2 va2 w2 (HS.out.2.fr F2.out)).mono ?_
  rintro e w3 ⟨rfl, f3⟩
  have Q3 := Lib.hid (And.intro (crow_kept Q2.out.1 f3 (fun h => h)) (crow_kept Q2.out.2 f3 (fun h => h)))
  have F3 := Lib.hid (F2.out.trans f3 (fun _ _ h => h))
  clear f3 F2 Q2
  by_cases l2 : y2.light
  case neg =>
    have hL : (decide (y2.e.c.l.length ≤ 100) && (decide (y2.c.l.length ≤ 100) && decide (y2.a.l.length ≤ 100))) = false := by
      unfold S17.light at l2
      simp only [Bool.and_eq_false_iff, decide_eq_false_iff_not]
      omega
    rw [hL]
    clear l2 hL
    dsimp only
    go_wp2_with fail
    go_ret
    exact ⟨rfl, F3.out⟩
  have hL : (decide (y2.e.c.l.length ≤ 100) && (decide (y2.c.l.length ≤ 100) && decide (y2.a.l.length ≤ 100))) = true := by
    obtain ⟨a, b, c⟩ := l2
    simp [a, b, c]
  rw [hL]
  have L2 := Lib.hid l2
  clear l2 hL
  dsimp only
  go_upto_if 25 with fail
  generalize (what % 2 == 0) = bb at *
  generalize what % 2 = z2 at *
  go_cut [42] from 26 to 42 (fun u wx => ∃ y ve' vc' va', Hid (wx.heap[gs]? = some (oS17 y1 ve vc va) ∧ wx.heap[gt]? = some (oS17 y ve' vc' va') ∧ S17S W y ve' vc' va' ∧ y.ok ∧ y.light ∧ Fr (fun _ => False) W wx))
  case first =>
    cases bb with
    | true =>
      go_upto_region 7 with (first
        | refine load_lt rfl 32 (.tmp 3) rfl gs (y1.cs ve vc va) 32 (0, 0) rfl Q3.out.1 _ Try.underlying32 rfl (by kernel_rfl) ?_
        | refine store_lt rfl 32 (.tmp 4) (.tmp 26) rfl gt (y1.cs ve vc va) rfl rfl 32 _ Q3.out.2 (by kernel_rfl) rfl HS.out.1.one ?_)
      have hq := setRow_heap _ _ _ (y1.cs ve vc va) _ _ Q3.out.2
      have hfr := Fr.letRow (S := fun k => k = gt) (Fr.refl _ w3) (g := gt) (fun _ => rfl) (y1.cs ve vc va)
      generalize w3.setRow gt (y1.cs ve vc va) = w4 at *
      obtain ⟨⟨-, -, -, -, c4, -, -, -, -⟩, -⟩ := s17_cells hq
      have hfz := lt_free hq
      have H4 := Lib.hid (And.intro hq hfr)
      clear hq hfr
      go_upto_region 8 with fail
      obtain ⟨R, hR⟩ : ∃ R, R = (y1.r + what / 2 % 2) % 4294967296 := ⟨_, rfl⟩
      rw [← hR]
      have HR : Hid (0 ≤ R ∧ R ≤ 4294967295) := Lib.hid (by rw [hR]; omega)
      have hq := s17_st4 H4.out.1 R
      have hfr := H4.out.2.trans ((Fr.refl (fun k => k = gt) w4).setCell (p := ⟨gt, 4, none⟩) (fun _ => rfl) (.int .u32 R)) (fun _ _ h => h)
      generalize w4.setCell ⟨gt, 4, none⟩ (.int .u32 R) = w5 at *
      clear hR c4 hfz H4
      obtain ⟨-, -, -, -, -, -, c22, -⟩ := s17_cells hq
      have hfz := lt_free hq
      have H5 := Lib.hid (And.intro hq hfr)
      clear hq hfr
      go_wp2_with fail
      go_meet
      case rel =>
        have hq := s17_st22 H5.out.1 (IntKind.u16.wrap (y1.nm + what / 4 % 2))
        have hfr := H5.out.2.trans ((Fr.refl (fun k => k = gt) w5).setCell (p := ⟨gt, 22, none⟩) (fun _ => rfl) (.int .u16 (IntKind.u16.wrap (y1.nm + what / 4 % 2)))) (fun _ _ h => h)
        have ok := OK.out.1
        refine ⟨_, ve, vc, va, Lib.hid ⟨crow_kept Q3.out.1 hfr (by have := HG.out; omega), hq, ⟨HS.out.1.e, HS.out.1.c, HS.out.1.a⟩, ⟨ok.k, ok.f, ok.t, ok.p, HR.out, ok.bf, ok.nd, ok.ls, ok.e, ok.c, ok.vw, ok.mb, ok.tr, ?_, ok.a⟩, L1.out, F3.out.trans hfr (fun i hi e => by have := HG.out; omega)⟩⟩
        show 0 ≤ IntKind.u16.wrap (y1.nm + what / 4 % 2) ∧ IntKind.u16.wrap (y1.nm + what / 4 % 2) ≤ 65535
        rw [IntKind.wrap_u16]
        omega
    | false =>
      go_wp2_with fail
      go_meet
      case rel => exact ⟨y2, ve2, vc2, va2, Lib.hid ⟨Q3.out.1, Q3.out.2, HS.out.2, OK.out.2, L2.out, F3.out⟩⟩
  case rest =>
    obtain ⟨y, ve', vc', va', HX⟩ := hcut
    have QS : Hid (wc.heap[gs]? = some (oS17 y1 ve vc va)) := Lib.hid HX.out.1
    have QT : Hid (wc.heap[gt]? = some (oS17 y ve' vc' va')) := Lib.hid HX.out.2.1
    have OKS := Lib.hid (And.intro (And.intro OK.out.1 L1.out) (And.intro HX.out.2.2.2.1 HX.out.2.2.2.2.1))
    have FC := Lib.hid HX.out.2.2.2.2.2
    have SS := Lib.hid (And.intro (HS.out.1.fr FC.out) (HX.out.2.2.1.fr FC.out))
    clear HX Q3 F3 HS L2
    obtain ⟨A, hA⟩ : ∃ A, A = y1.all.only := ⟨_, rfl⟩
    obtain ⟨B, hB⟩ : ∃ B, B = y.all.only := ⟨_, rfl⟩
    have HA : Hid (LtOk A ∧ LtT A ∧ A.only = A) := Lib.hid (by rw [hA]; have ty := all_ty OKS.out.1.1 OKS.out.1.2; exact ⟨only_ok ty.t (all_ok OKS.out.1.1 OKS.out.1.2), ⟨only_lens ty.l, only_ty ty.t⟩, only_only _⟩)
    have HB : Hid (LtOk B ∧ LtT B ∧ B.only = B) := Lib.hid (by rw [hB]; have ty := all_ty OKS.out.2.1 OKS.out.2.2; exact ⟨only_ok ty.t (all_ok OKS.out.2.1 OKS.out.2.2), ⟨only_lens ty.l, only_ty ty.t⟩, only_only _⟩)
    have SLA : ∀ W', S17S W' y1 ve vc va → Calls Try.prog 9 #[.agg (y1.cs ve vc va)] W' fun e w' => ∃ s', e = .returned (.agg (A.cs s')) ∧ LS w' A s' ∧ Fr (fun _ => False) W' w' ∧ s'.new W'.heap.size := fun W' h => by rw [hA]; exact sletter_any y1 ve vc va W' OKS.out.1.1 OKS.out.1.2 h
    have SLB : ∀ W', S17S W' y ve' vc' va' → Calls Try.prog 9 #[.agg (y.cs ve' vc' va')] W' fun e w' => ∃ s', e = .returned (.agg (B.cs s')) ∧ LS w' B s' ∧ Fr (fun _ => False) W' w' ∧ s'.new W'.heap.size := fun W' h => by rw [hB]; exact sletter_any y ve' vc' va' W' OKS.out.2.1 OKS.out.2.2 h
    have HSL := Lib.hid (And.intro SLA SLB)
    clear hA hB SLA SLB
    go_upto_region 9 with fail
    have hdif9 : PDif 1 3 99 4 5 := ⟨by decide, by decide, by decide, by decide, by decide, by decide, by decide, by decide, by decide, by decide⟩
    refine wp_region_links (by kernel_rfl) [some 43, some 44, some 45, some 46, some 7, some 8, none, none] rfl (by decide) (by intro d hd; simp at hd ⊢; omega)
      (fun st wx => (PS (seenL A) (seenL B) (seenL A) 51 51 (Lt.zero.cs Ls.nil) (Lt.zero.cs Ls.nil) 1 3 99 4 5 6 7 wc) st wx)
      [.free (.agg (y1.cs ve vc va)), .link none, .free (.agg (y.cs ve' vc' va')), .link none, .link none, .link none, .link none, .link none]
      (by kernel_rfl) ?h09 ?step9 ?fin9
    case h09 => exact PA.ps ⟨(Fr.refl _ _).drew, fun v h => (by cases h), fun v h => (by cases h), fun v h => (by cases h), fun v h => (by cases h), fun v h => (by cases h), fun v h => (by cases h)⟩ rfl rfl
    case step9 =>
      intro vals
      simp only [frOfU, fillU, List.setIfInBounds_toArray, List.set_cons_succ, List.set_cons_zero]
      repeat' (first | exact AllOps.nil | refine AllOps.cons ?_ ?_)
      all_goals
        intro st wx hS he hu hn Kc hK
        simp only [Act.put, List.setIfInBounds_toArray, List.set_cons_succ, List.set_cons_zero, List.getD_cons_zero, List.getD_cons_succ] at hK
        simp only [List.mem_cons, List.not_mem_nil, or_false, forall_eq_or_imp, forall_eq, Region.binds, forall_const, pmode_gc, Bool.false_eq_true, false_imp_iff, List.getD_cons_zero, List.getD_cons_succ, OpSort.val, OpSort.isLink, Option.some.injEq, forall_eq', reduceCtorEq, implies_true, true_and, and_true] at he
        have HSX := Lib.hid hS
        clear hS
      · have hq := Lib.hid (crow_kept QS.out HSX.out.fr (fun h => h))
        refine wanted_of rfl ?_
        exact wp_load_row 32 (.tmp 3) rfl gs rfl 32 (y1.cs ve vc va) (0, 0) _ hq.out Try.underlying32 rfl (by kernel_rfl) hK
      · have hs1 := (hu 6 (by simp) (by kernel_rfl)).2
        have hs2 := (hu 7 (by simp) (by kernel_rfl)).2
        have ha := Lib.hid (HSX.out.a hs1 hs2)
        clear hu hn
        simp only [he] at hK ⊢
        go_simp
        go_at_call 9
        refine (HSL.out.1 wx (SS.out.1.fr ha.out.fr)).mono ?_
        rintro er wa ⟨sa, rfl, hlsa, fra, hnew⟩
        have ht : (seenL A).sh (fun k => k < wc.heap.size ∨ wx.heap.size ≤ k) wa (.agg (Lt.cs A sa)) := seen_new hlsa hnew
        exact hK _ _ (fun _ h => by cases h) (PA.ps (ha.out.call1 hdif9 fra ht) hs1 hs2)
      · have hq := Lib.hid (crow_kept QT.out HSX.out.fr (fun h => h))
        refine wanted_of rfl ?_
        exact wp_load_row 32 (.tmp 4) rfl gt rfl 32 (y.cs ve' vc' va') (0, 0) _ hq.out Try.underlying32 rfl (by kernel_rfl) hK
      · have hs1 := (hu 6 (by simp) (by kernel_rfl)).2
        have hs2 := (hu 7 (by simp) (by kernel_rfl)).2
        have ha := Lib.hid (HSX.out.a hs1 hs2)
        clear hu hn
        have v0 : vals 2 = .agg (y.cs ve' vc' va') := by first | exact he | exact he.1 | exact he.2 | exact he.2.1 | exact he.2.2
        simp only [v0] at hK ⊢
        go_simp
        go_at_call 9
        refine (HSL.out.2 wx (SS.out.2.fr ha.out.fr)).mono ?_
        rintro er wa ⟨sa, rfl, hlsa, fra, hnew⟩
        have ht : (seenL B).sh (fun k => k < wc.heap.size ∨ wx.heap.size ≤ k) wa (.agg (Lt.cs B sa)) := seen_new hlsa hnew
        exact hK _ _ (fun _ h => by cases h) (PA.ps (ha.out.call2 hdif9 fra ht) hs1 hs2)
      · have hs1 := (hu 6 (by simp) (by kernel_rfl)).2
        have hs2 := (hu 7 (by simp) (by kernel_rfl)).2
        have ha := Lib.hid (HSX.out.a hs1 hs2)
        clear hu hn
        go_simp
        exact hK _ _ (fun _ h => by cases h) (PA.ps (ha.out.alloc1 hdif9) hs1 hs2)
      · have hs1 := (hu 6 (by simp) (by kernel_rfl)).2
        have hs2 := (hu 7 (by simp) (by kernel_rfl)).2
        have ha := Lib.hid (HSX.out.a hs1 hs2)
        clear hu hn
        go_simp
        exact hK _ _ (fun _ h => by cases h) (PA.ps (ha.out.alloc2 hdif9) hs1 hs2)
      · have hs2 := (hu 7 (by simp) (by kernel_rfl)).2
        have ha := Lib.hid (HSX.out.a hn hs2)
        have sa : st 4 = some (vals 4) := by first | exact he | exact he.1 | exact he.2 | exact he.2.1 | exact he.2.2 | exact he.2.2.1 | exact he.2.2.2 | exact he.2.2.2.1 | exact he.2.2.2.2 | exact he.2.2.2.2.1 | exact he.2.2.2.2.2 | exact he.2.2.2.2.2.1 | exact he.2.2.2.2.2.2 | exact he.2.2.2.2.2.2.1 | exact he.2.2.2.2.2.2.2 | exact he.2.2.2.2.2.2.2.1 | exact he.2.2.2.2.2.2.2.2 | exact he.2.2.2.2.2.2.2.2.1 | exact he.2.2.2.2.2.2.2.2.2 | exact he.2.2.2.2.2.2.2.2.2.1 | exact he.2.2.2.2.2.2.2.2.2.2 | exact he.2.2.2.2.2.2.2.2.2.2.1 | exact he.2.2.2.2.2.2.2.2.2.2.2 | exact he.2.2.2.2.2.2.2.2.2.2.2.1 | exact he.2.2.2.2.2.2.2.2.2.2.2.2 | exact he.2.2.2.2.2.2.2.2.2.2.2.2.1 | exact he.2.2.2.2.2.2.2.2.2.2.2.2.2 | exact he.2.2.2.2.2.2.2.2.2.2.2.2.2.1 | exact he.2.2.2.2.2.2.2.2.2.2.2.2.2.2
        have sb : st 5 = some (vals 5) := by first | exact he | exact he.1 | exact he.2 | exact he.2.1 | exact he.2.2 | exact he.2.2.1 | exact he.2.2.2 | exact he.2.2.2.1 | exact he.2.2.2.2 | exact he.2.2.2.2.1 | exact he.2.2.2.2.2 | exact he.2.2.2.2.2.1 | exact he.2.2.2.2.2.2 | exact he.2.2.2.2.2.2.1 | exact he.2.2.2.2.2.2.2 | exact he.2.2.2.2.2.2.2.1 | exact he.2.2.2.2.2.2.2.2 | exact he.2.2.2.2.2.2.2.2.1 | exact he.2.2.2.2.2.2.2.2.2 | exact he.2.2.2.2.2.2.2.2.2.1 | exact he.2.2.2.2.2.2.2.2.2.2 | exact he.2.2.2.2.2.2.2.2.2.2.1 | exact he.2.2.2.2.2.2.2.2.2.2.2 | exact he.2.2.2.2.2.2.2.2.2.2.2.1 | exact he.2.2.2.2.2.2.2.2.2.2.2.2 | exact he.2.2.2.2.2.2.2.2.2.2.2.2.1 | exact he.2.2.2.2.2.2.2.2.2.2.2.2.2 | exact he.2.2.2.2.2.2.2.2.2.2.2.2.2.1 | exact he.2.2.2.2.2.2.2.2.2.2.2.2.2.2
        have sc : st 1 = some (vals 1) := by first | exact he | exact he.1 | exact he.2 | exact he.2.1 | exact he.2.2 | exact he.2.2.1 | exact he.2.2.2 | exact he.2.2.2.1 | exact he.2.2.2.2 | exact he.2.2.2.2.1 | exact he.2.2.2.2.2 | exact he.2.2.2.2.2.1 | exact he.2.2.2.2.2.2 | exact he.2.2.2.2.2.2.1 | exact he.2.2.2.2.2.2.2 | exact he.2.2.2.2.2.2.2.1 | exact he.2.2.2.2.2.2.2.2 | exact he.2.2.2.2.2.2.2.2.1 | exact he.2.2.2.2.2.2.2.2.2 | exact he.2.2.2.2.2.2.2.2.2.1 | exact he.2.2.2.2.2.2.2.2.2.2 | exact he.2.2.2.2.2.2.2.2.2.2.1 | exact he.2.2.2.2.2.2.2.2.2.2.2 | exact he.2.2.2.2.2.2.2.2.2.2.2.1 | exact he.2.2.2.2.2.2.2.2.2.2.2.2 | exact he.2.2.2.2.2.2.2.2.2.2.2.2.1 | exact he.2.2.2.2.2.2.2.2.2.2.2.2.2 | exact he.2.2.2.2.2.2.2.2.2.2.2.2.2.1 | exact he.2.2.2.2.2.2.2.2.2.2.2.2.2.2
        have sd : st 3 = some (vals 3) := by first | exact he | exact he.1 | exact he.2 | exact he.2.1 | exact he.2.2 | exact he.2.2.1 | exact he.2.2.2 | exact he.2.2.2.1 | exact he.2.2.2.2 | exact he.2.2.2.2.1 | exact he.2.2.2.2.2 | exact he.2.2.2.2.2.1 | exact he.2.2.2.2.2.2 | exact he.2.2.2.2.2.2.1 | exact he.2.2.2.2.2.2.2 | exact he.2.2.2.2.2.2.2.1 | exact he.2.2.2.2.2.2.2.2 | exact he.2.2.2.2.2.2.2.2.1 | exact he.2.2.2.2.2.2.2.2.2 | exact he.2.2.2.2.2.2.2.2.2.1 | exact he.2.2.2.2.2.2.2.2.2.2 | exact he.2.2.2.2.2.2.2.2.2.2.1 | exact he.2.2.2.2.2.2.2.2.2.2.2 | exact he.2.2.2.2.2.2.2.2.2.2.2.1 | exact he.2.2.2.2.2.2.2.2.2.2.2.2 | exact he.2.2.2.2.2.2.2.2.2.2.2.2.1 | exact he.2.2.2.2.2.2.2.2.2.2.2.2.2 | exact he.2.2.2.2.2.2.2.2.2.2.2.2.2.1 | exact he.2.2.2.2.2.2.2.2.2.2.2.2.2.2
        obtain ⟨g1, e1, hg1, hc1⟩ := ha.out.p1 _ sa
        obtain ⟨g2, e2, hg2, hc2⟩ := ha.out.p2 _ sb
        obtain ⟨sx, el, hls, -⟩ := ha.out.c1 _ sc
        have HH := Lib.hid (And.intro sc (And.intro sd (And.intro (e1 ▸ sa) (And.intro (e2 ▸ sb) (And.intro el (And.intro hc1 hls))))))
        unfold pptr at e1
        clear hu hn hc1 hc2 sa sb sc sd e2 he hls
        simp only [e1, el] at hK ⊢
        refine wanted_of rfl ?_
        exact wp_store_row 51 (.tmp 7) (.tmp 44) rfl g1 (Lt.cs A sx) rfl rfl 51 _ HH.out.2.2.2.2.2.1 (by kernel_rfl) rfl HH.out.2.2.2.2.2.2.one (hK undef _ (fun _ h => by cases h) (PA.store1 ha.out HH.out.1 HH.out.2.1 HH.out.2.2.1 HH.out.2.2.2.1 (by decide) hs2 (by decide) (by decide) (by decide) HH.out.2.2.2.2.1 (setRow_heap _ _ _ _ _ _ HH.out.2.2.2.2.2.1) (Fr.letRow (S := fun k => k = g1) (Fr.refl _ wx) (fun _ => rfl) _)))
      · have sb : st 5 = some (vals 5) := by first | exact he | exact he.1 | exact he.2 | exact he.2.1 | exact he.2.2 | exact he.2.2.1 | exact he.2.2.2 | exact he.2.2.2.1 | exact he.2.2.2.2 | exact he.2.2.2.2.1 | exact he.2.2.2.2.2 | exact he.2.2.2.2.2.1 | exact he.2.2.2.2.2.2 | exact he.2.2.2.2.2.2.1 | exact he.2.2.2.2.2.2.2 | exact he.2.2.2.2.2.2.2.1 | exact he.2.2.2.2.2.2.2.2 | exact he.2.2.2.2.2.2.2.2.1 | exact he.2.2.2.2.2.2.2.2.2 | exact he.2.2.2.2.2.2.2.2.2.1 | exact he.2.2.2.2.2.2.2.2.2.2 | exact he.2.2.2.2.2.2.2.2.2.2.1 | exact he.2.2.2.2.2.2.2.2.2.2.2 | exact he.2.2.2.2.2.2.2.2.2.2.2.1 | exact he.2.2.2.2.2.2.2.2.2.2.2.2 | exact he.2.2.2.2.2.2.2.2.2.2.2.2.1 | exact he.2.2.2.2.2.2.2.2.2.2.2.2.2 | exact he.2.2.2.2.2.2.2.2.2.2.2.2.2.1 | exact he.2.2.2.2.2.2.2.2.2.2.2.2.2.2
        have sd : st 3 = some (vals 3) := by first | exact he | exact he.1 | exact he.2 | exact he.2.1 | exact he.2.2 | exact he.2.2.1 | exact he.2.2.2 | exact he.2.2.2.1 | exact he.2.2.2.2 | exact he.2.2.2.2.1 | exact he.2.2.2.2.2 | exact he.2.2.2.2.2.1 | exact he.2.2.2.2.2.2 | exact he.2.2.2.2.2.2.1 | exact he.2.2.2.2.2.2.2 | exact he.2.2.2.2.2.2.2.1 | exact he.2.2.2.2.2.2.2.2 | exact he.2.2.2.2.2.2.2.2.1 | exact he.2.2.2.2.2.2.2.2.2 | exact he.2.2.2.2.2.2.2.2.2.1 | exact he.2.2.2.2.2.2.2.2.2.2 | exact he.2.2.2.2.2.2.2.2.2.2.1 | exact he.2.2.2.2.2.2.2.2.2.2.2 | exact he.2.2.2.2.2.2.2.2.2.2.2.1 | exact he.2.2.2.2.2.2.2.2.2.2.2.2 | exact he.2.2.2.2.2.2.2.2.2.2.2.2.1 | exact he.2.2.2.2.2.2.2.2.2.2.2.2.2 | exact he.2.2.2.2.2.2.2.2.2.2.2.2.2.1 | exact he.2.2.2.2.2.2.2.2.2.2.2.2.2.2
        have ss : st 6 = some (vals 6) := by first | exact he | exact he.1 | exact he.2 | exact he.2.1 | exact he.2.2 | exact he.2.2.1 | exact he.2.2.2 | exact he.2.2.2.1 | exact he.2.2.2.2 | exact he.2.2.2.2.1 | exact he.2.2.2.2.2 | exact he.2.2.2.2.2.1 | exact he.2.2.2.2.2.2 | exact he.2.2.2.2.2.2.1 | exact he.2.2.2.2.2.2.2 | exact he.2.2.2.2.2.2.2.1 | exact he.2.2.2.2.2.2.2.2 | exact he.2.2.2.2.2.2.2.2.1 | exact he.2.2.2.2.2.2.2.2.2 | exact he.2.2.2.2.2.2.2.2.2.1 | exact he.2.2.2.2.2.2.2.2.2.2 | exact he.2.2.2.2.2.2.2.2.2.2.1 | exact he.2.2.2.2.2.2.2.2.2.2.2 | exact he.2.2.2.2.2.2.2.2.2.2.2.1 | exact he.2.2.2.2.2.2.2.2.2.2.2.2 | exact he.2.2.2.2.2.2.2.2.2.2.2.2.1 | exact he.2.2.2.2.2.2.2.2.2.2.2.2.2 | exact he.2.2.2.2.2.2.2.2.2.2.2.2.2.1 | exact he.2.2.2.2.2.2.2.2.2.2.2.2.2.2
        have hb := Lib.hid (HSX.out.b ss hn)
        obtain ⟨g1, g2, v2, ea, eb, e2', hf, hne, hg1, hg2, hX, hc2, hY⟩ := hb.out
        have e2 : vals 5 = pptr g2 := Option.some.inj (sb.symm.trans eb)
        have ev : vals 3 = v2 := Option.some.inj (sd.symm.trans e2')
        obtain ⟨sx, el, hls, -⟩ := hY
        have HH := Lib.hid (And.intro (ev ▸ sd) (And.intro (e2 ▸ sb) (And.intro el (And.intro hc2 hls))))
        rw [el] at ev
        unfold pptr at e2
        clear hu hn hc2 sb sd ss ea eb e2' hX hf el he hls
        simp only [e2, ev] at hK ⊢
        refine wanted_of rfl ?_
        exact wp_store_row 51 (.tmp 8) (.tmp 46) rfl g2 (Lt.cs B sx) rfl rfl 51 _ HH.out.2.2.2.1 (by kernel_rfl) rfl HH.out.2.2.2.2.one (hK undef _ (fun _ h => by cases h) (PB.store2 hb.out (HH.out.2.2.1 ▸ HH.out.1) HH.out.2.1 (by decide) (by decide) (by decide) rfl (setRow_heap _ _ _ _ _ _ HH.out.2.2.2.1) (Fr.letRow (S := fun k => k = g2) (Fr.refl _ wx) (fun _ => rfl) _)))
    case fin9 =>
      intro vals w5 hS hV
      have v0 := hV 0 _ (by decide) rfl
      have v2 := hV 2 _ (by decide) rfl
      have h2 : ∃ g1 g2 v2, some (vals 4) = some (pptr g1) ∧ some (vals 5) = some (pptr g2) ∧ some (vals 3) = some v2 ∧ PIn (seenL A) (seenL B) 51 51 wc g1 g2 w5 := hS
      obtain ⟨ga, gb, _, e4, e5, _, fo, hne, hga, hgb, ⟨cs1, hc1, hx1⟩, ⟨cs2, hc2, hx2⟩⟩ := h2
      have x4 := Option.some.inj e4
      have x5 := Option.some.inj e5
      clear hS hV e4 e5
      unfold pptr at x4 x5
      simp only [frOfU, fillU, List.setIfInBounds_toArray, List.set_cons_succ, List.set_cons_zero]
      simp only [Nat.reduceAdd, v0, v2, x4, x5]
      clear x4 x5 hdif9 v0 v2
      obtain ⟨sa, e1, ha5, _⟩ := hx1
      obtain ⟨sb, e2, hb5, _⟩ := hx2
      cases e1
      cases e2
      have F5 := Lib.hid (FC.out.trans fo (fun _ _ h => h))
      have Q5 := Lib.hid (And.intro (show w5.heap[ga]? = some (oLt A sa) from hc1) (show w5.heap[gb]? = some (oLt B sb) from hc2))
      have L5 := Lib.hid (And.intro ha5 hb5)
      generalize vals 1 = x1 at *
      generalize vals 3 = x3 at *
      clear fo hne hga hgb hc1 hc2 ha5 hb5 FC QS QT SS HSL
      go_wp2_with (refine load_lt rfl 51 (.tmp 7) rfl ga (A.cs sa) 51 (0, 0) rfl Q5.out.1 _ Try.underlying51 rfl (by kernel_rfl) ?_)
      refine (lput_ok A sa w5 L5.out.1 HA.out.2.1.l HA.out.2.1.t (chk_zero HA.out.1)).mono ?_
      rintro e w6 ⟨va6, rfl, ho6, f6, -⟩
      have F6 := Lib.hid (F5.out.trans f6 (fun _ _ h => h))
      have Q6 := Lib.hid (And.intro (crow_kept Q5.out.1 f6 (fun h => h)) (crow_kept Q5.out.2 f6 (fun h => h)))
      have L6 := Lib.hid (And.intro (L5.out.1.fr f6) (L5.out.2.fr f6))
      have S6 := Lib.hid ho6.sees
      clear f6 ho6 F5 Q5 L5
      dsimp only
      go_wp2_with (refine load_lt rfl 51 (.tmp 8) rfl gb (B.cs sb) 51 (0, 0) rfl Q6.out.2 _ Try.underlying51 rfl (by kernel_rfl) ?_)
      refine (lput_ok B sb w6 L6.out.2 HB.out.2.1.l HB.out.2.1.t (chk_zero HB.out.1)).mono ?_
      rintro e w7 ⟨vb7, rfl, ho7, f7, -⟩
      have F7 := Lib.hid (F6.out.trans f7 (fun _ _ h => h))
      have Q7 := Lib.hid (And.intro (crow_kept Q6.out.1 f7 (fun h => h)) (crow_kept Q6.out.2 f7 (fun h => h)))
      have L7 := Lib.hid (And.intro (L6.out.1.fr f7) (L6.out.2.fr f7))
      have S7 := Lib.hid (And.intro (S6.out.fr f7 (fun _ _ h => h)) ho7.sees)
      clear f7 ho7 F6 Q6 L6 S6
      have HE := Lib.hid (same_bytes HA.out.1 HB.out.1 HA.out.2.2 HB.out.2.2)
      have HM : Hid (A.e.m.length ≤ 1000 ∧ A.vm.length ≤ 1000) := Lib.hid ⟨HA.out.2.1.l.em, HA.out.2.1.l.vm⟩
      obtain ⟨SA, hSA⟩ : ∃ s : ByteArray, s = ⟨(ltB A).toArray⟩ := ⟨_, rfl⟩
      obtain ⟨SB, hSB⟩ : ∃ s : ByteArray, s = ⟨(ltB B).toArray⟩ := ⟨_, rfl⟩
      rw [← hSA, ← hSB] at HE
      have KA : Hid (∀ wx, Fr (fun _ => False) w7 wx → (convert 24 9 va6).run Try.prog wx = .ok (.string SA) wx) := Lib.hid (fun wx f => by rw [hSA]; exact (S7.out.1.fr f (fun _ _ h => h)).string _ _ _ Try.underlying24 Try.underlying5 Try.underlying9)
      have KB : Hid (∀ wx, Fr (fun _ => False) w7 wx → (convert 24 9 vb7).run Try.prog wx = .ok (.string SB) wx) := Lib.hid (fun wx f => by rw [hSB]; exact (S7.out.2.fr f (fun _ _ h => h)).string _ _ _ Try.underlying24 Try.underlying5 Try.underlying9)
      obtain ⟨bb, hbb⟩ : ∃ b, b = (SA.toList == SB.toList) := ⟨_, rfl⟩
      obtain ⟨cc, hcc⟩ : ∃ c, c = A.same B := ⟨_, rfl⟩
      rw [← hbb, ← hcc] at HE
      have HBC := Lib.hid (And.intro hbb.symm hcc)
      clear hSA hSB hbb hcc HA HB
      dsimp only
      go_upto_region 12 with fail
      refine wp_region_told (by kernel_rfl) (fun a b => Fr (fun _ => False) a b) (fun w => Fr.refl _ w) (fun _ _ _ h k => h.trans k (fun _ _ h => h)) [57, 58, 59, 60, 61, 62, 63, 64, 65, 66, 67, 68, 69, 70, 71, 72, 73, 6] rfl (by decide) (by intro d hd; simp at hd ⊢; omega)
        (fun i v _ => v = ([.int .i64 0, .bool true, .bool true, .int .i64 0, .bool true, .bool true, .bool true, va6, .string SA, vb7, .string SB, .bool bb, .agg (A.cs sa), .agg (B.cs sb), .bool cc, .bool true, .bool true, .bool true] : List Value).getD i undef)
        (fun _ _ _ _ _ h => h) (by kernel_rfl) ?step ?fin
      case step =>
        intro vals
        simp only [frOf, fill, List.setIfInBounds_toArray, List.set_cons_succ, List.set_cons_zero]
        repeat' (first | exact AllOps.nil | refine AllOps.cons ?_ ?_)
        all_goals
          intro wx hle he K' hK
          simp only [Act.put, List.setIfInBounds_toArray, List.set_cons_succ, List.set_cons_zero, List.getD_cons_zero, List.getD_cons_succ] at hK
          simp only [List.mem_cons, List.not_mem_nil, or_false, forall_eq_or_imp, forall_eq, Region.binds, forall_const, false_imp_iff, List.getD_cons_zero, List.getD_cons_succ] at he
          have hl5 := Fr.trans (Fr.drew (Fr.refl (fun _ => False) w7)) hle (fun _ _ h => h)
          have hl8 := Lib.hid hl5
          have ka := KA.out wx hl5
          have kb := KB.out wx hl5
          have hbe := HBC.out.1
          have hce := HE.out
          clear hl5 hle
        · (try simp only [he] at hK ⊢)
          clear he
          try go_simp
          exact hK _ _ (Fr.refl _ _) rfl
        · (try simp only [he] at hK ⊢)
          clear he
          try go_simp
          exact hK _ _ (Fr.refl _ _) rfl
        · (try simp only [he] at hK ⊢)
          clear he
          try go_simp
          exact hK _ _ (Fr.refl _ _) rfl
        · (try simp only [he] at hK ⊢)
          clear he
          try go_simp
          exact hK _ _ (Fr.refl _ _) rfl
        · (try simp only [he] at hK ⊢)
          clear he
          try go_simp
          exact hK _ _ (Fr.refl _ _) rfl
        · (try simp only [he] at hK ⊢)
          clear he
          try go_simp
          exact hK _ _ (Fr.refl _ _) rfl
        · (try simp only [he] at hK ⊢)
          clear he
          try go_simp
          exact hK _ _ (Fr.refl _ _) rfl
        · (try simp only [he] at hK ⊢)
          clear he
          try go_simp
          exact hK _ _ (Fr.refl _ _) rfl
        · (try simp only [he] at hK ⊢)
          clear he
          try go_simp
          exact hK _ _ (Fr.refl _ _) rfl
        · (try simp only [he] at hK ⊢)
          clear he
          try go_simp
          exact hK _ _ (Fr.refl _ _) rfl
        · (try simp only [he] at hK ⊢)
          clear he
          try go_simp
          exact hK _ _ (Fr.refl _ _) rfl
        · (try simp only [he] at hK ⊢)
          clear he
          try go_simp
          exact hK _ _ (Fr.refl _ _) rfl
        · simp only [he] at hK ⊢
          have hq := Lib.hid (crow_kept Q7.out.1 hl8.out (fun h => h))
          refine wanted_yes rfl ?_
          exact wp_load_row 51 (.tmp 7) rfl ga rfl 51 (A.cs sa) (0, 0) _ hq.out Try.underlying51 rfl (by kernel_rfl) (hK _ _ (Fr.refl _ _) rfl)
        · simp only [he] at hK ⊢
          have hq := Lib.hid (crow_kept Q7.out.2 hl8.out (fun h => h))
          refine wanted_yes rfl ?_
          exact wp_load_row 51 (.tmp 8) rfl gb rfl 51 (B.cs sb) (0, 0) _ hq.out Try.underlying51 rfl (by kernel_rfl) (hK _ _ (Fr.refl _ _) rfl)
        · simp only [he] at hK ⊢
          clear ka kb hbe hce
          go_simp
          go_at_call 15
          refine (lsame_any A B sa sb wx (L7.out.1.fr hl8.out) (L7.out.2.fr hl8.out) HM.out.1 HM.out.2).mono ?_
          rintro er wa ⟨rfl, fra⟩
          exact hK _ _ fra (by rw [HBC.out.2])
        · (try simp only [he] at hK ⊢)
          clear he
          try go_simp
          exact hK _ _ (Fr.refl _ _) rfl
        · (try simp only [he] at hK ⊢)
          clear he
          try go_simp
          exact hK _ _ (Fr.refl _ _) rfl
        · (try simp only [he] at hK ⊢)
          clear he
          try go_simp
          exact hK _ _ (Fr.refl _ _) rfl
      case fin =>
        intro vals' w8 hle hV
        have h17 : vals' 17 = .bool true := hV 17 (by decide)
        clear hV
        have hfin := Lib.hid (F7.out.trans (Fr.trans (Fr.drew (Fr.refl (fun _ => False) w7)) hle (fun _ _ h => h)) (fun _ _ h => h))
        clear hle
        simp only [frOf, fill, List.setIfInBounds_toArray, List.set_cons_succ, List.set_cons_zero, Nat.reduceAdd]
        simp only [h17]
        clear h17
        go_wp2_with fail
        go_ret
        exact ⟨rfl, hfin.out⟩
end
end Go.Proofs.Ytdkndahldcdbgaa
