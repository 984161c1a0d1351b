/-
  The law CacheTwice, walked.
-/
import Derived.Test.YtefijimijmjahaaCacheAwake
import Derived.Test.YtefijimijmjahaaCacheArg
import Derived.Deep.Cut
import Derived.Deep.CutRange
import Derived.Deep.CutBlock
namespace Go.Proofs.Ytefijimijmjahaa
open Go.RowKit
set_option maxRecDepth 100000

abbrev oRep (e r : Int) (v : Value) : Obj := Obj.cells #[.int .u16 e, .int .u16 r, v] 32 (0, 0)

theorem new_four (w : World) (A B C D : Obj) : ((((w.alloc A).alloc B).alloc C).alloc D).heap[w.heap.size]? = some A ∧ ((((w.alloc A).alloc B).alloc C).alloc D).heap[w.heap.size + 1]? = some B ∧
    ((((w.alloc A).alloc B).alloc C).alloc D).heap[w.heap.size + 1 + 1]? = some C ∧ ((((w.alloc A).alloc B).alloc C).alloc D).heap[w.heap.size + 1 + 1 + 1]? = some D := by
  have hs : ((w.alloc A).alloc B).heap.size = w.heap.size + 1 + 1 := by simp
  have f : Fr (fun _ => False) ((w.alloc A).alloc B) ((((w.alloc A).alloc B).alloc C).alloc D) := ((Fr.refl _ _).alloc _).alloc _
  refine ⟨crow_kept (new_two_fst w A B) f (fun h => h), crow_kept (new_two w A B) f (fun h => h), ?_, ?_⟩
  · have := new_two_fst ((w.alloc A).alloc B) C D
    rwa [hs] at this
  · have := new_two ((w.alloc A).alloc B) C D
    rwa [hs] at this

theorem eql_id (y x : IdN) (w : World) : (binOp .eql 36 (kv y) (kv x)).run Try.prog w = .ok (.bool (decide (y = x))) w := by
  obtain ⟨y1, y2⟩ := y
  obtain ⟨x1, x2⟩ := x
  unfold kv
  go_simp
  by_cases h1 : y1 = x1
  · by_cases h2 : y2 = x2
    · simp [h1, h2]
    · simp [h1, h2]
  · simp [h1]

set_option maxHeartbeats 16000000 in
theorem twice_law (m : Int) (hm0 : 0 ≤ m) (hm1 : m ≤ 255) (x y : IdN) (hx : IdOk x) (hy : IdOk y) (s s' : Sa) (a a' : Option Addr) (c c' : Nat) (w : World) (hs : SeesO w (.slice a s.l.length c) s.l) (hs' : SeesO w (.slice a' s'.l.length c') s'.l)
    (he0 : 0 ≤ s.e ∧ s.e ≤ 65535) (hr0 : 0 ≤ s.r ∧ s.r ≤ 65535) (he1 : 0 ≤ s'.e ∧ s'.e ≤ 65535) (hr1 : 0 ≤ s'.r ∧ s'.r ≤ 65535) :
    Calls Try.prog 6 #[.int .u8 m, kv x, kv y, .agg #[.int .u16 s.e, .int .u16 s.r, .slice a s.l.length c], .agg #[.int .u16 s'.e, .int .u16 s'.r, .slice a' s'.l.length c']] w fun z w' => z = .returned (.bool true) ∧ Fr (fun _ => False) w w' := by
  obtain ⟨se, sr, sl⟩ := s
  obtain ⟨te, tr, tl⟩ := s'
  simp only at *
  unfold kv at *
  have q := new_four w (oId x) (oId y) (oRep se sr (.slice a sl.length c)) (oRep te tr (.slice a' tl.length c'))
  have f0 : Fr (fun _ => False) w ((((w.alloc (oId x)).alloc (oId y)).alloc (oRep se sr (.slice a sl.length c))).alloc (oRep te tr (.slice a' tl.length c'))) := ((((Fr.refl _ _).alloc _).alloc _).alloc _).alloc _
  have hz : ((((w.alloc (oId x)).alloc (oId y)).alloc (oRep se sr (.slice a sl.length c))).alloc (oRep te tr (.slice a' tl.length c'))).heap.size = w.heap.size + 4 := by simp
  go_enter Try.func6, Try.ntmps6
  go_wp2_with fail
  generalize (((w.alloc (oId x)).alloc (oId y)).alloc (oRep se sr (.slice a sl.length c))).alloc (oRep te tr (.slice a' tl.length c')) = w0 at *
  generalize hg : w.heap.size = g at *
  have HG := Lib.hid hg; clear hg
  refine (cacheAwake_any _).mono ?_
  rintro z w1 ⟨rfl, f1⟩
  have F1 := Lib.hid (f0.trans f1 (fun _ _ h => h))
  have q1 := And.intro (crow_kept q.1 f1 (fun h => h)) (And.intro (crow_kept q.2.1 f1 (fun h => h)) (And.intro (crow_kept q.2.2.1 f1 (fun h => h)) (crow_kept q.2.2.2 f1 (fun h => h))))
  have hz1 := f1.size
  clear q f0 f1
  obtain ⟨c20, c21, c22⟩ := cell3 q1.2.2.1
  obtain ⟨c30, c31, c32⟩ := cell3 q1.2.2.2
  have Q1 := Lib.hid q1; clear q1
  by_cases hl1 : sl.length ≤ 50
  case neg =>
    have hg1 : (50 : Int) < (sl.length : Int) := by omega
    go_wp2_with fail
    go_ret
    exact ⟨rfl, F1.out⟩
  by_cases hl2 : tl.length ≤ 50
  case neg =>
    have hg1 : ¬ (50 : Int) < (sl.length : Int) := by omega
    have hg2 : (50 : Int) < (tl.length : Int) := by omega
    go_wp2_with fail
    go_ret
    exact ⟨rfl, F1.out⟩
  have hg1 : ¬ (50 : Int) < (sl.length : Int) := by omega
  have hg2 : ¬ (50 : Int) < (tl.length : Int) := by omega
  go_wp2_with fail
  refine (cnew_any (2 + m % 9) _).mono ?_
  rintro z w2 ⟨b, rfl, hc, f2⟩
  obtain ⟨K, hK⟩ : ∃ K, K = clampM (2 + m % 9) := ⟨_, rfl⟩
  rw [← hK] at hc
  have hK2 : 2 ≤ K := by rw [hK]; unfold clampM; omega
  have HK2 := Lib.hid hK2; clear hK2 hK
  have HC2 := Lib.hid hc; clear hc
  obtain ⟨G2, hG2⟩ : ∃ G : Nat → Prop, G = fun k => w1.heap.size ≤ k ∧ k < w2.heap.size := ⟨_, rfl⟩
  rw [← hG2] at HC2
  have HNF2 := Lib.hid (show ∀ k, k < g + 4 → ¬ G2 k from fun k hk h => by rw [hG2] at h; omega)
  clear hG2
  have Q2 := Lib.hid (And.intro (crow_kept Q1.out.1 f2 (fun h => h)) (And.intro (crow_kept Q1.out.2.1 f2 (fun h => h)) (And.intro (crow_kept Q1.out.2.2.1 f2 (fun h => h)) (crow_kept Q1.out.2.2.2 f2 (fun h => h)))))
  have F2 := Lib.hid (F1.out.trans f2 (fun _ _ h => h))
  have HSa2 := Lib.hid (hs.fr F2.out).1
  have HSb2 := Lib.hid (hs'.fr F2.out).1
  have hz2 := f2.size
  clear c20 c21 c22 c30 c31 c32 f2
  have HB2 : Hid (decide (x ∉ ([] : List (IdN × An)).map Prod.fst) = true) := Lib.hid rfl
  have HEa := Lib.hid (And.intro he0 hr0); clear he0 hr0
  have HEb := Lib.hid (And.intro he1 hr1); clear he1 hr1
  have HE : Hid (_ ∧ _) := Lib.hid (And.intro HEa.out HEb.out)
  have HZ2 := Lib.hid (show g + 4 ≤ w2.heap.size from by have := hz2; omega)
  clear hz2
  go_upto_region 6 with fail
  refine wp_region_chain (by kernel_rfl) [some 33, some 34, some 35, some 36, some 37, some 12] rfl (by decide) (by intro d hd; simp at hd ⊢; omega)
    [3, 4] (fun cvs wx => PAS w2 b K (putA [] x (se, sr, sl)) G2 (.agg #[.int .i64 se, .int .i64 sr, .slice a sl.length c]) cvs wx)
    [.free (.pointer (some ⟨b, 0, none⟩)), .free (.agg #[.int .u16 x.1, .int .u16 x.2]), .free (.agg #[.int .u16 se, .int .u16 sr, .slice a sl.length c]), .link (some (.agg #[.int .i64 se, .int .i64 sr, .slice a sl.length c])), .link (some (.bool true)), .free (.bool true)]
    (by kernel_rfl) (by kernel_rfl) ?h06 ?step06 ?fin06
  case h06 => exact (Fr.refl _ _).drew
  case step06 =>
    intro vals
    simp only [frOfU, fillU, List.setIfInBounds_toArray, List.set_cons_succ, List.set_cons_zero]
    repeat' (first | exact AllOps.nil | refine AllOps.cons ?_ ?_)
    all_goals
      intro cvs wx hS he hu hlim K hK
      simp only [Act.put, List.setIfInBounds_toArray, List.set_cons_succ, List.set_cons_zero, List.getD_cons_zero, List.getD_cons_succ] at hK
      simp only [List.mem_cons, List.not_mem_nil, or_false, forall_eq_or_imp, forall_eq, Region.binds, forall_const, qmode_gc, Bool.false_eq_true, false_imp_iff, List.getD_cons_zero, List.getD_cons_succ, OpSort.val, Option.some.injEq, forall_eq', reduceCtorEq, implies_true, true_and, and_true] at he
      have hfr := PAS.fr hS
      obtain ⟨i0, i1⟩ : wx.cell? ⟨g, 0, none⟩ = some (.int .u16 x.1) ∧ wx.cell? ⟨g, 1, none⟩ = some (.int .u16 x.2) := by simp [World.cell?, crow_kept Q2.out.1 hfr (HNF2.out _ (by omega))]
      obtain ⟨k0, k1, k2⟩ := cell3 (crow_kept Q2.out.2.2.1 hfr (HNF2.out _ (by omega)))
      clear hfr
      have HSX := Lib.hid hS
      clear hS
    all_goals first | (clear hlim hu; (try simp only [he] at hK ⊢); go_simp; exact hK) | skip
    · obtain rfl := hlim (0 : Nat) rfl
      have h1 : Fr (fun _ => False) w2 wx := HSX.out
      have H1 := Lib.hid h1
      clear hlim hu HSX h1
      simp only [he] at hK ⊢
      go_simp
      go_at_call 13
      refine (reply_any se sr a sl.length c wx HEa.out.1.1 HEa.out.1.2 HEa.out.2.1 HEa.out.2.2).mono ?_
      rintro z wa ⟨rfl, fa⟩
      unfold av
      exact hK _ _ (fun _ h => by simpa using h) ⟨rfl, H1.out.trans fa (fun _ _ h => h)⟩
    · obtain rfl := hlim (1 : Nat) rfl
      have h1 : Fr (fun _ => False) w2 wx := HSX.out.2
      have hp := cput_any (HC2.out.fr0 h1) x hx se sr (.slice a sl.length c) sl (HSa2.out.fr h1 (fun _ _ h => h)) (by omega)
      rw [HB2.out] at hp
      unfold kv av at hp
      have HP := Lib.hid hp
      have H1 := Lib.hid h1
      clear hlim hu HSX h1 hp
      simp only [he] at hK ⊢
      go_simp
      go_at_call 12
      refine HP.out.mono ?_
      rintro z wa ⟨rfl, hput⟩
      exact hK _ _ (fun _ h => by simpa using h) (hput.base H1.out)
  case fin06 =>
    intro vals w3 hS hV
    have v0 := hV 0 _ (by decide) rfl
    have v1 := hV 1 _ (by decide) rfl
    have v2 := hV 2 _ (by decide) rfl
    have v3 := hV 3 _ (by decide) rfl
    have v4 := hV 4 _ (by decide) rfl
    have v5 := hV 5 _ (by decide) rfl
    clear hV
    simp only [frOfU, fillU, List.setIfInBounds_toArray, List.set_cons_succ, List.set_cons_zero]
    simp only [Nat.reduceAdd, v0, v1, v2, v3, v4, v5]
    clear v0 v1 v2 v3 v4 v5
    obtain ⟨G3, hc, hsub, hf⟩ : CPut w2 b K (putA [] x (se, sr, sl)) G2 w3 := hS
    have ep : putA [] x (se, sr, sl) = [(x, se, sr, sl)] := by simp [putA]
    rw [ep] at hc
    clear ep
    have hz3 := Lib.hid hf.size
    have HNF3 := Lib.hid (show ∀ k, k < g + 4 → ¬ G3 k from fun k hk h => by
      rcases hsub k h with h | h
      · exact HNF2.out k hk h
      · have := HZ2.out; omega)
    have Q3 := Lib.hid (And.intro (crow_kept Q2.out.1 hf (HNF2.out _ (by omega))) (And.intro (crow_kept Q2.out.2.1 hf (HNF2.out _ (by omega))) (And.intro (crow_kept Q2.out.2.2.1 hf (HNF2.out _ (by omega))) (crow_kept Q2.out.2.2.2 hf (HNF2.out _ (by omega))))))
    have F3 : Hid (Fr (fun _ => False) w w3) := Lib.hid (F2.out.trans hf (fun k hk h => by have := HG.out; exact HNF2.out k (by omega) h))
    have HZ3 := Lib.hid (show g + 4 ≤ w3.heap.size from by have := HZ2.out; have := hz3.out; omega)
    have HSa3 := Lib.hid (hs.fr F3.out).1
    have HSb3 := Lib.hid (hs'.fr F3.out).1
    have HC3 := Lib.hid hc
    clear hc hsub hf Q2 HC2 HNF2 HSa2 HSb2 F2
    have HB3 : Hid (decide (x ∉ ([(x, se, sr, sl)] : List (IdN × An)).map Prod.fst) = false) := Lib.hid (by simp)
    go_upto_region 7 with fail
    refine wp_region_chain (by kernel_rfl) [some 38, some 39, some 40, some 41, some 42, some 13] rfl (by decide) (by intro d hd; simp at hd ⊢; omega)
      [3, 4] (fun cvs wx => PAS w3 b K (putA [(x, se, sr, sl)] x (te, tr, tl)) G3 (.agg #[.int .i64 te, .int .i64 tr, .slice a' tl.length c']) cvs wx)
      [.free (.pointer (some ⟨b, 0, none⟩)), .free (.agg #[.int .u16 x.1, .int .u16 x.2]), .free (.agg #[.int .u16 te, .int .u16 tr, .slice a' tl.length c']), .link (some (.agg #[.int .i64 te, .int .i64 tr, .slice a' tl.length c'])), .link (some (.bool false)), .free (.bool false)]
      (by kernel_rfl) (by kernel_rfl) ?h07 ?step07 ?fin07
    case h07 => exact (Fr.refl _ _).drew
    case step07 =>
      intro vals
      simp only [frOfU, fillU, List.setIfInBounds_toArray, List.set_cons_succ, List.set_cons_zero]
      repeat' (first | exact AllOps.nil | refine AllOps.cons ?_ ?_)
      all_goals
        intro cvs wx hS he hu hlim K hK
        simp only [Act.put, List.setIfInBounds_toArray, List.set_cons_succ, List.set_cons_zero, List.getD_cons_zero, List.getD_cons_succ] at hK
        simp only [List.mem_cons, List.not_mem_nil, or_false, forall_eq_or_imp, forall_eq, Region.binds, forall_const, qmode_gc, Bool.false_eq_true, false_imp_iff, List.getD_cons_zero, List.getD_cons_succ, OpSort.val, Option.some.injEq, forall_eq', reduceCtorEq, implies_true, true_and, and_true] at he
        have hfr := PAS.fr hS
        obtain ⟨i0, i1⟩ : wx.cell? ⟨g, 0, none⟩ = some (.int .u16 x.1) ∧ wx.cell? ⟨g, 1, none⟩ = some (.int .u16 x.2) := by simp [World.cell?, crow_kept Q3.out.1 hfr (HNF3.out _ (by omega))]
        obtain ⟨k0, k1, k2⟩ := cell3 (crow_kept Q3.out.2.2.2 hfr (HNF3.out _ (by omega)))
        clear hfr
        have HSX := Lib.hid hS
        clear hS
      all_goals first | (clear hlim hu; (try simp only [he] at hK ⊢); go_simp; exact hK) | skip
      · obtain rfl := hlim (0 : Nat) rfl
        have h1 : Fr (fun _ => False) w3 wx := HSX.out
        have H1 := Lib.hid h1
        clear hlim hu HSX h1
        simp only [he] at hK ⊢
        go_simp
        go_at_call 13
        refine (reply_any te tr a' tl.length c' wx HEb.out.1.1 HEb.out.1.2 HEb.out.2.1 HEb.out.2.2).mono ?_
        rintro z wa ⟨rfl, fa⟩
        unfold av
        exact hK _ _ (fun _ h => by simpa using h) ⟨rfl, H1.out.trans fa (fun _ _ h => h)⟩
      · obtain rfl := hlim (1 : Nat) rfl
        have h1 : Fr (fun _ => False) w3 wx := HSX.out.2
        have hp := cput_any (HC3.out.fr0 h1) x hx te tr (.slice a' tl.length c') tl (HSb3.out.fr h1 (fun _ _ h => h)) (by omega)
        rw [HB3.out] at hp
        unfold kv av at hp
        have HP := Lib.hid hp
        have H1 := Lib.hid h1
        clear hlim hu HSX h1 hp
        simp only [he] at hK ⊢
        go_simp
        go_at_call 12
        refine HP.out.mono ?_
        rintro z wa ⟨rfl, hput⟩
        exact hK _ _ (fun _ h => by simpa using h) (hput.base H1.out)
    case fin07 =>
      intro vals w4 hS hV
      have v0 := hV 0 _ (by decide) rfl
      have v1 := hV 1 _ (by decide) rfl
      have v2 := hV 2 _ (by decide) rfl
      have v3 := hV 3 _ (by decide) rfl
      have v4 := hV 4 _ (by decide) rfl
      have v5 := hV 5 _ (by decide) rfl
      clear hV
      simp only [frOfU, fillU, List.setIfInBounds_toArray, List.set_cons_succ, List.set_cons_zero]
      simp only [Nat.reduceAdd, v0, v1, v2, v3, v4, v5]
      clear v0 v1 v2 v3 v4 v5
      obtain ⟨G4, hc, hsub, hf⟩ : CPut w3 b K (putA [(x, se, sr, sl)] x (te, tr, tl)) G3 w4 := hS
      have ep : putA [(x, se, sr, sl)] x (te, tr, tl) = [(x, se, sr, sl)] := by simp [putA]
      rw [ep] at hc
      clear ep
      have hz4 := Lib.hid hf.size
      have HNF4 := Lib.hid (show ∀ k, k < g + 4 → ¬ G4 k from fun k hk h => by
        rcases hsub k h with h | h
        · exact HNF3.out k hk h
        · have := HZ3.out; omega)
      have Q4 := Lib.hid (And.intro (crow_kept Q3.out.1 hf (HNF3.out _ (by omega))) (And.intro (crow_kept Q3.out.2.1 hf (HNF3.out _ (by omega))) (And.intro (crow_kept Q3.out.2.2.1 hf (HNF3.out _ (by omega))) (crow_kept Q3.out.2.2.2 hf (HNF3.out _ (by omega))))))
      have F4 : Hid (Fr (fun _ => False) w w4) := Lib.hid (F3.out.trans hf (fun k hk h => by have := HG.out; exact HNF3.out k (by omega) h))
      have HZ4 := Lib.hid (show g + 4 ≤ w4.heap.size from by have := HZ3.out; have := hz4.out; omega)
      have HSa4 := Lib.hid (hs.fr F4.out).1
      have HSb4 := Lib.hid (hs'.fr F4.out).1
      have HC4 := Lib.hid hc
      clear hc hsub hf Q3 HC3 HNF3 HSa3 HSb3 F3
      obtain ⟨D, hD⟩ : ∃ D, D = decide (y ∉ ([(x, se, sr, sl)] : List (IdN × An)).map Prod.fst) := ⟨_, rfl⟩
      have HB4 := Lib.hid hD.symm; clear hD
      go_upto_region 8 with fail
      refine wp_region_chain (by kernel_rfl) [some 43, some 44, some 45, some 46, some 47] rfl (by decide) (by intro d hd; simp at hd ⊢; omega)
        [3, 4] (fun cvs wx => PAS w4 b K (putA [(x, se, sr, sl)] y (te, tr, tl)) G4 (.agg #[.int .i64 te, .int .i64 tr, .slice a' tl.length c']) cvs wx)
        [.free (.pointer (some ⟨b, 0, none⟩)), .free (.agg #[.int .u16 y.1, .int .u16 y.2]), .free (.agg #[.int .u16 te, .int .u16 tr, .slice a' tl.length c']), .link (some (.agg #[.int .i64 te, .int .i64 tr, .slice a' tl.length c'])), .link (some (.bool D))]
        (by kernel_rfl) (by kernel_rfl) ?h08 ?step08 ?fin08
      case h08 => exact (Fr.refl _ _).drew
      case step08 =>
        intro vals
        simp only [frOfU, fillU, List.setIfInBounds_toArray, List.set_cons_succ, List.set_cons_zero]
        repeat' (first | exact AllOps.nil | refine AllOps.cons ?_ ?_)
        all_goals
          intro cvs wx hS he hu hlim K hK
          simp only [Act.put, List.setIfInBounds_toArray, List.set_cons_succ, List.set_cons_zero, List.getD_cons_zero, List.getD_cons_succ] at hK
          simp only [List.mem_cons, List.not_mem_nil, or_false, forall_eq_or_imp, forall_eq, Region.binds, forall_const, qmode_gc, Bool.false_eq_true, false_imp_iff, List.getD_cons_zero, List.getD_cons_succ, OpSort.val, Option.some.injEq, forall_eq', reduceCtorEq, implies_true, true_and, and_true] at he
          have hfr := PAS.fr hS
          obtain ⟨i0, i1⟩ : wx.cell? ⟨(g + 1), 0, none⟩ = some (.int .u16 y.1) ∧ wx.cell? ⟨(g + 1), 1, none⟩ = some (.int .u16 y.2) := by simp [World.cell?, crow_kept Q4.out.2.1 hfr (HNF4.out _ (by omega))]
          obtain ⟨k0, k1, k2⟩ := cell3 (crow_kept Q4.out.2.2.2 hfr (HNF4.out _ (by omega)))
          clear hfr
          have HSX := Lib.hid hS
          clear hS
        all_goals first | (clear hlim hu; (try simp only [he] at hK ⊢); go_simp; exact hK) | skip
        · obtain rfl := hlim (0 : Nat) rfl
          have h1 : Fr (fun _ => False) w4 wx := HSX.out
          have H1 := Lib.hid h1
          clear hlim hu HSX h1
          simp only [he] at hK ⊢
          go_simp
          go_at_call 13
          refine (reply_any te tr a' tl.length c' wx HEb.out.1.1 HEb.out.1.2 HEb.out.2.1 HEb.out.2.2).mono ?_
          rintro z wa ⟨rfl, fa⟩
          unfold av
          exact hK _ _ (fun _ h => by simpa using h) ⟨rfl, H1.out.trans fa (fun _ _ h => h)⟩
        · obtain rfl := hlim (1 : Nat) rfl
          have h1 : Fr (fun _ => False) w4 wx := HSX.out.2
          have hp := cput_any (HC4.out.fr0 h1) y hy te tr (.slice a' tl.length c') tl (HSb4.out.fr h1 (fun _ _ h => h)) (by omega)
          rw [HB4.out] at hp
          unfold kv av at hp
          have HP := Lib.hid hp
          have H1 := Lib.hid h1
          clear hlim hu HSX h1 hp
          simp only [he] at hK ⊢
          go_simp
          go_at_call 12
          refine HP.out.mono ?_
          rintro z wa ⟨rfl, hput⟩
          exact hK _ _ (fun _ h => by simpa using h) (hput.base H1.out)
      case fin08 =>
        intro vals w5 hS hV
        have v0 := hV 0 _ (by decide) rfl
        have v1 := hV 1 _ (by decide) rfl
        have v2 := hV 2 _ (by decide) rfl
        have v3 := hV 3 _ (by decide) rfl
        have v4 := hV 4 _ (by decide) rfl
        clear hV
        simp only [frOfU, fillU, List.setIfInBounds_toArray, List.set_cons_succ, List.set_cons_zero]
        simp only [Nat.reduceAdd, v0, v1, v2, v3, v4]
        clear v0 v1 v2 v3 v4
        obtain ⟨G5, hc, hsub, hf⟩ : CPut w4 b K (putA [(x, se, sr, sl)] y (te, tr, tl)) G4 w5 := hS
        obtain ⟨Q, hQ⟩ : ∃ Q, Q = putA [(x, se, sr, sl)] y (te, tr, tl) := ⟨_, rfl⟩
        rw [← hQ] at hc
        have HLK := Lib.hid (show lookA K Q x = some (se, sr, sl) from by
          rw [hQ]
          have := HK2.out
          unfold lookA putA
          by_cases hyx : y = x
          · subst hyx
            simp [show 1 - K = 0 by omega]
          · simp [hyx, show 2 - K = 0 by omega])
        have HSX1 := Lib.hid (show decide (x ∈ Q.map Prod.fst) = true from by
          rw [hQ]; unfold putA; split <;> simp)
        have HSY1 := Lib.hid (show decide (y ∈ Q.map Prod.fst) = true from by
          rw [hQ]; unfold putA; split <;> simp_all)
        have HKP := Lib.hid (show y ≠ x → min K Q.length = 2 from by
          intro hyx
          have := HK2.out
          rw [hQ]; unfold putA; rw [if_neg (by simpa using hyx)]; simp; omega)
        clear hQ
        have hz5 := Lib.hid hf.size
        have HNF5 := Lib.hid (show ∀ k, k < g + 4 → ¬ G5 k from fun k hk h => by
          rcases hsub k h with h | h
          · exact HNF4.out k hk h
          · have := HZ4.out; omega)
        have Q5 := Lib.hid (And.intro (crow_kept Q4.out.1 hf (HNF4.out _ (by omega))) (And.intro (crow_kept Q4.out.2.1 hf (HNF4.out _ (by omega))) (And.intro (crow_kept Q4.out.2.2.1 hf (HNF4.out _ (by omega))) (crow_kept Q4.out.2.2.2 hf (HNF4.out _ (by omega))))))
        have F5 : Hid (Fr (fun _ => False) w w5) := Lib.hid (F4.out.trans hf (fun k hk h => by have := HG.out; exact HNF4.out k (by omega) h))
        have HZ5 := Lib.hid (show g + 4 ≤ w5.heap.size from by have := HZ4.out; have := hz5.out; omega)
        have HSa5 := Lib.hid (hs.fr F5.out).1
        have HSb5 := Lib.hid (hs'.fr F5.out).1
        have HC5 := Lib.hid hc
        clear hc hsub hf Q4 HC4 HNF4 HSa4 HSb4 F4
        have hget := cget_any HC5.out x hx
        rw [HLK.out] at hget
        unfold kv av at hget
        simp only [Option.getD_some, Option.isSome_some] at hget
        have HGT := Lib.hid hget; clear hget
        obtain ⟨⟨i0, i1⟩⟩ : (w5.cell? ⟨g, 0, none⟩ = some (.int .u16 x.1) ∧ w5.cell? ⟨g, 1, none⟩ = some (.int .u16 x.2)) ∧ True := by simp [World.cell?, Q5.out.1]
        go_wp2_with fail
        refine HGT.out.mono ?_
        rintro z w6 ⟨v', rfl, hm, _⟩
        obtain ⟨a6, c6, rfl⟩ := slice_of_own hm.1
        have HM6 := Lib.hid hm; clear hm
        go_wp2_with fail
        have f67 : Fr (fun _ => False) w6 (w6.alloc (oAns se sr (.slice a6 sl.length c6))) := (Fr.refl _ _).alloc _
        have q7 := heap_alloc_new w6 (oAns se sr (.slice a6 sl.length c6))
        generalize w6.alloc (oAns se sr (.slice a6 sl.length c6)) = w7 at *
        generalize w6.heap.size = g7 at *
        have f57 := HM6.out.2.1.trans f67 (fun _ _ h => h)
        have Q7 := Lib.hid (And.intro (crow_kept Q5.out.1 f57 (fun h => h)) (And.intro (crow_kept Q5.out.2.1 f57 (fun h => h)) (And.intro (crow_kept Q5.out.2.2.1 f57 (fun h => h)) (And.intro (crow_kept Q5.out.2.2.2 f57 (fun h => h)) q7))))
        have HC7 := Lib.hid (HC5.out.fr0 f57)
        have F7 := Lib.hid (F5.out.trans f57 (fun _ _ h => h))
        have HS7 := Lib.hid (And.intro (HM6.out.1.sees.fr f67 (fun _ _ h => h)) (HSa5.out.fr f57 (fun _ _ h => h)))
        clear q7 f57 f67 i0 i1
        have hal : ∀ wx, Fr (fun _ => False) w7 wx → Calls Try.prog 10 #[.agg #[.int .i64 se, .int .i64 sr, .slice a6 sl.length c6], .agg #[.int .i64 se, .int .i64 sr, .slice a sl.length c]] wx fun e w' => e = .returned (.bool true) ∧ Fr (fun _ => False) wx w' := by
          intro wx f
          have := alike_any se sr se sr (.slice a6 sl.length c6) (.slice a sl.length c) sl sl wx (HS7.out.1.fr f (fun _ _ h => h)) (HS7.out.2.fr f (fun _ _ h => h))
          unfold av at this
          simpa using this
        have hsx : ∀ wx, Fr (fun _ => False) w7 wx → Calls Try.prog 11 #[.pointer (some ⟨b, 0, none⟩), .agg #[.int .u16 x.1, .int .u16 x.2]] wx fun e w' => e = .returned (.bool true) ∧ Fr (fun _ => False) wx w' := by
          intro wx f
          have := cseen_any (HC7.out.fr0 f) x hx
          rwa [HSX1.out] at this
        have hsy : ∀ wx, Fr (fun _ => False) w7 wx → Calls Try.prog 11 #[.pointer (some ⟨b, 0, none⟩), .agg #[.int .u16 y.1, .int .u16 y.2]] wx fun e w' => e = .returned (.bool true) ∧ Fr (fun _ => False) wx w' := by
          intro wx f
          have := cseen_any (HC7.out.fr0 f) y hy
          rwa [HSY1.out] at this
        have HAL := Lib.hid hal; clear hal
        have HSX2 := Lib.hid hsx; clear hsx
        have HSY2 := Lib.hid hsy; clear hsy
        obtain ⟨E, hE⟩ : ∃ E, E = decide (y = x) := ⟨_, rfl⟩
        have heq : ∀ w, (binOp .eql 36 (.agg #[.int .u16 y.1, .int .u16 y.2]) (.agg #[.int .u16 x.1, .int .u16 x.2])).run Try.prog w = .ok (.bool E) w := by
          intro w
          rw [hE]
          exact eql_id y x w
        have HEE := Lib.hid hE; clear hE
        cases E
        case false =>
          refine wp_region_told (by kernel_rfl) (fun a b => Fr (fun _ => False) a b) (fun w => Fr.refl _ w) (fun _ _ _ h k => h.trans k (fun _ _ h => h)) [54, 55, 56, 57, 58, 59, 60, 61, 62, 63, 64, 65, 66, 67, 68, 69, 70, 71, 72, 73, 74, 75, 76, 77, 78, 79, 80, 81, 82, 83, 84, 85, 86, 87, 10] rfl (by decide) (by intro d hd; simp at hd ⊢; omega)
            (fun i v _ => v = ([(.bool true), (.bool true), (.bool false), (.bool true), (.bool true), (.bool true), (.bool true), (.bool true), (.bool true), (.agg #[.int .i64 se, .int .i64 sr, .slice a6 sl.length c6]), (.agg #[.int .u16 se, .int .u16 sr, .slice a sl.length c]), (.agg #[.int .i64 se, .int .i64 sr, .slice a sl.length c]), (.bool true), (.bool true), (.bool true), (.agg #[.int .u16 y.1, .int .u16 y.2]), (.agg #[.int .u16 x.1, .int .u16 x.2]), (.bool false), (.bool false), (.pointer (some ⟨b, 0, none⟩)), (.int .i64 2), (.bool true), (.bool true), (.bool true), (.bool true), (.pointer (some ⟨b, 0, none⟩)), (.agg #[.int .u16 x.1, .int .u16 x.2]), (.bool true), (.bool true), (.bool true), (.pointer (some ⟨b, 0, none⟩)), (.agg #[.int .u16 y.1, .int .u16 y.2]), (.bool true), (.bool true), (.bool true)] : List Value).getD i undef)
            (fun _ _ _ _ _ h => h) (by kernel_rfl) ?step10false ?fin10false
          case step10false =>
            intro vals
            simp only [frOf, fill, List.setIfInBounds_toArray, List.set_cons_succ, List.set_cons_zero]
            repeat' (first | exact AllOps.nil | refine AllOps.cons ?_ ?_)
            all_goals
              intro wx hle he K' hK
              simp only [Act.put, List.setIfInBounds_toArray, List.set_cons_succ, List.set_cons_zero, List.getD_cons_zero, List.getD_cons_succ] at hK
              simp only [List.mem_cons, List.not_mem_nil, or_false, forall_eq_or_imp, forall_eq, Region.binds, forall_const, false_imp_iff, List.getD_cons_zero, List.getD_cons_succ] at he
              try simp only [he] at hK ⊢
              have hl5 := Fr.trans (Fr.drew (Fr.refl (fun _ => False) w7)) hle (fun _ _ h => h)
              have hl8 := Lib.hid hl5
              obtain ⟨i0, i1⟩ : wx.cell? ⟨g, 0, none⟩ = some (.int .u16 x.1) ∧ wx.cell? ⟨g, 1, none⟩ = some (.int .u16 x.2) := by simp [World.cell?, crow_kept Q7.out.1 hl5 (fun h => h)]
              obtain ⟨j0, j1⟩ : wx.cell? ⟨g + 1, 0, none⟩ = some (.int .u16 y.1) ∧ wx.cell? ⟨g + 1, 1, none⟩ = some (.int .u16 y.2) := by simp [World.cell?, crow_kept Q7.out.2.1 hl5 (fun h => h)]
              obtain ⟨k0, k1, k2⟩ := cell3 (crow_kept Q7.out.2.2.1 hl5 (fun h => h))
              obtain ⟨m0, m1, m2⟩ := cell3 (crow_kept Q7.out.2.2.2.2 hl5 (fun h => h))
              clear hl5 hle he
              try go_simp
            all_goals first
              | exact hK _ _ (Fr.refl _ _) rfl
              | skip
            · go_at_call 13; refine (reply_any se sr a sl.length c _ HEa.out.1.1 HEa.out.1.2 HEa.out.2.1 HEa.out.2.2).mono ?_; rintro e1 wa ⟨rfl, fa⟩; exact hK _ _ fa rfl
            · go_at_call 10; refine (HAL.out _ hl8.out).mono ?_; rintro e1 wa ⟨rfl, fa⟩; exact hK _ _ fa rfl
            · go_at_call 14; refine (ckept_any (HC7.out.fr0 hl8.out)).mono ?_; rw [HKP.out (of_decide_eq_false HEE.out.symm)]; rintro e1 wa ⟨rfl, fa⟩; exact hK _ _ (by rw [fa]; exact Fr.refl _ _) rfl
            · go_at_call 11; refine (HSX2.out _ hl8.out).mono ?_; rintro e1 wa ⟨rfl, fa⟩; exact hK _ _ fa rfl
            · go_at_call 11; refine (HSY2.out _ hl8.out).mono ?_; rintro e1 wa ⟨rfl, fa⟩; exact hK _ _ fa rfl
          case fin10false =>
            intro vals w' hle hV
            have h9 : vals 34 = .bool true := hV 34 (by decide)
            clear hV
            have hfin := F7.out.trans (Fr.trans (Fr.drew (Fr.refl (fun _ => False) w7)) hle (fun _ _ h => h)) (fun _ _ h => h)
            simp only [frOf, fill, List.setIfInBounds_toArray, List.set_cons_succ, List.set_cons_zero, Nat.reduceAdd]
            go_wp2_with fail
            go_ret
            exact ⟨by first | rfl | rw [h9], hfin⟩
        case true =>
          refine wp_region_told (by kernel_rfl) (fun a b => Fr (fun _ => False) a b) (fun w => Fr.refl _ w) (fun _ _ _ h k => h.trans k (fun _ _ h => h)) [54, 55, 56, 57, 58, 59, 60, 61, 62, 63, 64, 65, 66, 67, 68, 69, 70, 71, 72, 73, 74, 75, 76, 77, 78, 79, 80, 81, 82, 83, 84, 85, 86, 87, 10] rfl (by decide) (by intro d hd; simp at hd ⊢; omega)
            (fun i v _ => v = ([(.bool true), (.bool true), (.bool false), (.bool true), (.bool true), (.bool true), (.bool true), (.bool true), (.bool true), (.agg #[.int .i64 se, .int .i64 sr, .slice a6 sl.length c6]), (.agg #[.int .u16 se, .int .u16 sr, .slice a sl.length c]), (.agg #[.int .i64 se, .int .i64 sr, .slice a sl.length c]), (.bool true), (.bool true), (.bool true), (.agg #[.int .u16 y.1, .int .u16 y.2]), (.agg #[.int .u16 x.1, .int .u16 x.2]), (.bool true), (.bool true), undef, undef, undef, (.bool true), (.bool true), (.bool true), (.pointer (some ⟨b, 0, none⟩)), (.agg #[.int .u16 x.1, .int .u16 x.2]), (.bool true), (.bool true), (.bool true), (.pointer (some ⟨b, 0, none⟩)), (.agg #[.int .u16 y.1, .int .u16 y.2]), (.bool true), (.bool true), (.bool true)] : List Value).getD i undef)
            (fun _ _ _ _ _ h => h) (by kernel_rfl) ?step10true ?fin10true
          case step10true =>
            intro vals
            simp only [frOf, fill, List.setIfInBounds_toArray, List.set_cons_succ, List.set_cons_zero]
            repeat' (first | exact AllOps.nil | refine AllOps.cons ?_ ?_)
            all_goals
              intro wx hle he K' hK
              simp only [Act.put, List.setIfInBounds_toArray, List.set_cons_succ, List.set_cons_zero, List.getD_cons_zero, List.getD_cons_succ] at hK
              simp only [List.mem_cons, List.not_mem_nil, or_false, forall_eq_or_imp, forall_eq, Region.binds, forall_const, false_imp_iff, List.getD_cons_zero, List.getD_cons_succ] at he
              try simp only [he] at hK ⊢
              have hl5 := Fr.trans (Fr.drew (Fr.refl (fun _ => False) w7)) hle (fun _ _ h => h)
              have hl8 := Lib.hid hl5
              obtain ⟨i0, i1⟩ : wx.cell? ⟨g, 0, none⟩ = some (.int .u16 x.1) ∧ wx.cell? ⟨g, 1, none⟩ = some (.int .u16 x.2) := by simp [World.cell?, crow_kept Q7.out.1 hl5 (fun h => h)]
              obtain ⟨j0, j1⟩ : wx.cell? ⟨g + 1, 0, none⟩ = some (.int .u16 y.1) ∧ wx.cell? ⟨g + 1, 1, none⟩ = some (.int .u16 y.2) := by simp [World.cell?, crow_kept Q7.out.2.1 hl5 (fun h => h)]
              obtain ⟨k0, k1, k2⟩ := cell3 (crow_kept Q7.out.2.2.1 hl5 (fun h => h))
              obtain ⟨m0, m1, m2⟩ := cell3 (crow_kept Q7.out.2.2.2.2 hl5 (fun h => h))
              clear hl5 hle he
              try go_simp
            all_goals first
              | exact hK _ _ (Fr.refl _ _) rfl
              | skip
            · go_at_call 13; refine (reply_any se sr a sl.length c _ HEa.out.1.1 HEa.out.1.2 HEa.out.2.1 HEa.out.2.2).mono ?_; rintro e1 wa ⟨rfl, fa⟩; exact hK _ _ fa rfl
            · go_at_call 10; refine (HAL.out _ hl8.out).mono ?_; rintro e1 wa ⟨rfl, fa⟩; exact hK _ _ fa rfl
            · go_at_call 11; refine (HSX2.out _ hl8.out).mono ?_; rintro e1 wa ⟨rfl, fa⟩; exact hK _ _ fa rfl
            · go_at_call 11; refine (HSY2.out _ hl8.out).mono ?_; rintro e1 wa ⟨rfl, fa⟩; exact hK _ _ fa rfl
          case fin10true =>
            intro vals w' hle hV
            have h9 : vals 34 = .bool true := hV 34 (by decide)
            clear hV
            have hfin := F7.out.trans (Fr.trans (Fr.drew (Fr.refl (fun _ => False) w7)) hle (fun _ _ h => h)) (fun _ _ h => h)
            simp only [frOf, fill, List.setIfInBounds_toArray, List.set_cons_succ, List.set_cons_zero, Nat.reduceAdd]
            go_wp2_with fail
            go_ret
            exact ⟨by first | rfl | rw [h9], hfin⟩


/-- In the form that the statement's lift takes. -/
theorem twice_all {w : World} (m : Int) (hm0 : 0 ≤ m) (hm1 : m ≤ 255) (x : IdN) (v : Value) (hv : IdV w x v) (y : IdN) (v' : Value) (hv' : IdV w y v') (s : Sa) (u : Value) (hu : SaV w s u) (s' : Sa) (u' : Value) (hu' : SaV w s' u') :
    Calls Try.prog 6 #[.int .u8 m, v, v', u, u'] w fun e w' => e = .returned (.bool true) ∧ Fr (fun _ => False) w w' := by
  obtain ⟨rfl, hx⟩ := hv
  obtain ⟨rfl, hy⟩ := hv'
  obtain ⟨a, c, rfl, hs, e0, e1, r0, r1⟩ := hu
  obtain ⟨a', c', rfl, hs', e0', e1', r0', r1'⟩ := hu'
  exact twice_law m hm0 hm1 x y hx hy s s' a a' c c' w hs hs' ⟨e0, e1⟩ ⟨r0, r1⟩ ⟨e0', e1'⟩ ⟨r0', r1'⟩
end Go.Proofs.Ytefijimijmjahaa
