/-
  Package troupe: Next.
-/
import Derived.Test.YtlcdmaehedhipaaTrBits
import Derived.Test.YtlcdmaehedhipaaRegionC
namespace Go.Proofs.Ytlcdmaehedhipaa
open Go.RowKit
set_option maxRecDepth 100000
set_option linter.unusedSimpArgs false
set_option linter.unusedVariables false

/-- Whether there is a view behind, and what it has. -/
def nxN (l m : List Int) : Bool := decide (chkM m = 0) && decide ((l.length : Int) < 2 * (inC l m : Int))
def nxV (n : Int) (l m : List Int) : Int := if nxN l m then n + 1 else 0
def nxL (l m : List Int) : List Int := if nxN l m then m else []

theorem qmode_gc : (Region.Mode.any == Region.Mode.gc) = false := rfl

theorem setCell_two {w : World} {b : Nat} {cs : Array Value} {t : TypeId} {fr : Nat × Nat} (i : Nat) {u : Value} (h : w.heap[b]? = some (.cells cs t fr)) : (w.setCell ⟨b, i, none⟩ u).heap[b]? = some (.cells (cs.setIfInBounds i u) t fr) := by
  unfold World.setCell
  simp only [Array.getElem?_modify, if_true, h, Option.map_some]
  simp

theorem store_two {w : World} {b : Nat} {x0 x1 y0 y1 : Value} {t : TypeId} (h : w.heap[b]? = some (.cells #[x0, x1] t (0, 0))) :
    ((w.setCell ⟨b, 0, none⟩ y0).setCell ⟨b, 1, none⟩ y1).heap[b]? = some (.cells #[y0, y1] t (0, 0)) :=
  setCell_two 1 (setCell_two 0 h)

theorem fr_two {w : World} {b : Nat} (y0 y1 : Value) {S : Nat → Prop} {w0 : World} (f : Fr S w0 w) (hb : b < w0.heap.size → S b) : Fr S w0 ((w.setCell ⟨b, 0, none⟩ y0).setCell ⟨b, 1, none⟩ y1) :=
  (f.setCell (p := ⟨b, 0, none⟩) hb _).setCell (p := ⟨b, 1, none⟩) hb _

theorem results_row_tmp {P : Program} {fn : Func} {p u : Tmp} {ty : TypeId} (h : fn.results = #[.cell p ty, .tmp u]) (tmps : Array Value) (w : World) (g : Nat) (t : TypeId) (cs : Array Value) (fr : Nat × Nat) (d : TypeDesc)
    (hp : tmps.getD p undef = .pointer (some ⟨g, 0, none⟩)) (hg : w.heap[g]? = some (.cells cs t fr))
    (hu : P.underlying ty = some d) (hd : (match d with | .struct _ | .array _ _ => true | _ => false) = true) (hi : (P.info? ty).map (·.size) = some cs.size) :
    (results fn tmps).run P w = .ok (.tuple #[.agg cs, tmps.getD u undef]) w := by
  rw [results_cell_tmp h]
  have hp' : tmps[p]?.getD undef = .pointer (some ⟨g, 0, none⟩) := by simpa using hp
  simp [hp', asAddr, run_loadVar_row w g t ty cs fr d hg hu hd hi, Result.andThen]

/-- A slice that shows x, made since w. -/
def SIn (w w' : World) (p : Option Addr) (k : Nat) (x : List Int) : Prop := SIc w' p k x ∧ (x ≠ [] → ∀ a, p = some a → w.heap.size ≤ a.block)

/-- The region that makes the next view: its number, a copy of the members, the store. -/
def NxS (w0 : World) (gr : Nat) (n : Int) (m : List Int) : List Value → World → Prop
  | [], wx => Fr (fun _ => False) w0 wx
  | [v], wx => Fr (fun _ => False) w0 wx ∧ OI wx w0.heap.size v m
  | [v, u], wx => Fr (fun _ => False) w0 wx ∧ OI wx w0.heap.size v m ∧ u = .agg #[.int .i64 (n + 1), v]
  | _, wx => Fr (fun k => k = gr) w0 wx ∧ ∃ v, OI wx w0.heap.size v m ∧ wx.heap[gr]? = some (.cells #[.int .i64 (n + 1), v] 27 (0, 0))

theorem NxS.fr {w0 : World} {gr : Nat} {n : Int} {m : List Int} {cvs : List Value} {wx : World} (h : NxS w0 gr n m cvs wx) : Fr (fun k => k = gr) w0 wx := by
  have up : ∀ {a b : World}, Fr (fun _ => False) a b → Fr (fun k => k = gr) a b := fun f => f.mono (fun _ _ h => h.elim)
  unfold NxS at h
  split at h
  · exact up h
  · exact up h.1
  · exact up h.1
  · exact h.1

set_option maxHeartbeats 8000000 in
theorem next_any (n : Int) (l m : List Int) (a b : Option Addr) (c d : Nat) (w : World) (hc : SIc w a c l) (hd : SIc w b d m) (hs : l.length ≤ 1000) (hs' : m.length ≤ 1000) (hn0 : 0 ≤ n) (hn1 : n ≤ 1000000) :
    Calls Try.prog 11 #[.agg #[.int .i64 n, .slice a l.length c], .slice b m.length d] w fun e w' =>
      ∃ p k, e = .returned (.tuple #[.agg #[.int .i64 (nxV n l m), .slice p (nxL l m).length k], .bool (nxN l m)]) ∧ SIn w w' p k (nxL l m) ∧ Fr (fun _ => False) w w' := by
  have hb0 : ((w.alloc (oVw n a l.length c)).alloc (oVw 0 none 0 0)).heap[w.heap.size]? = some (oVw n a l.length c) := lblock_kept (heap_alloc_new w (oVw n a l.length c)) ((Fr.refl (fun _ => False) _).alloc _) (fun h => h)
  have hb1 := heap_alloc_new (w.alloc (oVw n a l.length c)) (oVw 0 none 0 0)
  have f1 : Fr (fun _ => False) w ((w.alloc (oVw n a l.length c)).alloc (oVw 0 none 0 0)) := ((Fr.refl _ _).alloc _).alloc _
  have hz : (w.alloc (oVw n a l.length c)).heap.size = w.heap.size + 1 := by simp
  have hz2 : ((w.alloc (oVw n a l.length c)).alloc (oVw 0 none 0 0)).heap.size = w.heap.size + 2 := by simp
  rw [hz] at hb1
  clear hz
  have Hc := Lib.hid hc
  have Hd := Lib.hid hd
  have Hs := Lib.hid hs
  have Hs' := Lib.hid hs'
  have Hn := Lib.hid (And.intro hn0 hn1)
  clear hc hd hn0 hn1
  go_enter Try.func11, Try.ntmps11
  go_upto_region 1 with fail
  generalize (w.alloc (oVw n a l.length c)).alloc (oVw 0 none 0 0) = w0 at *
  obtain ⟨gr, hgr⟩ : ∃ gr, w.heap.size + 1 = gr := ⟨_, rfl⟩
  rw [hgr] at hb1 ⊢
  obtain ⟨gv, hgv⟩ : ∃ gv, w.heap.size = gv := ⟨_, rfl⟩
  rw [hgv] at hb0 ⊢
  have HZ := Lib.hid (And.intro hgv (And.intro hgr hz2))
  have hne : gv ≠ gr := by omega
  clear hgv hgr hz2
  have F0 := Lib.hid f1
  have HB0 := Lib.hid hb0
  have HB1 := Lib.hid hb1
  clear f1 hb0
  by_cases h1 : chkM m = 0
  case neg =>
    have h1' : (chkM m != 0) = true := by simpa using h1
    have HN : Hid (nxN l m = false) := Lib.hid (by unfold nxN; simp [h1])
    clear h1 hb1
    have hst := store_two (y0 := .int .i64 0) (y1 := .slice none 0 0) HB1.out
    obtain ⟨r0, r1⟩ := vw_cells HB1.out
    have z0 : w0.frozen? ⟨gr, 0, none⟩ = false := by simp [World.frozen?, HB1.out]
    have z1 : w0.frozen? ⟨gr, 1, none⟩ = false := by simp [World.frozen?, HB1.out]
    have HST := Lib.hid hst
    clear hst
    go_wp2_with fail
    refine (tmembers_any m b d _ (Hd.out.fr F0.out) Hs'.out).mono ?_
    rintro e w1 ⟨rfl, rfl⟩
    go_wp2_with fail
    refine bodyPost_ret (results_row_tmp rfl _ _ gr 27 _ _ _ rfl HST.out Try.underlying27 rfl (by kernel_rfl)) rfl ?_
    refine ⟨none, 0, ?_, ?_, fr_two _ _ F0.out (fun h => by have := HZ.out; omega)⟩
    · unfold nxV nxL; rw [HN.out]; rfl
    · unfold nxL; rw [HN.out]; exact ⟨fun h => absurd h (by simp), fun h => absurd rfl h⟩
  have h1' : (chkM m != 0) = false := by simpa using h1
  obtain ⟨q0, q1⟩ := vw_cells HB0.out
  have hmost := fun W (f : Fr (fun _ => False) w W) => most_any n l m a b c d W (Hc.out.fr f) (Hd.out.fr f) Hs.out Hs'.out
  obtain ⟨B, hB⟩ : ∃ B, decide ((l.length : Int) < 2 * (inC l m : Int)) = B := ⟨_, rfl⟩
  simp only [hB] at hmost
  have HM := Lib.hid hmost
  have HN : Hid (nxN l m = B) := Lib.hid (by unfold nxN; simp [h1, hB])
  clear h1 hB hmost
  go_wp2_with fail
  refine (tmembers_any m b d _ (Hd.out.fr F0.out) Hs'.out).mono ?_
  rintro e w1 ⟨rfl, rfl⟩
  go_wp2_with fail
  refine (HM.out _ F0.out).mono ?_
  rintro e w1 ⟨rfl, f2⟩
  clear q0 q1 hb1
  have HB2 := Lib.hid (lblock_kept HB1.out f2 (fun h => h))
  have HB3 := Lib.hid (lblock_kept HB0.out f2 (fun h => h))
  have F2 := Lib.hid (F0.out.trans f2 (fun _ _ h => h))
  have HZ2 := Lib.hid (show gr < w1.heap.size from by have := HZ.out; have := f2.size; omega)
  clear f2
  cases B
  case false =>
    have hst := store_two (y0 := .int .i64 0) (y1 := .slice none 0 0) HB2.out
    obtain ⟨r0, r1⟩ := vw_cells HB2.out
    have z0 : w1.frozen? ⟨gr, 0, none⟩ = false := by simp [World.frozen?, HB2.out]
    have z1 : w1.frozen? ⟨gr, 1, none⟩ = false := by simp [World.frozen?, HB2.out]
    have HST := Lib.hid hst
    clear hst
    go_wp2_with fail
    refine bodyPost_ret (results_row_tmp rfl _ _ gr 27 _ _ _ rfl HST.out Try.underlying27 rfl (by kernel_rfl)) rfl ?_
    refine ⟨none, 0, ?_, ?_, fr_two _ _ F2.out (fun h => by have := HZ.out; omega)⟩
    · unfold nxV nxL; rw [HN.out]; rfl
    · unfold nxL; rw [HN.out]; exact ⟨fun h => absurd h (by simp), fun h => absurd rfl h⟩
  case true =>
    have HW : Hid (IntKind.i64.wrap (n + 1) = n + 1) := Lib.hid (by have := Hn.out; rw [IntKind.wrap_i64]; omega)
    go_upto_region 3 with fail
    refine wp_region_chain (by kernel_rfl) [some 16, some 17, some 18, some 19, some 20, some 21, none, some 5] rfl (by decide) (by intro d hd; simp at hd ⊢; omega)
      [4, 5, 6] (fun cvs wx => NxS w1 gr n m cvs wx)
      [.free (.pointer (some ⟨gv, 0, none⟩)), .free (.int .i64 n), .free (.int .i64 (n + 1)), .free (.slice b m.length d), .link none, .link none, .link none, .free (.bool true)]
      (by kernel_rfl) (by kernel_rfl) ?h3 ?step3 ?fin3
    case h3 => exact (Fr.refl _ _).drew
    case step3 =>
      intro vals
      simp only [frOfU, fillU, List.setIfInBounds_toArray, List.set_cons_succ, List.set_cons_zero]
      repeat' (first | exact AllOps.nil | refine AllOps.cons ?_ ?_)
      all_goals
        intro cvs wx hS he hu hlim Kc hK
        simp only [Act.put, List.setIfInBounds_toArray, List.set_cons_succ, List.set_cons_zero, List.getD_cons_zero, List.getD_cons_succ] at hK
        simp only [List.mem_cons, List.not_mem_nil, or_false, forall_eq_or_imp, forall_eq, Region.binds, forall_const, qmode_gc, Bool.false_eq_true, false_imp_iff, List.getD_cons_zero, List.getD_cons_succ, OpSort.val, Option.some.injEq, forall_eq', reduceCtorEq, implies_true, true_and, and_true] at he
        have hfr := NxS.fr hS
        obtain ⟨q0, q1⟩ := vw_cells (lblock_kept HB3.out hfr (fun h => hne h))
        have hw := HW.out
        clear hfr
        have HSX := Lib.hid hS
        clear hS
      all_goals first | (clear hlim hu; (try simp only [he] at hK ⊢); go_simp; exact hK) | skip
      · obtain rfl := hlim (0 : Nat) rfl
        have h1 : Fr (fun _ => False) w1 wx := HSX.out
        have H1 := Lib.hid h1
        clear hlim hu HSX h1
        simp only [he] at hK ⊢
        go_simp
        go_at_call 20
        refine (lclone_any m b d _ (Hd.out.fr (F2.out.trans H1.out (fun _ _ h => h))) Hs'.out).mono ?_
        rintro e1 wa ⟨v, rfl, ho, fa⟩
        refine hK _ _ (fun _ h => by cases h) ⟨H1.out.trans fa (fun _ _ h => h), ?_⟩
        exact ⟨ho.1, by
          rcases ho.2 with h | ⟨g, cap, cur, e, h1, rest⟩
          · exact .inl h
          · exact .inr ⟨g, cap, cur, e, by have := H1.out.size; omega, rest⟩⟩
      · obtain rfl := hlim (1 : Nat) rfl
        have h1 := HSX.out
        clear HSX hlim hu
        simp only [List.take_succ_cons, List.take_zero, List.map_cons, List.map_nil] at h1 hK
        obtain ⟨f, ho⟩ := h1
        obtain ⟨p, k, hv⟩ := slice_of_own ho
        have HO := Lib.hid (And.intro f ho)
        clear f ho
        simp only [he, hv] at hK ⊢
        go_simp
        refine hK _ _ (fun _ h => by cases h) ⟨HO.out.1, ?_, rfl⟩
        rw [← hv]
        exact HO.out.2
      · obtain rfl := hlim (2 : Nat) rfl
        have h1 := HSX.out
        clear HSX hlim hu
        simp only [List.take_succ_cons, List.take_zero, List.map_cons, List.map_nil] at h1 hK
        obtain ⟨f, ho, hv2⟩ := h1
        have hgr := lblock_kept HB2.out f (fun h => h)
        obtain ⟨r0, r1⟩ := vw_cells hgr
        have z0 : wx.frozen? ⟨gr, 0, none⟩ = false := by simp [World.frozen?, hgr]
        have z1 : wx.frozen? ⟨gr, 1, none⟩ = false := by simp [World.frozen?, hgr]
        obtain ⟨p, k, hv⟩ := slice_of_own ho
        have HO := Lib.hid (And.intro f ho)
        have HG := Lib.hid hgr
        clear f ho hgr
        simp only [he, hv2, hv] at hK ⊢
        go_simp
        refine hK undef _ (fun _ h => by cases h) ⟨fr_two _ _ (HO.out.1.mono (fun _ _ h => h.elim)) (fun _ => rfl), _, ?_, store_two HG.out⟩
        rw [← hv]
        exact oi_fr (S := fun k => k = gr) HO.out.2 (fr_two _ _ (Fr.refl _ _) (fun _ => rfl)) (fun k hk h => by have := oi_le HO.out.2 k hk; have := HZ2.out; omega)
    case fin3 =>
      intro vals w' hS hV
      have v7 := hV 7 _ (by decide) rfl
      clear hV
      simp only [List.map_cons, List.map_nil] at hS
      obtain ⟨hf, v, ho, hb⟩ := hS
      have HF := Lib.hid (And.intro hf (And.intro ho hb))
      clear hf ho hb
      simp only [frOfU, fillU, List.setIfInBounds_toArray, List.set_cons_succ, List.set_cons_zero]
      simp only [Nat.reduceAdd, v7]
      go_wp2_with fail
      refine bodyPost_ret (results_row_tmp rfl _ _ gr 27 _ _ _ rfl HF.out.2.2 Try.underlying27 rfl (by kernel_rfl)) rfl ?_
      obtain ⟨p, k, hv, hpk⟩ := (OI.si HF.out.2.1).shape
      refine ⟨p, k, ?_, ?_, F2.out.trans HF.out.1 (fun i hi h => by have := HZ.out; omega)⟩
      · unfold nxV nxL; rw [HN.out, hv]; rfl
      · unfold nxL; rw [HN.out]
        refine ⟨hpk, fun _ a ha => ?_⟩
        have h1 := oi_le HF.out.2.1 a.block (by rw [hv, ha]; rfl)
        have := F2.out.size
        exact Nat.le_trans this h1


set_option maxHeartbeats 8000000 in
theorem tawake_any (w : World) : Calls Try.prog 8 #[] w fun e w' => e = .returned (.bool true) ∧ Fr (fun _ => False) w w' := by
  have hr : ∀ (w : World) (x y z : Int), SIc (w.alloc (.cells #[.int .i64 x, .int .i64 y, .int .i64 z] 3)) (some ⟨w.heap.size, 0, none⟩) 3 [x, y, z] := fun w x y z _ => by
    refine ⟨by simp, _, _, rfl, fun j hj => ?_⟩
    rw [Nat.zero_add, cell_of_row _ _ _ _ _ _ (heap_alloc_new w _)]
    match j, hj with
    | 0, _ => rfl
    | 1, _ => rfl
    | 2, _ => rfl
  have h0 := (hr w 0 1 2).fr ((Fr.refl (fun _ => False) _).alloc (.cells #[.int .i64 1, .int .i64 2, .int .i64 5] 3))
  have h1 := hr (w.alloc (.cells #[.int .i64 0, .int .i64 1, .int .i64 2] 3)) 1 2 5
  have f0 : Fr (fun _ => False) w ((w.alloc (.cells #[.int .i64 0, .int .i64 1, .int .i64 2] 3)).alloc (.cells #[.int .i64 1, .int .i64 2, .int .i64 5] 3)) := ((Fr.refl _ _).alloc _).alloc _
  have hz : (w.alloc (.cells #[.int .i64 0, .int .i64 1, .int .i64 2] 3)).heap.size = w.heap.size + 1 := by simp
  rw [hz] at h1
  clear hz hr
  go_enter Try.func8, Try.ntmps8
  go_wp2_with fail
  generalize (w.alloc (.cells #[.int .i64 0, .int .i64 1, .int .i64 2] 3)).alloc (.cells #[.int .i64 1, .int .i64 2, .int .i64 5] 3) = w0 at *
  generalize w.heap.size + 1 = g1 at *
  generalize w.heap.size = g0 at *
  have F0 := Lib.hid f0
  clear f0
  refine (next_any 0 [0, 1, 2] [1, 2, 5] _ _ 3 3 _ h0 h1 (by simp) (by simp) (by omega) (by omega)).mono ?_
  rintro e w1 ⟨p, k, rfl, ⟨hp, -⟩, f1⟩
  have e1 : nxN [0, 1, 2] [1, 2, 5] = true := by decide
  have e2 : nxV 0 [0, 1, 2] [1, 2, 5] = 1 := by decide
  have e3 : nxL [0, 1, 2] [1, 2, 5] = [1, 2, 5] := by decide
  rw [e1, e2, e3]
  rw [e3] at hp
  clear e1 e2 e3 h0 h1
  have hb := heap_alloc_new w1 (oVw 1 p [1, 2, 5].length k)
  have f2 : Fr (fun _ => False) w1 (w1.alloc (oVw 1 p [1, 2, 5].length k)) := (Fr.refl _ _).alloc _
  have HP := Lib.hid (hp.fr f2)
  have F1 := Lib.hid (F0.out.trans (f1.trans f2 (fun _ _ h => h)) (fun _ _ h => h))
  clear hp f1 f2
  simp only [List.length_cons, List.length_nil, Nat.reduceAdd] at *
  go_upto_region 2 with fail
  generalize w1.alloc (oVw 1 p 3 k) = w2 at *
  generalize w1.heap.size = g2 at *
  obtain ⟨q0, q1⟩ := vw_cells hb
  clear hb
  go_wp2_with fail
  refine (has_any 1 5 [1, 2, 5] p k _ HP.out (by simp)).mono ?_
  rintro e w3 ⟨rfl, f3⟩
  rw [show decide ((5 : Int) ∈ [1, 2, 5]) = true from by decide]
  clear q0 q1
  go_wp2_with fail
  go_ret
  exact ⟨rfl, F1.out.trans f3 (fun _ _ h => h)⟩

end Go.Proofs.Ytlcdmaehedhipaa
