/-
  LetAny, part 9 of what it rests on: LetCheck, LetWriteDef, LetWrite, LetOb.
-/
import Derived.Test.YtjnbpgadgdjobaaS08
import Derived.Test.YtjnbpgadgdjobaaS04
set_option linter.unusedVariables false
set_option linter.unusedSimpArgs false
set_option maxHeartbeats 64000000
namespace Go.Proofs.Ytjnbpgadgdjobaa
open Go.RowKit
open Go.Lib (hid)
section
set_option maxRecDepth 100000

def firstE : List Int → Int
  | [] => 0
  | x :: l => if x = 0 then firstE l else x

def Lt.nums (x : Lt) : Bool := nodeN x.f && (nodeN x.t && (longN x.p && (rightN x.b1 x.b2 && rightN x.w1 x.w2)))
def Lt.errs (x : Lt) : List Int := [x.chkV, x.e.chk, cchk x.cp x.cl.length, achk x.ae x.ar x.al.length]
/-- The first error of a letter. -/
def Lt.chk (x : Lt) : Int := if 8 ≤ x.k then 5 else if x.only.nums = true then firstE x.only.errs else 2

theorem chk_of (x : Lt) {a b c d e : Bool} (ha : a = nodeN x.only.f) (hb : b = nodeN x.only.t) (hc : c = longN x.only.p) (hd : d = rightN x.only.b1 x.only.b2) (he : e = rightN x.only.w1 x.only.w2) (h : ¬ 8 ≤ x.k) : x.chk = if (a && (b && (c && (d && e)))) = true then firstE x.only.errs else 2 := by
  unfold Lt.chk Lt.nums
  rw [if_neg h, ha, hb, hc, hd, he]

/-- Bounds on a letter's lists, and on its entry's kind. -/
structure Lt.lens (x : Lt) : Prop where
  el : x.e.l.length ≤ 100000
  em : x.e.m.length ≤ 1000
  vm : x.vm.length ≤ 1000
  cl : x.cl.length ≤ 100000
  al : x.al.length ≤ 100000
  k0 : 0 ≤ x.e.k
  k1 : x.e.k ≤ 255

theorem only_lens {x : Lt} (h : x.lens) : x.only.lens := by
  obtain ⟨h1, h2, h3, h4, h5, h6, h7⟩ := h
  unfold Lt.only Lt.mask
  refine ⟨?_, ?_, ?_, ?_, ?_, ?_, ?_⟩
  all_goals
    simp only
    split
    all_goals first | assumption | (simp [En.zero])

theorem only_k (x : Lt) : x.only.k = x.k := rfl

theorem wanted_of {o : Oper} {y : Nat → Option Bool} {A B : Prop} (hg : o.guard = none) (h : A) : if Region.wanted o y = true then A else B := by
  unfold Region.wanted
  rw [hg]
  exact h

/-- A row of four errors. -/
def Four (w : World) (v : Value) (e0 e1 e2 e3 : Int) : Prop := ∃ g, v = .slice (some ⟨g, 0, none⟩) 4 4 ∧ w.heap[g]? = some (.cells #[.int .i64 e0, .int .i64 e1, .int .i64 e2, .int .i64 e3] 47 (0, 0))

theorem Four.fr {w w' : World} {v : Value} {e0 e1 e2 e3 : Int} (h : Four w v e0 e1 e2 e3) (f : Fr (fun _ => False) w w') : Four w' v e0 e1 e2 e3 := by
  obtain ⟨g, h1, h2⟩ := h
  exact ⟨g, h1, crow_kept h2 f (fun h => h)⟩

/-- What the operations of the four checks leave. -/
def CkL (g : Nat) (y : Lt) (s : Ls) (a4 a5 : Option Addr) (c4 c5 : Nat) : List (Value → World → Prop) :=
  [fun v _ => v = .agg (y.cs s), fun v _ => v = .int .i64 y.chkV, fun v _ => v = .pointer (some ⟨g, 9, none⟩), fun v _ => v = y.e.val s.ea s.em, fun v _ => v = .int .i64 y.e.chk,
   fun v _ => v = .pointer (some ⟨g, 17, none⟩), fun v _ => v = .agg #[.int .u16 y.ct, .int .u16 y.cn, .int .i64 y.cp, .slice a4 y.cl.length c4], fun v _ => v = .int .i64 (cchk y.cp y.cl.length),
   fun v _ => v = .pointer (some ⟨g, 23, none⟩), fun v _ => v = .agg #[.int .i64 y.ae, .int .i64 y.ar, .slice a5 y.al.length c5], fun v _ => v = .int .i64 (achk y.ae y.ar y.al.length),
   fun v w => Four w v y.chkV y.e.chk (cchk y.cp y.cl.length) (achk y.ae y.ar y.al.length), fun v _ => v = .int .i64 4, fun v _ => v = .int .i64 0]

theorem CkL_mono (g : Nat) (y : Lt) (s : Ls) (a4 a5 : Option Addr) (c4 c5 : Nat) : ∀ (i : Nat) (v : Value) (w w' : World), Fr (fun _ => False) w w' → (CkL g y s a4 a5 c4 c5).getD i (fun _ _ => True) v w → (CkL g y s a4 a5 c4 c5).getD i (fun _ _ => True) v w' := by
  intro i v w w' f
  match i with
  | 0 => exact id
  | 1 => exact id
  | 2 => exact id
  | 3 => exact id
  | 4 => exact id
  | 5 => exact id
  | 6 => exact id
  | 7 => exact id
  | 8 => exact id
  | 9 => exact id
  | 10 => exact id
  | 11 => exact fun h => h.fr f
  | 12 => exact id
  | 13 => exact id
  | n + 14 => exact fun _ => trivial

theorem lcheck_any (x : Lt) (s : Ls) (w : World) (hL : LS w x s) (hB : x.lens) (hk0 : 0 ≤ x.k) :
    Calls Try.prog 13 #[.agg (x.cs s)] w fun e w' => e = .returned (.int .i64 x.chk) ∧ Fr (fun _ => False) w w' := by
  have q0 := heap_alloc_new w (oLt x s)
  have F := Lib.hid (show Fr (fun _ => False) w (w.alloc (oLt x s)) from (Fr.refl _ _).alloc _)
  have Q := Lib.hid q0
  have HL := Lib.hid hL
  have HB := Lib.hid hB
  obtain ⟨c0, -, -, -, -, -, -, -, -⟩ := lt_cells q0
  have hk : 8 ≤ x.k ∨ ¬ 8 ≤ x.k := Decidable.em _
  clear q0 hL hB
  obtain ⟨k, hkk⟩ : ∃ k, k = x.k := ⟨_, rfl⟩
  rw [← hkk] at c0 hk0 hk
  have HK := Lib.hid hkk
  clear hkk
  rcases hk with h8 | h8
  · have hR : Hid (x.chk = 5) := Lib.hid (by unfold Lt.chk; rw [if_pos (by rw [← HK.out]; exact h8)])
    go_enter Try.func13, Try.ntmps13
    go_wp2_with fail
    go_ret
    rw [hR.out]
    exact ⟨rfl, F.out⟩
  obtain ⟨ba, hba⟩ : ∃ b, b = nodeN x.only.f := ⟨_, rfl⟩
  obtain ⟨bb, hbb⟩ : ∃ b, b = nodeN x.only.t := ⟨_, rfl⟩
  obtain ⟨bc, hbc⟩ : ∃ b, b = longN x.only.p := ⟨_, rfl⟩
  obtain ⟨bd, hbd⟩ : ∃ b, b = rightN x.only.b1 x.only.b2 := ⟨_, rfl⟩
  obtain ⟨be, hbe⟩ : ∃ b, b = rightN x.only.w1 x.only.w2 := ⟨_, rfl⟩
  have HR := Lib.hid (chk_of x hba hbb hbc hbd hbe (by rw [← HK.out]; exact h8))
  have HH := Lib.hid (And.intro hba (And.intro hbb (And.intro hbc (And.intro hbd hbe))))
  clear hba hbb hbc hbd hbe
  obtain ⟨R, hRR⟩ : ∃ R, R = x.chk := ⟨_, rfl⟩
  rw [← hRR] at HR ⊢
  clear hRR HK
  go_enter Try.func13, Try.ntmps13
  go_upto_region 3 with fail
  clear c0 h8 hk0
  generalize w.alloc (oLt x s) = w0 at *
  obtain ⟨g, hg⟩ : ∃ g, g = w.heap.size := ⟨_, rfl⟩
  rw [← hg] at Q ⊢
  have HG := Lib.hid hg
  clear hg
  go_wp2_with (refine load_lt rfl 51 (.tmp 1) rfl g (x.cs s) 51 (0, 0) rfl Q.out _ Try.underlying51 rfl (by kernel_rfl) ?_)
  refine (only_any x s w0 (HL.out.fr F.out) HB.out.el HB.out.em HB.out.vm HB.out.cl HB.out.al).mono ?_
  rintro e w1 ⟨s1, rfl, hl1, f1, hn1⟩
  have Q1 := Lib.hid (crow_kept Q.out f1 (fun h => h))
  have F1 := Lib.hid (F.out.trans f1 (fun _ _ h => h))
  have L1 := Lib.hid (And.intro hl1 (hn1.le (vt_lt Q.out)))
  clear hl1 f1 hn1 F HL
  dsimp only
  go_upto_region 4 with (refine store_lt rfl 51 (.tmp 1) (.tmp 9) rfl g (x.only.cs s1) rfl rfl 51 _ Q1.out (by kernel_rfl) rfl L1.out.1.one ?_)
  have hq := setRow_heap _ _ _ (x.only.cs s1) _ _ Q1.out
  have hfr := Fr.letRow (S := fun k => k = g) (Fr.refl _ w1) (g := g) (fun _ => rfl) (x.only.cs s1)
  have hl2 := L1.out.1.off hfr L1.out.2
  have f2 : Fr (fun _ => False) w (w1.setRow g (x.only.cs s1)) := F1.out.trans hfr (fun i hi e => by have := HG.out; omega)
  generalize w1.setRow g (x.only.cs s1) = w2 at *
  have Q2 := Lib.hid hq
  have L2 := Lib.hid hl2
  have F2 := Lib.hid f2
  have OB := Lib.hid (only_lens HB.out)
  clear hq hfr hl2 f2 F1 Q1 L1 Q HB
  obtain ⟨y, hy⟩ : ∃ y, y = x.only := ⟨_, rfl⟩
  rw [← hy] at Q2 L2 OB HH HR
  clear hy
  obtain ⟨c0, c1, c2, c3, c4, c5, c6, c7, c8⟩ := lt_cells Q2.out
  go_wp2_with fail
  refine (lnode_any y.f w2).mono ?_
  rintro e w3 ⟨rfl, rfl⟩
  rw [← HH.out.1]
  dsimp only
  cases ba with
  | false =>
    go_wp2_with fail
    go_ret
    exact ⟨by rw [HR.out]; rfl, F2.out⟩
  | true =>
    go_wp2_with fail
    refine (lnode_any y.t w2).mono ?_
    rintro e w3 ⟨rfl, rfl⟩
    rw [← HH.out.2.1]
    dsimp only
    cases bb with
    | false =>
      go_wp2_with fail
      go_ret
      exact ⟨by rw [HR.out]; rfl, F2.out⟩
    | true =>
      go_wp2_with fail
      refine (llong_any y.p w2).mono ?_
      rintro e w3 ⟨rfl, rfl⟩
      rw [← HH.out.2.2.1]
      dsimp only
      cases bc with
      | false =>
        go_wp2_with fail
        go_ret
        exact ⟨by rw [HR.out]; rfl, F2.out⟩
      | true =>
        go_wp2_with fail
        refine (lright_any y.b1 y.b2 w2).mono ?_
        rintro e w3 ⟨rfl, f3⟩
        have Q3 := Lib.hid (crow_kept Q2.out f3 (fun h => h))
        have F3 := Lib.hid (F2.out.trans f3 (fun _ _ h => h))
        have L3 := Lib.hid (L2.out.fr f3)
        clear f3 F2 L2 Q2 c0 c1 c2 c3 c4 c5 c6 c7 c8
        rw [← HH.out.2.2.2.1]
        dsimp only
        cases bd with
        | false =>
          go_wp2_with fail
          go_ret
          exact ⟨by rw [HR.out]; rfl, F3.out⟩
        | true =>
          obtain ⟨c0, c1, c2, c3, c4, c5, c6, c7, c8⟩ := lt_cells Q3.out
          go_wp2_with fail
          refine (lright_any y.w1 y.w2 w3).mono ?_
          rintro e w4 ⟨rfl, f4⟩
          have Q4 := Lib.hid (crow_kept Q3.out f4 (fun h => h))
          have F4 := Lib.hid (F3.out.trans f4 (fun _ _ h => h))
          have L4 := Lib.hid (L3.out.fr f4)
          clear f4 F3 L3 Q3 c0 c1 c2 c3 c4 c5 c6 c7 c8
          rw [← HH.out.2.2.2.2]
          dsimp only
          cases be with
          | false =>
            go_wp2_with fail
            go_ret
            exact ⟨by rw [HR.out]; rfl, F4.out⟩
          | true =>
            have hR2 : R = firstE y.errs := by rw [HR.out]; rfl
            have HR2 := Lib.hid hR2
            clear HR hR2 HH
            go_upto_region 6 with fail
            obtain ⟨a4, d4, he4, -⟩ := L4.out.c.shape
            obtain ⟨a5, d5, he5, -⟩ := L4.out.a.shape
            have HE4 := Lib.hid he4
            have HE5 := Lib.hid he5
            clear he4 he5
            refine wp_region_told (by kernel_rfl) (fun a b => Fr (fun _ => False) a b) (fun w => Fr.refl _ w) (fun _ _ _ h k => h.trans k (fun _ _ h => h)) [38, 39, 40, 41, 42, 43, 44, 45, 46, 47, 48, 49, 50, 51] rfl (by decide) (by intro d hd; simp at hd ⊢; omega)
              (fun i v wx => (CkL g y s1 a4 a5 d4 d5).getD i (fun _ _ => True) v wx)
              (CkL_mono g y s1 a4 a5 d4 d5) (by kernel_rfl) ?step ?fin
            case step =>
              intro vals
              simp only [frOf, fill, List.setIfInBounds_toArray, List.set_cons_succ, List.set_cons_zero]
              repeat' (first | exact AllOps.nil | refine AllOps.cons ?_ ?_)
              all_goals
                intro wx hle he K' hK
                simp only [Act.put, List.setIfInBounds_toArray, List.set_cons_succ, List.set_cons_zero, CkL, List.getD_cons_zero, List.getD_cons_succ] at hK
                simp only [List.mem_cons, List.not_mem_nil, or_false, forall_eq_or_imp, forall_eq, Region.binds, forall_const, false_imp_iff, CkL, List.getD_cons_zero, List.getD_cons_succ] at he
                have hl5 := Fr.trans (Fr.drew (Fr.refl (fun _ => False) w4)) hle (fun _ _ h => h)
                have hqx := crow_kept Q4.out hl5 (fun h => h)
                have HQX := Lib.hid hqx
                have hl8 := Lib.hid hl5
                clear hl5 hle
              · refine wanted_of rfl ?_
                exact wp_load_row 51 (.tmp 1) rfl g rfl 51 (y.cs s1) (0, 0) _ HQX.out Try.underlying51 rfl (by kernel_rfl) (hK _ _ (Fr.refl _ _) rfl)
              all_goals
                obtain ⟨c9, c10, c11, c12, c13, c14⟩ := lt_cells2 hqx
                obtain ⟨-, -, c17, c18, c19, c20, -, -, c23, c24, c25⟩ := lt_cells3 hqx
                rw [HE4.out] at c20
                rw [HE5.out] at c25
                clear hqx
              all_goals first
                | ((try simp only [he] at hK ⊢); go_simp; exact hK _ _ (Fr.refl _ _) rfl)
                | skip
              all_goals clear c9 c10 c11 c12 c13 c14 c17 c18 c19 c20 c23 c24 c25
              · simp only [he] at hK ⊢
                go_simp
                go_at_call 30
                refine (checkView_any y s1 wx (L4.out.fr hl8.out) OB.out.vm).mono ?_
                rintro er wa ⟨rfl, fra⟩
                exact hK _ _ fra rfl
              · simp only [he] at hK ⊢
                go_simp
                go_at_call 31
                refine (vcheck_any y.e s1.ea s1.em wx (L4.out.e.fr hl8.out) OB.out.em OB.out.k0 OB.out.k1).mono ?_
                rintro er wa ⟨rfl, fra⟩
                exact hK _ _ fra rfl
              · simp only [he] at hK ⊢
                go_simp
                go_at_call 32
                refine (ccheck_any y.ct y.cn y.cp a4 y.cl.length d4 wx).mono ?_
                rintro er wa ⟨rfl, fra⟩
                exact hK _ _ fra rfl
              · simp only [he] at hK ⊢
                go_simp
                go_at_call 33
                refine (acheck_any y.ae y.ar a5 y.al.length d5 wx).mono ?_
                rintro er wa ⟨rfl, fra⟩
                exact hK _ _ fra rfl
              · simp only [he] at hK ⊢
                go_simp
                exact hK _ _ ((Fr.refl _ _).alloc _) ⟨_, rfl, heap_alloc_new _ _⟩
              · obtain ⟨gf, e11, -⟩ := he
                simp only [e11] at hK ⊢
                go_simp
                exact hK _ _ (Fr.refl _ _) rfl
            case fin =>
              intro vals w5 hle hV
              have F5 : Hid (Fr (fun _ => False) w w5) := Lib.hid (F4.out.trans (Fr.trans (Fr.drew (Fr.refl (fun _ => False) w4)) hle (fun _ _ h => h)) (fun _ _ h => h))
              have v0 := hV 0 (by decide)
              have v1 := hV 1 (by decide)
              have v2 := hV 2 (by decide)
              have v3 := hV 3 (by decide)
              have v4 := hV 4 (by decide)
              have v5 := hV 5 (by decide)
              have v6 := hV 6 (by decide)
              have v7 := hV 7 (by decide)
              have v8 := hV 8 (by decide)
              have v9 := hV 9 (by decide)
              have v10 := hV 10 (by decide)
              have v11 := hV 11 (by decide)
              have v12 := hV 12 (by decide)
              have v13 := hV 13 (by decide)
              clear hV hle
              simp only [CkL, List.getD_cons_zero, List.getD_cons_succ] at v0 v1 v2 v3 v4 v5 v6 v7 v8 v9 v10 v11 v12 v13
              obtain ⟨gf, v11, hgf⟩ := v11
              simp only [frOf, fill, List.setIfInBounds_toArray, List.set_cons_succ, List.set_cons_zero]
              simp only [Nat.reduceAdd, v0, v1, v2, v3, v4, v5, v6, v7, v8, v9, v10, v11, v12, v13]
              clear v0 v1 v2 v3 v4 v5 v6 v7 v8 v9 v10 v11 v12 v13
              have e0 := crow hgf 0 _ rfl
              have e1 := crow hgf 1 _ rfl
              have e2 := crow hgf 2 _ rfl
              have e3 := crow hgf 3 _ rfl
              clear hgf
              unfold Lt.errs at HR2
              generalize y.chkV = r0 at *
              generalize y.e.chk = r1 at *
              generalize cchk y.cp y.cl.length = r2 at *
              generalize achk y.ae y.ar y.al.length = r3 at *
              by_cases z0 : r0 = 0
              case neg =>
                have hR : R = r0 := by rw [HR2.out]; simp [firstE, z0]
                have HR := Lib.hid hR
                have zz : (r0 != 0) = true := by simp [z0]
                clear hR z0 HR2
                go_wp2_with fail
                refine wp_loop_rounds 1 ?_
                rw [rounds_succ]
                go_wp2_with fail
                go_ret
                rw [HR.out]
                exact ⟨rfl, F5.out⟩
              subst z0
              by_cases z1 : r1 = 0
              case neg =>
                have hR : R = r1 := by rw [HR2.out]; simp [firstE, z1]
                have HR := Lib.hid hR
                have zz : (r1 != 0) = true := by simp [z1]
                clear hR z1 HR2
                go_wp2_with fail
                refine wp_loop_rounds 2 ?_
                rw [rounds_succ]
                go_wp2_with fail
                rw [rounds_succ]
                go_wp2_with fail
                go_ret
                rw [HR.out]
                exact ⟨rfl, F5.out⟩
              subst z1
              by_cases z2 : r2 = 0
              case neg =>
                have hR : R = r2 := by rw [HR2.out]; simp [firstE, z2]
                have HR := Lib.hid hR
                have zz : (r2 != 0) = true := by simp [z2]
                clear hR z2 HR2
                go_wp2_with fail
                refine wp_loop_rounds 3 ?_
                rw [rounds_succ]
                go_wp2_with fail
                rw [rounds_succ]
                go_wp2_with fail
                rw [rounds_succ]
                go_wp2_with fail
                go_ret
                rw [HR.out]
                exact ⟨rfl, F5.out⟩
              subst z2
              by_cases z3 : r3 = 0
              case neg =>
                have hR : R = r3 := by rw [HR2.out]; simp [firstE, z3]
                have HR := Lib.hid hR
                have zz : (r3 != 0) = true := by simp [z3]
                clear hR z3 HR2
                go_wp2_with fail
                refine wp_loop_rounds 4 ?_
                rw [rounds_succ]
                go_wp2_with fail
                rw [rounds_succ]
                go_wp2_with fail
                rw [rounds_succ]
                go_wp2_with fail
                rw [rounds_succ]
                go_wp2_with fail
                go_ret
                rw [HR.out]
                exact ⟨rfl, F5.out⟩
              subst z3
              have hR : R = 0 := by rw [HR2.out]; rfl
              have HR := Lib.hid hR
              clear hR HR2
              go_wp2_with fail
              refine wp_loop_rounds 5 ?_
              rw [rounds_succ]
              go_wp2_with fail
              rw [rounds_succ]
              go_wp2_with fail
              rw [rounds_succ]
              go_wp2_with fail
              rw [rounds_succ]
              go_wp2_with fail
              rw [rounds_succ]
              go_wp2_with fail
              go_ret
              rw [HR.out]
              exact ⟨rfl, F5.out⟩
end
section
set_option maxRecDepth 100000

theorem Wr.keep {w w' : World} {b : Nat} {v : Value} {l : List UInt8} (h : Wr w b v l) (f : Fr (fun _ => False) w w') : Wr w' b v l := h.fr f (fun h => h) (fun _ _ h => h)

theorem wballot_any (b : Nat) (v : Value) (L : List UInt8) (r n : Int) (w : World) (hr0 : 0 ≤ r) (hr1 : r ≤ 4294967295) (hn0 : 0 ≤ n) (hn1 : n ≤ 65535) (hW : Wr w b v L) (hL : L.length ≤ 900000000) :
    Calls Try.prog 51 #[.pointer (some ⟨b, 0, none⟩), ball r n] w fun e w' => e = .returned (.tuple #[]) ∧ Wrote b v (L ++ (be4 r.toNat ++ be2 n.toNat)) w w' := by
  have q0 := heap_alloc_new w (oBa r n)
  have f0 : Fr (fun _ => False) w (w.alloc (oBa r n)) := (Fr.refl _ _).alloc _
  have W0 := Lib.hid (hW.keep f0)
  have HG : Hid (b < w.heap.size ∧ (∀ k, v.ownBlock = some k → k < w.heap.size)) := Lib.hid ⟨hW.lt.1, hW.lt.2⟩
  have HL := Lib.hid hL
  obtain ⟨c0, c1⟩ := ba_row q0
  have Q0 := Lib.hid q0
  have F0 := Lib.hid f0
  clear q0 f0 hW hL
  go_enter Try.func51, Try.ntmps51
  go_upto_region 1 with fail
  generalize w.alloc (oBa r n) = w0 at *
  go_wp2_with fail
  refine (long_any b v L r hr0 hr1 w0 W0.out (by have := HL.out; omega)).mono ?_
  rintro e w1 ⟨rfl, v1, w1r, f1, o1⟩
  have Q1 := Lib.hid (crow_kept Q0.out f1 (fun e => by
    have hg := HG.out
    rcases e with e | e
    · omega
    · have := hg.2 _ e; omega))
  clear c0 c1
  obtain ⟨c0, c1⟩ := ba_row Q1.out
  have W1 := Lib.hid w1r
  have F1 := Lib.hid (And.intro f1 o1)
  clear w1r f1 o1
  dsimp only
  go_wp2_with fail
  refine (word_any b v1 (L ++ be4 r.toNat) n hn0 hn1 w1 W1.out (by have := HL.out; rw [List.length_append, be4_length]; omega)).mono ?_
  rintro e w2 ⟨rfl, wr2⟩
  have W2 : Hid (Wrote b v (L ++ (be4 r.toNat ++ be2 n.toNat)) w w2) := Lib.hid (by
    rw [← List.append_assoc]
    exact Wrote.later F0.out (Wrote.trans F1.out.1 F1.out.2 wr2))
  clear wr2
  dsimp only
  go_wp2_with fail
  go_end0
  exact ⟨rfl, W2.out⟩

def boolB (s : Bool) : List UInt8 := be2 (if s = true then 1 else 0)

theorem wbool_any (b : Nat) (v : Value) (L : List UInt8) (s : Bool) (w : World) (hW : Wr w b v L) (hL : L.length ≤ 900000000) :
    Calls Try.prog 52 #[.pointer (some ⟨b, 0, none⟩), .bool s] w fun e w' => e = .returned (.tuple #[]) ∧ Wrote b v (L ++ boolB s) w w' := by
  cases s with
  | true =>
    go_enter Try.func52, Try.ntmps52
    go_wp2_with fail
    refine (word_any b v L 1 (by omega) (by omega) w hW (by omega)).mono ?_
    rintro e w2 ⟨rfl, wr2⟩
    have W2 : Hid (Wrote b v (L ++ boolB true) w w2) := Lib.hid wr2
    clear wr2 hW
    dsimp only
    go_wp2_with fail
    go_end0
    exact ⟨rfl, W2.out⟩
  | false =>
    go_enter Try.func52, Try.ntmps52
    go_wp2_with fail
    refine (word_any b v L 0 (by omega) (by omega) w hW (by omega)).mono ?_
    rintro e w2 ⟨rfl, wr2⟩
    have W2 : Hid (Wrote b v (L ++ boolB false) w w2) := Lib.hid wr2
    clear wr2 hW
    dsimp only
    go_wp2_with fail
    go_end0
    exact ⟨rfl, W2.out⟩

def viewB (n : Int) (m : List Int) : List UInt8 := be4 n.toNat ++ be2 m.length ++ memE m

theorem wview_any (b : Nat) (v : Value) (L : List UInt8) (n : Int) (m : List Int) (a : Option Addr) (c : Nat) (w : World) (hn0 : 0 ≤ n) (hn1 : n ≤ 4294967295) (hW : Wr w b v L) (hL : L.length ≤ 800000000) (hm : SIc w a c m) (hlen : m.length ≤ 16) (h16 : In16 m)
    (ho : m = [] ∨ OffW b v (.slice a m.length c)) :
    Calls Try.prog 55 #[.pointer (some ⟨b, 0, none⟩), .agg #[.int .i64 n, .slice a m.length c]] w fun e w' => e = .returned (.tuple #[]) ∧ Wrote b v (L ++ viewB n m) w w' := by
  have HM := Lib.hid hm
  have H16 := Lib.hid h16
  have HO := Lib.hid ho
  have HL := Lib.hid hL
  have q0 := heap_alloc_new w (oVw n a m.length c)
  have f0 : Fr (fun _ => False) w (w.alloc (oVw n a m.length c)) := (Fr.refl _ _).alloc _
  have W0 := Lib.hid (hW.keep f0)
  have HG : Hid (b < w.heap.size ∧ (∀ k, v.ownBlock = some k → k < w.heap.size)) := Lib.hid ⟨hW.lt.1, hW.lt.2⟩
  obtain ⟨c0, c1⟩ := vw_cells q0
  have Q0 := Lib.hid q0
  have F0 := Lib.hid f0
  clear hm h16 ho q0 f0 hW hL
  go_enter Try.func55, Try.ntmps55
  go_upto_region 1 with fail
  generalize w.alloc (oVw n a m.length c) = w0 at *
  generalize w.heap.size = g0 at *
  go_wp2_with fail
  refine (long_any b v L n hn0 hn1 w0 W0.out (by have := HL.out; omega)).mono ?_
  rintro e w1 ⟨rfl, v1, w1r, f1, o1⟩
  have Q1 := Lib.hid (crow_kept Q0.out f1 (fun e => by
    have hg := HG.out
    rcases e with e | e
    · omega
    · have := hg.2 _ e; omega))
  clear c0 c1
  obtain ⟨c0, c1⟩ := vw_cells Q1.out
  have W1 := Lib.hid w1r
  have F1 := Lib.hid (And.intro f1 o1)
  clear w1r f1 o1
  dsimp only
  go_wp2_with fail
  refine (word_any b v1 (L ++ be4 n.toNat) m.length (by omega) (by omega) w1 W1.out (by have := HL.out; rw [List.length_append, be4_length]; omega)).mono ?_
  rintro e w2 ⟨rfl, v2, w2r, f2, o2⟩
  have Q2 := Lib.hid (crow_kept Q1.out f2 (fun e => by
    have hg := HG.out
    rcases e with e | e
    · omega
    · rcases F1.out.2 with h | h
      · exact absurd (hg.2 _ (h ▸ e)) (by omega)
      · have := h _ e; have := vt_lt Q0.out; omega))
  clear c0 c1
  obtain ⟨c0, c1⟩ := vw_cells Q2.out
  have W2 : Hid (Wrote b v (L ++ be4 n.toNat ++ be2 m.length ++ memE (m.take 0)) w w2) := Lib.hid (Wrote.later F0.out (Wrote.trans F1.out.1 F1.out.2 ⟨v2, by simpa [memE] using w2r, f2, o2⟩))
  clear w2r f2 o2 Q1 W1 F1 Q0 W0
  dsimp only
  go_upto_region 4 with fail
  clear c0 c1
  go_loopg [20] m.length (fun gh u20 wr => ∃ k : Nat, k ≤ m.length ∧ gh = m.length - k ∧ u20 = .int .i64 k ∧ Hid (Wrote b v (L ++ be4 n.toNat ++ be2 m.length ++ memE (m.take k)) w wr))
  case atStart => exact ⟨0, Nat.zero_le _, rfl, rfl, W2⟩
  case round =>
    obtain ⟨k, hk, rfl, rfl, HW⟩ := hrel
    by_cases hlt : k < m.length
    case neg =>
      obtain rfl : k = m.length := by omega
      have hfin := HW.out
      rw [List.take_length] at hfin
      have HF : Hid (Wrote b v (L ++ viewB n m) w wr) := Lib.hid (by unfold viewB; rw [← List.append_assoc, ← List.append_assoc]; exact hfin)
      clear hfin
      go_wp2_with fail
      go_returns
      exact ⟨rfl, HF.out⟩
    obtain ⟨v1, hw1, f1, o1⟩ := HW.out
    have hmk : SIc wr a c m := HM.out.keep f1 (HO.out.imp id (fun h j hj e => by
      rcases e with e | e
      · exact h.1 (by rw [hj, e])
      · exact h.2 j hj e))
    obtain ⟨hcap, g, off, rfl, hcell⟩ := hmk (by omega)
    have ck := hcell k hlt
    obtain ⟨z, hz⟩ : ∃ z, z = m[k] := ⟨_, rfl⟩
    rw [← hz] at ck
    have hzb : 0 ≤ z ∧ z ≤ 65535 := by rw [hz]; exact H16.out _ (List.getElem_mem hlt)
    obtain ⟨hz0, hz1⟩ := hzb
    have HST : Hid (memE (m.take (k + 1)) = memE (m.take k) ++ be2 z.toNat) := Lib.hid (by rw [memE_step m k hlt, hz])
    have hLk : (L ++ be4 n.toNat ++ be2 m.length ++ memE (m.take k)).length ≤ 1000000000 := by
      have := HL.out
      rw [List.length_append, List.length_append, List.length_append, be2_length, be4_length, memE_length, List.length_take]
      omega
    obtain ⟨X, hX⟩ : ∃ X, X = L ++ be4 n.toNat ++ be2 m.length ++ memE (m.take k) := ⟨_, rfl⟩
    rw [← hX] at hw1 hLk
    have HX := Lib.hid hX
    have HF1 := Lib.hid f1
    have HO1 := Lib.hid o1
    have HW1 := Lib.hid hw1
    have HLK := Lib.hid hLk
    clear hX f1 o1 hw1 hcell hz HW hmk hLk
    go_wp2_with fail
    refine (word_any b v1 X z (by omega) (by omega) wr HW1.out HLK.out).mono ?_
    rintro e w3 ⟨rfl, wr2⟩
    have W3 : Hid (Wrote b v (L ++ be4 n.toNat ++ be2 m.length ++ memE (m.take (k + 1))) w w3) := Lib.hid (by
      rw [HST.out, ← List.append_assoc, ← HX.out]
      exact Wrote.trans HF1.out HO1.out wr2)
    clear wr2
    dsimp only
    go_wp2_with fail
    go_roundg (m.length - (k + 1))
    case measure => omega
    case rel => exact ⟨k + 1, by omega, rfl, by congr 1, W3⟩

/-- A letter's bytes, part by part. -/
def ltP (x : Lt) : Nat → List UInt8
  | 0 => be2 x.k.toNat ++ be2 x.f.toNat ++ be2 x.t.toNat
  | 1 => if hasE x.k x.s 1 = true then be4 x.p.toNat else []
  | 2 => if hasE x.k x.s 2 = true then be4 x.b1.toNat ++ be2 x.b2.toNat else []
  | 3 => if hasE x.k x.s 4 = true then boolB x.s else []
  | 4 => if hasE x.k x.s 8 = true then be4 x.w1.toNat ++ be2 x.w2.toNat else []
  | 5 => if hasE x.k x.s 16 = true then entB x.e else []
  | 6 => if hasE x.k x.s 32 = true then callB x.ct x.cn x.cp x.cl else []
  | 7 => if hasE x.k x.s 64 = true then be2 x.it.toNat ++ be2 x.iN.toNat ++ viewB x.vn x.vm ++ ansB x.ae x.ar x.al else []
  | _ => []
def ltU (x : Lt) : Nat → List UInt8
  | 0 => ltP x 0
  | n + 1 => ltU x n ++ ltP x (n + 1)
def ltB (x : Lt) : List UInt8 := ltU x 7

/-- What a letter that may be has. -/
structure LtOk (x : Lt) : Prop where
  k0 : 0 ≤ x.k
  k1 : x.k ≤ 7
  f0 : 0 ≤ x.f
  f1 : x.f ≤ 15
  t0 : 0 ≤ x.t
  t1 : x.t ≤ 15
  p : hasE x.k x.s 1 = true → 0 ≤ x.p ∧ x.p ≤ 4294967295
  b : hasE x.k x.s 2 = true → (0 ≤ x.b1 ∧ x.b1 ≤ 4294967295) ∧ 0 ≤ x.b2 ∧ x.b2 ≤ 15
  w : hasE x.k x.s 8 = true → (0 ≤ x.w1 ∧ x.w1 ≤ 4294967295) ∧ 0 ≤ x.w2 ∧ x.w2 ≤ 15
  e : hasE x.k x.s 16 = true → EnOk x.e
  c : hasE x.k x.s 32 = true → ((0 ≤ x.ct ∧ x.ct ≤ 65535) ∧ 0 ≤ x.cn ∧ x.cn ≤ 65535) ∧ okN x.cp = true ∧ x.cl.length ≤ 4000
  a : hasE x.k x.s 64 = true → (((0 ≤ x.it ∧ x.it ≤ 65535) ∧ 0 ≤ x.iN ∧ x.iN ≤ 65535) ∧ (0 ≤ x.vn ∧ x.vn ≤ 4294967295) ∧ chkM x.vm = 0 ∧ In16 x.vm ∧ x.vm.length ≤ 16) ∧ okN x.ae = true ∧ okN x.ar = true ∧ x.al.length ≤ 4000

theorem viewB_length (n : Int) (m : List Int) (h : m.length ≤ 16) : (viewB n m).length ≤ 40 := by
  unfold viewB
  rw [List.length_append, List.length_append, be4_length, be2_length, memE_length]
  omega

theorem ltP_length {x : Lt} (h : LtOk x) (i : Nat) : (ltP x i).length ≤ 5000 := by
  match i with
  | 0 => simp only [ltP]; simp only [List.length_append, be2_length]; omega
  | 1 => simp only [ltP]; split <;> simp [be4_length]
  | 2 => simp only [ltP]; split <;> simp [be4_length, be2_length]
  | 3 => simp only [ltP]; split <;> simp [boolB, be2_length]
  | 4 => simp only [ltP]; split <;> simp [be4_length, be2_length]
  | 5 =>
    simp only [ltP]; split
    · rename_i hh; exact entB_length (h.e hh)
    · simp
  | 6 =>
    simp only [ltP]; split
    · rename_i hh; have := (h.c hh).2.2; rw [callB_length]; omega
    · simp
  | 7 =>
    simp only [ltP]; split
    · rename_i hh
      have h1 := (h.a hh).2.2.2
      have h2 := viewB_length x.vn x.vm (h.a hh).1.2.2.2.2
      rw [List.length_append, List.length_append, List.length_append, ansB_length, be2_length, be2_length]
      omega
    · simp
  | n + 8 => exact Nat.zero_le _

theorem ltU_length {x : Lt} (h : LtOk x) : ∀ i, (ltU x i).length ≤ 5000 * (i + 1)
  | 0 => by have := ltP_length h 0; unfold ltU; omega
  | n + 1 => by
    have h1 := ltU_length h n
    have h2 := ltP_length h (n + 1)
    rw [ltU, List.length_append]
    omega

/-- The slices of x lie off block b. -/
structure Far (b : Nat) (x : Lt) (s : Ls) : Prop where
  ea : x.e.l = [] ∨ s.ea.ownBlock ≠ some b
  em : x.e.m = [] ∨ s.em.ownBlock ≠ some b
  va : x.vm = [] ∨ s.va.ownBlock ≠ some b
  ca : x.cl = [] ∨ s.ca.ownBlock ≠ some b
  aa : x.al = [] ∨ s.aa.ownBlock ≠ some b

/-- So much is written. -/
def WrJ (x : Lt) (s : Ls) (b : Nat) (wv : Value) (w : World) (g : Nat) (Z : List UInt8) (wx : World) : Prop :=
  wx.heap[g]? = some (oLt x s) ∧ Wrote b wv Z w wx

theorem WrJ.fr {x : Lt} {s : Ls} {b : Nat} {wv : Value} {w wx wy : World} {g : Nat} {Z : List UInt8} (h : WrJ x s b wv w g Z wx) (f : Fr (fun _ => False) wx wy) : WrJ x s b wv w g Z wy := by
  obtain ⟨h1, v', h2, h3, h4⟩ := h
  exact ⟨crow_kept h1 f (fun h => h), v', h2.keep f, h3.trans f (fun _ _ h => h.elim), h4⟩

theorem WrJ.opened {x : Lt} {s : Ls} {b : Nat} {wv : Value} {w wx : World} {g : Nat} {Z : List UInt8} (h : WrJ x s b wv w g Z wx) (hG : g ≠ b ∧ g < w.heap.size ∧ wv.ownBlock = none) :
    ∃ v, Wr wx b v Z ∧ (v.ownBlock = wv.ownBlock ∨ ∀ k, v.ownBlock = some k → w.heap.size ≤ k) ∧ ∀ wy Y, Wrote b v (Z ++ Y) wx wy → WrJ x s b wv w g (Z ++ Y) wy := by
  obtain ⟨h1, v, h2, h3, h4⟩ := h
  refine ⟨v, h2, h4, fun wy Y hw => ⟨?_, Wrote.trans h3 h4 hw⟩⟩
  obtain ⟨v', -, h5, -⟩ := hw
  refine crow_kept h1 h5 (fun e => ?_)
  rcases e with e | e
  · exact hG.1 e
  · rcases h4 with h4 | h4
    · rw [h4, hG.2.2] at e; cases e
    · have := h4 _ e; omega

theorem fr_none {b : Nat} {wv : Value} (h : wv.ownBlock = none) {w wx : World} (f : Fr (fun k => k = b ∨ wv.ownBlock = some k) w wx) : Fr (fun k => k = b) w wx :=
  f.mono (fun i _ hi => hi.elim id (fun e => by rw [h] at e; cases e))

/-- The letter's slices are as they were. -/
theorem WrJ.ls {x : Lt} {s : Ls} {b : Nat} {wv : Value} {w wx : World} {g : Nat} {Z : List UInt8} (h : WrJ x s b wv w g Z wx) (hl : LS w x s) (hn : wv.ownBlock = none) (hf : Far b x s) : LS wx x s := by
  obtain ⟨-, v', -, h3, -⟩ := h
  have f := fr_none hn h3
  exact ⟨⟨hl.e.1.keep f (hf.ea.imp id (fun h k hk e => h (by rw [hk, e]))), hl.e.2.keep f (hf.em.imp id (fun h k hk e => h (by rw [hk, e])))⟩, hl.v.keep f (hf.va.imp id (fun h k hk e => h (by rw [hk, e]))), hl.c.keep f (hf.ca.imp id (fun h k hk e => h (by rw [hk, e]))), hl.a.keep f (hf.aa.imp id (fun h k hk e => h (by rw [hk, e])))⟩

/-- A slice is off the writer. -/
theorem offS {w : World} {b : Nat} {wv v : Value} {u : Value} {l : List UInt8} (hs : Sees w u l) (h : l = [] ∨ u.ownBlock ≠ some b) (hn : wv.ownBlock = none) (hv : v.ownBlock = wv.ownBlock ∨ ∀ k, v.ownBlock = some k → w.heap.size ≤ k) : l = [] ∨ OffW b v u := by
  by_cases hl : l = []
  · exact .inl hl
  · refine .inr ⟨h.resolve_left hl, fun k hk e => ?_⟩
    have h1 := sees_old hs hl k hk
    rcases hv with hv | hv
    · rw [hv, hn] at e; cases e
    · have := hv k e; omega
theorem offI {w : World} {b : Nat} {wv v : Value} {u : Value} {l : List Int} (hs : SI w u l) (h : l = [] ∨ u.ownBlock ≠ some b) (hn : wv.ownBlock = none) (hv : v.ownBlock = wv.ownBlock ∨ ∀ k, v.ownBlock = some k → w.heap.size ≤ k) : l = [] ∨ OffW b v u := by
  by_cases hl : l = []
  · exact .inl hl
  · obtain ⟨a, c, rfl, hc⟩ := hs.shape
    refine .inr ⟨h.resolve_left hl, fun k hk e => ?_⟩
    have h1 := sic_old hc hl k hk
    rcases hv with hv | hv
    · rw [hv, hn] at e; cases e
    · have := hv k e; omega

theorem ltU_next {x : Lt} {i : Nat} {Y : List UInt8} (h : ltP x (i + 1) = Y) : ltU x (i + 1) = ltU x i ++ Y := by rw [← h]; rfl
theorem ltU_none {x : Lt} {i : Nat} (h : ltP x (i + 1) = []) : ltU x (i + 1) = ltU x i := by rw [ltU_next h, List.append_nil]
end
section
set_option maxRecDepth 100000

theorem write_any (x : Lt) (s : Ls) (b : Nat) (wv : Value) (w : World) (hx : LtOk x) (hL : LS w x s) (hF : Far b x s) (hn : wv.ownBlock = none) (hW : Wr w b wv []) :
    Calls Try.prog 18 #[.agg (x.cs s), .pointer (some ⟨b, 0, none⟩)] w fun e w' => e = .returned (.tuple #[]) ∧ Wrote b wv (ltB x) w w' := by
  have q0 := heap_alloc_new w (oLt x s)
  have f0 : Fr (fun _ => False) w (w.alloc (oLt x s)) := (Fr.refl _ _).alloc _
  have HO : Hid (WrJ x s b wv (w.alloc (oLt x s)) w.heap.size [] (w.alloc (oLt x s))) := Lib.hid ⟨q0, wv, hW.keep f0, Fr.refl _ _, .inl rfl⟩
  have HG : Hid (w.heap.size ≠ b ∧ w.heap.size < (w.alloc (oLt x s)).heap.size ∧ wv.ownBlock = none) := Lib.hid ⟨by have := hW.lt.1; omega, by simp, hn⟩
  have HL := Lib.hid (hL.fr f0)
  have F0 := Lib.hid f0
  have HX := Lib.hid hx
  have HF := Lib.hid hF
  have HU : Hid (∀ i, (ltU x i).length ≤ 5000 * (i + 1)) := Lib.hid (ltU_length hx)
  clear q0 f0 hL hW hn hF
  obtain ⟨k0, k1, f0, f1, t0, t1, -, -, -, -, -, -⟩ := hx
  go_enter Try.func18, Try.ntmps18
  go_upto_region 1 with fail
  generalize w.alloc (oLt x s) = w0 at *
  generalize w.heap.size = g at *
  obtain ⟨c0, c1, c2, -, -, -, -, -, -⟩ := lt_cells HO.out.1
  obtain ⟨v, hw, -, hstep⟩ := HO.out.opened HG.out
  go_wp2_with fail
  refine (word_any b v [] x.k k0 (by omega) w0 hw (by simp)).mono ?_
  rintro e w1 ⟨rfl, wr⟩
  have HO2 : Hid (WrJ x s b wv w0 g (be2 x.k.toNat) w1) := Lib.hid (hstep _ _ wr)
  clear hstep wr hw HO c0 c1 c2
  obtain ⟨c0, c1, c2, -, -, -, -, -, -⟩ := lt_cells HO2.out.1
  obtain ⟨v, hw, -, hstep⟩ := HO2.out.opened HG.out
  dsimp only
  go_wp2_with fail
  refine (word_any b v (be2 x.k.toNat) x.f f0 (by omega) w1 hw (by rw [be2_length]; omega)).mono ?_
  rintro e w2 ⟨rfl, wr⟩
  have HO := Lib.hid (hstep _ _ wr)
  clear hstep wr hw HO2 c0 c1 c2
  obtain ⟨c0, c1, c2, -, -, -, -, -, -⟩ := lt_cells HO.out.1
  obtain ⟨v, hw, -, hstep⟩ := HO.out.opened HG.out
  dsimp only
  go_wp2_with fail
  refine (word_any b v (be2 x.k.toNat ++ be2 x.f.toNat) x.t t0 (by omega) w2 hw (by rw [List.length_append, be2_length, be2_length]; omega)).mono ?_
  rintro e wc ⟨rfl, wr⟩
  have HO3 : Hid (WrJ x s b wv w0 g (ltU x 0) wc) := Lib.hid (hstep _ _ wr)
  clear hstep wr hw HO c0 c1 c2
  have HO := HO3
  clear HO3 k0 k1 f0 f1 t0 t1
  dsimp only
  go_wp2_with (refine load_lt rfl 51 (.tmp 2) rfl g (x.cs s) 51 (0, 0) rfl HO.out.1 _ Try.underlying51 rfl (by kernel_rfl) ?_)
  refine (has_any x s 1 wc).mono ?_
  rintro e w1 ⟨rfl, f1⟩
  have HO1 := Lib.hid (HO.out.fr f1)
  clear f1 HO
  obtain ⟨hp, hhp⟩ : ∃ b, b = hasE x.k x.s 1 := ⟨_, rfl⟩
  rw [← hhp]
  have HH := Lib.hid hhp
  clear hhp
  dsimp only
  go_upto_if 20 with fail
  go_cut [25] from 21 to 25 (fun u wx => Hid (WrJ x s b wv w0 g (ltU x 1) wx))
  case first =>
    cases hp with
    | false =>
      have hy : ltP x 1 = [] := if_neg (by rw [← HH.out]; decide)
      have HY := Lib.hid hy
      clear hy
      go_wp2_with fail
      go_meet
      case rel => exact Lib.hid (by rw [ltU_none HY.out]; exact HO1.out)
    | true =>
      have hy : ltP x 1 = _ := if_pos HH.out.symm
      have HY := Lib.hid hy
      clear hy
      obtain ⟨hp0, hp1⟩ := HX.out.p HH.out.symm
      obtain ⟨c0, c1, c2, c3, c4, c5, c6, c7, c8⟩ := lt_cells HO1.out.1
      obtain ⟨v, hw, hv, hstep⟩ := HO1.out.opened HG.out
      go_wp2_with fail
      refine (long_any b v (ltU x 0) x.p hp0 hp1 w1 hw (by have := HU.out 0; omega)).mono ?_
      rintro e w2 ⟨rfl, wr⟩
      have HO2 := Lib.hid (hstep _ _ wr)
      clear hstep wr hw hv
      dsimp only
      go_wp2_with fail
      go_meet
      case rel => exact Lib.hid (by rw [ltU_next HY.out]; exact HO2.out)
  case rest =>
    have HO := hcut
    clear hcut HO1 HH
    go_wp2_with (refine load_lt rfl 51 (.tmp 2) rfl g (x.cs s) 51 (0, 0) rfl HO.out.1 _ Try.underlying51 rfl (by kernel_rfl) ?_)
    refine (has_any x s 2 wc).mono ?_
    rintro e w1 ⟨rfl, f1⟩
    have HO1 := Lib.hid (HO.out.fr f1)
    clear f1 HO
    obtain ⟨hp, hhp⟩ : ∃ b, b = hasE x.k x.s 2 := ⟨_, rfl⟩
    rw [← hhp]
    have HH := Lib.hid hhp
    clear hhp
    dsimp only
    go_upto_if 27 with fail
    go_cut [31] from 28 to 31 (fun u wx => Hid (WrJ x s b wv w0 g (ltU x 2) wx))
    case first =>
      cases hp with
      | false =>
        have hy : ltP x 2 = [] := if_neg (by rw [← HH.out]; decide)
        have HY := Lib.hid hy
        clear hy
        go_wp2_with fail
        go_meet
        case rel => exact Lib.hid (by rw [ltU_none HY.out]; exact HO1.out)
      | true =>
        have hy : ltP x 2 = _ := if_pos HH.out.symm
        have HY := Lib.hid hy
        clear hy
        obtain ⟨⟨hb0, hb1⟩, hb2, hb3⟩ := HX.out.b HH.out.symm
        obtain ⟨c0, c1, c2, c3, c4, c5, c6, c7, c8⟩ := lt_cells HO1.out.1
        obtain ⟨v, hw, hv, hstep⟩ := HO1.out.opened HG.out
        go_wp2_with fail
        refine (wballot_any b v (ltU x 1) x.b1 x.b2 w1 hb0 hb1 hb2 (by omega) hw (by have := HU.out 1; omega)).mono ?_
        rintro e w2 ⟨rfl, wr⟩
        have HO2 := Lib.hid (hstep _ _ wr)
        clear hstep wr hw hv
        dsimp only
        go_wp2_with fail
        go_meet
        case rel => exact Lib.hid (by rw [ltU_next HY.out]; exact HO2.out)
    case rest =>
      have HO := hcut
      clear hcut HO1 HH
      go_wp2_with (refine load_lt rfl 51 (.tmp 2) rfl g (x.cs s) 51 (0, 0) rfl HO.out.1 _ Try.underlying51 rfl (by kernel_rfl) ?_)
      refine (has_any x s 4 wc).mono ?_
      rintro e w1 ⟨rfl, f1⟩
      have HO1 := Lib.hid (HO.out.fr f1)
      clear f1 HO
      obtain ⟨hp, hhp⟩ : ∃ b, b = hasE x.k x.s 4 := ⟨_, rfl⟩
      rw [← hhp]
      have HH := Lib.hid hhp
      clear hhp
      dsimp only
      go_upto_if 33 with fail
      go_cut [37] from 34 to 37 (fun u wx => Hid (WrJ x s b wv w0 g (ltU x 3) wx))
      case first =>
        cases hp with
        | false =>
          have hy : ltP x 3 = [] := if_neg (by rw [← HH.out]; decide)
          have HY := Lib.hid hy
          clear hy
          go_wp2_with fail
          go_meet
          case rel => exact Lib.hid (by rw [ltU_none HY.out]; exact HO1.out)
        | true =>
          have hy : ltP x 3 = _ := if_pos HH.out.symm
          have HY := Lib.hid hy
          clear hy
          obtain ⟨c0, c1, c2, c3, c4, c5, c6, c7, c8⟩ := lt_cells HO1.out.1
          obtain ⟨v, hw, hv, hstep⟩ := HO1.out.opened HG.out
          go_wp2_with fail
          refine (wbool_any b v (ltU x 2) x.s w1 hw (by have := HU.out 2; omega)).mono ?_
          rintro e w2 ⟨rfl, wr⟩
          have HO2 := Lib.hid (hstep _ _ wr)
          clear hstep wr hw hv
          dsimp only
          go_wp2_with fail
          go_meet
          case rel => exact Lib.hid (by rw [ltU_next HY.out]; exact HO2.out)
      case rest =>
        have HO := hcut
        clear hcut HO1 HH
        go_wp2_with (refine load_lt rfl 51 (.tmp 2) rfl g (x.cs s) 51 (0, 0) rfl HO.out.1 _ Try.underlying51 rfl (by kernel_rfl) ?_)
        refine (has_any x s 8 wc).mono ?_
        rintro e w1 ⟨rfl, f1⟩
        have HO1 := Lib.hid (HO.out.fr f1)
        clear f1 HO
        obtain ⟨hp, hhp⟩ : ∃ b, b = hasE x.k x.s 8 := ⟨_, rfl⟩
        rw [← hhp]
        have HH := Lib.hid hhp
        clear hhp
        dsimp only
        go_upto_if 39 with fail
        go_cut [43] from 40 to 43 (fun u wx => Hid (WrJ x s b wv w0 g (ltU x 4) wx))
        case first =>
          cases hp with
          | false =>
            have hy : ltP x 4 = [] := if_neg (by rw [← HH.out]; decide)
            have HY := Lib.hid hy
            clear hy
            go_wp2_with fail
            go_meet
            case rel => exact Lib.hid (by rw [ltU_none HY.out]; exact HO1.out)
          | true =>
            have hy : ltP x 4 = _ := if_pos HH.out.symm
            have HY := Lib.hid hy
            clear hy
            obtain ⟨⟨hb0, hb1⟩, hb2, hb3⟩ := HX.out.w HH.out.symm
            obtain ⟨c0, c1, c2, c3, c4, c5, c6, c7, c8⟩ := lt_cells HO1.out.1
            obtain ⟨v, hw, hv, hstep⟩ := HO1.out.opened HG.out
            go_wp2_with fail
            refine (wballot_any b v (ltU x 3) x.w1 x.w2 w1 hb0 hb1 hb2 (by omega) hw (by have := HU.out 3; omega)).mono ?_
            rintro e w2 ⟨rfl, wr⟩
            have HO2 := Lib.hid (hstep _ _ wr)
            clear hstep wr hw hv
            dsimp only
            go_wp2_with fail
            go_meet
            case rel => exact Lib.hid (by rw [ltU_next HY.out]; exact HO2.out)
        case rest =>
          have HO := hcut
          clear hcut HO1 HH
          go_wp2_with (refine load_lt rfl 51 (.tmp 2) rfl g (x.cs s) 51 (0, 0) rfl HO.out.1 _ Try.underlying51 rfl (by kernel_rfl) ?_)
          refine (has_any x s 16 wc).mono ?_
          rintro e w1 ⟨rfl, f1⟩
          have HO1 := Lib.hid (HO.out.fr f1)
          clear f1 HO
          obtain ⟨hp, hhp⟩ : ∃ b, b = hasE x.k x.s 16 := ⟨_, rfl⟩
          rw [← hhp]
          have HH := Lib.hid hhp
          clear hhp
          dsimp only
          go_upto_if 45 with fail
          go_cut [49] from 46 to 49 (fun u wx => Hid (WrJ x s b wv w0 g (ltU x 5) wx))
          case first =>
            cases hp with
            | false =>
              have hy : ltP x 5 = [] := if_neg (by rw [← HH.out]; decide)
              have HY := Lib.hid hy
              clear hy
              go_wp2_with fail
              go_meet
              case rel => exact Lib.hid (by rw [ltU_none HY.out]; exact HO1.out)
            | true =>
              have hy : ltP x 5 = _ := if_pos HH.out.symm
              have HY := Lib.hid hy
              clear hy
              obtain ⟨c9, c10, c11, c12, c13, c14⟩ := lt_cells2 HO1.out.1
              have HLS := Lib.hid (HO1.out.ls HL.out HG.out.2.2 HF.out)
              obtain ⟨v, hw, hv, hstep⟩ := HO1.out.opened HG.out
              go_wp2_with fail
              refine (vput_any x.e s.ea s.em b v (ltU x 4) w1 (HX.out.e HH.out.symm) HLS.out.e hw (by have := HU.out 4; omega) (offS HL.out.e.1 HF.out.ea HG.out.2.2 hv) (offI HL.out.e.2 HF.out.em HG.out.2.2 hv)).mono ?_
              rintro e w2 ⟨rfl, wr⟩
              have HO2 := Lib.hid (hstep _ _ wr)
              clear hstep wr hw hv
              dsimp only
              go_wp2_with fail
              go_meet
              case rel => exact Lib.hid (by rw [ltU_next HY.out]; exact HO2.out)
          case rest =>
            have HO := hcut
            clear hcut HO1 HH
            go_wp2_with (refine load_lt rfl 51 (.tmp 2) rfl g (x.cs s) 51 (0, 0) rfl HO.out.1 _ Try.underlying51 rfl (by kernel_rfl) ?_)
            refine (has_any x s 32 wc).mono ?_
            rintro e w1 ⟨rfl, f1⟩
            have HO1 := Lib.hid (HO.out.fr f1)
            clear f1 HO
            obtain ⟨hp, hhp⟩ : ∃ b, b = hasE x.k x.s 32 := ⟨_, rfl⟩
            rw [← hhp]
            have HH := Lib.hid hhp
            clear hhp
            dsimp only
            go_upto_if 51 with fail
            go_cut [55] from 52 to 55 (fun u wx => Hid (WrJ x s b wv w0 g (ltU x 6) wx))
            case first =>
              cases hp with
              | false =>
                have hy : ltP x 6 = [] := if_neg (by rw [← HH.out]; decide)
                have HY := Lib.hid hy
                clear hy
                go_wp2_with fail
                go_meet
                case rel => exact Lib.hid (by rw [ltU_none HY.out]; exact HO1.out)
              | true =>
                have hy : ltP x 6 = _ := if_pos HH.out.symm
                have HY := Lib.hid hy
                clear hy
                obtain ⟨⟨⟨ht0, ht1⟩, hn0, hn1⟩, hcp⟩ := HX.out.c HH.out.symm
                have HCP := Lib.hid hcp
                clear hcp
                obtain ⟨c15, c16, c17, c18, c19, c20, c21, c22, c23, c24, c25⟩ := lt_cells3 HO1.out.1
                have HLS := Lib.hid (HO1.out.ls HL.out HG.out.2.2 HF.out)
                obtain ⟨v, hw, hv, hstep⟩ := HO1.out.opened HG.out
                go_wp2_with fail
                refine (cput_any x.ct x.cn x.cp s.ca x.cl b v (ltU x 5) w1 ht0 ht1 hn0 hn1 HCP.out.1 HLS.out.c HCP.out.2 hw (by have := HU.out 5; omega) (offS HL.out.c HF.out.ca HG.out.2.2 hv)).mono ?_
                rintro e w2 ⟨rfl, wr⟩
                have HO2 := Lib.hid (hstep _ _ wr)
                clear hstep wr hw hv
                dsimp only
                go_wp2_with fail
                go_meet
                case rel => exact Lib.hid (by rw [ltU_next HY.out]; exact HO2.out)
            case rest =>
              have HO := hcut
              clear hcut HO1 HH
              go_wp2_with (refine load_lt rfl 51 (.tmp 2) rfl g (x.cs s) 51 (0, 0) rfl HO.out.1 _ Try.underlying51 rfl (by kernel_rfl) ?_)
              refine (has_any x s 64 wc).mono ?_
              rintro e w1 ⟨rfl, f1⟩
              have HO1 := Lib.hid (HO.out.fr f1)
              clear f1 HO
              obtain ⟨hp, hhp⟩ : ∃ b, b = hasE x.k x.s 64 := ⟨_, rfl⟩
              rw [← hhp]
              have HH := Lib.hid hhp
              clear hhp
              dsimp only
              cases hp with
              | false =>
                have hy : ltP x 7 = [] := if_neg (by rw [← HH.out]; decide)
                have HY := Lib.hid hy
                clear hy
                go_wp2_with fail
                go_end0
                exact ⟨rfl, Wrote.later F0.out (show Wrote b wv (ltU x 7) w0 _ by rw [ltU_none HY.out]; exact HO1.out.2)⟩
              | true =>
                have hy : ltP x 7 = _ := if_pos HH.out.symm
                have HY := Lib.hid hy
                clear hy
                obtain ⟨⟨⟨⟨ht0, ht1⟩, hn0, hn1⟩, ⟨hv0, hv1⟩, hck, h16, hlen⟩, hae, har, hal⟩ := HX.out.a HH.out.symm
                have HCK := Lib.hid (And.intro hck (And.intro h16 (And.intro hlen (And.intro hae (And.intro har hal)))))
                clear hck h16 hlen hae har hal
                obtain ⟨-, -, -, -, -, -, c21, c22, -, -, -⟩ := lt_cells3 HO1.out.1
                obtain ⟨v, hw, -, hstep⟩ := HO1.out.opened HG.out
                go_wp2_with fail
                refine (word_any b v (ltU x 6) x.it ht0 ht1 w1 hw (by have := HU.out 6; omega)).mono ?_
                rintro e w2 ⟨rfl, wr⟩
                have HO2 := Lib.hid (hstep _ _ wr)
                clear hstep wr hw c21 c22
                obtain ⟨-, -, -, -, -, -, c21, c22, -, -, -⟩ := lt_cells3 HO2.out.1
                obtain ⟨v, hw, -, hstep⟩ := HO2.out.opened HG.out
                dsimp only
                go_wp2_with fail
                refine (word_any b v (ltU x 6 ++ be2 x.it.toNat) x.iN hn0 hn1 w2 hw (by have := HU.out 6; rw [List.length_append, be2_length]; omega)).mono ?_
                rintro e w3 ⟨rfl, wr⟩
                have HO3 := Lib.hid (hstep _ _ wr)
                clear hstep wr hw c21 c22 HO2
                have hls := HO3.out.ls HL.out HG.out.2.2 HF.out
                obtain ⟨a3, d3, hva, hcm⟩ := hls.v.shape
                obtain ⟨c15, c16, -, -, -, -, -, -, -, -, -⟩ := lt_cells3 HO3.out.1
                obtain ⟨v, hw, hv, hstep⟩ := HO3.out.opened HG.out
                have hof := offI HL.out.v HF.out.va HG.out.2.2 (v := v) hv
                rw [hva] at c16 hof
                have HCM := Lib.hid (And.intro hcm hof)
                clear hls hva hcm hof
                dsimp only
                go_wp2_with fail
                refine (wview_any b v (ltU x 6 ++ be2 x.it.toNat ++ be2 x.iN.toNat) x.vn x.vm a3 d3 w3 hv0 hv1 hw (by have := HU.out 6; rw [List.length_append, List.length_append, be2_length, be2_length]; omega) HCM.out.1 HCK.out.2.2.1 HCK.out.2.1 HCM.out.2).mono ?_
                rintro e w4 ⟨rfl, wr⟩
                have HO4 := Lib.hid (hstep _ _ wr)
                clear hstep wr hw hv c15 c16 HO3 HCM
                have hls := HO4.out.ls HL.out HG.out.2.2 HF.out
                obtain ⟨-, -, -, -, -, -, -, -, c23, c24, c25⟩ := lt_cells3 HO4.out.1
                obtain ⟨v, hw, hv, hstep⟩ := HO4.out.opened HG.out
                have HLS := Lib.hid (And.intro hls.a (offS HL.out.a HF.out.aa HG.out.2.2 hv))
                clear hls hv
                dsimp only
                go_wp2_with fail
                refine (aput_any x.ae x.ar s.aa x.al b v (ltU x 6 ++ be2 x.it.toNat ++ be2 x.iN.toNat ++ viewB x.vn x.vm) w4 HCK.out.2.2.2.1 HCK.out.2.2.2.2.1 HLS.out.1 HCK.out.2.2.2.2.2 hw (by have := HU.out 6; have := viewB_length x.vn x.vm HCK.out.2.2.1; rw [List.length_append, List.length_append, List.length_append, be2_length, be2_length]; omega) HLS.out.2).mono ?_
                rintro e w5 ⟨rfl, wr⟩
                have HO5 := Lib.hid (hstep _ _ wr)
                clear hstep wr hw
                dsimp only
                go_wp2_with fail
                go_end0
                exact ⟨rfl, Wrote.later F0.out (show Wrote b wv (ltU x 7) w0 _ by rw [ltU_next HY.out]; simpa only [List.append_assoc] using HO5.out.2)⟩
end
section
set_option maxRecDepth 100000

/-- A variable that holds bytes owned alone. -/
structure Ob (w : World) (b : Nat) (v : Value) (l : List UInt8) : Prop where
  here : w.heap[b]? = some (.cells #[v] 24 (0, 0))
  own : Own w v l
  apart : v.ownBlock ≠ some b

/-- What an append to it leaves. -/
def Outs (b : Nat) (v : Value) (l : List UInt8) (w : World) (w' : World) : Prop :=
  ∃ v', Ob w' b v' l ∧ Fr (fun k => k = b ∨ v.ownBlock = some k) w w' ∧ (v'.ownBlock = v.ownBlock ∨ ∀ k, v'.ownBlock = some k → w.heap.size ≤ k)

theorem Ob.lt {w : World} {b : Nat} {v : Value} {l : List UInt8} (h : Ob w b v l) : b < w.heap.size ∧ ∀ k, v.ownBlock = some k → k < w.heap.size := ⟨lt_of_block h.here, h.own.lt⟩

theorem Ob.fr {w w' : World} {b : Nat} {v : Value} {l : List UInt8} (h : Ob w b v l) (f : Fr (fun _ => False) w w') : Ob w' b v l := ⟨crow_kept h.here f (fun h => h), h.own.fr f (fun _ _ h => h), h.apart⟩

theorem Outs.trans {b : Nat} {v v1 : Value} {l2 : List UInt8} {w w1 w2 : World} (hf : Fr (fun k => k = b ∨ v.ownBlock = some k) w w1) (hv : v1.ownBlock = v.ownBlock ∨ ∀ k, v1.ownBlock = some k → w.heap.size ≤ k)
    (h2 : Outs b v1 l2 w1 w2) : Outs b v l2 w w2 := by
  obtain ⟨v2, hw2, hf2, hv2⟩ := h2
  refine ⟨v2, hw2, hf.trans hf2 ?_, ?_⟩
  · rintro i hi (rfl | e)
    · exact .inl rfl
    · rcases hv with e1 | e1
      · exact .inr (e1 ▸ e)
      · have := e1 i e; omega
  · rcases hv2 with e2 | e2
    · rcases hv with e1 | e1
      · exact .inl (e2.trans e1)
      · right; intro k hk; exact e1 k (e2 ▸ hk)
    · right; intro k hk; have := e2 k hk; have := hf.size; omega

theorem Outs.later {b : Nat} {v : Value} {l : List UInt8} {w0 w w' : World} (f : Fr (fun _ => False) w0 w) (h : Outs b v l w w') : Outs b v l w0 w' := by
  obtain ⟨v', h1, h2, h3⟩ := h
  exact ⟨v', h1, (f.mono (fun _ _ h => h.elim)).trans h2 (fun _ _ h => h), h3.imp id (fun h k hk => Nat.le_trans f.size (h k hk))⟩

/-- Behind the append, ahead of the store. -/
def ObA (w : World) (b : Nat) (v : Value) (l : List UInt8) (u : Value) (wx : World) : Prop :=
  wx.heap[b]? = some (.cells #[v] 24 (0, 0)) ∧ Own wx u l ∧ u.ownBlock ≠ some b ∧ Fr (fun k => k = b ∨ v.ownBlock = some k) w wx ∧ (u.ownBlock = v.ownBlock ∨ ∀ k, u.ownBlock = some k → w.heap.size ≤ k)

theorem ObA.store {w wx : World} {b : Nat} {v u : Value} {l : List UInt8} (h : ObA w b v l u wx) : Outs b v l w (wx.setCell ⟨b, 0, none⟩ u) := by
  obtain ⟨h1, h2, h3, h4, h5⟩ := h
  have hf : Fr (fun k => k = b) wx (wx.setCell ⟨b, 0, none⟩ u) := (Fr.refl (fun k => k = b) wx).setCell (p := ⟨b, 0, none⟩) (fun _ => rfl) u
  refine ⟨u, ⟨?_, h2.fr hf (fun k hk e => h3 (by rw [hk, e])), h3⟩, h4.trans hf (fun i _ e => .inl e), h5⟩
  rw [heap_setCell_same wx b 0 _ _ u h1]
  rfl

/-- The chain: the load is known; a call makes bytes, they are appended, the row is stored. -/
def ObS (w : World) (b : Nat) (v : Value) (L q : List UInt8) : List Value → World → Prop
  | [], wx => Fr (fun _ => False) w wx
  | [y], wx => Made y q w wx
  | [_, u], wx => ObA w b v (L ++ q) u wx
  | [_, _, _], wx => Outs b v (L ++ q) w wx
  | _, _ => False

theorem opWp_ob {w wx : World} {o : Oper} {a : Act} {K : Act → World → Prop} {Q : Exit → Act → World → Prop} (s x : Operand)
    (ho : o.op = .call { callee := .builtin .append, args := #[s, x], argTypes := #[24, 24] })
    (b : Nat) (v : Value) (hs : a.eval s = v) (xv : Value) (hx : a.eval x = xv) (L q : List UInt8) (h1 : Ob w b v L) (h2 : Made xv q w wx) (hlen : L.length + q.length ≤ 1000000)
    (h : ∀ u w', ObA w b v (L ++ q) u w' → K (a.put o.dst u) w') : o.wp Try.prog a wx K Q := by
  obtain ⟨i0, hi, hz0, hz1, hz2⟩ := info_parts Try.infoU8
  obtain ⟨ax, cx, e⟩ := slice_of_own h2.1
  have h1x := h1.fr h2.2.1
  have hown := h1x.own
  obtain ⟨v', w', hr, k2, k3, k4⟩ := run_append_sep (P := Try.prog) wx 0 24 24 o.type 5 i0 (.int .u8 0) 1 1 Try.underlying24 _ Try.underlying24 (.inr ⟨_, rfl⟩) hi hz0 hz1 hz2 rfl (by decide) v L.length (L.map bv) hown xv q.length (q.map bv) (fun w => by rw [e]; exact lenOf_slice _ _ _ _) (by simp) h2.1.sees.first (h2.1.sees.drew).first (bv_one _) (by unfold maxLen; omega) (by omega) (Nat.zero_le _)
  unfold Oper.wp execOp
  simp only [ho, resolve, invoke, builtin, Sem.run_bind, Sem.run_pure, Result.andThen_ok, List.map_toArray, List.map_cons, List.map_nil, hs, hx, hr]
  refine h v' w' ?_
  have hbl := h1x.lt
  have hg : Fr (fun k => some k = v.ownBlock) wx w' := Fr.of_grown k3
  have hw2 : w.heap.size ≤ wx.heap.size := h2.2.1.size
  refine ⟨crow_kept h1x.here hg (fun e => h1x.apart e.symm), ?_, ?_, (h2.2.1.mono (fun _ _ h => h.elim)).trans hg (fun i _ e => .inr e.symm), ?_⟩
  · unfold Own
    rw [List.length_append, List.map_append]
    exact k2
  · rcases k4 with e4 | e4
    · rw [e4]; exact h1x.apart
    · rw [e4]
      intro e
      have := Option.some.inj e
      omega
  · rcases k4 with e4 | e4
    · exact .inl e4
    · refine .inr fun k hk => ?_
      rw [e4] at hk
      have := Option.some.inj hk
      omega
end
end Go.Proofs.Ytjnbpgadgdjobaa
