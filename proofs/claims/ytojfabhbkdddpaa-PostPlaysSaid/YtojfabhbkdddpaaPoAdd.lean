/-
  Post: add (a flight put at the end), Send, Copy.
-/
import Derived.Test.YtojfabhbkdddpaaPoIn
namespace Go.Proofs.Ytojfabhbkdddpaa
open Go.RowKit
set_option maxRecDepth 100000
set_option linter.unusedSimpArgs false
set_option linter.unusedVariables false

theorem first_fl {P : Program} {w : World} {g : Nat} {t : Int} {v : Value} {s : Bool} (h : w.heap[g]? = some (oFl t v s)) (c : Nat) (x : Fl) (hx : x.t = t ∧ x.v = v ∧ x.s = s) :
    (Builtin.firstCells 3 1 (.slice (some ⟨g, 0, none⟩) 1 c)).run P w = .ok x.cells.toArray w := by
  obtain ⟨rfl, rfl, rfl⟩ := hx
  refine run_firstCells_some (P := P) w 3 1 ⟨g, 0, none⟩ 1 c x.cells rfl (by
    intro j u hj
    have hplain : (⟨g, 0, none⟩ : Addr).add j = ⟨g, j, none⟩ := by unfold Addr.add; split <;> simp_all
    rw [hplain, cell_of_row w g j _ _ _ h]
    unfold Fl.cells at hj
    simpa using hj)

theorem fl_one (x : Fl) (hv : x.v.oneCell' = true) : ∀ u ∈ x.cells, u.oneCell' = true := by
  intro u hm
  unfold Fl.cells at hm
  simp only [List.mem_cons, List.not_mem_nil, or_false] at hm
  rcases hm with rfl | rfl | rfl <;> first | rfl | assumption

/-- A flight is put behind a row that is owned alone. -/
theorem opWp_fl {w : World} {o : Oper} {a : Act} {K : Act → World → Prop} {Q : Exit → Act → World → Prop} (s xo : Operand)
    (ho : o.op = .call { callee := .builtin .append, args := #[s, xo], argTypes := #[25, 25] }) (B : Nat) (v : Value) (hs : a.eval s = v) (L : List Fl) (hown : FlOwn w B v L)
    (g : Nat) (x : Fl) (hv1 : x.v.oneCell' = true) (hx : a.eval xo = .slice (some ⟨g, 0, none⟩) 1 1) (hrow : w.heap[g]? = some (oFl x.t x.v x.s)) (hn : L.length ≤ 100000) (hB : B ≤ w.heap.size)
    (h : ∀ v' w', FlOwn w' B v' (L ++ [x]) → w.grownBy w' v.ownBlock → (v'.ownBlock = v.ownBlock ∨ v'.ownBlock = some w.heap.size) → K (a.put o.dst v') w') : o.wp Try.prog a w K Q := by
  obtain ⟨i0, hi, hz0, hz1, hz2⟩ := info_parts Try.infoFl
  obtain ⟨v', w', hr, k2, k3, k4⟩ := run_append_sep (P := Try.prog) w B 25 25 o.type 37 i0 _ 3 40 Try.underlying25 _ Try.underlying25 (.inr ⟨_, rfl⟩) hi hz0 hz1 hz2 rfl (by decide) v L.length _
    hown (.slice (some ⟨g, 0, none⟩) 1 1) 1 x.cells (fun w => lenOf_slice _ _ _ w) rfl (first_fl hrow 1 x ⟨rfl, rfl, rfl⟩) (first_fl (w := w.drew) hrow 1 x ⟨rfl, rfl, rfl⟩) (fl_one x hv1) (by unfold maxLen; omega) (by omega) hB
  have k5 : FlOwn w' B v' (L ++ [x]) := by
    unfold FlOwn
    rw [List.length_append, List.flatMap_append, List.flatMap_cons, List.flatMap_nil, List.append_nil]
    exact k2
  unfold Oper.wp execOp
  simp only [ho, resolve, invoke, builtin, Sem.run_bind, Sem.run_pure, Result.andThen_ok, List.map_toArray, List.map_cons, List.map_nil, hs, hx, hr]
  exact h v' w' k5 k3 k4

/-- What is done of the region that puts a flight behind the row. -/
def AdS (b B : Nat) (v : Value) (L : List Fl) (t : Int) (s : Bool) (l : List UInt8) (w : World) : List Value → World → Prop
  | [], wx => wx = w.drew
  | [y1], wx => ∃ u, y1 = flv t u s ∧ Made u l w wx
  | [_, y2], wx => ∃ u g, y2 = .slice (some ⟨g, 0, none⟩) 1 1 ∧ wx.heap[g]? = some (oFl t u s) ∧ Made u l w wx ∧ w.heap.size ≤ g
  | [_, _, y3], wx => ∃ u, FlOwn wx B y3 (L ++ [⟨t, l, s, u⟩]) ∧ Own wx u l ∧ (∀ k, u.ownBlock = some k → w.heap.size ≤ k) ∧ Fr (fun k => v.ownBlock = some k) w wx ∧ (∀ k, y3.ownBlock = some k → v.ownBlock = some k ∨ w.heap.size ≤ k)
  | [_, _, _, _], wx => ∃ v' u, FlOwn wx B v' (L ++ [⟨t, l, s, u⟩]) ∧ Own wx u l ∧ (∀ k, u.ownBlock = some k → w.heap.size ≤ k) ∧ Fr (fun k => k = b ∨ v.ownBlock = some k) w wx ∧ (∀ k, v'.ownBlock = some k → v.ownBlock = some k ∨ w.heap.size ≤ k) ∧ wx.heap[b]? = some (.cells #[v'] 27 (0, 0))
  | _, _ => False

theorem AdS.fr {b B : Nat} {v : Value} {L : List Fl} {t : Int} {s : Bool} {l : List UInt8} {w wx : World} : ∀ {c : List Value}, c.length ≤ 3 → AdS b B v L t s l w c wx → Fr (fun k => v.ownBlock = some k) w wx
  | [], _, h => by
    have e : wx = w.drew := h
    rw [e]
    exact (Fr.refl _ w).drew
  | [_], _, ⟨_, _, h⟩ => h.2.1.mono (fun _ _ h => h.elim)
  | [_, _], _, ⟨_, _, _, _, h, _⟩ => h.2.1.mono (fun _ _ h => h.elim)
  | [_, _, _], _, ⟨_, _, _, _, h, _⟩ => h
  | _ :: _ :: _ :: _ :: _, h, _ => by simp at h

/-- The post behind all that. -/
theorem AdS.done {b B : Nat} {v : Value} {L : List Fl} {t : Int} {s : Bool} {l : List UInt8} {w wx : World} {y1 y2 y3 y4 : Value} (h : PostIn w B b v L) (hl : l.length ≤ 100000) (hn : L.length < 400) (hd : AdS b B v L t s l w [y1, y2, y3, y4] wx) :
    ∃ v' u, PNew w wx B b v L v' (L ++ [⟨t, l, s, u⟩]) := by
  obtain ⟨v', u, h1, h2, h3, h4, h5, h6⟩ := hd
  have hBw : B ≤ w.heap.size := by have := h.lt b (.inl rfl); omega
  refine ⟨v', u, ⟨h6, h.bB, h1, fun x hx => ?_, ?_, by rw [List.length_append]; simp; omega⟩, h4.mono (fun k _ hk => ?_), fun k hk => ?_⟩
  · rcases List.mem_append.1 hx with hx | hx
    · obtain ⟨k1, k2, k3⟩ := h.own x hx
      refine ⟨k1.fr h4 (fun k hk e => ?_), k2, k3⟩
      rcases e with e | e
      · exact h.bytesNe hx hk e
      · exact (h.rowNe e).2 x hx hk
    · simp at hx
      subst hx
      exact ⟨h2, hl, fun k hk => Nat.le_trans hBw (h3 k hk)⟩
  · rw [List.pairwise_append]
    refine ⟨h.ap, List.pairwise_singleton _ _, fun x hx y hy k hk e => ?_⟩
    simp at hy
    subst hy
    have a1 := h3 k e
    have a2 := (h.own x hx).1.lt k hk
    omega
  · rcases hk with rfl | hk
    · exact .inl rfl
    · exact .inr (.inl hk)
  · rcases hk with rfl | hk | ⟨x, hx, hk⟩
    · exact .inl (.inl rfl)
    · rcases h5 k hk with e | e
      · exact .inl (.inr (.inl e))
      · exact .inr e
    · rcases List.mem_append.1 hx with hx | hx
      · exact .inl (.inr (.inr ⟨x, hx, hk⟩))
      · simp at hx
        subst hx
        exact .inr (h3 k hk)

/-- What a post is behind a flight that is put there. -/
def sendP (R : List PF) (x : PF) : List PF := if R.length < 400 then R ++ [x] else R

theorem run_room (n : Nat) (w : World) : (binOp .geq 3 (.int .i64 n) (.int .i64 400)).run Try.prog w = .ok (.bool (decide ((400 : Int) ≤ n))) w := by kernel_rfl

section
variable {w : World} {B b : Nat} {v : Value} {L : List Fl}

theorem add_nil (t : Int) (a : Value) (s : Bool) (w : World) : Calls Try.prog 14 #[nilP, flv t a s] w fun e w' => e = .returned (.bool false) ∧ Fr (fun _ => False) w w' := by
  unfold flv
  go_enter Try.func14, Try.ntmps14
  go_wp2_with fail
  go_ret
  exact ⟨rfl, (Fr.refl _ _).alloc _⟩

set_option maxHeartbeats 8000000 in
theorem add_any (h : PostIn w B b v L) (t : Int) (s : Bool) (l : List UInt8) (v0 : Value) (hs : Sees w v0 l) (hl : l.length ≤ 100000) : Calls Try.prog 14 #[ptr b, flv t v0 s] w fun e w' =>
    e = .returned (.bool (decide (L.length < 400))) ∧ ∃ v' L', PNew w w' B b v L v' L' ∧ L'.map Fl.p = sendP (L.map Fl.p) (t, l, s) := by
  obtain ⟨a, c, rfl, hn⟩ := hs.shape
  clear hn
  have q0 := heap_alloc_new w (oFl t (.slice a l.length c) s)
  have f0 : Fr (fun _ => False) w (w.alloc (oFl t (.slice a l.length c) s)) := (Fr.refl _ _).alloc _
  have h0 := h.fr0 f0
  have s0 := hs.fr f0 (fun _ _ h => h)
  have PN0 := Lib.hid (PNew.same h f0)
  have hbg : b ≠ w.heap.size := by have := h.lt b (.inl rfl); omega
  obtain ⟨av, ac, rfl⟩ := h.shape
  have hc := h0.cell
  have hvg : ∀ k, (Value.slice av L.length ac).ownBlock = some k → k ≠ w.heap.size := fun k hk => by have := h.lt k (.inr (.inl hk)); omega
  have HVG := Lib.hid hvg
  clear h hs f0 hvg
  unfold flv
  go_enter Try.func14, Try.ntmps14
  go_upto_region 1 with fail
  generalize w.alloc (oFl t (.slice a l.length c) s) = w0 at *
  generalize hg : w.heap.size = g at *
  have HG := Lib.hid hg; clear hg
  have H0 := Lib.hid (And.intro h0 (And.intro s0 q0))
  have hm := h0.many
  clear h0 s0 q0
  by_cases hlt : L.length < 400
  case neg =>
    have hge : (400 : Int) ≤ (L.length : Int) := by omega
    have PN := Lib.hid (And.intro PN0.out hlt)
    clear PN0 H0 HVG hm hlt
    go_wp2_with fail
    go_ret
    refine ⟨by simp [PN.out.2], _, L, PN.out.1, ?_⟩
    unfold sendP
    rw [if_neg (by rw [List.length_map]; exact PN.out.2)]
  have hlt' : ¬ ((400 : Int) ≤ (L.length : Int)) := by omega
  have HLT := Lib.hid hlt; clear hlt
  go_upto_region 3 with fail
  clear hc hm hlt'
  refine wp_region_chain (by kernel_rfl) [some 15, some 16, some 17, some 18, some 19, some 20, some 21, some 22, some 23, some 24, some 25, none] rfl (by decide) (by intro d hd; simp at hd ⊢; omega)
    [6, 7, 8, 11] (fun cvs wx => AdS b B (.slice av L.length ac) L t s l w0 cvs wx)
    [.free (ptr b), .free (ptr b), .free (ptr b), .free (.pointer (some ⟨b, 0, none⟩)), .free (.slice av L.length ac), .free (.agg #[.int .i64 t, .slice a l.length c, .bool s]), .link none, .link none, .link none, .free (ptr b), .free (.pointer (some ⟨b, 0, none⟩)), .link none]
    (by kernel_rfl) (by kernel_rfl) ?h3 ?step3 ?fin3
  case h3 => exact rfl
  case step3 =>
    intro vals
    simp only [frOfU, fillU, List.setIfInBounds_toArray, List.set_cons_succ, List.set_cons_zero]
    repeat' (first | exact AllOps.nil | refine AllOps.cons ?_ ?_)
    all_goals
      intro cvs wx hS he hu hlim Kc hK
      simp only [Act.put, List.setIfInBounds_toArray, List.set_cons_succ, List.set_cons_zero, List.getD_cons_zero, List.getD_cons_succ] at hK
      simp only [List.mem_cons, List.not_mem_nil, or_false, forall_eq_or_imp, forall_eq, Region.binds, forall_const, qmode_gc, Bool.false_eq_true, false_imp_iff, List.getD_cons_zero, List.getD_cons_succ, OpSort.val, Option.some.injEq, forall_eq', reduceCtorEq, implies_true, true_and, and_true] at he
      have HSX := Lib.hid hS
      clear hS
    all_goals first | (clear hlim hu; (try simp only [he] at hK ⊢); go_simp; exact hK) | skip
    · have hle : cvs.length ≤ 3 := hlim 3 11 rfl (by kernel_rfl)
      have hfr := AdS.fr (by omega) HSX.out
      have hcx := crow (crow_kept H0.out.1.here hfr (fun e => (H0.out.1.rowNe e).1 rfl)) 0 _ rfl
      clear hlim hu hle hfr
      simp only [he] at hK ⊢
      go_simp
      exact hK
    · have hle : cvs.length ≤ 0 := hlim 0 6 rfl (by kernel_rfl)
      have hfr := AdS.fr (by omega) HSX.out
      obtain ⟨c0, c1, c2⟩ := cell3 (crow_kept H0.out.2.2 hfr (fun e => HVG.out g e rfl))
      clear hlim hu hle hfr
      simp only [he] at hK ⊢
      go_simp
      exact hK
    · obtain rfl := hlim (0 : Nat) rfl
      obtain rfl : wx = w0.drew := HSX.out
      have ha := apart_any t s (.slice a l.length c) l w0.drew H0.out.2.1 (by omega)
      unfold flv at ha
      clear hlim hu HSX
      simp only [he] at hK ⊢
      go_simp
      go_at_call 19
      refine ha.mono ?_
      rintro y wa ⟨u, rfl, hm⟩
      exact hK _ _ (fun _ h => by cases h) ⟨u, rfl, hm.1, (Fr.refl _ w0).drew.trans hm.2.1 (fun _ _ h => h), hm.2.2⟩
    · obtain rfl := hlim (1 : Nat) rfl
      obtain ⟨u, hv6, hm⟩ : ∃ u, vals 6 = flv t u s ∧ Made u l w0 wx := HSX.out
      obtain ⟨ua, uc, rfl⟩ := slice_of_own hm.1
      have R := Lib.hid (show AdS b B (.slice av L.length ac) L t s l w0 [vals 6, .slice (some ⟨wx.heap.size, 0, none⟩) 1 1] (wx.alloc (oFl t (.slice ua l.length uc) s)) from ⟨_, wx.heap.size, rfl, heap_alloc_new wx _, ⟨hm.1.fr ((Fr.refl (fun _ => False) wx).alloc _) (fun _ _ h => h), hm.2.1.alloc _, hm.2.2⟩, hm.2.1.size⟩)
      unfold flv at hv6
      clear hlim hu HSX hm
      simp only [he, hv6] at hK R ⊢
      go_simp
      exact hK _ _ (fun _ h => by cases h) R.out
    · obtain rfl := hlim (2 : Nat) rfl
      obtain ⟨u, gy, hv7, hrow, hm, hgy⟩ : ∃ u g, vals 7 = .slice (some ⟨g, 0, none⟩) 1 1 ∧ wx.heap[g]? = some (oFl t u s) ∧ Made u l w0 wx ∧ w0.heap.size ≤ g := HSX.out
      obtain ⟨ua, uc, rfl⟩ := slice_of_own hm.1
      have hown : FlOwn wx B (.slice av L.length ac) L := ownsRow_fr H0.out.1.row hm.2.1 (fun _ _ h => h)
      have hm400 := H0.out.1.many
      have hBw : B ≤ wx.heap.size := by have := H0.out.1.lt b (.inl rfl); have := hm.2.1.size; omega
      clear hlim hu HSX
      simp only [he, hv7] at hK ⊢
      rw [if_pos (by rfl)]
      refine opWp_fl (.tmp 19) (.tmp 22) rfl B (.slice av L.length ac) rfl L hown gy ⟨t, l, s, .slice ua l.length uc⟩ rfl rfl hrow (by omega) hBw ?_
      intro v' w' k2 k3 k4
      refine hK _ _ (fun _ h => by cases h) ⟨_, k2, hm.1.fr (Fr.of_grown k3) (fun k hk e => ?_), hm.2.2, hm.2.1.comp (Fr.of_grown k3) (fun _ h => h.elim) (fun k h => h.symm), fun k hk => ?_⟩
      · have a1 := hm.2.2 k hk
        have a2 := (World.ownsRow.lt H0.out.1.row k e.symm).2
        omega
      · rcases k4 with e | e
        · exact .inl (e ▸ hk)
        · right
          rw [e] at hk
          simp at hk
          have := hm.2.1.size
          omega
    · obtain rfl := hlim (3 : Nat) rfl
      obtain ⟨u, k2, ho, hu2, hf, k4⟩ : ∃ u, FlOwn wx B (vals 8) (L ++ [Fl.mk t l s u]) ∧ Own wx u l ∧ (∀ k, u.ownBlock = some k → w0.heap.size ≤ k) ∧ Fr (fun k => (Value.slice av L.length ac).ownBlock = some k) w0 wx ∧ (∀ k, (vals 8).ownBlock = some k → (Value.slice av L.length ac).ownBlock = some k ∨ w0.heap.size ≤ k) := HSX.out
      obtain ⟨a7, n7, c7, h7⟩ : ∃ a n c, vals 8 = .slice a n c := by
        obtain ⟨a, c, e⟩ := slice_of_own k2
        exact ⟨a, _, c, e⟩
      have hbx := crow_kept H0.out.1.here hf (fun e => (H0.out.1.rowNe e).1 rfl)
      have hcx := crow hbx 0 _ rfl
      have z0 : wx.frozen? ⟨b, 0, none⟩ = false := vfree hbx 0
      have fs : Fr (fun k => k = b) wx (wx.setCell ⟨b, 0, none⟩ (vals 8)) := (Fr.refl (fun k => k = b) wx).set1 0 (vals 8)
      have hblt := H0.out.1.lt b (.inl rfl)
      have R := Lib.hid (show AdS b B (.slice av L.length ac) L t s l w0 [vals 6, vals 7, vals 8, undef] (wx.setCell ⟨b, 0, none⟩ (vals 8)) from ⟨vals 8, u, ownsRow_fr k2 fs (fun k hk e => by
          subst e
          rcases k4 k hk with e1 | e1
          · exact (H0.out.1.rowNe e1).1 rfl
          · omega), ho.fr fs (fun k hk e => by have := hu2 k hk; omega), hu2, hf.comp fs (fun _ h => .inr h) (fun _ h => .inl h), k4, by rw [heap_setCell_same wx b 0 _ _ _ hbx]; rfl⟩)
      clear hlim hu HSX hbx k2 hf k4 ho hu2 fs
      simp only [he, h7] at hK R ⊢
      go_simp
      exact hK undef _ (fun _ h => by cases h) R.out
  case fin3 =>
  intro vals w4 hS hV
  have v0 := hV 0 _ (by decide) rfl
  have v1 := hV 1 _ (by decide) rfl
  have v2 := hV 2 _ (by decide) rfl
  have v3 := hV 3 _ (by decide) rfl
  have v4 := hV 4 _ (by decide) rfl
  have v5 := hV 5 _ (by decide) rfl
  have v9 := hV 9 _ (by decide) rfl
  have v10 := hV 10 _ (by decide) rfl
  clear hV
  simp only [frOfU, fillU, List.setIfInBounds_toArray, List.set_cons_succ, List.set_cons_zero]
  simp only [Nat.reduceAdd, v0, v1, v2, v3, v4, v5, v9, v10]
  clear v0 v1 v2 v3 v4 v5 v9 v10
  have hd : AdS b B (.slice av L.length ac) L t s l w0 [vals 6, vals 7, vals 8, vals 11] w4 := hS
  clear hS
  obtain ⟨v', u, hpn⟩ := AdS.done H0.out.1 hl HLT.out hd
  obtain ⟨v1, u1, hd1⟩ := hd
  have HP := Lib.hid hpn
  clear hpn hd1
  generalize vals 6 = z6 at *
  generalize vals 7 = z7 at *
  generalize vals 8 = z8 at *
  clear vals
  go_wp2_with fail
  go_ret
  refine ⟨by simp [HLT.out], v', L ++ [⟨t, l, s, u⟩], ?_, ?_⟩
  · exact PN0.out.trans HP.out
  · unfold sendP
    rw [if_pos (by rw [List.length_map]; exact HLT.out), List.map_append]
    rfl

theorem send_nil (t : Int) (a : Option Addr) (n c : Nat) (w : World) : Calls Try.prog 8 #[nilP, .int .i64 t, .slice a n c] w fun e w' => e = .returned (.bool false) ∧ Fr (fun _ => False) w w' := by
  go_enter Try.func8, Try.ntmps8
  go_wp2_with fail
  refine (add_nil t (.slice a n c) false w).mono ?_
  rintro e w1 ⟨rfl, f⟩
  go_wp2_with fail
  go_ret
  exact ⟨rfl, f⟩

theorem send_any (h : PostIn w B b v L) (t : Int) (l : List UInt8) (v0 : Value) (hs : Sees w v0 l) (hl : l.length ≤ 100000) : Calls Try.prog 8 #[ptr b, .int .i64 t, v0] w fun e w' =>
    e = .returned (.bool (decide (L.length < 400))) ∧ ∃ v' L', PNew w w' B b v L v' L' ∧ L'.map Fl.p = sendP (L.map Fl.p) (t, l, false) := by
  obtain ⟨a, c, rfl, hn⟩ := hs.shape
  clear hn
  have HA := Lib.hid (add_any h t false l _ hs hl)
  clear h hs
  go_enter Try.func8, Try.ntmps8
  go_wp2_with fail
  refine HA.out.mono ?_
  rintro e w1 ⟨rfl, hr⟩
  have HR := Lib.hid hr; clear hr
  go_wp2_with fail
  go_ret
  exact ⟨rfl, HR.out⟩

/-- What a post is behind a copy. -/
def copyP (R : List PF) (i : Int) : List PF := if hasB i R.length then sendP R (lookP R i) else R
def copyB (i : Int) (n : Nat) : Bool := hasB i n && decide (n < 400)

theorem copy_nil (i : Int) (w : World) : Calls Try.prog 10 #[nilP, .int .i64 i] w fun e w' => e = .returned (.bool false) ∧ Fr (fun _ => False) w w' := by
  go_enter Try.func10, Try.ntmps10
  go_wp2_with fail
  refine (has_nil w i).mono ?_
  rintro e w1 ⟨rfl, rfl⟩
  go_wp2_with fail
  go_ret
  exact ⟨rfl, Fr.refl _ _⟩

set_option maxHeartbeats 4000000 in
theorem copy_any (h : PostIn w B b v L) (i : Int) : Calls Try.prog 10 #[ptr b, .int .i64 i] w fun e w' =>
    e = .returned (.bool (copyB i L.length)) ∧ ∃ v' L', PNew w w' B b v L v' L' ∧ L'.map Fl.p = copyP (L.map Fl.p) i := by
  have hl : (L.map Fl.p).length = L.length := List.length_map ..
  have HH := Lib.hid (has_any h i)
  cases hb : hasB i L.length with
  | false =>
    have hr : copyB i L.length = false := by unfold copyB; rw [hb]; rfl
    have hp : copyP (L.map Fl.p) i = L.map Fl.p := by unfold copyP; rw [hl, hb]; rfl
    rw [hr, hp]
    have PN := Lib.hid (PNew.same h (Fr.refl _ _))
    clear h hl hp hr
    rw [hb] at HH
    clear hb
    go_enter Try.func10, Try.ntmps10
    go_wp2_with fail
    refine HH.out.mono ?_
    rintro e w1 ⟨rfl, rfl⟩
    go_wp2_with fail
    go_ret
    exact ⟨rfl, v, L, PN.out, rfl⟩
  | true =>
    obtain ⟨j, rfl, hj, e⟩ := lookP_in hl hb
    have hj' : j < L.length := by omega
    have hp : copyP (L.map Fl.p) j = sendP (L.map Fl.p) (lookP (L.map Fl.p) j) := by unfold copyP; rw [hl, hb]; rfl
    have hr : copyB j L.length = decide (L.length < 400) := by unfold copyB; rw [hb]; rfl
    rw [hr, hp, e, List.getElem_map]
    rw [hb] at HH
    obtain ⟨x, hx⟩ : ∃ x, x = L[j] := ⟨_, rfl⟩
    obtain ⟨gr, cap, rfl, hle, d0, d1, d2⟩ := h.at hj'
    rw [← hx] at d0 d1 d2 ⊢
    have hc := h.cell
    have ho := h.own x (by rw [hx]; exact List.getElem_mem hj')
    obtain ⟨ax, cx, hvx⟩ := slice_of_own ho.1
    have HA := Lib.hid (add_any h x.t x.s x.l x.v ho.1.sees ho.2.1)
    rw [hvx] at d1 HA
    have hjL : (j : Int) < L.length := by omega
    clear h ho hx hvx hl hp hr e hb hj hj'
    go_enter Try.func10, Try.ntmps10
    go_wp2_with fail
    refine HH.out.mono ?_
    rintro e w1 ⟨rfl, rfl⟩
    go_wp2_with fail
    refine HA.out.mono ?_
    rintro e w1 ⟨rfl, hr⟩
    have HR := Lib.hid hr; clear hr
    clear d0 d1 d2 hc
    go_wp2_with fail
    go_ret
    exact ⟨rfl, HR.out⟩
end
end Go.Proofs.Ytojfabhbkdddpaa
