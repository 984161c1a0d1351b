/-
  Put of a cache: the walk.
-/
import Derived.Test.YtefijimijmjahaaCacheDone
import Derived.Test.YtefijimijmjahaaRegionC
import Derived.Test.YtefijimijmjahaaTwo
import Derived.Deep.Cut
import Derived.Deep.CutRange
import Derived.Deep.CutBlock
namespace Go.Proofs.Ytefijimijmjahaa
open Go.RowKit
set_option maxRecDepth 100000

section
variable {b most : Nat} {ps : List Ent} {F : Nat → Prop} {sb ab : Nat} {ov : Value}

/-- Region 6: the answer's bytes are copied, then it is stored. -/
def P6 (e r : Int) (l : List UInt8) (ab : Nat) (L : List (IdN × Value)) (x : IdN) (w2 : World) : List Value → World → Prop
  | [], wx => Fr (fun _ => False) w2 wx
  | [v1], wx => ∃ v', v1 = av e r v' ∧ Made v' l w2 wx
  | [_, _], wx => ∃ v', MapAt wx ab (L ++ [(x, av e r v')]) ∧ Own wx v' l ∧ Fr (fun k => k = ab) w2 wx ∧ ∀ k, v'.ownBlock = some k → w2.heap.size ≤ k
  | _, _ => False

/-- Region 7: the call's number is put behind the row. -/
def P7 (b most sb ab n : Nat) (ov : Value) (L : List IdN) (x : IdN) (w3 : World) : List Value → World → Prop
  | [], wx => wx = w3.drew
  | [v1], wx => v1 = .slice (some ⟨w3.heap.size, 0, none⟩) 1 1 ∧ wx.heap[w3.heap.size]? = some (oId x) ∧ Fr (fun _ => False) w3 wx
  | [_, v2], wx => wx.ownsRow 0 36 2 v2 (n + 1) (idCells (L ++ [x])) ∧ Fr (fun k => ov.ownBlock = some k) w3 wx ∧ (∀ k, v2.ownBlock = some k → ov.ownBlock = some k ∨ w3.heap.size ≤ k)
  | [_, _, _], wx => ∃ v2, wx.ownsRow 0 36 2 v2 (n + 1) (idCells (L ++ [x])) ∧ Fr (fun k => k = b ∨ ov.ownBlock = some k) w3 wx ∧ (∀ k, v2.ownBlock = some k → ov.ownBlock = some k ∨ w3.heap.size ≤ k) ∧
      wx.heap[b]? = some (.cells #[.int .i64 most, .map (some sb), .map (some ab), v2] 53 (0, 0))
  | _, _ => False

theorem P7.fr {b most sb ab n : Nat} {ov : Value} {L : List IdN} {x : IdN} {w3 wx : World} : ∀ {c : List Value}, c.length ≤ 2 → P7 b most sb ab n ov L x w3 c wx → Fr (fun k => ov.ownBlock = some k) w3 wx
  | [], _, h => by
    have e : wx = w3.drew := h
    rw [e]
    exact (Fr.refl _ w3).drew
  | [_], _, h => h.2.2.mono (fun _ _ h => h.elim)
  | [_, _], _, h => h.2.1
  | _ :: _ :: _ :: _, h, _ => by simp at h

theorem P6.fr {e r : Int} {l : List UInt8} {ab : Nat} {L : List (IdN × Value)} {x : IdN} {w2 wx : World} : ∀ {c : List Value}, P6 e r l ab L x w2 c wx → Fr (fun k => k = ab) w2 wx
  | [], h => h.mono (fun _ _ h => h.elim)
  | [_], ⟨_, _, h⟩ => h.2.1.mono (fun _ _ h => h.elim)
  | [_, _], ⟨_, _, _, h, _⟩ => h
  | _ :: _ :: _ :: _, h => h.elim

theorem fc2 {g : Nat} {x : IdN} (w : World) (h : w.heap[g]? = some (oId x)) : (Builtin.firstCells 2 1 (.slice (some ⟨g, 0, none⟩) 1 1)).run Try.prog w = .ok (idCells [x]).toArray w := by
  refine run_firstCells_some (P := Try.prog) w 2 1 ⟨g, 0, none⟩ 1 1 (idCells [x]) rfl ?_
  intro j v hj
  have hplain : (⟨g, 0, none⟩ : Addr).add j = ⟨g, j, none⟩ := by unfold Addr.add; split <;> simp_all
  rw [hplain, cell_of_row w g j _ _ (0, 0) h]
  simpa [idCells] using hj

/-- A call's number is put behind a row that is owned alone. -/
theorem opWp_id {w : World} {o : Oper} {a : Act} {K : Act → World → Prop} {Q : Exit → Act → World → Prop} (s xo : Operand)
    (ho : o.op = .call { callee := .builtin .append, args := #[s, xo], argTypes := #[28, 28] }) (v : Value) (hs : a.eval s = v) (n : Nat) (L : List IdN) (hown : w.ownsRow 0 36 2 v n (idCells L))
    (g : Nat) (x : IdN) (hx : a.eval xo = .slice (some ⟨g, 0, none⟩) 1 1) (hrow : w.heap[g]? = some (oId x)) (hn : n ≤ 100000)
    (h : ∀ v' w', w'.ownsRow 0 36 2 v' (n + 1) (idCells (L ++ [x])) → w.grownBy w' v.ownBlock → (v'.ownBlock = v.ownBlock ∨ v'.ownBlock = some w.heap.size) → K (a.put o.dst v') w') : o.wp Try.prog a w K Q := by
  obtain ⟨i0, hi, hz0, hz1, hz2⟩ := info_parts Try.infoId
  obtain ⟨v', w', hr, k2, k3, k4⟩ := run_append_sep (P := Try.prog) w 0 28 28 o.type 36 i0 (.agg #[.int .u16 0, .int .u16 0]) 2 4 Try.underlying28 _ Try.underlying28 (.inr ⟨_, rfl⟩) hi hz0 hz1 hz2 rfl (by decide) v n (idCells L)
    hown (.slice (some ⟨g, 0, none⟩) 1 1) 1 (idCells [x]) (fun w => lenOf_slice _ _ _ w) rfl (fc2 w hrow) (fc2 w.drew hrow) (idCells_one _) (by unfold maxLen; omega) (by omega) (Nat.zero_le _)
  rw [← idCells_append] at k2
  unfold Oper.wp execOp
  simp only [ho, resolve, invoke, builtin, Sem.run_bind, Sem.run_pure, Result.andThen_ok, List.map_toArray, List.map_cons, List.map_nil, hs, hx, hr]
  exact h v' w' k2 k3 k4

set_option maxHeartbeats 8000000 in
theorem put_any (w : World) (h : CacheIn w b most ps F sb ab ov) (x : IdN) (hx : IdOk x) (e r : Int) (v : Value) (l : List UInt8) (hs : Sees w v l) (hl : l.length ≤ 140737488351232) : Calls Try.prog 12 #[.pointer (some ⟨b, 0, none⟩), kv x, av e r v] w fun y w' =>
    y = .returned (.bool (decide (x ∉ ps.map Ent.id))) ∧ ((x ∈ ps.map Ent.id ∧ Fr (fun _ => False) w w') ∨ (x ∉ ps.map Ent.id ∧ ∃ u ov', CacheIn w' b most (ps ++ [⟨x, e, r, l, u⟩]) (fun k => F k ∨ w.heap.size ≤ k) sb ab ov' ∧ Fr F w w')) := by
  obtain ⟨a, c, rfl, hn⟩ := hs.shape
  clear hn
  have hb := h.blt
  have hsb := h.seen.lt
  have hab := h.answers.lt
  have hov := h.olt
  have hb0 : b ≠ w.heap.size := by omega
  have f0 : Fr (fun _ => False) w ((w.alloc (oId x)).alloc (oAns e r (.slice a l.length c))) := ((Fr.refl _ _).alloc _).alloc _
  have q0 := new_two_fst w (oId x) (oAns e r (.slice a l.length c))
  have q1 := new_two w (oId x) (oAns e r (.slice a l.length c))
  have hsee := seen_any _ (h.fr0 f0) x hx
  have hs0 := hs.fr f0 (fun _ _ h => h)
  have h0 := h.fr0 f0
  unfold kv av at *
  go_enter Try.func12, Try.ntmps12
  go_wp2_with fail
  have hsz : ((w.alloc (oId x)).alloc (oAns e r (.slice a l.length c))).heap.size = w.heap.size + 2 := by simp
  generalize (w.alloc (oId x)).alloc (oAns e r (.slice a l.length c)) = w0 at *
  have HS0 := Lib.hid hs0; clear hs0 hs
  generalize hg : w.heap.size = g at *
  refine hsee.mono ?_
  rintro y w1 ⟨rfl, f1⟩
  clear hsee
  have h1 := h0.fr0 f1
  have p0 := crow_kept q0 f1 (fun h => h)
  have p1 := crow_kept q1 f1 (fun h => h)
  have F1 := Lib.hid (f0.trans f1 (fun _ _ h => h))
  have HS1 := Lib.hid (HS0.out.fr f1 (fun _ _ h => h))
  have hs1 := f1.size
  have HZ1 := Lib.hid f1.size
  obtain ⟨B, hB⟩ : ∃ B, B = decide (x ∈ ps.map Ent.id) := ⟨_, rfl⟩
  rw [← hB]
  clear h0 f0 f1 q0 q1 h
  have HB := Lib.hid hB; clear hB
  cases B with
  | true =>
    have hin : x ∈ ps.map Ent.id := of_decide_eq_true HB.out.symm
    go_wp2_with fail
    go_ret
    exact ⟨by simp [hin], .inl ⟨hin, F1.out⟩⟩
  | false =>
    have hin : x ∉ ps.map Ent.id := of_decide_eq_false HB.out.symm
    have HI := Lib.hid hin; clear hin
    have h1d := h1.fr0 (Fr.refl (fun _ => False) w1).drew
    obtain ⟨w2, hup, m2, f2, hz2⟩ := h1d.seen.put hx (by rw [seen_keys]; exact HI.out) Try.underlying51 (.agg #[])
    obtain ⟨c0, c1, c2, c3⟩ := h1.cells
    obtain ⟨d0, d1⟩ : w1.cell? ⟨g, 0, none⟩ = some (.int .u16 x.1) ∧ w1.cell? ⟨g, 1, none⟩ = some (.int .u16 x.2) := by simp [World.cell?, p0]
    have e1 : ∀ w, (binOp .eql 51 (.map (some sb)) (.map none)).run Try.prog w = .ok (.bool false) w := fun w => by kernel_rfl
    unfold kv at hup
    clear hz2 h1d
    have M2 := Lib.hid m2; clear m2
    have F2 := Lib.hid f2; clear f2
    have H1 := Lib.hid h1; clear h1
    go_wp2_with fail
    go_region
    go_upto_region 6 with fail
    have hap := H1.out.apart
    have hinF := H1.out.inF
    have here2 := crow_kept (w0 := w1.drew) H1.out.here F2.out hap.1
    have a2 : MapAt w2 ab ((keptE most ps).map Ent.mk') := H1.out.answers.fr (S := fun k => k = sb) ((Fr.refl _ w1).drew.trans F2.out (fun _ _ h => h)) (fun e => hap.2.2.1 e.symm)
    have p02 : w2.heap[g]? = some (oId x) := crow_kept (w0 := w1.drew) p0 F2.out (by omega)
    have p12 : w2.heap[g + 1]? = some (oAns e r (.slice a l.length c)) := crow_kept (w0 := w1.drew) p1 F2.out (by omega)
    clear p0 p1
    have Hov := Lib.hid hov; clear hov
    have Hap := Lib.hid hap; clear hap
    have Hin := Lib.hid hinF; clear hinF
    have A2 := Lib.hid a2; clear a2
    have Q2 := Lib.hid (And.intro here2 (And.intro p02 p12)); clear here2 p02 p12
    clear c0 c1 c2 c3 d0 d1 hup e1 hs1
    have HS2 := Lib.hid ((HS1.out.fr (Fr.refl (fun _ => False) w1).drew (fun _ _ h => h)).frMap (H1.out.fr0 (Fr.refl (fun _ => False) w1).drew).seen F2.out)
    have hnew : x ∉ ((keptE most ps).map Ent.mk').map Prod.fst := by
      rw [ans_keys]
      intro hm
      obtain ⟨p, hp, e1⟩ := List.mem_map.1 hm
      exact HI.out (List.mem_map.2 ⟨p, List.mem_of_mem_drop hp, e1⟩)
    have HN := Lib.hid hnew; clear hnew
    refine wp_region_chain (by kernel_rfl) [some 34, some 35, some 36, some 37, some 38, some 39, some 40, none] rfl (by decide) (by intro d hd; simp at hd ⊢; omega)
      [6, 7] (fun cvs wx => P6 e r l ab ((keptE most ps).map Ent.mk') x w2 cvs wx)
      [.free (.pointer (some ⟨b, 0, none⟩)), .free (.pointer (some ⟨b, 0, none⟩)), .free (.pointer (some ⟨b, 2, none⟩)), .free (.map (some ab)), .free (.agg #[.int .u16 x.1, .int .u16 x.2]), .free (.agg #[.int .i64 e, .int .i64 r, .slice a l.length c]), .link none, .link none]
      (by kernel_rfl) (by kernel_rfl) ?h06 ?step6 ?fin6
    case h06 => exact (Fr.refl _ _).drew
    case step6 =>
      intro vals
      simp only [frOfU, fillU, List.setIfInBounds_toArray, List.set_cons_succ, List.set_cons_zero]
      repeat' (first | exact AllOps.nil | refine AllOps.cons ?_ ?_)
      all_goals
        intro cvs wx hS he hu hlim K hK
        simp only [Act.put, List.setIfInBounds_toArray, List.set_cons_succ, List.set_cons_zero, List.getD_cons_zero, List.getD_cons_succ] at hK
        simp only [List.mem_cons, List.not_mem_nil, or_false, forall_eq_or_imp, forall_eq, Region.binds, forall_const, qmode_gc, Bool.false_eq_true, false_imp_iff, List.getD_cons_zero, List.getD_cons_succ, OpSort.val, Option.some.injEq, forall_eq', reduceCtorEq, implies_true, true_and, and_true] at he
        have hfr := P6.fr hS
        obtain ⟨c0, c1, c2, c3⟩ := cell4 (crow_kept Q2.out.1 hfr Hap.out.2.1)
        obtain ⟨d0, d1⟩ : wx.cell? ⟨g, 0, none⟩ = some (.int .u16 x.1) ∧ wx.cell? ⟨g, 1, none⟩ = some (.int .u16 x.2) := by simp [World.cell?, crow_kept Q2.out.2.1 hfr (by omega)]
        obtain ⟨k0, k1, k2⟩ := cell3 (crow_kept Q2.out.2.2 hfr (by omega))
        have HSX := Lib.hid hS
        clear hS hfr
      all_goals first | (clear hlim hu; (try simp only [he] at hK ⊢); go_simp; exact hK) | skip
      · obtain rfl := hlim (0 : Nat) rfl
        have h1 : Fr (fun _ => False) w2 wx := HSX.out
        have ha := apart_any e r (.slice a l.length c) l wx (HS2.out.fr h1 (fun _ _ h => h)) hl
        unfold av at ha
        have H1 := Lib.hid h1
        clear hlim hu HSX h1
        simp only [he] at hK ⊢
        go_simp
        go_at_call 16
        refine ha.mono ?_
        rintro y wa ⟨v', rfl, hm⟩
        exact hK _ _ (fun _ h => by cases h) ⟨v', rfl, hm.1, H1.out.trans hm.2.1 (fun _ _ h => h), fun k hk => Nat.le_trans H1.out.size (hm.2.2 k hk)⟩
      · obtain rfl := hlim (1 : Nat) rfl
        obtain ⟨v', hv6, hm⟩ : ∃ v', vals 6 = av e r v' ∧ Made v' l w2 wx := HSX.out
        obtain ⟨wa, hrun, m', f', hz⟩ := (A2.out.fr hm.2.1 (fun h => h)).put hx HN.out Try.underlying27 (av e r v')
        have hne : ∀ k, v'.ownBlock = some k → k ≠ ab := fun k hk => by have := hm.2.2 k hk; have := A2.out.lt; omega
        have R := Lib.hid (show P6 e r l ab ((keptE most ps).map Ent.mk') x w2 [vals 6, undef] wa from ⟨v', m', hm.1.fr f' hne, (hm.2.1.mono (fun _ _ h => h.elim)).trans f' (fun _ _ h => h), hm.2.2⟩)
        unfold av kv at *
        clear hlim hu HSX hm m' f' hz hne
        simp only [he, hv6] at hK ⊢
        go_simp
        exact hK _ _ (fun _ h => by cases h) R.out
    case fin6 =>
    intro vals w3 hS hV
    have v0 := hV 0 _ (by decide) rfl
    have v1 := hV 1 _ (by decide) rfl
    have v2 := hV 2 _ (by decide) rfl
    have v3 := hV 3 _ (by decide) rfl
    have v4 := hV 4 _ (by decide) rfl
    have v5 := hV 5 _ (by decide) rfl
    have h6 : P6 e r l ab ((keptE most ps).map Ent.mk') x w2 [vals 6, vals 7] w3 := hS
    clear hS hV
    simp only [frOfU, fillU, List.setIfInBounds_toArray, List.set_cons_succ, List.set_cons_zero]
    simp only [Nat.reduceAdd, v0, v1, v2, v3, v4, v5]
    clear v0 v1 v2 v3 v4 v5
    obtain ⟨u, m3, ho3, f3, hu3⟩ := h6
    generalize vals 6 = y6 at *
    clear vals
    have Q3 := Lib.hid (And.intro (crow_kept Q2.out.1 f3 Hap.out.2.1) (crow_kept Q2.out.2.1 f3 (by omega)))
    have M3 := Lib.hid m3; clear m3
    have O3 := Lib.hid ho3; clear ho3
    have F3 := Lib.hid f3; clear f3
    have U3 := Lib.hid hu3; clear hu3
    clear Q2 HS2
    go_upto_region 7 with fail
    have f13 : Fr (fun k => k = sb ∨ k = ab) w1 w3 := ((Fr.refl (fun k => k = sb ∨ k = ab) w1).drew.trans (F2.out.mono (fun _ _ h => .inl h)) (fun _ _ h => h)).trans F3.out (fun _ _ h => .inr h)
    have ord3 := ownsRow_fr H1.out.order f13 (fun k hk e => by have := Hap.out.2.2.2 k hk; omega)
    have hn3 := keptE_length most ps
    have hmx := H1.out.most2
    obtain ⟨n, hnn⟩ : ∃ n, n = (keptE most ps).length := ⟨_, rfl⟩
    obtain ⟨L, hL⟩ : ∃ L, L = (keptE most ps).map Ent.id := ⟨_, rfl⟩
    rw [← hnn, ← hL] at ord3
    rw [← hnn] at hn3
    have HNN := Lib.hid hnn; clear hnn
    have HLL := Lib.hid hL; clear hL
    have hn256 : n ≤ 256 := by omega
    have HN3 := Lib.hid hn3; clear hn3
    have ORD3 := Lib.hid ord3; clear ord3
    have F13 := Lib.hid f13; clear f13
    obtain ⟨hgw, hsz3⟩ : g + 2 ≤ w3.heap.size ∧ w0.heap.size ≤ w3.heap.size := by
      have h1 := F13.out.size
      have h2 := HZ1.out
      omega
    obtain ⟨i0, hi, hz0, hz1, hz2⟩ := info_parts Try.infoId
    obtain ⟨ova, ovn, ovc, rfl⟩ : ∃ a n c, ov = .slice a n c := by
      obtain ⟨a, c, e⟩ := slice_of_own ORD3.out
      exact ⟨a, _, c, e⟩
    refine wp_region_chain (by kernel_rfl) [some 41, some 42, some 43, some 44, some 45, some 46, some 47, some 48, some 49, some 50, none] rfl (by decide) (by intro d hd; simp at hd ⊢; omega)
      [6, 7, 10] (fun cvs wx => P7 b most sb ab n (.slice ova ovn ovc) L x w3 cvs wx)
      [.free (.pointer (some ⟨b, 0, none⟩)), .free (.pointer (some ⟨b, 0, none⟩)), .free (.pointer (some ⟨b, 0, none⟩)), .free (.pointer (some ⟨b, 3, none⟩)), .free (.slice ova ovn ovc), .free (.agg #[.int .u16 x.1, .int .u16 x.2]), .link none, .link none, .free (.pointer (some ⟨b, 0, none⟩)), .free (.pointer (some ⟨b, 3, none⟩)), .link none]
      (by kernel_rfl) (by kernel_rfl) ?h07 ?step7 ?fin7
    case h07 => exact rfl
    case step7 =>
      intro vals
      simp only [frOfU, fillU, List.setIfInBounds_toArray, List.set_cons_succ, List.set_cons_zero]
      repeat' (first | exact AllOps.nil | refine AllOps.cons ?_ ?_)
      all_goals
        intro cvs wx hS he hu hlim K hK
        simp only [Act.put, List.setIfInBounds_toArray, List.set_cons_succ, List.set_cons_zero, List.getD_cons_zero, List.getD_cons_succ] at hK
        simp only [List.mem_cons, List.not_mem_nil, or_false, forall_eq_or_imp, forall_eq, Region.binds, forall_const, qmode_gc, Bool.false_eq_true, false_imp_iff, List.getD_cons_zero, List.getD_cons_succ, OpSort.val, Option.some.injEq, forall_eq', reduceCtorEq, implies_true, true_and, and_true] at he
        have HSX := Lib.hid hS
        clear hS
      all_goals first | (clear hlim hu; (try simp only [he] at hK ⊢); go_simp; exact hK) | skip
      · have hle : cvs.length ≤ 1 := hlim 1 7 rfl (by kernel_rfl)
        have hfr := P7.fr (by omega) HSX.out
        obtain ⟨c0, c1, c2, c3⟩ := cell4 (crow_kept Q3.out.1 hfr (fun e => (Hap.out.2.2.2 b e).1 rfl))
        clear hlim hu hle hfr
        simp only [he] at hK ⊢
        go_simp
        exact hK
      · have hle : cvs.length ≤ 0 := hlim 0 6 rfl (by kernel_rfl)
        have hfr := P7.fr (by omega) HSX.out
        obtain ⟨d0, d1⟩ : wx.cell? ⟨g, 0, none⟩ = some (.int .u16 x.1) ∧ wx.cell? ⟨g, 1, none⟩ = some (.int .u16 x.2) := by simp [World.cell?, crow_kept Q3.out.2 hfr (fun e => by have := Hov.out g e; omega)]
        clear hlim hu hle hfr
        go_simp
        exact hK
      · obtain rfl := hlim (0 : Nat) rfl
        obtain rfl : wx = w3.drew := HSX.out
        clear hlim hu HSX
        simp only [he] at hK ⊢
        go_simp
        exact hK _ _ (fun _ h => by cases h) ⟨rfl, heap_alloc_new w3.drew _, (Fr.refl _ w3).drew.alloc _⟩
      · obtain rfl := hlim (1 : Nat) rfl
        obtain ⟨hv6, hrow, hf⟩ : vals 6 = .slice (some ⟨w3.heap.size, 0, none⟩) 1 1 ∧ wx.heap[w3.heap.size]? = some (oId x) ∧ Fr (fun _ => False) w3 wx := HSX.out
        clear hlim hu HSX
        simp only [he, hv6] at hK ⊢
        rw [if_pos (by rfl)]
        refine opWp_id (.tmp 45) (.tmp 47) rfl (.slice ova ovn ovc) rfl n L (ownsRow_fr ORD3.out hf (fun _ _ h => h)) w3.heap.size x rfl hrow (by omega) ?_
        intro v' w' k2 k3 k4
        refine hK _ _ (fun _ h => by cases h) ⟨k2, hf.comp (Fr.of_grown k3) (fun _ h => h.elim) (fun k h => h.symm), fun k hk => ?_⟩
        rcases k4 with e | e
        · exact .inl (e ▸ hk)
        · right
          rw [e] at hk
          simp at hk
          have := hf.size
          omega
      · obtain rfl := hlim (2 : Nat) rfl
        obtain ⟨k2, hf, k4⟩ : wx.ownsRow 0 36 2 (vals 7) (n + 1) (idCells (L ++ [x])) ∧ Fr (fun k => (Value.slice ova ovn ovc).ownBlock = some k) w3 wx ∧ (∀ k, (vals 7).ownBlock = some k → (Value.slice ova ovn ovc).ownBlock = some k ∨ w3.heap.size ≤ k) := HSX.out
        obtain ⟨a7, c7, h7⟩ := slice_of_own k2
        have hbx := crow_kept Q3.out.1 hf (fun e => (Hap.out.2.2.2 b e).1 rfl)
        obtain ⟨c0, c1, c2, c3⟩ := cell4 hbx
        have z0 : wx.frozen? ⟨b, 3, none⟩ = false := by simp [World.frozen?, hbx]
        have R := Lib.hid (show P7 b most sb ab n (.slice ova ovn ovc) L x w3 [vals 6, vals 7, undef] (wx.setCell ⟨b, 3, none⟩ (vals 7)) from ⟨vals 7, ownsRow_fr k2 ((Fr.refl (fun k => k = b) wx).set1 3 (vals 7)) (fun k hk e => by
            subst e
            rcases k4 k hk with e1 | e1
            · exact (Hap.out.2.2.2 k e1).1 rfl
            · omega), hf.comp ((Fr.refl (fun k => k = b) wx).set1 3 (vals 7)) (fun _ h => .inr h) (fun _ h => .inl h), k4, by rw [heap_setCell_same wx b 3 _ _ _ hbx]; rfl⟩)
        clear hlim hu HSX hbx k2 hf k4
        simp only [he, h7] at hK R ⊢
        go_simp
        exact hK undef _ (fun _ h => by cases h) R.out
    case fin7 =>
    intro vals w4 hS hV
    have v0 := hV 0 _ (by decide) rfl
    have v1 := hV 1 _ (by decide) rfl
    have v2 := hV 2 _ (by decide) rfl
    have v3 := hV 3 _ (by decide) rfl
    have v4 := hV 4 _ (by decide) rfl
    have v5 := hV 5 _ (by decide) rfl
    have v8 := hV 8 _ (by decide) rfl
    have v9 := hV 9 _ (by decide) rfl
    have h7 : P7 b most sb ab n (.slice ova ovn ovc) L x w3 [vals 6, vals 7, vals 10] w4 := hS
    clear hS hV
    simp only [frOfU, fillU, List.setIfInBounds_toArray, List.set_cons_succ, List.set_cons_zero]
    simp only [Nat.reduceAdd, v0, v1, v2, v3, v4, v5, v8, v9]
    clear v0 v1 v2 v3 v4 v5 v8 v9
    obtain ⟨ov4, ord4, f4, hov4, here4⟩ := h7
    obtain ⟨a4, k4, rfl⟩ := slice_of_own ord4
    generalize vals 6 = z6 at *
    generalize vals 7 = z7 at *
    clear vals
    obtain ⟨c0, c1, c2, c3⟩ := cell4 here4
    have ORD4 := Lib.hid ord4; clear ord4
    have F4 := Lib.hid f4; clear f4
    have OV4 := Lib.hid hov4; clear hov4
    have HE4 := Lib.hid here4; clear here4
    have A4 : MapAt w4 ab ((keptE most ps ++ [Ent.mk x e r l u]).map Ent.mk') := by
      rw [List.map_append]
      exact M3.out.fr F4.out (fun h => by
        rcases h with h | h
        · exact Hap.out.2.1 h.symm
        · exact (Hap.out.2.2.2 _ h).2.2 rfl)
    have O4 : w4.ownsRow 0 36 2 (.slice a4 (n + 1) k4) (n + 1) (idCells ((keptE most ps ++ [Ent.mk x e r l u]).map Ent.id)) := by
      have h := ORD4.out
      rw [HLL.out] at h
      rw [List.map_append]
      exact h
    have S3 : MapAt w3 sb (ps.map (fun p => (p.id, Value.agg #[])) ++ [(x, .agg #[])]) := M2.out.fr F3.out Hap.out.2.2.1
    have U3g : ∀ k, u.ownBlock = some k → g ≤ k := fun k hk => by
      have h1 := U3.out k hk
      have h2 := F2.out.size
      have h3 := HZ1.out
      have h4 : w1.drew.heap.size = w1.heap.size := rfl
      omega
    have DONE := Lib.hid (fun (w5 : World) (ov5 : Value) => put_done (w5 := w5) (ov5 := ov5) (e := e) (r := r) H1.out HI.out hl hb hsb hab Hov.out (by omega) F13.out S3 O3.out U3g F4.out OV4.out)
    have F14 : Fr F w w4 := ((F1.out.comp F13.out (U := F) (fun _ h => h.elim) (fun k h => by
      rcases h with h | h
      · rw [h]; exact Hin.out.2.1
      · rw [h]; exact Hin.out.2.2.1))).comp F4.out (fun _ h => h) (fun k h => by
      rcases h with h | h
      · rw [h]; exact Hin.out.1
      · exact Hin.out.2.2.2 k h)
    have HF14 := Lib.hid F14; clear F14
    have HA4 := Lib.hid A4; clear A4
    have HO4 := Lib.hid O4; clear O4
    clear S3 U3g
    have hm1 := Lib.hid H1.out.most1
    go_wp2_with fail
    go_region
    go_wp2_with fail
    · have hfull : most ≤ ps.length := by have := HN3.out; omega
      obtain ⟨p, hpm, hp⟩ := keptE_full (ps := ps) (Ent.mk x e r l u) hfull hm1.out
      have hA := HA4.out
      have hO := HO4.out
      rw [hp] at hA hO
      have hlen : n = (keptE most (ps ++ [Ent.mk x e r l u])).length := by
        have h1 := congrArg List.length hp
        rw [List.length_append, List.length_cons, ← HNN.out] at h1
        simpa using h1
      have hnd : ((p :: keptE most (ps ++ [Ent.mk x e r l u])).map Ent.id).Nodup := by
        rw [← hp, List.map_append, List.nodup_append]
        refine ⟨?_, by simp, ?_⟩
        · unfold keptE
          rw [List.map_drop]
          exact H1.out.nodup.sublist (List.drop_sublist _ _)
        · intro i hi j hj eij
          simp at hj
          subst hj
          obtain ⟨q, hq, e1⟩ := List.mem_map.1 hi
          exact HI.out (List.mem_map.2 ⟨q, List.mem_of_mem_drop hq, e1.trans eij⟩)
      have hov4 : ∀ k, (Value.slice a4 (n + 1) k4).ownBlock = some k → k ≠ b ∧ k ≠ ab := fun k hk => by
        rcases OV4.out k hk with h | h
        · exact ⟨(Hap.out.2.2.2 k h).1, (Hap.out.2.2.2 k h).2.2⟩
        · omega
      have hO' := hO
      rw [hlen] at hO'
      have hrem := remove_any w4.drew b most sb ab (.slice a4 (n + 1) k4) p (keptE most (ps ++ [Ent.mk x e r l u])) HE4.out (hA.fr (Fr.refl (fun _ => False) w4).drew (fun h => h)) (by rw [hlen]; exact hO') hnd Hap.out.2.1 hov4
      refine hrem.mono ?_
      clear hrem
      rintro y w5 ⟨rfl, ov5, here5, A5, ord5, hov5, f5⟩
      have f5' : Fr (fun k => k = b ∨ k = ab ∨ (Value.slice a4 (n + 1) k4).ownBlock = some k) w4 w5 := ((Fr.refl (fun k => k = b ∨ k = ab ∨ (Value.slice a4 (n + 1) k4).ownBlock = some k) w4).drew).trans f5 (fun _ _ h => h)
      have R1 := Lib.hid (DONE.out w5 ov5 here5 A5 ord5 hov5 f5')
      have R2 : Fr F w w5 := HF14.out.trans f5' (fun k hk h => by
        rcases h with h | h | h
        · rw [h]; exact Hin.out.1
        · rw [h]; exact Hin.out.2.2.1
        · rcases OV4.out k h with h | h
          · exact Hin.out.2.2.2 k h
          · omega)
      have HR2 := Lib.hid R2
      clear hA hO hO' hp hpm hnd hov4 here5 A5 ord5 hov5 f5 f5' R2 hlen
      go_wp2_with fail
      go_ret
      have hB2 : decide (x ∉ ps.map Ent.id) = true := decide_eq_true HI.out
      rw [hB2]
      exact ⟨rfl, .inr ⟨HI.out, u, ov5, by rw [hg]; exact R1.out, HR2.out⟩⟩
    · go_ret
      have hB2 : decide (x ∉ ps.map Ent.id) = true := decide_eq_true HI.out
      rw [hB2]
      have hroom : ps.length < most := by have := HN3.out; omega
      have hk := keptE_room (ps := ps) (Ent.mk x e r l u) hroom
      have fd : Fr (fun _ => False) w4 w4.drew := (Fr.refl _ _).drew
      have hA : MapAt w4.drew ab ((keptE most (ps ++ [Ent.mk x e r l u])).map Ent.mk') := by
        rw [hk]
        exact HA4.out.fr fd (fun h => h)
      have hO : w4.drew.ownsRow 0 36 2 (.slice a4 (n + 1) k4) (keptE most (ps ++ [Ent.mk x e r l u])).length (idCells ((keptE most (ps ++ [Ent.mk x e r l u])).map Ent.id)) := by
        rw [hk]
        have h1 := HO4.out
        have h2 : (keptE most ps ++ [Ent.mk x e r l u]).length = n + 1 := by rw [List.length_append, ← HNN.out]; rfl
        rw [h2]
        exact h1
      exact ⟨rfl, .inr ⟨HI.out, u, _, by rw [hg]; exact DONE.out w4.drew (.slice a4 (n + 1) k4) HE4.out hA hO rfl ((Fr.refl _ _).drew), HF14.out.trans fd (fun _ _ h => h.elim)⟩⟩
end

theorem put_nil (w : World) (x : IdN) (e r : Int) (v : Value) : Calls Try.prog 12 #[.pointer none, kv x, av e r v] w fun y w' => y = .returned (.bool false) ∧ Fr (fun _ => False) w w' := by
  unfold kv av
  go_enter Try.func12, Try.ntmps12
  go_wp2_with fail
  go_ret
  exact ⟨rfl, ((Fr.refl _ _).alloc _).alloc _⟩
end Go.Proofs.Ytefijimijmjahaa
