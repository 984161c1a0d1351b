/-
  package kind: Same.
-/
import Derived.Test.YtdaabgnfgdojhaaKindSameDef
import Derived.Test.YtdaabgnfgdojhaaRegionV
import Derived.BigRegion
import Derived.IntWalk
import Derived.Deep.Cut
import Derived.Deep.CutRange
namespace Go.Proofs.Ytdaabgnfgdojhaa
open Go.RowKit

theorem heap_alloc_first (w : World) (o o' : Obj) : ((w.alloc o).alloc o').heap[w.heap.size]? = some o := by
  rw [Below.heap_alloc _ _ _ (by simp)]; exact heap_alloc_new w o

theorem Try.infoPair : (Try.prog.info? 96).map (fun i => (i.zero, i.size, i.bytes)) = some (some (.agg #[.int .u8 0, .int .i64 0, .slice none 0 0, .slice none 0 0, .int .u8 0, .int .i64 0, .slice none 0 0, .slice none 0 0]), 8, 128) := by kernel_rfl

theorem opWp_append {P : Program} {w : World} {o : Oper} {a : Act} {K : Act → World → Prop} {Q : Exit → Act → World → Prop} (s x : Operand) (t u : TypeId)
    (ho : o.op = .call { callee := .builtin .append, args := #[s, x], argTypes := #[t, u] })
    (base : Nat) (e : TypeId) (i : TypeInfo) (z : Value) (size bytes : Nat) (ht : P.underlying t = some (.slice e)) (du : TypeDesc) (hu : P.underlying u = some du) (hud : du = .string ∨ ∃ e', du = .slice e')
    (hi : P.info? e = some i) (hz : i.zero = some z)
    (hsize : i.size = size) (hby : i.bytes = bytes) (hzs : z.cells.size = size) (hsz : 0 < size)
    (v : Value) (n : Nat) (xs : List Value) (hs : a.eval s = v) (hown : w.ownsRow base e size v n xs)
    (xv : Value) (m : Nat) (news : List Value) (hx : a.eval x = xv) (hlen : ∀ w, (Builtin.lenOf xv).run P w = .ok m w) (hl : news.length = m * size)
    (hc : (Builtin.firstCells size m xv).run P w = .ok news.toArray w) (hc' : (Builtin.firstCells size m xv).run P w.drew = .ok news.toArray w.drew) (h1 : ∀ u ∈ news, u.oneCell' = true)
    (h63 : n + m ≤ maxLen) (hbytes : (n + m) * bytes ≤ 140737488355328) (hbase : base ≤ w.heap.size)
    (h : ∀ v' w', w'.ownsRow base e size v' (n + m) (xs ++ news) → w.grownBy w' v.ownBlock → (v'.ownBlock = v.ownBlock ∨ v'.ownBlock = some w.heap.size) → K (a.put o.dst v') w') : o.wp P a w K Q := by
  obtain ⟨v', w', hr, h2, h3, h4⟩ := run_append_sep (P := P) w base t u o.type e i z size bytes ht du hu hud hi hz hsize hby hzs hsz v n xs hown xv m news hlen hl hc hc' h1 h63 hbytes hbase
  unfold Oper.wp execOp
  simp only [ho, resolve, invoke, builtin, Sem.run_bind, Sem.run_pure, Result.andThen_ok, List.map_toArray, List.map_cons, List.map_nil, hs, hx, hr]
  exact h v' w' h2 h3 h4

theorem first_one8 {P : Program} {w : World} {g : Nat} {y0 y1 y2 y3 y4 y5 y6 y7 : Value} {t : TypeId} {fr : Nat × Nat} (c : Nat) (h : w.heap[g]? = some (.cells #[y0, y1, y2, y3, y4, y5, y6, y7] t fr)) :
    (Builtin.firstCells 8 1 (.slice (some ⟨g, 0, none⟩) 1 c)).run P w = .ok #[y0, y1, y2, y3, y4, y5, y6, y7] w := by
  have := run_firstCells_some (P := P) w 8 1 ⟨g, 0, none⟩ 1 c [y0, y1, y2, y3, y4, y5, y6, y7] rfl (by
    intro j v hj
    rw [plain_add, cell_of_row w g j _ t fr h]
    simpa using hj)
  simpa using this

/-- As pres_list, but for two places. -/
theorem pres_but {L : List (Value → World → Prop)} {w w' : World} (k k' : Nat) {j : Nat} (hj : j ≠ k) (hj' : j ≠ k') (h : ∀ p ∈ (L.set k (fun _ _ => True)).set k' (fun _ _ => True), ∀ u, p u w → p u w') : ∀ (u : Value), L.getD j (fun _ _ => True) u w → L.getD j (fun _ _ => True) u w' := by
  intro u hu
  have e : L.getD j (fun _ _ => True) = ((L.set k (fun _ _ => True)).set k' (fun _ _ => True)).getD j (fun _ _ => True) := by
    rw [List.getD_eq_getElem?_getD, List.getD_eq_getElem?_getD, List.getElem?_set_ne (Ne.symm hj'), List.getElem?_set_ne (Ne.symm hj)]
  rw [e] at hu ⊢
  exact pres_list h j u hu

/-- The parts of a type, in memory. -/
def Kids (R : Nat → Prop) (w : World) (of : Nat → KT) (a' : Option Addr) (n c' : Nat) : Prop :=
  n = 0 ∨ n ≤ c' ∧ ∃ g off, R g ∧ a' = some ⟨g, off, none⟩ ∧ ∀ i, i < n → ∃ x0 x1 x2 x3,
      w.cell? ⟨g, off + i * 4, none⟩ = some x0 ∧ w.cell? ⟨g, off + i * 4 + 1, none⟩ = some x1 ∧ w.cell? ⟨g, off + i * 4 + 2, none⟩ = some x2 ∧ w.cell? ⟨g, off + i * 4 + 3, none⟩ = some x3 ∧
      Shows R w (of i) (.agg #[x0, x1, x2, x3])

theorem Kids.fr {R S : Nat → Prop} {w w' : World} {of : Nat → KT} {a' : Option Addr} {n c' : Nat} (h : Kids R w of a' n c') (hf : Fr S w w') (hS : ∀ k, R k → ¬ S k) : Kids R w' of a' n c' := by
  rcases h with h | ⟨h1, g, off, hg, rfl, hc⟩
  · exact .inl h
  · refine .inr ⟨h1, g, off, hg, rfl, fun i hi => ?_⟩
    obtain ⟨x0, x1, x2, x3, c0, c1, c2, c3, hx⟩ := hc i hi
    exact ⟨x0, x1, x2, x3, cell_fr hf hS hg c0, cell_fr hf hS hg c1, cell_fr hf hS hg c2, cell_fr hf hS hg c3, Shows.fr hf hS _ _ hx⟩

/-- A type's value, opened. -/
theorem shows_open {R : Nat → Prop} {w : World} {t : KT} {x0 x1 x2 x3 : Value} (h : Shows R w t (.agg #[x0, x1, x2, x3])) :
    ∃ (k : Nat) (m : Int) (ns : List Txt) (of : Nat → KT) (a : Option Addr) (c : Nat) (a' : Option Addr) (n c' : Nat), t = .mk k m ns n of ∧ x0 = .int .u8 k ∧ x1 = .int .i64 m ∧ x2 = .slice a ns.length c ∧ x3 = .slice a' n c' ∧ Texts R w ns (.slice a ns.length c) ∧
      n ≤ 1000 ∧ Kids R w of a' n c' := by
  cases t with
  | nil => exact h.elim
  | mk k m ns n of =>
    obtain ⟨vn, vo, e, _, hn, ht, ho⟩ := h
    simp at e
    obtain ⟨rfl, rfl, rfl, rfl⟩ := e
    obtain ⟨a, c, rfl, _⟩ := ht.shape
    rcases ho with ⟨rfl, a', c', rfl⟩ | ⟨g, off, cap, hg, rfl, hle, hc⟩
    · exact ⟨k, m, ns, of, a, c, a', 0, c', rfl, rfl, rfl, rfl, rfl, ht, hn, .inl rfl⟩
    · exact ⟨k, m, ns, of, a, c, _, n, cap, rfl, rfl, rfl, rfl, rfl, ht, hn, .inr ⟨hle, g, off, hg, rfl, hc⟩⟩

set_option maxRecDepth 100000 in
set_option maxHeartbeats 32000000 in
theorem same_any (R : Nat → Prop) (a b : KT) (va vb : Value) (w : World) (ha : Shows R w a va) (hb : Shows R w b vb) (hsz : sz a ≤ 100000) :
    Calls Try.prog 22 #[va, vb] w fun e w' => e = .returned (.bool (sameE a b)) ∧ Fr (fun _ => False) w w' := by
  have HA := Lib.hid (Shows.mono (S := fun k => R k ∧ k < w.heap.size) (fun k hk h => ⟨h, hk⟩) _ _ ha)
  have HB := Lib.hid (Shows.mono (S := fun k => R k ∧ k < w.heap.size) (fun k hk h => ⟨h, hk⟩) _ _ hb)
  obtain ⟨k1, m1, a1, n1, c1, a2, n2, c2, rfl⟩ := ha.four
  obtain ⟨k3, m3, a3, n3, c3, a4, n4, c4, rfl⟩ := hb.four
  clear ha hb
  have HSZ := Lib.hid hsz
  clear hsz
  go_enter Try.func22, Try.ntmps22
  go_wp2
  obtain ⟨w3, hw3⟩ : ∃ w3, w3 = ((w.alloc (.cells #[.int .u8 k1, .int .i64 m1, .slice a1 n1 c1, .slice a2 n2 c2] 38)).alloc (.cells #[.int .u8 k3, .int .i64 m3, .slice a3 n3 c3, .slice a4 n4 c4] 38)).alloc (.cells #[.int .u8 k1, .int .i64 m1, .slice a1 n1 c1, .slice a2 n2 c2, .int .u8 k3, .int .i64 m3, .slice a3 n3 c3, .slice a4 n4 c4] 96) := ⟨_, rfl⟩
  rw [← hw3]
  have f3 : Fr (fun _ => False) w w3 := by rw [hw3]; exact (((Fr.refl _ _).alloc _).alloc _).alloc _
  have g3 : w3.heap[w.heap.size + 2]? = some (.cells #[.int .u8 k1, .int .i64 m1, .slice a1 n1 c1, .slice a2 n2 c2, .int .u8 k3, .int .i64 m3, .slice a3 n3 c3, .slice a4 n4 c4] 96 (0, 0)) := by
    have := heap_alloc_new ((w.alloc (.cells #[.int .u8 k1, .int .i64 m1, .slice a1 n1 c1, .slice a2 n2 c2] 38)).alloc (.cells #[.int .u8 k3, .int .i64 m3, .slice a3 n3 c3, .slice a4 n4 c4] 38)) (.cells #[.int .u8 k1, .int .i64 m1, .slice a1 n1 c1, .slice a2 n2 c2, .int .u8 k3, .int .i64 m3, .slice a3 n3 c3, .slice a4 n4 c4] 96)
    rw [← hw3] at this
    simpa using this
  have hp3 : PairRow (w.heap.size + 2) (fun k => R k ∧ k < w.heap.size) w3 (.slice (some ⟨w.heap.size + 2, 0, none⟩) 1 1) [(a, b)] := by
    refine ⟨_, ⟨rfl, .inr ⟨w.heap.size + 2, 1, _, rfl, Nat.le_refl _, g3, Nat.le_refl _, by unfold maxLen; omega, rfl, rfl⟩⟩, fun i p hi => ?_⟩
    have hi0 := (List.getElem?_eq_some_iff.1 hi).1
    obtain rfl : i = 0 := by simpa using hi0
    simp at hi
    subst hi
    exact ⟨_, _, _, _, _, _, _, _, fun j u hj => by simpa using hj, Shows.fr f3 (fun _ _ h => h) _ _ HA.out, Shows.fr f3 (fun _ _ h => h) _ _ HB.out⟩
  have H3 := Lib.hid (And.intro f3 hp3)
  clear hw3 f3 g3 hp3
  go_loopg [5, 6, 7, 8, 9] (sz a) (fun G u5 u6 u7 u8 u9 wr => ∃ (ps : List (KT × KT)) (ua : Option Addr) (n uc : Nat), G = szAll ps ∧ u5 = .slice ua n uc ∧ Hid (n = ps.length ∧ szAll ps ≤ 100000 ∧ PairRow (w.heap.size + 2) (fun k => R k ∧ k < w.heap.size) wr (.slice ua n uc) ps ∧ Fr (fun _ => False) w wr ∧ ps.all (fun p => sameE p.1 p.2) = sameE a b))
  case atStart => exact ⟨[(a, b)], _, 1, 1, by simp [szAll], rfl, Lib.hid ⟨rfl, by simpa [szAll] using HSZ.out, H3.out.2, H3.out.1, by simp⟩⟩
  case round =>
    obtain ⟨ps, ua, n, uc, rfl, rfl, HI⟩ := hrel
    rcases List.eq_nil_or_concat ps with hps | ⟨qs, ⟨x, y⟩, hps⟩
    · obtain rfl : n = 0 := by rw [HI.out.1, hps]; rfl
      have HP := Lib.hid hps
      clear hps
      go_wp2
      go_ret
      refine ⟨ret_bool ?_, HI.out.2.2.2.1⟩
      rw [← HI.out.2.2.2.2, HP.out]
      rfl
    · rw [List.concat_eq_append] at hps
      obtain ⟨m, rfl⟩ : ∃ m, n = m + 1 := ⟨qs.length, by rw [HI.out.1, hps]; simp⟩
      have hm : m = qs.length := by have := HI.out.1; rw [hps] at this; simp at this; exact this
      have hrow := HI.out.2.2.1
      rw [hps] at hrow
      have HROW := Lib.hid hrow
      obtain ⟨cs, ho, hcs⟩ := hrow
      obtain ⟨x0, x1, x2, x3, y0, y1, y2, y3, q, hx, hy⟩ := hcs m (x, y) (by rw [List.getElem?_append_right (by omega), hm]; simp)
      obtain ⟨g, rfl, hgB⟩ : ∃ g, ua = some ⟨g, 0, none⟩ ∧ w.heap.size + 2 ≤ g := by
        rcases ho.2 with ⟨e, _⟩ | ⟨g, cap, cur, e, hb, _⟩
        · cases e
        · simp only [Value.slice.injEq] at e; obtain ⟨rfl, _, rfl⟩ := e; exact ⟨g, rfl, hb⟩
      have hmc : m + 1 ≤ uc := by
        rcases ho.2 with ⟨e, _⟩ | ⟨g, cap, cur, e, hb, hgg, hle, _⟩
        · cases e
        · simp only [Value.slice.injEq] at e; obtain ⟨_, h1, rfl⟩ := e; omega
      have hgl : g < wr.heap.size := (World.ownsRow.lt ho g rfl).2
      have hc := fun (j : Nat) (u : Value) (hu : [x0, x1, x2, x3, y0, y1, y2, y3][j]? = some u) => World.ownsRow.cells (g := g) ho rfl (m * 8 + j) u (q j u hu)
      simp only [plain_add] at hc
      obtain ⟨pk, pm, pns, pof, pa, pc, pa2, pn2, pc2, rfl, rfl, rfl, rfl, rfl, htx, hox⟩ := shows_open hx
      obtain ⟨qk, qm, qns, qof, qa, qc, qa2, qn2, qc2, rfl, rfl, rfl, rfl, rfl, hty, hoy⟩ := shows_open hy
      have r0 := hc 0 _ rfl
      have r1 := hc 1 _ rfl
      have r2 := hc 2 _ rfl
      have r3 := hc 3 _ rfl
      have r4 := hc 4 _ rfl
      have r5 := hc 5 _ rfl
      have r6 := hc 6 _ rfl
      have r7 := hc 7 _ rfl
      rw [Nat.add_zero] at r0
      have HXY := Lib.hid (And.intro htx (And.intro hox (And.intro hty (And.intro hoy (And.intro hps hm)))))
      clear hc q hx hy hps hm ho hcs htx hox hty hoy
      have hm5 : m ≤ 100000 := by have := szAll_length ps; have := HI.out.2.1; have := HI.out.1; omega
      have hw1 : wrap64 (m : Int) = m := IntWalk.wrap64_in _ (by omega)
      have hw2 : IntKind.i64.wrap (m : Int) = m := IntWalk.i64_in _ (by omega)
      have i0 : (0 : Int) ≤ (m : Int) := by omega
      have i1 : (m : Int) < (m : Int) + 1 := by omega
      have i2 : m < m + 1 := by omega
      go_upto_region 4 with fail
      go_cut [7, 8] from 14 to 82 (fun s7 s8 wx => ∃ g7 g8, s7 = .pointer (some ⟨g7, 0, none⟩) ∧ s8 = .pointer (some ⟨g8, 0, none⟩) ∧ Hid (wx.heap[g7]? = some (.cells #[.int .u8 pk, .int .i64 pm, .slice pa pns.length pc, .slice pa2 pn2 pc2] 38 (0, 0)) ∧ wx.heap[g8]? = some (.cells #[.int .u8 qk, .int .i64 qm, .slice qa qns.length qc, .slice qa2 qn2 qc2] 38 (0, 0)) ∧ wr.heap.size ≤ g7 ∧ wr.heap.size ≤ g8 ∧ Fr (fun _ => False) wr wx))
      case first =>
        go_region
        all_goals go_wp2
        all_goals go_meet
        all_goals (case rel => first | exact ⟨_, _, rfl, rfl, Lib.hid ⟨heap_alloc_first _ _ _, heap_alloc_two _ _ _, by omega, by omega, (((Fr.refl _ _).alloc _).alloc _).drew⟩⟩ | exact ⟨_, _, rfl, rfl, Lib.hid ⟨heap_alloc_two _ _ _, heap_alloc_first _ _ _, by omega, by omega, (((Fr.refl _ _).alloc _).alloc _).drew⟩⟩)
      case rest =>
        obtain ⟨g7, g8, rfl, rfl, HC⟩ := hcut
        clear r0 r1 r2 r3 r4 r5 r6 r7
        obtain ⟨wo, rfl⟩ : ∃ wo : World, wo = wc := ⟨_, rfl⟩
        have FW := Lib.hid (HI.out.2.2.2.1.trans HC.out.2.2.2.2 (fun _ _ h => h))
        have u0 := cells_row HC.out.1 0 _ rfl
        have u1 := cells_row HC.out.1 1 _ rfl
        have u2 := cells_row HC.out.1 2 _ rfl
        have u3 := cells_row HC.out.1 3 _ rfl
        have t0 := cells_row HC.out.2.1 0 _ rfl
        have t1 := cells_row HC.out.2.1 1 _ rfl
        have t2 := cells_row HC.out.2.1 2 _ rfl
        have t3 := cells_row HC.out.2.1 3 _ rfl
        have i4 : (m : Int) ≤ (uc : Int) := by omega
        have hfalse : sameE (.mk pk pm pns pn2 pof) (.mk qk qm qns qn2 qof) = false → false = sameE a b := by
          intro h
          rw [← HI.out.2.2.2.2, HXY.out.2.2.2.2.1]
          simp [h]
        have HFA := Lib.hid hfalse
        clear hfalse
        have heq := eqTexts_any (fun k => R k ∧ k < w.heap.size) pns qns (.slice pa pns.length pc) (.slice qa qns.length qc) wo (HXY.out.1.fr HC.out.2.2.2.2 (fun _ _ h => h)) (HXY.out.2.2.1.fr HC.out.2.2.2.2 (fun _ _ h => h))
        by_cases e1 : pk = qk
        case neg =>
          have b1 : ((pk : Int) == (qk : Int)) = false := by simp; omega
          have b2 : ((pk : Int) != (qk : Int)) = true := by unfold bne; rw [b1]; rfl
          have E1 := Lib.hid e1
          clear e1 heq
          go_wp2
          go_ret
          exact ⟨ret_bool (HFA.out (by rw [sameE, decide_eq_false E1.out]; rfl)), FW.out⟩
        subst e1
        by_cases e2 : pm = qm
        case neg =>
          have b1 : (pm == qm) = false := by simpa using e2
          have b2 : (pm != qm) = true := by unfold bne; rw [b1]; rfl
          have E1 := Lib.hid e2
          clear e2 heq
          go_wp2
          go_ret
          exact ⟨ret_bool (HFA.out (by rw [sameE, decide_eq_false E1.out]; simp)), FW.out⟩
        subst e2
        by_cases e3 : pns = qns
        case neg =>
          rw [decide_eq_false e3] at heq
          have E1 := Lib.hid e3
          clear e3
          go_wp2_with fail
          refine heq.mono ?_
          rintro e w5 ⟨rfl, f5⟩
          have F5 := Lib.hid f5
          clear heq f5
          go_wp2
          go_ret
          exact ⟨ret_bool (HFA.out (by rw [sameE, decide_eq_false E1.out]; simp)), FW.out.trans F5.out (fun _ _ h => h)⟩
        subst e3
        rw [decide_eq_true rfl] at heq
        by_cases e4 : pn2 = qn2
        case neg =>
          have b1 : ((pn2 : Int) == (qn2 : Int)) = false := by simp; omega
          have b2 : ((pn2 : Int) != (qn2 : Int)) = true := by unfold bne; rw [b1]; rfl
          have E1 := Lib.hid e4
          clear e4
          go_wp2_with fail
          refine heq.mono ?_
          rintro e w5 ⟨rfl, f5⟩
          have k3 := cells_row (box_kept HC.out.1 f5 (fun h => h)) 3 _ rfl
          have l3 := cells_row (box_kept HC.out.2.1 f5 (fun h => h)) 3 _ rfl
          have F5 := Lib.hid f5
          clear heq f5 u0 u1 u2 u3 t0 t1 t2 t3
          go_wp2
          go_ret
          exact ⟨ret_bool (HFA.out (by rw [sameE, decide_eq_false E1.out]; simp)), FW.out.trans F5.out (fun _ _ h => h)⟩
        subst e4
        go_wp2_with fail
        refine heq.mono ?_
        rintro e w5 ⟨rfl, f5⟩
        have q7 := box_kept HC.out.1 f5 (fun h => h)
        have q8 := box_kept HC.out.2.1 f5 (fun h => h)
        have k3 := cells_row q7 3 _ rfl
        have l3 := cells_row q8 3 _ rfl
        have hrow5 := PairRow.fr (PairRow.pop HROW.out) (HC.out.2.2.2.2.trans f5 (fun _ _ h => h)) (fun _ _ h => h) (fun _ _ h => h)
        have H5 := Lib.hid (And.intro q7 (And.intro q8 (And.intro hrow5 (FW.out.trans f5 (fun _ _ h => h)))))
        have HKX := Lib.hid (Kids.fr HXY.out.2.1.2 (HC.out.2.2.2.2.trans f5 (fun _ _ h => h)) (fun _ _ h => h))
        have HKY := Lib.hid (Kids.fr HXY.out.2.2.2.1.2 (HC.out.2.2.2.2.trans f5 (fun _ _ h => h)) (fun _ _ h => h))
        have hg7 := HC.out.2.2.1
        have hg8 := HC.out.2.2.2.1
        clear heq f5 u0 u1 u2 u3 t0 t1 t2 t3 q7 q8 hrow5
        obtain ⟨i0', hi, hz0, hz1, hz2⟩ := info_parts Try.infoPair
        have hgg7 : g ≠ g7 := by omega
        have hgg8 : g ≠ g8 := by omega
        have hm5' : qs.length ≤ 100000 := by have := HXY.out.2.2.2.2.2; omega
        have hpn : szAll (qs ++ partsOf pof qof pn2) + 1 ≤ 100000 ∧ szAll (qs ++ partsOf pof qof pn2) + 1 = szAll ps := by
          have e1 := partsOf_sz pk pm pns pn2 pof qof
          have e2 := HI.out.2.1
          rw [HXY.out.2.2.2.2.1, szAll_append] at e2
          rw [HXY.out.2.2.2.2.1, szAll_append, szAll_append]
          have e3 : szAll [(KT.mk pk pm pns pn2 pof, KT.mk pk pm pns pn2 qof)] = sz (.mk pk pm pns pn2 pof) := by simp [szAll]
          rw [e3] at e2 ⊢
          omega
        have HPN := Lib.hid hpn
        clear hpn
        go_wp2
        go_loopg [5, 9, 65] pn2 (fun G u5 u9 u65 wr => ∃ (j : Nat) (ua : Option Addr) (n uc : Nat), j ≤ pn2 ∧ G = pn2 - j ∧ u65 = .int .i64 j ∧ u5 = .slice ua n uc ∧ Hid (n = (qs ++ partsOf pof qof j).length ∧ PairRow (w.heap.size + 2) (fun k => R k ∧ k < w.heap.size) wr (.slice ua n uc) (qs ++ partsOf pof qof j) ∧ Fr (fun k => w.heap.size + 2 ≤ k) w5 wr ∧
          wr.heap[g7]? = some (.cells #[.int .u8 pk, .int .i64 pm, .slice pa pns.length pc, .slice pa2 pn2 pc2] 38 (0, 0)) ∧ wr.heap[g8]? = some (.cells #[.int .u8 pk, .int .i64 pm, .slice qa pns.length qc, .slice qa2 pn2 qc2] 38 (0, 0)) ∧ ∀ k, (Value.slice ua n uc).ownBlock = some k → k ≠ g7 ∧ k ≠ g8))
        case atStart => exact ⟨0, some ⟨g, 0, none⟩, m, uc, Nat.zero_le _, rfl, by go_num, rfl, Lib.hid ⟨by rw [HXY.out.2.2.2.2.2]; simp [partsOf], by rw [HXY.out.2.2.2.2.2]; simpa [partsOf] using H5.out.2.2.1, Fr.refl _ _, H5.out.1, H5.out.2.1, fun k hk => by simp [Value.ownBlock] at hk; omega⟩⟩
        case round =>
          obtain ⟨j, ua, n, uc', hj, rfl, rfl, rfl, HJ⟩ := hrel
          by_cases hlt : j < pn2
          · rcases Kids.fr HKX.out HJ.out.2.2.1 (fun k hk h => by omega) with hz | ⟨hcx, gx, ox, hgx, rfl, hcellx⟩
            · omega
            rcases Kids.fr HKY.out HJ.out.2.2.1 (fun k hk h => by omega) with hz | ⟨hcy, gy, oy, hgy, rfl, hcelly⟩
            · omega
            obtain ⟨x0, x1, x2, x3, p0, p1, p2, p3, hx⟩ := hcellx j hlt
            obtain ⟨y0, y1, y2, y3, q0, q1, q2, q3, hy⟩ := hcelly j hlt
            obtain ⟨zk, zm, za, zn, zc, za2, zn2, zc2, rfl, rfl, rfl, rfl⟩ := hx.cells
            obtain ⟨yk, ym, ya, yn, yc, ya2, yn2, yc2, rfl, rfl, rfl, rfl⟩ := hy.cells
            obtain ⟨cs, ho, hcs⟩ := HJ.out.2.1
            rw [← HJ.out.1] at ho
            have hnb : n ≤ 100000 := by
              have e1 := szAll_length (qs ++ partsOf pof qof j)
              have e2 := partsOf_mono pof qof j pn2 (by omega)
              have e3 := HPN.out.1
              rw [szAll_append] at e1 e3
              have := HJ.out.1
              omega
            have hwsz : w.heap.size + 2 ≤ wr.heap.size := by have := lt_of_block HJ.out.2.2.2.1; have := HC.out.2.2.1; have := (World.ownsRow.lt (PairRow_own HROW.out) g rfl); omega
            have HLT := Lib.hid (show j + 1 ≤ pn2 from hlt)
            have hj1 : j ≤ 1000 := by have := HXY.out.2.1.1; have := HLT.out; omega
            have jx : (j : Int) < (pn2 : Int) := by omega
            have j0 : (0 : Int) ≤ (j : Int) := by omega
            have HP := Lib.hid (And.intro p0 (And.intro p1 (And.intro p2 (And.intro p3 (And.intro q0 (And.intro q1 (And.intro q2 q3)))))))
            have HXX := Lib.hid (And.intro hx (And.intro hy (And.intro ho hcs)))
            have nown : ∀ k, (R k ∧ k < w.heap.size) → (Value.slice ua n uc').ownBlock ≠ some k := fun k hk e => by have := (World.ownsRow.lt ho k e).1; omega
            have HNO := Lib.hid nown
            clear p0 p1 p2 p3 q0 q1 q2 q3 hx hy ho hcs hcellx hcelly nown k3 l3
            have HQ := Lib.hid (fun (wx : World) (f : Fr (fun k => (Value.slice ua n uc').ownBlock = some k) wr.drew wx) =>
              have fw : Fr (fun k => (Value.slice ua n uc').ownBlock = some k) wr wx := ⟨f.os, f.tape, f.output, f.size, f.block⟩
              have up : ∀ {gg o : Nat} {u : Value}, (R gg ∧ gg < w.heap.size) → wr.cell? ⟨gg, o, none⟩ = some u → wx.cell? ⟨gg, o, none⟩ = some u := fun hgg h => cell_fr (R := fun k => R k ∧ k < w.heap.size) fw (fun k hk e => HNO.out k hk e) hgg h
              And.intro fw (And.intro (cells_row (box_kept HJ.out.2.2.2.1 fw (fun e => (HJ.out.2.2.2.2.2 _ e).1 rfl)) 3 _ rfl) (And.intro (cells_row (box_kept HJ.out.2.2.2.2.1 fw (fun e => (HJ.out.2.2.2.2.2 _ e).2 rfl)) 3 _ rfl)
                (And.intro (up hgx HP.out.1) (And.intro (up hgx HP.out.2.1) (And.intro (up hgx HP.out.2.2.1) (And.intro (up hgx HP.out.2.2.2.1) (And.intro (up hgy HP.out.2.2.2.2.1) (And.intro (up hgy HP.out.2.2.2.2.2.1) (And.intro (up hgy HP.out.2.2.2.2.2.2.1) (up hgy HP.out.2.2.2.2.2.2.2)))))))))))
            go_wp2_with fail
            refine wp_region_toldV (by kernel_rfl) (fun a b => Fr (fun k => (Value.slice ua n uc').ownBlock = some k) a b) (fun w => Fr.refl _ w) (fun _ _ _ h k => h.trans k (fun _ _ h => h))
              [some 68, some 69, some 70, some 71, some 72, some 73, some 74, some 75, some 76, some 77, some 78, some 79, some 80, some 81, some 5] rfl (by decide) (by intro d hd; simp at hd ⊢; omega)
              (fun i v wx => (i = 13 → wx.ownsRow (w.heap.size + 2) 96 8 (.slice ua n uc') n cs) ∧ (i = 14 → v = .slice ua n uc'))
              (fun i v wx => ([fun v _ => v = .slice ua n uc', fun v _ => v = .pointer (some ⟨g7, 3, none⟩), fun v _ => v = .slice (some ⟨gx, ox, none⟩) pn2 pc2, fun v _ => v = .int .i64 j, fun v _ => v = .pointer (some ⟨gx, ox + j * 4, none⟩), fun v _ => v = .agg #[.int .u8 zk, .int .i64 zm, .slice za zn zc, .slice za2 zn2 zc2],
                fun v _ => v = .pointer (some ⟨g8, 3, none⟩), fun v _ => v = .slice (some ⟨gy, oy, none⟩) pn2 qc2, fun v _ => v = .int .i64 j, fun v _ => v = .pointer (some ⟨gy, oy + j * 4, none⟩), fun v _ => v = .agg #[.int .u8 yk, .int .i64 ym, .slice ya yn yc, .slice ya2 yn2 yc2],
                fun v _ => v = .agg #[.int .u8 zk, .int .i64 zm, .slice za zn zc, .slice za2 zn2 zc2, .int .u8 yk, .int .i64 ym, .slice ya yn yc, .slice ya2 yn2 yc2],
                fun v wx => ∃ gg, v = .slice (some ⟨gg, 0, none⟩) 1 1 ∧ (Value.slice ua n uc').ownBlock ≠ some gg ∧ wx.heap[gg]? = some (.cells #[.int .u8 zk, .int .i64 zm, .slice za zn zc, .slice za2 zn2 zc2, .int .u8 yk, .int .i64 ym, .slice ya yn yc, .slice ya2 yn2 yc2] 96 (0, 0)),
                fun v wx => ∃ ub uc2, v = .slice ub (n + 1) uc2 ∧ PairRow (w.heap.size + 2) (fun k => R k ∧ k < w.heap.size) wx v (qs ++ partsOf pof qof (j + 1)) ∧ (v.ownBlock = (Value.slice ua n uc').ownBlock ∨ ∃ k, v.ownBlock = some k ∧ wr.heap.size ≤ k),
                fun v wx => ∃ ub uc2, v = .slice ub (n + 1) uc2 ∧ PairRow (w.heap.size + 2) (fun k => R k ∧ k < w.heap.size) wx v (qs ++ partsOf pof qof (j + 1)) ∧ (v.ownBlock = (Value.slice ua n uc').ownBlock ∨ ∃ k, v.ownBlock = some k ∧ wr.heap.size ≤ k)] : List (Value → World → Prop)).getD i (fun _ _ => True) v wx)
              (by kernel_rfl) ?u0 ?step ?fin
            case u0 => exact fun i _ => ⟨fun _ => HXX.out.2.2.1, fun e => by subst e; rfl⟩
            case step =>
              intro vals
              simp only [frOfU, fillU, List.setIfInBounds_toArray, List.set_cons_succ, List.set_cons_zero]
              repeat' (first | exact AllOps.nil | refine AllOps.cons ?_ ?_)
              all_goals
                intro wx hle he hu hw K hK
                simp only [Act.put, List.setIfInBounds_toArray, List.set_cons_succ, List.set_cons_zero, List.getD_cons_zero, List.getD_cons_succ] at hK
                simp only [List.mem_cons, List.not_mem_nil, or_false, forall_eq_or_imp, forall_eq, Region.binds, forall_const, false_imp_iff, List.getD_cons_zero, List.getD_cons_succ] at he
                obtain ⟨fw, v7, v8, p0, p1, p2, p3, q0, q1, q2, q3⟩ := HQ.out wx hle
                have FW5 := Lib.hid fw
                clear fw hle
              · have h5 := (hw 14 (by kernel_rfl)).2 rfl
                clear hw
                simp only [h5] at hK ⊢
                go_simp
                exact hK _ _ (Fr.refl _ _) rfl (fun _ _ _ h => h) (fun _ _ _ _ h => h)
              all_goals clear hw
              all_goals first | ((try simp only [he] at hK ⊢); go_simp; exact hK _ _ (Fr.refl _ _) rfl (fun _ _ _ h => h) (fun _ _ _ _ h => h)) | skip
              · simp only [he] at hK ⊢
                go_simp
                have fa : Fr (fun _ => False) wx (wx.alloc (.cells #[.int .u8 zk, .int .i64 zm, .slice za zn zc, .slice za2 zn2 zc2, .int .u8 yk, .int .i64 ym, .slice ya yn yc, .slice ya2 yn2 yc2] 96)) := (Fr.refl _ _).alloc _
                refine hK _ _ (fa.mono (fun _ _ h => absurd h (fun h => h))) ⟨wx.heap.size, rfl, ?_, heap_alloc_new _ _⟩ ?_ ?_
                · intro e
                  have h1 := (World.ownsRow.lt HXX.out.2.2.1 _ e).2
                  have h2 := FW5.out.size
                  omega
                · exact fun i u hi h => ⟨fun e => ownsRow_fr (h.1 e) fa (fun _ _ h => h), h.2⟩
                · refine fun i u hi _ => pres_list ?_ i u
                  simp only [List.mem_cons, List.not_mem_nil, or_false, forall_eq_or_imp, forall_eq, imp_self, implies_true, true_and]
                  refine ⟨fun u h => ?_, fun u h => ?_, fun u h => ?_⟩
                  · obtain ⟨gg, e1, e2, e3⟩ := h
                    exact ⟨gg, e1, e2, box_kept e3 fa (fun h => h)⟩
                  · obtain ⟨ub, uc2, e1, e2, e3⟩ := h
                    exact ⟨ub, uc2, e1, e2.fr fa (fun _ _ h => h) (fun _ _ h => h), e3⟩
                  · obtain ⟨ub, uc2, e1, e2, e3⟩ := h
                    exact ⟨ub, uc2, e1, e2.fr fa (fun _ _ h => h) (fun _ _ h => h), e3⟩
              · obtain ⟨h0, gg, h12, hgne, hgg⟩ := he
                have ho := hu.1 rfl
                rw [if_pos (by rfl)]
                refine opWp_append (.tmp 68) (.tmp 80) 97 97 rfl (w.heap.size + 2) 96 i0' (.agg #[.int .u8 0, .int .i64 0, .slice none 0 0, .slice none 0 0, .int .u8 0, .int .i64 0, .slice none 0 0, .slice none 0 0]) 8 128 Try.underlying97 _ Try.underlying97 (.inr ⟨_, rfl⟩) hi hz0 hz1 hz2 rfl (by decide) (.slice ua n uc') n cs h0 ho (.slice (some ⟨gg, 0, none⟩) 1 1) 1 [.int .u8 zk, .int .i64 zm, .slice za zn zc, .slice za2 zn2 zc2, .int .u8 yk, .int .i64 ym, .slice ya yn yc, .slice ya2 yn2 yc2] h12 (lenOf_slice _ _ _) rfl (first_one8 1 hgg) (first_one8 1 (by exact hgg)) ?one (by unfold maxLen; omega) (by omega) (by have := FW5.out.size; omega) ?grow
                case one => intro u hu; simp at hu; rcases hu with rfl | rfl | rfl | rfl | rfl | rfl | rfl | rfl <;> rfl
                case grow =>
                  intro v' w6 hown hg hv
                  have f6 : Fr (fun k => (Value.slice ua n uc').ownBlock = some k) wx w6 := (Fr.of_grown hg).mono (fun _ _ e => e.symm)
                  obtain ⟨ub, uc2, e1⟩ := slice_of_own hown
                  have hpr : PairRow (w.heap.size + 2) (fun k => R k ∧ k < w.heap.size) w6 v' (qs ++ partsOf pof qof (j + 1)) := by
                    rw [partsOf_succ, ← List.append_assoc]
                    exact PairRow.push HXX.out.2.2.2 (by rw [HXX.out.2.2.1.1, HJ.out.1]) (by rw [HJ.out.1]) hown (FW5.out.trans f6 (fun _ _ h => h)) (fun k hk e => HNO.out k hk e) HXX.out.1 HXX.out.2.1
                  have hvv : v'.ownBlock = (Value.slice ua n uc').ownBlock ∨ ∃ k, v'.ownBlock = some k ∧ wr.heap.size ≤ k := by
                    rcases hv with h | h
                    · exact .inl h
                    · exact .inr ⟨_, h, FW5.out.size⟩
                  refine hK _ _ f6 ⟨ub, uc2, e1, hpr, hvv⟩ ?_ ?_
                  · exact fun i u hi h => ⟨fun e => absurd e hi, h.2⟩
                  · intro i u hi hwt
                    by_cases h14 : i = 14
                    · subst h14
                      exact absurd hwt (by decide +kernel)
                    · refine pres_but 14 13 h14 hi ?_ u
                      simp only [List.set_cons_succ, List.set_cons_zero, List.mem_cons, List.not_mem_nil, or_false, forall_eq_or_imp, forall_eq, imp_self, implies_true, true_and, and_true]
                      intro u h
                      obtain ⟨g1, e2, e3, e4⟩ := h
                      exact ⟨g1, e2, e3, box_kept e4 f6 e3⟩
              · have h13 := he.1
                clear he
                obtain ⟨ub, uc2, e13, hpr, hvv⟩ := h13
                rw [e13] at hpr hvv
                go_simp
                simp only [Nat.reduceAdd, Nat.zero_add, e13] at hK ⊢
                exact hK _ _ (Fr.refl _ _) ⟨ub, uc2, rfl, hpr, hvv⟩ (fun _ _ _ h => h) (fun _ _ _ _ h => h)
            case fin =>
              intro vals w' hle hV
              obtain ⟨ub, uc2, e14, hpr, hvv⟩ := hV 14 (by decide)
              clear hV
              obtain ⟨fw, _⟩ := HQ.out w' hle
              have HF := Lib.hid (And.intro fw (And.intro hpr hvv))
              clear hpr hvv hle fw
              simp only [frOfU, fillU, List.setIfInBounds_toArray, List.set_cons_succ, List.set_cons_zero]
              simp only [Nat.reduceAdd, e14]
              go_wp2
              go_roundg (pn2 - (j + 1))
              case measure => omega
              case rel =>
                have hpr := HF.out.2.1
                rw [e14] at hpr
                have hvv := HF.out.2.2
                rw [e14] at hvv
                have hfw : Fr (fun k => w.heap.size + 2 ≤ k) w5 w' := HJ.out.2.2.1.trans HF.out.1 (fun i hi e => (World.ownsRow.lt HXX.out.2.2.1 i e).1)
                exact ⟨j + 1, ub, n + 1, uc2, HLT.out, rfl, by go_num, rfl, Lib.hid ⟨by rw [partsOf_succ, ← List.append_assoc, List.length_append, ← HJ.out.1]; rfl, hpr, hfw, box_kept HJ.out.2.2.2.1 HF.out.1 (fun e => (HJ.out.2.2.2.2.2 _ e).1 rfl), box_kept HJ.out.2.2.2.2.1 HF.out.1 (fun e => (HJ.out.2.2.2.2.2 _ e).2 rfl), fun k hk => by
                  rcases hvv with h | ⟨k', h, hk'⟩
                  · rw [h] at hk; exact HJ.out.2.2.2.2.2 k hk
                  · rw [h] at hk; cases hk
                    have h1 := lt_of_block HJ.out.2.2.2.1
                    have h2 := lt_of_block HJ.out.2.2.2.2.1
                    exact ⟨by omega, by omega⟩⟩⟩
          · obtain rfl : j = pn2 := by omega
            go_wp2
            go_roundg (szAll (qs ++ partsOf pof qof j))
            case measure => have := HPN.out.2; omega
            case rel =>
              refine ⟨qs ++ partsOf pof qof j, ua, n, uc', rfl, rfl, Lib.hid ⟨HJ.out.1, by have := HPN.out.1; omega, HJ.out.2.1, H5.out.2.2.2.trans HJ.out.2.2.1 (fun i hi h => by omega), ?_⟩⟩
              rw [← HI.out.2.2.2.2, HXY.out.2.2.2.2.1, List.all_append, List.all_append, ← sameE_parts pk pm pns j pof qof]
              simp

end Go.Proofs.Ytdaabgnfgdojhaa
