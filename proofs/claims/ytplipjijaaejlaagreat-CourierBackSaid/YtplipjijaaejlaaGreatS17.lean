/-
  CouBack, part 17 of what it rests on: ValHas, KindFaults.
-/
import Derived.Test.YtplipjijaaejlaaGreatS16
import Derived.Test.YtplipjijaaejlaaGreatS11
set_option linter.unusedVariables false
set_option linter.unusedSimpArgs false
set_option maxHeartbeats 64000000
namespace Go.Proofs.YtplipjijaaejlaaGreat
open Go.RowKit
open Go.Lib (hid)
section
theorem within_any (n lo hi : Int) (w : World) : Calls Tryz.prog 45 #[.int .i64 n, .int .i64 lo, .int .i64 hi] w fun e w' => e = .returned (.bool (decide (lo ≤ n ∧ n ≤ hi))) ∧ w = w' := by
  by_cases h1 : lo ≤ n
  · by_cases h2 : n ≤ hi
    · go_enter Tryz.func45, Tryz.ntmps45
      go_wp2
      go_ret
      exact ⟨ret_bool (by simp; omega), rfl⟩
    · go_enter Tryz.func45, Tryz.ntmps45
      go_wp2
      go_ret
      exact ⟨ret_bool (by simp; omega), rfl⟩
  · go_enter Tryz.func45, Tryz.ntmps45
    go_wp2
    go_ret
    exact ⟨ret_bool (by simp; omega), rfl⟩

theorem within_told (n lo hi : Int) (B : Bool) (hB : decide (lo ≤ n ∧ n ≤ hi) = B) (w : World) : Calls Tryz.prog 45 #[.int .i64 n, .int .i64 lo, .int .i64 hi] w fun e w' => e = .returned (.bool B) ∧ w = w' := by
  rw [← hB]; exact within_any n lo hi w

theorem isIndex_any (n : Int) (len : Nat) (hl : len ≤ 100000) (w : World) : Calls Tryz.prog 46 #[.int .i64 n, .int .i64 (len : Nat)] w fun e w' => e = .returned (.bool (decide (0 ≤ n ∧ n ≤ (len : Int) - 1))) ∧ w = w' := by
  obtain ⟨B, hB⟩ : ∃ B, decide (0 ≤ n ∧ n ≤ (len : Int) - 1) = B := ⟨_, rfl⟩
  have hw := within_told n 0 ((len : Int) - 1) B hB w
  rw [hB]
  clear hB
  go_enter Tryz.func46, Tryz.ntmps46
  go_wp2_with fail
  refine hw.mono ?_
  rintro e w1 ⟨rfl, rfl⟩
  go_wp2
  go_ret
  exact ⟨rfl, rfl⟩

/-- Has a type values: no Ref in it, and not so many levels? -/
def hasE : KT → Nat → Bool
  | .nil, _ => false
  | .mk k _ _ n of, lv => if k = 9 ∨ lv = 0 then false else (List.range n).all (fun i => hasE (of i) (lv - 1))

set_option maxRecDepth 100000 in
theorem has_any (t : KT) : ∀ (R : Nat → Prop) (v : Value) (w : World) (lv : Nat) (lz : Int), lz = lv → lv ≤ 1000 → Shows R w t v →
    Calls Tryz.prog 24 #[v, .int .i64 lz] w fun e w' => e = .returned (.bool (hasE t lv)) ∧ Fr (fun _ => False) w w' := by
  induction t with
  | nil => exact fun _ _ _ _ _ _ _ h => h.elim
  | mk k m ns n of ih =>
  intro R v w lv lz hlz hlv hsh
  obtain ⟨vn, vo, rfl, hk, hn, ht, ho⟩ := hsh
  obtain ⟨a, c, rfl, _⟩ := ht.shape
  obtain ⟨a', c', rfl, hs⟩ : ∃ a' c', vo = .slice a' n c' ∧ Kids R w of a' n c' := by
    rcases ho with ⟨rfl, a', c', rfl⟩ | ⟨g, off, cap, hg, rfl, hle, hc⟩
    · exact ⟨a', c', rfl, .inl rfl⟩
    · exact ⟨_, cap, rfl, .inr ⟨hle, g, off, hg, rfl, hc⟩⟩
  have HS := Lib.hid hs
  have HLZ := Lib.hid hlz
  have lz0 : 0 ≤ lz := by omega
  have lz1 : lz ≤ 1000 := by omega
  clear ho hs hlz ht
  obtain ⟨w0, hw0⟩ : ∃ w0, w0 = w.alloc (.cells #[.int .u8 k, .int .i64 m, .slice a ns.length c, .slice a' n c'] 34) := ⟨_, rfl⟩
  have f0 : Fr (fun _ => False) w w0 := by rw [hw0]; exact (Fr.refl _ _).alloc _
  have q0 : w0.heap[w.heap.size]? = some (.cells #[.int .u8 k, .int .i64 m, .slice a ns.length c, .slice a' n c'] 34 (0, 0)) := by rw [hw0]; exact heap_alloc_new _ _
  have c0 := cells_row q0 0 _ rfl
  have c3 := cells_row q0 3 _ rfl
  have H0 := Lib.hid (And.intro f0 q0)
  by_cases h9 : k = 9
  · have E : Hid (hasE (.mk k m ns n of) lv = false) := Lib.hid (by rw [hasE, if_pos (.inl h9)])
    have e9 : ((k : Int) == 9) = true := by simp; omega
    clear h9 f0 q0
    go_enter Tryz.func24, Tryz.ntmps24
    go_upto_region 1 with fail
    rw [← hw0]
    clear hw0
    go_wp2
    go_ret
    rw [E.out]
    exact ⟨rfl, H0.out.1⟩
  have e9 : ((k : Int) == 9) = false := by simp; omega
  by_cases hl : lv = 0
  · have E : Hid (hasE (.mk k m ns n of) lv = false) := Lib.hid (by rw [hasE, if_pos (.inr hl)])
    have ez : (lz == 0) = true := by have := HLZ.out; simp; omega
    clear hl h9 f0 q0
    go_enter Tryz.func24, Tryz.ntmps24
    go_upto_region 1 with fail
    rw [← hw0]
    clear hw0
    go_wp2
    go_ret
    rw [E.out]
    exact ⟨rfl, H0.out.1⟩
  have ez : (lz == 0) = false := by have := HLZ.out; simp; omega
  have E : Hid (hasE (.mk k m ns n of) lv = (List.range n).all (fun i => hasE (of i) (lv - 1))) := Lib.hid (by rw [hasE, if_neg (by omega)])
  have HL := Lib.hid hl
  clear hl h9 f0 q0
  go_enter Tryz.func24, Tryz.ntmps24
  go_upto_region 1 with fail
  rw [← hw0]
  clear hw0
  go_wp2
  clear c0 c3 e9 ez
  go_loopg [6, 17] n (fun G u6 u17 wr => ∃ j : Nat, j ≤ n ∧ G = n - j ∧ u17 = .int .i64 j ∧ Hid (Fr (fun _ => False) w wr ∧ ∀ i, i < j → hasE (of i) (lv - 1) = true))
  case atStart => exact ⟨0, Nat.zero_le _, rfl, by go_num, Lib.hid ⟨H0.out.1, fun i hi => by omega⟩⟩
  case round =>
    obtain ⟨j, hj, rfl, rfl, HI⟩ := hrel
    by_cases hlt : j < n
    · rcases HS.out with hz | ⟨hcap, g, off, hg, rfl, hcell⟩
      · omega
      obtain ⟨x0, x1, x2, x3, y0, y1, y2, y3, hx⟩ := hcell j hlt
      have y0 := cell_fr HI.out.1 (fun _ _ h => h) hg y0
      have y1 := cell_fr HI.out.1 (fun _ _ h => h) hg y1
      have y2 := cell_fr HI.out.1 (fun _ _ h => h) hg y2
      have y3 := cell_fr HI.out.1 (fun _ _ h => h) hg y3
      obtain ⟨xk, xm, xa, xn, xc, xa', xn', xc', rfl, rfl, rfl, rfl⟩ := hx.cells
      have fb : Fr (fun _ => False) w (wr.alloc (.cells #[.int .u8 xk, .int .i64 xm, .slice xa xn xc, .slice xa' xn' xc'] 34)) := HI.out.1.alloc _
      have hrec := ih j R _ _ (lv - 1) (lz - 1) (by have := HLZ.out; have := HL.out; omega) (by omega) (Shows.fr fb (fun _ _ h => h) _ _ hx)
      have FB := Lib.hid fb
      have HLT := Lib.hid hlt
      clear hcell hx fb
      cases hB : hasE (of j) (lv - 1) with
      | true =>
        rw [hB] at hrec
        have HB := Lib.hid hB
        clear hB
        go_wp2_with fail
        refine hrec.mono ?_
        rintro e w5 ⟨rfl, f5⟩
        have F5 := Lib.hid f5
        clear f5 hrec
        go_wp2
        go_roundg (n - (j + 1))
        case measure => omega
        case rel => exact ⟨j + 1, by omega, rfl, by go_num, Lib.hid ⟨FB.out.trans F5.out (fun _ _ h => h), fun i hi => by
          by_cases h : i < j
          · exact HI.out.2 i h
          · obtain rfl : i = j := by omega
            exact HB.out⟩⟩
      | false =>
        rw [hB] at hrec
        have EF : Hid (hasE (.mk k m ns n of) lv = false) := Lib.hid (by
          rw [E.out, List.all_eq_false]
          exact ⟨j, List.mem_range.2 hlt, by simp [hB]⟩)
        clear hB
        go_wp2_with fail
        refine hrec.mono ?_
        rintro e w5 ⟨rfl, f5⟩
        have F5 := Lib.hid f5
        clear f5 hrec
        go_wp2
        go_ret
        rw [EF.out]
        exact ⟨rfl, FB.out.trans F5.out (fun _ _ h => h)⟩
    · obtain rfl : j = n := by omega
      have ET : Hid (hasE (.mk k m ns j of) lv = true) := Lib.hid (by
        rw [E.out, List.all_eq_true]
        exact fun i hi => HI.out.2 i (List.mem_range.1 hi))
      go_wp2
      go_ret
      rw [ET.out]
      exact ⟨rfl, HI.out.1⟩
end
section
theorem fault_fn (b : Nat) (x0 : Value) (n n' : Int) (d : Txt) (w : World) (hb : w.heap[b]? = some (.cells #[x0, .int .i64 n] 148 (0, 0))) :
    Calls Tryz.prog 92 #[.agg #[sv d, .int .i64 n'], .pointer (some ⟨b, 0, none⟩)] w fun e w' => e = .returned (.bool (decide (n' = n))) ∧ Fr (fun _ => False) w w' := by
  have c1 := cells_row hb 1 _ rfl
  have hlt := lt_of_block hb
  have n1 : b ≠ w.heap.size := by omega
  clear hb
  unfold sv
  by_cases h : n' = n
  · subst h
    go_enter Tryz.func92, Tryz.ntmps92
    go_wp2
    go_ret
    exact ⟨ret_bool (by simp), (Fr.refl _ _).alloc _⟩
  · have h' : (n' == n) = false := by simpa using h
    go_enter Tryz.func92, Tryz.ntmps92
    go_wp2
    go_ret
    exact ⟨ret_bool (by simp [h]), (Fr.refl _ _).alloc _⟩

theorem index_fault (R : Nat → Prop) (l : List (Txt × Int)) (v : Value) (b : Nat) (x0 : Value) (n : Int) (w : World) (h : Faults R w l v) (hb : w.heap[b]? = some (.cells #[x0, .int .i64 n] 148 (0, 0))) :
    Calls Tryz.prog 101 #[v, .func (.func 92) #[] #[.pointer (some ⟨b, 0, none⟩)]] w fun e w' => e = .returned (.int .i64 (firstAt (fun x => decide (x.2 = n)) l)) ∧ Fr (fun _ => False) w w' := by
  have hl0 : l.length ≤ 1000 := h.1
  obtain ⟨a, cap, rfl, hs⟩ := h.shape
  have Hs := Lib.hid hs
  have Hb := Lib.hid hb
  clear hs h hb
  go_enter Tryz.func101, Tryz.ntmps101
  go_wp2
  go_loopg [5, 8] l.length (fun G u5 u8 wr => ∃ k : Nat, k ≤ l.length ∧ G = l.length - k ∧ u8 = .int .i64 k ∧ Hid ((∀ j, (hj : j < l.length) → j < k → l[j].2 ≠ n) ∧ Fr (fun _ => False) w wr))
  case atStart => exact ⟨0, Nat.zero_le _, rfl, by go_num, Lib.hid ⟨fun j _ hj => by omega, Fr.refl _ _⟩⟩
  case round =>
    obtain ⟨k, hk, rfl, rfl, HI⟩ := hrel
    by_cases hlt : k < l.length
    · rcases Hs.out with hz | ⟨hcap, ga, oa, hg, rfl, hcell⟩
      · omega
      obtain ⟨d, hd⟩ : ∃ d, d = l[k] := ⟨_, rfl⟩
      obtain ⟨q, q0⟩ := hcell k d (by rw [List.getElem?_eq_getElem hlt, hd])
      have q := cell_fr (R := fun _ => True) HI.out.2 (fun _ _ h => h) trivial q
      have q0 := cell_fr (R := fun _ => True) HI.out.2 (fun _ _ h => h) trivial q0
      clear hcell
      have hfn := fault_fn b x0 n d.2 d.1 wr (box_kept Hb.out HI.out.2 (fun h => h))
      have Hd := Lib.hid hd
      clear hd
      unfold sv at *
      by_cases he : d.2 = n
      · have hb1 : decide (d.2 = n) = true := by simpa using he
        rw [hb1] at hfn
        have He := Lib.hid he
        clear he hb1
        go_wp2_with fail
        refine hfn.mono ?_
        rintro e w1 ⟨rfl, f1⟩
        have f1 := Lib.hid f1
        go_wp2
        go_ret
        refine ⟨ret_int ?_, HI.out.2.trans f1.out (fun _ _ h => h)⟩
        exact (firstAt_found _ l k hlt (fun j hj hjk => by simpa using HI.out.1 j hj hjk) (by rw [← Hd.out]; simpa using He.out)).symm
      · have hb1 : decide (d.2 = n) = false := by simpa using he
        rw [hb1] at hfn
        have He := Lib.hid he
        clear he hb1
        go_wp2_with fail
        refine hfn.mono ?_
        rintro e w1 ⟨rfl, f1⟩
        have f1 := Lib.hid f1
        go_wp2
        go_roundg (l.length - (k + 1))
        case measure => omega
        case rel => exact ⟨k + 1, by omega, rfl, by go_num, Lib.hid ⟨fun j hj' hj => by
          by_cases h : j < k
          · exact HI.out.1 j hj' h
          · obtain rfl : j = k := by omega
            rw [← Hd.out]; exact He.out, HI.out.2.trans f1.out (fun _ _ h => h)⟩⟩
    · obtain rfl : k = l.length := by omega
      go_wp2
      go_ret
      refine ⟨ret_int ?_, HI.out.2⟩
      exact (firstAt_none _ l (fun j hj => by simpa using HI.out.1 j hj hj)).symm

theorem contains_fault (R : Nat → Prop) (l : List (Txt × Int)) (v : Value) (b : Nat) (x0 : Value) (n : Int) (w : World) (h : Faults R w l v) (hb : w.heap[b]? = some (.cells #[x0, .int .i64 n] 148 (0, 0))) :
    Calls Tryz.prog 91 #[v, .func (.func 92) #[] #[.pointer (some ⟨b, 0, none⟩)]] w fun e w' => e = .returned (.bool (l.any fun x => decide (x.2 = n))) ∧ Fr (fun _ => False) w w' := by
  have hc := index_fault R l v b x0 n w h hb
  clear h hb
  go_enter Tryz.func91, Tryz.ntmps91
  go_wp2_with fail
  refine hc.mono ?_
  rintro e w' ⟨rfl, f1⟩
  have f1 := Lib.hid f1
  clear hc
  go_wp2
  go_ret
  exact ⟨ret_bool (firstAt_ge _ _), f1.out⟩

set_option maxRecDepth 100000 in
theorem checkFaults_any (R : Nat → Prop) (t : KTab) (bef : List Txt) (v : Value) (b : Nat) (w : World) (hbl : bef.length ≤ 10000) (ht : Tabled R w t v) (hR : ∀ k, R k → k < b) (hb : b < w.heap.size) (hN : Nm (fun k => k < b) w b bef) :
    Calls Tryz.prog 82 #[v, namer b] w fun e w' => e = .returned (.int .i64 (firstE (faultE bef t.faults) t.faults.length)) ∧ Fr (fun k => b ≤ k) w w' ∧ (firstE (faultE bef t.faults) t.faults.length = 0 → Nm (fun k => k < b) w' b (bef ++ t.faults.map (·.1))) := by
  obtain ⟨tv, fv, pv, rfl, _, hal, hfl, hpl⟩ := ht
  obtain ⟨ta, tc, rfl, _⟩ := hal.shape
  obtain ⟨pa, pc, rfl, _⟩ := hpl.shape
  have hall : t.faults.length ≤ 1000 := hfl.1
  have hnl := Lib.hid hfl.2.1
  have Hfl0 := Lib.hid hfl
  obtain ⟨a, c, rfl, hs⟩ := hfl.shape
  have Hfl := Lib.hid hfl
  have Hs := Lib.hid hs
  have HN := Lib.hid hN
  have HR := Lib.hid hR
  clear hal hs hN hR hfl hpl
  obtain ⟨w0, hw0⟩ : ∃ w0, w0 = w.alloc (.cells #[sv t.name, .int .i64 t.number, .int .i64 t.version, .slice ta t.types.length tc, .slice a t.faults.length c, .slice pa t.procs.length pc] 130) := ⟨_, rfl⟩
  have f0 : Hid (Fr (fun _ => False) w w0) := Lib.hid (by rw [hw0]; exact (Fr.refl _ _).alloc _)
  have q2 : Hid (w0.heap[w.heap.size]? = some (.cells #[sv t.name, .int .i64 t.number, .int .i64 t.version, .slice ta t.types.length tc, .slice a t.faults.length c, .slice pa t.procs.length pc] 130 (0, 0))) := Lib.hid (by rw [hw0]; exact heap_alloc_new _ _)
  have s0 : Hid (w0.heap.size = w.heap.size + 1) := Lib.hid (by rw [hw0]; simp)
  have c3 := cells_row q2.out 4 _ rfl
  unfold namer
  unfold sv at *
  go_enter Tryz.func82, Tryz.ntmps82
  go_wp2
  rw [← hw0]
  clear hw0 c3
  go_loopg [5, 6, 7, 11] t.faults.length (fun G u5 u6 u7 u11 wr => ∃ j : Nat, j ≤ t.faults.length ∧ G = t.faults.length - j ∧ u11 = .int .i64 j ∧ Hid (firstE (faultE bef t.faults) j = 0 ∧ Fr (fun k => b ≤ k) w wr ∧
    wr.heap[w.heap.size]? = some (.cells #[.string ⟨t.name.toArray⟩, .int .i64 t.number, .int .i64 t.version, .slice ta t.types.length tc, .slice a t.faults.length c, .slice pa t.procs.length pc] 130 (0, 0)) ∧
    Nm (fun k => k < b ∨ k = w.heap.size) wr b (bef ++ (t.faults.take j).map (·.1))))
  case atStart => exact ⟨0, Nat.zero_le _, rfl, by go_num, Lib.hid ⟨rfl, f0.out.mono (fun _ _ h => absurd h (fun h => h)), q2.out, by simpa using (HN.out.guard (Q := fun k => k < b ∨ k = w.heap.size) (fun k hk h => by omega)).fr f0.out (fun _ h => absurd h (fun h => h))⟩⟩
  case round =>
    obtain ⟨j, hj, rfl, rfl, HI⟩ := hrel
    by_cases hlt : j < t.faults.length
    · rcases Hs.out with hz | ⟨hcap, g, off, hg, rfl, hcell⟩
      · omega
      obtain ⟨nm, num, htt⟩ : ∃ nm num, t.faults[j]? = some (nm, num) := ⟨t.faults[j].1, t.faults[j].2, by rw [List.getElem?_eq_getElem hlt]⟩
      obtain ⟨y, y0⟩ := hcell j _ htt
      have nb : ∀ k, R k → ¬ b ≤ k := fun k hk h => by have := HR.out k hk; omega
      have y := cell_fr HI.out.2.1 nb hg y
      have y0 := cell_fr HI.out.2.1 nb hg y0
      have NB := Lib.hid nb
      have hgd : t.faults.getD j ([], 0) = (nm, num) := by rw [List.getD_eq_getElem?_getD, htt]; rfl
      have hnml : nm.length ≤ 1000 := hnl.out _ (List.mem_of_getElem? htt)
      have htk : bef ++ (t.faults.take (j + 1)).map (·.1) = bef ++ (t.faults.take j).map (·.1) ++ [nm] := by
        rw [List.take_add_one, htt]; simp
      have HGD := Lib.hid hgd
      have HTK := Lib.hid htk
      clear hcell nb htt hgd htk
      unfold sv at y
      simp only at y0
      obtain ⟨wb, hwb⟩ : ∃ wb, wb = wr.alloc (.cells #[.string ⟨nm.toArray⟩, .int .i64 num] 148) := ⟨_, rfl⟩
      have fb : Fr (fun _ => False) wr wb := by rw [hwb]; exact (Fr.refl _ _).alloc _
      have qb : wb.heap[wr.heap.size]? = some (.cells #[.string ⟨nm.toArray⟩, .int .i64 num] 148 (0, 0)) := by rw [hwb]; exact heap_alloc_new _ _
      have sb : wb.heap.size = wr.heap.size + 1 := by rw [hwb]; simp
      have hwr : w.heap.size + 1 ≤ wr.heap.size := lt_of_block HI.out.2.2.1
      have hNb : Nm (fun k => (k < b ∨ k = w.heap.size) ∨ k = wr.heap.size) wb b (bef ++ (t.faults.take j).map (·.1)) :=
        (HI.out.2.2.2.guard (Q := fun k => (k < b ∨ k = w.heap.size) ∨ k = wr.heap.size) (fun k hk h => by rcases h with h | h; exact h; omega)).fr fb (fun _ h => absurd h (fun h => h))
      have hnx := name_next _ b (bef ++ (t.faults.take j).map (·.1)) nm wb hNb (fun k h => by omega) (by simp; omega) (by unfold maxLen; omega)
      unfold sv at hnx
      rw [hwb] at hnx
      have HB := Lib.hid (And.intro hwb (And.intro fb (And.intro qb sb)))
      clear hwb fb qb sb hNb
      obtain ⟨E, hE⟩ : ∃ E, E = nameE (bef ++ (t.faults.take j).map (·.1)) nm := ⟨_, rfl⟩
      rw [← hE] at hnx
      have HE := Lib.hid hE
      clear hE
      go_wp2_with fail
      refine hnx.mono ?_
      rintro e w2 ⟨rfl, f2, N2⟩
      rw [← HB.out.1] at f2
      have HF2 := Lib.hid (And.intro f2 N2)
      clear f2 N2 hnx
      by_cases he : E = 0
      · subst he
        have N2 := HF2.out.2 (by first | trivial | rfl)
        have qt := box_kept (box_kept HI.out.2.2.1 HB.out.2.1 (fun h => h)) HF2.out.1 (by omega)
        have qa := box_kept HB.out.2.2.1 HF2.out.1 (by omega)
        have fw2 : Fr (fun k => b ≤ k) w w2 := (HI.out.2.1.trans HB.out.2.1 (fun _ _ h => absurd h (fun h => h))).trans HF2.out.1 (fun i hi h => by omega)
        have hcf := contains_fault R (t.faults.take j) (.slice (some ⟨g, off, none⟩) j c) wr.heap.size _ num w2 ((Faults.take Hfl0.out j (by omega)).fr fw2 (fun k hk => NB.out k hk)) qa
        have d1 := cells_row qa 1 _ rfl
        have c4 := cells_row qt 4 _ rfl
        have HQ := Lib.hid (And.intro qt (And.intro qa (And.intro fw2 N2)))
        obtain ⟨B, hB⟩ : ∃ B, B = (t.faults.take j).any (fun x => decide (x.2 = num)) := ⟨_, rfl⟩
        rw [← hB] at hcf
        have HBB := Lib.hid hB
        clear qt qa fw2 N2 hB y y0
        have hjc : (j : Int) ≤ (c : Int) := by omega
        have hj0 : (0 : Int) ≤ (j : Int) := by omega
        by_cases hv : validN num = true
        · have HV := Lib.hid hv
          clear hv
          cases B with
          | true =>
            have ea : faultE bef t.faults j = 9 := by unfold faultE; rw [HGD.out]; simp only [if_pos HE.out.symm, HV.out, ← HBB.out]; rfl
            have es : firstE (faultE bef t.faults) t.faults.length = 9 := by rw [firstE_stop _ _ j hlt HI.out.1 (by rw [ea]; decide), ea]
            have ES := Lib.hid es
            clear ea es
            go_wp2_with fail
            refine (validN_any num _).mono ?_
            rintro e w' ⟨rfl, rfl⟩
            rw [HV.out]
            go_wp2_with fail
            refine hcf.mono ?_
            rintro e w3 ⟨rfl, f3⟩
            have f3 := Lib.hid f3
            go_wp2
            go_ret
            rw [ES.out]
            exact ⟨rfl, HQ.out.2.2.1.trans f3.out (fun _ _ h => absurd h (fun h => h)), fun h => by cases h⟩
          | false =>
            have ea : faultE bef t.faults j = 0 := by unfold faultE; rw [HGD.out]; simp only [if_pos HE.out.symm, HV.out, ← HBB.out]; rfl
            have EA := Lib.hid ea
            clear ea
            go_wp2_with fail
            refine (validN_any num _).mono ?_
            rintro e w' ⟨rfl, rfl⟩
            rw [HV.out]
            go_wp2_with fail
            refine hcf.mono ?_
            rintro e w3 ⟨rfl, f3⟩
            have f3 := Lib.hid f3
            go_wp2
            go_roundg (t.faults.length - (j + 1))
            case measure => omega
            case rel =>
              refine ⟨j + 1, by omega, rfl, by go_num, Lib.hid ⟨firstE_step _ _ HI.out.1 EA.out, HQ.out.2.2.1.trans f3.out (fun _ _ h => absurd h (fun h => h)), box_kept HQ.out.1 f3.out (fun h => h), ?_⟩⟩
              rw [HTK.out]
              exact (HQ.out.2.2.2.guard (Q := fun k => k < b ∨ k = w.heap.size) (fun k _ h => .inl h)).fr f3.out (fun _ h => absurd h (fun h => h))
        · have hv' := eq_false_of_ne_true hv
          have HV := Lib.hid hv'
          clear hv hv'
          have ea : faultE bef t.faults j = 2 := by unfold faultE; rw [HGD.out]; simp only [if_pos HE.out.symm, HV.out]; rfl
          have es : firstE (faultE bef t.faults) t.faults.length = 2 := by rw [firstE_stop _ _ j hlt HI.out.1 (by rw [ea]; decide), ea]
          have ES := Lib.hid es
          clear ea es
          go_wp2_with fail
          refine (validN_any num _).mono ?_
          rintro e w' ⟨rfl, rfl⟩
          rw [HV.out]
          go_wp2
          go_ret
          rw [ES.out]
          exact ⟨rfl, HQ.out.2.2.1, fun h => by cases h⟩
      · have he' : ¬ (E : Int) = 0 := by omega
        go_wp2
        go_ret
        have ea : faultE bef t.faults j = E := by unfold faultE; rw [HGD.out]; rw [if_neg (by rw [← HE.out]; exact he), HE.out]
        have es : firstE (faultE bef t.faults) t.faults.length = E := by rw [firstE_stop _ _ j hlt HI.out.1 (by rw [ea]; exact he), ea]
        rw [es]
        refine ⟨rfl, (HI.out.2.1.trans HB.out.2.1 (fun _ _ h => absurd h (fun h => h))).trans HF2.out.1 (fun i hi h => by omega), fun h => absurd h he⟩
    · obtain rfl : j = t.faults.length := by omega
      go_wp2
      go_ret
      rw [HI.out.1]
      refine ⟨rfl, HI.out.2.1, fun _ => ?_⟩
      have := HI.out.2.2.2
      rw [List.take_length] at this
      exact this.guard (fun k _ h => .inl h)
end
end Go.Proofs.YtplipjijaaejlaaGreat
