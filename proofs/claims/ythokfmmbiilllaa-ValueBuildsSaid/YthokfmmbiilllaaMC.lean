/-
  package kind: the check of an interface's faults.
-/
import Derived.Test.YthokfmmbiilllaaMB
import Derived.Test.YthokfmmbiilllaaMA
import Derived.BigRegion
import Derived.IntWalk
import Derived.Deep.Cut
import Derived.Deep.CutRange
import Derived.ProofKit
import Derived.OpenShut
import Derived.Deep.Slices
set_option linter.unusedSimpArgs false
set_option linter.unusedVariables false
namespace Go.Proofs.Ythokfmmbiilllaa
open Go.RowKit


set_option maxHeartbeats 4000000 in
theorem fault_fn (b : Nat) (x0 : Value) (n n' : Int) (d : Txt) (w : World) (hb : w.heap[b]? = some (.cells #[x0, .int .i64 n] 111 (0, 0))) :
    Calls Try.prog 58 #[.agg #[sv d, .int .i64 n'], .pointer (some ⟨b, 0, none⟩)] w fun e w' => e = .returned (.bool (decide (n' = n))) ∧ Fr (fun _ => False) w w' := by
  have c1 := cells_row hb 1 _ rfl
  have hlt := lt_of_block hb
  have n1 : b ≠ w.heap.size := by omega
  clear hb
  unfold sv
  by_cases h : n' = n
  · subst h
    go_enter Try.func58, Try.ntmps58
    go_wp2
    go_ret
    exact ⟨ret_bool (by simp), (Fr.refl _ _).alloc _⟩
  · have h' : (n' == n) = false := by simpa using h
    go_enter Try.func58, Try.ntmps58
    go_wp2
    go_ret
    exact ⟨ret_bool (by simp [h]), (Fr.refl _ _).alloc _⟩

set_option maxHeartbeats 4000000 in
theorem index_fault (R : Nat → Prop) (l : List (Txt × Int)) (v : Value) (b : Nat) (x0 : Value) (n : Int) (w : World) (h : Faults R w l v) (hb : w.heap[b]? = some (.cells #[x0, .int .i64 n] 111 (0, 0))) :
    Calls Try.prog 67 #[v, .func (.func 58) #[] #[.pointer (some ⟨b, 0, none⟩)]] w fun e w' => e = .returned (.int .i64 (firstAt (fun x => decide (x.2 = n)) l)) ∧ Fr (fun _ => False) w w' := by
  have hl0 : l.length ≤ 1000 := h.1
  obtain ⟨a, cap, rfl, hs⟩ := h.shape
  have Hs := Lib.hid hs
  have Hb := Lib.hid hb
  clear hs h hb
  go_enter Try.func67, Try.ntmps67
  go_wp2
  go_loopg [5, 8] l.length (fun G u5 u8 wr => ∃ k : Nat, k ≤ l.length ∧ G = l.length - k ∧ u8 = .int .i64 k ∧ Hid ((∀ j, (hj : j < l.length) → j < k → l[j].2 ≠ n) ∧ Fr (fun _ => False) w wr))
  case atStart => exact ⟨0, Nat.zero_le _, rfl, by go_num, Lib.hid ⟨fun j _ hj => by omega, Fr.refl _ _⟩⟩
  case round =>
    obtain ⟨k, hk, rfl, rfl, HI⟩ := hrel
    by_cases hlt : k < l.length
    · rcases Hs.out with hz | ⟨hcap, ga, oa, hg, rfl, hcell⟩
      · omega
      obtain ⟨d, hd⟩ : ∃ d, d = l[k] := ⟨_, rfl⟩
      obtain ⟨q, q0⟩ := hcell k d (by rw [List.getElem?_eq_getElem hlt, hd])
      have q := cell_fr (R := fun _ => True) HI.out.2 (fun _ _ h => h) trivial q
      have q0 := cell_fr (R := fun _ => True) HI.out.2 (fun _ _ h => h) trivial q0
      clear hcell
      have hfn := fault_fn b x0 n d.2 d.1 wr (box_kept Hb.out HI.out.2 (fun h => h))
      have Hd := Lib.hid hd
      clear hd
      unfold sv at *
      by_cases he : d.2 = n
      · have hb1 : decide (d.2 = n) = true := by simpa using he
        rw [hb1] at hfn
        have He := Lib.hid he
        clear he hb1
        go_wp2_with fail
        refine hfn.mono ?_
        rintro e w1 ⟨rfl, f1⟩
        have f1 := Lib.hid f1
        go_wp2
        go_ret
        refine ⟨ret_int ?_, HI.out.2.trans f1.out (fun _ _ h => h)⟩
        exact (firstAt_found _ l k hlt (fun j hj hjk => by simpa using HI.out.1 j hj hjk) (by rw [← Hd.out]; simpa using He.out)).symm
      · have hb1 : decide (d.2 = n) = false := by simpa using he
        rw [hb1] at hfn
        have He := Lib.hid he
        clear he hb1
        go_wp2_with fail
        refine hfn.mono ?_
        rintro e w1 ⟨rfl, f1⟩
        have f1 := Lib.hid f1
        go_wp2
        go_roundg (l.length - (k + 1))
        case measure => omega
        case rel => exact ⟨k + 1, by omega, rfl, by go_num, Lib.hid ⟨fun j hj' hj => by
          by_cases h : j < k
          · exact HI.out.1 j hj' h
          · obtain rfl : j = k := by omega
            rw [← Hd.out]; exact He.out, HI.out.2.trans f1.out (fun _ _ h => h)⟩⟩
    · obtain rfl : k = l.length := by omega
      go_wp2
      go_ret
      refine ⟨ret_int ?_, HI.out.2⟩
      exact (firstAt_none _ l (fun j hj => by simpa using HI.out.1 j hj hj)).symm

set_option maxHeartbeats 1000000 in
theorem contains_fault (R : Nat → Prop) (l : List (Txt × Int)) (v : Value) (b : Nat) (x0 : Value) (n : Int) (w : World) (h : Faults R w l v) (hb : w.heap[b]? = some (.cells #[x0, .int .i64 n] 111 (0, 0))) :
    Calls Try.prog 57 #[v, .func (.func 58) #[] #[.pointer (some ⟨b, 0, none⟩)]] w fun e w' => e = .returned (.bool (l.any fun x => decide (x.2 = n))) ∧ Fr (fun _ => False) w w' := by
  have hc := index_fault R l v b x0 n w h hb
  clear h hb
  go_enter Try.func57, Try.ntmps57
  go_wp2_with fail
  refine hc.mono ?_
  rintro e w' ⟨rfl, f1⟩
  have f1 := Lib.hid f1
  clear hc
  go_wp2
  go_ret
  exact ⟨ret_bool (firstAt_ge _ _), f1.out⟩

set_option maxRecDepth 100000 in
set_option maxHeartbeats 16000000 in
theorem checkFaults_any (R : Nat → Prop) (t : KTab) (bef : List Txt) (v : Value) (b : Nat) (w : World) (hbl : bef.length ≤ 10000) (ht : Tabled R w t v) (hR : ∀ k, R k → k < b) (hb : b < w.heap.size) (hN : Nm (fun k => k < b) w b bef) :
    Calls Try.prog 48 #[v, namer b] w fun e w' => e = .returned (.int .i64 (firstE (faultE bef t.faults) t.faults.length)) ∧ Fr (fun k => b ≤ k) w w' ∧ (firstE (faultE bef t.faults) t.faults.length = 0 → Nm (fun k => k < b) w' b (bef ++ t.faults.map (·.1))) := by
  obtain ⟨tv, fv, pv, rfl, _, hal, hfl, hpl⟩ := ht
  obtain ⟨ta, tc, rfl, _⟩ := hal.shape
  obtain ⟨pa, pc, rfl, _⟩ := hpl.shape
  have hall : t.faults.length ≤ 1000 := hfl.1
  have hnl := Lib.hid hfl.2.1
  have Hfl0 := Lib.hid hfl
  obtain ⟨a, c, rfl, hs⟩ := hfl.shape
  have Hfl := Lib.hid hfl
  have Hs := Lib.hid hs
  have HN := Lib.hid hN
  have HR := Lib.hid hR
  clear hal hs hN hR hfl hpl
  obtain ⟨w0, hw0⟩ : ∃ w0, w0 = w.alloc (.cells #[sv t.name, .int .i64 t.number, .int .i64 t.version, .slice ta t.types.length tc, .slice a t.faults.length c, .slice pa t.procs.length pc] 98) := ⟨_, rfl⟩
  have f0 : Hid (Fr (fun _ => False) w w0) := Lib.hid (by rw [hw0]; exact (Fr.refl _ _).alloc _)
  have q2 : Hid (w0.heap[w.heap.size]? = some (.cells #[sv t.name, .int .i64 t.number, .int .i64 t.version, .slice ta t.types.length tc, .slice a t.faults.length c, .slice pa t.procs.length pc] 98 (0, 0))) := Lib.hid (by rw [hw0]; exact heap_alloc_new _ _)
  have s0 : Hid (w0.heap.size = w.heap.size + 1) := Lib.hid (by rw [hw0]; simp)
  have c3 := cells_row q2.out 4 _ rfl
  unfold namer
  unfold sv at *
  go_enter Try.func48, Try.ntmps48
  go_wp2
  rw [← hw0]
  clear hw0 c3
  go_loopg [5, 6, 7, 11] t.faults.length (fun G u5 u6 u7 u11 wr => ∃ j : Nat, j ≤ t.faults.length ∧ G = t.faults.length - j ∧ u11 = .int .i64 j ∧ Hid (firstE (faultE bef t.faults) j = 0 ∧ Fr (fun k => b ≤ k) w wr ∧
    wr.heap[w.heap.size]? = some (.cells #[.string ⟨t.name.toArray⟩, .int .i64 t.number, .int .i64 t.version, .slice ta t.types.length tc, .slice a t.faults.length c, .slice pa t.procs.length pc] 98 (0, 0)) ∧
    Nm (fun k => k < b ∨ k = w.heap.size) wr b (bef ++ (t.faults.take j).map (·.1))))
  case atStart => exact ⟨0, Nat.zero_le _, rfl, by go_num, Lib.hid ⟨rfl, f0.out.mono (fun _ _ h => absurd h (fun h => h)), q2.out, by simpa using (HN.out.guard (Q := fun k => k < b ∨ k = w.heap.size) (fun k hk h => by omega)).fr f0.out (fun _ h => absurd h (fun h => h))⟩⟩
  case round =>
    obtain ⟨j, hj, rfl, rfl, HI⟩ := hrel
    by_cases hlt : j < t.faults.length
    · rcases Hs.out with hz | ⟨hcap, g, off, hg, rfl, hcell⟩
      · omega
      obtain ⟨nm, num, htt⟩ : ∃ nm num, t.faults[j]? = some (nm, num) := ⟨t.faults[j].1, t.faults[j].2, by rw [List.getElem?_eq_getElem hlt]⟩
      obtain ⟨y, y0⟩ := hcell j _ htt
      have nb : ∀ k, R k → ¬ b ≤ k := fun k hk h => by have := HR.out k hk; omega
      have y := cell_fr HI.out.2.1 nb hg y
      have y0 := cell_fr HI.out.2.1 nb hg y0
      have NB := Lib.hid nb
      have hgd : t.faults.getD j ([], 0) = (nm, num) := by rw [List.getD_eq_getElem?_getD, htt]; rfl
      have hnml : nm.length ≤ 1000 := hnl.out _ (List.mem_of_getElem? htt)
      have htk : bef ++ (t.faults.take (j + 1)).map (·.1) = bef ++ (t.faults.take j).map (·.1) ++ [nm] := by
        rw [List.take_add_one, htt]; simp
      have HGD := Lib.hid hgd
      have HTK := Lib.hid htk
      clear hcell nb htt hgd htk
      unfold sv at y
      simp only at y0
      obtain ⟨wb, hwb⟩ : ∃ wb, wb = wr.alloc (.cells #[.string ⟨nm.toArray⟩, .int .i64 num] 111) := ⟨_, rfl⟩
      have fb : Fr (fun _ => False) wr wb := by rw [hwb]; exact (Fr.refl _ _).alloc _
      have qb : wb.heap[wr.heap.size]? = some (.cells #[.string ⟨nm.toArray⟩, .int .i64 num] 111 (0, 0)) := by rw [hwb]; exact heap_alloc_new _ _
      have sb : wb.heap.size = wr.heap.size + 1 := by rw [hwb]; simp
      have hwr : w.heap.size + 1 ≤ wr.heap.size := lt_of_block HI.out.2.2.1
      have hNb : Nm (fun k => (k < b ∨ k = w.heap.size) ∨ k = wr.heap.size) wb b (bef ++ (t.faults.take j).map (·.1)) :=
        (HI.out.2.2.2.guard (Q := fun k => (k < b ∨ k = w.heap.size) ∨ k = wr.heap.size) (fun k hk h => by rcases h with h | h; exact h; omega)).fr fb (fun _ h => absurd h (fun h => h))
      have hnx := name_next _ b (bef ++ (t.faults.take j).map (·.1)) nm wb hNb (fun k h => by omega) (by simp; omega) (by unfold maxLen; omega)
      unfold sv at hnx
      rw [hwb] at hnx
      have HB := Lib.hid (And.intro hwb (And.intro fb (And.intro qb sb)))
      clear hwb fb qb sb hNb
      obtain ⟨E, hE⟩ : ∃ E, E = nameE (bef ++ (t.faults.take j).map (·.1)) nm := ⟨_, rfl⟩
      rw [← hE] at hnx
      have HE := Lib.hid hE
      clear hE
      go_wp2_with fail
      refine hnx.mono ?_
      rintro e w2 ⟨rfl, f2, N2⟩
      rw [← HB.out.1] at f2
      have HF2 := Lib.hid (And.intro f2 N2)
      clear f2 N2 hnx
      by_cases he : E = 0
      · subst he
        have N2 := HF2.out.2 (by first | trivial | rfl)
        have qt := box_kept (box_kept HI.out.2.2.1 HB.out.2.1 (fun h => h)) HF2.out.1 (by omega)
        have qa := box_kept HB.out.2.2.1 HF2.out.1 (by omega)
        have fw2 : Fr (fun k => b ≤ k) w w2 := (HI.out.2.1.trans HB.out.2.1 (fun _ _ h => absurd h (fun h => h))).trans HF2.out.1 (fun i hi h => by omega)
        have hcf := contains_fault R (t.faults.take j) (.slice (some ⟨g, off, none⟩) j c) wr.heap.size _ num w2 ((Faults.take Hfl0.out j (by omega)).fr fw2 (fun k hk => NB.out k hk)) qa
        have d1 := cells_row qa 1 _ rfl
        have c4 := cells_row qt 4 _ rfl
        have HQ := Lib.hid (And.intro qt (And.intro qa (And.intro fw2 N2)))
        obtain ⟨B, hB⟩ : ∃ B, B = (t.faults.take j).any (fun x => decide (x.2 = num)) := ⟨_, rfl⟩
        rw [← hB] at hcf
        have HBB := Lib.hid hB
        clear qt qa fw2 N2 hB y y0
        have hjc : (j : Int) ≤ (c : Int) := by omega
        have hj0 : (0 : Int) ≤ (j : Int) := by omega
        by_cases hv : validN num = true
        · have HV := Lib.hid hv
          clear hv
          cases B with
          | true =>
            have ea : faultE bef t.faults j = 9 := by unfold faultE; rw [HGD.out]; simp only [if_pos HE.out.symm, HV.out, ← HBB.out]; rfl
            have es : firstE (faultE bef t.faults) t.faults.length = 9 := by rw [firstE_stop _ _ j hlt HI.out.1 (by rw [ea]; decide), ea]
            have ES := Lib.hid es
            clear ea es
            go_wp2_with fail
            refine (validN_any num _).mono ?_
            rintro e w' ⟨rfl, rfl⟩
            rw [HV.out]
            go_wp2_with fail
            refine hcf.mono ?_
            rintro e w3 ⟨rfl, f3⟩
            have f3 := Lib.hid f3
            go_wp2
            go_ret
            rw [ES.out]
            exact ⟨rfl, HQ.out.2.2.1.trans f3.out (fun _ _ h => absurd h (fun h => h)), fun h => by cases h⟩
          | false =>
            have ea : faultE bef t.faults j = 0 := by unfold faultE; rw [HGD.out]; simp only [if_pos HE.out.symm, HV.out, ← HBB.out]; rfl
            have EA := Lib.hid ea
            clear ea
            go_wp2_with fail
            refine (validN_any num _).mono ?_
            rintro e w' ⟨rfl, rfl⟩
            rw [HV.out]
            go_wp2_with fail
            refine hcf.mono ?_
            rintro e w3 ⟨rfl, f3⟩
            have f3 := Lib.hid f3
            go_wp2
            go_roundg (t.faults.length - (j + 1))
            case measure => omega
            case rel =>
              refine ⟨j + 1, by omega, rfl, by go_num, Lib.hid ⟨firstE_step _ _ HI.out.1 EA.out, HQ.out.2.2.1.trans f3.out (fun _ _ h => absurd h (fun h => h)), box_kept HQ.out.1 f3.out (fun h => h), ?_⟩⟩
              rw [HTK.out]
              exact (HQ.out.2.2.2.guard (Q := fun k => k < b ∨ k = w.heap.size) (fun k _ h => .inl h)).fr f3.out (fun _ h => absurd h (fun h => h))
        · have hv' := eq_false_of_ne_true hv
          have HV := Lib.hid hv'
          clear hv hv'
          have ea : faultE bef t.faults j = 2 := by unfold faultE; rw [HGD.out]; simp only [if_pos HE.out.symm, HV.out]; rfl
          have es : firstE (faultE bef t.faults) t.faults.length = 2 := by rw [firstE_stop _ _ j hlt HI.out.1 (by rw [ea]; decide), ea]
          have ES := Lib.hid es
          clear ea es
          go_wp2_with fail
          refine (validN_any num _).mono ?_
          rintro e w' ⟨rfl, rfl⟩
          rw [HV.out]
          go_wp2
          go_ret
          rw [ES.out]
          exact ⟨rfl, HQ.out.2.2.1, fun h => by cases h⟩
      · have he' : ¬ (E : Int) = 0 := by omega
        go_wp2
        go_ret
        have ea : faultE bef t.faults j = E := by unfold faultE; rw [HGD.out]; rw [if_neg (by rw [← HE.out]; exact he), HE.out]
        have es : firstE (faultE bef t.faults) t.faults.length = E := by rw [firstE_stop _ _ j hlt HI.out.1 (by rw [ea]; exact he), ea]
        rw [es]
        refine ⟨rfl, (HI.out.2.1.trans HB.out.2.1 (fun _ _ h => absurd h (fun h => h))).trans HF2.out.1 (fun i hi h => by omega), fun h => absurd h he⟩
    · obtain rfl : j = t.faults.length := by omega
      go_wp2
      go_ret
      rw [HI.out.1]
      refine ⟨rfl, HI.out.2.1, fun _ => ?_⟩
      have := HI.out.2.2.2
      rw [List.take_length] at this
      exact this.guard (fun k _ h => .inl h)

end Go.Proofs.Ythokfmmbiilllaa

/-
  package kind: an interface's Whole; the check of its procedures.
-/
namespace Go.Proofs.Ythokfmmbiilllaa
open Go.RowKit

/-- What Whole leaves. -/
def WholeOf (r : WR) (w : World) (e : Ending) (w' : World) : Prop :=
  ∃ tv, e = .returned (.tuple #[tv, .int .i64 (r.e : Nat)]) ∧ Fr (fun _ => False) w w' ∧ Shows (fun k => w.heap.size ≤ k) w' r.t tv

set_option maxRecDepth 100000 in
set_option maxHeartbeats 16000000 in
theorem tabWhole_any (R : Nat → Prop) (t : KTab) (x : KT) (v xv : Value) (w : World) (ht : Tabled R w t v) (hx : Shows R w x xv) :
    Calls Try.prog 61 #[v, xv] w (WholeOf (wholeE 20 t.types x 200) w) := by
  obtain ⟨tv, fv, pv, rfl, _, hal, hfl, hpl⟩ := ht
  obtain ⟨ta, tc, rfl, _⟩ := hal.shape
  obtain ⟨fa, fc, rfl, _⟩ := hfl.shape
  obtain ⟨pa, pc, rfl, _⟩ := hpl.shape
  obtain ⟨k, m, a, n, c, a', n', c', rfl⟩ := hx.four
  have HAL := Lib.hid (hal.mono (S := fun k => R k ∧ k < w.heap.size) (fun k hk h => ⟨h, hk⟩))
  have HX := Lib.hid (Shows.mono (S := fun k => R k ∧ k < w.heap.size) (fun k hk h => ⟨h, hk⟩) _ _ hx)
  clear hal hfl hpl hx
  unfold sv
  obtain ⟨w4, hw4⟩ : ∃ w4, w4 = (((w.alloc (.cells #[.string ⟨t.name.toArray⟩, .int .i64 t.number, .int .i64 t.version, .slice ta t.types.length tc, .slice fa t.faults.length fc, .slice pa t.procs.length pc] 98)).alloc (.cells #[.int .u8 k, .int .i64 m, .slice a n c, .slice a' n' c'] 32)).alloc (.cells #[.int .u8 0, .int .i64 0, .slice none 0 0, .slice none 0 0] 32)).alloc (.cells #[.int .i64 200] 3) := ⟨_, rfl⟩
  have f4 : Fr (fun _ => False) w w4 := by rw [hw4]; exact ((((Fr.refl _ _).alloc _).alloc _).alloc _).alloc _
  have s4 : w4.heap.size = w.heap.size + 4 := by rw [hw4]; simp
  have g6 : w4.heap[w.heap.size + 3]? = some (.cells #[.int .i64 200] 3 (0, 0)) := by
    have := heap_alloc_new (((w.alloc (.cells #[.string ⟨t.name.toArray⟩, .int .i64 t.number, .int .i64 t.version, .slice ta t.types.length tc, .slice fa t.faults.length fc, .slice pa t.procs.length pc] 98)).alloc (.cells #[.int .u8 k, .int .i64 m, .slice a n c, .slice a' n' c'] 32)).alloc (.cells #[.int .u8 0, .int .i64 0, .slice none 0 0, .slice none 0 0] 32)) (.cells #[.int .i64 200] 3)
    rw [← hw4] at this
    simpa using this
  have g4 : w4.heap[w.heap.size + 2]? = some (.cells #[.int .u8 0, .int .i64 0, .slice none 0 0, .slice none 0 0] 32 (0, 0)) := by
    rw [hw4, Below.heap_alloc _ _ _ (by simp)]
    have := heap_alloc_new ((w.alloc (.cells #[.string ⟨t.name.toArray⟩, .int .i64 t.number, .int .i64 t.version, .slice ta t.types.length tc, .slice fa t.faults.length fc, .slice pa t.procs.length pc] 98)).alloc (.cells #[.int .u8 k, .int .i64 m, .slice a n c, .slice a' n' c'] 32)) (.cells #[.int .u8 0, .int .i64 0, .slice none 0 0, .slice none 0 0] 32)
    simpa using this
  have hcall := whole_any 20 t.types x (fun k => R k ∧ k < w.heap.size) (.agg #[.int .u8 k, .int .i64 m, .slice a n c, .slice a' n' c']) (.slice ta t.types.length tc) 20 (w.heap.size + 3) 200 w4 rfl (by omega) (by omega) (fun h => by omega) (Shows.fr f4 (fun _ _ h => h) _ _ HX.out) (HAL.out.fr f4 (fun _ _ h => h)) g6
  have H4 := Lib.hid (And.intro f4 (And.intro s4 (And.intro g6 g4)))
  rw [hw4] at hcall
  clear f4 s4 g6 g4
  go_enter Try.func61, Try.ntmps61
  go_wp2_with fail
  refine hcall.mono ?_
  rintro e w5 ⟨tv, rfl, f5, g5, hs5, hl5⟩
  rw [← hw4] at f5 hs5
  obtain ⟨k2, m2, a2, n2, c2, a3, n3, c3, rfl⟩ := hs5.four
  have q4 := box_kept H4.out.2.2.2 f5 (by omega)
  obtain ⟨b0, b1, b2, b3⟩ := cell_of_four q4
  have z0 : w5.frozen? ⟨w.heap.size + 2, 0, none⟩ = false := by simp [World.frozen?, q4]
  have z1 : w5.frozen? ⟨w.heap.size + 2, 1, none⟩ = false := by simp [World.frozen?, q4]
  have z2 : w5.frozen? ⟨w.heap.size + 2, 2, none⟩ = false := by simp [World.frozen?, q4]
  have z3 : w5.frozen? ⟨w.heap.size + 2, 3, none⟩ = false := by simp [World.frozen?, q4]
  have H5 := Lib.hid (And.intro f5 (And.intro hs5 q4))
  clear f5 g5 hs5 hl5 q4 hcall hw4
  go_wp2
  refine bodyPost_ret (results_cell_tmp_row rfl _ _ (w.heap.size + 2) 32 _ _ _ rfl (store_four H5.out.2.2) Try.underlying32 rfl (by kernel_rfl)) rfl ?_
  have f6 := fr_four (w := w5) (b := w.heap.size + 2) (.int .u8 k2) (.int .i64 m2) (.slice a2 n2 c2) (.slice a3 n3 c3) (S := fun k => k = w.heap.size + 2) (Fr.refl _ _) (fun _ => rfl)
  refine ⟨_, rfl, ((H4.out.1.trans H5.out.1 (S := fun _ => False) (fun i hi h => by omega)).trans f6 (fun i hi h => by omega)), ?_⟩
  have := Shows.fr (R := fun k => w4.heap.size ≤ k) f6 (fun k hk h => by have := H4.out.2.1; omega) _ _ H5.out.2.1
  exact Shows.mono (fun k _ h => by have := H4.out.2.1; omega) _ _ this

theorem proc_cells {w : World} {g o : Nat} {p : KProc} {x0 x1 x2 x3 y0 y1 y2 y3 : Value} (h : ∀ j u, (procCells p x0 x1 x2 x3 y0 y1 y2 y3)[j]? = some u → w.cell? ⟨g, o + j, none⟩ = some u) :
    w.cell? ⟨g, o, none⟩ = some (sv p.name) ∧ w.cell? ⟨g, o + 1, none⟩ = some (.int .i64 p.number) ∧ w.cell? ⟨g, o + 2, none⟩ = some x0 ∧ w.cell? ⟨g, o + 3, none⟩ = some x1 ∧ w.cell? ⟨g, o + 4, none⟩ = some x2 ∧ w.cell? ⟨g, o + 5, none⟩ = some x3 ∧
    w.cell? ⟨g, o + 6, none⟩ = some y0 ∧ w.cell? ⟨g, o + 7, none⟩ = some y1 ∧ w.cell? ⟨g, o + 8, none⟩ = some y2 ∧ w.cell? ⟨g, o + 9, none⟩ = some y3 ∧ w.cell? ⟨g, o + 10, none⟩ = some (.int .u8 p.collate) ∧ w.cell? ⟨g, o + 11, none⟩ = some (.int .i64 p.timeout) :=
  ⟨h 0 _ rfl, h 1 _ rfl, h 2 _ rfl, h 3 _ rfl, h 4 _ rfl, h 5 _ rfl, h 6 _ rfl, h 7 _ rfl, h 8 _ rfl, h 9 _ rfl, h 10 _ rfl, h 11 _ rfl⟩

set_option maxHeartbeats 4000000 in
theorem proc_fn {R : Nat → Prop} {t1 t2 : KT} {x0 x1 x2 x3 y0 y1 y2 y3 : Value} {w : World} (b : Nat) (cs : Array Value) (n n' : Int) (d : Txt) (col : Nat) (tmo : Int) (hx : Shows R w t1 (.agg #[x0, x1, x2, x3])) (hy : Shows R w t2 (.agg #[y0, y1, y2, y3])) (hb : w.heap[b]? = some (.cells cs 116 (0, 0))) (hn : cs[1]? = some (.int .i64 n)) :
    Calls Try.prog 60 #[.agg #[sv d, .int .i64 n', x0, x1, x2, x3, y0, y1, y2, y3, .int .u8 col, .int .i64 tmo], .pointer (some ⟨b, 0, none⟩)] w fun e w' => e = .returned (.bool (decide (n' = n))) ∧ Fr (fun _ => False) w w' := by
  obtain ⟨pk, pm, pa', pn, pc', pa2, pn2, pc2, rfl, rfl, rfl, rfl⟩ := hx.cells
  obtain ⟨qk, qm, qa', qn, qc', qa2, qn2, qc2, rfl, rfl, rfl, rfl⟩ := hy.cells
  have c1 := cells_row hb 1 _ hn
  have hlt := lt_of_block hb
  have n1 : b ≠ w.heap.size := by omega
  clear hb hn hx hy
  unfold sv
  by_cases h : n' = n
  · subst h
    go_enter Try.func60, Try.ntmps60
    go_wp2
    go_ret
    exact ⟨ret_bool (by simp), (Fr.refl _ _).alloc _⟩
  · have h' : (n' == n) = false := by simpa using h
    go_enter Try.func60, Try.ntmps60
    go_wp2
    go_ret
    exact ⟨ret_bool (by simp [h]), (Fr.refl _ _).alloc _⟩

set_option maxHeartbeats 4000000 in
theorem index_proc (R : Nat → Prop) (l : List KProc) (v : Value) (b : Nat) (cs : Array Value) (n : Int) (w : World) (h : Procs R w l v) (hb : w.heap[b]? = some (.cells cs 116 (0, 0))) (hn : cs[1]? = some (.int .i64 n)) :
    Calls Try.prog 68 #[v, .func (.func 60) #[] #[.pointer (some ⟨b, 0, none⟩)]] w fun e w' => e = .returned (.int .i64 (firstAt (fun x => decide (x.number = n)) l)) ∧ Fr (fun _ => False) w w' := by
  have hl0 : l.length ≤ 1000 := h.1
  obtain ⟨a, cap, rfl, hs⟩ := h.shape
  have Hs := Lib.hid hs
  have Hb := Lib.hid hb
  clear hs h hb
  go_enter Try.func68, Try.ntmps68
  go_wp2
  go_loopg [5, 8] l.length (fun G u5 u8 wr => ∃ k : Nat, k ≤ l.length ∧ G = l.length - k ∧ u8 = .int .i64 k ∧ Hid ((∀ j, (hj : j < l.length) → j < k → l[j].number ≠ n) ∧ Fr (fun _ => False) w wr))
  case atStart => exact ⟨0, Nat.zero_le _, rfl, by go_num, Lib.hid ⟨fun j _ hj => by omega, Fr.refl _ _⟩⟩
  case round =>
    obtain ⟨k, hk, rfl, rfl, HI⟩ := hrel
    by_cases hlt : k < l.length
    · rcases Hs.out with hz | ⟨hcap, ga, oa, hg, rfl, hcell⟩
      · omega
      obtain ⟨d, hd⟩ : ∃ d, d = l[k] := ⟨_, rfl⟩
      obtain ⟨x0, x1, x2, x3, y0, y1, y2, y3, q, hx, hy⟩ := hcell k d (by rw [List.getElem?_eq_getElem hlt, hd])
      have q : ∀ j u, (procCells d x0 x1 x2 x3 y0 y1 y2 y3)[j]? = some u → wr.cell? ⟨ga, oa + k * 12 + j, none⟩ = some u := fun j u hj => cell_fr (R := fun _ => True) HI.out.2 (fun _ _ h => h) trivial (q j u hj)
      obtain ⟨p0, p1, p2, p3, p4, p5, p6, p7, p8, p9, p10, p11⟩ := proc_cells q
      have hx := Shows.fr HI.out.2 (fun _ _ h => h) _ _ (Shows.mono (S := fun _ => True) (fun _ _ _ => trivial) _ _ hx)
      have hy := Shows.fr HI.out.2 (fun _ _ h => h) _ _ (Shows.mono (S := fun _ => True) (fun _ _ _ => trivial) _ _ hy)
      clear hcell q
      have hfn := proc_fn b cs n d.number d.name d.collate d.timeout hx hy (box_kept Hb.out HI.out.2 (fun h => h)) hn
      obtain ⟨pk, pm, pa', pn, pc', pa2, pn2, pc2, rfl, rfl, rfl, rfl⟩ := hx.cells
      obtain ⟨qk, qm, qa', qn, qc', qa2, qn2, qc2, rfl, rfl, rfl, rfl⟩ := hy.cells
      clear hx hy
      have Hd := Lib.hid hd
      clear hd
      unfold sv at *
      by_cases he : d.number = n
      · have hb1 : decide (d.number = n) = true := by simpa using he
        rw [hb1] at hfn
        have He := Lib.hid he
        clear he hb1
        go_wp2_with fail
        refine hfn.mono ?_
        rintro e w1 ⟨rfl, f1⟩
        have f1 := Lib.hid f1
        go_wp2
        go_ret
        refine ⟨ret_int ?_, HI.out.2.trans f1.out (fun _ _ h => h)⟩
        exact (firstAt_found _ l k hlt (fun j hj hjk => by simpa using HI.out.1 j hj hjk) (by rw [← Hd.out]; simpa using He.out)).symm
      · have hb1 : decide (d.number = n) = false := by simpa using he
        rw [hb1] at hfn
        have He := Lib.hid he
        clear he hb1
        go_wp2_with fail
        refine hfn.mono ?_
        rintro e w1 ⟨rfl, f1⟩
        have f1 := Lib.hid f1
        go_wp2
        go_roundg (l.length - (k + 1))
        case measure => omega
        case rel => exact ⟨k + 1, by omega, rfl, by go_num, Lib.hid ⟨fun j hj' hj => by
          by_cases h : j < k
          · exact HI.out.1 j hj' h
          · obtain rfl : j = k := by omega
            rw [← Hd.out]; exact He.out, HI.out.2.trans f1.out (fun _ _ h => h)⟩⟩
    · obtain rfl : k = l.length := by omega
      go_wp2
      go_ret
      refine ⟨ret_int ?_, HI.out.2⟩
      exact (firstAt_none _ l (fun j hj => by simpa using HI.out.1 j hj hj)).symm

set_option maxHeartbeats 1000000 in
theorem contains_proc (R : Nat → Prop) (l : List KProc) (v : Value) (b : Nat) (cs : Array Value) (n : Int) (w : World) (h : Procs R w l v) (hb : w.heap[b]? = some (.cells cs 116 (0, 0))) (hn : cs[1]? = some (.int .i64 n)) :
    Calls Try.prog 59 #[v, .func (.func 60) #[] #[.pointer (some ⟨b, 0, none⟩)]] w fun e w' => e = .returned (.bool (l.any fun x => decide (x.number = n))) ∧ Fr (fun _ => False) w w' := by
  have hc := index_proc R l v b cs n w h hb hn
  clear h hb hn
  go_enter Try.func59, Try.ntmps59
  go_wp2_with fail
  refine hc.mono ?_
  rintro e w' ⟨rfl, f1⟩
  have f1 := Lib.hid f1
  clear hc
  go_wp2
  go_ret
  exact ⟨ret_bool (firstAt_ge _ _), f1.out⟩

end Go.Proofs.Ythokfmmbiilllaa

/-
  package kind: the check of an interface's procedures.
-/
namespace Go.Proofs.Ythokfmmbiilllaa
open Go.RowKit

set_option maxRecDepth 100000 in
set_option maxHeartbeats 32000000 in
theorem checkProcs_any (R : Nat → Prop) (t : KTab) (bef : List Txt) (v : Value) (b : Nat) (w : World) (hbl : bef.length ≤ 10000) (ht : Tabled R w t v) (hR : ∀ k, R k → k < b) (hb : b < w.heap.size) (hN : Nm (fun k => k < b) w b bef) :
    Calls Try.prog 49 #[v, namer b] w fun e w' => e = .returned (.int .i64 (firstE (procE bef t.types t.procs) t.procs.length)) ∧ Fr (fun k => b ≤ k) w w' := by
  have HT0 := Lib.hid ht
  obtain ⟨tv, fv, pv, rfl, _, hal, hfl, hpl⟩ := ht
  obtain ⟨ta, tc, rfl, _⟩ := hal.shape
  obtain ⟨fa, fc, rfl, _⟩ := hfl.shape
  have hall : t.procs.length ≤ 1000 := hpl.1
  have hnl := Lib.hid hpl.2.1
  have Hpl0 := Lib.hid hpl
  obtain ⟨a, c, rfl, hs⟩ := hpl.shape
  have Hpl := Lib.hid hpl
  have Hal := Lib.hid hal
  have Hs := Lib.hid hs
  have HN := Lib.hid hN
  have HR := Lib.hid hR
  clear hal hs hN hR hfl hpl
  obtain ⟨w0, hw0⟩ : ∃ w0, w0 = w.alloc (.cells #[sv t.name, .int .i64 t.number, .int .i64 t.version, .slice ta t.types.length tc, .slice fa t.faults.length fc, .slice a t.procs.length c] 98) := ⟨_, rfl⟩
  have f0 : Hid (Fr (fun _ => False) w w0) := Lib.hid (by rw [hw0]; exact (Fr.refl _ _).alloc _)
  have q2 : Hid (w0.heap[w.heap.size]? = some (.cells #[sv t.name, .int .i64 t.number, .int .i64 t.version, .slice ta t.types.length tc, .slice fa t.faults.length fc, .slice a t.procs.length c] 98 (0, 0))) := Lib.hid (by rw [hw0]; exact heap_alloc_new _ _)
  have c3 := cells_row q2.out 5 _ rfl
  have ix0 : ∀ (x0 x1 x2 x3 x4 x5 x6 x7 : Value) (w : World), (Instr.index 119 (.agg #[x0, x1, x2, x3, x4, x5, x6, x7]) (.int .i64 0)).run Try.prog w = .ok (.agg #[x0, x1, x2, x3]) w := fun _ _ _ _ _ _ _ _ _ => by kernel_rfl
  have ix1 : ∀ (x0 x1 x2 x3 x4 x5 x6 x7 : Value) (w : World), (Instr.index 119 (.agg #[x0, x1, x2, x3, x4, x5, x6, x7]) (.int .i64 1)).run Try.prog w = .ok (.agg #[x4, x5, x6, x7]) w := fun _ _ _ _ _ _ _ _ _ => by kernel_rfl
  unfold namer
  unfold sv at *
  go_enter Try.func49, Try.ntmps49
  go_wp2
  rw [← hw0]
  clear hw0 c3
  go_loopg [5, 6, 7, 9, 10, 11, 12, 16] t.procs.length (fun G u5 u6 u7 u9 u10 u11 u12 u16 wr => ∃ j : Nat, j ≤ t.procs.length ∧ G = t.procs.length - j ∧ u16 = .int .i64 j ∧ Hid (firstE (procE bef t.types t.procs) j = 0 ∧ Fr (fun k => b ≤ k) w wr ∧
    wr.heap[w.heap.size]? = some (.cells #[.string ⟨t.name.toArray⟩, .int .i64 t.number, .int .i64 t.version, .slice ta t.types.length tc, .slice fa t.faults.length fc, .slice a t.procs.length c] 98 (0, 0)) ∧
    Nm (fun k => k < b ∨ k = w.heap.size) wr b (bef ++ (t.procs.take j).map (·.name))))
  case atStart => exact ⟨0, Nat.zero_le _, rfl, by go_num, Lib.hid ⟨rfl, f0.out.mono (fun _ _ h => absurd h (fun h => h)), q2.out, by simpa using (HN.out.guard (Q := fun k => k < b ∨ k = w.heap.size) (fun k hk h => by omega)).fr f0.out (fun _ h => absurd h (fun h => h))⟩⟩
  case round =>
    obtain ⟨wo, rfl⟩ : ∃ wo : World, wo = wr := ⟨_, rfl⟩
    obtain ⟨j, hj, rfl, rfl, HI⟩ := hrel
    by_cases hlt : j < t.procs.length
    · rcases Hs.out with hz | ⟨hcap, g, off, hg, rfl, hcell⟩
      · omega
      obtain ⟨p, htt⟩ : ∃ p, t.procs[j]? = some p := ⟨t.procs[j], by rw [List.getElem?_eq_getElem hlt]⟩
      obtain ⟨x0, x1, x2, x3, y0, y1, y2, y3, q, hx, hy⟩ := hcell j _ htt
      have nb : ∀ k, R k → ¬ b ≤ k := fun k hk h => by have := HR.out k hk; omega
      have q : ∀ i u, (procCells p x0 x1 x2 x3 y0 y1 y2 y3)[i]? = some u → wo.cell? ⟨g, off + j * 12 + i, none⟩ = some u := fun i u hi => cell_fr HI.out.2.1 nb hg (q i u hi)
      obtain ⟨p0, p1, p2, p3, p4, p5, p6, p7, p8, p9, p10, p11⟩ := proc_cells q
      have NB := Lib.hid nb
      obtain ⟨pk, pm, pa, pn, pc, pa2, pn2, pc2, rfl, rfl, rfl, rfl⟩ := hx.cells
      obtain ⟨qk, qm, qa, qn, qc, qa2, qn2, qc2, rfl, rfl, rfl, rfl⟩ := hy.cells
      have HX := Lib.hid hx
      have HY := Lib.hid hy
      have hgd : t.procs.getD j noProc = p := by rw [List.getD_eq_getElem?_getD, htt]; rfl
      have hnml : p.name.length ≤ 1000 := (hnl.out _ (List.mem_of_getElem? htt)).1
      have htk : bef ++ (t.procs.take (j + 1)).map (·.name) = bef ++ (t.procs.take j).map (·.name) ++ [p.name] := by
        rw [List.take_add_one, htt]; simp
      have HGD := Lib.hid hgd
      have HTK := Lib.hid htk
      clear hcell nb htt hgd htk hx hy q
      unfold sv at p0
      obtain ⟨wb, hwb⟩ : ∃ wb, wb = wo.alloc (.cells #[.string ⟨p.name.toArray⟩, .int .i64 p.number, .int .u8 pk, .int .i64 pm, .slice pa pn pc, .slice pa2 pn2 pc2, .int .u8 qk, .int .i64 qm, .slice qa qn qc, .slice qa2 qn2 qc2, .int .u8 p.collate, .int .i64 p.timeout] 116) := ⟨_, rfl⟩
      have fb : Fr (fun _ => False) wo wb := by rw [hwb]; exact (Fr.refl _ _).alloc _
      have qb : wb.heap[wo.heap.size]? = some (.cells #[.string ⟨p.name.toArray⟩, .int .i64 p.number, .int .u8 pk, .int .i64 pm, .slice pa pn pc, .slice pa2 pn2 pc2, .int .u8 qk, .int .i64 qm, .slice qa qn qc, .slice qa2 qn2 qc2, .int .u8 p.collate, .int .i64 p.timeout] 116 (0, 0)) := by rw [hwb]; exact heap_alloc_new _ _
      have sb : wb.heap.size = wo.heap.size + 1 := by rw [hwb]; simp
      have hwr : w.heap.size + 1 ≤ wo.heap.size := lt_of_block HI.out.2.2.1
      have hNb : Nm (fun k => (k < b ∨ k = w.heap.size) ∨ k = wo.heap.size) wb b (bef ++ (t.procs.take j).map (·.name)) :=
        (HI.out.2.2.2.guard (Q := fun k => (k < b ∨ k = w.heap.size) ∨ k = wo.heap.size) (fun k hk h => by rcases h with h | h; exact h; omega)).fr fb (fun _ h => absurd h (fun h => h))
      have hnx := name_next _ b (bef ++ (t.procs.take j).map (·.name)) p.name wb hNb (fun k h => by omega) (by simp; omega) (by unfold maxLen; omega)
      unfold sv at hnx
      rw [hwb] at hnx
      have HB := Lib.hid (And.intro hwb (And.intro fb (And.intro qb sb)))
      clear hwb fb qb sb hNb
      obtain ⟨E, hE⟩ : ∃ E, E = nameE (bef ++ (t.procs.take j).map (·.name)) p.name := ⟨_, rfl⟩
      rw [← hE] at hnx
      have HE := Lib.hid hE
      clear hE
      go_wp2_with fail
      refine hnx.mono ?_
      rintro e w2 ⟨rfl, f2, N2⟩
      rw [← HB.out.1] at f2
      have HF2 := Lib.hid (And.intro f2 N2)
      clear f2 N2 hnx p0 p1 p2 p3 p4 p5 p6 p7 p8 p9 p10 p11
      by_cases he : E = 0
      · subst he
        have N2 := HF2.out.2 (by first | trivial | rfl)
        have qt := box_kept (box_kept HI.out.2.2.1 HB.out.2.1 (fun h => h)) HF2.out.1 (by omega)
        have qa := box_kept HB.out.2.2.1 HF2.out.1 (by omega)
        have fw2 : Fr (fun k => b ≤ k) w w2 := (HI.out.2.1.trans HB.out.2.1 (fun _ _ h => absurd h (fun h => h))).trans HF2.out.1 (fun i hi h => by omega)
        have d1 := cells_row qa 1 _ rfl
        have d10 := cells_row qa 10 _ rfl
        have d11 := cells_row qa 11 _ rfl
        have c5 := cells_row qt 5 _ rfl
        have hcp := contains_proc R (t.procs.take j) (.slice (some ⟨g, off, none⟩) j c) wo.heap.size _ p.number w2 ((Procs.take Hpl0.out j (by omega)).fr fw2 (fun k hk => NB.out k hk)) qa rfl
        have HQ := Lib.hid (And.intro qt (And.intro qa (And.intro fw2 N2)))
        obtain ⟨B, hB⟩ : ∃ B, B = (t.procs.take j).any (fun x => decide (x.number = p.number)) := ⟨_, rfl⟩
        rw [← hB] at hcp
        have HBB := Lib.hid hB
        have e0 : procE bef t.types t.procs j = procE1 t.types (t.procs.take j) p := by unfold procE; rw [HGD.out, if_pos HE.out.symm]
        have E0 := Lib.hid e0
        clear qt qa fw2 N2 hB e0
        have hjc : (j : Int) ≤ (c : Int) := by omega
        have hj0 : (0 : Int) ≤ (j : Int) := by omega
        by_cases hr : (!validN p.number || decide (p.timeout < 1) || decide (1000 < p.timeout) || decide (3 ≤ p.collate)) = true
        · have ea : procE bef t.types t.procs j = 2 := by rw [E0.out]; unfold procE1; rw [if_pos hr]
          have es : firstE (procE bef t.types t.procs) t.procs.length = 2 := by rw [firstE_stop _ _ j hlt HI.out.1 (by rw [ea]; decide), ea]
          have ES := Lib.hid es
          clear ea es
          have four : validN p.number = false ∨ validN p.number = true ∧ p.timeout < 1 ∨ validN p.number = true ∧ ¬ p.timeout < 1 ∧ 1000 < p.timeout ∨ validN p.number = true ∧ ¬ p.timeout < 1 ∧ ¬ 1000 < p.timeout ∧ (3 : Int) ≤ (p.collate : Int) := by
            simp at hr
            cases hv : validN p.number with
            | false => exact .inl rfl
            | true =>
              rw [hv] at hr
              simp at hr ⊢
              omega
          clear hr
          rcases four with hv | ⟨hv, h1⟩ | ⟨hv, h1, h2⟩ | ⟨hv, h1, h2, h3⟩ <;>
          (have HV := Lib.hid hv
           clear hv
           go_wp2_with fail
           refine (validN_any p.number _).mono ?_
           rintro e w' ⟨rfl, rfl⟩
           rw [HV.out]
           go_wp2
           go_ret
           rw [ES.out]
           exact ⟨rfl, HQ.out.2.2.1⟩)
        · have hr' := hr
          simp at hr'
          obtain ⟨⟨⟨hv, h1⟩, h2⟩, h3⟩ := hr'
          have h1' : ¬ p.timeout < 1 := by omega
          have h2' : ¬ 1000 < p.timeout := by omega
          have h3' : ¬ (3 : Int) ≤ (p.collate : Int) := by omega
          have HV := Lib.hid hv
          have HRR := Lib.hid hr
          clear hv h1 h2 h3 hr
          go_wp2_with fail
          refine (validN_any p.number _).mono ?_
          rintro e w' ⟨rfl, rfl⟩
          rw [HV.out]
          go_wp2_with fail
          refine hcp.mono ?_
          rintro e w3 ⟨rfl, f3⟩
          have f3 := Lib.hid f3
          have F3 := Lib.hid (HQ.out.2.2.1.trans f3.out (fun _ _ h => absurd h (fun h => h)))
          clear hcp
          cases hBv : B with
          | true =>
            have ea : procE bef t.types t.procs j = 9 := by rw [E0.out]; unfold procE1; rw [if_neg HRR.out, ← HBB.out, hBv]; rfl
            have es : firstE (procE bef t.types t.procs) t.procs.length = 9 := by rw [firstE_stop _ _ j hlt HI.out.1 (by rw [ea]; decide), ea]
            have ES := Lib.hid es
            clear ea es
            go_wp2
            go_ret
            rw [ES.out]
            exact ⟨rfl, F3.out⟩
          | false =>
            have ea : procE bef t.types t.procs j = if usedE t.types p.takes = 0 then usedE t.types p.answers else usedE t.types p.takes := by rw [E0.out]; unfold procE1; rw [if_neg HRR.out, ← HBB.out, hBv]; rfl
            have EA := Lib.hid ea
            clear ea hBv HBB
            have qa := box_kept HQ.out.2.1 f3.out (fun h => h)
            have qt := box_kept HQ.out.1 f3.out (fun h => h)
            have e2 := cells_row qa 2 _ rfl
            have e3 := cells_row qa 3 _ rfl
            have e4 := cells_row qa 4 _ rfl
            have e5 := cells_row qa 5 _ rfl
            have e6 := cells_row qa 6 _ rfl
            have e7 := cells_row qa 7 _ rfl
            have e8 := cells_row qa 8 _ rfl
            have e9 := cells_row qa 9 _ rfl
            have HQ3 := Lib.hid (And.intro qt qa)
            clear qt qa d1 d10 d11 c5
            go_wp2
            go_loopg [9, 10, 11, 12, 58] 2 (fun G u9 u10 u11 u12 u58 wr => ∃ i : Nat, i ≤ 2 ∧ G = 2 - i ∧ u58 = .int .i64 i ∧ Hid (Fr (fun _ => False) w3 wr ∧ (1 ≤ i → usedE t.types p.takes = 0) ∧ (2 ≤ i → usedE t.types p.answers = 0)))
            case atStart => exact ⟨0, by omega, rfl, by go_num, Lib.hid ⟨Fr.refl _ _, fun h => absurd h (by omega), fun h => absurd h (by omega)⟩⟩
            case round =>
              obtain ⟨i, hi, rfl, rfl, HJ⟩ := hrel
              obtain rfl | rfl | rfl : i = 0 ∨ i = 1 ∨ i = 2 := by omega
              · have qt := box_kept HQ3.out.1 HJ.out.1 (fun h => h)
                have n8 : w.heap.size < wr.heap.size := lt_of_block qt
                have n9 : w.heap.size ≠ wr.heap.size := by omega
                have c0 := cells_row qt 0 _ rfl
                have c1 := cells_row qt 1 _ rfl
                have c2 := cells_row qt 2 _ rfl
                have c3 := cells_row qt 3 _ rfl
                have c4 := cells_row qt 4 _ rfl
                have c5 := cells_row qt 5 _ rfl
                obtain ⟨wx, hwx⟩ : ∃ wx, wx = wr.alloc (.cells #[.int .u8 pk, .int .i64 pm, .slice pa pn pc, .slice pa2 pn2 pc2] 32) := ⟨_, rfl⟩
                have fx : Fr (fun _ => False) wr wx := by rw [hwx]; exact (Fr.refl _ _).alloc _
                have qx : wx.heap[wr.heap.size]? = some (.cells #[.int .u8 pk, .int .i64 pm, .slice pa pn pc, .slice pa2 pn2 pc2] 32 (0, 0)) := by rw [hwx]; exact heap_alloc_new _ _
                have fw : Fr (fun k => b ≤ k) w wx := (F3.out.trans HJ.out.1 (fun _ _ h => absurd h (fun h => h))).trans fx (fun _ _ h => absurd h (fun h => h))
                have hrt := right_any t.types p.takes R (.agg #[.int .u8 pk, .int .i64 pm, .slice pa pn pc, .slice pa2 pn2 pc2]) (.slice ta t.types.length tc) wx 5 5 rfl (by omega) (Shows.fr fw (fun k hk => NB.out k hk) _ _ HX.out) (Hal.out.fr fw (fun k hk => NB.out k hk))
                obtain ⟨E1, hE1⟩ : ∃ E1, E1 = rightE t.types p.takes 5 := ⟨_, rfl⟩
                rw [← hE1, hwx] at hrt
                have HE1 := Lib.hid hE1
                have HW := Lib.hid (And.intro hwx (And.intro fx (And.intro qx fw)))
                have QT := Lib.hid qt
                clear hE1 hwx fx qx fw qt
                go_wp2_with fail
                refine hrt.mono ?_
                rintro e w5 ⟨rfl, f5⟩
                rw [← HW.out.1] at f5
                have F5 := Lib.hid f5
                clear f5 hrt
                by_cases he1 : E1 = 0
                · subst he1
                  have fw5 : Fr (fun k => b ≤ k) w w5 := HW.out.2.2.2.trans F5.out (fun _ _ h => absurd h (fun h => h))
                  have qx := box_kept HW.out.2.2.1 F5.out (fun h => h)
                  have qt := box_kept (box_kept QT.out HW.out.2.1 (fun h => h)) F5.out (fun h => h)
                  have m0 := cells_row qx 0 _ rfl
                  have m1 := cells_row qx 1 _ rfl
                  have m2 := cells_row qx 2 _ rfl
                  have m3 := cells_row qx 3 _ rfl
                  have k0 := cells_row qt 0 _ rfl
                  have k1 := cells_row qt 1 _ rfl
                  have k2 := cells_row qt 2 _ rfl
                  have k3 := cells_row qt 3 _ rfl
                  have k4 := cells_row qt 4 _ rfl
                  have k5 := cells_row qt 5 _ rfl
                  have hwh := tabWhole_any R t p.takes _ (.agg #[.int .u8 pk, .int .i64 pm, .slice pa pn pc, .slice pa2 pn2 pc2]) w5 (HT0.out.fr fw5 (fun k hk => NB.out k hk)) (Shows.fr fw5 (fun k hk => NB.out k hk) _ _ HX.out)
                  have HX5 := Lib.hid fw5
                  obtain ⟨E2, hE2⟩ : ∃ E2, E2 = (wholeE 20 t.types p.takes 200).e := ⟨_, rfl⟩
                  have hue : usedE t.types p.takes = E2 := by unfold usedE; rw [if_pos HE1.out.symm, hE2]
                  have HUE := Lib.hid hue
                  have HE2 := Lib.hid hE2
                  clear fw5 qx qt c0 c1 c2 c3 c4 c5 hue hE2
                  go_wp2_with fail
                  refine hwh.mono ?_
                  rintro e w6 ⟨tv, rfl, f6, hs6⟩
                  rw [← HE2.out]
                  obtain ⟨k7, m7, a7, n7, c7, a8, n8, c8, rfl⟩ := hs6.four
                  have F6 := Lib.hid f6
                  clear f6 hs6 hwh m0 m1 m2 m3 k0 k1 k2 k3 k4 k5
                  have F7 := Lib.hid (HW.out.2.1.trans (F5.out.trans F6.out (fun _ _ h => h)) (fun _ _ h => h))
                  by_cases he2 : E2 = 0
                  · subst he2
                    go_wp2
                    go_roundg (2 - (0 + 1))
                    case measure => omega
                    case rel => exact ⟨0 + 1, by omega, rfl, by go_num, Lib.hid ⟨(HJ.out.1.trans F7.out (fun _ _ h => h)).alloc _, fun _ => HUE.out, fun h => absurd h (by omega)⟩⟩
                  · have he' : ¬ (E2 : Int) = 0 := by omega
                    go_wp2
                    go_ret
                    have ea : procE bef t.types t.procs j = E2 := by rw [EA.out, HUE.out, if_neg he2]
                    have es : firstE (procE bef t.types t.procs) t.procs.length = E2 := by rw [firstE_stop _ _ j hlt HI.out.1 (by rw [ea]; exact he2), ea]
                    rw [es]
                    exact ⟨rfl, (F3.out.trans (HJ.out.1.trans F7.out (fun _ _ h => h)) (fun _ _ h => absurd h (fun h => h))).alloc _⟩
                · have he' : ¬ (E1 : Int) = 0 := by omega
                  go_wp2
                  go_ret
                  have hue : usedE t.types p.takes = E1 := by unfold usedE; rw [← HE1.out, if_neg he1]
                  have ea : procE bef t.types t.procs j = E1 := by rw [EA.out, hue, if_neg he1]
                  have es : firstE (procE bef t.types t.procs) t.procs.length = E1 := by rw [firstE_stop _ _ j hlt HI.out.1 (by rw [ea]; exact he1), ea]
                  rw [es]
                  exact ⟨rfl, HW.out.2.2.2.trans F5.out (fun _ _ h => absurd h (fun h => h))⟩
              · have qt := box_kept HQ3.out.1 HJ.out.1 (fun h => h)
                have n8 : w.heap.size < wr.heap.size := lt_of_block qt
                have n9 : w.heap.size ≠ wr.heap.size := by omega
                have c0 := cells_row qt 0 _ rfl
                have c1 := cells_row qt 1 _ rfl
                have c2 := cells_row qt 2 _ rfl
                have c3 := cells_row qt 3 _ rfl
                have c4 := cells_row qt 4 _ rfl
                have c5 := cells_row qt 5 _ rfl
                obtain ⟨wx, hwx⟩ : ∃ wx, wx = wr.alloc (.cells #[.int .u8 qk, .int .i64 qm, .slice qa qn qc, .slice qa2 qn2 qc2] 32) := ⟨_, rfl⟩
                have fx : Fr (fun _ => False) wr wx := by rw [hwx]; exact (Fr.refl _ _).alloc _
                have qx : wx.heap[wr.heap.size]? = some (.cells #[.int .u8 qk, .int .i64 qm, .slice qa qn qc, .slice qa2 qn2 qc2] 32 (0, 0)) := by rw [hwx]; exact heap_alloc_new _ _
                have fw : Fr (fun k => b ≤ k) w wx := (F3.out.trans HJ.out.1 (fun _ _ h => absurd h (fun h => h))).trans fx (fun _ _ h => absurd h (fun h => h))
                have hrt := right_any t.types p.answers R (.agg #[.int .u8 qk, .int .i64 qm, .slice qa qn qc, .slice qa2 qn2 qc2]) (.slice ta t.types.length tc) wx 5 5 rfl (by omega) (Shows.fr fw (fun k hk => NB.out k hk) _ _ HY.out) (Hal.out.fr fw (fun k hk => NB.out k hk))
                obtain ⟨E1, hE1⟩ : ∃ E1, E1 = rightE t.types p.answers 5 := ⟨_, rfl⟩
                rw [← hE1, hwx] at hrt
                have HE1 := Lib.hid hE1
                have HW := Lib.hid (And.intro hwx (And.intro fx (And.intro qx fw)))
                have QT := Lib.hid qt
                clear hE1 hwx fx qx fw qt
                go_wp2_with fail
                refine hrt.mono ?_
                rintro e w5 ⟨rfl, f5⟩
                rw [← HW.out.1] at f5
                have F5 := Lib.hid f5
                clear f5 hrt
                by_cases he1 : E1 = 0
                · subst he1
                  have fw5 : Fr (fun k => b ≤ k) w w5 := HW.out.2.2.2.trans F5.out (fun _ _ h => absurd h (fun h => h))
                  have qx := box_kept HW.out.2.2.1 F5.out (fun h => h)
                  have qt := box_kept (box_kept QT.out HW.out.2.1 (fun h => h)) F5.out (fun h => h)
                  have m0 := cells_row qx 0 _ rfl
                  have m1 := cells_row qx 1 _ rfl
                  have m2 := cells_row qx 2 _ rfl
                  have m3 := cells_row qx 3 _ rfl
                  have k0 := cells_row qt 0 _ rfl
                  have k1 := cells_row qt 1 _ rfl
                  have k2 := cells_row qt 2 _ rfl
                  have k3 := cells_row qt 3 _ rfl
                  have k4 := cells_row qt 4 _ rfl
                  have k5 := cells_row qt 5 _ rfl
                  have hwh := tabWhole_any R t p.answers _ (.agg #[.int .u8 qk, .int .i64 qm, .slice qa qn qc, .slice qa2 qn2 qc2]) w5 (HT0.out.fr fw5 (fun k hk => NB.out k hk)) (Shows.fr fw5 (fun k hk => NB.out k hk) _ _ HY.out)
                  have HX5 := Lib.hid fw5
                  obtain ⟨E2, hE2⟩ : ∃ E2, E2 = (wholeE 20 t.types p.answers 200).e := ⟨_, rfl⟩
                  have hue : usedE t.types p.answers = E2 := by unfold usedE; rw [if_pos HE1.out.symm, hE2]
                  have HUE := Lib.hid hue
                  have HE2 := Lib.hid hE2
                  clear fw5 qx qt c0 c1 c2 c3 c4 c5 hue hE2
                  go_wp2_with fail
                  refine hwh.mono ?_
                  rintro e w6 ⟨tv, rfl, f6, hs6⟩
                  rw [← HE2.out]
                  obtain ⟨k7, m7, a7, n7, c7, a8, n8, c8, rfl⟩ := hs6.four
                  have F6 := Lib.hid f6
                  clear f6 hs6 hwh m0 m1 m2 m3 k0 k1 k2 k3 k4 k5
                  have F7 := Lib.hid (HW.out.2.1.trans (F5.out.trans F6.out (fun _ _ h => h)) (fun _ _ h => h))
                  by_cases he2 : E2 = 0
                  · subst he2
                    go_wp2
                    go_roundg (2 - (1 + 1))
                    case measure => omega
                    case rel => exact ⟨1 + 1, by omega, rfl, by go_num, Lib.hid ⟨(HJ.out.1.trans F7.out (fun _ _ h => h)).alloc _, fun _ => HJ.out.2.1 (by omega), fun _ => HUE.out⟩⟩
                  · have he' : ¬ (E2 : Int) = 0 := by omega
                    go_wp2
                    go_ret
                    have ea : procE bef t.types t.procs j = E2 := by rw [EA.out, if_pos (HJ.out.2.1 (by omega)), HUE.out]
                    have es : firstE (procE bef t.types t.procs) t.procs.length = E2 := by rw [firstE_stop _ _ j hlt HI.out.1 (by rw [ea]; exact he2), ea]
                    rw [es]
                    exact ⟨rfl, (F3.out.trans (HJ.out.1.trans F7.out (fun _ _ h => h)) (fun _ _ h => absurd h (fun h => h))).alloc _⟩
                · have he' : ¬ (E1 : Int) = 0 := by omega
                  go_wp2
                  go_ret
                  have hue : usedE t.types p.answers = E1 := by unfold usedE; rw [← HE1.out, if_neg he1]
                  have ea : procE bef t.types t.procs j = E1 := by rw [EA.out, if_pos (HJ.out.2.1 (by omega)), hue]
                  have es : firstE (procE bef t.types t.procs) t.procs.length = E1 := by rw [firstE_stop _ _ j hlt HI.out.1 (by rw [ea]; exact he1), ea]
                  rw [es]
                  exact ⟨rfl, HW.out.2.2.2.trans F5.out (fun _ _ h => absurd h (fun h => h))⟩
              · have ea : procE bef t.types t.procs j = 0 := by rw [EA.out, if_pos (HJ.out.2.1 (by omega))]; exact HJ.out.2.2 (by omega)
                have EA0 := Lib.hid ea
                clear ea
                go_wp2
                go_roundg (t.procs.length - (j + 1))
                case measure => omega
                case rel =>
                  refine ⟨j + 1, by omega, rfl, by go_num, Lib.hid ⟨firstE_step _ _ HI.out.1 EA0.out, F3.out.trans HJ.out.1 (fun _ _ h => absurd h (fun h => h)), box_kept HQ3.out.1 HJ.out.1 (fun h => h), ?_⟩⟩
                  rw [HTK.out]
                  exact (HQ.out.2.2.2.guard (Q := fun k => k < b ∨ k = w.heap.size) (fun k _ h => .inl h)).fr (f3.out.trans HJ.out.1 (fun _ _ h => h)) (fun _ h => absurd h (fun h => h))
      · have he' : ¬ (E : Int) = 0 := by omega
        go_wp2
        go_ret
        have ea : procE bef t.types t.procs j = E := by unfold procE; rw [HGD.out]; rw [if_neg (by rw [← HE.out]; exact he), HE.out]
        have es : firstE (procE bef t.types t.procs) t.procs.length = E := by rw [firstE_stop _ _ j hlt HI.out.1 (by rw [ea]; exact he), ea]
        rw [es]
        exact ⟨rfl, (HI.out.2.1.trans HB.out.2.1 (fun _ _ h => absurd h (fun h => h))).trans HF2.out.1 (fun i hi h => by omega)⟩
    · obtain rfl : j = t.procs.length := by omega
      go_wp2
      go_ret
      rw [HI.out.1]
      exact ⟨rfl, HI.out.2.1⟩

end Go.Proofs.Ythokfmmbiilllaa

/-
  package kind: the check of an interface.
-/
namespace Go.Proofs.Ythokfmmbiilllaa
open Go.RowKit

set_option maxRecDepth 100000 in
set_option maxHeartbeats 16000000 in
theorem check_any (R : Nat → Prop) (t : KTab) (v : Value) (w : World) (ht : Tabled R w t v) :
    Calls Try.prog 40 #[v] w fun e w' => e = .returned (.int .i64 (checkE t)) ∧ Fr (fun _ => False) w w' := by
  have HT := Lib.hid (ht.mono (S := fun k => R k ∧ k < w.heap.size) (fun k hk h => ⟨h, hk⟩))
  obtain ⟨tv, fv, pv, rfl, hnl, hal, hfl, hpl⟩ := ht
  have hall : t.types.length ≤ 1000 := hal.1
  have hfll : t.faults.length ≤ 1000 := hfl.1
  have hpll : t.procs.length ≤ 1000 := hpl.1
  obtain ⟨ta, tc, rfl, _⟩ := hal.shape
  obtain ⟨fa, fc, rfl, _⟩ := hfl.shape
  obtain ⟨pa, pc, rfl, _⟩ := hpl.shape
  clear hal hfl hpl
  have hnm : ∀ w, Calls Try.prog 44 #[.string ⟨t.name.toArray⟩] w fun e w' => e = .returned (.bool (named t.name)) ∧ w = w' := fun w => named_any ⟨t.name.toArray⟩ w (by show t.name.toArray.size ≤ maxLen; simp [maxLen]; omega)
  obtain ⟨w0, hw0⟩ : ∃ w0, w0 = w.alloc (.cells #[sv t.name, .int .i64 t.number, .int .i64 t.version, .slice ta t.types.length tc, .slice fa t.faults.length fc, .slice pa t.procs.length pc] 98) := ⟨_, rfl⟩
  have f0 : Hid (Fr (fun _ => False) w w0) := Lib.hid (by rw [hw0]; exact (Fr.refl _ _).alloc _)
  have q0 : w0.heap[w.heap.size]? = some (.cells #[sv t.name, .int .i64 t.number, .int .i64 t.version, .slice ta t.types.length tc, .slice fa t.faults.length fc, .slice pa t.procs.length pc] 98 (0, 0)) := by rw [hw0]; exact heap_alloc_new _ _
  have Q0 := Lib.hid q0
  have s0 : Hid (w0.heap.size = w.heap.size + 1) := Lib.hid (by rw [hw0]; simp)
  have c0 := cells_row q0 0 _ rfl
  have c1 := cells_row q0 1 _ rfl
  have c2 := cells_row q0 2 _ rfl
  have c3 := cells_row q0 3 _ rfl
  have c4 := cells_row q0 4 _ rfl
  have c5 := cells_row q0 5 _ rfl
  clear q0
  unfold sv at *
  by_cases h1 : named t.name = true
  case neg =>
    have h1' := eq_false_of_ne_true h1
    have ec : Hid (checkE t = 8) := Lib.hid (by unfold checkE; rw [h1']; rfl)
    have H1 := Lib.hid h1'
    clear h1 h1'
    go_enter Try.func40, Try.ntmps40
    go_wp2_with fail
    refine (hnm _).mono ?_
    rintro e w' ⟨rfl, rfl⟩
    rw [H1.out]
    go_wp2
    go_ret
    rw [ec.out, ← hw0]
    exact ⟨rfl, f0.out⟩
  have H1 := Lib.hid h1
  clear h1
  by_cases h2 : validN t.number = true
  case neg =>
    have h2' := eq_false_of_ne_true h2
    have ec : Hid (checkE t = 2) := Lib.hid (by unfold checkE; rw [H1.out, h2']; rfl)
    have H2 := Lib.hid h2'
    clear h2 h2'
    go_enter Try.func40, Try.ntmps40
    go_wp2_with fail
    refine (hnm _).mono ?_
    rintro e w' ⟨rfl, rfl⟩
    rw [H1.out]
    go_wp2_with fail
    refine (validN_any _ _).mono ?_
    rintro e w' ⟨rfl, rfl⟩
    rw [H2.out]
    go_wp2
    go_ret
    rw [ec.out, ← hw0]
    exact ⟨rfl, f0.out⟩
  have H2 := Lib.hid h2
  clear h2
  by_cases h3 : validN t.version = true
  case neg =>
    have h3' := eq_false_of_ne_true h3
    have ec : Hid (checkE t = 2) := Lib.hid (by unfold checkE; rw [H1.out, H2.out, h3']; rfl)
    have H3 := Lib.hid h3'
    clear h3 h3'
    go_enter Try.func40, Try.ntmps40
    go_wp2_with fail
    refine (hnm _).mono ?_
    rintro e w' ⟨rfl, rfl⟩
    rw [H1.out]
    go_wp2_with fail
    refine (validN_any _ _).mono ?_
    rintro e w' ⟨rfl, rfl⟩
    rw [H2.out]
    go_wp2_with fail
    refine (validN_any _ _).mono ?_
    rintro e w' ⟨rfl, rfl⟩
    rw [H3.out]
    go_wp2
    go_ret
    rw [ec.out, ← hw0]
    exact ⟨rfl, f0.out⟩
  have H3 := Lib.hid h3
  clear h3
  by_cases h4 : 16 < t.types.length ∨ 16 < t.faults.length ∨ 16 < t.procs.length
  · have ec : Hid (checkE t = 7) := Lib.hid (by unfold checkE; rw [H1.out, H2.out, H3.out, if_pos h4]; rfl)
    have three : (16 : Int) < (t.types.length : Int) ∨ ¬ (16 : Int) < (t.types.length : Int) ∧ (16 : Int) < (t.faults.length : Int) ∨ ¬ (16 : Int) < (t.types.length : Int) ∧ ¬ (16 : Int) < (t.faults.length : Int) ∧ (16 : Int) < (t.procs.length : Int) := by omega
    clear h4
    rcases three with a1 | ⟨a1, a2⟩ | ⟨a1, a2, a3⟩ <;>
    (go_enter Try.func40, Try.ntmps40
     go_wp2_with fail
     refine (hnm _).mono ?_
     rintro e w' ⟨rfl, rfl⟩
     rw [H1.out]
     go_wp2_with fail
     refine (validN_any _ _).mono ?_
     rintro e w' ⟨rfl, rfl⟩
     rw [H2.out]
     go_wp2_with fail
     refine (validN_any _ _).mono ?_
     rintro e w' ⟨rfl, rfl⟩
     rw [H3.out]
     go_wp2
     go_ret
     rw [ec.out, ← hw0]
     exact ⟨rfl, f0.out⟩)
  have a1 : ¬ (16 : Int) < (t.types.length : Int) := by omega
  have a2 : ¬ (16 : Int) < (t.faults.length : Int) := by omega
  have a3 : ¬ (16 : Int) < (t.procs.length : Int) := by omega
  have ec : Hid (checkE t = if firstE (aliasE t.types) t.types.length ≠ 0 then firstE (aliasE t.types) t.types.length
    else if firstE (faultE (t.types.map (·.1)) t.faults) t.faults.length ≠ 0 then firstE (faultE (t.types.map (·.1)) t.faults) t.faults.length
    else firstE (procE (t.types.map (·.1) ++ t.faults.map (·.1)) t.types t.procs) t.procs.length) := Lib.hid (by rw [checkE, H1.out, H2.out, H3.out, if_neg h4]; rfl)
  clear h4
  obtain ⟨E1, hE1⟩ : ∃ E, E = firstE (aliasE t.types) t.types.length := ⟨_, rfl⟩
  obtain ⟨E2, hE2⟩ : ∃ E, E = firstE (faultE (t.types.map (·.1)) t.faults) t.faults.length := ⟨_, rfl⟩
  obtain ⟨E3, hE3⟩ : ∃ E, E = firstE (procE (t.types.map (·.1) ++ t.faults.map (·.1)) t.types t.procs) t.procs.length := ⟨_, rfl⟩
  have HE := Lib.hid (And.intro hE1 (And.intro hE2 hE3))
  rw [← hE1, ← hE2, ← hE3] at ec
  clear hE1 hE2 hE3
  go_enter Try.func40, Try.ntmps40
  go_wp2_with fail
  refine (hnm _).mono ?_
  rintro e w' ⟨rfl, rfl⟩
  rw [H1.out]
  go_wp2_with fail
  refine (validN_any _ _).mono ?_
  rintro e w' ⟨rfl, rfl⟩
  rw [H2.out]
  go_wp2_with fail
  refine (validN_any _ _).mono ?_
  rintro e w' ⟨rfl, rfl⟩
  rw [H3.out]
  rw [← hw0]
  clear hw0
  go_wp2_with fail
  refine (naming_any _).mono ?_
  rintro e w1 ⟨rfl, f1, N1⟩
  have lt1 : w0.heap.size < w1.heap.size := by
    obtain ⟨⟨_, h, _⟩, _⟩ := N1
    exact lt_of_block h
  have q1 := box_kept Q0.out f1 (fun h => h)
  have c0 := cells_row q1 0 _ rfl
  have c1 := cells_row q1 1 _ rfl
  have c2 := cells_row q1 2 _ rfl
  have c3 := cells_row q1 3 _ rfl
  have c4 := cells_row q1 4 _ rfl
  have c5 := cells_row q1 5 _ rfl
  have hct := checkTypes_any (fun k => R k ∧ k < w.heap.size) t _ w0.heap.size w1 (HT.out.fr (f0.out.trans f1 (fun _ _ h => h)) (fun _ _ h => h)) (fun k hk => by have := s0.out; omega) lt1 N1
  rw [← HE.out.1] at hct
  have Q1 := Lib.hid (And.intro q1 f1)
  clear q1 f1 N1
  unfold namer at *
  go_wp2_with fail
  refine hct.mono ?_
  rintro e w2 ⟨rfl, f2, N2⟩
  have F2 := Lib.hid f2
  have HN2 := Lib.hid N2
  clear f2 N2 hct c0 c1 c2 c3 c4 c5
  by_cases h5 : E1 = 0
  case neg =>
    have h5' : ¬ (E1 : Int) = 0 := by omega
    go_wp2
    go_ret
    rw [ec.out, if_pos h5]
    exact ⟨rfl, (f0.out.trans Q1.out.2 (fun _ _ h => h)).trans F2.out (fun i hi h => by have := s0.out; omega)⟩
  subst h5
  have q2 := box_kept Q1.out.1 F2.out (by have := s0.out; omega)
  have c0 := cells_row q2 0 _ rfl
  have c1 := cells_row q2 1 _ rfl
  have c2 := cells_row q2 2 _ rfl
  have c3 := cells_row q2 3 _ rfl
  have c4 := cells_row q2 4 _ rfl
  have c5 := cells_row q2 5 _ rfl
  have lt2 : w0.heap.size < w2.heap.size := Nat.lt_of_lt_of_le lt1 F2.out.size
  have f02 : Fr (fun _ => False) w w2 := (f0.out.trans Q1.out.2 (fun _ _ h => h)).trans F2.out (fun i hi h => by have := s0.out; omega)
  have hcf := checkFaults_any (fun k => R k ∧ k < w.heap.size) t (t.types.map (·.1)) _ w0.heap.size w2 (by simp; omega) (HT.out.fr f02 (fun _ _ h => h)) (fun k hk => by have := s0.out; omega) lt2 (HN2.out (by first | trivial | rfl))
  rw [← HE.out.2.1] at hcf
  have Q2 := Lib.hid (And.intro q2 f02)
  clear q2 f02
  unfold namer at hcf
  go_wp2_with fail
  refine hcf.mono ?_
  rintro e w3 ⟨rfl, f3, N3⟩
  have F3 := Lib.hid f3
  have HN3 := Lib.hid N3
  clear f3 N3 hcf c0 c1 c2 c3 c4 c5
  by_cases h6 : E2 = 0
  case neg =>
    have h6' : ¬ (E2 : Int) = 0 := by omega
    go_wp2
    go_ret
    rw [ec.out, if_neg (by simp), if_pos h6]
    exact ⟨rfl, Q2.out.2.trans F3.out (fun i hi h => by have := s0.out; omega)⟩
  subst h6
  have q3 := box_kept Q2.out.1 F3.out (by have := s0.out; omega)
  have c0 := cells_row q3 0 _ rfl
  have c1 := cells_row q3 1 _ rfl
  have c2 := cells_row q3 2 _ rfl
  have c3 := cells_row q3 3 _ rfl
  have c4 := cells_row q3 4 _ rfl
  have c5 := cells_row q3 5 _ rfl
  have lt3 : w0.heap.size < w3.heap.size := Nat.lt_of_lt_of_le lt2 F3.out.size
  have f03 : Fr (fun _ => False) w w3 := Q2.out.2.trans F3.out (fun i hi h => by have := s0.out; omega)
  have hcp := checkProcs_any (fun k => R k ∧ k < w.heap.size) t (t.types.map (·.1) ++ t.faults.map (·.1)) _ w0.heap.size w3 (by simp; omega) (HT.out.fr f03 (fun _ _ h => h)) (fun k hk => by have := s0.out; omega) lt3 (HN3.out (by first | trivial | rfl))
  rw [← HE.out.2.2] at hcp
  have F03 := Lib.hid f03
  clear q3 f03
  unfold namer at hcp
  go_wp2_with fail
  refine hcp.mono ?_
  rintro e w4 ⟨rfl, f4⟩
  have F4 := Lib.hid f4
  clear f4 hcp
  go_wp2
  go_ret
  rw [ec.out, if_neg (by simp), if_neg (by simp)]
  exact ⟨rfl, F03.out.trans F4.out (fun i hi h => by have := s0.out; omega)⟩

end Go.Proofs.Ythokfmmbiilllaa

/-
  What KindSame and KindSameDef hold besides kind.Same itself, for seats whose program lacks it.
-/
namespace Go.Proofs.Ythokfmmbiilllaa
open Go.RowKit

theorem plain_add (g j : Nat) : (⟨g, 0, none⟩ : Addr).add j = ⟨g, j, none⟩ := by unfold Addr.add; split <;> simp_all

/-- How many types there are in one. -/
def sz : KT → Nat
  | .nil => 1
  | .mk _ _ _ n of => 1 + ((List.range n).map fun i => sz (of i)).sum

theorem sz_pos (t : KT) : 1 ≤ sz t := by cases t <;> simp [sz]

theorem heap_alloc_first (w : World) (o o' : Obj) : ((w.alloc o).alloc o').heap[w.heap.size]? = some o := by
  rw [Below.heap_alloc _ _ _ (by simp)]; exact heap_alloc_new w o

theorem opWp_append {P : Program} {w : World} {o : Oper} {a : Act} {K : Act → World → Prop} {Q : Exit → Act → World → Prop} (s x : Operand) (t u : TypeId)
    (ho : o.op = .call { callee := .builtin .append, args := #[s, x], argTypes := #[t, u] })
    (base : Nat) (e : TypeId) (i : TypeInfo) (z : Value) (size bytes : Nat) (ht : P.underlying t = some (.slice e)) (du : TypeDesc) (hu : P.underlying u = some du) (hud : du = .string ∨ ∃ e', du = .slice e')
    (hi : P.info? e = some i) (hz : i.zero = some z)
    (hsize : i.size = size) (hby : i.bytes = bytes) (hzs : z.cells.size = size) (hsz : 0 < size)
    (v : Value) (n : Nat) (xs : List Value) (hs : a.eval s = v) (hown : w.ownsRow base e size v n xs)
    (xv : Value) (m : Nat) (news : List Value) (hx : a.eval x = xv) (hlen : ∀ w, (Builtin.lenOf xv).run P w = .ok m w) (hl : news.length = m * size)
    (hc : (Builtin.firstCells size m xv).run P w = .ok news.toArray w) (hc' : (Builtin.firstCells size m xv).run P w.drew = .ok news.toArray w.drew) (h1 : ∀ u ∈ news, u.oneCell' = true)
    (h63 : n + m ≤ maxLen) (hbytes : (n + m) * bytes ≤ 140737488355328) (hbase : base ≤ w.heap.size)
    (h : ∀ v' w', w'.ownsRow base e size v' (n + m) (xs ++ news) → w.grownBy w' v.ownBlock → (v'.ownBlock = v.ownBlock ∨ v'.ownBlock = some w.heap.size) → K (a.put o.dst v') w') : o.wp P a w K Q := by
  obtain ⟨v', w', hr, h2, h3, h4⟩ := run_append_sep (P := P) w base t u o.type e i z size bytes ht du hu hud hi hz hsize hby hzs hsz v n xs hown xv m news hlen hl hc hc' h1 h63 hbytes hbase
  unfold Oper.wp execOp
  simp only [ho, resolve, invoke, builtin, Sem.run_bind, Sem.run_pure, Result.andThen_ok, List.map_toArray, List.map_cons, List.map_nil, hs, hx, hr]
  exact h v' w' h2 h3 h4

theorem first_one8 {P : Program} {w : World} {g : Nat} {y0 y1 y2 y3 y4 y5 y6 y7 : Value} {t : TypeId} {fr : Nat × Nat} (c : Nat) (h : w.heap[g]? = some (.cells #[y0, y1, y2, y3, y4, y5, y6, y7] t fr)) :
    (Builtin.firstCells 8 1 (.slice (some ⟨g, 0, none⟩) 1 c)).run P w = .ok #[y0, y1, y2, y3, y4, y5, y6, y7] w := by
  have := run_firstCells_some (P := P) w 8 1 ⟨g, 0, none⟩ 1 c [y0, y1, y2, y3, y4, y5, y6, y7] rfl (by
    intro j v hj
    rw [plain_add, cell_of_row w g j _ t fr h]
    simpa using hj)
  simpa using this

/-- As pres_list, but for two places. -/
theorem pres_but {L : List (Value → World → Prop)} {w w' : World} (k k' : Nat) {j : Nat} (hj : j ≠ k) (hj' : j ≠ k') (h : ∀ p ∈ (L.set k (fun _ _ => True)).set k' (fun _ _ => True), ∀ u, p u w → p u w') : ∀ (u : Value), L.getD j (fun _ _ => True) u w → L.getD j (fun _ _ => True) u w' := by
  intro u hu
  have e : L.getD j (fun _ _ => True) = ((L.set k (fun _ _ => True)).set k' (fun _ _ => True)).getD j (fun _ _ => True) := by
    rw [List.getD_eq_getElem?_getD, List.getD_eq_getElem?_getD, List.getElem?_set_ne (Ne.symm hj'), List.getElem?_set_ne (Ne.symm hj)]
  rw [e] at hu ⊢
  exact pres_list h j u hu

/-- The parts of a type, in memory. -/
def Kids (R : Nat → Prop) (w : World) (of : Nat → KT) (a' : Option Addr) (n c' : Nat) : Prop :=
  n = 0 ∨ n ≤ c' ∧ ∃ g off, R g ∧ a' = some ⟨g, off, none⟩ ∧ ∀ i, i < n → ∃ x0 x1 x2 x3,
      w.cell? ⟨g, off + i * 4, none⟩ = some x0 ∧ w.cell? ⟨g, off + i * 4 + 1, none⟩ = some x1 ∧ w.cell? ⟨g, off + i * 4 + 2, none⟩ = some x2 ∧ w.cell? ⟨g, off + i * 4 + 3, none⟩ = some x3 ∧
      Shows R w (of i) (.agg #[x0, x1, x2, x3])

theorem Kids.fr {R S : Nat → Prop} {w w' : World} {of : Nat → KT} {a' : Option Addr} {n c' : Nat} (h : Kids R w of a' n c') (hf : Fr S w w') (hS : ∀ k, R k → ¬ S k) : Kids R w' of a' n c' := by
  rcases h with h | ⟨h1, g, off, hg, rfl, hc⟩
  · exact .inl h
  · refine .inr ⟨h1, g, off, hg, rfl, fun i hi => ?_⟩
    obtain ⟨x0, x1, x2, x3, c0, c1, c2, c3, hx⟩ := hc i hi
    exact ⟨x0, x1, x2, x3, cell_fr hf hS hg c0, cell_fr hf hS hg c1, cell_fr hf hS hg c2, cell_fr hf hS hg c3, Shows.fr hf hS _ _ hx⟩

/-- A type's value, opened. -/
theorem shows_open {R : Nat → Prop} {w : World} {t : KT} {x0 x1 x2 x3 : Value} (h : Shows R w t (.agg #[x0, x1, x2, x3])) :
    ∃ (k : Nat) (m : Int) (ns : List Txt) (of : Nat → KT) (a : Option Addr) (c : Nat) (a' : Option Addr) (n c' : Nat), t = .mk k m ns n of ∧ x0 = .int .u8 k ∧ x1 = .int .i64 m ∧ x2 = .slice a ns.length c ∧ x3 = .slice a' n c' ∧ Texts R w ns (.slice a ns.length c) ∧
      n ≤ 1000 ∧ Kids R w of a' n c' := by
  cases t with
  | nil => exact h.elim
  | mk k m ns n of =>
    obtain ⟨vn, vo, e, _, hn, ht, ho⟩ := h
    simp at e
    obtain ⟨rfl, rfl, rfl, rfl⟩ := e
    obtain ⟨a, c, rfl, _⟩ := ht.shape
    rcases ho with ⟨rfl, a', c', rfl⟩ | ⟨g, off, cap, hg, rfl, hle, hc⟩
    · exact ⟨k, m, ns, of, a, c, a', 0, c', rfl, rfl, rfl, rfl, rfl, ht, hn, .inl rfl⟩
    · exact ⟨k, m, ns, of, a, c, _, n, cap, rfl, rfl, rfl, rfl, rfl, ht, hn, .inr ⟨hle, g, off, hg, rfl, hc⟩⟩


end Go.Proofs.Ythokfmmbiilllaa

/-
  The laws' nodes as plain trees; a node's value in memory; is it small?
-/
namespace Go.Proofs.Ythokfmmbiilllaa
open Go.RowKit

/-- A node: its two numbers, how many it has below it, and which ('nil' stands for those that there aren't). -/
inductive KN where
  | nil
  | mk (k n : Nat) (c : Nat) (of : Nat → KN)

/-- The value v shows the node t. -/
def NShows (w : World) : KN → Value → Prop
  | .nil, _ => False
  | .mk k n c of, v => ∃ vo, v = .agg #[.int .u8 k, .int .u8 n, vo] ∧ k ≤ 255 ∧ n ≤ 255 ∧ c ≤ maxLen ∧
    ((c = 0 ∧ ∃ a cap, vo = .slice a 0 cap) ∨
     ∃ g off cap, vo = .slice (some ⟨g, off, none⟩) c cap ∧ c ≤ cap ∧ ∀ i, i < c → ∃ x0 x1 x2,
      w.cell? ⟨g, off + i * 3, none⟩ = some x0 ∧ w.cell? ⟨g, off + i * 3 + 1, none⟩ = some x1 ∧ w.cell? ⟨g, off + i * 3 + 2, none⟩ = some x2 ∧ NShows w (of i) (.agg #[x0, x1, x2]))

theorem NShows.fr {w w' : World} (hf : Fr (fun _ => False) w w') (t : KN) : ∀ v, NShows w t v → NShows w' t v := by
  induction t with
  | nil => exact fun _ h => h.elim
  | mk k n c of ih =>
    rintro v ⟨vo, rfl, hk, hn, hc, ho⟩
    refine ⟨vo, rfl, hk, hn, hc, ?_⟩
    rcases ho with h | ⟨g, off, cap, rfl, hle, hcell⟩
    · exact .inl h
    · refine .inr ⟨g, off, cap, rfl, hle, fun i hi => ?_⟩
      obtain ⟨x0, x1, x2, c0, c1, c2, hx⟩ := hcell i hi
      exact ⟨x0, x1, x2, cell_fr (R := fun _ => True) hf (fun _ _ h => h) trivial c0, cell_fr (R := fun _ => True) hf (fun _ _ h => h) trivial c1, cell_fr (R := fun _ => True) hf (fun _ _ h => h) trivial c2, ih i _ hx⟩

theorem NShows.cells {w : World} {t : KN} {v : Value} (h : NShows w t v) : ∃ (k n : Nat) (a : Option Addr) (c cap : Nat), v = .agg #[.int .u8 k, .int .u8 n, .slice a c cap] := by
  cases t with
  | nil => exact h.elim
  | mk k n c of =>
    obtain ⟨vo, rfl, _, _, _, ⟨_, a, cap, rfl⟩ | ⟨g, off, cap, rfl, _⟩⟩ := h
    · exact ⟨k, n, a, 0, cap, rfl⟩
    · exact ⟨k, n, _, c, cap, rfl⟩

/-- Is it small? -/
def lightE : KN → Nat → Bool
  | .nil, _ => true
  | .mk _ _ c of, d => (List.range c).all (fun i => decide (1 ≤ d) && lightE (of i) (d - 1)) && decide (c ≤ 3)

set_option maxRecDepth 100000 in
set_option maxHeartbeats 16000000 in
theorem light_any (t : KN) : ∀ (v : Value) (w : World) (d : Nat) (dz : Int), dz = d → d ≤ 100 → NShows w t v →
    Calls Try.prog 5 #[v, .int .i64 dz] w fun e w' => e = .returned (.bool (lightE t d)) ∧ Fr (fun _ => False) w w' := by
  induction t with
  | nil => exact fun _ _ _ _ _ _ h => h.elim
  | mk k n c of ih =>
  intro v w d dz hdz hd hsh
  obtain ⟨vo, rfl, hk, hn, hc, ho⟩ := hsh
  obtain ⟨a, cap, rfl, hs⟩ : ∃ a cap, vo = .slice a c cap ∧ (c = 0 ∨ c ≤ cap ∧ ∃ g off, a = some ⟨g, off, none⟩ ∧ ∀ i, i < c → ∃ x0 x1 x2,
      w.cell? ⟨g, off + i * 3, none⟩ = some x0 ∧ w.cell? ⟨g, off + i * 3 + 1, none⟩ = some x1 ∧ w.cell? ⟨g, off + i * 3 + 2, none⟩ = some x2 ∧ NShows w (of i) (.agg #[x0, x1, x2])) := by
    rcases ho with ⟨rfl, a, cap, rfl⟩ | ⟨g, off, cap, rfl, hle, hcell⟩
    · exact ⟨a, cap, rfl, .inl rfl⟩
    · exact ⟨_, cap, rfl, .inr ⟨hle, g, off, rfl, hcell⟩⟩
  have Hs := Lib.hid hs
  have Hdz := Lib.hid hdz
  unfold maxLen at hc
  have hd0 : 0 ≤ dz := by omega
  have hd1 : dz ≤ 100 := by omega
  clear ho hs hdz
  obtain ⟨w0, hw0⟩ : ∃ w0, w0 = w.alloc (.cells #[.int .u8 k, .int .u8 n, .slice a c cap] 24) := ⟨_, rfl⟩
  have f0 : Hid (Fr (fun _ => False) w w0) := Lib.hid (by rw [hw0]; exact (Fr.refl _ _).alloc _)
  have q0 : Hid (w0.heap[w.heap.size]? = some (.cells #[.int .u8 k, .int .u8 n, .slice a c cap] 24 (0, 0))) := Lib.hid (by rw [hw0]; exact heap_alloc_new _ _)
  go_enter Try.func5, Try.ntmps5
  go_wp2
  rw [← hw0]
  clear hw0
  go_loopg [6, 10] c (fun G u6 u10 wr => ∃ j : Nat, j ≤ c ∧ G = c - j ∧ u10 = .int .i64 j ∧ Hid (Fr (fun _ => False) w wr ∧ (wr.heap[w.heap.size]? = some (.cells #[.int .u8 k, .int .u8 n, .slice a c cap] 24 (0, 0))) ∧ ∀ i, i < j → (decide (1 ≤ d) && lightE (of i) (d - 1)) = true))
  case atStart => exact ⟨0, Nat.zero_le _, rfl, by go_num, Lib.hid ⟨f0.out, q0.out, fun i hi => by omega⟩⟩
  case round =>
    obtain ⟨j, hj, rfl, rfl, HI⟩ := hrel
    by_cases hlt : j < c
    · rcases Hs.out with hz | ⟨hcap, g, off, rfl, hcell⟩
      · omega
      obtain ⟨x0, x1, x2, y0, y1, y2, hx⟩ := hcell j hlt
      have y0 := cell_fr (R := fun _ => True) HI.out.1 (fun _ _ h => h) trivial y0
      have y1 := cell_fr (R := fun _ => True) HI.out.1 (fun _ _ h => h) trivial y1
      have y2 := cell_fr (R := fun _ => True) HI.out.1 (fun _ _ h => h) trivial y2
      obtain ⟨pk, pn, pa, pc, pcap, e⟩ := hx.cells
      simp at e
      obtain ⟨rfl, rfl, rfl⟩ := e
      have HFalse := Lib.hid (show (decide (1 ≤ d) && lightE (of j) (d - 1)) = false → lightE (.mk k n c of) d = false from fun h => by
        unfold lightE
        have : (List.range c).all (fun i => decide (1 ≤ d) && lightE (of i) (d - 1)) = false := by
          rw [List.all_eq_false]
          exact ⟨j, List.mem_range.2 hlt, by simpa using h⟩
        rw [this]; rfl)
      by_cases hd2 : d = 0
      · have b1 : dz < 1 := by have := Hdz.out; omega
        have E := Lib.hid (HFalse.out (by rw [hd2]; rfl))
        clear hcell hx hd2
        go_wp2
        go_ret
        rw [E.out]
        exact ⟨rfl, HI.out.1.alloc _⟩
      · have b1 : ¬ dz < 1 := by have := Hdz.out; omega
        have fb : Fr (fun _ => False) w (wr.alloc (.cells #[.int .u8 pk, .int .u8 pn, .slice pa pc pcap] 24)) := HI.out.1.alloc _
        have hrec := ih j _ _ (d - 1) (dz - 1) (by have := Hdz.out; omega) (by omega) (NShows.fr fb _ _ hx)
        have FB := Lib.hid fb
        have HD := Lib.hid (show 1 ≤ d by omega)
        clear hcell hx fb hd2
        cases hB : lightE (of j) (d - 1) with
        | true =>
          rw [hB] at hrec
          have HB := Lib.hid hB
          clear hB
          go_wp2_with fail
          refine hrec.mono ?_
          rintro e w5 ⟨rfl, f5⟩
          have F5 := Lib.hid f5
          clear f5 hrec
          go_wp2
          go_roundg (c - (j + 1))
          case measure => omega
          case rel => exact ⟨j + 1, by omega, rfl, by go_num, Lib.hid ⟨FB.out.trans F5.out (fun _ _ h => h), box_kept (box_kept HI.out.2.1 ((Fr.refl (fun _ => False) _).alloc _) (fun h => h)) F5.out (fun h => h), fun i hi => by
            by_cases h : i < j
            · exact HI.out.2.2 i h
            · obtain rfl : i = j := by omega
              rw [HB.out, decide_eq_true HD.out]; rfl⟩⟩
        | false =>
          rw [hB] at hrec
          have E := Lib.hid (HFalse.out (by rw [hB]; simp))
          clear hB
          go_wp2_with fail
          refine hrec.mono ?_
          rintro e w5 ⟨rfl, f5⟩
          have F5 := Lib.hid f5
          clear f5 hrec
          go_wp2
          go_ret
          rw [E.out]
          exact ⟨rfl, FB.out.trans F5.out (fun _ _ h => h)⟩
    · obtain rfl : j = c := by omega
      have y2 := cells_row HI.out.2.1 2 _ rfl
      have E : Hid (lightE (.mk k n j of) d = decide ((j : Int) ≤ 3)) := Lib.hid (by
        unfold lightE
        rw [List.all_eq_true.2 (fun i hi => HI.out.2.2 i (List.mem_range.1 hi)), Bool.true_and, Bool.eq_iff_iff]
        simp
        omega)
      go_wp2
      go_ret
      rw [E.out]
      exact ⟨rfl, HI.out.1⟩

end Go.Proofs.Ythokfmmbiilllaa

/-
  The laws' names.
-/
namespace Go.Proofs.Ythokfmmbiilllaa
open Go.RowKit

/-- The name of number i, by a small number. -/
def nameT (i : Nat) (n : Int) : Txt := [UInt8.ofNat (97 + i), UInt8.ofNat (65 + n % 26).toNat, 48]

set_option maxRecDepth 100000 in
set_option maxHeartbeats 4000000 in
theorem nameOf_any (i : Nat) (hi : i ≤ 3) (n : Int) (h0 : 0 ≤ n) (h1 : n ≤ 255) (w : World) :
    Calls Try.prog 26 #[.int .i64 i, .int .u8 n] w fun e w' => e = .returned (sv (nameT i n)) ∧ Fr (fun _ => False) w w' := by
  have hconv : ∀ c0 : Int, 0 ≤ c0 → c0 ≤ 255 → (convert 91 9 (.slice (some ⟨w.heap.size, 0, none⟩) 3 3)).run Try.prog (w.alloc (.cells #[.int .u8 c0, .int .u8 (65 + n % 26), .int .u8 48] 5)) = .ok (.string ⟨[UInt8.ofNat c0.toNat, UInt8.ofNat (65 + n % 26).toNat, 48].toArray⟩) (w.alloc (.cells #[.int .u8 c0, .int .u8 (65 + n % 26), .int .u8 48] 5)) := by
    intro c0 a0 a1
    have e0 := bv_of c0 a0 a1
    have e1 := bv_of (65 + n % 26) (by omega) (by omega)
    refine Sees.string (P := Try.prog) (sees_new w.heap.size (heap_alloc_new w _) (c := 3) (l := [UInt8.ofNat c0.toNat, UInt8.ofNat (65 + n % 26).toNat, 48]) (fun j hj => ?_) (by simp)) 91 5 9 Try.underlying91 Try.underlying5 Try.underlying9
    simp at hj
    rcases (by omega : j = 0 ∨ j = 1 ∨ j = 2) with rfl | rfl | rfl
    · simp [← e0]
    · simp [← e1]
    · rfl
  have q0 := hconv 97 (by omega) (by omega)
  have q1 := hconv 98 (by omega) (by omega)
  have q2 := hconv 99 (by omega) (by omega)
  have q3 := hconv 100 (by omega) (by omega)
  clear hconv
  rcases (by omega : i = 0 ∨ i = 1 ∨ i = 2 ∨ i = 3) with rfl | rfl | rfl | rfl <;>
  (go_enter Try.func26, Try.ntmps26
   go_wp2
   go_ret
   exact ⟨rfl, (Fr.refl _ _).alloc _⟩)

end Go.Proofs.Ythokfmmbiilllaa

/-
  The laws' argument as plain data; its value in memory; is it small?
-/
namespace Go.Proofs.Ythokfmmbiilllaa
open Go.RowKit

structure KSP where
  takes : KN
  answers : KN
  collate : Nat
  timeout : Nat

structure KS where
  number : Nat
  aliases : List KN
  faults : Nat
  procs : List KSP

/-- The slice v shows these nodes. -/
def Nodes (w : World) (l : List KN) (v : Value) : Prop :=
  l.length ≤ maxLen ∧
  ((l = [] ∧ ∃ a c, v = .slice a 0 c) ∨
   ∃ g off cap, v = .slice (some ⟨g, off, none⟩) l.length cap ∧ l.length ≤ cap ∧ ∀ i x, l[i]? = some x → ∃ x0 x1 x2,
      w.cell? ⟨g, off + i * 3, none⟩ = some x0 ∧ w.cell? ⟨g, off + i * 3 + 1, none⟩ = some x1 ∧ w.cell? ⟨g, off + i * 3 + 2, none⟩ = some x2 ∧ NShows w x (.agg #[x0, x1, x2]))

/-- The slice v shows these procedures. -/
def SProcs (w : World) (l : List KSP) (v : Value) : Prop :=
  l.length ≤ maxLen ∧ (∀ p ∈ l, p.collate ≤ 255 ∧ p.timeout ≤ 65535) ∧
  ((l = [] ∧ ∃ a c, v = .slice a 0 c) ∨
   ∃ g off cap, v = .slice (some ⟨g, off, none⟩) l.length cap ∧ l.length ≤ cap ∧ ∀ i p, l[i]? = some p → ∃ x0 x1 x2 y0 y1 y2,
      (∀ j u, [x0, x1, x2, y0, y1, y2, .int .u8 p.collate, .int .u16 p.timeout][j]? = some u → w.cell? ⟨g, off + i * 8 + j, none⟩ = some u) ∧
      NShows w p.takes (.agg #[x0, x1, x2]) ∧ NShows w p.answers (.agg #[y0, y1, y2]))

/-- The value v shows the argument s. -/
def SShows (w : World) (s : KS) (v : Value) : Prop :=
  ∃ av pv, v = .agg #[.int .u16 s.number, av, .int .u8 s.faults, pv] ∧ s.number ≤ 65535 ∧ s.faults ≤ 255 ∧ Nodes w s.aliases av ∧ SProcs w s.procs pv

theorem Nodes.fr {w w' : World} {l : List KN} {v : Value} (h : Nodes w l v) (hf : Fr (fun _ => False) w w') : Nodes w' l v := by
  obtain ⟨h1, h2 | ⟨g, off, cap, rfl, hle, hc⟩⟩ := h
  · exact ⟨h1, .inl h2⟩
  · refine ⟨h1, .inr ⟨g, off, cap, rfl, hle, fun i x hi => ?_⟩⟩
    obtain ⟨x0, x1, x2, c0, c1, c2, hx⟩ := hc i x hi
    exact ⟨x0, x1, x2, cell_fr (R := fun _ => True) hf (fun _ _ h => h) trivial c0, cell_fr (R := fun _ => True) hf (fun _ _ h => h) trivial c1, cell_fr (R := fun _ => True) hf (fun _ _ h => h) trivial c2, NShows.fr hf _ _ hx⟩

theorem SProcs.fr {w w' : World} {l : List KSP} {v : Value} (h : SProcs w l v) (hf : Fr (fun _ => False) w w') : SProcs w' l v := by
  obtain ⟨h0, h1, h2 | ⟨g, off, cap, rfl, hle, hc⟩⟩ := h
  · exact ⟨h0, h1, .inl h2⟩
  · refine ⟨h0, h1, .inr ⟨g, off, cap, rfl, hle, fun i x hi => ?_⟩⟩
    obtain ⟨x0, x1, x2, y0, y1, y2, c, hx, hy⟩ := hc i x hi
    exact ⟨x0, x1, x2, y0, y1, y2, fun j u hj => cell_fr (R := fun _ => True) hf (fun _ _ h => h) trivial (c j u hj), NShows.fr hf _ _ hx, NShows.fr hf _ _ hy⟩

theorem SShows.fr {w w' : World} {s : KS} {v : Value} (h : SShows w s v) (hf : Fr (fun _ => False) w w') : SShows w' s v := by
  obtain ⟨av, pv, e, h1, h2, h3, h4⟩ := h
  exact ⟨av, pv, e, h1, h2, h3.fr hf, h4.fr hf⟩

theorem Nodes.shape {w : World} {l : List KN} {v : Value} (h : Nodes w l v) : ∃ a c, v = .slice a l.length c ∧ (l.length = 0 ∨ l.length ≤ c ∧ ∃ g off, a = some ⟨g, off, none⟩ ∧ ∀ i x, l[i]? = some x → ∃ x0 x1 x2,
      w.cell? ⟨g, off + i * 3, none⟩ = some x0 ∧ w.cell? ⟨g, off + i * 3 + 1, none⟩ = some x1 ∧ w.cell? ⟨g, off + i * 3 + 2, none⟩ = some x2 ∧ NShows w x (.agg #[x0, x1, x2])) := by
  obtain ⟨h1, ⟨rfl, a, c, rfl⟩ | ⟨g, off, cap, rfl, hle, hc⟩⟩ := h
  · exact ⟨a, c, rfl, .inl rfl⟩
  · exact ⟨_, cap, rfl, .inr ⟨hle, g, off, rfl, hc⟩⟩

theorem SProcs.shape {w : World} {l : List KSP} {v : Value} (h : SProcs w l v) : ∃ a c, v = .slice a l.length c ∧ (l.length = 0 ∨ l.length ≤ c ∧ ∃ g off, a = some ⟨g, off, none⟩ ∧ ∀ i p, l[i]? = some p → ∃ x0 x1 x2 y0 y1 y2,
      (∀ j u, [x0, x1, x2, y0, y1, y2, .int .u8 p.collate, .int .u16 p.timeout][j]? = some u → w.cell? ⟨g, off + i * 8 + j, none⟩ = some u) ∧
      NShows w p.takes (.agg #[x0, x1, x2]) ∧ NShows w p.answers (.agg #[y0, y1, y2])) := by
  obtain ⟨h0, h1, ⟨rfl, a, c, rfl⟩ | ⟨g, off, cap, rfl, hle, hc⟩⟩ := h
  · exact ⟨a, c, rfl, .inl rfl⟩
  · exact ⟨_, cap, rfl, .inr ⟨hle, g, off, rfl, hc⟩⟩

/-- Is it small? -/
def smallE (s : KS) : Bool := s.aliases.all (fun a => lightE a 3) && s.procs.all (fun p => lightE p.takes 3 && lightE p.answers 3) && decide (s.aliases.length ≤ 10) && decide (s.procs.length ≤ 10)

theorem all_take {α : Type} (f : α → Bool) (l : List α) (h : ∀ (i : Nat) (x : α), l[i]? = some x → f x = true) : l.all f = true := by
  rw [List.all_eq_true]
  intro x hx
  obtain ⟨i, hi, rfl⟩ := List.getElem_of_mem hx
  exact h i _ (List.getElem?_eq_getElem hi)

theorem all_not {α : Type} (f : α → Bool) (l : List α) (i : Nat) (x : α) (hx : l[i]? = some x) (h : f x = false) : l.all f = false := by
  rw [List.all_eq_false]
  exact ⟨x, List.mem_of_getElem? hx, by simpa using h⟩

end Go.Proofs.Ythokfmmbiilllaa

/-
  The laws' argument opened: whatever is handed in is plain data.
-/
namespace Go.Proofs.Ythokfmmbiilllaa
open Go.ChangeShapes Go.WideShapes Go.ChangeAt Go.RowKit

theorem cellsOf_node : Try.prog.cellsOf 24 = 3 := by kernel_rfl
theorem cellsOf_nodes : Try.prog.cellsOf 22 = 1 := by kernel_rfl
theorem cellsOf_byte : Try.prog.cellsOf 5 = 1 := by kernel_rfl
theorem spot_none {w : World} {a : Addr} {m : Nat} {cs : List Value} (h : w.cells? 0 a m = some cs) (hm : 0 < m) : a.spot = none := by
  obtain ⟨_, hl, h1⟩ := World.cells?_some h
  have h2 := h1 0 hm
  have e0 : a.add 0 = a := by simp [Addr.add]
  obtain ⟨v, hv⟩ : ∃ v, cs[0]? = some v := ⟨_, List.getElem?_eq_getElem (by omega)⟩
  rw [e0, hv] at h2
  have := addr_plain h2
  obtain ⟨b, o, s⟩ := a
  simp at this
  exact this

theorem cell_at {w : World} {b o : Nat} {m k : Nat} {cs : List Value} (h : w.cells? 0 ((⟨b, o, none⟩ : Addr).add k) m = some cs) (i : Nat) (v : Value) (hv : cs[i]? = some v) (hi : i < m) : w.cell? ⟨b, o + k + i, none⟩ = some v := by
  have h1 := (World.cells?_some h).2.2 i hi
  rw [hv] at h1
  have e : ((⟨b, o, none⟩ : Addr).add k).add i = ⟨b, o + k + i, none⟩ := by
    unfold Addr.add
    split <;> split <;> simp_all
  rw [e] at h1
  exact h1

section
variable {H : Type} (enc : TypeId × Value → H) (w : World)

/-- A slice of whatever: each element reads by a smaller fuel. -/
theorem slice_each {t e : TypeId} {fuel m : Nat} {cs : List Value} {x : DataW H × List MemPlace} (ht : Try.prog.underlying t = some (.slice e)) (hm : Try.prog.cellsOf e = m) (h0 : 0 < m) (h : DataW.trod enc Try.prog w 0 (fun _ => true) true fuel t cs = some x) :
    (∃ a, cs = [.slice a 0 0]) ∨ ∃ a len cap n, n < fuel ∧ cs = [.slice a len cap] ∧ len ≤ cap ∧ cap ≤ maxLen ∧ (len = 0 ∨ ∃ b o, a = some ⟨b, o, none⟩ ∧ ∀ i, i < len → ∃ cs' y, DataW.trod enc Try.prog w 0 (fun _ => true) true n e cs' = some y ∧
      ∀ j v, cs'[j]? = some v → j < m → w.cell? ⟨b, o + i * m + j, none⟩ = some v) := by
  rcases DataW.trod_slice ht h with ⟨rfl, _⟩ | ⟨a, len, cap, elems, rest, n, rfl, rfl, _, hb, hl, hc, hlen, hel, _, _⟩
  · exact .inl ⟨_, rfl⟩
  · refine .inr ⟨some a, len, cap, n, by omega, rfl, hl, hc, ?_⟩
    by_cases hz : len = 0
    · exact .inl hz
    right
    have each : ∀ i, i < len → ∃ cs' y, w.cells? 0 (a.add (i * m)) m = some cs' ∧ DataW.trod enc Try.prog w 0 (fun _ => true) true n e cs' = some y := by
      intro i hi
      have h1 := hel i hi
      rw [List.getElem?_eq_getElem (by omega), hm] at h1
      obtain ⟨cs', h2, h3⟩ := Option.bind_eq_some_iff.1 h1
      exact ⟨cs', _, h2, h3⟩
    obtain ⟨b, o, s⟩ := a
    obtain ⟨cs0, _, hc0, _⟩ := each 0 (by omega)
    have e0 : ((⟨b, o, s⟩ : Addr).add (0 * m)) = ⟨b, o, s⟩ := by simp [Addr.add]
    rw [e0] at hc0
    have hs := spot_none hc0 h0
    simp at hs
    subst hs
    refine ⟨b, o, rfl, fun i hi => ?_⟩
    obtain ⟨cs', y, h2, h3⟩ := each i hi
    exact ⟨cs', y, h3, fun j v hv hj => cell_at h2 j v hv hj⟩

theorem byte_reads {fuel : Nat} {cs : List Value} {x : DataW H × List MemPlace} (h : DataW.trod enc Try.prog w 0 (fun _ => true) true fuel 5 cs = some x) : ∃ k : Nat, k ≤ 255 ∧ cs = [.int .u8 k] := by
  obtain ⟨n, rfl, _, hw⟩ := DataW.trod_int Try.underlying5 h
  have := bounds_u8 hw
  exact ⟨n.toNat, by omega, by rw [Int.toNat_of_nonneg this.1]⟩

set_option maxRecDepth 100000 in
theorem node_shows : ∀ (fuel : Nat) (cs : List Value) (x : DataW H × List MemPlace), DataW.trod enc Try.prog w 0 (fun _ => true) true fuel 24 cs = some x →
    ∃ t c0 c1 c2, cs = [c0, c1, c2] ∧ NShows w t (.agg #[c0, c1, c2]) := by
  intro fuel
  induction fuel using Nat.strongRecOn with
  | _ fuel ih =>
  intro cs x h
  obtain ⟨xs, n, rfl, rfl, hl, hlen, hf⟩ := DataW.trod_struct Try.underlying24 h
  rw [cellsOf_node] at hl
  match cs, hl with
  | [c0, c1, c2], _ =>
  have f0 : DataW.trod enc Try.prog w 0 (fun _ => true) true n 5 (List.take (Try.prog.cellsOf 5) (List.drop 0 [c0, c1, c2])) = xs[0]? := hf 0 _ rfl
  have f1 : DataW.trod enc Try.prog w 0 (fun _ => true) true n 5 (List.take (Try.prog.cellsOf 5) (List.drop 1 [c0, c1, c2])) = xs[1]? := hf 1 _ rfl
  have f2 : DataW.trod enc Try.prog w 0 (fun _ => true) true n 22 (List.take (Try.prog.cellsOf 22) (List.drop 2 [c0, c1, c2])) = xs[2]? := hf 2 _ rfl
  have hl3 : xs.length = 3 := hlen
  rw [List.getElem?_eq_getElem (by omega)] at f0 f1 f2
  simp only [cellsOf_byte, cellsOf_nodes, List.drop_zero, List.drop_succ_cons, List.take_succ_cons, List.take_zero] at f0 f1 f2
  obtain ⟨k, hk, e⟩ := byte_reads enc w f0
  simp at e
  subst e
  obtain ⟨m, hm, e⟩ := byte_reads enc w f1
  simp at e
  subst e
  rcases slice_each enc w Try.underlying22 cellsOf_node (by omega) f2 with ⟨a, e⟩ | ⟨a, len, cap, n', hn, e, hle, hc, hz | ⟨b, o, rfl, each⟩⟩
  · simp at e
    subst e
    exact ⟨.mk k m 0 (fun _ => .nil), _, _, _, rfl, _, rfl, hk, hm, by unfold maxLen; omega, .inl ⟨rfl, _, _, rfl⟩⟩
  · simp at e
    subst e hz
    exact ⟨.mk k m 0 (fun _ => .nil), _, _, _, rfl, _, rfl, hk, hm, by unfold maxLen; omega, .inl ⟨rfl, _, _, rfl⟩⟩
  · simp at e
    subst e
    have ch : ∀ i, ∃ t, i < len → ∃ x0 x1 x2, w.cell? ⟨b, o + i * 3, none⟩ = some x0 ∧ w.cell? ⟨b, o + i * 3 + 1, none⟩ = some x1 ∧ w.cell? ⟨b, o + i * 3 + 2, none⟩ = some x2 ∧ NShows w t (.agg #[x0, x1, x2]) := by
      intro i
      by_cases hi : i < len
      · obtain ⟨cs', y, h3, hcell⟩ := each i hi
        obtain ⟨t, x0, x1, x2, rfl, ht⟩ := ih n' (by omega) cs' y h3
        exact ⟨t, fun _ => ⟨x0, x1, x2, hcell 0 _ rfl (by omega), hcell 1 _ rfl (by omega), hcell 2 _ rfl (by omega), ht⟩⟩
      · exact ⟨.nil, fun h => absurd h hi⟩
    obtain ⟨of, hof⟩ := Classical.axiomOfChoice ch
    exact ⟨.mk k m len of, _, _, _, rfl, _, rfl, hk, hm, by omega, .inr ⟨b, o, cap, rfl, hle, hof⟩⟩

set_option maxRecDepth 100000 in
theorem nodes_show {fuel : Nat} {cs : List Value} {x : DataW H × List MemPlace} (h : DataW.trod enc Try.prog w 0 (fun _ => true) true fuel 22 cs = some x) : ∃ l v, cs = [v] ∧ Nodes w l v := by
  rcases slice_each enc w Try.underlying22 cellsOf_node (by omega) h with ⟨a, rfl⟩ | ⟨a, len, cap, n', hn, rfl, hle, hc, rfl | ⟨b, o, rfl, each⟩⟩
  · exact ⟨[], _, rfl, by unfold maxLen; simp, .inl ⟨rfl, _, _, rfl⟩⟩
  · exact ⟨[], _, rfl, by unfold maxLen; simp, .inl ⟨rfl, _, _, rfl⟩⟩
  · have ch : ∀ i, ∃ t, i < len → ∃ x0 x1 x2, w.cell? ⟨b, o + i * 3, none⟩ = some x0 ∧ w.cell? ⟨b, o + i * 3 + 1, none⟩ = some x1 ∧ w.cell? ⟨b, o + i * 3 + 2, none⟩ = some x2 ∧ NShows w t (.agg #[x0, x1, x2]) := by
      intro i
      by_cases hi : i < len
      · obtain ⟨cs', y, h3, hcell⟩ := each i hi
        obtain ⟨t, x0, x1, x2, rfl, ht⟩ := node_shows enc w n' cs' y h3
        exact ⟨t, fun _ => ⟨x0, x1, x2, hcell 0 _ rfl (by omega), hcell 1 _ rfl (by omega), hcell 2 _ rfl (by omega), ht⟩⟩
      · exact ⟨.nil, fun h => absurd h hi⟩
    obtain ⟨of, hof⟩ := Classical.axiomOfChoice ch
    have el : ((List.range len).map of).length = len := by simp
    refine ⟨(List.range len).map of, _, rfl, by rw [el]; omega, .inr ⟨b, o, cap, by rw [el], by rw [el]; exact hle, fun i t hi => ?_⟩⟩
    rw [List.getElem?_map] at hi
    by_cases hlt : i < len
    · rw [List.getElem?_range hlt] at hi
      cases hi
      exact hof i hlt
    · rw [List.getElem?_eq_none (by simp; omega)] at hi
      cases hi

end
end Go.Proofs.Ythokfmmbiilllaa
