/-
  The law CacheNone, walked.
-/
import Derived.Test.YtefijimijmjahaaCacheAwake
import Derived.Test.YtefijimijmjahaaCacheArg
import Derived.Test.YtefijimijmjahaaMade
import Derived.Deep.Cut
import Derived.Deep.CutRange
import Derived.Deep.CutBlock
namespace Go.Proofs.Ytefijimijmjahaa
open Go.RowKit
set_option maxRecDepth 100000

abbrev nRep (e r : Int) (v : Value) : Obj := Obj.cells #[.int .u16 e, .int .u16 r, v] 32 (0, 0)

theorem own_one7 (w : World) : (w.alloc (.cells #[.int .u8 7] 5 (0, 0))).ownsRow 0 5 1 (.slice (some ⟨w.heap.size, 0, none⟩) 1 1) 1 [.int .u8 7] :=
  ⟨rfl, .inr ⟨w.heap.size, 1, _, rfl, Nat.zero_le _, heap_alloc_new w _, Nat.le_refl _, by unfold maxLen; omega, rfl, rfl⟩⟩

theorem made7 {w w' : World} {v : Value} {l : List UInt8} (hown : w'.ownsRow 0 5 1 v (1 + l.length) ([.int .u8 7] ++ l.map bv)) (hg : (w.alloc (.cells #[.int .u8 7] 5 (0, 0))).grownBy w' (Value.slice (some ⟨w.heap.size, 0, none⟩) 1 1).ownBlock)
    (hv : v.ownBlock = (Value.slice (some ⟨w.heap.size, 0, none⟩) 1 1).ownBlock ∨ v.ownBlock = some (w.heap.size + 1)) : Made v (7 :: l) w w' := by
  refine ⟨?_, ((Fr.refl _ _).alloc (.cells #[.int .u8 7] 5 (0, 0))).trans (Fr.of_grown hg) (fun k hk h => by simp [Value.ownBlock] at h; omega), fun k hk => ?_⟩
  · unfold Own
    rw [List.length_cons, Nat.add_comm, List.map_cons]
    exact hown
  · rcases hv with h | h
    · rw [h] at hk; simp [Value.ownBlock] at hk; omega
    · rw [h] at hk; simp at hk; omega

theorem own_shape {w : World} {v : Value} {a : UInt8} {l : List UInt8} (h : Own w v (a :: l)) : ∃ B c, v = .slice (some ⟨B, 0, none⟩) (a :: l).length c ∧ w.cell? ⟨B, 0, none⟩ = some (bv a) ∧ (∀ k, w.frozen? ⟨B, k, none⟩ = false) ∧ B < w.heap.size := by
  obtain ⟨g, cap, rfl, _⟩ := row_shape h (by simp)
  refine ⟨g, cap, rfl, ?_, fun k => World.ownsRow.frozenAt h k, (World.ownsRow.lt h g rfl).2⟩
  have := (World.ownsRow.cells (g := g) h rfl) 0 (bv a) rfl
  simpa [Addr.add] using this

set_option maxHeartbeats 16000000 in
theorem none_law (m : Int) (x : IdN) (hx : IdOk x) (se sr : Int) (l : List UInt8) (a : Option Addr) (c : Nat) (w : World) (hs : SeesO w (.slice a l.length c) l) :
    Calls Try.prog 4 #[.int .i64 m, kv x, .agg #[.int .u16 se, .int .u16 sr, .slice a l.length c]] w fun z w' => z = .returned (.bool true) ∧ Fr (fun _ => False) w w' := by
  unfold kv at *
  obtain ⟨i0, hi, hz0, hz1, hz2⟩ := info_parts Try.infoU8
  have q := And.intro (new_two_fst w (oId x) (nRep se sr (.slice a l.length c))) (new_two w (oId x) (nRep se sr (.slice a l.length c)))
  have f0 : Fr (fun _ => False) w ((w.alloc (oId x)).alloc (nRep se sr (.slice a l.length c))) := ((Fr.refl _ _).alloc _).alloc _
  have hz : ((w.alloc (oId x)).alloc (nRep se sr (.slice a l.length c))).heap.size = w.heap.size + 2 := by simp
  go_enter Try.func4, Try.ntmps4
  go_wp2_with fail
  generalize (w.alloc (oId x)).alloc (nRep se sr (.slice a l.length c)) = w0 at *
  generalize hg : w.heap.size = g at *
  have HG := Lib.hid hg; clear hg
  refine (cacheAwake_any _).mono ?_
  rintro z w1 ⟨rfl, f1⟩
  have F1 := Lib.hid (f0.trans f1 (fun _ _ h => h))
  have q1 := And.intro (crow_kept q.1 f1 (fun h => h)) (crow_kept q.2 f1 (fun h => h))
  have hz1' := f1.size
  clear q f0 f1
  obtain ⟨c20, c21, c22⟩ := cell3 q1.2
  have Q1 := Lib.hid q1; clear q1
  by_cases hl1 : l.length ≤ 100
  case neg =>
    have hg1 : (100 : Int) < (l.length : Int) := by omega
    go_wp2_with fail
    go_ret
    exact ⟨rfl, F1.out⟩
  have hg1 : ¬ (100 : Int) < (l.length : Int) := by omega
  go_wp2_with fail
  refine (cnew_any m _).mono ?_
  rintro z w2 ⟨b, rfl, hc, f2⟩
  obtain ⟨K, hK⟩ : ∃ K, K = clampM m := ⟨_, rfl⟩
  rw [← hK] at hc
  have hK1 : 1 ≤ K := by rw [hK]; unfold clampM; omega
  have HK1 := Lib.hid hK1; clear hK1 hK
  have HC2 := Lib.hid hc; clear hc
  obtain ⟨G2, hG2⟩ : ∃ G : Nat → Prop, G = fun k => w1.heap.size ≤ k ∧ k < w2.heap.size := ⟨_, rfl⟩
  rw [← hG2] at HC2
  have HNF2 := Lib.hid (show (∀ k, k < g + 2 → ¬ G2 k) ∧ ∀ k, G2 k → k < w2.heap.size from ⟨fun k hk h => by rw [hG2] at h; omega, fun k h => by rw [hG2] at h; exact h.2⟩)
  clear hG2
  have Q2 := Lib.hid (And.intro (crow_kept Q1.out.1 f2 (fun h => h)) (crow_kept Q1.out.2 f2 (fun h => h)))
  have F2 := Lib.hid (F1.out.trans f2 (fun _ _ h => h))
  have HZ2 := Lib.hid (show g + 2 ≤ w2.heap.size from by have := f2.size; omega)
  have HSa2 := Lib.hid (hs.fr F2.out).1
  obtain ⟨d20, d21, d22⟩ := cell3 Q2.out.2
  have hlt2 : g + 1 < w2.heap.size := by have := HZ2.out; omega
  have hne2 : g + 1 ≠ w2.heap.size := by omega
  clear c20 c21 c22 f2 hz hz1'
  go_wp2_with (at_builtin; refine wpList_append_sep rfl (.tmp 25) (.tmp 27) 30 30 rfl 0 5 i0 (.int .u8 0) 1 1 Try.underlying30 _ Try.underlying30 (.inr ⟨_, rfl⟩) hi hz0 hz1 hz2 rfl (by decide) (.slice (some ⟨w2.heap.size, 0, none⟩) 1 1) 1 [.int .u8 7] rfl ?own8 _ l.length (l.map bv) rfl (lenOf_slice _ _ _) (by simp) ?c18 ?c28 (bv_one _) ?b18 ?b28 (Nat.zero_le _) ?grow8)
  case own8 => exact own_one7 w2
  case c18 => exact (HSa2.out.fr ((Fr.refl (fun _ => False) w2).alloc _) (fun _ _ h => h)).first
  case c28 => exact (HSa2.out.fr ((Fr.refl (fun _ => False) w2).alloc _) (fun _ _ h => h)).drew.first
  case b18 => unfold maxLen; omega
  case b28 => omega
  case grow8 =>
  intro v8 w3 hown hg hv
  have hmd := made7 hown hg hv
  clear hown hg hv
  have HM8 := Lib.hid hmd; clear hmd
  obtain ⟨B8, c8, rfl, _, _, hB8⟩ := own_shape HM8.out.1
  have HB8 := Lib.hid (show w2.heap.size ≤ B8 ∧ B8 < w3.heap.size from ⟨HM8.out.2.2 B8 rfl, hB8⟩)
  clear hB8 d20 d21 d22 hlt2 hne2
  go_upto_region 7 with fail
  have f34 : Fr (fun _ => False) w3 (w3.alloc (oAns 3 0 (.slice (some ⟨B8, 0, none⟩) (7 :: l).length c8))) := (Fr.refl _ _).alloc _
  have q8 := heap_alloc_new w3 (oAns 3 0 (.slice (some ⟨B8, 0, none⟩) (7 :: l).length c8))
  have hz4 : (w3.alloc (oAns 3 0 (.slice (some ⟨B8, 0, none⟩) (7 :: l).length c8))).heap.size = w3.heap.size + 1 := by simp
  generalize w3.alloc (oAns 3 0 (.slice (some ⟨B8, 0, none⟩) (7 :: l).length c8)) = w4 at *
  generalize hg8 : w3.heap.size = g8 at *
  have HG8 := Lib.hid hg8; clear hg8
  have f24 := HM8.out.2.1.trans f34 (fun _ _ h => h)
  have HC4 := Lib.hid (HC2.out.fr0 f24)
  have Q4 := Lib.hid (And.intro (crow_kept Q2.out.1 f24 (fun h => h)) (And.intro (crow_kept Q2.out.2 f24 (fun h => h)) q8))
  have O4 := Lib.hid (HM8.out.1.fr f34 (fun _ _ h => h))
  have HSa4 := Lib.hid (HSa2.out.fr f24 (fun _ _ h => h))
  have F4 := Lib.hid (F2.out.trans f24 (fun _ _ h => h))
  have HZ4 := Lib.hid (show w2.heap.size ≤ g8 ∧ w4.heap.size = g8 + 1 from ⟨by have := HM8.out.2.1.size; have := HG8.out; omega, hz4⟩)
  obtain ⟨d20, d21, d22⟩ := cell3 Q4.out.2.1
  have hlt2 : g + 1 < w4.heap.size := by have := HZ2.out; have := HZ4.out; omega
  have hne2 : g + 1 ≠ w4.heap.size := by omega
  clear q8 f34 f24 hz4 HC2 Q2 HSa2 HM8
  go_wp2_with (at_builtin; refine wpList_append_sep rfl (.tmp 30) (.tmp 32) 30 30 rfl 0 5 i0 (.int .u8 0) 1 1 Try.underlying30 _ Try.underlying30 (.inr ⟨_, rfl⟩) hi hz0 hz1 hz2 rfl (by decide) (.slice (some ⟨w4.heap.size, 0, none⟩) 1 1) 1 [.int .u8 7] rfl ?own9 _ l.length (l.map bv) rfl (lenOf_slice _ _ _) (by simp) ?c19 ?c29 (bv_one _) ?b19 ?b29 (Nat.zero_le _) ?grow9)
  case own9 => exact own_one7 w4
  case c19 => exact (HSa4.out.fr ((Fr.refl (fun _ => False) w4).alloc _) (fun _ _ h => h)).first
  case c29 => exact (HSa4.out.fr ((Fr.refl (fun _ => False) w4).alloc _) (fun _ _ h => h)).drew.first
  case b19 => unfold maxLen; omega
  case b29 => omega
  case grow9 =>
  intro v9 w5 hown hg hv
  have hmd := made7 hown hg hv
  clear hown hg hv
  have HM9 := Lib.hid hmd; clear hmd
  obtain ⟨B9, c9, rfl, _, _, hB9⟩ := own_shape HM9.out.1
  have HB9 := Lib.hid (show w4.heap.size ≤ B9 ∧ B9 < w5.heap.size from ⟨HM9.out.2.2 B9 rfl, hB9⟩)
  clear hB9 d20 d21 d22 hlt2 hne2
  go_upto_region 8 with fail
  have f56 : Fr (fun _ => False) w5 (w5.alloc (oAns 3 0 (.slice (some ⟨B9, 0, none⟩) (7 :: l).length c9))) := (Fr.refl _ _).alloc _
  have q9 := heap_alloc_new w5 (oAns 3 0 (.slice (some ⟨B9, 0, none⟩) (7 :: l).length c9))
  have hz6 : (w5.alloc (oAns 3 0 (.slice (some ⟨B9, 0, none⟩) (7 :: l).length c9))).heap.size = w5.heap.size + 1 := by simp
  generalize w5.alloc (oAns 3 0 (.slice (some ⟨B9, 0, none⟩) (7 :: l).length c9)) = w6 at *
  generalize hg9 : w5.heap.size = g9 at *
  have HG9 := Lib.hid hg9; clear hg9
  have f46 := HM9.out.2.1.trans f56 (fun _ _ h => h)
  have HC6 := Lib.hid (HC4.out.fr0 f46)
  have Q6 := Lib.hid (And.intro (crow_kept Q4.out.1 f46 (fun h => h)) (And.intro (crow_kept Q4.out.2.2 f46 (fun h => h)) q9))
  have O6 := Lib.hid (O4.out.fr f46 (fun _ _ h => h))
  have R6 := Lib.hid (HM9.out.1.fr f56 (fun _ _ h => h))
  have F6 := Lib.hid (F4.out.trans f46 (fun _ _ h => h))
  have HN := Lib.hid (show g + 2 ≤ w2.heap.size ∧ w2.heap.size ≤ B8 ∧ B8 < g8 ∧ g8 < B9 ∧ B9 < g9 ∧ w6.heap.size = g9 + 1 from by
    have h1 := HZ2.out; have h2 := HB8.out; have h3 := HZ4.out; have h4 := HB9.out; have h5 := HG9.out
    refine ⟨h1, h2.1, h2.2, by omega, by omega, hz6⟩)
  clear q9 f56 f46 hz6 HC4 Q4 HSa4 HM9 O4 HB8 HB9 HZ4
  obtain ⟨j0, j1⟩ : w6.cell? ⟨g, 0, none⟩ = some (.int .u16 x.1) ∧ w6.cell? ⟨g, 1, none⟩ = some (.int .u16 x.2) := by simp [World.cell?, Q6.out.1]
  obtain ⟨d0, d1, d2⟩ := cell3 Q6.out.2.1
  have hp := cput_any HC6.out x hx 3 0 (.slice (some ⟨B8, 0, none⟩) (7 :: l).length c8) (7 :: l) O6.out.sees (by simp; omega)
  unfold kv av at hp
  have HP := Lib.hid hp; clear hp
  go_wp2_with fail
  refine HP.out.mono ?_
  rintro z w7 ⟨rfl, G', hc, hsub, hf⟩
  have ep : putA [] x (3, 0, 7 :: l) = [(x, 3, 0, 7 :: l)] := by simp [putA]
  rw [ep] at hc
  obtain ⟨G7, hG7⟩ : ∃ G : Nat → Prop, G = fun k => G' k ∧ k < w7.heap.size := ⟨_, rfl⟩
  have hc' := hc.cap
  rw [← hG7] at hc'
  have HC7 := Lib.hid hc'
  have NG := Lib.hid (show ∀ k, (k < g + 2 ∨ (w2.heap.size ≤ k ∧ k < w6.heap.size) ∨ w7.heap.size ≤ k) → ¬ G7 k from fun k hk h => by
    rw [hG7] at h
    obtain ⟨h1, h2⟩ := h
    have hn := HN.out
    rcases hsub k h1 with h3 | h3
    · have h4 := HNF2.out.2 k h3
      rcases hk with hk | hk | hk
      · exact HNF2.out.1 k hk h3
      · omega
      · have := hf.size; omega
    · omega)
  have hnf : ∀ k, (k < g + 2 ∨ w2.heap.size ≤ k) → ¬ G2 k := fun k hk h => by
    have h4 := HNF2.out.2 k h
    rcases hk with hk | hk
    · exact HNF2.out.1 k hk h
    · omega
  have Q7 := Lib.hid (And.intro (crow_kept Q6.out.1 hf (hnf _ (by omega))) (And.intro (crow_kept Q6.out.2.1 hf (hnf _ (by have := HN.out; omega))) (crow_kept Q6.out.2.2 hf (hnf _ (by have := HN.out; omega)))))
  have O7 := Lib.hid (O6.out.fr hf (fun k hk => hnf k (by simp [Value.ownBlock] at hk; have := HN.out; omega)))
  have R7 := Lib.hid (R6.out.fr hf (fun k hk => hnf k (by simp [Value.ownBlock] at hk; have := HN.out; omega)))
  have F7 := Lib.hid (F6.out.trans hf (fun k hk h => by have := HG.out; exact hnf k (by omega) h))
  have HZ7 := Lib.hid hf.size
  clear hG7 hc hc' hsub hf hnf ep HP j0 j1 d0 d1 d2 HC6 Q6 O6 R6
  obtain ⟨d0, d1, d2⟩ := cell3 Q7.out.2.1
  obtain ⟨_, _, e7, hc7, hfz7, _⟩ := own_shape O7.out
  simp only [Value.slice.injEq, Option.some.injEq, Addr.mk.injEq] at e7
  obtain ⟨⟨rfl, -⟩, -, rfl⟩ := e7
  have hfz70 := hfz7 0
  unfold bv at hc7
  clear hfz7
  go_upto_region 10 with fail
  have f78 : Fr (fun k => k = B8) w7 (w7.setCell ⟨B8, 0, none⟩ (.int .u8 9)) := (Fr.refl (fun k => k = B8) w7).set1 0 _
  generalize w7.setCell ⟨B8, 0, none⟩ (.int .u8 9) = w8 at *
  have HC8 := Lib.hid (HC7.out.fr f78 (fun k hk e => NG.out k (by have := HN.out; omega) hk))
  have Q8 := Lib.hid (And.intro (crow_kept Q7.out.1 f78 (by have := HN.out; omega)) (And.intro (crow_kept Q7.out.2.1 f78 (by have := HN.out; omega)) (crow_kept Q7.out.2.2 f78 (by have := HN.out; omega))))
  have R8 := Lib.hid (R7.out.fr f78 (fun k hk => by simp [Value.ownBlock] at hk; have := HN.out; omega))
  have F8 := Lib.hid (F7.out.trans f78 (fun k hk h => by have := HN.out; have := HG.out; omega))
  have HZ8 := Lib.hid (show w7.heap.size ≤ w8.heap.size from f78.size)
  clear f78 HC7 Q7 R7 O7 d0 d1 d2 hc7 hfz70
  have hlk : lookA K [(x, 3, 0, 7 :: l)] x = some (3, 0, 7 :: l) := by
    have := HK1.out
    unfold lookA
    simp [show 1 - K = 0 by omega]
  have hget := cget_any HC8.out x hx
  rw [hlk] at hget
  unfold kv av at hget
  simp only [Option.getD_some, Option.isSome_some] at hget
  have HGT := Lib.hid hget; clear hget
  have HLK := Lib.hid hlk; clear hlk
  obtain ⟨j0, j1⟩ : w8.cell? ⟨g, 0, none⟩ = some (.int .u16 x.1) ∧ w8.cell? ⟨g, 1, none⟩ = some (.int .u16 x.2) := by simp [World.cell?, Q8.out.1]
  go_wp2_with fail
  refine HGT.out.mono ?_
  rintro z w9 ⟨v10, rfl, hm, _⟩
  obtain ⟨B10, c10, rfl, _, _, hB10⟩ := own_shape hm.1
  have hB10' := hm.2.2 B10 rfl
  have HM := Lib.hid hm; clear hm
  clear HGT j0 j1
  go_upto_region 11 with fail
  have f90 : Fr (fun _ => False) w9 (w9.alloc (oAns 3 0 (.slice (some ⟨B10, 0, none⟩) (7 :: l).length c10))) := (Fr.refl _ _).alloc _
  have q10 := heap_alloc_new w9 (oAns 3 0 (.slice (some ⟨B10, 0, none⟩) (7 :: l).length c10))
  generalize w9.alloc (oAns 3 0 (.slice (some ⟨B10, 0, none⟩) (7 :: l).length c10)) = w10 at *
  generalize hg10 : w9.heap.size = g10 at *
  have f80 := HM.out.2.1.trans f90 (fun _ _ h => h)
  have HC10 := Lib.hid (HC8.out.fr0 f80)
  have Q10 := Lib.hid (And.intro (crow_kept Q8.out.1 f80 (fun h => h)) (And.intro (crow_kept Q8.out.2.1 f80 (fun h => h)) (And.intro (crow_kept Q8.out.2.2 f80 (fun h => h)) q10)))
  have R10 := Lib.hid (And.intro (R8.out.fr f80 (fun _ _ h => h)) (HM.out.1.fr f90 (fun _ _ h => h)))
  have F10 := Lib.hid (F8.out.trans f80 (fun _ _ h => h))
  have HN10 := Lib.hid (show w7.heap.size ≤ B10 ∧ B10 < g10 ∧ g10 < w10.heap.size from ⟨by have := HZ8.out; omega, hB10, by have := f90.size; have := (Array.getElem?_eq_some_iff.1 q10).1; omega⟩)
  clear f90 f80 q10 hg10 HC8 Q8 R8 HM hB10 hB10'
  have hal : Calls Try.prog 10 #[.agg #[.int .i64 3, .int .i64 0, .slice (some ⟨B10, 0, none⟩) (7 :: l).length c10], .agg #[.int .i64 3, .int .i64 0, .slice (some ⟨B9, 0, none⟩) (7 :: l).length c9]] w10 fun e w' => e = .returned (.bool true) ∧ Fr (fun _ => False) w10 w' := by
    have := alike_any 3 0 3 0 _ _ (7 :: l) (7 :: l) w10 R10.out.2.sees R10.out.1.sees
    unfold av at this
    simpa using this
  have HAL := Lib.hid hal; clear hal
  obtain ⟨d0, d1, d2⟩ := cell3 Q10.out.2.2.1
  obtain ⟨k0, k1, k2⟩ := cell3 Q10.out.2.2.2
  go_wp2_with fail
  refine HAL.out.mono ?_
  rintro z w11 ⟨rfl, f11⟩
  have HC11 := Lib.hid (HC10.out.fr0 f11)
  have Q11 := Lib.hid (And.intro (crow_kept Q10.out.1 f11 (fun h => h)) (And.intro (crow_kept Q10.out.2.1 f11 (fun h => h)) (And.intro (crow_kept Q10.out.2.2.1 f11 (fun h => h)) (crow_kept Q10.out.2.2.2 f11 (fun h => h)))))
  have R11 := Lib.hid (And.intro (R10.out.1.fr f11 (fun _ _ h => h)) (R10.out.2.fr f11 (fun _ _ h => h)))
  have F11 := Lib.hid (F10.out.trans f11 (fun _ _ h => h))
  have HZ11 := Lib.hid f11.size
  clear f11 HAL HC10 Q10 R10 d0 d1 d2 k0 k1 k2
  obtain ⟨k0, k1, k2⟩ := cell3 Q11.out.2.2.2
  obtain ⟨_, _, e7, hc7, hfz7, _⟩ := own_shape R11.out.2
  simp only [Value.slice.injEq, Option.some.injEq, Addr.mk.injEq] at e7
  obtain ⟨⟨rfl, -⟩, -, rfl⟩ := e7
  have hfz70 := hfz7 0
  unfold bv at hc7
  clear hfz7
  go_upto_region 14 with fail
  have f12 : Fr (fun k => k = B10) w11 (w11.setCell ⟨B10, 0, none⟩ (.int .u8 9)) := (Fr.refl (fun k => k = B10) w11).set1 0 _
  generalize w11.setCell ⟨B10, 0, none⟩ (.int .u8 9) = w12 at *
  have HC12 := Lib.hid (HC11.out.fr f12 (fun k hk e => NG.out k (by have := HN10.out; omega) hk))
  have Q12 := Lib.hid (And.intro (crow_kept Q11.out.1 f12 (by have := HN.out; have := HN10.out; have := HZ7.out; omega)) (And.intro (crow_kept Q11.out.2.1 f12 (by have := HN.out; have := HN10.out; have := HZ7.out; omega)) (crow_kept Q11.out.2.2.1 f12 (by have := HN.out; have := HN10.out; have := HZ7.out; omega))))
  have R12 := Lib.hid (R11.out.1.fr f12 (fun k hk => by simp [Value.ownBlock] at hk; have := HN.out; have := HN10.out; have := HZ7.out; omega))
  have F12 := Lib.hid (F11.out.trans f12 (fun k hk h => by have := HN.out; have := HN10.out; have := HG.out; have := HZ7.out; omega))
  clear f12 HC11 Q11 R11 k0 k1 k2 hc7 hfz70
  have hget := cget_any HC12.out x hx
  rw [HLK.out] at hget
  unfold kv av at hget
  simp only [Option.getD_some, Option.isSome_some] at hget
  have HGT := Lib.hid hget; clear hget
  obtain ⟨j0, j1⟩ : w12.cell? ⟨g, 0, none⟩ = some (.int .u16 x.1) ∧ w12.cell? ⟨g, 1, none⟩ = some (.int .u16 x.2) := by simp [World.cell?, Q12.out.1]
  go_wp2_with fail
  refine HGT.out.mono ?_
  rintro z w13 ⟨v12, rfl, hm, _⟩
  obtain ⟨B12, c12, rfl, _, _, _⟩ := own_shape hm.1
  have HM := Lib.hid hm; clear hm
  clear HGT j0 j1
  go_upto_region 16 with fail
  have f34' : Fr (fun _ => False) w13 (w13.alloc (oAns 3 0 (.slice (some ⟨B12, 0, none⟩) (7 :: l).length c12))) := (Fr.refl _ _).alloc _
  have q12 := heap_alloc_new w13 (oAns 3 0 (.slice (some ⟨B12, 0, none⟩) (7 :: l).length c12))
  generalize w13.alloc (oAns 3 0 (.slice (some ⟨B12, 0, none⟩) (7 :: l).length c12)) = w14 at *
  generalize hg12 : w13.heap.size = g12 at *
  have f24' := HM.out.2.1.trans f34' (fun _ _ h => h)
  have HC14 := Lib.hid (HC12.out.fr0 f24')
  have Q14 := Lib.hid (And.intro (crow_kept Q12.out.1 f24' (fun h => h)) (And.intro (crow_kept Q12.out.2.1 f24' (fun h => h)) (And.intro (crow_kept Q12.out.2.2 f24' (fun h => h)) q12)))
  have R14 := Lib.hid (And.intro (R12.out.fr f24' (fun _ _ h => h)) (HM.out.1.fr f34' (fun _ _ h => h)))
  have F14 := Lib.hid (F12.out.trans f24' (fun _ _ h => h))
  clear f34' f24' q12 hg12 HC12 Q12 R12 HM
  obtain ⟨j0, j1⟩ : w14.cell? ⟨g, 0, none⟩ = some (.int .u16 x.1) ∧ w14.cell? ⟨g, 1, none⟩ = some (.int .u16 x.2) := by simp [World.cell?, Q14.out.1]
  have hgn := get_nil w14 x
  unfold kv av at hgn
  go_wp2_with fail
  refine hgn.mono ?_
  rintro z w15 ⟨rfl, f15⟩
  clear hgn j0 j1
  go_upto_region 17 with fail
  have f16 : Fr (fun _ => False) w14 (w15.alloc (oAns 0 0 (.slice none 0 0))) := f15.trans ((Fr.refl (fun _ => False) w15).alloc _) (fun _ _ h => h)
  generalize w15.alloc (oAns 0 0 (.slice none 0 0)) = w16 at *
  have HC16 := Lib.hid (HC14.out.fr0 f16)
  have Q16 := Lib.hid (And.intro (crow_kept Q14.out.1 f16 (fun h => h)) (And.intro (crow_kept Q14.out.2.1 f16 (fun h => h)) (And.intro (crow_kept Q14.out.2.2.1 f16 (fun h => h)) (crow_kept Q14.out.2.2.2 f16 (fun h => h)))))
  have R16 := Lib.hid (And.intro (R14.out.1.fr f16 (fun _ _ h => h)) (R14.out.2.fr f16 (fun _ _ h => h)))
  have F16 := Lib.hid (F14.out.trans f16 (fun _ _ h => h))
  clear f15 f16 HC14 Q14 R14
  have hal : Calls Try.prog 10 #[.agg #[.int .i64 3, .int .i64 0, .slice (some ⟨B12, 0, none⟩) (7 :: l).length c12], .agg #[.int .i64 3, .int .i64 0, .slice (some ⟨B9, 0, none⟩) (7 :: l).length c9]] w16 fun e w' => e = .returned (.bool true) ∧ Fr (fun _ => False) w16 w' := by
    have := alike_any 3 0 3 0 _ _ (7 :: l) (7 :: l) w16 R16.out.2.sees R16.out.1.sees
    unfold av at this
    simpa using this
  have HAL := Lib.hid hal; clear hal
  obtain ⟨d0, d1, d2⟩ := cell3 Q16.out.2.2.1
  obtain ⟨k0, k1, k2⟩ := cell3 Q16.out.2.2.2
  go_wp2_with fail
  refine HAL.out.mono ?_
  rintro z w17 ⟨rfl, f17⟩
  have Q17 := Lib.hid (And.intro (crow_kept Q16.out.1 f17 (fun h => h)) (crow_kept Q16.out.2.1 f17 (fun h => h)))
  have FF17 := Lib.hid f17
  clear f17 HAL d0 d1 d2 k0 k1 k2
  obtain ⟨d0, d1, d2⟩ := cell3 Q17.out.2
  obtain ⟨j0, j1⟩ : w17.cell? ⟨g, 0, none⟩ = some (.int .u16 x.1) ∧ w17.cell? ⟨g, 1, none⟩ = some (.int .u16 x.2) := by simp [World.cell?, Q17.out.1]
  go_wp2_with fail
  have hpn := put_nil w17 x 3 0 (.slice (some ⟨B8, 0, none⟩) (7 :: l).length c8)
  unfold kv av at hpn
  refine hpn.mono ?_
  rintro z w18 ⟨rfl, f18⟩
  have Q18 := Lib.hid (crow_kept Q17.out.1 f18 (fun h => h))
  have FF18 := Lib.hid f18
  clear f18 hpn d0 d1 d2 j0 j1
  obtain ⟨j0, j1⟩ : w18.cell? ⟨g, 0, none⟩ = some (.int .u16 x.1) ∧ w18.cell? ⟨g, 1, none⟩ = some (.int .u16 x.2) := by simp [World.cell?, Q18.out]
  have hsn := seen_nil w18 x
  unfold kv at hsn
  go_wp2_with fail
  refine hsn.mono ?_
  rintro z w19 ⟨rfl, f19⟩
  have FF19 := Lib.hid f19
  clear f19 hsn
  go_wp2_with fail
  refine (kept_nil w19).mono ?_
  rintro z w20 ⟨rfl, rfl⟩
  go_wp2_with fail
  refine (many_nil _).mono ?_
  rintro z w21 ⟨rfl, rfl⟩
  go_wp2_with fail
  have f16e := (FF17.out.trans FF18.out (fun _ _ h => h)).trans FF19.out (fun _ _ h => h)
  have hk := ckept_any (HC16.out.fr0 f16e)
  have ek : min K ([(x, 3, 0, 7 :: l)] : List (IdN × An)).length = 1 := by have := HK1.out; simp; omega
  rw [ek] at hk
  have HF := Lib.hid (F16.out.trans f16e (fun _ _ h => h))
  clear f16e ek
  refine hk.mono ?_
  rintro z w22 ⟨rfl, rfl⟩
  clear hk
  go_wp2_with fail
  go_ret
  exact ⟨rfl, HF.out⟩

/-- In the form that the statement's lift takes. -/
theorem none_all {w : World} (m : Int) (_ : -9223372036854775808 ≤ m) (_ : m ≤ 9223372036854775807) (x : IdN) (v : Value) (hv : IdV w x v) (s : Sa) (u : Value) (hu : SaV w s u) :
    Calls Try.prog 4 #[.int .i64 m, v, u] w fun e w' => e = .returned (.bool true) ∧ Fr (fun _ => False) w w' := by
  obtain ⟨rfl, hx⟩ := hv
  obtain ⟨a, c, rfl, hs, _⟩ := hu
  exact none_law m x hx s.e s.r s.l a c w hs
end Go.Proofs.Ytefijimijmjahaa
