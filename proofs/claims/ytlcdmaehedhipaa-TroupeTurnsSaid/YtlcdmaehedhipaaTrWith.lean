/-
  Package troupe: Without, With.
-/
import Derived.Test.YtlcdmaehedhipaaTrIns3
namespace Go.Proofs.Ytlcdmaehedhipaa
open Go.RowKit
set_option maxRecDepth 100000
set_option linter.unusedSimpArgs false
set_option linter.unusedVariables false

theorem two_boxes (w : World) (n x : Int) (a : Option Addr) (k c : Nat) : ((w.alloc (oVw n a k c)).alloc (oInt x)).heap[w.heap.size]? = some (oVw n a k c) ∧ ((w.alloc (oVw n a k c)).alloc (oInt x)).heap[w.heap.size + 1]? = some (oInt x) := by
  refine ⟨lblock_kept (heap_alloc_new w (oVw n a k c)) ((Fr.refl (fun _ => False) _).alloc _) (fun h => h), ?_⟩
  have := heap_alloc_new (w.alloc (oVw n a k c)) (oInt x)
  rwa [show (w.alloc (oVw n a k c)).heap.size = w.heap.size + 1 by simp] at this

set_option maxHeartbeats 8000000 in
theorem without_any (num n : Int) (l : List Int) (a : Option Addr) (c : Nat) (w : World) (hc : SIc w a c l) (h0 : l ≠ []) (hs : l.length ≤ 900) :
    Calls Try.prog 17 #[.agg #[.int .i64 num, .slice a l.length c], .int .i64 n] w fun e w' => ∃ v, e = .returned v ∧ SI w' v (l.filter (fun x => decide (x ≠ n))) ∧ Fr (fun _ => False) w w' := by
  have hb := two_boxes w num n a l.length c
  have f0 : Fr (fun _ => False) w ((w.alloc (oVw num a l.length c)).alloc (oInt n)) := ((Fr.refl _ _).alloc _).alloc _
  have hz : ((w.alloc (oVw num a l.length c)).alloc (oInt n)).heap.size = w.heap.size + 2 := by simp
  have Hc := Lib.hid hc
  have H0 := Lib.hid h0
  clear hc h0
  go_enter Try.func17, Try.ntmps17
  go_upto_region 1 with fail
  generalize (w.alloc (oVw num a l.length c)).alloc (oInt n) = w0 at *
  obtain ⟨gn, hgn⟩ : ∃ gn, w.heap.size + 1 = gn := ⟨_, rfl⟩
  rw [hgn] at hb ⊢
  have HZ := Lib.hid (And.intro hgn hz)
  clear hgn hz
  generalize w.heap.size = gv at *
  obtain ⟨hb0, hb1⟩ := hb
  obtain ⟨q0, q1⟩ := vw_cells hb0
  have HB1 := Lib.hid hb1
  have F0 := Lib.hid f0
  clear hb0 hb1 f0
  go_wp2_with fail
  refine (lclone_any l a c _ (Hc.out.fr F0.out) (by omega)).mono ?_
  rintro e w1 ⟨v1, rfl, ho, f1⟩
  obtain ⟨g, cap, cur, rfl, hbg, hle, hr, hcc⟩ := oi_open ho H0.out
  have HR := Lib.hid hr
  have HCC := Lib.hid hcc
  have HB2 := Lib.hid (lblock_kept HB1.out f1 (fun h => h))
  have F1 := Lib.hid f1
  have HNE : Hid (gn ≠ g ∧ w0.heap.size ≤ g) := Lib.hid ⟨by have := HZ.out; omega, hbg⟩
  clear q0 q1 ho hbg hr hcc f1
  go_wp2_with fail
  refine (delete_any n gn g cap 0 l cur _ HB2.out HNE.out.1 HR.out hle HCC.out (by omega)).mono ?_
  rintro e w2 ⟨v2, rfl, hsi, f2⟩
  have HSI := Lib.hid hsi
  have F2 := Lib.hid f2
  clear hsi f2
  go_wp2_with fail
  go_ret
  exact ⟨_, rfl, HSI.out, F0.out.trans (F1.out.trans F2.out (fun k hk e => by have := HNE.out; omega)) (fun _ _ h => h)⟩

/-- The members and n, ahead of the first that is above. -/
def wiL (l : List Int) (n : Int) : List Int := if n ∈ l then l else insL l (if l.any (fun x => decide (n < x)) then l.findIdx (fun x => decide (n < x)) else l.length) n

set_option maxHeartbeats 16000000 in
theorem with_any (num n : Int) (l : List Int) (a : Option Addr) (c : Nat) (w : World) (hc : SIc w a c l) (h0 : l ≠ []) (hs : l.length ≤ 900) :
    Calls Try.prog 18 #[.agg #[.int .i64 num, .slice a l.length c], .int .i64 n] w fun e w' => ∃ v, e = .returned v ∧ SI w' v (wiL l n) ∧ Fr (fun _ => False) w w' := by
  have hb := two_boxes w num n a l.length c
  have f0 : Fr (fun _ => False) w ((w.alloc (oVw num a l.length c)).alloc (oInt n)) := ((Fr.refl _ _).alloc _).alloc _
  have hz : ((w.alloc (oVw num a l.length c)).alloc (oInt n)).heap.size = w.heap.size + 2 := by simp
  have Hc := Lib.hid hc
  have H0 := Lib.hid h0
  clear hc h0
  go_enter Try.func18, Try.ntmps18
  go_upto_region 1 with fail
  generalize (w.alloc (oVw num a l.length c)).alloc (oInt n) = w0 at *
  obtain ⟨gn, hgn⟩ : ∃ gn, w.heap.size + 1 = gn := ⟨_, rfl⟩
  rw [hgn] at hb ⊢
  have HZ := Lib.hid (And.intro hgn hz)
  clear hgn hz
  generalize w.heap.size = gv at *
  obtain ⟨hb0, hb1⟩ := hb
  obtain ⟨q0, q1⟩ := vw_cells hb0
  have HB0 := Lib.hid hb0
  have HB1 := Lib.hid hb1
  have F0 := Lib.hid f0
  clear hb0 hb1 f0
  go_wp2_with fail
  refine (lclone_any l a c _ (Hc.out.fr F0.out) (by omega)).mono ?_
  rintro e w1 ⟨v1, rfl, ho, f1⟩
  have hb0 := lblock_kept HB0.out f1 (fun h => h)
  have hb1 := lblock_kept HB1.out f1 (fun h => h)
  have F1 := Lib.hid (F0.out.trans f1 (fun _ _ h => h))
  have HO := Lib.hid ho
  have HZ1 := Lib.hid f1.size
  clear q0 q1 f1 HB0 HB1
  obtain ⟨q0, q1⟩ := vw_cells hb0
  have q2 := int_cell hb1
  have HB1 := Lib.hid hb1
  clear hb0 hb1
  go_wp2_with fail
  refine (has_any num n l a c _ (Hc.out.fr F1.out) (by omega)).mono ?_
  rintro e w2 ⟨rfl, f2⟩
  have HB2 := Lib.hid (lblock_kept HB1.out f2 (fun h => h))
  have F2 := Lib.hid (F1.out.trans f2 (fun _ _ h => h))
  have HO2 : Hid (OI w2 w0.heap.size v1 l) := Lib.hid (oi_fr ho f2 (fun _ _ h => h))
  have HZ2 := Lib.hid (Nat.le_trans HZ1.out f2.size)
  clear q0 q1 q2 f2 ho HO HB1
  by_cases hm : n ∈ l
  · have hm1 : decide (n ∈ l) = true := by simp [hm]
    have HW : Hid (wiL l n = l) := Lib.hid (by unfold wiL; rw [if_pos hm])
    rw [hm1]
    clear hm hm1
    go_wp2_with fail
    go_ret
    exact ⟨_, rfl, by rw [HW.out]; exact HO2.out.si, F2.out⟩
  have hm1 : decide (n ∈ l) = false := by simp [hm]
  rw [hm1]
  have HM := Lib.hid hm
  clear hm hm1
  obtain ⟨a1, c1, hv1, s1⟩ := HO2.out.si.shape
  have HV1 := Lib.hid hv1
  have S1 := Lib.hid s1
  clear s1
  rw [hv1]
  clear hv1
  go_wp2_with fail
  refine (first_above n gn l a1 c1 _ HB2.out S1.out (by omega)).mono ?_
  rintro e w3 ⟨rfl, rfl⟩
  obtain ⟨at_, hat, hati, hatw⟩ : ∃ at_ : Nat, at_ ≤ l.length ∧ ((firstI (fun x => decide (n < x)) l = at_) ∨ (firstI (fun x => decide (n < x)) l = -1 ∧ at_ = l.length)) ∧ wiL l n = insL l at_ n := by
    unfold wiL firstI
    rw [if_neg HM.out]
    by_cases h : l.any (fun x => decide (n < x)) = true
    · refine ⟨l.findIdx (fun x => decide (n < x)), List.findIdx_le_length, .inl ?_, ?_⟩
      · rw [if_pos h]
      · rw [if_pos h]
    · refine ⟨l.length, Nat.le_refl _, .inr ⟨?_, rfl⟩, ?_⟩
      · rw [if_neg h]
      · rw [if_neg h]
  have hq := int_cell HB2.out
  have HIN : Hid (∀ W gs, W.heap[gs]? = some (oInt n) → Fr (fun _ => False) w2 W → w2.heap.size ≤ gs → Calls Try.prog 28 #[.slice a1 l.length c1, .int .i64 at_, .slice (some ⟨gs, 0, none⟩) 1 1] W fun e w' => ∃ v', e = .returned v' ∧ SI w' v' (insL l at_ n) ∧ Fr (fun _ => False) w w') := Lib.hid (by
    intro W gs hgs f hge
    have ho : OI W w0.heap.size (.slice a1 l.length c1) l := by rw [← HV1.out]; exact oi_fr HO2.out f (fun _ _ h => h)
    refine (insert_any at_ gs w0.heap.size n l _ W ho H0.out hs hat hgs (fun e => ?_) (by have := f.size; have := HZ2.out; omega)).mono ?_
    · have h1 : OI w2 w0.heap.size (.slice a1 l.length c1) l := by rw [← HV1.out]; exact HO2.out
      have h2 := World.ownsRow.lt h1 _ e
      omega
    · rintro e w4 ⟨v4, rfl, h1, h2⟩
      refine ⟨v4, rfl, h1, (F2.out.trans f (fun _ _ h => h)).trans h2 (fun k hk e => ?_)⟩
      have h3 := oi_le ho k e
      have := F0.out.size
      omega)
  have HAW := Lib.hid hatw
  clear hatw
  have f3 : Fr (fun _ => False) w2 (w2.alloc (oInt n)) := (Fr.refl _ _).alloc _
  have h3 := heap_alloc_new w2 (oInt n)
  have HF3 := Lib.hid (And.intro f3 h3)
  clear f3 h3
  rcases hati with hfi | ⟨hfi, hat2⟩
  · rw [hfi]
    clear hfi
    go_wp2_with fail
    refine (HIN.out _ _ HF3.out.2 HF3.out.1 (Nat.le_refl _)).mono ?_
    rintro e w4 ⟨v4, rfl, h1, h2⟩
    have HE := Lib.hid (And.intro h1 h2)
    clear h1 h2 hq
    go_wp2_with fail
    go_ret
    exact ⟨_, rfl, by rw [HAW.out]; exact HE.out.1, HE.out.2⟩
  · rw [hfi]
    have HAT := Lib.hid hat2
    clear hfi hat2
    go_wp2_with fail
    refine (by have := HIN.out _ _ HF3.out.2 HF3.out.1 (Nat.le_refl _); rw [HAT.out] at this; exact this : Calls _ _ _ _ _).mono ?_
    rintro e w4 ⟨v4, rfl, h1, h2⟩
    have HE := Lib.hid (And.intro h1 h2)
    clear h1 h2 hq
    go_wp2_with fail
    go_ret
    exact ⟨_, rfl, by rw [HAW.out, HAT.out]; exact HE.out.1, HE.out.2⟩

end Go.Proofs.Ytlcdmaehedhipaa
