/-
  CouBack, part 50 of what it rests on: Take5, TakeMath, PFacts.
-/
import Derived.Test.YtplipjijaaejlaaGreatS49
import Derived.Test.YtplipjijaaejlaaGreatS45
set_option linter.unusedVariables false
set_option linter.unusedSimpArgs false
set_option maxHeartbeats 64000000
namespace Go.Proofs.YtplipjijaaejlaaGreat
open Go.RowKit
open Go.Lib (hid)
section
attribute [local go_sem] run_store_float
set_option maxRecDepth 100000

/-- The error of Take. -/
def takeErr (t : KT) (l : List UInt8) : Int := if (if (takeE t 20 ((l, 0), 0)).2.1.1 = [] then (takeE t 20 ((l, 0), 0)).2.1.2 else 12) ≠ 0 then (if (takeE t 20 ((l, 0), 0)).2.1.1 = [] then (takeE t 20 ((l, 0), 0)).2.1.2 else 12) else (valE t (takeE t 20 ((l, 0), 0)).1 : Nat)

theorem Take_any (t : KT) (R0 : Nat → Prop) (v bv : Value) (l : List UInt8) (w : World) (hsh : Shows R0 w t v) (hb : Sees w bv l) (hl : l.length ≤ 4000) (hsz : szV (takeE t 20 ((l, 0), 0)).1 ≤ 100000) :
    Calls Tryz.prog 15 #[v, bv] w fun e w' => ∃ v', e = .returned (.tuple #[v', .int .i64 (takeErr t l)]) ∧ VShows (fun k => w.heap.size ≤ k) w' (if takeErr t l = 0 then (takeE t 20 ((l, 0), 0)).1 else zeroV) v' ∧ Fr (fun _ => False) w w' := by
  obtain ⟨E, hE⟩ : ∃ E, takeErr t l = E := ⟨_, rfl⟩
  rw [hE]
  have HE := Lib.hid hE
  clear hE
  obtain ⟨tk, tm, ta, tn, tc, ta', tn', tc', rfl⟩ := hsh.four
  obtain ⟨a, c, rfl, hbs⟩ := hb.shape
  have hli : (l.length : Int) ≤ 4000 := by omega
  obtain ⟨w1, hw1⟩ : ∃ w1, w1 = (w.alloc (.cells #[.int .u8 tk, .int .i64 tm, .slice ta tn tc, .slice ta' tn' tc'] 34)).alloc (.cells #[.int .i64 0, .float .f64 0, .string ⟨#[]⟩, .slice none 0 0] 39) := ⟨_, rfl⟩
  have f1 : Fr (fun _ => False) w w1 := by rw [hw1]; exact ((Fr.refl _ _).alloc _).alloc _
  have q1 : w1.heap[w.heap.size]? = some (.cells #[.int .u8 tk, .int .i64 tm, .slice ta tn tc, .slice ta' tn' tc'] 34 (0, 0)) := by rw [hw1]; exact heap_alloc_first _ _ _
  have r1 : w1.heap[w.heap.size + 1]? = some (.cells #[.int .i64 0, .float .f64 0, .string ⟨#[]⟩, .slice none 0 0] 39 (0, 0)) := by rw [hw1]; exact heap_alloc_two _ _ _
  have HSH := Lib.hid (Shows.fr f1 (fun _ _ h => h) _ _ (Shows.mono (S := fun k => k < w.heap.size) (fun k h _ => h) _ _ hsh))
  have hread := rdread_any _ l w1 (hb.fr f1 (fun _ _ h => h)) (by omega)
  have H1 := Lib.hid (And.intro f1 (And.intro q1 r1))
  have HSZ := Lib.hid (And.intro hl hsz)
  clear hsh hb hl hsz f1 q1 r1 hbs
  go_enter Tryz.func15, Tryz.ntmps15
  go_upto_region 1 with fail
  rw [← hw1]
  clear hw1
  go_wp2_with fail
  refine hread.mono ?_
  clear hread
  rintro er w2 ⟨rb, rv, rfl, hrd, f2, hrb, hro⟩
  have HRD := Lib.hid (And.intro hrd (And.intro f2 (And.intro hrb hro)))
  have hrl := hrd.lt
  clear hrd f2 hrb hro
  go_upto_region 4 with fail
  obtain ⟨fb, hfb⟩ : ∃ fb, w2.heap.size = fb := ⟨_, rfl⟩
  have hnew := heap_alloc_new w2 (.cells #[.pointer (some ⟨rb, 0, none⟩), .int .i64 0] 86)
  have fn : Fr (fun _ => False) w2 (w2.alloc (.cells #[.pointer (some ⟨rb, 0, none⟩), .int .i64 0] 86)) := (Fr.refl _ _).alloc _
  have hsz3 : (w2.alloc (.cells #[.pointer (some ⟨rb, 0, none⟩), .int .i64 0] 86)).heap.size = w2.heap.size + 1 := by simp
  generalize w2.alloc (.cells #[.pointer (some ⟨rb, 0, none⟩), .int .i64 0] 86) = w3 at *
  rw [hfb] at hnew hsz3 hrl
  try rw [hfb]
  have hun : UnSt fb rb (fb + 1) w3 ((l, 0), 0) := ⟨hnew, ⟨rv, HRD.out.1.fr fn (fun h => h) (fun _ _ h => h), fun e => by have := HRD.out.1.old _ e; omega, fun k e => by have := HRD.out.1.old _ e; omega⟩, by omega, by omega, by omega⟩
  have hw1s := H1.out.1.size
  have hl1 := lt_of_block H1.out.2.2
  have hoff : ∀ k, k < w1.heap.size → ¬ TDirt fb rb k := fun k hk h => by
    have := HRD.out.2.2.1
    have := HRD.out.2.1.size
    rcases h with h | h <;> omega
  have F3 := Lib.hid (HRD.out.2.1.trans fn (fun _ _ h => h))
  have htake := untake_any t (fun k => k < w.heap.size) _ w3 fb rb (fb + 1) ((l, 0), 0) 20 20 rfl (by omega) (Shows.fr F3.out (fun _ _ h => h) _ _ HSH.out) hun (by omega) (fun k hk => hoff k (by omega)) rfl (by omega)
  obtain ⟨c0, c1, c2, c3⟩ := cell_of_four (box_kept H1.out.2.1 F3.out (fun h => h))
  have HOFF := Lib.hid (And.intro hoff (And.intro hfb (And.intro hsz3 hrl)))
  have HL1 := Lib.hid (And.intro hw1s hl1)
  obtain ⟨T, s4, hr⟩ : ∃ T s4, takeE t 20 ((l, 0), 0) = (T, s4) := ⟨_, _, rfl⟩
  have HR := Lib.hid hr
  rw [hr] at htake
  clear hun hoff hnew fn hsz3 hrl hfb hw1s hl1 hr
  go_wp2_with fail
  refine htake.mono ?_
  clear htake
  rintro er w4 ⟨v', rfl, hv4, hu4, f4⟩
  obtain ⟨zn, zf, zs, za, zc, zcap, rfl⟩ := hv4.lit
  have H4 := Lib.hid (And.intro hv4 (And.intro hu4 f4))
  clear hv4 hu4 f4 c0 c1 c2 c3
  go_upto_region 5 with fail
  obtain ⟨⟨l4, x4⟩, q4⟩ := s4
  have fal : Fr (fun _ => False) w4 (w4.alloc (.cells #[.int .i64 zn, .float .f64 zf, .string zs, .slice za zc zcap] 39)) := (Fr.refl _ _).alloc _
  have hxb := heap_alloc_new w4 (.cells #[.int .i64 zn, .float .f64 zf, .string zs, .slice za zc zcap] 39)
  generalize w4.alloc (.cells #[.int .i64 zn, .float .f64 zf, .string zs, .slice za zc zcap] 39) = w5 at *
  have F5 : Hid (Fr (TDirt fb rb) w1 w5) := Lib.hid (((F3.out.mono (fun _ _ h => h.elim)).trans H4.out.2.2 (fun _ _ h => h)).trans fal (fun _ _ h => h.elim))
  have FW : Hid (Fr (fun _ => False) w w5) := Lib.hid (H1.out.1.trans F5.out (fun k hk h => HOFF.out.1 k (by have := HL1.out.1; omega) h))
  have hun5 := H4.out.2.1.fr fal (fun _ _ h => h)
  obtain ⟨p0, p1, zz⟩ := un_cells hun5
  obtain ⟨rv4, hrd4, -, -⟩ := hun5.rd
  simp only at hrd4
  have hend := rdend_any rb rv4 l4 x4 w5 hrd4
  have HV5 := Lib.hid (VShows.fr fal (fun _ _ h => h) _ _ H4.out.1)
  have HX5 := Lib.hid hxb
  have hvb5 := box_kept H1.out.2.2 F5.out (HOFF.out.1 _ HL1.out.2)
  have HVB5 := Lib.hid hvb5
  have HTB5 := Lib.hid (box_kept H1.out.2.1 F5.out (HOFF.out.1 _ (by have := HL1.out.2; omega)))
  have HS5 := Lib.hid (Shows.fr F5.out (fun k hk => HOFF.out.1 k (by have := HL1.out.1; omega)) _ _ HSH.out)
  obtain ⟨e1, he1⟩ : ∃ e1 : Int, (if l4 = [] then x4 else 12) = e1 := ⟨_, rfl⟩
  rw [he1] at hend
  have HE1 : Hid ((e1 ≠ 0 → E = e1) ∧ (e1 = 0 → E = (valE t T : Nat))) := Lib.hid (by
    have h := HE.out
    unfold takeErr at h
    rw [HR.out] at h
    simp only [he1] at h
    constructor
    · intro hn; rw [if_pos hn] at h; exact h.symm
    · intro hz; rw [if_neg (by simp [hz])] at h; exact h.symm)
  have HTT : Hid ((takeE t 20 ((l, 0), 0)).1 = T) := Lib.hid (by rw [HR.out])
  rw [HTT.out] at HSZ
  clear fal hxb hun5 hrd4 hvb5 he1
  go_wp2_with fail
  refine hend.mono ?_
  clear hend
  rintro er w6 ⟨rfl, rfl⟩
  by_cases h1 : e1 = 0
  case neg =>
    have hne : (e1 != 0) = true := by simp [h1]
    have hne2 : (e1 == 0) = false := by simp [h1]
    obtain rfl : E = e1 := HE1.out.1 h1
    have HE0 := Lib.hid h1
    have hvb5 := HVB5.out
    clear h1
    obtain ⟨d0, d1, d2, d3⟩ := cell_of_four hvb5
    have u0 : w5.frozen? ⟨w.heap.size + 1, 0, none⟩ = false := by simp [World.frozen?, hvb5]
    have u1 : w5.frozen? ⟨w.heap.size + 1, 1, none⟩ = false := by simp [World.frozen?, hvb5]
    have u2 : w5.frozen? ⟨w.heap.size + 1, 2, none⟩ = false := by simp [World.frozen?, hvb5]
    have u3 : w5.frozen? ⟨w.heap.size + 1, 3, none⟩ = false := by simp [World.frozen?, hvb5]
    clear hvb5
    go_wp2
    refine bodyPost_ret (results_cell_tmp_row rfl _ _ (w.heap.size + 1) 39 _ _ _ rfl (store_four HVB5.out) Tryz.underlying39 rfl (by kernel_rfl)) rfl ?_
    exact ⟨_, rfl, leaf_shows 0 0 [] (by unfold VB maxLen; simp), fr_four _ _ _ _ FW.out (fun h => by omega)⟩
  case pos =>
  subst h1
  have hchk := vcheck_any (fun _ => True) t T _ _ w5 (Shows.mono (S := fun _ => True) (fun _ _ _ => trivial) _ _ HS5.out) (VShows.mono (S := fun _ => True) (fun _ _ _ => trivial) _ _ HV5.out) HSZ.out.2
  obtain ⟨c0, c1, c2, c3⟩ := cell_of_four HTB5.out
  obtain ⟨y0, y1, y2, y3⟩ := cell_of_four HX5.out
  obtain ⟨e2, he2⟩ : ∃ e2 : Int, ((valE t T : Nat) : Int) = e2 := ⟨_, rfl⟩
  rw [he2] at hchk
  obtain rfl : E = e2 := by rw [← he2]; exact HE1.out.2 rfl
  clear he2
  go_wp2_with fail
  refine hchk.mono ?_
  clear hchk
  rintro er w7 ⟨rfl, f7⟩
  have hvb7 := box_kept HVB5.out f7 (fun h => h)
  have hxb7 := box_kept HX5.out f7 (fun h => h)
  have HVB7 := Lib.hid hvb7
  have F7 := Lib.hid f7
  clear f7 c0 c1 c2 c3 y0 y1 y2 y3 p0 p1 zz
  obtain ⟨y0, y1, y2, y3⟩ := cell_of_four hxb7
  obtain ⟨d0, d1, d2, d3⟩ := cell_of_four hvb7
  have u0 : w7.frozen? ⟨w.heap.size + 1, 0, none⟩ = false := by simp [World.frozen?, hvb7]
  have u1 : w7.frozen? ⟨w.heap.size + 1, 1, none⟩ = false := by simp [World.frozen?, hvb7]
  have u2 : w7.frozen? ⟨w.heap.size + 1, 2, none⟩ = false := by simp [World.frozen?, hvb7]
  have u3 : w7.frozen? ⟨w.heap.size + 1, 3, none⟩ = false := by simp [World.frozen?, hvb7]
  clear hvb7 hxb7
  by_cases h1 : E = 0
  case neg =>
    have hne : (E != 0) = true := by simp [h1]
    have hne2 : (E == 0) = false := by simp [h1]
    have HE0 := Lib.hid h1
    clear h1
    go_wp2
    refine bodyPost_ret (results_cell_tmp_row rfl _ _ (w.heap.size + 1) 39 _ _ _ rfl (store_four HVB7.out) Tryz.underlying39 rfl (by kernel_rfl)) rfl ?_
    exact ⟨_, rfl, leaf_shows 0 0 [] (by unfold VB maxLen; simp), fr_four _ _ _ _ (FW.out.trans F7.out (fun _ _ h => h)) (fun h => by omega)⟩
  case pos =>
    subst h1
    go_wp2
    refine bodyPost_ret (results_cell_tmp_row rfl _ _ (w.heap.size + 1) 39 _ _ _ rfl (store_four HVB7.out) Tryz.underlying39 rfl (by kernel_rfl)) rfl ?_
    have fs : Fr (fun k => k = w.heap.size + 1) w7 ((((w7.setCell ⟨w.heap.size + 1, 0, none⟩ (.int .i64 zn)).setCell ⟨w.heap.size + 1, 1, none⟩ (.float .f64 zf)).setCell ⟨w.heap.size + 1, 2, none⟩ (.string zs)).setCell ⟨w.heap.size + 1, 3, none⟩ (.slice za zc zcap)) := fr_four _ _ _ _ (Fr.refl _ _) (fun _ => rfl)
    refine ⟨_, rfl, ?_, fr_four _ _ _ _ (FW.out.trans F7.out (fun _ _ h => h)) (fun h => by omega)⟩
    rw [HTT.out]
    refine VShows.mono (fun k _ h => ?_) _ _ (VShows.fr fs (fun k h e => ?_) _ _ (VShows.fr F7.out (fun _ _ h => h) _ _ HV5.out))
    · have := F3.out.size; have := HL1.out.2; omega
    · have := F3.out.size; have := HL1.out.2; omega
end
section
/-- A type without holes. -/
def realT : KT → Prop
  | .nil => False
  | .mk _ _ _ n of => ∀ i, i < n → realT (of i)

theorem good_real (t : KT) : goodE t → realT t := by
  induction t with
  | nil => exact fun h => h
  | mk k m ns n of ih => exact fun h i hi => ih i (h.2 i hi)

theorem parts_sz (L : List VT) : szV (partsV L) = 1 + (L.map szV).sum := by
  unfold partsV
  rw [szV]
  congr 2
  apply List.ext_getElem
  · simp
  · intro i h1 h2
    simp at h1
    simp [List.getD, List.getElem?_eq_getElem h1]

theorem each_sz (g : Nat → TS → VT × TS) (n : Nat) (hg : ∀ i s, i < n → s.1.2 = 0 → szV (g i s).1 + s.2 ≤ (g i s).2.2) (s : TS) (j : Nat) (hj : j ≤ n) : ((eachN g j s).1.map szV).sum + s.2 ≤ (eachN g j s).2.2 := by
  induction j with
  | zero => simp [eachN]
  | succ j ih =>
    have h1 := ih (by omega)
    unfold eachN
    by_cases h : (eachN g j s).2.1.2 ≠ 0
    · rw [if_pos h]; exact h1
    · rw [if_neg h]
      have h2 := hg j (eachN g j s).2 (by omega) (by simpa using h)
      simp only [List.map_append, List.map_cons, List.map_nil, List.sum_append, List.sum_cons, List.sum_nil]
      omega

theorem zero_sz : szV zeroV = 1 := by decide +kernel

theorem take_sz (t : KT) : realT t → ∀ (lv : Nat) (s : TS), s.1.2 = 0 → szV (takeE t lv s).1 + s.2 ≤ (takeE t lv s).2.2 := by
  induction t with
  | nil => exact fun h => h.elim
  | mk k m ns n of ih =>
    intro hr lv s h0
    have hleaf : ∀ (a : Int) (f : Nat) (x : Txt), szV (.mk a f x 0 (fun _ => .nil)) = 1 := fun a f x => by rw [szV]; simp
    have hz := zero_sz
    unfold takeE
    by_cases hb : lv = 0 ∨ 1048576 < s.2 + 1
    · rw [if_pos hb]; show szV zeroV + s.2 ≤ s.2 + 1; omega
    rw [if_neg hb]
    by_cases k0 : k = 0
    · rw [if_pos k0]; show szV (vnum _) + s.2 ≤ s.2 + 1; rw [vnum, hleaf]; omega
    rw [if_neg k0]
    by_cases k1 : k = 1
    · rw [if_pos k1]; show szV (vnum _) + s.2 ≤ s.2 + 1; rw [vnum, hleaf]; omega
    rw [if_neg k1]
    by_cases k2 : k = 2
    · rw [if_pos k2]; show szV (vnum _) + s.2 ≤ s.2 + 1; rw [vnum, hleaf]; omega
    rw [if_neg k2]
    by_cases k3 : k = 3
    · rw [if_pos k3]; show szV (.mk _ _ _ _ _) + s.2 ≤ s.2 + 1; rw [hleaf]; omega
    rw [if_neg k3]
    by_cases k4 : k = 4
    · rw [if_pos k4]; show szV (.mk _ _ _ _ _) + s.2 ≤ s.2 + 1; rw [hleaf]; omega
    rw [if_neg k4]
    by_cases k5 : k = 5
    · rw [if_pos k5]
      by_cases hn : n ≠ 1
      · rw [if_pos hn]; show szV zeroV + s.2 ≤ s.2 + 1; omega
      · rw [if_neg hn]
        have h := each_sz (fun _ s' => takeE (of 0) (lv - 1) s') (withinS s.1 m).1 (fun i s' _ hs => ih 0 (hr 0 (by omega)) _ _ hs) ((withinS s.1 m).2, s.2 + 1) (withinS s.1 m).1 (Nat.le_refl _)
        simp only [parts_sz] at h ⊢
        omega
    rw [if_neg k5]
    by_cases k6 : k = 6
    · rw [if_pos k6]
      have h := each_sz (fun i s' => takeE (of i) (lv - 1) s') n (fun i s' hi hs => ih i (hr i hi) _ _ hs) (s.1, s.2 + 1) n (Nat.le_refl _)
      simp only [parts_sz] at h ⊢
      omega
    rw [if_neg k6]
    by_cases k7 : k = 7
    · rw [if_pos k7]; show szV (vnum _) + s.2 ≤ s.2 + 1; rw [vnum, hleaf]; omega
    rw [if_neg k7]
    by_cases k8 : k = 8
    · rw [if_pos k8]
      by_cases hn : (withinS s.1 ((n : Int) - 1)).2.2 ≠ 0
      · rw [if_pos hn]; show szV zeroV + s.2 ≤ s.2 + 1; omega
      · rw [if_neg hn]
        have hx := within_le s.1 ((n : Int) - 1) (by simpa using hn)
        have h := ih (withinS s.1 ((n : Int) - 1)).1 (hr _ (by omega)) (lv - 1) ((withinS s.1 ((n : Int) - 1)).2, s.2 + 1) (by simpa using hn)
        simp only at h ⊢
        rw [szV]
        simp only [List.range_one, List.map_cons, List.map_nil, List.sum_cons, List.sum_nil]
        omega
    rw [if_neg k8]
    show szV zeroV + s.2 ≤ s.2 + 1; omega
end
section
theorem nextS_two (l : List UInt8) (e : Int) (k : Nat) (hc : e ≠ 0 → l = []) :
    ((nextS (l, e) k).2.2 = 0 ∧ e = 0 ∧ k ≤ l.length ∧ (nextS (l, e) k).1 = l.take k ∧ (nextS (l, e) k).2.1 = l.drop k) ∨
    ((nextS (l, e) k).2.2 ≠ 0 ∧ (nextS (l, e) k).2.1 = [] ∧ (nextS (l, e) k).1 = [] ∧ (e ≠ 0 → (nextS (l, e) k).2.2 = e)) := by
  unfold nextS failS
  by_cases he : e = 0
  · subst he
    by_cases hk : l.length < k
    · right; simp [hk]
    · left; simp [hk]; omega
  · have hl := hc he
    subst hl
    right
    by_cases hk : (0 : Nat) < k
    · simp [hk, he]
    · simp [hk, he]

theorem numS_two (l : List UInt8) (e : Int) (k : Nat) (hc : e ≠ 0 → l = []) :
    ((numS (l, e) k).2.2 = 0 ∧ e = 0 ∧ k ≤ l.length ∧ (numS (l, e) k).1 = beNum (l.take k) ∧ (numS (l, e) k).2.1 = l.drop k) ∨
    ((numS (l, e) k).2.2 ≠ 0 ∧ (numS (l, e) k).2.1 = [] ∧ (numS (l, e) k).1 = 0 ∧ (e ≠ 0 → (numS (l, e) k).2.2 = e)) := by
  unfold numS
  rcases nextS_two l e k hc with ⟨h1, h2, h3, h4, h5⟩ | ⟨h1, h2, h3, h4⟩
  · left; exact ⟨h1, h2, h3, by rw [h4], h5⟩
  · right; exact ⟨h1, h2, by rw [h3]; rfl, h4⟩

theorem withinS_two (l : List UInt8) (e : Int) (most : Int) (hc : e ≠ 0 → l = []) :
    ((withinS (l, e) most).2.2 = 0 ∧ e = 0 ∧ 2 ≤ l.length ∧ (withinS (l, e) most).1 = beNum (l.take 2) ∧ ((withinS (l, e) most).1 : Int) ≤ most ∧ (withinS (l, e) most).2.1 = l.drop 2) ∨
    ((withinS (l, e) most).2.2 ≠ 0 ∧ (withinS (l, e) most).2.1 = [] ∧ (withinS (l, e) most).1 = 0 ∧ (e ≠ 0 → (withinS (l, e) most).2.2 = e)) := by
  unfold withinS
  rcases numS_two l e 2 hc with ⟨h1, h2, h3, h4, h5⟩ | ⟨h1, h2, h3, h4⟩
  · by_cases hm : most < ((numS (l, e) 2).1 : Int)
    · right
      rw [if_pos hm]
      subst h2
      unfold failS
      simp [h1]
    · left
      rw [if_neg hm]
      exact ⟨h1, h2, h3, h4, by omega, h5⟩
  · right
    by_cases hm : most < ((numS (l, e) 2).1 : Int)
    · rw [if_pos hm]
      unfold failS
      simp [h1, h2]
      exact h4
    · rw [if_neg hm]
      exact ⟨h1, h2, h3, h4⟩

theorem textS_two (l : List UInt8) (e : Int) (most : Int) (hc : e ≠ 0 → l = []) :
    ((textS (l, e) most).2.2 = 0 ∧ e = 0 ∧ l = txt (textS (l, e) most).1 ++ (textS (l, e) most).2.1 ∧ ((textS (l, e) most).1.length : Int) ≤ most ∧ (textS (l, e) most).1.length < 65536) ∨
    ((textS (l, e) most).2.2 ≠ 0 ∧ (textS (l, e) most).2.1 = [] ∧ (textS (l, e) most).1 = [] ∧ (e ≠ 0 → (textS (l, e) most).2.2 = e)) := by
  have hsm := withinS_small (l, e) most
  have ht : textS (l, e) most = (if (nextS ((withinS (l, e) most).2.1, (withinS (l, e) most).2.2) ((withinS (l, e) most).1 + (withinS (l, e) most).1 % 2)).2.2 ≠ 0 then ([], (nextS ((withinS (l, e) most).2.1, (withinS (l, e) most).2.2) ((withinS (l, e) most).1 + (withinS (l, e) most).1 % 2)).2) else if (withinS (l, e) most).1 % 2 = 1 ∧ (nextS ((withinS (l, e) most).2.1, (withinS (l, e) most).2.2) ((withinS (l, e) most).1 + (withinS (l, e) most).1 % 2)).1.getD (withinS (l, e) most).1 0 ≠ 0 then ([], failS (nextS ((withinS (l, e) most).2.1, (withinS (l, e) most).2.2) ((withinS (l, e) most).1 + (withinS (l, e) most).1 % 2)).2 4) else ((nextS ((withinS (l, e) most).2.1, (withinS (l, e) most).2.2) ((withinS (l, e) most).1 + (withinS (l, e) most).1 % 2)).1.take (withinS (l, e) most).1, (nextS ((withinS (l, e) most).2.1, (withinS (l, e) most).2.2) ((withinS (l, e) most).1 + (withinS (l, e) most).1 % 2)).2)) := rfl
  have hw := withinS_two l e most hc
  rw [ht]
  clear ht
  generalize withinS (l, e) most = p at *
  have hn := nextS_two p.2.1 p.2.2 (p.1 + p.1 % 2) (by
    intro h
    rcases hw with ⟨h1, _⟩ | ⟨_, h2, _⟩
    · exact absurd h1 h
    · exact h2)
  generalize nextS (p.2.1, p.2.2) (p.1 + p.1 % 2) = r at *
  rcases hn with ⟨n1, n2, n3, n4, n5⟩ | ⟨n1, n2, n3, n4⟩
  · rcases hw with ⟨w1, w2, w3, w4, w5, w6⟩ | ⟨w1, _⟩
    · by_cases hpad : p.1 % 2 = 1 ∧ r.1.getD p.1 0 ≠ 0
      · right
        rw [if_neg (by simpa using n1), if_pos hpad]
        unfold failS
        simp [n1, w2]
      · left
        rw [if_neg (by simpa using n1), if_neg hpad]
        have hlen : (r.1.take p.1).length = p.1 := by rw [n4]; simp; omega
        refine ⟨n1, w2, ?_, by rw [hlen]; exact w5, by rw [hlen]; exact hsm⟩
        show l = txt (r.1.take p.1) ++ r.2.1
        have e1 : l = l.take 2 ++ p.2.1 := by rw [w6, List.take_append_drop]
        have e2 : p.2.1 = r.1 ++ r.2.1 := by rw [n4, n5, List.take_append_drop]
        have e3 : be2 p.1 = l.take 2 := by rw [w4]; exact be2_beNum _ (by simp; omega)
        have e4 : r.1 = r.1.take p.1 ++ (if p.1 % 2 = 1 then [0] else []) := by
          have hr : r.1.length = p.1 + p.1 % 2 := by rw [n4]; simp; omega
          by_cases ho : p.1 % 2 = 1
          · rw [if_pos ho]
            have hz : r.1.getD p.1 0 = 0 := by
              by_cases hz : r.1.getD p.1 0 = 0
              · exact hz
              · exact absurd ⟨ho, hz⟩ hpad
            have hlt : p.1 < r.1.length := by omega
            have e5 : r.1.drop p.1 = [0] := by
              rw [List.drop_eq_getElem_cons hlt, List.drop_eq_nil_of_le (by omega)]
              simp [List.getD, hlt] at hz
              rw [hz]
            conv => lhs; rw [← List.take_append_drop p.1 r.1, e5]
          · rw [if_neg ho, List.append_nil, List.take_of_length_le (by omega)]
        unfold txt
        rw [hlen, e3, List.append_assoc, List.append_assoc]
        conv => lhs; rw [e1, e2]
        conv => lhs; rw [e4]
        rw [List.append_assoc]
    · exact absurd n2 w1
  · right
    rw [if_pos n1]
    refine ⟨n1, n2, rfl, ?_⟩
    intro he
    rcases hw with ⟨_, w2, _⟩ | ⟨w1, _, _, w4⟩
    · exact absurd w2 he
    · show r.2.2 = e
      rw [n4 w1, w4 he]
end
end Go.Proofs.YtplipjijaaejlaaGreat
