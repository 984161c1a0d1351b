/-
  CouBack, part 51 of what it rests on: TakeEnc, TakeBack.
-/
import Derived.Test.YtplipjijaaejlaaGreatS50
import Derived.Test.YtplipjijaaejlaaGreatS37
set_option linter.unusedVariables false
set_option linter.unusedSimpArgs false
set_option maxHeartbeats 64000000
namespace Go.Proofs.YtplipjijaaejlaaGreat
open Go.RowKit
open Go.Lib (hid)
section
/-- What holds of what was taken: enc, the encoding; lv, the levels. -/
structure TkOk (enc : VT → List UInt8) (lv : Nat) (s : TS) (r : VT × TS) : Prop where
  ok : r.2.1.2 = 0 → s.1.1 = enc r.1 ++ r.2.1.1 ∧ r.2.1.1.length + 2 ≤ s.1.1.length
  bad : r.2.1.2 ≠ 0 → r.2.1.1 = []
  le : 2 * r.2.2 + lv * r.2.1.1.length ≤ 2 * s.2 + lv * s.1.1.length + (if r.2.1.2 = 0 then 0 else 2 * (lv + 1))

structure EachOk (e : Nat → VT → List UInt8) (lv j : Nat) (s : TS) (r : List VT × TS) : Prop where
  ok : r.2.1.2 = 0 → r.1.length = j ∧ s.1.1 = partsB (fun i => e i (r.1.getD i zeroV)) j ++ r.2.1.1 ∧ r.2.1.1.length + 2 * j ≤ s.1.1.length
  bad : r.2.1.2 ≠ 0 → r.2.1.1 = []
  le : 2 * r.2.2 + lv * r.2.1.1.length ≤ 2 * s.2 + lv * s.1.1.length + (if r.2.1.2 = 0 then 0 else 2 * (lv + 1))

theorem partsB_congr (g h : Nat → List UInt8) : ∀ j, (∀ i, i < j → g i = h i) → partsB g j = partsB h j
  | 0, _ => rfl
  | j + 1, hh => by rw [partsB_succ, partsB_succ, partsB_congr g h j (fun i hi => hh i (by omega)), hh j (by omega)]

theorem each_ok (g : Nat → TS → VT × TS) (e : Nat → VT → List UInt8) (lv n : Nat) (hg : ∀ i s, i < n → s.1.2 = 0 → TkOk (e i) lv s (g i s)) (s : TS) (h0 : s.1.2 = 0) : ∀ j, j ≤ n → EachOk e lv j s (eachN g j s)
  | 0, _ => ⟨fun _ => ⟨rfl, by simp [eachN, partsB], by simp [eachN]⟩, fun h => absurd h0 h, by simp [eachN, h0]⟩
  | j + 1, hj => by
    obtain ⟨i1, i2, i3⟩ := each_ok g e lv n hg s h0 j (by omega)
    unfold eachN
    by_cases h : (eachN g j s).2.1.2 ≠ 0
    · rw [if_pos h]
      exact ⟨fun h' => absurd h' h, i2, i3⟩
    · rw [if_neg h]
      have h' : (eachN g j s).2.1.2 = 0 := by simpa using h
      obtain ⟨a1, a2, a3⟩ := i1 h'
      obtain ⟨g1, g2, g3⟩ := hg j (eachN g j s).2 (by omega) h'
      rw [if_pos h'] at i3
      refine ⟨fun hh => ?_, g2, ?_⟩
      · obtain ⟨b1, b2⟩ := g1 hh
        refine ⟨by simp [a1], ?_, by show (g j (eachN g j s).2).2.1.1.length + 2 * (j + 1) ≤ s.1.1.length; omega⟩
        rw [partsB_succ]
        have e1 : partsB (fun i => e i (((eachN g j s).1 ++ [(g j (eachN g j s).2).1]).getD i zeroV)) j = partsB (fun i => e i ((eachN g j s).1.getD i zeroV)) j := partsB_congr _ _ j (fun i hi => by
          simp only [List.getD, List.getElem?_append_left (show i < (eachN g j s).1.length by omega)])
        have e2 : ((eachN g j s).1 ++ [(g j (eachN g j s).2).1]).getD j zeroV = (g j (eachN g j s).2).1 := by
          simp only [List.getD]
          rw [List.getElem?_append_right (by omega), a1, Nat.sub_self]
          rfl
        rw [e1, e2, List.append_assoc, ← b1]
        exact a2
      · show 2 * (g j (eachN g j s).2).2.2 + lv * (g j (eachN g j s).2).2.1.1.length ≤ 2 * s.2 + lv * s.1.1.length + (if (g j (eachN g j s).2).2.1.2 = 0 then 0 else 2 * (lv + 1))
        omega

theorem take_two (l : List UInt8) (h : 2 ≤ l.length) : l = be2 (beNum (l.take 2)) ++ l.drop 2 := by
  rw [be2_beNum (l.take 2) (by simp; omega), List.take_append_drop]
theorem take_four (l : List UInt8) (h : 4 ≤ l.length) : l = be4 (beNum (l.take 4)) ++ l.drop 4 := by
  rw [be4_beNum (l.take 4) (by simp; omega), List.take_append_drop]
theorem take_eight (l : List UInt8) (h : 8 ≤ l.length) : l = be8 (beNum (l.take 8)) ++ l.drop 8 := by
  rw [be8_beNum (l.take 8) (by simp; omega), List.take_append_drop]

theorem long_back (x : Nat) (h : x < 4294967296) : (long32 x % 4294967296).toNat = x := by
  unfold long32
  split <;> omega

/-- One value without parts. -/
theorem leaf_ok (enc : VT → List UInt8) (lv : Nat) (hlv : 0 < lv) (s : TS) (v : VT) (st : List UInt8 × Int) (h : (st.2 = 0 ∧ s.1.1 = enc v ++ st.1 ∧ st.1.length + 2 ≤ s.1.1.length) ∨ (st.2 ≠ 0 ∧ st.1 = [])) : TkOk enc lv s (v, (st, s.2 + 1)) := by
  rcases h with ⟨h1, h2, h3⟩ | ⟨h1, h2⟩
  · refine ⟨fun _ => ⟨h2, h3⟩, fun h => absurd h1 h, ?_⟩
    show 2 * (s.2 + 1) + lv * st.1.length ≤ _
    rw [if_pos h1]
    have : lv * (st.1.length + 2) ≤ lv * s.1.1.length := Nat.mul_le_mul_left lv h3
    rw [Nat.mul_add] at this
    omega
  · refine ⟨fun h => absurd h h1, fun _ => h2, ?_⟩
    show 2 * (s.2 + 1) + lv * st.1.length ≤ _
    rw [if_neg h1, h2]
    simp only [List.length_nil, Nat.mul_zero]
    omega

theorem fail_nil (st : List UInt8 × Int) (x : Int) (h0 : st.2 = 0) (hx : x ≠ 0) : (failS st x).2 ≠ 0 ∧ (failS st x).1 = [] := by
  unfold failS
  rw [if_neg (by simp [hx, h0])]
  exact ⟨hx, rfl⟩

theorem take_enc (t : KT) : goodE t → ∀ lv s, s.1.2 = 0 → TkOk (encE t) lv s (takeE t lv s) := by
  induction t with
  | nil => exact fun h => h.elim
  | mk k m ns n of ih =>
    rintro ⟨⟨hn12, hown⟩, hkids⟩ lv s h0
    obtain ⟨hk8, hmost, hone, hparts, hnames, hnone⟩ := own_facts hown
    obtain ⟨⟨l, e⟩, c⟩ := s
    simp only at h0
    subst h0
    have hcl : (0 : Int) ≠ 0 → l = [] := fun h => absurd rfl h
    unfold takeE
    by_cases hb : lv = 0 ∨ 1048576 < c + 1
    · rw [if_pos hb]
      obtain ⟨f1, f2⟩ := fail_nil (l, 0) 6 rfl (by decide)
      refine ⟨fun h => absurd h f1, fun _ => f2, ?_⟩
      show 2 * (c + 1) + lv * (failS (l, 0) 6).1.length ≤ _
      rw [if_neg f1, f2]
      simp only [List.length_nil, Nat.mul_zero]
      omega
    rw [if_neg hb]
    have hlv : 0 < lv := by omega
    clear hb
    rcases (by omega : k = 0 ∨ k = 1 ∨ k = 2 ∨ k = 3 ∨ k = 4 ∨ k = 5 ∨ k = 6 ∨ k = 7 ∨ k = 8) with h | h | h | h | h | h | h | h | h
    · subst h
      rw [if_pos rfl]
      refine leaf_ok _ lv hlv ((l, 0), c) _ _ ?_
      rcases withinS_two l 0 1 hcl with ⟨h1, _, h3, h4, h5, h6⟩ | ⟨h1, h2, _⟩
      · refine .inl ⟨h1, ?_, by rw [h6]; simp; omega⟩
        show l = encE _ (vnum _) ++ _
        simp only [vnum, encE]
        simp
        rw [h6, h4]
        exact take_two l h3
      · exact .inr ⟨h1, h2⟩
    · subst h
      rw [if_neg (by decide), if_pos rfl]
      refine leaf_ok _ lv hlv ((l, 0), c) _ _ ?_
      rcases numS_two l 0 2 hcl with ⟨h1, _, h3, h4, h5⟩ | ⟨h1, h2, _⟩
      · refine .inl ⟨h1, ?_, by rw [h5]; simp; omega⟩
        show l = encE _ (vnum _) ++ _
        simp only [vnum, encE]
        simp
        rw [h5, h4]
        exact take_two l h3
      · exact .inr ⟨h1, h2⟩
    · subst h
      rw [if_neg (by decide), if_neg (by decide), if_pos rfl]
      refine leaf_ok _ lv hlv ((l, 0), c) _ _ ?_
      rcases numS_two l 0 4 hcl with ⟨h1, _, h3, h4, h5⟩ | ⟨h1, h2, _⟩
      · refine .inl ⟨h1, ?_, by rw [h5]; simp; omega⟩
        show l = encE _ (vnum _) ++ _
        have e1 : encE (.mk 2 m ns n of) (vnum (long32 (numS (l, 0) 4).1)) = be4 (long32 (numS (l, 0) 4).1 % 4294967296).toNat := by simp [vnum, encE]
        have hs : (numS (l, 0) 4).1 < 4294967296 := numS_small (l, 0) 4
        rw [e1, long_back _ hs, h5, h4]
        exact take_four l h3
      · exact .inr ⟨h1, h2⟩
    · subst h
      rw [if_neg (by decide), if_neg (by decide), if_neg (by decide), if_pos rfl]
      refine leaf_ok _ lv hlv ((l, 0), c) _ _ ?_
      rcases numS_two l 0 8 hcl with ⟨h1, _, h3, h4, h5⟩ | ⟨h1, h2, _⟩
      · by_cases hc : Fl.canon (numS (l, 0) 8).1 = (numS (l, 0) 8).1
        · rw [if_pos hc]
          refine .inl ⟨h1, ?_, by rw [h5]; simp; omega⟩
          show l = encE _ _ ++ _
          have e1 : encE (.mk 3 m ns n of) (.mk 0 (Fl.canon (numS (l, 0) 8).1) [] 0 (fun _ => .nil)) = be8 (Fl.canon (Fl.canon (numS (l, 0) 8).1)) := by simp [encE]
          rw [e1, hc, hc, h5, h4]
          exact take_eight l h3
        · rw [if_neg hc]
          obtain ⟨f1, f2⟩ := fail_nil (numS (l, 0) 8).2 4 h1 (by decide)
          exact .inr ⟨f1, f2⟩
      · right
        by_cases hc : Fl.canon (numS (l, 0) 8).1 = (numS (l, 0) 8).1
        · rw [if_pos hc]; exact ⟨h1, h2⟩
        · rw [if_neg hc]
          unfold failS
          rw [if_pos (.inr h1)]
          exact ⟨h1, h2⟩
    · subst h
      rw [if_neg (by decide), if_neg (by decide), if_neg (by decide), if_neg (by decide), if_pos rfl]
      refine leaf_ok _ lv hlv ((l, 0), c) _ _ ?_
      rcases textS_two l 0 m hcl with ⟨h1, _, h3, h4, h5⟩ | ⟨h1, h2, _⟩
      · refine .inl ⟨h1, ?_, ?_⟩
        · show l = encE _ _ ++ _
          have e1 : encE (.mk 4 m ns n of) (.mk 0 0 (textS (l, 0) m).1 0 (fun _ => .nil)) = txt (textS (l, 0) m).1 := by simp [encE]
          rw [e1]
          exact h3
        · show (textS (l, 0) m).2.1.length + 2 ≤ l.length
          have := congrArg List.length h3
          unfold txt at this
          simp only [List.length_append, be2_length] at this
          omega
      · exact .inr ⟨h1, h2⟩
    · subst h
      rw [if_neg (by decide), if_neg (by decide), if_neg (by decide), if_neg (by decide), if_neg (by decide), if_pos rfl]
      have hn1 := hone rfl
      rw [if_neg (by omega)]
      obtain ⟨q, rfl⟩ : ∃ q, lv = q + 1 := ⟨lv - 1, by omega⟩
      rw [Nat.add_sub_cancel]
      rcases withinS_two l 0 m hcl with ⟨h1, _, h3, h4, h5, h6⟩ | ⟨h1, h2, h3, _⟩
      · have he := each_ok (fun _ s' => takeE (of 0) q s') (fun _ v => encE (of 0) v) q (withinS (l, 0) m).1 (fun i s' _ hs => ih 0 (hkids 0 (by omega)) q s' hs) ((withinS (l, 0) m).2, c + 1) h1 (withinS (l, 0) m).1 (Nat.le_refl _)
        generalize eachN (fun _ s' => takeE (of 0) q s') (withinS (l, 0) m).1 ((withinS (l, 0) m).2, c + 1) = r at *
        obtain ⟨a1, a2, a3⟩ := he
        simp only at a1 a3
        have hlen : (withinS (l, 0) m).2.1.length + 2 = l.length := by rw [h6]; simp; omega
        have hq : q * (withinS (l, 0) m).2.1.length ≤ q * l.length := Nat.mul_le_mul_left q (by omega)
        refine ⟨fun h => ?_, a2, ?_⟩
        · obtain ⟨b1, b2, b3⟩ := a1 h
          refine ⟨?_, by show r.2.1.1.length + 2 ≤ l.length; omega⟩
          show l = encE _ (partsV r.1) ++ r.2.1.1
          unfold partsV
          rw [encE_seq 5 m ns n of 0 0 [] r.1.length _ rfl, b1, List.append_assoc]
          simp only [if_pos]
          rw [← b2, h6, h4]
          exact take_two l h3
        · show 2 * r.2.2 + (q + 1) * r.2.1.1.length ≤ 2 * c + (q + 1) * l.length + (if r.2.1.2 = 0 then 0 else 2 * (q + 1 + 1))
          simp only [Nat.add_mul, Nat.one_mul]
          by_cases h : r.2.1.2 = 0
          · obtain ⟨b1, b2, b3⟩ := a1 h
            rw [if_pos h] at a3 ⊢
            omega
          · rw [if_neg h] at a3 ⊢
            rw [a2 h] at a3 ⊢
            simp only [List.length_nil, Nat.mul_zero] at a3 ⊢
            omega
      · rw [h3]
        refine ⟨fun h => absurd h h1, fun _ => h2, ?_⟩
        show 2 * (c + 1) + (q + 1) * (withinS (l, 0) m).2.1.length ≤ 2 * c + (q + 1) * l.length + (if (withinS (l, 0) m).2.2 = 0 then 0 else 2 * (q + 1 + 1))
        rw [if_neg h1, h2]
        simp only [List.length_nil, Nat.mul_zero]
        omega
    · subst h
      rw [if_neg (by decide), if_neg (by decide), if_neg (by decide), if_neg (by decide), if_neg (by decide), if_neg (by decide), if_pos rfl]
      obtain ⟨q, rfl⟩ : ∃ q, lv = q + 1 := ⟨lv - 1, by omega⟩
      rw [Nat.add_sub_cancel]
      have hnn := hparts (.inl rfl)
      have hns := hnames (.inl rfl)
      have he := each_ok (fun i s' => takeE (of i) q s') (fun i v => encE (of i) v) q n (fun i s' hi hs => ih i (hkids i hi) q s' hs) ((l, 0), c + 1) rfl n (Nat.le_refl _)
      generalize eachN (fun i s' => takeE (of i) q s') n ((l, 0), c + 1) = r at *
      obtain ⟨a1, a2, a3⟩ := he
      simp only at a1 a3
      refine ⟨fun h => ?_, a2, ?_⟩
      · obtain ⟨b1, b2, b3⟩ := a1 h
        refine ⟨?_, by show r.2.1.1.length + 2 ≤ l.length; omega⟩
        show l = encE _ (partsV r.1) ++ r.2.1.1
        unfold partsV
        rw [encE_rec 6 m ns n of 0 0 [] r.1.length _ rfl, b1]
        exact b2
      · show 2 * r.2.2 + (q + 1) * r.2.1.1.length ≤ 2 * c + (q + 1) * l.length + (if r.2.1.2 = 0 then 0 else 2 * (q + 1 + 1))
        simp only [Nat.add_mul, Nat.one_mul]
        by_cases h : r.2.1.2 = 0
        · obtain ⟨b1, b2, b3⟩ := a1 h
          rw [if_pos h] at a3 ⊢
          omega
        · rw [if_neg h] at a3 ⊢
          rw [a2 h] at a3 ⊢
          simp only [List.length_nil, Nat.mul_zero] at a3 ⊢
          omega
    · subst h
      rw [if_neg (by decide), if_neg (by decide), if_neg (by decide), if_neg (by decide), if_neg (by decide), if_neg (by decide), if_neg (by decide), if_pos rfl]
      refine leaf_ok _ lv hlv ((l, 0), c) _ _ ?_
      rcases withinS_two l 0 ((ns.length : Int) - 1) hcl with ⟨h1, _, h3, h4, h5, h6⟩ | ⟨h1, h2, _⟩
      · refine .inl ⟨h1, ?_, by rw [h6]; simp; omega⟩
        show l = encE _ (vnum _) ++ _
        simp only [vnum, encE]
        simp
        rw [h6, h4]
        exact take_two l h3
      · exact .inr ⟨h1, h2⟩
    · subst h
      rw [if_neg (by decide), if_neg (by decide), if_neg (by decide), if_neg (by decide), if_neg (by decide), if_neg (by decide), if_neg (by decide), if_neg (by decide), if_pos rfl]
      obtain ⟨q, rfl⟩ : ∃ q, lv = q + 1 := ⟨lv - 1, by omega⟩
      rw [Nat.add_sub_cancel]
      rcases withinS_two l 0 ((n : Int) - 1) hcl with ⟨h1, _, h3, h4, h5, h6⟩ | ⟨h1, h2, _⟩
      · rw [if_neg (by simpa using h1)]
        have he := ih (withinS (l, 0) ((n : Int) - 1)).1 (hkids _ (by omega)) q ((withinS (l, 0) ((n : Int) - 1)).2, c + 1) h1
        obtain ⟨a1, a2, a3⟩ := he
        have hlen : (withinS (l, 0) ((n : Int) - 1)).2.1.length + 2 = l.length := by rw [h6]; simp; omega
        generalize takeE (of (withinS (l, 0) ((n : Int) - 1)).1) q ((withinS (l, 0) ((n : Int) - 1)).2, c + 1) = r at *
        simp only at a1 a3
        have hq : q * (withinS (l, 0) ((n : Int) - 1)).2.1.length ≤ q * l.length := Nat.mul_le_mul_left q (by omega)
        refine ⟨fun h => ?_, a2, ?_⟩
        · obtain ⟨b1, b2⟩ := a1 h
          refine ⟨?_, by show r.2.1.1.length + 2 ≤ l.length; omega⟩
          show l = encE _ (.mk _ 0 [] 1 (fun _ => r.1)) ++ r.2.1.1
          rw [encE_cho 8 m ns n of _ 0 [] _ rfl, Int.toNat_natCast, List.append_assoc, ← b1, h6, h4]
          exact take_two l h3
        · show 2 * r.2.2 + (q + 1) * r.2.1.1.length ≤ 2 * c + (q + 1) * l.length + (if r.2.1.2 = 0 then 0 else 2 * (q + 1 + 1))
          simp only [Nat.add_mul, Nat.one_mul]
          by_cases h : r.2.1.2 = 0
          · obtain ⟨b1, b2⟩ := a1 h
            rw [if_pos h] at a3 ⊢
            omega
          · rw [if_neg h] at a3 ⊢
            rw [a2 h] at a3 ⊢
            simp only [List.length_nil, Nat.mul_zero] at a3 ⊢
            omega
      · rw [if_pos h1]
        refine ⟨fun h => absurd h h1, fun _ => h2, ?_⟩
        show 2 * (c + 1) + (q + 1) * (withinS (l, 0) ((n : Int) - 1)).2.1.length ≤ 2 * c + (q + 1) * l.length + (if (withinS (l, 0) ((n : Int) - 1)).2.2 = 0 then 0 else 2 * (q + 1 + 1))
        rw [if_neg h1, h2]
        simp only [List.length_nil, Nat.mul_zero]
        omega

/-- Of a good type: what Take wants. -/
theorem take_small (t : KT) (hg : goodE t) (l : List UInt8) (hl : l.length ≤ 4000) : szV (takeE t 20 ((l, 0), 0)).1 ≤ 100000 := by
  have h1 := take_sz t (good_real t hg) 20 ((l, 0), 0) rfl
  have h2 := (take_enc t hg 20 ((l, 0), 0) rfl).le
  simp only at h1 h2
  split at h2 <;> omega
end
section
theorem tb_pre (p rest : List UInt8) (e : Int) : nextS (p ++ rest, e) p.length = (p, (rest, e)) := by
  unfold nextS
  rw [if_neg (by simp)]
  simp
theorem tb_be2 (n : Nat) (h : n < 65536) (rest : List UInt8) (e : Int) : numS (be2 n ++ rest, e) 2 = (n, (rest, e)) := by
  unfold numS
  rw [show (2 : Nat) = (be2 n).length from rfl, tb_pre, beNum_be2 n h]
theorem tb_be4 (n : Nat) (h : n < 4294967296) (rest : List UInt8) (e : Int) : numS (be4 n ++ rest, e) 4 = (n, (rest, e)) := by
  unfold numS
  rw [show (4 : Nat) = (be4 n).length from rfl, tb_pre, beNum_be4 n h]
theorem tb_be8 (n : Nat) (h : n < 18446744073709551616) (rest : List UInt8) (e : Int) : numS (be8 n ++ rest, e) 8 = (n, (rest, e)) := by
  unfold numS
  rw [show (8 : Nat) = (be8 n).length from rfl, tb_pre, beNum_be8 n h]
theorem tb_within (n : Nat) (h : n < 65536) (rest : List UInt8) (most : Int) (hm : (n : Int) ≤ most) (e : Int) : withinS (be2 n ++ rest, e) most = (n, (rest, e)) := by
  unfold withinS
  rw [tb_be2 n h, if_neg (by show ¬ most < (n : Int); omega)]
theorem tb_text (s rest : List UInt8) (h : s.length < 65536) (most : Int) (hm : (s.length : Int) ≤ most) : textS (txt s ++ rest, 0) most = (s, (rest, 0)) := by
  unfold textS txt
  have hw : withinS (be2 s.length ++ s ++ (if s.length % 2 = 1 then [0] else []) ++ rest, 0) most = (s.length, (s ++ (if s.length % 2 = 1 then [0] else []) ++ rest, 0)) := by
    rw [List.append_assoc, List.append_assoc, tb_within s.length h _ most hm, List.append_assoc]
  rw [hw]
  by_cases ho : s.length % 2 = 1
  · rw [if_pos ho]
    have hn : nextS (s ++ [0] ++ rest, 0) (s.length + s.length % 2) = (s ++ [0], (rest, 0)) := by
      rw [ho, show s.length + 1 = (s ++ [(0 : UInt8)]).length by simp, tb_pre]
    simp only [hn]
    simp
  · rw [if_neg ho]
    have hn : nextS (s ++ [] ++ rest, 0) (s.length + s.length % 2) = (s, (rest, 0)) := by
      rw [show s.length % 2 = 0 by omega, Nat.add_zero, List.append_nil, tb_pre]
    simp only [hn]
    simp [ho]

def sumN (z : Nat → Nat) (j : Nat) : Nat := ((List.range j).map z).sum
theorem sumN_succ (z : Nat → Nat) (j : Nat) : sumN z (j + 1) = sumN z j + z j := by
  unfold sumN; rw [List.range_succ, List.map_append, List.sum_append]; simp

theorem each_back (g : Nat → TS → VT × TS) (e : Nat → List UInt8) (z : Nat → Nat) (P : Nat → VT → Prop) (n : Nat)
    (hg : ∀ i c rest, i < n → c + z i ≤ 1048576 → ∃ v, g i ((e i ++ rest, 0), c) = (v, ((rest, 0), c + z i)) ∧ P i v) :
    ∀ j, j ≤ n → ∀ c rest, c + sumN z j ≤ 1048576 → ∃ L, eachN g j ((partsB e j ++ rest, 0), c) = (L, ((rest, 0), c + sumN z j)) ∧ L.length = j ∧ ∀ i, i < j → P i (L.getD i zeroV)
  | 0, _, c, rest, _ => ⟨[], by simp [eachN, partsB, sumN], rfl, fun i hi => by omega⟩
  | j + 1, hj, c, rest, hc => by
    rw [sumN_succ] at hc ⊢
    obtain ⟨L, h1, h2, h3⟩ := each_back g e z P n hg j (by omega) c (e j ++ rest) (by omega)
    obtain ⟨v, h4, h5⟩ := hg j (c + sumN z j) rest (by omega) (by omega)
    refine ⟨L ++ [v], ?_, by simp [h2], fun i hi => ?_⟩
    · unfold eachN
      rw [partsB_succ, List.append_assoc, h1]
      simp only [ne_eq, not_true_eq_false, if_false, h4, Nat.add_assoc]
    · by_cases h : i < j
      · have := h3 i h
        simp only [List.getD, List.getElem?_append_left (show i < L.length by omega)]
        simpa [List.getD] using this
      · obtain rfl : i = j := by omega
        simp only [List.getD]
        rw [List.getElem?_append_right (by omega), h2, Nat.sub_self]
        exact h5

theorem take_back (t : KT) : goodE t → ∀ lv T c rest, hasE t lv = true → isE t T = true → VBs T → c + szV T ≤ 1048576 →
    ∃ T', takeE t lv ((encE t T ++ rest, 0), c) = (T', ((rest, 0), c + szV T)) ∧ sameV T T' = true ∧ isE t T' = true := by
  induction t with
  | nil => exact fun h => h.elim
  | mk k m ns n of ih =>
    rintro ⟨⟨hn12, hown⟩, hkids⟩ lv T c rest hh hi hb hc
    obtain ⟨hk8, hmost, hone, hparts, hnames, hnone⟩ := own_facts hown
    cases T with
    | nil => cases hi
    | mk N f s d ov =>
    obtain ⟨i1, i2, i3, i4, i5, i6, i7, i8, i9, i10⟩ := (isE_iff k m ns n of N f s d ov).1 hi
    obtain ⟨b1, b2⟩ := hb
    rw [hasE] at hh
    split at hh
    · cases hh
    rename_i hlv
    rw [List.all_eq_true] at hh
    have hsub : ∀ i, i < n → hasE (of i) (lv - 1) = true := fun i hi => hh i (List.mem_range.2 hi)
    obtain ⟨q, rfl⟩ : ∃ q, lv = q + 1 := ⟨lv - 1, by omega⟩
    rw [Nat.add_sub_cancel] at hsub
    have hsz : szV (.mk N f s d ov) = 1 + sumN (fun i => szV (ov i)) d := by rw [szV]; rfl
    rw [hsz] at hc ⊢
    have same0 : ∀ (N' : Int) f' s' d' (ov' : Nat → VT), N = N' → Fl.canon f = Fl.canon f' → s = s' → d = d' → (∀ i, i < d → sameV (ov i) (ov' i) = true) → sameV (.mk N f s d ov) (.mk N' f' s' d' ov') = true := by
      intro N' f' s' d' ov' a1 a2 a3 a4 a5
      subst a1 a3 a4
      rw [sameV, a2]
      simp only [decide_true, Bool.true_and, List.all_eq_true, List.mem_range]
      exact a5
    unfold takeE
    rw [if_neg (by show ¬ (q + 1 = 0 ∨ 1048576 < c + 1); omega), Nat.add_sub_cancel]
    clear hh hown hlv
    rcases (by omega : k = 0 ∨ k = 1 ∨ k = 2 ∨ k = 3 ∨ k = 4 ∨ k = 5 ∨ k = 6 ∨ k = 7 ∨ k = 8) with h | h | h | h | h | h | h | h | h
    · subst h
      obtain rfl : d = 0 := i3 (by omega)
      simp [lowE, highE] at i4 i5
      have e1 : encE (.mk 0 m ns n of) (.mk N f s 0 ov) = be2 N.toNat := by simp [encE]
      rw [if_pos rfl, e1, tb_within N.toNat (by omega) rest 1 (by omega) 0]
      refine ⟨_, rfl, same0 _ _ _ _ _ (by omega) (by rw [i1 (by omega), canon0]) (i2 (by omega)) rfl (fun i hi => by omega), ?_⟩
      rw [vnum, isE_iff]
      simp [lowE, highE, canon0]
      omega
    · subst h
      obtain rfl : d = 0 := i3 (by omega)
      simp [lowE, highE] at i4 i5
      have e1 : encE (.mk 1 m ns n of) (.mk N f s 0 ov) = be2 N.toNat := by simp [encE]
      rw [if_neg (by decide), if_pos rfl, e1, tb_be2 N.toNat (by omega) rest 0]
      refine ⟨_, rfl, same0 _ _ _ _ _ (by omega) (by rw [i1 (by omega), canon0]) (i2 (by omega)) rfl (fun i hi => by omega), ?_⟩
      rw [vnum, isE_iff]
      simp [lowE, highE, canon0]
      omega
    · subst h
      obtain rfl : d = 0 := i3 (by omega)
      simp [lowE, highE] at i4 i5
      have e1 : encE (.mk 2 m ns n of) (.mk N f s 0 ov) = be4 (N % 4294967296).toNat := by simp [encE]
      have e2 : long32 (N % 4294967296).toNat = N := by unfold long32; split <;> omega
      rw [if_neg (by decide), if_neg (by decide), if_pos rfl, e1, tb_be4 (N % 4294967296).toNat (by omega) rest 0]
      simp only [e2]
      refine ⟨_, rfl, same0 _ _ _ _ _ rfl (by rw [i1 (by omega), canon0]) (i2 (by omega)) rfl (fun i hi => by omega), ?_⟩
      rw [vnum, isE_iff]
      simp [lowE, highE, canon0]
      omega
    · subst h
      obtain rfl : d = 0 := i3 (by omega)
      simp [lowE, highE] at i4 i5
      have e1 : encE (.mk 3 m ns n of) (.mk N f s 0 ov) = be8 (Fl.canon f) := by simp [encE]
      rw [if_neg (by decide), if_neg (by decide), if_neg (by decide), if_pos rfl, e1, tb_be8 (Fl.canon f) (Fl.canon_lt b1) rest 0]
      simp only [Fl.canon_canon, if_pos]
      refine ⟨_, rfl, same0 _ _ _ _ _ (by omega) (by rw [Fl.canon_canon]) (i2 (by omega)) rfl (fun i hi => by omega), ?_⟩
      rw [isE_iff]
      simp [lowE, highE]
    · subst h
      obtain rfl : d = 0 := i3 (by omega)
      simp [lowE, highE] at i4 i5
      have h60 := hmost (.inl rfl)
      have hsl := i6 rfl
      have e1 : encE (.mk 4 m ns n of) (.mk N f s 0 ov) = txt s := by simp [encE]
      rw [if_neg (by decide), if_neg (by decide), if_neg (by decide), if_neg (by decide), if_pos rfl, e1, tb_text s rest (by omega) m hsl]
      refine ⟨_, rfl, same0 _ _ _ _ _ (by omega) (by rw [i1 (by omega), canon0]) rfl rfl (fun i hi => by omega), ?_⟩
      rw [isE_iff]
      simp [lowE, highE, canon0]
      exact hsl
    · subst h
      have h60 := hmost (.inr rfl)
      have hn1 := hone rfl
      have hd := i7 rfl
      simp [lowE, highE] at i4 i5
      rw [if_neg (by decide), if_neg (by decide), if_neg (by decide), if_neg (by decide), if_neg (by decide), if_pos rfl, if_neg (by omega), encE_seq 5 m ns n of N f s d ov rfl]
      simp only [if_pos, List.append_assoc]
      rw [tb_within d (by omega) _ m hd 0]
      obtain ⟨L, h1, h2, h3⟩ := each_back (fun _ s' => takeE (of 0) q s') (fun i => encE (of 0) (ov i)) (fun i => szV (ov i)) (fun i v => sameV (ov i) v = true ∧ isE (of 0) v = true) d
        (fun i c' rest' hi' hc' => ih 0 (hkids 0 (by omega)) q (ov i) c' rest' (hsub 0 (by omega)) (by simpa using i10 i hi') (b2 i hi') hc') d (Nat.le_refl _) (c + 1) rest (by omega)
      simp only [h1]
      refine ⟨partsV L, by rw [Nat.add_assoc], same0 _ _ _ _ _ (by omega) (by rw [i1 (by omega), canon0]) (i2 (by omega)) h2.symm (fun i hi => (h3 i hi).1), ?_⟩
      unfold partsV
      rw [isE_iff]
      simp [lowE, highE, canon0]
      exact ⟨by omega, fun i hi => by have := (h3 i (by omega)).2; simpa [List.getD] using this⟩
    · subst h
      have hdn := i8 rfl
      simp [lowE, highE] at i4 i5
      rw [if_neg (by decide), if_neg (by decide), if_neg (by decide), if_neg (by decide), if_neg (by decide), if_neg (by decide), if_pos rfl, encE_rec 6 m ns n of N f s d ov rfl]
      subst hdn
      simp only [show ((6 : Nat) = 5) = False from by simp, if_false]
      obtain ⟨L, h1, h2, h3⟩ := each_back (fun i s' => takeE (of i) q s') (fun i => encE (of i) (ov i)) (fun i => szV (ov i)) (fun i v => sameV (ov i) v = true ∧ isE (of i) v = true) d
        (fun i c' rest' hi' hc' => ih i (hkids i hi') q (ov i) c' rest' (hsub i hi') (by simpa using i10 i hi') (b2 i hi') hc') d (Nat.le_refl _) (c + 1) rest (by omega)
      simp only [h1]
      refine ⟨partsV L, by rw [Nat.add_assoc], same0 _ _ _ _ _ (by omega) (by rw [i1 (by omega), canon0]) (i2 (by omega)) h2.symm (fun i hi => (h3 i hi).1), ?_⟩
      unfold partsV
      rw [isE_iff]
      simp [lowE, highE, canon0]
      exact ⟨h2, fun i hi => by have := (h3 i (by omega)).2; simpa [List.getD] using this⟩
    · subst h
      obtain rfl : d = 0 := i3 (by omega)
      have hns := hnames (.inr (.inl rfl))
      simp [lowE, highE] at i4 i5
      have e1 : encE (.mk 7 m ns n of) (.mk N f s 0 ov) = be2 N.toNat := by simp [encE]
      rw [if_neg (by decide), if_neg (by decide), if_neg (by decide), if_neg (by decide), if_neg (by decide), if_neg (by decide), if_neg (by decide), if_pos rfl, e1, tb_within N.toNat (by omega) rest _ (by omega) 0]
      refine ⟨_, rfl, same0 _ _ _ _ _ (by omega) (by rw [i1 (by omega), canon0]) (i2 (by omega)) rfl (fun i hi => by omega), ?_⟩
      rw [vnum, isE_iff]
      simp [lowE, highE, canon0]
      omega
    · subst h
      obtain rfl : d = 1 := i9 rfl
      have hns := hnames (.inr (.inr rfl))
      have hnn := hparts (.inr rfl)
      simp [lowE, highE] at i4 i5
      rw [if_neg (by decide), if_neg (by decide), if_neg (by decide), if_neg (by decide), if_neg (by decide), if_neg (by decide), if_neg (by decide), if_neg (by decide), if_pos rfl, encE_cho 8 m ns n of N f s ov rfl, List.append_assoc, tb_within N.toNat (by omega) _ _ (by omega) 0]
      have hs1 : sumN (fun i => szV (ov i)) 1 = szV (ov 0) := by simp [sumN]
      rw [hs1] at hc ⊢
      have hi0 : isE (of N.toNat) (ov 0) = true := by simpa using i10 0 (by omega)
      obtain ⟨v, h1, h2, h3⟩ := ih N.toNat (hkids _ (by omega)) q (ov 0) (c + 1) rest (hsub _ (by omega)) hi0 (b2 0 (by omega)) (by omega)
      simp only [h1]
      refine ⟨.mk (N.toNat : Int) 0 [] 1 (fun _ => v), by simp [Nat.add_assoc], same0 _ _ _ _ _ (by omega) (by rw [i1 (by omega), canon0]) (i2 (by omega)) rfl (fun i hi => by (obtain rfl : i = 0 := by omega); exact h2), ?_⟩
      rw [isE_iff]
      refine ⟨fun _ => canon0, fun _ => rfl, fun h => by omega, by simp [lowE]; omega, by simp [highE]; omega, fun h => by omega, fun h => by omega, fun h => by omega, fun _ => rfl, fun i hi => ?_⟩
      simp only [show ((8 : Nat) = 6) = False from by simp, if_false, if_pos, Int.toNat_natCast]
      exact h3

/-- A value's own bytes are taken, and it is the same. -/
theorem back_err (t : KT) (hg : goodE t) (T : VT) (hi : isVal t T = true) (hb : VBs T) (hsz : szV T ≤ 100000) : takeErr t (encE t T) = 0 ∧ sameV T (takeE t 20 ((encE t T, 0), 0)).1 = true := by
  have hv := hi
  unfold isVal at hv
  rw [Bool.and_eq_true, fits_is t hg] at hv
  obtain ⟨T', h1, h2, h3⟩ := take_back t hg 20 T 0 [] hv.1 hv.2 hb (by omega)
  rw [List.append_nil] at h1
  refine ⟨?_, by rw [h1]; exact h2⟩
  unfold takeErr
  rw [h1]
  have h4 : valE t T' = 0 := by
    unfold valE isVal
    rw [fits_is t hg, hv.1, h3]
    rfl
  simp [h4]
end
end Go.Proofs.YtplipjijaaejlaaGreat
