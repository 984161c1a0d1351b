/-
  LexJoins: for every two slices of numbers the law returns true, and the slices read as before.
-/
import Derived.Test.YtdhjelilmccmbaaLexText
import Derived.Test.YtdhjelilmccmbaaLexPlaceMath
namespace Go.Proofs.Ytdhjelilmccmbaa
open Go.RowKit

/-- Where the cells of a row of tokens lie, in whatever later world. -/
def ToksAt (w : World) (g : Nat) (ts : List Tok) : Prop := g < w.heap.size ∧ ∀ i t, ts[i]? = some t →
    w.cell? ⟨g, i * 3, none⟩ = some (.int .u8 t.kind) ∧ w.cell? ⟨g, i * 3 + 1, none⟩ = some (.int .i64 t.pos) ∧ w.cell? ⟨g, i * 3 + 2, none⟩ = some (.string ⟨t.text.toArray⟩)

theorem ToksAt.fr {w w' : World} {g : Nat} {ts : List Tok} (h : ToksAt w g ts) (hf : Fr (fun _ => False) w w') : ToksAt w' g ts :=
  ⟨Nat.lt_of_lt_of_le h.1 hf.size, fun i t hi => by
    have hc := h.2 i t hi
    exact ⟨by rw [hf.cell (p := ⟨g, i * 3, none⟩) h.1 (fun h => h)]; exact hc.1, by rw [hf.cell (p := ⟨g, i * 3 + 1, none⟩) h.1 (fun h => h)]; exact hc.2.1, by rw [hf.cell (p := ⟨g, i * 3 + 2, none⟩) h.1 (fun h => h)]; exact hc.2.2⟩⟩

theorem Told.at {w w' : World} {v : Value} {ts : List Tok} (h : Told w w' v ts) (hne : 1 ≤ ts.length) : ∃ g cap, v = .slice (some ⟨g, 0, none⟩) ts.length cap ∧ ts.length ≤ cap ∧ ToksAt w' g ts := by
  obtain ⟨g, cap, e, hc, hg, hcc⟩ := h.1.cells (by intro h; subst h; simp at hne)
  exact ⟨g, cap, e, hc, hg, hcc⟩

theorem Told.none {w w' : World} {v : Value} (h : Told w w' v []) : ∃ a c, v = .slice a 0 c := slice_of_own h.1

theorem nl_last (l : List UInt8) (h : l ++ [10] ≠ []) : (l ++ [10]).getLast h = 10 := by simp

/-- What two texts are together, the first of which ends with a line's end. -/
theorem lexA_two (x y : ByteArray) : lexA 0 ((x ++ (⟨#[10]⟩ : ByteArray)) ++ y).data.toList = (lexA 0 (x ++ (⟨#[10]⟩ : ByteArray)).data.toList).andThen ((lexA 0 y.data.toList).shift (x.size + 1)) := by
  have e : ((x ++ (⟨#[10]⟩ : ByteArray)) ++ y).data.toList = (x.data.toList ++ [10]) ++ y.data.toList := by simp [ByteArray.data_append]
  have e2 : (x ++ (⟨#[10]⟩ : ByteArray)).data.toList = x.data.toList ++ [10] := by simp [ByteArray.data_append]
  have hl : x.data.toList.length = x.size := rfl
  rw [e, e2, lexA_append _ (x.data.toList ++ [10]) y.data.toList (Nat.le_refl _) 0 (fun h => nl_last _ h), Nat.zero_add, lexA_shift0 y.data.toList, List.length_append, hl]
  rfl

theorem Res.where_err (p e : Nat) : (Res.err p e).where_ = p := rfl
theorem Res.where_ok (ts : List Tok) : (Res.ok ts).where_ = 0 := rfl
theorem Res.code_err (p e : Nat) : (Res.err p e).code = e := rfl
theorem Res.code_ok (ts : List Tok) : (Res.ok ts).code = 0 := rfl
theorem Res.toks_ok (ts : List Tok) : (Res.ok ts).toks = ts := rfl

set_option maxRecDepth 100000 in
set_option maxHeartbeats 4000000 in
theorem joins_some (v1 v2 : Value) (l1 l2 : List UInt8) (hl1 : l1.length ≤ 60) (hl2 : l2.length ≤ 60) (w : World) (h1 : Sees w v1 l1) (h2 : Sees w v2 l2) :
    Calls Try.prog 4 #[v1, v2] w fun e w' => e = .returned (.bool true) ∧ Fr (fun _ => False) w w' := by
  obtain ⟨a1, c1, rfl, _⟩ := h1.shape
  obtain ⟨a2, c2, rfl, _⟩ := h2.shape
  have H1 := Lib.hid h1
  have H2 := Lib.hid h2
  clear h1 h2
  go_enter Try.func4, Try.ntmps4
  go_wp2_with fail
  refine (awake_any _).mono ?_
  rintro e w1 ⟨rfl, f1⟩
  go_wp2_with fail
  refine (text_any _ _ l1 [] (by omega) w1 (H1.out.fr f1 (fun _ _ h => h)) (sees_none _)).mono ?_
  rintro e w2 ⟨x, rfl, hx, f2⟩
  have F2 := f1.trans f2 (fun _ _ h => h)
  clear f1 f2
  go_wp2_with fail
  refine (text_any _ _ l2 [] (by omega) w2 (H2.out.fr F2 (fun _ _ h => h)) (sees_none _)).mono ?_
  rintro e w3 ⟨y, rfl, hy, f3⟩
  have F3 := F2.trans f3 (fun _ _ h => h)
  clear F2 f3
  have hr3 := lexA_two x y
  have hxs : (x ++ (⟨#[10]⟩ : ByteArray)).size = x.size + 1 := by rw [ByteArray.size_append]; rfl
  have hxys : (x ++ (⟨#[10]⟩ : ByteArray) ++ y).size = x.size + 1 + y.size := by rw [ByteArray.size_append, hxs]
  obtain ⟨X, hX⟩ : ∃ X, X = x ++ (⟨#[10]⟩ : ByteArray) := ⟨_, rfl⟩
  obtain ⟨XY, hXY⟩ : ∃ XY, XY = X ++ y := ⟨_, rfl⟩
  rw [← hX] at hr3 hxs hxys
  rw [← hXY] at hr3 hxys
  have HX := Lib.hid hX
  have HXY := Lib.hid hXY
  have hX4 : X.size ≤ 1000 := by omega
  have hXY4 : XY.size ≤ 2000 := by omega
  have HS := Lib.hid hxs
  have HS2 := Lib.hid hxys
  clear hX hXY hxs hxys
  obtain ⟨r1, hr1⟩ : ∃ r, r = lexA 0 X.data.toList := ⟨_, rfl⟩
  obtain ⟨r2, hr2⟩ : ∃ r, r = lexA 0 y.data.toList := ⟨_, rfl⟩
  obtain ⟨r3, hr3'⟩ : ∃ r, r = lexA 0 XY.data.toList := ⟨_, rfl⟩
  rw [← hr1, ← hr2, ← hr3'] at hr3
  have R1 := Lib.hid hr1
  have R2 := Lib.hid hr2
  have R3 := Lib.hid hr3'
  have R := Lib.hid hr3
  clear hr1 hr2 hr3 hr3'
  go_wp2_with fail
  rw [← HX.out]
  refine (split_small X (by omega) w3).mono ?_
  rintro e w4 ⟨u1, rfl, hT1⟩
  rw [← R1.out] at hT1 ⊢
  have T1 := Lib.hid hT1
  clear hT1
  go_wp2_with fail
  refine (split_small y (by omega) w4).mono ?_
  rintro e w5 ⟨u2, rfl, hT2⟩
  rw [← R2.out] at hT2 ⊢
  have T2 := Lib.hid hT2
  clear hT2
  go_wp2_with fail
  rw [← HXY.out]
  refine (split_small XY (by omega) w5).mono ?_
  rintro e w6 ⟨u3, rfl, hT3⟩
  rw [← R3.out] at hT3 ⊢
  have T3 := Lib.hid hT3
  clear hT3
  have F6 := ((F3.trans T1.out.2.1 (fun _ _ h => h)).trans T2.out.2.1 (fun _ _ h => h)).trans T3.out.2.1 (fun _ _ h => h)
  cases r1 with
  | err p er =>
    have hr := R.out
    have her := (lexA_code _ _ (Nat.le_refl _) _ _ _ R1.out.symm).1
    simp only [Res.andThen] at hr
    subst hr
    simp only [Res.where_err, Res.code_err]
    have e1 : ((er : Int) == 0) = false := by simp; omega
    have e5 : ((er : Int) != 0) = true := by simp; omega
    have e2 : (er : Int) ≤ 22 := by omega
    have e3 : (1 : Int) ≤ er := by omega
    clear her
    go_wp2
    go_ret
    exact ⟨by simp, F6⟩
  | ok ts =>
    cases r2 with
    | err p er =>
      have hr := R.out
      have her := (lexA_code _ _ (Nat.le_refl _) _ _ _ R2.out.symm)
      have hyl : y.data.toList.length = y.size := rfl
      rw [hyl] at her
      simp only [Res.andThen, Res.shift, Res.pre] at hr
      subst hr
      obtain ⟨a3, c3, rfl⟩ := T3.out.none
      simp only [Res.where_err, Res.code_err, Res.where_ok, Res.code_ok]
      have e1 : ((er : Int) == 0) = false := by simp; omega
      have e5 : ((er : Int) != 0) = true := by simp; omega
      have e2 : (er : Int) ≤ 22 := by omega
      have e3 : (1 : Int) ≤ er := by omega
      have e4 : (p : Int) ≤ 1000 := by omega
      obtain ⟨q, hq⟩ : ∃ q, q = p + (x.size + 1) := ⟨_, rfl⟩
      have hq2 : (p : Int) + (X.size : Int) = (q : Int) := by rw [HS.out]; omega
      rw [← hq]
      clear her hyl hq
      go_wp2
      go_ret
      exact ⟨by simp, F6⟩
    | ok us =>
      have hr := R.out
      simp only [Res.andThen, Res.shift, Res.pre] at hr
      subst hr
      simp only [Res.where_ok, Res.code_ok, Res.toks_ok] at *
      have n1 := lexA_ne _ _ (Nat.le_refl _) _ _ R1.out.symm
      have n2 := lexA_ne _ _ (Nat.le_refl _) _ _ R2.out.symm
      have m1 := lexA_size _ _ (Nat.le_refl _) _ _ R1.out.symm
      have m2 := lexA_size _ _ (Nat.le_refl _) _ _ R2.out.symm
      have hxl : X.data.toList.length = X.size := rfl
      have hyl : y.data.toList.length = y.size := rfl
      rw [hxl] at m1
      rw [hyl] at m2
      obtain ⟨vs, hvs⟩ : ∃ vs, vs = ts.take (ts.length - 1) ++ us.map (Tok.shift (x.size + 1)) := ⟨_, rfl⟩
      rw [← hvs] at T3
      have hvl : vs.length = ts.length - 1 + us.length := by rw [hvs, List.length_append, List.length_take, List.length_map]; omega
      have V1 : Hid (∀ j t, j + 1 < ts.length → vs[j]? = some t → ts[j]? = some t) := Lib.hid fun j t hj ht => by
        rw [hvs, List.getElem?_append_left (by rw [List.length_take]; omega), List.getElem?_take, if_pos (by omega)] at ht
        exact ht
      have V2 : Hid (∀ j q t, q + (ts.length - 1) = j → vs[j]? = some t → ∃ u, us[q]? = some u ∧ t = u.shift (x.size + 1)) := Lib.hid fun j q t hj ht => by
        rw [hvs, List.getElem?_append_right (by rw [List.length_take]; omega), List.length_take, Nat.min_eq_left (by omega), List.getElem?_map] at ht
        rw [show j - (ts.length - 1) = q by omega] at ht
        cases hu : us[q]? with
        | none => rw [hu] at ht; simp at ht
        | some u => rw [hu] at ht; exact ⟨u, rfl, by simpa using ht.symm⟩
      have PL : Hid (∀ (q : Nat) (u : Tok), us[q]? = some u → u.pos ≤ y.size) := Lib.hid fun q u hu => by
        have := ((lexA_places _ y.data.toList 0 (Nat.zero_le _) (Nat.le_refl _) us R2.out.symm).1 q u hu).hi
        rw [hyl] at this
        omega
      obtain ⟨g1, cap1, rfl, hc1, A1⟩ := T1.out.at n1
      obtain ⟨g2, cap2, rfl, hc2, A2⟩ := T2.out.at n2
      obtain ⟨g3, cap3, rfl, hc3, A3⟩ := T3.out.at (by omega)
      have A1' := Lib.hid ((A1.fr T2.out.2.1).fr T3.out.2.1)
      have A2' := Lib.hid (A2.fr T3.out.2.1)
      have A3' := Lib.hid A3
      have HVL := Lib.hid hvl
      have hvl1 : (vs.length : Int) = (ts.length : Int) + (us.length : Int) - 1 := by omega
      have HVI := Lib.hid hvl1
      have bv1 : ((vs.length : Int) != (ts.length : Int) + (us.length : Int) - 1) = false := by simp; omega
      have hv5 : vs.length ≤ 4000 := by omega
      clear A1 A2 A3 T1 T2 T3 hvs hvl hxl hyl hvl1 R1 R2 R3 R
      go_wp2
      go_loopg [92] vs.length (fun gh v92 wr => ∃ j : Nat, j ≤ vs.length ∧ gh = vs.length - j ∧ v92 = .int .i64 j ∧ Hid (Fr (fun _ => False) w6 wr))
      case atStart => exact ⟨0, Nat.zero_le _, rfl, rfl, Lib.hid (Fr.refl _ _)⟩
      case round =>
        obtain ⟨j, hj, rfl, rfl, HF⟩ := hrel
        by_cases hlt : j < vs.length
        · have hvj : vs[j]? = some vs[j] := List.getElem?_eq_getElem hlt
          have hc3j := (A3'.out.fr HF.out).2 j _ hvj
          have hg3 := (A3'.out.fr HF.out).1
          by_cases hjt : j + 1 < ts.length
          · have htj := V1.out j _ hjt hvj
            have hc1j := (A1'.out.fr HF.out).2 j _ htj
            have hg1 := (A1'.out.fr HF.out).1
            clear htj hvj
            generalize vs[j] = t at *
            obtain ⟨kd, p, tx⟩ := t
            dsimp only at *
            obtain ⟨T, hT⟩ : ∃ T : ByteArray, T = ⟨tx.toArray⟩ := ⟨_, rfl⟩
            rw [← hT] at hc3j hc1j
            obtain ⟨d1, d2, d3⟩ := hc3j
            obtain ⟨b1, b2, b3⟩ := hc1j
            have ht1 : (j : Int) < (ts.length : Int) - 1 := by omega
            clear hT
            go_wp2
            go_roundg (vs.length - (j + 1))
            case measure => omega
            case rel => exact ⟨j + 1, hlt, rfl, by go_num, Lib.hid ((HF.out.alloc _).alloc _)⟩
          · obtain ⟨q, hq⟩ : ∃ q, q + (ts.length - 1) = j := ⟨j - (ts.length - 1), by omega⟩
            obtain ⟨u, hu, hsh⟩ := V2.out j q _ hq hvj
            have huq : q < us.length := (List.getElem?_eq_some_iff.1 hu).1
            have hc2j := (A2'.out.fr HF.out).2 q _ hu
            have hg2 := (A2'.out.fr HF.out).1
            have hpl := PL.out q _ hu
            rw [hsh] at hc3j
            clear hu hvj hsh
            obtain ⟨kd, p, tx⟩ := u
            dsimp only [Tok.shift] at *
            obtain ⟨T, hT⟩ : ∃ T : ByteArray, T = ⟨tx.toArray⟩ := ⟨_, rfl⟩
            rw [← hT] at hc3j hc2j
            obtain ⟨d1, d2, d3⟩ := hc3j
            obtain ⟨b1, b2, b3⟩ := hc2j
            have ht1 : ¬ ((j : Int) < (ts.length : Int) - 1) := by omega
            have hq2 : (j : Int) - (ts.length : Int) + 1 = (q : Int) := by omega
            have hxs : (X.size : Int) = (x.size : Int) + 1 := by rw [HS.out]; omega
            obtain ⟨p2, hp2⟩ : ∃ p2, p2 = p + (x.size + 1) := ⟨_, rfl⟩
            rw [← hp2] at d2
            have hp3 : (p : Int) + (X.size : Int) = (p2 : Int) := by omega
            have hpb : (p2 : Int) ≤ 10000 := by omega
            clear hT hq hp2 hxs
            go_wp2
            go_roundg (vs.length - (j + 1))
            case measure => omega
            case rel => exact ⟨j + 1, hlt, rfl, by go_num, Lib.hid ((HF.out.alloc _).alloc _)⟩
        · obtain rfl : j = vs.length := by omega
          go_wp2
          go_ret
          exact ⟨rfl, F6.trans HF.out (fun _ _ h => h)⟩

theorem joins_long (v1 v2 : Value) (l1 l2 : List UInt8) (hl : 60 < l1.length ∨ 60 < l2.length) (w : World) (h1 : Sees w v1 l1) (h2 : Sees w v2 l2) :
    Calls Try.prog 4 #[v1, v2] w fun e w' => e = .returned (.bool true) ∧ Fr (fun _ => False) w w' := by
  obtain ⟨a1, c1, rfl, _⟩ := h1.shape
  obtain ⟨a2, c2, rfl, _⟩ := h2.shape
  clear h1 h2
  rcases Nat.lt_or_ge 60 l1.length with h | h
  · go_enter Try.func4, Try.ntmps4
    go_wp2_with fail
    refine (awake_any _).mono ?_
    rintro e w1 ⟨rfl, f1⟩
    go_wp2
    go_ret
    exact ⟨rfl, f1⟩
  · have h2 : 60 < l2.length := by omega
    have b1 : decide ((60 : Int) < (l1.length : Int)) = false := by simp; omega
    clear hl
    go_enter Try.func4, Try.ntmps4
    go_wp2_with fail
    refine (awake_any _).mono ?_
    rintro e w1 ⟨rfl, f1⟩
    go_wp2
    go_ret
    exact ⟨rfl, f1⟩

theorem joins_any (v1 : Value) (l1 : List Int) {w : World} (h1 : SeesL w v1 (l1.map (Value.int .u8))) (hw1 : ∀ n ∈ l1, (Lit.int .u8 n).wf = true)
    (v2 : Value) (l2 : List Int) (h2 : SeesL w v2 (l2.map (Value.int .u8))) (hw2 : ∀ n ∈ l2, (Lit.int .u8 n).wf = true) :
    Calls Try.prog 4 #[v1, v2] w fun e w' => e = .returned (.bool true) ∧ Fr (fun _ => False) w w' := by
  have s1 := sees_u8 h1 hw1
  have s2 := sees_u8 h2 hw2
  by_cases hl : (l1.map fun n => UInt8.ofNat n.toNat).length ≤ 60 ∧ (l2.map fun n => UInt8.ofNat n.toNat).length ≤ 60
  · exact joins_some v1 v2 _ _ hl.1 hl.2 w s1 s2
  · exact joins_long v1 v2 _ _ (by omega) w s1 s2

end Go.Proofs.Ytdhjelilmccmbaa
