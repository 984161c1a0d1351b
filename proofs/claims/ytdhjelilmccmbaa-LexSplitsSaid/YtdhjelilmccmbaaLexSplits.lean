/-
  LexSplits: for every text and every two slices of numbers the law returns true, and its arguments read as before.
-/
import Derived.Test.YtdhjelilmccmbaaLexJoins
import Derived.Test.YtdhjelilmccmbaaLexRef
import Derived.IntWalk
namespace Go.Proofs.Ytdhjelilmccmbaa
open Go.RowKit

theorem rflat_get (ts : List Tok) (i : Nat) (t : Tok) (h : ts[i]? = some t) (f : Nat) (hf : f < 3) : (ts.flatMap rtokCells)[i * 3 + f]? = (rtokCells t)[f]? := by
  induction ts generalizing i with
  | nil => simp at h
  | cons x ts ih =>
    cases i with
    | zero =>
      simp at h
      subst h
      rw [List.flatMap_cons, Nat.zero_mul, Nat.zero_add, List.getElem?_append_left (by simpa [rtokCells] using hf)]
    | succ i =>
      rw [List.flatMap_cons, List.getElem?_append_right (by simp [rtokCells]; omega)]
      have : (i + 1) * 3 + f - (rtokCells x).length = i * 3 + f := by simp [rtokCells]; omega
      rw [this]
      exact ih i (by simpa using h)

/-- Where the cells of a row of the answer's tokens lie, in whatever later world. -/
def RToksAt (w : World) (g : Nat) (ts : List Tok) : Prop := g < w.heap.size ∧ ∀ (i : Nat) (t : Tok), ts[i]? = some t →
    w.cell? ⟨g, i * 3, none⟩ = some (.int .i64 t.kind) ∧ w.cell? ⟨g, i * 3 + 1, none⟩ = some (.int .i64 t.pos) ∧ w.cell? ⟨g, i * 3 + 2, none⟩ = some (.int .i64 t.text.length)

theorem RToksAt.fr {w w' : World} {g : Nat} {ts : List Tok} (h : RToksAt w g ts) (hf : Fr (fun _ => False) w w') : RToksAt w' g ts :=
  ⟨Nat.lt_of_lt_of_le h.1 hf.size, fun i t hi => by
    have hc := h.2 i t hi
    exact ⟨by rw [hf.cell (p := ⟨g, i * 3, none⟩) h.1 (fun h => h)]; exact hc.1, by rw [hf.cell (p := ⟨g, i * 3 + 1, none⟩) h.1 (fun h => h)]; exact hc.2.1, by rw [hf.cell (p := ⟨g, i * 3 + 2, none⟩) h.1 (fun h => h)]; exact hc.2.2⟩⟩

theorem RTold.at {w w' : World} {v : Value} {ts : List Tok} (h : RTold w w' v ts) (hne : 1 ≤ ts.length) : ∃ g cap, v = .slice (some ⟨g, 0, none⟩) ts.length cap ∧ ts.length ≤ cap ∧ RToksAt w' g ts := by
  rcases h.1.2 with ⟨_, h0⟩ | ⟨g, cap, cur, rfl, hb, hg, hn, hm, hs, ht⟩
  · omega
  · refine ⟨g, cap, rfl, hn, (Array.getElem?_eq_some_iff.1 hg).1, ?_⟩
    intro i t hi
    have hc := fun (f : Nat) (u : Value) (hf : f < 3) (hu : (rtokCells t)[f]? = some u) => World.ownsRow.cells (g := g) h.1 rfl (i * 3 + f) u ((rflat_get ts i t hi f hf).trans hu)
    have hplain : ∀ j, (⟨g, 0, none⟩ : Addr).add j = ⟨g, j, none⟩ := fun j => by unfold Addr.add; split <;> simp_all
    simp only [hplain] at hc
    exact ⟨hc 0 _ (by decide) rfl, hc 1 _ (by decide) rfl, hc 2 _ (by decide) rfl⟩

theorem RTold.none {w w' : World} {v : Value} (h : RTold w w' v []) : ∃ a c, v = .slice a 0 c := slice_of_own h.1

set_option maxRecDepth 100000 in
set_option maxHeartbeats 4000000 in
theorem splits_some (raw : ByteArray) (v1 v2 : Value) (l m : List UInt8) (hraw : raw.size ≤ 300) (hl : l.length ≤ 80) (w : World) (h1 : Sees w v1 l) (h2 : Sees w v2 m) :
    Calls Try.prog 3 #[.string raw, v1, v2] w fun e w' => e = .returned (.bool true) ∧ Fr (fun _ => False) w w' := by
  obtain ⟨a1, c1, rfl, _⟩ := h1.shape
  obtain ⟨a2, c2, rfl, _⟩ := h2.shape
  have H1 := Lib.hid h1
  have H2 := Lib.hid h2
  clear h1 h2
  go_enter Try.func3, Try.ntmps3
  go_wp2_with fail
  refine (awake_any _).mono ?_
  rintro e w1 ⟨rfl, f1⟩
  go_wp2_with fail
  refine (text_any _ _ l m (by omega) w1 (H1.out.fr f1 (fun _ _ h => h)) (H2.out.fr f1 (fun _ _ h => h))).mono ?_
  rintro e w2 ⟨x, rfl, hx, f2⟩
  have F2 := f1.trans f2 (fun _ _ h => h)
  clear f1 f2
  go_wp2
  have FB : Fr (fun _ => False) w (w2.alloc (.cells #[.string raw, .string x] 9)) := F2.alloc _
  have z0 : (w2.alloc (.cells #[.string raw, .string x] 9)).cell? ⟨w2.heap.size, 0, none⟩ = some (.string raw) := by go_simp
  have z1 : (w2.alloc (.cells #[.string raw, .string x] 9)).cell? ⟨w2.heap.size, 1, none⟩ = some (.string x) := by go_simp
  have hb : w2.heap.size < (w2.alloc (.cells #[.string raw, .string x] 9)).heap.size := by rw [World.size_alloc]; omega
  generalize w2.alloc (.cells #[.string raw, .string x] 9) = wb at *
  generalize w2.heap.size = b at *
  have Z : Hid (∀ q, q < 2 → ∃ Z : ByteArray, Z.size ≤ 560 ∧ wb.cell? ⟨b, q, none⟩ = some (.string Z)) := Lib.hid fun q hq => by
    match q, hq with
    | 0, _ => exact ⟨raw, by omega, z0⟩
    | 1, _ => exact ⟨x, by omega, z1⟩
  clear z0 z1
  go_loopg [33] 2 (fun gh v33 wr => ∃ q : Nat, q ≤ 2 ∧ gh = 2 - q ∧ v33 = .int .i64 q ∧ Hid (Fr (fun _ => False) wb wr))
  case atStart => exact ⟨0, by omega, rfl, rfl, Lib.hid (Fr.refl _ _)⟩
  case round =>
    obtain ⟨q, hq, hgq, rfl, HF⟩ := hrel
    have HGQ := Lib.hid hgq
    clear hgq
    by_cases hq2 : q < 2
    · obtain ⟨s, hs, hcell⟩ := Z.out q hq2
      have hc : wr.cell? ⟨b, q, none⟩ = some (.string s) := by rw [HF.out.cell (p := ⟨b, q, none⟩) hb (fun h => h)]; exact hcell
      clear hcell
      go_wp2_with fail
      refine (split_small s (by omega) wr).mono ?_
      rintro e w3 ⟨u1, rfl, hT1⟩
      clear hc
      obtain ⟨r, hr⟩ : ∃ r, r = lexA 0 s.data.toList := ⟨_, rfl⟩
      rw [← hr] at hT1 ⊢
      have T1 := Lib.hid hT1
      have R := Lib.hid hr
      clear hT1 hr
      go_wp2_with fail
      refine (ref_small s (by omega) w3).mono ?_
      rintro e w4 ⟨u2, rfl, hT2⟩
      rw [← R.out] at hT2 ⊢
      have T2 := Lib.hid hT2
      clear hT2
      have F4 := Lib.hid ((HF.out.trans T1.out.2.1 (fun _ _ h => h)).trans T2.out.2.1 (fun _ _ h => h))
      clear HF
      cases r with
      | err p er =>
        have her := lexA_code _ _ (Nat.le_refl _) _ _ _ R.out.symm
        rw [show s.data.toList.length = s.size from rfl] at her
        have e2 : (er : Int) ≤ 22 := by omega
        have e4 : (p : Int) ≤ 1000 := by omega
        obtain ⟨a3, c3, rfl⟩ := T1.out.none
        obtain ⟨a4, c4, rfl⟩ := T2.out.none
        simp only [Res.where_err, Res.code_err]
        clear her T1 T2 R
        go_wp2
        refine wp_loop_rounds 1 ?_
        rw [rounds_succ]
        go_wp2
        go_roundg (2 - (q + 1))
        case measure => rw [HGQ.out]; omega
        case rel => exact ⟨q + 1, by omega, rfl, by go_num, F4⟩
      | ok ts =>
        have n1 := lexA_ne _ _ (Nat.le_refl _) _ _ R.out.symm
        have m1 := lexA_size _ _ (Nat.le_refl _) _ _ R.out.symm
        have hpl := (lexA_places _ s.data.toList 0 (Nat.zero_le _) (Nat.le_refl _) ts R.out.symm).1
        rw [show s.data.toList.length = s.size from rfl] at m1
        have PL := Lib.hid hpl
        obtain ⟨g1, cap1, rfl, hc1, A1⟩ := T1.out.at n1
        obtain ⟨g2, cap2, rfl, hc2, A2⟩ := T2.out.at n1
        have A1' := Lib.hid (A1.fr T2.out.2.1)
        have A2' := Lib.hid A2
        have hts : ts.length ≤ 4000 := by omega
        simp only [Res.where_ok, Res.code_ok, Res.toks_ok] at *
        clear A1 A2 T1 T2 R hpl m1
        go_wp2
        obtain ⟨wo, rfl⟩ : ∃ wo : World, wo = wr := ⟨_, rfl⟩
        go_loopg [66] ts.length (fun gh v66 wz => ∃ j : Nat, j ≤ ts.length ∧ gh = ts.length - j ∧ v66 = .int .i64 j ∧ Hid (Fr (fun _ => False) w4 wz))
        case atStart => exact ⟨0, Nat.zero_le _, rfl, rfl, Lib.hid (Fr.refl _ _)⟩
        case round =>
          obtain ⟨j, hj, rfl, rfl, HF⟩ := hrel
          by_cases hlt : j < ts.length
          · have htj : ts[j]? = some ts[j] := List.getElem?_eq_getElem hlt
            have hst := PL.out j _ htj
            have hc1j := (A1'.out.fr HF.out).2 j _ htj
            have hc2j := (A2'.out.fr HF.out).2 j _ htj
            have hhi := hst.hi
            have htx := hst.text
            have hkd := hst.kind
            clear hst htj
            generalize ts[j] = t at *
            obtain ⟨kd, p, tx⟩ := t
            dsimp only at *
            have hxx : s.extract p (p + tx.length) = ⟨tx.toArray⟩ := by rw [Lib.extract_eq, Nat.add_sub_cancel_left, htx]
            obtain ⟨T, hT⟩ : ∃ T : ByteArray, T = ⟨tx.toArray⟩ := ⟨_, rfl⟩
            rw [← hT] at hc1j hxx
            generalize tx.length = tn at *
            rw [show s.data.toList.length = s.size from rfl] at hhi
            obtain ⟨d1, d2, d3⟩ := hc1j
            obtain ⟨b1, b2, b3⟩ := hc2j
            clear hT htx
            have hk3 : (kd : Int) ≤ 3 := by omega
            have hg1 := (A1'.out.fr HF.out).1
            go_wp2
            have fa : Fr (fun _ => False) wr (wr.alloc (.cells #[.int .i64 kd, .int .i64 p, .int .i64 tn] 34)) := (Fr.refl _ _).alloc _
            have e1 : (wr.alloc (.cells #[.int .i64 kd, .int .i64 p, .int .i64 tn] 34)).cell? ⟨g1, j * 3, none⟩ = some (.int .u8 kd) := by rw [fa.cell (p := ⟨g1, j * 3, none⟩) hg1 (fun h => h)]; exact d1
            have e2 : (wr.alloc (.cells #[.int .i64 kd, .int .i64 p, .int .i64 tn] 34)).cell? ⟨g1, j * 3 + 1, none⟩ = some (.int .i64 p) := by rw [fa.cell (p := ⟨g1, j * 3 + 1, none⟩) hg1 (fun h => h)]; exact d2
            have e3 : (wr.alloc (.cells #[.int .i64 kd, .int .i64 p, .int .i64 tn] 34)).cell? ⟨g1, j * 3 + 2, none⟩ = some (.string T) := by rw [fa.cell (p := ⟨g1, j * 3 + 2, none⟩) hg1 (fun h => h)]; exact d3
            have q1 : (wr.alloc (.cells #[.int .i64 kd, .int .i64 p, .int .i64 tn] 34)).cell? ⟨wr.heap.size, 0, none⟩ = some (.int .i64 kd) := by go_simp
            have q2 : (wr.alloc (.cells #[.int .i64 kd, .int .i64 p, .int .i64 tn] 34)).cell? ⟨wr.heap.size, 1, none⟩ = some (.int .i64 p) := by go_simp
            have q3 : (wr.alloc (.cells #[.int .i64 kd, .int .i64 p, .int .i64 tn] 34)).cell? ⟨wr.heap.size, 2, none⟩ = some (.int .i64 tn) := by go_simp
            have FA := Lib.hid (HF.out.trans fa (fun _ _ h => h))
            generalize wr.alloc (.cells #[.int .i64 kd, .int .i64 p, .int .i64 tn] 34) = wq at *
            generalize wr.heap.size = bq at *
            have s1 : IntKind.i64.wrap ((p : Int) + (tn : Int)) = (p : Int) + (tn : Int) := IntWalk.i64_in _ (by omega)
            have s2 : (0 : Int) ≤ (p : Int) + (tn : Int) := by omega
            have s3 : ((p : Int) + (tn : Int)).toNat = p + tn := by omega
            clear b1 b2 b3 d1 d2 d3 HF fa
            go_quiet (fail)
            go_wp2
            go_roundg (ts.length - (j + 1))
            case measure => omega
            case rel => exact ⟨j + 1, hlt, rfl, by go_num, Lib.hid (FA.out.drewNs _)⟩
          · obtain rfl : j = ts.length := by omega
            go_wp2
            go_roundg (2 - (q + 1))
            case measure => rw [HGQ.out]; omega
            case rel => exact ⟨q + 1, by omega, rfl, by go_num, Lib.hid (F4.out.trans HF.out (fun _ _ h => h))⟩
    · obtain rfl : q = 2 := by omega
      go_wp2
      go_ret
      exact ⟨rfl, FB.trans HF.out (fun _ _ h => h)⟩

theorem splits_long (raw : ByteArray) (v1 v2 : Value) (l m : List UInt8) (hr : 300 < raw.size ∨ 80 < l.length) (w : World) (h1 : Sees w v1 l) (h2 : Sees w v2 m) :
    Calls Try.prog 3 #[.string raw, v1, v2] w fun e w' => e = .returned (.bool true) ∧ Fr (fun _ => False) w w' := by
  obtain ⟨a1, c1, rfl, _⟩ := h1.shape
  obtain ⟨a2, c2, rfl, _⟩ := h2.shape
  clear h1 h2
  rcases Nat.lt_or_ge 300 raw.size with h | h
  · have b1 : decide ((300 : Int) < (raw.size : Int)) = true := by simp; omega
    go_enter Try.func3, Try.ntmps3
    go_wp2_with fail
    refine (awake_any _).mono ?_
    rintro e w1 ⟨rfl, f1⟩
    go_wp2
    go_ret
    exact ⟨rfl, f1⟩
  · have h2 : 80 < l.length := by omega
    have b1 : decide ((300 : Int) < (raw.size : Int)) = false := by simp; omega
    clear hr
    go_enter Try.func3, Try.ntmps3
    go_wp2_with fail
    refine (awake_any _).mono ?_
    rintro e w1 ⟨rfl, f1⟩
    go_wp2
    go_ret
    exact ⟨rfl, f1⟩

theorem splits_any (raw : ByteArray) (v1 : Value) (l1 : List Int) {w : World} (h1 : SeesL w v1 (l1.map (Value.int .u8))) (hw1 : ∀ n ∈ l1, (Lit.int .u8 n).wf = true)
    (v2 : Value) (l2 : List Int) (h2 : SeesL w v2 (l2.map (Value.int .u8))) (hw2 : ∀ n ∈ l2, (Lit.int .u8 n).wf = true) :
    Calls Try.prog 3 #[.string raw, v1, v2] w fun e w' => e = .returned (.bool true) ∧ Fr (fun _ => False) w w' := by
  have s1 := sees_u8 h1 hw1
  have s2 := sees_u8 h2 hw2
  by_cases hl : raw.size ≤ 300 ∧ (l1.map fun n => UInt8.ofNat n.toNat).length ≤ 80
  · exact splits_some raw v1 v2 _ _ hl.1 hl.2 w s1 s2
  · exact splits_long raw v1 v2 _ _ (by omega) w s1 s2

end Go.Proofs.Ytdhjelilmccmbaa
