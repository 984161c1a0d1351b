/-
  LexPlaces: for every slice of numbers the law returns true, and the slice reads as before.
-/
import Derived.Test.YtdhjelilmccmbaaLexText
import Derived.Test.YtdhjelilmccmbaaLexPlaceMath
import Derived.IntWalk
namespace Go.Proofs.Ytdhjelilmccmbaa
open Go.RowKit

theorem list_string (l : List UInt8) : (⟨l.toArray⟩ : ByteArray).size = l.length := rfl

set_option maxRecDepth 100000 in
set_option maxHeartbeats 4000000 in
theorem places_some (v : Value) (l : List UInt8) (hl : l.length ≤ 80) (w : World) (h : Sees w v l) :
    Calls Try.prog 7 #[v] w fun e w' => e = .returned (.bool true) ∧ Fr (fun _ => False) w w' := by
  obtain ⟨a0, c0, rfl, _⟩ := h.shape
  have H := Lib.hid h
  clear h
  go_enter Try.func7, Try.ntmps7
  go_wp2_with fail
  refine (awake_any _).mono ?_
  rintro e w1 ⟨rfl, f1⟩
  go_wp2_with fail
  refine (text_any _ _ l [] (by omega) w1 (H.out.fr f1 (fun _ _ h => h)) (sees_none _)).mono ?_
  rintro e w2 ⟨s, rfl, hs, f2⟩
  have F2 := f1.trans f2 (fun _ _ h => h)
  clear f1 f2
  go_wp2_with fail
  refine (split_small s (by omega) w2).mono ?_
  rintro e w3 ⟨v3, rfl, hT⟩
  have HT := Lib.hid hT
  clear hT
  obtain ⟨r, hr⟩ : ∃ r, r = lexA 0 s.data.toList := ⟨_, rfl⟩
  rw [← hr] at HT ⊢
  have HR := Lib.hid hr
  clear hr
  cases r with
  | err p er =>
    have her := (lexA_code _ _ (Nat.le_refl _) _ _ _ HR.out.symm).1
    obtain ⟨hO, f3, _⟩ := HT.out
    have F3 := F2.trans f3 (fun _ _ h => h)
    have hv : v3 = .slice none 0 0 ∨ ∃ g c, v3 = .slice g 0 c := by
      obtain ⟨a, c, e⟩ := slice_of_own hO
      exact .inr ⟨a, c, e⟩
    clear HR HT hO f3
    obtain ⟨g3, c3, rfl⟩ : ∃ g c, v3 = .slice g 0 c := by
      rcases hv with h | h
      · exact ⟨_, _, h⟩
      · exact h
    simp only [Res.where_, Res.code]
    have e1 : ((er : Int) == 0) = false := by simp; omega
    have e2 : (er : Int) ≤ 22 := by omega
    have e3 : (1 : Int) ≤ er := by omega
    clear her hv
    go_wp2
    go_ret
    exact ⟨rfl, F3⟩
  | ok ts =>
    have hpl := lexA_places _ s.data.toList 0 (Nat.zero_le _) (Nat.le_refl _) ts HR.out.symm
    have hne := lexA_ne _ _ (Nat.le_refl _) _ _ HR.out.symm
    obtain ⟨g, cap, rfl, hcap, hg, hc⟩ := HT.out.1.cells (by intro h; rw [show Res.toks (Res.ok ts) = ts from rfl] at h; rw [h] at hne; simp at hne)
    have HPL := Lib.hid hpl
    have HC := Lib.hid hc
    have htl : ts.length ≤ 4001 := by have := lexA_size _ _ (Nat.le_refl _) _ _ HR.out.symm; rw [show s.data.toList.length = s.size from rfl] at this; omega
    have F3 := F2.trans HT.out.2.1 (fun _ _ h => h)
    clear hpl hc HR F2
    simp only [Res.toks, Res.where_, Res.code] at *
    go_wp2
    go_loopg [7, 30] ts.length (fun gh v7 v30 wr => ∃ j : Nat, j ≤ ts.length ∧ gh = ts.length - j ∧ v30 = .int .i64 j ∧ v7 = .int .i64 (endOf 0 ts j : Nat) ∧ Hid (Fr (fun _ => False) w3 wr))
    case atStart => exact ⟨0, Nat.zero_le _, rfl, rfl, rfl, Lib.hid (Fr.refl _ _)⟩
    case round =>
      obtain ⟨j, hj, rfl, rfl, rfl, HF⟩ := hrel
      by_cases hlt : j < ts.length
      · have hst := HPL.out.1 j ts[j] (List.getElem?_eq_getElem hlt)
        have hcj := HC.out j ts[j] (List.getElem?_eq_getElem hlt)
        have hend : endOf 0 ts (j + 1) = ts[j].pos + ts[j].text.length := by show (match ts[j]? with | some t => t.pos + t.text.length | none => 0) = _; rw [List.getElem?_eq_getElem hlt]
        have hlo := hst.lo
        have hhi := hst.hi
        have htx := hst.text
        have hkd := hst.kind
        have hla := hst.last
        have hso := hst.some_
        clear hst
        generalize ts[j] = t at *
        generalize endOf 0 ts j = en at *
        obtain ⟨kd, p, tx⟩ := t
        dsimp only at *
        have hx : s.extract p (p + tx.length) = ⟨tx.toArray⟩ := by rw [Lib.extract_eq, Nat.add_sub_cancel_left, htx]
        obtain ⟨X, hX⟩ : ∃ X : ByteArray, X = ⟨tx.toArray⟩ := ⟨_, rfl⟩
        have hXs : tx.length = X.size := by rw [hX]; rfl
        rw [← hX, hXs] at hx
        rw [← hX] at hcj
        rw [hXs] at hhi hend hso
        have hl : s.data.toList.length = s.size := rfl
        rw [hl] at hhi
        have c1 : wr.cell? ⟨g, j * 3, none⟩ = some (.int .u8 kd) := by rw [← hcj.1]; exact HF.out.cell hg (fun h => h)
        have c2 : wr.cell? ⟨g, j * 3 + 1, none⟩ = some (.int .i64 p) := by rw [← hcj.2.1]; exact HF.out.cell hg (fun h => h)
        have c3 : wr.cell? ⟨g, j * 3 + 2, none⟩ = some (.string X) := by rw [← hcj.2.2]; exact HF.out.cell hg (fun h => h)
        have b1 : decide (p < en) = false := by simp; omega
        have HE := Lib.hid hend
        clear htx hX hXs hcj hl hlo hend
        by_cases hlast : j + 1 = ts.length
        · have hk0 : kd = 0 := hla.2 hlast
          subst hk0
          have bl : ((j : Int) == (ts.length : Int) - 1) = true := by simp; omega
          clear hla hso hlast
          go_wp2
          have FA : Fr (fun _ => False) w3 (wr.alloc (.cells #[.int .u8 0, .int .i64 p, .string X] 37)) := HF.out.alloc _
          have q1 : (wr.alloc (.cells #[.int .u8 0, .int .i64 p, .string X] 37)).cell? ⟨wr.heap.size, 0, none⟩ = some (.int .u8 0) := by go_simp
          have q2 : (wr.alloc (.cells #[.int .u8 0, .int .i64 p, .string X] 37)).cell? ⟨wr.heap.size, 1, none⟩ = some (.int .i64 p) := by go_simp
          have q3 : (wr.alloc (.cells #[.int .u8 0, .int .i64 p, .string X] 37)).cell? ⟨wr.heap.size, 2, none⟩ = some (.string X) := by go_simp
          generalize wr.alloc (.cells #[.int .u8 0, .int .i64 p, .string X] 37) = wq at *
          generalize wr.heap.size = b at *
          have s1 : IntKind.i64.wrap ((p : Int) + (X.size : Int)) = (p : Int) + (X.size : Int) := IntWalk.i64_in _ (by omega)
          have s2 : (0 : Int) ≤ (p : Int) + (X.size : Int) := by omega
          have s3 : ((p : Int) + (X.size : Int)).toNat = p + X.size := by omega
          have s4 : decide ((s.size : Int) < (p : Int) + (X.size : Int)) = false := by simp; omega
          have s5 : IntKind.i64.wrap ((ts.length : Int) - 1) = (ts.length : Int) - 1 := IntWalk.i64_in _ (by omega)
          clear c1 c2 c3 HF
          go_quiet (fail)
          go_wp2
          go_roundg (ts.length - (j + 1))
          case measure => omega
          case rel => exact ⟨j + 1, hlt, rfl, by go_num, by rw [HE.out]; go_num, Lib.hid (FA.drewNs _)⟩
        · have hk1 : kd ≠ 0 := fun e => hlast (hla.1 e)
          have hX1 := hso hk1
          have bl : ((j : Int) == (ts.length : Int) - 1) = false := by simp; omega
          have bk : ((kd : Int) == 0) = false := by simpa using hk1
          have bk2 : ((kd : Int) != 0) = true := by simpa using hk1
          have hXn : X.toList ≠ [] := by
            intro e
            rw [Lib.toList_data] at e
            have h1 : X.data.toList.length = X.size := rfl
            rw [e] at h1
            simp at h1
            omega
          have x1 : (X.toList == []) = false := by simpa using hXn
          have x2 : X.toList.isEmpty = false := by simpa using hXn
          have hk3 : (kd : Int) ≤ 3 := by omega
          clear hla hso hlast hk1 hXn hX1
          go_wp2
          have FA : Fr (fun _ => False) w3 (wr.alloc (.cells #[.int .u8 kd, .int .i64 p, .string X] 37)) := HF.out.alloc _
          have q1 : (wr.alloc (.cells #[.int .u8 kd, .int .i64 p, .string X] 37)).cell? ⟨wr.heap.size, 0, none⟩ = some (.int .u8 kd) := by go_simp
          have q2 : (wr.alloc (.cells #[.int .u8 kd, .int .i64 p, .string X] 37)).cell? ⟨wr.heap.size, 1, none⟩ = some (.int .i64 p) := by go_simp
          have q3 : (wr.alloc (.cells #[.int .u8 kd, .int .i64 p, .string X] 37)).cell? ⟨wr.heap.size, 2, none⟩ = some (.string X) := by go_simp
          generalize wr.alloc (.cells #[.int .u8 kd, .int .i64 p, .string X] 37) = wq at *
          generalize wr.heap.size = b at *
          have s1 : IntKind.i64.wrap ((p : Int) + (X.size : Int)) = (p : Int) + (X.size : Int) := IntWalk.i64_in _ (by omega)
          have s2 : (0 : Int) ≤ (p : Int) + (X.size : Int) := by omega
          have s3 : ((p : Int) + (X.size : Int)).toNat = p + X.size := by omega
          have s4 : decide ((s.size : Int) < (p : Int) + (X.size : Int)) = false := by simp; omega
          have s5 : IntKind.i64.wrap ((ts.length : Int) - 1) = (ts.length : Int) - 1 := IntWalk.i64_in _ (by omega)
          clear c1 c2 c3 HF
          go_quiet (fail)
          go_wp2
          go_roundg (ts.length - (j + 1))
          case measure => omega
          case rel => exact ⟨j + 1, hlt, rfl, by go_num, by rw [HE.out]; go_num, Lib.hid (FA.drewNs _)⟩
      · obtain rfl : j = ts.length := by omega
        have hlast := HC.out (ts.length - 1) _ HPL.out.2
        have c2 : wr.cell? ⟨g, (ts.length - 1) * 3 + 1, none⟩ = some (.int .i64 s.size) := by rw [HF.out.cell hg (fun h => h)]; exact hlast.2.1
        clear hlast
        have hn1 : (((ts.length : Int) - 1).toNat) = ts.length - 1 := by omega
        have hn2 : (0 : Int) ≤ (ts.length : Int) - 1 := by omega
        go_wp2
        go_ret
        exact ⟨by simp, F3.trans HF.out (fun _ _ h => h)⟩

theorem places_long (v : Value) (l : List UInt8) (hl : 80 < l.length) (w : World) (h : Sees w v l) :
    Calls Try.prog 7 #[v] w fun e w' => e = .returned (.bool true) ∧ Fr (fun _ => False) w w' := by
  obtain ⟨a0, c0, rfl, _⟩ := h.shape
  clear h
  go_enter Try.func7, Try.ntmps7
  go_wp2_with fail
  refine (awake_any _).mono ?_
  rintro e w1 ⟨rfl, f1⟩
  go_wp2
  go_ret
  exact ⟨rfl, f1⟩

theorem places_any (v : Value) (l : List Int) {w : World} (h : SeesL w v (l.map (Value.int .u8))) (hw : ∀ n ∈ l, (Lit.int .u8 n).wf = true) :
    Calls Try.prog 7 #[v] w fun e w' => e = .returned (.bool true) ∧ Fr (fun _ => False) w w' := by
  have hs := sees_u8 h hw
  by_cases hl : (l.map fun n => UInt8.ofNat n.toNat).length ≤ 80
  · exact places_some v _ hl w hs
  · exact places_long v _ (by omega) w hs

end Go.Proofs.Ytdhjelilmccmbaa
