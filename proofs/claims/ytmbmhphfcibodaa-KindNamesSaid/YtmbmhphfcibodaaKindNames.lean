/-
  The law KindNames, walked.
-/
import Derived.Test.YtmbmhphfcibodaaKindAwake
import Derived.Deep.Cut
import Derived.Deep.CutRange
import Derived.IntWalk
namespace Go.Proofs.Ytmbmhphfcibodaa
open Go.RowKit

/-- May the byte at place i stand there? -/
def condB (d : List UInt8) (i : Nat) : Bool := isLet (d.getD i 0) || decide (0 < i) && isDig (d.getD i 0)

/-- What the law reckons of a text, behind k of its bytes. -/
def wantN (d : List UInt8) : Nat → Bool
  | 0 => decide (1 ≤ d.length) && decide (d.length ≤ 20)
  | k + 1 => wantN d k && condB d k

/-- What the law reckons of a text, behind k of the words. -/
def wantW (d : List UInt8) : Nat → Bool
  | 0 => wantN d d.length
  | k + 1 => wantW d k && !(d == kwords.getD k [])

theorem wantN_all (d : List UInt8) (k : Nat) : wantN d k = (decide (1 ≤ d.length) && decide (d.length ≤ 20) && (List.range k).all (condB d)) := by
  induction k with
  | zero => simp [wantN]
  | succ k ih => rw [wantN, ih, List.range_succ, List.all_append]; simp [Bool.and_assoc]

theorem wantW_all (d : List UInt8) (k : Nat) : wantW d k = (wantN d d.length && (List.range k).all (fun i => !(d == kwords.getD i []))) := by
  induction k with
  | zero => simp [wantW]
  | succ k ih => rw [wantW, ih, List.range_succ, List.all_append]; simp [Bool.and_assoc]

theorem want_named (d : List UInt8) : wantW d 21 = named d := by
  have h21 : kwords.length = 21 := by kernel_rfl
  have hw : (List.range 21).all (fun i => !(d == kwords.getD i [])) = !kwords.contains d := by
    rw [Bool.eq_iff_iff, List.all_eq_true]
    simp only [List.mem_range, Bool.not_eq_true', List.contains_eq_mem, decide_eq_false_iff_not, beq_eq_false_iff_ne]
    constructor
    · intro h hm
      obtain ⟨i, hi, e⟩ := List.getElem_of_mem hm
      refine h i (by omega) ?_
      simp [List.getD, hi, e]
    · intro h i hi e
      refine h ?_
      rw [e]
      have hi' : i < kwords.length := by omega
      simp [List.getD, hi']
  rw [wantW_all, hw, wantN_all]
  unfold named
  by_cases h1 : 1 ≤ d.length
  · by_cases h2 : d.length ≤ 20
    · have e : (List.range d.length).all (condB d) = (isLet (d.getD 0 0) && d.all isNam) := by
        rw [Bool.eq_iff_iff, Bool.and_eq_true, List.all_eq_true, List.all_eq_true]
        simp only [List.mem_range]
        constructor
        · intro h
          refine ⟨by simpa [condB] using h 0 (by omega), fun x hx => ?_⟩
          obtain ⟨i, hi, rfl⟩ := List.getElem_of_mem hx
          have := h i hi
          have e : d.getD i 0 = d[i] := by simp [List.getD, hi]
          rw [condB, e] at this
          unfold isNam
          cases hl : isLet d[i] with
          | true => rfl
          | false => rw [hl] at this; simp at this; simp [this.2]
        · rintro ⟨h0, ha⟩ i hi
          have := ha _ (List.getElem_mem hi)
          have e : d.getD i 0 = d[i] := by simp [List.getD, hi]
          rw [condB, e]
          unfold isNam at this
          by_cases hz : i = 0
          · subst hz; rw [e] at h0; rw [h0]; rfl
          · cases hl : isLet d[i] with
            | true => rfl
            | false => rw [hl] at this; simp at this; simp [this]; omega
      rw [e]
      simp [h1, h2, Bool.and_assoc]
    · simp [h2]
  · simp [h1]

theorem cls (c : UInt8) : (¬ 97 ≤ (c.toNat : Int) ∧ (c.toNat : Int) ≤ 122 ∧ ¬ 65 ≤ (c.toNat : Int) ∧ (c.toNat : Int) ≤ 90 ∧ ¬ 48 ≤ (c.toNat : Int) ∧ (c.toNat : Int) ≤ 57 ∧ Hid (isLet c = false ∧ isDig c = false)) ∨
    (¬ 97 ≤ (c.toNat : Int) ∧ (c.toNat : Int) ≤ 122 ∧ ¬ 65 ≤ (c.toNat : Int) ∧ (c.toNat : Int) ≤ 90 ∧ 48 ≤ (c.toNat : Int) ∧ (c.toNat : Int) ≤ 57 ∧ Hid (isLet c = false ∧ isDig c = true)) ∨
    (¬ 97 ≤ (c.toNat : Int) ∧ (c.toNat : Int) ≤ 122 ∧ ¬ 65 ≤ (c.toNat : Int) ∧ (c.toNat : Int) ≤ 90 ∧ 48 ≤ (c.toNat : Int) ∧ ¬ (c.toNat : Int) ≤ 57 ∧ Hid (isLet c = false ∧ isDig c = false)) ∨
    (¬ 97 ≤ (c.toNat : Int) ∧ (c.toNat : Int) ≤ 122 ∧ 65 ≤ (c.toNat : Int) ∧ (c.toNat : Int) ≤ 90 ∧ 48 ≤ (c.toNat : Int) ∧ ¬ (c.toNat : Int) ≤ 57 ∧ Hid (isLet c = true ∧ isDig c = false)) ∨
    (¬ 97 ≤ (c.toNat : Int) ∧ (c.toNat : Int) ≤ 122 ∧ 65 ≤ (c.toNat : Int) ∧ ¬ (c.toNat : Int) ≤ 90 ∧ 48 ≤ (c.toNat : Int) ∧ ¬ (c.toNat : Int) ≤ 57 ∧ Hid (isLet c = false ∧ isDig c = false)) ∨
    (97 ≤ (c.toNat : Int) ∧ (c.toNat : Int) ≤ 122 ∧ 65 ≤ (c.toNat : Int) ∧ ¬ (c.toNat : Int) ≤ 90 ∧ 48 ≤ (c.toNat : Int) ∧ ¬ (c.toNat : Int) ≤ 57 ∧ Hid (isLet c = true ∧ isDig c = false)) ∨
    (97 ≤ (c.toNat : Int) ∧ ¬ (c.toNat : Int) ≤ 122 ∧ 65 ≤ (c.toNat : Int) ∧ ¬ (c.toNat : Int) ≤ 90 ∧ 48 ≤ (c.toNat : Int) ∧ ¬ (c.toNat : Int) ≤ 57 ∧ Hid (isLet c = false ∧ isDig c = false)) := by
  have h1 : (c.toNat : Int) ≤ 255 := by have := c.toNat_lt; omega
  unfold isLet isDig
  generalize (c.toNat : Int) = n at *
  rcases (by omega : n < 48 ∨ 48 ≤ n ∧ n ≤ 57 ∨ 58 ≤ n ∧ n ≤ 64 ∨ 65 ≤ n ∧ n ≤ 90 ∨ 91 ≤ n ∧ n ≤ 96 ∨ 97 ≤ n ∧ n ≤ 122 ∨ 123 ≤ n) with h | h | h | h | h | h | h
  · exact .inl ⟨by omega, by omega, by omega, by omega, by omega, by omega, Lib.hid ⟨by simp; omega, by simp; omega⟩⟩
  · exact .inr (.inl ⟨by omega, by omega, by omega, by omega, by omega, by omega, Lib.hid ⟨by simp; omega, by simp; omega⟩⟩)
  · exact .inr (.inr (.inl ⟨by omega, by omega, by omega, by omega, by omega, by omega, Lib.hid ⟨by simp; omega, by simp; omega⟩⟩))
  · exact .inr (.inr (.inr (.inl ⟨by omega, by omega, by omega, by omega, by omega, by omega, Lib.hid ⟨by simp; omega, by simp; omega⟩⟩)))
  · exact .inr (.inr (.inr (.inr (.inl ⟨by omega, by omega, by omega, by omega, by omega, by omega, Lib.hid ⟨by simp; omega, by simp; omega⟩⟩))))
  · exact .inr (.inr (.inr (.inr (.inr (.inl ⟨by omega, by omega, by omega, by omega, by omega, by omega, Lib.hid ⟨by simp; omega, by simp; omega⟩⟩)))))
  · exact .inr (.inr (.inr (.inr (.inr (.inr (⟨by omega, by omega, by omega, by omega, by omega, by omega, Lib.hid ⟨by simp; omega, by simp; omega⟩⟩))))))

set_option maxRecDepth 100000 in
set_option maxHeartbeats 32000000 in
theorem names_any (s : ByteArray) (hs : s.size ≤ 40) (v : Value) (l : List UInt8) (w : World) (hv : Sees w v l) (hl : l.length ≤ 30) :
    Calls Try.prog 6 #[.string s, v] w fun e w' => e = .returned (.bool true) ∧ Fr (fun _ => False) w w' := by
  obtain ⟨a, c, rfl, hn⟩ := hv.shape
  have hs' : ¬ (40 < (s.size : Int)) := by omega
  have hl' : ¬ (30 < (l.length : Int)) := by omega
  have HV := Lib.hid hv
  clear hv hn
  go_enter Try.func6, Try.ntmps6
  go_wp2_with fail
  refine (awake_any _).mono ?_
  rintro e w1 ⟨rfl, f1⟩
  have F1 := Lib.hid f1
  clear f1
  go_wp2
  have hwr : Hid (w1.heap.size < w1.heap.size + 1) := Lib.hid (by omega)
  obtain ⟨ws, hws⟩ : ∃ ws : Array Value, ws = (kwords.map sv).toArray := ⟨_, rfl⟩
  have ek : (kwords.map sv).toArray = #[.string ⟨#[98, 111, 111, 108]⟩, .string ⟨#[99, 97, 114, 100]⟩, .string ⟨#[108, 111, 110, 103]⟩, .string ⟨#[114, 101, 97, 108]⟩, .string ⟨#[116, 101, 120, 116]⟩, .string ⟨#[115, 101, 113]⟩, .string ⟨#[111, 102]⟩, .string ⟨#[114, 101, 99, 111, 114, 100]⟩, .string ⟨#[101, 110, 117, 109]⟩, .string ⟨#[99, 104, 111, 105, 99, 101]⟩, .string ⟨#[112, 114, 111, 103, 114, 97, 109]⟩, .string ⟨#[118, 101, 114, 115, 105, 111, 110]⟩, .string ⟨#[116, 121, 112, 101]⟩, .string ⟨#[101, 114, 114, 111, 114]⟩, .string ⟨#[112, 114, 111, 99]⟩, .string ⟨#[114, 101, 116, 117, 114, 110, 115]⟩, .string ⟨#[99, 111, 108, 108, 97, 116, 101]⟩, .string ⟨#[116, 105, 109, 101, 111, 117, 116]⟩, .string ⟨#[102, 105, 114, 115, 116]⟩, .string ⟨#[109, 97, 106, 111, 114, 105, 116, 121]⟩, .string ⟨#[97, 108, 108]⟩] := by kernel_rfl
  rw [← ek, ← hws]
  obtain ⟨w2, hw2⟩ : ∃ w2, w2 = w1.alloc (.cells ws 9) := ⟨_, rfl⟩
  rw [← hw2]
  have g2 : Hid (w2.heap[w1.heap.size]? = some (.cells ws 9 (0, 0))) := Lib.hid (by rw [hw2]; exact heap_alloc_new _ _)
  have F2 : Hid (Fr (fun _ => False) w w2) := Lib.hid (by rw [hw2]; exact F1.out.alloc _)
  have s2 : Hid (w2.heap.size = w1.heap.size + 1) := Lib.hid (by rw [hw2]; simp)
  have HWS := Lib.hid hws
  clear hws ek hw2
  go_loopg [6, 8, 29] l.length (fun g u6 u8 u29 wr => ∃ (k : Nat) (S : ByteArray), k ≤ l.length ∧ g = l.length - k ∧ u29 = .int .i64 k ∧ u6 = .string S ∧ Hid (S.size = k ∧ wr = w2))
  case atStart => exact ⟨0, ⟨#[]⟩, Nat.zero_le _, rfl, by go_num, rfl, Lib.hid ⟨rfl, rfl⟩⟩
  case round =>
    obtain ⟨k, S, hk, rfl, rfl, rfl, HI⟩ := hrel
    obtain rfl : wr = w2 := HI.out.2
    by_cases hlt : k < l.length
    · rcases HV.out with ⟨rfl, _⟩ | ⟨g, off, cap, hvv, hle, hcell⟩
      · simp at hlt
      cases hvv
      have hck := cell_fr (R := fun _ => True) F2.out (fun _ _ h => h) trivial (hcell k hlt)
      unfold bv at hck
      have h0 : (0 : Int) ≤ ((l.getD k 0).toNat : Int) := by omega
      have h1 : ((l.getD k 0).toNat : Int) ≤ 255 := by have := (l.getD k 0).toNat_lt; omega
      clear hcell
      generalize ((l.getD k 0).toNat : Int) = N at *
      have hS := HI.out.1
      have hmin : min (N % 9 + 1).toNat 9 - (N % 9).toNat = 1 := by omega
      have hsz : ¬ 9223372036854775807 < S.size + (min (N % 9 + 1).toNat 9 - (N % 9).toNat) := by omega
      have HM := Lib.hid hmin
      clear hmin hS
      go_wp2
      go_roundg (l.length - (k + 1))
      case measure => omega
      case rel =>
        refine ⟨k + 1, _, by omega, rfl, by go_num, rfl, Lib.hid ⟨?_, rfl⟩⟩
        rw [ByteArray.size_append, ByteArray.size_extract, HI.out.1]
        have := HM.out
        show k + (min (N % 9 + 1).toNat 9 - (N % 9).toNat) = k + 1
        omega
    · obtain rfl : k = l.length := by omega
      obtain ⟨i0, hi, hz0, hz1, hz2⟩ := info_parts Try.infoStr
      have hS : S.size = l.length := HI.out.1
      have hS30 : S.size ≤ 30 := by omega
      have HS := Lib.hid hS
      clear hS
      obtain ⟨Sa, hSa⟩ : ∃ Sa, Sa = S ++ (⟨#[97]⟩ : ByteArray) := ⟨_, rfl⟩
      have hSas : Sa.size ≤ 31 := by rw [hSa, ByteArray.size_append]; show S.size + 1 ≤ 31; omega
      have hsum : ¬ 9223372036854775807 < S.size + 1 := by omega
      have HSa := Lib.hid hSa
      have hwl : (kwords.map sv).length = 21 := by kernel_rfl
      have hSL : SeesL (wr.alloc (.cells #[.string s, .string S, .string Sa] 9)) (.slice (some ⟨w1.heap.size, 0, none⟩) 21 21) (kwords.map sv) := by
        have gg := box_kept g2.out ((Fr.refl (fun _ => False) wr).alloc (.cells #[.string s, .string S, .string Sa] 9)) (fun h => h)
        rw [HWS.out] at gg
        refine .inr ⟨w1.heap.size, 0, 21, by rw [hwl], by omega, fun j u hj => ?_⟩
        rw [Nat.zero_add, cell_of_row _ _ _ _ _ _ gg, List.getElem?_toArray]
        exact hj
      have hC1 := hSL.first (P := Try.prog)
      have hC2 := hSL.drew.first (P := Try.prog)
      rw [hwl] at hC1 hC2
      rw [hSa] at hC1 hC2 hSL
      have HC := Lib.hid (And.intro hC1 (And.intro hC2 (And.intro hwl hSL)))
      clear hSL hwl hSa hC1 hC2
      go_wp2_with (at_builtin; refine wpList_append_sep rfl (.tmp 46) (.tmp 47) 35 35 rfl 0 9 i0 (.string ⟨#[]⟩) 1 16 Try.underlying35 _ Try.underlying35 (.inr ⟨_, rfl⟩) hi hz0 hz1 hz2 rfl (by decide) (.slice (some ⟨wr.heap.size, 0, none⟩) 3 3) 3 [.string s, .string S, .string (S ++ (⟨#[97]⟩ : ByteArray))] rfl ?own _ 21 (kwords.map sv) rfl (lenOf_slice _ _ _) HC.out.2.2.1 HC.out.1 HC.out.2.1 (sv_one _) ?b1 ?b2 (Nat.zero_le _) ?grow)
      case own => exact ⟨rfl, .inr ⟨wr.heap.size, 3, _, rfl, Nat.zero_le _, heap_alloc_new wr _, Nat.le_refl _, by unfold maxLen; omega, rfl, by simp⟩⟩
      case b1 => unfold maxLen; omega
      case grow =>
        intro v' w3 hown hg hv3
        obtain ⟨L, hL⟩ : ∃ L : List Txt, L = [s.data.toList, S.data.toList, (S ++ (⟨#[97]⟩ : ByteArray)).data.toList] ++ kwords := ⟨_, rfl⟩
        have hLm : L.map sv = .string s :: .string S :: .string (S ++ (⟨#[97]⟩ : ByteArray)) :: kwords.map sv := by
          rw [hL]; rfl
        have hLl : L.length = 24 := by rw [hL]; kernel_rfl
        have hkw : ∀ x ∈ kwords, x.length ≤ 41 := by decide +kernel
        have hLs : ∀ x ∈ L, x.length ≤ 41 := by
          intro x hx
          rw [hL, List.mem_append] at hx
          rcases hx with hx | hx
          · simp only [List.mem_cons, List.not_mem_nil, or_false] at hx
            rcases hx with rfl | rfl | rfl
            · show s.size ≤ 41; omega
            · show S.size ≤ 41; omega
            · show (S ++ (⟨#[97]⟩ : ByteArray)).size ≤ 41
              rw [← HSa.out]; omega
          · exact hkw x hx
        rw [← hLm] at hown
        have hSL := seesL_own hown
        obtain ⟨a3, c3, rfl⟩ := slice_of_own hown
        have fr3 : Fr (fun _ => False) w w3 := (F2.out.alloc _).trans (Fr.of_grown hg) (fun i hi e => by
          simp [Value.ownBlock] at e
          have := F2.out.size
          omega)
        have hws : ∀ j x, kwords[j]? = some x → w3.cell? ⟨w1.heap.size, j, none⟩ = some (sv x) := by
          intro j x hj
          have gg := box_kept g2.out ((Fr.refl (fun _ => False) wr).alloc (.cells #[.string s, .string S, .string (S ++ (⟨#[97]⟩ : ByteArray))] 9)) (fun h => h)
          have gg := box_kept gg (Fr.of_grown hg) (fun e => by simp [Value.ownBlock] at e; have := s2.out; omega)
          rw [HWS.out] at gg
          rw [cell_of_row _ _ _ _ _ _ gg, List.getElem?_toArray, List.getElem?_map, hj]
          rfl
        have HLL := Lib.hid (And.intro hSL (And.intro hLs (And.intro fr3 hws)))
        have HLN := Lib.hid hLl
        have hkl : kwords.length = 21 := by kernel_rfl
        have HKL := Lib.hid hkl
        clear hown hg hv3 hL hLm hkw hLs hSL fr3 hws hLl hkl HS HSa HC hSas hsum hS30 hi hz0 hz1 hz2
        go_wp2
        obtain ⟨wo, rfl⟩ : ∃ wo : World, wo = w3 := ⟨_, rfl⟩
        go_loopg [10, 11, 12, 13, 15, 50] 24 (fun g u10 u11 u12 u13 u15 u50 wr => ∃ k : Nat, k ≤ 24 ∧ g = 24 - k ∧ u50 = .int .i64 k ∧ Hid (wo = wr))
        case atStart => exact ⟨0, by omega, rfl, by go_num, Lib.hid rfl⟩
        case round =>
          obtain ⟨k, hk, rfl, rfl, HI2⟩ := hrel
          obtain rfl := HI2.out
          by_cases hlt : k < 24
          · obtain ⟨g, off, rfl, hcell⟩ : ∃ g off, a3 = some ⟨g, off, none⟩ ∧ ∀ j u, (L.map sv)[j]? = some u → wo.cell? ⟨g, off + j, none⟩ = some u := by
              obtain ⟨_, h⟩ := SeesL.cells HLL.out.1
              obtain ⟨_, g, off, e, h⟩ := h (by omega)
              exact ⟨g, off, e, h⟩
            obtain ⟨d, hd⟩ : ∃ d, L[k]? = some d := ⟨L[k]'(by have := HLN.out; omega), List.getElem?_eq_getElem _⟩
            have hdl : d.length ≤ 41 := HLL.out.2.1 _ (List.mem_of_getElem? hd)
            have hck := hcell k (sv d) (by rw [List.getElem?_map, hd]; rfl)
            unfold sv at hck
            obtain ⟨X, hX⟩ : ∃ X : ByteArray, X = ⟨d.toArray⟩ := ⟨_, rfl⟩
            rw [← hX] at hck
            have hXs : X.size = d.length := by rw [hX]; show d.toArray.size = d.length; simp
            have hXd : X.data.toList = d := by rw [hX]
            have hX41 : X.size ≤ 41 := by omega
            have HXD := Lib.hid (And.intro hXd hXs)
            have hn := Lib.hid (fun w => named_any X w (by unfold maxLen; omega))
            clear hcell hd hX hXs hXd
            have hx0 : wantN d 0 = (decide (1 ≤ (X.size : Int)) && decide ((X.size : Int) ≤ 20)) := by
              rw [wantN, ← HXD.out.2]
              congr 1 <;> (rw [Bool.eq_iff_iff]; simp; try omega)
            have HX0 := Lib.hid hx0
            clear hx0
            have hx3 : (X.size : Int) < 1 ∨ ¬ (X.size : Int) < 1 ∧ (1 : Int) ≤ (X.size : Int) ∧ (X.size : Int) ≤ 20 ∨ ¬ (X.size : Int) < 1 ∧ (1 : Int) ≤ (X.size : Int) ∧ ¬ (X.size : Int) ≤ 20 := by omega
            go_upto_region 15 with fail
            go_cut [11] from 51 to 127 (fun r wx => ∃ b : Bool, r = .bool b ∧ Hid (b = wantN d 0 ∧ wo = wx))
            case first =>
              rcases hx3 with a1 | ⟨a1, a2, a3'⟩ | ⟨a1, a2, a3'⟩
              · have a2 : ¬ (1 : Int) ≤ (X.size : Int) := by omega
                go_wp2
                go_meet
                case rel => exact ⟨false, rfl, Lib.hid ⟨by rw [HX0.out, decide_eq_false (by omega)]; rfl, rfl⟩⟩
              · go_wp2
                go_meet
                case rel => exact ⟨true, rfl, Lib.hid ⟨by rw [HX0.out, decide_eq_true (by omega), decide_eq_true (by omega)]; rfl, rfl⟩⟩
              · go_wp2
                go_meet
                case rel => exact ⟨false, rfl, Lib.hid ⟨by rw [HX0.out, decide_eq_true (by omega), decide_eq_false (by omega)]; rfl, rfl⟩⟩
            case rest =>
              obtain ⟨b0, rfl, HB0⟩ := hcut
              obtain rfl := HB0.out.2
              clear hx3
              go_wp2
              go_loopg [11, 12, 13, 64] X.size (fun g u11 u12 u13 u64 wr => ∃ (i : Nat) (b : Bool), i ≤ X.size ∧ g = X.size - i ∧ u64 = .int .i64 i ∧ u11 = .bool b ∧ Hid (b = wantN d i ∧ wo = wr))
              case atStart => exact ⟨0, b0, Nat.zero_le _, rfl, by go_num, rfl, Lib.hid ⟨HB0.out.1, rfl⟩⟩
              case round =>
                obtain ⟨i, b, hi, rfl, rfl, rfl, HI3⟩ := hrel
                obtain rfl := HI3.out.2
                by_cases hil : i < X.size
                · have hc := Lib.hid (show condB d i = (isLet (X[i]'hil) || decide (0 < i) && isDig (X[i]'hil)) by
                    have e : d.getD i 0 = X[i]'hil := by
                      rw [← HXD.out.1, List.getD_eq_getElem?_getD, List.getElem?_eq_getElem hil]; rfl
                    rw [condB, e])
                  have hi0 : (0 : Int) < (i : Int) ∧ Hid (decide (0 < i) = true) ∨ ¬ (0 : Int) < (i : Int) ∧ Hid (decide (0 < i) = false) := by
                    by_cases h : 0 < i
                    · exact .inl ⟨by omega, Lib.hid (decide_eq_true h)⟩
                    · exact .inr ⟨by omega, Lib.hid (decide_eq_false h)⟩
                  rcases cls (X[i]'hil) with ⟨b1, b2, b3, b4, b5, b6, HC⟩ | ⟨b1, b2, b3, b4, b5, b6, HC⟩ | ⟨b1, b2, b3, b4, b5, b6, HC⟩ | ⟨b1, b2, b3, b4, b5, b6, HC⟩ | ⟨b1, b2, b3, b4, b5, b6, HC⟩ | ⟨b1, b2, b3, b4, b5, b6, HC⟩ | ⟨b1, b2, b3, b4, b5, b6, HC⟩ <;>
                  rcases hi0 with ⟨hp, HP⟩ | ⟨hp, HP⟩ <;>
                  cases b <;>
                  (go_wp2
                   go_roundg (X.size - (i + 1))
                   case measure => omega
                   case rel => exact ⟨i + 1, _, by omega, rfl, by go_num, rfl, Lib.hid ⟨by rw [wantN, ← HI3.out.1, hc.out, HC.out.1, HC.out.2, HP.out]; rfl, rfl⟩⟩)
                · obtain rfl : i = X.size := by omega
                  have HB := Lib.hid (show b = wantW d 0 by rw [wantW, ← HXD.out.2]; exact HI3.out.1)
                  clear HB0 HI3
                  go_wp2
                  go_loopg [11, 15, 112] 21 (fun g u11 u15 u112 wr => ∃ (m : Nat) (b : Bool), m ≤ 21 ∧ g = 21 - m ∧ u112 = .int .i64 m ∧ u11 = .bool b ∧ Hid (b = wantW d m ∧ wo = wr))
                  case atStart => exact ⟨0, b, by omega, rfl, by go_num, rfl, Lib.hid ⟨HB.out, rfl⟩⟩
                  case round =>
                    obtain ⟨m, b, hm, rfl, rfl, rfl, HI4⟩ := hrel
                    obtain rfl := HI4.out.2
                    by_cases hml : m < 21
                    · obtain ⟨kw, hkw⟩ : ∃ kw, kwords[m]? = some kw := ⟨kwords[m]'(by have := HKL.out; omega), List.getElem?_eq_getElem _⟩
                      have hkc := HLL.out.2.2.2 m kw hkw
                      unfold sv at hkc
                      have hkg : kwords.getD m [] = kw := by rw [List.getD_eq_getElem?_getD, hkw]; rfl
                      have HKG := Lib.hid hkg
                      clear hkw hkg
                      have hXl : X.toList = d := by rw [Lib.toList_data]; exact HXD.out.1
                      cases he : (d == kw) with
                      | true =>
                        have q1 : (X.toList == kw) = true := by rw [hXl]; exact he
                        have q2 : (X.toList != kw) = false := by unfold bne; rw [q1]; rfl
                        have HE := Lib.hid he
                        clear he hXl
                        cases b <;>
                        (go_wp2
                         go_roundg (21 - (m + 1))
                         case measure => omega
                         case rel => exact ⟨m + 1, _, by omega, rfl, by go_num, rfl, Lib.hid ⟨by rw [wantW, ← HI4.out.1, HKG.out, HE.out]; rfl, rfl⟩⟩)
                      | false =>
                        have q1 : (X.toList == kw) = false := by rw [hXl]; exact he
                        have q2 : (X.toList != kw) = true := by unfold bne; rw [q1]; rfl
                        have HE := Lib.hid he
                        clear he hXl
                        cases b <;>
                        (go_wp2
                         go_roundg (21 - (m + 1))
                         case measure => omega
                         case rel => exact ⟨m + 1, _, by omega, rfl, by go_num, rfl, Lib.hid ⟨by rw [wantW, ← HI4.out.1, HKG.out, HE.out]; rfl, rfl⟩⟩)
                    · obtain rfl : m = 21 := by omega
                      have hb : b = named X.data.toList := by rw [HXD.out.1, ← want_named]; exact HI4.out.1
                      have hn2 := hn.out wo
                      rw [← hb] at hn2
                      clear hb
                      cases b <;>
                      (go_wp2_with fail
                       refine hn2.mono ?_
                       rintro e w' ⟨rfl, rfl⟩
                       go_wp2
                       go_roundg (24 - (k + 1))
                       case measure => omega
                       case rel => exact ⟨k + 1, by omega, rfl, by go_num, Lib.hid rfl⟩)
          · obtain rfl : k = 24 := by omega
            go_wp2
            go_ret
            exact ⟨rfl, HLL.out.2.2.1⟩

set_option maxRecDepth 100000 in
set_option maxHeartbeats 8000000 in
/-- For every text and every slice of bytes, in the form that the statement's lift takes. -/
theorem names_all {w : World} (s : ByteArray) (v : Value) (l : List Int) (hv : SeesL w v (l.map (Value.int .u8))) (fa : ∀ n ∈ l, (Lit.int .u8 n).wf = true) :
    Calls Try.prog 6 #[.string s, v] w fun e w' => e = .returned (.bool true) ∧ Fr (fun _ => False) w w' := by
  have hs := sees_u8 hv fa
  by_cases h : s.size ≤ 40 ∧ (l.map fun n => UInt8.ofNat n.toNat).length ≤ 30
  · exact names_any s h.1 v _ w hs h.2
  · obtain ⟨a, c, rfl, hn⟩ := hs.shape
    clear hn hs hv fa
    generalize (l.map fun n => UInt8.ofNat n.toNat).length = n at *
    by_cases h1 : s.size ≤ 40
    · have h1' : ¬ (40 : Int) < (s.size : Int) := by omega
      have h2' : (30 : Int) < (n : Int) := by omega
      clear h h1
      go_enter Try.func6, Try.ntmps6
      go_wp2_with fail
      refine (awake_any _).mono ?_
      rintro e w1 ⟨rfl, f1⟩
      go_wp2_with fail
      go_ret
      exact ⟨rfl, f1⟩
    · have h1' : (40 : Int) < (s.size : Int) := by omega
      clear h h1
      go_enter Try.func6, Try.ntmps6
      go_wp2_with fail
      refine (awake_any _).mono ?_
      rintro e w1 ⟨rfl, f1⟩
      go_wp2_with fail
      go_ret
      exact ⟨rfl, f1⟩

end Go.Proofs.Ytmbmhphfcibodaa
