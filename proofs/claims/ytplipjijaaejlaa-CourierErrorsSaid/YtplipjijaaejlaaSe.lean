/-
  CouAny, part 5 of what it rests on: ValNumber, ValLetters, RealMath, ValBuild1, ValBuildLe, ValAcc, ValBuild2, ValBuild3, ValBuild4, ValBuilt.
-/
import Derived.Test.YtplipjijaaejlaaSd
import Derived.Deep.QuietTactic
import Derived.BigQuiet
import Derived.Deep.OwnRows
import Derived.IntWalk
set_option linter.unusedVariables false
set_option linter.unusedSimpArgs false
set_option maxHeartbeats 32000000
namespace Go.Proofs.Ytplipjijaaejlaa
open Go.RowKit
open Go.Lib (hid)
section
/-- The slice v shows these numbers, in memory of R. -/
def Nums (R : Nat → Prop) (w : World) (l : List Int) (v : Value) : Prop :=
  l.length ≤ 1000 ∧ (∀ x ∈ l, -9223372036854775808 ≤ x ∧ x ≤ 9223372036854775807) ∧
  ((l = [] ∧ ∃ a c, v = .slice a 0 c) ∨
   ∃ g off cap, R g ∧ v = .slice (some ⟨g, off, none⟩) l.length cap ∧ l.length ≤ cap ∧ ∀ j x, l[j]? = some x → w.cell? ⟨g, off + j, none⟩ = some (.int .i64 x))

theorem Nums.fr {R S : Nat → Prop} {w w' : World} {l : List Int} {v : Value} (h : Nums R w l v) (hf : Fr S w w') (hS : ∀ k, R k → ¬ S k) : Nums R w' l v := by
  obtain ⟨h1, h2, h3 | ⟨g, off, cap, hg, rfl, hle, hc⟩⟩ := h
  · exact ⟨h1, h2, .inl h3⟩
  · exact ⟨h1, h2, .inr ⟨g, off, cap, hg, rfl, hle, fun j s hj => cell_fr hf hS hg (hc j s hj)⟩⟩

theorem Nums.mono {R S : Nat → Prop} {w : World} {l : List Int} {v : Value} (h : Nums R w l v) (hS : ∀ k, k < w.heap.size → R k → S k) : Nums S w l v := by
  obtain ⟨h1, h2, h3 | ⟨g, off, cap, hg, rfl, hle, hc⟩⟩ := h
  · exact ⟨h1, h2, .inl h3⟩
  · cases l with
    | nil => exact ⟨h1, h2, .inl ⟨rfl, _, _, rfl⟩⟩
    | cons x l => exact ⟨h1, h2, .inr ⟨g, off, cap, hS g (World.block_lt_of_cell? w _ (hc 0 x rfl)) hg, rfl, hle, hc⟩⟩

theorem Nums.shape {R : Nat → Prop} {w : World} {l : List Int} {v : Value} (h : Nums R w l v) : ∃ a c, v = .slice a l.length c := by
  obtain ⟨_, _, ⟨rfl, a, c, rfl⟩ | ⟨g, off, cap, _, rfl, _⟩⟩ := h
  · exact ⟨a, c, rfl⟩
  · exact ⟨_, cap, rfl⟩

theorem numE_in {R : Nat → Prop} {w : World} {l : List Int} {v : Value} (h : Nums R w l v) (tk : Nat) : -9223372036854775808 ≤ numE l tk ∧ numE l tk ≤ 9223372036854775807 := by
  unfold numE
  split
  · omega
  · rename_i hl
    have hlt : tk % l.length < l.length := Nat.mod_lt _ (by cases l; exact absurd rfl hl; simp)
    have : l.getD (tk % l.length) 0 = l[tk % l.length] := by simp [List.getD, hlt]
    rw [this]
    exact h.2.1 _ (List.getElem_mem hlt)

/-- The builder in block b. -/
def BBox (w : World) (b : Nat) (nv : Value) (tk bg : Nat) : Prop := w.heap[b]? = some (.cells #[nv, .int .i64 (tk : Nat), .int .i64 (bg : Nat)] 64 (0, 0))

theorem BBox.drewN {w : World} {b : Nat} {nv : Value} {tk bg : Nat} (h : BBox w b nv tk bg) (n : Nat) : BBox (w.drewN n) b nv tk bg := h

theorem BBox.fr {S : Nat → Prop} {w w' : World} {b : Nat} {nv : Value} {tk bg : Nat} (h : BBox w b nv tk bg) (f : Fr S w w') (hS : ¬ S b) : BBox w' b nv tk bg := box_kept h f hS

set_option maxRecDepth 100000 in
theorem number_any (R : Nat → Prop) (l : List Int) (nv : Value) (b tk bg : Nat) (w : World) (hb : BBox w b nv tk bg) (hl : Nums R w l nv) (htk : tk ≤ 100000) :
    Calls Try.prog 38 #[.pointer (some ⟨b, 0, none⟩)] w fun e w' => e = .returned (.int .i64 (numE l tk)) ∧ Fr (fun k => k = b) w w' ∧ BBox w' b nv (nextE l tk) bg := by
  obtain ⟨n, hn⟩ : ∃ n, n = l.length := ⟨_, rfl⟩
  have HL := Lib.hid hl
  have HB := Lib.hid hb
  obtain ⟨h1, h2, h3⟩ := hl
  unfold BBox at hb
  have r1 := cells_row hb 1 _ rfl
  have r0 := cells_row hb 0 _ rfl
  have z1 : w.frozen? ⟨b, 1, none⟩ = false := by simp [World.frozen?, hb]
  clear hb
  rcases h3 with ⟨rfl, a, c, rfl⟩ | ⟨g, off, cap, hg, rfl, hle, hc⟩
  · clear hn h1 h2
    go_enter Try.func38, Try.ntmps38
    go_wp2
    go_ret
    exact ⟨rfl, Fr.refl _ _, HB.out⟩
  · rw [← hn] at r0 h1 hle HB HL
    by_cases h0 : n = 0
    · have HN := Lib.hid hn
      clear hn
      subst h0
      have e : l = [] := List.eq_nil_of_length_eq_zero HN.out.symm
      go_enter Try.func38, Try.ntmps38
      go_wp2
      go_ret
      subst e
      exact ⟨rfl, Fr.refl _ _, HB.out⟩
    · have hne : l ≠ [] := by intro e; rw [e] at hn; exact h0 hn
      obtain ⟨q, hq⟩ : ∃ q, tk % n = q := ⟨_, rfl⟩
      have hqn : q < n := by rw [← hq]; exact Nat.mod_lt _ (by omega)
      have e1 : (tk : Int).tmod (n : Int) = (q : Int) := by rw [← hq]; exact (Int.ofNat_tmod tk n).symm
      have e2 : (tk : Int) % (n : Int) = (q : Int) := by rw [← hq]; omega
      have x0 : l[q]? = some (numE l tk) := by
        unfold numE
        rw [if_neg hne, ← hn, hq, List.getD, List.getElem?_eq_getElem (by omega)]
        rfl
      have y0 := hc q _ x0
      have nx : nextE l tk = tk + 1 := by unfold nextE; rw [if_neg hne]
      have NX := Lib.hid nx
      have hn0 : ¬ (n : Int) = 0 := by omega
      have hn1 : ((n : Int) == 0) = false := by simpa using h0
      have q0 : 0 ≤ (q : Int) := by omega
      have q1 : (q : Int) < (n : Int) := by omega
      have HN := Lib.hid (And.intro hn hq)
      obtain ⟨x, hx⟩ : ∃ x, x = numE l tk := ⟨_, rfl⟩
      rw [← hx] at y0
      have HX := Lib.hid hx
      clear hn hq hx nx x0 hc hne h2
      have hb1 : b < w.heap.size := lt_of_block HB.out
      go_enter Try.func38, Try.ntmps38
      go_wp2
      go_quiet (fail)
      go_wp2
      go_ret
      refine ⟨show Ending.returned (.int .i64 x) = _ by rw [HX.out], ?_, ?_⟩
      · exact ((Fr.refl _ _).drewN _).set1 _ _
      · unfold BBox
        rw [setCell_row 1 _ (HB.out.drewN _), NX.out]
        simp
        exact HN.out.1

set_option maxRecDepth 100000 in
theorem take_any (R : Nat → Prop) (l : List Int) (nv : Value) (b tk bg : Nat) (m : Int) (w : World) (hb : BBox w b nv tk bg) (hl : Nums R w l nv) (htk : tk ≤ 100000) (hm0 : 0 < m) (hm1 : m ≤ 4294967296) :
    Calls Try.prog 37 #[.pointer (some ⟨b, 0, none⟩), .int .i64 m] w fun e w' => e = .returned (.int .i64 (numE l tk % m)) ∧ Fr (fun k => k = b) w w' ∧ BBox w' b nv (nextE l tk) bg := by
  have hnum := number_any R l nv b tk bg w hb hl htk
  have hin := numE_in hl tk
  obtain ⟨x, hx⟩ : ∃ x, numE l tk = x := ⟨_, rfl⟩
  rw [hx] at hnum hin ⊢
  clear hx hb hl
  obtain ⟨h1, h2⟩ := hin
  obtain ⟨y, hy⟩ : ∃ y, x.tmod m = y := ⟨_, rfl⟩
  have hy0 : -m < y ∧ y < m := by
    rw [← hy]
    have e1 := Int.tmod_lt_of_pos x hm0
    have e2 := Int.lt_tmod_of_pos x hm0
    exact ⟨e2, e1⟩
  have hye : (if y < 0 then y + m else y) = x % m := by
    have e := Int.tmod_eq_emod (a := x) (b := m)
    have p0 := Int.emod_nonneg x (show m ≠ 0 by omega)
    have p1 := Int.emod_lt_of_pos x hm0
    have habs : ((m.natAbs : Nat) : Int) = m := by omega
    rw [hy] at e
    by_cases hc : 0 ≤ x ∨ m ∣ x
    · rw [if_pos hc] at e
      split <;> omega
    · rw [if_neg hc] at e
      split <;> omega
  obtain ⟨y0, y1⟩ := hy0
  have HE := Lib.hid hye
  have hm00 : ¬ m = 0 := by omega
  have hm01 : (m == 0) = false := by simpa using hm00
  clear hye
  by_cases hneg : y < 0
  · have HN := Lib.hid hneg
    go_enter Try.func37, Try.ntmps37
    go_wp2_with fail
    refine hnum.mono ?_
    rintro e w2 ⟨rfl, f2, b2⟩
    have F2 := Lib.hid (And.intro f2 b2)
    clear f2 b2 hnum
    go_wp2
    go_ret
    refine ⟨?_, F2.out.1, F2.out.2⟩
    have := HE.out
    rw [if_pos HN.out] at this
    rw [← this]
    rfl
  · have HN := Lib.hid hneg
    go_enter Try.func37, Try.ntmps37
    go_wp2_with fail
    refine hnum.mono ?_
    rintro e w2 ⟨rfl, f2, b2⟩
    have F2 := Lib.hid (And.intro f2 b2)
    clear f2 b2 hnum
    go_wp2
    go_ret
    refine ⟨?_, F2.out.1, F2.out.2⟩
    have := HE.out
    rw [if_neg (by have := HN.out; omega)] at this
    rw [← this]
    rfl
end
section
theorem lettersE_length (n : Nat) : (lettersE n).length = n := by simp [lettersE]

theorem lettersE_at (n i : Nat) (hi : i < n) : (lettersE n).getD i 0 = UInt8.ofNat (97 + i % 26) := by
  unfold lettersE
  rw [List.getD_eq_getElem?_getD, List.getElem?_map, List.getElem?_range hi]
  rfl

set_option maxRecDepth 100000 in
theorem letters_any (n : Nat) (hn : n ≤ 100) (w : World) :
    Calls Try.prog 39 #[.int .i64 (n : Nat)] w fun e w' => e = .returned (.string ⟨(lettersE n).toArray⟩) ∧ Fr (fun _ => False) w w' := by
  have mk := run_make_row' (P := Try.prog) 26 5 (.int .u8 0) 1 Try.underlying26 Try.infoU8 rfl .i64 .i64 n (by omega) (by omega)
  go_enter Try.func39, Try.ntmps39
  go_wp2
  clear mk
  obtain ⟨w1, hw1⟩ : ∃ w1, w1 = w.alloc (.cells (madeCells #[.int .u8 0] n) 5) := ⟨_, rfl⟩
  rw [← hw1]
  have g1 : w1.heap[w.heap.size]? = some (.cells (madeCells #[.int .u8 0] n) 5 (0, 0)) := by rw [hw1]; exact heap_alloc_new _ _
  have f1 : Fr (fun k => k = w.heap.size) w w1 := by rw [hw1]; exact (Fr.refl _ _).alloc _
  have H1 := Lib.hid (And.intro g1 f1)
  clear hw1 g1 f1
  go_loopg [4, 9] n (fun G u4 u9 wr => ∃ j : Nat, j ≤ n ∧ G = n - j ∧ u9 = .int .i64 j ∧ Hid (Fr (fun k => k = w.heap.size) w wr ∧ ∃ cs : Array Value, cs.size = n ∧ wr.heap[w.heap.size]? = some (.cells cs 5 (0, 0)) ∧ ∀ i, i < j → cs[i]? = some (bv (UInt8.ofNat (97 + i % 26)))))
  case atStart => exact ⟨0, Nat.zero_le _, rfl, by go_num, Lib.hid ⟨H1.out.2, _, size_madeCells _ _, H1.out.1, fun i hi => by omega⟩⟩
  case round =>
    obtain ⟨j, hj, rfl, rfl, HI⟩ := hrel
    obtain ⟨cs, hsz, hg, hcs⟩ := HI.out.2
    have lt0 : w.heap.size < wr.heap.size := lt_of_block hg
    by_cases hlt : j < n
    · obtain ⟨u, hu⟩ : ∃ u, cs[j]? = some u := ⟨_, Array.getElem?_eq_getElem (by omega)⟩
      have r0 := cells_row hg j u hu
      have z0 : wr.frozen? ⟨w.heap.size, j, none⟩ = false := by simp [World.frozen?, hg]
      obtain ⟨q, hq⟩ : ∃ q : Nat, j % 26 = q := ⟨_, rfl⟩
      have e1 : (j : Int) % 26 = (q : Int) := by omega
      have e2 : (j : Int).tmod 26 = (q : Int) := by rw [← hq]; exact (Int.ofNat_tmod j 26).symm
      have q1 : q ≤ 25 := by omega
      have HQ := Lib.hid hq
      have HC := Lib.hid (And.intro hsz (And.intro hg hcs))
      clear hsz hg hcs hu hq
      go_wp2
      go_roundg (n - (j + 1))
      case measure => omega
      case rel =>
        refine ⟨j + 1, by omega, rfl, by go_num, Lib.hid ⟨HI.out.1.trans ((Fr.refl _ _).set1 _ _) (fun _ _ h => h), _, ?_, setCell_row j _ HC.out.2.1, fun i hi => ?_⟩⟩
        · simp [HC.out.1]
        · by_cases e : i = j
          · subst e
            rw [Array.getElem?_setIfInBounds_self, if_pos (by rw [HC.out.1]; exact hlt)]
            rw [HQ.out]
            unfold bv
            have : (UInt8.ofNat (97 + q)).toNat = 97 + q := by simp; omega
            rw [this]
            simp
          · rw [Array.getElem?_setIfInBounds_ne (fun h => e h.symm)]
            exact HC.out.2.2 i (by omega)
    · obtain rfl : j = n := by omega
      have hsee := sees_new (w := wr) (l := lettersE j) (c := j) w.heap.size hg (fun i hi => by rw [lettersE_length] at hi; rw [lettersE_at j i hi]; exact hcs i hi) (by rw [lettersE_length]; exact Nat.le_refl _)
      rw [lettersE_length] at hsee
      have hstr := hsee.string (P := Try.prog) 26 5 9 Try.underlying26 Try.underlying5 Try.underlying9
      have HC := Lib.hid (And.intro hsz (And.intro hg hcs))
      clear hsz hg hcs hsee
      go_wp2
      go_ret
      exact ⟨rfl, HI.out.1.mono (fun i hi h => by omega)⟩
end
section
theorem nan_max : Fl.isNaN 9218868437227405311 = false := by decide +kernel
theorem key_max : Fl.key 9218868437227405311 = 9218868437227405311 := by decide +kernel

theorem float_of_int (n : Int) : floatOfInt .f64 n < 18446744073709551616 := Ieee.double.write_lt (.number (n < 0) n.natAbs 0)

theorem half_off (n : Int) : ∃ r : Nat, (r = 4602678819172646912 ∨ r = 13826050856027422720) ∧ ∀ (t : TypeId) (w : World), (binOp .sub t (.float .f64 (floatOfInt .f64 (n % 2))) (.float .f64 4602678819172646912)).run Try.prog w = .ok (.float .f64 r) w := by
  have h : n % 2 = 0 ∨ n % 2 = 1 := by omega
  rcases h with h | h <;> rw [h]
  · exact ⟨13826050856027422720, .inr rfl, fun t w => run_float_arith w .sub t .f64 _ _ _ (by decide +kernel)⟩
  · exact ⟨4602678819172646912, .inl rfl, fun t w => run_float_arith w .sub t .f64 _ _ _ (by decide +kernel)⟩
end
section
attribute [local go_sem] run_store_float

theorem wrap32_long (x : Int) (h0 : 0 ≤ x) (h1 : x < 4294967296) : IntKind.i32.wrap x = long32 x := by
  unfold long32 IntKind.wrap
  simp [IntKind.bits, IntKind.signed]
  split <;> omega

/-- What a call of build leaves: a value in new memory; the builder as it then is. -/
def BuiltAs (l : List Int) (t : KT) (w : World) (b : Nat) (nv : Value) (tk bg : Nat) (e : Ending) (w' : World) : Prop :=
  ∃ v', e = .returned v' ∧ VShows (fun k => w.heap.size ≤ k) w' (buildE l t (tk, bg)).1 v' ∧ Fr (fun k => k = b) w w' ∧ BBox w' b nv (buildE l t (tk, bg)).2.1 (buildE l t (tk, bg)).2.2

def BuildAt (l : List Int) (t : KT) : Prop := ∀ (R : Nat → Prop) (v nv : Value) (w : World) (b tk bg : Nat), goodE t → tk + costE t ≤ 100000 → bg + costE t ≤ 100000 → Shows R w t v → ¬ R b → Nums R w l nv → BBox w b nv tk bg →
  Calls Try.prog 19 #[.pointer (some ⟨b, 0, none⟩), v] w (BuiltAs l t w b nv tk bg)

theorem build_box (kz m : Int) (a : Option Addr) (nl c : Nat) (a' : Option Addr) (n c' : Nat) {w w1 : World} {b : Nat} {nv : Value} {tk bg : Nat} (h : BBox w b nv tk bg)
    (hw1 : w1 = ((w.setCell ⟨b, 2, none⟩ (.int .i64 ((bg : Int) + 1))).alloc (.cells #[.int .u8 kz, .int .i64 m, .slice a nl c, .slice a' n c'] 34)).alloc (.cells #[.int .i64 0, .float .f64 0, .string ⟨#[]⟩, .slice none 0 0] 42)) :
    w1.heap[w.heap.size]? = some (.cells #[.int .u8 kz, .int .i64 m, .slice a nl c, .slice a' n c'] 34 (0, 0)) ∧ w1.heap[w.heap.size + 1]? = some (.cells #[.int .i64 0, .float .f64 0, .string ⟨#[]⟩, .slice none 0 0] 42 (0, 0)) ∧
    BBox w1 b nv tk (bg + 1) ∧ Fr (fun k => k = b) w w1 := by
  have hbl : b < w.heap.size := lt_of_block h
  have sz : (w.setCell ⟨b, 2, none⟩ (.int .i64 ((bg : Int) + 1))).heap.size = w.heap.size := by simp [World.setCell]
  subst hw1
  have h1 := heap_alloc_first (w.setCell ⟨b, 2, none⟩ (.int .i64 ((bg : Int) + 1))) (.cells #[.int .u8 kz, .int .i64 m, .slice a nl c, .slice a' n c'] 34) (.cells #[.int .i64 0, .float .f64 0, .string ⟨#[]⟩, .slice none 0 0] 42)
  have h2 := heap_alloc_two (w.setCell ⟨b, 2, none⟩ (.int .i64 ((bg : Int) + 1))) (.cells #[.int .u8 kz, .int .i64 m, .slice a nl c, .slice a' n c'] 34) (.cells #[.int .i64 0, .float .f64 0, .string ⟨#[]⟩, .slice none 0 0] 42)
  rw [sz] at h1 h2
  refine ⟨h1, h2, ?_, (((Fr.refl _ _).set1 _ _).alloc _).alloc _⟩
  unfold BBox
  rw [Below.heap_alloc _ _ _ (by simp [World.setCell]; omega), Below.heap_alloc _ _ _ (by rw [sz]; exact hbl), setCell_row 2 _ h]
  simp

theorem build_done {l : List Int} {t : KT} {w w2 : World} {b rb tk bg tk2 bg2 : Nat} {nv : Value} {x0 x1 x2 x3 : Value} {n : Int} {f : Nat} {s : Txt} {c : Nat} {of : Nat → VT} {a : Option Addr} {cap : Nat}
    (p : w2.heap[rb]? = some (.cells #[x0, x1, x2, x3] 42 (0, 0))) (f2 : Fr (fun k => k = b) w w2) (b2 : BBox w2 b nv tk2 bg2) (hrb : rb ≠ b) (hrb0 : w.heap.size ≤ rb)
    (hE : buildE l t (tk, bg) = (.mk n f s c of, tk2, bg2)) (hB : VB n f s c)
    (hk : VKids (fun k => w.heap.size ≤ k ∧ k ≠ rb) w2 of a c cap) :
    BuiltAs l t w b nv tk bg (.returned (.agg #[.int .i64 n, .float .f64 f, .string ⟨s.toArray⟩, .slice a c cap])) ((((w2.setCell ⟨rb, 0, none⟩ (.int .i64 n)).setCell ⟨rb, 1, none⟩ (.float .f64 f)).setCell ⟨rb, 2, none⟩ (.string ⟨s.toArray⟩)).setCell ⟨rb, 3, none⟩ (.slice a c cap)) := by
  have fs : Fr (fun k => k = rb) w2 ((((w2.setCell ⟨rb, 0, none⟩ (.int .i64 n)).setCell ⟨rb, 1, none⟩ (.float .f64 f)).setCell ⟨rb, 2, none⟩ (.string ⟨s.toArray⟩)).setCell ⟨rb, 3, none⟩ (.slice a c cap)) := fr_four _ _ _ _ (Fr.refl _ _) (fun _ => rfl)
  refine ⟨_, rfl, ?_, f2.trans fs (fun i hi e => by omega), ?_⟩
  · rw [hE]
    have hk2 := hk.fr fs (fun k hk e => hk.2 e)
    refine VShows.mono (fun k _ h => h.1) _ _ (vshows_mk hB hk2)
  · rw [hE]
    unfold BBox
    rw [other_four _ _ _ _ _ (fun e => hrb e.symm)]
    exact b2

set_option maxRecDepth 100000 in
theorem build_k0 (l : List Int) (k : Nat) (m : Int) (ns : List Txt) (n : Nat) (of : Nat → KT) (hk0 : k = 0) : BuildAt l (.mk k m ns n of) := by
  intro R v nv w b tk bg hgood htk hbg hsh hRb hnum hbox
  obtain ⟨⟨hn12, hown⟩, hkids⟩ := hgood
  obtain ⟨hk8, hmost, hone, hparts, hnames, hnone⟩ := own_facts hown
  have hcost : 1 ≤ costE (.mk k m ns n of) := by unfold costE; omega
  have htk' : tk ≤ 100000 := by omega
  have hbg' : bg + 1 ≤ 100000 := by omega
  obtain ⟨vn, vo, rfl, hk, hn, ht, ho⟩ := hsh
  obtain ⟨a, c, rfl, _⟩ := ht.shape
  obtain ⟨a', c', rfl, hs⟩ : ∃ a' c', vo = .slice a' n c' ∧ Kids R w of a' n c' := by
    rcases ho with ⟨rfl, a', c', rfl⟩ | ⟨g, off, cap, hg, rfl, hle, hc⟩
    · exact ⟨a', c', rfl, .inl rfl⟩
    · exact ⟨_, cap, rfl, .inr ⟨hle, g, off, hg, rfl, hc⟩⟩
  have HS := Lib.hid hs
  have HRB := Lib.hid (show ∀ i, R i → ¬ i = b from fun i hi e => hRb (by rw [← e]; exact hi))
  have HN := Lib.hid hnum
  have HBX := Lib.hid hbox
  have hbl : b < w.heap.size := lt_of_block hbox
  unfold BBox at hbox
  have r0 := cells_row hbox 2 _ rfl
  have z0 : w.frozen? ⟨b, 2, none⟩ = false := by simp [World.frozen?, hbox]
  have n1 : b ≠ w.heap.size := by omega
  have n2 : w.heap.size ≠ b := by omega
  have n3 : b ≠ w.heap.size + 1 := by omega
  have n4 : w.heap.size + 1 ≠ b := by omega
  have HK := Lib.hid (And.intro hk0 (And.intro hmost (And.intro hone (And.intro hparts (And.intro hnames hnone)))))
  have HKIDS := Lib.hid hkids
  have HCST := Lib.hid (And.intro htk hbg)
  have HT := Lib.hid ht
  obtain ⟨kz, hkz⟩ : ∃ kz : Int, (k : Int) = kz := ⟨_, rfl⟩
  rw [hkz]
  have e0 : (kz == 0) = true := by simp; omega
  clear ho hs ht hRb hnum hbox hk0 hmost hone hparts hnames hnone hkids htk hbg hkz hown hcost hk
  go_enter Try.func19, Try.ntmps19
  go_upto_region 2 with fail
  obtain ⟨w1, hw1⟩ : ∃ w1, w1 = ((w.setCell ⟨b, 2, none⟩ (.int .i64 ((bg : Int) + 1))).alloc (.cells #[.int .u8 kz, .int .i64 m, .slice a ns.length c, .slice a' n c'] 34)).alloc (.cells #[.int .i64 0, .float .f64 0, .string ⟨#[]⟩, .slice none 0 0] 42) := ⟨_, rfl⟩
  rw [← hw1]
  obtain ⟨q1, p1, b1, f1⟩ := build_box kz m a ns.length c a' n c' HBX.out hw1
  obtain ⟨rb, hrb⟩ : ∃ rb, w.heap.size + 1 = rb := ⟨_, rfl⟩
  rw [hrb] at p1 ⊢
  have hrbb : rb ≠ b := by omega
  have hrb0 : w.heap.size ≤ rb := by omega
  have HRBX := Lib.hid hrb
  have c0 := cells_row q1 0 _ rfl
  have c1 := cells_row q1 1 _ rfl
  have c2 := cells_row q1 2 _ rfl
  have c3 := cells_row q1 3 _ rfl
  have HW1 := Lib.hid (And.intro q1 (And.intro p1 (And.intro b1 f1)))
  clear hw1 r0 z0 n1 n2 n3 n4 hrb q1 p1 b1 f1
  have htake := take_any R l nv b tk (bg + 1) (2 : Int) w1 HW1.out.2.2.1 (HN.out.fr HW1.out.2.2.2 HRB.out) htk' (by omega) (by omega)
  obtain ⟨x, hx⟩ : ∃ x, numE l tk % (2 : Int) = x := ⟨_, rfl⟩
  have hx0 : 0 ≤ x := by rw [← hx]; exact Int.emod_nonneg _ (by omega)
  have hx1 : x < 2 := by rw [← hx]; exact Int.emod_lt_of_pos _ (by omega)
  rw [hx] at htake
  have HX := Lib.hid hx
  clear hx
  go_wp2_with fail
  refine htake.mono ?_
  rintro e w2 ⟨rfl, f2, b2⟩
  clear htake
  have p2 := box_kept HW1.out.2.1 f2 (fun e => hrbb e)
  have t0 := cells_row p2 0 _ rfl
  have t1 := cells_row p2 1 _ rfl
  have t2 := cells_row p2 2 _ rfl
  have t3 := cells_row p2 3 _ rfl
  have u0 : w2.frozen? ⟨rb, 0, none⟩ = false := by simp [World.frozen?, p2]
  have u1 : w2.frozen? ⟨rb, 1, none⟩ = false := by simp [World.frozen?, p2]
  have u2 : w2.frozen? ⟨rb, 2, none⟩ = false := by simp [World.frozen?, p2]
  have u3 : w2.frozen? ⟨rb, 3, none⟩ = false := by simp [World.frozen?, p2]
  have H2 := Lib.hid (And.intro p2 (And.intro (HW1.out.2.2.2.trans f2 (fun _ _ h => h)) b2))
  clear f2 b2 p2 c0 c1 c2 c3
  go_wp2
  refine bodyPost_ret (results_cell_row rfl _ _ rb 42 _ _ _ rfl (store_four H2.out.1) Try.underlying42 rfl (by kernel_rfl)) rfl ?_
  refine build_done H2.out.1 H2.out.2.1 H2.out.2.2 hrbb hrb0 (by unfold buildE; have hk := HK.out.1; subst hk; simp only [vnum]; rw [← HX.out]; rfl) (by unfold VB maxLen; simp; first | omega | skip) (.inl rfl)

set_option maxRecDepth 100000 in
theorem build_k1 (l : List Int) (k : Nat) (m : Int) (ns : List Txt) (n : Nat) (of : Nat → KT) (hk0 : k = 1) : BuildAt l (.mk k m ns n of) := by
  intro R v nv w b tk bg hgood htk hbg hsh hRb hnum hbox
  obtain ⟨⟨hn12, hown⟩, hkids⟩ := hgood
  obtain ⟨hk8, hmost, hone, hparts, hnames, hnone⟩ := own_facts hown
  have hcost : 1 ≤ costE (.mk k m ns n of) := by unfold costE; omega
  have htk' : tk ≤ 100000 := by omega
  have hbg' : bg + 1 ≤ 100000 := by omega
  obtain ⟨vn, vo, rfl, hk, hn, ht, ho⟩ := hsh
  obtain ⟨a, c, rfl, _⟩ := ht.shape
  obtain ⟨a', c', rfl, hs⟩ : ∃ a' c', vo = .slice a' n c' ∧ Kids R w of a' n c' := by
    rcases ho with ⟨rfl, a', c', rfl⟩ | ⟨g, off, cap, hg, rfl, hle, hc⟩
    · exact ⟨a', c', rfl, .inl rfl⟩
    · exact ⟨_, cap, rfl, .inr ⟨hle, g, off, hg, rfl, hc⟩⟩
  have HS := Lib.hid hs
  have HRB := Lib.hid (show ∀ i, R i → ¬ i = b from fun i hi e => hRb (by rw [← e]; exact hi))
  have HN := Lib.hid hnum
  have HBX := Lib.hid hbox
  have hbl : b < w.heap.size := lt_of_block hbox
  unfold BBox at hbox
  have r0 := cells_row hbox 2 _ rfl
  have z0 : w.frozen? ⟨b, 2, none⟩ = false := by simp [World.frozen?, hbox]
  have n1 : b ≠ w.heap.size := by omega
  have n2 : w.heap.size ≠ b := by omega
  have n3 : b ≠ w.heap.size + 1 := by omega
  have n4 : w.heap.size + 1 ≠ b := by omega
  have HK := Lib.hid (And.intro hk0 (And.intro hmost (And.intro hone (And.intro hparts (And.intro hnames hnone)))))
  have HKIDS := Lib.hid hkids
  have HCST := Lib.hid (And.intro htk hbg)
  have HT := Lib.hid ht
  obtain ⟨kz, hkz⟩ : ∃ kz : Int, (k : Int) = kz := ⟨_, rfl⟩
  rw [hkz]
  have e0 : (kz == 0) = false := by simp; omega
  have e1 : (kz == 1) = true := by simp; omega
  clear ho hs ht hRb hnum hbox hk0 hmost hone hparts hnames hnone hkids htk hbg hkz hown hcost hk
  go_enter Try.func19, Try.ntmps19
  go_upto_region 2 with fail
  obtain ⟨w1, hw1⟩ : ∃ w1, w1 = ((w.setCell ⟨b, 2, none⟩ (.int .i64 ((bg : Int) + 1))).alloc (.cells #[.int .u8 kz, .int .i64 m, .slice a ns.length c, .slice a' n c'] 34)).alloc (.cells #[.int .i64 0, .float .f64 0, .string ⟨#[]⟩, .slice none 0 0] 42) := ⟨_, rfl⟩
  rw [← hw1]
  obtain ⟨q1, p1, b1, f1⟩ := build_box kz m a ns.length c a' n c' HBX.out hw1
  obtain ⟨rb, hrb⟩ : ∃ rb, w.heap.size + 1 = rb := ⟨_, rfl⟩
  rw [hrb] at p1 ⊢
  have hrbb : rb ≠ b := by omega
  have hrb0 : w.heap.size ≤ rb := by omega
  have HRBX := Lib.hid hrb
  have c0 := cells_row q1 0 _ rfl
  have c1 := cells_row q1 1 _ rfl
  have c2 := cells_row q1 2 _ rfl
  have c3 := cells_row q1 3 _ rfl
  have HW1 := Lib.hid (And.intro q1 (And.intro p1 (And.intro b1 f1)))
  clear hw1 r0 z0 n1 n2 n3 n4 hrb q1 p1 b1 f1
  have htake := take_any R l nv b tk (bg + 1) (65536 : Int) w1 HW1.out.2.2.1 (HN.out.fr HW1.out.2.2.2 HRB.out) htk' (by omega) (by omega)
  obtain ⟨x, hx⟩ : ∃ x, numE l tk % (65536 : Int) = x := ⟨_, rfl⟩
  have hx0 : 0 ≤ x := by rw [← hx]; exact Int.emod_nonneg _ (by omega)
  have hx1 : x < 65536 := by rw [← hx]; exact Int.emod_lt_of_pos _ (by omega)
  rw [hx] at htake
  have HX := Lib.hid hx
  clear hx
  go_wp2_with fail
  refine htake.mono ?_
  rintro e w2 ⟨rfl, f2, b2⟩
  clear htake
  have p2 := box_kept HW1.out.2.1 f2 (fun e => hrbb e)
  have t0 := cells_row p2 0 _ rfl
  have t1 := cells_row p2 1 _ rfl
  have t2 := cells_row p2 2 _ rfl
  have t3 := cells_row p2 3 _ rfl
  have u0 : w2.frozen? ⟨rb, 0, none⟩ = false := by simp [World.frozen?, p2]
  have u1 : w2.frozen? ⟨rb, 1, none⟩ = false := by simp [World.frozen?, p2]
  have u2 : w2.frozen? ⟨rb, 2, none⟩ = false := by simp [World.frozen?, p2]
  have u3 : w2.frozen? ⟨rb, 3, none⟩ = false := by simp [World.frozen?, p2]
  have H2 := Lib.hid (And.intro p2 (And.intro (HW1.out.2.2.2.trans f2 (fun _ _ h => h)) b2))
  clear f2 b2 p2 c0 c1 c2 c3
  go_wp2
  refine bodyPost_ret (results_cell_row rfl _ _ rb 42 _ _ _ rfl (store_four H2.out.1) Try.underlying42 rfl (by kernel_rfl)) rfl ?_
  refine build_done H2.out.1 H2.out.2.1 H2.out.2.2 hrbb hrb0 (by unfold buildE; have hk := HK.out.1; subst hk; simp only [vnum]; rw [← HX.out]; rfl) (by unfold VB maxLen; simp; first | omega | skip) (.inl rfl)

set_option maxRecDepth 100000 in
theorem build_k7 (l : List Int) (k : Nat) (m : Int) (ns : List Txt) (n : Nat) (of : Nat → KT) (hk0 : k = 7) : BuildAt l (.mk k m ns n of) := by
  intro R v nv w b tk bg hgood htk hbg hsh hRb hnum hbox
  obtain ⟨⟨hn12, hown⟩, hkids⟩ := hgood
  obtain ⟨hk8, hmost, hone, hparts, hnames, hnone⟩ := own_facts hown
  have hcost : 1 ≤ costE (.mk k m ns n of) := by unfold costE; omega
  have htk' : tk ≤ 100000 := by omega
  have hbg' : bg + 1 ≤ 100000 := by omega
  obtain ⟨vn, vo, rfl, hk, hn, ht, ho⟩ := hsh
  obtain ⟨a, c, rfl, _⟩ := ht.shape
  obtain ⟨a', c', rfl, hs⟩ : ∃ a' c', vo = .slice a' n c' ∧ Kids R w of a' n c' := by
    rcases ho with ⟨rfl, a', c', rfl⟩ | ⟨g, off, cap, hg, rfl, hle, hc⟩
    · exact ⟨a', c', rfl, .inl rfl⟩
    · exact ⟨_, cap, rfl, .inr ⟨hle, g, off, hg, rfl, hc⟩⟩
  have HS := Lib.hid hs
  have HRB := Lib.hid (show ∀ i, R i → ¬ i = b from fun i hi e => hRb (by rw [← e]; exact hi))
  have HN := Lib.hid hnum
  have HBX := Lib.hid hbox
  have hbl : b < w.heap.size := lt_of_block hbox
  unfold BBox at hbox
  have r0 := cells_row hbox 2 _ rfl
  have z0 : w.frozen? ⟨b, 2, none⟩ = false := by simp [World.frozen?, hbox]
  have n1 : b ≠ w.heap.size := by omega
  have n2 : w.heap.size ≠ b := by omega
  have n3 : b ≠ w.heap.size + 1 := by omega
  have n4 : w.heap.size + 1 ≠ b := by omega
  have HK := Lib.hid (And.intro hk0 (And.intro hmost (And.intro hone (And.intro hparts (And.intro hnames hnone)))))
  have HKIDS := Lib.hid hkids
  have HCST := Lib.hid (And.intro htk hbg)
  have HT := Lib.hid ht
  obtain ⟨kz, hkz⟩ : ∃ kz : Int, (k : Int) = kz := ⟨_, rfl⟩
  rw [hkz]
  have e0 : (kz == 0) = false := by simp; omega
  have e1 : (kz == 1) = false := by simp; omega
  have e2 : (kz == 2) = false := by simp; omega
  have e3 : (kz == 3) = false := by simp; omega
  have e4 : (kz == 4) = false := by simp; omega
  have e5 : (kz == 5) = false := by simp; omega
  have e6 : (kz == 6) = false := by simp; omega
  have e7 : (kz == 7) = true := by simp; omega
  clear ho hs ht hRb hnum hbox hk0 hmost hone hparts hnames hnone hkids htk hbg hkz hown hcost hk
  go_enter Try.func19, Try.ntmps19
  go_upto_region 2 with fail
  obtain ⟨w1, hw1⟩ : ∃ w1, w1 = ((w.setCell ⟨b, 2, none⟩ (.int .i64 ((bg : Int) + 1))).alloc (.cells #[.int .u8 kz, .int .i64 m, .slice a ns.length c, .slice a' n c'] 34)).alloc (.cells #[.int .i64 0, .float .f64 0, .string ⟨#[]⟩, .slice none 0 0] 42) := ⟨_, rfl⟩
  rw [← hw1]
  obtain ⟨q1, p1, b1, f1⟩ := build_box kz m a ns.length c a' n c' HBX.out hw1
  obtain ⟨rb, hrb⟩ : ∃ rb, w.heap.size + 1 = rb := ⟨_, rfl⟩
  rw [hrb] at p1 ⊢
  have hrbb : rb ≠ b := by omega
  have hrb0 : w.heap.size ≤ rb := by omega
  have HRBX := Lib.hid hrb
  have c0 := cells_row q1 0 _ rfl
  have c1 := cells_row q1 1 _ rfl
  have c2 := cells_row q1 2 _ rfl
  have c3 := cells_row q1 3 _ rfl
  have HW1 := Lib.hid (And.intro q1 (And.intro p1 (And.intro b1 f1)))
  clear hw1 r0 z0 n1 n2 n3 n4 hrb q1 p1 b1 f1
  have hl0 := (HK.out.2.2.2.2.1 (by have := HK.out.1; omega)).1
  have hl1 := (HK.out.2.2.2.2.1 (by have := HK.out.1; omega)).2
  have htake := take_any R l nv b tk (bg + 1) ((ns.length : Nat) : Int) w1 HW1.out.2.2.1 (HN.out.fr HW1.out.2.2.2 HRB.out) htk' (by omega) (by omega)
  obtain ⟨x, hx⟩ : ∃ x, numE l tk % ((ns.length : Nat) : Int) = x := ⟨_, rfl⟩
  have hx0 : 0 ≤ x := by rw [← hx]; exact Int.emod_nonneg _ (by omega)
  have hx1 : x < (ns.length : Nat) := by rw [← hx]; exact Int.emod_lt_of_pos _ (by omega)
  rw [hx] at htake
  have HX := Lib.hid hx
  clear hx
  go_wp2_with fail
  refine htake.mono ?_
  rintro e w2 ⟨rfl, f2, b2⟩
  clear htake
  have p2 := box_kept HW1.out.2.1 f2 (fun e => hrbb e)
  have t0 := cells_row p2 0 _ rfl
  have t1 := cells_row p2 1 _ rfl
  have t2 := cells_row p2 2 _ rfl
  have t3 := cells_row p2 3 _ rfl
  have u0 : w2.frozen? ⟨rb, 0, none⟩ = false := by simp [World.frozen?, p2]
  have u1 : w2.frozen? ⟨rb, 1, none⟩ = false := by simp [World.frozen?, p2]
  have u2 : w2.frozen? ⟨rb, 2, none⟩ = false := by simp [World.frozen?, p2]
  have u3 : w2.frozen? ⟨rb, 3, none⟩ = false := by simp [World.frozen?, p2]
  have H2 := Lib.hid (And.intro p2 (And.intro (HW1.out.2.2.2.trans f2 (fun _ _ h => h)) b2))
  clear f2 b2 p2 c0 c1 c2 c3
  go_wp2
  refine bodyPost_ret (results_cell_row rfl _ _ rb 42 _ _ _ rfl (store_four H2.out.1) Try.underlying42 rfl (by kernel_rfl)) rfl ?_
  refine build_done H2.out.1 H2.out.2.1 H2.out.2.2 hrbb hrb0 (by unfold buildE; have hk := HK.out.1; subst hk; simp only [vnum]; rw [← HX.out]; rfl) (by unfold VB maxLen; simp; first | omega | skip) (.inl rfl)

set_option maxRecDepth 100000 in
theorem build_k2 (l : List Int) (k : Nat) (m : Int) (ns : List Txt) (n : Nat) (of : Nat → KT) (hk0 : k = 2) : BuildAt l (.mk k m ns n of) := by
  intro R v nv w b tk bg hgood htk hbg hsh hRb hnum hbox
  obtain ⟨⟨hn12, hown⟩, hkids⟩ := hgood
  obtain ⟨hk8, hmost, hone, hparts, hnames, hnone⟩ := own_facts hown
  have hcost : 1 ≤ costE (.mk k m ns n of) := by unfold costE; omega
  have htk' : tk ≤ 100000 := by omega
  have hbg' : bg + 1 ≤ 100000 := by omega
  obtain ⟨vn, vo, rfl, hk, hn, ht, ho⟩ := hsh
  obtain ⟨a, c, rfl, _⟩ := ht.shape
  obtain ⟨a', c', rfl, hs⟩ : ∃ a' c', vo = .slice a' n c' ∧ Kids R w of a' n c' := by
    rcases ho with ⟨rfl, a', c', rfl⟩ | ⟨g, off, cap, hg, rfl, hle, hc⟩
    · exact ⟨a', c', rfl, .inl rfl⟩
    · exact ⟨_, cap, rfl, .inr ⟨hle, g, off, hg, rfl, hc⟩⟩
  have HS := Lib.hid hs
  have HRB := Lib.hid (show ∀ i, R i → ¬ i = b from fun i hi e => hRb (by rw [← e]; exact hi))
  have HN := Lib.hid hnum
  have HBX := Lib.hid hbox
  have hbl : b < w.heap.size := lt_of_block hbox
  unfold BBox at hbox
  have r0 := cells_row hbox 2 _ rfl
  have z0 : w.frozen? ⟨b, 2, none⟩ = false := by simp [World.frozen?, hbox]
  have n1 : b ≠ w.heap.size := by omega
  have n2 : w.heap.size ≠ b := by omega
  have n3 : b ≠ w.heap.size + 1 := by omega
  have n4 : w.heap.size + 1 ≠ b := by omega
  have HK := Lib.hid (And.intro hk0 (And.intro hmost (And.intro hone (And.intro hparts (And.intro hnames hnone)))))
  have HKIDS := Lib.hid hkids
  have HCST := Lib.hid (And.intro htk hbg)
  have HT := Lib.hid ht
  obtain ⟨kz, hkz⟩ : ∃ kz : Int, (k : Int) = kz := ⟨_, rfl⟩
  rw [hkz]
  have e0 : (kz == 0) = false := by simp; omega
  have e1 : (kz == 1) = false := by simp; omega
  have e2 : (kz == 2) = true := by simp; omega
  clear ho hs ht hRb hnum hbox hk0 hmost hone hparts hnames hnone hkids htk hbg hkz hown hcost hk
  go_enter Try.func19, Try.ntmps19
  go_upto_region 2 with fail
  obtain ⟨w1, hw1⟩ : ∃ w1, w1 = ((w.setCell ⟨b, 2, none⟩ (.int .i64 ((bg : Int) + 1))).alloc (.cells #[.int .u8 kz, .int .i64 m, .slice a ns.length c, .slice a' n c'] 34)).alloc (.cells #[.int .i64 0, .float .f64 0, .string ⟨#[]⟩, .slice none 0 0] 42) := ⟨_, rfl⟩
  rw [← hw1]
  obtain ⟨q1, p1, b1, f1⟩ := build_box kz m a ns.length c a' n c' HBX.out hw1
  obtain ⟨rb, hrb⟩ : ∃ rb, w.heap.size + 1 = rb := ⟨_, rfl⟩
  rw [hrb] at p1 ⊢
  have hrbb : rb ≠ b := by omega
  have hrb0 : w.heap.size ≤ rb := by omega
  have HRBX := Lib.hid hrb
  have c0 := cells_row q1 0 _ rfl
  have c1 := cells_row q1 1 _ rfl
  have c2 := cells_row q1 2 _ rfl
  have c3 := cells_row q1 3 _ rfl
  have HW1 := Lib.hid (And.intro q1 (And.intro p1 (And.intro b1 f1)))
  clear hw1 r0 z0 n1 n2 n3 n4 hrb q1 p1 b1 f1
  have htake := take_any R l nv b tk (bg + 1) (4294967296 : Int) w1 HW1.out.2.2.1 (HN.out.fr HW1.out.2.2.2 HRB.out) htk' (by omega) (by omega)
  obtain ⟨x, hx⟩ : ∃ x, numE l tk % (4294967296 : Int) = x := ⟨_, rfl⟩
  have hx0 : 0 ≤ x := by rw [← hx]; exact Int.emod_nonneg _ (by omega)
  have hx1 : x < 4294967296 := by rw [← hx]; exact Int.emod_lt_of_pos _ (by omega)
  rw [hx] at htake
  have HX := Lib.hid hx
  clear hx
  obtain ⟨y, hy⟩ : ∃ y, long32 x = y := ⟨_, rfl⟩
  have HY := Lib.hid hy
  have hy0 : -2147483648 ≤ y := by rw [← hy]; unfold long32; split <;> omega
  have hy1 : y ≤ 2147483647 := by rw [← hy]; unfold long32; split <;> omega
  have hw : IntKind.i32.wrap x = y := by rw [← hy]; exact wrap32_long x hx0 hx1
  have HWR := Lib.hid hw
  clear hy hw
  go_wp2_with fail
  refine htake.mono ?_
  rintro e w2 ⟨rfl, f2, b2⟩
  clear htake
  have hw : IntKind.i32.wrap x = y := HWR.out
  have p2 := box_kept HW1.out.2.1 f2 (fun e => hrbb e)
  have t0 := cells_row p2 0 _ rfl
  have t1 := cells_row p2 1 _ rfl
  have t2 := cells_row p2 2 _ rfl
  have t3 := cells_row p2 3 _ rfl
  have u0 : w2.frozen? ⟨rb, 0, none⟩ = false := by simp [World.frozen?, p2]
  have u1 : w2.frozen? ⟨rb, 1, none⟩ = false := by simp [World.frozen?, p2]
  have u2 : w2.frozen? ⟨rb, 2, none⟩ = false := by simp [World.frozen?, p2]
  have u3 : w2.frozen? ⟨rb, 3, none⟩ = false := by simp [World.frozen?, p2]
  have H2 := Lib.hid (And.intro p2 (And.intro (HW1.out.2.2.2.trans f2 (fun _ _ h => h)) b2))
  clear f2 b2 p2 c0 c1 c2 c3
  go_wp2
  clear hw
  refine bodyPost_ret (results_cell_row rfl _ _ rb 42 _ _ _ rfl (store_four H2.out.1) Try.underlying42 rfl (by kernel_rfl)) rfl ?_
  refine build_done H2.out.1 H2.out.2.1 H2.out.2.2 hrbb hrb0 (by unfold buildE; have hk := HK.out.1; subst hk; simp only [vnum]; rw [← HY.out, ← HX.out]; rfl) (by unfold VB maxLen; simp; first | omega | skip) (.inl rfl)

set_option maxRecDepth 100000 in
theorem build_k3 (l : List Int) (k : Nat) (m : Int) (ns : List Txt) (n : Nat) (of : Nat → KT) (hk0 : k = 3) : BuildAt l (.mk k m ns n of) := by
  intro R v nv w b tk bg hgood htk hbg hsh hRb hnum hbox
  obtain ⟨⟨hn12, hown⟩, hkids⟩ := hgood
  obtain ⟨hk8, hmost, hone, hparts, hnames, hnone⟩ := own_facts hown
  have hcost : 1 ≤ costE (.mk k m ns n of) := by unfold costE; omega
  have htk' : tk ≤ 100000 := by omega
  have hbg' : bg + 1 ≤ 100000 := by omega
  obtain ⟨vn, vo, rfl, hk, hn, ht, ho⟩ := hsh
  obtain ⟨a, c, rfl, _⟩ := ht.shape
  obtain ⟨a', c', rfl, hs⟩ : ∃ a' c', vo = .slice a' n c' ∧ Kids R w of a' n c' := by
    rcases ho with ⟨rfl, a', c', rfl⟩ | ⟨g, off, cap, hg, rfl, hle, hc⟩
    · exact ⟨a', c', rfl, .inl rfl⟩
    · exact ⟨_, cap, rfl, .inr ⟨hle, g, off, hg, rfl, hc⟩⟩
  have HS := Lib.hid hs
  have HRB := Lib.hid (show ∀ i, R i → ¬ i = b from fun i hi e => hRb (by rw [← e]; exact hi))
  have HN := Lib.hid hnum
  have HBX := Lib.hid hbox
  have hbl : b < w.heap.size := lt_of_block hbox
  unfold BBox at hbox
  have r0 := cells_row hbox 2 _ rfl
  have z0 : w.frozen? ⟨b, 2, none⟩ = false := by simp [World.frozen?, hbox]
  have n1 : b ≠ w.heap.size := by omega
  have n2 : w.heap.size ≠ b := by omega
  have n3 : b ≠ w.heap.size + 1 := by omega
  have n4 : w.heap.size + 1 ≠ b := by omega
  have HK := Lib.hid (And.intro hk0 (And.intro hmost (And.intro hone (And.intro hparts (And.intro hnames hnone)))))
  have HKIDS := Lib.hid hkids
  have HCST := Lib.hid (And.intro htk hbg)
  have HT := Lib.hid ht
  obtain ⟨kz, hkz⟩ : ∃ kz : Int, (k : Int) = kz := ⟨_, rfl⟩
  rw [hkz]
  have e0 : (kz == 0) = false := by simp; omega
  have e1 : (kz == 1) = false := by simp; omega
  have e2 : (kz == 2) = false := by simp; omega
  have e3 : (kz == 3) = true := by simp; omega
  clear ho hs ht hRb hnum hbox hk0 hmost hone hparts hnames hnone hkids htk hbg hkz hown hcost hk
  go_enter Try.func19, Try.ntmps19
  go_upto_region 2 with fail
  obtain ⟨w1, hw1⟩ : ∃ w1, w1 = ((w.setCell ⟨b, 2, none⟩ (.int .i64 ((bg : Int) + 1))).alloc (.cells #[.int .u8 kz, .int .i64 m, .slice a ns.length c, .slice a' n c'] 34)).alloc (.cells #[.int .i64 0, .float .f64 0, .string ⟨#[]⟩, .slice none 0 0] 42) := ⟨_, rfl⟩
  rw [← hw1]
  obtain ⟨q1, p1, b1, f1⟩ := build_box kz m a ns.length c a' n c' HBX.out hw1
  obtain ⟨rb, hrb⟩ : ∃ rb, w.heap.size + 1 = rb := ⟨_, rfl⟩
  rw [hrb] at p1 ⊢
  have hrbb : rb ≠ b := by omega
  have hrb0 : w.heap.size ≤ rb := by omega
  have HRBX := Lib.hid hrb
  have c0 := cells_row q1 0 _ rfl
  have c1 := cells_row q1 1 _ rfl
  have c2 := cells_row q1 2 _ rfl
  have c3 := cells_row q1 3 _ rfl
  have HW1 := Lib.hid (And.intro q1 (And.intro p1 (And.intro b1 f1)))
  clear hw1 r0 z0 n1 n2 n3 n4 hrb q1 p1 b1 f1
  have hnum := number_any R l nv b tk (bg + 1) w1 HW1.out.2.2.1 (HN.out.fr HW1.out.2.2.2 HRB.out) htk'
  have hxb := numE_in HN.out tk
  obtain ⟨x, hx⟩ : ∃ x, numE l tk = x := ⟨_, rfl⟩
  have hfl := float_of_int x
  rw [hx] at hnum hxb
  obtain ⟨hx0, hx1⟩ := hxb
  have HFL := Lib.hid hfl
  have HX := Lib.hid hx
  clear hx hfl
  go_wp2_with fail
  refine hnum.mono ?_
  rintro e w2 ⟨rfl, f2, b2⟩
  clear hnum
  have p2 := box_kept HW1.out.2.1 f2 (fun e => hrbb e)
  have t0 := cells_row p2 0 _ rfl
  have t1 := cells_row p2 1 _ rfl
  have t2 := cells_row p2 2 _ rfl
  have t3 := cells_row p2 3 _ rfl
  have u0 : w2.frozen? ⟨rb, 0, none⟩ = false := by simp [World.frozen?, p2]
  have u1 : w2.frozen? ⟨rb, 1, none⟩ = false := by simp [World.frozen?, p2]
  have u2 : w2.frozen? ⟨rb, 2, none⟩ = false := by simp [World.frozen?, p2]
  have u3 : w2.frozen? ⟨rb, 3, none⟩ = false := by simp [World.frozen?, p2]
  have H2 := Lib.hid (And.intro p2 (And.intro (HW1.out.2.2.2.trans f2 (fun _ _ h => h)) b2))
  clear f2 b2 p2 c0 c1 c2 c3
  go_wp2
  refine bodyPost_ret (results_cell_row rfl _ _ rb 42 _ _ _ rfl (store_four H2.out.1) Try.underlying42 rfl (by kernel_rfl)) rfl ?_
  refine build_done H2.out.1 H2.out.2.1 H2.out.2.2 hrbb hrb0 (by unfold buildE; have hk := HK.out.1; subst hk; rw [← HX.out]; rfl) (by unfold VB maxLen; exact ⟨by omega, by omega, HFL.out, by simp, by omega⟩) (.inl rfl)

set_option maxRecDepth 100000 in
theorem build_k4 (l : List Int) (k : Nat) (m : Int) (ns : List Txt) (n : Nat) (of : Nat → KT) (hk0 : k = 4) : BuildAt l (.mk k m ns n of) := by
  intro R v nv w b tk bg hgood htk hbg hsh hRb hnum hbox
  obtain ⟨⟨hn12, hown⟩, hkids⟩ := hgood
  obtain ⟨hk8, hmost, hone, hparts, hnames, hnone⟩ := own_facts hown
  have hcost : 1 ≤ costE (.mk k m ns n of) := by unfold costE; omega
  have htk' : tk ≤ 100000 := by omega
  have hbg' : bg + 1 ≤ 100000 := by omega
  obtain ⟨vn, vo, rfl, hk, hn, ht, ho⟩ := hsh
  obtain ⟨a, c, rfl, _⟩ := ht.shape
  obtain ⟨a', c', rfl, hs⟩ : ∃ a' c', vo = .slice a' n c' ∧ Kids R w of a' n c' := by
    rcases ho with ⟨rfl, a', c', rfl⟩ | ⟨g, off, cap, hg, rfl, hle, hc⟩
    · exact ⟨a', c', rfl, .inl rfl⟩
    · exact ⟨_, cap, rfl, .inr ⟨hle, g, off, hg, rfl, hc⟩⟩
  have HS := Lib.hid hs
  have HRB := Lib.hid (show ∀ i, R i → ¬ i = b from fun i hi e => hRb (by rw [← e]; exact hi))
  have HN := Lib.hid hnum
  have HBX := Lib.hid hbox
  have hbl : b < w.heap.size := lt_of_block hbox
  unfold BBox at hbox
  have r0 := cells_row hbox 2 _ rfl
  have z0 : w.frozen? ⟨b, 2, none⟩ = false := by simp [World.frozen?, hbox]
  have n1 : b ≠ w.heap.size := by omega
  have n2 : w.heap.size ≠ b := by omega
  have n3 : b ≠ w.heap.size + 1 := by omega
  have n4 : w.heap.size + 1 ≠ b := by omega
  have HK := Lib.hid (And.intro hk0 (And.intro hmost (And.intro hone (And.intro hparts (And.intro hnames hnone)))))
  have HKIDS := Lib.hid hkids
  have HCST := Lib.hid (And.intro htk hbg)
  have HT := Lib.hid ht
  obtain ⟨kz, hkz⟩ : ∃ kz : Int, (k : Int) = kz := ⟨_, rfl⟩
  rw [hkz]
  have e0 : (kz == 0) = false := by simp; omega
  have e1 : (kz == 1) = false := by simp; omega
  have e2 : (kz == 2) = false := by simp; omega
  have e3 : (kz == 3) = false := by simp; omega
  have e4 : (kz == 4) = true := by simp; omega
  clear ho hs ht hRb hnum hbox hk0 hmost hone hparts hnames hnone hkids htk hbg hkz hown hcost hk
  go_enter Try.func19, Try.ntmps19
  go_upto_region 2 with fail
  obtain ⟨w1, hw1⟩ : ∃ w1, w1 = ((w.setCell ⟨b, 2, none⟩ (.int .i64 ((bg : Int) + 1))).alloc (.cells #[.int .u8 kz, .int .i64 m, .slice a ns.length c, .slice a' n c'] 34)).alloc (.cells #[.int .i64 0, .float .f64 0, .string ⟨#[]⟩, .slice none 0 0] 42) := ⟨_, rfl⟩
  rw [← hw1]
  obtain ⟨q1, p1, b1, f1⟩ := build_box kz m a ns.length c a' n c' HBX.out hw1
  obtain ⟨rb, hrb⟩ : ∃ rb, w.heap.size + 1 = rb := ⟨_, rfl⟩
  rw [hrb] at p1 ⊢
  have hrbb : rb ≠ b := by omega
  have hrb0 : w.heap.size ≤ rb := by omega
  have HRBX := Lib.hid hrb
  have c0 := cells_row q1 0 _ rfl
  have c1 := cells_row q1 1 _ rfl
  have c2 := cells_row q1 2 _ rfl
  have c3 := cells_row q1 3 _ rfl
  have HW1 := Lib.hid (And.intro q1 (And.intro p1 (And.intro b1 f1)))
  clear hw1 r0 z0 n1 n2 n3 n4 hrb q1 p1 b1 f1
  obtain ⟨hm0, hm1⟩ := HK.out.2.1 (.inl HK.out.1)
  have htake := take_any R l nv b tk (bg + 1) (m + 1) w1 HW1.out.2.2.1 (HN.out.fr HW1.out.2.2.2 HRB.out) htk' (by omega) (by omega)
  obtain ⟨x, hx⟩ : ∃ x : Nat, numE l tk % (m + 1) = x := ⟨(numE l tk % (m + 1)).toNat, by have := Int.emod_nonneg (numE l tk) (show m + 1 ≠ 0 by omega); omega⟩
  have hx1 : x ≤ 60 := by have := Int.emod_lt_of_pos (numE l tk) (show 0 < m + 1 by omega); omega
  rw [hx] at htake
  have HX := Lib.hid hx
  clear hx
  go_wp2_with fail
  refine htake.mono ?_
  rintro e wt ⟨rfl, ft, bt⟩
  go_wp2_with fail
  refine (letters_any x (by omega) _).mono ?_
  rintro e w2 ⟨rfl, fl⟩
  have f2 : Fr (fun k => k = b) w1 w2 := ft.trans fl (fun _ _ h => h.elim)
  have b2 := bt.fr fl (fun h => h)
  clear htake ft fl bt
  have p2 := box_kept HW1.out.2.1 f2 (fun e => hrbb e)
  have t0 := cells_row p2 0 _ rfl
  have t1 := cells_row p2 1 _ rfl
  have t2 := cells_row p2 2 _ rfl
  have t3 := cells_row p2 3 _ rfl
  have u0 : w2.frozen? ⟨rb, 0, none⟩ = false := by simp [World.frozen?, p2]
  have u1 : w2.frozen? ⟨rb, 1, none⟩ = false := by simp [World.frozen?, p2]
  have u2 : w2.frozen? ⟨rb, 2, none⟩ = false := by simp [World.frozen?, p2]
  have u3 : w2.frozen? ⟨rb, 3, none⟩ = false := by simp [World.frozen?, p2]
  have H2 := Lib.hid (And.intro p2 (And.intro (HW1.out.2.2.2.trans f2 (fun _ _ h => h)) b2))
  clear f2 b2 p2 c0 c1 c2 c3
  go_wp2
  refine bodyPost_ret (results_cell_row rfl _ _ rb 42 _ _ _ rfl (store_four H2.out.1) Try.underlying42 rfl (by kernel_rfl)) rfl ?_
  refine build_done H2.out.1 H2.out.2.1 H2.out.2.2 hrbb hrb0 (by unfold buildE; have hk := HK.out.1; subst hk; simp only [HX.out, Int.toNat_natCast]; rfl) (by unfold VB maxLen; rw [lettersE_length]; omega) (.inl rfl)
end
section
def sumTo (c : Nat → Nat) (j : Nat) : Nat := ((List.range j).map c).sum

theorem sumTo_succ (c : Nat → Nat) (j : Nat) : sumTo c (j + 1) = sumTo c j + c j := by
  unfold sumTo; rw [List.range_succ, List.map_append, List.sum_append]; simp

theorem sumTo_le (c : Nat → Nat) (j n : Nat) (h : j < n) : sumTo c j + c j ≤ sumTo c n := by
  induction n with
  | zero => omega
  | succ n ih =>
    rw [sumTo_succ]
    by_cases e : j = n
    · subst e; exact Nat.le_refl _
    · have := ih (by omega); omega

theorem sumTo_mono (c : Nat → Nat) (j n : Nat) (h : j ≤ n) : sumTo c j ≤ sumTo c n := by
  by_cases e : j = n
  · subst e; exact Nat.le_refl _
  · have := sumTo_le c j n (by omega); omega

theorem sumTo_const (c j : Nat) : sumTo (fun _ => c) j = j * c := by
  induction j with
  | zero => simp [sumTo]
  | succ j ih => rw [sumTo_succ, ih, Nat.add_mul]; omega

theorem partsL_le (f : Nat → Nat × Nat → VT × (Nat × Nat)) (c : Nat → Nat) (n : Nat) (h : ∀ i s, i < n → (f i s).2.1 ≤ s.1 + c i ∧ (f i s).2.2 ≤ s.2 + c i) (s : Nat × Nat) :
    ∀ j, j ≤ n → (partsL f j s).2.1 ≤ s.1 + sumTo c j ∧ (partsL f j s).2.2 ≤ s.2 + sumTo c j := by
  intro j
  induction j with
  | zero => intro _; exact ⟨by simp [partsL], by simp [partsL]⟩
  | succ j ih =>
    intro hj
    have h1 := ih (by omega)
    have h2 := h j (partsL f j s).2 (by omega)
    rw [sumTo_succ]
    simp only [partsL]
    omega

theorem szV_list (L : List VT) : szV (listV L) = 1 + (L.map szV).sum := by
  unfold listV
  rw [szV]
  congr 1
  have : ((List.range L.length).map fun i => szV (L.getD i .nil)) = L.map szV := by
    apply List.ext_getElem
    · simp
    · intro i h1 h2
      simp at h1
      simp [List.getD, h1]
  rw [this]

theorem partsL_sz (f : Nat → Nat × Nat → VT × (Nat × Nat)) (c : Nat → Nat) (n : Nat) (h : ∀ i s, i < n → szV (f i s).1 ≤ c i) (s : Nat × Nat) : ∀ j, j ≤ n → ((partsL f j s).1.map szV).sum ≤ sumTo c j := by
  intro j
  induction j with
  | zero => intro _; simp [partsL, sumTo]
  | succ j ih =>
    intro hj
    have h1 := ih (by omega)
    have h2 := h j (partsL f j s).2 (by omega)
    rw [sumTo_succ]
    simp only [partsL, List.map_append, List.sum_append, List.map_cons, List.map_nil, List.sum_cons, List.sum_nil]
    omega

theorem nextE_le (l : List Int) (tk : Nat) : nextE l tk ≤ tk + 1 := by unfold nextE; split <;> omega

/-- How often a Seq's part is built. -/
theorem seq_times (x m : Int) : (min (x % 4) m).toNat ≤ 3 := by
  have h1 := Int.emod_lt_of_pos x (show (0 : Int) < 4 by omega)
  omega

theorem choice_index (x : Int) (n : Nat) (hn : 1 ≤ n) : (x % (n : Int)).toNat < n := by
  have h1 := Int.emod_lt_of_pos x (show (0 : Int) < (n : Int) by omega)
  have h2 := Int.emod_nonneg x (show (n : Int) ≠ 0 by omega)
  omega

theorem cost_parts (k : Nat) (m : Int) (ns : List Txt) (n : Nat) (of : Nat → KT) (h : k ≠ 5) : costE (.mk k m ns n of) = 1 + sumTo (fun i => costE (of i)) n := by
  rw [costE, if_neg h]; rfl

theorem cost_seq (m : Int) (ns : List Txt) (n : Nat) (of : Nat → KT) : costE (.mk 5 m ns n of) = 1 + 3 * costE (of 0) := by
  rw [costE, if_pos rfl]

theorem build_le (l : List Int) (t : KT) : goodE t → ∀ s, ((buildE l t s).2.1 ≤ s.1 + costE t ∧ (buildE l t s).2.2 ≤ s.2 + costE t) ∧ szV (buildE l t s).1 ≤ costE t := by
  induction t with
  | nil => exact fun h => h.elim
  | mk k m ns n of ih =>
    intro hg s
    obtain ⟨⟨hn12, hown⟩, hkids⟩ := hg
    obtain ⟨hk8, hmost, hone, hparts, hnames, hnone⟩ := own_facts hown
    have hnx := nextE_le l s.1
    have hone' : 1 ≤ costE (.mk k m ns n of) := by unfold costE; omega
    have hleaf : ∀ x f tx, szV (.mk x f tx 0 (fun _ => .nil)) = 1 := fun _ _ _ => by simp [szV]
    unfold buildE
    split
    · refine ⟨?_, ?_⟩
      · show nextE l s.1 ≤ _ ∧ s.2 + 1 ≤ _
        omega
      · rw [show szV (vnum (numE l s.1 % 2)) = 1 from hleaf _ _ _]; exact hone'
    split
    · refine ⟨?_, ?_⟩
      · show nextE l s.1 ≤ _ ∧ s.2 + 1 ≤ _
        omega
      · rw [show szV (vnum (numE l s.1 % 65536)) = 1 from hleaf _ _ _]; exact hone'
    split
    · refine ⟨?_, ?_⟩
      · show nextE l s.1 ≤ _ ∧ s.2 + 1 ≤ _
        omega
      · rw [show szV (vnum (long32 (numE l s.1 % 4294967296))) = 1 from hleaf _ _ _]; exact hone'
    split
    · refine ⟨?_, ?_⟩
      · show nextE l s.1 ≤ _ ∧ s.2 + 1 ≤ _
        omega
      · show szV (.mk _ _ _ 0 _) ≤ _
        rw [hleaf]; exact hone'
    split
    · refine ⟨?_, ?_⟩
      · show nextE l s.1 ≤ _ ∧ s.2 + 1 ≤ _
        omega
      · show szV (.mk _ _ _ 0 _) ≤ _
        rw [hleaf]; exact hone'
    split
    · rename_i h5
      subst h5
      rw [cost_seq]
      split
      · refine ⟨?_, ?_⟩
        · show s.1 ≤ _ ∧ s.2 + 1 ≤ _
          omega
        · rw [szV_list]; simp
      · have hj := seq_times (numE l s.1) m
        have h0 : 0 < n := by have := hone rfl; omega
        have hi := fun s => ih 0 (hkids 0 h0) s
        have a := partsL_le (fun _ q => buildE l (of 0) q) (fun _ => costE (of 0)) 3 (fun i s _ => (hi s).1) (nextE l s.1, s.2 + 1) _ hj
        have b := partsL_sz (fun _ q => buildE l (of 0) q) (fun _ => costE (of 0)) 3 (fun i s _ => (hi s).2) (nextE l s.1, s.2 + 1) _ hj
        have c := sumTo_mono (fun _ => costE (of 0)) _ _ hj
        rw [sumTo_const (costE (of 0)) 3] at c
        refine ⟨?_, ?_⟩
        · have a1 := a.1
          have a2 := a.2
          simp only at a1 a2 ⊢
          omega
        · simp only
          rw [szV_list]
          omega
    split
    · rename_i h6
      have hk5 : k ≠ 5 := by omega
      rw [cost_parts _ _ _ _ _ hk5]
      have a := partsL_le (fun i q => buildE l (of i) q) (fun i => costE (of i)) n (fun i s hi => (ih i (hkids i hi) s).1) (s.1, s.2 + 1) n (Nat.le_refl _)
      have b := partsL_sz (fun i q => buildE l (of i) q) (fun i => costE (of i)) n (fun i s hi => (ih i (hkids i hi) s).2) (s.1, s.2 + 1) n (Nat.le_refl _)
      refine ⟨?_, ?_⟩
      · have a1 := a.1
        have a2 := a.2
        simp only at a1 a2 ⊢
        omega
      · simp only
        rw [szV_list]
        omega
    split
    · refine ⟨?_, ?_⟩
      · show nextE l s.1 ≤ _ ∧ s.2 + 1 ≤ _
        omega
      · rw [show szV (vnum (numE l s.1 % ns.length)) = 1 from hleaf _ _ _]; exact hone'
    · have hk : k = 8 := by omega
      have hn1 : 1 ≤ n := by have := hparts (.inr hk); have := (hnames (.inr (.inr hk))).1; omega
      have hi := choice_index (numE l s.1) n hn1
      obtain ⟨⟨a, b⟩, c⟩ := ih _ (hkids _ hi) (nextE l s.1, s.2 + 1)
      have d := sumTo_le (fun i => costE (of i)) _ _ hi
      rw [cost_parts _ _ _ _ _ (by omega : k ≠ 5)]
      refine ⟨?_, ?_⟩
      · simp only at a b d ⊢
        omega
      · simp only [szV]
        have e : ((List.range 1).map fun _ : Nat => szV (buildE l (of (numE l s.1 % (n : Int)).toNat) (nextE l s.1, s.2 + 1)).1).sum = szV (buildE l (of (numE l s.1 % (n : Int)).toNat) (nextE l s.1, s.2 + 1)).1 := by simp
        rw [e]
        omega
end
section
theorem Try.infoValue : (Try.prog.info? 42).map (fun i => (i.zero, i.size, i.bytes)) = some (some (.agg #[.int .i64 0, .float .f64 0, .string ⟨#[]⟩, .slice none 0 0]), 4, 56) := by kernel_rfl

theorem vmode_gc : (Region.Mode.any == Region.Mode.gc) = false := rfl

/-- The local value, its parts being in the row po. -/
def VLoc (wx : World) (vb : Nat) (po : Value) : Prop := wx.heap[vb]? = some (.cells #[.int .i64 0, .float .f64 0, .string ⟨#[]⟩, po] 42 (0, 0))

abbrev VRow (wx : World) (vb : Nat) (po : Value) (L : List VT) : Prop := ItRow vShown 42 4 (vb + 1) (fun _ => False) wx po L

/-- What one round may change: the builder, the local value, its parts' row. -/
def Dirt (b vb : Nat) (po : Value) (k : Nat) : Prop := k = b ∨ k = vb ∨ po.ownBlock = some k

/-- Ahead of the call of build, behind it, behind the row of one, behind the append, behind the store. -/
def AccS (wr : World) (b vb : Nat) (nv po : Value) (L : List VT) (s s' : Nat × Nat) (T : VT) : List Value → World → Prop
  | [], wx => Fr (Dirt b vb po) wr wx ∧ BBox wx b nv s.1 s.2 ∧ VLoc wx vb po ∧ VRow wx vb po L
  | [v], wx => Fr (Dirt b vb po) wr wx ∧ BBox wx b nv s'.1 s'.2 ∧ VLoc wx vb po ∧ VRow wx vb po L ∧ VShows (fun k => wr.heap.size ≤ k) wx T v
  | [_, u], wx => Fr (Dirt b vb po) wr wx ∧ BBox wx b nv s'.1 s'.2 ∧ VLoc wx vb po ∧ VRow wx vb po L ∧ ∃ gg y0 y1 y2 y3, u = .slice (some ⟨gg, 0, none⟩) 1 1 ∧ wx.heap[gg]? = some (.cells #[y0, y1, y2, y3] 42 (0, 0)) ∧ VShows (fun k => wr.heap.size ≤ k) wx T (.agg #[y0, y1, y2, y3])
  | [_, _, x], wx => Fr (Dirt b vb po) wr wx ∧ BBox wx b nv s'.1 s'.2 ∧ VLoc wx vb po ∧ VRow wx vb x (L ++ [T])
  | _ :: _ :: x :: _ :: _, wx => Fr (Dirt b vb po) wr wx ∧ BBox wx b nv s'.1 s'.2 ∧ VLoc wx vb x ∧ VRow wx vb x (L ++ [T])

theorem AccS.f {wr : World} {b vb : Nat} {nv po : Value} {L : List VT} {s s' : Nat × Nat} {T : VT} {cvs : List Value} {wx : World} (h : AccS wr b vb nv po L s s' T cvs wx) : Fr (Dirt b vb po) wr wx := by
  match cvs with
  | [] => exact h.1
  | [_] => exact h.1
  | [_, _] => exact h.1
  | [_, _, _] => exact h.1
  | _ :: _ :: _ :: _ :: _ => exact h.1

theorem AccS.loc {wr : World} {b vb : Nat} {nv po : Value} {L : List VT} {s s' : Nat × Nat} {T : VT} {cvs : List Value} {wx : World} (h : AccS wr b vb nv po L s s' T cvs wx) (hc : cvs.length ≤ 3) : VLoc wx vb po := by
  match cvs with
  | [] => exact h.2.2.1
  | [_] => exact h.2.2.1
  | [_, _] => exact h.2.2.1
  | [_, _, _] => exact h.2.2.1
  | _ :: _ :: _ :: _ :: _ => simp at hc

/-- A value's cells are single ones. -/
theorem vshows_one {R : Nat → Prop} {w : World} {t : VT} {y0 y1 y2 y3 : Value} (h : VShows R w t (.agg #[y0, y1, y2, y3])) : ∀ u ∈ [y0, y1, y2, y3], u.oneCell' = true := by
  obtain ⟨n, f, s, a, c, cap, e⟩ := h.lit
  simp only [Value.agg.injEq, Array.mk.injEq, List.cons.injEq, and_true] at e
  obtain ⟨rfl, rfl, rfl, rfl⟩ := e
  intro u hu
  simp at hu
  rcases hu with rfl | rfl | rfl | rfl <;> rfl
end
section
attribute [local go_sem] run_store_float

theorem record_done {l : List Int} {t : KT} {w w2 : World} {b rb vb tk bg tk2 bg2 : Nat} {nv : Value} {x0 x1 x2 x3 : Value} {po : Value} {L : List VT} {a : Option Addr} {n cap : Nat}
    (p : w2.heap[rb]? = some (.cells #[x0, x1, x2, x3] 42 (0, 0))) (f2 : Fr (fun k => k = b) w w2) (b2 : BBox w2 b nv tk2 bg2) (hrb : rb ≠ b) (hrb0 : w.heap.size ≤ rb) (hvb : rb < vb) (hrow : VRow w2 vb po L) (hpo : po = .slice a n cap)
    (hL : L.length ≤ 100000) (hE : buildE l t (tk, bg) = (listV L, tk2, bg2)) :
    BuiltAs l t w b nv tk bg (.returned (.agg #[.int .i64 0, .float .f64 0, .string ⟨#[]⟩, .slice a n cap])) ((((w2.setCell ⟨rb, 0, none⟩ (.int .i64 0)).setCell ⟨rb, 1, none⟩ (.float .f64 0)).setCell ⟨rb, 2, none⟩ (.string ⟨#[]⟩)).setCell ⟨rb, 3, none⟩ (.slice a n cap)) := by
  subst hpo
  have hk := ItRow.vkids hrow (fun i => L.getD i .nil) (fun i x hi => by rw [List.getD_eq_getElem?_getD, hi]; rfl)
  obtain ⟨a', c', e⟩ := hrow.slice
  cases e
  refine build_done p f2 b2 hrb hrb0 (s := []) hE (by unfold VB maxLen; simp; omega) ?_
  rcases hk with h | ⟨h1, gg, off, hg, e, hc⟩
  · exact .inl h
  · refine .inr ⟨h1, gg, off, ⟨by omega, by omega⟩, e, fun i hi => ?_⟩
    obtain ⟨x0, x1, x2, x3, c0, c1, c2, c3, hx⟩ := hc i hi
    exact ⟨x0, x1, x2, x3, c0, c1, c2, c3, VShows.mono (fun k _ (h : vb + 1 ≤ k) => ⟨by omega, by omega⟩) _ _ hx⟩

set_option maxRecDepth 100000 in
theorem build_k6 (l : List Int) (k : Nat) (m : Int) (ns : List Txt) (n : Nat) (of : Nat → KT) (ih : ∀ i, BuildAt l (of i)) (hk0 : k = 6) : BuildAt l (.mk k m ns n of) := by
  intro R v nv w b tk bg hgood htk hbg hsh hRb hnum hbox
  obtain ⟨⟨hn12, hown⟩, hkids⟩ := hgood
  obtain ⟨hk8, hmost, hone, hparts, hnames, hnone⟩ := own_facts hown
  have hcost : 1 ≤ costE (.mk k m ns n of) := by unfold costE; omega
  have htk' : tk ≤ 100000 := by omega
  have hbg' : bg + 1 ≤ 100000 := by omega
  obtain ⟨vn, vo, rfl, hk, hn, ht, ho⟩ := hsh
  obtain ⟨a, c, rfl, _⟩ := ht.shape
  obtain ⟨a', c', rfl, hs⟩ : ∃ a' c', vo = .slice a' n c' ∧ Kids R w of a' n c' := by
    rcases ho with ⟨rfl, a', c', rfl⟩ | ⟨g, off, cap, hg, rfl, hle, hc⟩
    · exact ⟨a', c', rfl, .inl rfl⟩
    · exact ⟨_, cap, rfl, .inr ⟨hle, g, off, hg, rfl, hc⟩⟩
  have HS := Lib.hid hs
  have HRB := Lib.hid (show ∀ i, R i → ¬ i = b from fun i hi e => hRb (by rw [← e]; exact hi))
  have HN := Lib.hid hnum
  have HBX := Lib.hid hbox
  have hbl : b < w.heap.size := lt_of_block hbox
  unfold BBox at hbox
  have r0 := cells_row hbox 2 _ rfl
  have z0 : w.frozen? ⟨b, 2, none⟩ = false := by simp [World.frozen?, hbox]
  have n1 : b ≠ w.heap.size := by omega
  have n2 : w.heap.size ≠ b := by omega
  have n3 : b ≠ w.heap.size + 1 := by omega
  have n4 : w.heap.size + 1 ≠ b := by omega
  have HK := Lib.hid (And.intro hk0 (And.intro hmost (And.intro hone (And.intro hparts (And.intro hnames hnone)))))
  have HKIDS := Lib.hid hkids
  have HCST := Lib.hid (And.intro htk hbg)
  have HT := Lib.hid ht
  obtain ⟨kz, hkz⟩ : ∃ kz : Int, (k : Int) = kz := ⟨_, rfl⟩
  rw [hkz]
  have e0 : (kz == 0) = false := by simp; omega
  have e1 : (kz == 1) = false := by simp; omega
  have e2 : (kz == 2) = false := by simp; omega
  have e3 : (kz == 3) = false := by simp; omega
  have e4 : (kz == 4) = false := by simp; omega
  have e5 : (kz == 5) = false := by simp; omega
  have e6 : (kz == 6) = true := by simp; omega
  clear ho hs ht hRb hnum hbox hk0 hmost hone hparts hnames hnone hkids htk hbg hkz hown hcost hk
  go_enter Try.func19, Try.ntmps19
  go_upto_region 2 with fail
  obtain ⟨w1, hw1⟩ : ∃ w1, w1 = ((w.setCell ⟨b, 2, none⟩ (.int .i64 ((bg : Int) + 1))).alloc (.cells #[.int .u8 kz, .int .i64 m, .slice a ns.length c, .slice a' n c'] 34)).alloc (.cells #[.int .i64 0, .float .f64 0, .string ⟨#[]⟩, .slice none 0 0] 42) := ⟨_, rfl⟩
  rw [← hw1]
  obtain ⟨q1, p1, b1, f1⟩ := build_box kz m a ns.length c a' n c' HBX.out hw1
  obtain ⟨rb, hrb⟩ : ∃ rb, w.heap.size + 1 = rb := ⟨_, rfl⟩
  rw [hrb] at p1 ⊢
  have hrbb : rb ≠ b := by omega
  have hrb0 : w.heap.size ≤ rb := by omega
  have HRBX := Lib.hid hrb
  have c0 := cells_row q1 0 _ rfl
  have c1 := cells_row q1 1 _ rfl
  have c2 := cells_row q1 2 _ rfl
  have c3 := cells_row q1 3 _ rfl
  have HW1 := Lib.hid (And.intro q1 (And.intro p1 (And.intro b1 f1)))
  clear hw1 r0 z0 n1 n2 n3 n4 hrb q1 p1 b1 f1
  have HN2 := Lib.hid (HN.out.mono (S := fun k => R k ∧ k < w.heap.size) (fun k hk h => ⟨h, hk⟩))
  go_upto_region 19 with fail
  obtain ⟨w2, hw2⟩ : ∃ w2, w2 = w1.alloc (.cells #[.int .i64 0, .float .f64 0, .string ⟨#[]⟩, .slice none 0 0] 42) := ⟨_, rfl⟩
  rw [← hw2]
  have f2 : Fr (fun _ => False) w1 w2 := by rw [hw2]; exact (Fr.refl _ _).alloc _
  have v2' : VLoc w2 w1.heap.size (.slice none 0 0) := by rw [hw2]; exact heap_alloc_new _ _
  obtain ⟨vb, hvb⟩ : ∃ vb, w1.heap.size = vb := ⟨_, rfl⟩
  have hrbv : rb < vb := by rw [← hvb]; exact lt_of_block HW1.out.2.1
  rw [hvb] at v2' ⊢
  have hbvb : b < vb := by omega
  have hwvb : w.heap.size < vb := by omega
  have q2 := box_kept HW1.out.1 f2 (fun h => h)
  have c3 := cells_row q2 3 _ rfl
  have H2 := Lib.hid (And.intro (box_kept HW1.out.2.1 f2 (fun h => h)) (And.intro (HW1.out.2.2.1.fr f2 (fun h => h)) (And.intro v2' (HW1.out.2.2.2.trans f2 (fun _ _ h => h.elim)))))
  have hnn : n ≤ 12 := hn12
  clear hw2 hvb f2 v2' q2 c0 c1 c2
  go_wp2
  clear c3
  obtain ⟨f, hf⟩ : ∃ f : Nat → Nat × Nat → VT × (Nat × Nat), f = (fun i q => buildE l (of i) q) := ⟨_, rfl⟩
  have HF := Lib.hid hf
  have HLE := Lib.hid (show ∀ j, j ≤ n → (partsL f j (tk, bg + 1)).2.1 ≤ tk + sumTo (fun i => costE (of i)) j ∧ (partsL f j (tk, bg + 1)).2.2 ≤ bg + 1 + sumTo (fun i => costE (of i)) j from fun j hj => by
    have := partsL_le f (fun i => costE (of i)) n (fun i s hi => by rw [hf]; exact (build_le l (of i) (HKIDS.out i hi) s).1) (tk, bg + 1) j hj
    exact this)
  have HE : Hid (buildE l (.mk k m ns n of) (tk, bg) = (listV (partsL f n (tk, bg + 1)).1, (partsL f n (tk, bg + 1)).2)) := Lib.hid (by
    have hk := HK.out.1
    subst hk
    rw [hf]
    exact buildE_record l m ns n of (tk, bg))
  have HC5 := Lib.hid (cost_parts k m ns n of (by have := HK.out.1; omega))
  clear hf
  go_loopg [7, 76] n (fun G u7 u76 wr => ∃ (j : Nat) (po : Value), j ≤ n ∧ G = n - j ∧ u76 = .int .i64 j ∧ Hid (Fr (fun k => k = b) w wr ∧ BBox wr b nv (partsL f j (tk, bg + 1)).2.1 (partsL f j (tk, bg + 1)).2.2 ∧ VLoc wr vb po ∧ VRow wr vb po (partsL f j (tk, bg + 1)).1 ∧ wr.heap[rb]? = some (.cells #[.int .i64 0, .float .f64 0, .string ⟨#[]⟩, .slice none 0 0] 42 (0, 0))))
  case atStart => exact ⟨0, .slice none 0 0, Nat.zero_le _, rfl, by go_num, Lib.hid ⟨H2.out.2.2.2, H2.out.2.1, H2.out.2.2.1, ItRow.nil _ _ _ _ _ _, H2.out.1⟩⟩
  case round =>
    obtain ⟨j, po, hj, rfl, rfl, HI⟩ := hrel
    have hlen := partsL_length f j (tk, bg + 1)
    obtain ⟨qa, qc, hpo⟩ : ∃ qa qc, po = .slice qa j qc := by
      obtain ⟨qa, qc, e⟩ := HI.out.2.2.2.1.slice
      rw [hlen] at e
      exact ⟨qa, qc, e⟩
    subst hpo
    have HLEN := Lib.hid hlen
    have hvbr : vb < wr.heap.size := lt_of_block HI.out.2.2.1
    clear hlen
    by_cases hlt : j < n
    · rcases HS.out with hz | ⟨hcap, g, off, hg, rfl, hcell⟩
      · omega
      obtain ⟨x0, x1, x2, x3, y0, y1, y2, y3, hx⟩ := hcell j hlt
      have y0 := cell_fr HI.out.1 HRB.out hg y0
      have y1 := cell_fr HI.out.1 HRB.out hg y1
      have y2 := cell_fr HI.out.1 HRB.out hg y2
      have y3 := cell_fr HI.out.1 HRB.out hg y3
      obtain ⟨xk, xm, xa, xn, xc, xa', xn', xc', rfl, rfl, rfl, rfl⟩ := hx.cells
      have HX := Lib.hid (Shows.fr HI.out.1 (fun k hk e => HRB.out k hk.1 e) _ _ (Shows.mono (S := fun k => R k ∧ k < w.heap.size) (fun k hk h => ⟨h, hk⟩) _ _ hx))
      have HLT := Lib.hid hlt
      have jn : (j : Int) < (n : Int) := by omega
      have j0 : (0 : Int) ≤ (j : Int) := by omega
      clear hcell hx
      go_wp2_with fail
      obtain ⟨wp, hwp⟩ : ∃ wp, wp = wr.alloc (.cells #[.int .u8 xk, .int .i64 xm, .slice xa xn xc, .slice xa' xn' xc'] 34) := ⟨_, rfl⟩
      rw [← hwp]
      obtain ⟨pb, hpb⟩ : ∃ pb, wr.heap.size = pb := ⟨_, rfl⟩
      have fp : Fr (fun _ => False) wr wp := by rw [hwp]; exact (Fr.refl _ _).alloc _
      have qp : wp.heap[pb]? = some (.cells #[.int .u8 xk, .int .i64 xm, .slice xa xn xc, .slice xa' xn' xc'] 34 (0, 0)) := by rw [hwp, ← hpb]; exact heap_alloc_new _ _
      have hown : ∀ k, (Value.slice qa j qc).ownBlock = some k → vb + 1 ≤ k ∧ k < pb := fun k hk => by
        have := HI.out.2.2.2.1.own k hk
        omega
      have hpbw : pb < wp.heap.size := lt_of_block qp
      have hpbv : vb < pb := by omega
      rw [hpb]
      have HP := Lib.hid (And.intro fp (And.intro qp hown))
      have HB0 := Lib.hid (And.intro hbvb (And.intro hpbv hwvb))
      clear hwp hpb fp qp hown y0 y1 y2 y3 hlt jn j0
      obtain ⟨s, hs⟩ : ∃ s, s = (partsL f j (tk, bg + 1)).2 := ⟨_, rfl⟩
      obtain ⟨L, hL⟩ : ∃ L, L = (partsL f j (tk, bg + 1)).1 := ⟨_, rfl⟩
      have HSL := Lib.hid (And.intro hs hL)
      have hacc : AccS wp b vb nv (.slice qa j qc) L s (f j s).2 (f j s).1 [] wp.drew := by
        rw [hs, hL]
        exact ⟨(Fr.refl _ _).drew, HI.out.2.1.fr (HP.out.1.drew) (fun h => h), box_kept HI.out.2.2.1 (HP.out.1.drew) (fun h => h), HI.out.2.2.2.1.fr (HP.out.1.drew) (fun _ _ h => h)⟩
      have HACC := Lib.hid hacc
      have hbnd : s.1 + costE (of j) ≤ 100000 ∧ s.2 + costE (of j) ≤ 100000 := by
        have h1 := HLE.out j hj
        have h2 := sumTo_le (fun i => costE (of i)) j n HLT.out
        have h3 := HCST.out
        have h4 := HC5.out
        rw [← hs] at h1
        omega
      have HBND := Lib.hid hbnd
      have hLj : L.length = j := by rw [hL]; exact HLEN.out
      have HLJ := Lib.hid hLj
      have HFJ : Hid (f j s = buildE l (of j) s) := Lib.hid (by rw [HF.out])
      clear hs hL hacc hbnd hLj
      refine wp_region_chain (by kernel_rfl) [some 80, some 81, some 82, some 83, some 84, some 85, some 86, some 87, none] rfl (by decide) (by intro d hd; simp at hd ⊢; omega)
        [4, 5, 6, 8] (AccS wp b vb nv (.slice qa j qc) L s (f j s).2 (f j s).1)
        [.free (.pointer (some ⟨vb, 3, none⟩)), .free (.slice qa j qc), .free (.pointer (some ⟨b, 0, none⟩)), .free (.agg #[.int .u8 xk, .int .i64 xm, .slice xa xn xc, .slice xa' xn' xc']),
         .link none, .link none, .link none, .free (.pointer (some ⟨vb, 3, none⟩)), .link none]
        (by kernel_rfl) (by kernel_rfl) ?h0 ?step ?fin
      case h0 => exact HACC.out
      case step =>
        intro vals2
        simp only [frOfU, fillU, List.setIfInBounds_toArray, List.set_cons_succ, List.set_cons_zero]
        repeat' (first | exact AllOps.nil | refine AllOps.cons ?_ ?_)
        all_goals
          intro cvs wx hS he hu hlim K hK
          simp only [Act.put, List.setIfInBounds_toArray, List.set_cons_succ, List.set_cons_zero, List.getD_cons_zero, List.getD_cons_succ] at hK
          simp only [List.mem_cons, List.not_mem_nil, or_false, forall_eq_or_imp, forall_eq, Region.binds, forall_const, vmode_gc, Bool.false_eq_true, false_imp_iff, List.getD_cons_zero, List.getD_cons_succ, OpSort.val, Option.some.injEq, forall_eq', reduceCtorEq, implies_true, true_and, and_true] at he
          have HSX := Lib.hid hS
          clear hS
        all_goals first | (clear hlim hu; (try simp only [he] at hK ⊢); go_simp; exact hK) | skip
        · have hl := HSX.out.loc (Nat.le_trans (hlim 2 6 rfl (by kernel_rfl)) (by omega))
          have e3 := cells_row hl 3 _ rfl
          clear hlim hu hl
          simp only [he] at hK ⊢
          go_simp
          exact hK
        · have hq := box_kept HP.out.2.1 HSX.out.f (fun h => by
            rcases h with h | h | h
            · have := HB0.out; omega
            · have := HB0.out; omega
            · have := (HP.out.2.2 _ h).2; omega)
          obtain ⟨e0, e1, e2, e3⟩ := cell_of_four hq
          clear hlim hu hq
          simp only [he] at hK ⊢
          go_simp
          exact hK
        · obtain rfl := hlim (0 : Nat) rfl
          have h1 := HSX.out
          simp only [List.take_zero, List.map_nil] at h1
          simp only [he] at hK ⊢
          go_simp
          go_at_call 19
          have hR : ∀ k, (R k ∧ k < w.heap.size) → ¬ Dirt b vb (.slice qa j qc) k := fun k hk h => by
            rcases h with h | h | h
            · exact HRB.out k hk.1 h
            · have := HB0.out; omega
            · have := (HP.out.2.2 _ h).1; have := HB0.out; omega
          refine (ih j (fun k => R k ∧ k < w.heap.size) _ nv wx b s.1 s.2 (HKIDS.out j HLT.out) HBND.out.1 HBND.out.2 (Shows.fr h1.1 hR _ _ (Shows.fr HP.out.1 (fun _ _ h => h) _ _ HX.out)) (fun h => HRB.out b h.1 rfl) (((HN2.out.fr HI.out.1 (fun k hk e => HRB.out k hk.1 e)).fr HP.out.1 (fun _ _ h => h)).fr h1.1 hR) h1.2.1).mono ?_
          rintro e1 wa ⟨v', rfl, hsv, fa, ba⟩
          have fe : buildE l (of j) (s.1, s.2) = f j s := HFJ.out.symm
          rw [fe] at hsv ba
          refine hK _ _ (fun _ h => by cases h) ⟨h1.1.trans fa (fun i _ h => .inl h), ba, box_kept h1.2.2.1 fa (fun h => by have := HB0.out; omega), h1.2.2.2.fr fa (fun k hk h => by have := HB0.out; omega), VShows.mono (fun k _ hk => Nat.le_trans h1.1.size hk) _ _ hsv⟩
        · obtain rfl := hlim (1 : Nat) rfl
          have h1 := HSX.out
          clear HSX hlim hu
          simp only [List.take_succ_cons, List.take_zero, List.map_cons, List.map_nil] at h1 hK
          obtain ⟨hf, hb, hl, hr, hs⟩ := h1
          obtain ⟨zn, zf, zs, za, zc, zcap, e4⟩ := hs.lit
          rw [e4] at hs
          simp only [he, e4] at hK ⊢
          go_simp
          have fa : Fr (fun _ => False) wx (wx.alloc (.cells #[.int .i64 zn, .float .f64 zf, .string zs, .slice za zc zcap] 42)) := (Fr.refl _ _).alloc _
          exact hK _ _ (fun _ h => by cases h) ⟨hf.trans fa (fun _ _ h => h.elim), hb.fr fa (fun h => h), box_kept hl fa (fun h => h), hr.fr fa (fun _ _ h => h), _, _, _, _, _, rfl, heap_alloc_new _ _, VShows.fr fa (fun _ _ h => h) _ _ hs⟩
        · obtain rfl := hlim (2 : Nat) rfl
          have h1 := HSX.out
          clear HSX hlim hu
          simp only [List.take_succ_cons, List.take_zero, List.map_cons, List.map_nil] at h1 hK
          obtain ⟨hf, hb, hl, hr, gg, y0, y1, y2, y3, e6, hgg, hss⟩ := h1
          rw [if_pos (by rfl)]
          have hsz := lt_of_block hl
          have hfs := hf.size
          have hb0 := HB0.out
          refine opWp_push (pv := (.slice qa j qc)) (l := L) (B := vb + 1) (X := fun _ => False) (D := vShown) (.tmp 81) (.tmp 85) 40 40 rfl Try.underlying40 Try.underlying40 Try.infoValue rfl (by decide) he hr gg e6 (news := [y0, y1, y2, y3]) hgg rfl (vshows_one hss) (by have := HLJ.out; omega) (by omega) (by omega) (fun k hk => hk.elim) (f j s).1 ⟨_, _, _, _, rfl, VShows.mono (fun k _ hk => ⟨by omega, fun h => h, fun h => by have := (HP.out.2.2 _ h).2; omega⟩) _ _ hss⟩ ?_
          intro v' w8 hrow f6 hv
          refine hK _ _ (fun _ h => by cases h) ⟨hf.trans f6 (fun i _ h => .inr (.inr h)), hb.fr f6 (fun h => by have := (HP.out.2.2 _ h).1; omega), box_kept hl f6 (fun h => by have := (HP.out.2.2 _ h).1; omega), hrow⟩
        · obtain rfl := hlim (3 : Nat) rfl
          have h1 := HSX.out
          clear HSX hlim hu
          simp only [List.take_succ_cons, List.take_zero, List.map_cons, List.map_nil] at h1 hK
          obtain ⟨hf, hb, hl, hr⟩ := h1
          obtain ⟨xa, xn, xc, e7⟩ : ∃ xa xn xc, vals2 6 = .slice xa xn xc := by obtain ⟨a, c, e⟩ := hr.slice; exact ⟨a, _, c, e⟩
          have z2 : wx.frozen? ⟨vb, 3, none⟩ = false := by unfold VLoc at hl; simp [World.frozen?, hl]
          obtain ⟨e0, e1, e2, e3⟩ := cell_of_four hl
          have fs : Fr (fun k => k = vb) wx (wx.setCell ⟨vb, 3, none⟩ (vals2 6)) := Fr.set1 (Fr.refl _ _) 3 _
          have HG := Lib.hid (show AccS wp b vb nv (.slice qa j qc) L s (f j s).2 (f j s).1 [vals2 4, vals2 5, vals2 6, undef] (wx.setCell ⟨vb, 3, none⟩ (vals2 6)) from
            ⟨hf.trans fs (fun i _ h => .inr (.inl h)), hb.fr fs (fun h => by have := HB0.out; omega), setCell_row 3 _ hl, hr.fr fs (fun k hk h => by omega)⟩)
          clear hf hb hl hr fs
          rw [e7] at HG
          simp only [he, e7] at hK ⊢
          go_simp
          exact hK undef _ (fun _ h => by cases h) HG.out
      case fin =>
        intro vals2 w7 hS hV
        clear hV
        simp only [List.map_cons, List.map_nil] at hS
        obtain ⟨hf, hb, hl, hr⟩ := hS
        have hd : ∀ i, i < wr.heap.size → Dirt b vb (.slice qa j qc) i → i < w.heap.size → i = b := fun i hi h hw => by
          rcases h with h | h | h
          · exact h
          · have := HB0.out; omega
          · have := (HP.out.2.2 _ h).1; have := HB0.out; omega
        have fw : Fr (fun k => k = b) w w7 := ⟨hf.os.trans (HP.out.1.os.trans HI.out.1.os), hf.tape.trans (HP.out.1.tape.trans HI.out.1.tape), hf.output.trans (HP.out.1.output.trans HI.out.1.output), Nat.le_trans HI.out.1.size (Nat.le_trans HP.out.1.size hf.size), fun i hi hs => by
          have i1 : i < wr.heap.size := Nat.lt_of_lt_of_le hi HI.out.1.size
          rw [hf.block i (Nat.lt_of_lt_of_le i1 HP.out.1.size) (fun h => hs (hd i i1 h hi)), HP.out.1.block i i1 (fun h => h), HI.out.1.block i hi hs]⟩
        have hrbk := box_kept (box_kept HI.out.2.2.2.2 HP.out.1 (fun h => h)) hf (fun h => by
          rcases h with h | h | h
          · exact hrbb h
          · omega
          · have := (HP.out.2.2 _ h).1; omega)
        have hps : partsL f (j + 1) (tk, bg + 1) = (L ++ [(f j s).1], (f j s).2) := by
          rw [HSL.out.1, HSL.out.2]; rfl
        have HS2 := Lib.hid (show Fr (fun k => k = b) w w7 ∧ BBox w7 b nv (partsL f (j + 1) (tk, bg + 1)).2.1 (partsL f (j + 1) (tk, bg + 1)).2.2 ∧ VLoc w7 vb (vals2 6) ∧ VRow w7 vb (vals2 6) (partsL f (j + 1) (tk, bg + 1)).1 ∧ w7.heap[rb]? = some (.cells #[.int .i64 0, .float .f64 0, .string ⟨#[]⟩, .slice none 0 0] 42 (0, 0)) from by
          rw [hps]; exact ⟨fw, hb, hl, hr, hrbk⟩)
        clear hf hb hl hr fw hrbk hps hd
        simp only [frOfU, fillU, List.setIfInBounds_toArray, List.set_cons_succ, List.set_cons_zero]
        go_wp2
        go_roundg (n - (j + 1))
        case measure => have := HLT.out; omega
        case rel => exact ⟨j + 1, vals2 6, HLT.out, rfl, by go_num, HS2⟩
    · obtain rfl : j = n := by omega
      obtain ⟨d0, d1, d2, d3⟩ := cell_of_four HI.out.2.2.1
      have p2 := HI.out.2.2.2.2
      have t0 := cells_row p2 0 _ rfl
      have t1 := cells_row p2 1 _ rfl
      have t2 := cells_row p2 2 _ rfl
      have t3 := cells_row p2 3 _ rfl
      have u0 : wr.frozen? ⟨rb, 0, none⟩ = false := by simp [World.frozen?, p2]
      have u1 : wr.frozen? ⟨rb, 1, none⟩ = false := by simp [World.frozen?, p2]
      have u2 : wr.frozen? ⟨rb, 2, none⟩ = false := by simp [World.frozen?, p2]
      have u3 : wr.frozen? ⟨rb, 3, none⟩ = false := by simp [World.frozen?, p2]
      clear p2
      go_wp2
      refine bodyPost_ret (results_cell_row rfl _ _ rb 42 _ _ _ rfl (store_four HI.out.2.2.2.2) Try.underlying42 rfl (by kernel_rfl)) rfl ?_
      exact record_done HI.out.2.2.2.2 HI.out.1 HI.out.2.1 hrbb hrb0 hrbv HI.out.2.2.2.1 rfl (by have := HLEN.out; omega) HE.out
end
section
attribute [local go_sem] run_store_float

/-- Ahead of the call of take, and behind it. -/
def TakeS (w : World) (b : Nat) (nv : Value) (tk tk' bg : Nat) : List Value → World → Prop
  | [], wx => Fr (fun k => k = b) w wx ∧ BBox wx b nv tk bg
  | _ :: _, wx => Fr (fun k => k = b) w wx ∧ BBox wx b nv tk' bg

theorem TakeS.f {w : World} {b : Nat} {nv : Value} {tk tk' bg : Nat} {cvs : List Value} {wx : World} (h : TakeS w b nv tk tk' bg cvs wx) : Fr (fun k => k = b) w wx := by
  match cvs with
  | [] => exact h.1
  | _ :: _ => exact h.1

theorem run_min_int (x y : Int) (ts : Array TypeId) (t : TypeId) (w : World) : (Builtin.min_ ts t #[.int .i64 x, .int .i64 y]).run Try.prog w = .ok (.int .i64 (if y < x then y else x)) w := by
  simp [Builtin.min_, Builtin.min2]

set_option maxRecDepth 100000 in
theorem seq_any (l : List Int) (m : Int) (ns : List Txt) (n : Nat) (of : Nat → KT) (ih : BuildAt l (of 0)) (R : Nat → Prop) (v nv : Value) (w : World) (b tk bg : Nat) (hgood : goodE (.mk 5 m ns n of))
    (htk : tk + costE (.mk 5 m ns n of) ≤ 100000) (hbg : bg + costE (.mk 5 m ns n of) ≤ 100000) (hsh : Shows R w (.mk 5 m ns n of) v) (hRb : ¬ R b) (hnum : Nums R w l nv) (hbox : BBox w b nv tk (bg + 1)) :
    Calls Try.prog 40 #[.pointer (some ⟨b, 0, none⟩), v] w (BuiltAs l (.mk 5 m ns n of) w b nv tk bg) := by
  obtain ⟨⟨hn12, hown⟩, hkids⟩ := hgood
  obtain ⟨hk8, hmost, hone, hparts, hnames, hnone⟩ := own_facts hown
  obtain ⟨hm0, hm1⟩ := hmost (.inr rfl)
  obtain rfl : n = 1 := hone rfl
  have hgd := hkids 0 (by omega)
  have hcost := cost_seq m ns 1 of
  have htk' : tk ≤ 100000 := by omega
  have hbg' : bg + 1 ≤ 100000 := by omega
  obtain ⟨vn, vo, rfl, hk, hn, ht, ho⟩ := hsh
  obtain ⟨a, c, rfl, _⟩ := ht.shape
  obtain ⟨a', c', rfl, hs⟩ : ∃ a' c', vo = .slice a' 1 c' ∧ Kids R w of a' 1 c' := by
    rcases ho with ⟨h, _⟩ | ⟨g, off, cap, hg, rfl, hle, hc⟩
    · cases h
    · exact ⟨_, cap, rfl, .inr ⟨hle, g, off, hg, rfl, hc⟩⟩
  rcases hs with hz | ⟨hcap, g, off, hg, rfl, hcell⟩
  · cases hz
  obtain ⟨x0, x1, x2, x3, y0, y1, y2, y3, hx⟩ := hcell 0 (by omega)
  obtain ⟨xk, xm, xa, xn, xc, xa', xn', xc', rfl, rfl, rfl, rfl⟩ := hx.cells
  simp only [Nat.zero_mul, Nat.add_zero] at y0 y1 y2 y3
  have hRB : ∀ i, (R i ∧ i < w.heap.size) → ¬ i = b := fun i hi e => hRb (by rw [← e]; exact hi.1)
  have hgl : g < w.heap.size := World.block_lt_of_cell? w _ y0
  have HY := Lib.hid (And.intro y0 (And.intro y1 (And.intro y2 y3)))
  have HX := Lib.hid (Shows.mono (S := fun k => R k ∧ k < w.heap.size) (fun k hk h => ⟨h, hk⟩) _ _ hx)
  have HRB := Lib.hid hRB
  have HG := Lib.hid (show R g ∧ g < w.heap.size from ⟨hg, hgl⟩)
  have HN2 := Lib.hid (hnum.mono (S := fun k => R k ∧ k < w.heap.size) (fun k hk h => ⟨h, hk⟩))
  have HBX := Lib.hid hbox
  have hbl : b < w.heap.size := lt_of_block hbox
  have HCST := Lib.hid (And.intro htk (And.intro hbg hcost))
  have HGD := Lib.hid hgd
  clear ho hcell hx y0 y1 y2 y3 hRb hnum hbox hmost hone hparts hnames hnone hkids htk hbg hown hcost hk hgd hRB hn ht hg
  go_enter Try.func40, Try.ntmps40
  go_upto_region 2 with fail
  obtain ⟨w3, hw3⟩ : ∃ w3, w3 = ((w.alloc (.cells #[.int .u8 5, .int .i64 m, .slice a ns.length c, .slice (some ⟨g, off, none⟩) 1 c'] 34)).alloc (.cells #[.int .i64 0, .float .f64 0, .string ⟨#[]⟩, .slice none 0 0] 42)).alloc (.cells #[.int .i64 0, .float .f64 0, .string ⟨#[]⟩, .slice none 0 0] 42) := ⟨_, rfl⟩
  rw [← hw3]
  have f3 : Fr (fun _ => False) w w3 := by rw [hw3]; exact (((Fr.refl _ _).alloc _).alloc _).alloc _
  have q3 : w3.heap[w.heap.size]? = some (.cells #[.int .u8 5, .int .i64 m, .slice a ns.length c, .slice (some ⟨g, off, none⟩) 1 c'] 34 (0, 0)) := by
    rw [hw3, Below.heap_alloc _ _ _ (by simp; omega)]; exact heap_alloc_first _ _ _
  have p3 : w3.heap[w.heap.size + 1]? = some (.cells #[.int .i64 0, .float .f64 0, .string ⟨#[]⟩, .slice none 0 0] 42 (0, 0)) := by
    rw [hw3, Below.heap_alloc _ _ _ (by simp)]; exact heap_alloc_two _ _ _
  have v3 : VLoc w3 (w.heap.size + 1 + 1) (.slice none 0 0) := by
    rw [hw3]
    have h := heap_alloc_new ((w.alloc (.cells #[.int .u8 5, .int .i64 m, .slice a ns.length c, .slice (some ⟨g, off, none⟩) 1 c'] 34)).alloc (.cells #[.int .i64 0, .float .f64 0, .string ⟨#[]⟩, .slice none 0 0] 42)) (.cells #[.int .i64 0, .float .f64 0, .string ⟨#[]⟩, .slice none 0 0] 42)
    rw [show ((w.alloc (.cells #[.int .u8 5, .int .i64 m, .slice a ns.length c, .slice (some ⟨g, off, none⟩) 1 c'] 34)).alloc (.cells #[.int .i64 0, .float .f64 0, .string ⟨#[]⟩, .slice none 0 0] 42)).heap.size = w.heap.size + 1 + 1 by simp] at h
    exact h
  have b3 := HBX.out.fr f3 (fun h => h)
  have lt3 : w.heap.size + 1 + 1 < w3.heap.size := lt_of_block v3
  obtain ⟨vb, hvb⟩ : ∃ vb, w.heap.size + 1 + 1 = vb := ⟨_, rfl⟩
  obtain ⟨rb, hrb⟩ : ∃ rb, w.heap.size + 1 = rb := ⟨_, rfl⟩
  obtain ⟨tb, htb⟩ : ∃ tb, w.heap.size = tb := ⟨_, rfl⟩
  rw [hvb] at v3 lt3 ⊢
  rw [hrb] at p3 ⊢
  rw [htb] at q3 ⊢
  have o1 : tb < rb := by omega
  have o2 : rb < vb := by omega
  have o3 : b < tb := by omega
  have o4 : rb ≠ b := by omega
  have o5 : w.heap.size ≤ rb := by omega
  have hrbb : rb ≠ b := o4
  have hbvb : b < vb := by omega
  have hwvb : w.heap.size < vb := by omega
  have HTB := Lib.hid htb
  unfold BBox at b3
  have r2 := cells_row b3 2 _ rfl
  have H3 := Lib.hid (And.intro f3 (And.intro q3 (And.intro p3 (And.intro v3 b3))))
  clear hw3 f3 hvb hrb htb
  by_cases h100 : 100 < bg + 1
  · have h100' : 100 < ((bg + 1 : Nat) : Int) := by omega
    have HE : Hid (buildE l (.mk 5 m ns 1 of) (tk, bg) = (listV [], tk, bg + 1)) := Lib.hid (buildE_none l m ns 1 of (tk, bg) h100)
    obtain ⟨d0, d1, d2, d3⟩ := cell_of_four v3
    have t0 := cells_row p3 0 _ rfl
    have t1 := cells_row p3 1 _ rfl
    have t2 := cells_row p3 2 _ rfl
    have t3 := cells_row p3 3 _ rfl
    have u0 : w3.frozen? ⟨rb, 0, none⟩ = false := by simp [World.frozen?, p3]
    have u1 : w3.frozen? ⟨rb, 1, none⟩ = false := by simp [World.frozen?, p3]
    have u2 : w3.frozen? ⟨rb, 2, none⟩ = false := by simp [World.frozen?, p3]
    have u3 : w3.frozen? ⟨rb, 3, none⟩ = false := by simp [World.frozen?, p3]
    clear q3 p3 v3 b3 h100
    go_wp2
    refine bodyPost_ret (results_cell_row rfl _ _ rb 42 _ _ _ rfl (store_four H3.out.2.2.1) Try.underlying42 rfl (by kernel_rfl)) rfl ?_
    exact record_done H3.out.2.2.1 (H3.out.1.mono (fun _ _ h => h.elim)) H3.out.2.2.2.2 o4 o5 o2 (ItRow.nil _ _ _ _ _ _) rfl (by simp) HE.out
  have h100' : ¬ 100 < ((bg + 1 : Nat) : Int) := by omega
  have hx0 : 0 ≤ numE l tk % 4 := Int.emod_nonneg _ (by omega)
  have hx1 : numE l tk % 4 < 4 := Int.emod_lt_of_pos _ (by omega)
  obtain ⟨x, hx⟩ : ∃ x, numE l tk % 4 = x := ⟨_, rfl⟩
  rw [hx] at hx0 hx1
  obtain ⟨cnt, hcnt⟩ : ∃ cnt : Nat, (if m < x then m else x) = (cnt : Int) := ⟨(if m < x then m else x).toNat, by split <;> omega⟩
  have hcnt3 : cnt ≤ 3 := by split at hcnt <;> omega
  have hmin : (min (numE l tk % 4) m).toNat = cnt := by rw [hx]; split at hcnt <;> omega
  obtain ⟨f, hf⟩ : ∃ f : Nat → Nat × Nat → VT × (Nat × Nat), f = (fun _ q => buildE l (of 0) q) := ⟨_, rfl⟩
  have HF := Lib.hid hf
  have HE : Hid (buildE l (.mk 5 m ns 1 of) (tk, bg) = (listV (partsL f cnt (nextE l tk, bg + 1)).1, (partsL f cnt (nextE l tk, bg + 1)).2)) := Lib.hid (by
    rw [buildE_seq l m ns 1 of (tk, bg) h100, hf]
    simp only [hmin])
  have HLE := Lib.hid (show ∀ j, j ≤ cnt → (partsL f j (nextE l tk, bg + 1)).2.1 + costE (of 0) * (cnt - j) ≤ 100000 ∧ (partsL f j (nextE l tk, bg + 1)).2.2 + costE (of 0) * (cnt - j) ≤ 100000 from fun j hj => by
    have h1 := partsL_le f (fun _ => costE (of 0)) cnt (fun i s hi => by rw [hf]; exact (build_le l (of 0) HGD.out s).1) (nextE l tk, bg + 1) j hj
    rw [sumTo_const] at h1
    have h2 := nextE_le l tk
    have h3 := HCST.out
    have h4 : j * costE (of 0) + costE (of 0) * (cnt - j) ≤ 3 * costE (of 0) := by
      rw [Nat.mul_comm (costE (of 0)), ← Nat.add_mul]
      exact Nat.mul_le_mul_right _ (by omega)
    have h5 := h1.1
    have h6 := h1.2
    simp only at h5 h6
    omega)
  have htake := fun (wx : World) (hb : BBox wx b nv tk (bg + 1)) (hf : Fr (fun k => k = b) w3 wx) => take_any (fun k => R k ∧ k < w.heap.size) l nv b tk (bg + 1) 4 wx hb ((HN2.out.fr H3.out.1 (fun _ _ h => h)).fr hf HRB.out) htk' (by omega) (by omega)
  rw [hx] at htake
  have HTK := Lib.hid htake
  have hmn : ∀ (ts : Array TypeId) (t : TypeId) (w : World), (Builtin.min_ ts t #[.int .i64 x, .int .i64 m]).run Try.prog w = .ok (.int .i64 (cnt : Int)) w := fun ts t w => by rw [run_min_int, hcnt]
  have HMN := Lib.hid hmn
  clear hx hcnt hmin hf htake hmn h100 q3 p3 v3 b3
  go_upto_region 4 with fail
  refine wp_region_chain (by kernel_rfl) [some 13, some 14, some 15, some 16, some 17, some 18] rfl (by decide) (by intro d hd; simp at hd ⊢; omega)
    [1] (TakeS w3 b nv tk (nextE l tk) (bg + 1))
    [.free (.pointer (some ⟨b, 0, none⟩)), .link (some (.int .i64 x)), .free (.pointer (some ⟨tb, 1, none⟩)), .free (.int .i64 m), .free (.int .i64 cnt), .free (.int .i64 0)]
    (by kernel_rfl) (by kernel_rfl) ?a0 ?astep ?afin
  case a0 => exact ⟨(Fr.refl _ _).drew, H3.out.2.2.2.2⟩
  case astep =>
    intro vals
    simp only [frOfU, fillU, List.setIfInBounds_toArray, List.set_cons_succ, List.set_cons_zero]
    repeat' (first | exact AllOps.nil | refine AllOps.cons ?_ ?_)
    all_goals
      intro cvs wx hS he hu hlim K hK
      simp only [Act.put, List.setIfInBounds_toArray, List.set_cons_succ, List.set_cons_zero, List.getD_cons_zero, List.getD_cons_succ] at hK
      simp only [List.mem_cons, List.not_mem_nil, or_false, forall_eq_or_imp, forall_eq, Region.binds, forall_const, vmode_gc, Bool.false_eq_true, false_imp_iff, List.getD_cons_zero, List.getD_cons_succ, OpSort.val, Option.some.injEq, forall_eq', reduceCtorEq, implies_true, true_and, and_true] at he
      have HSX := Lib.hid hS
      clear hS
    all_goals first | (clear hlim hu; (try simp only [he] at hK ⊢); go_simp; exact hK) | skip
    · obtain rfl := hlim (0 : Nat) rfl
      have h1 := HSX.out
      simp only [List.take_zero, List.map_nil] at h1
      simp only [he] at hK ⊢
      go_simp
      go_at_call 37
      refine (HTK.out wx h1.2 h1.1).mono ?_
      rintro e1 wa ⟨rfl, fa, ba⟩
      exact hK _ _ (fun _ h => by cases h; rfl) ⟨h1.1.trans fa (fun _ _ h => h), ba⟩
    · have hq := box_kept H3.out.2.1 HSX.out.f (fun h => by omega)
      have e1 := cells_row hq 1 _ rfl
      clear hlim hu hq
      simp only [he] at hK ⊢
      go_simp
      exact hK
    · have hmn := HMN.out
      clear hlim hu
      simp only [he] at hK ⊢
      go_simp
      exact hK
  case afin =>
  intro vals w4 hS hV
  have v1 := hV 1 _ (by decide) rfl
  have v4 := hV 4 _ (by decide) rfl
  have v5 := hV 5 _ (by decide) rfl
  clear hV
  simp only [List.map_cons, List.map_nil] at hS
  obtain ⟨f4, b4⟩ := hS
  have H4 := Lib.hid (show Fr (fun k => k = b) w w4 ∧ BBox w4 b nv (nextE l tk) (bg + 1) ∧ VLoc w4 vb (.slice none 0 0) ∧ w4.heap[rb]? = some (.cells #[.int .i64 0, .float .f64 0, .string ⟨#[]⟩, .slice none 0 0] 42 (0, 0)) ∧ w4.heap[tb]? = some (.cells #[.int .u8 5, .int .i64 m, .slice a ns.length c, .slice (some ⟨g, off, none⟩) 1 c'] 34 (0, 0)) from
    ⟨(H3.out.1.mono (fun _ _ h => h.elim)).trans f4 (fun _ _ h => h), b4, box_kept H3.out.2.2.2.1 f4 (fun h => by omega), box_kept H3.out.2.2.1 f4 (fun h => by omega), box_kept H3.out.2.1 f4 (fun h => by omega)⟩)
  clear f4 b4
  simp only [frOfU, fillU, List.setIfInBounds_toArray, List.set_cons_succ, List.set_cons_zero]
  simp only [Nat.reduceAdd, v1, v4, v5]
  clear v1 v4 v5
  go_wp2
  go_loopg [18] cnt (fun G u18 wr => ∃ (j : Nat) (po : Value), j ≤ cnt ∧ G = cnt - j ∧ u18 = .int .i64 j ∧ Hid (Fr (fun k => k = b) w wr ∧ BBox wr b nv (partsL f j (nextE l tk, bg + 1)).2.1 (partsL f j (nextE l tk, bg + 1)).2.2 ∧ VLoc wr vb po ∧ VRow wr vb po (partsL f j (nextE l tk, bg + 1)).1 ∧ wr.heap[rb]? = some (.cells #[.int .i64 0, .float .f64 0, .string ⟨#[]⟩, .slice none 0 0] 42 (0, 0)) ∧ wr.heap[tb]? = some (.cells #[.int .u8 5, .int .i64 m, .slice a ns.length c, .slice (some ⟨g, off, none⟩) 1 c'] 34 (0, 0))))
  case atStart => exact ⟨0, .slice none 0 0, Nat.zero_le _, rfl, by go_num, Lib.hid ⟨H4.out.1, H4.out.2.1, H4.out.2.2.1, ItRow.nil _ _ _ _ _ _, H4.out.2.2.2.1, H4.out.2.2.2.2⟩⟩
  case round =>
    obtain ⟨j, po, hj, rfl, rfl, HI⟩ := hrel
    have hlen := partsL_length f j (nextE l tk, bg + 1)
    obtain ⟨qa, qc, hpo⟩ : ∃ qa qc, po = .slice qa j qc := by
      obtain ⟨qa, qc, e⟩ := HI.out.2.2.2.1.slice
      rw [hlen] at e
      exact ⟨qa, qc, e⟩
    subst hpo
    have HLEN := Lib.hid hlen
    have hvbr : vb < wr.heap.size := lt_of_block HI.out.2.2.1
    clear hlen
    by_cases hlt : j < cnt
    · have HLT := Lib.hid hlt
      obtain ⟨wp, hwp⟩ : ∃ wp : World, wp = wr := ⟨_, rfl⟩
      subst hwp
      have hown : ∀ k, (Value.slice qa j qc).ownBlock = some k → vb + 1 ≤ k ∧ k < wp.heap.size := fun k hk => by
        have := HI.out.2.2.2.1.own k hk
        omega
      have HP := Lib.hid hown
      have HB0 := Lib.hid (And.intro hbvb (And.intro hwvb (And.intro o1 (And.intro o2 o3))))
      have jn : (j : Int) < (cnt : Int) := by omega
      clear hown
      go_upto_region 6 with fail
      clear jn
      obtain ⟨s, hs⟩ : ∃ s, s = (partsL f j (nextE l tk, bg + 1)).2 := ⟨_, rfl⟩
      obtain ⟨L, hL⟩ : ∃ L, L = (partsL f j (nextE l tk, bg + 1)).1 := ⟨_, rfl⟩
      have HSL := Lib.hid (And.intro hs hL)
      have hacc : AccS wp b vb nv (.slice qa j qc) L s (f j s).2 (f j s).1 [] wp.drew := by
        rw [hs, hL]
        exact ⟨(Fr.refl _ _).drew, HI.out.2.1, HI.out.2.2.1, HI.out.2.2.2.1.fr ((Fr.refl (fun _ => False) _).drew) (fun _ _ h => h)⟩
      have HACC := Lib.hid hacc
      have hbnd : s.1 + costE (of 0) ≤ 100000 ∧ s.2 + costE (of 0) ≤ 100000 := by
        have h1 := HLE.out j hj
        rw [← hs] at h1
        have h2 : costE (of 0) * 1 ≤ costE (of 0) * (cnt - j) := Nat.mul_le_mul_left _ (by have := HLT.out; omega)
        omega
      have HBND := Lib.hid hbnd
      have hLj : L.length = j := by rw [hL]; exact HLEN.out
      have HLJ := Lib.hid hLj
      have HFJ : Hid (f j s = buildE l (of 0) s) := Lib.hid (by rw [HF.out])
      have hdirt : ∀ k, k < w.heap.size → ¬ k = b → ¬ Dirt b vb (.slice qa j qc) k := fun k hk hb h => by
        rcases h with h | h | h
        · exact hb h
        · omega
        · have := (HP.out _ h).1; omega
      have HD := Lib.hid hdirt
      have hgb : ¬ g = b := fun h => HRB.out g HG.out h
      have HGB := Lib.hid hgb
      clear hs hL hacc hbnd hLj hdirt hgb
      refine wp_region_chain (by kernel_rfl) [some 20, some 21, some 22, some 23, some 24, some 25, some 26, some 27, some 28, some 29, some 30, none] rfl (by decide) (by intro d hd; simp at hd ⊢; omega)
        [7, 8, 9, 11] (AccS wp b vb nv (.slice qa j qc) L s (f j s).2 (f j s).1)
        [.free (.pointer (some ⟨vb, 3, none⟩)), .free (.slice qa j qc), .free (.pointer (some ⟨b, 0, none⟩)), .free (.pointer (some ⟨tb, 3, none⟩)), .free (.slice (some ⟨g, off, none⟩) 1 c'), .free (.pointer (some ⟨g, off, none⟩)), .free (.agg #[.int .u8 xk, .int .i64 xm, .slice xa xn xc, .slice xa' xn' xc']),
         .link none, .link none, .link none, .free (.pointer (some ⟨vb, 3, none⟩)), .link none]
        (by kernel_rfl) (by kernel_rfl) ?h0 ?step ?fin
      case h0 => exact HACC.out
      case step =>
        intro vals2
        simp only [frOfU, fillU, List.setIfInBounds_toArray, List.set_cons_succ, List.set_cons_zero]
        repeat' (first | exact AllOps.nil | refine AllOps.cons ?_ ?_)
        all_goals
          intro cvs wx hS he hu hlim K hK
          simp only [Act.put, List.setIfInBounds_toArray, List.set_cons_succ, List.set_cons_zero, List.getD_cons_zero, List.getD_cons_succ] at hK
          simp only [List.mem_cons, List.not_mem_nil, or_false, forall_eq_or_imp, forall_eq, Region.binds, forall_const, vmode_gc, Bool.false_eq_true, false_imp_iff, List.getD_cons_zero, List.getD_cons_succ, OpSort.val, Option.some.injEq, forall_eq', reduceCtorEq, implies_true, true_and, and_true] at he
          have HSX := Lib.hid hS
          clear hS
        all_goals first | (clear hlim hu; (try simp only [he] at hK ⊢); go_simp; exact hK) | skip
        · have hl := HSX.out.loc (Nat.le_trans (hlim 2 9 rfl (by kernel_rfl)) (by omega))
          have e3 := cells_row hl 3 _ rfl
          clear hlim hu hl
          simp only [he] at hK ⊢
          go_simp
          exact hK
        · have hq := box_kept HI.out.2.2.2.2.2 HSX.out.f (fun h => by
            rcases h with h | h | h
            · have := HB0.out; omega
            · have := HB0.out; omega
            · have := (HP.out _ h).1; have := HB0.out; omega)
          have e3 := cells_row hq 3 _ rfl
          clear hlim hu hq
          simp only [he] at hK ⊢
          go_simp
          exact hK
        · have up : ∀ {o : Nat} {u : Value}, w.cell? ⟨g, o, none⟩ = some u → wx.cell? ⟨g, o, none⟩ = some u := fun h => cell_fr (R := fun k => k = g) HSX.out.f (fun k hk h => HD.out k (by rw [hk]; exact HG.out.2) (fun h => HGB.out (hk.symm.trans h)) h) rfl (cell_fr (R := fun k => k = g) HI.out.1 (fun k hk h => HGB.out (hk.symm.trans h)) rfl h)
          have e0 := up HY.out.1
          have e1 := up HY.out.2.1
          have e2 := up HY.out.2.2.1
          have e3 := up HY.out.2.2.2
          clear hlim hu up
          simp only [he] at hK ⊢
          go_simp
          exact hK
        · obtain rfl := hlim (0 : Nat) rfl
          have h1 := HSX.out
          simp only [List.take_zero, List.map_nil] at h1
          simp only [he] at hK ⊢
          go_simp
          go_at_call 19
          have hR : ∀ k, (R k ∧ k < w.heap.size) → ¬ Dirt b vb (.slice qa j qc) k := fun k hk h => HD.out k hk.2 (HRB.out k hk) h
          refine (ih (fun k => R k ∧ k < w.heap.size) _ nv wx b s.1 s.2 HGD.out HBND.out.1 HBND.out.2 (Shows.fr h1.1 hR _ _ (Shows.fr HI.out.1 HRB.out _ _ HX.out)) (fun h => HRB.out b h rfl) ((HN2.out.fr HI.out.1 HRB.out).fr h1.1 hR) h1.2.1).mono ?_
          rintro e1 wa ⟨v', rfl, hsv, fa, ba⟩
          have fe : buildE l (of 0) (s.1, s.2) = f j s := HFJ.out.symm
          rw [fe] at hsv ba
          refine hK _ _ (fun _ h => by cases h) ⟨h1.1.trans fa (fun i _ h => .inl h), ba, box_kept h1.2.2.1 fa (fun h => by have := HB0.out; omega), h1.2.2.2.fr fa (fun k hk h => by have := HB0.out; omega), VShows.mono (fun k _ hk => Nat.le_trans h1.1.size hk) _ _ hsv⟩
        · obtain rfl := hlim (1 : Nat) rfl
          have h1 := HSX.out
          clear HSX hlim hu
          simp only [List.take_succ_cons, List.take_zero, List.map_cons, List.map_nil] at h1 hK
          obtain ⟨hf, hb, hl, hr, hs⟩ := h1
          obtain ⟨zn, zf, zs, za, zc, zcap, e4⟩ := hs.lit
          rw [e4] at hs
          simp only [he, e4] at hK ⊢
          go_simp
          have fa : Fr (fun _ => False) wx (wx.alloc (.cells #[.int .i64 zn, .float .f64 zf, .string zs, .slice za zc zcap] 42)) := (Fr.refl _ _).alloc _
          exact hK _ _ (fun _ h => by cases h) ⟨hf.trans fa (fun _ _ h => h.elim), hb.fr fa (fun h => h), box_kept hl fa (fun h => h), hr.fr fa (fun _ _ h => h), _, _, _, _, _, rfl, heap_alloc_new _ _, VShows.fr fa (fun _ _ h => h) _ _ hs⟩
        · obtain rfl := hlim (2 : Nat) rfl
          have h1 := HSX.out
          clear HSX hlim hu
          simp only [List.take_succ_cons, List.take_zero, List.map_cons, List.map_nil] at h1 hK
          obtain ⟨hf, hb, hl, hr, gg, y0, y1, y2, y3, e6, hgg, hss⟩ := h1
          rw [if_pos (by rfl)]
          have hsz := lt_of_block hl
          have hfs := hf.size
          have hb0 := HB0.out
          refine opWp_push (pv := (.slice qa j qc)) (l := L) (B := vb + 1) (X := fun _ => False) (D := vShown) (.tmp 21) (.tmp 28) 40 40 rfl Try.underlying40 Try.underlying40 Try.infoValue rfl (by decide) he hr gg e6 (news := [y0, y1, y2, y3]) hgg rfl (vshows_one hss) (by have := HLJ.out; omega) (by omega) (by omega) (fun k hk => hk.elim) (f j s).1 ⟨_, _, _, _, rfl, VShows.mono (fun k _ hk => ⟨by omega, fun h => h, fun h => by have := (HP.out _ h).2; omega⟩) _ _ hss⟩ ?_
          intro v' w8 hrow f6 hv
          refine hK _ _ (fun _ h => by cases h) ⟨hf.trans f6 (fun i _ h => .inr (.inr h)), hb.fr f6 (fun h => by have := (HP.out _ h).1; omega), box_kept hl f6 (fun h => by have := (HP.out _ h).1; omega), hrow⟩
        · obtain rfl := hlim (3 : Nat) rfl
          have h1 := HSX.out
          clear HSX hlim hu
          simp only [List.take_succ_cons, List.take_zero, List.map_cons, List.map_nil] at h1 hK
          obtain ⟨hf, hb, hl, hr⟩ := h1
          obtain ⟨xa, xn, xc, e7⟩ : ∃ xa xn xc, vals2 9 = .slice xa xn xc := by obtain ⟨a, c, e⟩ := hr.slice; exact ⟨a, _, c, e⟩
          have z2 : wx.frozen? ⟨vb, 3, none⟩ = false := by unfold VLoc at hl; simp [World.frozen?, hl]
          obtain ⟨e0, e1, e2, e3⟩ := cell_of_four hl
          have fs : Fr (fun k => k = vb) wx (wx.setCell ⟨vb, 3, none⟩ (vals2 9)) := Fr.set1 (Fr.refl _ _) 3 _
          have HG := Lib.hid (show AccS wp b vb nv (.slice qa j qc) L s (f j s).2 (f j s).1 [vals2 7, vals2 8, vals2 9, undef] (wx.setCell ⟨vb, 3, none⟩ (vals2 9)) from
            ⟨hf.trans fs (fun i _ h => .inr (.inl h)), hb.fr fs (fun h => by have := HB0.out; omega), setCell_row 3 _ hl, hr.fr fs (fun k hk h => by omega)⟩)
          clear hf hb hl hr fs
          rw [e7] at HG
          simp only [he, e7] at hK ⊢
          go_simp
          exact hK undef _ (fun _ h => by cases h) HG.out
      case fin =>
        intro vals2 w7 hS hV
        clear hV
        simp only [List.map_cons, List.map_nil] at hS
        obtain ⟨hf, hb, hl, hr⟩ := hS
        have hd : ∀ i, i < wp.heap.size → Dirt b vb (.slice qa j qc) i → i < w.heap.size → i = b := fun i hi h hw => by
          rcases h with h | h | h
          · exact h
          · have := HB0.out; omega
          · have := (HP.out _ h).1; have := HB0.out; omega
        have fw : Fr (fun k => k = b) w w7 := ⟨hf.os.trans HI.out.1.os, hf.tape.trans HI.out.1.tape, hf.output.trans HI.out.1.output, Nat.le_trans HI.out.1.size hf.size, fun i hi hs => by
          have i1 : i < wp.heap.size := Nat.lt_of_lt_of_le hi HI.out.1.size
          rw [hf.block i i1 (fun h => hs (hd i i1 h hi)), HI.out.1.block i hi hs]⟩
        have hrbk := box_kept HI.out.2.2.2.2.1 hf (fun h => by
          rcases h with h | h | h
          · exact hrbb h
          · omega
          · have := (HP.out _ h).1; omega)
        have htbk := box_kept HI.out.2.2.2.2.2 hf (fun h => by
          rcases h with h | h | h
          · omega
          · omega
          · have := (HP.out _ h).1; omega)
        have hps : partsL f (j + 1) (nextE l tk, bg + 1) = (L ++ [(f j s).1], (f j s).2) := by
          rw [HSL.out.1, HSL.out.2]; rfl
        have HS2 := Lib.hid (show Fr (fun k => k = b) w w7 ∧ BBox w7 b nv (partsL f (j + 1) (nextE l tk, bg + 1)).2.1 (partsL f (j + 1) (nextE l tk, bg + 1)).2.2 ∧ VLoc w7 vb (vals2 9) ∧ VRow w7 vb (vals2 9) (partsL f (j + 1) (nextE l tk, bg + 1)).1 ∧ w7.heap[rb]? = some (.cells #[.int .i64 0, .float .f64 0, .string ⟨#[]⟩, .slice none 0 0] 42 (0, 0)) ∧ w7.heap[tb]? = some (.cells #[.int .u8 5, .int .i64 m, .slice a ns.length c, .slice (some ⟨g, off, none⟩) 1 c'] 34 (0, 0)) from by
          rw [hps]; exact ⟨fw, hb, hl, hr, hrbk, htbk⟩)
        clear hf hb hl hr fw hrbk htbk hps hd
        simp only [frOfU, fillU, List.setIfInBounds_toArray, List.set_cons_succ, List.set_cons_zero]
        go_wp2
        go_roundg (cnt - (j + 1))
        case measure => have := HLT.out; omega
        case rel => exact ⟨j + 1, vals2 9, HLT.out, rfl, by go_num, HS2⟩
    · obtain rfl : j = cnt := by omega
      obtain ⟨d0, d1, d2, d3⟩ := cell_of_four HI.out.2.2.1
      have p2 := HI.out.2.2.2.2.1
      have t0 := cells_row p2 0 _ rfl
      have t1 := cells_row p2 1 _ rfl
      have t2 := cells_row p2 2 _ rfl
      have t3 := cells_row p2 3 _ rfl
      have u0 : wr.frozen? ⟨rb, 0, none⟩ = false := by simp [World.frozen?, p2]
      have u1 : wr.frozen? ⟨rb, 1, none⟩ = false := by simp [World.frozen?, p2]
      have u2 : wr.frozen? ⟨rb, 2, none⟩ = false := by simp [World.frozen?, p2]
      have u3 : wr.frozen? ⟨rb, 3, none⟩ = false := by simp [World.frozen?, p2]
      clear p2
      go_wp2
      refine bodyPost_ret (results_cell_row rfl _ _ rb 42 _ _ _ rfl (store_four HI.out.2.2.2.2.1) Try.underlying42 rfl (by kernel_rfl)) rfl ?_
      exact record_done HI.out.2.2.2.2.1 HI.out.1 HI.out.2.1 o4 o5 o2 HI.out.2.2.2.1 rfl (by have := HLEN.out; omega) HE.out
end
section
attribute [local go_sem] run_store_float

theorem choice_done {l : List Int} {t : KT} {w w2 : World} {b rb tk bg tk2 bg2 : Nat} {nv : Value} {x0 x1 x2 x3 y0 y1 y2 y3 : Value} {x : Int} {T : VT}
    (p : w2.heap[rb]? = some (.cells #[x0, x1, x2, x3] 42 (0, 0))) (f2 : Fr (fun k => k = b) w w2) (b2 : BBox w2 b nv tk2 bg2) (hrb : rb ≠ b) (hrb0 : w.heap.size ≤ rb) (hB : VB x 0 [] 1)
    (hE : buildE l t (tk, bg) = (.mk x 0 [] 1 (fun _ => T), tk2, bg2)) (hs : VShows (fun k => rb < k) w2 T (.agg #[y0, y1, y2, y3])) :
    BuiltAs l t w b nv tk bg (.returned (.agg #[.int .i64 x, .float .f64 0, .string ⟨#[]⟩, .slice (some ⟨w2.heap.size, 0, none⟩) 1 1]))
      (((((w2.setCell ⟨rb, 0, none⟩ (.int .i64 x)).setCell ⟨rb, 1, none⟩ (.float .f64 0)).setCell ⟨rb, 2, none⟩ (.string ⟨#[]⟩)).setCell ⟨rb, 3, none⟩ (.slice (some ⟨w2.heap.size, 0, none⟩) 1 1)).alloc (.cells #[y0, y1, y2, y3] 42)) := by
  obtain ⟨wz, hwz⟩ : ∃ wz, wz = ((((w2.setCell ⟨rb, 0, none⟩ (.int .i64 x)).setCell ⟨rb, 1, none⟩ (.float .f64 0)).setCell ⟨rb, 2, none⟩ (.string ⟨#[]⟩)).setCell ⟨rb, 3, none⟩ (.slice (some ⟨w2.heap.size, 0, none⟩) 1 1)) := ⟨_, rfl⟩
  have fs : Fr (fun k => k = rb) w2 wz := by rw [hwz]; exact fr_four _ _ _ _ (Fr.refl _ _) (fun _ => rfl)
  have sz : wz.heap.size = w2.heap.size := by rw [hwz]; simp [World.setCell]
  have fz : Fr (fun k => k = rb) w2 (wz.alloc (.cells #[y0, y1, y2, y3] 42)) := fs.alloc _
  have gz := heap_alloc_new wz (.cells #[y0, y1, y2, y3] 42)
  rw [sz] at gz
  have hrl := lt_of_block p
  rw [← hwz]
  obtain ⟨c0, c1, c2, c3⟩ := cell_of_four gz
  refine ⟨_, rfl, ?_, f2.trans fz (fun i hi e => by omega), ?_⟩
  · rw [hE]
    refine VShows.mono (fun k _ (h : rb < k) => (by omega : w.heap.size ≤ k)) _ _ (vshows_mk (s := []) hB (.inr ⟨Nat.le_refl _, w2.heap.size, 0, hrl, rfl, fun i hi => ?_⟩))
    obtain rfl : i = 0 := by omega
    exact ⟨_, _, _, _, c0, c1, c2, c3, VShows.fr fz (fun k hk e => by omega) _ _ hs⟩
  · rw [hE]
    exact b2.fr fz (fun e => hrb e.symm)

set_option maxRecDepth 100000 in
theorem build_k5 (l : List Int) (k : Nat) (m : Int) (ns : List Txt) (n : Nat) (of : Nat → KT) (ih : ∀ i, BuildAt l (of i)) (hk0 : k = 5) : BuildAt l (.mk k m ns n of) := by
  intro R v nv w b tk bg hgood htk hbg hsh hRb hnum hbox
  have HGOOD := Lib.hid hgood
  have HSH := Lib.hid hsh
  obtain ⟨⟨hn12, hown⟩, hkids⟩ := hgood
  obtain ⟨hk8, hmost, hone, hparts, hnames, hnone⟩ := own_facts hown
  have hcost : 1 ≤ costE (.mk k m ns n of) := by unfold costE; omega
  have htk' : tk ≤ 100000 := by omega
  have hbg' : bg + 1 ≤ 100000 := by omega
  obtain ⟨vn, vo, rfl, hk, hn, ht, ho⟩ := hsh
  obtain ⟨a, c, rfl, _⟩ := ht.shape
  obtain ⟨a', c', rfl, hs⟩ : ∃ a' c', vo = .slice a' n c' ∧ Kids R w of a' n c' := by
    rcases ho with ⟨rfl, a', c', rfl⟩ | ⟨g, off, cap, hg, rfl, hle, hc⟩
    · exact ⟨a', c', rfl, .inl rfl⟩
    · exact ⟨_, cap, rfl, .inr ⟨hle, g, off, hg, rfl, hc⟩⟩
  have HS := Lib.hid hs
  have HRB := Lib.hid (show ∀ i, R i → ¬ i = b from fun i hi e => hRb (by rw [← e]; exact hi))
  have HN := Lib.hid hnum
  have HBX := Lib.hid hbox
  have hbl : b < w.heap.size := lt_of_block hbox
  unfold BBox at hbox
  have r0 := cells_row hbox 2 _ rfl
  have z0 : w.frozen? ⟨b, 2, none⟩ = false := by simp [World.frozen?, hbox]
  have n1 : b ≠ w.heap.size := by omega
  have n2 : w.heap.size ≠ b := by omega
  have n3 : b ≠ w.heap.size + 1 := by omega
  have n4 : w.heap.size + 1 ≠ b := by omega
  have HK := Lib.hid (And.intro hk0 (And.intro hmost (And.intro hone (And.intro hparts (And.intro hnames hnone)))))
  have HKIDS := Lib.hid hkids
  have HCST := Lib.hid (And.intro htk hbg)
  have HT := Lib.hid ht
  obtain ⟨kz, hkz⟩ : ∃ kz : Int, (k : Int) = kz := ⟨_, rfl⟩
  rw [hkz]
  have HKZ := Lib.hid hkz
  have e0 : (kz == 0) = false := by simp; omega
  have e1 : (kz == 1) = false := by simp; omega
  have e2 : (kz == 2) = false := by simp; omega
  have e3 : (kz == 3) = false := by simp; omega
  have e4 : (kz == 4) = false := by simp; omega
  have e5 : (kz == 5) = true := by simp; omega
  clear ho hs ht hRb hnum hbox hk0 hmost hone hparts hnames hnone hkids htk hbg hkz hown hcost hk
  go_enter Try.func19, Try.ntmps19
  go_upto_region 2 with fail
  obtain ⟨w1, hw1⟩ : ∃ w1, w1 = ((w.setCell ⟨b, 2, none⟩ (.int .i64 ((bg : Int) + 1))).alloc (.cells #[.int .u8 kz, .int .i64 m, .slice a ns.length c, .slice a' n c'] 34)).alloc (.cells #[.int .i64 0, .float .f64 0, .string ⟨#[]⟩, .slice none 0 0] 42) := ⟨_, rfl⟩
  rw [← hw1]
  obtain ⟨q1, p1, b1, f1⟩ := build_box kz m a ns.length c a' n c' HBX.out hw1
  obtain ⟨rb, hrb⟩ : ∃ rb, w.heap.size + 1 = rb := ⟨_, rfl⟩
  rw [hrb] at p1 ⊢
  have hrbb : rb ≠ b := by omega
  have hrb0 : w.heap.size ≤ rb := by omega
  have HRBX := Lib.hid hrb
  have c0 := cells_row q1 0 _ rfl
  have c1 := cells_row q1 1 _ rfl
  have c2 := cells_row q1 2 _ rfl
  have c3 := cells_row q1 3 _ rfl
  have HW1 := Lib.hid (And.intro q1 (And.intro p1 (And.intro b1 f1)))
  clear hw1 r0 z0 n1 n2 n3 n4 hrb q1 p1 b1 f1
  have hseq := seq_any l m ns n of (ih 0) R (.agg #[.int .u8 kz, .int .i64 m, .slice a ns.length c, .slice a' n c']) nv w1 b tk bg (by have := HGOOD.out; rw [HK.out.1] at this; exact this) (by have := HCST.out.1; rw [HK.out.1] at this; exact this) (by have := HCST.out.2; rw [HK.out.1] at this; exact this)
    (by
      have h := Shows.fr HW1.out.2.2.2 HRB.out _ _ HSH.out
      rw [HKZ.out] at h
      rw [← HK.out.1]
      exact h) (fun h => HRB.out b h rfl) (HN.out.fr HW1.out.2.2.2 HRB.out) HW1.out.2.2.1
  have HE5 : Hid (KT.mk k m ns n of = KT.mk 5 m ns n of) := Lib.hid (by rw [HK.out.1])
  go_wp2_with fail
  refine hseq.mono ?_
  rintro e w2 ⟨v', rfl, hsv, f2, b2⟩
  clear hseq
  obtain ⟨n', f', s', c'', of', a'', cap', eT, rfl, hVB, hK⟩ := vshows_open hsv
  unfold sv
  have hrbl := lt_of_block HW1.out.2.1
  have hEE : buildE l (.mk k m ns n of) (tk, bg) = (.mk n' f' s' c'' of', (buildE l (.mk 5 m ns n of) (tk, bg)).2.1, (buildE l (.mk 5 m ns n of) (tk, bg)).2.2) := by
    rw [HE5.out, ← eT]
  have hKK : VKids (fun k => w.heap.size ≤ k ∧ k ≠ rb) w2 of' a'' c'' cap' := by
    rcases hK with h | ⟨h1, gg, off, hg, e, hc⟩
    · exact .inl h
    · have hws := HW1.out.2.2.2.size
      refine .inr ⟨h1, gg, off, ⟨by omega, by omega⟩, e, fun i hi => ?_⟩
      obtain ⟨x0, x1, x2, x3, c0, c1, c2, c3, hx⟩ := hc i hi
      exact ⟨x0, x1, x2, x3, c0, c1, c2, c3, VShows.mono (fun k _ (h : w1.heap.size ≤ k) => ⟨by omega, by omega⟩) _ _ hx⟩
  have HZ := Lib.hid (And.intro hVB (And.intro hEE hKK))
  clear hsv eT hVB hK hEE hKK hrbl
  have p2 := box_kept HW1.out.2.1 f2 (fun e => hrbb e)
  have t0 := cells_row p2 0 _ rfl
  have t1 := cells_row p2 1 _ rfl
  have t2 := cells_row p2 2 _ rfl
  have t3 := cells_row p2 3 _ rfl
  have u0 : w2.frozen? ⟨rb, 0, none⟩ = false := by simp [World.frozen?, p2]
  have u1 : w2.frozen? ⟨rb, 1, none⟩ = false := by simp [World.frozen?, p2]
  have u2 : w2.frozen? ⟨rb, 2, none⟩ = false := by simp [World.frozen?, p2]
  have u3 : w2.frozen? ⟨rb, 3, none⟩ = false := by simp [World.frozen?, p2]
  have H2 := Lib.hid (And.intro p2 (And.intro (HW1.out.2.2.2.trans f2 (fun _ _ h => h)) b2))
  clear f2 b2 p2 c0 c1 c2 c3
  go_wp2
  refine bodyPost_ret (results_cell_row rfl _ _ rb 42 _ _ _ rfl (store_four H2.out.1) Try.underlying42 rfl (by kernel_rfl)) rfl ?_
  refine build_done H2.out.1 H2.out.2.1 H2.out.2.2 hrbb hrb0 (HZ.out.2.1) HZ.out.1 HZ.out.2.2

set_option maxRecDepth 100000 in
theorem build_k8 (l : List Int) (k : Nat) (m : Int) (ns : List Txt) (n : Nat) (of : Nat → KT) (ih : ∀ i, BuildAt l (of i)) (hk0 : k = 8) : BuildAt l (.mk k m ns n of) := by
  intro R v nv w b tk bg hgood htk hbg hsh hRb hnum hbox
  obtain ⟨⟨hn12, hown⟩, hkids⟩ := hgood
  obtain ⟨hk8, hmost, hone, hparts, hnames, hnone⟩ := own_facts hown
  have hcost : 1 ≤ costE (.mk k m ns n of) := by unfold costE; omega
  have htk' : tk ≤ 100000 := by omega
  have hbg' : bg + 1 ≤ 100000 := by omega
  obtain ⟨vn, vo, rfl, hk, hn, ht, ho⟩ := hsh
  obtain ⟨a, c, rfl, _⟩ := ht.shape
  obtain ⟨a', c', rfl, hs⟩ : ∃ a' c', vo = .slice a' n c' ∧ Kids R w of a' n c' := by
    rcases ho with ⟨rfl, a', c', rfl⟩ | ⟨g, off, cap, hg, rfl, hle, hc⟩
    · exact ⟨a', c', rfl, .inl rfl⟩
    · exact ⟨_, cap, rfl, .inr ⟨hle, g, off, hg, rfl, hc⟩⟩
  have HS := Lib.hid hs
  have HRB := Lib.hid (show ∀ i, R i → ¬ i = b from fun i hi e => hRb (by rw [← e]; exact hi))
  have HN := Lib.hid hnum
  have HBX := Lib.hid hbox
  have hbl : b < w.heap.size := lt_of_block hbox
  unfold BBox at hbox
  have r0 := cells_row hbox 2 _ rfl
  have z0 : w.frozen? ⟨b, 2, none⟩ = false := by simp [World.frozen?, hbox]
  have n1 : b ≠ w.heap.size := by omega
  have n2 : w.heap.size ≠ b := by omega
  have n3 : b ≠ w.heap.size + 1 := by omega
  have n4 : w.heap.size + 1 ≠ b := by omega
  have HK := Lib.hid (And.intro hk0 (And.intro hmost (And.intro hone (And.intro hparts (And.intro hnames hnone)))))
  have HKIDS := Lib.hid hkids
  have HCST := Lib.hid (And.intro htk hbg)
  have HT := Lib.hid ht
  obtain ⟨kz, hkz⟩ : ∃ kz : Int, (k : Int) = kz := ⟨_, rfl⟩
  rw [hkz]
  have e0 : (kz == 0) = false := by simp; omega
  have e1 : (kz == 1) = false := by simp; omega
  have e2 : (kz == 2) = false := by simp; omega
  have e3 : (kz == 3) = false := by simp; omega
  have e4 : (kz == 4) = false := by simp; omega
  have e5 : (kz == 5) = false := by simp; omega
  have e6 : (kz == 6) = false := by simp; omega
  have e7 : (kz == 7) = false := by simp; omega
  clear ho hs ht hRb hnum hbox hk0 hmost hone hparts hnames hnone hkids htk hbg hkz hown hcost hk
  go_enter Try.func19, Try.ntmps19
  go_upto_region 2 with fail
  obtain ⟨w1, hw1⟩ : ∃ w1, w1 = ((w.setCell ⟨b, 2, none⟩ (.int .i64 ((bg : Int) + 1))).alloc (.cells #[.int .u8 kz, .int .i64 m, .slice a ns.length c, .slice a' n c'] 34)).alloc (.cells #[.int .i64 0, .float .f64 0, .string ⟨#[]⟩, .slice none 0 0] 42) := ⟨_, rfl⟩
  rw [← hw1]
  obtain ⟨q1, p1, b1, f1⟩ := build_box kz m a ns.length c a' n c' HBX.out hw1
  obtain ⟨rb, hrb⟩ : ∃ rb, w.heap.size + 1 = rb := ⟨_, rfl⟩
  rw [hrb] at p1 ⊢
  have hrbb : rb ≠ b := by omega
  have hrb0 : w.heap.size ≤ rb := by omega
  have HRBX := Lib.hid hrb
  have c0 := cells_row q1 0 _ rfl
  have c1 := cells_row q1 1 _ rfl
  have c2 := cells_row q1 2 _ rfl
  have c3 := cells_row q1 3 _ rfl
  have HW1 := Lib.hid (And.intro q1 (And.intro p1 (And.intro b1 f1)))
  clear hw1 r0 z0 n1 n2 n3 n4 hrb q1 p1 b1 f1
  have HN2 := Lib.hid (HN.out.mono (S := fun k => R k ∧ k < w.heap.size) (fun k hk h => ⟨h, hk⟩))
  have hn1 : 1 ≤ n := by have := HK.out.2.2.2.1 (.inr HK.out.1); have := (HK.out.2.2.2.2.1 (.inr (.inr HK.out.1))).1; omega
  have htake := take_any R l nv b tk (bg + 1) (n : Int) w1 HW1.out.2.2.1 (HN.out.fr HW1.out.2.2.2 HRB.out) htk' (by omega) (by omega)
  obtain ⟨x, hx⟩ : ∃ x : Nat, numE l tk % (n : Int) = x := ⟨(numE l tk % (n : Int)).toNat, by have := Int.emod_nonneg (numE l tk) (show (n : Int) ≠ 0 by omega); omega⟩
  have hxn : x < n := by have := Int.emod_lt_of_pos (numE l tk) (show 0 < (n : Int) by omega); omega
  rw [hx] at htake
  have HX := Lib.hid hx
  rcases HS.out with hz | ⟨hcap, g, off, hg, rfl, hcell⟩
  · omega
  obtain ⟨z0, z1, z2, z3, y0, y1, y2, y3, hxs⟩ := hcell x hxn
  obtain ⟨xk, xm, xa, xn, xc, xa', xn', xc', rfl, rfl, rfl, rfl⟩ := hxs.cells
  have HXS := Lib.hid (Shows.mono (S := fun k => R k ∧ k < w.heap.size) (fun k hk h => ⟨h, hk⟩) _ _ hxs)
  have HY := Lib.hid (And.intro hg (And.intro y0 (And.intro y1 (And.intro y2 y3))))
  clear hx hcell y0 y1 y2 y3 hxs hg
  go_wp2_with fail
  refine htake.mono ?_
  rintro e w2 ⟨rfl, f2, b2⟩
  clear htake
  have q2 := box_kept HW1.out.1 f2 (fun e => by omega)
  have c3' := cells_row q2 3 _ rfl
  have f02 := HW1.out.2.2.2.trans f2 (fun _ _ h => h)
  have y0 := cell_fr f02 HRB.out HY.out.1 HY.out.2.1
  have y1 := cell_fr f02 HRB.out HY.out.1 HY.out.2.2.1
  have y2 := cell_fr f02 HRB.out HY.out.1 HY.out.2.2.2.1
  have y3 := cell_fr f02 HRB.out HY.out.1 HY.out.2.2.2.2
  have hxi : (x : Int) < (n : Int) := by omega
  have hx0 : (0 : Int) ≤ (x : Int) := by omega
  have hbnd : nextE l tk + costE (of x) ≤ 100000 ∧ (bg + 1) + costE (of x) ≤ 100000 := by
    have h1 := nextE_le l tk
    have h2 := HCST.out
    rw [cost_parts k m ns n of (by have := HK.out.1; omega)] at h2
    have h3 := sumTo_le (fun i => costE (of i)) x n hxn
    omega
  have hrec := ih x (fun k => R k ∧ k < w.heap.size) _ nv w2 b (nextE l tk) (bg + 1) (HKIDS.out x hxn) hbnd.1 hbnd.2 (Shows.fr f02 (fun k hk e => HRB.out k hk.1 e) _ _ HXS.out) (fun h => HRB.out b h.1 rfl) (HN2.out.fr f02 (fun k hk e => HRB.out k hk.1 e)) b2
  have H2 := Lib.hid (And.intro f02 (And.intro b2 (box_kept HW1.out.2.1 f2 (fun e => hrbb e))))
  clear f2 b2 q2 f02 c0 c1 c2 c3 hbnd
  go_wp2_with fail
  refine hrec.mono ?_
  rintro e w3 ⟨v', rfl, hsv, f3, b3⟩
  clear hrec c3' y0 y1 y2 y3
  obtain ⟨zn, zf, zs, za, zc, zcap, e4⟩ := hsv.lit
  subst e4
  have p3 := box_kept H2.out.2.2 f3 (fun e => hrbb e)
  have t0 := cells_row p3 0 _ rfl
  have t1 := cells_row p3 1 _ rfl
  have t2 := cells_row p3 2 _ rfl
  have t3 := cells_row p3 3 _ rfl
  have u0 : w3.frozen? ⟨rb, 0, none⟩ = false := by simp [World.frozen?, p3]
  have u1 : w3.frozen? ⟨rb, 1, none⟩ = false := by simp [World.frozen?, p3]
  have u2 : w3.frozen? ⟨rb, 2, none⟩ = false := by simp [World.frozen?, p3]
  have u3 : w3.frozen? ⟨rb, 3, none⟩ = false := by simp [World.frozen?, p3]
  have rl3 : rb < w3.heap.size := lt_of_block p3
  have rn1 : rb ≠ w3.heap.size := by omega
  have rn2 : w3.heap.size ≠ rb := by omega
  have rl2 : rb < w2.heap.size := lt_of_block H2.out.2.2
  have HE8 : Hid (buildE l (.mk k m ns n of) (tk, bg) = (.mk x 0 [] 1 (fun _ => (buildE l (of x) (nextE l tk, bg + 1)).1), (buildE l (of x) (nextE l tk, bg + 1)).2)) := Lib.hid (by
    rw [HK.out.1, buildE_choice, HX.out]
    rfl)
  have H3 := Lib.hid (And.intro p3 (And.intro (H2.out.1.trans f3 (fun _ _ h => h)) (And.intro b3 (VShows.mono (fun k _ (h : w2.heap.size ≤ k) => (by omega : rb < k)) _ _ hsv))))
  clear hsv f3 b3 p3
  go_wp2
  refine bodyPost_ret (results_cell_row rfl _ _ rb 42 _ _ _ rfl ((Below.heap_alloc _ _ _ (by simp [World.setCell]; omega)).trans (store_four H3.out.1)) Try.underlying42 rfl (by kernel_rfl)) rfl ?_
  exact choice_done H3.out.1 H3.out.2.1 H3.out.2.2.1 hrbb hrb0 (by unfold VB maxLen; simp; omega) HE8.out H3.out.2.2.2


/-- EVERY TYPE THAT IS RIGHT, BUILT. -/
theorem build_any (l : List Int) (t : KT) : BuildAt l t := by
  induction t with
  | nil => exact fun _ _ _ _ _ _ _ h => h.elim
  | mk k m ns n of ih =>
    intro R v nv w b tk bg hg h1 h2 h3 h4 h5 h6
    have hk := (own_facts hg.1.2).1
    have key : BuildAt l (.mk k m ns n of) := by
      rcases (by omega : k = 0 ∨ k = 1 ∨ k = 2 ∨ k = 3 ∨ k = 4 ∨ k = 5 ∨ k = 6 ∨ k = 7 ∨ k = 8) with h | h | h | h | h | h | h | h | h
      · exact build_k0 l k m ns n of h
      · exact build_k1 l k m ns n of h
      · exact build_k2 l k m ns n of h
      · exact build_k3 l k m ns n of h
      · exact build_k4 l k m ns n of h
      · exact build_k5 l k m ns n of ih h
      · exact build_k6 l k m ns n of ih h
      · exact build_k7 l k m ns n of h
      · exact build_k8 l k m ns n of ih h
    exact key R v nv w b tk bg hg h1 h2 h3 h4 h5 h6
end
section
attribute [local go_sem] run_store_float

def zeroV : VT := .mk 0 0 [] 0 (fun _ => .nil)

/-- What Build makes. -/
def BuildE (l : List Int) (t : KT) : VT := if (surveyE t 1000 0).1 = true then (buildE l t (0, 0)).1 else zeroV

theorem zeroV_shows (R : Nat → Prop) (w : World) : VShows R w zeroV (.agg #[.int .i64 0, .float .f64 0, .string ⟨#[]⟩, .slice none 0 0]) :=
  vshows_mk (s := []) (by unfold VB maxLen; simp) (.inl rfl)

set_option maxRecDepth 100000 in
theorem Build_any (R : Nat → Prop) (l : List Int) (t : KT) (v nv : Value) (w : World) (hsh : Shows R w t v) (hnum : Nums R w l nv) (hcost : costE t ≤ 100000) :
    Calls Try.prog 11 #[v, nv] w fun e w' => ∃ v', e = .returned v' ∧ VShows (fun k => w.heap.size ≤ k) w' (BuildE l t) v' ∧ Fr (fun _ => False) w w' := by
  obtain ⟨k, m, a, n, c, a', n', c', rfl⟩ := hsh.four
  obtain ⟨na, nc, rfl⟩ := hnum.shape
  have HSH := Lib.hid (Shows.mono (S := fun k => R k ∧ k < w.heap.size) (fun k hk h => ⟨h, hk⟩) _ _ hsh)
  have HN := Lib.hid (hnum.mono (S := fun k => R k ∧ k < w.heap.size) (fun k hk h => ⟨h, hk⟩))
  have HC := Lib.hid hcost
  clear hsh hnum hcost
  go_enter Try.func11, Try.ntmps11
  go_upto_region 2 with fail
  obtain ⟨w1, hw1⟩ : ∃ w1, w1 = ((w.alloc (.cells #[.int .u8 k, .int .i64 m, .slice a n c, .slice a' n' c'] 34)).alloc (.cells #[.int .i64 0, .float .f64 0, .string ⟨#[]⟩, .slice none 0 0] 42)).alloc (.cells #[.int .i64 0] 61) := ⟨_, rfl⟩
  rw [← hw1]
  have f1 : Fr (fun _ => False) w w1 := by rw [hw1]; exact (((Fr.refl _ _).alloc _).alloc _).alloc _
  have q1 : w1.heap[w.heap.size]? = some (.cells #[.int .u8 k, .int .i64 m, .slice a n c, .slice a' n' c'] 34 (0, 0)) := by
    rw [hw1, Below.heap_alloc _ _ _ (by simp; omega)]; exact heap_alloc_first _ _ _
  have p1 : w1.heap[w.heap.size + 1]? = some (.cells #[.int .i64 0, .float .f64 0, .string ⟨#[]⟩, .slice none 0 0] 42 (0, 0)) := by
    rw [hw1, Below.heap_alloc _ _ _ (by simp)]; exact heap_alloc_two _ _ _
  have b1 : w1.heap[w.heap.size + 1 + 1]? = some (.cells #[.int .i64 ((0 : Nat) : Int)] 61 (0, 0)) := by
    have h := heap_alloc_new ((w.alloc (.cells #[.int .u8 k, .int .i64 m, .slice a n c, .slice a' n' c'] 34)).alloc (.cells #[.int .i64 0, .float .f64 0, .string ⟨#[]⟩, .slice none 0 0] 42)) (.cells #[.int .i64 0] 61)
    rw [show ((w.alloc (.cells #[.int .u8 k, .int .i64 m, .slice a n c, .slice a' n' c'] 34)).alloc (.cells #[.int .i64 0, .float .f64 0, .string ⟨#[]⟩, .slice none 0 0] 42)).heap.size = w.heap.size + 1 + 1 by simp] at h
    rw [hw1]
    exact h
  obtain ⟨sb, hsb⟩ : ∃ sb, w.heap.size + 1 + 1 = sb := ⟨_, rfl⟩
  obtain ⟨rb, hrb⟩ : ∃ rb, w.heap.size + 1 = rb := ⟨_, rfl⟩
  obtain ⟨tb, htb⟩ : ∃ tb, w.heap.size = tb := ⟨_, rfl⟩
  rw [hsb] at b1 ⊢
  rw [hrb] at p1 ⊢
  have HTB := Lib.hid htb
  have o1 : tb < rb := by omega
  have o2 : rb < sb := by omega
  have q1' := q1
  rw [htb] at q1' ⊢
  have hsv := survey_any t (fun k => R k ∧ k < w.heap.size) _ w1 sb 1000 1000 0 rfl (by omega) (by omega) (fun h => by omega) (Shows.fr f1 (fun _ _ h => h) _ _ HSH.out) b1
  have c0 := cells_row q1' 0 _ rfl
  have c1 := cells_row q1' 1 _ rfl
  have c2 := cells_row q1' 2 _ rfl
  have c3 := cells_row q1' 3 _ rfl
  have H1 := Lib.hid (And.intro f1 (And.intro q1' (And.intro p1 b1)))
  clear hw1 f1 q1 q1' p1 b1 hsb hrb
  cases hB : (surveyE t 1000 0).1 with
  | false =>
    have HE : Hid (BuildE l t = zeroV) := Lib.hid (by unfold BuildE; rw [hB]; rfl)
    rw [hB] at hsv
    clear hB htb
    go_wp2_with fail
    refine hsv.mono ?_
    rintro e w2 ⟨rfl, f2, b2⟩
    have p2 := box_kept H1.out.2.2.1 f2 (fun h => by omega)
    have t0 := cells_row p2 0 _ rfl
    have t1 := cells_row p2 1 _ rfl
    have t2 := cells_row p2 2 _ rfl
    have t3 := cells_row p2 3 _ rfl
    have u0 : w2.frozen? ⟨rb, 0, none⟩ = false := by simp [World.frozen?, p2]
    have u1 : w2.frozen? ⟨rb, 1, none⟩ = false := by simp [World.frozen?, p2]
    have u2 : w2.frozen? ⟨rb, 2, none⟩ = false := by simp [World.frozen?, p2]
    have u3 : w2.frozen? ⟨rb, 3, none⟩ = false := by simp [World.frozen?, p2]
    have H2 := Lib.hid (And.intro f2 p2)
    clear f2 b2 p2 hsv c0 c1 c2 c3
    go_wp2
    refine bodyPost_ret (results_cell_row rfl _ _ rb 42 _ _ _ rfl (store_four H2.out.2) Try.underlying42 rfl (by kernel_rfl)) rfl ?_
    refine ⟨_, rfl, ?_, (H1.out.1.trans H2.out.1 (fun i hi h => by have := HTB.out; omega)).trans (fr_four (w := w2) _ _ _ _ (Fr.refl _ _) (fun _ => rfl) : Fr (fun k => k = rb) _ _) (fun i hi h => by have := HTB.out; omega)⟩
    rw [HE.out]
    exact zeroV_shows _ _
  | true =>
    have hgood := survey_good t 1000 0 hB
    have HG := Lib.hid hgood
    have HE : Hid (BuildE l t = (buildE l t (0, 0)).1) := Lib.hid (by unfold BuildE; rw [hB]; rfl)
    rw [hB] at hsv
    clear hB hgood
    go_wp2_with fail
    refine hsv.mono ?_
    rintro e w2 ⟨rfl, f2, b2⟩
    have f02 : Fr (fun _ => False) w w2 := H1.out.1.trans f2 (fun i hi h => by omega)
    have q2 := box_kept H1.out.2.1 f2 (fun h => by omega)
    have p2 := box_kept H1.out.2.2.1 f2 (fun h => by omega)
    have c0 := cells_row q2 0 _ rfl
    have c1 := cells_row q2 1 _ rfl
    have c2 := cells_row q2 2 _ rfl
    have c3 := cells_row q2 3 _ rfl
    have H2 := Lib.hid (And.intro f02 (And.intro q2 p2))
    have tl2 : tb < w2.heap.size := lt_of_block q2
    have tn2 : tb ≠ w2.heap.size := by omega
    have rl2 : rb < w2.heap.size := lt_of_block p2
    clear f2 b2 hsv f02 q2 p2
    obtain ⟨w3, hw3⟩ : ∃ w3, w3 = w2.alloc (.cells #[.slice na l.length nc, .int .i64 0, .int .i64 0] 64) := ⟨_, rfl⟩
    have f3 : Fr (fun _ => False) w2 w3 := by rw [hw3]; exact (Fr.refl _ _).alloc _
    have b3 : BBox w3 w2.heap.size (.slice na l.length nc) 0 0 := by rw [hw3]; exact heap_alloc_new _ _
    have f03 : Fr (fun _ => False) w w3 := H2.out.1.trans f3 (fun _ _ h => h)
    have hbd := build_any l t (fun k => R k ∧ k < w.heap.size) _ _ w3 w2.heap.size 0 0 HG.out (by have := HC.out; omega) (by have := HC.out; omega) (Shows.fr f03 (fun _ _ h => h) _ _ HSH.out) (fun h => by have := H2.out.1.size; omega) (HN.out.fr f03 (fun _ _ h => h)) b3
    have H3 := Lib.hid (And.intro f03 (box_kept H2.out.2.2 f3 (fun h => h)))
    have HW3 := Lib.hid hw3
    rw [hw3] at hbd
    clear hw3 f3 b3 f03
    go_wp2_with fail
    refine hbd.mono ?_
    rintro e w4 ⟨v', rfl, hv4, f4, b4⟩
    rw [← HW3.out] at hv4 f4
    have p4 := box_kept H3.out.2 f4 (fun h => by omega)
    have t0 := cells_row p4 0 _ rfl
    have t1 := cells_row p4 1 _ rfl
    have t2 := cells_row p4 2 _ rfl
    have t3 := cells_row p4 3 _ rfl
    have u0 : w4.frozen? ⟨rb, 0, none⟩ = false := by simp [World.frozen?, p4]
    have u1 : w4.frozen? ⟨rb, 1, none⟩ = false := by simp [World.frozen?, p4]
    have u2 : w4.frozen? ⟨rb, 2, none⟩ = false := by simp [World.frozen?, p4]
    have u3 : w4.frozen? ⟨rb, 3, none⟩ = false := by simp [World.frozen?, p4]
    obtain ⟨zn, zf, zs, za, zc, zcap, e4⟩ := hv4.lit
    subst e4
    have hs3 : rb < w3.heap.size := lt_of_block H3.out.2
    have H4 := Lib.hid (And.intro hv4 (And.intro f4 p4))
    clear hv4 f4 b4 p4 hbd c0 c1 c2 c3
    go_wp2
    refine bodyPost_ret (results_cell_row rfl _ _ rb 42 _ _ _ rfl (store_four H4.out.2.2) Try.underlying42 rfl (by kernel_rfl)) rfl ?_
    have fs : Fr (fun k => k = rb) w4 ((((w4.setCell ⟨rb, 0, none⟩ (.int .i64 zn)).setCell ⟨rb, 1, none⟩ (.float .f64 zf)).setCell ⟨rb, 2, none⟩ (.string zs)).setCell ⟨rb, 3, none⟩ (.slice za zc zcap)) := fr_four _ _ _ _ (Fr.refl _ _) (fun _ => rfl)
    refine ⟨_, rfl, ?_, (H3.out.1.trans H4.out.2.1 (fun i hi h => by have := H2.out.1.size; omega)).trans fs (fun i hi h => by have := HTB.out; omega)⟩
    rw [HE.out]
    have hb := HTB.out
    exact VShows.mono (fun k _ (h : w3.heap.size ≤ k) => by omega) _ _ (VShows.fr fs (fun k (hk : w3.heap.size ≤ k) e => by omega) _ _ H4.out.1)
end
end Go.Proofs.Ytplipjijaaejlaa
