/-
  LetChecks, what it rests on behind S14: LetChecksMath, LetChecksLaw.
-/
import Derived.Test.YtdkndahldcdbgaaS14
set_option linter.unusedVariables false
set_option linter.unusedSimpArgs false
set_option maxHeartbeats 64000000
namespace Go.Proofs.Ytdkndahldcdbgaa
open Go.RowKit
open Go.Lib (hid)
section
set_option maxRecDepth 100000

def outN (hi n : Int) : Int := if n < 0 then 2 else if hi < n then 2 else 0

theorem outN_node (n : Int) : outN 15 n = if nodeN n = true then 0 else 2 := by
  unfold outN
  by_cases h0 : n < 0
  · rw [if_pos h0, if_neg (by rw [nodeN_iff]; omega)]
  · by_cases h1 : 15 < n
    · rw [if_neg h0, if_pos h1, if_neg (by rw [nodeN_iff]; omega)]
    · rw [if_neg h0, if_neg h1, if_pos (by rw [nodeN_iff]; omega)]
theorem outN_long (n : Int) : outN 4294967295 n = if longN n = true then 0 else 2 := by
  unfold outN
  by_cases h0 : n < 0
  · rw [if_pos h0, if_neg (by rw [longN_iff]; omega)]
  · by_cases h1 : 4294967295 < n
    · rw [if_neg h0, if_pos h1, if_neg (by rw [longN_iff]; omega)]
    · rw [if_neg h0, if_neg h1, if_pos (by rw [longN_iff]; omega)]

theorem chk_nums {x : Lt} (hk : ¬ 8 ≤ x.k) (he : firstE x.only.errs = 0) : x.chk = if x.only.nums = true then 0 else 2 := by
  unfold Lt.chk
  rw [if_neg hk, he]

theorem ok_parts {x : Lt} (ok : LtOk x) : x.only.nums = true ∧ x.only.errs = [0, 0, 0, 0] := by
  have h := chk_zero ok
  have hk : ¬ 8 ≤ x.k := by have := ok.k1; omega
  unfold Lt.chk at h
  rw [if_neg hk] at h
  split at h
  · rename_i hn
    have hall := first_ok h
    refine ⟨hn, ?_⟩
    have e1 : x.only.chkV = 0 := hall _ (by simp [Lt.errs])
    have e2 : x.only.e.chk = 0 := hall _ (by simp [Lt.errs])
    have e3 : cchk x.only.cp x.only.cl.length = 0 := hall _ (by simp [Lt.errs])
    have e4 : achk x.only.ae x.only.ar x.only.al.length = 0 := hall _ (by simp [Lt.errs])
    unfold Lt.errs
    rw [e1, e2, e3, e4]
  · cases h

theorem nums_parts {x : Lt} (h : x.nums = true) : nodeN x.f = true ∧ nodeN x.t = true ∧ longN x.p = true ∧ rightN x.b1 x.b2 = true ∧ rightN x.w1 x.w2 = true := by
  unfold Lt.nums at h
  simp only [Bool.and_eq_true] at h
  exact h

theorem has_1 {k : Int} (h0 : 0 ≤ k) (h1 : k ≤ 7) (s : Bool) : hasE k s 1 = decide (k < 6) := by
  rcases (show k = 0 ∨ k = 1 ∨ k = 2 ∨ k = 3 ∨ k = 4 ∨ k = 5 ∨ k = 6 ∨ k = 7 by omega) with h | h | h | h | h | h | h | h <;> subst h <;> cases s <;> rfl
theorem has_2 {k : Int} (h0 : 0 ≤ k) (h1 : k ≤ 7) (s : Bool) : hasE k s 2 = decide (k < 4) := by
  rcases (show k = 0 ∨ k = 1 ∨ k = 2 ∨ k = 3 ∨ k = 4 ∨ k = 5 ∨ k = 6 ∨ k = 7 by omega) with h | h | h | h | h | h | h | h <;> subst h <;> cases s <;> rfl
theorem has_8 {k : Int} (h0 : 0 ≤ k) (h1 : k ≤ 7) (s : Bool) : hasE k s 8 = (decide (k = 1) && s) := by
  rcases (show k = 0 ∨ k = 1 ∨ k = 2 ∨ k = 3 ∨ k = 4 ∨ k = 5 ∨ k = 6 ∨ k = 7 by omega) with h | h | h | h | h | h | h | h <;> subst h <;> cases s <;> rfl
theorem has_64 {k : Int} (h0 : 0 ≤ k) (h1 : k ≤ 7) (s : Bool) : hasE k s 64 = decide (k = 7) := by
  rcases (show k = 0 ∨ k = 1 ∨ k = 2 ∨ k = 3 ∨ k = 4 ∨ k = 5 ∨ k = 6 ∨ k = 7 by omega) with h | h | h | h | h | h | h | h <;> subst h <;> cases s <;> rfl

theorem chk_k (x : Lt) : ({ x with k := 8 } : Lt).chk = 5 := by unfold Lt.chk; rw [if_pos (by show (8 : Int) ≤ 8; decide)]

section
variable {x : Lt} (ok : LtOk x) (n : Int)
include ok

theorem chk_f : ({ x with f := n } : Lt).chk = outN 15 n := by
  obtain ⟨h1, h2⟩ := ok_parts ok
  obtain ⟨a, b, c, d, e⟩ := nums_parts h1
  have he : ({ x with f := n } : Lt).only.errs = x.only.errs := rfl
  rw [chk_nums (by have := ok.k1; show ¬ 8 ≤ x.k; omega) (by rw [he, h2]; rfl), outN_node]
  have hn : ({ x with f := n } : Lt).only.nums = nodeN n := by
    show (nodeN n && (nodeN x.only.t && (longN x.only.p && (rightN x.only.b1 x.only.b2 && rightN x.only.w1 x.only.w2)))) = nodeN n
    rw [b, c, d, e]
    simp
  rw [hn]
theorem chk_t : ({ x with t := n } : Lt).chk = outN 15 n := by
  obtain ⟨h1, h2⟩ := ok_parts ok
  obtain ⟨a, b, c, d, e⟩ := nums_parts h1
  have he : ({ x with t := n } : Lt).only.errs = x.only.errs := rfl
  rw [chk_nums (by have := ok.k1; show ¬ 8 ≤ x.k; omega) (by rw [he, h2]; rfl), outN_node]
  have hn : ({ x with t := n } : Lt).only.nums = nodeN n := by
    show (nodeN x.only.f && (nodeN n && (longN x.only.p && (rightN x.only.b1 x.only.b2 && rightN x.only.w1 x.only.w2)))) = nodeN n
    rw [a, c, d, e]
    simp
  rw [hn]
theorem chk_p : ({ x with p := n } : Lt).chk = if x.k < 6 then outN 4294967295 n else 0 := by
  obtain ⟨h1, h2⟩ := ok_parts ok
  obtain ⟨a, b, c, d, e⟩ := nums_parts h1
  have he : ({ x with p := n } : Lt).only.errs = x.only.errs := rfl
  rw [chk_nums (by have := ok.k1; show ¬ 8 ≤ x.k; omega) (by rw [he, h2]; rfl), outN_long]
  have hh := has_1 ok.k0 ok.k1 x.s
  have hn : ({ x with p := n } : Lt).only.nums = longN ({ x with p := n } : Lt).only.p := by
    show (nodeN x.only.f && (nodeN x.only.t && (longN ({ x with p := n } : Lt).only.p && (rightN x.only.b1 x.only.b2 && rightN x.only.w1 x.only.w2)))) = _
    rw [a, b, d, e]
    simp
  rw [hn]
  by_cases h : x.k < 6
  · rw [only_p (x := { x with p := n }) (by rw [hh]; simpa using h), if_pos h]
  · have hz : ({ x with p := n } : Lt).only.p = 0 := by unfold Lt.only Lt.mask; simp [hh, h]
    rw [hz, if_neg h]
    rfl
theorem chk_b1 : ({ x with b1 := n } : Lt).chk = if x.k < 4 then outN 4294967295 n else 0 := by
  obtain ⟨h1, h2⟩ := ok_parts ok
  obtain ⟨a, b, c, d, e⟩ := nums_parts h1
  have he : ({ x with b1 := n } : Lt).only.errs = x.only.errs := rfl
  rw [chk_nums (by have := ok.k1; show ¬ 8 ≤ x.k; omega) (by rw [he, h2]; rfl), outN_long]
  have hh := has_2 ok.k0 ok.k1 x.s
  have hn : ({ x with b1 := n } : Lt).only.nums = rightN ({ x with b1 := n } : Lt).only.b1 ({ x with b1 := n } : Lt).only.b2 := by
    show (nodeN x.only.f && (nodeN x.only.t && (longN x.only.p && (rightN ({ x with b1 := n } : Lt).only.b1 ({ x with b1 := n } : Lt).only.b2 && rightN x.only.w1 x.only.w2)))) = _
    rw [a, b, c, e]
    simp
  rw [hn]
  by_cases h : x.k < 4
  · have hb := only_b (x := { x with b1 := n }) (by rw [hh]; simpa using h)
    rw [hb.1, hb.2, if_pos h]
    have hb2 : nodeN x.b2 = true := nodeN_iff.2 (ok.b (by rw [hh]; simpa using h)).2
    unfold rightN
    rw [hb2, Bool.and_true]
  · have hz : ({ x with b1 := n } : Lt).only.b1 = 0 := by unfold Lt.only Lt.mask; simp [hh, h]
    have hz2 : ({ x with b1 := n } : Lt).only.b2 = 0 := by unfold Lt.only Lt.mask; simp [hh, h]
    rw [hz, hz2, if_neg h]
    rfl
theorem chk_b2 : ({ x with b2 := n } : Lt).chk = if x.k < 4 then outN 15 n else 0 := by
  obtain ⟨h1, h2⟩ := ok_parts ok
  obtain ⟨a, b, c, d, e⟩ := nums_parts h1
  have he : ({ x with b2 := n } : Lt).only.errs = x.only.errs := rfl
  rw [chk_nums (by have := ok.k1; show ¬ 8 ≤ x.k; omega) (by rw [he, h2]; rfl), outN_node]
  have hh := has_2 ok.k0 ok.k1 x.s
  have hn : ({ x with b2 := n } : Lt).only.nums = rightN ({ x with b2 := n } : Lt).only.b1 ({ x with b2 := n } : Lt).only.b2 := by
    show (nodeN x.only.f && (nodeN x.only.t && (longN x.only.p && (rightN ({ x with b2 := n } : Lt).only.b1 ({ x with b2 := n } : Lt).only.b2 && rightN x.only.w1 x.only.w2)))) = _
    rw [a, b, c, e]
    simp
  rw [hn]
  by_cases h : x.k < 4
  · have hb := only_b (x := { x with b2 := n }) (by rw [hh]; simpa using h)
    rw [hb.1, hb.2, if_pos h]
    have hb2 : longN x.b1 = true := longN_iff.2 (ok.b (by rw [hh]; simpa using h)).1
    unfold rightN
    rw [hb2, Bool.true_and]
  · have hz : ({ x with b2 := n } : Lt).only.b1 = 0 := by unfold Lt.only Lt.mask; simp [hh, h]
    have hz2 : ({ x with b2 := n } : Lt).only.b2 = 0 := by unfold Lt.only Lt.mask; simp [hh, h]
    rw [hz, hz2, if_neg h]
    rfl
theorem chk_w2 : ({ x with w2 := n } : Lt).chk = if (decide (x.k = 1) && x.s) = true then outN 15 n else 0 := by
  obtain ⟨h1, h2⟩ := ok_parts ok
  obtain ⟨a, b, c, d, e⟩ := nums_parts h1
  have he : ({ x with w2 := n } : Lt).only.errs = x.only.errs := rfl
  rw [chk_nums (by have := ok.k1; show ¬ 8 ≤ x.k; omega) (by rw [he, h2]; rfl), outN_node]
  have hh := has_8 ok.k0 ok.k1 x.s
  have hn : ({ x with w2 := n } : Lt).only.nums = rightN ({ x with w2 := n } : Lt).only.w1 ({ x with w2 := n } : Lt).only.w2 := by
    show (nodeN x.only.f && (nodeN x.only.t && (longN x.only.p && (rightN x.only.b1 x.only.b2 && rightN ({ x with w2 := n } : Lt).only.w1 ({ x with w2 := n } : Lt).only.w2)))) = _
    rw [a, b, c, d]
    simp
  rw [hn]
  by_cases h : (decide (x.k = 1) && x.s) = true
  · have hb := only_w (x := { x with w2 := n }) (by rw [hh]; exact h)
    rw [hb.1, hb.2, if_pos h]
    have hb2 : longN x.w1 = true := longN_iff.2 (ok.w (by rw [hh]; exact h)).1
    unfold rightN
    rw [hb2, Bool.true_and]
  · have h' : hasE x.k x.s 8 = false := by rw [hh]; simpa using h
    have hz : ({ x with w2 := n } : Lt).only.w1 = 0 := by unfold Lt.only Lt.mask; simp [h']
    have hz2 : ({ x with w2 := n } : Lt).only.w2 = 0 := by unfold Lt.only Lt.mask; simp [h']
    rw [hz, hz2, if_neg h]
    rfl
theorem chk_vn : ({ x with vn := n } : Lt).chk = if x.k = 7 then outN 4294967295 n else 0 := by
  obtain ⟨h1, h2⟩ := ok_parts ok
  have hh := has_64 ok.k0 ok.k1 x.s
  have hn : ({ x with vn := n } : Lt).only.nums = x.only.nums := rfl
  have e1 : x.only.e.chk = 0 ∧ cchk x.only.cp x.only.cl.length = 0 ∧ achk x.only.ae x.only.ar x.only.al.length = 0 := by
    unfold Lt.errs at h2
    simp only [List.cons.injEq, and_true] at h2
    exact ⟨h2.2.1, h2.2.2.1, h2.2.2.2⟩
  have hE : ({ x with vn := n } : Lt).only.errs = [({ x with vn := n } : Lt).only.chkV, 0, 0, 0] := by
    show [({ x with vn := n } : Lt).only.chkV, x.only.e.chk, cchk x.only.cp x.only.cl.length, achk x.only.ae x.only.ar x.only.al.length] = _
    rw [e1.1, e1.2.1, e1.2.2]
  have hC : ({ x with vn := n } : Lt).chk = ({ x with vn := n } : Lt).only.chkV := by
    unfold Lt.chk
    rw [if_neg (by have := ok.k1; show ¬ 8 ≤ x.k; omega), hn, if_pos h1, hE]
    unfold firstE
    split
    · rename_i h0; rw [h0]; rfl
    · rfl
  rw [hC, outN_long]
  have hs := only_has ({ x with vn := n } : Lt)
  unfold Lt.chkV
  rw [hs]
  by_cases h : x.k = 7
  · have h64 : hasE x.k x.s 64 = true := by rw [hh]; simpa using h
    obtain ⟨⟨v1, v2⟩, -⟩ := only_a (x := { x with vn := n }) h64
    rw [if_pos h64, v1, v2, if_pos h]
    have := (ok.a h64).1.2.2.1
    show (if longN n = true then chkM x.vm else 2) = _
    rw [this]
  · rw [if_neg (by show ¬ hasE x.k x.s 64 = true; rw [hh]; simpa using h), if_neg h]
end
end
section
set_option maxRecDepth 100000

theorem lout_any (hi n : Int) (g : Nat) (w : World) (hg : w.heap[g]? = some (.cells #[.int .i64 n] 3 (0, 0))) :
    Calls Try.prog 17 #[.int .i64 hi, .pointer (some ⟨g, 0, none⟩)] w fun e w' => e = .returned (.int .i64 (outN hi n)) ∧ w = w' := by
  have c0 := cell_of_one hg
  clear hg
  unfold outN
  by_cases h1 : n < 0
  · rw [if_pos h1]
    go_enter Try.func17, Try.ntmps17
    go_wp2_with fail
    go_ret
    exact ⟨rfl, rfl⟩
  · rw [if_neg h1]
    by_cases h2 : hi < n
    · rw [if_pos h2]
      go_enter Try.func17, Try.ntmps17
      go_wp2_with fail
      go_ret
      exact ⟨rfl, rfl⟩
    · rw [if_neg h2]
      go_enter Try.func17, Try.ntmps17
      go_wp2_with fail
      go_ret
      exact ⟨rfl, rfl⟩

/-- The turned letter lies in block g; its check is c. -/
def ChI (W : World) (g : Nat) (c : Value) (wx : World) : Prop := ∃ x s, c = .int .i64 x.chk ∧ wx.heap[g]? = some (oLt x s) ∧ LS wx x s ∧ LtT x ∧ Fr (fun _ => False) W wx

theorem ChI.of {W wx wy : World} {g : Nat} {x x' : Lt} {s : Ls} {c : Int} (hl : LS wx x s) (hn : s.new (g + 1) ∨ Far g x s) (f : Fr (fun k => k = g) wx wy) (fW : Fr (fun _ => False) W wx) (hg : W.heap.size ≤ g) (q : wy.heap[g]? = some (oLt x' s)) (hls : LS wy x s → LS wy x' s) (ht : LtT x') (hc : x'.chk = c) : ChI W g (.int .i64 c) wy := by
  refine ⟨x', s, by rw [hc], q, hls ?_, ht, fW.trans f (fun i hi e => by omega)⟩
  rcases hn with hn | hn
  · exact hl.off f hn
  · exact hl.keepF f hn

theorem ltB_pos (x : Lt) : 0 < (ltB x).length := by
  unfold ltB
  simp only [ltU, ltP, List.length_append, be2_length]
  omega
theorem ltT_f {x : Lt} (h : LtT x) (n : Int) : LtT { x with f := n } := ⟨⟨h.l.el, h.l.em, h.l.vm, h.l.cl, h.l.al, h.l.k0, h.l.k1⟩, ⟨h.t.k0, h.t.k1, h.t.ek0, h.t.ek1, h.t.et, h.t.en, h.t.ct, h.t.cn, h.t.it, h.t.iN⟩⟩
theorem ltT_t {x : Lt} (h : LtT x) (n : Int) : LtT { x with t := n } := ⟨⟨h.l.el, h.l.em, h.l.vm, h.l.cl, h.l.al, h.l.k0, h.l.k1⟩, ⟨h.t.k0, h.t.k1, h.t.ek0, h.t.ek1, h.t.et, h.t.en, h.t.ct, h.t.cn, h.t.it, h.t.iN⟩⟩
theorem ltT_p {x : Lt} (h : LtT x) (n : Int) : LtT { x with p := n } := ⟨⟨h.l.el, h.l.em, h.l.vm, h.l.cl, h.l.al, h.l.k0, h.l.k1⟩, ⟨h.t.k0, h.t.k1, h.t.ek0, h.t.ek1, h.t.et, h.t.en, h.t.ct, h.t.cn, h.t.it, h.t.iN⟩⟩
theorem ltT_b1 {x : Lt} (h : LtT x) (n : Int) : LtT { x with b1 := n } := ⟨⟨h.l.el, h.l.em, h.l.vm, h.l.cl, h.l.al, h.l.k0, h.l.k1⟩, ⟨h.t.k0, h.t.k1, h.t.ek0, h.t.ek1, h.t.et, h.t.en, h.t.ct, h.t.cn, h.t.it, h.t.iN⟩⟩
theorem ltT_b2 {x : Lt} (h : LtT x) (n : Int) : LtT { x with b2 := n } := ⟨⟨h.l.el, h.l.em, h.l.vm, h.l.cl, h.l.al, h.l.k0, h.l.k1⟩, ⟨h.t.k0, h.t.k1, h.t.ek0, h.t.ek1, h.t.et, h.t.en, h.t.ct, h.t.cn, h.t.it, h.t.iN⟩⟩
theorem ltT_w2 {x : Lt} (h : LtT x) (n : Int) : LtT { x with w2 := n } := ⟨⟨h.l.el, h.l.em, h.l.vm, h.l.cl, h.l.al, h.l.k0, h.l.k1⟩, ⟨h.t.k0, h.t.k1, h.t.ek0, h.t.ek1, h.t.et, h.t.en, h.t.ct, h.t.cn, h.t.it, h.t.iN⟩⟩
theorem ltT_vn {x : Lt} (h : LtT x) (n : Int) : LtT { x with vn := n } := ⟨⟨h.l.el, h.l.em, h.l.vm, h.l.cl, h.l.al, h.l.k0, h.l.k1⟩, ⟨h.t.k0, h.t.k1, h.t.ek0, h.t.ek1, h.t.et, h.t.en, h.t.ct, h.t.cn, h.t.it, h.t.iN⟩⟩
theorem ltT_k {x : Lt} (h : LtT x) : LtT { x with k := 8 } := ⟨⟨h.l.el, h.l.em, h.l.vm, h.l.cl, h.l.al, h.l.k0, h.l.k1⟩, ⟨by show (0 : Int) ≤ 8; decide, by show (8 : Int) ≤ 255; decide, h.t.ek0, h.t.ek1, h.t.et, h.t.en, h.t.ct, h.t.cn, h.t.it, h.t.iN⟩⟩
theorem st1_b1 {w : World} {g : Nat} {x : Lt} {s : Ls} {T : TypeId} (h : w.heap[g]? = some (.cells (x.cs s) T (0, 0))) (v0 : Int) : (w.setCell ⟨g, 4, none⟩ (.int .i64 v0)).heap[g]? = some (.cells (Lt.cs ({ x with b1 := v0 } : Lt) s) T (0, 0)) := by
  rw [heap_setCell_same w g 4 _ T _ h]; rfl
theorem st1_b2 {w : World} {g : Nat} {x : Lt} {s : Ls} {T : TypeId} (h : w.heap[g]? = some (.cells (x.cs s) T (0, 0))) (v0 : Int) : (w.setCell ⟨g, 5, none⟩ (.int .i64 v0)).heap[g]? = some (.cells (Lt.cs ({ x with b2 := v0 } : Lt) s) T (0, 0)) := by
  rw [heap_setCell_same w g 5 _ T _ h]; rfl
theorem st1_w2 {w : World} {g : Nat} {x : Lt} {s : Ls} {T : TypeId} (h : w.heap[g]? = some (.cells (x.cs s) T (0, 0))) (v0 : Int) : (w.setCell ⟨g, 7, none⟩ (.int .i64 v0)).heap[g]? = some (.cells (Lt.cs ({ x with w2 := v0 } : Lt) s) T (0, 0)) := by
  rw [heap_setCell_same w g 7 _ T _ h]; rfl

theorem checks_all {W : World} (y1 : S17) (v1 : Value) (h1 : S17V W y1 v1) (what : Int) (hw0 : 0 ≤ what) (hw1 : what ≤ 255) (n : Int) (_ : -9223372036854775808 ≤ n) (_ : n ≤ 9223372036854775807) :
    Calls Try.prog 5 #[v1, .int .u8 what, .int .i64 n] W fun e w' => e = .returned (.bool true) ∧ Fr (fun _ => False) W w' := by
  obtain ⟨ve, vc, va, rfl, hs1, ok1⟩ := h1
  have q0 := heap_alloc_new W (oS17 y1 ve vc va)
  have q1 := new_two W (oS17 y1 ve vc va) (Obj.cells #[.int .i64 n] 3 (0, 0))
  have f1 : Fr (fun _ => False) (W.alloc (oS17 y1 ve vc va)) ((W.alloc (oS17 y1 ve vc va)).alloc (Obj.cells #[.int .i64 n] 3 (0, 0))) := (Fr.refl _ _).alloc _
  have f2 := ((Fr.refl (fun _ => False) W).alloc (oS17 y1 ve vc va)).trans f1 (fun _ _ h => h)
  have Q := Lib.hid (And.intro (crow_kept q0 f1 (fun h => h)) q1)
  have F := Lib.hid f2
  have HS := Lib.hid hs1
  have OK := Lib.hid ok1
  clear q0 q1 f1 f2 hs1 ok1
  go_enter Try.func5, Try.ntmps5
  go_upto_region 1 with fail
  generalize (W.alloc (oS17 y1 ve vc va)).alloc (Obj.cells #[.int .i64 n] 3 (0, 0)) = w0 at *
  obtain ⟨gn, hgn⟩ : ∃ g, g = W.heap.size + 1 := ⟨_, rfl⟩
  rw [← hgn] at Q ⊢
  obtain ⟨gs, hgs⟩ : ∃ g, g = W.heap.size := ⟨_, rfl⟩
  rw [← hgs] at Q ⊢
  have HG : Hid (gs = W.heap.size ∧ gn = W.heap.size + 1) := Lib.hid ⟨hgs, hgn⟩
  clear hgs hgn
  go_wp2_with fail
  refine (lawake_any w0).mono ?_
  rintro e w1 ⟨rfl, f1⟩
  have Q1 := Lib.hid (And.intro (crow_kept Q.out.1 f1 (fun h => h)) (crow_kept Q.out.2 f1 (fun h => h)))
  have F1 := Lib.hid (F.out.trans f1 (fun _ _ h => h))
  clear f1 F Q
  dsimp only
  go_wp2_with (refine load_lt rfl 32 (.tmp 3) rfl gs (y1.cs ve vc va) 32 (0, 0) rfl Q1.out.1 _ Try.underlying32 rfl (by kernel_rfl) ?_)
  refine (light_any y1 ve vc va w1 (HS.out.fr F1.out)).mono ?_
  rintro e w2 ⟨rfl, f2⟩
  have Q2 := Lib.hid (And.intro (crow_kept Q1.out.1 f2 (fun h => h)) (crow_kept Q1.out.2 f2 (fun h => h)))
  have F2 := Lib.hid (F1.out.trans f2 (fun _ _ h => h))
  clear f2 F1 Q1
  by_cases l1 : y1.light
  case neg =>
    have hL : (decide (y1.e.c.l.length ≤ 100) && (decide (y1.c.l.length ≤ 100) && decide (y1.a.l.length ≤ 100))) = false := by
      unfold S17.light at l1
      simp only [Bool.and_eq_false_iff, decide_eq_false_iff_not]
      omega
    rw [hL]
    clear l1 hL
    dsimp only
    go_wp2_with fail
    go_ret
    exact ⟨rfl, F2.out⟩
  have hL : (decide (y1.e.c.l.length ≤ 100) && (decide (y1.c.l.length ≤ 100) && decide (y1.a.l.length ≤ 100))) = true := by
    obtain ⟨a, b, c⟩ := l1
    simp [a, b, c]
  rw [hL]
  have L1 := Lib.hid l1
  clear l1 hL
  dsimp only
  go_wp2_with (refine load_lt rfl 32 (.tmp 3) rfl gs (y1.cs ve vc va) 32 (0, 0) rfl Q2.out.1 _ Try.underlying32 rfl (by kernel_rfl) ?_)
  refine (sall_any y1 ve vc va w2 OK.out (HS.out.fr F2.out)).mono ?_
  rintro e w3 ⟨s, rfl, hl3, f3⟩
  have Q3 := Lib.hid (crow_kept Q2.out.2 f3 (fun h => h))
  have F3 := Lib.hid (F2.out.trans f3 (fun _ _ h => h))
  have L3 := Lib.hid (And.intro hl3 (far_new hl3))
  have hz := heap_alloc_new w3 (zLt 0 0 0)
  have HZ := Lib.hid hz
  obtain ⟨A, hA⟩ : ∃ A, A = y1.all := ⟨_, rfl⟩
  have HA : Hid (LtOk A ∧ LtT A) := Lib.hid (by rw [hA]; exact ⟨all_ok OK.out L1.out, all_ty OK.out L1.out⟩)
  rw [← hA] at L3 ⊢
  clear hl3 f3 hz hA Q2 F2 L1 OK HS
  dsimp only
  go_upto_region 6 with (refine store_lt rfl 51 (.tmp 7) (.tmp 18) rfl w3.heap.size (A.cs s) rfl rfl 51 _ HZ.out (by kernel_rfl) rfl L3.out.1.one ?_)
  have q4 := setRow_heap _ _ _ (A.cs s) _ _ HZ.out
  have f4 : Fr (fun _ => False) w3 ((w3.alloc (zLt 0 0 0)).setRow w3.heap.size (A.cs s)) := Fr.letRow ((Fr.refl _ _).alloc _) (fun h => absurd h (by omega)) _
  generalize (w3.alloc (zLt 0 0 0)).setRow w3.heap.size (A.cs s) = w4 at *
  obtain ⟨gl, hgl⟩ : ∃ g, g = w3.heap.size := ⟨_, rfl⟩
  rw [← hgl] at q4 L3 ⊢
  have hgnl : gn < w3.heap.size := vt_lt Q3.out
  have HGL : Hid (W.heap.size ≤ gl ∧ gn < gl) := Lib.hid ⟨by have := F3.out.size; omega, by omega⟩
  have Q4 := Lib.hid (And.intro (crow_kept Q3.out f4 (fun h => h)) q4)
  have F4 := Lib.hid (F3.out.trans f4 (fun _ _ h => h))
  have L4 := Lib.hid (And.intro (L3.out.1.fr f4) L3.out.2)
  clear q4 f4 hgl hgnl HZ Q3 F3 L3
  go_upto_block 0 with fail
  have hz8 : what % 8 = 0 ∨ what % 8 = 1 ∨ what % 8 = 2 ∨ what % 8 = 3 ∨ what % 8 = 4 ∨ what % 8 = 5 ∨ what % 8 = 6 ∨ what % 8 = 7 := by omega
  generalize what % 8 = z at *
  go_cut [9] from 22 to 87 (fun c wx => Hid (ChI W gl c wx))
  case first =>
    have c0 := cell_of_one Q4.out.1
    obtain ⟨t0, t1, t2, t3, t4, t5, t6, t7, t8⟩ := lt_cells Q4.out.2
    obtain ⟨t15, t16, -, -, -, -, -, -, -, -, -⟩ := lt_cells3 Q4.out.2
    have hfz := lt_free Q4.out.2
    have hk7 : 0 ≤ A.k ∧ A.k ≤ 7 := ⟨HA.out.1.k0, HA.out.1.k1⟩
    rcases hz8 with rfl | rfl | rfl | rfl | rfl | rfl | rfl | rfl
    · go_wp2_with fail
      go_meet
      case rel =>
        have hfr : Fr (fun k => k = gl) w4 (w4.setCell ⟨gl, 0, none⟩ (.int .u8 8)) := (Fr.refl (fun k => k = gl) w4).setCell (p := ⟨gl, 0, none⟩) (fun _ => rfl) _
        exact Lib.hid (ChI.of L4.out.1 (.inr L4.out.2) hfr F4.out HGL.out.1 (st_k Q4.out.2 8) (fun h => ⟨h.e, h.v, h.c, h.a⟩) (ltT_k HA.out.2) (chk_k A))
    · go_upto_region 15 with fail
      refine wp_region_toldU (by kernel_rfl) (fun a b => Fr (fun k => k = gl) a b) (fun w => Fr.refl _ w) (fun _ _ _ h k => h.trans k (fun _ _ h => h)) [some 35, some 36, some 37, some 38, none, some 9] rfl (by decide) (by intro d hd; simp at hd ⊢; omega)
        (fun i wx => i = 4 → wx.heap[gl]? = some (oLt A s))
        (fun i v wx => ([fun v _ => v = .int .i64 n, fun v _ => v = .func (.func 17) #[] #[.pointer (some ⟨gn, 0, none⟩)], fun v _ => v = .int .i64 (outN 15 n), fun v _ => v = .pointer (some ⟨gl, 1, none⟩), fun _ w => w.heap[gl]? = some (oLt { A with f := n } s), fun v _ => v = .int .i64 (outN 15 n)] : List (Value → World → Prop)).getD i (fun _ _ => True) v wx)
        (by kernel_rfl) (fun _ _ _ => Q4.out.2) ?step15 ?fin15
      case step15 =>
        intro vals
        simp only [frOfU, fillU, List.setIfInBounds_toArray, List.set_cons_succ, List.set_cons_zero]
        repeat' (first | exact AllOps.nil | refine AllOps.cons ?_ ?_)
        all_goals
          intro wx hle he hu hn K' hK
          simp only [Act.put, List.setIfInBounds_toArray, List.set_cons_succ, List.set_cons_zero, List.getD_cons_zero, List.getD_cons_succ] at hK
          simp only [List.mem_cons, List.not_mem_nil, or_false, forall_eq_or_imp, forall_eq, Region.binds, forall_const, false_imp_iff, List.getD_cons_zero, List.getD_cons_succ] at he
          have hl5 := Fr.trans (Fr.drew (Fr.refl (fun k => k = gl) w4)) hle (fun _ _ h => h)
          have hqn := crow_kept Q4.out.1 hl5 (by have := HGL.out; omega)
          have HQN := Lib.hid hqn
          have c0 := cell_of_one hqn
          have HU := Lib.hid hu
          clear hqn hl5 hle hu hn t0 t1 t2 t3 t4 t5 t6 t7 t8 t15 t16
        · (try simp only [he] at hK ⊢)
          go_simp
          exact hK _ _ (Fr.refl _ _) rfl (fun _ _ h => h) (fun _ _ _ h => h)
        · (try simp only [he] at hK ⊢)
          go_simp
          exact hK _ _ (Fr.refl _ _) rfl (fun _ _ h => h) (fun _ _ _ h => h)
        · (try simp only [he] at hK ⊢)
          go_simp
          go_at_call 17
          refine (lout_any 15 n gn wx HQN.out).mono ?_
          rintro er wa ⟨rfl, rfl⟩
          exact hK _ _ (Fr.refl _ _) rfl (fun _ _ h => h) (fun _ _ _ h => h)
        · (try simp only [he] at hK ⊢)
          go_simp
          exact hK _ _ (Fr.refl _ _) rfl (fun _ _ h => h) (fun _ _ _ h => h)
        · have q2 := HU.out rfl
          obtain ⟨t0, t1, t2, t3, t4, t5, t6, t7, t8⟩ := lt_cells q2
          have hfz := lt_free q2
          have HQ2 := Lib.hid q2
          clear q2
          simp only [he] at hK ⊢
          go_simp
          have hfr : Fr (fun k => k = gl) wx (wx.setCell ⟨gl, 1, none⟩ (.int .i64 n)) := (Fr.refl (fun k => k = gl) wx).setCell (p := ⟨gl, 1, none⟩) (fun _ => rfl) _
          refine hK undef _ hfr (st_f HQ2.out n) (fun j hj _ e => absurd e hj) (fun j u hj h => ?_)
          match j, hj with
          | 0, _ => exact h
          | 1, _ => exact h
          | 2, _ => exact h
          | 3, _ => exact h
          | 4, hj => exact absurd rfl hj
          | 5, _ => exact h
          | m + 6, _ => exact trivial
        · have e2 : vals 2 = .int .i64 (outN 15 n) := by first | exact he | exact he.1 | exact he.2 | exact he.2.1
          simp only [e2] at hK ⊢
          clear he
          go_simp
          exact hK _ _ (Fr.refl _ _) rfl (fun _ _ h => h) (fun _ _ _ h => h)
      case fin15 =>
        intro vals w5 hle hV
        have v5 : vals 5 = .int .i64 (outN 15 n) := hV 5 (by decide)
        have q5 : w5.heap[gl]? = some (oLt { A with f := n } s) := hV 4 (by decide)
        have H5 := Lib.hid (And.intro q5 (Fr.trans (Fr.drew (Fr.refl (fun k => k = gl) w4)) hle (fun _ _ h => h)))
        clear hV hle q5
        simp only [frOfU, fillU, List.setIfInBounds_toArray, List.set_cons_succ, List.set_cons_zero]
        simp only [Nat.reduceAdd, v5]
        clear v5
        clear t0 t1 t2 t3 t4 t5 t6 t7 t8 t15 t16 c0 hfz
        go_wp2_with fail
        go_meet
        case rel => exact Lib.hid (ChI.of L4.out.1 (.inr L4.out.2) H5.out.2 F4.out HGL.out.1 H5.out.1 (fun h => ⟨h.e, h.v, h.c, h.a⟩) (ltT_f HA.out.2 n) (chk_f HA.out.1 n))
    · go_upto_region 17 with fail
      refine wp_region_toldU (by kernel_rfl) (fun a b => Fr (fun k => k = gl) a b) (fun w => Fr.refl _ w) (fun _ _ _ h k => h.trans k (fun _ _ h => h)) [some 41, some 42, some 43, some 44, none, some 9] rfl (by decide) (by intro d hd; simp at hd ⊢; omega)
        (fun i wx => i = 4 → wx.heap[gl]? = some (oLt A s))
        (fun i v wx => ([fun v _ => v = .int .i64 n, fun v _ => v = .func (.func 17) #[] #[.pointer (some ⟨gn, 0, none⟩)], fun v _ => v = .int .i64 (outN 15 n), fun v _ => v = .pointer (some ⟨gl, 2, none⟩), fun _ w => w.heap[gl]? = some (oLt { A with t := n } s), fun v _ => v = .int .i64 (outN 15 n)] : List (Value → World → Prop)).getD i (fun _ _ => True) v wx)
        (by kernel_rfl) (fun _ _ _ => Q4.out.2) ?step17 ?fin17
      case step17 =>
        intro vals
        simp only [frOfU, fillU, List.setIfInBounds_toArray, List.set_cons_succ, List.set_cons_zero]
        repeat' (first | exact AllOps.nil | refine AllOps.cons ?_ ?_)
        all_goals
          intro wx hle he hu hn K' hK
          simp only [Act.put, List.setIfInBounds_toArray, List.set_cons_succ, List.set_cons_zero, List.getD_cons_zero, List.getD_cons_succ] at hK
          simp only [List.mem_cons, List.not_mem_nil, or_false, forall_eq_or_imp, forall_eq, Region.binds, forall_const, false_imp_iff, List.getD_cons_zero, List.getD_cons_succ] at he
          have hl5 := Fr.trans (Fr.drew (Fr.refl (fun k => k = gl) w4)) hle (fun _ _ h => h)
          have hqn := crow_kept Q4.out.1 hl5 (by have := HGL.out; omega)
          have HQN := Lib.hid hqn
          have c0 := cell_of_one hqn
          have HU := Lib.hid hu
          clear hqn hl5 hle hu hn t0 t1 t2 t3 t4 t5 t6 t7 t8 t15 t16
        · (try simp only [he] at hK ⊢)
          go_simp
          exact hK _ _ (Fr.refl _ _) rfl (fun _ _ h => h) (fun _ _ _ h => h)
        · (try simp only [he] at hK ⊢)
          go_simp
          exact hK _ _ (Fr.refl _ _) rfl (fun _ _ h => h) (fun _ _ _ h => h)
        · (try simp only [he] at hK ⊢)
          go_simp
          go_at_call 17
          refine (lout_any 15 n gn wx HQN.out).mono ?_
          rintro er wa ⟨rfl, rfl⟩
          exact hK _ _ (Fr.refl _ _) rfl (fun _ _ h => h) (fun _ _ _ h => h)
        · (try simp only [he] at hK ⊢)
          go_simp
          exact hK _ _ (Fr.refl _ _) rfl (fun _ _ h => h) (fun _ _ _ h => h)
        · have q2 := HU.out rfl
          obtain ⟨t0, t1, t2, t3, t4, t5, t6, t7, t8⟩ := lt_cells q2
          have hfz := lt_free q2
          have HQ2 := Lib.hid q2
          clear q2
          simp only [he] at hK ⊢
          go_simp
          have hfr : Fr (fun k => k = gl) wx (wx.setCell ⟨gl, 2, none⟩ (.int .i64 n)) := (Fr.refl (fun k => k = gl) wx).setCell (p := ⟨gl, 2, none⟩) (fun _ => rfl) _
          refine hK undef _ hfr (st_t HQ2.out n) (fun j hj _ e => absurd e hj) (fun j u hj h => ?_)
          match j, hj with
          | 0, _ => exact h
          | 1, _ => exact h
          | 2, _ => exact h
          | 3, _ => exact h
          | 4, hj => exact absurd rfl hj
          | 5, _ => exact h
          | m + 6, _ => exact trivial
        · have e2 : vals 2 = .int .i64 (outN 15 n) := by first | exact he | exact he.1 | exact he.2 | exact he.2.1
          simp only [e2] at hK ⊢
          clear he
          go_simp
          exact hK _ _ (Fr.refl _ _) rfl (fun _ _ h => h) (fun _ _ _ h => h)
      case fin17 =>
        intro vals w5 hle hV
        have v5 : vals 5 = .int .i64 (outN 15 n) := hV 5 (by decide)
        have q5 : w5.heap[gl]? = some (oLt { A with t := n } s) := hV 4 (by decide)
        have H5 := Lib.hid (And.intro q5 (Fr.trans (Fr.drew (Fr.refl (fun k => k = gl) w4)) hle (fun _ _ h => h)))
        clear hV hle q5
        simp only [frOfU, fillU, List.setIfInBounds_toArray, List.set_cons_succ, List.set_cons_zero]
        simp only [Nat.reduceAdd, v5]
        clear v5
        clear t0 t1 t2 t3 t4 t5 t6 t7 t8 t15 t16 c0 hfz
        go_wp2_with fail
        go_meet
        case rel => exact Lib.hid (ChI.of L4.out.1 (.inr L4.out.2) H5.out.2 F4.out HGL.out.1 H5.out.1 (fun h => ⟨h.e, h.v, h.c, h.a⟩) (ltT_t HA.out.2 n) (chk_t HA.out.1 n))
    · by_cases hc : A.k < 6
      · go_wp2_with fail
        refine (lout_any 4294967295 n gn _ (crow_kept Q4.out.1 ((Fr.refl (fun k => k = gl) w4).setCell (p := ⟨gl, 3, none⟩) (fun _ => rfl) (.int .i64 n)) (by have := HGL.out; omega))).mono ?_
        rintro e wq ⟨rfl, rfl⟩
        dsimp only
        go_wp2_with fail
        go_meet
        case rel =>
          have hfr : Fr (fun k => k = gl) w4 (w4.setCell ⟨gl, 3, none⟩ (.int .i64 n)) := (Fr.refl (fun k => k = gl) w4).setCell (p := ⟨gl, 3, none⟩) (fun _ => rfl) _
          exact Lib.hid (ChI.of L4.out.1 (.inr L4.out.2) hfr F4.out HGL.out.1 (st_p Q4.out.2 n) (fun h => ⟨h.e, h.v, h.c, h.a⟩) (ltT_p HA.out.2 n) ((chk_p HA.out.1 n).trans (if_pos hc)))
      · go_wp2_with fail
        go_meet
        case rel =>
          have hfr : Fr (fun k => k = gl) w4 (w4.setCell ⟨gl, 3, none⟩ (.int .i64 n)) := (Fr.refl (fun k => k = gl) w4).setCell (p := ⟨gl, 3, none⟩) (fun _ => rfl) _
          exact Lib.hid (ChI.of L4.out.1 (.inr L4.out.2) hfr F4.out HGL.out.1 (st_p Q4.out.2 n) (fun h => ⟨h.e, h.v, h.c, h.a⟩) (ltT_p HA.out.2 n) ((chk_p HA.out.1 n).trans (if_neg (by omega))))
    · by_cases hc : A.k < 4
      · go_wp2_with fail
        refine (lout_any 4294967295 n gn _ (crow_kept Q4.out.1 ((Fr.refl (fun k => k = gl) w4).setCell (p := ⟨gl, 4, none⟩) (fun _ => rfl) (.int .i64 n)) (by have := HGL.out; omega))).mono ?_
        rintro e wq ⟨rfl, rfl⟩
        dsimp only
        go_wp2_with fail
        go_meet
        case rel =>
          have hfr : Fr (fun k => k = gl) w4 (w4.setCell ⟨gl, 4, none⟩ (.int .i64 n)) := (Fr.refl (fun k => k = gl) w4).setCell (p := ⟨gl, 4, none⟩) (fun _ => rfl) _
          exact Lib.hid (ChI.of L4.out.1 (.inr L4.out.2) hfr F4.out HGL.out.1 (st1_b1 Q4.out.2 n) (fun h => ⟨h.e, h.v, h.c, h.a⟩) (ltT_b1 HA.out.2 n) ((chk_b1 HA.out.1 n).trans (if_pos hc)))
      · go_wp2_with fail
        go_meet
        case rel =>
          have hfr : Fr (fun k => k = gl) w4 (w4.setCell ⟨gl, 4, none⟩ (.int .i64 n)) := (Fr.refl (fun k => k = gl) w4).setCell (p := ⟨gl, 4, none⟩) (fun _ => rfl) _
          exact Lib.hid (ChI.of L4.out.1 (.inr L4.out.2) hfr F4.out HGL.out.1 (st1_b1 Q4.out.2 n) (fun h => ⟨h.e, h.v, h.c, h.a⟩) (ltT_b1 HA.out.2 n) ((chk_b1 HA.out.1 n).trans (if_neg (by omega))))
    · by_cases hc : A.k < 4
      · go_wp2_with fail
        refine (lout_any 15 n gn _ (crow_kept Q4.out.1 ((Fr.refl (fun k => k = gl) w4).setCell (p := ⟨gl, 5, none⟩) (fun _ => rfl) (.int .i64 n)) (by have := HGL.out; omega))).mono ?_
        rintro e wq ⟨rfl, rfl⟩
        dsimp only
        go_wp2_with fail
        go_meet
        case rel =>
          have hfr : Fr (fun k => k = gl) w4 (w4.setCell ⟨gl, 5, none⟩ (.int .i64 n)) := (Fr.refl (fun k => k = gl) w4).setCell (p := ⟨gl, 5, none⟩) (fun _ => rfl) _
          exact Lib.hid (ChI.of L4.out.1 (.inr L4.out.2) hfr F4.out HGL.out.1 (st1_b2 Q4.out.2 n) (fun h => ⟨h.e, h.v, h.c, h.a⟩) (ltT_b2 HA.out.2 n) ((chk_b2 HA.out.1 n).trans (if_pos hc)))
      · go_wp2_with fail
        go_meet
        case rel =>
          have hfr : Fr (fun k => k = gl) w4 (w4.setCell ⟨gl, 5, none⟩ (.int .i64 n)) := (Fr.refl (fun k => k = gl) w4).setCell (p := ⟨gl, 5, none⟩) (fun _ => rfl) _
          exact Lib.hid (ChI.of L4.out.1 (.inr L4.out.2) hfr F4.out HGL.out.1 (st1_b2 Q4.out.2 n) (fun h => ⟨h.e, h.v, h.c, h.a⟩) (ltT_b2 HA.out.2 n) ((chk_b2 HA.out.1 n).trans (if_neg (by omega))))
    · have hkk : A.k = 1 ∨ ¬ A.k = 1 := Decidable.em _
      rcases hkk with hk1 | hk1
      · have hb1 : (A.k == 1) = true := by simp [hk1]
        have HK1 := Lib.hid hk1
        obtain ⟨bs, hbs⟩ : ∃ b, b = A.s := ⟨_, rfl⟩
        rw [← hbs] at t8
        have HBS := Lib.hid hbs
        clear hk1 hbs
        cases bs with
        | true =>
          go_wp2_with fail
          refine (lout_any 15 n gn _ (crow_kept Q4.out.1 ((Fr.refl (fun k => k = gl) w4).setCell (p := ⟨gl, 7, none⟩) (fun _ => rfl) (.int .i64 n)) (by have := HGL.out; omega))).mono ?_
          rintro e wq ⟨rfl, rfl⟩
          dsimp only
          go_wp2_with fail
          go_meet
          case rel =>
            have hfr : Fr (fun k => k = gl) w4 (w4.setCell ⟨gl, 7, none⟩ (.int .i64 n)) := (Fr.refl (fun k => k = gl) w4).setCell (p := ⟨gl, 7, none⟩) (fun _ => rfl) _
            exact Lib.hid (ChI.of L4.out.1 (.inr L4.out.2) hfr F4.out HGL.out.1 (st1_w2 Q4.out.2 n) (fun h => ⟨h.e, h.v, h.c, h.a⟩) (ltT_w2 HA.out.2 n) ((chk_w2 HA.out.1 n).trans (if_pos (by rw [HK1.out, ← HBS.out]; rfl))))
        | false =>
          go_wp2_with fail
          go_meet
          case rel =>
            have hfr : Fr (fun k => k = gl) w4 (w4.setCell ⟨gl, 7, none⟩ (.int .i64 n)) := (Fr.refl (fun k => k = gl) w4).setCell (p := ⟨gl, 7, none⟩) (fun _ => rfl) _
            exact Lib.hid (ChI.of L4.out.1 (.inr L4.out.2) hfr F4.out HGL.out.1 (st1_w2 Q4.out.2 n) (fun h => ⟨h.e, h.v, h.c, h.a⟩) (ltT_w2 HA.out.2 n) ((chk_w2 HA.out.1 n).trans (if_neg (by rw [← HBS.out]; simp))))
      · have hb1 : (A.k == 1) = false := by simp [hk1]
        have HK1 := Lib.hid hk1
        clear hk1
        go_wp2_with fail
        go_meet
        case rel =>
          have hfr : Fr (fun k => k = gl) w4 (w4.setCell ⟨gl, 7, none⟩ (.int .i64 n)) := (Fr.refl (fun k => k = gl) w4).setCell (p := ⟨gl, 7, none⟩) (fun _ => rfl) _
          exact Lib.hid (ChI.of L4.out.1 (.inr L4.out.2) hfr F4.out HGL.out.1 (st1_w2 Q4.out.2 n) (fun h => ⟨h.e, h.v, h.c, h.a⟩) (ltT_w2 HA.out.2 n) ((chk_w2 HA.out.1 n).trans (if_neg (by simp [HK1.out]))))
    · have hkk : A.k = 7 ∨ ¬ A.k = 7 := Decidable.em _
      rcases hkk with hk1 | hk1
      · have hb1 : (A.k == 7) = true := by simp [hk1]
        have HK1 := Lib.hid hk1
        clear hk1
        go_wp2_with fail
        refine (lout_any 4294967295 n gn _ (crow_kept Q4.out.1 ((Fr.refl (fun k => k = gl) w4).setCell (p := ⟨gl, 15, none⟩) (fun _ => rfl) (.int .i64 n)) (by have := HGL.out; omega))).mono ?_
        rintro e wq ⟨rfl, rfl⟩
        dsimp only
        go_wp2_with fail
        go_meet
        case rel =>
          have hfr : Fr (fun k => k = gl) w4 (w4.setCell ⟨gl, 15, none⟩ (.int .i64 n)) := (Fr.refl (fun k => k = gl) w4).setCell (p := ⟨gl, 15, none⟩) (fun _ => rfl) _
          exact Lib.hid (ChI.of L4.out.1 (.inr L4.out.2) hfr F4.out HGL.out.1 (st_vn Q4.out.2 n) (fun h => ⟨h.e, h.v, h.c, h.a⟩) (ltT_vn HA.out.2 n) ((chk_vn HA.out.1 n).trans (if_pos HK1.out)))
      · have hb1 : (A.k == 7) = false := by simp [hk1]
        have HK1 := Lib.hid hk1
        clear hk1
        go_wp2_with fail
        go_meet
        case rel =>
          have hfr : Fr (fun k => k = gl) w4 (w4.setCell ⟨gl, 15, none⟩ (.int .i64 n)) := (Fr.refl (fun k => k = gl) w4).setCell (p := ⟨gl, 15, none⟩) (fun _ => rfl) _
          exact Lib.hid (ChI.of L4.out.1 (.inr L4.out.2) hfr F4.out HGL.out.1 (st_vn Q4.out.2 n) (fun h => ⟨h.e, h.v, h.c, h.a⟩) (ltT_vn HA.out.2 n) ((chk_vn HA.out.1 n).trans (if_neg HK1.out)))
  case rest =>
    obtain ⟨x, sx, rfl, hq, hl, ht, hf⟩ := hcut.out
    have Q5 := Lib.hid hq
    have L5 := Lib.hid hl
    have T5 := Lib.hid ht
    have F5 := Lib.hid hf
    clear hq hl ht hf hcut HGL Q4 F4 L4 HA
    go_wp2_with (refine load_lt rfl 51 (.tmp 7) rfl gl (x.cs sx) 51 (0, 0) rfl Q5.out _ Try.underlying51 rfl (by kernel_rfl) ?_)
    have hcc : x.chk = 0 ∨ ¬ x.chk = 0 := Decidable.em _
    rcases hcc with hc | hc
    · refine (lput_ok x sx wc L5.out T5.out.l T5.out.t hc).mono ?_
      rintro e w6 ⟨v6, rfl, ho6, f6, -⟩
      have Q6 := Lib.hid (crow_kept Q5.out f6 (fun h => h))
      have F6 := Lib.hid (F5.out.trans f6 (fun _ _ h => h))
      have L6 := Lib.hid (L5.out.fr f6)
      obtain ⟨a6, c6, e6, -⟩ := ho6.sees.shape
      subst e6
      have hlen : 0 < (ltB x).length := ltB_pos x
      obtain ⟨m, hm⟩ : ∃ m, m = (ltB x).length := ⟨_, rfl⟩
      rw [← hm] at hlen ⊢
      have hlen2 : (0 : Int) < (m : Int) := by omega
      have HC := Lib.hid hc
      clear ho6 f6 hm Q5 F5 L5
      rw [hc]
      clear hc
      dsimp only
      go_wp2_with (refine load_lt rfl 51 (.tmp 7) rfl gl (x.cs sx) 51 (0, 0) rfl Q6.out _ Try.underlying51 rfl (by kernel_rfl) ?_)
      refine (lcheck_any x sx w6 L6.out T5.out.l T5.out.t.k0).mono ?_
      rintro e w7 ⟨rfl, f7⟩
      rw [HC.out]
      have F7 := Lib.hid (F6.out.trans f7 (fun _ _ h => h))
      clear f7
      dsimp only
      go_wp2_with fail
      go_ret
      exact ⟨rfl, F7.out⟩
    · refine (lput_err x sx wc L5.out T5.out.l T5.out.t.k0 hc).mono ?_
      rintro e w6 ⟨rfl, f6⟩
      have Q6 := Lib.hid (crow_kept Q5.out f6 (fun h => h))
      have F6 := Lib.hid (F5.out.trans f6 (fun _ _ h => h))
      have L6 := Lib.hid (L5.out.fr f6)
      obtain ⟨c, hcc⟩ : ∃ c, c = x.chk := ⟨_, rfl⟩
      have HC := Lib.hid hcc
      rw [← hcc] at hc ⊢
      have hcb : (c == 0) = false := by simp [hc]
      clear f6 hcc hc Q5 F5 L5
      dsimp only
      go_wp2_with (refine load_lt rfl 51 (.tmp 7) rfl gl (x.cs sx) 51 (0, 0) rfl Q6.out _ Try.underlying51 rfl (by kernel_rfl) ?_)
      refine (lcheck_any x sx w6 L6.out T5.out.l T5.out.t.k0).mono ?_
      rintro e w7 ⟨rfl, f7⟩
      rw [← HC.out]
      have F7 := Lib.hid (F6.out.trans f7 (fun _ _ h => h))
      clear f7
      dsimp only
      go_wp2_with fail
      go_ret
      exact ⟨rfl, F7.out⟩
end
end Go.Proofs.Ytdkndahldcdbgaa
