/-
  What ParAny, ParChk, ParBack, ParOnce rests on, part 8: ParBytes, Arg, ParArg, ParAnyLaw, ParAnyArg.
-/
import Derived.Test.YtjegdbkkojaacaaS07
import Derived.Test.YtjegdbkkojaacaaS02
import Derived.ProofKit
import Derived.OpenShut
import Derived.Deep.Slices
import Derived.Test.YtjegdbkkojaacaaS04
import Derived.WideShapes
import Derived.Test.YtjegdbkkojaacaaS05
import Derived.BigRegion
set_option linter.unusedVariables false
set_option linter.unusedSimpArgs false
set_option maxHeartbeats 64000000
namespace Go.Proofs.Ytjegdbkkojaacaa
open Go.RowKit
open Go.Lib (hid)
section
set_option maxRecDepth 100000

theorem lbytes_any (x : Pc) (v : Value) (w : World) (hx : x.chk = 0) (ht : x.ty) (hs : Sees w v x.l) :
    Calls Try.prog 13 #[x.val v] w fun e w' => e = .returned (.string ⟨x.s.toArray⟩) ∧ Fr (fun _ => False) w w' := by
  obtain ⟨f, k, p, m, l⟩ := x
  obtain ⟨i0, hi, hz0, hz1, hz2⟩ := info_parts Try.infoU8
  obtain ⟨a, c, rfl, hn⟩ := hs.shape
  obtain ⟨⟨hf0, hf1⟩, ⟨hm0, hm1⟩, ⟨hp0, hp1⟩, hn48, _, _⟩ := pchk_ok hx
  obtain ⟨hk0, hk1⟩ := ht
  dsimp only at *
  have HS := Lib.hid hs
  clear hs hn hx
  have q0 := heap_alloc_new w (oPv f k p m (.slice a l.length c))
  have f0 : Fr (fun _ => False) w (w.alloc (oPv f k p m (.slice a l.length c))) := (Fr.refl _ _).alloc _
  go_enter Try.func13, Try.ntmps13
  go_upto_region 1 with fail
  generalize w.alloc (oPv f k p m (.slice a l.length c)) = w0 at *
  generalize w.heap.size = g at *
  have Q0 := Lib.hid q0
  have F0 := Lib.hid f0
  clear q0 f0
  refine wp_region_chain (by kernel_rfl) [some 4, some 5, some 6, some 7, some 8, some 9, some 10, some 3] rfl (by decide) (by intro d hd; simp at hd ⊢; omega)
    [2, 5, 6, 7] (fun cvs wx => (WA w0 (be2 f.toNat) (be4 k.toNat)) cvs wx)
    [.free (.pointer (some ⟨g, 0, none⟩)), .free (.int .i64 f), .link none, .free (.pointer (some ⟨g, 1, none⟩)), .free (.int .u32 k), .link none, .link none, .link none]
    (by kernel_rfl) (by kernel_rfl) ?hr1 ?stepr1 ?finr1
  case hr1 => exact (Fr.refl _ _).drew
  case stepr1 =>
    intro vals
    simp only [frOfU, fillU, List.setIfInBounds_toArray, List.set_cons_succ, List.set_cons_zero]
    repeat' (first | exact AllOps.nil | refine AllOps.cons ?_ ?_)
    all_goals
      intro cvs wx hS he hu hlim Kc hK
      simp only [Act.put, List.setIfInBounds_toArray, List.set_cons_succ, List.set_cons_zero, List.getD_cons_zero, List.getD_cons_succ] at hK
      simp only [List.mem_cons, List.not_mem_nil, or_false, forall_eq_or_imp, forall_eq, Region.binds, forall_const, qmode_gc, Bool.false_eq_true, false_imp_iff, List.getD_cons_zero, List.getD_cons_succ, OpSort.val, Option.some.injEq, forall_eq', reduceCtorEq, implies_true, true_and, and_true] at he
      have hfr := WA.fr hS
      obtain ⟨c0, c1, c2, c3, c4⟩ := par_cells (crow_kept Q0.out hfr (fun h => h))
      clear hfr
      have HSX := Lib.hid hS
      clear hS
    all_goals first | (clear hlim hu; (try simp only [he] at hK ⊢); go_simp; exact hK) | skip
    · obtain rfl := hlim (0 : Nat) rfl
      have H1 : Hid (Fr (fun _ => False) w0 wx) := Lib.hid HSX.out
      clear hlim hu HSX
      simp only [he] at hK ⊢
      go_simp
      go_at_call 29
      refine (refword_any f (by omega) (by omega) wx).mono ?_
      rintro er wa ⟨v', rfl, hm⟩
      exact hK _ _ (fun _ h => by cases h) (Made.base H1.out hm)
    · obtain rfl := hlim (1 : Nat) rfl
      have H1 : Hid (Made (vals 2) (be2 f.toNat) w0 wx) := Lib.hid HSX.out
      clear hlim hu HSX
      simp only [he] at hK ⊢
      go_simp
      go_at_call 30
      refine (reflong_any k (by omega) (by omega) wx).mono ?_
      rintro er wa ⟨v', rfl, hm⟩
      exact hK _ _ (fun _ h => by cases h) ⟨wx, H1.out, hm⟩
    · obtain rfl := hlim (2 : Nat) rfl
      obtain ⟨wm, h1, h2⟩ : ∃ wm, Made (vals 2) (be2 f.toNat) w0 wm ∧ Made (vals 5) (be4 k.toNat) wm wx := HSX.out
      clear hlim hu HSX
      try simp only [he] at hK ⊢
      rw [if_pos (by rfl)]
      refine opWp_made (.tmp 6) (.tmp 9) rfl (vals 2) rfl (vals 5) rfl (be2 f.toNat) (be4 k.toNat) h1 h2 (by simp [be2_length, be4_length]) ?_
      intro v' w' hm
      exact hK _ _ (fun _ h => by cases h) hm
    · obtain rfl := hlim (3 : Nat) rfl
      have H1 : Hid (Made (vals 6) (be2 f.toNat ++ be4 k.toNat) w0 wx) := Lib.hid HSX.out
      clear hlim hu HSX
      (try simp only [he] at hK ⊢)
      go_simp
      exact hK _ _ (fun _ h => by cases h) H1.out
  case finr1 =>
  intro vals w1 hS hV
  have v0 := hV 0 _ (by decide) rfl
  have v1 := hV 1 _ (by decide) rfl
  have v3 := hV 3 _ (by decide) rfl
  have v4 := hV 4 _ (by decide) rfl
  clear hV
  simp only [frOfU, fillU, List.setIfInBounds_toArray, List.set_cons_succ, List.set_cons_zero]
  simp only [Nat.reduceAdd, v0, v1, v3, v4]
  clear v0 v1 v3 v4
  have h1 : Made (vals 7) (be2 f.toNat ++ be4 k.toNat) w0 w1 := hS
  clear hS
  generalize vals 7 = u1 at *
  generalize vals 6 = y6 at *
  generalize vals 5 = y5 at *
  generalize vals 2 = y2 at *
  have M1 := Lib.hid h1
  have Q1 := Lib.hid (crow_kept Q0.out h1.2.1 (fun h => h))
  obtain ⟨L1, hL1⟩ : ∃ L, L = be2 f.toNat ++ be4 k.toNat := ⟨_, rfl⟩
  rw [← hL1] at M1
  have HL1 := Lib.hid hL1
  have HN1 : Hid (L1.length = 6) := Lib.hid (by rw [hL1]; rfl)
  clear h1 hL1
  go_upto_region 2 with fail
  refine wp_region_chain (by kernel_rfl) [some 11, some 12, some 13, some 14, some 15, some 16, some 17, some 18, some 19, some 3] rfl (by decide) (by intro d hd; simp at hd ⊢; omega)
    [3, 4, 7, 8, 9] (fun cvs wx => (WB w0 u1 L1 (be2 p.toNat) (be2 m.toNat)) cvs wx)
    [.free u1, .free (.pointer (some ⟨g, 2, none⟩)), .free (.int .i64 p), .link none, .link none, .free (.pointer (some ⟨g, 3, none⟩)), .free (.int .i64 m), .link none, .link none, .link none]
    (by kernel_rfl) (by kernel_rfl) ?hr2 ?stepr2 ?finr2
  case hr2 => exact (show Made u1 L1 w0 w1.drew from ⟨M1.out.1, M1.out.2.1.drew, M1.out.2.2⟩)
  case stepr2 =>
    intro vals
    simp only [frOfU, fillU, List.setIfInBounds_toArray, List.set_cons_succ, List.set_cons_zero]
    repeat' (first | exact AllOps.nil | refine AllOps.cons ?_ ?_)
    all_goals
      intro cvs wx hS he hu hlim Kc hK
      simp only [Act.put, List.setIfInBounds_toArray, List.set_cons_succ, List.set_cons_zero, List.getD_cons_zero, List.getD_cons_succ] at hK
      simp only [List.mem_cons, List.not_mem_nil, or_false, forall_eq_or_imp, forall_eq, Region.binds, forall_const, qmode_gc, Bool.false_eq_true, false_imp_iff, List.getD_cons_zero, List.getD_cons_succ, OpSort.val, Option.some.injEq, forall_eq', reduceCtorEq, implies_true, true_and, and_true] at he
      have hfr := WB.fr hS
      obtain ⟨c0, c1, c2, c3, c4⟩ := par_cells (crow_kept Q0.out hfr (fun h => h))
      clear hfr
      have HSX := Lib.hid hS
      clear hS
    all_goals first | (clear hlim hu; (try simp only [he] at hK ⊢); go_simp; exact hK) | skip
    · have h12 : vals 9 = u1 := hu 9 (by simp) (by kernel_rfl)
      clear hlim hu
      (try simp only [Nat.reduceAdd, Nat.zero_add] at hK)
      simp only [h12] at hK ⊢
      go_simp
      exact hK
    · obtain rfl := hlim (0 : Nat) rfl
      have H1 : Hid (Made u1 L1 w0 wx) := Lib.hid HSX.out
      clear hlim hu HSX
      simp only [he] at hK ⊢
      go_simp
      go_at_call 29
      refine (refword_any p (by omega) (by omega) wx).mono ?_
      rintro er wa ⟨v', rfl, hm⟩
      exact hK _ _ (fun _ h => by cases h) ⟨wx, H1.out, hm⟩
    · obtain rfl := hlim (1 : Nat) rfl
      obtain ⟨wm, h1, h2⟩ : ∃ wm, Made u1 L1 w0 wm ∧ Made (vals 3) (be2 p.toNat) wm wx := HSX.out
      clear hlim hu HSX
      try simp only [he] at hK ⊢
      rw [if_pos (by rfl)]
      refine opWp_made (.tmp 11) (.tmp 14) rfl u1 rfl (vals 3) rfl L1 (be2 p.toNat) h1 h2 (by rw [HN1.out, be2_length]; omega) ?_
      intro v' w' hm
      exact hK _ _ (fun _ h => by cases h) hm
    · obtain rfl := hlim (2 : Nat) rfl
      have H1 : Hid (Made (vals 4) (L1 ++ be2 p.toNat) w0 wx) := Lib.hid HSX.out
      clear hlim hu HSX
      simp only [he] at hK ⊢
      go_simp
      go_at_call 29
      refine (refword_any m (by omega) (by omega) wx).mono ?_
      rintro er wa ⟨v', rfl, hm⟩
      exact hK _ _ (fun _ h => by cases h) ⟨wx, H1.out, hm⟩
    · obtain rfl := hlim (3 : Nat) rfl
      obtain ⟨wm, h1, h2⟩ : ∃ wm, Made (vals 4) (L1 ++ be2 p.toNat) w0 wm ∧ Made (vals 7) (be2 m.toNat) wm wx := HSX.out
      clear hlim hu HSX
      try simp only [he] at hK ⊢
      rw [if_pos (by rfl)]
      refine opWp_made (.tmp 15) (.tmp 18) rfl (vals 4) rfl (vals 7) rfl (L1 ++ be2 p.toNat) (be2 m.toNat) h1 h2 (by rw [List.length_append, HN1.out, be2_length, be2_length]; omega) ?_
      intro v' w' hm
      exact hK _ _ (fun _ h => by cases h) hm
    · obtain rfl := hlim (4 : Nat) rfl
      have H1 : Hid (Made (vals 8) (L1 ++ be2 p.toNat ++ be2 m.toNat) w0 wx) := Lib.hid HSX.out
      clear hlim hu HSX
      (try simp only [he] at hK ⊢)
      go_simp
      exact hK _ _ (fun _ h => by cases h) H1.out
  case finr2 =>
  intro vals w2 hS hV
  have v0 := hV 0 _ (by decide) rfl
  have v1 := hV 1 _ (by decide) rfl
  have v2 := hV 2 _ (by decide) rfl
  have v5 := hV 5 _ (by decide) rfl
  have v6 := hV 6 _ (by decide) rfl
  clear hV
  simp only [frOfU, fillU, List.setIfInBounds_toArray, List.set_cons_succ, List.set_cons_zero]
  simp only [Nat.reduceAdd, v0, v1, v2, v5, v6]
  clear v0 v1 v2 v5 v6
  have h2 : Made (vals 9) (L1 ++ be2 p.toNat ++ be2 m.toNat) w0 w2 := hS
  clear hS
  generalize vals 9 = u2 at *
  generalize vals 8 = z8 at *
  generalize vals 7 = z7 at *
  generalize vals 4 = z4 at *
  generalize vals 3 = z3 at *
  have M2 := Lib.hid h2
  have Q2 := Lib.hid (crow_kept Q0.out h2.2.1 (fun h => h))
  obtain ⟨L2, hL2⟩ : ∃ L, L = L1 ++ be2 p.toNat ++ be2 m.toNat := ⟨_, rfl⟩
  rw [← hL2] at M2
  have HL2 := Lib.hid (show parB f k p m l = L2 ++ txt l by rw [hL2, HL1.out]; rfl)
  have HN2 : Hid (L2.length = 10) := Lib.hid (by rw [hL2, List.length_append, List.length_append, HN1.out]; rfl)
  clear h2 hL2 M1 Q1 HL1 HN1
  obtain ⟨c0, c1, c2, c3, c4⟩ := par_cells Q2.out
  have hcv : (convert 23 9 (.slice a l.length c)).run Try.prog w2 = .ok (.string ⟨l.toArray⟩) w2 := (HS.out.fr (F0.out.trans M2.out.2.1 (fun _ _ h => h)) (fun _ _ h => h)).string _ _ _ Try.underlying23 Try.underlying5 Try.underlying9
  go_wp2_with fail
  refine (reftext_any ⟨l.toArray⟩ (show l.length ≤ 65535 by omega) w2).mono ?_
  rintro e w3 ⟨y3, rfl, m3⟩
  have HT3 : Hid ((txt (⟨l.toArray⟩ : ByteArray).data.toList).length = 2 + l.length + l.length % 2) := Lib.hid (ptxt_length l)
  have M3 := Lib.hid m3
  have O3 := Lib.hid (M2.out.1.fr m3.2.1 (fun _ _ h => h))
  clear m3 c0 c1 c2 c3 c4 hcv
  dsimp only
  go_wp2_with (at_builtin; refine wpList_append_sep rfl (.tmp 20) (.tmp 24) 23 23 rfl 0 5 i0 (.int .u8 0) 1 1 Try.underlying23 _ Try.underlying23 (.inr ⟨_, rfl⟩) hi hz0 hz1 hz2 rfl (by decide) u2 L2.length (L2.map bv) rfl O3.out y3 (txt (⟨l.toArray⟩ : ByteArray).data.toList).length ((txt (⟨l.toArray⟩ : ByteArray).data.toList).map bv) rfl (fun w => M3.out.1.sees.lenOf w) (by rw [List.length_map, Nat.mul_one]) (M3.out.1.sees.first (P := Try.prog)) (M3.out.1.sees.drew.first (P := Try.prog)) (bv_one _) ?b1 ?b2 (Nat.zero_le _) ?grow)
  case b1 => have := HT3.out; have := HN2.out; unfold maxLen; omega
  case b2 => have := HT3.out; have := HN2.out; omega
  case grow =>
    intro u4 w4 hown hg hv
    have m4 : Made u4 (parB f k p m l) w0 w4 := by
      rw [HL2.out]
      exact Made.append M2.out M3.out.2.1 rfl hown hg hv
    have M4 := Lib.hid m4
    clear hown hg hv m4
    have HB : Hid ((parB f k p m l).length ≤ 300) := Lib.hid (by rw [parB_length]; omega)
    go_wp2_with fail
    refine (refsummed_any u4 _ w4 M4.out.1.sees HB.out).mono ?_
    rintro e w5 ⟨rfl, f5⟩
    have F5 := Lib.hid (F0.out.trans (M4.out.2.1.trans f5 (fun _ _ h => h)) (fun _ _ h => h))
    clear f5
    dsimp only
    go_wp2_with fail
    go_ret
    exact ⟨rfl, F5.out⟩
end
section
open Go.ChangeShapes Go.WideShapes Go.ChangeAt Go.RowKit

theorem spot_none {w : World} {a : Addr} {m : Nat} {cs : List Value} (h : w.cells? 0 a m = some cs) (hm : 0 < m) : a.spot = none := by
  obtain ⟨_, hl, h1⟩ := World.cells?_some h
  have h2 := h1 0 hm
  have e0 : a.add 0 = a := by simp [Addr.add]
  obtain ⟨v, hv⟩ : ∃ v, cs[0]? = some v := ⟨_, List.getElem?_eq_getElem (by omega)⟩
  rw [e0, hv] at h2
  have := addr_plain h2
  obtain ⟨b, o, s⟩ := a
  simp at this
  exact this

theorem cell_at {w : World} {b o : Nat} {m k : Nat} {cs : List Value} (h : w.cells? 0 ((⟨b, o, none⟩ : Addr).add k) m = some cs) (i : Nat) (v : Value) (hv : cs[i]? = some v) (hi : i < m) : w.cell? ⟨b, o + k + i, none⟩ = some v := by
  have h1 := (World.cells?_some h).2.2 i hi
  rw [hv] at h1
  have e : ((⟨b, o, none⟩ : Addr).add k).add i = ⟨b, o + k + i, none⟩ := by
    unfold Addr.add
    split <;> split <;> simp_all
  rw [e] at h1
  exact h1

section
variable {H : Type} (enc : TypeId × Value → H) (w : World)

/-- A slice of whatever: each element reads by a smaller fuel. -/
theorem slice_each {t e : TypeId} {fuel m : Nat} {cs : List Value} {x : DataW H × List MemPlace} (ht : Try.prog.underlying t = some (.slice e)) (hm : Try.prog.cellsOf e = m) (h0 : 0 < m) (h : DataW.trod enc Try.prog w 0 (fun _ => true) true fuel t cs = some x) :
    (∃ a, cs = [.slice a 0 0]) ∨ ∃ a len cap n, n < fuel ∧ cs = [.slice a len cap] ∧ len ≤ cap ∧ cap ≤ maxLen ∧ (len = 0 ∨ ∃ b o, a = some ⟨b, o, none⟩ ∧ ∀ i, i < len → ∃ cs' y, DataW.trod enc Try.prog w 0 (fun _ => true) true n e cs' = some y ∧
      ∀ j v, cs'[j]? = some v → j < m → w.cell? ⟨b, o + i * m + j, none⟩ = some v) := by
  rcases DataW.trod_slice ht h with ⟨rfl, _⟩ | ⟨a, len, cap, elems, rest, n, rfl, rfl, _, hb, hl, hc, hlen, hel, _, _⟩
  · exact .inl ⟨_, rfl⟩
  · refine .inr ⟨some a, len, cap, n, by omega, rfl, hl, hc, ?_⟩
    by_cases hz : len = 0
    · exact .inl hz
    right
    have each : ∀ i, i < len → ∃ cs' y, w.cells? 0 (a.add (i * m)) m = some cs' ∧ DataW.trod enc Try.prog w 0 (fun _ => true) true n e cs' = some y := by
      intro i hi
      have h1 := hel i hi
      rw [List.getElem?_eq_getElem (by omega), hm] at h1
      obtain ⟨cs', h2, h3⟩ := Option.bind_eq_some_iff.1 h1
      exact ⟨cs', _, h2, h3⟩
    obtain ⟨b, o, s⟩ := a
    obtain ⟨cs0, _, hc0, _⟩ := each 0 (by omega)
    have e0 : ((⟨b, o, s⟩ : Addr).add (0 * m)) = ⟨b, o, s⟩ := by simp [Addr.add]
    rw [e0] at hc0
    have hs := spot_none hc0 h0
    simp at hs
    subst hs
    refine ⟨b, o, rfl, fun i hi => ?_⟩
    obtain ⟨cs', y, h2, h3⟩ := each i hi
    exact ⟨cs', y, h3, fun j v hv hj => cell_at h2 j v hv hj⟩


theorem int_reads {fuel : Nat} {cs : List Value} {x : DataW H × List MemPlace} {t : TypeId} {k : IntKind} (ht : Try.prog.underlying t = some (.int k)) (h : DataW.trod enc Try.prog w 0 (fun _ => true) true fuel t cs = some x) : ∃ n : Int, (Lit.int k n).wf = true ∧ cs = [.int k n] := by
  obtain ⟨n, rfl, _, hw⟩ := DataW.trod_int ht h
  exact ⟨n, hw, rfl⟩

theorem bool_reads {fuel : Nat} {cs : List Value} {x : DataW H × List MemPlace} {t : TypeId} (ht : Try.prog.underlying t = some .bool) (h : DataW.trod enc Try.prog w 0 (fun _ => true) true fuel t cs = some x) : ∃ b : Bool, cs = [.bool b] := by
  obtain ⟨n, rfl, _⟩ := DataW.trod_bool ht h
  exact ⟨n, rfl⟩

end
end
section
open Go.ChangeShapes Go.WideShapes Go.ChangeAt Go.RowKit
set_option maxRecDepth 100000

theorem cellsOf_Sm : Try.prog.cellsOf 25 = 5 := by kernel_rfl
theorem cellsOf_u32 : Try.prog.cellsOf 22 = 1 := by kernel_rfl
theorem cellsOf_u8s : Try.prog.cellsOf 23 = 1 := by kernel_rfl
theorem cellsOf_u8 : Try.prog.cellsOf 5 = 1 := by kernel_rfl

def SmV (w : World) (s : Sm) (v : Value) : Prop := ∃ a c, v = smV s.f s.k s.p s.m (.slice a s.l.length c) ∧ Sees w (.slice a s.l.length c) s.l ∧ s.ok

section
variable {H : Type} (enc : TypeId × Value → H) (w : World)

theorem u8s_reads {fuel : Nat} {cs : List Value} {x : DataW H × List MemPlace} (h : DataW.trod enc Try.prog w 0 (fun _ => true) true fuel 23 cs = some x) : ∃ (l : List UInt8) (a : Option Addr) (c : Nat), cs = [.slice a l.length c] ∧ Sees w (.slice a l.length c) l := by
  rcases slice_each enc w Try.underlying23 cellsOf_u8 (by omega) h with ⟨a, rfl⟩ | ⟨a, len, cap, n', hn, rfl, hle, hc, rfl | ⟨b, o, rfl, each⟩⟩
  · exact ⟨[], a, 0, rfl, .inl ⟨rfl, _, _, rfl⟩⟩
  · exact ⟨[], a, cap, rfl, .inl ⟨rfl, _, _, rfl⟩⟩
  · have ch : ∀ i, ∃ n : Int, i < len → ((Lit.int .u8 n).wf = true) ∧ w.cell? ⟨b, o + i, none⟩ = some (.int .u8 n) := by
      intro i
      by_cases hi : i < len
      · obtain ⟨cs', y, h3, hcell⟩ := each i hi
        obtain ⟨n, hw, rfl⟩ := int_reads enc w Try.underlying5 h3
        refine ⟨n, fun _ => ⟨hw, ?_⟩⟩
        have := hcell 0 _ rfl (by omega)
        rwa [Nat.mul_one, Nat.add_zero] at this
      · exact ⟨0, fun h => absurd h hi⟩
    obtain ⟨of, hof⟩ := Classical.axiomOfChoice ch
    have hs : SeesL w (.slice (some ⟨b, o, none⟩) len cap) (((List.range len).map of).map (Value.int .u8)) := .inr ⟨b, o, cap, by simp, by simpa using hle, fun i t hi => by
      rw [List.getElem?_map, List.getElem?_map] at hi
      by_cases hlt : i < len
      · rw [List.getElem?_range hlt] at hi
        cases hi
        exact (hof i hlt).2
      · rw [List.getElem?_eq_none (by simp; omega)] at hi
        cases hi⟩
    have hw : ∀ n ∈ (List.range len).map of, (Lit.int .u8 n).wf = true := by
      intro n hn
      obtain ⟨i, hi, rfl⟩ := List.mem_map.1 hn
      exact (hof i (List.mem_range.1 hi)).1
    have := sees_u8 hs hw
    have hl : (((List.range len).map of).map fun n => UInt8.ofNat n.toNat).length = len := by simp
    exact ⟨_, some ⟨b, o, none⟩, cap, by rw [hl], by rw [hl]; exact this⟩

theorem sm_any {v : Value} {d : DataW H} {p : List MemPlace} {base : Nat} (hval : Value.okWide Try.prog w .any base 25 v)
    (h : DataW.Trod enc Try.prog w 0 (fun _ => true) true 25 v d p) : ∃ x, SmV w x v := by
  obtain ⟨cs, rfl, _⟩ := okWide_struct Try.underlying25 hval
  obtain ⟨fuel, hf⟩ := h
  obtain ⟨xs, n, rfl, _, hl, hlen, hf⟩ := DataW.trod_struct Try.underlying25 hf
  rw [cellsOf_Sm] at hl
  have hcs : (Value.agg cs).cells.toList = cs.toList := rfl
  rw [hcs] at hl hf
  obtain ⟨cs⟩ := cs
  match cs, hl with
  | [c0, c1, c2, c3, c4], _ =>
  have f0 : DataW.trod enc Try.prog w 0 (fun _ => true) true n 5 (List.take (Try.prog.cellsOf 5) (List.drop 0 [c0, c1, c2, c3, c4])) = xs[0]? := hf 0 _ rfl
  have f1 : DataW.trod enc Try.prog w 0 (fun _ => true) true n 22 (List.take (Try.prog.cellsOf 22) (List.drop 1 [c0, c1, c2, c3, c4])) = xs[1]? := hf 1 _ rfl
  have f2 : DataW.trod enc Try.prog w 0 (fun _ => true) true n 5 (List.take (Try.prog.cellsOf 5) (List.drop 2 [c0, c1, c2, c3, c4])) = xs[2]? := hf 2 _ rfl
  have f3 : DataW.trod enc Try.prog w 0 (fun _ => true) true n 5 (List.take (Try.prog.cellsOf 5) (List.drop 3 [c0, c1, c2, c3, c4])) = xs[3]? := hf 3 _ rfl
  have f4 : DataW.trod enc Try.prog w 0 (fun _ => true) true n 23 (List.take (Try.prog.cellsOf 23) (List.drop 4 [c0, c1, c2, c3, c4])) = xs[4]? := hf 4 _ rfl
  have hl5 : xs.length = 5 := hlen
  rw [List.getElem?_eq_getElem (by omega)] at f0 f1 f2 f3 f4
  simp only [cellsOf_u8, cellsOf_u32, cellsOf_u8s, List.drop_zero, List.drop_succ_cons, List.take_succ_cons, List.take_zero] at f0 f1 f2 f3 f4
  obtain ⟨k0, h0, e0⟩ := int_reads enc w Try.underlying5 f0
  obtain ⟨k1, h1, e1⟩ := int_reads enc w Try.underlying22 f1
  obtain ⟨k2, h2, e2⟩ := int_reads enc w Try.underlying5 f2
  obtain ⟨k3, h3, e3⟩ := int_reads enc w Try.underlying5 f3
  obtain ⟨l, a, c, e4, hs⟩ := u8s_reads enc w f4
  simp at e0 e1 e2 e3 e4
  subst e0 e1 e2 e3 e4
  have b0 := bounds_u8 h0
  have b1 := bounds_u32 h1
  have b2 := bounds_u8 h2
  have b3 := bounds_u8 h3
  exact ⟨⟨k0, k1, k2, k3, l⟩, a, c, rfl, hs, ⟨b0.1, b0.2, b1.1, b1.2, b2.1, b2.2, b3.1, b3.2⟩⟩
end
end
section
set_option maxRecDepth 100000

/-- The region of the four slices: what each operation gives. -/
def AnyV (bv xv gv gs : Value) (b1 x1 g1 : List UInt8) (S1 S2 : ByteArray) (at_ j n : Int) : List (Value → World → Prop) :=
  [fun v _ => v = bv, fun v _ => v = bv, fun v _ => v = .string S1, fun v wx => Sees wx v b1, fun v _ => v = xv, fun v _ => v = .string S2, fun v wx => Sees wx v x1,
   fun v _ => v = gv, fun v _ => v = .int .u16 at_, fun v _ => v = .int .i64 at_, fun v _ => v = gv, fun v _ => v = .int .i64 n, fun v _ => v = .int .i64 j, fun v _ => v = gs,
   fun v wx => ∃ g v1 v2, v = .slice (some ⟨g, 0, none⟩) 4 4 ∧ wx.heap[g]? = some (.cells #[bv, v1, v2, gs] 23 (0, 0)) ∧ Sees wx v1 b1 ∧ Sees wx v2 x1,
   fun v _ => v = .int .i64 4, fun v _ => v = .int .i64 0]

theorem AnyV_fr {bv xv gv gs : Value} {b1 x1 g1 : List UInt8} {S1 S2 : ByteArray} {at_ j n : Int} : ∀ (i : Nat) (u : Value) (wx wa : World), Fr (fun _ => False) wx wa → (AnyV bv xv gv gs b1 x1 g1 S1 S2 at_ j n).getD i (fun _ _ => True) u wx → (AnyV bv xv gv gs b1 x1 g1 S1 S2 at_ j n).getD i (fun _ _ => True) u wa := by
  intro i u wx wa fr
  match i with
  | 0 => exact id
  | 1 => exact id
  | 2 => exact id
  | 3 => exact fun h => h.fr fr (fun _ _ h => h)
  | 4 => exact id
  | 5 => exact id
  | 6 => exact fun h => h.fr fr (fun _ _ h => h)
  | 7 => exact id
  | 8 => exact id
  | 9 => exact id
  | 10 => exact id
  | 11 => exact id
  | 12 => exact id
  | 13 => exact id
  | 14 => rintro ⟨g, v1, v2, e, h1, h2, h3⟩; exact ⟨g, v1, v2, e, crow_kept h1 fr (fun h => h), h2.fr fr (fun _ _ h => h), h3.fr fr (fun _ _ h => h)⟩
  | 15 => exact id
  | 16 => exact id
  | n + 17 => exact fun _ => trivial

theorem pany_law (vb : Value) (bl : List UInt8) (s : Sm) (a : Option Addr) (c : Nat) (at_ by_ : Int) (w : World) (hb : Sees w vb bl) (hok : s.ok) (hs : Sees w (.slice a s.l.length c) s.l) (h0 : 0 ≤ at_) (h1 : at_ ≤ 65535) (m0 : 0 ≤ by_) (m1 : by_ ≤ 255) :
    Calls Try.prog 4 #[vb, smV s.f s.k s.p s.m (.slice a s.l.length c), .int .u16 at_, .int .u8 by_] w fun e w' => e = .returned (.bool true) ∧ Fr (fun _ => False) w w' := by
  obtain ⟨ba, bc, rfl, _⟩ := hb.shape
  have q0 := heap_alloc_new w (oSm s.f s.k s.p s.m (.slice a s.l.length c))
  have f0 : Fr (fun _ => False) w (w.alloc (oSm s.f s.k s.p s.m (.slice a s.l.length c))) := (Fr.refl _ _).alloc _
  have HOK := Lib.hid hok
  have HS := Lib.hid hs
  have HBB := Lib.hid hb
  clear hs hok hb
  go_enter Try.func4, Try.ntmps4
  go_upto_region 1 with fail
  generalize w.alloc (oSm s.f s.k s.p s.m (.slice a s.l.length c)) = w0 at *
  generalize w.heap.size = g3 at *
  have Q0 := Lib.hid q0
  have F0 := Lib.hid f0
  clear q0 f0
  go_wp2_with fail
  refine (pawake_any w0).mono ?_
  rintro e w1 ⟨rfl, f1⟩
  have Q1 := Lib.hid (crow_kept Q0.out f1 (fun h => h))
  have F1 := Lib.hid (F0.out.trans f1 (fun _ _ h => h))
  clear f1 Q0 F0
  obtain ⟨c0, c1, c2, c3, c4⟩ := par_cells Q1.out
  dsimp only
  by_cases hbl : bl.length ≤ 100
  case neg =>
    have hbl' : (100 : Int) < (bl.length : Int) := by omega
    clear hbl
    go_wp2_with fail
    go_ret
    exact ⟨rfl, F1.out⟩
  have hbl' : ¬ (100 : Int) < (bl.length : Int) := by omega
  by_cases hl : s.l.length ≤ 100
  case neg =>
    have hl' : (100 : Int) < (s.l.length : Int) := by omega
    clear hl hbl
    go_wp2_with fail
    go_ret
    exact ⟨rfl, F1.out⟩
  have hl' : ¬ (100 : Int) < (s.l.length : Int) := by omega
  have HL := Lib.hid (And.intro hl hbl)
  clear hl hbl
  go_wp2_with fail
  refine (small_any s a c w1 HOK.out (HS.out.fr F1.out (fun _ _ h => h)) HL.out.1).mono ?_
  rintro e w2 ⟨v2, rfl, hm2⟩
  obtain ⟨x, hx⟩ : ∃ x, x = s.pc := ⟨_, rfl⟩
  have hgood := Sm.good HOK.out
  rw [← hx] at hm2 hgood ⊢
  have GOOD := Lib.hid hgood
  have HLN : Hid (x.l.length ≤ 48) := Lib.hid (pchk_ok hgood.1).2.2.2.1
  have S2 := Lib.hid hm2.1.sees
  have F2 := Lib.hid (F1.out.trans hm2.2.1 (fun _ _ h => h))
  obtain ⟨a2, c2', hv2, _⟩ := hm2.1.sees.shape
  subst hv2
  clear hm2 hgood hx hl' hbl' c0 c1 c2 c3 c4 Q1 F1
  dsimp only
  go_wp2_with fail
  refine (lbytes_any x _ w2 GOOD.out.1 GOOD.out.2 S2.out).mono ?_
  rintro e w3 ⟨rfl, f3⟩
  have F3 := Lib.hid (F2.out.trans f3 (fun _ _ h => h))
  clear f3 F2 S2
  obtain ⟨cap, w4, hcv, f4, hs4, hn4⟩ := pconv w3 ⟨x.s.toArray⟩
  obtain ⟨L, hLd⟩ : ∃ L, L = x.s := ⟨_, rfl⟩
  obtain ⟨h, hh⟩ : ∃ h, h = x.b.length := ⟨_, rfl⟩
  have hLl : L.length = h + 4 := by rw [hLd, hh]; exact summed_length _
  have hhb : 12 ≤ h ∧ h ≤ 61 := by rw [hh]; show 12 ≤ (parB x.f x.k x.p x.m x.l).length ∧ (parB x.f x.k x.p x.m x.l).length ≤ 61; rw [parB_length]; have := HLN.out; omega
  have hsz : (⟨x.s.toArray⟩ : ByteArray).size = h + 4 := by rw [← hLl, hLd]; rfl
  rw [hsz] at hcv hs4
  rw [show (⟨x.s.toArray⟩ : ByteArray).data.toList = x.s from rfl, ← hLd] at hs4
  have HLD := Lib.hid hLd
  have HLL := Lib.hid hLl
  have S4 := Lib.hid hs4
  have F4 := Lib.hid (F3.out.trans f4 (fun _ _ h => h))
  have hcap : h + 4 ≤ cap := by
    rcases hs4.cap.2 with e | e <;> omega
  obtain ⟨gg, hgg⟩ : ∃ g, g = w3.heap.size := ⟨_, rfl⟩
  rw [← hgg] at hcv S4
  have HG4 : Hid (w.heap.size ≤ gg ∧ gg < w4.heap.size) := Lib.hid ⟨by have := F3.out.size; omega, by omega⟩
  clear hs4 f4 hn4 hLl hLd hh hsz hgg
  go_upto_region 6 with fail
  clear hcv
  obtain ⟨i0, hi, hz0, hz1, hz2⟩ := info_parts Try.infoU8
  have hcl : h ≤ cap := by omega
  have hch : ¬ cap = h := by omega
  have fe : Fr (fun _ => False) w4 (w4.alloc (.cells #[] 5 (0, 0))) := (Fr.refl _ _).alloc _
  have SA := Lib.hid (sees_take (S4.out.fr fe (fun _ _ h => h)) h (by rw [HLL.out]; omega))
  have hlt : (L.take h).length = h := by rw [List.length_take, HLL.out]; omega
  have HLT := Lib.hid hlt
  clear hlt
  go_wp2_with (at_builtin; refine wpList_append_sep rfl (.tmp 32) (.tmp 37) 23 23 rfl 0 5 i0 (.int .u8 0) 1 1 Try.underlying23 _ Try.underlying23 (.inr ⟨_, rfl⟩) hi hz0 hz1 hz2 rfl (by decide) (.slice (some ⟨w4.heap.size, 0, none⟩) 0 0) 0 [] rfl (World.ownsRow_made w4 #[] 0 (Nat.zero_le _) (by unfold maxLen; omega) rfl) _ h ((L.take h).map bv) rfl (lenOf_slice _ _ _) (by rw [List.length_map, HLT.out, Nat.mul_one]) (by have := SA.out.first (P := Try.prog); rw [HLT.out] at this; exact this) (by have := SA.out.drew.first (P := Try.prog); rw [HLT.out] at this; exact this) (bv_one _) ?b1 ?b2 (Nat.zero_le _) ?grow)
  case b1 => unfold maxLen; omega
  case b2 => omega
  case grow =>
    intro v' w5 hown hgr hv
    have own5 : Own w5 v' (L.take h) := by
      unfold Own
      rw [HLT.out]
      simpa using hown
    have f5 : Fr (fun _ => False) w4 w5 := fe.trans (Fr.of_grown hgr) (fun i hi e => by simp [Value.ownBlock] at e; omega)
    obtain ⟨ax, cx, hvx⟩ := slice_of_own own5
    rw [HLT.out] at hvx
    subst hvx
    obtain ⟨gx, rfl⟩ : ∃ g, ax = some ⟨g, 0, none⟩ := by
      rcases own5.2 with ⟨e, _⟩ | ⟨g, cap, cur, e, _⟩
      · simp at e; omega
      · simp at e; exact ⟨g, e.1⟩
    have hgx : w4.heap.size ≤ gx := by
      rcases hv with e | e <;> (simp [Value.ownBlock] at e; omega)
    have HGX : Hid (w.heap.size ≤ gx ∧ gg ≠ gx) := Lib.hid (by have := F4.out.size; have := HG4.out; omega)
    have O5 := Lib.hid own5
    have F5 := Lib.hid (F4.out.trans f5 (fun _ _ h => h))
    have S5 := Lib.hid (S4.out.fr f5 (fun _ _ h => h))
    clear hown hgr hv own5 f5 hgx fe SA
    obtain ⟨B, hB⟩ : ∃ B : UInt8, (B.toNat : Int) = by_ := ⟨UInt8.ofNat by_.toNat, by simp; omega⟩
    subst hB
    obtain ⟨q, hq, hqh⟩ : ∃ q : Nat, at_.tmod (h : Int) = q ∧ q < h := by
      rw [Int.tmod_eq_emod_of_nonneg h0]
      refine ⟨(at_ % (h : Int)).toNat, ?_, ?_⟩
      · rw [Int.toNat_of_nonneg (Int.emod_nonneg _ (by omega))]
      · have := Int.emod_lt_of_pos at_ (show 0 < (h : Int) by omega)
        have := Int.emod_nonneg at_ (show (h : Int) ≠ 0 by omega)
        omega
    have hq' : at_ % (h : Int) = q := by rw [← Int.tmod_eq_emod_of_nonneg h0]; exact hq
    have hh0 : ((h : Int) == 0) = false := by simp; omega
    have hqz : (q : Int) < (h : Int) := by omega
    have hcq := own_at O5.out q (by rw [HLT.out]; exact hqh)
    have hzq := own_frozen O5.out q
    rw [Nat.zero_add] at hcq
    have hSt := own_set O5.out q ((L.take h).getD q 0 ^^^ B)
    obtain ⟨d, hd⟩ : ∃ d, d = (L.take h).getD q 0 := ⟨_, rfl⟩
    rw [← hd] at hcq hSt
    obtain ⟨X, hX⟩ : ∃ X, X = (L.take h).set q (d ^^^ B) := ⟨_, rfl⟩
    rw [← hX] at hSt
    have hXl : X.length = h := by rw [hX, List.length_set, HLT.out]
    have hxx : Value.int .u8 (bits .xor .u8 (d.toNat : Int) (B.toNat : Int)) = bv (d ^^^ B) := by
      rw [xor_u8 _ _ (UInt8.toNat_lt _) (UInt8.toNat_lt _)]; unfold bv; rw [UInt8.toNat_xor]
    unfold bv at hcq
    have HXX := Lib.hid hxx
    have HST := Lib.hid hSt
    have HXL := Lib.hid hXl
    clear hxx hSt hXl hX hd
    go_upto_region 8 with fail
    rw [HXX.out]
    clear hq hq' hqz hcq hzq hh0
    have f6 : Fr (fun k => k = gx) w5 (w5.setCell ⟨gx, q, none⟩ (bv (d ^^^ B))) := (Fr.refl (fun k => k = gx) w5).setCell (p := ⟨gx, q, none⟩) (fun _ => rfl) _
    have S6 := Lib.hid (S5.out.fr f6 (fun k hk e => by simp [Value.ownBlock] at hk; have := HGX.out; omega))
    have F6 : Hid (Fr (fun _ => False) w (w5.setCell ⟨gx, q, none⟩ (bv (d ^^^ B)))) := Lib.hid (F5.out.trans f6 (fun i hi e => by have := HGX.out; omega))
    generalize w5.setCell ⟨gx, q, none⟩ (bv (d ^^^ B)) = w6 at *
    clear f6 S5 F5 O5 HXX
    have SB6 := Lib.hid (HBB.out.fr F6.out (fun _ _ h => h))
    obtain ⟨j, hj, hjn⟩ : ∃ j : Nat, at_.tmod ((h : Int) + 4) = j ∧ j < h + 4 := by
      rw [Int.tmod_eq_emod_of_nonneg h0]
      refine ⟨(at_ % ((h : Int) + 4)).toNat, ?_, ?_⟩
      · rw [Int.toNat_of_nonneg (Int.emod_nonneg _ (by omega))]
      · have := Int.emod_lt_of_pos at_ (show 0 < (h : Int) + 4 by omega)
        have := Int.emod_nonneg at_ (show (h : Int) + 4 ≠ 0 by omega)
        omega
    have hj' : at_ % ((h : Int) + 4) = j := by rw [← Int.tmod_eq_emod_of_nonneg h0]; exact hj
    have hjz : (j : Int) ≤ (cap : Int) := by omega
    have hjc : j ≤ cap := by omega
    have hh40 : ((h : Int) + 4 == 0) = false := by simp; omega
    have HLZ : Hid (X.length ≤ 300 ∧ bl.length ≤ 300 ∧ L.length ≤ 300) := Lib.hid ⟨by rw [HXL.out]; omega, by have := HL.out.2; omega, by rw [HLL.out]; omega⟩
    obtain ⟨S1, hS1⟩ : ∃ S : ByteArray, S = ⟨(Crc.summed bl).toArray⟩ := ⟨_, rfl⟩
    obtain ⟨S2x, hS2⟩ : ∃ S : ByteArray, S = ⟨(Crc.summed X).toArray⟩ := ⟨_, rfl⟩
    have HSS := Lib.hid (And.intro hS1 hS2)
    have HJN : Hid (j ≤ L.length) := Lib.hid (by rw [HLL.out]; omega)
    have HJ0 := Lib.hid hjn
    clear hS1 hS2 hjn
    have hwat : IntKind.i64.wrap at_ = at_ := IntWalk.i64_in _ (by omega)
    have HWAT := Lib.hid hwat
    clear hwat
    refine wp_region_told (by kernel_rfl) (fun a b => Fr (fun _ => False) a b) (fun w => Fr.refl _ w) (fun _ _ _ h k => h.trans k (fun _ _ h => h)) [50, 51, 52, 53, 54, 55, 56, 57, 58, 59, 60, 61, 62, 63, 64, 65, 66] rfl (by decide) (by intro d hd; simp at hd ⊢; omega)
      (fun i v wx => (AnyV (.slice ba bl.length bc) (.slice (some ⟨gx, 0, none⟩) h cx) (.slice (some ⟨gg, 0, none⟩) (h + 4) cap) (.slice (some ⟨gg, 0, none⟩) j cap) (Crc.summed bl) (Crc.summed X) (L.take j) S1 S2x at_ (j : Int) ((h : Int) + 4)).getD i (fun _ _ => True) v wx)
      (fun i v wx wa fr h => AnyV_fr i v wx wa fr h) (by kernel_rfl) ?stepr8 ?finr8
    case stepr8 =>
      intro vals
      simp only [frOf, fill, List.setIfInBounds_toArray, List.set_cons_succ, List.set_cons_zero]
      repeat' (first | exact AllOps.nil | refine AllOps.cons ?_ ?_)
      all_goals
        intro wx hle he K' hK
        simp only [Act.put, AnyV, List.setIfInBounds_toArray, List.set_cons_succ, List.set_cons_zero, List.getD_cons_zero, List.getD_cons_succ] at hK
        simp only [List.mem_cons, List.not_mem_nil, or_false, forall_eq_or_imp, forall_eq, Region.binds, forall_const, false_imp_iff, AnyV, List.getD_cons_zero, List.getD_cons_succ] at he
        have hl5 := Fr.trans (Fr.drew (Fr.refl (fun _ => False) w6)) hle (fun _ _ h => h)
        have hl8 := Lib.hid hl5
        have hwat := HWAT.out
        clear hl5 hle
      all_goals first
        | (simp only [he] at hK ⊢; clear he; go_simp; exact hK _ _ (Fr.refl _ _) rfl)
        | (clear he; go_simp; exact hK _ _ (Fr.refl _ _) rfl)
        | skip
      · simp only [he] at hK ⊢
        clear he
        go_simp
        go_at_call 15
        refine (refsummed_any _ bl wx (SB6.out.fr hl8.out (fun _ _ h => h)) HLZ.out.2.1).mono ?_
        rintro er wa ⟨rfl, fa⟩
        rw [← HSS.out.1]
        exact hK _ _ fa rfl
      · obtain ⟨cap1, wa, hcv, fa, hsa, _⟩ := pconv wx S1
        simp only [he] at hK ⊢
        clear he
        go_simp
        refine hK _ _ fa ?_
        rw [HSS.out.1] at hsa ⊢
        exact hsa
      · simp only [he] at hK ⊢
        clear he
        go_simp
        go_at_call 15
        refine (refsummed_any _ X wx (by have := (HST.out.fr hl8.out (fun _ _ h => h)).sees; exact this) HLZ.out.1).mono ?_
        rintro er wa ⟨rfl, fa⟩
        rw [← HSS.out.2]
        exact hK _ _ fa rfl
      · obtain ⟨cap1, wa, hcv, fa, hsa, _⟩ := pconv wx S2x
        simp only [he] at hK ⊢
        clear he
        go_simp
        refine hK _ _ fa ?_
        rw [HSS.out.2] at hsa ⊢
        exact hsa
      · obtain ⟨h0', h3, h6, h13⟩ := he
        obtain ⟨a3, c3, e3, _⟩ := h3.shape
        obtain ⟨a6, c6, e6, _⟩ := h6.shape
        rw [e3] at h3
        rw [e6] at h6
        simp only [h0', e3, e6, h13] at hK ⊢
        have HE := Lib.hid (And.intro h3 h6)
        clear h0' e3 e6 h13 h3 h6
        go_simp
        have fa : Fr (fun _ => False) wx (wx.alloc (.cells #[.slice ba bl.length bc, .slice a3 (Crc.summed bl).length c3, .slice a6 (Crc.summed X).length c6, .slice (some ⟨gg, 0, none⟩) j cap] 23 (0, 0))) := (Fr.refl _ _).alloc _
        exact hK _ _ fa ⟨_, _, _, rfl, heap_alloc_new wx _, HE.out.1.fr fa (fun _ _ h => h), HE.out.2.fr fa (fun _ _ h => h)⟩
      · obtain ⟨g, v1, v2, e14, _⟩ := he
        simp only [e14] at hK ⊢
        clear e14
        go_simp
        exact hK _ _ (Fr.refl _ _) rfl
    case finr8 =>
      intro vals w7 hle hV
      obtain ⟨g7, z1, z2, h14, hg7, hs1, hs2⟩ : ∃ g v1 v2, vals 14 = .slice (some ⟨g, 0, none⟩) 4 4 ∧ w7.heap[g]? = some (.cells #[.slice ba bl.length bc, v1, v2, .slice (some ⟨gg, 0, none⟩) j cap] 23 (0, 0)) ∧ Sees w7 v1 (Crc.summed bl) ∧ Sees w7 v2 (Crc.summed X) := hV 14 (by decide)
      have h15 : vals 15 = .int .i64 4 := hV 15 (by decide)
      have h16 : vals 16 = .int .i64 0 := hV 16 (by decide)
      clear hV
      have hfr := Fr.trans (Fr.drew (Fr.refl (fun _ => False) w6)) hle (fun _ _ h => h)
      simp only [frOf, fill, List.setIfInBounds_toArray, List.set_cons_succ, List.set_cons_zero, Nat.reduceAdd]
      simp only [h14, h15, h16]
      clear h14 h15 h16
      generalize vals 0 = y0
      generalize vals 1 = y1
      generalize vals 2 = y2
      generalize vals 3 = y3
      generalize vals 4 = y4
      generalize vals 5 = y5
      generalize vals 6 = y6
      generalize vals 7 = y7
      generalize vals 8 = y8
      generalize vals 9 = y9
      generalize vals 10 = y10
      generalize vals 11 = y11
      generalize vals 12 = y12
      generalize vals 13 = y13
      have H7 := Lib.hid (And.intro hg7 (And.intro hs1 hs2))
      have F7 := Lib.hid (F6.out.trans hfr (fun _ _ h => h))
      have SB7 := Lib.hid (SB6.out.fr hfr (fun _ _ h => h))
      have SG7 : Hid (Sees w7 (.slice (some ⟨gg, 0, none⟩) j cap) (L.take j)) := Lib.hid (sees_take (S6.out.fr hfr (fun _ _ h => h)) j HJN.out)
      clear hg7 hs1 hs2 hle hfr SB6 S6 F6 HST hj hj' hjz hjc hh40
      go_wp2_with fail
      go_loopg [66] 4 (fun gh u66 wr => ∃ k : Nat, k ≤ 4 ∧ gh = 4 - k ∧ u66 = .int .i64 k ∧ Hid (Fr (fun _ => False) w7 wr))
      case atStart => exact ⟨0, Nat.zero_le _, rfl, rfl, Lib.hid (Fr.refl _ _)⟩
      case round =>
        obtain ⟨k, hk, rfl, rfl, HW⟩ := hrel
        by_cases hlt : k < 4
        case neg =>
          obtain rfl : k = 4 := by omega
          go_wp2_with fail
          go_ret
          exact ⟨rfl, F7.out.trans HW.out (fun _ _ h => h)⟩
        have hltz : (k : Int) < 4 := by omega
        obtain ⟨Y, ay, cy, hcell, hys, hyl⟩ : ∃ (Y : List UInt8) (ay : Option Addr) (cy : Nat), wr.cell? ⟨g7, k, none⟩ = some (.slice ay Y.length cy) ∧ Sees wr (.slice ay Y.length cy) Y ∧ Y.length ≤ 400 := by
          have hrow := crow_kept H7.out.1 HW.out (fun h => h)
          have key : ∀ (i : Nat) (v : Value) (Y : List UInt8), wr.cell? ⟨g7, i, none⟩ = some v → Sees w7 v Y → Y.length ≤ 400 → ∃ (Y : List UInt8) (ay : Option Addr) (cy : Nat), wr.cell? ⟨g7, i, none⟩ = some (.slice ay Y.length cy) ∧ Sees wr (.slice ay Y.length cy) Y ∧ Y.length ≤ 400 := by
            intro i v Y hc hs hl
            have hs' := hs.fr HW.out (fun _ _ h => h)
            obtain ⟨ay, cy, rfl, _⟩ := hs'.shape
            exact ⟨Y, ay, cy, hc, hs', hl⟩
          have hsl : ∀ l : List UInt8, (Crc.summed l).length = l.length + 4 := summed_length
          rcases (show k = 0 ∨ k = 1 ∨ k = 2 ∨ k = 3 by omega) with rfl | rfl | rfl | rfl
          · exact key 0 _ bl (by rw [cell_of_row wr g7 0 _ _ _ hrow]; rfl) SB7.out (by have := HLZ.out; omega)
          · exact key 1 _ _ (by rw [cell_of_row wr g7 1 _ _ _ hrow]; rfl) H7.out.2.1 (by rw [hsl]; have := HLZ.out; omega)
          · exact key 2 _ _ (by rw [cell_of_row wr g7 2 _ _ _ hrow]; rfl) H7.out.2.2 (by rw [hsl]; have := HLZ.out; omega)
          · exact key 3 _ _ (by rw [cell_of_row wr g7 3 _ _ _ hrow]; rfl) SG7.out (by rw [List.length_take]; have := HLZ.out; omega)
        have HY := Lib.hid (And.intro hys hyl)
        clear hys hyl
        go_wp2_with fail
        refine (ptake_any _ Y wr HY.out.1 (by have := HY.out.2; omega)).mono ?_
        rintro e w8 ⟨u8, rfl, hm8⟩
        obtain ⟨R, hR⟩ : ∃ R, R = takeP Y := ⟨_, rfl⟩
        have htwo := takeP_two Y
        rw [← hR] at hm8 htwo ⊢
        clear hR hcell
        obtain ⟨⟨xf, xk, xp, xm, xl⟩, E⟩ := R
        dsimp only at hm8 htwo ⊢
        obtain ⟨s8, f8, n8⟩ := hm8
        dsimp only at s8
        obtain ⟨a8, c8, rfl, _⟩ := s8.shape
        have F8 := Lib.hid (HW.out.trans f8 (fun _ _ h => h))
        have SY8 := Lib.hid (HY.out.1.fr f8 (fun _ _ h => h))
        have S8 := Lib.hid s8
        clear s8 f8 n8 HW
        have HT := Lib.hid htwo
        clear htwo
        go_upto_region 12 with fail
        have q9 := heap_alloc_new w8 (oPv xf xk xp xm (.slice a8 xl.length c8))
        have f9 : Fr (fun _ => False) w8 (w8.alloc (oPv xf xk xp xm (.slice a8 xl.length c8))) := (Fr.refl _ _).alloc _
        generalize w8.alloc (oPv xf xk xp xm (.slice a8 xl.length c8)) = w9 at *
        generalize w8.heap.size = g13 at *
        have Q9 := Lib.hid q9
        have F9 := Lib.hid (F8.out.trans f9 (fun _ _ h => h))
        have SY9 := Lib.hid (SY8.out.fr f9 (fun _ _ h => h))
        have S9 := Lib.hid (S8.out.fr f9 (fun _ _ h => h))
        clear q9 f9 F8 SY8 S8
        obtain ⟨d0, d1, d2, d3, d4⟩ := par_cells Q9.out
        by_cases h0 : E = 0
        case neg =>
          have hE : (E != 0) = true := by simpa using h0
          have hz : (⟨xf, xk, xp, xm, xl⟩ : Pc) = Pc.zero := by
            rcases HT.out with ⟨e, _⟩ | ⟨_, e⟩
            · exact absurd e h0
            · exact e
          clear h0
          cases hz
          go_wp2_with fail
          refine (psame_any Pc.zero _ nilS w9 S9.out (.inl ⟨rfl, _, _, rfl⟩)).mono ?_
          rintro e w10 ⟨rfl, f10⟩
          have F10 := Lib.hid (F9.out.trans f10 (fun _ _ h => h))
          clear f10 d0 d1 d2 d3 d4
          dsimp only
          go_wp2_with fail
          go_roundg (4 - (k + 1))
          case measure => omega
          case rel => exact ⟨k + 1, by omega, rfl, by congr 1, F10⟩
        subst h0
        obtain ⟨hck, hty, hsb⟩ : pchk xf xp xm xl.length = 0 ∧ (0 ≤ xk ∧ xk ≤ 4294967295) ∧ parS xf xk xp xm xl = Y := by
          rcases HT.out with ⟨_, e1, e2, e3⟩ | ⟨e, _⟩
          · exact ⟨e1, e2, e3⟩
          · exact absurd rfl e
        have HCK := Lib.hid (And.intro hck (And.intro hty hsb))
        clear hck hty hsb
        go_wp2_with fail
        refine (pput_ok xf xk xp xm _ xl w9 S9.out HCK.out.2.1 HCK.out.1).mono ?_
        rintro e w10 ⟨z, rfl, hm10⟩
        rw [HCK.out.2.2] at hm10
        obtain ⟨az, cz, rfl, _⟩ := hm10.1.sees.shape
        have F10 := Lib.hid (F9.out.trans hm10.2.1 (fun _ _ h => h))
        have SY10 := Lib.hid (SY9.out.fr hm10.2.1 (fun _ _ h => h))
        have SZ10 := Lib.hid hm10.1.sees
        have Q10 := Lib.hid (crow_kept Q9.out hm10.2.1 (fun h => h))
        clear hm10 F9 SY9 Q9 S9 d0 d1 d2 d3 d4
        obtain ⟨d0, d1, d2, d3, d4⟩ := par_cells Q10.out
        dsimp only
        go_wp2_with fail
        refine (pcheck_any xf xk xp xm a8 xl.length c8 w10).mono ?_
        rintro e w11 ⟨rfl, f11⟩
        rw [HCK.out.1]
        have F11 := Lib.hid (F10.out.trans f11 (fun _ _ h => h))
        obtain ⟨S, hS⟩ : ∃ S : ByteArray, S = ⟨Y.toArray⟩ := ⟨_, rfl⟩
        have hc1 : (convert 23 9 (.slice ay Y.length cy)).run Try.prog w11 = .ok (.string S) w11 := by rw [hS]; exact (SY10.out.fr f11 (fun _ _ h => h)).string _ _ _ Try.underlying23 Try.underlying5 Try.underlying9
        have hc2 : (convert 23 9 (.slice az Y.length cz)).run Try.prog w11 = .ok (.string S) w11 := by rw [hS]; exact (SZ10.out.fr f11 (fun _ _ h => h)).string _ _ _ Try.underlying23 Try.underlying5 Try.underlying9
        clear hS f11 F10 d0 d1 d2 d3 d4
        dsimp only
        go_wp2_with fail
        go_roundg (4 - (k + 1))
        case measure => omega
        case rel => exact ⟨k + 1, by omega, rfl, by congr 1, F11⟩
end
section
theorem pany_all {w : World} (va : Value) (la : List Int) (ha : SeesL w va (la.map (Value.int .u8))) (fa : ∀ n ∈ la, (Lit.int .u8 n).wf = true) (s : Sm) (v : Value) (hv : SmV w s v) (at_ : Int) (h0 : 0 ≤ at_) (h1 : at_ ≤ 65535) (by_ : Int) (m0 : 0 ≤ by_) (m1 : by_ ≤ 255) :
    Calls Try.prog 4 #[va, v, .int .u16 at_, .int .u8 by_] w fun e w' => e = .returned (.bool true) ∧ Fr (fun _ => False) w w' := by
  obtain ⟨a, c, rfl, hs, hok⟩ := hv
  exact pany_law va _ s a c at_ by_ w (sees_u8 ha fa) hok hs h0 h1 m0 m1
end
end Go.Proofs.Ytjegdbkkojaacaa
