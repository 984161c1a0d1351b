/-
  LetAny, part 10 of what it rests on: VotBytes, LetClos, LetTakeDef.
-/
import Derived.Test.YtjnbpgadgdjobaaS07
import Derived.Test.YtjnbpgadgdjobaaS09
import Derived.Test.YtjnbpgadgdjobaaS05
import Derived.Laws.MakeOwn
set_option linter.unusedVariables false
set_option linter.unusedSimpArgs false
set_option maxHeartbeats 64000000
namespace Go.Proofs.Ytjnbpgadgdjobaa
open Go.RowKit
open Go.Lib (hid)
section
set_option maxRecDepth 100000

theorem vbytes_any (x : En) (v u : Value) (w : World) (hx : EnOk x) (he : ES w x v u) :
    Calls Try.prog 40 #[x.val v u] w fun e w' => ∃ y, e = .returned y ∧ Made y (entB x) w w' := by
  obtain ⟨i0, hi, hz0, hz1, hz2⟩ := info_parts Try.infoU8
  obtain ⟨k0, k1, t0, t1, n0, n1, p0, p1, l1, m1, mb, ck, nc, nm⟩ := hx
  obtain ⟨a, c, hv, _⟩ := he.1.shape
  obtain ⟨a2, c2, hu, hc2⟩ := he.2.shape
  subst hv hu
  have HE := Lib.hid he
  have HC := Lib.hid hc2
  have MB := Lib.hid mb
  have LM := Lib.hid (And.intro l1 m1)
  have HB : Hid (∀ Y, (if x.k = 1 then callB x.t x.n x.p x.l else if x.k = 2 then be2 x.m.length ++ memE x.m else []) = Y → entB x = be2 x.k.toNat ++ Y) := Lib.hid (by rintro Y rfl; rfl)
  clear he hc2 mb ck nc nm l1 m1
  have q0 := heap_alloc_new w (x.obj (.slice a x.l.length c) (.slice a2 x.m.length c2))
  have f0 : Fr (fun _ => False) w (w.alloc (x.obj (.slice a x.l.length c) (.slice a2 x.m.length c2))) := (Fr.refl _ _).alloc _
  go_enter Try.func40, Try.ntmps40
  go_upto_region 1 with fail
  generalize w.alloc (x.obj (.slice a x.l.length c) (.slice a2 x.m.length c2)) = w0 at *
  generalize w.heap.size = g0 at *
  have Q0 := Lib.hid q0
  have F0 := Lib.hid f0
  clear q0 f0
  obtain ⟨c00, c01, c02, c03, c04, c05⟩ := en_cells Q0.out
  have HQ0 := Q0
  go_wp2_with fail
  refine (refword_any x.k k0 (by omega) w0).mono ?_
  rintro e w1 ⟨y1, rfl, m1⟩
  obtain ⟨b1, d1, hy1, _⟩ := m1.1.sees.shape
  subst hy1
  have M1 := Lib.hid m1
  obtain ⟨L1, hL1⟩ : ∃ L, L = be2 x.k.toNat := ⟨_, rfl⟩
  rw [← hL1] at M1 ⊢
  have HL1 := Lib.hid hL1
  have HN1 : Hid (L1.length ≤ 10000) := Lib.hid (by rw [hL1, be2_length]; omega)
  clear m1 hL1 c00 c01 c02 c03 c04 c05
  obtain ⟨c00, c01, c02, c03, c04, c05⟩ := en_cells (crow_kept Q0.out M1.out.2.1 (fun h => h))
  dsimp only
  rcases (show x.k = 0 ∨ x.k = 1 ∨ x.k = 2 by omega) with h | h | h
  · have HF : Hid (Made (.slice b1 L1.length d1) (entB x) w w1) := Lib.hid (by
      rw [HB.out [] (by rw [if_neg (by omega), if_neg (by omega)]), List.append_nil, ← HL1.out]
      exact Made.base F0.out M1.out)
    rw [h] at c00
    clear h
    go_wp2_with fail
    go_ret
    exact ⟨_, rfl, HF.out⟩
  · have HF : Hid (entB x = be2 x.k.toNat ++ be2 x.t.toNat ++ be2 x.n.toNat ++ be2 x.p.toNat ++ txt x.l) := Lib.hid (by
      rw [HB.out _ (by rw [if_pos h])]
      unfold callB
      simp only [List.append_assoc])
    rw [h] at c00
    clear h
    go_wp2_with fail
    refine (refword_any x.t t0 t1 w1).mono ?_
    rintro e wp ⟨yp, rfl, o2, f2, k2⟩
    have o1 := M1.out.1.fr f2 (fun _ _ h => h)
    have M0 := M1.out
    obtain ⟨ap, dp, hyp, _⟩ := o2.sees.shape
    subst hyp
    have hlp : (be2 x.t.toNat).length = 2 := be2_length _
    rw [hlp]
    have HO2 := Lib.hid o2
    have HLP := Lib.hid hlp
    clear k2 hlp o2 c00 c01 c02 c03 c04 c05
    dsimp only
    go_wp2_with (at_builtin; refine wpList_append_sep rfl (.tmp 14) (.tmp 20) 24 24 rfl 0 5 i0 (.int .u8 0) 1 1 Try.underlying24 _ Try.underlying24 (.inr ⟨_, rfl⟩) hi hz0 hz1 hz2 rfl (by decide) (.slice b1 L1.length d1) L1.length (L1.map bv) rfl o1 _ 2 ((be2 x.t.toNat).map bv) rfl (lenOf_slice _ _ _) ?hln ?hf1 ?hf2 (bv_one _) ?b1 ?b2 (Nat.zero_le _) ?grow)
    case hln => rw [List.length_map, HLP.out, Nat.mul_one]
    case hf1 => have := HO2.out.sees.first (P := Try.prog); rw [HLP.out] at this; exact this
    case hf2 => have := HO2.out.sees.drew.first (P := Try.prog); rw [HLP.out] at this; exact this
    case b1 => have := HN1.out; have := LM.out.1; unfold maxLen; omega
    case b2 => have := HN1.out; have := LM.out.1; omega
    case grow =>
      intro yq w2 hown hg hv
      have mq : Made yq (L1 ++ be2 x.t.toNat) w0 w2 := Made.append M0 f2 (by rw [HLP.out]) hown hg hv
      obtain ⟨b2, d2, hyq, _⟩ := mq.1.sees.shape
      have hlq : (L1 ++ be2 x.t.toNat).length = L1.length + 2 := by rw [List.length_append, HLP.out]
      obtain ⟨L2, hL2⟩ : ∃ L, L = L1 ++ be2 x.t.toNat := ⟨_, rfl⟩
      rw [← hL2] at mq hyq hlq
      subst hyq
      have M2 := Lib.hid mq
      have HL2 := Lib.hid hL2
      have HN2 : Hid (L2.length ≤ 10000 + 20 * 1000) := Lib.hid (by rw [hlq]; have := HN1.out; have := LM.out.1; omega)
      clear hown hg hv M0 f2 o1 mq hlq hL2 HO2 HLP
      obtain ⟨c00, c01, c02, c03, c04, c05⟩ := en_cells (crow_kept Q0.out M2.out.2.1 (fun h => h))
      go_wp2_with fail
      refine (refword_any x.n n0 n1 w2).mono ?_
      rintro e wp ⟨yp, rfl, o2, f2, k2⟩
      have o1 := M2.out.1.fr f2 (fun _ _ h => h)
      have M0 := M2.out
      obtain ⟨ap, dp, hyp, _⟩ := o2.sees.shape
      subst hyp
      have hlp : (be2 x.n.toNat).length = 2 := be2_length _
      rw [hlp]
      have HO2 := Lib.hid o2
      have HLP := Lib.hid hlp
      clear k2 hlp o2 c00 c01 c02 c03 c04 c05
      dsimp only
      go_wp2_with (at_builtin; refine wpList_append_sep rfl (.tmp 22) (.tmp 28) 24 24 rfl 0 5 i0 (.int .u8 0) 1 1 Try.underlying24 _ Try.underlying24 (.inr ⟨_, rfl⟩) hi hz0 hz1 hz2 rfl (by decide) (.slice b2 L2.length d2) L2.length (L2.map bv) rfl o1 _ 2 ((be2 x.n.toNat).map bv) rfl (lenOf_slice _ _ _) ?hln ?hf1 ?hf2 (bv_one _) ?b1 ?b2 (Nat.zero_le _) ?grow)
      case hln => rw [List.length_map, HLP.out, Nat.mul_one]
      case hf1 => have := HO2.out.sees.first (P := Try.prog); rw [HLP.out] at this; exact this
      case hf2 => have := HO2.out.sees.drew.first (P := Try.prog); rw [HLP.out] at this; exact this
      case b1 => have := HN2.out; have := LM.out.1; unfold maxLen; omega
      case b2 => have := HN2.out; have := LM.out.1; omega
      case grow =>
        intro yq w3 hown hg hv
        have mq : Made yq (L2 ++ be2 x.n.toNat) w0 w3 := Made.append M0 f2 (by rw [HLP.out]) hown hg hv
        obtain ⟨b3, d3, hyq, _⟩ := mq.1.sees.shape
        have hlq : (L2 ++ be2 x.n.toNat).length = L2.length + 2 := by rw [List.length_append, HLP.out]
        obtain ⟨L3, hL3⟩ : ∃ L, L = L2 ++ be2 x.n.toNat := ⟨_, rfl⟩
        rw [← hL3] at mq hyq hlq
        subst hyq
        have M3 := Lib.hid mq
        have HL3 := Lib.hid hL3
        have HN3 : Hid (L3.length ≤ 10000 + 30 * 1000) := Lib.hid (by rw [hlq]; have := HN2.out; have := LM.out.1; omega)
        clear hown hg hv M0 f2 o1 mq hlq hL3 HO2 HLP
        obtain ⟨c00, c01, c02, c03, c04, c05⟩ := en_cells (crow_kept Q0.out M3.out.2.1 (fun h => h))
        go_wp2_with fail
        refine (refword_any x.p p0 p1 w3).mono ?_
        rintro e wp ⟨yp, rfl, o2, f2, k2⟩
        have o1 := M3.out.1.fr f2 (fun _ _ h => h)
        have M0 := M3.out
        obtain ⟨ap, dp, hyp, _⟩ := o2.sees.shape
        subst hyp
        have hlp : (be2 x.p.toNat).length = 2 := be2_length _
        rw [hlp]
        have HO2 := Lib.hid o2
        have HLP := Lib.hid hlp
        clear k2 hlp o2 c00 c01 c02 c03 c04 c05
        dsimp only
        go_wp2_with (at_builtin; refine wpList_append_sep rfl (.tmp 30) (.tmp 34) 24 24 rfl 0 5 i0 (.int .u8 0) 1 1 Try.underlying24 _ Try.underlying24 (.inr ⟨_, rfl⟩) hi hz0 hz1 hz2 rfl (by decide) (.slice b3 L3.length d3) L3.length (L3.map bv) rfl o1 _ 2 ((be2 x.p.toNat).map bv) rfl (lenOf_slice _ _ _) ?hln ?hf1 ?hf2 (bv_one _) ?b1 ?b2 (Nat.zero_le _) ?grow)
        case hln => rw [List.length_map, HLP.out, Nat.mul_one]
        case hf1 => have := HO2.out.sees.first (P := Try.prog); rw [HLP.out] at this; exact this
        case hf2 => have := HO2.out.sees.drew.first (P := Try.prog); rw [HLP.out] at this; exact this
        case b1 => have := HN3.out; have := LM.out.1; unfold maxLen; omega
        case b2 => have := HN3.out; have := LM.out.1; omega
        case grow =>
          intro yq w4 hown hg hv
          have mq : Made yq (L3 ++ be2 x.p.toNat) w0 w4 := Made.append M0 f2 (by rw [HLP.out]) hown hg hv
          obtain ⟨b4, d4, hyq, _⟩ := mq.1.sees.shape
          have hlq : (L3 ++ be2 x.p.toNat).length = L3.length + 2 := by rw [List.length_append, HLP.out]
          obtain ⟨L4, hL4⟩ : ∃ L, L = L3 ++ be2 x.p.toNat := ⟨_, rfl⟩
          rw [← hL4] at mq hyq hlq
          subst hyq
          have M4 := Lib.hid mq
          have HL4 := Lib.hid hL4
          have HN4 : Hid (L4.length ≤ 10000 + 40 * 1000) := Lib.hid (by rw [hlq]; have := HN3.out; have := LM.out.1; omega)
          clear hown hg hv M0 f2 o1 mq hlq hL4 HO2 HLP
          obtain ⟨c00, c01, c02, c03, c04, c05⟩ := en_cells (crow_kept Q0.out M4.out.2.1 (fun h => h))
          have hcv : ∀ W, Fr (fun _ => False) w4 W → (convert 24 9 (.slice a x.l.length c)).run Try.prog W = .ok (.string ⟨x.l.toArray⟩) W := fun W f => ((HE.out.1.fr (F0.out.trans M4.out.2.1 (fun _ _ h => h)) (fun _ _ h => h)).fr f (fun _ _ h => h)).string _ _ _ Try.underlying24 Try.underlying5 Try.underlying9
          have hcv0 := hcv w4 (Fr.refl _ _)
          have hrt := reftext_any ⟨x.l.toArray⟩ (by show x.l.toArray.size ≤ 65535; have := LM.out.1; simp; omega) w4
          have hsl : (⟨x.l.toArray⟩ : ByteArray).data.toList = x.l := by simp
          rw [hsl] at hrt
          have HRT := Lib.hid hrt
          obtain ⟨sx, hsx⟩ : ∃ s : ByteArray, s = ⟨x.l.toArray⟩ := ⟨_, rfl⟩
          rw [← hsx] at hcv0 HRT
          obtain ⟨nt, hnt⟩ : ∃ n, n = (txt x.l).length := ⟨_, rfl⟩
          have HNT : Hid (nt = (txt x.l).length ∧ nt ≤ 4100) := Lib.hid ⟨hnt, by rw [hnt, txt_length]; have := LM.out.1; omega⟩
          clear hcv hrt hsl hsx hnt
          go_wp2_with fail
          refine HRT.out.mono ?_
          rintro e wp ⟨yp, rfl, o2, f2, k2⟩
          have o1 := M4.out.1.fr f2 (fun _ _ h => h)
          have M0 := M4.out
          obtain ⟨ap, dp, hyp, _⟩ := o2.sees.shape
          subst hyp
          have hlp : (txt x.l).length = nt := HNT.out.1.symm
          (try rw [hlp])
          have HO2 := Lib.hid o2
          have HLP := Lib.hid hlp
          clear k2 hlp o2 c00 c01 c02 c03 c04 c05
          dsimp only
          go_wp2_with (at_builtin; refine wpList_append_sep rfl (.tmp 36) (.tmp 41) 24 24 rfl 0 5 i0 (.int .u8 0) 1 1 Try.underlying24 _ Try.underlying24 (.inr ⟨_, rfl⟩) hi hz0 hz1 hz2 rfl (by decide) (.slice b4 L4.length d4) L4.length (L4.map bv) rfl o1 _ nt ((txt x.l).map bv) rfl (lenOf_slice _ _ _) ?hln ?hf1 ?hf2 (bv_one _) ?b1 ?b2 (Nat.zero_le _) ?grow)
          case hln => rw [List.length_map, HLP.out, Nat.mul_one]
          case hf1 => have := HO2.out.sees.first (P := Try.prog); rw [HLP.out] at this; exact this
          case hf2 => have := HO2.out.sees.drew.first (P := Try.prog); rw [HLP.out] at this; exact this
          case b1 => have := HN4.out; have := LM.out.1; have := HNT.out.2; unfold maxLen; omega
          case b2 => have := HN4.out; have := LM.out.1; have := HNT.out.2; omega
          case grow =>
            intro yq w5 hown hg hv
            have mq : Made yq (L4 ++ txt x.l) w0 w5 := Made.append M0 f2 (by rw [HLP.out]) hown hg hv
            obtain ⟨b5, d5, hyq, _⟩ := mq.1.sees.shape
            have hlq : (L4 ++ txt x.l).length = L4.length + nt := by rw [List.length_append, HLP.out]
            obtain ⟨L5, hL5⟩ : ∃ L, L = L4 ++ txt x.l := ⟨_, rfl⟩
            rw [← hL5] at mq hyq hlq
            subst hyq
            have M5 := Lib.hid mq
            have HL5 := Lib.hid hL5
            have HN5 : Hid (L5.length ≤ 10000 + 50 * 1000) := Lib.hid (by rw [hlq]; have := HN4.out; have := LM.out.1; have := HNT.out.2; omega)
            clear hown hg hv M0 f2 o1 mq hlq hL5 HO2 HLP
            obtain ⟨c00, c01, c02, c03, c04, c05⟩ := en_cells (crow_kept Q0.out M5.out.2.1 (fun h => h))
            have HFF : Hid (Made (.slice b5 L5.length d5) (entB x) w w5) := Lib.hid (by
              rw [HF.out, ← HL1.out, ← HL2.out, ← HL3.out, ← HL4.out, ← HL5.out]
              exact Made.base F0.out M5.out)
            go_wp2_with fail
            go_ret
            exact ⟨_, rfl, HFF.out⟩
  · have HF : Hid (entB x = be2 x.k.toNat ++ be2 (x.m.length : Int).toNat ++ memE x.m) := Lib.hid (by
      rw [HB.out _ (by rw [if_neg (by omega), if_pos h]), Int.toNat_natCast]
      simp only [List.append_assoc])
    have hm16 := LM.out.2
    rw [h] at c00
    clear h
    go_wp2_with fail
    refine (refword_any x.m.length (by omega) (by omega) w1).mono ?_
    rintro e wp ⟨yp, rfl, o2, f2, k2⟩
    have o1 := M1.out.1.fr f2 (fun _ _ h => h)
    have M0 := M1.out
    obtain ⟨ap, dp, hyp, _⟩ := o2.sees.shape
    subst hyp
    have hlp : (be2 (x.m.length : Int).toNat).length = 2 := be2_length _
    rw [hlp]
    have HO2 := Lib.hid o2
    have HLP := Lib.hid hlp
    clear k2 hlp o2 c00 c01 c02 c03 c04 c05
    dsimp only
    go_wp2_with (at_builtin; refine wpList_append_sep rfl (.tmp 45) (.tmp 49) 24 24 rfl 0 5 i0 (.int .u8 0) 1 1 Try.underlying24 _ Try.underlying24 (.inr ⟨_, rfl⟩) hi hz0 hz1 hz2 rfl (by decide) (.slice b1 L1.length d1) L1.length (L1.map bv) rfl o1 _ 2 ((be2 (x.m.length : Int).toNat).map bv) rfl (lenOf_slice _ _ _) ?hln ?hf1 ?hf2 (bv_one _) ?b1 ?b2 (Nat.zero_le _) ?grow)
    case hln => rw [List.length_map, HLP.out, Nat.mul_one]
    case hf1 => have := HO2.out.sees.first (P := Try.prog); rw [HLP.out] at this; exact this
    case hf2 => have := HO2.out.sees.drew.first (P := Try.prog); rw [HLP.out] at this; exact this
    case b1 => have := HN1.out; have := LM.out.1; unfold maxLen; omega
    case b2 => have := HN1.out; have := LM.out.1; omega
    case grow =>
      intro yq w2 hown hg hv
      have mq : Made yq (L1 ++ be2 (x.m.length : Int).toNat) w0 w2 := Made.append M0 f2 (by rw [HLP.out]) hown hg hv
      obtain ⟨b2, d2, hyq, _⟩ := mq.1.sees.shape
      have hlq : (L1 ++ be2 (x.m.length : Int).toNat).length = L1.length + 2 := by rw [List.length_append, HLP.out]
      obtain ⟨L2, hL2⟩ : ∃ L, L = L1 ++ be2 (x.m.length : Int).toNat := ⟨_, rfl⟩
      rw [← hL2] at mq hyq hlq
      subst hyq
      have M2 := Lib.hid mq
      have HL2 := Lib.hid hL2
      have HN2 : Hid (L2.length ≤ 10000 + 20 * 1000) := Lib.hid (by rw [hlq]; have := HN1.out; have := LM.out.1; omega)
      clear hown hg hv M0 f2 o1 mq hlq hL2 HO2 HLP
      obtain ⟨c00, c01, c02, c03, c04, c05⟩ := en_cells (crow_kept Q0.out M2.out.2.1 (fun h => h))
      go_upto_region 11 with fail
      go_loopg [3, 54] x.m.length (fun gh u3 u54 wr => ∃ (k : Nat) (L : List UInt8) (bb : Option Addr) (dd : Nat), k ≤ x.m.length ∧ gh = x.m.length - k ∧ u54 = .int .i64 k ∧ u3 = .slice bb L.length dd ∧ Hid (Made (.slice bb L.length dd) L w0 wr) ∧ Hid (L = L2 ++ memE (x.m.take k)))
      case atStart => exact ⟨0, L2, b2, d2, Nat.zero_le _, rfl, rfl, rfl, M2, Lib.hid (by simp [memE])⟩
      case round =>
        obtain ⟨k, L9, b9, d9, hk, rfl, rfl, rfl, M9, HL9⟩ := hrel
        by_cases hlt : k < x.m.length
        case neg =>
          obtain rfl : k = x.m.length := by omega
          have HFF : Hid (Made (.slice b9 L9.length d9) (entB x) w wr) := Lib.hid (by
            have h9 := HL9.out
            rw [List.take_length] at h9
            rw [HF.out, ← HL1.out, ← HL2.out, ← h9]
            exact Made.base F0.out M9.out)
          go_wp2_with fail
          go_ret
          exact ⟨_, rfl, HFF.out⟩
        obtain ⟨hcap, g, off, rfl, hcell⟩ := (HC.out.fr (F0.out.trans M9.out.2.1 (fun _ _ h => h))) (by omega)
        have ck := hcell k hlt
        obtain ⟨z, hz⟩ : ∃ z, z = x.m[k] := ⟨_, rfl⟩
        rw [← hz] at ck
        have hzb : 0 ≤ z ∧ z ≤ 65535 := by rw [hz]; exact MB.out _ (List.getElem_mem hlt)
        obtain ⟨hq0, hq1⟩ := hzb
        have HST : Hid (memE (x.m.take (k + 1)) = memE (x.m.take k) ++ be2 z.toNat) := Lib.hid (by rw [memE_step x.m k hlt, hz])
        have HN9 : Hid (L9.length ≤ 80000) := Lib.hid (by
          rw [HL9.out, List.length_append, memE_length, List.length_take]
          have := HN2.out
          omega)
        clear hcell hz
        go_wp2_with fail
        refine (refword_any z (by omega) (by omega) wr).mono ?_
        rintro e wp ⟨yp, rfl, o2, f2, k2⟩
        have o1 := M9.out.1.fr f2 (fun _ _ h => h)
        have M0 := M9.out
        obtain ⟨ap, dp, hyp, _⟩ := o2.sees.shape
        subst hyp
        have hlp : (be2 z.toNat).length = 2 := be2_length _
        rw [hlp]
        have HO2 := Lib.hid o2
        have HLP := Lib.hid hlp
        clear k2 hlp o2
        dsimp only
        go_wp2_with (at_builtin; refine wpList_append_sep rfl (.tmp 58) (.tmp 60) 24 24 rfl 0 5 i0 (.int .u8 0) 1 1 Try.underlying24 _ Try.underlying24 (.inr ⟨_, rfl⟩) hi hz0 hz1 hz2 rfl (by decide) (.slice b9 L9.length d9) L9.length (L9.map bv) rfl o1 _ 2 ((be2 z.toNat).map bv) rfl (lenOf_slice _ _ _) ?hln ?hf1 ?hf2 (bv_one _) ?b1 ?b2 (Nat.zero_le _) ?grow)
        case hln => rw [List.length_map, HLP.out, Nat.mul_one]
        case hf1 => have := HO2.out.sees.first (P := Try.prog); rw [HLP.out] at this; exact this
        case hf2 => have := HO2.out.sees.drew.first (P := Try.prog); rw [HLP.out] at this; exact this
        case b1 => have := HN9.out; have := LM.out.1; unfold maxLen; omega
        case b2 => have := HN9.out; have := LM.out.1; omega
        case grow =>
          intro yq wz hown hg hv
          have mq : Made yq (L9 ++ be2 z.toNat) w0 wz := Made.append M0 f2 (by rw [HLP.out]) hown hg hv
          obtain ⟨bz, dz, hyq, _⟩ := mq.1.sees.shape
          have hlq : (L9 ++ be2 z.toNat).length = L9.length + 2 := by rw [List.length_append, HLP.out]
          obtain ⟨Lz, hLz⟩ : ∃ L, L = L9 ++ be2 z.toNat := ⟨_, rfl⟩
          rw [← hLz] at mq hyq hlq
          subst hyq
          have Mz := Lib.hid mq
          have HLz := Lib.hid hLz
          clear hown hg hv M0 f2 o1 mq hlq hLz HO2 HLP
          have HLq : Hid (Lz = L2 ++ memE (x.m.take (k + 1))) := Lib.hid (by rw [HLz.out, HL9.out, HST.out, List.append_assoc])
          go_wp2_with fail
          go_roundg (x.m.length - (k + 1))
          case measure => omega
          case rel => exact ⟨k + 1, Lz, bz, dz, by omega, rfl, by congr 1, rfl, Mz, HLq⟩
end
section
set_option maxRecDepth 100000

/-- A world in which the variable still holds what it held, as far as the chain has gone. -/
theorem ObS.here {w : World} {b : Nat} {v : Value} {L q : List UInt8} (h : Ob w b v L) : ∀ {c : List Value} {wx : World}, c.length ≤ 2 → ObS w b v L q c wx → wx.heap[b]? = some (.cells #[v] 24 (0, 0))
  | [], wx, _, f => (h.fr f).here
  | [_], wx, _, m => (h.fr m.2.1).here
  | [_, _], wx, _, m => m.1
  | _ :: _ :: _ :: _, _, hc, _ => by simp at hc

theorem opWp_obs {w wx : World} {o : Oper} {a : Act} {K : Act → World → Prop} {Q : Exit → Act → World → Prop} (s x : Operand)
    (ho : o.op = .call { callee := .builtin .append, args := #[s, x], argTypes := #[24, 24] })
    (b : Nat) (v : Value) (hs : a.eval s = v) (xv : Value) (hx : a.eval x = xv) (L q : List UInt8) (h1 : Ob w b v L) (hf2 : Fr (fun _ => False) w wx) (h2 : Sees wx xv q) (hlen : L.length + q.length ≤ 1000000)
    (h : ∀ u w', ObA w b v (L ++ q) u w' → K (a.put o.dst u) w') : o.wp Try.prog a wx K Q := by
  obtain ⟨i0, hi, hz0, hz1, hz2⟩ := info_parts Try.infoU8
  obtain ⟨ax, cx, e, -⟩ := h2.shape
  have h1x := h1.fr hf2
  have hown := h1x.own
  obtain ⟨v', w', hr, k2, k3, k4⟩ := run_append_sep (P := Try.prog) wx 0 24 24 o.type 5 i0 (.int .u8 0) 1 1 Try.underlying24 _ Try.underlying24 (.inr ⟨_, rfl⟩) hi hz0 hz1 hz2 rfl (by decide) v L.length (L.map bv) hown xv q.length (q.map bv) (fun w => by rw [e]; exact lenOf_slice _ _ _ _) (by simp) h2.first (h2.drew).first (bv_one _) (by unfold maxLen; omega) (by omega) (Nat.zero_le _)
  unfold Oper.wp execOp
  simp only [ho, resolve, invoke, builtin, Sem.run_bind, Sem.run_pure, Result.andThen_ok, List.map_toArray, List.map_cons, List.map_nil, hs, hx, hr]
  refine h v' w' ?_
  have hbl := h1x.lt
  have hg : Fr (fun k => some k = v.ownBlock) wx w' := Fr.of_grown k3
  have hw2 : w.heap.size ≤ wx.heap.size := hf2.size
  refine ⟨crow_kept h1x.here hg (fun e => h1x.apart e.symm), ?_, ?_, (hf2.mono (fun _ _ h => h.elim)).trans hg (fun i _ e => .inr e.symm), ?_⟩
  · unfold Own
    rw [List.length_append, List.map_append]
    exact k2
  · rcases k4 with e4 | e4
    · rw [e4]; exact h1x.apart
    · rw [e4]
      intro e
      have := Option.some.inj e
      omega
  · rcases k4 with e4 | e4
    · exact .inl e4
    · refine .inr fun k hk => ?_
      rw [e4] at hk
      have := Option.some.inj hk
      omega

theorem ObS.kept {w : World} {b : Nat} {v : Value} {L q : List UInt8} {j : Nat} {o : Obj} (h : w.heap[j]? = some o) (hj : j ≠ b ∧ v.ownBlock ≠ some j) : ∀ {c : List Value} {wx : World}, ObS w b v L q c wx → wx.heap[j]? = some o
  | [], wx, f => crow_kept h f (fun h => h)
  | [_], wx, m => crow_kept h m.2.1 (fun h => h)
  | [_, _], wx, m => crow_kept h m.2.2.2.1 (fun e => e.elim hj.1 hj.2)
  | [_, _, _], wx, ⟨_, _, m, _⟩ => crow_kept h m (fun e => e.elim hj.1 hj.2)
  | _ :: _ :: _ :: _ :: _, _, m => m.elim

/-- The variable and the two closures that others hold. -/
structure OC (g : Nat) (w : World) (v : Value) (l : List UInt8) : Prop where
  ob : Ob w (g + 1) v l
  fw : w.heap[g + 2]? = some (.cells #[.func (.func 34) #[] #[.pointer (some ⟨g + 1, 0, none⟩)]] 82 (0, 0))
  fl : w.heap[g + 3]? = some (.cells #[.func (.func 36) #[] #[.pointer (some ⟨g + 1, 0, none⟩)]] 82 (0, 0))
  far : ∀ k, v.ownBlock = some k → g + 3 < k

theorem OC.outs {g : Nat} {w w' : World} {v : Value} {l l' : List UInt8} (h : OC g w v l) (ho : Outs (g + 1) v l' w w') : ∃ v', OC g w' v' l' ∧ Fr (fun k => k = g + 1 ∨ v.ownBlock = some k) w w' ∧ (v'.ownBlock = v.ownBlock ∨ ∀ k, v'.ownBlock = some k → w.heap.size ≤ k) := by
  obtain ⟨v', h1, h2, h3⟩ := ho
  refine ⟨v', ⟨h1, crow_kept h.fw h2 ?_, crow_kept h.fl h2 ?_, ?_⟩, h2, h3⟩
  · rintro (e | e)
    · omega
    · have := h.far _ e; omega
  · rintro (e | e)
    · omega
    · have := h.far _ e; omega
  · intro k hk
    rcases h3 with e | e
    · exact h.far k (e ▸ hk)
    · have := e k hk
      have := lt_of_block h.fl
      omega

theorem OC.fr {g : Nat} {w w' : World} {v : Value} {l : List UInt8} (h : OC g w v l) (f : Fr (fun _ => False) w w') : OC g w' v l := ⟨h.ob.fr f, crow_kept h.fw f (fun h => h), crow_kept h.fl f (fun h => h), h.far⟩


theorem bword_any (n : Int) (h0 : 0 ≤ n) (h1 : n ≤ 65535) (g : Nat) (v : Value) (L : List UInt8) (w : World) (hW : Ob w g v L) (hL : L.length ≤ 900000) :
    Calls Try.prog 34 #[.int .i64 n, .pointer (some ⟨g, 0, none⟩)] w fun e w' => e = .returned (.tuple #[]) ∧ Outs g v (L ++ (be2 n.toNat)) w w' := by
  have hW0 := hW
  clear hW
  obtain ⟨w0, rfl⟩ : ∃ w0, w0 = w := ⟨_, rfl⟩
  obtain ⟨a1, c1, rfl⟩ := slice_of_own hW0.own
  have HW := Lib.hid hW0
  have HL := Lib.hid hL
  clear hW0 hL
  go_enter Try.func34, Try.ntmps34
  refine wp_region_chain (by kernel_rfl) [some 3, some 4, some 5, some 6, none] rfl (by decide) (by intro d hd; simp at hd ⊢; omega)
    [2, 3, 4] (fun cvs wx => ObS w0 g (.slice a1 L.length c1) L (be2 n.toNat) cvs wx)
    [.free (.slice a1 L.length c1), .free (.int .i64 n), .link none, .link none, .link none]
    (by kernel_rfl) (by kernel_rfl) ?h0 ?step0 ?fin0
  case h0 => exact (Fr.refl _ _).drew
  case step0 =>
    intro vals
    simp only [frOfU, fillU, List.setIfInBounds_toArray, List.set_cons_succ, List.set_cons_zero]
    repeat' (first | exact AllOps.nil | refine AllOps.cons ?_ ?_)
    all_goals
      intro cvs wx hS he hu hlim Kc hK
      simp only [Act.put, List.setIfInBounds_toArray, List.set_cons_succ, List.set_cons_zero, List.getD_cons_zero, List.getD_cons_succ] at hK
      simp only [List.mem_cons, List.not_mem_nil, or_false, forall_eq_or_imp, forall_eq, Region.binds, forall_const, qmode_gc, Bool.false_eq_true, false_imp_iff, List.getD_cons_zero, List.getD_cons_succ, OpSort.val, Option.some.injEq, forall_eq', reduceCtorEq, implies_true, true_and, and_true] at he
      have HSX := Lib.hid hS
      clear hS
    all_goals first | (clear hlim hu; (try simp only [he] at hK ⊢); go_simp; exact hK) | skip
    · have hle : cvs.length ≤ 2 := hlim 2 4 rfl (by kernel_rfl)
      have c0 := crow (ObS.here HW.out hle HSX.out) 0 _ rfl
      clear hlim hu hle
      try simp only [he] at hK ⊢
      go_simp
      exact hK
    · obtain rfl := hlim (0 : Nat) rfl
      have h1 : Fr (fun _ => False) w0 wx := HSX.out
      clear hlim hu HSX
      try simp only [he] at hK ⊢
      go_simp
      have H1 := Lib.hid h1
      clear h1
      go_at_call 35
      refine (refword_any n h0 h1 wx).mono ?_
      rintro er wa ⟨v', rfl, hm⟩
      exact hK _ _ (fun _ h => by cases h) (Made.base H1.out hm)
    · obtain rfl := hlim (1 : Nat) rfl
      have h1 : Made (vals 2) (be2 n.toNat) w0 wx := HSX.out
      clear hlim hu HSX
      try simp only [he] at hK ⊢
      rw [if_pos (by rfl)]
      refine opWp_ob (.tmp 3) (.tmp 5) rfl g (.slice a1 L.length c1) rfl (vals 2) rfl L (be2 n.toNat) HW.out h1 (by have := HL.out; simp [be2_length]; omega) ?_
      intro u w' hA
      exact hK _ _ (fun _ h => by cases h) hA
    · obtain rfl := hlim (2 : Nat) rfl
      have h1 : ObA w0 g (.slice a1 L.length c1) (L ++ (be2 n.toNat)) (vals 3) wx := HSX.out
      have c0 := crow h1.1 0 _ rfl
      have z0 := vfree h1.1 0
      obtain ⟨a2, n2, c2, e2⟩ : ∃ a n c, vals 3 = .slice a n c := by obtain ⟨a, c, e⟩ := slice_of_own h1.2.1; exact ⟨a, _, c, e⟩
      have R := Lib.hid (h1.store)
      clear hlim hu HSX h1
      simp only [he, e2] at hK R ⊢
      go_simp
      exact hK undef _ (fun _ h => by cases h) R.out
  case fin0 =>
  intro vals w9 hS hV
  have v0 := hV 0 _ (by decide) rfl
  have v1 := hV 1 _ (by decide) rfl
  clear hV
  simp only [frOfU, fillU, List.setIfInBounds_toArray, List.set_cons_succ, List.set_cons_zero]
  simp only [Nat.reduceAdd, v0, v1]
  clear v0 v1
  have h9 : Outs g (.slice a1 L.length c1) (L ++ (be2 n.toNat)) w0 w9 := hS
  clear hS
  have H9 := Lib.hid h9
  clear h9
  go_wp2_with fail
  go_end0
  exact ⟨rfl, H9.out⟩

theorem blong_any (n : Int) (h0 : 0 ≤ n) (h1 : n ≤ 4294967295) (g : Nat) (v : Value) (L : List UInt8) (w : World) (hW : Ob w g v L) (hL : L.length ≤ 900000) :
    Calls Try.prog 36 #[.int .i64 n, .pointer (some ⟨g, 0, none⟩)] w fun e w' => e = .returned (.tuple #[]) ∧ Outs g v (L ++ (be4 n.toNat)) w w' := by
  have hW0 := hW
  clear hW
  obtain ⟨w0, rfl⟩ : ∃ w0, w0 = w := ⟨_, rfl⟩
  have HWR : Hid (IntKind.u32.wrap n = n) := Lib.hid (by rw [IntKind.wrap_u32]; omega)
  obtain ⟨a1, c1, rfl⟩ := slice_of_own hW0.own
  have HW := Lib.hid hW0
  have HL := Lib.hid hL
  clear hW0 hL
  go_enter Try.func36, Try.ntmps36
  refine wp_region_chain (by kernel_rfl) [some 3, some 4, some 5, some 6, some 7, none] rfl (by decide) (by intro d hd; simp at hd ⊢; omega)
    [3, 4, 5] (fun cvs wx => ObS w0 g (.slice a1 L.length c1) L (be4 n.toNat) cvs wx)
    [.free (.slice a1 L.length c1), .free (.int .i64 n), .free (.int .u32 n), .link none, .link none, .link none]
    (by kernel_rfl) (by kernel_rfl) ?h0 ?step0 ?fin0
  case h0 => exact (Fr.refl _ _).drew
  case step0 =>
    intro vals
    simp only [frOfU, fillU, List.setIfInBounds_toArray, List.set_cons_succ, List.set_cons_zero]
    repeat' (first | exact AllOps.nil | refine AllOps.cons ?_ ?_)
    all_goals
      intro cvs wx hS he hu hlim Kc hK
      simp only [Act.put, List.setIfInBounds_toArray, List.set_cons_succ, List.set_cons_zero, List.getD_cons_zero, List.getD_cons_succ] at hK
      simp only [List.mem_cons, List.not_mem_nil, or_false, forall_eq_or_imp, forall_eq, Region.binds, forall_const, qmode_gc, Bool.false_eq_true, false_imp_iff, List.getD_cons_zero, List.getD_cons_succ, OpSort.val, Option.some.injEq, forall_eq', reduceCtorEq, implies_true, true_and, and_true] at he
      have HSX := Lib.hid hS
      clear hS
    all_goals first | (clear hlim hu; (try simp only [he] at hK ⊢); go_simp; exact hK) | skip
    · have hle : cvs.length ≤ 2 := hlim 2 5 rfl (by kernel_rfl)
      have c0 := crow (ObS.here HW.out hle HSX.out) 0 _ rfl
      clear hlim hu hle
      try simp only [he] at hK ⊢
      go_simp
      exact hK
    · have hwr := HWR.out
      clear hlim hu HSX
      try simp only [he] at hK ⊢
      go_simp
      exact hK
    · obtain rfl := hlim (0 : Nat) rfl
      have h1 : Fr (fun _ => False) w0 wx := HSX.out
      clear hlim hu HSX
      try simp only [he] at hK ⊢
      go_simp
      have H1 := Lib.hid h1
      clear h1
      go_at_call 37
      refine (reflong_any n h0 h1 wx).mono ?_
      rintro er wa ⟨v', rfl, hm⟩
      exact hK _ _ (fun _ h => by cases h) (Made.base H1.out hm)
    · obtain rfl := hlim (1 : Nat) rfl
      have h1 : Made (vals 3) (be4 n.toNat) w0 wx := HSX.out
      clear hlim hu HSX
      try simp only [he] at hK ⊢
      rw [if_pos (by rfl)]
      refine opWp_ob (.tmp 3) (.tmp 6) rfl g (.slice a1 L.length c1) rfl (vals 3) rfl L (be4 n.toNat) HW.out h1 (by have := HL.out; simp [be4_length]; omega) ?_
      intro u w' hA
      exact hK _ _ (fun _ h => by cases h) hA
    · obtain rfl := hlim (2 : Nat) rfl
      have h1 : ObA w0 g (.slice a1 L.length c1) (L ++ (be4 n.toNat)) (vals 4) wx := HSX.out
      have c0 := crow h1.1 0 _ rfl
      have z0 := vfree h1.1 0
      obtain ⟨a2, n2, c2, e2⟩ : ∃ a n c, vals 4 = .slice a n c := by obtain ⟨a, c, e⟩ := slice_of_own h1.2.1; exact ⟨a, _, c, e⟩
      have R := Lib.hid (h1.store)
      clear hlim hu HSX h1
      simp only [he, e2] at hK R ⊢
      go_simp
      exact hK undef _ (fun _ h => by cases h) R.out
  case fin0 =>
  intro vals w9 hS hV
  have v0 := hV 0 _ (by decide) rfl
  have v1 := hV 1 _ (by decide) rfl
  have v2 := hV 2 _ (by decide) rfl
  clear hV
  simp only [frOfU, fillU, List.setIfInBounds_toArray, List.set_cons_succ, List.set_cons_zero]
  simp only [Nat.reduceAdd, v0, v1, v2]
  clear v0 v1 v2
  have h9 : Outs g (.slice a1 L.length c1) (L ++ (be4 n.toNat)) w0 w9 := hS
  clear hS
  have H9 := Lib.hid h9
  clear h9
  go_wp2_with fail
  go_end0
  exact ⟨rfl, H9.out⟩

theorem bentry_any (x : En) (ev eu : Value) (g : Nat) (v : Value) (L : List UInt8) (w : World) (hx : EnOk x) (he : ES w x ev eu) (hW : Ob w g v L) (hL : L.length ≤ 900000) :
    Calls Try.prog 39 #[x.val ev eu, .pointer (some ⟨g, 0, none⟩)] w fun e w' => e = .returned (.tuple #[]) ∧ Outs g v (L ++ (entB x)) w w' := by
  have q0 := heap_alloc_new w (x.obj ev eu)
  have f0 : Fr (fun _ => False) w (w.alloc (x.obj ev eu)) := (Fr.refl _ _).alloc _
  have hW0 := hW.fr f0
  have hGB : w.heap.size ≠ g ∧ v.ownBlock ≠ some w.heap.size := ⟨by have := hW.lt.1; omega, fun e => by have := hW.lt.2 _ e; omega⟩
  have GB := Lib.hid hGB
  have Q0 := Lib.hid q0
  have F0 := Lib.hid f0
  have HE := Lib.hid (he.fr f0)
  have HX := Lib.hid hx
  clear q0 f0 hW hGB he
  obtain ⟨a1, c1, rfl⟩ := slice_of_own hW0.own
  have HW := Lib.hid hW0
  have HL := Lib.hid hL
  clear hW0 hL
  go_enter Try.func39, Try.ntmps39
  go_upto_region 1 with fail
  generalize w.alloc (x.obj ev eu) = w0 at *
  generalize w.heap.size = gb at *
  refine wp_region_chain (by kernel_rfl) [some 3, some 4, some 5, some 6, none] rfl (by decide) (by intro d hd; simp at hd ⊢; omega)
    [2, 3, 4] (fun cvs wx => ObS w0 g (.slice a1 L.length c1) L (entB x) cvs wx)
    [.free (.slice a1 L.length c1), .free (x.val ev eu), .link none, .link none, .link none]
    (by kernel_rfl) (by kernel_rfl) ?h0 ?step0 ?fin0
  case h0 => exact (Fr.refl _ _).drew
  case step0 =>
    intro vals
    simp only [frOfU, fillU, List.setIfInBounds_toArray, List.set_cons_succ, List.set_cons_zero]
    repeat' (first | exact AllOps.nil | refine AllOps.cons ?_ ?_)
    all_goals
      intro cvs wx hS he hu hlim Kc hK
      simp only [Act.put, List.setIfInBounds_toArray, List.set_cons_succ, List.set_cons_zero, List.getD_cons_zero, List.getD_cons_succ] at hK
      simp only [List.mem_cons, List.not_mem_nil, or_false, forall_eq_or_imp, forall_eq, Region.binds, forall_const, qmode_gc, Bool.false_eq_true, false_imp_iff, List.getD_cons_zero, List.getD_cons_succ, OpSort.val, Option.some.injEq, forall_eq', reduceCtorEq, implies_true, true_and, and_true] at he
      have HSX := Lib.hid hS
      clear hS
    all_goals first | (clear hlim hu; (try simp only [he] at hK ⊢); go_simp; exact hK) | skip
    · have hle : cvs.length ≤ 2 := hlim 2 4 rfl (by kernel_rfl)
      have c0 := crow (ObS.here HW.out hle HSX.out) 0 _ rfl
      clear hlim hu hle
      try simp only [he] at hK ⊢
      go_simp
      exact hK
    · obtain ⟨c0, c1, c2, c3, c4, c5⟩ := en_cells (ObS.kept Q0.out GB.out HSX.out)
      clear hlim hu HSX
      try simp only [he] at hK ⊢
      go_simp
      exact hK
    · obtain rfl := hlim (0 : Nat) rfl
      have h1 : Fr (fun _ => False) w0 wx := HSX.out
      clear hlim hu HSX
      try simp only [he] at hK ⊢
      go_simp
      have H1 := Lib.hid h1
      clear h1
      go_at_call 40
      refine (vbytes_any x ev eu wx hx (HE.out.fr H1.out)).mono ?_
      rintro er wa ⟨v', rfl, hm⟩
      exact hK _ _ (fun _ h => by cases h) (Made.base H1.out hm)
    · obtain rfl := hlim (1 : Nat) rfl
      have h1 : Made (vals 2) (entB x) w0 wx := HSX.out
      clear hlim hu HSX
      try simp only [he] at hK ⊢
      rw [if_pos (by rfl)]
      refine opWp_ob (.tmp 3) (.tmp 5) rfl g (.slice a1 L.length c1) rfl (vals 2) rfl L (entB x) HW.out h1 (by have := HL.out; have := entB_length HX.out; omega) ?_
      intro u w' hA
      exact hK _ _ (fun _ h => by cases h) hA
    · obtain rfl := hlim (2 : Nat) rfl
      have h1 : ObA w0 g (.slice a1 L.length c1) (L ++ (entB x)) (vals 3) wx := HSX.out
      have c0 := crow h1.1 0 _ rfl
      have z0 := vfree h1.1 0
      obtain ⟨a2, n2, c2, e2⟩ : ∃ a n c, vals 3 = .slice a n c := by obtain ⟨a, c, e⟩ := slice_of_own h1.2.1; exact ⟨a, _, c, e⟩
      have R := Lib.hid (h1.store)
      clear hlim hu HSX h1
      simp only [he, e2] at hK R ⊢
      go_simp
      exact hK undef _ (fun _ h => by cases h) R.out
  case fin0 =>
  intro vals w9 hS hV
  have v0 := hV 0 _ (by decide) rfl
  have v1 := hV 1 _ (by decide) rfl
  clear hV
  simp only [frOfU, fillU, List.setIfInBounds_toArray, List.set_cons_succ, List.set_cons_zero]
  simp only [Nat.reduceAdd, v0, v1]
  clear v0 v1
  have h9 : Outs g (.slice a1 L.length c1) (L ++ (entB x)) w0 w9 := hS
  clear hS
  have H9 := Lib.hid h9
  clear h9
  go_wp2_with fail
  go_end0
  exact ⟨rfl, Outs.later F0.out H9.out⟩

theorem bballot_any (r n : Int) (hr0 : 0 ≤ r) (hr1 : r ≤ 4294967295) (hn0 : 0 ≤ n) (hn1 : n ≤ 65535) (g : Nat) (v : Value) (L : List UInt8) (w : World) (hW : OC g w v L) (hL : L.length ≤ 800000) :
    Calls Try.prog 38 #[ball r n, .pointer (some ⟨g + 3, 0, none⟩), .pointer (some ⟨g + 2, 0, none⟩)] w fun e w' => e = .returned (.tuple #[]) ∧ Outs (g + 1) v (L ++ (be4 r.toNat ++ be2 n.toNat)) w w' := by
  have q0 := heap_alloc_new w (oBa r n)
  have f0 : Fr (fun _ => False) w (w.alloc (oBa r n)) := (Fr.refl _ _).alloc _
  have hW0 := hW.fr f0
  have hs := lt_of_block hW.fl
  obtain ⟨c0, c1⟩ := ba_row q0
  have c2 := crow hW0.fl 0 _ rfl
  have Q0 := Lib.hid q0
  have F0 := Lib.hid f0
  have HW := Lib.hid hW0
  have HL := Lib.hid hL
  have HN : Hid (∀ k, v.ownBlock = some k → k < w.heap.size) := Lib.hid hW.ob.lt.2
  clear q0 f0 hW hW0 hL
  go_enter Try.func38, Try.ntmps38
  go_upto_region 1 with fail
  generalize w.alloc (oBa r n) = w0 at *
  obtain ⟨gb, hgb⟩ : ∃ gb, gb = w.heap.size := ⟨_, rfl⟩
  rw [← hgb] at c0 c1 Q0 HN hs ⊢
  have HGB := Lib.hid hgb
  clear hgb
  have HS := Lib.hid hs
  clear hs
  go_wp2_with fail
  refine (blong_any r hr0 hr1 (g + 1) v L w0 HW.out.ob (by have := HL.out; omega)).mono ?_
  rintro e w1 ⟨rfl, ho⟩
  obtain ⟨v1, hw1, f1, n1⟩ := HW.out.outs ho
  have q1 := crow_kept Q0.out f1 (by
    rintro (e | e)
    · have := HS.out; omega
    · have := HN.out _ e; omega)
  have HF1 := Lib.hid (And.intro f1 n1)
  have HW1 := Lib.hid hw1
  clear c0 c1 c2 f1 n1 ho hw1 HS
  obtain ⟨c0, c1⟩ := ba_row q1
  have c2 := crow HW1.out.fw 0 _ rfl
  clear q1
  dsimp only
  go_wp2_with fail
  refine (bword_any n hn0 hn1 (g + 1) v1 (L ++ be4 r.toNat) w1 HW1.out.ob (by have := HL.out; rw [List.length_append, be4_length]; omega)).mono ?_
  rintro e w2 ⟨rfl, ho⟩
  have H2 : Hid (Outs (g + 1) v (L ++ (be4 r.toNat ++ be2 n.toNat)) w w2) := Lib.hid (by
    rw [← List.append_assoc]
    exact Outs.later F0.out (Outs.trans HF1.out.1 HF1.out.2 ho))
  clear ho c0 c1 c2
  dsimp only
  go_wp2_with fail
  go_end0
  exact ⟨rfl, H2.out⟩
end
section
set_option maxRecDepth 100000

abbrev St := List UInt8 × Int

def wordsS : Nat → St → List Int × St
  | 0, st => ([], st)
  | n + 1, st => let q := wordsS n st; let r := numS q.2 2; (q.1 ++ [(r.1 : Int)], r.2)

theorem wordsS_length : ∀ (n : Nat) (st : St), (wordsS n st).1.length = n
  | 0, _ => rfl
  | n + 1, st => by
    show ((wordsS n st).1 ++ [_]).length = n + 1
    rw [List.length_append, wordsS_length n st]
    rfl

theorem wordsS_take : ∀ (n k : Nat) (st : St), k ≤ n → (wordsS n st).1.take k = (wordsS k st).1
  | 0, k, st, h => by
    obtain rfl : k = 0 := by omega
    rfl
  | n + 1, k, st, h => by
    by_cases hk : k = n + 1
    · subst hk
      rw [List.take_of_length_le (by rw [wordsS_length]; omega)]
    · have ih := wordsS_take n k st (by omega)
      show ((wordsS n st).1 ++ [_]).take k = _
      rw [List.take_append_of_le_length (by rw [wordsS_length]; omega), ih]

theorem wordsS_get (n k : Nat) (st : St) (h : k < n) (h' : k < (wordsS n st).1.length) : (wordsS n st).1[k] = ((numS (wordsS k st).2 2).1 : Int) := by
  have h1 := wordsS_take n (k + 1) st (by omega)
  have h2 : (wordsS (k + 1) st).1 = (wordsS k st).1 ++ [((numS (wordsS k st).2 2).1 : Int)] := rfl
  rw [h2, List.take_succ_eq_append_getElem h', wordsS_take n k st (by omega)] at h1
  have h3 := List.append_cancel_left h1
  simpa using h3

def membS (st : St) : List Int × St :=
  ((wordsS (withinS st 16).1 (withinS st 16).2).1, failS (wordsS (withinS st 16).1 (withinS st 16).2).2 (chkM (wordsS (withinS st 16).1 (withinS st 16).2).1))
def viewS (st : St) : (Int × List Int) × St :=
  (((numS st 4).1, (wordsS (withinS (numS st 4).2 16).1 (withinS (numS st 4).2 16).2).1), (wordsS (withinS (numS st 4).2 16).1 (withinS (numS st 4).2 16).2).2)
def ballotS (st : St) : (Int × Int) × St := (((numS st 4).1, (numS (numS st 4).2 2).1), (numS (numS st 4).2 2).2)
def kindS (st : St) : Nat × St := if 8 ≤ (numS st 2).1 then (0, failS (numS st 2).2 5) else numS st 2
/-- The call that is taken. -/
def callT (st : St) : En := if (takeS st).2.2 = 0 then ⟨1, (takeS st).1.1, (takeS st).1.2.1, (takeS st).1.2.2.1, (takeS st).1.2.2.2, []⟩ else ⟨1, 0, 0, 0, [], []⟩
def entAS (st : St) : En × St :=
  if (numS st 2).1 = 0 then (En.zero, (numS st 2).2) else if (numS st 2).1 = 1 then (callT (numS st 2).2, (takeS (numS st 2).2).2)
  else if (numS st 2).1 = 2 then (⟨2, 0, 0, 0, [], (membS (numS st 2).2).1⟩, (membS (numS st 2).2).2) else (En.zero, failS (numS st 2).2 5)
def entS (st : St) : En × St := if (entAS st).2.2 = 0 then entAS st else (En.zero, (entAS st).2)

theorem Reads.box2 {b g : Nat} {v : Value} {l : List UInt8} {x : Int} {w w1 w2 : World} (h : Reads b v l x w w1) (f : Fr (fun k => k = g) w1 w2) (hg : w.heap.size ≤ g) (hb : b < w.heap.size) (hv : ∀ k, v.ownBlock = some k → k < w.heap.size) : Reads b v l x w w2 := by
  obtain ⟨v', r, f1, o⟩ := h
  refine ⟨v', r.fr f (fun e => by omega) (fun k hk e => ?_), f1.trans f (fun k hk e => by omega), o⟩
  rcases o with h | h
  · rw [h] at hk; have := hv k hk; omega
  · rw [h] at hk; cases hk

theorem Reads.later2 {b : Nat} {v : Value} {l : List UInt8} {x : Int} {w w1 w2 : World} (f : Fr (fun _ => False) w w1) (h : Reads b v l x w1 w2) : Reads b v l x w w2 := by
  obtain ⟨v', r, f1, o⟩ := h
  exact ⟨v', r, (f.mono (fun _ _ h => h.elim)).trans f1 (fun _ _ h => h), o⟩

theorem Reads.fr {b : Nat} {v : Value} {l : List UInt8} {x : Int} {w w1 w2 : World} (h : Reads b v l x w w1) (f : Fr (fun _ => False) w1 w2) : Reads b v l x w w2 := by
  obtain ⟨v', r, f1, o⟩ := h
  exact ⟨v', r.fr f (fun h => h) (fun _ _ h => h), f1.trans f (fun _ _ h => h.elim), o⟩

theorem withinS_16 (st : St) : (withinS st 16).1 ≤ 16 := by
  unfold withinS
  split
  · exact Nat.zero_le _
  · omega

theorem wordsS_16 : ∀ (n : Nat) (st : St), In16 (wordsS n st).1
  | 0, _ => fun x hx => by cases hx
  | n + 1, st => by
    intro x hx
    rw [show (wordsS (n + 1) st).1 = (wordsS n st).1 ++ [((numS (wordsS n st).2 2).1 : Int)] from rfl, List.mem_append] at hx
    rcases hx with hx | hx
    · exact wordsS_16 n st x hx
    · have h1 : x = ((numS (wordsS n st).2 2).1 : Int) := by simpa using hx
      have h2 := numS_small (wordsS n st).2 2
      omega

theorem rballot_any (b : Nat) (v : Value) (l : List UInt8) (x : Int) (w : World) (hR : Rd w b v l x) :
    Calls Try.prog 60 #[.pointer (some ⟨b, 0, none⟩)] w fun e w' => e = .returned (ball (ballotS (l, x)).1.1 (ballotS (l, x)).1.2) ∧ Reads b v (ballotS (l, x)).2.1 (ballotS (l, x)).2.2 w w' := by
  have q0 := heap_alloc_new w (oBa 0 0)
  have f0 : Fr (fun _ => False) w (w.alloc (oBa 0 0)) := (Fr.refl _ _).alloc _
  have HG : Hid (b < w.heap.size ∧ ∀ k, v.ownBlock = some k → k < w.heap.size) := Lib.hid ⟨hR.lt, hR.old⟩
  have R0 := Lib.hid (hR.fr f0 (fun h => h) (fun _ _ h => h))
  have Q0 := Lib.hid q0
  have F0 := Lib.hid f0
  clear q0 f0 hR
  go_enter Try.func60, Try.ntmps60
  go_upto_region 1 with fail
  generalize w.alloc (oBa 0 0) = w0 at *
  go_wp2_with fail
  refine (rlong_any b v l x w0 R0.out).mono ?_
  rintro e w1 ⟨rfl, v1, r1, f1, o1⟩
  have hs1 : (numS (l, x) 4).1 < 4294967296 := numS_small (l, x) 4
  obtain ⟨p1, hp1⟩ : ∃ p, p = numS (l, x) 4 := ⟨_, rfl⟩
  rw [← hp1] at r1 hs1 ⊢
  have hr2 := rword_any b v1 p1.2.1 p1.2.2 w1 r1
  have hs2 : (numS (p1.2.1, p1.2.2) 2).1 < 65536 := numS_small (p1.2.1, p1.2.2) 2
  obtain ⟨p2, hp2⟩ : ∃ p, p = numS (p1.2.1, p1.2.2) 2 := ⟨_, rfl⟩
  rw [← hp2] at hr2 hs2
  have HB : Hid (ballotS (l, x) = (((p1.1 : Int), (p2.1 : Int)), p2.2)) := Lib.hid (by unfold ballotS; rw [← hp1, hp2])
  have HR2 := Lib.hid hr2
  have Q1 := Lib.hid (crow_kept Q0.out f1 (fun e => by have := HG.out.1; omega))
  have F1 := Lib.hid (And.intro f1 o1)
  clear hp1 hp2 hr2 r1 f1 o1
  dsimp only
  go_wp2_with fail
  refine HR2.out.mono ?_
  rintro e w2 ⟨rfl, rd2⟩
  have Q2 : w2.heap[w.heap.size]? = some (oBa 0 0) := by
    obtain ⟨_, _, f2, _⟩ := rd2
    exact crow_kept Q1.out f2 (fun e => by have := HG.out.1; omega)
  have RD := Lib.hid (Reads.later2 F0.out (Reads.trans F1.out.1 F1.out.2 rd2))
  obtain ⟨c0, c1⟩ := ba_row Q2
  have hfz := lt_free Q2
  have HQ2 := Lib.hid Q2
  clear rd2 Q2
  dsimp only
  go_wp2_with fail
  have h1 := heap_setCell_same w2 w.heap.size 0 _ _ (.int .i64 (p1.1 : Int)) HQ2.out
  have h2 := heap_setCell_same (w2.setCell ⟨w.heap.size, 0, none⟩ (.int .i64 (p1.1 : Int))) w.heap.size 1 _ _ (.int .i64 (p2.1 : Int)) h1
  have hf : Fr (fun k => k = w.heap.size) w2 ((w2.setCell ⟨w.heap.size, 0, none⟩ (.int .i64 (p1.1 : Int))).setCell ⟨w.heap.size, 1, none⟩ (.int .i64 (p2.1 : Int))) := ((Fr.refl _ _).set1 0 _).set1 1 _
  refine bodyPost_ret (results_cell_row rfl _ _ w.heap.size 36 _ _ _ rfl h2 Try.underlying36 rfl (by kernel_rfl)) rfl ?_
  rw [HB.out]
  exact ⟨rfl, RD.out.box2 hf (Nat.le_refl _) HG.out.1 HG.out.2⟩

theorem rkind_any (b : Nat) (v : Value) (l : List UInt8) (x : Int) (w : World) (hR : Rd w b v l x) :
    Calls Try.prog 57 #[.pointer (some ⟨b, 0, none⟩)] w fun e w' => e = .returned (.int .u8 ((kindS (l, x)).1 : Int)) ∧ Reads b v (kindS (l, x)).2.1 (kindS (l, x)).2.2 w w' := by
  have hrw := rword_any b v l x w hR
  have hs : (numS (l, x) 2).1 < 65536 := numS_small (l, x) 2
  obtain ⟨p, hp⟩ : ∃ p, p = numS (l, x) 2 := ⟨_, rfl⟩
  rw [← hp] at hrw hs
  have HK : Hid (kindS (l, x) = if 8 ≤ p.1 then (0, failS p.2 5) else p) := Lib.hid (by unfold kindS; rw [hp])
  have HRW := Lib.hid hrw
  clear hp hrw hR
  have hc : 8 ≤ p.1 ∨ ¬ 8 ≤ p.1 := Decidable.em _
  rcases hc with h8 | h8
  · have hE : kindS (l, x) = (0, failS p.2 5) := by rw [HK.out, if_pos h8]
    have HE := Lib.hid hE
    have hi : (8 : Int) ≤ (p.1 : Int) := by omega
    clear hE HK h8
    go_enter Try.func57, Try.ntmps57
    go_wp2_with fail
    refine HRW.out.mono ?_
    rintro e w1 ⟨rfl, v1, r1, f1, o1⟩
    have hfl := Lib.hid (fail_any b v1 p.2.1 p.2.2 5 w1 r1)
    have F1 := Lib.hid (And.intro f1 o1)
    clear r1 f1 o1
    dsimp only
    go_wp2_with fail
    refine hfl.out.mono ?_
    rintro e w2 ⟨rfl, rd2⟩
    have RD := Lib.hid (Reads.trans F1.out.1 F1.out.2 rd2)
    clear rd2
    dsimp only
    go_wp2_with fail
    go_ret
    rw [HE.out]
    exact ⟨rfl, RD.out⟩
  · have hE : kindS (l, x) = p := by rw [HK.out, if_neg h8]
    have HE := Lib.hid hE
    have hi : ¬ (8 : Int) ≤ (p.1 : Int) := by omega
    have hi2 : (p.1 : Int) ≤ 255 := by omega
    clear hE HK h8
    go_enter Try.func57, Try.ntmps57
    go_wp2_with fail
    refine HRW.out.mono ?_
    rintro e w1 ⟨rfl, rd1⟩
    have RD := Lib.hid rd1
    clear rd1
    dsimp only
    go_wp2_with fail
    go_ret
    rw [HE.out]
    exact ⟨rfl, RD.out⟩
end
end Go.Proofs.Ytjnbpgadgdjobaa
