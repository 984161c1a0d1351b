/-
  The laws' own Bytes of an entry.
-/
import Derived.Test.YtmpnomngnfffbaaVotTake
namespace Go.Proofs.Ytmpnomngnfffbaa
open Go.RowKit
set_option maxRecDepth 100000

set_option maxHeartbeats 8000000 in
theorem vbytes_any (x : En) (v u : Value) (w : World) (hx : EnOk x) (he : ES w x v u) :
    Calls Try.prog 15 #[x.val v u] w fun e w' => ∃ y, e = .returned y ∧ Made y (entB x) w w' := by
  obtain ⟨i0, hi, hz0, hz1, hz2⟩ := info_parts Try.infoU8
  obtain ⟨k0, k1, t0, t1, n0, n1, p0, p1, l1, m1, mb, ck, nc, nm⟩ := hx
  obtain ⟨a, c, hv, _⟩ := he.1.shape
  obtain ⟨a2, c2, hu, hc2⟩ := he.2.shape
  subst hv hu
  have HE := Lib.hid he
  have HC := Lib.hid hc2
  have MB := Lib.hid mb
  have LM := Lib.hid (And.intro l1 m1)
  have HB : Hid (∀ Y, (if x.k = 1 then callB x.t x.n x.p x.l else if x.k = 2 then be2 x.m.length ++ memE x.m else []) = Y → entB x = be2 x.k.toNat ++ Y) := Lib.hid (by rintro Y rfl; rfl)
  clear he hc2 mb ck nc nm l1 m1
  have q0 := heap_alloc_new w (x.obj (.slice a x.l.length c) (.slice a2 x.m.length c2))
  have f0 : Fr (fun _ => False) w (w.alloc (x.obj (.slice a x.l.length c) (.slice a2 x.m.length c2))) := (Fr.refl _ _).alloc _
  go_enter Try.func15, Try.ntmps15
  go_upto_region 1 with fail
  generalize w.alloc (x.obj (.slice a x.l.length c) (.slice a2 x.m.length c2)) = w0 at *
  generalize w.heap.size = g0 at *
  have Q0 := Lib.hid q0
  have F0 := Lib.hid f0
  clear q0 f0
  obtain ⟨c00, c01, c02, c03, c04, c05⟩ := en_cells Q0.out
  have HQ0 := Q0
  go_wp2_with fail
  refine (refword_any x.k k0 (by omega) w0).mono ?_
  rintro e w1 ⟨y1, rfl, m1⟩
  obtain ⟨b1, d1, hy1, _⟩ := m1.1.sees.shape
  subst hy1
  have M1 := Lib.hid m1
  obtain ⟨L1, hL1⟩ : ∃ L, L = be2 x.k.toNat := ⟨_, rfl⟩
  rw [← hL1] at M1 ⊢
  have HL1 := Lib.hid hL1
  have HN1 : Hid (L1.length ≤ 10000) := Lib.hid (by rw [hL1, be2_length]; omega)
  clear m1 hL1 c00 c01 c02 c03 c04 c05
  obtain ⟨c00, c01, c02, c03, c04, c05⟩ := en_cells (crow_kept Q0.out M1.out.2.1 (fun h => h))
  dsimp only
  rcases (show x.k = 0 ∨ x.k = 1 ∨ x.k = 2 by omega) with h | h | h
  · have HF : Hid (Made (.slice b1 L1.length d1) (entB x) w w1) := Lib.hid (by
      rw [HB.out [] (by rw [if_neg (by omega), if_neg (by omega)]), List.append_nil, ← HL1.out]
      exact Made.base F0.out M1.out)
    rw [h] at c00
    clear h
    go_wp2_with fail
    go_ret
    exact ⟨_, rfl, HF.out⟩
  · have HF : Hid (entB x = be2 x.k.toNat ++ be2 x.t.toNat ++ be2 x.n.toNat ++ be2 x.p.toNat ++ txt x.l) := Lib.hid (by
      rw [HB.out _ (by rw [if_pos h])]
      unfold callB
      simp only [List.append_assoc])
    rw [h] at c00
    clear h
    go_wp2_with fail
    refine (refword_any x.t t0 t1 w1).mono ?_
    rintro e wp ⟨yp, rfl, o2, f2, k2⟩
    have o1 := M1.out.1.fr f2 (fun _ _ h => h)
    have M0 := M1.out
    obtain ⟨ap, dp, hyp, _⟩ := o2.sees.shape
    subst hyp
    have hlp : (be2 x.t.toNat).length = 2 := be2_length _
    rw [hlp]
    have HO2 := Lib.hid o2
    have HLP := Lib.hid hlp
    clear k2 hlp o2 c00 c01 c02 c03 c04 c05
    dsimp only
    go_wp2_with (at_builtin; refine wpList_append_sep rfl (.tmp 14) (.tmp 20) 23 23 rfl 0 5 i0 (.int .u8 0) 1 1 Try.underlying23 _ Try.underlying23 (.inr ⟨_, rfl⟩) hi hz0 hz1 hz2 rfl (by decide) (.slice b1 L1.length d1) L1.length (L1.map bv) rfl o1 _ 2 ((be2 x.t.toNat).map bv) rfl (lenOf_slice _ _ _) ?hln ?hf1 ?hf2 (bv_one _) ?b1 ?b2 (Nat.zero_le _) ?grow)
    case hln => rw [List.length_map, HLP.out, Nat.mul_one]
    case hf1 => have := HO2.out.sees.first (P := Try.prog); rw [HLP.out] at this; exact this
    case hf2 => have := HO2.out.sees.drew.first (P := Try.prog); rw [HLP.out] at this; exact this
    case b1 => have := HN1.out; have := LM.out.1; unfold maxLen; omega
    case b2 => have := HN1.out; have := LM.out.1; omega
    case grow =>
      intro yq w2 hown hg hv
      have mq : Made yq (L1 ++ be2 x.t.toNat) w0 w2 := Made.append M0 f2 (by rw [HLP.out]) hown hg hv
      obtain ⟨b2, d2, hyq, _⟩ := mq.1.sees.shape
      have hlq : (L1 ++ be2 x.t.toNat).length = L1.length + 2 := by rw [List.length_append, HLP.out]
      obtain ⟨L2, hL2⟩ : ∃ L, L = L1 ++ be2 x.t.toNat := ⟨_, rfl⟩
      rw [← hL2] at mq hyq hlq
      subst hyq
      have M2 := Lib.hid mq
      have HL2 := Lib.hid hL2
      have HN2 : Hid (L2.length ≤ 10000 + 20 * 1000) := Lib.hid (by rw [hlq]; have := HN1.out; have := LM.out.1; omega)
      clear hown hg hv M0 f2 o1 mq hlq hL2 HO2 HLP
      obtain ⟨c00, c01, c02, c03, c04, c05⟩ := en_cells (crow_kept Q0.out M2.out.2.1 (fun h => h))
      go_wp2_with fail
      refine (refword_any x.n n0 n1 w2).mono ?_
      rintro e wp ⟨yp, rfl, o2, f2, k2⟩
      have o1 := M2.out.1.fr f2 (fun _ _ h => h)
      have M0 := M2.out
      obtain ⟨ap, dp, hyp, _⟩ := o2.sees.shape
      subst hyp
      have hlp : (be2 x.n.toNat).length = 2 := be2_length _
      rw [hlp]
      have HO2 := Lib.hid o2
      have HLP := Lib.hid hlp
      clear k2 hlp o2 c00 c01 c02 c03 c04 c05
      dsimp only
      go_wp2_with (at_builtin; refine wpList_append_sep rfl (.tmp 22) (.tmp 28) 23 23 rfl 0 5 i0 (.int .u8 0) 1 1 Try.underlying23 _ Try.underlying23 (.inr ⟨_, rfl⟩) hi hz0 hz1 hz2 rfl (by decide) (.slice b2 L2.length d2) L2.length (L2.map bv) rfl o1 _ 2 ((be2 x.n.toNat).map bv) rfl (lenOf_slice _ _ _) ?hln ?hf1 ?hf2 (bv_one _) ?b1 ?b2 (Nat.zero_le _) ?grow)
      case hln => rw [List.length_map, HLP.out, Nat.mul_one]
      case hf1 => have := HO2.out.sees.first (P := Try.prog); rw [HLP.out] at this; exact this
      case hf2 => have := HO2.out.sees.drew.first (P := Try.prog); rw [HLP.out] at this; exact this
      case b1 => have := HN2.out; have := LM.out.1; unfold maxLen; omega
      case b2 => have := HN2.out; have := LM.out.1; omega
      case grow =>
        intro yq w3 hown hg hv
        have mq : Made yq (L2 ++ be2 x.n.toNat) w0 w3 := Made.append M0 f2 (by rw [HLP.out]) hown hg hv
        obtain ⟨b3, d3, hyq, _⟩ := mq.1.sees.shape
        have hlq : (L2 ++ be2 x.n.toNat).length = L2.length + 2 := by rw [List.length_append, HLP.out]
        obtain ⟨L3, hL3⟩ : ∃ L, L = L2 ++ be2 x.n.toNat := ⟨_, rfl⟩
        rw [← hL3] at mq hyq hlq
        subst hyq
        have M3 := Lib.hid mq
        have HL3 := Lib.hid hL3
        have HN3 : Hid (L3.length ≤ 10000 + 30 * 1000) := Lib.hid (by rw [hlq]; have := HN2.out; have := LM.out.1; omega)
        clear hown hg hv M0 f2 o1 mq hlq hL3 HO2 HLP
        obtain ⟨c00, c01, c02, c03, c04, c05⟩ := en_cells (crow_kept Q0.out M3.out.2.1 (fun h => h))
        go_wp2_with fail
        refine (refword_any x.p p0 p1 w3).mono ?_
        rintro e wp ⟨yp, rfl, o2, f2, k2⟩
        have o1 := M3.out.1.fr f2 (fun _ _ h => h)
        have M0 := M3.out
        obtain ⟨ap, dp, hyp, _⟩ := o2.sees.shape
        subst hyp
        have hlp : (be2 x.p.toNat).length = 2 := be2_length _
        rw [hlp]
        have HO2 := Lib.hid o2
        have HLP := Lib.hid hlp
        clear k2 hlp o2 c00 c01 c02 c03 c04 c05
        dsimp only
        go_wp2_with (at_builtin; refine wpList_append_sep rfl (.tmp 30) (.tmp 34) 23 23 rfl 0 5 i0 (.int .u8 0) 1 1 Try.underlying23 _ Try.underlying23 (.inr ⟨_, rfl⟩) hi hz0 hz1 hz2 rfl (by decide) (.slice b3 L3.length d3) L3.length (L3.map bv) rfl o1 _ 2 ((be2 x.p.toNat).map bv) rfl (lenOf_slice _ _ _) ?hln ?hf1 ?hf2 (bv_one _) ?b1 ?b2 (Nat.zero_le _) ?grow)
        case hln => rw [List.length_map, HLP.out, Nat.mul_one]
        case hf1 => have := HO2.out.sees.first (P := Try.prog); rw [HLP.out] at this; exact this
        case hf2 => have := HO2.out.sees.drew.first (P := Try.prog); rw [HLP.out] at this; exact this
        case b1 => have := HN3.out; have := LM.out.1; unfold maxLen; omega
        case b2 => have := HN3.out; have := LM.out.1; omega
        case grow =>
          intro yq w4 hown hg hv
          have mq : Made yq (L3 ++ be2 x.p.toNat) w0 w4 := Made.append M0 f2 (by rw [HLP.out]) hown hg hv
          obtain ⟨b4, d4, hyq, _⟩ := mq.1.sees.shape
          have hlq : (L3 ++ be2 x.p.toNat).length = L3.length + 2 := by rw [List.length_append, HLP.out]
          obtain ⟨L4, hL4⟩ : ∃ L, L = L3 ++ be2 x.p.toNat := ⟨_, rfl⟩
          rw [← hL4] at mq hyq hlq
          subst hyq
          have M4 := Lib.hid mq
          have HL4 := Lib.hid hL4
          have HN4 : Hid (L4.length ≤ 10000 + 40 * 1000) := Lib.hid (by rw [hlq]; have := HN3.out; have := LM.out.1; omega)
          clear hown hg hv M0 f2 o1 mq hlq hL4 HO2 HLP
          obtain ⟨c00, c01, c02, c03, c04, c05⟩ := en_cells (crow_kept Q0.out M4.out.2.1 (fun h => h))
          have hcv : ∀ W, Fr (fun _ => False) w4 W → (convert 23 9 (.slice a x.l.length c)).run Try.prog W = .ok (.string ⟨x.l.toArray⟩) W := fun W f => ((HE.out.1.fr (F0.out.trans M4.out.2.1 (fun _ _ h => h)) (fun _ _ h => h)).fr f (fun _ _ h => h)).string _ _ _ Try.underlying23 Try.underlying5 Try.underlying9
          have hcv0 := hcv w4 (Fr.refl _ _)
          have hrt := reftext_any ⟨x.l.toArray⟩ (by show x.l.toArray.size ≤ 65535; have := LM.out.1; simp; omega) w4
          have hsl : (⟨x.l.toArray⟩ : ByteArray).data.toList = x.l := by simp
          rw [hsl] at hrt
          have HRT := Lib.hid hrt
          obtain ⟨sx, hsx⟩ : ∃ s : ByteArray, s = ⟨x.l.toArray⟩ := ⟨_, rfl⟩
          rw [← hsx] at hcv0 HRT
          obtain ⟨nt, hnt⟩ : ∃ n, n = (txt x.l).length := ⟨_, rfl⟩
          have HNT : Hid (nt = (txt x.l).length ∧ nt ≤ 4100) := Lib.hid ⟨hnt, by rw [hnt, txt_length]; have := LM.out.1; omega⟩
          clear hcv hrt hsl hsx hnt
          go_wp2_with fail
          refine HRT.out.mono ?_
          rintro e wp ⟨yp, rfl, o2, f2, k2⟩
          have o1 := M4.out.1.fr f2 (fun _ _ h => h)
          have M0 := M4.out
          obtain ⟨ap, dp, hyp, _⟩ := o2.sees.shape
          subst hyp
          have hlp : (txt x.l).length = nt := HNT.out.1.symm
          (try rw [hlp])
          have HO2 := Lib.hid o2
          have HLP := Lib.hid hlp
          clear k2 hlp o2 c00 c01 c02 c03 c04 c05
          dsimp only
          go_wp2_with (at_builtin; refine wpList_append_sep rfl (.tmp 36) (.tmp 41) 23 23 rfl 0 5 i0 (.int .u8 0) 1 1 Try.underlying23 _ Try.underlying23 (.inr ⟨_, rfl⟩) hi hz0 hz1 hz2 rfl (by decide) (.slice b4 L4.length d4) L4.length (L4.map bv) rfl o1 _ nt ((txt x.l).map bv) rfl (lenOf_slice _ _ _) ?hln ?hf1 ?hf2 (bv_one _) ?b1 ?b2 (Nat.zero_le _) ?grow)
          case hln => rw [List.length_map, HLP.out, Nat.mul_one]
          case hf1 => have := HO2.out.sees.first (P := Try.prog); rw [HLP.out] at this; exact this
          case hf2 => have := HO2.out.sees.drew.first (P := Try.prog); rw [HLP.out] at this; exact this
          case b1 => have := HN4.out; have := LM.out.1; have := HNT.out.2; unfold maxLen; omega
          case b2 => have := HN4.out; have := LM.out.1; have := HNT.out.2; omega
          case grow =>
            intro yq w5 hown hg hv
            have mq : Made yq (L4 ++ txt x.l) w0 w5 := Made.append M0 f2 (by rw [HLP.out]) hown hg hv
            obtain ⟨b5, d5, hyq, _⟩ := mq.1.sees.shape
            have hlq : (L4 ++ txt x.l).length = L4.length + nt := by rw [List.length_append, HLP.out]
            obtain ⟨L5, hL5⟩ : ∃ L, L = L4 ++ txt x.l := ⟨_, rfl⟩
            rw [← hL5] at mq hyq hlq
            subst hyq
            have M5 := Lib.hid mq
            have HL5 := Lib.hid hL5
            have HN5 : Hid (L5.length ≤ 10000 + 50 * 1000) := Lib.hid (by rw [hlq]; have := HN4.out; have := LM.out.1; have := HNT.out.2; omega)
            clear hown hg hv M0 f2 o1 mq hlq hL5 HO2 HLP
            obtain ⟨c00, c01, c02, c03, c04, c05⟩ := en_cells (crow_kept Q0.out M5.out.2.1 (fun h => h))
            have HFF : Hid (Made (.slice b5 L5.length d5) (entB x) w w5) := Lib.hid (by
              rw [HF.out, ← HL1.out, ← HL2.out, ← HL3.out, ← HL4.out, ← HL5.out]
              exact Made.base F0.out M5.out)
            go_wp2_with fail
            go_ret
            exact ⟨_, rfl, HFF.out⟩
  · have HF : Hid (entB x = be2 x.k.toNat ++ be2 (x.m.length : Int).toNat ++ memE x.m) := Lib.hid (by
      rw [HB.out _ (by rw [if_neg (by omega), if_pos h]), Int.toNat_natCast]
      simp only [List.append_assoc])
    have hm16 := LM.out.2
    rw [h] at c00
    clear h
    go_wp2_with fail
    refine (refword_any x.m.length (by omega) (by omega) w1).mono ?_
    rintro e wp ⟨yp, rfl, o2, f2, k2⟩
    have o1 := M1.out.1.fr f2 (fun _ _ h => h)
    have M0 := M1.out
    obtain ⟨ap, dp, hyp, _⟩ := o2.sees.shape
    subst hyp
    have hlp : (be2 (x.m.length : Int).toNat).length = 2 := be2_length _
    rw [hlp]
    have HO2 := Lib.hid o2
    have HLP := Lib.hid hlp
    clear k2 hlp o2 c00 c01 c02 c03 c04 c05
    dsimp only
    go_wp2_with (at_builtin; refine wpList_append_sep rfl (.tmp 45) (.tmp 49) 23 23 rfl 0 5 i0 (.int .u8 0) 1 1 Try.underlying23 _ Try.underlying23 (.inr ⟨_, rfl⟩) hi hz0 hz1 hz2 rfl (by decide) (.slice b1 L1.length d1) L1.length (L1.map bv) rfl o1 _ 2 ((be2 (x.m.length : Int).toNat).map bv) rfl (lenOf_slice _ _ _) ?hln ?hf1 ?hf2 (bv_one _) ?b1 ?b2 (Nat.zero_le _) ?grow)
    case hln => rw [List.length_map, HLP.out, Nat.mul_one]
    case hf1 => have := HO2.out.sees.first (P := Try.prog); rw [HLP.out] at this; exact this
    case hf2 => have := HO2.out.sees.drew.first (P := Try.prog); rw [HLP.out] at this; exact this
    case b1 => have := HN1.out; have := LM.out.1; unfold maxLen; omega
    case b2 => have := HN1.out; have := LM.out.1; omega
    case grow =>
      intro yq w2 hown hg hv
      have mq : Made yq (L1 ++ be2 (x.m.length : Int).toNat) w0 w2 := Made.append M0 f2 (by rw [HLP.out]) hown hg hv
      obtain ⟨b2, d2, hyq, _⟩ := mq.1.sees.shape
      have hlq : (L1 ++ be2 (x.m.length : Int).toNat).length = L1.length + 2 := by rw [List.length_append, HLP.out]
      obtain ⟨L2, hL2⟩ : ∃ L, L = L1 ++ be2 (x.m.length : Int).toNat := ⟨_, rfl⟩
      rw [← hL2] at mq hyq hlq
      subst hyq
      have M2 := Lib.hid mq
      have HL2 := Lib.hid hL2
      have HN2 : Hid (L2.length ≤ 10000 + 20 * 1000) := Lib.hid (by rw [hlq]; have := HN1.out; have := LM.out.1; omega)
      clear hown hg hv M0 f2 o1 mq hlq hL2 HO2 HLP
      obtain ⟨c00, c01, c02, c03, c04, c05⟩ := en_cells (crow_kept Q0.out M2.out.2.1 (fun h => h))
      go_upto_region 11 with fail
      go_loopg [3, 54] x.m.length (fun gh u3 u54 wr => ∃ (k : Nat) (L : List UInt8) (bb : Option Addr) (dd : Nat), k ≤ x.m.length ∧ gh = x.m.length - k ∧ u54 = .int .i64 k ∧ u3 = .slice bb L.length dd ∧ Hid (Made (.slice bb L.length dd) L w0 wr) ∧ Hid (L = L2 ++ memE (x.m.take k)))
      case atStart => exact ⟨0, L2, b2, d2, Nat.zero_le _, rfl, rfl, rfl, M2, Lib.hid (by simp [memE])⟩
      case round =>
        obtain ⟨k, L9, b9, d9, hk, rfl, rfl, rfl, M9, HL9⟩ := hrel
        by_cases hlt : k < x.m.length
        case neg =>
          obtain rfl : k = x.m.length := by omega
          have HFF : Hid (Made (.slice b9 L9.length d9) (entB x) w wr) := Lib.hid (by
            have h9 := HL9.out
            rw [List.take_length] at h9
            rw [HF.out, ← HL1.out, ← HL2.out, ← h9]
            exact Made.base F0.out M9.out)
          go_wp2_with fail
          go_ret
          exact ⟨_, rfl, HFF.out⟩
        obtain ⟨hcap, g, off, rfl, hcell⟩ := (HC.out.fr (F0.out.trans M9.out.2.1 (fun _ _ h => h))) (by omega)
        have ck := hcell k hlt
        obtain ⟨z, hz⟩ : ∃ z, z = x.m[k] := ⟨_, rfl⟩
        rw [← hz] at ck
        have hzb : 0 ≤ z ∧ z ≤ 65535 := by rw [hz]; exact MB.out _ (List.getElem_mem hlt)
        obtain ⟨hq0, hq1⟩ := hzb
        have HST : Hid (memE (x.m.take (k + 1)) = memE (x.m.take k) ++ be2 z.toNat) := Lib.hid (by rw [memE_step x.m k hlt, hz])
        have HN9 : Hid (L9.length ≤ 80000) := Lib.hid (by
          rw [HL9.out, List.length_append, memE_length, List.length_take]
          have := HN2.out
          omega)
        clear hcell hz
        go_wp2_with fail
        refine (refword_any z (by omega) (by omega) wr).mono ?_
        rintro e wp ⟨yp, rfl, o2, f2, k2⟩
        have o1 := M9.out.1.fr f2 (fun _ _ h => h)
        have M0 := M9.out
        obtain ⟨ap, dp, hyp, _⟩ := o2.sees.shape
        subst hyp
        have hlp : (be2 z.toNat).length = 2 := be2_length _
        rw [hlp]
        have HO2 := Lib.hid o2
        have HLP := Lib.hid hlp
        clear k2 hlp o2
        dsimp only
        go_wp2_with (at_builtin; refine wpList_append_sep rfl (.tmp 58) (.tmp 60) 23 23 rfl 0 5 i0 (.int .u8 0) 1 1 Try.underlying23 _ Try.underlying23 (.inr ⟨_, rfl⟩) hi hz0 hz1 hz2 rfl (by decide) (.slice b9 L9.length d9) L9.length (L9.map bv) rfl o1 _ 2 ((be2 z.toNat).map bv) rfl (lenOf_slice _ _ _) ?hln ?hf1 ?hf2 (bv_one _) ?b1 ?b2 (Nat.zero_le _) ?grow)
        case hln => rw [List.length_map, HLP.out, Nat.mul_one]
        case hf1 => have := HO2.out.sees.first (P := Try.prog); rw [HLP.out] at this; exact this
        case hf2 => have := HO2.out.sees.drew.first (P := Try.prog); rw [HLP.out] at this; exact this
        case b1 => have := HN9.out; have := LM.out.1; unfold maxLen; omega
        case b2 => have := HN9.out; have := LM.out.1; omega
        case grow =>
          intro yq wz hown hg hv
          have mq : Made yq (L9 ++ be2 z.toNat) w0 wz := Made.append M0 f2 (by rw [HLP.out]) hown hg hv
          obtain ⟨bz, dz, hyq, _⟩ := mq.1.sees.shape
          have hlq : (L9 ++ be2 z.toNat).length = L9.length + 2 := by rw [List.length_append, HLP.out]
          obtain ⟨Lz, hLz⟩ : ∃ L, L = L9 ++ be2 z.toNat := ⟨_, rfl⟩
          rw [← hLz] at mq hyq hlq
          subst hyq
          have Mz := Lib.hid mq
          have HLz := Lib.hid hLz
          clear hown hg hv M0 f2 o1 mq hlq hLz HO2 HLP
          have HLq : Hid (Lz = L2 ++ memE (x.m.take (k + 1))) := Lib.hid (by rw [HLz.out, HL9.out, HST.out, List.append_assoc])
          go_wp2_with fail
          go_roundg (x.m.length - (k + 1))
          case measure => omega
          case rel => exact ⟨k + 1, Lz, bz, dz, by omega, rfl, by congr 1, rfl, Mz, HLq⟩

end Go.Proofs.Ytmpnomngnfffbaa
