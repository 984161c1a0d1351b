/-
  The law TroupeHalves, walked.
-/
import Derived.Test.YtlcdmaehedhipaaTrNext
namespace Go.Proofs.Ytlcdmaehedhipaa
open Go.RowKit
set_option maxRecDepth 100000

theorem countP_both (p q : Int → Bool) : ∀ (l : List Int), l.countP p + l.countP q ≤ l.length + l.countP (fun x => p x && q x)
  | [] => by simp
  | x :: l => by
    have := countP_both p q l
    simp only [List.countP_cons, List.length_cons]
    cases p x <;> cases q x <;> simp <;> omega

/-- Two groups, each more than half, have a member in common. -/
theorem halves_meet (l x y : List Int) (h1 : (l.length : Int) < 2 * (inC l x : Int)) (h2 : (l.length : Int) < 2 * (inC l y : Int)) : ∃ z, z ∈ l ∧ z ∈ x ∧ z ∈ y := by
  have h3 := countP_both (fun z => decide (z ∈ x)) (fun z => decide (z ∈ y)) l
  unfold inC at h1 h2
  have h4 : 0 < l.countP (fun z => decide (z ∈ x) && decide (z ∈ y)) := by omega
  obtain ⟨z, hz, hp⟩ := List.countP_pos_iff.1 h4
  simp at hp
  exact ⟨z, hz, hp.1, hp.2⟩

/-- A call of the laws' Members, opened: a slice that shows the bits. -/
theorem members_open (m : Nat) (hm : m < 65536) (w : World) :
    Calls Try.prog 9 #[.int .u16 m] w fun e w' => ∃ a c, e = .returned (.slice a (bitsL m).length c) ∧ SIc w' a c (bitsL m) ∧ Fr (fun _ => False) w w' := by
  refine (lmembers_any m hm w).mono ?_
  rintro e w1 ⟨v, rfl, h1, h2⟩
  obtain ⟨a, c, rfl, h3⟩ := h1.si.shape
  exact ⟨a, c, rfl, h3, h2⟩

set_option maxHeartbeats 16000000 in
theorem halves_law (a b c : Nat) (ha : a < 65536) (hb : b < 65536) (hc : c < 65536) (w : World) :
    Calls Try.prog 6 #[.int .u16 a, .int .u16 b, .int .u16 c] w fun e w' => e = .returned (.bool true) ∧ Fr (fun _ => False) w w' := by
  have Hma := Lib.hid (fun W => members_open a ha W)
  have Hmb := Lib.hid (fun W => members_open b hb W)
  have Hmc := Lib.hid (fun W => members_open c hc W)
  have HLa := Lib.hid (bitsL_len a ha)
  have HLb := Lib.hid (bitsL_len b hb)
  have HLc := Lib.hid (bitsL_len c hc)
  clear ha hb hc
  generalize bitsL a = la at *
  generalize bitsL b = lb at *
  generalize bitsL c = lc at *
  go_enter Try.func6, Try.ntmps6
  go_wp2_with fail
  refine (tawake_any _).mono ?_
  rintro e w1 ⟨rfl, f1⟩
  have F1 := Lib.hid f1; clear f1
  go_wp2_with fail
  refine (Hma.out _).mono ?_
  rintro e w2 ⟨aa, ca, rfl, sa, f2⟩
  have F2 := Lib.hid (F1.out.trans f2 (fun _ _ h => h)); clear f2
  have hq := heap_alloc_new w2 (oVw 0 aa la.length ca)
  have f3 : Fr (fun _ => False) w2 (w2.alloc (oVw 0 aa la.length ca)) := (Fr.refl _ _).alloc _
  have SA3 := Lib.hid (sa.fr f3)
  have F3 := Lib.hid (F2.out.trans f3 (fun _ _ h => h))
  clear f3 sa
  go_wp2_with fail
  generalize w2.alloc (oVw 0 aa la.length ca) = w3 at *
  generalize w2.heap.size = gv at *
  have HQ3 := Lib.hid hq; clear hq
  refine (Hmb.out _).mono ?_
  rintro e w4 ⟨ab, cb, rfl, sb, f4⟩
  have HQ4 := Lib.hid (lblock_kept HQ3.out f4 (fun h => h))
  have SA4 := Lib.hid (SA3.out.fr f4)
  have F4 := Lib.hid (F3.out.trans f4 (fun _ _ h => h))
  have SB4 := Lib.hid sb
  clear f4 sb
  go_wp2_with fail
  refine (Hmc.out _).mono ?_
  rintro e w5 ⟨ac, cc, rfl, sc, f5⟩
  have hq5 := lblock_kept HQ4.out f5 (fun h => h)
  have SA5 := Lib.hid (SA4.out.fr f5)
  have SB5 := Lib.hid (SB4.out.fr f5)
  have SC5 := Lib.hid sc
  have F5 := Lib.hid (F4.out.trans f5 (fun _ _ h => h))
  clear f5 sc
  obtain ⟨q0, q1⟩ := vw_cells hq5
  have HQ5 := Lib.hid hq5; clear hq5
  go_wp2_with fail
  refine (most_any 0 la lb aa ab ca cb _ SA5.out SB5.out (by have := HLa.out; omega) (by have := HLb.out; omega)).mono ?_
  rintro e w6 ⟨rfl, f6⟩
  clear q0 q1
  obtain ⟨q0, q1⟩ := vw_cells (lblock_kept HQ5.out f6 (fun h => h))
  have HQ6 := Lib.hid (lblock_kept HQ5.out f6 (fun h => h))
  have SA6 := Lib.hid (SA5.out.fr f6)
  have SB6 := Lib.hid (SB5.out.fr f6)
  have SC6 := Lib.hid (SC5.out.fr f6)
  have F6 := Lib.hid (F5.out.trans f6 (fun _ _ h => h))
  clear f6
  by_cases h1 : (la.length : Int) < 2 * (inC la lb : Int)
  case neg =>
    have h1' : decide ((la.length : Int) < 2 * (inC la lb : Int)) = false := by simpa using h1
    rw [h1']
    clear h1 h1'
    go_wp2_with fail
    go_ret
    exact ⟨rfl, F6.out⟩
  have h1' : decide ((la.length : Int) < 2 * (inC la lb : Int)) = true := by simpa using h1
  rw [h1']
  have H1 := Lib.hid h1
  clear h1 h1'
  go_wp2_with fail
  refine (most_any 0 la lc aa ac ca cc _ SA6.out SC6.out (by have := HLa.out; omega) (by have := HLc.out; omega)).mono ?_
  rintro e w7 ⟨rfl, f7⟩
  clear q0 q1
  have HQ7 := Lib.hid (lblock_kept HQ6.out f7 (fun h => h))
  have SA7 := Lib.hid (SA6.out.fr f7)
  have SB7 := Lib.hid (SB6.out.fr f7)
  have SC7 := Lib.hid (SC6.out.fr f7)
  have F7 := Lib.hid (F6.out.trans f7 (fun _ _ h => h))
  clear f7
  by_cases h2 : (la.length : Int) < 2 * (inC la lc : Int)
  case neg =>
    have h1' : decide ((la.length : Int) < 2 * (inC la lc : Int)) = false := by simpa using h2
    rw [h1']
    clear h2 h1'
    go_wp2_with fail
    go_ret
    exact ⟨rfl, F7.out⟩
  have h1' : decide ((la.length : Int) < 2 * (inC la lc : Int)) = true := by simpa using h2
  rw [h1']
  have HZ : Hid (∃ z, z ∈ la ∧ z ∈ lb ∧ z ∈ lc) := Lib.hid (halves_meet la lb lc H1.out h2)
  clear h2 h1'
  have HLb1 : Hid (lb.length ≤ 16) := Lib.hid HLb.out.2
  have HLc1 : Hid (lc.length ≤ 16) := Lib.hid HLc.out.2
  have HLa1 : Hid (la.length ≤ 16) := Lib.hid HLa.out.2
  clear HQ3 HQ4 HQ5 HQ6 SA3 SA4 SA5 SA6 SB4 SB5 SB6 SC5 SC6 F1 F2 F3 F4 F5 F6 Hma Hmb Hmc H1 HLa HLb HLc
  have hlb := HLb1.out
  have hlc := HLc1.out
  go_wp2_with fail
  go_loopg [35] lb.length (fun g u35 wr => ∃ k : Nat, k ≤ lb.length ∧ g = lb.length - k ∧ u35 = .int .i64 k ∧ Hid (Fr (fun _ => False) w7 wr) ∧ Hid (∀ j, (hj : j < lb.length) → j < k → ¬ (lb[j] ∈ lc ∧ lb[j] ∈ la)))
  case atStart => exact ⟨0, Nat.zero_le _, rfl, rfl, Lib.hid (Fr.refl _ _), Lib.hid (fun j _ hj => by omega)⟩
  case round =>
    obtain ⟨k, hk, rfl, rfl, FR, HA⟩ := hrel
    by_cases hlt : k < lb.length
    case neg =>
      exfalso
      obtain ⟨z, z1, z2, z3⟩ := HZ.out
      obtain ⟨j, hj, rfl⟩ := List.getElem_of_mem z2
      exact HA.out j hj (by omega) ⟨z3, z1⟩
    obtain ⟨hcap, g, off, rfl, hcell⟩ := (SB7.out.fr FR.out) (by omega)
    obtain ⟨x, hx⟩ : ∃ x, x = lb[k] := ⟨_, rfl⟩
    have hck := hcell k hlt
    rw [← hx] at hck
    have Hx := Lib.hid hx
    clear hcell hx hcap
    go_upto_region 11 with fail
    clear hck
    obtain ⟨wo, hwo⟩ : ∃ wo : World, wo = wr := ⟨_, rfl⟩
    rw [← hwo] at FR ⊢
    clear hwo
    go_loopg [41] lc.length (fun g u41 wr => ∃ i : Nat, i ≤ lc.length ∧ g = lc.length - i ∧ u41 = .int .i64 i ∧ Hid (Fr (fun _ => False) w7 wr) ∧ Hid (∀ j, (hj : j < lc.length) → j < i → ¬ (x = lc[j] ∧ x ∈ la)))
    case atStart => exact ⟨0, Nat.zero_le _, rfl, rfl, FR, Lib.hid (fun j _ hj => by omega)⟩
    case round =>
      obtain ⟨i, hi, rfl, rfl, FI, HI⟩ := hrel
      by_cases hlti : i < lc.length
      case pos =>
        obtain ⟨hcap, g', off', rfl, hcell⟩ := (SC7.out.fr FI.out) (by omega)
        obtain ⟨y, hy⟩ : ∃ y, y = lc[i] := ⟨_, rfl⟩
        have hck := hcell i hlti
        rw [← hy] at hck
        have Hy := Lib.hid hy
        have hq := lblock_kept HQ7.out FI.out (fun h => h)
        obtain ⟨q0, q1⟩ := vw_cells hq
        clear hcell hy hcap hq
        by_cases he : x = y
        · have hxy : (x == y) = true := by simp [he]
          have HE := Lib.hid he
          clear he
          go_wp2_with fail
          refine (has_any 0 x la aa ca _ (SA7.out.fr FI.out) (by have := HLa1.out; omega)).mono ?_
          rintro e w8 ⟨rfl, f8⟩
          clear q0 q1 hck
          have F8 := Lib.hid (FI.out.trans f8 (fun _ _ h => h))
          clear f8
          by_cases hm : x ∈ la
          · have hm1 : decide (x ∈ la) = true := by simp [hm]
            rw [hm1]
            clear hm hm1
            go_wp2_with fail
            go_ret
            exact ⟨rfl, F7.out.trans F8.out (fun _ _ h => h)⟩
          · have hm1 : decide (x ∈ la) = false := by simp [hm]
            have HM := Lib.hid hm
            rw [hm1]
            clear hm hm1
            go_wp2_with fail
            go_roundg (lc.length - (i + 1))
            case measure => omega
            case rel => exact ⟨i + 1, by omega, rfl, by congr 1, F8, Lib.hid (fun j hj hji h => by
              by_cases e : j = i
              · exact HM.out h.2
              · exact HI.out j hj (by omega) h)⟩
        · have hxy : (x == y) = false := by simp [he]
          have HE := Lib.hid he
          clear he
          go_wp2_with fail
          go_roundg (lc.length - (i + 1))
          case measure => omega
          case rel => exact ⟨i + 1, by omega, rfl, by congr 1, FI, Lib.hid (fun j hj hji h => by
            by_cases e : j = i
            · subst e; exact HE.out (by rw [Hy.out]; exact h.1)
            · exact HI.out j hj (by omega) h)⟩
      case neg =>
        have HF : Hid (¬ (x ∈ lc ∧ x ∈ la)) := Lib.hid (fun h => by
          obtain ⟨j, hj, e⟩ := List.getElem_of_mem h.1
          exact HI.out j hj (by omega) ⟨e.symm, h.2⟩)
        go_wp2_with fail
        go_roundg (lb.length - (k + 1))
        case measure => omega
        case rel => exact ⟨k + 1, by omega, rfl, by congr 1, FI, Lib.hid (fun j hj hjk h => by
          by_cases e : j = k
          · subst e; rw [← Hx.out] at h; exact HF.out h
          · exact HA.out j hj (by omega) h)⟩

theorem halves_all (a : Int) (ha0 : 0 ≤ a) (ha1 : a ≤ 65535) (b : Int) (hb0 : 0 ≤ b) (hb1 : b ≤ 65535) (c : Int) (hc0 : 0 ≤ c) (hc1 : c ≤ 65535) (w : World) :
    Calls Try.prog 6 #[.int .u16 a, .int .u16 b, .int .u16 c] w fun e w' => e = .returned (.bool true) ∧ Fr (fun _ => False) w w' := by
  obtain ⟨x, rfl⟩ := Int.eq_ofNat_of_zero_le ha0
  obtain ⟨y, rfl⟩ := Int.eq_ofNat_of_zero_le hb0
  obtain ⟨z, rfl⟩ := Int.eq_ofNat_of_zero_le hc0
  exact halves_law x y z (by omega) (by omega) (by omega) w

end Go.Proofs.Ytlcdmaehedhipaa
