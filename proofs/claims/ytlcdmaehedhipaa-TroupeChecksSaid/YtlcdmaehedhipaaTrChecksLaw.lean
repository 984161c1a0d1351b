/-
  The law TroupeChecks, walked.
-/
import Derived.Test.YtlcdmaehedhipaaTrHalvesLaw
import Derived.OpenShut
namespace Go.Proofs.Ytlcdmaehedhipaa
open Go.RowKit
set_option maxRecDepth 100000
set_option linter.unusedSimpArgs false
set_option linter.unusedVariables false

theorem asc_snoc (x : Int) : ∀ (p : Int) (l : List Int), asc p (l ++ [x]) = (asc p l && (decide ((l.getLast?.getD p) < x) && decide (x < 16)))
  | p, [] => by
    show (decide (p < x) && decide (x < 16) && true) = (true && (decide (p < x) && decide (x < 16)))
    rw [Bool.and_true, Bool.true_and]
  | p, y :: l => by
    rw [List.cons_append, asc, asc, asc_snoc x y l, List.getLast?_cons]
    simp [Bool.and_assoc]

/-- The error that is wanted behind k of them. -/
def wantC (l : List Int) (k : Nat) : Int := if 1 ≤ l.length ∧ l.length ≤ 16 then (if asc (-1) (l.take k) then 0 else 2) else 7

theorem wantC_end (l : List Int) : wantC l l.length = chkM l := by
  unfold wantC chkM
  rw [List.take_length]

theorem wantC_cases (l : List Int) (k : Nat) : wantC l k = 0 ∨ wantC l k ≠ 0 := by omega

/-- The one ahead. -/
def prevC (l : List Int) (k : Nat) : Int := (l.take k).getLast?.getD (-1)
theorem prevC_zero (l : List Int) : prevC l 0 = -1 := by simp [prevC]
theorem prevC_succ (l : List Int) (k : Nat) (hk : k < l.length) : prevC l (k + 1) = l[k] := by
  unfold prevC
  rw [List.take_succ_eq_append_getElem hk, List.getLast?_concat]
  rfl

theorem wantC_step (l : List Int) (k : Nat) (hk : k < l.length) : wantC l (k + 1) = if wantC l k = 0 then (if prevC l k < l[k] ∧ l[k] < 16 then 0 else 2) else wantC l k := by
  unfold wantC
  rw [List.take_succ_eq_append_getElem hk, asc_snoc]
  by_cases h : 1 ≤ l.length ∧ l.length ≤ 16
  · simp only [if_pos h]
    cases ha : asc (-1) (l.take k)
    · simp
    · by_cases h2 : prevC l k < l[k] ∧ l[k] < 16
      · rw [if_pos h2]
        have h3 := h2.1
        unfold prevC at h3
        simp [h3, h2.2]
      · rw [if_neg h2]
        unfold prevC at h2
        simp
        intro h3
        exact Int.not_lt.1 (fun h4 => h2 ⟨h3, h4⟩)
  · simp only [if_neg h]
    simp

theorem near_mod (n : Int) (h0 : 0 ≤ n) (h1 : n ≤ 255) : IntKind.i64.wrap (n % 18 - 1) = n % 18 - 1 := by rw [IntKind.wrap_i64]; omega

def nearL (l : List Int) (k : Nat) : List Int := (l.take k).map (fun n => n % 18 - 1)
theorem nearL_step (l : List Int) (k : Nat) (hk : k < l.length) : nearL l (k + 1) = nearL l k ++ [l[k] % 18 - 1] := by
  unfold nearL
  rw [List.take_succ_eq_append_getElem hk, List.map_append]
  rfl
theorem nearL_le (l : List Int) (k : Nat) : (nearL l k).length ≤ l.length := by unfold nearL; simp; omega

theorem nxN3 (x : List Int) : nxN [3] x = (decide (chkM x = 0) && decide ((3 : Int) ∈ x)) := by
  unfold nxN inC
  congr 1
  by_cases h : (3 : Int) ∈ x
  · simp [h]
  · simp [h]

set_option maxHeartbeats 32000000 in
theorem checks_law (l s : List Int) (number : Int) (hs : ∀ x ∈ s, 0 ≤ x ∧ x ≤ 255) (a b : Option Addr) (c d : Nat) (w : World) (hl : SIc w a c l) (hb : SeesL w (.slice b s.length d) (s.map (Value.int .u8))) :
    Calls Try.prog 5 #[.slice a l.length c, .slice b s.length d, .int .i64 number] w fun e w' => e = .returned (.bool true) ∧ Fr (fun _ => False) w w' := by
  obtain ⟨i0, hi, hz0, hz1, hz2⟩ := info_parts Try.infoInt
  have HSR := Lib.hid hs
  have HLS := Lib.hid hl
  have HSS := Lib.hid hb
  clear hs hl hb
  go_enter Try.func5, Try.ntmps5
  go_wp2_with fail
  refine (tawake_any _).mono ?_
  rintro e w1 ⟨rfl, f1⟩
  have F1 := Lib.hid f1; clear f1
  by_cases hn : l.length ≤ 30
  case neg =>
    have hn' : (30 : Int) < (l.length : Int) := by omega
    clear hn
    go_wp2_with fail
    go_ret
    exact ⟨rfl, F1.out⟩
  have hn' : ¬ (30 : Int) < (l.length : Int) := by omega
  by_cases hm : s.length ≤ 30
  case neg =>
    have hm' : (30 : Int) < (s.length : Int) := by omega
    clear hm
    go_wp2_with fail
    go_ret
    exact ⟨rfl, F1.out⟩
  have hm' : ¬ (30 : Int) < (s.length : Int) := by omega
  have HN := Lib.hid (And.intro hn hm)
  go_upto_region 7 with fail
  clear hn hn' hm'
  go_loopg [7, 34] s.length (fun g u7 u34 wr => ∃ k : Nat, k ≤ s.length ∧ g = s.length - k ∧ u34 = .int .i64 k ∧ Hid (OI wr w.heap.size u7 (nearL s k)) ∧ Hid (Fr (fun _ => False) w wr))
  case atStart => exact ⟨0, Nat.zero_le _, rfl, rfl, Lib.hid (World.ownsRow_nil _ _ 3 1), F1⟩
  case round =>
    obtain ⟨k, hk, rfl, rfl, HO, F⟩ := hrel
    by_cases hlt : k < s.length
    case pos =>
      rcases HSS.out.fr0 F.out with ⟨h0, _⟩ | ⟨g, off, cap, e, hle, hcell⟩
      · rw [List.map_eq_nil_iff] at h0; rw [h0] at hlt; simp at hlt
      simp only [Value.slice.injEq] at e
      obtain ⟨rfl, -, rfl⟩ := e
      obtain ⟨x, hx⟩ : ∃ x, x = s[k] := ⟨_, rfl⟩
      have hxr := HSR.out _ (List.getElem_mem hlt)
      have hck := hcell k (.int .u8 x) (by rw [List.getElem?_map, List.getElem?_eq_getElem hlt, ← hx]; rfl)
      have HST := Lib.hid (nearL_step s k hlt)
      have HLE := Lib.hid (nearL_le s k)
      rw [← hx] at hxr
      have Hx := Lib.hid hx
      clear hcell hx hle
      have hmod : IntKind.i64.wrap (x % 18 - 1) = x % 18 - 1 := near_mod x hxr.1 hxr.2
      obtain ⟨z, hz⟩ : ∃ z, x % 18 - 1 = z := ⟨_, rfl⟩
      have HST2 : Hid (nearL s (k + 1) = nearL s k ++ [z]) := Lib.hid (by rw [HST.out, ← Hx.out, hz])
      have HMD := Lib.hid hmod
      clear hmod HST
      obtain ⟨hx0, hx1⟩ := hxr
      have hr0 : 0 ≤ x % 18 ∧ x % 18 ≤ 17 := by omega
      have HZ := Lib.hid hz
      clear hz
      generalize hL : nearL s k = L at *
      clear hL
      go_wp2_with (at_builtin; refine wpList_append_sep rfl (.tmp 38) (.tmp 43) 24 24 rfl w.heap.size 3 i0 (.int .i64 0) 1 8 Try.underlying24 _ Try.underlying24 (.inr ⟨_, rfl⟩) hi hz0 hz1 hz2 rfl (by decide) u7 L.length (L.map (Value.int .i64)) rfl ?own _ 1 [.int .i64 z] rfl (lenOf_slice _ _ _) rfl ?c1 ?c2 ?one ?b1 ?b2 ?base ?grow)
      case own => exact World.ownsRow.alloc HO.out _
      case c1 => rw [← HZ.out]; exact first_row (heap_alloc_new _ _) 1 1 rfl
      case c2 => rw [← HZ.out]; exact first_row (by exact heap_alloc_new _ _) 1 1 rfl
      case one => intro u hu; simp at hu; subst hu; rfl
      case b1 => have := HLE.out; have := HN.out; unfold maxLen; omega
      case b2 => have := HLE.out; have := HN.out; omega
      case base => have := F.out.size; simp; omega
      case grow =>
        intro v' w1 hown hg hv
        have HNN : Hid (OI w1 w.heap.size v' (nearL s (k + 1))) := Lib.hid (by rw [HST2.out]; exact oi_snoc hown rfl)
        have HF : Hid (Fr (fun _ => False) w w1) := Lib.hid ((F.out.alloc _).trans (Fr.of_grown hg) (fun i hi e => by have := oi_le HO.out i e.symm; omega))
        clear hown hg hv
        go_wp2_with fail
        go_roundg (s.length - (k + 1))
        case measure => omega
        case rel => exact ⟨k + 1, by omega, rfl, by congr 1, HNN, HF⟩
    case neg =>
      obtain ⟨near, hnear⟩ : ∃ near, near = nearL s k := ⟨_, rfl⟩
      have HNL : Hid (near.length ≤ 30) := Lib.hid (by rw [hnear]; have := nearL_le s k; have := HN.out; omega)
      have HO2 := HO.out.si
      rw [← hnear] at HO2
      obtain ⟨an, cn, rfl, sn⟩ := HO2.shape
      have hq := heap_alloc_new wr (.cells #[.slice a l.length c, .slice an near.length cn] 24)
      have f3 : Fr (fun _ => False) wr (wr.alloc (.cells #[.slice a l.length c, .slice an near.length cn] 24)) := (Fr.refl _ _).alloc _
      have SN := Lib.hid (sn.fr f3)
      have SL := Lib.hid (HLS.out.fr (F.out.trans f3 (fun _ _ h => h)))
      have F3 := Lib.hid (F.out.trans f3 (fun _ _ h => h))
      have HLL : Hid (l.length ≤ 30) := Lib.hid HN.out.1
      clear sn f3 HO hnear HO2 F
      go_upto_region 12 with fail
      generalize wr.alloc (.cells #[.slice a l.length c, .slice an near.length cn] 24) = w3 at *
      generalize wr.heap.size = gb at *
      have HX : Hid (∀ k : Nat, k < 2 → ∀ W, Fr (fun _ => False) w3 W → ∃ ax cx lx, W.cell? ⟨gb, k, none⟩ = some (.slice ax lx.length cx) ∧ SIc W ax cx lx ∧ lx.length ≤ 30) := Lib.hid (by
        intro k hk W f
        have hqW := lblock_kept hq f (fun h => h)
        match k, hk with
        | 0, _ => exact ⟨a, c, l, by rw [cell_of_row W gb _ _ _ _ hqW]; rfl, SL.out.fr f, HLL.out⟩
        | 1, _ => exact ⟨an, cn, near, by rw [cell_of_row W gb _ _ _ _ hqW]; rfl, SN.out.fr f, HNL.out⟩)
      clear hq SN SL HLL HNL HN F1 HSR HLS HSS hm hlt
      obtain ⟨wo, hwo⟩ : ∃ wo : World, wo = wr := ⟨_, rfl⟩
      clear hwo
      go_loopg [50] 2 (fun g u50 wr => ∃ i : Nat, i ≤ 2 ∧ g = 2 - i ∧ u50 = .int .i64 i ∧ Hid (Fr (fun _ => False) w3 wr))
      case atStart => exact ⟨0, by omega, rfl, rfl, Lib.hid (Fr.refl _ _)⟩
      case round =>
        obtain ⟨i, hi2, rfl, rfl, FR⟩ := hrel
        by_cases hilt : i < 2
        case neg =>
          obtain rfl : i = 2 := by omega
          go_wp2_with fail
          go_ret
          exact ⟨rfl, F3.out.trans FR.out (fun _ _ h => h)⟩
        obtain ⟨ax, cx, x, hcx, sx, hxl⟩ := HX.out i hilt wr FR.out
        have SX := Lib.hid sx
        have HXL := Lib.hid hxl
        clear sx
        go_upto_region 15 with fail
        clear hcx
        obtain ⟨bad, hbad⟩ : ∃ bad, bad = !(decide (1 ≤ x.length) && decide (x.length ≤ 16)) := ⟨_, rfl⟩
        have HBAD := Lib.hid hbad
        clear hbad
        go_cut [61] from 51 to 137 (fun u61 wx => u61 = .bool bad ∧ Hid (wr = wx))
        case first =>
          by_cases h1 : 1 ≤ x.length
          · by_cases h2 : x.length ≤ 16
            · have g1 : ¬ (x.length : Int) < 1 := by omega
              have g2 : ¬ (16 : Int) < (x.length : Int) := by omega
              have HE : Hid (bad = false) := Lib.hid (by rw [HBAD.out]; simp [h1, h2])
              clear h1 h2 hxl
              go_wp2_with fail
              go_meet
              case rel => exact ⟨by rw [HE.out], Lib.hid rfl⟩
            · have g1 : ¬ (x.length : Int) < 1 := by omega
              have g2 : (16 : Int) < (x.length : Int) := by omega
              have HE : Hid (bad = true) := Lib.hid (by rw [HBAD.out]; simp [h2])
              clear h1 h2 hxl
              go_wp2_with fail
              go_meet
              case rel => exact ⟨by rw [HE.out], Lib.hid rfl⟩
          · have g1 : (x.length : Int) < 1 := by omega
            have HE : Hid (bad = true) := Lib.hid (by rw [HBAD.out]; simp [h1])
            clear h1 hxl
            go_wp2_with fail
            go_meet
            case rel => exact ⟨by rw [HE.out], Lib.hid rfl⟩
        case rest =>
        obtain ⟨rfl, HW⟩ := hcut
        obtain rfl := HW.out
        clear HW
        go_upto_if 61 with fail
        go_cut [12] from 51 to 137 (fun u12 wx => u12 = .int .i64 (wantC x 0) ∧ Hid (wr = wx))
        case first =>
          cases bad
          · have HE : Hid (wantC x 0 = 0) := Lib.hid (by unfold wantC; rw [if_pos (by have := HBAD.out; simpa using this)]; rfl)
            go_wp2_with fail
            go_meet
            case rel => exact ⟨by rw [HE.out], Lib.hid rfl⟩
          · have HE : Hid (wantC x 0 = 7) := Lib.hid (by unfold wantC; rw [if_neg (fun hh => by have := HBAD.out; simp [hh.1, hh.2] at this)])
            go_wp2_with fail
            go_meet
            case rel => exact ⟨by rw [HE.out], Lib.hid rfl⟩
        case rest =>
          obtain ⟨rfl, HW⟩ := hcut
          obtain rfl := HW.out
          go_upto_region 18 with fail
          obtain ⟨w4, hw4⟩ : ∃ w4 : World, w4 = wr := ⟨_, rfl⟩
          rw [← hw4] at FR SX ⊢
          clear hw4
          go_loopg [12, 64] x.length (fun g u12 u64 wr => ∃ (k : Nat) (z : Int), k ≤ x.length ∧ g = x.length - k ∧ u64 = .int .i64 k ∧ u12 = .int .i64 z ∧ Hid (z = wantC x k) ∧ w4 = wr)
          case atStart => exact ⟨0, wantC x 0, Nat.zero_le _, rfl, rfl, rfl, Lib.hid rfl, rfl⟩
          case round =>
            obtain ⟨k, z, hk, rfl, rfl, rfl, HZ, rfl⟩ := hrel
            by_cases hlt : k < x.length
            case pos =>
              obtain ⟨hcap, g, off, rfl, hcell⟩ := SX.out (by omega)
              obtain ⟨v, hv⟩ : ∃ v, v = x[k] := ⟨_, rfl⟩
              have hck := hcell k hlt
              have HST := Lib.hid (wantC_step x k hlt)
              rw [← hv] at hck
              have Hv := Lib.hid hv
              by_cases hz : z = 0
              case neg =>
                have HST2 : Hid (z = wantC x (k + 1)) := Lib.hid (by rw [HST.out, ← HZ.out, if_neg hz])
                have hz' : (z == 0) = false := by simp [hz]
                clear hcell hv hcap hz
                go_wp2_with fail
                go_roundg (x.length - (k + 1))
                case measure => omega
                case rel => exact ⟨k + 1, z, by omega, rfl, by congr 1, rfl, HST2, rfl⟩
              subst hz
              have HST2 : Hid (wantC x (k + 1) = if prevC x k < v ∧ v < 16 then 0 else 2) := Lib.hid (by rw [HST.out, ← HZ.out, if_pos rfl, Hv.out])
              clear HST
              by_cases hv0 : v < 0
              · have HF : Hid (2 = wantC x (k + 1)) := Lib.hid (by
                  rw [HST2.out, if_neg]
                  intro h
                  by_cases h0 : k = 0
                  · subst h0; rw [prevC_zero] at h; omega
                  · obtain ⟨q, rfl⟩ : ∃ q, k = q + 1 := ⟨k - 1, by omega⟩
                    rw [prevC_succ x q (by omega)] at h
                    have h1 := HZ.out
                    unfold wantC at h1
                    split at h1
                    · split at h1
                      · rename_i h2
                        have h3 := ((asc_iff _ _).1 h2).1 x[q] (by rw [List.mem_take_iff_getElem]; exact ⟨q, by omega, rfl⟩)
                        omega
                      · omega
                    · omega)
                clear hcell hv hcap
                go_wp2_with fail
                go_roundg (x.length - (k + 1))
                case measure => omega
                case rel => exact ⟨k + 1, 2, by omega, rfl, by congr 1, rfl, HF, rfl⟩
              by_cases hv1 : 15 < v
              · have HF : Hid (2 = wantC x (k + 1)) := Lib.hid (by rw [HST2.out, if_neg]; omega)
                clear hcell hv hcap
                go_wp2_with fail
                go_roundg (x.length - (k + 1))
                case measure => omega
                case rel => exact ⟨k + 1, 2, by omega, rfl, by congr 1, rfl, HF, rfl⟩
              by_cases h0 : k = 0
              · have HF : Hid (0 = wantC x (k + 1)) := Lib.hid (by rw [HST2.out, h0, prevC_zero, if_pos]; omega)
                have hk0 : ¬ (0 : Int) < (k : Int) := by omega
                clear hcell hv hcap h0
                go_wp2_with fail
                go_roundg (x.length - (k + 1))
                case measure => omega
                case rel => exact ⟨k + 1, 0, by omega, rfl, by congr 1, rfl, HF, rfl⟩
              obtain ⟨q, rfl⟩ : ∃ q, k = q + 1 := ⟨k - 1, by omega⟩
              have hq : q < x.length := by omega
              obtain ⟨p, hp⟩ : ∃ p, p = x[q] := ⟨_, rfl⟩
              have hcq := hcell q hq
              rw [← hp] at hcq
              have HP : Hid (prevC x (q + 1) = p) := Lib.hid (by rw [prevC_succ x q hq, hp])
              have hqq : (0 : Int) < (q : Int) + 1 := by omega
              clear hcell hv hcap hp h0
              by_cases hvp : v ≤ p
              · have HF : Hid (2 = wantC x (q + 1 + 1)) := Lib.hid (by rw [HST2.out, HP.out, if_neg]; omega)
                go_wp2_with fail
                go_roundg (x.length - (q + 1 + 1))
                case measure => omega
                case rel => exact ⟨q + 1 + 1, 2, by omega, rfl, by congr 1, rfl, HF, rfl⟩
              · have HF : Hid (0 = wantC x (q + 1 + 1)) := Lib.hid (by rw [HST2.out, HP.out, if_pos]; omega)
                go_wp2_with fail
                go_roundg (x.length - (q + 1 + 1))
                case measure => omega
                case rel => exact ⟨q + 1 + 1, 0, by omega, rfl, by congr 1, rfl, HF, rfl⟩
            case neg =>
              obtain rfl : k = x.length := by omega
              have HZ2 : Hid (z = chkM x) := Lib.hid (by rw [HZ.out, wantC_end])
              clear HZ HBAD hlt
              have hq := heap_alloc_new w4 (oVw number ax x.length cx)
              have f5 : Fr (fun _ => False) w4 ((w4.alloc (oVw number ax x.length cx)).alloc (.cells #[.int .i64 3] 3)) := ((Fr.refl _ _).alloc _).alloc _
              have hq5 := lblock_kept hq (((Fr.refl (fun _ => False) _).alloc (.cells #[.int .i64 3] 3))) (fun h => h)
              have h3 := heap_alloc_new (w4.alloc (oVw number ax x.length cx)) (.cells #[.int .i64 3] 3)
              have hz5 : (w4.alloc (oVw number ax x.length cx)).heap.size = w4.heap.size + 1 := by simp
              rw [hz5] at h3
              clear hz5 hq
              go_wp2_with fail
              generalize (w4.alloc (oVw number ax x.length cx)).alloc (.cells #[.int .i64 3] 3) = w5 at *
              generalize w4.heap.size + 1 = g3 at *
              generalize w4.heap.size = gv at *
              have S3 : SIc w5 (some ⟨g3, 0, none⟩) 1 [3] := fun _ => by
                refine ⟨by simp, _, _, rfl, fun j hj => ?_⟩
                rw [Nat.zero_add, cell_of_row _ _ _ _ _ _ h3]
                match j, hj with
                | 0, _ => rfl
              have HQ5 := Lib.hid hq5
              have F5 := Lib.hid (FR.out.trans f5 (fun _ _ h => h))
              have SX5 := Lib.hid (SX.out.fr f5)
              clear hq5 f5 h3
              have hxl := HXL.out
              refine (next_any 0 [3] x (some ⟨g3, 0, none⟩) ax 1 cx _ S3 SX5.out (by simp) (by omega) (by omega) (by omega)).mono ?_
              rintro e w6 ⟨p, kk, rfl, ⟨sp, -⟩, f6⟩
              obtain ⟨B, hB⟩ : ∃ B, nxN [3] x = B := ⟨_, rfl⟩
              obtain ⟨y, hy⟩ : ∃ y, nxV 0 [3] x = y := ⟨_, rfl⟩
              obtain ⟨n, hnn⟩ : ∃ n, (nxL [3] x).length = n := ⟨_, rfl⟩
              rw [hB, hy, hnn]
              have HB := Lib.hid (show B = (decide (chkM x = 0) && decide ((3 : Int) ∈ x)) from by rw [← hB, nxN3])
              clear hB hy hnn sp S3
              have f7 : Fr (fun _ => False) w6 (w6.alloc (oVw y p n kk)) := (Fr.refl _ _).alloc _
              have f67 := f6.trans f7 (fun _ _ h => h)
              have HQ7 := Lib.hid (lblock_kept HQ5.out f67 (fun h => h))
              have F7 := Lib.hid (F5.out.trans f67 (fun _ _ h => h))
              have SX7 := Lib.hid (SX5.out.fr f67)
              clear f6 f7 f67 HQ5 F5 SX5 SX FR
              go_upto_region 27 with fail
              generalize w6.alloc (oVw y p n kk) = w7 at *
              generalize w6.heap.size = gw at *
              go_loopg [18, 105] x.length (fun g u18 u105 wr => ∃ (k : Nat) (h : Bool), k ≤ x.length ∧ g = x.length - k ∧ u105 = .int .i64 k ∧ u18 = .bool h ∧ Hid (h = decide ((3 : Int) ∈ x.take k)) ∧ w7 = wr)
              case atStart => exact ⟨0, false, Nat.zero_le _, rfl, rfl, rfl, Lib.hid (by simp), rfl⟩
              case round =>
                obtain ⟨k, h, hk, rfl, rfl, rfl, HH, rfl⟩ := hrel
                by_cases hlt : k < x.length
                case pos =>
                  obtain ⟨hcap, g, off, rfl, hcell⟩ := SX7.out (by omega)
                  obtain ⟨v, hv⟩ : ∃ v, v = x[k] := ⟨_, rfl⟩
                  have hck := hcell k hlt
                  rw [← hv] at hck
                  have HST : Hid (decide ((3 : Int) ∈ x.take (k + 1)) = (h || decide (v = 3))) := Lib.hid (by
                    rw [HH.out, hv, List.take_succ_eq_append_getElem hlt]
                    rw [Bool.eq_iff_iff]
                    simp only [List.mem_append, List.mem_singleton, Bool.or_eq_true, decide_eq_true_eq]
                    exact or_congr Iff.rfl ⟨Eq.symm, Eq.symm⟩)
                  clear hcell hv hcap
                  cases h
                  · by_cases h3 : v = 3
                    · have HF : Hid (true = decide ((3 : Int) ∈ x.take (k + 1))) := Lib.hid (by rw [HST.out]; simp [h3])
                      have h3' : (v == 3) = true := by simp [h3]
                      clear h3
                      go_wp2_with fail
                      go_roundg (x.length - (k + 1))
                      case measure => omega
                      case rel => exact ⟨k + 1, true, by omega, rfl, by congr 1, rfl, HF, rfl⟩
                    · have HF : Hid (false = decide ((3 : Int) ∈ x.take (k + 1))) := Lib.hid (by rw [HST.out]; simp [h3])
                      have h3' : (v == 3) = false := by simp [h3]
                      clear h3
                      go_wp2_with fail
                      go_roundg (x.length - (k + 1))
                      case measure => omega
                      case rel => exact ⟨k + 1, false, by omega, rfl, by congr 1, rfl, HF, rfl⟩
                  · have HF : Hid (true = decide ((3 : Int) ∈ x.take (k + 1))) := Lib.hid (by rw [HST.out]; simp)
                    go_wp2_with fail
                    go_roundg (x.length - (k + 1))
                    case measure => omega
                    case rel => exact ⟨k + 1, true, by omega, rfl, by congr 1, rfl, HF, rfl⟩
                case neg =>
                  have HH2 : Hid (h = decide ((3 : Int) ∈ x)) := Lib.hid (by rw [HH.out, List.take_of_length_le (by omega)])
                  clear HH
                  have HBB : Hid (B = (decide (z = 0) && h)) := Lib.hid (by rw [HB.out, ← HZ2.out, ← HH2.out])
                  have HM := Lib.hid (fun W f => tmembers_any x ax cx W (SX7.out.fr f) (by omega))
                  have HC := Lib.hid (fun W f => tcheck_any number x ax cx W (SX7.out.fr f) (by omega))
                  simp only [← HZ2.out] at HM HC
                  obtain ⟨q0, q1⟩ := vw_cells HQ7.out
                  have HFIN : ∀ W, Fr (fun _ => False) w7 W → Fr (fun _ => False) w3 W := fun W f => F7.out.trans f (fun _ _ h => h)
                  have HFN := Lib.hid HFIN
                  clear HFIN HB HH2 HZ2 hxl
                  by_cases hneg : number < 0
                  · go_wp2_with fail
                    refine (HM.out _ (Fr.refl _ _)).mono ?_
                    rintro e w8 ⟨rfl, rfl⟩
                    go_wp2_with fail
                    refine (HC.out _ (Fr.refl _ _)).mono ?_
                    rintro e w8 ⟨rfl, f8⟩
                    rw [if_pos hneg]
                    have F8 := Lib.hid (HFN.out _ f8)
                    clear f8 q0 q1
                    by_cases hz0 : z = 0
                    · have hzz : (z == 0) = true := by simp [hz0]
                      cases h
                      · have hb : B = false := by rw [HBB.out]; simp
                        subst hb
                        clear hz0
                        go_wp2_with fail
                        go_roundg (2 - (i + 1))
                        case measure => omega
                        case rel => exact ⟨i + 1, by omega, rfl, by congr 1, F8⟩
                      · have hb : B = true := by rw [HBB.out]; simp [hz0]
                        subst hb
                        clear hz0
                        go_wp2_with fail
                        go_roundg (2 - (i + 1))
                        case measure => omega
                        case rel => exact ⟨i + 1, by omega, rfl, by congr 1, F8⟩
                    · have hzz : (z == 0) = false := by simp [hz0]
                      have hb : B = false := by rw [HBB.out]; simp [hz0]
                      subst hb
                      clear hz0
                      go_wp2_with fail
                      go_roundg (2 - (i + 1))
                      case measure => omega
                      case rel => exact ⟨i + 1, by omega, rfl, by congr 1, F8⟩
                  · go_wp2_with fail
                    refine (HM.out _ (Fr.refl _ _)).mono ?_
                    rintro e w8 ⟨rfl, rfl⟩
                    go_wp2_with fail
                    refine (HC.out _ (Fr.refl _ _)).mono ?_
                    rintro e w8 ⟨rfl, f8⟩
                    rw [if_neg (by omega)]
                    have F8 := Lib.hid (HFN.out _ f8)
                    clear f8 q0 q1
                    by_cases hz0 : z = 0
                    · have hzz : (z == 0) = true := by simp [hz0]
                      cases h
                      · have hb : B = false := by rw [HBB.out]; simp
                        subst hb
                        clear hz0
                        go_wp2_with fail
                        go_roundg (2 - (i + 1))
                        case measure => omega
                        case rel => exact ⟨i + 1, by omega, rfl, by congr 1, F8⟩
                      · have hb : B = true := by rw [HBB.out]; simp [hz0]
                        subst hb
                        clear hz0
                        go_wp2_with fail
                        go_roundg (2 - (i + 1))
                        case measure => omega
                        case rel => exact ⟨i + 1, by omega, rfl, by congr 1, F8⟩
                    · have hzz : (z == 0) = false := by simp [hz0]
                      have hb : B = false := by rw [HBB.out]; simp [hz0]
                      subst hb
                      clear hz0
                      go_wp2_with fail
                      go_roundg (2 - (i + 1))
                      case measure => omega
                      case rel => exact ⟨i + 1, by omega, rfl, by congr 1, F8⟩

theorem seesL_slice {w : World} {v : Value} {l : List Int} {k : IntKind} (h : SeesL w v (l.map (Value.int k))) : ∃ a c, v = .slice a l.length c := by
  rcases h with ⟨h, a, c, rfl⟩ | ⟨g, off, cap, rfl, _, _⟩
  · have : l = [] := by simpa using h
    subst this
    exact ⟨a, c, rfl⟩
  · exact ⟨_, cap, by rw [List.length_map]⟩

theorem checks_all (v : Value) (l : List Int) {w : World} (h : SeesL w v (l.map (Value.int .i64))) (_ : ∀ n ∈ l, (Lit.int .i64 n).wf = true) (u : Value) (s : List Int) (hu : SeesL w u (s.map (Value.int .u8))) (wu : ∀ n ∈ s, (Lit.int .u8 n).wf = true)
    (number : Int) (_ : -9223372036854775808 ≤ number) (_ : number ≤ 9223372036854775807) :
    Calls Try.prog 5 #[v, u, .int .i64 number] w fun e w' => e = .returned (.bool true) ∧ Fr (fun _ => False) w w' := by
  obtain ⟨a, c, rfl, hs⟩ := SI.shape h
  obtain ⟨b, d, rfl⟩ := seesL_slice hu
  exact checks_law l s number (fun n hn => bounds_u8 (wu n hn)) a b c d w hs hu

end Go.Proofs.Ytlcdmaehedhipaa
