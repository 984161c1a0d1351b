/-
  The law VoteChecks, walked.
-/
import Derived.Test.YtmpnomngnfffbaaVotAwake
import Derived.Test.YtmpnomngnfffbaaVotChkMath
import Derived.Test.YtmpnomngnfffbaaVotArg
import Derived.Deep.Cut
import Derived.Deep.CutRange
import Derived.Deep.CutBlock
import Derived.Deep.LoopGhost
namespace Go.Proofs.Ytmpnomngnfffbaa
open Go.RowKit
set_option maxRecDepth 100000

theorem kind5 (k : Int) (h0 : 0 ≤ k) (h1 : k ≤ 255) : IntKind.u8.wrap (k % 5) = k % 5 := by rw [IntKind.wrap_u8]; omega

abbrev chX (kd : Int) (m : List Int) : En := ⟨kd, 0, 0, 0, [], m⟩
abbrev chY (kd t n p : Int) (l : List UInt8) : En := ⟨kd, t, n, p, l, []⟩

set_option maxHeartbeats 16000000 in
theorem checks_law (s : Sm) (a : Option Addr) (c : Nat) (kind proc : Int) (m : List Int) (b : Option Addr) (d : Nat) (w : World) (hs : SeesO w (.slice a s.c.l.length c) s.c.l) (hok : s.ok) (hk0 : 0 ≤ kind) (hk1 : kind ≤ 255) (hm : SIc w b d m) :
    Calls Try.prog 4 #[smV s (.slice a s.c.l.length c), .int .u8 kind, .int .i64 proc, .slice b m.length d] w fun e w' => e = .returned (.bool true) ∧ Fr (fun _ => False) w w' := by
  have HS := Lib.hid hs.1
  have HM := Lib.hid hm
  obtain ⟨k0, k1, t0, t1, n0, n1, p0, p1, m1⟩ := hok
  have q0 := heap_alloc_new w (Obj.cells #[.int .u8 s.kind, .int .u16 s.c.t, .int .u16 s.c.n, .int .u16 s.c.p, .slice a s.c.l.length c, .int .u16 s.mb] 27 (0, 0))
  have f0 : Fr (fun _ => False) w (w.alloc (Obj.cells #[.int .u8 s.kind, .int .u16 s.c.t, .int .u16 s.c.n, .int .u16 s.c.p, .slice a s.c.l.length c, .int .u16 s.mb] 27 (0, 0))) := (Fr.refl _ _).alloc _
  clear hs hm
  go_enter Try.func4, Try.ntmps4
  go_upto_region 1 with fail
  generalize w.alloc (Obj.cells #[.int .u8 s.kind, .int .u16 s.c.t, .int .u16 s.c.n, .int .u16 s.c.p, .slice a s.c.l.length c, .int .u16 s.mb] 27 (0, 0)) = w0 at *
  generalize hg4 : w.heap.size = g4 at *
  have hlt4 : w.heap.size ≤ g4 := by omega
  clear hg4
  have Q0 := Lib.hid q0
  have F0 := Lib.hid f0
  clear q0 f0
  go_wp2_with fail
  refine (vtawake_any w0).mono ?_
  rintro e w1 ⟨rfl, f1⟩
  have Q1 := Lib.hid (crow_kept Q0.out f1 (fun h => h))
  have F1 := Lib.hid (F0.out.trans f1 (fun _ _ h => h))
  clear f1 Q0 F0
  obtain ⟨c00, c01, c02, c03, c04, c05⟩ := sm_cells Q1.out
  by_cases hl : s.c.l.length ≤ 100
  case neg =>
    have hl' : (100 : Int) < (s.c.l.length : Int) := by omega
    clear hl
    go_wp2_with fail
    go_ret
    exact ⟨rfl, F1.out⟩
  have hl' : ¬ (100 : Int) < (s.c.l.length : Int) := by omega
  by_cases hn : m.length ≤ 30
  case neg =>
    have hn' : (30 : Int) < (m.length : Int) := by omega
    clear hn
    go_wp2_with fail
    go_ret
    exact ⟨rfl, F1.out⟩
  have hn' : ¬ (30 : Int) < (m.length : Int) := by omega
  have HN := Lib.hid (And.intro hl hn)
  go_upto_region 5 with fail
  clear hn hn' hl hl'
  have hw5 := kind5 kind hk0 hk1
  obtain ⟨kd, hkd⟩ : ∃ kd, kd = kind % 5 := ⟨_, rfl⟩
  have hb5 : 0 ≤ kd ∧ kd ≤ 4 := by omega
  go_upto_region 6 with fail
  have hkd2 : kind % 5 = kd := hkd.symm
  try rw [hkd2]
  have q2 := heap_alloc_new w1 ((chX kd m).obj nilS (.slice b m.length d))
  have f2 : Fr (fun _ => False) w1 (w1.alloc ((chX kd m).obj nilS (.slice b m.length d))) := (Fr.refl _ _).alloc _
  generalize w1.alloc ((chX kd m).obj nilS (.slice b m.length d)) = w2 at *
  generalize hg9 : w1.heap.size = g9 at *
  have hlt9 : g4 < g9 := by have := lt_of Q1.out; omega
  clear hg9 c00 c01 c02 c03 c04 c05
  have Q2 := Lib.hid (And.intro (crow_kept Q1.out f2 (fun h => h)) q2)
  have F2 := Lib.hid (F1.out.trans f2 (fun _ _ h => h))
  clear q2 f2 Q1 F1
  obtain ⟨c00, c01, c02, c03, c04, c05⟩ := sm_cells Q2.out.1
  go_wp2_with fail
  have hsm := small_any s.c.t s.c.n s.c.p a s.c.l.length c w2 p0 p1
  unfold cv at hsm
  refine hsm.mono ?_
  clear hsm
  rintro e w3 ⟨rfl, f3⟩
  dsimp only
  have Q3 := Lib.hid (And.intro (crow_kept Q2.out.1 f3 (fun h => h)) (crow_kept Q2.out.2 f3 (fun h => h)))
  have F3 := Lib.hid (F2.out.trans f3 (fun _ _ h => h))
  clear f3 Q2 F2 c00 c01 c02 c03 c04 c05
  go_upto_region 7 with fail
  try rw [hkd2]
  clear hw5 hkd hkd2
  go_upto_region 8 with fail
  have q4 := heap_alloc_new w3 ((chY kd s.c.t s.c.n proc s.c.l).obj (.slice a s.c.l.length c) nilS)
  have f4 : Fr (fun _ => False) w3 (w3.alloc ((chY kd s.c.t s.c.n proc s.c.l).obj (.slice a s.c.l.length c) nilS)) := (Fr.refl _ _).alloc _
  generalize w3.alloc ((chY kd s.c.t s.c.n proc s.c.l).obj (.slice a s.c.l.length c) nilS) = w5 at *
  generalize hg10 : w3.heap.size = g10 at *
  have hlt10 : g9 < g10 := by have := lt_of Q3.out.2; omega
  clear hg10
  have Q5 := Lib.hid (And.intro (crow_kept Q3.out.1 f4 (fun h => h)) (And.intro (crow_kept Q3.out.2 f4 (fun h => h)) q4))
  have F5 := Lib.hid (F3.out.trans f4 (fun _ _ h => h))
  clear q4 f4 Q3 F3
  obtain ⟨c00, c01, c02, c03, c04, c05⟩ := sm_cells Q5.out.1
  go_upto_region 9 with fail
  obtain ⟨N, hN⟩ : ∃ N, N = decide (proc = 0 ∧ s.c.t = 0 ∧ s.c.n = 0 ∧ s.c.l = []) := ⟨_, rfl⟩
  have HNN := Lib.hid hN
  clear hN
  go_cut [13] from 41 to 61 (fun r wx => r = .bool N ∧ w5 = wx)
  case first =>
    by_cases h1 : proc = 0
    · by_cases h2 : s.c.t = 0
      · by_cases h3 : s.c.n = 0
        · by_cases h4 : s.c.l = []
          · have HE : Hid (N = true) := Lib.hid (by rw [HNN.out]; simp [h1, h2, h3, h4])
            have hb1 : (proc == 0) = true := by simp [h1]
            have hb2 : (s.c.t == 0) = true := by simp [h2]
            have hb3 : (s.c.n == 0) = true := by simp [h3]
            have hb4 : ((s.c.l.length : Int) == 0) = true := by simp [h4]
            clear h1 h2 h3 h4
            go_wp2_with fail
            go_meet
            case rel => exact ⟨by rw [HE.out], rfl⟩
          · have HE : Hid (N = false) := Lib.hid (by rw [HNN.out]; simp [h4])
            have hb1 : (proc == 0) = true := by simp [h1]
            have hb2 : (s.c.t == 0) = true := by simp [h2]
            have hb3 : (s.c.n == 0) = true := by simp [h3]
            have hb4 : ((s.c.l.length : Int) == 0) = false := by have := List.length_pos_iff.2 h4; simp; exact h4
            clear h1 h2 h3 h4
            go_wp2_with fail
            go_meet
            case rel => exact ⟨by rw [HE.out], rfl⟩
        · have HE : Hid (N = false) := Lib.hid (by rw [HNN.out]; simp [h3])
          have hb1 : (proc == 0) = true := by simp [h1]
          have hb2 : (s.c.t == 0) = true := by simp [h2]
          have hb3 : (s.c.n == 0) = false := by simp [h3]
          clear h1 h2 h3
          go_wp2_with fail
          go_meet
          case rel => exact ⟨by rw [HE.out], rfl⟩
      · have HE : Hid (N = false) := Lib.hid (by rw [HNN.out]; simp [h2])
        have hb1 : (proc == 0) = true := by simp [h1]
        have hb2 : (s.c.t == 0) = false := by simp [h2]
        clear h1 h2
        go_wp2_with fail
        go_meet
        case rel => exact ⟨by rw [HE.out], rfl⟩
    · have HE : Hid (N = false) := Lib.hid (by rw [HNN.out]; simp [h1])
      have hb1 : (proc == 0) = false := by simp [h1]
      clear h1
      go_wp2_with fail
      go_meet
      case rel => exact ⟨by rw [HE.out], rfl⟩
  case rest =>
    obtain ⟨rfl, rfl⟩ := hcut
    go_upto_block 0 with fail
    clear c00 c01 c02 c03 c04 c05
    obtain ⟨c00, c01, c02, c03, c04, c05⟩ := en_cells Q5.out.2.1
    obtain ⟨WX, hWX⟩ : ∃ W, W = (chX kd m).chk := ⟨_, rfl⟩
    obtain ⟨WY, hWY⟩ : ∃ W, W = (chY kd s.c.t s.c.n proc s.c.l).chk := ⟨_, rfl⟩
    have HX := Lib.hid hWX
    have HY := Lib.hid hWY
    clear hWX hWY
    have hkc : 3 ≤ kd ∨ kd = 1 ∨ kd = 2 ∨ kd = 0 := by omega
    go_cut [11, 12, 14, 15] from 62 to 127 (fun r q _ _ wx => r = .int .i64 WX ∧ q = .int .i64 WY ∧ w5 = wx)
    case first =>
      rcases hkc with h | h | h | h
      · have HX2 : Hid (WX = 5) := Lib.hid (by rw [HX.out]; unfold En.chk; rw [if_pos h])
        have HY2 : Hid (WY = 5) := Lib.hid (by rw [HY.out]; unfold En.chk; rw [if_pos h])
        have hd : decide (2 < kd) = true := by simp; omega
        go_wp2_with fail
        go_meet
        case rel => exact ⟨by rw [HX2.out], by rw [HY2.out], rfl⟩
      · subst h
        have HX2 : Hid (WX = if m = [] then 0 else 4) := Lib.hid (by
          rw [HX.out]; unfold En.chk
          by_cases h : m = [] <;> simp [h, cchk, okN, sizeN])
        have HY2 : Hid (WY = if 0 ≤ proc ∧ proc ≤ 65535 then 0 else 2) := Lib.hid (by
          rw [HY.out]; unfold En.chk
          have := HN.out.1
          by_cases h : 0 ≤ proc ∧ proc ≤ 65535
          · have hk : okN proc = true := by unfold okN; simpa using h
            simp [cchk_ok hk (show s.c.l.length ≤ 4000 by omega), h]
          · have hk : okN proc = false := by unfold okN; simpa using h
            rw [if_neg h]
            simp [cchk, hk])
        by_cases hm : m = []
        · have HX3 : Hid (WX = 0) := Lib.hid (by rw [HX2.out, if_pos hm])
          have hl0 : ¬ (0 : Int) < (m.length : Int) := by simp [hm]
          clear hm
          rcases (show proc < 0 ∨ (¬ proc < 0 ∧ 65535 < proc) ∨ (¬ proc < 0 ∧ ¬ 65535 < proc) by omega) with h0 | ⟨h0, h1⟩ | ⟨h0, h1⟩
          · have HY3 : Hid (WY = 2) := Lib.hid (by rw [HY2.out, if_neg (by omega)])
            go_wp2_with fail
            go_meet
            case rel => exact ⟨by rw [HX3.out], by rw [HY3.out], rfl⟩
          · have HY3 : Hid (WY = 2) := Lib.hid (by rw [HY2.out, if_neg (by omega)])
            go_wp2_with fail
            go_meet
            case rel => exact ⟨by rw [HX3.out], by rw [HY3.out], rfl⟩
          · have HY3 : Hid (WY = 0) := Lib.hid (by rw [HY2.out, if_pos (by omega)])
            go_wp2_with fail
            go_meet
            case rel => exact ⟨by rw [HX3.out], by rw [HY3.out], rfl⟩
        · have HX3 : Hid (WX = 4) := Lib.hid (by rw [HX2.out, if_neg hm])
          have hl0 : (0 : Int) < (m.length : Int) := by have := List.length_pos_iff.2 hm; omega
          clear hm
          rcases (show proc < 0 ∨ (¬ proc < 0 ∧ 65535 < proc) ∨ (¬ proc < 0 ∧ ¬ 65535 < proc) by omega) with h0 | ⟨h0, h1⟩ | ⟨h0, h1⟩
          · have HY3 : Hid (WY = 2) := Lib.hid (by rw [HY2.out, if_neg (by omega)])
            go_wp2_with fail
            go_meet
            case rel => exact ⟨by rw [HX3.out], by rw [HY3.out], rfl⟩
          · have HY3 : Hid (WY = 2) := Lib.hid (by rw [HY2.out, if_neg (by omega)])
            go_wp2_with fail
            go_meet
            case rel => exact ⟨by rw [HX3.out], by rw [HY3.out], rfl⟩
          · have HY3 : Hid (WY = 0) := Lib.hid (by rw [HY2.out, if_pos (by omega)])
            go_wp2_with fail
            go_meet
            case rel => exact ⟨by rw [HX3.out], by rw [HY3.out], rfl⟩
      · subst h
        have HX2 : Hid (WX = chkM m) := Lib.hid (by rw [HX.out]; unfold En.chk; simp)
        have HNN2 : Hid (N = true ↔ proc = 0 ∧ s.c.t = 0 ∧ s.c.n = 0 ∧ s.c.l = []) := Lib.hid (by rw [HNN.out]; simp)
        have HY2 : Hid (WY = if N = true then 7 else 4) := Lib.hid (by
          rw [HY.out]; unfold En.chk
          have e := HNN2.out
          by_cases h : proc = 0 ∧ s.c.t = 0 ∧ s.c.n = 0 ∧ s.c.l = []
          · rw [if_pos (e.2 h)]
            obtain ⟨h1, h2, h3, h4⟩ := h
            simp [h1, h2, h3, h4, chkM]
          · rw [if_neg (fun hh => h (e.1 hh))]
            have h' : ¬ (s.c.t = 0 ∧ s.c.n = 0 ∧ proc = 0 ∧ s.c.l = []) := fun hh => h ⟨hh.2.2.1, hh.1, hh.2.1, hh.2.2.2⟩
            rw [if_neg (by show ¬ (3 : Int) ≤ 2; decide), if_pos (.inl ⟨by show (2 : Int) ≠ 1; decide, h'⟩)])
        go_upto_region 18 with fail
        obtain ⟨bad, hbad⟩ : ∃ bad, bad = !(decide (1 ≤ m.length) && decide (m.length ≤ 16)) := ⟨_, rfl⟩
        have HBAD := Lib.hid hbad
        clear hbad
        go_cut [82] from 75 to 127 (fun r wx => r = .bool bad ∧ Hid (w5 = wx))
        case first =>
          rcases (show m.length < 1 ∨ (¬ m.length < 1 ∧ 16 < m.length) ∨ (¬ m.length < 1 ∧ ¬ 16 < m.length) by omega) with h0 | ⟨h0, h1⟩ | ⟨h0, h1⟩
          · have HW : Hid (bad = true) := Lib.hid (by rw [HBAD.out]; have : ¬ 1 ≤ m.length := by omega
                                                      simp [this])
            have g0 : (m.length : Int) < 1 := by omega
            clear h0
            go_wp2_with fail
            go_meet
            case rel => exact ⟨by rw [HW.out], Lib.hid rfl⟩
          · have HW : Hid (bad = true) := Lib.hid (by rw [HBAD.out]; have : ¬ m.length ≤ 16 := by omega
                                                      simp [this])
            have g0 : ¬ (m.length : Int) < 1 := by omega
            have g1 : (16 : Int) < (m.length : Int) := by omega
            clear h0 h1
            go_wp2_with fail
            go_meet
            case rel => exact ⟨by rw [HW.out], Lib.hid rfl⟩
          · have HW : Hid (bad = false) := Lib.hid (by rw [HBAD.out]; have h2 : 1 ≤ m.length := by omega
                                                       have h3 : m.length ≤ 16 := by omega
                                                       simp [h2, h3])
            have g0 : ¬ (m.length : Int) < 1 := by omega
            have g1 : ¬ (16 : Int) < (m.length : Int) := by omega
            clear h0 h1
            go_wp2_with fail
            go_meet
            case rel => exact ⟨by rw [HW.out], Lib.hid rfl⟩
        case rest =>
        obtain ⟨rfl, HWx⟩ := hcut
        obtain rfl := HWx.out
        clear HWx
        go_upto_if 82 with fail
        go_cut [11] from 75 to 127 (fun r wx => r = .int .i64 (wantC m 0) ∧ Hid (w5 = wx))
        case first =>
          cases bad
          · have HE : Hid (wantC m 0 = 0) := Lib.hid (by unfold wantC; rw [if_pos (by have := HBAD.out; simpa using this)]; rfl)
            go_wp2_with fail
            go_meet
            case rel => exact ⟨by rw [HE.out], Lib.hid rfl⟩
          · have HE : Hid (wantC m 0 = 7) := Lib.hid (by unfold wantC; rw [if_neg (fun hh => by have := HBAD.out; simp [hh.1, hh.2] at this)])
            go_wp2_with fail
            go_meet
            case rel => exact ⟨by rw [HE.out], Lib.hid rfl⟩
        case rest =>
        obtain ⟨rfl, HWx⟩ := hcut
        obtain rfl := HWx.out
        clear HWx
        have SM5 := Lib.hid (HM.out.fr F5.out)
        go_upto_region 21 with fail
        go_loopg [11, 14, 15, 85] m.length (fun g u11 _ _ u85 wr => ∃ (k : Nat) (z : Int), k ≤ m.length ∧ g = m.length - k ∧ u85 = .int .i64 k ∧ u11 = .int .i64 z ∧ Hid (z = wantC m k) ∧ w5 = wr)
        case atStart => exact ⟨0, wantC m 0, Nat.zero_le _, rfl, rfl, rfl, Lib.hid rfl, rfl⟩
        case round =>
          obtain ⟨k, z, hk, rfl, rfl, rfl, HZ, rfl⟩ := hrel
          by_cases hlt : k < m.length
          case pos =>
            obtain ⟨hcap, g, off, rfl, hcell⟩ := SM5.out (by omega)
            obtain ⟨v, hv⟩ : ∃ v, v = m[k] := ⟨_, rfl⟩
            have hck := hcell k hlt
            have HST := Lib.hid (wantC_step m k hlt)
            rw [← hv] at hck
            have Hv := Lib.hid hv
            by_cases hz : z = 0
            case neg =>
              have HST2 : Hid (z = wantC m (k + 1)) := Lib.hid (by rw [HST.out, ← HZ.out, if_neg hz])
              have hz' : (z == 0) = false := by simp [hz]
              clear hcell hv hcap hz
              go_wp2_with fail
              go_roundg (m.length - (k + 1))
              case measure => omega
              case rel => exact ⟨k + 1, z, by omega, rfl, by congr 1, rfl, HST2, rfl⟩
            subst hz
            have HST2 : Hid (wantC m (k + 1) = if prevC m k < v ∧ v < 16 then 0 else 2) := Lib.hid (by rw [HST.out, ← HZ.out, if_pos rfl, Hv.out])
            clear HST
            by_cases hv0 : v < 0
            · have HF : Hid (2 = wantC m (k + 1)) := Lib.hid (by
                rw [HST2.out, if_neg]
                intro h
                by_cases h0 : k = 0
                · subst h0; rw [prevC_zero] at h; omega
                · obtain ⟨q, rfl⟩ : ∃ q, k = q + 1 := ⟨k - 1, by omega⟩
                  rw [prevC_succ m q (by omega)] at h
                  have h1 := HZ.out
                  unfold wantC at h1
                  split at h1
                  · split at h1
                    · rename_i h2
                      have h3 := ((asc_iff _ _).1 h2).1 m[q] (by rw [List.mem_take_iff_getElem]; exact ⟨q, by omega, rfl⟩)
                      omega
                    · omega
                  · omega)
              clear hcell hv hcap
              go_wp2_with fail
              go_roundg (m.length - (k + 1))
              case measure => omega
              case rel => exact ⟨k + 1, 2, by omega, rfl, by congr 1, rfl, HF, rfl⟩
            by_cases hv1 : 15 < v
            · have HF : Hid (2 = wantC m (k + 1)) := Lib.hid (by rw [HST2.out, if_neg]; omega)
              clear hcell hv hcap
              go_wp2_with fail
              go_roundg (m.length - (k + 1))
              case measure => omega
              case rel => exact ⟨k + 1, 2, by omega, rfl, by congr 1, rfl, HF, rfl⟩
            by_cases h0 : k = 0
            · have HF : Hid (0 = wantC m (k + 1)) := Lib.hid (by rw [HST2.out, h0, prevC_zero, if_pos]; omega)
              have hk0 : ¬ (0 : Int) < (k : Int) := by omega
              clear hcell hv hcap h0
              go_wp2_with fail
              go_roundg (m.length - (k + 1))
              case measure => omega
              case rel => exact ⟨k + 1, 0, by omega, rfl, by congr 1, rfl, HF, rfl⟩
            obtain ⟨q, rfl⟩ : ∃ q, k = q + 1 := ⟨k - 1, by omega⟩
            have hq : q < m.length := by omega
            obtain ⟨p, hp⟩ : ∃ p, p = m[q] := ⟨_, rfl⟩
            have hcq := hcell q hq
            rw [← hp] at hcq
            have HP : Hid (prevC m (q + 1) = p) := Lib.hid (by rw [prevC_succ m q hq, hp])
            have hqq : (0 : Int) < (q : Int) + 1 := by omega
            clear hcell hv hcap hp h0
            by_cases hvp : v ≤ p
            · have HF : Hid (2 = wantC m (q + 1 + 1)) := Lib.hid (by rw [HST2.out, HP.out, if_neg]; omega)
              go_wp2_with fail
              go_roundg (m.length - (q + 1 + 1))
              case measure => omega
              case rel => exact ⟨q + 1 + 1, 2, by omega, rfl, by congr 1, rfl, HF, rfl⟩
            · have HF : Hid (0 = wantC m (q + 1 + 1)) := Lib.hid (by rw [HST2.out, HP.out, if_pos]; omega)
              go_wp2_with fail
              go_roundg (m.length - (q + 1 + 1))
              case measure => omega
              case rel => exact ⟨q + 1 + 1, 0, by omega, rfl, by congr 1, rfl, HF, rfl⟩
          case neg =>
            obtain rfl : k = m.length := by omega
            have HX3 : Hid (WX = z) := Lib.hid (by rw [HX2.out, HZ.out, wantC_end])
            clear HZ hlt
            cases N
            · have HY3 : Hid (WY = 4) := Lib.hid (by rw [HY2.out, if_neg (by decide)])
              go_wp2_with fail
              go_meet
              case rel => exact ⟨by rw [HX3.out], by rw [HY3.out], rfl⟩
            · have HY3 : Hid (WY = 7) := Lib.hid (by rw [HY2.out, if_pos rfl])
              go_wp2_with fail
              go_meet
              case rel => exact ⟨by rw [HX3.out], by rw [HY3.out], rfl⟩
      · subst h
        have HX2 : Hid (WX = if m = [] then 0 else 4) := Lib.hid (by
          rw [HX.out]; unfold En.chk
          by_cases h : m = [] <;> simp [h])
        have HNN2 : Hid (N = true ↔ proc = 0 ∧ s.c.t = 0 ∧ s.c.n = 0 ∧ s.c.l = []) := Lib.hid (by rw [HNN.out]; simp)
        have HY2 : Hid (WY = if N = true then 0 else 4) := Lib.hid (by
          rw [HY.out]; unfold En.chk
          have e := HNN2.out
          by_cases h : proc = 0 ∧ s.c.t = 0 ∧ s.c.n = 0 ∧ s.c.l = []
          · rw [if_pos (e.2 h)]
            obtain ⟨h1, h2, h3, h4⟩ := h
            simp [h1, h2, h3, h4]
          · rw [if_neg (fun hh => h (e.1 hh))]
            have h' : ¬ (s.c.t = 0 ∧ s.c.n = 0 ∧ proc = 0 ∧ s.c.l = []) := fun hh => h ⟨hh.2.2.1, hh.1, hh.2.1, hh.2.2.2⟩
            rw [if_neg (by show ¬ (3 : Int) ≤ 0; decide), if_pos (.inl ⟨by show (0 : Int) ≠ 1; decide, h'⟩)])
        by_cases hm : m = []
        · have HX3 : Hid (WX = 0) := Lib.hid (by rw [HX2.out, if_pos hm])
          have hl0 : ¬ (0 : Int) < (m.length : Int) := by simp [hm]
          clear hm
          cases N
          · have HY3 : Hid (WY = 4) := Lib.hid (by rw [HY2.out, if_neg (by decide)])
            go_wp2_with fail
            go_meet
            case rel => exact ⟨by rw [HX3.out], by rw [HY3.out], rfl⟩
          · have HY3 : Hid (WY = 0) := Lib.hid (by rw [HY2.out, if_pos rfl])
            go_wp2_with fail
            go_meet
            case rel => exact ⟨by rw [HX3.out], by rw [HY3.out], rfl⟩
        · have HX3 : Hid (WX = 4) := Lib.hid (by rw [HX2.out, if_neg hm])
          have hl0 : (0 : Int) < (m.length : Int) := by have := List.length_pos_iff.2 hm; omega
          clear hm
          cases N
          · have HY3 : Hid (WY = 4) := Lib.hid (by rw [HY2.out, if_neg (by decide)])
            go_wp2_with fail
            go_meet
            case rel => exact ⟨by rw [HX3.out], by rw [HY3.out], rfl⟩
          · have HY3 : Hid (WY = 0) := Lib.hid (by rw [HY2.out, if_pos rfl])
            go_wp2_with fail
            go_meet
            case rel => exact ⟨by rw [HX3.out], by rw [HY3.out], rfl⟩
    case rest =>
      obtain ⟨rfl, rfl, rfl⟩ := hcut
      go_wp2_with fail
      refine (vcheck_any (chX kd m) nilS (.slice b m.length d) w5 ⟨.inl ⟨rfl, _, _, rfl⟩, (HM.out.fr F5.out).sees⟩ (by have := HN.out.2; show m.length ≤ 1000; omega) hb5.1 (by show kd ≤ 255; omega)).mono ?_
      rintro e w6 ⟨rfl, f6⟩
      rw [← HX.out]
      have Q6 := Lib.hid (crow_kept Q5.out.2.2 f6 (fun h => h))
      have F6 := Lib.hid (F5.out.trans f6 (fun _ _ h => h))
      clear f6 Q5 c00 c01 c02 c03 c04 c05
      obtain ⟨c00, c01, c02, c03, c04, c05⟩ := en_cells Q6.out
      go_wp2_with fail
      refine (vcheck_any (chY kd s.c.t s.c.n proc s.c.l) (.slice a s.c.l.length c) nilS w6 ⟨HS.out.fr F6.out (fun _ _ h => h), SI.nil _⟩ (by show (0 : Nat) ≤ 1000; omega) hb5.1 (by show kd ≤ 255; omega)).mono ?_
      rintro e w7 ⟨rfl, f7⟩
      rw [← HY.out]
      have F7 := Lib.hid (F6.out.trans f7 (fun _ _ h => h))
      clear f7
      go_wp2_with fail
      go_ret
      exact ⟨rfl, F7.out⟩

/-- The law at its arguments. -/
theorem checks_all (s : Sm) (v : Value) {w : World} (hs : SmV w s v) (kind : Int) (h0 : 0 ≤ kind) (h1 : kind ≤ 255) (proc : Int) (_ : -9223372036854775808 ≤ proc) (_ : proc ≤ 9223372036854775807) (u : Value) (m : List Int) (hm : SeesL w u (m.map (Value.int .i64))) (_ : ∀ n ∈ m, (Lit.int .i64 n).wf = true) :
    Calls Try.prog 4 #[v, .int .u8 kind, .int .i64 proc, u] w fun e w' => e = .returned (.bool true) ∧ Fr (fun _ => False) w w' := by
  obtain ⟨a, c, rfl, hs, hok⟩ := hs
  obtain ⟨b, d, hu, hc⟩ := SI.shape hm
  subst hu
  exact checks_law s a c kind proc m b d w hs hok h0 h1 hc
