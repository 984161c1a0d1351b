/-
  CallChecks: for every calls and answers of small numbers, every numbers and every length the law returns true, and its arguments read as before.
-/
import Derived.Test.YtgjbndhjkhfjlaaCallArg
import Derived.Test.YtgjbndhjkhfjlaaRegion
import Derived.Deep.Cut
import Derived.Deep.CutRange
import Derived.Deep.CutBlock
import Derived.BigRegion
import Derived.Deep.OwnRows
namespace Go.Proofs.Ytgjbndhjkhfjlaa
open Go.RowKit
set_option linter.unusedSimpArgs false
set_option linter.unusedVariables false

set_option maxRecDepth 100000 in
set_option maxHeartbeats 16000000 in
theorem checks_any (s s' : Sc) (v v' : Value) (proc err raised : Int) (long : Int) (x : Sa) (u : Value) (w : World) (hv : ScV w s v) (hv' : ScV w s' v') (hu : SaV w x u) (hlong : 0 ≤ long ∧ long ≤ 65535) :
    Calls Try.prog 4 #[v, v', .int .i64 proc, .int .i64 err, .int .i64 raised, .int .u16 long, u] w fun e w' => e = .returned (.bool true) ∧ Fr (fun _ => False) w w' := by
  obtain ⟨t, n, p, l⟩ := s
  obtain ⟨t', n', p', l'⟩ := s'
  obtain ⟨er, ra, m⟩ := x
  obtain ⟨a, c, rfl, hs, ht0, ht1, hn0, hn1, hp0, hp1⟩ := hv
  obtain ⟨a', c', rfl, hs', ht0', ht1', hn0', hn1', hp0', hp1'⟩ := hv'
  obtain ⟨b, d, rfl, hm, he0, he1, hr0, hr1⟩ := hu
  simp only at *
  obtain ⟨hlong0, hlong1⟩ := hlong
  go_enter Try.func4, Try.ntmps4
  go_wp2_with fail
  have q0 := heap_alloc_new w (Obj.cells #[.int .u16 t, .int .u16 n, .int .u16 p, .slice a l.length c] 25 (0, 0))
  have q0' := new_two w (Obj.cells #[.int .u16 t, .int .u16 n, .int .u16 p, .slice a l.length c] 25 (0, 0)) (Obj.cells #[.int .u16 t', .int .u16 n', .int .u16 p', .slice a' l'.length c'] 25 (0, 0))
  have f0 : Fr (fun _ => False) w (w.alloc (Obj.cells #[.int .u16 t, .int .u16 n, .int .u16 p, .slice a l.length c] 25 (0, 0))) := (Fr.refl _ _).alloc _
  have f0' := (Fr.refl (fun _ => False) (w.alloc (Obj.cells #[.int .u16 t, .int .u16 n, .int .u16 p, .slice a l.length c] 25 (0, 0)))).alloc (Obj.cells #[.int .u16 t', .int .u16 n', .int .u16 p', .slice a' l'.length c'] 25 (0, 0))
  have q1 := crow_kept q0 f0' (fun h => h)
  have f1 := f0.trans0 f0'
  clear q0 f0 f0'
  have hsz : ((w.alloc (Obj.cells #[.int .u16 t, .int .u16 n, .int .u16 p, .slice a l.length c] 25 (0, 0))).alloc (Obj.cells #[.int .u16 t', .int .u16 n', .int .u16 p', .slice a' l'.length c'] 25 (0, 0))).heap.size = w.heap.size + 1 + 1 := by rw [World.size_alloc, World.size_alloc]
  generalize (w.alloc (Obj.cells #[.int .u16 t, .int .u16 n, .int .u16 p, .slice a l.length c] 25 (0, 0))).alloc (Obj.cells #[.int .u16 t', .int .u16 n', .int .u16 p', .slice a' l'.length c'] 25 (0, 0)) = w1 at *
  have q2 := heap_alloc_new w1 (Obj.cells #[.int .u16 er, .int .u16 ra, .slice b m.length d] 27 (0, 0))
  have f2 := (Fr.refl (fun _ => False) w1).alloc (Obj.cells #[.int .u16 er, .int .u16 ra, .slice b m.length d] 27 (0, 0))
  have q1 := crow_kept q1 f2 (fun h => h)
  have q0' := crow_kept q0' f2 (fun h => h)
  have f2 := f1.trans0 f2
  rw [hsz] at q2
  generalize w1.alloc (Obj.cells #[.int .u16 er, .int .u16 ra, .slice b m.length d] 27 (0, 0)) = w2 at *
  generalize hg2 : w.heap.size + 1 + 1 = g2 at *
  generalize hg1 : w.heap.size + 1 = g1 at *
  generalize hg0 : w.heap.size = g0 at *
  have HG := Lib.hid (And.intro hg0 (And.intro hg1 hg2))
  clear hg0 hg1 hg2 hsz f1
  refine (cawake_any _).mono ?_
  rintro e w3 ⟨rfl, f3⟩
  have q1 := crow_kept q1 f3 (fun h => h)
  have q0' := crow_kept q0' f3 (fun h => h)
  have q2 := crow_kept q2 f3 (fun h => h)
  have HF := Lib.hid (f2.trans0 f3)
  have HQ := Lib.hid (And.intro q1 (And.intro q0' q2))
  clear f2 f3
  obtain ⟨ca0, ca1, ca2, ca3⟩ := cell4 q1
  obtain ⟨cb0, cb1, cb2, cb3⟩ := cell4 q0'
  obtain ⟨cc0, cc1, cc2⟩ := cell3 q2
  have HS := Lib.hid (And.intro hs (And.intro hs' hm))
  clear q1 q0' q2 hs hs' hm
  by_cases hl1 : 100 < l.length
  · have hl1' : decide ((100 : Int) < (l.length : Int)) = true := by simp; omega
    clear hl1
    go_wp2_with fail
    go_ret
    exact ⟨rfl, HF.out⟩
  have hl1' : decide ((100 : Int) < (l.length : Int)) = false := by simp; omega
  have Hl1 := Lib.hid hl1
  clear hl1
  by_cases hl2 : 100 < l'.length
  · have hl2' : decide ((100 : Int) < (l'.length : Int)) = true := by simp; omega
    clear hl2
    go_wp2_with fail
    go_ret
    exact ⟨rfl, HF.out⟩
  have hl2' : decide ((100 : Int) < (l'.length : Int)) = false := by simp; omega
  clear hl2
  by_cases hl3 : 100 < m.length
  · have hl3' : decide ((100 : Int) < (m.length : Int)) = true := by simp; omega
    clear hl3
    go_wp2_with fail
    go_ret
    exact ⟨rfl, HF.out⟩
  have hl3' : decide ((100 : Int) < (m.length : Int)) = false := by simp; omega
  clear hl3
  go_wp2_with fail
  refine (small_any t n p a l.length c _ hp0 hp1).mono ?_
  rintro e w4 ⟨rfl, f4⟩
  unfold cv
  have HQ4 := Lib.hid (And.intro (crow_kept HQ.out.1 f4 (fun h => h)) (And.intro (crow_kept HQ.out.2.1 f4 (fun h => h)) (crow_kept HQ.out.2.2 f4 (fun h => h))))
  have HF4 := Lib.hid (HF.out.trans0 f4)
  clear f4 ca0 ca1 ca2 ca3 cb0 cb1 cb2 cb3 cc0 cc1 cc2 hl1' hl2' hl3' HQ
  obtain ⟨K, hK, hKm, hKle⟩ : ∃ K : Nat, long % 5000 = (K : Int) ∧ long.tmod 5000 = (K : Int) ∧ K ≤ 4999 := by
    refine ⟨(long % 5000).toNat, ?_, ?_, ?_⟩
    · omega
    · rw [Int.tmod_eq_emod_of_nonneg hlong0]; omega
    · omega
  have hmk : ∀ W : World, (Instr.makeSlice 23 (.int .i64 (K : Int)) (.int .i64 (K : Int))).run Try.prog W = .ok (.slice (some ⟨W.heap.size, 0, none⟩) K K) (W.alloc (.cells (madeCells #[.int .u8 0] K) 5)) :=
    fun W => run_make_row' _ 5 (.int .u8 0) 1 Try.underlying23 Try.infoU8 rfl .i64 .i64 K (by omega) (by omega) W
  have HMK := Lib.hid hKle
  go_upto_region 8 with fail
  have q5 := new_two w4 (Obj.cells #[.int .u16 t, .int .u16 n, .int .i64 proc, .slice (some ⟨w4.heap.size + 1, 0, none⟩) K K] 32 (0, 0)) (Obj.cells (madeCells #[.int .u8 0] K) 5 (0, 0))
  have f5 := (Fr.refl (fun _ => False) w4).alloc (Obj.cells #[.int .u16 t, .int .u16 n, .int .i64 proc, .slice (some ⟨w4.heap.size + 1, 0, none⟩) K K] 32 (0, 0))
  have f5' := (Fr.refl (fun _ => False) (w4.alloc (Obj.cells #[.int .u16 t, .int .u16 n, .int .i64 proc, .slice (some ⟨w4.heap.size + 1, 0, none⟩) K K] 32 (0, 0)))).alloc (Obj.cells (madeCells #[.int .u8 0] K) 5 (0, 0))
  have q6 := crow_kept (heap_alloc_new w4 (Obj.cells #[.int .u16 t, .int .u16 n, .int .i64 proc, .slice (some ⟨w4.heap.size + 1, 0, none⟩) K K] 32 (0, 0))) f5' (fun h => h)
  have f6 := f5.trans0 f5'
  clear f5 f5' q5
  generalize (w4.alloc (Obj.cells #[.int .u16 t, .int .u16 n, .int .i64 proc, .slice (some ⟨w4.heap.size + 1, 0, none⟩) K K] 32 (0, 0))).alloc (Obj.cells (madeCells #[.int .u8 0] K) 5 (0, 0)) = w5 at *
  have HQ5 := Lib.hid (And.intro (crow_kept HQ4.out.1 f6 (fun h => h)) (And.intro (crow_kept HQ4.out.2.1 f6 (fun h => h)) (And.intro (crow_kept HQ4.out.2.2 f6 (fun h => h)) q6)))
  have HF5 := Lib.hid (HF4.out.trans0 f6)
  generalize w4.heap.size + 1 = g4 at *
  generalize w4.heap.size = g3 at *
  clear f6 q6 HQ4 HF4 hmk hK hKm
  obtain ⟨ca0, ca1, ca2, ca3⟩ := cell4 HQ5.out.2.2.2
  go_upto_block 0 with fail
  go_cut [16] from 49 to 60 (fun r wx => r = .int .i64 (cchk proc K) ∧ w5 = wx)
  case first =>
    rcases three proc with ⟨h0, hE⟩ | ⟨⟨h0, h1⟩, hE⟩ | ⟨⟨h0, h1⟩, hE⟩
    · have HE : Hid (cchk proc K = 2) := Lib.hid (by unfold cchk; rw [hE]; rfl)
      clear hE
      go_wp2_with fail
      go_meet
      case rel => exact ⟨by rw [HE.out], rfl⟩
    · have HE : Hid (cchk proc K = 2) := Lib.hid (by unfold cchk; rw [hE]; rfl)
      clear hE
      go_wp2_with fail
      go_meet
      case rel => exact ⟨by rw [HE.out], rfl⟩
    · have HE : Hid (cchk proc K = sizeN K) := Lib.hid (by unfold cchk; rw [if_pos hE])
      clear hE
      by_cases h2 : (4000 : Int) < K
      · have HZ : Hid (sizeN K = 6) := Lib.hid (by unfold sizeN; rw [if_neg (by omega)])
        go_wp2_with fail
        go_meet
        case rel => exact ⟨by rw [HE.out, HZ.out], rfl⟩
      · have HZ : Hid (sizeN K = 0) := Lib.hid (by unfold sizeN; rw [if_pos (by omega)])
        have h2' : decide ((4000 : Int) < K) = false := by simp; omega
        clear h2
        go_wp2_with fail
        go_meet
        case rel => exact ⟨by rw [HE.out, HZ.out], rfl⟩
  case rest =>
    obtain ⟨rfl, rfl⟩ := hcut
    clear ca0 ca1 ca2 ca3
    obtain ⟨ca0, ca1, ca2, ca3⟩ := cell4 HQ5.out.2.2.2
    go_upto_block 1 with fail
    have q6 := heap_alloc_new w5 (Obj.cells #[.int .i64 err, .int .i64 raised, .slice (some ⟨g4, 0, none⟩) K K] 36 (0, 0))
    have f6 := (Fr.refl (fun _ => False) w5).alloc (Obj.cells #[.int .i64 err, .int .i64 raised, .slice (some ⟨g4, 0, none⟩) K K] 36 (0, 0))
    have HQ6 := Lib.hid (And.intro (crow_kept HQ5.out.1 f6 (fun h => h)) (And.intro (crow_kept HQ5.out.2.1 f6 (fun h => h)) (And.intro (crow_kept HQ5.out.2.2.1 f6 (fun h => h)) (And.intro (crow_kept HQ5.out.2.2.2 f6 (fun h => h)) q6))))
    have HF6 := Lib.hid (HF5.out.trans0 f6)
    clear f6 q6 HQ5 ca0 ca1 ca2 ca3
    generalize w5.alloc (Obj.cells #[.int .i64 err, .int .i64 raised, .slice (some ⟨g4, 0, none⟩) K K] 36 (0, 0)) = w6 at *
    generalize w5.heap.size = g5 at *
    obtain ⟨ca0, ca1, ca2, ca3⟩ := cell4 HQ6.out.2.2.2.1
    go_cut [18] from 66 to 85 (fun r wx => r = .int .i64 (achk err raised K) ∧ w6 = wx)
    case first =>
      rcases three err with ⟨h0, hE⟩ | ⟨⟨h0, h1⟩, hE⟩ | ⟨⟨h0, h1⟩, hE⟩
      · have HE : Hid (achk err raised K = 2) := Lib.hid (by unfold achk; rw [hE]; rfl)
        clear hE
        go_wp2_with fail
        go_meet
        case rel => exact ⟨by rw [HE.out], rfl⟩
      · have HE : Hid (achk err raised K = 2) := Lib.hid (by unfold achk; rw [hE]; rfl)
        clear hE
        go_wp2_with fail
        go_meet
        case rel => exact ⟨by rw [HE.out], rfl⟩
      have HA : Hid (achk err raised K = cchk raised K) := Lib.hid (by unfold achk; rw [if_pos hE])
      clear hE
      rcases three raised with ⟨k0, hE⟩ | ⟨⟨k0, k1⟩, hE⟩ | ⟨⟨k0, k1⟩, hE⟩
      · have HE : Hid (cchk raised K = 2) := Lib.hid (by unfold cchk; rw [hE]; rfl)
        clear hE
        go_wp2_with fail
        go_meet
        case rel => exact ⟨by rw [HA.out, HE.out], rfl⟩
      · have HE : Hid (cchk raised K = 2) := Lib.hid (by unfold cchk; rw [hE]; rfl)
        clear hE
        go_wp2_with fail
        go_meet
        case rel => exact ⟨by rw [HA.out, HE.out], rfl⟩
      · have HE : Hid (cchk raised K = sizeN K) := Lib.hid (by unfold cchk; rw [if_pos hE])
        clear hE
        by_cases h2 : (4000 : Int) < K
        · have HZ : Hid (sizeN K = 6) := Lib.hid (by unfold sizeN; rw [if_neg (by omega)])
          go_wp2_with fail
          go_meet
          case rel => exact ⟨by rw [HA.out, HE.out, HZ.out], rfl⟩
        · have HZ : Hid (sizeN K = 0) := Lib.hid (by unfold sizeN; rw [if_pos (by omega)])
          have h2' : decide ((4000 : Int) < K) = false := by simp; omega
          clear h2
          go_wp2_with fail
          go_meet
          case rel => exact ⟨by rw [HA.out, HE.out, HZ.out], rfl⟩
    case rest =>
      obtain ⟨rfl, rfl⟩ := hcut
      clear ca0 ca1 ca2 ca3
      obtain ⟨ca0, ca1, ca2, ca3⟩ := cell4 HQ6.out.1
      obtain ⟨cb0, cb1, cb2, cb3⟩ := cell4 HQ6.out.2.1
      obtain ⟨cc0, cc1, cc2⟩ := cell3 HQ6.out.2.2.1
      have k1 : (convert 23 9 (.slice a l.length c)).run Try.prog w6 = .ok (.string ⟨l.toArray⟩) w6 := (HS.out.1.fr HF6.out).1.string _ _ _ Try.underlying23 Try.underlying5 Try.underlying9
      have k2 : (convert 23 9 (.slice a' l'.length c')).run Try.prog w6 = .ok (.string ⟨l'.toArray⟩) w6 := (HS.out.2.1.fr HF6.out).1.string _ _ _ Try.underlying23 Try.underlying5 Try.underlying9
      have heq := ctxt_beq l l'
      go_upto_region 19 with fail
      go_cut [19] from 86 to 113 (fun r wx => r = .bool (decide (t = t' ∧ n = n' ∧ p = p' ∧ l = l')) ∧ w6 = wx)
      case first =>
        generalize (⟨l.toArray⟩ : ByteArray) = s1 at *
        generalize (⟨l'.toArray⟩ : ByteArray) = s2 at *
        have HEQ := Lib.hid heq
        clear heq
        by_cases e1 : t = t'
        · subst e1
          by_cases e2 : n = n'
          · subst e2
            by_cases e3 : p = p'
            · subst e3
              go_wp2_with fail
              go_meet
              case rel => exact ⟨by rw [HEQ.out]; simp, rfl⟩
            · have HH := Lib.hid e3
              have hb : (p == p') = false := by simpa using e3
              clear e3
              go_wp2_with fail
              go_meet
              case rel => exact ⟨by simp [HH.out], rfl⟩
          · have HH := Lib.hid e2
            have hb : (n == n') = false := by simpa using e2
            clear e2
            go_wp2_with fail
            go_meet
            case rel => exact ⟨by simp [HH.out], rfl⟩
        · have HH := Lib.hid e1
          have hb : (t == t') = false := by simpa using e1
          clear e1
          go_wp2_with fail
          go_meet
          case rel => exact ⟨by simp [HH.out], rfl⟩
      case rest =>
        obtain ⟨rfl, rfl⟩ := hcut
        clear k1 k2 heq
        generalize hbe : decide (t = t' ∧ n = n' ∧ p = p' ∧ l = l') = beta at *
        have HBE := Lib.hid hbe
        clear hbe
        go_wp2_with fail
        refine (reply_any er ra b m.length d _ he0 he1 hr0 hr1).mono ?_
        rintro e w7 ⟨rfl, f7⟩
        unfold av
        have HQ7 := Lib.hid (And.intro (crow_kept HQ6.out.1 f7 (fun h => h)) (And.intro (crow_kept HQ6.out.2.1 f7 (fun h => h)) (And.intro (crow_kept HQ6.out.2.2.1 f7 (fun h => h)) (And.intro (crow_kept HQ6.out.2.2.2.1 f7 (fun h => h)) (crow_kept HQ6.out.2.2.2.2 f7 (fun h => h))))))
        have HF7 := Lib.hid (HF6.out.trans0 f7)
        clear f7 HQ6 HF6 ca0 ca1 ca2 ca3 cb0 cb1 cb2 cb3 cc0 cc1 cc2
        go_upto_region 23 with fail
        have q8 := new_two w7 (Obj.cells #[.int .i64 er, .int .i64 ra, .slice b m.length d] 36 (0, 0)) (Obj.cells #[.int .i64 er, .int .i64 (ra + 1), .slice b m.length d] 36 (0, 0))
        have f8 := (Fr.refl (fun _ => False) w7).alloc (Obj.cells #[.int .i64 er, .int .i64 ra, .slice b m.length d] 36 (0, 0))
        have f8' := (Fr.refl (fun _ => False) (w7.alloc (Obj.cells #[.int .i64 er, .int .i64 ra, .slice b m.length d] 36 (0, 0)))).alloc (Obj.cells #[.int .i64 er, .int .i64 (ra + 1), .slice b m.length d] 36 (0, 0))
        have q9 := crow_kept (heap_alloc_new w7 (Obj.cells #[.int .i64 er, .int .i64 ra, .slice b m.length d] 36 (0, 0))) f8' (fun h => h)
        have f9 := f8.trans0 f8'
        clear f8 f8'
        generalize (w7.alloc (Obj.cells #[.int .i64 er, .int .i64 ra, .slice b m.length d] 36 (0, 0))).alloc (Obj.cells #[.int .i64 er, .int .i64 (ra + 1), .slice b m.length d] 36 (0, 0)) = w8 at *
        have HB := Lib.hid (And.intro (crow_kept HQ7.out.1 f9 (fun h => h)) (And.intro (crow_kept HQ7.out.2.1 f9 (fun h => h)) (And.intro (crow_kept HQ7.out.2.2.1 f9 (fun h => h)) (And.intro (crow_kept HQ7.out.2.2.2.1 f9 (fun h => h)) (And.intro (crow_kept HQ7.out.2.2.2.2 f9 (fun h => h)) (And.intro q9 q8))))))
        have HW8 := Lib.hid (HF7.out.trans0 f9)
        clear f9 q9 q8 HQ7 HF7
        generalize w7.heap.size + 1 = g7 at *
        generalize w7.heap.size = g6 at *
        have m0 : ∀ W, Fr (fun _ => False) w8 W → Calls Try.prog 19 #[(.agg #[.int .u16 t, .int .u16 n, .int .i64 p, .slice a l.length c]), (.agg #[.int .u16 t', .int .u16 n', .int .i64 p', .slice a' l'.length c'])] W fun e w' => e = .returned (.bool beta) ∧ Fr (fun _ => False) W w' := fun W hW => by
          have := csame_any t n p t' n' p' (.slice a l.length c) (.slice a' l'.length c') l l' W ((HS.out.1.fr HW8.out).fr hW).1 ((HS.out.2.1.fr HW8.out).fr hW).1
          rw [HBE.out] at this
          exact this
        have m1 : ∀ W, Fr (fun _ => False) w8 W → Calls Try.prog 20 #[(.agg #[.int .i64 er, .int .i64 ra, .slice b m.length d]), (.agg #[.int .i64 er, .int .i64 ra, .slice b m.length d])] W fun e w' => e = .returned (.bool true) ∧ Fr (fun _ => False) W w' := fun W hW => by
          have := alike_any er ra er ra (.slice b m.length d) (.slice b m.length d) m m W ((HS.out.2.2.fr HW8.out).fr hW).1 ((HS.out.2.2.fr HW8.out).fr hW).1
          rw [show decide (er = er ∧ ra = ra ∧ m = m) = true by simp] at this
          exact this
        have m2 : ∀ W, Fr (fun _ => False) w8 W → Calls Try.prog 20 #[(.agg #[.int .i64 er, .int .i64 ra, .slice b m.length d]), (.agg #[.int .i64 er, .int .i64 (ra + 1), .slice b m.length d])] W fun e w' => e = .returned (.bool false) ∧ Fr (fun _ => False) W w' := fun W hW => by
          have := alike_any er ra er (ra + 1) (.slice b m.length d) (.slice b m.length d) m m W ((HS.out.2.2.fr HW8.out).fr hW).1 ((HS.out.2.2.fr HW8.out).fr hW).1
          rw [show decide (er = er ∧ ra = ra + 1 ∧ m = m) = false by simp; omega] at this
          exact this
        have HM := Lib.hid (And.intro m0 (And.intro m1 m2))
        clear m0 m1 m2
        refine wp_region_told (by kernel_rfl) (fun a b => Fr (fun _ => False) a b) (fun w => Fr.refl _ w) (fun _ _ _ h k => h.trans k (fun _ _ h => h)) [121, 122, 123, 124, 125, 126, 127, 128, 129, 130, 131, 132, 133, 134, 135, 136, 137, 138, 139, 140, 141, 142, 143, 144, 145, 146, 147, 148, 149, 150, 151, 14] rfl (by decide) (by intro d hd; simp at hd ⊢; omega)
          (fun i v _ => v = [(.agg #[.int .u16 t, .int .u16 n, .int .i64 proc, .slice (some ⟨g4, 0, none⟩) K K]), .int .i64 (cchk proc K), .int .i64 (cchk proc K), .bool true, .bool true, (.agg #[.int .i64 err, .int .i64 raised, .slice (some ⟨g4, 0, none⟩) K K]), .int .i64 (achk err raised K), .int .i64 (achk err raised K), .bool true, .bool true, .bool true, (.agg #[.int .u16 t, .int .u16 n, .int .u16 p, .slice a l.length c]), (.agg #[.int .u16 t, .int .u16 n, .int .i64 p, .slice a l.length c]), (.agg #[.int .u16 t', .int .u16 n', .int .u16 p', .slice a' l'.length c']), (.agg #[.int .u16 t', .int .u16 n', .int .i64 p', .slice a' l'.length c']), .bool beta, .bool beta, .bool true, .bool true, .bool true, (.agg #[.int .i64 er, .int .i64 ra, .slice b m.length d]), (.agg #[.int .u16 er, .int .u16 ra, .slice b m.length d]), (.agg #[.int .i64 er, .int .i64 ra, .slice b m.length d]), .bool true, .bool true, .bool true, (.agg #[.int .i64 er, .int .i64 ra, .slice b m.length d]), (.agg #[.int .i64 er, .int .i64 (ra + 1), .slice b m.length d]), .bool false, .bool true, .bool true, .bool true].getD i undef)
          (fun _ _ _ _ _ h => h) (by kernel_rfl) ?step ?fin
        case step =>
          intro vals
          simp only [frOf, fill, List.setIfInBounds_toArray, List.set_cons_succ, List.set_cons_zero]
          repeat' (first | exact AllOps.nil | refine AllOps.cons ?_ ?_)
          all_goals
            intro wx hle he K' hK
            simp only [Act.put, List.setIfInBounds_toArray, List.set_cons_succ, List.set_cons_zero, List.getD_cons_zero, List.getD_cons_succ] at hK
            simp only [List.mem_cons, List.not_mem_nil, or_false, forall_eq_or_imp, forall_eq, Region.binds, forall_const, false_imp_iff, List.getD_cons_zero, List.getD_cons_succ] at he
            try simp only [he] at hK ⊢
            have hl5 := Fr.trans (Fr.drew (Fr.refl (fun _ => False) w8)) hle (fun _ _ h => h)
            have hl8 := Lib.hid hl5
            obtain ⟨ca0, ca1, ca2, ca3⟩ := cell4 (crow_kept HB.out.1 hl5 (fun h => h))
            obtain ⟨cb0, cb1, cb2, cb3⟩ := cell4 (crow_kept HB.out.2.1 hl5 (fun h => h))
            obtain ⟨cc0, cc1, cc2⟩ := cell3 (crow_kept HB.out.2.2.1 hl5 (fun h => h))
            obtain ⟨cd0, cd1, cd2, cd3⟩ := cell4 (crow_kept HB.out.2.2.2.1 hl5 (fun h => h))
            obtain ⟨ce0, ce1, ce2⟩ := cell3 (crow_kept HB.out.2.2.2.2.1 hl5 (fun h => h))
            obtain ⟨cf0, cf1, cf2⟩ := cell3 (crow_kept HB.out.2.2.2.2.2.1 hl5 (fun h => h))
            obtain ⟨ci0, ci1, ci2⟩ := cell3 (crow_kept HB.out.2.2.2.2.2.2 hl5 (fun h => h))
            clear hl5 hle he
            try go_simp
          all_goals first
            | exact hK _ _ (Fr.refl _ _) rfl
            | skip
          · go_at_call 24; refine (ccheck_any t n proc (some ⟨g4, 0, none⟩) K K _).mono ?_; rintro e1 wa ⟨rfl, fa⟩; exact hK _ _ fa rfl
          · go_at_call 25; refine (acheck_any err raised (some ⟨g4, 0, none⟩) K K _).mono ?_; rintro e1 wa ⟨rfl, fa⟩; exact hK _ _ fa rfl
          · go_at_call 7; refine (small_any t n p a l.length c _ hp0 hp1).mono ?_; rintro e1 wa ⟨rfl, fa⟩; exact hK _ _ fa rfl
          · go_at_call 7; refine (small_any t' n' p' a' l'.length c' _ hp0' hp1').mono ?_; rintro e1 wa ⟨rfl, fa⟩; exact hK _ _ fa rfl
          · go_at_call 19; refine (HM.out.1 _ hl8.out).mono ?_; rintro e1 wa ⟨rfl, fa⟩; exact hK _ _ fa rfl
          · go_at_call 8; refine (reply_any er ra b m.length d _ he0 he1 hr0 hr1).mono ?_; rintro e1 wa ⟨rfl, fa⟩; exact hK _ _ fa rfl
          · go_at_call 20; refine (HM.out.2.1 _ hl8.out).mono ?_; rintro e1 wa ⟨rfl, fa⟩; exact hK _ _ fa rfl
          · go_at_call 20; refine (HM.out.2.2 _ hl8.out).mono ?_; rintro e1 wa ⟨rfl, fa⟩; exact hK _ _ fa rfl
        case fin =>
          intro vals w' hle hV
          have h9 : vals 31 = .bool true := hV 31 (by decide)
          clear hV
          have hfin := HW8.out.trans (Fr.trans (Fr.drew (Fr.refl (fun _ => False) w8)) hle (fun _ _ h => h)) (fun _ _ h => h)
          simp only [frOf, fill, List.setIfInBounds_toArray, List.set_cons_succ, List.set_cons_zero, Nat.reduceAdd]
          go_wp2_with fail
          go_ret
          exact ⟨by first | rfl | rw [h9], hfin⟩

/-- In the form that the statement's lift takes. -/
theorem checks_all {w : World} (s : Sc) (v : Value) (hv : ScV w s v) (s' : Sc) (v' : Value) (hv' : ScV w s' v') (proc : Int) (_ : -9223372036854775808 ≤ proc) (_ : proc ≤ 9223372036854775807) (err : Int) (_ : -9223372036854775808 ≤ err) (_ : err ≤ 9223372036854775807) (raised : Int) (_ : -9223372036854775808 ≤ raised) (_ : raised ≤ 9223372036854775807) (long : Int) (h0 : 0 ≤ long) (h1 : long ≤ 65535) (x : Sa) (u : Value) (hu : SaV w x u) :
    Calls Try.prog 4 #[v, v', .int .i64 proc, .int .i64 err, .int .i64 raised, .int .u16 long, u] w fun e w' => e = .returned (.bool true) ∧ Fr (fun _ => False) w w' := checks_any s s' v v' proc err raised long x u w hv hv' hu ⟨h0, h1⟩
end Go.Proofs.Ytgjbndhjkhfjlaa
