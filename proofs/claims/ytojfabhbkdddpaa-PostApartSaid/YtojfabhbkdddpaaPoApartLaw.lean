/-
  The law PostApart, walked.
-/
import Derived.Test.YtojfabhbkdddpaaPoPW
import Derived.Test.YtojfabhbkdddpaaPoBits
import Derived.Deep.Cut
import Derived.Deep.CutRange
import Derived.Deep.CutBlock
import Derived.Deep.LoopGhost
import Derived.Deep.QuietTactic
import Derived.BigQuiet
namespace Go.Proofs.Ytojfabhbkdddpaa
open Go.RowKit
set_option maxRecDepth 100000
set_option linter.unusedSimpArgs false
set_option linter.unusedVariables false

theorem apart_math (l : List UInt8) (from_ : Int) (m : Nat) (hm0 : m ≠ 0) (h4 : 4 ≤ l.length) : ∃ f : Nat, f + 32 ≤ 8 * l.length ∧ from_ % (8 * (l.length : Int) - 31) = f ∧
    spoilB [(1, l, false), (1, l, false)] 0 m = true ∧ spoilP [(1, l, false), (1, l, false)] 0 from_ m = [(1, turnL l f m, true), (1, l, false)] ∧ spoilB [(1, turnL l f m, true), (1, l, false)] 0 m = false ∧
    spoilB [(1, turnL l f m, true), (1, l, false), (1, turnL l f m, true)] 1 m = true := by
  have h1 := Int.emod_nonneg from_ (show 8 * (l.length : Int) - 31 ≠ 0 by omega)
  have h2 := Int.emod_lt_of_pos from_ (show 0 < 8 * (l.length : Int) - 31 by omega)
  have e : spoilB [(1, l, false), (1, l, false)] 0 m = true := by
    simp [spoilB, hasB, lookP, hm0, h4]
  refine ⟨(from_ % (8 * (l.length : Int) - 31)).toNat, by omega, by omega, e, ?_, ?_, ?_⟩
  · unfold spoilP
    rw [e, if_pos rfl]
    rfl
  · simp [spoilB, hasB, lookP]
  · simp [spoilB, hasB, lookP, hm0, h4]

theorem Fr.drewN {S : Nat → Prop} {a b : World} (h : Fr S a b) (n : Nat) : Fr S a (b.drewN n) := ⟨h.os, h.tape, h.output, h.size, h.block⟩

theorem dif_le (x y : List UInt8) : ∀ n, difN x y n ≤ 8 * n
  | 0 => by simp [difN]
  | n + 1 => by
    have h1 := dif_le x y n
    have h2 := cnt_le 8 (x.getD n 0 ^^^ y.getD n 0).toNat
    simp only [difN]
    omega

set_option maxHeartbeats 16000000 in
theorem postapart_any (v : Value) (l : List UInt8) (from_ : Int) (hfr : -9223372036854775808 ≤ from_ ∧ from_ ≤ 9223372036854775807) (m : Nat) (hm : m < 4294967296) (w : World) (hs : Sees w v l) :
    Calls Try.prog 6 #[v, .int .i64 from_, .int .u32 m] w fun z w' => z = .returned (.bool true) ∧ Fr (fun _ => False) w w' := by
  obtain ⟨a, c, rfl, hn⟩ := hs.shape
  clear hn
  go_enter Try.func6, Try.ntmps6
  go_wp2_with fail
  refine (awake_any _).mono ?_
  rintro z w1 ⟨rfl, f1⟩
  by_cases hl : l.length < 4
  case pos =>
    have hg : (l.length : Int) < 4 := by omega
    have F1 := Lib.hid f1; clear f1
    go_wp2_with fail
    go_ret
    exact ⟨rfl, F1.out⟩
  by_cases hl1 : 100 < l.length
  case pos =>
    have hg : ¬ (l.length : Int) < 4 := by omega
    have hg1 : (100 : Int) < (l.length : Int) := by omega
    have F1 := Lib.hid f1; clear f1
    go_wp2_with fail
    go_ret
    exact ⟨rfl, F1.out⟩
  by_cases hm0 : m = 0
  case pos =>
    subst hm0
    have hg : ¬ (l.length : Int) < 4 := by omega
    have hg1 : ¬ (100 : Int) < (l.length : Int) := by omega
    have F1 := Lib.hid f1; clear f1
    go_wp2_with fail
    go_ret
    exact ⟨rfl, F1.out⟩
  obtain ⟨f, hf, hff, es1, es2, es3, es4⟩ := apart_math l from_ m hm0 (by omega)
  have ES := Lib.hid (And.intro es1 (And.intro es2 (And.intro es3 es4)))
  have HF := Lib.hid hf
  clear hf hff es1 es2 es3 es4
  have hg : ¬ (l.length : Int) < 4 := by omega
  have hg1 : ¬ (100 : Int) < (l.length : Int) := by omega
  have hmz : ((m : Int) == 0) = false := by simp; omega
  have hmz2 : ¬ ((m : Int) = 0) := by omega
  have hp := PW.new f1
  have hs1 := (hs.fr f1 (fun _ _ h => h)).fr ((Fr.refl (fun _ => False) w1).alloc (oPo nilS)) (fun _ _ h => h)
  have H1 := Lib.hid (send_pw hp 1 l (.slice a l.length c) hs1 (by omega))
  have HS := Lib.hid hs
  clear hp hs1 f1 hs
  go_wp2_with fail
  generalize w1.alloc (oPo nilS) = w2 at *
  generalize w1.heap.size = b at *
  refine H1.out.mono ?_
  clear H1
  rintro z w3 ⟨rfl, hp, _⟩
  rw [show sendP [] (1, l, false) = [(1, l, false)] from rfl] at hp
  have HP := Lib.hid (copy_pw hp 0)
  clear hp
  go_wp2_with fail
  refine HP.out.mono ?_
  clear HP
  rintro z w4 ⟨rfl, hp, _⟩
  rw [show copyP [((1 : Int), l, false)] 0 = [(1, l, false), (1, l, false)] from rfl] at hp
  have HP := Lib.hid (spoil_pw hp 0 from_ hfr m hm)
  clear hp
  rw [ES.out.1, ES.out.2.1] at HP
  go_wp2_with fail
  refine HP.out.mono ?_
  clear HP
  rintro z w5 ⟨rfl, hp, _⟩
  have HP := Lib.hid (spoil_pw hp 0 from_ hfr m hm)
  rw [ES.out.2.2.1, show spoilP [(1, turnL l f m, true), (1, l, false)] 0 from_ m = [(1, turnL l f m, true), (1, l, false)] by unfold spoilP; rw [ES.out.2.2.1]; rfl] at HP
  clear hp
  go_wp2_with fail
  refine HP.out.mono ?_
  clear HP
  rintro z w6 ⟨rfl, hp, _⟩
  have HP := Lib.hid (look_pw hp 0)
  rw [show lookP [(1, turnL l f m, true), (1, l, false)] 0 = (1, turnL l f m, true) from rfl, show hasB 0 [((1 : Int), turnL l f m, true), (1, l, false)].length = true from rfl] at HP
  clear hp
  obtain ⟨X, hX⟩ : ∃ X, X = turnL l f m := ⟨_, rfl⟩
  have hXl : X.length = l.length := by rw [hX]; exact turnN_length _ _ _ 32
  rw [← hX] at HP ES
  have HX := Lib.hid (And.intro hX hXl)
  clear hX hXl
  go_wp2_with fail
  refine HP.out.mono ?_
  clear HP
  rintro z w7 ⟨u, rfl, hm7, hp⟩
  obtain ⟨ua, uc, rfl⟩ := slice_of_own hm7.1
  dsimp only at hp hm7 ⊢
  have f8 : Fr (fun _ => False) w7 (w7.alloc (oFl 1 (.slice ua X.length uc) true)) := (Fr.refl _ _).alloc _
  have hp8 : PW w (w7.alloc (oFl 1 (.slice ua X.length uc) true)) b [(1, X, true), (1, l, false)] (fun k => (Value.slice ua X.length uc).ownBlock = some k ∨ k = w7.heap.size) := hp.other f8 (fun _ _ h => h.elim) (fun k hk => by
    rcases hk with e | e
    · exact .inl (.inr e)
    · right; rw [World.size_alloc]; omega)
  have H8 := Lib.hid (And.intro (hm7.1.fr f8 (fun _ _ h => h)) (And.intro (heap_alloc_new w7 (oFl 1 (.slice ua X.length uc) true)) hp8))
  have HP := Lib.hid (look_pw hp8 1)
  rw [show lookP [((1 : Int), X, true), (1, l, false)] 1 = (1, l, false) from rfl, show hasB 1 [((1 : Int), X, true), (1, l, false)].length = true from rfl] at HP
  clear hp hm7 f8 hp8
  go_upto_region 11 with fail
  generalize w7.alloc (oFl 1 (.slice ua X.length uc) true) = w8 at *
  generalize w7.heap.size = g8 at *
  go_wp2_with fail
  refine HP.out.mono ?_
  clear HP
  rintro z w9 ⟨u2, rfl, hm9, hp⟩
  obtain ⟨ub, ud, rfl⟩ := slice_of_own hm9.1
  dsimp only at hp hm9 ⊢
  have f10 : Fr (fun _ => False) w9 (w9.alloc (oFl 1 (.slice ub l.length ud) false)) := (Fr.refl _ _).alloc _
  have f810 : Fr (fun _ => False) w8 (w9.alloc (oFl 1 (.slice ub l.length ud) false)) := hm9.2.1.trans f10 (fun _ _ h => h)
  have hp10 : PW w (w9.alloc (oFl 1 (.slice ub l.length ud) false)) b [(1, X, true), (1, l, false)] (fun k => ((Value.slice ua X.length uc).ownBlock = some k ∨ k = g8) ∨ ((Value.slice ub l.length ud).ownBlock = some k ∨ k = w9.heap.size)) := hp.other f10 (fun _ _ h => h.elim) (fun k hk => by
    rcases hk with e | e | e
    · exact .inl (.inl e)
    · exact .inl (.inr e)
    · right; rw [World.size_alloc]; omega)
  have H10 := Lib.hid (And.intro (H8.out.1.fr f810 (fun _ _ h => h)).sees (And.intro (crow_kept H8.out.2.1 f810 (fun h => h)) (And.intro (hm9.1.fr f10 (fun _ _ h => h)).sees (And.intro (heap_alloc_new w9 (oFl 1 (.slice ub l.length ud) false)) hp10))))
  clear hp hm9 f10 hp10 f810 H8
  go_upto_region 12 with fail
  generalize w9.alloc (oFl 1 (.slice ub l.length ud) false) = w10 at *
  generalize w9.heap.size = g10 at *
  obtain ⟨hux, hb8, hul, hb10, hp10⟩ := H10.out
  obtain ⟨c0, c1, c2⟩ := cell3 hb8
  obtain ⟨d0, d1, d2⟩ := cell3 hb10
  obtain ⟨n, hn⟩ : ∃ n, n = l.length := ⟨_, rfl⟩
  have hXn : X.length = n := by rw [hn]; exact HX.out.2
  have hn100 : n ≤ 100 := by omega
  have HN := Lib.hid hn
  rw [hXn] at c1
  rw [← hn] at d1
  clear hux hb8 hul hb10 hp10 hn
  have HXN := Lib.hid hXn
  clear hXn hg hg1 hmz hmz2 hl hl1
  go_wp2_with fail
  go_loopg [12, 64] n (fun g u12 u64 wr => ∃ k : Nat, k ≤ n ∧ g = n - k ∧ u64 = .int .i64 k ∧ u12 = .int .i64 (difN X l k) ∧ Fr (fun _ => False) w10 wr)
  case atStart => exact ⟨0, by omega, rfl, rfl, rfl, Fr.refl _ _⟩
  case round =>
    clear c0 c1 c2 d0 d1 d2
    obtain ⟨k, hk, rfl, rfl, rfl, hfw⟩ := hrel
    by_cases hlt : k < n
    case pos =>
      obtain ⟨ga, oa, rfl, ca⟩ := sees_at (H10.out.1.fr hfw (fun _ _ h => h)) k (by rw [HXN.out]; exact hlt)
      obtain ⟨gb, ob, rfl, cb⟩ := sees_at (H10.out.2.2.1.fr hfw (fun _ _ h => h)) k (by rw [← HN.out]; exact hlt)
      obtain ⟨c0, c1, c2⟩ := cell3 (crow_kept H10.out.2.1 hfw (fun h => h))
      obtain ⟨d0, d1, d2⟩ := cell3 (crow_kept H10.out.2.2.2.1 hfw (fun h => h))
      rw [HXN.out] at c1
      rw [← HN.out] at d1
      have HFW := Lib.hid hfw
      clear hfw
      have hD : difN X l (k + 1) = difN X l k + cnt 8 (X.getD k 0 ^^^ l.getD k 0).toNat := rfl
      have hle := dif_le X l k
      have hx : bits .xor .u8 ((X.getD k 0).toNat : Int) ((l.getD k 0).toNat : Int) = ((X.getD k 0 ^^^ l.getD k 0).toNat : Int) := by
        rw [Go.u8_xor_nat _ _ (UInt8.toNat_lt _) (UInt8.toNat_lt _), UInt8.toNat_xor]
      have hD256 := (X.getD k 0 ^^^ l.getD k 0).toNat_lt
      obtain ⟨D, hDD⟩ : ∃ D, D = (X.getD k 0 ^^^ l.getD k 0).toNat := ⟨_, rfl⟩
      rw [← hDD] at hx hD hD256
      unfold bv at ca cb
      clear hDD
      generalize (X.getD k 0).toNat = xa at *
      generalize (l.getD k 0).toNat = xb at *
      obtain ⟨A, hA⟩ : ∃ A, A = difN X l k := ⟨_, rfl⟩
      rw [← hA] at hD hle ⊢
      have HD := Lib.hid hD
      clear hD hA
      go_upto_region 16 with fail
      go_quiet (fail)
      go_wp2_with fail
      clear hx ca cb c0 c1 c2 d0 d1 d2
      have HF0 := Lib.hid (HFW.out.trans (Fr.drewN (Fr.refl (fun _ => False) wr) nq) (fun _ _ h => h))
      clear HFW
      generalize wr.drewN nq = wo at *
      have hc8 := cnt_le 8 D
      go_loopg [12, 14] D (fun g u12 u14 wr => ∃ (x q : Nat), g = x ∧ Hid (x ≤ D) ∧ q ≤ 8 ∧ u14 = .int .u8 x ∧ u12 = .int .i64 ((A : Int) + q) ∧ Hid (q + cnt 8 x = cnt 8 D) ∧ wr = wo)
      case atStart => exact ⟨D, 0, rfl, Lib.hid (Nat.le_refl _), by omega, rfl, by simp, Lib.hid (by simp), rfl⟩
      case round =>
        obtain ⟨x, q, hgx, HXX, hq, rfl, rfl, HQ, rfl⟩ := hrel
        have HGX := Lib.hid hgx
        clear hgx
        by_cases h0 : 0 < x
        case pos =>
          have hx1 : x < 256 := by have := HXX.out; omega
          have hs : IntKind.u8.wrap ((x : Int) - 1) = ((x - 1 : Nat) : Int) := by rw [IntKind.wrap_u8]; omega
          have ha := Go.u8_and_nat x (x - 1) hx1 (by omega)
          have HDr := Lib.hid (cnt_drop 8 x h0 (by simpa using hx1))
          have HL := Lib.hid (and_pred_lt x h0)
          have h0' : (0 : Int) < (x : Int) := by omega
          have HQ1 : Hid (q + 1 ≤ 8) := Lib.hid (by have := HQ.out; have := HDr.out; omega)
          have HQ2 : Hid (q + 1 + cnt 8 (x &&& (x - 1)) = cnt 8 D) := Lib.hid (by have := HQ.out; have := HDr.out; omega)
          have HX2 : Hid (x &&& (x - 1) ≤ D) := Lib.hid (by have := HXX.out; have := HL.out; omega)
          clear hx1 HDr
          generalize x &&& (x - 1) = y at *
          generalize x - 1 = z at *
          go_wp2_with fail
          go_roundg y
          case measure => have := HL.out; have := HGX.out; omega
          case rel => exact ⟨y, q + 1, rfl, HX2, HQ1.out, rfl, (by congr 1 <;> omega), HQ2, rfl⟩
        case neg =>
          obtain rfl : x = 0 := by omega
          clear h0
          have HFI : Hid (A + q = difN X l (k + 1)) := Lib.hid (by have := HQ.out; rw [cnt_zero] at this; have := HD.out; omega)
          go_wp2_with fail
          go_roundg (n - (k + 1))
          case measure => omega
          case rel => exact ⟨k + 1, by omega, rfl, by simp, congrArg (Value.int .i64) (by have := HFI.out; omega), HF0.out⟩
    case neg =>
      obtain rfl : k = n := by omega
      have hdn : difN X l k = cnt 32 m := by
        rw [HX.out.1, HN.out]
        exact dif_turn l f m HF.out
      rw [hdn]
      clear hdn hk hlt
      have HF0 := Lib.hid hfw
      clear hfw
      obtain ⟨wo, rfl⟩ : ∃ wo : World, wo = wr := ⟨_, rfl⟩
      have hc32 := cnt_le 32 m
      go_wp2_with fail
      go_loopg [15, 16] m (fun g u15 u16 wr => ∃ (x q : Nat), g = x ∧ Hid (x ≤ m) ∧ q ≤ 32 ∧ u16 = .int .u32 x ∧ u15 = .int .i64 q ∧ Hid (q + cnt 32 x = cnt 32 m) ∧ wr = wo)
      case atStart => exact ⟨m, 0, rfl, Lib.hid (Nat.le_refl _), by omega, rfl, by simp, Lib.hid (by simp), rfl⟩
      case round =>
        obtain ⟨x, q, hgx, HXX, hq, rfl, rfl, HQ, rfl⟩ := hrel
        have HGX := Lib.hid hgx
        clear hgx
        by_cases h0 : 0 < x
        case pos =>
          have hx1 : x < 4294967296 := by have := HXX.out; omega
          have hs : IntKind.u32.wrap ((x : Int) - 1) = ((x - 1 : Nat) : Int) := by rw [IntKind.wrap_u32]; omega
          have ha := Go.u32_and_nat x (x - 1) hx1 (by omega)
          have HDr := Lib.hid (cnt_drop 32 x h0 (by simpa using hx1))
          have HL := Lib.hid (and_pred_lt x h0)
          have h0' : (0 : Int) < (x : Int) := by omega
          have HQ1 : Hid (q + 1 ≤ 32) := Lib.hid (by have := HQ.out; have := HDr.out; omega)
          have HQ2 : Hid (q + 1 + cnt 32 (x &&& (x - 1)) = cnt 32 m) := Lib.hid (by have := HQ.out; have := HDr.out; omega)
          have HX2 : Hid (x &&& (x - 1) ≤ m) := Lib.hid (by have := HXX.out; have := HL.out; omega)
          clear hx1 HDr
          generalize x &&& (x - 1) = y at *
          generalize x - 1 = z at *
          go_wp2_with fail
          go_roundg y
          case measure => have := HL.out; have := HGX.out; omega
          case rel => exact ⟨y, q + 1, rfl, HX2, HQ1.out, rfl, by congr 1, HQ2, rfl⟩
        case neg =>
          obtain rfl : x = 0 := by omega
          clear h0
          obtain rfl : q = cnt 32 m := by have := HQ.out; rw [cnt_zero] at this; omega
          have HPO := Lib.hid (H10.out.2.2.2.2.fr0 HF0.out)
          have HP := Lib.hid (copy_pw HPO.out 0)
          rw [show copyP [((1 : Int), X, true), (1, l, false)] 0 = [(1, X, true), (1, l, false), (1, X, true)] from rfl] at HP
          go_wp2_with fail
          refine HP.out.mono ?_
          clear HP
          rintro z w11 ⟨rfl, hp11, f11⟩
          have nou : ∀ k, ((Value.slice ua X.length uc).ownBlock = some k ∨ k = g8) ∨ ((Value.slice ub l.length ud).ownBlock = some k ∨ k = g10) → ¬ (w.heap.size ≤ k ∧ ¬ (((Value.slice ua X.length uc).ownBlock = some k ∨ k = g8) ∨ ((Value.slice ub l.length ud).ownBlock = some k ∨ k = g10))) := fun k hk hn => hn.2 hk
          have H11 := Lib.hid (And.intro ((H10.out.1.fr HF0.out (fun _ _ h => h)).fr f11 (fun k hk => nou k (.inl (.inl hk)))) (And.intro (crow_kept (crow_kept H10.out.2.1 HF0.out (fun h => h)) f11 (nou g8 (.inl (.inr rfl)))) (And.intro ((H10.out.2.2.1.fr HF0.out (fun _ _ h => h)).fr f11 (fun k hk => nou k (.inr (.inl hk)))) (crow_kept (crow_kept H10.out.2.2.2.1 HF0.out (fun h => h)) f11 (nou g10 (.inr (.inr rfl)))))))
          have HP := Lib.hid (And.intro (look_pw hp11 2) (look_pw hp11 2))
          rw [show lookP [((1 : Int), X, true), (1, l, false), (1, X, true)] 2 = (1, X, true) from rfl, show hasB 2 [((1 : Int), X, true), (1, l, false), (1, X, true)].length = true from rfl] at HP
          clear hp11 f11 nou H10 HF0 HPO
          go_wp2_with fail
          refine HP.out.1.mono ?_
          clear HP
          rintro z w12 ⟨u3, rfl, hm12, hp⟩
          obtain ⟨ue, ug, rfl⟩ := slice_of_own hm12.1
          dsimp only at hp hm12 ⊢
          have f13 : Fr (fun _ => False) w12 (w12.alloc (oFl 1 (.slice ue X.length ug) true)) := (Fr.refl _ _).alloc _
          have f1113 : Fr (fun _ => False) w11 (w12.alloc (oFl 1 (.slice ue X.length ug) true)) := hm12.2.1.trans f13 (fun _ _ h => h)
          have hp13 : PW w (w12.alloc (oFl 1 (.slice ue X.length ug) true)) b [(1, X, true), (1, l, false), (1, X, true)] (fun _ => False) := hp.other f13 (fun _ _ h => h.elim) (fun k hk => hk.elim)
          have H13 := Lib.hid (And.intro (H11.out.1.fr f1113 (fun _ _ h => h)) (And.intro (crow_kept H11.out.2.1 f1113 (fun h => h)) (And.intro (H11.out.2.2.1.fr f1113 (fun _ _ h => h)) (And.intro (crow_kept H11.out.2.2.2 f1113 (fun h => h)) (And.intro (hm12.1.fr f13 (fun _ _ h => h)).sees (And.intro (heap_alloc_new w12 (oFl 1 (.slice ue X.length ug) true)) hp13))))))
          clear hp hm12 f13 f1113 hp13 H11
          go_upto_region 28 with fail
          generalize w12.alloc (oFl 1 (.slice ue X.length ug) true) = w13 at *
          generalize w12.heap.size = g17 at *
          obtain ⟨c0, c1, c2⟩ := cell3 H13.out.2.1
          obtain ⟨d0, d1, d2⟩ := cell3 H13.out.2.2.2.1
          obtain ⟨e0, e1, e2⟩ := cell3 H13.out.2.2.2.2.2.1
          have hp13 := H13.out.2.2.2.2.2.2
          have t1 : (convert 30 9 (.slice ua X.length uc)).run Try.prog w13 = .ok (.string ⟨X.toArray⟩) w13 := H13.out.1.string _ _ _ Try.underlying30 Try.underlying5 Try.underlying9
          have t2 : (convert 30 9 (.slice ub l.length ud)).run Try.prog w13 = .ok (.string ⟨l.toArray⟩) w13 := H13.out.2.2.1.string _ _ _ Try.underlying30 Try.underlying5 Try.underlying9
          have t3 : (convert 30 9 (.slice ue X.length ug)).run Try.prog w13 = .ok (.string ⟨X.toArray⟩) w13 := H13.out.2.2.2.2.1.string _ _ _ Try.underlying30 Try.underlying5 Try.underlying9
          have t4 : (convert 30 9 (.slice a l.length c)).run Try.prog w13 = .ok (.string ⟨l.toArray⟩) w13 := (HS.out.fr hp13.fr (fun _ _ h => h)).string _ _ _ Try.underlying30 Try.underlying5 Try.underlying9
          have HP := Lib.hid (spoil_pw hp13 1 from_ hfr m hm)
          rw [ES.out.2.2.2] at HP
          clear hp13 HXX HQ hq HGX
          generalize X.length = xn at *
          generalize l.length = ln at *
          go_wp2_with fail
          refine HP.out.mono ?_
          clear HP
          rintro z w14 ⟨rfl, hp14, _⟩
          have F14 := Lib.hid hp14.fr
          clear hp14 c0 c1 c2 d0 d1 d2 e0 e1 e2 t1 t2 t3 t4
          go_wp2_with fail
          go_ret
          exact ⟨rfl, F14.out⟩

/-- For every slice of bytes and any numbers, in the form that the statement's lift takes. -/
theorem postapart_all {w : World} (va : Value) (la : List Int) (ha : SeesL w va (la.map (Value.int .u8))) (fa : ∀ n ∈ la, (Lit.int .u8 n).wf = true) (i : Int) (i0 : -9223372036854775808 ≤ i) (i1 : i ≤ 9223372036854775807) (m : Int) (m0 : 0 ≤ m) (m1 : m ≤ 4294967295) :
    Calls Try.prog 6 #[va, .int .i64 i, .int .u32 m] w fun e w' => e = .returned (.bool true) ∧ Fr (fun _ => False) w w' := by
  have := postapart_any va _ i ⟨i0, i1⟩ m.toNat (by omega) w (sees_u8 ha fa)
  rw [show (m.toNat : Int) = m by omega] at this
  exact this
end Go.Proofs.Ytojfabhbkdddpaa
