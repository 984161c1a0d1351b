/-
  The law PostFull, walked.
-/
import Derived.Test.YtojfabhbkdddpaaPoPW
import Derived.Deep.Cut
import Derived.Deep.CutRange
import Derived.Deep.CutBlock
import Derived.Deep.LoopGhost
namespace Go.Proofs.Ytojfabhbkdddpaa
open Go.RowKit
set_option maxRecDepth 100000
set_option linter.unusedSimpArgs false
set_option linter.unusedVariables false

theorem send_rep (n : Nat) (x : PF) (h : n < 400) : sendP (List.replicate n x) x = List.replicate (n + 1) x := by
  unfold sendP
  rw [List.length_replicate, if_pos h, List.replicate_succ']
theorem send_full (x y : PF) : sendP (List.replicate 400 x) y = List.replicate 400 x := by
  unfold sendP
  rw [List.length_replicate, if_neg (by omega)]
theorem copy_full (x : PF) : copyP (List.replicate 400 x) 0 = List.replicate 400 x := by
  unfold copyP
  rw [send_full]
  split <;> rfl
theorem copy_more (x : PF) : copyP (List.replicate 399 x) 0 = List.replicate 400 x := by
  have e : lookP (List.replicate 399 x) 0 = x := by
    unfold lookP hasB
    simp only [List.length_replicate]
    rw [if_pos (by decide), List.replicate_succ]
    rfl
  unfold copyP
  rw [e, send_rep 399 x (by omega), List.length_replicate, if_pos (by decide)]
theorem take_full (x : PF) : takeP (List.replicate 400 x) 3 = List.replicate 399 x := by
  unfold takeP
  rw [List.length_replicate, if_pos (by decide)]
  apply List.ext_getElem
  · rw [List.length_eraseIdx, List.length_replicate, List.length_replicate]; rfl
  · intro j h1 h2
    rw [List.getElem_eraseIdx]
    split <;> rw [List.getElem_replicate, List.getElem_replicate]
theorem look_full (x : PF) (i : Int) : lookP (List.replicate 400 x) i = if hasB i 400 then x else (0, [], false) := by
  cases hb : hasB i 400 with
  | true =>
    obtain ⟨j, rfl, hj, e⟩ := lookP_in (R := List.replicate 400 x) (by rw [List.length_replicate]) hb
    rw [e, List.getElem_replicate]
    rfl
  | false => rw [lookP_out (by rw [List.length_replicate]) hb]; rfl

set_option maxHeartbeats 16000000 in
theorem full_any (v : Value) (l : List UInt8) (tt i : Int) (w : World) (hs : Sees w v l) :
    Calls Try.prog 4 #[v, .int .i64 tt, .int .i64 i] w fun z w' => z = .returned (.bool true) ∧ Fr (fun _ => False) w w' := by
  obtain ⟨a, c, rfl, hn⟩ := hs.shape
  clear hn
  go_enter Try.func4, Try.ntmps4
  go_wp2_with fail
  refine (awake_any _).mono ?_
  rintro z w1 ⟨rfl, f1⟩
  by_cases hl : l.length ≤ 50
  case neg =>
    have hg : (50 : Int) < (l.length : Int) := by omega
    have F1 := Lib.hid f1; clear f1
    go_wp2_with fail
    go_ret
    exact ⟨rfl, F1.out⟩
  have hg : ¬ (50 : Int) < (l.length : Int) := by omega
  have hp := PW.new f1
  have hs1 := (hs.fr f1 (fun _ _ h => h)).fr ((Fr.refl (fun _ => False) w1).alloc (oPo nilS)) (fun _ _ h => h)
  have H1 := Lib.hid (And.intro hp hs1)
  clear hp hs1 f1
  go_wp2_with fail
  clear hg
  generalize w1.alloc (oPo nilS) = w2 at *
  generalize w1.heap.size = b at *
  have HS := Lib.hid hs; clear hs
  go_loopg [26] 400 (fun g o wr => ∃ k : Nat, k ≤ 400 ∧ g = 400 - k ∧ o = .int .i64 k ∧ PW w wr b (List.replicate k (tt, l, false)) (fun _ => False))
  case atStart => exact ⟨0, by omega, rfl, rfl, H1.out.1⟩
  case round =>
    clear H1
    obtain ⟨k, hk, rfl, rfl, hp⟩ := hrel
    by_cases hlt : k < 400
    case pos =>
      have HS2 := Lib.hid (send_pw hp tt l (.slice a l.length c) (HS.out.fr hp.fr (fun _ _ h => h)) (by omega))
      clear hp
      go_wp2_with fail
      refine HS2.out.mono ?_
      rintro z w3 ⟨rfl, hp, _⟩
      rw [send_rep _ _ hlt, List.length_replicate, show decide (k < 400) = true by simp [hlt]] at *
      have HP := Lib.hid hp
      clear hp HS2
      go_wp2_with fail
      go_roundg (400 - (k + 1))
      case measure => omega
      case rel => exact ⟨k + 1, by omega, rfl, by simp, HP.out⟩
    case neg =>
      obtain rfl : k = 400 := by omega
      obtain ⟨R, hR⟩ : ∃ R, R = List.replicate 400 (tt, l, false) := ⟨_, rfl⟩
      have hRl : R.length = 400 := by rw [hR, List.length_replicate]
      rw [← hR] at hp
      have hlk := look_full (tt, l, false) i
      rw [← hR] at hlk
      have hlook := look_pw hp i
      rw [hRl] at hlook
      obtain ⟨y, hy⟩ : ∃ y, y = lookP R i := ⟨_, rfl⟩
      obtain ⟨B, hB⟩ : ∃ B, B = hasB i 400 := ⟨_, rfl⟩
      rw [← hy, ← hB] at hlook hlk
      obtain ⟨yt, ly, ys⟩ := y
      dsimp only at hlook
      have hlyB : (B = true → ly = l) ∧ ly.length ≤ 50 := by
        cases B with
        | true => rw [if_pos rfl] at hlk; cases hlk; exact ⟨fun _ => rfl, hl⟩
        | false => rw [if_neg (by simp)] at hlk; cases hlk; exact ⟨(fun h => by cases h), by simp⟩
      have HY := Lib.hid (And.intro hy (And.intro hB hlyB))
      have hl50 := hlyB.2
      have HR := Lib.hid (And.intro hR hRl)
      clear hR hRl hlk hy hB hlyB hp hk hlt
      go_wp2_with fail
      refine hlook.mono ?_
      rintro z w4 ⟨u, rfl, hm, hp⟩
      clear hlook
      obtain ⟨au, cu, rfl⟩ := slice_of_own hm.1
      have f5 : Fr (fun _ => False) w4 (w4.alloc (oFl yt (.slice au ly.length cu) ys)) := (Fr.refl _ _).alloc _
      have hp5 : PW w (w4.alloc (oFl yt (.slice au ly.length cu) ys)) b R (fun k => (Value.slice au ly.length cu).ownBlock = some k ∨ k = w4.heap.size) := hp.other f5 (fun _ _ h => h.elim) (fun k hk => by
        rcases hk with e | e
        · exact .inl (.inr e)
        · right; rw [World.size_alloc]; omega)
      have H5 := Lib.hid (And.intro (hm.1.fr f5 (fun _ _ h => h)) (And.intro (heap_alloc_new w4 (oFl yt (.slice au ly.length cu) ys)) hp5))
      have HN5 : Hid (∀ k, (Value.slice au ly.length cu).ownBlock = some k → k ≠ w4.heap.size) := Lib.hid (fun k hk => by have := hm.1.lt k hk; omega)
      clear hm hp hp5 f5
      go_upto_region 12 with fail
      generalize hg8 : w4.heap.size = g8 at *
      clear hg8
      generalize w4.alloc (oFl yt (.slice au ly.length cu) ys) = w5 at *
      obtain ⟨c0, c1, c2⟩ := cell3 H5.out.2.1
      go_wp2_with fail
      clear c0 c1 c2
      go_loopg [43] ly.length (fun g o wx => ∃ (k : Nat) (yl : List UInt8), k ≤ ly.length ∧ g = ly.length - k ∧ o = .int .i64 k ∧ yl.length = ly.length ∧ Own wx (.slice au ly.length cu) yl ∧ wx.heap[g8]? = some (oFl yt (.slice au ly.length cu) ys) ∧ PW w wx b R (fun k => (Value.slice au ly.length cu).ownBlock = some k ∨ k = g8))
      case atStart => exact ⟨0, ly, by omega, rfl, rfl, rfl, H5.out.1, H5.out.2.1, H5.out.2.2⟩
      case round =>
        clear H5
        obtain ⟨k, yl, hk, rfl, rfl, hyl, ho, hq, hp⟩ := hrel
        by_cases hlt : k < ly.length
        case pos =>
          obtain ⟨gu, rfl⟩ : ∃ gu, au = some ⟨gu, 0, none⟩ := by
            rcases ho.2 with ⟨e, _⟩ | ⟨g, cap, cur, e, _⟩
            · simp at e; omega
            · simp at e; exact ⟨g, e.1⟩
          have hne := HN5.out gu rfl
          have hc := own_at ho k (by omega)
          have hz := own_frozen ho k
          rw [Nat.zero_add] at hc
          unfold bv at hc
          generalize hd : yl.getD k 0 = d at *
          have hw1 : IntKind.u8.wrap ((d.toNat : Int) + 1) = ((d + 1).toNat : Int) := by
            rw [IntKind.wrap_u8, UInt8.toNat_add]
            have := d.toNat_lt
            simp
          have fs : Fr (fun k => k = gu) wr (wr.setCell ⟨gu, k, none⟩ (bv (d + 1))) := (Fr.refl (fun k => k = gu) wr).set1 k _
          have HX := Lib.hid (And.intro (own_set ho k (d + 1)) (And.intro (crow_kept hq fs (fun e => hne e.symm)) (hp.other (K' := fun k => (Value.slice (some ⟨gu, 0, none⟩) ly.length cu).ownBlock = some k ∨ k = g8) fs (fun k _ e => .inl (by rw [e]; rfl)) (fun k h => .inl h))))
          have HL := Lib.hid hyl
          obtain ⟨c0, c1, c2⟩ := cell3 hq
          unfold bv at HX
          clear ho hq hp hyl fs hd
          go_wp2_with fail
          go_roundg (ly.length - (k + 1))
          case measure => omega
          case rel => exact ⟨k + 1, yl.set k (d + 1), by omega, rfl, by simp, by rw [List.length_set]; exact HL.out, HX.out.1, HX.out.2.1, HX.out.2.2⟩
        case neg =>
          have hlook := look_pw hp i
          rw [← HY.out.1, HR.out.2, ← HY.out.2.1] at hlook
          dsimp only at hlook
          clear hp ho hq hyl
          go_wp2_with fail
          clear hk hlt
          refine hlook.mono ?_
          clear hlook
          rintro z w6 ⟨u2, rfl, hm, hp⟩
          obtain ⟨a2, c2, rfl⟩ := slice_of_own hm.1
          have f7 : Fr (fun _ => False) w6 (w6.alloc (oFl yt (.slice a2 ly.length c2) ys)) := (Fr.refl _ _).alloc _
          have hp7 : PW w (w6.alloc (oFl yt (.slice a2 ly.length c2) ys)) b R (fun _ => False) := hp.other f7 (fun _ _ h => h.elim) (fun k hk => hk.elim)
          have H7 := Lib.hid (And.intro (hm.1.fr f7 (fun _ _ h => h)).sees (And.intro (heap_alloc_new w6 (oFl yt (.slice a2 ly.length c2) ys)) hp7))
          clear hm hp hp7 f7
          go_upto_region 18 with fail
          generalize hg11 : w6.heap.size = g11 at *
          clear hg11
          generalize w6.alloc (oFl yt (.slice a2 ly.length c2) ys) = w7 at *
          go_cut [13] from 60 to 65 (fun c wx => c = .bool B ∧ w7 = wx)
          case first =>
            by_cases h0 : 0 ≤ i
            · by_cases h1 : i < 400
              · go_wp2_with fail
                go_meet
                case rel => exact ⟨by rw [HY.out.2.1]; simp [hasB, h0, h1], rfl⟩
              · go_wp2_with fail
                go_meet
                case rel => exact ⟨by rw [HY.out.2.1]; simp [hasB, h0, h1], rfl⟩
            · go_wp2_with fail
              go_meet
              case rel => exact ⟨by rw [HY.out.2.1]; simp [hasB]; omega, rfl⟩
          case rest =>
          obtain ⟨rfl, rfl⟩ := hcut
          obtain ⟨k0, k1, k2⟩ := cell3 H7.out.2.1
          have t1 : (convert 30 9 (.slice a2 ly.length c2)).run Try.prog w7 = .ok (.string ⟨ly.toArray⟩) w7 := H7.out.1.string _ _ _ Try.underlying30 Try.underlying5 Try.underlying9
          have t2 : (convert 30 9 (.slice a l.length c)).run Try.prog w7 = .ok (.string ⟨l.toArray⟩) w7 := (HS.out.fr H7.out.2.2.fr (fun _ _ h => h)).string _ _ _ Try.underlying30 Try.underlying5 Try.underlying9
          go_upto_region 19 with fail
          have HSD := Lib.hid (send_pw H7.out.2.2 tt l (.slice a l.length c) (HS.out.fr H7.out.2.2.fr (fun _ _ h => h)) (by omega))
          rw [HR.out.2, HR.out.1, send_full, ← HR.out.1, show decide (400 < 400) = false from rfl] at HSD
          go_cut [99] from 66 to 99 (fun c wx => c = .bool false ∧ PW w wx b R (fun _ => False))
          case first =>
            cases B
            case' true => obtain rfl : ly = l := HY.out.2.2.1 rfl
            all_goals
              go_wp2_with fail
              refine HSD.out.mono ?_
              rintro z w8 ⟨rfl, hp8, _⟩
              have hcp := copy_pw hp8 0
              rw [HR.out.2, HR.out.1, copy_full, ← HR.out.1, show copyB 0 400 = false from rfl] at hcp
              have HCP := Lib.hid hcp
              clear hcp hp8 k0 k1 k2 t1 t2
              go_wp2_with fail
              refine HCP.out.mono ?_
              rintro z w9 ⟨rfl, hp9, _⟩
              have hln := len_pw hp9
              rw [HR.out.2] at hln
              have HP9 := Lib.hid hp9
              clear hp9
              go_wp2_with fail
              refine hln.mono ?_
              rintro z w9' ⟨rfl, rfl⟩
              clear hln
              go_wp2_with fail
              go_meet
              case rel => exact ⟨rfl, HP9.out⟩
          case rest =>
          obtain ⟨rfl, hp⟩ := hcut
          rename_i w8
          have htk := take_pw hp 3
          rw [HR.out.2, HR.out.1, take_full, ← HR.out.1, show hasB 3 400 = true from rfl] at htk
          clear hp HSD k0 k1 k2 t1 t2
          go_wp2_with fail
          refine htk.mono ?_
          clear htk
          rintro z w10 ⟨u3, rfl, hs3, hp, _⟩
          obtain ⟨y3, hy3⟩ : ∃ y, y = lookP R 3 := ⟨_, rfl⟩
          rw [← hy3] at hs3 ⊢
          clear hy3
          obtain ⟨t3, l3, s3⟩ := y3
          dsimp only at hs3 ⊢
          obtain ⟨a3, c3, rfl, _⟩ := hs3.shape
          have HP := Lib.hid hp
          clear hp hs3
          go_wp2_with fail
          refine (take_nil 0 _).mono ?_
          rintro z w12 ⟨rfl, f12⟩
          have hp13 := (HP.out.fr0 ((Fr.refl (fun _ => False) w10).alloc (oFl t3 (.slice a3 l3.length c3) s3))).fr0 (f12.alloc (oFl 0 nilS false))
          clear HP f12
          go_wp2_with fail
          generalize w12.heap.size = g17 at *
          generalize w12.alloc (oFl 0 nilS false) = w13 at *
          have hln := len_pw hp13
          have hcp := copy_pw hp13 0
          rw [List.length_replicate] at hln hcp
          rw [copy_more, show copyB 0 399 = true from rfl] at hcp
          have HCP := Lib.hid hcp
          clear hp13 hcp
          refine hln.mono ?_
          rintro z w13' ⟨rfl, rfl⟩
          clear hln
          go_wp2_with fail
          refine HCP.out.mono ?_
          rintro z w14 ⟨rfl, hp14, _⟩
          have hcp := copy_pw hp14 0
          rw [List.length_replicate, copy_full, show copyB 0 400 = false from rfl] at hcp
          have HCQ := Lib.hid hcp
          clear hp14 hcp HCP
          go_wp2_with fail
          refine HCQ.out.mono ?_
          rintro z w15 ⟨rfl, hp15, _⟩
          have F15 := Lib.hid hp15.fr
          clear hp15 HCQ
          go_wp2_with fail
          refine (send_nil 1 a l.length c _).mono ?_
          rintro z w16 ⟨rfl, f16⟩
          go_wp2_with fail
          refine (copy_nil 0 _).mono ?_
          rintro z w17 ⟨rfl, f17⟩
          go_wp2_with fail
          refine (spoil_nil 0 0 1 _).mono ?_
          rintro z w18 ⟨rfl, f18⟩
          go_wp2_with fail
          refine (len_nil _).mono ?_
          rintro z w19 ⟨rfl, rfl⟩
          have FF := Lib.hid (((F15.out.trans f16 (fun _ _ h => h)).trans f17 (fun _ _ h => h)).trans f18 (fun _ _ h => h))
          clear F15 f16 f17 f18
          go_wp2_with fail
          go_ret
          exact ⟨rfl, FF.out⟩

/-- For every slice of bytes and any numbers, in the form that the statement's lift takes. -/
theorem full_all {w : World} (va : Value) (la : List Int) (ha : SeesL w va (la.map (Value.int .u8))) (fa : ∀ n ∈ la, (Lit.int .u8 n).wf = true) (tt : Int) (h0 : -9223372036854775808 ≤ tt) (h1 : tt ≤ 9223372036854775807) (i : Int) (i0 : -9223372036854775808 ≤ i) (i1 : i ≤ 9223372036854775807) :
    Calls Try.prog 4 #[va, .int .i64 tt, .int .i64 i] w fun e w' => e = .returned (.bool true) ∧ Fr (fun _ => False) w w' := full_any va _ tt i w (sees_u8 ha fa)
end Go.Proofs.Ytojfabhbkdddpaa
