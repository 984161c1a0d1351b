/-
  The law PostPlays, walked.
-/
import Derived.Test.YtojfabhbkdddpaaPoRow
import Derived.Test.YtojfabhbkdddpaaLoopMix
import Derived.Deep.Cut
import Derived.Deep.CutRange
import Derived.Deep.CutBlock
import Derived.Deep.LoopGhost
import Derived.Deep.QuietTactic
import Derived.BigQuiet
import Derived.BigRegion
namespace Go.Proofs.Ytojfabhbkdddpaa
open Go.RowKit
set_option maxRecDepth 100000
set_option linter.unusedSimpArgs false
set_option linter.unusedVariables false

set_option maxHeartbeats 32000000 in
theorem plays_any (v : Value) (ls : List AcE) (w : World) (hv : ActsV w ls v) :
    Calls Try.prog 3 #[v] w fun z w' => z = .returned (.bool true) ∧ Fr (fun _ => False) w w' := by
  obtain ⟨va, cv, rfl, hls⟩ : ∃ a c, v = .slice a ls.length c ∧ ∀ j x, ls[j]? = some x → AcOk w x ∧ ∃ g off, a = some ⟨g, off, none⟩ ∧ ∀ i v, x.cells[i]? = some v → w.cell? ⟨g, off + j * 6 + i, none⟩ = some v := by
    rcases hv with ⟨rfl, a, c, rfl⟩ | ⟨g, off, cap, rfl, hle, h⟩
    · exact ⟨a, c, rfl, fun j x hj => by simp at hj⟩
    · exact ⟨_, _, rfl, fun j x hj => ⟨(h j x hj).1, g, off, rfl, (h j x hj).2⟩⟩
  have HA := Lib.hid hls
  clear hls hv
  go_enter Try.func3, Try.ntmps3
  go_wp2_with fail
  refine (awake_any _).mono ?_
  rintro z w1 ⟨rfl, f1⟩
  by_cases hl : 100 < ls.length
  case pos =>
    have hg : (100 : Int) < (ls.length : Int) := by omega
    have F1 := Lib.hid f1; clear f1
    go_wp2_with fail
    go_ret
    exact ⟨rfl, F1.out⟩
  have hg : ¬ (100 : Int) < (ls.length : Int) := by omega
  have H1 := Lib.hid (PW.new f1)
  clear f1
  go_wp2_with fail
  clear hg
  generalize w1.alloc (oPo nilS) = w2 at *
  generalize w1.heap.size = b at *
  refine loop_mix [false, false, true, false, true, false, true, true, true, true, true, true, true, true, true, true, true, true, true, true, false, false, false, false, false, false, false, false, false, true, true, true, true, true, true, true, true, true, true, true, true, true, true, true, true, true, true, true, true, true, true, true, true, true, true, true, true, true, true, true, true, true, true, true, true, true, true, true, true, true, true, true, true, true, true, true, true, true, true, true, true, true, true, true, true, true, true, true, true, true, true, true, true, true, true, true, true, true, true, true, true, true, true, true, true, true, true, true, true, true, true, true, true, true, true, true, true, true, true, true, true, true, true, true, true, true, true, true, true, true, true, true, true, true, true, true, true, true, true, true, true, true, true, true, true, true, true, true, true, true, true, true, true, true, true, true, true, true, true, true, true, true, true, true, true, true, true, true, true, true, true, true, true, true, true, true, true, true, true, true, true, true, true, true, true, true, true, true, true, true, true, true, true, true, true, true, true, true, true, true, true, true, true, true, true, true, true, true, true, true, true, true, true, true, true, true, true, true, true, true, true, true, true, true, true, true, true, true, true, true, true, true, true, true, true, true, true, true, true, true, true, true, true, true, true, true, true, true, true, true, true, true, true, true, true, true, true, true, true, true, true, true, true, true, true, true, true, true, true, true, true, true, true, true, true, true, true] (fun gh uu wx => ∃ (j : Nat) (R : List PF), j ≤ ls.length ∧ gh = ls.length - j ∧ uu 29 = .int .i64 j ∧ R.length ≤ j ∧ Hid (PW w wx b R (fun k => (uu 4).ownBlock = some k) ∧ RowOwn wx w.heap.size (uu 4) R)) ls.length (by kernel_rfl) ?atS ?rnd
  case atS => exact ⟨0, [], by omega, rfl, rfl, by simp, Lib.hid ⟨H1.out.less (fun k hk => by cases hk), World.ownsRow_nil _ _ _ _⟩⟩
  case rnd =>
    intro gk uu wr hrel JJ KK hJJ hKK
    clear H1
    obtain ⟨j, R, hj, rfl, e29, hRj, HI⟩ := hrel
    simp only [mixU_t, mixU_f, mixU_n, Nat.reduceAdd]
    rw [e29]
    obtain ⟨rv, hrv⟩ : ∃ z, z = uu 4 := ⟨_, rfl⟩
    rw [← hrv] at HI ⊢
    clear hrv e29
    by_cases hlt : j < ls.length
    case neg =>
      obtain rfl : ls.length = j := by omega
      go_wp2_with fail
      go_ret
      exact ⟨rfl, HI.out.1.fr⟩
    case pos =>
      obtain ⟨x, hx⟩ : ∃ x, ls[j]? = some x := ⟨_, List.getElem?_eq_getElem hlt⟩
      obtain ⟨hok, ga, oa, rfl, hcell⟩ := HA.out j x hx
      have hcl : ∀ i v, x.cells[i]? = some v → wr.cell? ⟨ga, oa + j * 6 + i, none⟩ = some v := fun i v hi' => by
        rw [HI.out.1.fr.cell (World.block_lt_of_cell? w _ (hcell i v hi')) (fun h => h)]
        exact hcell i v hi'
      have c0 := hcl 0 _ rfl
      have c1 := hcl 1 _ rfl
      have c2 := hcl 2 _ rfl
      have c3 := hcl 3 _ rfl
      have c4 := hcl 4 _ rfl
      have c5 := hcl 5 _ rfl
      simp only [Nat.add_zero] at c0 c1 c2 c3 c4 c5
      have HX := Lib.hid hok
      clear hok hcell hcl hx
      obtain ⟨xk, xt, xi, xf, xm, xl, xa, xc⟩ := x
      simp only [AcE.sl] at c0 c1 c2 c3 c4 c5
      have hR99 : R.length ≤ 99 := by omega
      obtain ⟨ra, rc, hrs⟩ := slice_of_own HI.out.2
      subst hrs
      by_cases h50 : 50 < xl.length
      case pos =>
        have hg : (50 : Int) < (xl.length : Int) := by omega
        go_wp2_with fail
        go_ret
        exact ⟨rfl, HI.out.1.fr.alloc _⟩
      have hg : ¬ (50 : Int) < (xl.length : Int) := by omega
      go_upto_region 12 with fail
      clear c0 c1 c2 c3 c4 c5
      have f3 : Fr (fun _ => False) wr (wr.alloc (oAct ⟨xk, xt, xi, xf, xm, xl, xa, xc⟩)) := (Fr.refl _ _).alloc _
      have H3 := Lib.hid (show PW w (wr.alloc (oAct ⟨xk, xt, xi, xf, xm, xl, xa, xc⟩)) b R (fun k => (Value.slice ra R.length rc).ownBlock = some k ∨ k = wr.heap.size) ∧ RowOwn (wr.alloc (oAct ⟨xk, xt, xi, xf, xm, xl, xa, xc⟩)) w.heap.size (.slice ra R.length rc) R ∧ (wr.alloc (oAct ⟨xk, xt, xi, xf, xm, xl, xa, xc⟩)).heap[wr.heap.size]? = some (oAct ⟨xk, xt, xi, xf, xm, xl, xa, xc⟩) ∧ (∀ k, (Value.slice ra R.length rc).ownBlock = some k → k ≠ wr.heap.size) from
        ⟨HI.out.1.other f3 (fun _ _ h => h.elim) (fun k hk => by
          rcases hk with e | e
          · exact .inl e
          · right; rw [World.size_alloc]; omega), ownsRow_fr HI.out.2 f3 (fun _ _ h => h), heap_alloc_new wr _, fun k hk => by have := (HI.out.1.ne hk).2.2; omega⟩)
      clear f3 HI
      simp only [oAct, AcE.sl] at H3
      generalize wr.alloc (Obj.cells #[.int .u8 xk, .int .u8 xt, .int .u8 xi, .int .i64 xf, .int .u32 xm, .slice xa xl.length xc] 32 (0, 0)) = w3 at *
      generalize wr.heap.size = g6 at *
      obtain ⟨c0, c1, c2, c3, c4, c5⟩ := cell6 H3.out.2.2.1
      obtain ⟨r, hr⟩ : ∃ r, r = xi % 20 := ⟨_, rfl⟩
      obtain ⟨k5, hk5⟩ : ∃ k, k = xk % 5 := ⟨_, rfl⟩
      have hrb : 0 ≤ r ∧ r ≤ 19 := by have := HX.out.1.2.2; omega
      have hkb : 0 ≤ k5 ∧ k5 ≤ 4 := by have := HX.out.1.1; omega
      have hmod : xi.tmod 20 = r := by rw [hr]; exact Int.tmod_eq_emod_of_nonneg HX.out.1.2.2.1
      have hmodk : xk.tmod 5 = k5 := by rw [hk5]; exact Int.tmod_eq_emod_of_nonneg HX.out.1.1.1
      clear hr hk5
      obtain ⟨ii, hii⟩ : ∃ ii, ii = r - 1 := ⟨_, rfl⟩
      have hib : -1 ≤ ii ∧ ii ≤ 18 := by omega
      obtain ⟨B, hB⟩ : ∃ B, B = hasB ii R.length := ⟨_, rfl⟩
      have HB := Lib.hid (And.intro hii hB)
      clear hii hB
      go_upto_region 13 with fail
      rw [← HB.out.1]
      go_cut [8] from 42 to 49 (fun c wx => c = .bool B ∧ w3 = wx)
      case first =>
        by_cases h0 : 0 ≤ ii
        · by_cases h1 : ii < R.length
          · go_wp2_with fail
            go_meet
            case rel => exact ⟨by rw [HB.out.2]; simp [hasB, h0, h1], rfl⟩
          · go_wp2_with fail
            go_meet
            case rel => exact ⟨by rw [HB.out.2]; simp [hasB, h0, h1], rfl⟩
        · go_wp2_with fail
          go_meet
          case rel => exact ⟨by rw [HB.out.2]; simp [hasB]; omega, rfl⟩
      case rest =>
      obtain ⟨rfl, rfl⟩ := hcut
      go_upto_block 2 with fail
      have hxt : 0 ≤ xt ∧ xt ≤ 255 := HX.out.1.2.1
      have HH3 := Lib.hid (And.intro hmod hmodk)
      clear hmod hmodk
      go_cut [4, 9, 10, 11, 12, 13, 14, 15] from 53 to 232 (fun v4 _ _ _ _ _ _ _ wx => ∃ R' : List PF, R'.length ≤ R.length + 1 ∧ Hid (PW w wx b R' (fun k => v4.ownBlock = some k) ∧ RowOwn wx w.heap.size v4 R'))
      case first =>
        have h5 : k5 = 0 ∨ k5 = 1 ∨ k5 = 2 ∨ k5 = 3 ∨ k5 = 4 := by omega
        have t1 := sees_str (HX.out.2.2.1.fr H3.out.1.fr (fun _ _ h => h))
        obtain ⟨S, hS⟩ : ∃ S : ByteArray, S = ⟨xl.toArray⟩ := ⟨_, rfl⟩
        unfold sv at t1
        simp only [AcE.sl] at t1
        rw [← hS] at t1
        have HS := Lib.hid hS
        clear hS
        rcases h5 with rfl | rfl | rfl | rfl | rfl
        · clear hkb
          go_wp2_with (at_builtin; refine wpList_append_row rfl (.tmp 144) (.tmp 152) rfl w.heap.size (.slice ra R.length rc) R rfl ?own _ 1 (xt, xl, false) rfl ?row ?len ?base ?grow)
          case own => exact ownsRow_fr H3.out.2.1 ((Fr.refl (fun _ => False) w3).alloc (.cells #[.int .i64 xt, .string S, .bool false] 34)) (fun _ _ h => h)
          case row =>
            have q := heap_alloc_new w3 (.cells #[.int .i64 xt, .string S, .bool false] 34)
            rw [HS.out] at q ⊢
            first | exact q | exact (Array.getElem?_eq_some_iff.1 q).2
          case len => omega
          case base => have := H3.out.1.fr.size; simp; omega
          case grow =>
            intro v' w4 k1 k2 k3
            have hlt4 := fun k hk => (World.ownsRow.lt k1 k hk).2
            obtain ⟨va', vc', hv'⟩ := slice_of_own k1
            rw [List.length_append, List.length_singleton] at hv'
            subst hv'
            have f4 : Fr (fun _ => False) w3 (w3.alloc (.cells #[.int .i64 xt, .string S, .bool false] 34)) := (Fr.refl _ _).alloc _
            have hp4 := PW.grown2 (H3.out.1.fr0 f4) k2 (by rw [World.size_alloc]; exact k3) hlt4
            have q4 := crow_kept (crow_kept H3.out.2.2.1 f4 (fun h => h)) (Fr.of_grown k2) (fun e => H3.out.2.2.2 g6 e.symm rfl)
            have HSD := Lib.hid (send_pw hp4 xt xl (.slice xa xl.length xc) (HX.out.2.2.1.fr hp4.fr (fun _ _ h => h)) (by omega))
            have HRW := Lib.hid k1
            clear t1 k1 k2 k3 hlt4 hp4 f4 c0 c1 c2 c3 c4 c5
            obtain ⟨c0, c1, c2, c3, c4, c5⟩ := cell6 q4
            clear q4
            have hdl : decide (R.length < 400) = true := by simp; omega
            rw [hdl] at HSD
            clear hdl
            go_wp2_with fail
            refine HSD.out.mono ?_
            clear HSD
            rintro z w5 ⟨rfl, hp5, f5⟩
            have HC : Hid (_ ∧ RowOwn _ _ _ _) := Lib.hid (And.intro (hp5.less (K' := fun k => (Value.slice va' (R.length + 1) vc').ownBlock = some k) (fun k h => .inl h)) (ownsRow_fr HRW.out f5 (fun k hk h => h.2 (.inl hk))))
            rw [show sendP R (xt, xl, false) = R ++ [(xt, xl, false)] by unfold sendP; rw [if_pos (by omega)]] at HC
            clear hp5 f5 HRW c0 c1 c2 c3 c4 c5
            go_wp2_with fail
            go_meet
            case rel => exact ⟨R ++ [(xt, xl, false)], by simp, HC⟩
        · clear hkb
          go_wp2_with (at_builtin; refine wpList_append_row rfl (.tmp 144) (.tmp 152) rfl w.heap.size (.slice ra R.length rc) R rfl ?own _ 1 (xt, xl, false) rfl ?row ?len ?base ?grow)
          case own => exact ownsRow_fr H3.out.2.1 ((Fr.refl (fun _ => False) w3).alloc (.cells #[.int .i64 xt, .string S, .bool false] 34)) (fun _ _ h => h)
          case row =>
            have q := heap_alloc_new w3 (.cells #[.int .i64 xt, .string S, .bool false] 34)
            rw [HS.out] at q ⊢
            first | exact q | exact (Array.getElem?_eq_some_iff.1 q).2
          case len => omega
          case base => have := H3.out.1.fr.size; simp; omega
          case grow =>
            intro v' w4 k1 k2 k3
            have hlt4 := fun k hk => (World.ownsRow.lt k1 k hk).2
            obtain ⟨va', vc', hv'⟩ := slice_of_own k1
            rw [List.length_append, List.length_singleton] at hv'
            subst hv'
            have f4 : Fr (fun _ => False) w3 (w3.alloc (.cells #[.int .i64 xt, .string S, .bool false] 34)) := (Fr.refl _ _).alloc _
            have hp4 := PW.grown2 (H3.out.1.fr0 f4) k2 (by rw [World.size_alloc]; exact k3) hlt4
            have q4 := crow_kept (crow_kept H3.out.2.2.1 f4 (fun h => h)) (Fr.of_grown k2) (fun e => H3.out.2.2.2 g6 e.symm rfl)
            have HSD := Lib.hid (send_pw hp4 xt xl (.slice xa xl.length xc) (HX.out.2.2.1.fr hp4.fr (fun _ _ h => h)) (by omega))
            have HRW := Lib.hid k1
            clear t1 k1 k2 k3 hlt4 hp4 f4 c0 c1 c2 c3 c4 c5
            obtain ⟨c0, c1, c2, c3, c4, c5⟩ := cell6 q4
            clear q4
            have hdl : decide (R.length < 400) = true := by simp; omega
            rw [hdl] at HSD
            clear hdl
            go_wp2_with fail
            refine HSD.out.mono ?_
            clear HSD
            rintro z w5 ⟨rfl, hp5, f5⟩
            have HC : Hid (_ ∧ RowOwn _ _ _ _) := Lib.hid (And.intro (hp5.less (K' := fun k => (Value.slice va' (R.length + 1) vc').ownBlock = some k) (fun k h => .inl h)) (ownsRow_fr HRW.out f5 (fun k hk h => h.2 (.inl hk))))
            rw [show sendP R (xt, xl, false) = R ++ [(xt, xl, false)] by unfold sendP; rw [if_pos (by omega)]] at HC
            clear hp5 f5 HRW c0 c1 c2 c3 c4 c5
            go_wp2_with fail
            go_meet
            case rel => exact ⟨R ++ [(xt, xl, false)], by simp, HC⟩
        · clear hkb t1
          have HTK := Lib.hid (take_pw H3.out.1 ii)
          rw [← HB.out.2] at HTK
          obtain ⟨y, hy⟩ : ∃ y, y = lookP R ii := ⟨_, rfl⟩
          rw [← hy] at HTK
          obtain ⟨yt, yl, ys⟩ := y
          dsimp only at HTK
          have HYY := Lib.hid hy
          clear hy
          go_wp2_with fail
          refine HTK.out.mono ?_
          clear HTK
          rintro z w4 ⟨u, rfl, hsu, hp4, f4⟩
          obtain ⟨ua, uc, rfl, _⟩ := hsu.shape
          have f5 : Fr (fun _ => False) w4 (w4.alloc (oFl yt (.slice ua yl.length uc) ys)) := (Fr.refl _ _).alloc _
          have HSU := Lib.hid (hsu.fr f5 (fun _ _ h => h))
          have t1 := sees_str HSU.out
          unfold sv at t1
          obtain ⟨Y, hY⟩ : ∃ S : ByteArray, S = ⟨yl.toArray⟩ := ⟨_, rfl⟩
          rw [← hY] at t1
          have HY := Lib.hid hY
          have H5 := Lib.hid (show PW w (w4.alloc (oFl yt (.slice ua yl.length uc) ys)) b (takeP R ii) (fun k => (Value.slice ra R.length rc).ownBlock = some k) ∧ RowOwn (w4.alloc (oFl yt (.slice ua yl.length uc) ys)) w.heap.size (.slice ra R.length rc) R from
            ⟨(hp4.fr0 f5).less (fun k h => .inl h), ownsRow_fr (ownsRow_fr H3.out.2.1 f4 (fun k hk h => h.2 (.inl hk))) f5 (fun _ _ h => h)⟩)
          have q5 := heap_alloc_new w4 (oFl yt (.slice ua yl.length uc) ys)
          clear hsu hp4 f4 f5 hY c0 c1 c2 c3 c4 c5
          go_upto_region 38 with fail
          generalize w4.alloc (oFl yt (.slice ua yl.length uc) ys) = w5 at *
          generalize w4.heap.size = g9 at *
          obtain ⟨c0, c1, c2⟩ := cell3 q5
          clear q5
          cases B with
          | false =>
            go_quiet (fail)
            go_wp2_with fail
            go_meet
            case rel => exact ⟨R, by omega, Lib.hid ⟨by have h := H5.out.1; rw [show takeP R ii = R by unfold takeP; rw [← HB.out.2]; rfl] at h; exact h.fr0 (Fr.drewN0 _), H5.out.2⟩⟩
          | true =>
            obtain ⟨jn, hjn, hjR, hlk⟩ := lookP_in (R := R) rfl HB.out.2.symm
            subst hjn
            have hxe : R[jn]? = some (yt, yl, ys) := by rw [HYY.out, hlk]; exact List.getElem?_eq_getElem hjR
            obtain ⟨gr, capr, hsh, hle⟩ := row_shape H5.out.2 (by omega)
            cases hsh
            obtain ⟨d0, d1, d2⟩ := row_cells H5.out.2 hxe
            dsimp only at d0 d1 d2
            rw [← HY.out] at d1
            have hjR' : (jn : Int) < (R.length : Int) := by omega
            have hwj : IntKind.i64.wrap ((jn : Int) + 1) = (jn : Int) + 1 := by rw [IntKind.wrap_i64]; omega
            clear hlk hxe
            refine wp_region_told (by kernel_rfl) (fun a b => Fr (fun _ => False) a b) (fun w => Fr.refl _ w) (fun _ _ _ h k => h.trans k (fun _ _ h => h)) [170, 171, 172, 173, 174, 175, 176, 177, 178, 179, 180, 181, 182, 183, 184, 185, 186, 187, 188, 189, 190, 191, 192, 193, 194, 195, 196, 197, 198, 199, 200, 201, 202, 203, 204, 205, 206] rfl (by decide) (by intro d hd; simp at hd ⊢; omega)
              (fun i v _ => v = ([.bool true, .bool true, .bool false, .bool false, .bool true, .bool true, .pointer (some ⟨g9, 0, none⟩), .int .i64 yt, .slice (some ⟨gr, 0, none⟩) R.length rc, .int .i64 jn, .pointer (some ⟨gr, jn * 3, none⟩), .pointer (some ⟨gr, jn * 3, none⟩), .int .i64 yt, .bool false, .bool false, .pointer (some ⟨g9, 1, none⟩), .slice ua yl.length uc, .string Y, .slice (some ⟨gr, 0, none⟩) R.length rc, .int .i64 jn, .pointer (some ⟨gr, jn * 3, none⟩), .pointer (some ⟨gr, jn * 3 + 1, none⟩), .string Y, .bool false, .bool false, .bool false, .pointer (some ⟨g9, 2, none⟩), .bool ys, .slice (some ⟨gr, 0, none⟩) R.length rc, .int .i64 jn, .pointer (some ⟨gr, jn * 3, none⟩), .pointer (some ⟨gr, jn * 3 + 2, none⟩), .bool ys, .bool false, .bool false, .bool false, .bool false] : List Value).getD i undef)
              (fun _ _ _ _ _ h => h) (by kernel_rfl) ?step38 ?fin38
            case step38 =>
              intro vals
              simp only [frOf, fill, List.setIfInBounds_toArray, List.set_cons_succ, List.set_cons_zero]
              repeat' (first | exact AllOps.nil | refine AllOps.cons ?_ ?_)
              all_goals
                intro wx hle he K' hK
                simp only [Act.put, List.setIfInBounds_toArray, List.set_cons_succ, List.set_cons_zero, List.getD_cons_zero, List.getD_cons_succ] at hK
                simp only [List.mem_cons, List.not_mem_nil, or_false, forall_eq_or_imp, forall_eq, Region.binds, forall_const, false_imp_iff, List.getD_cons_zero, List.getD_cons_succ] at he
                try simp only [he] at hK ⊢
                have hl5 := Fr.trans (Fr.drew (Fr.refl (fun _ => False) w5)) hle (fun _ _ h => h)
                have hl8 := Lib.hid hl5
                have k0 := (hl5.cell (World.block_lt_of_cell? w5 _ c0) (fun h => h)).trans c0
                have k1 := (hl5.cell (World.block_lt_of_cell? w5 _ c1) (fun h => h)).trans c1
                have k2 := (hl5.cell (World.block_lt_of_cell? w5 _ c2) (fun h => h)).trans c2
                have m0 := (hl5.cell (World.block_lt_of_cell? w5 _ d0) (fun h => h)).trans d0
                have m1 := (hl5.cell (World.block_lt_of_cell? w5 _ d1) (fun h => h)).trans d1
                have m2 := (hl5.cell (World.block_lt_of_cell? w5 _ d2) (fun h => h)).trans d2
                have tx := sees_str (HSU.out.fr hl5 (fun _ _ h => h))
                unfold sv at tx
                rw [← HY.out] at tx
                clear hl5 hle he
                try go_simp
              all_goals first
                | exact hK _ _ (Fr.refl _ _) rfl
                | skip
            case fin38 =>
              intro vals w6 hle6 hV
              have h36 : vals 36 = .bool false := hV 36 (by decide)
              clear hV
              have f6 := Fr.trans (Fr.drew (Fr.refl (fun _ => False) w5)) hle6 (fun _ _ h => h)
              have H6 := Lib.hid (show PW w w6 b (takeP R jn) (fun k => (Value.slice (some ⟨gr, 0, none⟩) R.length rc).ownBlock = some k) ∧ RowOwn w6 w.heap.size (.slice (some ⟨gr, 0, none⟩) R.length rc) R from ⟨H5.out.1.fr0 f6, ownsRow_fr H5.out.2 f6 (fun _ _ h => h)⟩)
              clear hle6 f6 c0 c1 c2 d0 d1 d2 t1 HSU H5
              simp only [frOf, fill, List.setIfInBounds_toArray, List.set_cons_succ, List.set_cons_zero, Nat.reduceAdd]
              simp only [h36]
              clear h36
              obtain ⟨q, hq⟩ : ∃ q, q = if rc = jn + 1 then 0 else (jn + 1) * 3 := ⟨_, rfl⟩
              obtain ⟨rr, hrr⟩ : ∃ r, r = R.length - (jn + 1) := ⟨_, rfl⟩
              have s2 : ∀ w, (Instr.slice 28 (.slice (some ⟨gr, 0, none⟩) R.length rc) none (some (.int .i64 jn)) none).run Try.prog w = .ok (.slice (some ⟨gr, 0, none⟩) jn rc) w := fun w => sliceR2 w _ _ _ _ hle hjR
              have s3 : ∀ w, (Instr.slice 28 (.slice (some ⟨gr, 0, none⟩) R.length rc) (some (.int .i64 ((jn : Int) + 1))) none none).run Try.prog w = .ok (.slice (some ⟨gr, q, none⟩) rr (rc - (jn + 1))) w := fun w => by
                have := sliceR3 w gr R.length rc jn hle hjR
                rw [← hq, ← hrr] at this
                exact this
              have HQR := Lib.hid (And.intro hq (And.intro hrr hle))
              clear hq hrr hle
              go_upto_region 41 with fail
              refine wp_region_chain (by kernel_rfl) [some 208, some 209, some 210, some 211, some 212, some 213, some 214, some 215, some 216, some 217, some 4] rfl (by decide) (by intro d hd; simp at hd ⊢; omega)
                [0, 4, 9, 10] (fun cvs wx => TkR w.heap.size R jn w6 cvs wx)
                [.link none, .free (.slice (some ⟨gr, 0, none⟩) R.length rc), .free (.int .i64 jn), .free (.slice (some ⟨gr, 0, none⟩) jn rc), .link none, .free (.slice (some ⟨gr, 0, none⟩) R.length rc), .free (.int .i64 jn), .free (.int .i64 ((jn : Int) + 1)), .free (.slice (some ⟨gr, q, none⟩) rr (rc - (jn + 1))), .link none, .link none]
                (by kernel_rfl) (by kernel_rfl) ?h41 ?step41 ?fin41
              case h41 => exact rfl
              case step41 =>
                intro vals
                simp only [frOfU, fillU, List.setIfInBounds_toArray, List.set_cons_succ, List.set_cons_zero]
                repeat' (first | exact AllOps.nil | refine AllOps.cons ?_ ?_)
                all_goals
                  intro cvs wx hS he hu hlim Kc hK
                  simp only [Act.put, List.setIfInBounds_toArray, List.set_cons_succ, List.set_cons_zero, List.getD_cons_zero, List.getD_cons_succ] at hK
                  simp only [List.mem_cons, List.not_mem_nil, or_false, forall_eq_or_imp, forall_eq, Region.binds, forall_const, qmode_gc, Bool.false_eq_true, false_imp_iff, List.getD_cons_zero, List.getD_cons_succ, OpSort.val, Option.some.injEq, forall_eq', reduceCtorEq, implies_true, true_and, and_true] at he
                  have HSX := Lib.hid hS
                  clear hS
                all_goals first | (clear hlim hu; (try simp only [he] at hK ⊢); go_simp; exact hK) | skip
                · obtain rfl := hlim (0 : Nat) rfl
                  obtain rfl : wx = w6.drew := HSX.out
                  have HR := Lib.hid (empty_row w6.drew w.heap.size H6.out.1.fr.size 34 3)
                  clear hlim hu HSX
                  (try simp only [he] at hK ⊢)
                  go_simp
                  exact hK _ _ (fun _ h => by cases h) ⟨HR.out, fun k hk => by have : w6.drew.heap.size = k := Option.some.inj hk; exact Nat.le_of_eq this, (Fr.refl _ w6).drew.alloc _⟩
                · have h12 : vals 10 = (.slice (some ⟨gr, 0, none⟩) R.length rc) := hu 10 (by simp) (by kernel_rfl)
                  clear hlim hu
                  (try simp only [Nat.reduceAdd, Nat.zero_add] at hK)
                  simp only [h12] at hK ⊢
                  go_simp
                  exact hK
                · obtain rfl := hlim (1 : Nat) rfl
                  obtain ⟨h1, h2, h3⟩ : RowOwn wx w.heap.size (vals 0) [] ∧ (∀ k, (vals 0).ownBlock = some k → w6.heap.size ≤ k) ∧ Fr (fun _ => False) w6 wx := HSX.out
                  have HR := Lib.hid (And.intro h1 (And.intro h2 h3))
                  have hwo : RowOwn wx w.heap.size (.slice (some ⟨gr, 0, none⟩) R.length rc) R := ownsRow_fr H6.out.2 h3 (fun _ _ h => h)
                  have v3 : vals 3 = .slice (some ⟨gr, 0, none⟩) jn rc := by first | exact he | exact he.1 | exact he.2
                  clear hlim hu HSX h1 h2 h3 he
                  simp only [v3] at hK ⊢
                  rw [if_pos (by rfl)]
                  have hft : ∀ W, RowOwn W w.heap.size (.slice (some ⟨gr, 0, none⟩) R.length rc) R → (Builtin.firstCells 3 (R.take jn).length (.slice (some ⟨gr, 0, none⟩) jn rc)).run Try.prog W = .ok ((R.take jn).flatMap rcells).toArray W := by
                    intro W hW
                    have h := first_row3 (P := Try.prog) hW 0 jn rc 0 (.inl rfl) (by omega)
                    rw [List.length_take, Nat.min_eq_left (by omega)]
                    exact h
                  refine opWp_rows (.tmp 208) (.tmp 211) rfl w.heap.size (vals 0) [] rfl HR.out.1 (R.take jn) (.slice (some ⟨gr, 0, none⟩) jn rc) rfl (fun w => by rw [List.length_take, Nat.min_eq_left (by omega)]; exact lenOf_slice _ _ _ _) (hft wx hwo) (hft wx.drew hwo) (by rw [List.length_take]; simp; omega) (Nat.le_trans H6.out.1.fr.size HR.out.2.2.size) ?_
                  intro v' w' k1 k2 k3
                  exact hK _ _ (fun _ h => by cases h) ⟨k1, fun k hk => by
                    rcases k3 with e | e
                    · exact HR.out.2.1 k (e ▸ hk)
                    · rw [e] at hk; have := Option.some.inj hk; have := HR.out.2.2.size; omega, HR.out.2.2.trans (Fr.of_grown k2) (fun k hk e => by have := HR.out.2.1 k e.symm; omega)⟩
                · have h12 : vals 10 = (.slice (some ⟨gr, 0, none⟩) R.length rc) := hu 10 (by simp) (by kernel_rfl)
                  clear hlim hu
                  (try simp only [Nat.reduceAdd, Nat.zero_add] at hK)
                  simp only [h12] at hK ⊢
                  go_simp
                  exact hK
                · obtain rfl := hlim (2 : Nat) rfl
                  obtain ⟨h1, h2, h3⟩ : RowOwn wx w.heap.size (vals 4) (R.take jn) ∧ (∀ k, (vals 4).ownBlock = some k → w6.heap.size ≤ k) ∧ Fr (fun _ => False) w6 wx := HSX.out
                  have HR := Lib.hid (And.intro h1 (And.intro h2 h3))
                  have hwo : RowOwn wx w.heap.size (.slice (some ⟨gr, 0, none⟩) R.length rc) R := ownsRow_fr H6.out.2 h3 (fun _ _ h => h)
                  have v8 : vals 8 = .slice (some ⟨gr, q, none⟩) rr (rc - (jn + 1)) := by first | exact he | exact he.1 | exact he.2 | exact he.2.1
                  clear hlim hu HSX h1 h2 h3 he
                  simp only [v8] at hK ⊢
                  rw [if_pos (by rfl)]
                  have hrd : (R.drop (jn + 1)).length = rr := by rw [List.length_drop, HQR.out.2.1]
                  have hfc : ∀ W, RowOwn W w.heap.size (.slice (some ⟨gr, 0, none⟩) R.length rc) R → (Builtin.firstCells 3 (R.drop (jn + 1)).length (.slice (some ⟨gr, q, none⟩) rr (rc - (jn + 1)))).run Try.prog W = .ok ((R.drop (jn + 1)).flatMap rcells).toArray W := by
                    intro W hW
                    have h := first_row3 (P := Try.prog) hW (jn + 1) rr (rc - (jn + 1)) q (by
                      by_cases hz : rr = 0
                      · exact .inr hz
                      · left
                        rw [HQR.out.1, if_neg (by have := HQR.out.2.1; have := HQR.out.2.2; omega)]) (by have := HQR.out.2.1; omega)
                    rw [List.take_of_length_le (by omega)] at h
                    rw [hrd]
                    exact h
                  refine opWp_rows (.tmp 212) (.tmp 216) rfl w.heap.size (vals 4) (R.take jn) rfl HR.out.1 (R.drop (jn + 1)) (.slice (some ⟨gr, q, none⟩) rr (rc - (jn + 1))) rfl (fun w => by rw [hrd]; exact lenOf_slice _ _ _ _) (hfc wx hwo) (hfc wx.drew hwo) (by rw [List.length_take, List.length_drop]; omega) (Nat.le_trans H6.out.1.fr.size HR.out.2.2.size) ?_
                  intro v' w' k1 k2 k3
                  exact hK _ _ (fun _ h => by cases h) ⟨k1, fun k hk => by
                    rcases k3 with e | e
                    · exact HR.out.2.1 k (e ▸ hk)
                    · rw [e] at hk; have := Option.some.inj hk; have := HR.out.2.2.size; omega, HR.out.2.2.trans (Fr.of_grown k2) (fun k hk e => by have := HR.out.2.1 k e.symm; omega)⟩
                · obtain rfl := hlim (3 : Nat) rfl
                  have h1 : TkR w.heap.size R jn w6 [vals 0, vals 4, vals 9] wx := HSX.out
                  have HR := Lib.hid h1
                  clear hlim hu HSX h1
                  (try simp only [he] at hK ⊢)
                  go_simp
                  exact hK _ _ (fun _ h => by cases h) ⟨rfl, HR.out⟩
              case fin41 =>
              intro vals w7 hS hV
              have v1 := hV 1 _ (by decide) rfl
              have v2 := hV 2 _ (by decide) rfl
              have v3 := hV 3 _ (by decide) rfl
              have v5 := hV 5 _ (by decide) rfl
              have v6 := hV 6 _ (by decide) rfl
              have v7 := hV 7 _ (by decide) rfl
              have v8 := hV 8 _ (by decide) rfl
              clear hV
              simp only [frOfU, fillU, List.setIfInBounds_toArray, List.set_cons_succ, List.set_cons_zero]
              simp only [Nat.reduceAdd, v1, v2, v3, v5, v6, v7, v8]
              clear v1 v2 v3 v5 v6 v7 v8
              obtain ⟨e10, h1, h2, h3⟩ : vals 10 = vals 9 ∧ RowOwn w7 w.heap.size (vals 9) (R.take jn ++ R.drop (jn + 1)) ∧ (∀ k, (vals 9).ownBlock = some k → w6.heap.size ≤ k) ∧ Fr (fun _ => False) w6 w7 := hS
              rw [e10]
              generalize vals 0 = y0
              generalize vals 4 = y4
              generalize vals 9 = y9 at *
              have hlt7 := fun k hk => (World.ownsRow.lt h1 k hk).2
              have htp : takeP R jn = R.take jn ++ R.drop (jn + 1) := by unfold takeP; rw [← HB.out.2, if_pos rfl, List.eraseIdx_eq_take_drop_succ]; rfl
              have HC := Lib.hid (show PW w w7 b (R.take jn ++ R.drop (jn + 1)) (fun k => y9.ownBlock = some k) ∧ RowOwn w7 w.heap.size y9 (R.take jn ++ R.drop (jn + 1)) from ⟨by rw [← htp]; exact H6.out.1.other h3 (fun _ _ h => h.elim) (fun k hk => .inr ⟨h2 k hk, hlt7 k hk⟩), h1⟩)
              clear h1 h2 h3 e10 hlt7 htp
              go_wp2_with fail
              go_meet
              case rel => exact ⟨R.take jn ++ R.drop (jn + 1), by rw [List.length_append, List.length_take, List.length_drop]; omega, HC⟩
        · clear hkb
          have hlR : R.length < 400 := by omega
          have HCP := Lib.hid (copy_pw H3.out.1 ii)
          rw [show copyB ii R.length = B by unfold copyB; rw [← HB.out.2]; simp [hlR]] at HCP
          cases B with
          | false =>
            rw [show copyP R ii = R by unfold copyP; rw [← HB.out.2]; rfl] at HCP
            clear t1 hlR
            go_wp2_with fail
            refine HCP.out.mono ?_
            clear HCP
            rintro z w4 ⟨rfl, hp4, f4⟩
            have HC := Lib.hid (show PW w w4 b R (fun k => (Value.slice ra R.length rc).ownBlock = some k) ∧ RowOwn w4 w.heap.size (.slice ra R.length rc) R from ⟨hp4.less (fun k h => .inl h), ownsRow_fr H3.out.2.1 f4 (fun k hk h => h.2 (.inl hk))⟩)
            clear hp4 f4 c0 c1 c2 c3 c4 c5
            go_wp2_with fail
            go_meet
            case rel => exact ⟨R, by omega, HC⟩
          | true =>
            obtain ⟨jn, hjn, hjR, hlk⟩ := lookP_in (R := R) rfl HB.out.2.symm
            subst hjn
            rw [show copyP R jn = R ++ [R[jn]] by unfold copyP sendP; rw [← HB.out.2, if_pos rfl, if_pos hlR, hlk]] at HCP
            obtain ⟨x, hx⟩ : ∃ x, x = R[jn] := ⟨_, rfl⟩
            have hxe : R[jn]? = some x := by rw [hx]; exact List.getElem?_eq_getElem hjR
            rw [← hx] at HCP
            clear hx hlk t1 hlR
            obtain ⟨gr, capr, hsh, _⟩ := row_shape H3.out.2.1 (by omega)
            cases hsh
            go_wp2_with fail
            refine HCP.out.mono ?_
            clear HCP
            rintro z w4 ⟨rfl, hp4, f4⟩
            have hrow4 : RowOwn w4 w.heap.size (.slice (some ⟨gr, 0, none⟩) R.length rc) R := ownsRow_fr H3.out.2.1 f4 (fun k hk h => h.2 (.inl hk))
            obtain ⟨d0, d1, d2⟩ := row_cells hrow4 hxe
            obtain ⟨yt, yl, ys⟩ := x
            dsimp only at d0 d1 d2
            obtain ⟨Y, hY⟩ : ∃ S : ByteArray, S = ⟨yl.toArray⟩ := ⟨_, rfl⟩
            rw [← hY] at d1
            have HY := Lib.hid hY
            have H4 := Lib.hid (And.intro hp4 hrow4)
            clear hp4 f4 hrow4 hY hxe c0 c1 c2 c3 c4 c5
            have hjR' : (jn : Int) < (R.length : Int) := by omega
            go_wp2_with (at_builtin; refine wpList_append_row rfl (.tmp 226) (.tmp 231) rfl w.heap.size (.slice (some ⟨gr, 0, none⟩) R.length rc) R rfl ?own _ 1 (yt, yl, ys) rfl ?row ?len ?base ?grow)
            case own => exact ownsRow_fr H4.out.2 ((Fr.refl (fun _ => False) w4).alloc (.cells #[.int .i64 yt, .string Y, .bool ys] 34)) (fun _ _ h => h)
            case row =>
              have q := heap_alloc_new w4 (.cells #[.int .i64 yt, .string Y, .bool ys] 34)
              rw [HY.out] at q ⊢
              first | exact q | exact (Array.getElem?_eq_some_iff.1 q).2
            case len => omega
            case base => have := H4.out.1.fr.size; simp; omega
            case grow =>
              intro v' w5 k1 k2 k3
              have hlt5 := fun k hk => (World.ownsRow.lt k1 k hk).2
              obtain ⟨va', vc', hv'⟩ := slice_of_own k1
              rw [List.length_append, List.length_singleton] at hv'
              subst hv'
              have f5 : Fr (fun _ => False) w4 (w4.alloc (.cells #[.int .i64 yt, .string Y, .bool ys] 34)) := (Fr.refl _ _).alloc _
              have HC := Lib.hid (show PW w w5 b (R ++ [(yt, yl, ys)]) (fun k => (Value.slice va' (R.length + 1) vc').ownBlock = some k) ∧ RowOwn w5 w.heap.size (.slice va' (R.length + 1) vc') (R ++ [(yt, yl, ys)]) from
                ⟨(PW.grown2 (H4.out.1.fr0 f5) k2 (by rw [World.size_alloc]; exact k3) hlt5).less (fun k h => .inl h), k1⟩)
              clear k1 k2 k3 hlt5 f5 H4 d0 d1 d2
              go_wp2_with fail
              go_meet
              case rel => exact ⟨R ++ [(yt, yl, ys)], by simp, HC⟩
        · clear hkb t1
          obtain ⟨m, hxm⟩ : ∃ m : Nat, xm = m := ⟨xm.toNat, by have : 0 ≤ xm ∧ xm ≤ 4294967295 := HX.out.2.1.2; omega⟩
          subst hxm
          have hm : m < 4294967296 := by have : 0 ≤ (m : Int) ∧ (m : Int) ≤ 4294967295 := HX.out.2.1.2; omega
          have hxf : -9223372036854775808 ≤ xf ∧ xf ≤ 9223372036854775807 := HX.out.2.1.1
          obtain ⟨SB, hSB⟩ : ∃ SB, SB = spoilB R ii m := ⟨_, rfl⟩
          have HSP := Lib.hid (spoil_pw H3.out.1 ii xf hxf m hm)
          rw [← hSB] at HSP
          have HSB := Lib.hid hSB
          clear hSB
          go_upto_region 15 with fail
          go_cut [11] from 53 to 76 (fun c wx => c = .bool SB ∧ w3 = wx)
          case first =>
            cases B with
            | false =>
              have hs : SB = false := by rw [HSB.out]; unfold spoilB; rw [← HB.out.2]; rfl
              go_wp2_with fail
              go_meet
              case rel => exact ⟨by rw [hs], rfl⟩
            | true =>
              obtain ⟨jn, hjn, hjR, hlk⟩ := lookP_in (R := R) rfl HB.out.2.symm
              subst hjn
              obtain ⟨y, hy⟩ : ∃ y, y = R[jn] := ⟨_, rfl⟩
              have hxe : R[jn]? = some y := by rw [hy]; exact List.getElem?_eq_getElem hjR
              have hs : SB = (decide (m ≠ 0) && (!y.2.2 && decide (4 ≤ y.2.1.length))) := by
                rw [HSB.out]; unfold spoilB; rw [← HB.out.2, hlk, ← hy]; rfl
              clear hlk hy
              obtain ⟨yt, yl, ys⟩ := y
              obtain ⟨gr, capr, hsh, hle⟩ := row_shape H3.out.2.1 (by omega)
              cases hsh
              obtain ⟨d0, d1, d2⟩ := row_cells H3.out.2.1 hxe
              dsimp only at d0 d1 d2 hs
              obtain ⟨Y, hY⟩ : ∃ S : ByteArray, S = ⟨yl.toArray⟩ := ⟨_, rfl⟩
              rw [← hY] at d1
              have hYs : Y.size = yl.length := by rw [hY]; rfl
              have HSS := Lib.hid hs
              have hjR' : (jn : Int) < (R.length : Int) := by omega
              clear hxe hY hs
              have hmx : max (jn : Int) 0 = (jn : Int) := by omega
              by_cases hm0 : m = 0
              · subst hm0
                have hb : SB = false := by rw [HSS.out]; simp
                cases ys
                all_goals
                  go_wp2_with fail
                  all_goals
                    go_meet
                    case rel => exact ⟨by rw [hb], rfl⟩
              · have hmz : ((m : Int) == 0) = false := by simp; omega
                have hmz2 : ¬ ((m : Int) = 0) := by omega
                have hmz3 : ((m : Int) != 0) = true := by simp; omega
                cases ys
                · by_cases h4 : 4 ≤ yl.length
                  · have hb : SB = true := by rw [HSS.out]; simp [hm0, h4]
                    have h4' : (4 : Int) ≤ (yl.length : Int) := by omega
                    go_wp2_with fail
                    all_goals
                      go_meet
                      case rel => exact ⟨by rw [hb], rfl⟩
                  · have hb : SB = false := by rw [HSS.out]; simp [h4]
                    have h4' : ¬ (4 : Int) ≤ (yl.length : Int) := by omega
                    go_wp2_with fail
                    all_goals
                      go_meet
                      case rel => exact ⟨by rw [hb], rfl⟩
                · have hb : SB = false := by rw [HSS.out]; simp
                  go_wp2_with fail
                  all_goals
                    go_meet
                    case rel => exact ⟨by rw [hb], rfl⟩
          case rest =>
          obtain ⟨rfl, rfl⟩ := hcut
          go_wp2_with fail
          refine HSP.out.mono ?_
          clear HSP
          rintro z w4 ⟨rfl, hp4, f4⟩
          have q4 := crow_kept H3.out.2.2.1 f4 (fun h => h.2 (.inr rfl))
          have hrow4 : RowOwn w4 w.heap.size (.slice ra R.length rc) R := ownsRow_fr H3.out.2.1 f4 (fun k hk h => h.2 (.inl hk))
          have H4 := Lib.hid (And.intro hp4 (And.intro hrow4 q4))
          clear hp4 hrow4 f4 c0 c1 c2 c3 c4 c5
          obtain ⟨c0, c1, c2, c3, c4, c5⟩ := cell6 q4
          clear q4
          cases SB with
          | false =>
            have HC := Lib.hid (show PW w w4 b R (fun k => (Value.slice ra R.length rc).ownBlock = some k) ∧ RowOwn w4 w.heap.size (.slice ra R.length rc) R from ⟨by
              have h := H4.out.1
              rw [show spoilP R ii xf m = R by unfold spoilP; rw [← HSB.out]; rfl] at h
              exact h.less (fun k h => .inl h), H4.out.2.1⟩)
            clear c0 c1 c2 c3 c4 c5
            go_wp2_with fail
            go_meet
            case rel => exact ⟨R, by omega, HC⟩
          | true =>
            have hbt : B = true := by
              have h := HSB.out
              unfold spoilB at h
              rw [← HB.out.2] at h
              cases B
              · cases h
              · rfl
            subst hbt
            obtain ⟨jn, hjn, hjR, hlk⟩ := lookP_in (R := R) rfl HB.out.2.symm
            subst hjn
            obtain ⟨y, hy⟩ : ∃ y, y = R[jn] := ⟨_, rfl⟩
            have hxe : R[jn]? = some y := by rw [hy]; exact List.getElem?_eq_getElem hjR
            rw [← hy] at hlk
            obtain ⟨yt, yl, ys⟩ := y
            have h4 : 4 ≤ yl.length := by
              have h := HSB.out
              unfold spoilB at h
              rw [hlk] at h
              simp at h
              exact h.2.2.2
            have HSPL : Hid (spoilP R jn xf m = R.set jn (yt, turnL yl ((xf % (8 * (yl.length : Int) - 31)).toNat) m, true)) := Lib.hid (by
              unfold spoilP
              rw [← HSB.out, if_pos rfl, hlk]
              rfl)
            clear hy hlk
            obtain ⟨gr, capr, hsh, hle⟩ := row_shape H4.out.2.1 (by omega)
            cases hsh
            obtain ⟨d0, d1, d2⟩ := row_cells H4.out.2.1 hxe
            dsimp only at d0 d1 d2
            obtain ⟨cap, w5, hrun, hbr, hcap, f5⟩ := brow_new w4 yl
            obtain ⟨Y, hY⟩ : ∃ S : ByteArray, S = ⟨yl.toArray⟩ := ⟨_, rfl⟩
            rw [← hY] at d1 hrun
            have HY := Lib.hid hY
            have hjR' : (jn : Int) < (R.length : Int) := by omega
            have hgb : w4.heap.size ≠ g6 := by have := vt_lt H4.out.2.2; omega
            have H5 := Lib.hid (show PW w w5 b (spoilP R jn xf m) (fun k => (Value.slice (some ⟨gr, 0, none⟩) R.length rc).ownBlock = some k ∨ k = w4.heap.size) ∧ RowOwn w5 w.heap.size (.slice (some ⟨gr, 0, none⟩) R.length rc) R ∧ w5.heap[g6]? = some (Obj.cells #[.int .u8 xk, .int .u8 xt, .int .u8 xi, .int .i64 xf, .int .u32 m, .slice xa xl.length xc] 32 (0, 0)) ∧ BRow w5 w4.heap.size yl from
              ⟨H4.out.1.other f5 (fun _ _ h => h.elim) (fun k hk => by
                rcases hk with e | e
                · exact .inl (.inl e)
                · obtain ⟨cs, fr, hh, _⟩ := hbr
                  right
                  have := vt_lt hh
                  omega), ownsRow_fr H4.out.2.1 f5 (fun _ _ h => h), crow_kept H4.out.2.2 f5 (fun h => h), hbr⟩)
            have hgr4 : gr ≠ w4.heap.size := by have := (World.ownsRow.lt H4.out.2.1 gr rfl).2; omega
            generalize hgbe : w4.heap.size = gb at *
            clear hgbe hbr f5 hY H4 c0 c1 c2 c3 c4 c5
            obtain ⟨ln, hln⟩ : ∃ n, n = yl.length := ⟨_, rfl⟩
            have hln50 : ln ≤ 100000 := by rw [hln]; exact H3.out.1.small _ (List.mem_of_getElem? hxe)
            rw [← hln] at hrun h4 hcap HSPL
            have HLN := Lib.hid hln
            clear hln
            go_upto_region 20 with fail
            clear hrun d0 d1 d2
            have hroom : (0 : Int) < 8 * (ln : Int) - 31 := by omega
            have hroom2 : ¬ (8 * (ln : Int) - 31 = 0) := by omega
            obtain ⟨f, hf⟩ : ∃ f : Nat, f = (xf % (8 * (ln : Int) - 31)).toNat := ⟨_, rfl⟩
            have hfe : xf % (8 * (ln : Int) - 31) = f := by rw [hf]; have := Int.emod_nonneg xf hroom2; omega
            have hf32 : f + 32 ≤ 8 * ln := by have := Int.emod_lt_of_pos xf hroom; omega
            rw [← hf] at HSPL
            have het := emod_tmod xf (8 * (ln : Int) - 31) hroom
            rw [hfe] at het
            have HET := Lib.hid het
            have htm := Int.tmod_lt_of_pos xf hroom
            have htm2 := Int.lt_tmod_of_pos xf hroom
            clear hf hfe het
            obtain ⟨c0, c1, c2, c3, c4, c5⟩ := cell6 H5.out.2.2.1
            go_upto_if 102 with fail
            go_cut [14] from 103 to 105 (fun c wx => c = .int .i64 f ∧ w5 = wx)
            case first =>
              have HT := Lib.hid (And.intro htm htm2)
              by_cases hneg : xf.tmod (8 * (ln : Int) - 31) < 0
              · go_wp2_with fail
                go_meet
                case rel => exact ⟨by rw [HET.out, if_pos hneg], rfl⟩
              · go_wp2_with fail
                go_meet
                case rel => exact ⟨by rw [HET.out, if_neg (by omega)], rfl⟩
            case rest =>
            obtain ⟨rfl, rfl⟩ := hcut
            clear htm htm2 HET hroom hroom2 c0 c1 c2 c3 c4 c5
            go_wp2_with fail
            go_loopg [106] 32 (fun gh u106 wx => ∃ k : Nat, k ≤ 32 ∧ gh = 32 - k ∧ u106 = .int .i64 k ∧ Hid (BRow wx gb (turnN yl f m k) ∧ Fr (fun z => z = gb) w5 wx))
            case atStart => exact ⟨0, by omega, rfl, rfl, Lib.hid ⟨H5.out.2.2.2, Fr.refl _ _⟩⟩
            case round =>
              obtain ⟨k, hk, rfl, rfl, HK⟩ := hrel
              obtain ⟨y, hy⟩ : ∃ y, y = turnN yl f m k := ⟨_, rfl⟩
              have hyl : y.length = ln := by rw [hy, turnN_length]; exact HLN.out.symm
              rw [← hy] at HK
              have HYY := Lib.hid hy
              clear hy
              by_cases hlt : k < 32
              case pos =>
                obtain ⟨c0, c1, c2, c3, c4, c5⟩ := cell6 (crow_kept H5.out.2.2.1 HK.out.2 (fun e => hgb e.symm))
                obtain ⟨q, hqd⟩ : ∃ q, q = (f + k) / 8 := ⟨_, rfl⟩
                obtain ⟨rr, hrd⟩ : ∃ r, r = (f + k) % 8 := ⟨_, rfl⟩
                have hq : q < y.length := by omega
                have hc := HK.out.1.cell q hq
                have hz := HK.out.1.frozen q hq
                unfold bv at hc
                obtain ⟨D, hD⟩ : ∃ D : UInt8, D = UInt8.ofNat (128 / 2 ^ rr) := ⟨_, rfl⟩
                have hS : BRow (wr.setCell ⟨gb, q, none⟩ (bv (y.getD q 0 ^^^ D))) gb (flipB y (f + k)) := by
                  have := HK.out.1.set q hq (y.getD q 0 ^^^ D)
                  rw [hD] at this ⊢
                  unfold flipB
                  rw [← hqd, ← hrd]
                  exact this
                have hr9 : rr < 8 := by omega
                have hD2 : (128 : Int) / 2 ^ rr = (D.toNat : Int) := by
                  rw [hD]
                  have : ∀ a : Fin 8, (128 : Int) / 2 ^ a.val = ((UInt8.ofNat (128 / 2 ^ a.val)).toNat : Int) := by decide
                  exact this ⟨_, hr9⟩
                generalize hd : y.getD q 0 = d at *
                have hx : Value.int .u8 (bits .xor .u8 (d.toNat : Int) (128 / 2 ^ rr)) = bv (d ^^^ D) := by
                  rw [hD2, xor_u8 _ _ (UInt8.toNat_lt _) (UInt8.toNat_lt _)]; unfold bv; rw [UInt8.toNat_xor]
                have hq8 : ((f : Int) + (k : Int)) / 8 = (q : Int) := by omega
                have hr8 : ((f : Int) + (k : Int)) % 8 = (rr : Int) := by omega
                have hqn : q < ln := by omega
                have hqn' : (q : Int) < (ln : Int) := by omega
                have HXX := Lib.hid hx
                have HSS := Lib.hid hS
                have HBB := Lib.hid (law_bit m (31 - k))
                have HYL := Lib.hid hyl
                clear hx hD hD2 hS hd hqd hrd hyl hq
                go_wp2_with fail
                · rename_i _ hb
                  rw [HBB.out] at hb
                  go_region
                  all_goals
                    go_wp2_with fail
                    rw [HXX.out]
                    go_roundg (32 - (k + 1))
                    case measure => omega
                    case rel =>
                      refine ⟨k + 1, by omega, rfl, by simp, Lib.hid ⟨?_, (HK.out.2.set1 q _).drew⟩⟩
                      have hs := HSS.out
                      unfold turnN
                      rw [if_pos hb, ← HYY.out]
                      exact hs
                · rename_i _ hb
                  rw [HBB.out] at hb
                  go_roundg (32 - (k + 1))
                  case measure => omega
                  case rel =>
                    refine ⟨k + 1, by omega, rfl, by simp, Lib.hid ⟨?_, HK.out.2⟩⟩
                    have hs := HK.out.1
                    unfold turnN
                    rw [if_neg (by rw [hb]; simp), ← HYY.out]
                    exact hs
              case neg =>
                obtain rfl : k = 32 := by omega
                have hyt : y = turnL yl f m := HYY.out
                have fr5 : Fr (fun z => z = gb) w5 wr := HK.out.2
                have hrow : RowOwn wr w.heap.size (.slice (some ⟨gr, 0, none⟩) R.length rc) R := ownsRow_fr H5.out.2.1 fr5 (fun k hk e => by
                  simp [Value.ownBlock] at hk
                  omega)
                have hpw : PW w wr b (spoilP R jn xf m) (fun k => (Value.slice (some ⟨gr, 0, none⟩) R.length rc).ownBlock = some k) := H5.out.1.other fr5 (fun k _ e => .inr e) (fun k hk => .inl (.inl hk))
                obtain ⟨d0, d1, d2⟩ := row_cells hrow hxe
                dsimp only at d0 d1 d2
                have z1 := row_frozen hrow (jn * 3 + 1)
                have z2 := row_frozen hrow (jn * 3 + 2)
                have t1 := sees_str (HK.out.1.sees (c := cap) (by omega))
                rw [hyl] at t1
                unfold sv at t1
                have hsp := row_spoil hrow jn hjR yt yl y ys hxe
                obtain ⟨S2, hS2⟩ : ∃ S : ByteArray, S = ⟨y.toArray⟩ := ⟨_, rfl⟩
                obtain ⟨S1, hS1⟩ : ∃ S : ByteArray, S = ⟨yl.toArray⟩ := ⟨_, rfl⟩
                rw [← hS2] at t1 hsp
                rw [← hS1] at d1
                have fz : Fr (fun k => k = gr) wr ((wr.setCell ⟨gr, jn * 3 + 1, none⟩ (.string S2)).setCell ⟨gr, jn * 3 + 2, none⟩ (.bool true)) := ((Fr.refl (fun k => k = gr) wr).set1 _ _).set1 _ _
                have HC := Lib.hid (show PW w ((wr.setCell ⟨gr, jn * 3 + 1, none⟩ (.string S2)).setCell ⟨gr, jn * 3 + 2, none⟩ (.bool true)) b (R.set jn (yt, y, true)) (fun k => (Value.slice (some ⟨gr, 0, none⟩) R.length rc).ownBlock = some k) ∧ RowOwn ((wr.setCell ⟨gr, jn * 3 + 1, none⟩ (.string S2)).setCell ⟨gr, jn * 3 + 2, none⟩ (.bool true)) w.heap.size (.slice (some ⟨gr, 0, none⟩) R.length rc) (R.set jn (yt, y, true)) from
                  ⟨by rw [hyt, ← HSPL.out]; exact hpw.other fz (fun k _ e => by rw [e]; rfl) (fun k h => .inl h), hsp⟩)
                clear hyt fr5 hrow hpw hsp hS1 hS2 fz hyl hxe
                go_wp2_with fail
                go_meet
                case rel => exact ⟨R.set jn (yt, y, true), by rw [List.length_set]; omega, HC⟩
      case rest =>
      obtain ⟨R', hR', HQ⟩ := hcut
      clear H3 HX HB HH3 hib hrb hkb hxt c0 c1 c2 c3 c4 c5 hg h50
      obtain ⟨rb, rd, e4⟩ := slice_of_own HQ.out.2
      subst e4
      have hln := len_pw HQ.out.1
      have hR100 : R'.length ≤ 100 := by omega
      obtain ⟨n, hn⟩ : ∃ n, n = R'.length := ⟨_, rfl⟩
      rw [← hn] at hln HQ ⊢
      have HN := Lib.hid hn
      have hn100 : n ≤ 100 := by omega
      have HRR := Lib.hid hR'
      clear hn hR' hR100
      go_wp2_with fail
      refine hln.mono ?_
      rintro z wc' ⟨rfl, rfl⟩
      clear hln
      go_wp2_with fail
      go_loopg [240] n (fun g u240 wx => ∃ q : Nat, q ≤ n ∧ g = n - q ∧ u240 = .int .i64 q ∧ Hid (PW w wx b R' (fun k => (Value.slice rb n rd).ownBlock = some k) ∧ RowOwn wx w.heap.size (.slice rb n rd) R'))
      case atStart => exact ⟨0, by omega, rfl, rfl, HQ⟩
      case round =>
        clear HQ
        obtain ⟨q, hq, rfl, rfl, HQ⟩ := hrel
        by_cases hltq : q < n
        case neg =>
          obtain rfl : q = n := by omega
          have hj1 : R'.length ≤ j + 1 := by have := HRR.out; omega
          go_wp2_with fail
          refine HandM.intro (ls.length - (j + 1)) ?measure ?mix
          case measure => omega
          case mix => exact hJJ _ _ _ (by kernel_rfl) ⟨j + 1, R', by omega, rfl, by first | rfl | (show Value.int .i64 _ = _; congr 1), hj1, HQ⟩
        case pos =>
          obtain ⟨gr, capr, hsh, _⟩ := row_shape HQ.out.2 (by have := HN.out; omega)
          rw [← HN.out] at hsh
          cases hsh
          obtain ⟨x, hx⟩ : ∃ x, R'[q]? = some x := ⟨_, List.getElem?_eq_getElem (by have := HN.out; omega)⟩
          obtain ⟨c0, c1, c2⟩ := row_cells HQ.out.2 hx
          have hlk : lookP R' q = x := by
            unfold lookP hasB
            rw [if_pos (by simp; have := HN.out; omega)]
            simp [List.getD, hx]
          have hlook := look_pw (HQ.out.1.fr0 ((Fr.refl (fun _ => False) wr).alloc (oLf x))) q
          rw [hlk, show hasB q R'.length = true by unfold hasB; simp; have := HN.out; omega] at hlook
          have q17 := heap_alloc_new wr (oLf x)
          obtain ⟨xt, xl, xs⟩ := x
          dsimp only at *
          obtain ⟨S, hS⟩ : ∃ S : ByteArray, S = ⟨xl.toArray⟩ := ⟨_, rfl⟩
          simp only [oLf] at hlook q17
          rw [← hS] at c1 hlook q17
          have HS := Lib.hid hS
          have HL := Lib.hid hlook
          have HR3 := Lib.hid (ownsRow_fr HQ.out.2 ((Fr.refl (fun _ => False) wr).alloc (Obj.cells #[.int .i64 xt, .string S, .bool xs] 34 (0, 0))) (fun _ _ h => h))
          clear hS hlook hlk hx HQ
          go_upto_region 52 with fail
          clear c0 c1 c2
          generalize wr.alloc (Obj.cells #[.int .i64 xt, .string S, .bool xs] 34 (0, 0)) = w5 at *
          generalize wr.heap.size = g17 at *
          go_wp2_with fail
          refine HL.out.mono ?_
          clear HL
          rintro z w6 ⟨u, rfl, hm, hp⟩
          obtain ⟨ua, uc, rfl⟩ := slice_of_own hm.1
          have f7 : Fr (fun _ => False) w6 (w6.alloc (oFl xt (.slice ua xl.length uc) xs)) := (Fr.refl _ _).alloc _
          have t1 := sees_str (hm.1.fr f7 (fun _ _ h => h)).sees
          unfold sv at t1
          rw [← HS.out] at t1
          have q17' := crow_kept (crow_kept q17 hm.2.1 (fun h => h)) f7 (fun h => h)
          have q18 := heap_alloc_new w6 (oFl xt (.slice ua xl.length uc) xs)
          have H7 := Lib.hid (show PW w (w6.alloc (oFl xt (.slice ua xl.length uc) xs)) b R' (fun k => (Value.slice (some ⟨gr, 0, none⟩) n rd).ownBlock = some k) ∧ RowOwn (w6.alloc (oFl xt (.slice ua xl.length uc) xs)) w.heap.size (.slice (some ⟨gr, 0, none⟩) n rd) R' from
            ⟨(hp.fr0 f7).less (fun k h => .inl h), ownsRow_fr (ownsRow_fr HR3.out hm.2.1 (fun _ _ h => h)) f7 (fun _ _ h => h)⟩)
          clear hm hp f7 q17 HR3
          go_upto_region 53 with fail
          generalize w6.alloc (oFl xt (.slice ua xl.length uc) xs) = w7 at *
          generalize w6.heap.size = g18 at *
          obtain ⟨c0, c1, c2⟩ := cell3 q17'
          obtain ⟨d0, d1, d2⟩ := cell3 q18
          clear q17' q18
          generalize xl.length = xn at *
          go_wp2_with fail
          go_roundg (n - (q + 1))
          case measure => omega
          case rel => exact ⟨q + 1, by omega, rfl, by simp, H7⟩

/-- For every acts, in the form that the statement's lift takes. -/
theorem plays_all {w : World} (t : List AcE) (v : Value) (hv : ActsV w t v) :
    Calls Try.prog 3 #[v] w fun e w' => e = .returned (.bool true) ∧ Fr (fun _ => False) w w' := plays_any v t w hv
end Go.Proofs.Ytojfabhbkdddpaa
