/-
  LetAny, part 14 of what it rests on: LetRead, LetPut, LetSmallDef.
-/
import Derived.Test.YtjnbpgadgdjobaaS11
import Derived.Test.YtjnbpgadgdjobaaS12
import Derived.Test.YtjnbpgadgdjobaaS06
import Derived.Test.YtjnbpgadgdjobaaS04
set_option linter.unusedVariables false
set_option linter.unusedSimpArgs false
set_option maxHeartbeats 64000000
namespace Go.Proofs.Ytjnbpgadgdjobaa
open Go.RowKit
open Go.Lib (hid)
section
set_option maxRecDepth 100000

theorem read_let (b : Nat) (v : Value) (l : List UInt8) (x : Int) (w : World) (hR : Rd w b v l x) :
    Calls Try.prog 25 #[.pointer (some ⟨b, 0, none⟩)] w fun e w' => ∃ s', e = .returned (.agg ((rdS 7 (l, x)).1.cs s')) ∧ LS w' (rdS 7 (l, x)).1 s' ∧ Reads b v (rdS 7 (l, x)).2.1 (rdS 7 (l, x)).2.2 w w' ∧ s'.new w.heap.size := by
  have hb := hR.lt
  have ho := hR.old
  have q0 := heap_alloc_new w (zLt 0 0 0)
  have q1 := new_two w (zLt 0 0 0) (zLt 0 0 0)
  have f1 : Fr (fun _ => False) (w.alloc (zLt 0 0 0)) ((w.alloc (zLt 0 0 0)).alloc (zLt 0 0 0)) := (Fr.refl _ _).alloc _
  have f2 := ((Fr.refl (fun _ => False) w).alloc (zLt 0 0 0)).trans f1 (fun _ _ h => h)
  have q0' := crow_kept q0 f1 (fun h => h)
  have R0 := hR.fr f2 (fun h => h) (fun _ _ h => h)
  clear q0 f1
  obtain ⟨st, hst⟩ : ∃ st : St, st = (l, x) := ⟨_, rfl⟩
  rw [← hst]
  have e1 : l = st.1 := by rw [hst]
  have e2 : x = st.2 := by rw [hst]
  rw [e1, e2] at R0
  clear e1 e2 hst hR
  go_enter Try.func25, Try.ntmps25
  go_upto_region 2 with fail
  rw [zLt_eq] at q1
  have HO : Hid (RdJ b v w w.heap.size { Lt.zero with k := 0, f := 0, t := 0 } st ((w.alloc (zLt 0 0 0)).alloc (zLt 0 0 0))) := Lib.hid ⟨q0', ⟨v, R0, f2.mono (fun _ _ h => h.elim), .inl rfl⟩, Ls.nil, q1, LS.zero _ _ _ _, Ls.new_nil _⟩
  clear q0' q1 f2 R0
  generalize (w.alloc (zLt 0 0 0)).alloc (zLt 0 0 0) = w0 at *
  obtain ⟨g, hg⟩ : ∃ g, g = w.heap.size := ⟨_, rfl⟩
  rw [← hg] at HO ⊢
  have HG : Hid (RdG b v w g) := Lib.hid ⟨hg, hb, ho⟩
  clear hg hb ho
  obtain ⟨v1, r1, hstep⟩ := HO.out.call HG.out
  go_wp2_with fail
  refine (rkind_any b v1 st.1 st.2 w0 r1).mono ?_
  rintro e w1 ⟨rfl, rd⟩
  rw [show (st.1, st.2) = st from rfl] at *
  have HO1 := Lib.hid (hstep _ _ rd)
  clear HO hstep rd r1
  obtain ⟨kk, hkk⟩ : ∃ k, k = kindS st := ⟨_, rfl⟩
  rw [← hkk] at HO1 ⊢
  have HK := Lib.hid hkk
  clear hkk
  obtain ⟨-, -, s1, q1, l1, n1⟩ := HO1.out
  obtain ⟨t0, t1, t2, t3, t4, t5, t6, t7, t8⟩ := lt_cells q1
  have hfz := lt_free q1
  have L1 := Lib.hid (And.intro q1 (And.intro l1 n1))
  clear q1 l1 n1
  dsimp only

  go_upto_region 3 with fail
  have hq := st_k L1.out.1 (kk.1 : Int)
  have hfr := sf_k (S := fun k => k = g + 1) (g := g + 1) (Fr.refl _ w1) (fun _ => rfl) (kk.1 : Int)
  have hls := L1.out.2.1.off hfr L1.out.2.2
  have HO2 := Lib.hid (HO1.out.store HG.out hfr hq ⟨hls.e, hls.v, hls.c, hls.a⟩ L1.out.2.2)

  clear hq hfr hls hfz L1 HO1
  clear t0 t1 t2 t3 t4 t5 t6 t7 t8
  generalize w1.setCell ⟨g + 1, 0, none⟩ (.int .u8 (kk.1 : Int)) = w2 at *
  obtain ⟨v2, r2, hstep⟩ := HO2.out.call HG.out
  have hs2 : (numS kk.2 2).1 < 65536 := numS_small kk.2 2
  go_wp2_with fail
  refine (rword_any b v2 kk.2.1 kk.2.2 w2 r2).mono ?_
  rintro e w3 ⟨rfl, rd⟩
  rw [show (kk.2.1, kk.2.2) = kk.2 from rfl] at *
  have HO3 := Lib.hid (hstep _ _ rd)
  clear HO2 hstep rd r2
  obtain ⟨n1, hn1⟩ : ∃ k, k = numS kk.2 2 := ⟨_, rfl⟩
  rw [← hn1] at HO3 hs2 ⊢
  have HN1 := Lib.hid hn1
  clear hn1
  obtain ⟨-, -, s1, q1, l1, n1⟩ := HO3.out
  obtain ⟨t0, t1, t2, t3, t4, t5, t6, t7, t8⟩ := lt_cells q1
  have hfz := lt_free q1
  have L1 := Lib.hid (And.intro q1 (And.intro l1 n1))
  clear q1 l1 n1
  dsimp only

  go_upto_region 4 with fail
  have hq := st_f L1.out.1 (n1.1 : Int)
  have hfr := sf_f (S := fun k => k = g + 1) (g := g + 1) (Fr.refl _ w3) (fun _ => rfl) (n1.1 : Int)
  have hls := L1.out.2.1.off hfr L1.out.2.2
  have HO4 := Lib.hid (HO3.out.store HG.out hfr hq ⟨hls.e, hls.v, hls.c, hls.a⟩ L1.out.2.2)

  clear hq hfr hls hfz L1 HO3
  clear t0 t1 t2 t3 t4 t5 t6 t7 t8
  generalize w3.setCell ⟨g + 1, 1, none⟩ (.int .i64 (n1.1 : Int)) = w4 at *
  obtain ⟨v4, r4, hstep⟩ := HO4.out.call HG.out
  have hs4 : (numS n1.2 2).1 < 65536 := numS_small n1.2 2
  go_wp2_with fail
  refine (rword_any b v4 n1.2.1 n1.2.2 w4 r4).mono ?_
  rintro e w5 ⟨rfl, rd⟩
  rw [show (n1.2.1, n1.2.2) = n1.2 from rfl] at *
  have HO5 := Lib.hid (hstep _ _ rd)
  clear HO4 hstep rd r4
  obtain ⟨n2, hn2⟩ : ∃ k, k = numS n1.2 2 := ⟨_, rfl⟩
  rw [← hn2] at HO5 hs4 ⊢
  have HN2 := Lib.hid hn2
  clear hn2
  obtain ⟨-, -, s1, q1, l1, n1⟩ := HO5.out
  obtain ⟨t0, t1, t2, t3, t4, t5, t6, t7, t8⟩ := lt_cells q1
  have hfz := lt_free q1
  have L1 := Lib.hid (And.intro q1 (And.intro l1 n1))
  clear q1 l1 n1
  dsimp only

  go_upto_region 5 with fail
  have hq := st_t L1.out.1 (n2.1 : Int)
  have hfr := sf_t (S := fun k => k = g + 1) (g := g + 1) (Fr.refl _ w5) (fun _ => rfl) (n2.1 : Int)
  have hls := L1.out.2.1.off hfr L1.out.2.2
  have HO6 := Lib.hid (HO5.out.store HG.out hfr hq ⟨hls.e, hls.v, hls.c, hls.a⟩ L1.out.2.2)

  clear hq hfr hls hfz L1 HO5
  clear t0 t1 t2 t3 t4 t5 t6 t7 t8
  generalize w5.setCell ⟨g + 1, 2, none⟩ (.int .i64 (n2.1 : Int)) = wc at *
  have HO : Hid (RdJ b v w g (rdS 0 st).1 (rdS 0 st).2 wc) := Lib.hid (by
    have h := HO6.out
    rw [HN2.out, HN1.out, HK.out] at h
    exact h)
  clear HO6 HN2 HN1 HK hs2 hs4
  obtain ⟨Y, hY⟩ : ∃ Y, Y = (rdS 0 st).1 := ⟨_, rfl⟩
  obtain ⟨T, hT⟩ : ∃ T, T = (rdS 0 st).2 := ⟨_, rfl⟩
  rw [← hY, ← hT] at HO
  have HYT : Hid (rdS 0 st = (Y, T)) := Lib.hid (by rw [hY, hT])
  clear hY hT
  obtain ⟨h1, h2, si, h3, h4, h5⟩ := HO.out
  have Q3 := Lib.hid h3
  clear h1 h2 h3 h4 h5
  go_wp2_with (refine load_lt rfl 51 (.tmp 3) rfl (g + 1) (Y.cs si) 51 (0, 0) rfl Q3.out _ Try.underlying51 rfl (by kernel_rfl) ?_)
  refine (has_any Y si 1 wc).mono ?_
  rintro e w1 ⟨rfl, f1⟩
  have HO1 := Lib.hid (HO.out.fr f1)
  clear f1 HO Q3
  obtain ⟨hp, hhp⟩ : ∃ b, b = hasE Y.k Y.s 1 := ⟨_, rfl⟩
  rw [← hhp]
  have HH := Lib.hid hhp
  clear hhp
  dsimp only
  go_upto_if 16 with fail
  go_cut [20] from 17 to 20 (fun u wx => Hid (RdJ b v w g (rdS 1 st).1 (rdS 1 st).2 wx))
  case first =>
    cases hp with
    | false =>
      have HY : Hid (rdS 1 st = (Y, T)) := Lib.hid (by rw [rdS, HYT.out]; exact rd_no1 HH.out.symm)
      go_wp2_with fail
      go_meet
      case rel => exact Lib.hid (by rw [HY.out]; exact HO1.out)
    | true =>
      have HY : Hid (rdS 1 st = ({ Y with p := (numS T 4).1 }, (numS T 4).2)) := Lib.hid (by rw [rdS, HYT.out]; exact rd_yes1 HH.out.symm)
      obtain ⟨v1, r1, hstep⟩ := HO1.out.call HG.out
      have hb : (numS T 4).1 < 4294967296 := numS_small T 4
      go_wp2_with fail
      refine (rlong_any b v1 T.1 T.2 w1 r1).mono ?_
      rintro e w2 ⟨rfl, rd⟩
      rw [show (T.1, T.2) = T from rfl] at *
      have HO2 := Lib.hid (hstep _ _ rd)
      clear hstep rd r1
      obtain ⟨n1, hn1⟩ : ∃ k, k = numS T 4 := ⟨_, rfl⟩
      rw [← hn1] at HO2 HY hb ⊢
      clear hn1
      obtain ⟨-, -, s1, q1, l1, n1⟩ := HO2.out
      obtain ⟨t0, t1, t2, t3, t4, t5, t6, t7, t8⟩ := lt_cells q1
      have hfz := lt_free q1
      have L1 := Lib.hid (And.intro q1 (And.intro l1 n1))
      clear q1 l1 n1
      dsimp only
      go_wp2_with fail
      go_meet
      case rel =>
        have hq := st_p L1.out.1 (n1.1 : Int)
        have hfr := sf_p (S := fun k => k = g + 1) (g := g + 1) (Fr.refl _ w2) (fun _ => rfl) (n1.1 : Int)
        have hls := L1.out.2.1.off hfr L1.out.2.2
        exact Lib.hid (by rw [HY.out]; dsimp only; exact HO2.out.store HG.out hfr hq ⟨hls.e, hls.v, hls.c, hls.a⟩ L1.out.2.2)
  case rest =>
    have HO := hcut
    clear hcut HO1 HH HYT
    obtain ⟨Y, hY⟩ : ∃ Y, Y = (rdS 1 st).1 := ⟨_, rfl⟩
    obtain ⟨T, hT⟩ : ∃ T, T = (rdS 1 st).2 := ⟨_, rfl⟩
    rw [← hY, ← hT] at HO
    have HYT : Hid (rdS 1 st = (Y, T)) := Lib.hid (by rw [hY, hT])
    clear hY hT
    obtain ⟨h1, h2, si, h3, h4, h5⟩ := HO.out
    have Q3 := Lib.hid h3
    clear h1 h2 h3 h4 h5
    go_wp2_with (refine load_lt rfl 51 (.tmp 3) rfl (g + 1) (Y.cs si) 51 (0, 0) rfl Q3.out _ Try.underlying51 rfl (by kernel_rfl) ?_)
    refine (has_any Y si 2 wc).mono ?_
    rintro e w1 ⟨rfl, f1⟩
    have HO1 := Lib.hid (HO.out.fr f1)
    clear f1 HO Q3
    obtain ⟨hp, hhp⟩ : ∃ b, b = hasE Y.k Y.s 2 := ⟨_, rfl⟩
    rw [← hhp]
    have HH := Lib.hid hhp
    clear hhp
    dsimp only
    go_upto_if 22 with fail
    go_cut [25] from 23 to 25 (fun u wx => Hid (RdJ b v w g (rdS 2 st).1 (rdS 2 st).2 wx))
    case first =>
      cases hp with
      | false =>
        have HY : Hid (rdS 2 st = (Y, T)) := Lib.hid (by rw [rdS, HYT.out]; exact rd_no2 HH.out.symm)
        go_wp2_with fail
        go_meet
        case rel => exact Lib.hid (by rw [HY.out]; exact HO1.out)
      | true =>
        have HY : Hid (rdS 2 st = ({ Y with b1 := (ballotS T).1.1, b2 := (ballotS T).1.2 }, (ballotS T).2)) := Lib.hid (by rw [rdS, HYT.out]; exact rd_yes2 HH.out.symm)
        obtain ⟨v1, r1, hstep⟩ := HO1.out.call HG.out
        go_wp2_with fail
        refine (rballot_any b v1 T.1 T.2 w1 r1).mono ?_
        rintro e w2 ⟨rfl, rd⟩
        rw [show (T.1, T.2) = T from rfl] at *
        have HO2 := Lib.hid (hstep _ _ rd)
        clear hstep rd r1
        obtain ⟨n1, hn1⟩ : ∃ k, k = ballotS T := ⟨_, rfl⟩
        rw [← hn1] at HO2 HY ⊢
        clear hn1
        obtain ⟨-, -, s1, q1, l1, n1⟩ := HO2.out
        obtain ⟨t0, t1, t2, t3, t4, t5, t6, t7, t8⟩ := lt_cells q1
        have hfz := lt_free q1
        have L1 := Lib.hid (And.intro q1 (And.intro l1 n1))
        clear q1 l1 n1
        dsimp only
        go_wp2_with fail
        go_meet
        case rel =>
          have hq := st_b L1.out.1 n1.1.1 n1.1.2
          have hfr := sf_b (S := fun k => k = g + 1) (g := g + 1) (Fr.refl _ w2) (fun _ => rfl) n1.1.1 n1.1.2
          have hls := L1.out.2.1.off hfr L1.out.2.2
          exact Lib.hid (by rw [HY.out]; dsimp only; exact HO2.out.store HG.out hfr hq ⟨hls.e, hls.v, hls.c, hls.a⟩ L1.out.2.2)
    case rest =>
      have HO := hcut
      clear hcut HO1 HH HYT
      obtain ⟨Y, hY⟩ : ∃ Y, Y = (rdS 2 st).1 := ⟨_, rfl⟩
      obtain ⟨T, hT⟩ : ∃ T, T = (rdS 2 st).2 := ⟨_, rfl⟩
      rw [← hY, ← hT] at HO
      have HYT : Hid (rdS 2 st = (Y, T)) := Lib.hid (by rw [hY, hT])
      clear hY hT
      obtain ⟨h1, h2, si, h3, h4, h5⟩ := HO.out
      have Q3 := Lib.hid h3
      clear h1 h2 h3 h4 h5
      go_wp2_with (refine load_lt rfl 51 (.tmp 3) rfl (g + 1) (Y.cs si) 51 (0, 0) rfl Q3.out _ Try.underlying51 rfl (by kernel_rfl) ?_)
      refine (has_any Y si 4 wc).mono ?_
      rintro e w1 ⟨rfl, f1⟩
      have HO1 := Lib.hid (HO.out.fr f1)
      clear f1 HO Q3
      obtain ⟨hp, hhp⟩ : ∃ b, b = hasE Y.k Y.s 4 := ⟨_, rfl⟩
      rw [← hhp]
      have HH := Lib.hid hhp
      clear hhp
      dsimp only
      go_upto_if 27 with fail
      go_cut [31] from 28 to 31 (fun u wx => Hid (RdJ b v w g (rdS 3 st).1 (rdS 3 st).2 wx))
      case first =>
        cases hp with
        | false =>
          have HY : Hid (rdS 3 st = (Y, T)) := Lib.hid (by rw [rdS, HYT.out]; exact rd_no3 HH.out.symm)
          go_wp2_with fail
          go_meet
          case rel => exact Lib.hid (by rw [HY.out]; exact HO1.out)
        | true =>
          have HY : Hid (rdS 3 st = ({ Y with s := ((withinS T 1).1 : Int) == 1 }, (withinS T 1).2)) := Lib.hid (by rw [rdS, HYT.out]; exact rd_yes3 HH.out.symm)
          obtain ⟨v1, r1, hstep⟩ := HO1.out.call HG.out
          have hb : (withinS T 1).1 < 65536 := withinS_small T 1
          go_wp2_with fail
          refine (within_any b v1 T.1 T.2 1 w1 r1).mono ?_
          rintro e w2 ⟨rfl, rd⟩
          rw [show (T.1, T.2) = T from rfl] at *
          have HO2 := Lib.hid (hstep _ _ rd)
          clear hstep rd r1
          obtain ⟨n1, hn1⟩ : ∃ k, k = withinS T 1 := ⟨_, rfl⟩
          rw [← hn1] at HO2 HY hb ⊢
          clear hn1
          obtain ⟨-, -, s1, q1, l1, n1⟩ := HO2.out
          obtain ⟨t0, t1, t2, t3, t4, t5, t6, t7, t8⟩ := lt_cells q1
          have hfz := lt_free q1
          have L1 := Lib.hid (And.intro q1 (And.intro l1 n1))
          clear q1 l1 n1
          dsimp only
          go_wp2_with fail
          go_meet
          case rel =>
            have hq := st_s L1.out.1 ((n1.1 : Int) == 1)
            have hfr := sf_s (S := fun k => k = g + 1) (g := g + 1) (Fr.refl _ w2) (fun _ => rfl) ((n1.1 : Int) == 1)
            have hls := L1.out.2.1.off hfr L1.out.2.2
            exact Lib.hid (by rw [HY.out]; dsimp only; exact HO2.out.store HG.out hfr hq ⟨hls.e, hls.v, hls.c, hls.a⟩ L1.out.2.2)
      case rest =>
        have HO := hcut
        clear hcut HO1 HH HYT
        obtain ⟨Y, hY⟩ : ∃ Y, Y = (rdS 3 st).1 := ⟨_, rfl⟩
        obtain ⟨T, hT⟩ : ∃ T, T = (rdS 3 st).2 := ⟨_, rfl⟩
        rw [← hY, ← hT] at HO
        have HYT : Hid (rdS 3 st = (Y, T)) := Lib.hid (by rw [hY, hT])
        clear hY hT
        obtain ⟨h1, h2, si, h3, h4, h5⟩ := HO.out
        have Q3 := Lib.hid h3
        clear h1 h2 h3 h4 h5
        go_wp2_with (refine load_lt rfl 51 (.tmp 3) rfl (g + 1) (Y.cs si) 51 (0, 0) rfl Q3.out _ Try.underlying51 rfl (by kernel_rfl) ?_)
        refine (has_any Y si 8 wc).mono ?_
        rintro e w1 ⟨rfl, f1⟩
        have HO1 := Lib.hid (HO.out.fr f1)
        clear f1 HO Q3
        obtain ⟨hp, hhp⟩ : ∃ b, b = hasE Y.k Y.s 8 := ⟨_, rfl⟩
        rw [← hhp]
        have HH := Lib.hid hhp
        clear hhp
        dsimp only
        go_upto_if 33 with fail
        go_cut [36] from 34 to 36 (fun u wx => Hid (RdJ b v w g (rdS 4 st).1 (rdS 4 st).2 wx))
        case first =>
          cases hp with
          | false =>
            have HY : Hid (rdS 4 st = (Y, T)) := Lib.hid (by rw [rdS, HYT.out]; exact rd_no4 HH.out.symm)
            go_wp2_with fail
            go_meet
            case rel => exact Lib.hid (by rw [HY.out]; exact HO1.out)
          | true =>
            have HY : Hid (rdS 4 st = ({ Y with w1 := (ballotS T).1.1, w2 := (ballotS T).1.2 }, (ballotS T).2)) := Lib.hid (by rw [rdS, HYT.out]; exact rd_yes4 HH.out.symm)
            obtain ⟨v1, r1, hstep⟩ := HO1.out.call HG.out
            go_wp2_with fail
            refine (rballot_any b v1 T.1 T.2 w1 r1).mono ?_
            rintro e w2 ⟨rfl, rd⟩
            rw [show (T.1, T.2) = T from rfl] at *
            have HO2 := Lib.hid (hstep _ _ rd)
            clear hstep rd r1
            obtain ⟨n1, hn1⟩ : ∃ k, k = ballotS T := ⟨_, rfl⟩
            rw [← hn1] at HO2 HY ⊢
            clear hn1
            obtain ⟨-, -, s1, q1, l1, n1⟩ := HO2.out
            obtain ⟨t0, t1, t2, t3, t4, t5, t6, t7, t8⟩ := lt_cells q1
            have hfz := lt_free q1
            have L1 := Lib.hid (And.intro q1 (And.intro l1 n1))
            clear q1 l1 n1
            dsimp only
            go_wp2_with fail
            go_meet
            case rel =>
              have hq := st_w L1.out.1 n1.1.1 n1.1.2
              have hfr := sf_w (S := fun k => k = g + 1) (g := g + 1) (Fr.refl _ w2) (fun _ => rfl) n1.1.1 n1.1.2
              have hls := L1.out.2.1.off hfr L1.out.2.2
              exact Lib.hid (by rw [HY.out]; dsimp only; exact HO2.out.store HG.out hfr hq ⟨hls.e, hls.v, hls.c, hls.a⟩ L1.out.2.2)
        case rest =>
          have HO := hcut
          clear hcut HO1 HH HYT
          obtain ⟨Y, hY⟩ : ∃ Y, Y = (rdS 4 st).1 := ⟨_, rfl⟩
          obtain ⟨T, hT⟩ : ∃ T, T = (rdS 4 st).2 := ⟨_, rfl⟩
          rw [← hY, ← hT] at HO
          have HYT : Hid (rdS 4 st = (Y, T)) := Lib.hid (by rw [hY, hT])
          clear hY hT
          obtain ⟨h1, h2, si, h3, h4, h5⟩ := HO.out
          have Q3 := Lib.hid h3
          clear h1 h2 h3 h4 h5
          go_wp2_with (refine load_lt rfl 51 (.tmp 3) rfl (g + 1) (Y.cs si) 51 (0, 0) rfl Q3.out _ Try.underlying51 rfl (by kernel_rfl) ?_)
          refine (has_any Y si 16 wc).mono ?_
          rintro e w1 ⟨rfl, f1⟩
          have HO1 := Lib.hid (HO.out.fr f1)
          clear f1 HO Q3
          obtain ⟨hp, hhp⟩ : ∃ b, b = hasE Y.k Y.s 16 := ⟨_, rfl⟩
          rw [← hhp]
          have HH := Lib.hid hhp
          clear hhp
          dsimp only
          go_upto_if 38 with fail
          go_cut [41] from 39 to 41 (fun u wx => Hid (RdJ b v w g (rdS 5 st).1 (rdS 5 st).2 wx))
          case first =>
            cases hp with
            | false =>
              have HY : Hid (rdS 5 st = (Y, T)) := Lib.hid (by rw [rdS, HYT.out]; exact rd_no5 HH.out.symm)
              go_wp2_with fail
              go_meet
              case rel => exact Lib.hid (by rw [HY.out]; exact HO1.out)
            | true =>
              have HY : Hid (rdS 5 st = ({ Y with e := (entS T).1 }, (entS T).2)) := Lib.hid (by rw [rdS, HYT.out]; exact rd_yes5 HH.out.symm)
              have HSZ := Lib.hid HO1.out.sz
              obtain ⟨v1, r1, hstep⟩ := HO1.out.call HG.out
              go_wp2_with fail
              refine (gvtake_any b v1 T.1 T.2 w1 r1).mono ?_
              rintro e w2 ⟨ve, ue, rfl, hes, rd, hve, hue⟩
              rw [show (T.1, T.2) = T from rfl] at *
              have HO2 := Lib.hid (hstep _ _ rd)
              clear hstep rd r1
              obtain ⟨n1, hn1⟩ : ∃ k, k = entS T := ⟨_, rfl⟩
              rw [← hn1] at HO2 HY hes ⊢
              clear hn1
              obtain ⟨a1, c1, e1, -⟩ := hes.1.shape
              obtain ⟨a2, c2, e2, -⟩ := hes.2.shape
              subst e1 e2
              have HES := Lib.hid (And.intro hes (And.intro hve hue))
              clear hes hve hue
              obtain ⟨-, -, s1, q1, l1, n1⟩ := HO2.out
              obtain ⟨t9, t10, t11, t12, t13, t14⟩ := lt_cells2 q1
              have hfz := lt_free q1
              have L1 := Lib.hid (And.intro q1 (And.intro l1 n1))
              clear q1 l1 n1
              dsimp only
              go_wp2_with fail
              go_meet
              case rel =>
                have hq := st_e L1.out.1 n1.1 (.slice a1 n1.1.l.length c1) (.slice a2 n1.1.m.length c2)
                have hfr := sf_e (S := fun k => k = g + 1) (g := g + 1) (Fr.refl _ w2) (fun _ => rfl) n1.1 (.slice a1 n1.1.l.length c1) (.slice a2 n1.1.m.length c2)
                have hls := L1.out.2.1.off hfr L1.out.2.2
                have hsz := HSZ.out
                have h1 := HES.out.1.1.keep hfr (.inr fun k hk e => by have := HES.out.2.1 k hk; omega)
                have h2 := HES.out.1.2.keep hfr (.inr fun k hk e => by have := HES.out.2.2 k hk; omega)
                exact Lib.hid (by rw [HY.out]; dsimp only; exact HO2.out.store HG.out hfr hq ⟨⟨h1, h2⟩, hls.v, hls.c, hls.a⟩ ⟨fun k hk => by have := HES.out.2.1 k hk; omega, fun k hk => by have := HES.out.2.2 k hk; omega, L1.out.2.2.va, L1.out.2.2.ca, L1.out.2.2.aa⟩)
          case rest =>
            have HO := hcut
            clear hcut HO1 HH HYT
            obtain ⟨Y, hY⟩ : ∃ Y, Y = (rdS 5 st).1 := ⟨_, rfl⟩
            obtain ⟨T, hT⟩ : ∃ T, T = (rdS 5 st).2 := ⟨_, rfl⟩
            rw [← hY, ← hT] at HO
            have HYT : Hid (rdS 5 st = (Y, T)) := Lib.hid (by rw [hY, hT])
            clear hY hT
            obtain ⟨h1, h2, si, h3, h4, h5⟩ := HO.out
            have Q3 := Lib.hid h3
            clear h1 h2 h3 h4 h5
            go_wp2_with (refine load_lt rfl 51 (.tmp 3) rfl (g + 1) (Y.cs si) 51 (0, 0) rfl Q3.out _ Try.underlying51 rfl (by kernel_rfl) ?_)
            refine (has_any Y si 32 wc).mono ?_
            rintro e w1 ⟨rfl, f1⟩
            have HO1 := Lib.hid (HO.out.fr f1)
            clear f1 HO Q3
            obtain ⟨hp, hhp⟩ : ∃ b, b = hasE Y.k Y.s 32 := ⟨_, rfl⟩
            rw [← hhp]
            have HH := Lib.hid hhp
            clear hhp
            dsimp only
            go_upto_if 43 with fail
            go_cut [46] from 44 to 46 (fun u wx => Hid (RdJ b v w g (rdS 6 st).1 (rdS 6 st).2 wx))
            case first =>
              cases hp with
              | false =>
                have HY : Hid (rdS 6 st = (Y, T)) := Lib.hid (by rw [rdS, HYT.out]; exact rd_no6 HH.out.symm)
                go_wp2_with fail
                go_meet
                case rel => exact Lib.hid (by rw [HY.out]; exact HO1.out)
              | true =>
                have HY : Hid (rdS 6 st = ({ Y with ct := (callC T).1, cn := (callC T).2.1, cp := (callC T).2.2.1, cl := (callC T).2.2.2 }, (takeS T).2)) := Lib.hid (by rw [rdS, HYT.out]; exact rd_yes6 HH.out.symm)
                have HSZ := Lib.hid HO1.out.sz
                obtain ⟨v1, r1, hstep⟩ := HO1.out.call HG.out
                go_wp2_with fail
                refine (take_any b v1 T.1 T.2 w1 r1).mono ?_
                rintro e w2 ⟨u, rfl, rd, hu⟩
                rw [show (T.1, T.2) = T from rfl] at *
                have HO2 := Lib.hid (hstep _ _ rd)
                obtain ⟨v', rfl, hsee, hge⟩ : ∃ v', u = cv (callC T).1 (callC T).2.1 (callC T).2.2.1 v' ∧ Sees w2 v' (callC T).2.2.2 ∧ (∀ k, v'.ownBlock = some k → w1.heap.size ≤ k) := by
                  rcases hu with ⟨h0, v', e, hs, g', hg, hg2, _⟩ | ⟨h0, e⟩
                  · refine ⟨v', ?_, ?_, fun k hk => by rw [hg] at hk; cases hk; exact hg2⟩
                    · unfold callC; rw [if_pos h0]; dsimp only; exact e
                    · unfold callC; rw [if_pos h0]; dsimp only; exact hs
                  · refine ⟨nilS, ?_, ?_, fun k hk => by cases hk⟩
                    · unfold callC; rw [if_neg h0]; dsimp only; exact e
                    · unfold callC; rw [if_neg h0]; dsimp only; exact .inl ⟨rfl, _, _, rfl⟩
                clear hstep rd r1 hu
                obtain ⟨n1, hn1⟩ : ∃ k, k = callC T := ⟨_, rfl⟩
                rw [← hn1] at HY hsee ⊢
                clear hn1
                obtain ⟨a1, c1, e1, -⟩ := hsee.shape
                subst e1
                have HES := Lib.hid (And.intro hsee hge)
                clear hsee hge
                unfold cv
                obtain ⟨-, -, s1, q1, l1, n1⟩ := HO2.out
                obtain ⟨t15, t16, t17, t18, t19, t20, t21, t22, t23, t24, t25⟩ := lt_cells3 q1
                have hfz := lt_free q1
                have L1 := Lib.hid (And.intro q1 (And.intro l1 n1))
                clear q1 l1 n1
                dsimp only
                go_wp2_with fail
                go_meet
                case rel =>
                  have hq := st_cL L1.out.1 n1.1 n1.2.1 n1.2.2.1 (.slice a1 n1.2.2.2.length c1) n1.2.2.2
                  have hfr := sf_c (S := fun k => k = g + 1) (g := g + 1) (Fr.refl _ w2) (fun _ => rfl) n1.1 n1.2.1 n1.2.2.1 (.slice a1 n1.2.2.2.length c1)
                  have hls := L1.out.2.1.off hfr L1.out.2.2
                  have hsz := HSZ.out
                  have h1 := HES.out.1.keep hfr (.inr fun k hk e => by have := HES.out.2 k hk; omega)
                  exact Lib.hid (by rw [HY.out]; dsimp only; exact HO2.out.store HG.out hfr hq ⟨hls.e, hls.v, h1, hls.a⟩ ⟨L1.out.2.2.ea, L1.out.2.2.em, L1.out.2.2.va, fun k hk => by have := HES.out.2 k hk; omega, L1.out.2.2.aa⟩)
            case rest =>
              have HO := hcut
              clear hcut HO1 HH HYT
              obtain ⟨Y, hY⟩ : ∃ Y, Y = (rdS 6 st).1 := ⟨_, rfl⟩
              obtain ⟨T, hT⟩ : ∃ T, T = (rdS 6 st).2 := ⟨_, rfl⟩
              rw [← hY, ← hT] at HO
              have HYT : Hid (rdS 6 st = (Y, T)) := Lib.hid (by rw [hY, hT])
              clear hY hT
              obtain ⟨h1, h2, si, h3, h4, h5⟩ := HO.out
              have Q3 := Lib.hid h3
              clear h1 h2 h3 h4 h5
              go_wp2_with (refine load_lt rfl 51 (.tmp 3) rfl (g + 1) (Y.cs si) 51 (0, 0) rfl Q3.out _ Try.underlying51 rfl (by kernel_rfl) ?_)
              refine (has_any Y si 64 wc).mono ?_
              rintro e w1 ⟨rfl, f1⟩
              have HO1 := Lib.hid (HO.out.fr f1)
              clear f1 HO Q3
              obtain ⟨hp, hhp⟩ : ∃ b, b = hasE Y.k Y.s 64 := ⟨_, rfl⟩
              rw [← hhp]
              have HH := Lib.hid hhp
              clear hhp
              dsimp only
              go_upto_if 48 with fail
              go_cut [62] from 49 to 62 (fun u wx => Hid (RdJ b v w g (rdS 7 st).1 (rdS 7 st).2 wx))
              case first =>
                cases hp with
                | false =>
                  have HY : Hid (rdS 7 st = (Y, T)) := Lib.hid (by rw [rdS, HYT.out]; exact rd_no7 HH.out.symm)
                  go_wp2_with fail
                  go_meet
                  case rel => exact Lib.hid (by rw [HY.out]; exact HO1.out)
                | true =>
                  have HY : Hid (rdS 7 st = ({ Y with it := (numS T 2).1, iN := (numS (numS T 2).2 2).1, vn := (viewS (numS (numS T 2).2 2).2).1.1, vm := (viewS (numS (numS T 2).2 2).2).1.2, ae := (ansC (viewS (numS (numS T 2).2 2).2).2).1, ar := (ansC (viewS (numS (numS T 2).2 2).2).2).2.1, al := (ansC (viewS (numS (numS T 2).2 2).2).2).2.2 }, (takeAS (viewS (numS (numS T 2).2 2).2).2).2)) := Lib.hid (by rw [rdS, HYT.out]; exact rd_yes7 HH.out.symm)
                  have HSZ := Lib.hid HO1.out.sz
                  obtain ⟨v1, r1, hstep⟩ := HO1.out.call HG.out
                  go_wp2_with fail
                  refine (rword_any b v1 T.1 T.2 w1 r1).mono ?_
                  rintro e w2 ⟨rfl, rd⟩
                  rw [show (T.1, T.2) = T from rfl] at *
                  have HO2 := Lib.hid (hstep _ _ rd)
                  clear hstep rd r1
                  obtain ⟨n1, hn1⟩ : ∃ k, k = numS T 2 := ⟨_, rfl⟩
                  rw [← hn1] at HO2 HY ⊢
                  clear hn1
                  obtain ⟨-, -, s1, q1, l1, n1⟩ := HO2.out
                  obtain ⟨t15, t16, t17, t18, t19, t20, t21, t22, t23, t24, t25⟩ := lt_cells3 q1
                  have hfz := lt_free q1
                  have L1 := Lib.hid (And.intro q1 (And.intro l1 n1))
                  clear q1 l1 n1
                  dsimp only
                  go_upto_region 19 with fail
                  have hq := st_i0 L1.out.1 (n1.1 : Int)
                  have hfr := sf_i0 (S := fun k => k = g + 1) (g := g + 1) (Fr.refl _ w2) (fun _ => rfl) (n1.1 : Int)
                  have hls := L1.out.2.1.off hfr L1.out.2.2
                  have HO3 := Lib.hid (HO2.out.store HG.out hfr hq ⟨hls.e, hls.v, hls.c, hls.a⟩ L1.out.2.2)
                  clear hq hfr hls hfz L1 HO2
                  clear t15 t16 t17 t18 t19 t20 t21 t22 t23 t24 t25
                  generalize w2.setCell ⟨g + 1, 21, none⟩ (.int .u16 (n1.1 : Int)) = w3 at *
                  obtain ⟨v1, r1, hstep⟩ := HO3.out.call HG.out
                  go_wp2_with fail
                  refine (rword_any b v1 n1.2.1 n1.2.2 w3 r1).mono ?_
                  rintro e w4 ⟨rfl, rd⟩
                  rw [show (n1.2.1, n1.2.2) = n1.2 from rfl] at *
                  have HO4 := Lib.hid (hstep _ _ rd)
                  clear hstep rd r1 HO3
                  obtain ⟨n2, hn2⟩ : ∃ k, k = numS n1.2 2 := ⟨_, rfl⟩
                  rw [← hn2] at HO4 HY ⊢
                  clear hn2
                  obtain ⟨-, -, s1, q1, l1, n1⟩ := HO4.out
                  obtain ⟨t15, t16, t17, t18, t19, t20, t21, t22, t23, t24, t25⟩ := lt_cells3 q1
                  have hfz := lt_free q1
                  have L1 := Lib.hid (And.intro q1 (And.intro l1 n1))
                  clear q1 l1 n1
                  dsimp only
                  go_upto_region 20 with fail
                  have hq := st_i1 L1.out.1 (n2.1 : Int)
                  have hfr := sf_i1 (S := fun k => k = g + 1) (g := g + 1) (Fr.refl _ w4) (fun _ => rfl) (n2.1 : Int)
                  have hls := L1.out.2.1.off hfr L1.out.2.2
                  have HO5 := Lib.hid (HO4.out.store HG.out hfr hq ⟨hls.e, hls.v, hls.c, hls.a⟩ L1.out.2.2)
                  clear hq hfr hls hfz L1 HO4
                  clear t15 t16 t17 t18 t19 t20 t21 t22 t23 t24 t25
                  generalize w4.setCell ⟨g + 1, 22, none⟩ (.int .u16 (n2.1 : Int)) = w5 at *
                  have HSZ5 := Lib.hid HO5.out.sz
                  obtain ⟨v1, r1, hstep⟩ := HO5.out.call HG.out
                  go_wp2_with fail
                  refine (gview_any b v1 n2.2.1 n2.2.2 w5 r1).mono ?_
                  rintro e w6 ⟨u6, rfl, hsi, rd, hge⟩
                  rw [show (n2.2.1, n2.2.2) = n2.2 from rfl] at *
                  have HO6 := Lib.hid (hstep _ _ rd)
                  clear hstep rd r1 HO5
                  obtain ⟨n3, hn3⟩ : ∃ k, k = viewS n2.2 := ⟨_, rfl⟩
                  rw [← hn3] at HO6 HY hsi ⊢
                  clear hn3
                  obtain ⟨a6, c6, e6, -⟩ := hsi.shape
                  subst e6
                  have HV6 := Lib.hid (And.intro hsi hge)
                  clear hsi hge
                  obtain ⟨-, -, s1, q1, l1, n1⟩ := HO6.out
                  obtain ⟨t15, t16, t17, t18, t19, t20, t21, t22, t23, t24, t25⟩ := lt_cells3 q1
                  have hfz := lt_free q1
                  have L1 := Lib.hid (And.intro q1 (And.intro l1 n1))
                  clear q1 l1 n1
                  dsimp only
                  go_upto_region 21 with fail
                  have hq := st_vL L1.out.1 n3.1.1 (.slice a6 n3.1.2.length c6) n3.1.2
                  have hfr := sf_v (S := fun k => k = g + 1) (g := g + 1) (Fr.refl _ w6) (fun _ => rfl) n3.1.1 (.slice a6 n3.1.2.length c6)
                  have hls := L1.out.2.1.off hfr L1.out.2.2
                  have h1 := HV6.out.1.keep hfr (.inr fun k hk e => by have := HV6.out.2 k hk; have := HSZ5.out; omega)
                  have HO7 := Lib.hid (HO6.out.store (Y' := { Y with it := (n1.1 : Int), iN := (n2.1 : Int), vn := n3.1.1, vm := n3.1.2 }) HG.out hfr hq ⟨hls.e, h1, hls.c, hls.a⟩ ⟨L1.out.2.2.ea, L1.out.2.2.em, fun k hk => by have := HV6.out.2 k hk; have := HSZ5.out; omega, L1.out.2.2.ca, L1.out.2.2.aa⟩)
                  clear hq hfr hls hfz L1 HO6 h1 HV6 HSZ5
                  clear t15 t16 t17 t18 t19 t20 t21 t22 t23 t24 t25
                  generalize (w6.setCell ⟨g + 1, 15, none⟩ (.int .i64 n3.1.1)).setCell ⟨g + 1, 16, none⟩ (.slice a6 n3.1.2.length c6) = w7 at *
                  have HSZ7 := Lib.hid HO7.out.sz
                  obtain ⟨v1, r1, hstep⟩ := HO7.out.call HG.out
                  go_wp2_with fail
                  refine (takeA_any b v1 n3.2.1 n3.2.2 w7 r1).mono ?_
                  rintro e w8 ⟨u, rfl, rd, hu⟩
                  rw [show (n3.2.1, n3.2.2) = n3.2 from rfl] at *
                  have HO8 := Lib.hid (hstep _ _ rd)
                  obtain ⟨v', rfl, hsee, hge⟩ : ∃ v', u = av (ansC n3.2).1 (ansC n3.2).2.1 v' ∧ Sees w8 v' (ansC n3.2).2.2 ∧ (∀ k, v'.ownBlock = some k → w7.heap.size ≤ k) := by
                    rcases hu with ⟨h0, v', e, hs, g', hg, hg2, _⟩ | ⟨h0, e⟩
                    · refine ⟨v', ?_, ?_, fun k hk => by rw [hg] at hk; cases hk; exact hg2⟩
                      · unfold ansC; rw [if_pos h0]; dsimp only; exact e
                      · unfold ansC; rw [if_pos h0]; dsimp only; exact hs
                    · refine ⟨nilS, ?_, ?_, fun k hk => by cases hk⟩
                      · unfold ansC; rw [if_neg h0]; dsimp only; exact e
                      · unfold ansC; rw [if_neg h0]; dsimp only; exact .inl ⟨rfl, _, _, rfl⟩
                  clear hstep rd r1 hu HO7
                  obtain ⟨n4, hn4⟩ : ∃ k, k = ansC n3.2 := ⟨_, rfl⟩
                  rw [← hn4] at HY hsee ⊢
                  clear hn4
                  obtain ⟨a8, c8, e8, -⟩ := hsee.shape
                  subst e8
                  have HES := Lib.hid (And.intro hsee hge)
                  clear hsee hge
                  unfold av
                  obtain ⟨-, -, s1, q1, l1, n1⟩ := HO8.out
                  obtain ⟨t15, t16, t17, t18, t19, t20, t21, t22, t23, t24, t25⟩ := lt_cells3 q1
                  have hfz := lt_free q1
                  have L1 := Lib.hid (And.intro q1 (And.intro l1 n1))
                  clear q1 l1 n1
                  dsimp only
                  go_wp2_with fail
                  go_meet
                  case rel =>
                    have hq := st_aL L1.out.1 n4.1 n4.2.1 (.slice a8 n4.2.2.length c8) n4.2.2
                    have hfr := sf_a (S := fun k => k = g + 1) (g := g + 1) (Fr.refl _ w8) (fun _ => rfl) n4.1 n4.2.1 (.slice a8 n4.2.2.length c8)
                    have hls := L1.out.2.1.off hfr L1.out.2.2
                    have hsz := HSZ7.out
                    have h1 := HES.out.1.keep hfr (.inr fun k hk e => by have := HES.out.2 k hk; omega)
                    exact Lib.hid (by rw [HY.out]; dsimp only; exact HO8.out.store HG.out hfr hq ⟨hls.e, hls.v, hls.c, h1⟩ ⟨L1.out.2.2.ea, L1.out.2.2.em, L1.out.2.2.va, L1.out.2.2.ca, fun k hk => by have := HES.out.2 k hk; omega⟩)
              case rest =>
                have HO := hcut
                clear hcut HO1 HH HYT
                obtain ⟨h1, h2, si, h3, h4, h5⟩ := HO.out
                obtain ⟨Y, hY⟩ : ∃ Y, Y = (rdS 7 st).1 := ⟨_, rfl⟩
                obtain ⟨T, hT⟩ : ∃ T, T = (rdS 7 st).2 := ⟨_, rfl⟩
                rw [← hY] at h3 h4
                rw [← hT] at h2
                have HYT := Lib.hid (And.intro hY hT)
                have H1 := Lib.hid h1
                have H2 := Lib.hid h2
                have H3 := Lib.hid (And.intro h3 (And.intro h4 h5))
                clear h1 h2 h3 h4 h5 HO hY hT
                go_wp2_with (first
                  | refine load_lt rfl 51 (.tmp 3) rfl (g + 1) (Y.cs si) 51 (0, 0) rfl H3.out.1 _ Try.underlying51 rfl (by kernel_rfl) ?_
                  | refine store_lt rfl 51 (.tmp 2) (.tmp 63) rfl g (Y.cs si) rfl rfl 51 _ H1.out (by kernel_rfl) rfl H3.out.2.1.one ?_)
                have hq := setRow_heap _ _ _ (Y.cs si) _ _ H1.out
                have hfr := Fr.letRow (S := fun k => k = g) (Fr.refl _ wc) (g := g) (fun _ => rfl) (Y.cs si)
                generalize wc.setRow g (Y.cs si) = wz at *
                refine bodyPost_ret (results_cell_row rfl _ _ g 51 _ _ _ rfl hq Try.underlying51 rfl (by kernel_rfl)) rfl ?_
                rw [← HYT.out.1, ← HYT.out.2]
                obtain ⟨hg, hb, hv⟩ := HG.out
                exact ⟨si, rfl, H3.out.2.1.off hfr (H3.out.2.2.le (by omega)), H2.out.box2 hfr (by omega) hb hv, H3.out.2.2.le (by omega)⟩
end
section
set_option maxRecDepth 100000

theorem results_cell_tmp_row {P : Program} {fn : Func} {p u : Tmp} {ty : TypeId} (h : fn.results = #[.cell p ty, .tmp u]) (tmps : Array Value) (w : World) (g : Nat) (t : TypeId) (cs : Array Value) (fr : Nat × Nat) (d : TypeDesc)
    (hp : tmps.getD p undef = .pointer (some ⟨g, 0, none⟩)) (hg : w.heap[g]? = some (.cells cs t fr))
    (hu : P.underlying ty = some d) (hd : (match d with | .struct _ | .array _ _ => true | _ => false) = true) (hi : (P.info? ty).map (·.size) = some cs.size) :
    (results fn tmps).run P w = .ok (.tuple #[.agg cs, tmps.getD u undef]) w := by
  rw [results_cell_tmp h]
  have hp' : tmps[p]?.getD undef = .pointer (some ⟨g, 0, none⟩) := by simpa using hp
  simp [hp', asAddr, run_loadVar_row w g t ty cs fr d hg hu hd hi, Result.andThen]

abbrev oWz : Obj := Obj.cells #[nilS] 67 (0, 0)

theorem far_new {w : World} {x : Lt} {s : Ls} (h : LS w x s) : Far w.heap.size x s := by
  have key : ∀ (u : Value) (l : List UInt8), Sees w u l → l = [] ∨ u.ownBlock ≠ some w.heap.size := fun u l hs => by
    by_cases hl : l = []
    · exact .inl hl
    · exact .inr (fun e => by have := sees_old hs hl _ e; omega)
  have keyI : ∀ (u : Value) (l : List Int), SI w u l → l = [] ∨ u.ownBlock ≠ some w.heap.size := fun u l hs => by
    by_cases hl : l = []
    · exact .inl hl
    · obtain ⟨a, c, rfl, hc⟩ := hs.shape
      exact .inr (fun e => by have := sic_old hc hl _ e; omega)
  exact ⟨key _ _ h.e.1, keyI _ _ h.e.2, keyI _ _ h.v, key _ _ h.c, key _ _ h.a⟩

theorem lput_err (x : Lt) (s : Ls) (w : World) (hL : LS w x s) (hB : x.lens) (hk0 : 0 ≤ x.k) (hc : x.chk ≠ 0) :
    Calls Try.prog 10 #[.agg (x.cs s)] w fun e w' => e = .returned (.tuple #[nilS, .int .i64 x.chk]) ∧ Fr (fun _ => False) w w' := by
  have q0 := heap_alloc_new w (oLt x s)
  have f0 : Fr (fun _ => False) w (w.alloc (oLt x s)) := (Fr.refl _ _).alloc _
  have Q := Lib.hid q0
  have F := Lib.hid f0
  have HL := Lib.hid (hL.fr f0)
  clear q0 f0 hL
  go_enter Try.func10, Try.ntmps10
  go_upto_region 1 with fail
  generalize w.alloc (oLt x s) = w0 at *
  go_wp2_with (refine load_lt rfl 51 (.tmp 1) rfl w.heap.size (x.cs s) 51 (0, 0) rfl Q.out _ Try.underlying51 rfl (by kernel_rfl) ?_)
  refine (lcheck_any x s w0 HL.out hB hk0).mono ?_
  rintro e w1 ⟨rfl, f1⟩
  have F1 := Lib.hid (F.out.trans f1 (fun _ _ h => h))
  clear f1 F
  obtain ⟨c, hcc⟩ : ∃ c, c = x.chk := ⟨_, rfl⟩
  rw [← hcc] at hc ⊢
  have HC := Lib.hid hcc
  have hb : (c != 0) = true := by simp [hc]
  clear hc hcc
  dsimp only
  go_wp2_with fail
  go_ret2
  rw [← HC.out]
  exact ⟨rfl, F1.out⟩

theorem lput_ok (x : Lt) (s : Ls) (w : World) (hL : LS w x s) (hB : x.lens) (ty : LtTy x) (hc : x.chk = 0) :
    Calls Try.prog 10 #[.agg (x.cs s)] w fun e w' => ∃ v', e = .returned (.tuple #[v', .int .i64 0]) ∧ Own w' v' (ltB x) ∧ Fr (fun _ => False) w w' ∧ (∀ k, v'.ownBlock = some k → w.heap.size ≤ k) := by
  have q0 := heap_alloc_new w (oLt x s)
  have f0 : Fr (fun _ => False) w (w.alloc (oLt x s)) := (Fr.refl _ _).alloc _
  have Q := Lib.hid q0
  have F := Lib.hid f0
  have HL := Lib.hid (hL.fr f0)
  have hk0 := ty.k0
  have OK := Lib.hid (ok_of_chk ty hc)
  clear q0 f0 hL
  go_enter Try.func10, Try.ntmps10
  go_upto_region 1 with fail
  generalize w.alloc (oLt x s) = w0 at *
  obtain ⟨g, hg⟩ : ∃ g, g = w.heap.size := ⟨_, rfl⟩
  rw [← hg] at Q ⊢
  have HG := Lib.hid hg
  clear hg
  go_wp2_with (refine load_lt rfl 51 (.tmp 1) rfl g (x.cs s) 51 (0, 0) rfl Q.out _ Try.underlying51 rfl (by kernel_rfl) ?_)
  refine (lcheck_any x s w0 HL.out hB hk0).mono ?_
  rintro e w1 ⟨rfl, f1⟩
  have F1 := Lib.hid (F.out.trans f1 (fun _ _ h => h))
  have Q1 := Lib.hid (crow_kept Q.out f1 (fun h => h))
  have L1 := Lib.hid (HL.out.fr f1)
  clear f1 F Q HL
  rw [hc]
  clear hc hB ty hk0
  dsimp only
  go_upto_region 5 with fail
  have q2 := heap_alloc_new w1 oWz
  have f2 : Fr (fun _ => False) w1 (w1.alloc oWz) := (Fr.refl _ _).alloc _
  have W2 : Hid (Wr (w1.alloc oWz) w1.heap.size nilS []) := Lib.hid ⟨q2, World.ownsRow_nil _ _ _ _, fun h => (by cases h)⟩
  have FAR := Lib.hid (far_new L1.out)
  generalize w1.alloc oWz = w2 at *
  obtain ⟨b, hb⟩ : ∃ b, b = w1.heap.size := ⟨_, rfl⟩
  rw [← hb] at W2 FAR ⊢
  have HB2 : Hid (w.heap.size ≤ b) := Lib.hid (by have := F1.out.size; omega)
  have Q2 := Lib.hid (crow_kept Q1.out f2 (fun h => h))
  have F2 := Lib.hid (F1.out.trans f2 (fun _ _ h => h))
  have L2 := Lib.hid (L1.out.fr f2)
  clear q2 f2 hb Q1 F1 L1
  go_wp2_with (refine load_lt rfl 51 (.tmp 1) rfl g (x.cs s) 51 (0, 0) rfl Q2.out _ Try.underlying51 rfl (by kernel_rfl) ?_)
  refine (write_any x s b nilS w2 OK.out L2.out FAR.out rfl W2.out).mono ?_
  rintro e w3 ⟨rfl, v3, w3r, f3, o3⟩
  have hl3 : (ltB x).length ≤ 2000000000 := by have := ltU_length OK.out 7; unfold ltB; omega
  have hby := Lib.hid (bytes_any b v3 (ltB x) w3 w3r hl3)
  have F3 : Hid (Fr (fun _ => False) w w3) := Lib.hid (F2.out.trans (fr_none rfl f3) (fun i hi e => by have := HB2.out; omega))
  clear w3r f3 o3 hl3
  dsimp only
  go_wp2_with fail
  refine hby.out.mono ?_
  rintro e w4 ⟨v4, rfl, ho4, f4, hv4⟩
  have F4 := Lib.hid (F3.out.trans f4 (fun _ _ h => h))
  have H4 := Lib.hid (And.intro ho4 hv4)
  have HS : Hid (w.heap.size ≤ w3.heap.size) := Lib.hid F3.out.size
  clear f4 ho4 hv4
  dsimp only
  go_wp2_with fail
  go_ret2
  exact ⟨v4, rfl, H4.out.1, F4.out, fun k hk => by have := H4.out.2 k hk; have := HS.out; omega⟩

/-- What is taken of bytes: a letter, or an error. -/
def endE (T : St) : Int := if T.1 = [] then T.2 else 12
def takeL (l : List UInt8) : Lt × Int :=
  if endE (rdS 7 (l, 0)).2 ≠ 0 then (Lt.zero, endE (rdS 7 (l, 0)).2) else if (rdS 7 (l, 0)).1.chk ≠ 0 then (Lt.zero, (rdS 7 (l, 0)).1.chk) else ((rdS 7 (l, 0)).1, 0)

theorem takeL_of {l : List UInt8} {Y : Lt} {T : St} (hY : Y = (rdS 7 (l, 0)).1) (hT : T = (rdS 7 (l, 0)).2) : takeL l = if endE T ≠ 0 then (Lt.zero, endE T) else if Y.chk ≠ 0 then (Lt.zero, Y.chk) else (Y, 0) := by
  rw [hY, hT]; rfl

theorem ltake_any (v : Value) (l : List UInt8) (w : World) (hs : Sees w v l) (hl : l.length ≤ 2000000000) :
    Calls Try.prog 12 #[v] w fun e w' => ∃ s', e = .returned (.tuple #[.agg ((takeL l).1.cs s'), .int .i64 (takeL l).2]) ∧ LS w' (takeL l).1 s' ∧ Fr (fun _ => False) w w' := by
  have q0 := heap_alloc_new w (zLt 0 0 0)
  have f0 : Fr (fun _ => False) w (w.alloc (zLt 0 0 0)) := (Fr.refl _ _).alloc _
  have Q := Lib.hid q0
  have F := Lib.hid f0
  have HS := Lib.hid (hs.fr f0 (fun _ _ h => h))
  obtain ⟨Y, hY⟩ : ∃ Y, Y = (rdS 7 (l, 0)).1 := ⟨_, rfl⟩
  obtain ⟨T, hT⟩ : ∃ T, T = (rdS 7 (l, 0)).2 := ⟨_, rfl⟩
  have HTL := Lib.hid (takeL_of hY hT)
  have HB : Hid (Y.lens) := Lib.hid (by rw [hY]; exact (rd_ty _ (fun h => absurd rfl h)).l)
  have HK : Hid (0 ≤ Y.k) := Lib.hid (by rw [hY]; exact (rd_ty _ (fun h => absurd rfl h)).t.k0)
  have HY := Lib.hid (And.intro hY hT)
  obtain ⟨R, hR⟩ : ∃ R, R = takeL l := ⟨_, rfl⟩
  rw [← hR] at HTL ⊢
  clear q0 f0 hs hY hT hR
  go_enter Try.func12, Try.ntmps12
  go_upto_region 1 with fail
  generalize w.alloc (zLt 0 0 0) = w0 at *
  obtain ⟨g, hg⟩ : ∃ g, g = w.heap.size := ⟨_, rfl⟩
  rw [← hg] at Q ⊢
  have HG := Lib.hid hg
  clear hg
  go_wp2_with fail
  refine (read_any v l w0 HS.out hl).mono ?_
  rintro e w1 ⟨b, v1, rfl, r1, f1, hb1, hv1⟩
  have hg1 : g < w0.heap.size := vt_lt Q.out
  have HB1 : Hid (w.heap.size ≤ b ∧ g < b) := Lib.hid ⟨by have := F.out.size; omega, by omega⟩
  have Q1 := Lib.hid (crow_kept Q.out f1 (fun h => h))
  have F1 := Lib.hid (F.out.trans f1 (fun _ _ h => h))
  have R1 := Lib.hid r1
  clear r1 f1 hb1 hv1 hg1 Q F HS hl
  dsimp only
  go_wp2_with fail
  refine (read_let b v1 l 0 w1 R1.out).mono ?_
  rintro e w2 ⟨s2, rfl, hl2, rd2, hn2⟩
  rw [← HY.out.1] at hl2 ⊢
  rw [← HY.out.2] at rd2
  have Q2 : Hid (w2.heap[g]? = some (zLt 0 0 0)) := Lib.hid (by
    obtain ⟨_, _, f2, _⟩ := rd2
    exact crow_kept Q1.out f2 (by have := HB1.out; omega))
  have F2 : Hid (Fr (fun _ => False) w w2) := Lib.hid (by
    obtain ⟨_, _, f2, _⟩ := rd2
    exact F1.out.trans f2 (fun i hi e => by have := HB1.out; omega))
  have L2 := Lib.hid (And.intro hl2 (hn2.le (show g + 1 ≤ w1.heap.size from vt_lt Q1.out)))
  have RD2 := Lib.hid rd2
  clear hl2 rd2 hn2 Q1 F1
  have hz3 := heap_alloc_new w2 (zLt 0 0 0)
  have HZ3 := Lib.hid hz3
  clear hz3
  dsimp only
  go_upto_region 3 with (refine store_lt rfl 51 (.tmp 5) (.tmp 11) rfl w2.heap.size (Y.cs s2) rfl rfl 51 _ HZ3.out (by kernel_rfl) rfl L2.out.1.one ?_)
  have q3 := setRow_heap _ _ _ (Y.cs s2) _ _ HZ3.out
  have f3 : Fr (fun _ => False) w2 ((w2.alloc (zLt 0 0 0)).setRow w2.heap.size (Y.cs s2)) := Fr.letRow ((Fr.refl _ _).alloc _) (fun h => absurd h (by omega)) _
  generalize (w2.alloc (zLt 0 0 0)).setRow w2.heap.size (Y.cs s2) = w3 at *
  obtain ⟨g5, hg5⟩ : ∃ g, g = w2.heap.size := ⟨_, rfl⟩
  rw [← hg5] at q3 ⊢
  have Q3 := Lib.hid (And.intro (crow_kept Q2.out f3 (fun h => h)) q3)
  have F3 := Lib.hid (F2.out.trans f3 (fun _ _ h => h))
  have L3 := Lib.hid (And.intro (L2.out.1.fr f3) L2.out.2)
  have RD3 : Hid (Reads b v1 T.1 T.2 w1 w3) := Lib.hid (RD2.out.fr f3)
  clear q3 f3 hg5 HZ3 Q2 F2 L2 RD2
  obtain ⟨v3, r3, f3, o3⟩ := RD3.out
  have hend := Lib.hid (end_any b v3 T.1 T.2 w3 r3)
  clear r3 f3 o3
  go_wp2_with fail
  refine hend.out.mono ?_
  rintro e w4 ⟨rfl, rfl⟩
  have HTL2 : Hid (R = if endE T ≠ 0 then (Lt.zero, endE T) else if Y.chk ≠ 0 then (Lt.zero, Y.chk) else (Y, 0)) := HTL
  rw [show (if T.1 = [] then T.2 else (12 : Int)) = endE T from rfl]
  obtain ⟨E, hE⟩ : ∃ E, E = endE T := ⟨_, rfl⟩
  rw [← hE] at HTL2 ⊢
  clear hE HTL hend RD3
  dsimp only
  by_cases h0 : E = 0
  · have HR : Hid (R = if Y.chk ≠ 0 then (Lt.zero, Y.chk) else (Y, 0)) := Lib.hid (by rw [HTL2.out, if_neg (by simp [h0])])
    subst h0
    clear HTL2
    go_wp2_with (refine load_lt rfl 51 (.tmp 5) rfl g5 (Y.cs s2) 51 (0, 0) rfl Q3.out.2 _ Try.underlying51 rfl (by kernel_rfl) ?_)
    refine (lcheck_any Y s2 w3 L3.out.1 HB.out HK.out).mono ?_
    rintro e w4 ⟨rfl, f4⟩
    have Q4 := Lib.hid (And.intro (crow_kept Q3.out.1 f4 (fun h => h)) (crow_kept Q3.out.2 f4 (fun h => h)))
    have F4 := Lib.hid (F3.out.trans f4 (fun _ _ h => h))
    have L4 := Lib.hid (And.intro (L3.out.1.fr f4) L3.out.2)
    clear f4 Q3 F3 L3
    obtain ⟨C, hC⟩ : ∃ C, C = Y.chk := ⟨_, rfl⟩
    rw [← hC] at HR ⊢
    clear hC
    dsimp only
    by_cases h1 : C = 0
    · have hR : R = (Y, 0) := by rw [HR.out, if_neg (by simp [h1])]
      subst hR h1
      clear HR
      go_wp2_with (first
        | refine load_lt rfl 51 (.tmp 5) rfl g5 (Y.cs s2) 51 (0, 0) rfl Q4.out.2 _ Try.underlying51 rfl (by kernel_rfl) ?_
        | refine store_lt rfl 51 (.tmp 2) (.tmp 24) rfl g (Y.cs s2) rfl rfl 51 _ Q4.out.1 (by kernel_rfl) rfl L4.out.1.one ?_)
      have hq := setRow_heap _ _ _ (Y.cs s2) _ _ Q4.out.1
      have hfr := Fr.letRow (S := fun k => k = g) (Fr.refl _ w4) (g := g) (fun _ => rfl) (Y.cs s2)
      generalize w4.setRow g (Y.cs s2) = wz at *
      refine bodyPost_ret (results_cell_tmp_row rfl _ _ g 51 _ _ _ rfl hq Try.underlying51 rfl (by kernel_rfl)) rfl ?_
      exact ⟨s2, rfl, L4.out.1.off hfr L4.out.2, F4.out.trans hfr (fun i hi e => by have := HG.out; omega)⟩
    · have hR : R = (Lt.zero, C) := by rw [HR.out, if_pos h1]
      subst hR
      have hb : (C != 0) = true := by simp [h1]
      clear HR h1
      go_wp2_with (refine store_lt rfl 51 (.tmp 2) (.tmp 22) rfl g (Lt.zero.cs Ls.nil) rfl rfl 51 _ Q4.out.1 (by kernel_rfl) rfl (LS.zero w4 0 0 0).one ?_)
      have hq := setRow_heap _ _ _ (Lt.zero.cs Ls.nil) _ _ Q4.out.1
      have hfr := Fr.letRow (S := fun k => k = g) (Fr.refl _ w4) (g := g) (fun _ => rfl) (Lt.zero.cs Ls.nil)
      generalize w4.setRow g (Lt.zero.cs Ls.nil) = wz at *
      refine bodyPost_ret (results_cell_tmp_row rfl _ _ g 51 _ _ _ rfl hq Try.underlying51 rfl (by kernel_rfl)) rfl ?_
      exact ⟨Ls.nil, rfl, LS.zero wz 0 0 0, F4.out.trans hfr (fun i hi e => by have := HG.out; omega)⟩
  · have hR : R = (Lt.zero, E) := by rw [HTL2.out, if_pos h0]
    subst hR
    have hb : (E != 0) = true := by simp [h0]
    clear HTL2 h0
    go_wp2_with (refine store_lt rfl 51 (.tmp 2) (.tmp 16) rfl g (Lt.zero.cs Ls.nil) rfl rfl 51 _ Q3.out.1 (by kernel_rfl) rfl (LS.zero w3 0 0 0).one ?_)
    have hq := setRow_heap _ _ _ (Lt.zero.cs Ls.nil) _ _ Q3.out.1
    have hfr := Fr.letRow (S := fun k => k = g) (Fr.refl _ w3) (g := g) (fun _ => rfl) (Lt.zero.cs Ls.nil)
    generalize w3.setRow g (Lt.zero.cs Ls.nil) = wz at *
    refine bodyPost_ret (results_cell_tmp_row rfl _ _ g 51 _ _ _ rfl hq Try.underlying51 rfl (by kernel_rfl)) rfl ?_
    exact ⟨Ls.nil, rfl, LS.zero wz 0 0 0, F3.out.trans hfr (fun i hi e => by have := HG.out; omega)⟩
end
section
set_option maxRecDepth 100000

structure S17 where
  k : Int
  f : Int
  t : Int
  p : Int
  r : Int
  bf : Int
  nd : Int
  ls : Int
  some : Bool
  e : Sm
  c : Sc
  vw : Int
  mb : Nat
  tr : Int
  nm : Int
  a : Sa

def S17.cs (y : S17) (ve vc va : Value) : Array Value := #[.int .u8 y.k, .int .u8 y.f, .int .u8 y.t, .int .u32 y.p, .int .u32 y.r, .int .u32 y.bf, .int .u8 y.nd, .int .u8 y.ls, .bool y.some, .int .u8 y.e.kind, .int .u16 y.e.c.t, .int .u16 y.e.c.n, .int .u16 y.e.c.p, ve, .int .u16 y.e.mb, .int .u16 y.c.t, .int .u16 y.c.n, .int .u16 y.c.p, vc, .int .u32 y.vw, .int .u16 y.mb, .int .u16 y.tr, .int .u16 y.nm, .int .u16 y.a.e, .int .u16 y.a.r, va]
abbrev oS17 (y : S17) (ve vc va : Value) : Obj := Obj.cells (y.cs ve vc va) 32 (0, 0)

structure S17.ok (y : S17) : Prop where
  k : 0 ≤ y.k ∧ y.k ≤ 255
  f : 0 ≤ y.f ∧ y.f ≤ 255
  t : 0 ≤ y.t ∧ y.t ≤ 255
  p : 0 ≤ y.p ∧ y.p ≤ 4294967295
  r : 0 ≤ y.r ∧ y.r ≤ 4294967295
  bf : 0 ≤ y.bf ∧ y.bf ≤ 4294967295
  nd : 0 ≤ y.nd ∧ y.nd ≤ 255
  ls : 0 ≤ y.ls ∧ y.ls ≤ 255
  e : y.e.ok
  c : (0 ≤ y.c.t ∧ y.c.t ≤ 65535) ∧ (0 ≤ y.c.n ∧ y.c.n ≤ 65535) ∧ 0 ≤ y.c.p ∧ y.c.p ≤ 65535
  vw : 0 ≤ y.vw ∧ y.vw ≤ 4294967295
  mb : y.mb < 65536
  tr : 0 ≤ y.tr ∧ y.tr ≤ 65535
  nm : 0 ≤ y.nm ∧ y.nm ≤ 65535
  a : (0 ≤ y.a.e ∧ y.a.e ≤ 65535) ∧ 0 ≤ y.a.r ∧ y.a.r ≤ 65535

def S17.all (y : S17) : Lt :=
  { k := y.k % 8, f := y.f % 16, t := y.t % 16, p := y.p, b1 := y.r, b2 := y.nd % 16, w1 := y.bf, w2 := y.ls % 16, s := y.some, e := y.e.en, vn := y.vw, vm := bitsL y.mb,
    ct := y.c.t, cn := y.c.n, cp := y.c.p, cl := y.c.l, it := y.tr, iN := y.nm, ae := y.a.e, ar := y.a.r, al := y.a.l }
theorem S17.all_of (y : S17) {k f t b2 w2 : Int} (hk : k = y.k % 8) (hf : f = y.f % 16) (ht : t = y.t % 16) (hb : b2 = y.nd % 16) (hw : w2 = y.ls % 16) : y.all = { k := k, f := f, t := t, p := y.p, b1 := y.r, b2 := b2, w1 := y.bf, w2 := w2, s := y.some, e := y.e.en, vn := y.vw, vm := bitsL y.mb, ct := y.c.t, cn := y.c.n, cp := y.c.p, cl := y.c.l, it := y.tr, iN := y.nm, ae := y.a.e, ar := y.a.r, al := y.a.l } := by
  rw [hk, hf, ht, hb, hw]; rfl

/-- A value shows a Small: its slices lie in blocks that are there. -/
structure S17S (w : World) (y : S17) (ve vc va : Value) : Prop where
  e : SeesO w ve y.e.c.l
  c : SeesO w vc y.c.l
  a : SeesO w va y.a.l

theorem S17S.fr {w w' : World} {y : S17} {ve vc va : Value} (h : S17S w y ve vc va) (f : Fr (fun _ => False) w w') : S17S w' y ve vc va := ⟨h.e.fr f, h.c.fr f, h.a.fr f⟩

theorem s17_cells {w : World} {g : Nat} {y : S17} {ve vc va : Value} {T : TypeId} (h : w.heap[g]? = some (Obj.cells (y.cs ve vc va) T (0, 0))) :
    (w.cell? ⟨g, 0, none⟩ = some (.int .u8 y.k) ∧ w.cell? ⟨g, 1, none⟩ = some (.int .u8 y.f) ∧ w.cell? ⟨g, 2, none⟩ = some (.int .u8 y.t) ∧ w.cell? ⟨g, 3, none⟩ = some (.int .u32 y.p) ∧
    w.cell? ⟨g, 4, none⟩ = some (.int .u32 y.r) ∧ w.cell? ⟨g, 5, none⟩ = some (.int .u32 y.bf) ∧ w.cell? ⟨g, 6, none⟩ = some (.int .u8 y.nd) ∧ w.cell? ⟨g, 7, none⟩ = some (.int .u8 y.ls) ∧ w.cell? ⟨g, 8, none⟩ = some (.bool y.some)) ∧
    (w.cell? ⟨g, 9, none⟩ = some (.int .u8 y.e.kind) ∧ w.cell? ⟨g, 10, none⟩ = some (.int .u16 y.e.c.t) ∧ w.cell? ⟨g, 11, none⟩ = some (.int .u16 y.e.c.n) ∧ w.cell? ⟨g, 12, none⟩ = some (.int .u16 y.e.c.p) ∧ w.cell? ⟨g, 13, none⟩ = some ve ∧ w.cell? ⟨g, 14, none⟩ = some (.int .u16 y.e.mb)) ∧
    (w.cell? ⟨g, 15, none⟩ = some (.int .u16 y.c.t) ∧ w.cell? ⟨g, 16, none⟩ = some (.int .u16 y.c.n) ∧ w.cell? ⟨g, 17, none⟩ = some (.int .u16 y.c.p) ∧ w.cell? ⟨g, 18, none⟩ = some vc) ∧
    (w.cell? ⟨g, 19, none⟩ = some (.int .u32 y.vw) ∧ w.cell? ⟨g, 20, none⟩ = some (.int .u16 y.mb) ∧ w.cell? ⟨g, 21, none⟩ = some (.int .u16 y.tr) ∧ w.cell? ⟨g, 22, none⟩ = some (.int .u16 y.nm) ∧ w.cell? ⟨g, 23, none⟩ = some (.int .u16 y.a.e) ∧ w.cell? ⟨g, 24, none⟩ = some (.int .u16 y.a.r) ∧ w.cell? ⟨g, 25, none⟩ = some va) := by
  refine ⟨⟨crow h 0 _ rfl, crow h 1 _ rfl, crow h 2 _ rfl, crow h 3 _ rfl, crow h 4 _ rfl, crow h 5 _ rfl, crow h 6 _ rfl, crow h 7 _ rfl, crow h 8 _ rfl⟩, ⟨crow h 9 _ rfl, crow h 10 _ rfl, crow h 11 _ rfl, crow h 12 _ rfl, crow h 13 _ rfl, crow h 14 _ rfl⟩, ⟨crow h 15 _ rfl, crow h 16 _ rfl, crow h 17 _ rfl, crow h 18 _ rfl⟩, crow h 19 _ rfl, crow h 20 _ rfl, crow h 21 _ rfl, crow h 22 _ rfl, crow h 23 _ rfl, crow h 24 _ rfl, crow h 25 _ rfl⟩

theorem LS.keepF {w w' : World} {x : Lt} {s : Ls} {b : Nat} (h : LS w x s) (f : Fr (fun k => k = b) w w') (hf : Far b x s) : LS w' x s :=
  ⟨⟨h.e.1.keep f (hf.ea.imp id (fun h k hk e => h (by rw [hk, e]))), h.e.2.keep f (hf.em.imp id (fun h k hk e => h (by rw [hk, e])))⟩, h.v.keep f (hf.va.imp id (fun h k hk e => h (by rw [hk, e]))), h.c.keep f (hf.ca.imp id (fun h k hk e => h (by rw [hk, e]))), h.a.keep f (hf.aa.imp id (fun h k hk e => h (by rw [hk, e])))⟩

theorem light_any (y : S17) (ve vc va : Value) (w : World) (hs : S17S w y ve vc va) :
    Calls Try.prog 8 #[.agg (y.cs ve vc va)] w fun e w' => e = .returned (.bool (decide (y.e.c.l.length ≤ 100) && (decide (y.c.l.length ≤ 100) && decide (y.a.l.length ≤ 100)))) ∧ Fr (fun _ => False) w w' := by
  obtain ⟨a1, c1, e1, -⟩ := hs.e.1.shape
  obtain ⟨a2, c2, e2, -⟩ := hs.c.1.shape
  obtain ⟨a3, c3, e3, -⟩ := hs.a.1.shape
  subst e1 e2 e3
  have q0 := heap_alloc_new w (oS17 y (.slice a1 y.e.c.l.length c1) (.slice a2 y.c.l.length c2) (.slice a3 y.a.l.length c3))
  have F := Lib.hid (show Fr (fun _ => False) w (w.alloc (oS17 y (.slice a1 y.e.c.l.length c1) (.slice a2 y.c.l.length c2) (.slice a3 y.a.l.length c3))) from (Fr.refl _ _).alloc _)
  obtain ⟨-, ⟨-, -, -, -, c13, -⟩, ⟨-, -, -, c18⟩, -, -, -, -, -, -, c25⟩ := s17_cells q0
  clear q0 hs
  obtain ⟨n1, h1⟩ : ∃ n, n = y.e.c.l.length := ⟨_, rfl⟩
  obtain ⟨n2, h2⟩ : ∃ n, n = y.c.l.length := ⟨_, rfl⟩
  obtain ⟨n3, h3⟩ : ∃ n, n = y.a.l.length := ⟨_, rfl⟩
  rw [← h1, ← h2, ← h3] at c13 c18 c25 F ⊢
  clear h1 h2 h3
  go_enter Try.func8, Try.ntmps8
  go_upto_region 1 with fail
  generalize w.alloc (oS17 y (.slice a1 n1 c1) (.slice a2 n2 c2) (.slice a3 n3 c3)) = w0 at *
  by_cases b1 : n1 ≤ 100
  · have i1 : (n1 : Int) ≤ 100 := by omega
    by_cases b2 : n2 ≤ 100
    · have i2 : (n2 : Int) ≤ 100 := by omega
      by_cases b3 : n3 ≤ 100
      · have i3 : (n3 : Int) ≤ 100 := by omega
        have HE : Hid ((decide (n1 ≤ 100) && (decide (n2 ≤ 100) && decide (n3 ≤ 100))) = true) := Lib.hid (by simp [b1, b2, b3])
        clear b1 b2 b3
        go_wp2_with fail
        go_ret
        rw [HE.out]
        exact ⟨rfl, F.out⟩
      · have i3 : ¬ (n3 : Int) ≤ 100 := by omega
        have HE : Hid ((decide (n1 ≤ 100) && (decide (n2 ≤ 100) && decide (n3 ≤ 100))) = false) := Lib.hid (by simp [b3])
        clear b1 b2 b3
        go_wp2_with fail
        go_ret
        rw [HE.out]
        exact ⟨rfl, F.out⟩
    · have i2 : ¬ (n2 : Int) ≤ 100 := by omega
      have HE : Hid ((decide (n1 ≤ 100) && (decide (n2 ≤ 100) && decide (n3 ≤ 100))) = false) := Lib.hid (by simp [b2])
      clear b1 b2
      go_wp2_with fail
      go_ret
      rw [HE.out]
      exact ⟨rfl, F.out⟩
  · have i1 : ¬ (n1 : Int) ≤ 100 := by omega
    have HE : Hid ((decide (n1 ≤ 100) && (decide (n2 ≤ 100) && decide (n3 ≤ 100))) = false) := Lib.hid (by simp [b1])
    clear b1
    go_wp2_with fail
    go_ret
    rw [HE.out]
    exact ⟨rfl, F.out⟩
end
end Go.Proofs.Ytjnbpgadgdjobaa
