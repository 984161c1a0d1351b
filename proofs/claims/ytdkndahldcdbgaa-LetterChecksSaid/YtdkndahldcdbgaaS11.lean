/-
  LetSame, part 11 of what it rests on: LetRead, LetMath, LetOf.
-/
import Derived.Test.YtdkndahldcdbgaaS10
set_option linter.unusedVariables false
set_option linter.unusedSimpArgs false
set_option maxHeartbeats 64000000
namespace Go.Proofs.Ytdkndahldcdbgaa
open Go.RowKit
open Go.Lib (hid)
section
set_option maxRecDepth 100000

theorem read_let (b : Nat) (v : Value) (l : List UInt8) (x : Int) (w : World) (hR : Rd w b v l x) :
    Calls Try.prog 25 #[.pointer (some ⟨b, 0, none⟩)] w fun e w' => ∃ s', e = .returned (.agg ((rdS 7 (l, x)).1.cs s')) ∧ LS w' (rdS 7 (l, x)).1 s' ∧ Reads b v (rdS 7 (l, x)).2.1 (rdS 7 (l, x)).2.2 w w' ∧ s'.new w.heap.size := by
  have hb := hR.lt
  have ho := hR.old
  have q0 := heap_alloc_new w (zLt 0 0 0)
  have q1 := new_two w (zLt 0 0 0) (zLt 0 0 0)
  have f1 : Fr (fun _ => False) (w.alloc (zLt 0 0 0)) ((w.alloc (zLt 0 0 0)).alloc (zLt 0 0 0)) := (Fr.refl _ _).alloc _
  have f2 := ((Fr.refl (fun _ => False) w).alloc (zLt 0 0 0)).trans f1 (fun _ _ h => h)
  have q0' := crow_kept q0 f1 (fun h => h)
  have R0 := hR.fr f2 (fun h => h) (fun _ _ h => h)
  clear q0 f1
  obtain ⟨st, hst⟩ : ∃ st : St, st = (l, x) := ⟨_, rfl⟩
  rw [← hst]
  have e1 : l = st.1 := by rw [hst]
  have e2 : x = st.2 := by rw [hst]
  rw [e1, e2] at R0
  clear e1 e2 hst hR
  go_enter Try.func25, Try.ntmps25
  go_upto_region 2 with fail
  rw [zLt_eq] at q1
  have HO : Hid (RdJ b v w w.heap.size { Lt.zero with k := 0, f := 0, t := 0 } st ((w.alloc (zLt 0 0 0)).alloc (zLt 0 0 0))) := Lib.hid ⟨q0', ⟨v, R0, f2.mono (fun _ _ h => h.elim), .inl rfl⟩, Ls.nil, q1, LS.zero _ _ _ _, Ls.new_nil _⟩
  clear q0' q1 f2 R0
  generalize (w.alloc (zLt 0 0 0)).alloc (zLt 0 0 0) = w0 at *
  obtain ⟨g, hg⟩ : ∃ g, g = w.heap.size := ⟨_, rfl⟩
  rw [← hg] at HO ⊢
  have HG : Hid (RdG b v w g) := Lib.hid ⟨hg, hb, ho⟩
  clear hg hb ho
  obtain ⟨v1, r1, hstep⟩ := HO.out.call HG.out
  go_wp2_with fail
  refine (rkind_any b v1 st.1 st.2 w0 r1).mono ?_
  rintro e w1 ⟨rfl, rd⟩
  rw [show (st.1, st.2) = st from rfl] at *
  have HO1 := Lib.hid (hstep _ _ rd)
  clear HO hstep rd r1
  obtain ⟨kk, hkk⟩ : ∃ k, k = kindS st := ⟨_, rfl⟩
  rw [← hkk] at HO1 ⊢
  have HK := Lib.hid hkk
  clear hkk
  obtain ⟨-, -, s1, q1, l1, n1⟩ := HO1.out
  obtain ⟨t0, t1, t2, t3, t4, t5, t6, t7, t8⟩ := lt_cells q1
  have hfz := lt_free q1
  have L1 := Lib.hid (And.intro q1 (And.intro l1 n1))
  clear q1 l1 n1
  dsimp only

  go_upto_region 3 with fail
  have hq := st_k L1.out.1 (kk.1 : Int)
  have hfr := sf_k (S := fun k => k = g + 1) (g := g + 1) (Fr.refl _ w1) (fun _ => rfl) (kk.1 : Int)
  have hls := L1.out.2.1.off hfr L1.out.2.2
  have HO2 := Lib.hid (HO1.out.store HG.out hfr hq ⟨hls.e, hls.v, hls.c, hls.a⟩ L1.out.2.2)

  clear hq hfr hls hfz L1 HO1
  clear t0 t1 t2 t3 t4 t5 t6 t7 t8
  generalize w1.setCell ⟨g + 1, 0, none⟩ (.int .u8 (kk.1 : Int)) = w2 at *
  obtain ⟨v2, r2, hstep⟩ := HO2.out.call HG.out
  have hs2 : (numS kk.2 2).1 < 65536 := numS_small kk.2 2
  go_wp2_with fail
  refine (rword_any b v2 kk.2.1 kk.2.2 w2 r2).mono ?_
  rintro e w3 ⟨rfl, rd⟩
  rw [show (kk.2.1, kk.2.2) = kk.2 from rfl] at *
  have HO3 := Lib.hid (hstep _ _ rd)
  clear HO2 hstep rd r2
  obtain ⟨n1, hn1⟩ : ∃ k, k = numS kk.2 2 := ⟨_, rfl⟩
  rw [← hn1] at HO3 hs2 ⊢
  have HN1 := Lib.hid hn1
  clear hn1
  obtain ⟨-, -, s1, q1, l1, n1⟩ := HO3.out
  obtain ⟨t0, t1, t2, t3, t4, t5, t6, t7, t8⟩ := lt_cells q1
  have hfz := lt_free q1
  have L1 := Lib.hid (And.intro q1 (And.intro l1 n1))
  clear q1 l1 n1
  dsimp only

  go_upto_region 4 with fail
  have hq := st_f L1.out.1 (n1.1 : Int)
  have hfr := sf_f (S := fun k => k = g + 1) (g := g + 1) (Fr.refl _ w3) (fun _ => rfl) (n1.1 : Int)
  have hls := L1.out.2.1.off hfr L1.out.2.2
  have HO4 := Lib.hid (HO3.out.store HG.out hfr hq ⟨hls.e, hls.v, hls.c, hls.a⟩ L1.out.2.2)

  clear hq hfr hls hfz L1 HO3
  clear t0 t1 t2 t3 t4 t5 t6 t7 t8
  generalize w3.setCell ⟨g + 1, 1, none⟩ (.int .i64 (n1.1 : Int)) = w4 at *
  obtain ⟨v4, r4, hstep⟩ := HO4.out.call HG.out
  have hs4 : (numS n1.2 2).1 < 65536 := numS_small n1.2 2
  go_wp2_with fail
  refine (rword_any b v4 n1.2.1 n1.2.2 w4 r4).mono ?_
  rintro e w5 ⟨rfl, rd⟩
  rw [show (n1.2.1, n1.2.2) = n1.2 from rfl] at *
  have HO5 := Lib.hid (hstep _ _ rd)
  clear HO4 hstep rd r4
  obtain ⟨n2, hn2⟩ : ∃ k, k = numS n1.2 2 := ⟨_, rfl⟩
  rw [← hn2] at HO5 hs4 ⊢
  have HN2 := Lib.hid hn2
  clear hn2
  obtain ⟨-, -, s1, q1, l1, n1⟩ := HO5.out
  obtain ⟨t0, t1, t2, t3, t4, t5, t6, t7, t8⟩ := lt_cells q1
  have hfz := lt_free q1
  have L1 := Lib.hid (And.intro q1 (And.intro l1 n1))
  clear q1 l1 n1
  dsimp only

  go_upto_region 5 with fail
  have hq := st_t L1.out.1 (n2.1 : Int)
  have hfr := sf_t (S := fun k => k = g + 1) (g := g + 1) (Fr.refl _ w5) (fun _ => rfl) (n2.1 : Int)
  have hls := L1.out.2.1.off hfr L1.out.2.2
  have HO6 := Lib.hid (HO5.out.store HG.out hfr hq ⟨hls.e, hls.v, hls.c, hls.a⟩ L1.out.2.2)

  clear hq hfr hls hfz L1 HO5
  clear t0 t1 t2 t3 t4 t5 t6 t7 t8
  generalize w5.setCell ⟨g + 1, 2, none⟩ (.int .i64 (n2.1 : Int)) = wc at *
  have HO : Hid (RdJ b v w g (rdS 0 st).1 (rdS 0 st).2 wc) := Lib.hid (by
    have h := HO6.out
    rw [HN2.out, HN1.out, HK.out] at h
    exact h)
  clear HO6 HN2 HN1 HK hs2 hs4
  obtain ⟨Y, hY⟩ : ∃ Y, Y = (rdS 0 st).1 := ⟨_, rfl⟩
  obtain ⟨T, hT⟩ : ∃ T, T = (rdS 0 st).2 := ⟨_, rfl⟩
  rw [← hY, ← hT] at HO
  have HYT : Hid (rdS 0 st = (Y, T)) := Lib.hid (by rw [hY, hT])
  clear hY hT
  obtain ⟨h1, h2, si, h3, h4, h5⟩ := HO.out
  have Q3 := Lib.hid h3
  clear h1 h2 h3 h4 h5
  go_wp2_with (refine load_lt rfl 51 (.tmp 3) rfl (g + 1) (Y.cs si) 51 (0, 0) rfl Q3.out _ Try.underlying51 rfl (by kernel_rfl) ?_)
  refine (has_any Y si 1 wc).mono ?_
  rintro e w1 ⟨rfl, f1⟩
  have HO1 := Lib.hid (HO.out.fr f1)
  clear f1 HO Q3
  obtain ⟨hp, hhp⟩ : ∃ b, b = hasE Y.k Y.s 1 := ⟨_, rfl⟩
  rw [← hhp]
  have HH := Lib.hid hhp
  clear hhp
  dsimp only
  go_upto_if 16 with fail
  go_cut [20] from 17 to 20 (fun u wx => Hid (RdJ b v w g (rdS 1 st).1 (rdS 1 st).2 wx))
  case first =>
    cases hp with
    | false =>
      have HY : Hid (rdS 1 st = (Y, T)) := Lib.hid (by rw [rdS, HYT.out]; exact rd_no1 HH.out.symm)
      go_wp2_with fail
      go_meet
      case rel => exact Lib.hid (by rw [HY.out]; exact HO1.out)
    | true =>
      have HY : Hid (rdS 1 st = ({ Y with p := (numS T 4).1 }, (numS T 4).2)) := Lib.hid (by rw [rdS, HYT.out]; exact rd_yes1 HH.out.symm)
      obtain ⟨v1, r1, hstep⟩ := HO1.out.call HG.out
      have hb : (numS T 4).1 < 4294967296 := numS_small T 4
      go_wp2_with fail
      refine (rlong_any b v1 T.1 T.2 w1 r1).mono ?_
      rintro e w2 ⟨rfl, rd⟩
      rw [show (T.1, T.2) = T from rfl] at *
      have HO2 := Lib.hid (hstep _ _ rd)
      clear hstep rd r1
      obtain ⟨n1, hn1⟩ : ∃ k, k = numS T 4 := ⟨_, rfl⟩
      rw [← hn1] at HO2 HY hb ⊢
      clear hn1
      obtain ⟨-, -, s1, q1, l1, n1⟩ := HO2.out
      obtain ⟨t0, t1, t2, t3, t4, t5, t6, t7, t8⟩ := lt_cells q1
      have hfz := lt_free q1
      have L1 := Lib.hid (And.intro q1 (And.intro l1 n1))
      clear q1 l1 n1
      dsimp only
      go_wp2_with fail
      go_meet
      case rel =>
        have hq := st_p L1.out.1 (n1.1 : Int)
        have hfr := sf_p (S := fun k => k = g + 1) (g := g + 1) (Fr.refl _ w2) (fun _ => rfl) (n1.1 : Int)
        have hls := L1.out.2.1.off hfr L1.out.2.2
        exact Lib.hid (by rw [HY.out]; dsimp only; exact HO2.out.store HG.out hfr hq ⟨hls.e, hls.v, hls.c, hls.a⟩ L1.out.2.2)
  case rest =>
    have HO := hcut
    clear hcut HO1 HH HYT
    obtain ⟨Y, hY⟩ : ∃ Y, Y = (rdS 1 st).1 := ⟨_, rfl⟩
    obtain ⟨T, hT⟩ : ∃ T, T = (rdS 1 st).2 := ⟨_, rfl⟩
    rw [← hY, ← hT] at HO
    have HYT : Hid (rdS 1 st = (Y, T)) := Lib.hid (by rw [hY, hT])
    clear hY hT
    obtain ⟨h1, h2, si, h3, h4, h5⟩ := HO.out
    have Q3 := Lib.hid h3
    clear h1 h2 h3 h4 h5
    go_wp2_with (refine load_lt rfl 51 (.tmp 3) rfl (g + 1) (Y.cs si) 51 (0, 0) rfl Q3.out _ Try.underlying51 rfl (by kernel_rfl) ?_)
    refine (has_any Y si 2 wc).mono ?_
    rintro e w1 ⟨rfl, f1⟩
    have HO1 := Lib.hid (HO.out.fr f1)
    clear f1 HO Q3
    obtain ⟨hp, hhp⟩ : ∃ b, b = hasE Y.k Y.s 2 := ⟨_, rfl⟩
    rw [← hhp]
    have HH := Lib.hid hhp
    clear hhp
    dsimp only
    go_upto_if 22 with fail
    go_cut [25] from 23 to 25 (fun u wx => Hid (RdJ b v w g (rdS 2 st).1 (rdS 2 st).2 wx))
    case first =>
      cases hp with
      | false =>
        have HY : Hid (rdS 2 st = (Y, T)) := Lib.hid (by rw [rdS, HYT.out]; exact rd_no2 HH.out.symm)
        go_wp2_with fail
        go_meet
        case rel => exact Lib.hid (by rw [HY.out]; exact HO1.out)
      | true =>
        have HY : Hid (rdS 2 st = ({ Y with b1 := (ballotS T).1.1, b2 := (ballotS T).1.2 }, (ballotS T).2)) := Lib.hid (by rw [rdS, HYT.out]; exact rd_yes2 HH.out.symm)
        obtain ⟨v1, r1, hstep⟩ := HO1.out.call HG.out
        go_wp2_with fail
        refine (rballot_any b v1 T.1 T.2 w1 r1).mono ?_
        rintro e w2 ⟨rfl, rd⟩
        rw [show (T.1, T.2) = T from rfl] at *
        have HO2 := Lib.hid (hstep _ _ rd)
        clear hstep rd r1
        obtain ⟨n1, hn1⟩ : ∃ k, k = ballotS T := ⟨_, rfl⟩
        rw [← hn1] at HO2 HY ⊢
        clear hn1
        obtain ⟨-, -, s1, q1, l1, n1⟩ := HO2.out
        obtain ⟨t0, t1, t2, t3, t4, t5, t6, t7, t8⟩ := lt_cells q1
        have hfz := lt_free q1
        have L1 := Lib.hid (And.intro q1 (And.intro l1 n1))
        clear q1 l1 n1
        dsimp only
        go_wp2_with fail
        go_meet
        case rel =>
          have hq := st_b L1.out.1 n1.1.1 n1.1.2
          have hfr := sf_b (S := fun k => k = g + 1) (g := g + 1) (Fr.refl _ w2) (fun _ => rfl) n1.1.1 n1.1.2
          have hls := L1.out.2.1.off hfr L1.out.2.2
          exact Lib.hid (by rw [HY.out]; dsimp only; exact HO2.out.store HG.out hfr hq ⟨hls.e, hls.v, hls.c, hls.a⟩ L1.out.2.2)
    case rest =>
      have HO := hcut
      clear hcut HO1 HH HYT
      obtain ⟨Y, hY⟩ : ∃ Y, Y = (rdS 2 st).1 := ⟨_, rfl⟩
      obtain ⟨T, hT⟩ : ∃ T, T = (rdS 2 st).2 := ⟨_, rfl⟩
      rw [← hY, ← hT] at HO
      have HYT : Hid (rdS 2 st = (Y, T)) := Lib.hid (by rw [hY, hT])
      clear hY hT
      obtain ⟨h1, h2, si, h3, h4, h5⟩ := HO.out
      have Q3 := Lib.hid h3
      clear h1 h2 h3 h4 h5
      go_wp2_with (refine load_lt rfl 51 (.tmp 3) rfl (g + 1) (Y.cs si) 51 (0, 0) rfl Q3.out _ Try.underlying51 rfl (by kernel_rfl) ?_)
      refine (has_any Y si 4 wc).mono ?_
      rintro e w1 ⟨rfl, f1⟩
      have HO1 := Lib.hid (HO.out.fr f1)
      clear f1 HO Q3
      obtain ⟨hp, hhp⟩ : ∃ b, b = hasE Y.k Y.s 4 := ⟨_, rfl⟩
      rw [← hhp]
      have HH := Lib.hid hhp
      clear hhp
      dsimp only
      go_upto_if 27 with fail
      go_cut [31] from 28 to 31 (fun u wx => Hid (RdJ b v w g (rdS 3 st).1 (rdS 3 st).2 wx))
      case first =>
        cases hp with
        | false =>
          have HY : Hid (rdS 3 st = (Y, T)) := Lib.hid (by rw [rdS, HYT.out]; exact rd_no3 HH.out.symm)
          go_wp2_with fail
          go_meet
          case rel => exact Lib.hid (by rw [HY.out]; exact HO1.out)
        | true =>
          have HY : Hid (rdS 3 st = ({ Y with s := ((withinS T 1).1 : Int) == 1 }, (withinS T 1).2)) := Lib.hid (by rw [rdS, HYT.out]; exact rd_yes3 HH.out.symm)
          obtain ⟨v1, r1, hstep⟩ := HO1.out.call HG.out
          have hb : (withinS T 1).1 < 65536 := withinS_small T 1
          go_wp2_with fail
          refine (within_any b v1 T.1 T.2 1 w1 r1).mono ?_
          rintro e w2 ⟨rfl, rd⟩
          rw [show (T.1, T.2) = T from rfl] at *
          have HO2 := Lib.hid (hstep _ _ rd)
          clear hstep rd r1
          obtain ⟨n1, hn1⟩ : ∃ k, k = withinS T 1 := ⟨_, rfl⟩
          rw [← hn1] at HO2 HY hb ⊢
          clear hn1
          obtain ⟨-, -, s1, q1, l1, n1⟩ := HO2.out
          obtain ⟨t0, t1, t2, t3, t4, t5, t6, t7, t8⟩ := lt_cells q1
          have hfz := lt_free q1
          have L1 := Lib.hid (And.intro q1 (And.intro l1 n1))
          clear q1 l1 n1
          dsimp only
          go_wp2_with fail
          go_meet
          case rel =>
            have hq := st_s L1.out.1 ((n1.1 : Int) == 1)
            have hfr := sf_s (S := fun k => k = g + 1) (g := g + 1) (Fr.refl _ w2) (fun _ => rfl) ((n1.1 : Int) == 1)
            have hls := L1.out.2.1.off hfr L1.out.2.2
            exact Lib.hid (by rw [HY.out]; dsimp only; exact HO2.out.store HG.out hfr hq ⟨hls.e, hls.v, hls.c, hls.a⟩ L1.out.2.2)
      case rest =>
        have HO := hcut
        clear hcut HO1 HH HYT
        obtain ⟨Y, hY⟩ : ∃ Y, Y = (rdS 3 st).1 := ⟨_, rfl⟩
        obtain ⟨T, hT⟩ : ∃ T, T = (rdS 3 st).2 := ⟨_, rfl⟩
        rw [← hY, ← hT] at HO
        have HYT : Hid (rdS 3 st = (Y, T)) := Lib.hid (by rw [hY, hT])
        clear hY hT
        obtain ⟨h1, h2, si, h3, h4, h5⟩ := HO.out
        have Q3 := Lib.hid h3
        clear h1 h2 h3 h4 h5
        go_wp2_with (refine load_lt rfl 51 (.tmp 3) rfl (g + 1) (Y.cs si) 51 (0, 0) rfl Q3.out _ Try.underlying51 rfl (by kernel_rfl) ?_)
        refine (has_any Y si 8 wc).mono ?_
        rintro e w1 ⟨rfl, f1⟩
        have HO1 := Lib.hid (HO.out.fr f1)
        clear f1 HO Q3
        obtain ⟨hp, hhp⟩ : ∃ b, b = hasE Y.k Y.s 8 := ⟨_, rfl⟩
        rw [← hhp]
        have HH := Lib.hid hhp
        clear hhp
        dsimp only
        go_upto_if 33 with fail
        go_cut [36] from 34 to 36 (fun u wx => Hid (RdJ b v w g (rdS 4 st).1 (rdS 4 st).2 wx))
        case first =>
          cases hp with
          | false =>
            have HY : Hid (rdS 4 st = (Y, T)) := Lib.hid (by rw [rdS, HYT.out]; exact rd_no4 HH.out.symm)
            go_wp2_with fail
            go_meet
            case rel => exact Lib.hid (by rw [HY.out]; exact HO1.out)
          | true =>
            have HY : Hid (rdS 4 st = ({ Y with w1 := (ballotS T).1.1, w2 := (ballotS T).1.2 }, (ballotS T).2)) := Lib.hid (by rw [rdS, HYT.out]; exact rd_yes4 HH.out.symm)
            obtain ⟨v1, r1, hstep⟩ := HO1.out.call HG.out
            go_wp2_with fail
            refine (rballot_any b v1 T.1 T.2 w1 r1).mono ?_
            rintro e w2 ⟨rfl, rd⟩
            rw [show (T.1, T.2) = T from rfl] at *
            have HO2 := Lib.hid (hstep _ _ rd)
            clear hstep rd r1
            obtain ⟨n1, hn1⟩ : ∃ k, k = ballotS T := ⟨_, rfl⟩
            rw [← hn1] at HO2 HY ⊢
            clear hn1
            obtain ⟨-, -, s1, q1, l1, n1⟩ := HO2.out
            obtain ⟨t0, t1, t2, t3, t4, t5, t6, t7, t8⟩ := lt_cells q1
            have hfz := lt_free q1
            have L1 := Lib.hid (And.intro q1 (And.intro l1 n1))
            clear q1 l1 n1
            dsimp only
            go_wp2_with fail
            go_meet
            case rel =>
              have hq := st_w L1.out.1 n1.1.1 n1.1.2
              have hfr := sf_w (S := fun k => k = g + 1) (g := g + 1) (Fr.refl _ w2) (fun _ => rfl) n1.1.1 n1.1.2
              have hls := L1.out.2.1.off hfr L1.out.2.2
              exact Lib.hid (by rw [HY.out]; dsimp only; exact HO2.out.store HG.out hfr hq ⟨hls.e, hls.v, hls.c, hls.a⟩ L1.out.2.2)
        case rest =>
          have HO := hcut
          clear hcut HO1 HH HYT
          obtain ⟨Y, hY⟩ : ∃ Y, Y = (rdS 4 st).1 := ⟨_, rfl⟩
          obtain ⟨T, hT⟩ : ∃ T, T = (rdS 4 st).2 := ⟨_, rfl⟩
          rw [← hY, ← hT] at HO
          have HYT : Hid (rdS 4 st = (Y, T)) := Lib.hid (by rw [hY, hT])
          clear hY hT
          obtain ⟨h1, h2, si, h3, h4, h5⟩ := HO.out
          have Q3 := Lib.hid h3
          clear h1 h2 h3 h4 h5
          go_wp2_with (refine load_lt rfl 51 (.tmp 3) rfl (g + 1) (Y.cs si) 51 (0, 0) rfl Q3.out _ Try.underlying51 rfl (by kernel_rfl) ?_)
          refine (has_any Y si 16 wc).mono ?_
          rintro e w1 ⟨rfl, f1⟩
          have HO1 := Lib.hid (HO.out.fr f1)
          clear f1 HO Q3
          obtain ⟨hp, hhp⟩ : ∃ b, b = hasE Y.k Y.s 16 := ⟨_, rfl⟩
          rw [← hhp]
          have HH := Lib.hid hhp
          clear hhp
          dsimp only
          go_upto_if 38 with fail
          go_cut [41] from 39 to 41 (fun u wx => Hid (RdJ b v w g (rdS 5 st).1 (rdS 5 st).2 wx))
          case first =>
            cases hp with
            | false =>
              have HY : Hid (rdS 5 st = (Y, T)) := Lib.hid (by rw [rdS, HYT.out]; exact rd_no5 HH.out.symm)
              go_wp2_with fail
              go_meet
              case rel => exact Lib.hid (by rw [HY.out]; exact HO1.out)
            | true =>
              have HY : Hid (rdS 5 st = ({ Y with e := (entS T).1 }, (entS T).2)) := Lib.hid (by rw [rdS, HYT.out]; exact rd_yes5 HH.out.symm)
              have HSZ := Lib.hid HO1.out.sz
              obtain ⟨v1, r1, hstep⟩ := HO1.out.call HG.out
              go_wp2_with fail
              refine (gvtake_any b v1 T.1 T.2 w1 r1).mono ?_
              rintro e w2 ⟨ve, ue, rfl, hes, rd, hve, hue⟩
              rw [show (T.1, T.2) = T from rfl] at *
              have HO2 := Lib.hid (hstep _ _ rd)
              clear hstep rd r1
              obtain ⟨n1, hn1⟩ : ∃ k, k = entS T := ⟨_, rfl⟩
              rw [← hn1] at HO2 HY hes ⊢
              clear hn1
              obtain ⟨a1, c1, e1, -⟩ := hes.1.shape
              obtain ⟨a2, c2, e2, -⟩ := hes.2.shape
              subst e1 e2
              have HES := Lib.hid (And.intro hes (And.intro hve hue))
              clear hes hve hue
              obtain ⟨-, -, s1, q1, l1, n1⟩ := HO2.out
              obtain ⟨t9, t10, t11, t12, t13, t14⟩ := lt_cells2 q1
              have hfz := lt_free q1
              have L1 := Lib.hid (And.intro q1 (And.intro l1 n1))
              clear q1 l1 n1
              dsimp only
              go_wp2_with fail
              go_meet
              case rel =>
                have hq := st_e L1.out.1 n1.1 (.slice a1 n1.1.l.length c1) (.slice a2 n1.1.m.length c2)
                have hfr := sf_e (S := fun k => k = g + 1) (g := g + 1) (Fr.refl _ w2) (fun _ => rfl) n1.1 (.slice a1 n1.1.l.length c1) (.slice a2 n1.1.m.length c2)
                have hls := L1.out.2.1.off hfr L1.out.2.2
                have hsz := HSZ.out
                have h1 := HES.out.1.1.keep hfr (.inr fun k hk e => by have := HES.out.2.1 k hk; omega)
                have h2 := HES.out.1.2.keep hfr (.inr fun k hk e => by have := HES.out.2.2 k hk; omega)
                exact Lib.hid (by rw [HY.out]; dsimp only; exact HO2.out.store HG.out hfr hq ⟨⟨h1, h2⟩, hls.v, hls.c, hls.a⟩ ⟨fun k hk => by have := HES.out.2.1 k hk; omega, fun k hk => by have := HES.out.2.2 k hk; omega, L1.out.2.2.va, L1.out.2.2.ca, L1.out.2.2.aa⟩)
          case rest =>
            have HO := hcut
            clear hcut HO1 HH HYT
            obtain ⟨Y, hY⟩ : ∃ Y, Y = (rdS 5 st).1 := ⟨_, rfl⟩
            obtain ⟨T, hT⟩ : ∃ T, T = (rdS 5 st).2 := ⟨_, rfl⟩
            rw [← hY, ← hT] at HO
            have HYT : Hid (rdS 5 st = (Y, T)) := Lib.hid (by rw [hY, hT])
            clear hY hT
            obtain ⟨h1, h2, si, h3, h4, h5⟩ := HO.out
            have Q3 := Lib.hid h3
            clear h1 h2 h3 h4 h5
            go_wp2_with (refine load_lt rfl 51 (.tmp 3) rfl (g + 1) (Y.cs si) 51 (0, 0) rfl Q3.out _ Try.underlying51 rfl (by kernel_rfl) ?_)
            refine (has_any Y si 32 wc).mono ?_
            rintro e w1 ⟨rfl, f1⟩
            have HO1 := Lib.hid (HO.out.fr f1)
            clear f1 HO Q3
            obtain ⟨hp, hhp⟩ : ∃ b, b = hasE Y.k Y.s 32 := ⟨_, rfl⟩
            rw [← hhp]
            have HH := Lib.hid hhp
            clear hhp
            dsimp only
            go_upto_if 43 with fail
            go_cut [46] from 44 to 46 (fun u wx => Hid (RdJ b v w g (rdS 6 st).1 (rdS 6 st).2 wx))
            case first =>
              cases hp with
              | false =>
                have HY : Hid (rdS 6 st = (Y, T)) := Lib.hid (by rw [rdS, HYT.out]; exact rd_no6 HH.out.symm)
                go_wp2_with fail
                go_meet
                case rel => exact Lib.hid (by rw [HY.out]; exact HO1.out)
              | true =>
                have HY : Hid (rdS 6 st = ({ Y with ct := (callC T).1, cn := (callC T).2.1, cp := (callC T).2.2.1, cl := (callC T).2.2.2 }, (takeS T).2)) := Lib.hid (by rw [rdS, HYT.out]; exact rd_yes6 HH.out.symm)
                have HSZ := Lib.hid HO1.out.sz
                obtain ⟨v1, r1, hstep⟩ := HO1.out.call HG.out
                go_wp2_with fail
                refine (take_any b v1 T.1 T.2 w1 r1).mono ?_
                rintro e w2 ⟨u, rfl, rd, hu⟩
                rw [show (T.1, T.2) = T from rfl] at *
                have HO2 := Lib.hid (hstep _ _ rd)
                obtain ⟨v', rfl, hsee, hge⟩ : ∃ v', u = cv (callC T).1 (callC T).2.1 (callC T).2.2.1 v' ∧ Sees w2 v' (callC T).2.2.2 ∧ (∀ k, v'.ownBlock = some k → w1.heap.size ≤ k) := by
                  rcases hu with ⟨h0, v', e, hs, g', hg, hg2, _⟩ | ⟨h0, e⟩
                  · refine ⟨v', ?_, ?_, fun k hk => by rw [hg] at hk; cases hk; exact hg2⟩
                    · unfold callC; rw [if_pos h0]; dsimp only; exact e
                    · unfold callC; rw [if_pos h0]; dsimp only; exact hs
                  · refine ⟨nilS, ?_, ?_, fun k hk => by cases hk⟩
                    · unfold callC; rw [if_neg h0]; dsimp only; exact e
                    · unfold callC; rw [if_neg h0]; dsimp only; exact .inl ⟨rfl, _, _, rfl⟩
                clear hstep rd r1 hu
                obtain ⟨n1, hn1⟩ : ∃ k, k = callC T := ⟨_, rfl⟩
                rw [← hn1] at HY hsee ⊢
                clear hn1
                obtain ⟨a1, c1, e1, -⟩ := hsee.shape
                subst e1
                have HES := Lib.hid (And.intro hsee hge)
                clear hsee hge
                unfold cv
                obtain ⟨-, -, s1, q1, l1, n1⟩ := HO2.out
                obtain ⟨t15, t16, t17, t18, t19, t20, t21, t22, t23, t24, t25⟩ := lt_cells3 q1
                have hfz := lt_free q1
                have L1 := Lib.hid (And.intro q1 (And.intro l1 n1))
                clear q1 l1 n1
                dsimp only
                go_wp2_with fail
                go_meet
                case rel =>
                  have hq := st_cL L1.out.1 n1.1 n1.2.1 n1.2.2.1 (.slice a1 n1.2.2.2.length c1) n1.2.2.2
                  have hfr := sf_c (S := fun k => k = g + 1) (g := g + 1) (Fr.refl _ w2) (fun _ => rfl) n1.1 n1.2.1 n1.2.2.1 (.slice a1 n1.2.2.2.length c1)
                  have hls := L1.out.2.1.off hfr L1.out.2.2
                  have hsz := HSZ.out
                  have h1 := HES.out.1.keep hfr (.inr fun k hk e => by have := HES.out.2 k hk; omega)
                  exact Lib.hid (by rw [HY.out]; dsimp only; exact HO2.out.store HG.out hfr hq ⟨hls.e, hls.v, h1, hls.a⟩ ⟨L1.out.2.2.ea, L1.out.2.2.em, L1.out.2.2.va, fun k hk => by have := HES.out.2 k hk; omega, L1.out.2.2.aa⟩)
            case rest =>
              have HO := hcut
              clear hcut HO1 HH HYT
              obtain ⟨Y, hY⟩ : ∃ Y, Y = (rdS 6 st).1 := ⟨_, rfl⟩
              obtain ⟨T, hT⟩ : ∃ T, T = (rdS 6 st).2 := ⟨_, rfl⟩
              rw [← hY, ← hT] at HO
              have HYT : Hid (rdS 6 st = (Y, T)) := Lib.hid (by rw [hY, hT])
              clear hY hT
              obtain ⟨h1, h2, si, h3, h4, h5⟩ := HO.out
              have Q3 := Lib.hid h3
              clear h1 h2 h3 h4 h5
              go_wp2_with (refine load_lt rfl 51 (.tmp 3) rfl (g + 1) (Y.cs si) 51 (0, 0) rfl Q3.out _ Try.underlying51 rfl (by kernel_rfl) ?_)
              refine (has_any Y si 64 wc).mono ?_
              rintro e w1 ⟨rfl, f1⟩
              have HO1 := Lib.hid (HO.out.fr f1)
              clear f1 HO Q3
              obtain ⟨hp, hhp⟩ : ∃ b, b = hasE Y.k Y.s 64 := ⟨_, rfl⟩
              rw [← hhp]
              have HH := Lib.hid hhp
              clear hhp
              dsimp only
              go_upto_if 48 with fail
              go_cut [62] from 49 to 62 (fun u wx => Hid (RdJ b v w g (rdS 7 st).1 (rdS 7 st).2 wx))
              case first =>
                cases hp with
                | false =>
                  have HY : Hid (rdS 7 st = (Y, T)) := Lib.hid (by rw [rdS, HYT.out]; exact rd_no7 HH.out.symm)
                  go_wp2_with fail
                  go_meet
                  case rel => exact Lib.hid (by rw [HY.out]; exact HO1.out)
                | true =>
                  have HY : Hid (rdS 7 st = ({ Y with it := (numS T 2).1, iN := (numS (numS T 2).2 2).1, vn := (viewS (numS (numS T 2).2 2).2).1.1, vm := (viewS (numS (numS T 2).2 2).2).1.2, ae := (ansC (viewS (numS (numS T 2).2 2).2).2).1, ar := (ansC (viewS (numS (numS T 2).2 2).2).2).2.1, al := (ansC (viewS (numS (numS T 2).2 2).2).2).2.2 }, (takeAS (viewS (numS (numS T 2).2 2).2).2).2)) := Lib.hid (by rw [rdS, HYT.out]; exact rd_yes7 HH.out.symm)
                  have HSZ := Lib.hid HO1.out.sz
                  obtain ⟨v1, r1, hstep⟩ := HO1.out.call HG.out
                  go_wp2_with fail
                  refine (rword_any b v1 T.1 T.2 w1 r1).mono ?_
                  rintro e w2 ⟨rfl, rd⟩
                  rw [show (T.1, T.2) = T from rfl] at *
                  have HO2 := Lib.hid (hstep _ _ rd)
                  clear hstep rd r1
                  obtain ⟨n1, hn1⟩ : ∃ k, k = numS T 2 := ⟨_, rfl⟩
                  rw [← hn1] at HO2 HY ⊢
                  clear hn1
                  obtain ⟨-, -, s1, q1, l1, n1⟩ := HO2.out
                  obtain ⟨t15, t16, t17, t18, t19, t20, t21, t22, t23, t24, t25⟩ := lt_cells3 q1
                  have hfz := lt_free q1
                  have L1 := Lib.hid (And.intro q1 (And.intro l1 n1))
                  clear q1 l1 n1
                  dsimp only
                  go_upto_region 19 with fail
                  have hq := st_i0 L1.out.1 (n1.1 : Int)
                  have hfr := sf_i0 (S := fun k => k = g + 1) (g := g + 1) (Fr.refl _ w2) (fun _ => rfl) (n1.1 : Int)
                  have hls := L1.out.2.1.off hfr L1.out.2.2
                  have HO3 := Lib.hid (HO2.out.store HG.out hfr hq ⟨hls.e, hls.v, hls.c, hls.a⟩ L1.out.2.2)
                  clear hq hfr hls hfz L1 HO2
                  clear t15 t16 t17 t18 t19 t20 t21 t22 t23 t24 t25
                  generalize w2.setCell ⟨g + 1, 21, none⟩ (.int .u16 (n1.1 : Int)) = w3 at *
                  obtain ⟨v1, r1, hstep⟩ := HO3.out.call HG.out
                  go_wp2_with fail
                  refine (rword_any b v1 n1.2.1 n1.2.2 w3 r1).mono ?_
                  rintro e w4 ⟨rfl, rd⟩
                  rw [show (n1.2.1, n1.2.2) = n1.2 from rfl] at *
                  have HO4 := Lib.hid (hstep _ _ rd)
                  clear hstep rd r1 HO3
                  obtain ⟨n2, hn2⟩ : ∃ k, k = numS n1.2 2 := ⟨_, rfl⟩
                  rw [← hn2] at HO4 HY ⊢
                  clear hn2
                  obtain ⟨-, -, s1, q1, l1, n1⟩ := HO4.out
                  obtain ⟨t15, t16, t17, t18, t19, t20, t21, t22, t23, t24, t25⟩ := lt_cells3 q1
                  have hfz := lt_free q1
                  have L1 := Lib.hid (And.intro q1 (And.intro l1 n1))
                  clear q1 l1 n1
                  dsimp only
                  go_upto_region 20 with fail
                  have hq := st_i1 L1.out.1 (n2.1 : Int)
                  have hfr := sf_i1 (S := fun k => k = g + 1) (g := g + 1) (Fr.refl _ w4) (fun _ => rfl) (n2.1 : Int)
                  have hls := L1.out.2.1.off hfr L1.out.2.2
                  have HO5 := Lib.hid (HO4.out.store HG.out hfr hq ⟨hls.e, hls.v, hls.c, hls.a⟩ L1.out.2.2)
                  clear hq hfr hls hfz L1 HO4
                  clear t15 t16 t17 t18 t19 t20 t21 t22 t23 t24 t25
                  generalize w4.setCell ⟨g + 1, 22, none⟩ (.int .u16 (n2.1 : Int)) = w5 at *
                  have HSZ5 := Lib.hid HO5.out.sz
                  obtain ⟨v1, r1, hstep⟩ := HO5.out.call HG.out
                  go_wp2_with fail
                  refine (gview_any b v1 n2.2.1 n2.2.2 w5 r1).mono ?_
                  rintro e w6 ⟨u6, rfl, hsi, rd, hge⟩
                  rw [show (n2.2.1, n2.2.2) = n2.2 from rfl] at *
                  have HO6 := Lib.hid (hstep _ _ rd)
                  clear hstep rd r1 HO5
                  obtain ⟨n3, hn3⟩ : ∃ k, k = viewS n2.2 := ⟨_, rfl⟩
                  rw [← hn3] at HO6 HY hsi ⊢
                  clear hn3
                  obtain ⟨a6, c6, e6, -⟩ := hsi.shape
                  subst e6
                  have HV6 := Lib.hid (And.intro hsi hge)
                  clear hsi hge
                  obtain ⟨-, -, s1, q1, l1, n1⟩ := HO6.out
                  obtain ⟨t15, t16, t17, t18, t19, t20, t21, t22, t23, t24, t25⟩ := lt_cells3 q1
                  have hfz := lt_free q1
                  have L1 := Lib.hid (And.intro q1 (And.intro l1 n1))
                  clear q1 l1 n1
                  dsimp only
                  go_upto_region 21 with fail
                  have hq := st_vL L1.out.1 n3.1.1 (.slice a6 n3.1.2.length c6) n3.1.2
                  have hfr := sf_v (S := fun k => k = g + 1) (g := g + 1) (Fr.refl _ w6) (fun _ => rfl) n3.1.1 (.slice a6 n3.1.2.length c6)
                  have hls := L1.out.2.1.off hfr L1.out.2.2
                  have h1 := HV6.out.1.keep hfr (.inr fun k hk e => by have := HV6.out.2 k hk; have := HSZ5.out; omega)
                  have HO7 := Lib.hid (HO6.out.store (Y' := { Y with it := (n1.1 : Int), iN := (n2.1 : Int), vn := n3.1.1, vm := n3.1.2 }) HG.out hfr hq ⟨hls.e, h1, hls.c, hls.a⟩ ⟨L1.out.2.2.ea, L1.out.2.2.em, fun k hk => by have := HV6.out.2 k hk; have := HSZ5.out; omega, L1.out.2.2.ca, L1.out.2.2.aa⟩)
                  clear hq hfr hls hfz L1 HO6 h1 HV6 HSZ5
                  clear t15 t16 t17 t18 t19 t20 t21 t22 t23 t24 t25
                  generalize (w6.setCell ⟨g + 1, 15, none⟩ (.int .i64 n3.1.1)).setCell ⟨g + 1, 16, none⟩ (.slice a6 n3.1.2.length c6) = w7 at *
                  have HSZ7 := Lib.hid HO7.out.sz
                  obtain ⟨v1, r1, hstep⟩ := HO7.out.call HG.out
                  go_wp2_with fail
                  refine (takeA_any b v1 n3.2.1 n3.2.2 w7 r1).mono ?_
                  rintro e w8 ⟨u, rfl, rd, hu⟩
                  rw [show (n3.2.1, n3.2.2) = n3.2 from rfl] at *
                  have HO8 := Lib.hid (hstep _ _ rd)
                  obtain ⟨v', rfl, hsee, hge⟩ : ∃ v', u = av (ansC n3.2).1 (ansC n3.2).2.1 v' ∧ Sees w8 v' (ansC n3.2).2.2 ∧ (∀ k, v'.ownBlock = some k → w7.heap.size ≤ k) := by
                    rcases hu with ⟨h0, v', e, hs, g', hg, hg2, _⟩ | ⟨h0, e⟩
                    · refine ⟨v', ?_, ?_, fun k hk => by rw [hg] at hk; cases hk; exact hg2⟩
                      · unfold ansC; rw [if_pos h0]; dsimp only; exact e
                      · unfold ansC; rw [if_pos h0]; dsimp only; exact hs
                    · refine ⟨nilS, ?_, ?_, fun k hk => by cases hk⟩
                      · unfold ansC; rw [if_neg h0]; dsimp only; exact e
                      · unfold ansC; rw [if_neg h0]; dsimp only; exact .inl ⟨rfl, _, _, rfl⟩
                  clear hstep rd r1 hu HO7
                  obtain ⟨n4, hn4⟩ : ∃ k, k = ansC n3.2 := ⟨_, rfl⟩
                  rw [← hn4] at HY hsee ⊢
                  clear hn4
                  obtain ⟨a8, c8, e8, -⟩ := hsee.shape
                  subst e8
                  have HES := Lib.hid (And.intro hsee hge)
                  clear hsee hge
                  unfold av
                  obtain ⟨-, -, s1, q1, l1, n1⟩ := HO8.out
                  obtain ⟨t15, t16, t17, t18, t19, t20, t21, t22, t23, t24, t25⟩ := lt_cells3 q1
                  have hfz := lt_free q1
                  have L1 := Lib.hid (And.intro q1 (And.intro l1 n1))
                  clear q1 l1 n1
                  dsimp only
                  go_wp2_with fail
                  go_meet
                  case rel =>
                    have hq := st_aL L1.out.1 n4.1 n4.2.1 (.slice a8 n4.2.2.length c8) n4.2.2
                    have hfr := sf_a (S := fun k => k = g + 1) (g := g + 1) (Fr.refl _ w8) (fun _ => rfl) n4.1 n4.2.1 (.slice a8 n4.2.2.length c8)
                    have hls := L1.out.2.1.off hfr L1.out.2.2
                    have hsz := HSZ7.out
                    have h1 := HES.out.1.keep hfr (.inr fun k hk e => by have := HES.out.2 k hk; omega)
                    exact Lib.hid (by rw [HY.out]; dsimp only; exact HO8.out.store HG.out hfr hq ⟨hls.e, hls.v, hls.c, h1⟩ ⟨L1.out.2.2.ea, L1.out.2.2.em, L1.out.2.2.va, L1.out.2.2.ca, fun k hk => by have := HES.out.2 k hk; omega⟩)
              case rest =>
                have HO := hcut
                clear hcut HO1 HH HYT
                obtain ⟨h1, h2, si, h3, h4, h5⟩ := HO.out
                obtain ⟨Y, hY⟩ : ∃ Y, Y = (rdS 7 st).1 := ⟨_, rfl⟩
                obtain ⟨T, hT⟩ : ∃ T, T = (rdS 7 st).2 := ⟨_, rfl⟩
                rw [← hY] at h3 h4
                rw [← hT] at h2
                have HYT := Lib.hid (And.intro hY hT)
                have H1 := Lib.hid h1
                have H2 := Lib.hid h2
                have H3 := Lib.hid (And.intro h3 (And.intro h4 h5))
                clear h1 h2 h3 h4 h5 HO hY hT
                go_wp2_with (first
                  | refine load_lt rfl 51 (.tmp 3) rfl (g + 1) (Y.cs si) 51 (0, 0) rfl H3.out.1 _ Try.underlying51 rfl (by kernel_rfl) ?_
                  | refine store_lt rfl 51 (.tmp 2) (.tmp 63) rfl g (Y.cs si) rfl rfl 51 _ H1.out (by kernel_rfl) rfl H3.out.2.1.one ?_)
                have hq := setRow_heap _ _ _ (Y.cs si) _ _ H1.out
                have hfr := Fr.letRow (S := fun k => k = g) (Fr.refl _ wc) (g := g) (fun _ => rfl) (Y.cs si)
                generalize wc.setRow g (Y.cs si) = wz at *
                refine bodyPost_ret (results_cell_row rfl _ _ g 51 _ _ _ rfl hq Try.underlying51 rfl (by kernel_rfl)) rfl ?_
                rw [← HYT.out.1, ← HYT.out.2]
                obtain ⟨hg, hb, hv⟩ := HG.out
                exact ⟨si, rfl, H3.out.2.1.off hfr (H3.out.2.2.le (by omega)), H2.out.box2 hfr (by omega) hb hv, H3.out.2.2.le (by omega)⟩
end
section
set_option maxRecDepth 100000

/-! Which parts depend on what. -/
theorem has_small (k : Int) (s : Bool) : hasE k s 1 = hasE k false 1 ∧ hasE k s 2 = hasE k false 2 ∧ hasE k s 4 = hasE k false 4 := by
  unfold hasE partsE
  cases s
  · exact ⟨rfl, rfl, rfl⟩
  · by_cases h0 : k = 0 ∨ k = 3
    · simp [h0]
    · by_cases h1 : k = 1
      · subst h1; exact ⟨by decide, by decide, by decide⟩
      · simp [h0, h1]

/-- What a letter of numbers alone says of its bounds: as its Go type has them. -/
structure LtTy (x : Lt) : Prop where
  k0 : 0 ≤ x.k
  k1 : x.k ≤ 255
  ek0 : 0 ≤ x.e.k
  ek1 : x.e.k ≤ 255
  et : 0 ≤ x.e.t ∧ x.e.t ≤ 65535
  en : 0 ≤ x.e.n ∧ x.e.n ≤ 65535
  ct : 0 ≤ x.ct ∧ x.ct ≤ 65535
  cn : 0 ≤ x.cn ∧ x.cn ≤ 65535
  it : 0 ≤ x.it ∧ x.it ≤ 65535
  iN : 0 ≤ x.iN ∧ x.iN ≤ 65535

theorem asc_in : ∀ (l : List Int) (p : Int), -1 ≤ p → asc p l = true → ∀ x ∈ l, 0 ≤ x ∧ x ≤ 15
  | [], _, _, _ => fun x hx => by cases hx
  | y :: l, p, hp, h => by
    unfold asc at h
    simp only [Bool.and_eq_true, decide_eq_true_eq] at h
    intro x hx
    rcases List.mem_cons.1 hx with rfl | hx
    · omega
    · exact asc_in l y (by omega) h.2 x hx

theorem chkM_ok {l : List Int} (h : chkM l = 0) : 1 ≤ l.length ∧ l.length ≤ 16 ∧ In16 l := by
  unfold chkM at h
  split at h
  · rename_i h1
    split at h
    · rename_i h2
      exact ⟨h1.1, h1.2, fun x hx => by have := asc_in l (-1) (by omega) h2 x hx; omega⟩
    · cases h
  · cases h

theorem cchk_zero {p : Int} {n : Nat} (h : cchk p n = 0) : okN p = true ∧ n ≤ 4000 := by
  unfold cchk sizeN at h
  split at h
  · rename_i h1
    split at h
    · rename_i h2; exact ⟨h1, h2⟩
    · cases h
  · cases h
theorem achk_zero {e r : Int} {n : Nat} (h : achk e r n = 0) : okN e = true ∧ okN r = true ∧ n ≤ 4000 := by
  unfold achk at h
  split at h
  · rename_i h1
    obtain ⟨h2, h3⟩ := cchk_zero h
    exact ⟨h1, h2, h3⟩
  · cases h

theorem en_ok {x : En} (h : x.chk = 0) (k0 : 0 ≤ x.k) (t : 0 ≤ x.t ∧ x.t ≤ 65535) (n : 0 ≤ x.n ∧ x.n ≤ 65535) : EnOk x := by
  have hc := h
  unfold En.chk at h
  split at h
  · cases h
  · rename_i h3
    split at h
    · cases h
    · rename_i h4
      have nc : x.k ≠ 1 → x.t = 0 ∧ x.n = 0 ∧ x.p = 0 ∧ x.l = [] := fun hk => Decidable.byContradiction fun hn => h4 (.inl ⟨hk, hn⟩)
      have nm : x.k ≠ 2 → x.m = [] := fun hk => Decidable.byContradiction fun hn => h4 (.inr ⟨hk, hn⟩)
      split at h
      · rename_i h1
        obtain ⟨hp, hl⟩ := cchk_zero h
        obtain ⟨hp0, hp1⟩ := ok_bounds hp
        have hm := nm (by omega)
        exact ⟨k0, by omega, t.1, t.2, n.1, n.2, hp0, hp1, hl, by rw [hm]; exact Nat.zero_le _, (fun x hx => by rw [hm] at hx; cases hx), hc, nc, nm⟩
      · rename_i h1
        obtain ⟨a1, a2, a3, a4⟩ := nc h1
        split at h
        · rename_i h2
          obtain ⟨b1, b2, b3⟩ := chkM_ok h
          exact ⟨k0, by omega, t.1, t.2, n.1, n.2, by omega, by omega, by rw [a4]; exact Nat.zero_le _, b2, b3, hc, nc, nm⟩
        · rename_i h2
          have hm := nm h2
          exact ⟨k0, by omega, t.1, t.2, n.1, n.2, by omega, by omega, by rw [a4]; exact Nat.zero_le _, by rw [hm]; exact Nat.zero_le _, (fun x hx => by rw [hm] at hx; cases hx), hc, nc, nm⟩

theorem first_ok : ∀ {l : List Int}, firstE l = 0 → ∀ x ∈ l, x = 0
  | [], _, x, hx => by cases hx
  | y :: l, h, x, hx => by
    unfold firstE at h
    split at h
    · rename_i hy
      rcases List.mem_cons.1 hx with rfl | hx
      · exact hy
      · exact first_ok h x hx
    · rename_i hy; exact absurd h hy

theorem nodeN_iff {n : Int} : nodeN n = true ↔ 0 ≤ n ∧ n ≤ 15 := by
  unfold nodeN; simp; omega
theorem longN_iff {n : Int} : longN n = true ↔ 0 ≤ n ∧ n ≤ 4294967295 := by
  unfold longN; simp
theorem rightN_iff {r n : Int} : rightN r n = true ↔ (0 ≤ r ∧ r ≤ 4294967295) ∧ 0 ≤ n ∧ n ≤ 15 := by
  unfold rightN; rw [Bool.and_eq_true, longN_iff, nodeN_iff]

/-! What Only leaves of a part that is there. -/
theorem only_p {x : Lt} (h : hasE x.k x.s 1 = true) : x.only.p = x.p := by unfold Lt.only Lt.mask; simp [h]
theorem only_b {x : Lt} (h : hasE x.k x.s 2 = true) : x.only.b1 = x.b1 ∧ x.only.b2 = x.b2 := by unfold Lt.only Lt.mask; simp [h]
theorem only_w {x : Lt} (h : hasE x.k x.s 8 = true) : x.only.w1 = x.w1 ∧ x.only.w2 = x.w2 := by unfold Lt.only Lt.mask; simp [h]
theorem only_e {x : Lt} (h : hasE x.k x.s 16 = true) : x.only.e = x.e := by unfold Lt.only Lt.mask; simp [h]
theorem only_c {x : Lt} (h : hasE x.k x.s 32 = true) : x.only.cp = x.cp ∧ x.only.cl = x.cl := by unfold Lt.only Lt.mask; simp [h]
theorem only_a {x : Lt} (h : hasE x.k x.s 64 = true) : (x.only.vn = x.vn ∧ x.only.vm = x.vm) ∧ x.only.ae = x.ae ∧ x.only.ar = x.ar ∧ x.only.al = x.al := by unfold Lt.only Lt.mask; simp [h]

/-- What only zeroes do not have: the kind and whether there is more behind stay. -/
theorem has_s (k : Int) (s : Bool) : hasE k (if hasE k s 4 = true then s else false) = hasE k s := by
  funext p
  unfold hasE
  congr 1
  congr 1
  unfold partsE
  by_cases h0 : k = 0 ∨ k = 3
  · simp [h0]
  · by_cases h1 : k = 1
    · subst h1; cases s <;> rfl
    · simp [h0, h1]

theorem only_s (x : Lt) : x.only.s = if hasE x.k x.s 4 = true then x.s else false := by unfold Lt.only Lt.mask; simp

theorem only_has (x : Lt) : hasE x.only.k x.only.s = hasE x.k x.s := by
  rw [only_s]
  exact has_s x.k x.s

theorem only_only (x : Lt) : x.only.only = x.only := by
  have h := only_has x
  have hs := only_s x
  have e : x.only.only = x.only.mask 7 := rfl
  rw [e]
  unfold Lt.mask
  rw [h]
  unfold Lt.only Lt.mask
  simp only [Nat.reduceLeDiff, decide_true, Bool.true_and]
  cases hasE x.k x.s 1 <;> cases hasE x.k x.s 2 <;> cases hasE x.k x.s 4 <;> cases hasE x.k x.s 8 <;> cases hasE x.k x.s 16 <;> cases hasE x.k x.s 32 <;> cases hasE x.k x.s 64 <;> rfl

/-- A letter that passes its check may be written. -/
theorem ok_of_chk {x : Lt} (ty : LtTy x) (h : x.chk = 0) : LtOk x := by
  unfold Lt.chk at h
  split at h
  · cases h
  rename_i hk
  split at h
  case isFalse => cases h
  rename_i hn
  have hall := first_ok h
  unfold Lt.nums at hn
  simp only [Bool.and_eq_true, nodeN_iff, longN_iff, rightN_iff] at hn
  obtain ⟨hf, ht, hp, hb, hw⟩ := hn
  have hv : x.only.chkV = 0 := hall _ (by simp [Lt.errs])
  have he : x.only.e.chk = 0 := hall _ (by simp [Lt.errs])
  have hc : cchk x.only.cp x.only.cl.length = 0 := hall _ (by simp [Lt.errs])
  have ha : achk x.only.ae x.only.ar x.only.al.length = 0 := hall _ (by simp [Lt.errs])
  refine ⟨ty.k0, by omega, hf.1, hf.2, ht.1, ht.2, ?_, ?_, ?_, ?_, ?_, ?_⟩
  · intro h1; rw [only_p h1] at hp; exact hp
  · intro h1; rw [(only_b h1).1, (only_b h1).2] at hb; exact hb
  · intro h1; rw [(only_w h1).1, (only_w h1).2] at hw; exact hw
  · intro h1; rw [only_e h1] at he; exact en_ok he ty.ek0 ty.et ty.en
  · intro h1; rw [(only_c h1).1, (only_c h1).2] at hc
    exact ⟨⟨ty.ct, ty.cn⟩, cchk_zero hc⟩
  · intro h1
    obtain ⟨⟨e1, e2⟩, e3, e4, e5⟩ := only_a h1
    rw [e3, e4, e5] at ha
    have h2 : hasE x.only.k x.only.s 64 = true := by rw [only_has]; exact h1
    unfold Lt.chkV at hv
    rw [if_pos h2, e1, e2] at hv
    split at hv
    · rename_i hl
      obtain ⟨m1, m2, m3⟩ := chkM_ok hv
      exact ⟨⟨⟨ty.it, ty.iN⟩, longN_iff.1 hl, hv, m3, m2⟩, achk_zero ha⟩
    · cases hv
end
section
set_option maxRecDepth 100000

def Cl (st : St) : Prop := st.2 ≠ 0 → st.1 = []
/-- From st to st': the bytes B were taken, and P; or there is an error. -/
def Ok1 (st st' : St) (B : List UInt8) (P : Prop) : Prop := (st'.2 = 0 ∧ st.2 = 0 ∧ st.1 = B ++ st'.1 ∧ P) ∨ (st'.2 ≠ 0 ∧ st'.1 = [])

theorem Ok1.cl {st st' : St} {B : List UInt8} {P : Prop} (h : Ok1 st st' B P) : Cl st' := by
  rcases h with h | h
  · exact fun e => absurd h.1 e
  · exact fun _ => h.2

theorem Ok1.seq {st st' st'' : St} {B B' : List UInt8} {P P' : Prop} (h : Ok1 st st' B P) (h' : Cl st' → Ok1 st' st'' B' P') : Ok1 st st'' (B ++ B') (P ∧ P') := by
  rcases h' h.cl with h2 | h2
  · rcases h with h1 | h1
    · exact .inl ⟨h2.1, h1.2.1, by rw [h1.2.2.1, h2.2.2.1, List.append_assoc], h1.2.2.2, h2.2.2.2⟩
    · exact absurd h2.2.1 h1.1
  · exact .inr h2

theorem Ok1.mono {st st' : St} {B : List UInt8} {P P' : Prop} (h : Ok1 st st' B P) (hp : P → P') : Ok1 st st' B P' := h.imp (fun h => ⟨h.1, h.2.1, h.2.2.1, hp h.2.2.2⟩) id
theorem Ok1.bytes {st st' : St} {B B' : List UInt8} {P : Prop} (h : Ok1 st st' B P) (hp : P → B = B') : Ok1 st st' B' P := by
  rcases h with ⟨h1, h2, h3, h4⟩ | h
  · exact .inl ⟨h1, h2, by rw [h3, hp h4], h4⟩
  · exact .inr h
theorem Ok1.refl {st : St} (h : Cl st) : Ok1 st st [] True := by
  by_cases e : st.2 = 0
  · exact .inl ⟨e, e, rfl, trivial⟩
  · exact .inr ⟨e, h e⟩

theorem ok_num2 (st : St) (h : Cl st) : Ok1 st (numS st 2).2 (be2 (numS st 2).1) True := by
  rcases numS_two st.1 st.2 2 h with ⟨h1, h2, h3, h4, h5⟩ | ⟨h1, h2, h3, h4⟩
  · refine .inl ⟨h1, h2, ?_, trivial⟩
    rw [show numS st 2 = numS (st.1, st.2) 2 from rfl, h4, h5, be2_beNum _ (by rw [List.length_take]; omega), List.take_append_drop]
  · exact .inr ⟨h1, h2⟩
theorem ok_num4 (st : St) (h : Cl st) : Ok1 st (numS st 4).2 (be4 (numS st 4).1) True := by
  rcases numS_two st.1 st.2 4 h with ⟨h1, h2, h3, h4, h5⟩ | ⟨h1, h2, h3, h4⟩
  · refine .inl ⟨h1, h2, ?_, trivial⟩
    rw [show numS st 4 = numS (st.1, st.2) 4 from rfl, h4, h5, be4_beNum _ (by rw [List.length_take]; omega), List.take_append_drop]
  · exact .inr ⟨h1, h2⟩

theorem ok_fail (st : St) (c : Int) (h : Cl st) : Ok1 st (failS st c) [] (c = 0) := by
  unfold failS
  by_cases e : st.2 = 0
  · by_cases hc : c = 0
    · rw [if_pos (.inl hc)]; exact .inl ⟨e, e, rfl, hc⟩
    · rw [if_neg (by rintro (h | h); exact hc h; exact h e)]; exact .inr ⟨hc, rfl⟩
  · rw [if_pos (.inr e)]; exact .inr ⟨e, h e⟩

theorem ok_kind (st : St) (h : Cl st) : Ok1 st (kindS st).2 (be2 (kindS st).1) ((kindS st).1 ≤ 7) := by
  have h1 := ok_num2 st h
  unfold kindS
  by_cases h8 : 8 ≤ (numS st 2).1
  · rw [if_pos h8]
    have h2 := ok_fail (numS st 2).2 5 h1.cl
    rcases h2 with h2 | h2
    · exact absurd h2.2.2.2 (by decide)
    · exact .inr h2
  · rw [if_neg h8]
    exact h1.mono (fun _ => by omega)

theorem ok_words : ∀ (n : Nat) (st : St), Cl st → Ok1 st (wordsS n st).2 (memE (wordsS n st).1) True
  | 0, st, h => Ok1.refl h
  | n + 1, st, h => by
    have h1 := ok_words n st h
    have h2 := h1.seq (ok_num2 (wordsS n st).2)
    refine (h2.mono (fun _ => trivial)).bytes (fun _ => ?_)
    rw [show (wordsS (n + 1) st).1 = (wordsS n st).1 ++ [((numS (wordsS n st).2 2).1 : Int)] from rfl, memE_append]
    show _ = _ ++ (be2 ((numS (wordsS n st).2 2).1 : Int).toNat ++ [])
    rw [List.append_nil, Int.toNat_natCast]

theorem ok_within (st : St) (m : Int) (h : Cl st) : Ok1 st (withinS st m).2 (be2 (withinS st m).1) (((withinS st m).1 : Int) ≤ m) := by
  rcases withinS_two st.1 st.2 m h with ⟨h1, h2, h3, h4, h5, h6⟩ | ⟨h1, h2, h3, h4⟩
  · refine .inl ⟨h1, h2, ?_, h5⟩
    rw [show withinS st m = withinS (st.1, st.2) m from rfl, h4, h6, be2_beNum _ (by rw [List.length_take]; omega), List.take_append_drop]
  · exact .inr ⟨h1, h2⟩

theorem ok_memb (st : St) (h : Cl st) : Ok1 st (membS st).2 (be2 (membS st).1.length ++ memE (membS st).1) (chkM (membS st).1 = 0) := by
  have h1 := ok_within st 16 h
  have h2 := h1.seq (ok_words (withinS st 16).1 (withinS st 16).2)
  have h3 := h2.seq (ok_fail _ (chkM (wordsS (withinS st 16).1 (withinS st 16).2).1))
  refine (h3.mono (fun h => h.2)).bytes (fun _ => ?_)
  rw [List.append_nil]
  show _ = be2 (wordsS (withinS st 16).1 (withinS st 16).2).1.length ++ _
  rw [wordsS_length]
  rfl

theorem ok_view (st : St) (h : Cl st) : Ok1 st (viewS st).2 (viewB (viewS st).1.1 (viewS st).1.2) True := by
  have h1 := ok_num4 st h
  have h2 := h1.seq (ok_within (numS st 4).2 16)
  have h3 := h2.seq (ok_words (withinS (numS st 4).2 16).1 (withinS (numS st 4).2 16).2)
  refine (h3.mono (fun _ => trivial)).bytes (fun _ => ?_)
  show _ = be4 ((numS st 4).1 : Int).toNat ++ be2 (wordsS (withinS (numS st 4).2 16).1 (withinS (numS st 4).2 16).2).1.length ++ memE _
  rw [wordsS_length, Int.toNat_natCast]
  rfl

theorem ok_ballot (st : St) (h : Cl st) : Ok1 st (ballotS st).2 (be4 (ballotS st).1.1.toNat ++ be2 (ballotS st).1.2.toNat) True :=
  ((ok_num4 st h).seq (ok_num2 (numS st 4).2)).mono (fun _ => trivial)

theorem ok_text (st : St) (h : Cl st) : Ok1 st (textS st 4000).2 (txt (textS st 4000).1) ((textS st 4000).1.length ≤ 4000) := by
  rcases textS_two st.1 st.2 4000 h with ⟨h1, h2, h3, h4, h5⟩ | ⟨h1, h2, h3, h4⟩
  · exact .inl ⟨h1, h2, h3, by have := h4; rw [show textS (st.1, st.2) 4000 = textS st 4000 from rfl] at this; omega⟩
  · exact .inr ⟨h1, h2⟩

theorem ok_call (st : St) (h : Cl st) : Ok1 st (takeS st).2 (callB (takeS st).1.1 (takeS st).1.2.1 (takeS st).1.2.2.1 (takeS st).1.2.2.2) ((takeS st).1.2.2.2.length ≤ 4000) := by
  have h1 := ok_num2 st h
  have h2 := h1.seq (ok_num2 (numS st 2).2)
  have h3 := h2.seq (ok_num2 (numS (numS st 2).2 2).2)
  have h4 := h3.seq (ok_text (numS (numS (numS st 2).2 2).2 2).2)
  unfold takeS callB
  simp only [Int.toNat_natCast]
  exact h4.mono (fun h => h.2)

theorem ok_ans (st : St) (h : Cl st) : Ok1 st (takeAS st).2 (ansB (takeAS st).1.1 (takeAS st).1.2.1 (takeAS st).1.2.2) ((takeAS st).1.2.2.length ≤ 4000) := by
  have h1 := ok_num2 st h
  have h2 := h1.seq (ok_num2 (numS st 2).2)
  have h4 := h2.seq (ok_text (numS (numS st 2).2 2).2)
  unfold takeAS ansB
  simp only [Int.toNat_natCast]
  exact h4.mono (fun h => h.2)

theorem ok_callC (st : St) (h : Cl st) : Ok1 st (takeS st).2 (callB (callC st).1 (callC st).2.1 (callC st).2.2.1 (callC st).2.2.2) True := by
  have h1 := ok_call st h
  by_cases h0 : (takeS st).2.2 = 0
  · unfold callC
    rw [if_pos h0]
    dsimp only
    exact h1.mono (fun _ => trivial)
  · rcases h1 with h1 | h1
    · exact absurd h1.1 h0
    · exact .inr h1

theorem ok_ansC (st : St) (h : Cl st) : Ok1 st (takeAS st).2 (ansB (ansC st).1 (ansC st).2.1 (ansC st).2.2) True := by
  have h1 := ok_ans st h
  by_cases h0 : (takeAS st).2.2 = 0
  · unfold ansC
    rw [if_pos h0]
    dsimp only
    exact h1.mono (fun _ => trivial)
  · rcases h1 with h1 | h1
    · exact absurd h1.1 h0
    · exact .inr h1

theorem entAS_ok (st : St) (h : Cl st) : Ok1 st (entAS st).2 (entB (entAS st).1) True := by
  have h1 := ok_num2 st h
  unfold entAS
  by_cases e0 : (numS st 2).1 = 0
  · rw [if_pos e0]
    refine (h1.mono (fun _ => trivial)).bytes (fun _ => ?_)
    rw [e0]; rfl
  rw [if_neg e0]
  by_cases e1 : (numS st 2).1 = 1
  · rw [if_pos e1]
    dsimp only
    have h2 := h1.seq (ok_call (numS st 2).2)
    by_cases h0 : (takeS (numS st 2).2).2.2 = 0
    · refine (h2.mono (fun _ => trivial)).bytes (fun _ => ?_)
      have e : callT (numS st 2).2 = ⟨1, (takeS (numS st 2).2).1.1, (takeS (numS st 2).2).1.2.1, (takeS (numS st 2).2).1.2.2.1, (takeS (numS st 2).2).1.2.2.2, []⟩ := by unfold callT; rw [if_pos h0]
      rw [e, e1]
      generalize (takeS (numS st 2).2).1 = z
      unfold entB
      dsimp only
      rw [if_pos rfl]
      rfl
    · rcases h2 with h2 | h2
      · exact absurd h2.1 h0
      · exact .inr h2
  rw [if_neg e1]
  by_cases e2 : (numS st 2).1 = 2
  · rw [if_pos e2]
    dsimp only
    have h2 := h1.seq (ok_memb (numS st 2).2)
    refine (h2.mono (fun _ => trivial)).bytes (fun _ => ?_)
    rw [e2]
    generalize (membS (numS st 2).2).1 = z
    unfold entB
    dsimp only
    rw [if_neg (by decide), if_pos rfl]
    rfl
  rw [if_neg e2]
  have h2 := ok_fail (numS st 2).2 5 h1.cl
  rcases h2 with h2 | h2
  · exact absurd h2.2.2.2 (by decide)
  · exact .inr h2

theorem ok_ent (st : St) (h : Cl st) : Ok1 st (entS st).2 (entB (entS st).1) True := by
  have h1 := entAS_ok st h
  by_cases h0 : (entAS st).2.2 = 0
  · unfold entS; rw [if_pos h0]; exact h1
  · rcases h1 with h1 | h1
    · exact absurd h1.1 h0
    · refine .inr ?_
      unfold entS; rw [if_neg h0]; exact h1

/-! The letter. -/
theorem has_of (k : Int) (s v : Bool) : hasE k s 1 = hasE k v 1 ∧ hasE k s 2 = hasE k v 2 ∧ hasE k s 4 = hasE k v 4 := by
  obtain ⟨a1, a2, a3⟩ := has_small k s
  obtain ⟨b1, b2, b3⟩ := has_small k v
  exact ⟨a1.trans b1.symm, a2.trans b2.symm, a3.trans b3.symm⟩

theorem ok_rd0 (st : St) (h : Cl st) : Ok1 st (rdS 0 st).2 (ltU (rdS 0 st).1 0) True := by
  have h1 := ok_kind st h
  have h2 := h1.seq (ok_num2 (kindS st).2)
  have h3 := h2.seq (ok_num2 (numS (kindS st).2 2).2)
  refine (h3.mono (fun _ => trivial)).bytes (fun _ => ?_)
  rfl

theorem ok_next {st : St} {i : Nat} {Y Y' : Lt} {T T' : St} (e : rdS i st = (Y, T)) (e' : rdS (i + 1) st = (Y', T')) (h : Ok1 st (rdS i st).2 (ltU (rdS i st).1 i) True) (hu : ltU Y' i = ltU Y i) (hs : Cl T → Ok1 T T' (ltP Y' (i + 1)) True) : Ok1 st (rdS (i + 1) st).2 (ltU (rdS (i + 1) st).1 (i + 1)) True := by
  rw [e] at h
  rw [e']
  refine ((h.seq hs).mono (fun _ => trivial)).bytes (fun _ => ?_)
  show ltU Y i ++ ltP Y' (i + 1) = ltU Y' i ++ ltP Y' (i + 1)
  rw [hu]

theorem ok_rd1 (st : St) (h : Cl st) : Ok1 st (rdS 1 st).2 (ltU (rdS 1 st).1 1) True := by
  have h0 := ok_rd0 st h
  obtain ⟨q, hq⟩ : ∃ q, q = rdS 0 st := ⟨_, rfl⟩
  have e1 : rdS 1 st = rdP 1 q := by rw [hq]; rfl
  by_cases hh : hasE q.1.k q.1.s 1 = true
  · rw [rdP, if_pos hh] at e1
    exact ok_next hq.symm e1 h0 rfl (fun hc => by rw [ltP, if_pos hh]; (try dsimp only); exact ok_num4 q.2 hc)
  · rw [rdP, if_neg hh] at e1
    exact ok_next hq.symm e1 h0 rfl (fun hc => by rw [ltP, if_neg hh]; exact Ok1.refl hc)
theorem ok_rd2 (st : St) (h : Cl st) : Ok1 st (rdS 2 st).2 (ltU (rdS 2 st).1 2) True := by
  have h0 := ok_rd1 st h
  obtain ⟨q, hq⟩ : ∃ q, q = rdS 1 st := ⟨_, rfl⟩
  have e1 : rdS 2 st = rdP 2 q := by rw [hq]; rfl
  by_cases hh : hasE q.1.k q.1.s 2 = true
  · rw [rdP, if_pos hh] at e1
    exact ok_next hq.symm e1 h0 rfl (fun hc => by rw [ltP, if_pos hh]; (try dsimp only); exact ok_ballot q.2 hc)
  · rw [rdP, if_neg hh] at e1
    exact ok_next hq.symm e1 h0 rfl (fun hc => by rw [ltP, if_neg hh]; exact Ok1.refl hc)
theorem ok_rd3 (st : St) (h : Cl st) : Ok1 st (rdS 3 st).2 (ltU (rdS 3 st).1 3) True := by
  have h0 := ok_rd2 st h
  obtain ⟨q, hq⟩ : ∃ q, q = rdS 2 st := ⟨_, rfl⟩
  have e1 : rdS 3 st = rdP 3 q := by rw [hq]; rfl
  by_cases hh : hasE q.1.k q.1.s 4 = true
  · rw [rdP, if_pos hh] at e1
    obtain ⟨v, hv⟩ : ∃ v, v = ((withinS q.2 1).1 : Int) := ⟨_, rfl⟩
    have hu : ltU { q.1 with s := v == 1 } 2 = ltU q.1 2 := by
      obtain ⟨a1, a2, a3⟩ := has_of q.1.k (v == 1) q.1.s
      simp only [ltU, ltP, a1, a2]
    rw [← hv] at e1
    refine ok_next hq.symm e1 h0 hu (fun hc => ?_)
    rw [ltP, if_pos (by rw [(has_of q.1.k (v == 1) q.1.s).2.2]; exact hh)]
    refine ((ok_within q.2 1 hc).bytes (fun hle => ?_)).mono (fun _ => trivial)
    unfold boolB
    show _ = be2 (if (v == 1) = true then 1 else 0)
    rw [hv]
    rcases (show (withinS q.2 1).1 = 0 ∨ (withinS q.2 1).1 = 1 by omega) with e | e
    · rw [e]; rfl
    · rw [e]; rfl
  · rw [rdP, if_neg hh] at e1
    exact ok_next hq.symm e1 h0 rfl (fun hc => by rw [ltP, if_neg hh]; exact Ok1.refl hc)
theorem ok_rd4 (st : St) (h : Cl st) : Ok1 st (rdS 4 st).2 (ltU (rdS 4 st).1 4) True := by
  have h0 := ok_rd3 st h
  obtain ⟨q, hq⟩ : ∃ q, q = rdS 3 st := ⟨_, rfl⟩
  have e1 : rdS 4 st = rdP 4 q := by rw [hq]; rfl
  by_cases hh : hasE q.1.k q.1.s 8 = true
  · rw [rdP, if_pos hh] at e1
    exact ok_next hq.symm e1 h0 rfl (fun hc => by rw [ltP, if_pos hh]; (try dsimp only); exact ok_ballot q.2 hc)
  · rw [rdP, if_neg hh] at e1
    exact ok_next hq.symm e1 h0 rfl (fun hc => by rw [ltP, if_neg hh]; exact Ok1.refl hc)
theorem ok_rd5 (st : St) (h : Cl st) : Ok1 st (rdS 5 st).2 (ltU (rdS 5 st).1 5) True := by
  have h0 := ok_rd4 st h
  obtain ⟨q, hq⟩ : ∃ q, q = rdS 4 st := ⟨_, rfl⟩
  have e1 : rdS 5 st = rdP 5 q := by rw [hq]; rfl
  by_cases hh : hasE q.1.k q.1.s 16 = true
  · rw [rdP, if_pos hh] at e1
    exact ok_next hq.symm e1 h0 rfl (fun hc => by rw [ltP, if_pos hh]; (try dsimp only); exact ok_ent q.2 hc)
  · rw [rdP, if_neg hh] at e1
    exact ok_next hq.symm e1 h0 rfl (fun hc => by rw [ltP, if_neg hh]; exact Ok1.refl hc)
theorem ok_rd6 (st : St) (h : Cl st) : Ok1 st (rdS 6 st).2 (ltU (rdS 6 st).1 6) True := by
  have h0 := ok_rd5 st h
  obtain ⟨q, hq⟩ : ∃ q, q = rdS 5 st := ⟨_, rfl⟩
  have e1 : rdS 6 st = rdP 6 q := by rw [hq]; rfl
  by_cases hh : hasE q.1.k q.1.s 32 = true
  · rw [rdP, if_pos hh] at e1
    exact ok_next hq.symm e1 h0 (by simp only [ltU, ltP]) (fun hc => by rw [ltP, if_pos hh]; (try dsimp only); exact ok_callC q.2 hc)
  · rw [rdP, if_neg hh] at e1
    exact ok_next hq.symm e1 h0 rfl (fun hc => by rw [ltP, if_neg hh]; exact Ok1.refl hc)
theorem ok_rd7 (st : St) (h : Cl st) : Ok1 st (rdS 7 st).2 (ltB (rdS 7 st).1) True := by
  have h0 := ok_rd6 st h
  obtain ⟨q, hq⟩ : ∃ q, q = rdS 6 st := ⟨_, rfl⟩
  have e1 : rdS 7 st = rdP 7 q := by rw [hq]; rfl
  by_cases hh : hasE q.1.k q.1.s 64 = true
  · rw [rdP, if_pos hh] at e1
    refine ok_next hq.symm e1 h0 (by simp only [ltU, ltP]) (fun hc => ?_)
    rw [ltP, if_pos hh]
    dsimp only
    have h1 := ok_num2 q.2 hc
    have h2 := h1.seq (ok_num2 (numS q.2 2).2)
    have h3 := h2.seq (ok_view (numS (numS q.2 2).2 2).2)
    have h4 := h3.seq (ok_ansC (viewS (numS (numS q.2 2).2 2).2).2)
    exact h4.mono (fun _ => trivial)
  · rw [rdP, if_neg hh] at e1
    exact ok_next hq.symm e1 h0 rfl (fun hc => by rw [ltP, if_neg hh]; exact Ok1.refl hc)
end
end Go.Proofs.Ytdkndahldcdbgaa
