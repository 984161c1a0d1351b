/-
  The law CachePlays, walked.
-/
import Derived.Test.YtefijimijmjahaaCachePlaysDef
import Derived.Deep.Cut
import Derived.Deep.CutRange
import Derived.Deep.CutBlock
import Derived.Deep.LoopGhost
import Derived.IntWalk
namespace Go.Proofs.Ytefijimijmjahaa
open Go.RowKit
set_option maxRecDepth 100000

abbrev oAct (t n : Int) (b : Bool) (e r : Int) (v : Value) : Obj := Obj.cells #[.int .u8 t, .int .u8 n, .bool b, .int .u16 e, .int .u16 r, v] 34 (0, 0)

theorem cell6 {w : World} {b : Nat} {x0 x1 x2 x3 x4 x5 : Value} {t : TypeId} (h : w.heap[b]? = some (.cells #[x0, x1, x2, x3, x4, x5] t (0, 0))) :
    w.cell? ⟨b, 0, none⟩ = some x0 ∧ w.cell? ⟨b, 1, none⟩ = some x1 ∧ w.cell? ⟨b, 2, none⟩ = some x2 ∧ w.cell? ⟨b, 3, none⟩ = some x3 ∧ w.cell? ⟨b, 4, none⟩ = some x4 ∧ w.cell? ⟨b, 5, none⟩ = some x5 := by
  simp [World.cell?, h]

set_option maxHeartbeats 16000000 in
theorem plays_law (m : Int) (hm0 : 0 ≤ m) (hm1 : m ≤ 255) (l : List AcE) (v : Value) (w : World) (hv : ActsV w l v) :
    Calls Try.prog 3 #[.int .u8 m, v] w fun z w' => z = .returned (.bool true) ∧ Fr (fun _ => False) w w' := by
  obtain ⟨K, hK⟩ : ∃ K : Nat, 1 + m % 12 = K := ⟨(1 + m % 12).toNat, by omega⟩
  have hKb : 1 ≤ K ∧ K ≤ 12 := by omega
  have HK := Lib.hid hKb; clear hKb
  have hmm := @run_makeMap Try.prog
  obtain ⟨av, cv', hshape, hacts⟩ : ∃ a c, v = .slice a l.length c ∧ ∀ j x, l[j]? = some x → AcOk w x ∧ ∃ g off, a = some ⟨g, off, none⟩ ∧ ∀ i v, x.cells[i]? = some v → w.cell? ⟨g, off + j * 6 + i, none⟩ = some v := by
    rcases hv with ⟨rfl, a, c, rfl⟩ | ⟨g, off, cap, rfl, hle, h⟩
    · exact ⟨a, c, rfl, fun j x hj => by simp at hj⟩
    · exact ⟨_, _, rfl, fun j x hj => ⟨(h j x hj).1, g, off, rfl, (h j x hj).2⟩⟩
  subst hshape
  have HA := Lib.hid hacts; clear hacts hv
  go_enter Try.func3, Try.ntmps3
  go_wp2_with fail
  refine (cacheAwake_any _).mono ?_
  rintro z w1 ⟨rfl, f1⟩
  have F1 := Lib.hid f1; clear f1
  by_cases hl1 : l.length ≤ 100
  case neg =>
    have hg1 : (100 : Int) < (l.length : Int) := by omega
    go_wp2_with fail
    go_ret
    exact ⟨rfl, F1.out⟩
  have hg1 : ¬ (100 : Int) < (l.length : Int) := by omega
  go_wp2_with fail
  refine (cnew_any K _).mono ?_
  have hcl : clampM K = K := by have := HK.out; unfold clampM; omega
  rw [hcl]
  clear hcl
  rintro z w2 ⟨b, rfl, hc, f2⟩
  go_wp2_with fail
  clear hK hm0 hm1 hmm hg1
  have m0 := mapAt_new w2
  have f3 : Fr (fun _ => False) (w2.alloc (.map #[] 0)) ((w2.alloc (.map #[] 0)).alloc (.map #[] 0)) := (Fr.refl _ _).alloc _
  have m1 := mapAt_new (w2.alloc (.map #[] 0))
  rw [World.size_alloc] at m1
  have f23 : Fr (fun _ => False) w2 ((w2.alloc (.map #[] 0)).alloc (.map #[] 0)) := ((Fr.refl _ _).alloc _).alloc _
  have hinv : PlayInv w ((w2.alloc (.map #[] 0)).alloc (.map #[] 0)) K b w2.heap.size (w2.heap.size + 1) [] (fun k => w1.heap.size ≤ k ∧ k < w2.heap.size) (.slice none 0 0) :=
    ⟨hc.fr0 f23, m0.fr f3 (fun h => h), (by simpa [keptE] using m1), .inl ⟨(by simp [keptE]), rfl⟩, (by simp), fun k hk => ⟨Nat.le_trans F1.out.size hk.1, Nat.lt_of_lt_of_le hk.2 f23.size⟩, ⟨Nat.le_trans F1.out.size f2.size, (by have := F1.out.size; have := f2.size; omega), (by omega), (by omega), (by omega)⟩, (fun k hk => by cases hk), (by simp), (F1.out.trans f2 (fun _ _ h => h)).trans f23 (fun _ _ h => h)⟩
  generalize (w2.alloc (.map #[] 0)).alloc (.map #[] 0) = w3 at *
  generalize w2.heap.size + 1 = km at *
  generalize w2.heap.size = sm at *
  clear m0 m1 f3 f23 hc f2
  go_loopg [9, 32] l.length (fun g o i wr => ∃ (j : Nat) (es : List Ent) (F : Nat → Prop), j ≤ l.length ∧ g = l.length - j ∧ i = .int .i64 j ∧ es.length ≤ j ∧ PlayInv w wr K b sm km es F o)
  case atStart => exact ⟨0, [], _, Nat.zero_le _, rfl, rfl, Nat.le_refl _, hinv⟩
  case round =>
    clear hinv F1
    obtain ⟨j, es, F, hjn, rfl, rfl, hes, hi⟩ := hrel
    by_cases hlt : j < l.length
    case neg =>
      obtain rfl : l.length = j := by omega
      have HI := Lib.hid hi; clear hi
      go_wp2_with fail
      go_ret
      exact ⟨rfl, HI.out.fr⟩
    obtain ⟨x, hx⟩ : ∃ x, l[j]? = some x := ⟨_, List.getElem?_eq_getElem hlt⟩
    obtain ⟨hok, ga, oa, rfl, hcell⟩ := HA.out j x hx
    have hj100 : j < 100 := by omega
    obtain ⟨t, n, look, e, r, lb, sa, sc⟩ := x
    obtain ⟨⟨ht, hn⟩, ⟨he0, hr0⟩, hs, hlb⟩ := hok
    simp only [AcE.sl] at *
    have hcl : ∀ i v, (AcE.mk t n look e r lb sa sc).cells[i]? = some v → wr.cell? ⟨ga, oa + j * 6 + i, none⟩ = some v := fun i v hi' => by
      rw [hi.fr.cell (World.block_lt_of_cell? w _ (hcell i v hi')) (fun h => h)]
      exact hcell i v hi'
    have c0 := hcl 0 _ rfl
    have c1 := hcl 1 _ rfl
    have c2 := hcl 2 _ rfl
    have c3 := hcl 3 _ rfl
    have c4 := hcl 4 _ rfl
    have c5 := hcl 5 _ rfl
    simp only [AcE.sl, Nat.add_zero] at c0 c1 c2 c3 c4 c5
    have HS := Lib.hid hs
    have HER := Lib.hid (And.intro he0 hr0)
    have HLB : Hid (lb.length ≤ 140737488351232) := Lib.hid hlb
    have HI := Lib.hid hi
    have HES := Lib.hid hes
    clear hcl hcell hx hs he0 hr0 hlb hi hes
    obtain ⟨ovn, ovc, ho⟩ : ∃ a c, u9 = .slice a (keptE K es).length c := by
      obtain ⟨a, c, h⟩ := HI.out.order.shape
      rw [List.length_map] at h
      exact ⟨a, c, h⟩
    go_upto_region 14 with fail
    have hy : IdOk (t % 2, n % 20) := by unfold IdOk; simp only; omega
    have q11 : ((wr.alloc (oAct t n look e r (.slice sa lb.length sc))).alloc (oId (t % 2, n % 20))).heap[wr.heap.size]? = some (oAct t n look e r (.slice sa lb.length sc)) := new_two_fst wr _ _
    have q12 : ((wr.alloc (oAct t n look e r (.slice sa lb.length sc))).alloc (oId (t % 2, n % 20))).heap[wr.heap.size + 1]? = some (.cells #[.int .u16 (t % 2), .int .u16 (n % 20)] 36 (0, 0)) := new_two wr _ _
    have f34 : Fr (fun _ => False) wr ((wr.alloc (oAct t n look e r (.slice sa lb.length sc))).alloc (oId (t % 2, n % 20))) := ((Fr.refl _ _).alloc _).alloc _
    have e0 : (wr.alloc (oAct t n look e r (.slice sa lb.length sc))).alloc (Obj.cells #[.int .u16 (t % 2), .int .u16 (n % 20)] 36 (0, 0)) = (wr.alloc (oAct t n look e r (.slice sa lb.length sc))).alloc (oId (t % 2, n % 20)) := rfl
    rw [e0]
    clear e0
    generalize (wr.alloc (oAct t n look e r (.slice sa lb.length sc))).alloc (oId (t % 2, n % 20)) = w4 at *
    obtain ⟨y1, hy1⟩ : ∃ y1, y1 = t % 2 := ⟨_, rfl⟩
    obtain ⟨y2, hy2⟩ : ∃ y2, y2 = n % 20 := ⟨_, rfl⟩
    rw [← hy1, ← hy2] at hy q12 ⊢
    clear hy1 hy2
    generalize hgA : wr.heap.size = gA at *
    have HGA := Lib.hid (show gA < w4.heap.size ∧ gA + 1 < w4.heap.size from ⟨(Array.getElem?_eq_some_iff.1 q11).1, (Array.getElem?_eq_some_iff.1 q12).1⟩)
    have HY := Lib.hid hy; clear hy
    have HI4 := Lib.hid (HI.out.fr0 f34)
    have HFA := Lib.hid (show (∀ k, F k → k < gA) ∧ sm < gA ∧ km < gA ∧ ∀ k, u9.ownBlock = some k → k < gA from ⟨fun k hk => by rw [← hgA]; exact (HI.out.base k hk).2, by rw [← hgA]; exact HI.out.seen.lt, by rw [← hgA]; exact HI.out.kept.lt, by rw [← hgA]; exact HI.out.order.lt⟩)
    clear f34 HI hgA c0 c1 c2 c3 c4 c5
    obtain ⟨ek, rk, lk, vk, B, hlook, hsk, ⟨ak, ck, rfl⟩, hA, hB⟩ := HI4.out.look_kept HY.out
    have hget0 := fun (wx : World) (f : Fr (fun _ => False) w4 wx) => cget_any (HI4.out.cache.fr0 f) (y1, y2) HY.out
    rw [hA, hB] at hget0
    simp only at hget0
    unfold kv av at hlook hget0
    have HGT := Lib.hid hget0
    have HSK := Lib.hid hsk
    clear hget0 hsk hA hB
    obtain ⟨d0, d1⟩ : w4.cell? ⟨gA + 1, 0, none⟩ = some (.int .u16 y1) ∧ w4.cell? ⟨gA + 1, 1, none⟩ = some (.int .u16 y2) := by simp [World.cell?, q12]
    go_upto_region 15 with fail
    have f45 : Fr (fun _ => False) w4 (w4.alloc (oAns ek rk (.slice ak lk.length ck))) := (Fr.refl _ _).alloc _
    have q13 := heap_alloc_new w4 (oAns ek rk (.slice ak lk.length ck))
    generalize w4.alloc (oAns ek rk (.slice ak lk.length ck)) = w5 at *
    generalize hg13 : w4.heap.size = g13 at *
    have h15 := HGT.out w5 f45
    have p12 := crow_kept q12 f45 (fun h => h)
    clear hlook d0 d1
    obtain ⟨d0, d1⟩ : w5.cell? ⟨gA + 1, 0, none⟩ = some (.int .u16 y1) ∧ w5.cell? ⟨gA + 1, 1, none⟩ = some (.int .u16 y2) := by simp [World.cell?, p12]
    have H15 := Lib.hid h15
    have HQ := Lib.hid (And.intro (crow_kept q11 f45 (fun h => h)) (And.intro p12 q13))
    have HF5 := Lib.hid f45
    have HG13 := Lib.hid hg13
    clear h15 p12 q11 q12 q13 f45 HGT hg13
    go_wp2_with fail
    refine H15.out.mono ?_
    rintro z w6 ⟨v', rfl, hm, _⟩
    obtain ⟨a6, c6, rfl⟩ := slice_of_own hm.1
    have HM := Lib.hid hm; clear hm
    clear H15 d0 d1
    go_upto_region 16 with fail
    have f67 : Fr (fun _ => False) w6 (w6.alloc (oAns ek rk (.slice a6 lk.length c6))) := (Fr.refl _ _).alloc _
    have q15 := heap_alloc_new w6 (oAns ek rk (.slice a6 lk.length c6))
    generalize w6.alloc (oAns ek rk (.slice a6 lk.length c6)) = w7 at *
    generalize w6.heap.size = g15 at *
    have f57 := HM.out.2.1.trans f67 (fun _ _ h => h)
    have HQ7 := Lib.hid (And.intro (crow_kept HQ.out.1 f57 (fun h => h)) (And.intro (crow_kept HQ.out.2.1 f57 (fun h => h)) (And.intro (crow_kept HQ.out.2.2 f57 (fun h => h)) q15)))
    have f47 := HF5.out.trans f57 (fun _ _ h => h)
    have HI7 := Lib.hid (HI4.out.fr0 f47)
    have HS7 := Lib.hid (And.intro (HSK.out.fr f47 (fun _ _ h => h)) (HM.out.1.sees.fr f67 (fun _ _ h => h)))
    have HGA7 := Lib.hid (show gA < w7.heap.size ∧ gA + 1 < w7.heap.size from ⟨Nat.lt_of_lt_of_le HGA.out.1 (by rw [← HG13.out]; exact Nat.le_trans (by rw [HG13.out]; exact Nat.le_refl _) (f47.size)), Nat.lt_of_lt_of_le HGA.out.2 (by rw [← HG13.out]; exact Nat.le_trans (by rw [HG13.out]; exact Nat.le_refl _) (f47.size))⟩)
    clear f67 f57 f47 q15 HQ HF5 HM HI4 HSK HGA HG13
    obtain ⟨S, hS⟩ : ∃ S, S = decide ((y1, y2) ∈ es.map Ent.id) := ⟨_, rfl⟩
    have hse0 := fun (wx : World) (f : Fr (fun _ => False) w7 wx) => cseen_any (HI7.out.cache.fr0 f) (y1, y2) HY.out
    rw [ids_an, ← hS] at hse0
    have hlk0 := fun (wx : World) (f : Fr (fun _ => False) w7 wx) => (HI7.out.fr0 f).look_seen HY.out
    rw [← hS] at hlk0
    have hal0 := fun (wx : World) (f : Fr (fun _ => False) w7 wx) => alike_any ek rk ek rk _ _ lk lk wx (HS7.out.1.fr f (fun _ _ h => h)) (HS7.out.2.fr f (fun _ _ h => h))
    unfold kv av at *
    simp only [and_self, decide_true] at hal0
    have HSE := Lib.hid hse0
    have HLK := Lib.hid hlk0
    have HAL := Lib.hid hal0
    have HSS := Lib.hid hS
    clear hse0 hlk0 hal0 hS
    refine wp_region_told (by kernel_rfl) (fun a b => Fr (fun _ => False) a b) (fun w => Fr.refl _ w) (fun _ _ _ h k => h.trans k (fun _ _ h => h)) [57, 58, 59, 60, 61, 62, 63, 64, 65, 66, 67, 68, 69, 70, 71, 72, 73, 74] rfl (by decide) (by intro d hd; simp at hd ⊢; omega)
      (fun i v _ => v = ([(.bool B), (.bool B), (.bool false), (.bool false), (.agg #[.int .i64 ek, .int .i64 rk, .slice ak lk.length ck]), (.agg #[.int .i64 ek, .int .i64 rk, .slice a6 lk.length c6]), (.bool true), (.bool false), (.bool false), (.bool false), (.pointer (some ⟨b, 0, none⟩)), (.agg #[.int .u16 y1, .int .u16 y2]), (.bool S), (.map (some sm)), (.agg #[.int .u16 y1, .int .u16 y2]), (.bool S), (.bool false), (.bool false)] : List Value).getD i undef)
      (fun _ _ _ _ _ h => h) (by kernel_rfl) ?step16 ?fin16
    case step16 =>
      intro vals
      simp only [frOf, fill, List.setIfInBounds_toArray, List.set_cons_succ, List.set_cons_zero]
      repeat' (first | exact AllOps.nil | refine AllOps.cons ?_ ?_)
      all_goals
        intro wx hle he K' hK
        simp only [Act.put, List.setIfInBounds_toArray, List.set_cons_succ, List.set_cons_zero, List.getD_cons_zero, List.getD_cons_succ] at hK
        simp only [List.mem_cons, List.not_mem_nil, or_false, forall_eq_or_imp, forall_eq, Region.binds, forall_const, false_imp_iff, List.getD_cons_zero, List.getD_cons_succ] at he
        try simp only [he] at hK ⊢
        have hl5 := Fr.trans (Fr.drew (Fr.refl (fun _ => False) w7)) hle (fun _ _ h => h)
        have hl8 := Lib.hid hl5
        obtain ⟨d0, d1⟩ : wx.cell? ⟨gA + 1, 0, none⟩ = some (.int .u16 y1) ∧ wx.cell? ⟨gA + 1, 1, none⟩ = some (.int .u16 y2) := by simp [World.cell?, crow_kept HQ7.out.2.1 hl5 (fun h => h)]
        obtain ⟨k0, k1, k2⟩ := cell3 (crow_kept HQ7.out.2.2.1 hl5 (fun h => h))
        obtain ⟨m0, m1, m2⟩ := cell3 (crow_kept HQ7.out.2.2.2 hl5 (fun h => h))
        have hlk := HLK.out wx hl5
        clear hl5 hle he
        try go_simp
      all_goals first
        | exact hK _ _ (Fr.refl _ _) rfl
        | skip
      · go_at_call 10; refine (HAL.out _ hl8.out).mono ?_; rintro e1 wa ⟨rfl, fa⟩; exact hK _ _ fa rfl
      · go_at_call 11; refine (HSE.out _ hl8.out).mono ?_; rintro e1 wa ⟨rfl, fa⟩; exact hK _ _ fa rfl
    case fin16 =>
      intro vals w8 hle hV
      have h17 : vals 17 = .bool false := hV 17 (by decide)
      have f78 := Fr.trans (Fr.drew (Fr.refl (fun _ => False) w7)) hle (fun _ _ h => h)
      clear hV hle
      simp only [frOf, fill, List.setIfInBounds_toArray, List.set_cons_succ, List.set_cons_zero, Nat.reduceAdd]
      rw [h17]
      clear h17
      have HQ8 := Lib.hid (And.intro (crow_kept HQ7.out.1 f78 (fun h => h)) (crow_kept HQ7.out.2.1 f78 (fun h => h)))
      have HI8 := Lib.hid (HI7.out.fr0 f78)
      have HGA8 := Lib.hid (show gA < w8.heap.size ∧ gA + 1 < w8.heap.size from ⟨Nat.lt_of_lt_of_le HGA7.out.1 f78.size, Nat.lt_of_lt_of_le HGA7.out.2 f78.size⟩)
      clear f78 HQ7 HI7 HS7 HSE HLK HAL HGA7
      obtain ⟨c0, c1, c2, c3, c4, c5⟩ := cell6 HQ8.out.1
      go_upto_region 18 with fail
      subst ho
      cases look
      case true =>
        clear c0 c1 c3 c4 c5
        go_upto_region 27 with fail
        obtain ⟨M, hM⟩ : ∃ M, M = min K (es).length := ⟨_, rfl⟩
        obtain ⟨N, hN⟩ : ∃ N, N = (es).length := ⟨_, rfl⟩
        have hkp := ckept_any HI8.out.cache
        have hmy := cmany_any HI8.out.cache
        rw [List.length_map] at hkp hmy
        have hl1 := fun ty => HI8.out.kept.len Try.underlying27 ty
        have hl2 := fun ty => HI8.out.seen.len Try.underlying26 ty
        simp only [List.length_map, keptE_length] at hl1 hl2
        rw [← hM] at hkp
        simp only [← hM] at hl1
        rw [← hN] at hmy
        simp only [← hN] at hl2
        have HKP := Lib.hid hkp
        have HMY := Lib.hid hmy
        clear hkp hmy hM hN
        go_wp2_with fail
        refine HKP.out.mono ?_
        rintro z wz ⟨rfl, rfl⟩
        go_wp2_with fail
        refine HMY.out.mono ?_
        rintro z wy ⟨rfl, rfl⟩
        go_wp2_with fail
        go_roundg (l.length - (j + 1))
        case measure => omega
        case rel => exact ⟨j + 1, es, F, by omega, rfl, by simp, (by have := HES.out; omega), HI8.out⟩
      case false =>
      go_upto_region 19 with fail
      cases S
      case true =>
        have HNB := Lib.hid (show decide ((y1, y2) ∉ es.map Ent.id) = false from decide_eq_false (fun h => h (of_decide_eq_true HSS.out.symm)))
        have HPA := Lib.hid (show putA (es.map Ent.an) (y1, y2) (e, r, lb) = es.map Ent.an from by unfold putA; rw [ids_an, if_pos (of_decide_eq_true HSS.out.symm)])
        clear c0 c1 c2 c3 c4 c5
        refine wp_region_chain (by kernel_rfl) [some 78, some 79, some 80, some 81, some 82, some 83, some 84, some 85, some 86, some 87] rfl (by decide) (by intro d hd; simp at hd ⊢; omega)
          [4, 5] (fun cvs wx => PAS w8 b K (putA (es.map Ent.an) (y1, y2) (e, r, lb)) F (.agg #[.int .i64 e, .int .i64 r, .slice sa lb.length sc]) cvs wx)
          [.free (.pointer (some ⟨b, 0, none⟩)), .free (.agg #[.int .u16 y1, .int .u16 y2]), .free (.pointer (some ⟨gA, 3, none⟩)), .free (.agg #[.int .u16 e, .int .u16 r, .slice sa lb.length sc]), .link (some (.agg #[.int .i64 e, .int .i64 r, .slice sa lb.length sc])), .link (some (.bool false)), .free (.map (some sm)), .free (.agg #[.int .u16 y1, .int .u16 y2]), .free (.bool true), .free (.bool false)]
          (by kernel_rfl) (by kernel_rfl) ?h19true ?step19true ?fin19true
        case h19true => exact (Fr.refl _ _).drew
        case step19true =>
          intro vals
          simp only [frOfU, fillU, List.setIfInBounds_toArray, List.set_cons_succ, List.set_cons_zero]
          repeat' (first | exact AllOps.nil | refine AllOps.cons ?_ ?_)
          all_goals
            intro cvs wx hS he hu hlim Kc hK
            simp only [Act.put, List.setIfInBounds_toArray, List.set_cons_succ, List.set_cons_zero, List.getD_cons_zero, List.getD_cons_succ] at hK
            simp only [List.mem_cons, List.not_mem_nil, or_false, forall_eq_or_imp, forall_eq, Region.binds, forall_const, qmode_gc, Bool.false_eq_true, false_imp_iff, List.getD_cons_zero, List.getD_cons_succ, OpSort.val, Option.some.injEq, forall_eq', reduceCtorEq, implies_true, true_and, and_true] at he
            have hfr := PAS.fr hS
            obtain ⟨d0, d1⟩ : wx.cell? ⟨gA + 1, 0, none⟩ = some (.int .u16 y1) ∧ wx.cell? ⟨gA + 1, 1, none⟩ = some (.int .u16 y2) := by simp [World.cell?, crow_kept HQ8.out.2 hfr (fun h => by have := HFA.out.1 _ h; omega)]
            obtain ⟨k0, k1, k2, k3, k4, k5⟩ := cell6 (crow_kept HQ8.out.1 hfr (fun h => by have := HFA.out.1 _ h; omega))
            have hlk := seenB_look (HI8.out.seen.fr hfr HI8.out.maps.2.2.2.1) HI8.out.nodup HY.out
            rw [← HSS.out] at hlk
            unfold kv at hlk
            clear hfr
            have HSX := Lib.hid hS
            clear hS
          all_goals first | (clear hlim hu; (try simp only [he] at hK ⊢); go_simp; exact hK) | skip
          · obtain rfl := hlim (0 : Nat) rfl
            have h1 : Fr (fun _ => False) w8 wx := HSX.out
            have H1 := Lib.hid h1
            clear hlim hu HSX h1
            simp only [he] at hK ⊢
            go_simp
            go_at_call 13
            refine (reply_any e r sa lb.length sc wx HER.out.1.1 HER.out.1.2 HER.out.2.1 HER.out.2.2).mono ?_
            rintro z wa ⟨rfl, fa⟩
            unfold av
            exact hK _ _ (fun _ h => by simpa using h) ⟨rfl, H1.out.trans fa (fun _ _ h => h)⟩
          · obtain rfl := hlim (1 : Nat) rfl
            have h1 : Fr (fun _ => False) w8 wx := HSX.out.2
            have hp := cput_any (HI8.out.cache.fr0 h1) (y1, y2) HY.out e r (.slice sa lb.length sc) lb ((HS.out.fr HI8.out.fr).1.fr h1 (fun _ _ h => h)) HLB.out
            rw [ids_an, HNB.out] at hp
            unfold kv av at hp
            have HP := Lib.hid hp
            have H1 := Lib.hid h1
            clear hlim hu HSX h1 hp hlk
            simp only [he] at hK ⊢
            go_simp
            go_at_call 12
            refine HP.out.mono ?_
            rintro z wa ⟨rfl, hput⟩
            exact hK _ _ (fun _ h => by simpa using h) (hput.base H1.out)
        case fin19true =>
          intro vals w9 hS hV
          have v0 := hV 0 _ (by decide) rfl
          have v1 := hV 1 _ (by decide) rfl
          have v2 := hV 2 _ (by decide) rfl
          have v3 := hV 3 _ (by decide) rfl
          have v4 := hV 4 _ (by decide) rfl
          have v5 := hV 5 _ (by decide) rfl
          have v6 := hV 6 _ (by decide) rfl
          have v7 := hV 7 _ (by decide) rfl
          have v8 := hV 8 _ (by decide) rfl
          have v9 := hV 9 _ (by decide) rfl
          clear hV
          simp only [frOfU, fillU, List.setIfInBounds_toArray, List.set_cons_succ, List.set_cons_zero]
          simp only [Nat.reduceAdd, v0, v1, v2, v3, v4, v5, v6, v7, v8, v9]
          clear v0 v1 v2 v3 v4 v5 v6 v7 v8 v9
          have hput : CPut w8 b K (putA (es.map Ent.an) (y1, y2) (e, r, lb)) F w9 := hS
          rw [HPA.out] at hput
          clear hS
          obtain ⟨F9, hi9, f89⟩ := HI8.out.again hput
          have HI9 := Lib.hid hi9
          have HQ9 := Lib.hid (crow_kept HQ8.out.2 f89 (fun h => by have := HFA.out.1 _ h; omega))
          have hlk := hi9.look_seen HY.out
          rw [← HSS.out] at hlk
          obtain ⟨d0, d1⟩ : w9.cell? ⟨gA + 1, 0, none⟩ = some (.int .u16 y1) ∧ w9.cell? ⟨gA + 1, 1, none⟩ = some (.int .u16 y2) := by simp [World.cell?, HQ9.out]
          unfold kv at hlk
          clear hi9 f89 hput HI8 HQ8
          go_upto_region 27 with fail
          obtain ⟨M, hM⟩ : ∃ M, M = min K (es).length := ⟨_, rfl⟩
          obtain ⟨N, hN⟩ : ∃ N, N = (es).length := ⟨_, rfl⟩
          have hkp := ckept_any HI9.out.cache
          have hmy := cmany_any HI9.out.cache
          rw [List.length_map] at hkp hmy
          have hl1 := fun ty => HI9.out.kept.len Try.underlying27 ty
          have hl2 := fun ty => HI9.out.seen.len Try.underlying26 ty
          simp only [List.length_map, keptE_length] at hl1 hl2
          rw [← hM] at hkp
          simp only [← hM] at hl1
          rw [← hN] at hmy
          simp only [← hN] at hl2
          have HKP := Lib.hid hkp
          have HMY := Lib.hid hmy
          clear hkp hmy hM hN
          go_wp2_with fail
          refine HKP.out.mono ?_
          rintro z wz ⟨rfl, rfl⟩
          go_wp2_with fail
          refine HMY.out.mono ?_
          rintro z wy ⟨rfl, rfl⟩
          go_wp2_with fail
          go_roundg (l.length - (j + 1))
          case measure => omega
          case rel => exact ⟨j + 1, es, F9, by omega, rfl, by simp, (by have := HES.out; omega), HI9.out⟩
      case false =>
        have HNB := Lib.hid (show decide ((y1, y2) ∉ es.map Ent.id) = true from decide_eq_true (of_decide_eq_false HSS.out.symm))
        have HPA := Lib.hid (show putA (es.map Ent.an) (y1, y2) (e, r, lb) = (es ++ [Ent.mk (y1, y2) e r lb (.slice sa lb.length sc)]).map Ent.an from by unfold putA; rw [ids_an, if_neg (of_decide_eq_false HSS.out.symm), List.map_append]; rfl)
        clear c0 c1 c2 c3 c4 c5
        refine wp_region_chain (by kernel_rfl) [some 78, some 79, some 80, some 81, some 82, some 83, some 84, some 85, some 86, some 87] rfl (by decide) (by intro d hd; simp at hd ⊢; omega)
          [4, 5] (fun cvs wx => PAS w8 b K (putA (es.map Ent.an) (y1, y2) (e, r, lb)) F (.agg #[.int .i64 e, .int .i64 r, .slice sa lb.length sc]) cvs wx)
          [.free (.pointer (some ⟨b, 0, none⟩)), .free (.agg #[.int .u16 y1, .int .u16 y2]), .free (.pointer (some ⟨gA, 3, none⟩)), .free (.agg #[.int .u16 e, .int .u16 r, .slice sa lb.length sc]), .link (some (.agg #[.int .i64 e, .int .i64 r, .slice sa lb.length sc])), .link (some (.bool true)), .free (.map (some sm)), .free (.agg #[.int .u16 y1, .int .u16 y2]), .free (.bool false), .free (.bool false)]
          (by kernel_rfl) (by kernel_rfl) ?h19false ?step19false ?fin19false
        case h19false => exact (Fr.refl _ _).drew
        case step19false =>
          intro vals
          simp only [frOfU, fillU, List.setIfInBounds_toArray, List.set_cons_succ, List.set_cons_zero]
          repeat' (first | exact AllOps.nil | refine AllOps.cons ?_ ?_)
          all_goals
            intro cvs wx hS he hu hlim Kc hK
            simp only [Act.put, List.setIfInBounds_toArray, List.set_cons_succ, List.set_cons_zero, List.getD_cons_zero, List.getD_cons_succ] at hK
            simp only [List.mem_cons, List.not_mem_nil, or_false, forall_eq_or_imp, forall_eq, Region.binds, forall_const, qmode_gc, Bool.false_eq_true, false_imp_iff, List.getD_cons_zero, List.getD_cons_succ, OpSort.val, Option.some.injEq, forall_eq', reduceCtorEq, implies_true, true_and, and_true] at he
            have hfr := PAS.fr hS
            obtain ⟨d0, d1⟩ : wx.cell? ⟨gA + 1, 0, none⟩ = some (.int .u16 y1) ∧ wx.cell? ⟨gA + 1, 1, none⟩ = some (.int .u16 y2) := by simp [World.cell?, crow_kept HQ8.out.2 hfr (fun h => by have := HFA.out.1 _ h; omega)]
            obtain ⟨k0, k1, k2, k3, k4, k5⟩ := cell6 (crow_kept HQ8.out.1 hfr (fun h => by have := HFA.out.1 _ h; omega))
            have hlk := seenB_look (HI8.out.seen.fr hfr HI8.out.maps.2.2.2.1) HI8.out.nodup HY.out
            rw [← HSS.out] at hlk
            unfold kv at hlk
            clear hfr
            have HSX := Lib.hid hS
            clear hS
          all_goals first | (clear hlim hu; (try simp only [he] at hK ⊢); go_simp; exact hK) | skip
          · obtain rfl := hlim (0 : Nat) rfl
            have h1 : Fr (fun _ => False) w8 wx := HSX.out
            have H1 := Lib.hid h1
            clear hlim hu HSX h1
            simp only [he] at hK ⊢
            go_simp
            go_at_call 13
            refine (reply_any e r sa lb.length sc wx HER.out.1.1 HER.out.1.2 HER.out.2.1 HER.out.2.2).mono ?_
            rintro z wa ⟨rfl, fa⟩
            unfold av
            exact hK _ _ (fun _ h => by simpa using h) ⟨rfl, H1.out.trans fa (fun _ _ h => h)⟩
          · obtain rfl := hlim (1 : Nat) rfl
            have h1 : Fr (fun _ => False) w8 wx := HSX.out.2
            have hp := cput_any (HI8.out.cache.fr0 h1) (y1, y2) HY.out e r (.slice sa lb.length sc) lb ((HS.out.fr HI8.out.fr).1.fr h1 (fun _ _ h => h)) HLB.out
            rw [ids_an, HNB.out] at hp
            unfold kv av at hp
            have HP := Lib.hid hp
            have H1 := Lib.hid h1
            clear hlim hu HSX h1 hp hlk
            simp only [he] at hK ⊢
            go_simp
            go_at_call 12
            refine HP.out.mono ?_
            rintro z wa ⟨rfl, hput⟩
            exact hK _ _ (fun _ h => by simpa using h) (hput.base H1.out)
        case fin19false =>
          intro vals w9 hS hV
          have v0 := hV 0 _ (by decide) rfl
          have v1 := hV 1 _ (by decide) rfl
          have v2 := hV 2 _ (by decide) rfl
          have v3 := hV 3 _ (by decide) rfl
          have v4 := hV 4 _ (by decide) rfl
          have v5 := hV 5 _ (by decide) rfl
          have v6 := hV 6 _ (by decide) rfl
          have v7 := hV 7 _ (by decide) rfl
          have v8 := hV 8 _ (by decide) rfl
          have v9 := hV 9 _ (by decide) rfl
          clear hV
          simp only [frOfU, fillU, List.setIfInBounds_toArray, List.set_cons_succ, List.set_cons_zero]
          simp only [Nat.reduceAdd, v0, v1, v2, v3, v4, v5, v6, v7, v8, v9]
          clear v0 v1 v2 v3 v4 v5 v6 v7 v8 v9
          have hput : CPut w8 b K (putA (es.map Ent.an) (y1, y2) (e, r, lb)) F w9 := hS
          rw [HPA.out] at hput
          clear hS
          obtain ⟨F9, hc9, hb9, hn9, hs9, hk9, ho9, hw9, f89⟩ := HI8.out.after hput
          have HC9 := Lib.hid hc9
          have HB9 := Lib.hid (And.intro hb9 hn9)
          have HM9 := Lib.hid (And.intro hs9 hk9)
          have HO9 := Lib.hid ho9
          have HW9 := Lib.hid hw9
          have HQ9 := Lib.hid (And.intro (crow_kept HQ8.out.1 f89 (fun h => by have := HFA.out.1 _ h; omega)) (crow_kept HQ8.out.2 f89 (fun h => by have := HFA.out.1 _ h; omega)))
          have HZ9 := Lib.hid f89.size
          have hlk := seenB_look hs9 HI8.out.nodup HY.out
          rw [← HSS.out] at hlk
          obtain ⟨d0, d1⟩ : w9.cell? ⟨gA + 1, 0, none⟩ = some (.int .u16 y1) ∧ w9.cell? ⟨gA + 1, 1, none⟩ = some (.int .u16 y2) := by simp [World.cell?, HQ9.out.2]
          unfold kv at hlk
          clear f89 hput hc9 hb9 hn9 hs9 hk9 ho9 hw9
          go_upto_region 22 with fail
          refine wp_region_chain (by kernel_rfl) [some 92, some 93, some 94, some 95, some 96, some 97, some 98, none, none] rfl (by decide) (by intro d hd; simp at hd ⊢; omega)
            [6, 7, 8] (fun cvs wx => P22 w9 (.agg #[.int .i64 e, .int .i64 r, .slice sa lb.length sc]) sm km (es.map fun p => (p.id, Value.bool true)) ((keptE K es).map Ent.mk') (y1, y2) cvs wx)
            [.free (.map (some sm)), .free (.agg #[.int .u16 y1, .int .u16 y2]), .free (.map (some km)), .free (.agg #[.int .u16 y1, .int .u16 y2]), .free (.pointer (some ⟨gA, 3, none⟩)), .free (.agg #[.int .u16 e, .int .u16 r, .slice sa lb.length sc]), .link (some (.agg #[.int .i64 e, .int .i64 r, .slice sa lb.length sc])), .link none, .link none]
            (by kernel_rfl) (by kernel_rfl) ?h22 ?step22 ?fin22
          case h22 => exact (Fr.refl _ _).drew
          case step22 =>
            intro vals
            simp only [frOfU, fillU, List.setIfInBounds_toArray, List.set_cons_succ, List.set_cons_zero]
            repeat' (first | exact AllOps.nil | refine AllOps.cons ?_ ?_)
            all_goals
              intro cvs wx hS he hu hlim Kc hK
              simp only [Act.put, List.setIfInBounds_toArray, List.set_cons_succ, List.set_cons_zero, List.getD_cons_zero, List.getD_cons_succ] at hK
              simp only [List.mem_cons, List.not_mem_nil, or_false, forall_eq_or_imp, forall_eq, Region.binds, forall_const, qmode_gc, Bool.false_eq_true, false_imp_iff, List.getD_cons_zero, List.getD_cons_succ, OpSort.val, Option.some.injEq, forall_eq', reduceCtorEq, implies_true, true_and, and_true] at he
              have hfr := P22.fr hS
              obtain ⟨d0, d1⟩ : wx.cell? ⟨gA + 1, 0, none⟩ = some (.int .u16 y1) ∧ wx.cell? ⟨gA + 1, 1, none⟩ = some (.int .u16 y2) := by simp [World.cell?, crow_kept HQ9.out.2 hfr (fun h => by have := HFA.out; omega)]
              obtain ⟨k0, k1, k2, k3, k4, k5⟩ := cell6 (crow_kept HQ9.out.1 hfr (fun h => by have := HFA.out; omega))
              clear hfr
              have HSX := Lib.hid hS
              clear hS
            all_goals first | (clear hlim hu; (try simp only [he] at hK ⊢); go_simp; exact hK) | skip
            · obtain rfl := hlim (0 : Nat) rfl
              have h1 : Fr (fun _ => False) w9 wx := HSX.out
              have H1 := Lib.hid h1
              clear hlim hu HSX h1
              simp only [he] at hK ⊢
              go_simp
              go_at_call 13
              refine (reply_any e r sa lb.length sc wx HER.out.1.1 HER.out.1.2 HER.out.2.1 HER.out.2.2).mono ?_
              rintro z wa ⟨rfl, fa⟩
              unfold av
              exact hK _ _ (fun _ h => by simpa using h) ⟨rfl, H1.out.trans fa (fun _ _ h => h)⟩
            · obtain rfl := hlim (1 : Nat) rfl
              have h1 := HSX.out
              obtain ⟨hv6, h1⟩ : vals 6 = (.agg #[.int .i64 e, .int .i64 r, .slice sa lb.length sc]) ∧ Fr (fun _ => False) w9 wx := h1
              obtain ⟨wa, hrun, m', f', hz⟩ := (HM9.out.1.fr h1 (fun h => h)).put HY.out (by rw [seenB_keys]; exact of_decide_eq_false HSS.out.symm) Try.underlying26 (.bool true)
              have R := Lib.hid (show P22 w9 (.agg #[.int .i64 e, .int .i64 r, .slice sa lb.length sc]) sm km (es.map fun p => (p.id, Value.bool true)) ((keptE K es).map Ent.mk') (y1, y2) [vals 6, undef] wa from ⟨hv6, m', (h1.mono (fun _ _ h => h.elim)).trans f' (fun _ _ h => h)⟩)
              unfold kv at hrun
              clear hlim hu HSX m' f' hz hv6 h1
              simp only [he] at hK ⊢
              go_simp
              exact hK undef _ (fun _ h => by cases h) R.out
            · obtain rfl := hlim (2 : Nat) rfl
              obtain ⟨hv6, m1, f1⟩ : vals 6 = (.agg #[.int .i64 e, .int .i64 r, .slice sa lb.length sc]) ∧ MapAt wx sm ((es.map fun p => (p.id, Value.bool true)) ++ [((y1, y2), Value.bool true)]) ∧ Fr (fun k => k = sm) w9 wx := HSX.out
              obtain ⟨wa, hrun, m', f', hz⟩ := (HM9.out.2.fr f1 (fun h => HI8.out.maps.2.2.1 h.symm)).put HY.out (by rw [ans_keys]; exact fun h => of_decide_eq_false HSS.out.symm (by obtain ⟨p, hp, e1⟩ := List.mem_map.1 h; exact List.mem_map.2 ⟨p, List.mem_of_mem_drop hp, e1⟩)) Try.underlying27 (.agg #[.int .i64 e, .int .i64 r, .slice sa lb.length sc])
              have R := Lib.hid (show P22 w9 (.agg #[.int .i64 e, .int .i64 r, .slice sa lb.length sc]) sm km (es.map fun p => (p.id, Value.bool true)) ((keptE K es).map Ent.mk') (y1, y2) [vals 6, vals 7, undef] wa from ⟨m1.fr f' (fun h => HI8.out.maps.2.2.1 h), m', f1.comp f' (fun _ h => .inl h) (fun _ h => .inr h)⟩)
              unfold kv at hrun
              clear hlim hu HSX m1 m' f1 f' hz
              simp only [he, hv6] at hK ⊢
              go_simp
              exact hK undef _ (fun _ h => by cases h) R.out
          case fin22 =>
            intro vals w10 hS hV
            have v0 := hV 0 _ (by decide) rfl
            have v1 := hV 1 _ (by decide) rfl
            have v2 := hV 2 _ (by decide) rfl
            have v3 := hV 3 _ (by decide) rfl
            have v4 := hV 4 _ (by decide) rfl
            have v5 := hV 5 _ (by decide) rfl
            have v6 := hV 6 _ (by decide) rfl
            clear hV
            simp only [frOfU, fillU, List.setIfInBounds_toArray, List.set_cons_succ, List.set_cons_zero]
            simp only [Nat.reduceAdd, v0, v1, v2, v3, v4, v5, v6]
            clear v0 v1 v2 v3 v4 v5 v6
            obtain ⟨hs10, hk10, f910⟩ : MapAt w10 sm ((es.map fun p => (p.id, Value.bool true)) ++ [((y1, y2), Value.bool true)]) ∧ MapAt w10 km (((keptE K es).map Ent.mk') ++ [((y1, y2), ((.agg #[.int .i64 e, .int .i64 r, .slice sa lb.length sc]) : Value))]) ∧ Fr (fun k => k = sm ∨ k = km) w9 w10 := hS
            obtain ⟨q, hq⟩ : ∃ q, q = Ent.mk (y1, y2) e r lb (.slice sa lb.length sc) := ⟨_, rfl⟩
            have hsm9 := HM9.out.1.lt
            have hkm9 := HM9.out.2.lt
            have HC10 := Lib.hid (HC9.out.fr f910 (fun k hk h => by
              rcases h with h | h
              · exact HB9.out.2 k (by rw [h]; exact HI8.out.seen.lt) (by rw [h]; exact HI8.out.maps.2.2.2.1) hk
              · exact HB9.out.2 k (by rw [h]; exact HI8.out.kept.lt) (by rw [h]; exact HI8.out.maps.2.2.2.2) hk))
            rw [← hq] at HC10
            have ho10 : OwnW w10 (.slice ovn (keptE K es).length ovc) ((keptE K es).map Ent.id) := HO9.out.fr f910 (fun k hk h => by
              have := HI8.out.row k hk
              omega)
            have HM10 := Lib.hid (show MapAt w10 sm ((es ++ [q]).map fun p => (p.id, Value.bool true)) ∧ MapAt w10 km ((keptE K es ++ [q]).map Ent.mk') from by
              rw [List.map_append, List.map_append, hq]
              exact ⟨hs10, hk10⟩)
            have HW10 := Lib.hid (show Fr (fun _ => False) w w10 from HW9.out.trans f910 (fun k hk h => by have := HI8.out.maps; omega))
            have HQ10 := Lib.hid (And.intro (crow_kept HQ9.out.1 f910 (fun h => by have := HFA.out; omega)) (crow_kept HQ9.out.2 f910 (fun h => by have := HFA.out; omega)))
            have HZ10 := Lib.hid f910.size
            obtain ⟨d0, d1⟩ : w10.cell? ⟨gA + 1, 0, none⟩ = some (.int .u16 y1) ∧ w10.cell? ⟨gA + 1, 1, none⟩ = some (.int .u16 y2) := by simp [World.cell?, HQ10.out.2]
            have HOI := Lib.hid ho10
            have hw10 : gA + 1 < w10.heap.size := (Array.getElem?_eq_some_iff.1 HQ10.out.2).1
            have hw10' : gA + 1 ≠ w10.heap.size := by omega
            have HQQ := Lib.hid hq
            clear hs10 hk10 f910 hlk hsm9 hkm9 ho10 HC9 HM9 HO9 HW9 HQ9 hq
            have hkl : (keptE K es).length ≤ 100000 := by have := keptE_length K es; have := HK.out; omega
            have HKL := Lib.hid hkl; clear hkl
            go_upto_region 23 with fail
            go_wp2_with (at_builtin; refine wpList_append_win rfl (.tmp 99) (.tmp 101) rfl (.slice ovn (keptE K es).length ovc) rfl ((keptE K es).map Ent.id) ?own (by rw [List.length_map]; exact HKL.out) w10.heap.size (y1, y2) rfl ?row ?grow)
            case own => exact HOI.out.fr ((Fr.refl (fun _ => False) w10).alloc _) (fun _ _ h => h)
            case row => exact heap_alloc_new w10 _
            case grow =>
            intro v11 w11 hown hg hv
            have f1011 : Fr (fun k => (Value.slice ovn (keptE K es).length ovc).ownBlock = some k) w10 w11 := ((Fr.refl (fun _ => False) w10).alloc (Obj.cells #[.int .u16 y1, .int .u16 y2] 36 (0, 0))).comp (Fr.of_grown hg) (fun _ h => h.elim) (fun k h => h.symm)
            have hrow := HI8.out.row
            have hov8 := HI8.out.order.lt
            have hown' : OwnW w11 v11 ((keptE K es ++ [q]).map Ent.id) := by
              rw [List.map_append, HQQ.out]
              exact hown
            have HC11 := Lib.hid (HC10.out.fr f1011 (fun k hk h => HB9.out.2 k (hov8 k h) (hrow k h).2.2.2 hk))
            have HM11 := Lib.hid (And.intro (HM10.out.1.fr f1011 (fun h => (hrow _ h).2.1 rfl)) (HM10.out.2.fr f1011 (fun h => (hrow _ h).2.2.1 rfl)))
            have HW11 := Lib.hid (show Fr (fun _ => False) w w11 from HW10.out.trans f1011 (fun k hk h => by have := (hrow k h).1; omega))
            have HV11 := Lib.hid (show ∀ k, v11.ownBlock = some k → (Value.slice ovn (keptE K es).length ovc).ownBlock = some k ∨ w9.heap.size ≤ k from fun k hk => by
              rcases hv with h | h
              · exact .inl (h ▸ hk)
              · right
                rw [h] at hk
                simp at hk
                have := HZ10.out
                omega)
            have HZ11 := Lib.hid f1011.size
            have HQO := Lib.hid (show SeesO w q.v q.l ∧ q.l.length ≤ 140737488351232 from by rw [HQQ.out]; exact ⟨HS.out, HLB.out⟩)
            have HQN := Lib.hid (show q.id ∉ es.map Ent.id from by rw [HQQ.out]; exact of_decide_eq_false HSS.out.symm)
            have HOW := Lib.hid hown'
            clear hown hown' hg hv f1011 hrow hov8 HC10 HM10 HW10 HOI hw10 hw10' d0 d1 HQ10
            by_cases hfull : K ≤ es.length
            case neg =>
              have hkr := keptE_room (most := K) (ps := es) q (by omega)
              obtain ⟨a11, c11, e11⟩ := HOW.out.shape
              obtain ⟨N1, hN1⟩ : ∃ N1, N1 = ((keptE K es ++ [q]).map Ent.id).length := ⟨_, rfl⟩
              rw [← hN1] at e11
              have hle : ¬ (K : Int) < (N1 : Int) := by
                have := keptE_length K es
                rw [hN1]
                simp
                omega
              have hi11 : PlayInv w w11 K b sm km (es ++ [q]) F9 v11 := play_new HI8.out HC11.out HB9.out.1 HB9.out.2 HM11.out.1 (by rw [hkr]; exact HM11.out.2) (by rw [hkr]; exact HOW.out) HQO.out HV11.out HZ9.out (Nat.le_trans HZ10.out HZ11.out) HQN.out HW11.out
              have HI11 := Lib.hid hi11
              clear hi11 hkr hN1
              subst e11
              go_upto_region 27 with fail
              obtain ⟨M, hM⟩ : ∃ M, M = min K (es ++ [q]).length := ⟨_, rfl⟩
              obtain ⟨N, hN⟩ : ∃ N, N = (es ++ [q]).length := ⟨_, rfl⟩
              have hkp := ckept_any HI11.out.cache
              have hmy := cmany_any HI11.out.cache
              rw [List.length_map] at hkp hmy
              have hl1 := fun ty => HI11.out.kept.len Try.underlying27 ty
              have hl2 := fun ty => HI11.out.seen.len Try.underlying26 ty
              simp only [List.length_map, keptE_length] at hl1 hl2
              rw [← hM] at hkp
              simp only [← hM] at hl1
              rw [← hN] at hmy
              simp only [← hN] at hl2
              have HKP := Lib.hid hkp
              have HMY := Lib.hid hmy
              clear hkp hmy hM hN
              go_wp2_with fail
              refine HKP.out.mono ?_
              rintro z wz ⟨rfl, rfl⟩
              go_wp2_with fail
              refine HMY.out.mono ?_
              rintro z wy ⟨rfl, rfl⟩
              go_wp2_with fail
              go_roundg (l.length - (j + 1))
              case measure => omega
              case rel => exact ⟨j + 1, es ++ [q], F9, by omega, rfl, by simp, (by have := HES.out; simp; omega), HI11.out⟩
            case pos =>
              obtain ⟨p, hpm, hp⟩ := keptE_full (ps := es) q hfull HK.out.1
              have how := HOW.out
              rw [hp, List.map_cons] at how
              obtain ⟨g, off, cap, e11, hcap, hc0, hc1, hrest⟩ := how.cons
              have hms : MapAt w11 km ((p :: keptE K (es ++ [q])).map Ent.mk') := by rw [← hp]; exact HM11.out.2
              have hnd : ((p :: keptE K (es ++ [q])).map Ent.id).Nodup := by
                rw [← hp, List.map_append, List.nodup_append]
                refine ⟨kept_nodup K HI8.out.nodup, by simp, ?_⟩
                intro a ha c hc e
                simp at hc
                subst hc
                obtain ⟨z, hz, e1⟩ := List.mem_map.1 ha
                exact HQN.out (List.mem_map.2 ⟨z, List.mem_of_mem_drop hz, e1.trans e⟩)
              have hpid : IdOk p.id := by
                obtain ⟨_, _, _, _, h⟩ := hms
                exact h (p.id, av p.e p.r p.v) (by simp [Ent.mk'])
              obtain ⟨w12, hdel, hk12, f12, hz12⟩ := MapAt.del hms (by rw [ans_keys]; exact hnd) hpid Try.underlying27 0
              have hflt : ((p :: keptE K (es ++ [q])).map Ent.mk').filter (fun z => decide (z.1 ≠ p.id)) = (keptE K (es ++ [q])).map Ent.mk' := by
                rw [List.map_cons, List.filter_cons_of_neg (by simp [Ent.mk'])]
                refine List.filter_eq_self.2 (fun z hz => ?_)
                obtain ⟨k, hk, rfl⟩ := List.mem_map.1 hz
                rw [List.map_cons, List.nodup_cons] at hnd
                have : k.id ≠ p.id := fun e => hnd.1 (e ▸ List.mem_map.2 ⟨k, hk, rfl⟩)
                exact decide_eq_true this
              rw [hflt] at hk12
              have hkm11 := HM11.out.2.lt
              have hgv := HV11.out g (by rw [e11]; rfl)
              have hgkm : g ≠ km := by
                rcases hgv with h | h
                · exact (HI8.out.row g h).2.2.1
                · have := HI8.out.kept.lt
                  have := HZ9.out
                  omega
              obtain ⟨M1, hM1⟩ : ∃ M1, M1 = ((keptE K (es ++ [q])).map Ent.id).length := ⟨_, rfl⟩
              rw [← hM1] at e11 hcap hrest
              have hgt : (K : Int) < (M1 : Int) + 1 := by
                have h1 := keptE_length K (es ++ [q])
                rw [hM1, List.length_map, h1]
                simp
                omega
              have hgt' : (K : Int) < ((M1 + 1 : Nat) : Int) := by omega
              have hsl := fun (w : World) => slice_from1 w g off (M1 + 1) cap hcap (by omega)
              rw [Nat.add_sub_cancel] at hsl
              obtain ⟨off', hoff⟩ : ∃ o, o = if cap = 1 then off else off + 2 := ⟨_, rfl⟩
              rw [← hoff] at hsl hrest
              have hi12 : PlayInv w w12 K b sm km (es ++ [q]) F9 (.slice (some ⟨g, off', none⟩) M1 (cap - 1)) := play_new HI8.out (HC11.out.fr f12 (fun k hk h => HB9.out.2 k (by rw [h]; exact HI8.out.kept.lt) (by rw [h]; exact HI8.out.maps.2.2.2.2) hk)) HB9.out.1 HB9.out.2 (HM11.out.1.fr f12 (fun h => HI8.out.maps.2.2.1 h)) hk12 (hrest.fr f12 (fun k hk h => by simp [Value.ownBlock] at hk; omega)) HQO.out (fun k hk => by simp [Value.ownBlock] at hk; subst hk; exact hgv) HZ9.out (Nat.le_trans (Nat.le_trans HZ10.out HZ11.out) f12.size) HQN.out (HW11.out.trans f12 (fun k hk h => by have := HI8.out.maps; omega))
              have HI12 := Lib.hid hi12
              clear hi12 hrest hk12 f12 hz12 hflt hms hnd hp hpm how hM1 hoff hkm11 hgv hgkm
              unfold kv at hdel
              subst e11
              go_upto_region 27 with fail
              obtain ⟨M, hM⟩ : ∃ M, M = min K (es ++ [q]).length := ⟨_, rfl⟩
              obtain ⟨N, hN⟩ : ∃ N, N = (es ++ [q]).length := ⟨_, rfl⟩
              have hkp := ckept_any HI12.out.cache
              have hmy := cmany_any HI12.out.cache
              rw [List.length_map] at hkp hmy
              have hl1 := fun ty => HI12.out.kept.len Try.underlying27 ty
              have hl2 := fun ty => HI12.out.seen.len Try.underlying26 ty
              simp only [List.length_map, keptE_length] at hl1 hl2
              rw [← hM] at hkp
              simp only [← hM] at hl1
              rw [← hN] at hmy
              simp only [← hN] at hl2
              have HKP := Lib.hid hkp
              have HMY := Lib.hid hmy
              clear hkp hmy hM hN
              go_wp2_with fail
              refine HKP.out.mono ?_
              rintro z wz ⟨rfl, rfl⟩
              go_wp2_with fail
              refine HMY.out.mono ?_
              rintro z wy ⟨rfl, rfl⟩
              go_wp2_with fail
              go_roundg (l.length - (j + 1))
              case measure => omega
              case rel => exact ⟨j + 1, es ++ [q], F9, by omega, rfl, by simp, (by have := HES.out; simp; omega), HI12.out⟩

/-- In the form that the statement's lift takes. -/
theorem plays_all {w : World} (m : Int) (hm0 : 0 ≤ m) (hm1 : m ≤ 255) (l : List AcE) (v : Value) (hv : ActsV w l v) :
    Calls Try.prog 3 #[.int .u8 m, v] w fun e w' => e = .returned (.bool true) ∧ Fr (fun _ => False) w w' := plays_law m hm0 hm1 l v w hv
end Go.Proofs.Ytefijimijmjahaa
