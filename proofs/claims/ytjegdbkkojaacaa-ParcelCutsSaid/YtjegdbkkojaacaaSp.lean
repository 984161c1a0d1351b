/-
  ParCuts, what it rests on behind S12: ParCutsDef, ParCutsLaw, ParCutsArg.
-/
import Derived.Test.YtjegdbkkojaacaaS12
set_option linter.unusedVariables false
set_option linter.unusedSimpArgs false
set_option maxHeartbeats 64000000
namespace Go.Proofs.Ytjegdbkkojaacaa
open Go.RowKit
open Go.Lib (hid)
section
set_option maxRecDepth 100000

theorem tput_nil (f k p m : Int) (v : Value) (w : World) : Calls Try.prog 17 #[.pointer none, pv f k p m v] w fun e w' => e = .returned (.tuple #[nilS, .bool false]) ∧ Fr (fun _ => False) w w' := by
  go_enter Try.func17, Try.ntmps17
  go_wp2_with fail
  go_ret2
  exact ⟨rfl, (Fr.refl _ _).alloc _⟩

theorem slice_mid {w : World} {a : Option Addr} {l : List UInt8} {c q e : Nat} (h : Sees w (.slice a l.length c) l) (hq : q ≤ e) (he : e ≤ l.length) :
    ∃ a' c', (∀ W, (Instr.slice 23 (.slice a l.length c) (some (.int .i64 (q : Int))) (some (.int .i64 (e : Int))) none).run Try.prog W = .ok (.slice a' (e - q) c') W) ∧ ∀ W, Sees W (.slice a l.length c) l → Sees W (.slice a' (e - q) c') ((l.drop q).take (e - q)) := by
  have hs : ∀ W, (sizeOf 5).run Try.prog W = .ok 1 W := fun W => by kernel_rfl
  rcases h.cap.2 with h0 | hcap
  · have hl0 : l = [] := List.eq_nil_of_length_eq_zero h0
    subst hl0
    have e0 : e = 0 := by simpa using he
    subst e0
    have q0 : q = 0 := by omega
    subst q0
    by_cases hc : c = 0
    · subst hc
      refine ⟨a, 0, fun W => ?_, fun W hW => .inl ⟨by simp, a, 0, rfl⟩⟩
      simp [Instr.slice, Instr.sliceBounds, Instr.sliceBound, run_underlying Try.underlying23, asIntOf, hs, Result.andThen]
    · refine ⟨a.map fun x => x.add 0, c, fun W => ?_, fun W hW => .inl ⟨by simp, _, _, rfl⟩⟩
      cases a <;> simp [Instr.slice, Instr.sliceBounds, Instr.sliceBound, run_underlying Try.underlying23, asIntOf, hs, hc, Result.andThen]
  · have e1 : (q : Int) ≤ (e : Int) := by omega
    have e3 : e ≤ c := by omega
    by_cases hc : c = q
    · have hqe : e - q = 0 := by omega
      refine ⟨a, c - q, fun W => ?_, fun W hW => .inl ⟨by rw [hqe]; simp, a, c - q, by rw [hqe]⟩⟩
      subst hc
      simp [Instr.slice, Instr.sliceBounds, Instr.sliceBound, run_underlying Try.underlying23, asIntOf, hs, hq, e3, Result.andThen]
    · refine ⟨a.map fun x => x.add q, c - q, fun W => ?_, fun W hW => ?_⟩
      · cases a <;> simp [Instr.slice, Instr.sliceBounds, Instr.sliceBound, run_underlying Try.underlying23, asIntOf, hs, hq, e3, hc, Result.andThen]
      · have hd := hW.drop_part (k := q) (by omega)
        exact sees_take hd (e - q) (by rw [List.length_drop]; omega)

theorem chunk_mid (l : List UInt8) (i : Nat) (e : Nat) (he : e = min (i * 48 + 48) l.length) (hi : i * 48 ≤ l.length) : (l.drop (i * 48)).take (e - i * 48) = chunk l i := by
  unfold chunk
  by_cases h : i * 48 + 48 ≤ l.length
  · rw [he, Nat.min_eq_left h]; congr 1; omega
  · rw [he, Nat.min_eq_right (by omega), List.take_of_length_le (by rw [List.length_drop]; omega), List.take_of_length_le (by rw [List.length_drop]; omega)]

theorem CutOk.rowOk2 {f k : Int} {l : List UInt8} {g : Nat} {vs : Nat → Value} {w0 w1 w2 w3 : World} (h : CutOk f k l g vs w0 w1) (f2 : Fr (fun k => w1.heap.size ≤ k) w1 w2) (f3 : Fr (fun _ => False) w2 w3) : RowOk w3 w2.heap.size (w2.heap.size + 1) f k l g vs := by
  have hn : 0 < numP l := by unfold numP; omega
  have hg := h.row.lt hn
  have hr := (h.row.fr f2 (by omega)).fr f3 (fun h => h)
  have hsz := f2.size
  refine ⟨hr, fun j hj => ?_, by omega⟩
  have hs := h.sees j hj
  obtain ⟨a, c, e, _⟩ := hs.shape
  rw [e] at hs
  have ho := sees_old9 hs
  refine ⟨a, c, e, ?_, ho.imp id (fun ho z hz => by have := ho z hz; omega)⟩
  rcases ho with ho | ho
  · rw [ho] at hs ⊢
    rcases hs with ⟨_, a1, c1, e1⟩ | ⟨g1, o1, c1, e1, _, _⟩
    · rw [e1]; exact .inl ⟨rfl, _, _, rfl⟩
    · rw [e1]; exact .inl ⟨rfl, _, _, rfl⟩
  · exact (hs.fr f2 (fun z hz => by have := ho z hz; omega)).fr f3 (fun _ _ h => h)

/-! Rows of numbers -/
def nv (j : Nat) : Value := .int .i64 (j : Int)
/-- Block g is a row of these numbers. -/
def NumRow (w : World) (g : Nat) (s : List Nat) : Prop := w.heap[g]? = some (.cells (s.map nv).toArray 3 (0, 0))
theorem NumRow.fr {S : Nat → Prop} {w w' : World} {g : Nat} {s : List Nat} (h : NumRow w g s) (f : Fr S w w') (hg : ¬ S g) : NumRow w' g s := crow_kept h f hg
theorem NumRow.cell {w : World} {g : Nat} {s : List Nat} (h : NumRow w g s) {i : Nat} (hi : i < s.length) : w.cell? ⟨g, i, none⟩ = some (.int .i64 (s[i] : Int)) := by
  rw [cell_of_row w g i _ _ _ h]
  simp [hi, nv]
theorem NumRow.set {w : World} {g : Nat} {s : List Nat} (h : NumRow w g s) (i x : Nat) : NumRow (w.setCell ⟨g, i, none⟩ (.int .i64 (x : Int))) g (s.set i x) := by
  unfold NumRow
  rw [heap_setCell_same w g i _ _ _ h]
  congr 2
  simp [nv, List.map_set]

theorem Try.infoInt : (Try.prog.info? 3).map (fun i => (i.zero, i.size, i.bytes)) = some (some (.int .i64 0), 1, 8) := by kernel_rfl
theorem make_int (n : Nat) (hn : n ≤ 100000) (W : World) : (Instr.makeSlice 47 (.int .i64 (n : Int)) (.int .i64 (n : Int))).run Try.prog W = .ok (.slice (some ⟨W.heap.size, 0, none⟩) n n) (W.alloc (.cells (madeCells #[.int .i64 0] n) 3)) :=
  run_make_row' _ 3 (.int .i64 0) 8 Try.underlying47 Try.infoInt rfl .i64 .i64 n (by omega) (by omega) W
theorem numRow_new (w : World) (n : Nat) : NumRow (w.alloc (.cells (madeCells #[.int .i64 0] n) 3)) w.heap.size (List.replicate n 0) := by
  unfold NumRow
  rw [heap_alloc_new]
  congr 2
  apply Array.ext'
  rw [toList_madeCells_one]
  simp [nv]

/-- The numbers up to i are laid, the rest are noughts. -/
def laidN (n i : Nat) : List Nat := List.range i ++ List.replicate (n - i) 0
theorem laidN_length {n i : Nat} (h : i ≤ n) : (laidN n i).length = n := by unfold laidN; simp; omega
theorem laidN_set {n i : Nat} (h : i < n) : (laidN n i).set i i = laidN n (i + 1) := by
  unfold laidN
  rw [List.set_append_right _ _ (by simp), List.length_range, Nat.sub_self, show n - i = (n - (i + 1)) + 1 by omega, List.replicate_succ, List.set_cons_zero, List.range_succ, List.append_assoc]
  rfl
theorem laidN_all (n : Nat) : laidN n n = List.range n := by unfold laidN; simp

/-- Two of them exchanged. -/
theorem swap_perm (s : List Nat) {i j : Nat} (hi : i < s.length) (hj : j < s.length) : ((s.set i s[j]).set j s[i]).Perm s := by
  have h := Array.swap_perm (xs := s.toArray) (i := i) (j := j) (by simpa using hi) (by simpa using hj)
  have h2 := h.toList
  have e : (s.toArray.swap i j (by simpa using hi) (by simpa using hj)).toList = (s.set i s[j]).set j s[i] := by
    simp [Array.swap]
  rw [e] at h2
  simpa using h2
end
section
set_option maxRecDepth 100000

theorem cuts_law (vb : Value) (bl : List UInt8) (long fr k : Int) (vo : Value) (ol : List UInt8) (w : World) (hb : Sees w vb bl) (hl0 : 0 ≤ long) (hl1 : long ≤ 65535) (hf0 : 0 ≤ fr) (hf1 : fr ≤ 255) (hk0 : 0 ≤ k) (hk1 : k ≤ 4294967295) (ho : Sees w vo ol) :
    Calls Try.prog 5 #[vb, .int .u16 long, .int .u8 fr, .int .u32 k, vo] w fun e w' => e = .returned (.bool true) ∧ Fr (fun _ => False) w w' := by
  obtain ⟨a, c, rfl, _⟩ := hb.shape
  obtain ⟨oa, oc, rfl, _⟩ := ho.shape
  have HB := Lib.hid (And.intro hb ho)
  have HK := Lib.hid (And.intro hk0 hk1)
  clear hb ho hk0 hk1
  go_enter Try.func5, Try.ntmps5
  go_wp2_with fail
  refine (pawake_any w).mono ?_
  rintro e w1 ⟨rfl, f1⟩
  have F1 := Lib.hid f1
  clear f1
  dsimp only
  by_cases hbl : bl.length ≤ 200
  case neg =>
    have hbl' : (200 : Int) < (bl.length : Int) := by omega
    clear hbl
    go_wp2_with fail
    go_ret
    exact ⟨rfl, F1.out⟩
  have hbl' : ¬ (200 : Int) < (bl.length : Int) := by omega
  by_cases hol : ol.length ≤ 200
  case neg =>
    have hol' : (200 : Int) < (ol.length : Int) := by omega
    clear hol hbl
    go_wp2_with fail
    go_ret
    exact ⟨rfl, F1.out⟩
  have hol' : ¬ (200 : Int) < (ol.length : Int) := by omega
  have HL := Lib.hid (And.intro hbl hol)
  clear hbl hol
  go_upto_region 5 with fail
  clear hbl' hol'
  obtain ⟨i0, hi, hz0, hz1, hz2⟩ := info_parts Try.infoU8
  have fe : Fr (fun _ => False) w1 (w1.alloc (.cells #[] 5 (0, 0))) := (Fr.refl _ _).alloc _
  have SA := Lib.hid ((HB.out.1.fr F1.out (fun _ _ h => h)).fr fe (fun _ _ h => h))
  go_wp2_with (at_builtin; refine wpList_append_sep rfl (.tmp 46) (.tmp 47) 23 23 rfl 0 5 i0 (.int .u8 0) 1 1 Try.underlying23 _ Try.underlying23 (.inr ⟨_, rfl⟩) hi hz0 hz1 hz2 rfl (by decide) (.slice (some ⟨w1.heap.size, 0, none⟩) 0 0) 0 [] rfl (World.ownsRow_made w1 #[] 0 (Nat.zero_le _) (by unfold maxLen; omega) rfl) _ bl.length (bl.map bv) rfl (lenOf_slice _ _ _) (by rw [List.length_map, Nat.mul_one]) (SA.out.first (P := Try.prog)) (SA.out.drew.first (P := Try.prog)) (bv_one _) ?b1 ?b2 (Nat.zero_le _) ?grow)
  case b1 => have := HL.out; unfold maxLen; omega
  case b2 => have := HL.out; omega
  case grow =>
    intro v' w5 hown hgr hv
    have m5 : Made v' bl w1 w5 := ⟨by unfold Own; simpa using hown, fe.trans (Fr.of_grown hgr) (fun i hi e => by simp [Value.ownBlock] at e; omega), fun z hz => by
      rcases hv with e | e
      · rw [e] at hz; simp [Value.ownBlock] at hz; omega
      · rw [e] at hz; simp at hz; omega⟩
    have M5 := Lib.hid m5
    clear hown hgr hv m5 fe SA
    obtain ⟨m, hm⟩ : ∃ m : Nat, long % 700 = m := ⟨(long % 700).toNat, by omega⟩
    have wm : IntKind.u16.wrap (long % 700) = long % 700 := by rw [IntKind.wrap_u16]; omega
    have hm7 : m < 700 := by omega
    go_upto_region 7 with fail
    try rw [hm]
    clear wm hm
    go_loopg [11, 52] m (fun gh u11 u52 wr => ∃ (i : Nat) (X : List UInt8), i ≤ m ∧ gh = m - i ∧ u52 = .int .i64 i ∧ Hid (X.length = bl.length + i) ∧ Hid (Made u11 X w1 wr))
    case atStart => exact ⟨0, bl, Nat.zero_le _, rfl, rfl, Lib.hid rfl, M5⟩
    case round =>
      obtain ⟨i, X, him, rfl, rfl, HX, HM⟩ := hrel
      clear M5
      obtain ⟨ax, cx, hux⟩ := slice_of_own HM.out.1
      subst hux
      by_cases hlt : i < m
      case pos =>
        have hltz : (i : Int) < (m : Int) := by omega
        have wi : IntKind.u8.wrap (i : Int) = ((i % 256 : Nat) : Int) := by rw [IntKind.wrap_u8]; omega
        have fz : Fr (fun _ => False) wr (wr.alloc (.cells #[.int .u8 ((i % 256 : Nat) : Int)] 5 (0, 0))) := (Fr.refl _ _).alloc _
        have qz := heap_alloc_new wr (.cells #[.int .u8 ((i % 256 : Nat) : Int)] 5 (0, 0))
        have hbz : ([UInt8.ofNat (i % 256)].map bv).toArray = #[Value.int .u8 ((i % 256 : Nat) : Int)] := by
          have := bv_of ((i % 256 : Nat) : Int) (by omega) (by omega)
          rw [Int.toNat_natCast] at this
          simp only [List.map_cons, List.map_nil, this]
        have hfc : ∀ W : World, W.heap[wr.heap.size]? = some (.cells #[.int .u8 ((i % 256 : Nat) : Int)] 5 (0, 0)) → (Builtin.firstCells 1 1 (.slice (some ⟨wr.heap.size, 0, none⟩) 1 1)).run Try.prog W = .ok ([UInt8.ofNat (i % 256)].map bv).toArray W := fun W hW => by
          rw [hbz]; exact first_row hW 1 1 rfl
        have HF := Lib.hid (And.intro (hfc _ qz) (hfc _ (show (wr.alloc (.cells #[.int .u8 ((i % 256 : Nat) : Int)] 5 (0, 0))).drew.heap[wr.heap.size]? = _ from qz)))
        have OX := Lib.hid (HM.out.1.fr fz (fun _ _ h => h))
        clear qz hbz hfc
        obtain ⟨Z, hZ⟩ : ∃ Z : Int, Z = ((i % 256 : Nat) : Int) := ⟨_, rfl⟩
        rw [← hZ] at wi fz HF OX
        clear hZ
        go_wp2_with (at_builtin; refine wpList_append_sep rfl (.tmp 55) (.tmp 58) 23 23 rfl 0 5 i0 (.int .u8 0) 1 1 Try.underlying23 _ Try.underlying23 (.inr ⟨_, rfl⟩) hi hz0 hz1 hz2 rfl (by decide) (.slice ax X.length cx) X.length (X.map bv) rfl OX.out _ 1 ([UInt8.ofNat (i % 256)].map bv) rfl (lenOf_slice _ _ _) rfl HF.out.1 HF.out.2 (bv_one _) ?b1 ?b2 (Nat.zero_le _) ?grow)
        case b1 => have := HX.out; have := HL.out; unfold maxLen; omega
        case b2 => have := HX.out; have := HL.out; omega
        case grow =>
          intro v' w6 hown hgr hv
          have MN : Hid (Made v' (X ++ [UInt8.ofNat (i % 256)]) w1 w6) := Lib.hid (Made.append HM.out fz rfl hown hgr (by rw [World.size_alloc]; exact hv))
          have HXN : Hid ((X ++ [UInt8.ofNat (i % 256)]).length = bl.length + (i + 1)) := Lib.hid (by rw [List.length_append, HX.out]; simp; omega)
          clear hown hgr hv fz wi HF OX
          go_wp2_with fail
          go_roundg (m - (i + 1))
          case measure => omega
          case rel => exact ⟨i + 1, _, by omega, rfl, by congr 1, HXN, MN⟩
      obtain rfl : i = m := by omega
      clear hlt i0 hi hz0 hz1 hz2
      have hXl : X.length ≤ 900 := by have := HX.out; have := HL.out; omega
      have HXL := Lib.hid hXl
      have F6 := Lib.hid (F1.out.trans HM.out.2.1 (fun _ _ h => h))
      have SX6 := Lib.hid HM.out.1.sees
      clear HX HM
      obtain ⟨f, hfd⟩ : ∃ f, f = fr % 16 := ⟨_, rfl⟩
      have hfb : 0 ≤ f ∧ f < 16 := by omega
      have wf : IntKind.u8.wrap (fr % 16) = fr % 16 := by rw [IntKind.wrap_u8]; omega
      have HFB := Lib.hid hfb
      go_wp2_with fail
      try rw [← hfd]
      refine (pcut_ok f k _ X wr hfb SX6.out (by omega)).mono ?_
      rintro e w7 ⟨g1, vs, rfl, hc7⟩
      have C7 := Lib.hid hc7
      have F7 := Lib.hid (F6.out.trans hc7.fr (fun _ _ h => h))
      have SX7 := Lib.hid (SX6.out.fr hc7.fr (fun _ _ h => h))
      obtain ⟨n, hn⟩ : ∃ n, n = numP X := ⟨_, rfl⟩
      obtain ⟨hn1, hn100⟩ := numP_bounds (l := X) (by omega)
      rw [← hn] at hn1 hn100 ⊢
      have HN := Lib.hid hn
      have hdv : ((X.length : Int) + 47) / 48 = (((X.length + 47) / 48 : Nat) : Int) := by omega
      obtain ⟨d, hd⟩ : ∃ d : Nat, d = (X.length + 47) / 48 := ⟨_, rfl⟩
      rw [← hd] at hdv
      have hmax : ∀ (ts : Array TypeId) (t : TypeId) (W : World), (Builtin.max_ ts t #[.int .i64 (d : Int), .int .i64 1]).run Try.prog W = .ok (.int .i64 (n : Int)) W := by
        intro ts t W
        simp [Builtin.max_, Builtin.max2]
        unfold numP at hn
        rw [← hd] at hn
        split <;> omega
      have R7 : Hid (RowOk w7 w7.heap.size (w7.heap.size + 1) f k X g1 vs) := Lib.hid (hc7.rowOk2 (Fr.refl _ _) (Fr.refl _ _))
      clear hc7 SX6 F6 hn hd wf hfd hfb
      have hmk := make_int n (by omega)
      dsimp only
      go_upto_region 16 with fail
      clear hmax hdv hmk
      have nr8 := numRow_new w7 n
      have f8 : Fr (fun _ => False) w7 (w7.alloc (.cells (madeCells #[.int .i64 0] n) 3)) := (Fr.refl _ _).alloc _
      obtain ⟨ga, hga⟩ : ∃ g, g = w7.heap.size := ⟨_, rfl⟩
      rw [← hga] at nr8 ⊢
      have NR8 : Hid (NumRow (w7.alloc (.cells (madeCells #[.int .i64 0] n) 3)) ga (laidN n 0)) := Lib.hid (by unfold laidN; simpa using nr8)
      generalize w7.alloc (.cells (madeCells #[.int .i64 0] n) 3) = w8 at *
      have F78 : Hid (Fr (fun z => w7.heap.size ≤ z) w7 w8) := Lib.hid (f8.mono (fun _ _ h => h.elim))
      clear nr8 f8
      have HGA := Lib.hid hga
      clear hga
      -- the facts that hold as long as only newer blocks than those of w7 change
      have KEEP : Hid (∀ wx, Fr (fun z => w7.heap.size ≤ z) w7 wx → RowOk wx w7.heap.size (w7.heap.size + 1) f k X g1 vs ∧ Sees wx (.slice ax X.length cx) X ∧ Sees wx (.slice oa ol.length oc) ol) := Lib.hid (fun wx fx => by
        have old : ∀ (v : Value) (l : List UInt8), Sees w7 v l → Sees wx v l := fun v l hs => by
          rcases sees_old9 hs with e | e
          · subst e
            rcases hs with ⟨_, a1, c1, e1⟩ | ⟨g1, o1, c1, e1, _, _⟩
            · rw [e1]; exact .inl ⟨rfl, _, _, rfl⟩
            · rw [e1]; exact .inl ⟨rfl, _, _, rfl⟩
          · exact hs.fr fx (fun z hz hz' => by have := e z hz; omega)
        exact ⟨R7.out.fr (fx.mono (fun z hz e => by
          by_cases h : z = w7.heap.size
          · exact .inl h
          · exact .inr (by omega))), old _ _ SX7.out, old _ _ (HB.out.2.fr F7.out (fun _ _ h => h))⟩)
      go_wp2_with fail
      go_loopg [87] n (fun gh u87 wr => ∃ i : Nat, i ≤ n ∧ gh = n - i ∧ u87 = .int .i64 i ∧ Hid (NumRow wr ga (laidN n i)) ∧ Hid (Fr (fun z => w7.heap.size ≤ z) w7 wr))
      case atStart => exact ⟨0, Nat.zero_le _, rfl, rfl, NR8, F78⟩
      case round =>
        obtain ⟨ix, hin, rfl, rfl, HR, HW⟩ := hrel
        clear NR8 F78
        by_cases hlt : ix < n
        case pos =>
          have hltz : (ix : Int) < (n : Int) := by omega
          have ci := HR.out.cell (i := ix) (by rw [laidN_length (by omega)]; exact hlt)
          have zi : wr.frozen? ⟨ga, ix, none⟩ = false := vfree HR.out ix
          go_upto_region 20 with fail
          clear ci zi
          have NR9 : Hid (NumRow (wr.setCell ⟨ga, ix, none⟩ (.int .i64 ix)) ga (laidN n (ix + 1))) := Lib.hid (by rw [← laidN_set hlt]; exact HR.out.set ix ix)
          have F9 : Hid (Fr (fun z => w7.heap.size ≤ z) w7 (wr.setCell ⟨ga, ix, none⟩ (.int .i64 ix))) := Lib.hid (HW.out.setCell (p := ⟨ga, ix, none⟩) (fun h => absurd h (by have := HGA.out; show ¬ ga < _; omega)) _)
          generalize wr.setCell ⟨ga, ix, none⟩ (.int .i64 ix) = w9 at *
          clear HR HW
          obtain ⟨RK, SX, _⟩ := KEEP.out w9 F9.out
          have HRK := Lib.hid RK
          have HSX := Lib.hid SX
          have hi' : ix < numP X := by rw [← HN.out]; exact hlt
          obtain ⟨aa, ca, hva, hsa, _⟩ := RK.part_ ix hi'
          have HVA := Lib.hid (And.intro hva hsa)
          clear hva hsa
          obtain ⟨q, hq⟩ : ∃ q : Nat, q = ix * 48 := ⟨_, rfl⟩
          have hqX : q ≤ X.length := by have := HN.out; unfold numP at this; omega
          obtain ⟨e, he⟩ : ∃ e : Nat, e = min (q + 48) X.length := ⟨_, rfl⟩
          have hmulz : (48 : Int) * (ix : Int) = (q : Int) := by rw [hq]; omega
          have hqe : q ≤ e ∧ e ≤ X.length := by omega
          have hmin : ∀ (ts : Array TypeId) (t : TypeId) (W : World), (Builtin.min_ ts t #[.int .i64 ((q : Int) + 48), .int .i64 (X.length : Int)]).run Try.prog W = .ok (.int .i64 (e : Int)) W := by
            intro ts t W
            simp [Builtin.min_, Builtin.min2]
            subst he
            split <;> omega
          obtain ⟨am, cm, hsl, hsm⟩ := slice_mid SX hqe.1 hqe.2
          have hch : (X.drop q).take (e - q) = chunk X ix := by rw [hq]; exact chunk_mid X ix e (by rw [he, hq]) (by omega)
          rw [hch] at hsm
          obtain ⟨eq_, heq⟩ : ∃ z, z = e - q := ⟨_, rfl⟩
          rw [← heq] at hsl hsm
          obtain ⟨S, hS⟩ : ∃ S : ByteArray, S = ⟨(chunk X ix).toArray⟩ := ⟨_, rfl⟩
          have HSS := Lib.hid (And.intro hS hsm)
          have HMN := Lib.hid (And.intro hmin hsl)
          have HMZ := Lib.hid (And.intro hmulz (And.intro (show IntKind.i64.wrap ((48 : Int) * (ix : Int)) = (q : Int) by rw [hmulz, IntKind.wrap_i64]; omega) (And.intro (show IntKind.i64.wrap ((q : Int) + 48) = (q : Int) + 48 by rw [IntKind.wrap_i64]; omega) hltz)))
          have HQW : Hid (IntKind.i64.wrap (q : Int) = (q : Int)) := Lib.hid (by rw [IntKind.wrap_i64]; omega)
          have HCK : Hid (pchk f ix n (chunk X ix).length = 0) := Lib.hid (by rw [HN.out]; exact chunk_chk HFB.out (by omega) hi')
          clear RK SX hq he hqe hmin hsl hsm hch heq hS hmulz
          refine wp_region_told (by kernel_rfl) (fun a b => Fr (fun _ => False) a b) (fun w => Fr.refl _ w) (fun _ _ _ h k => h.trans k (fun _ _ h => h)) [94, 95, 96, 97, 98, 99, 100, 101, 102, 103, 104, 105, 106, 107, 108, 109, 110, 111, 112, 113, 114, 115, 116, 117, 118, 119, 120, 121, 122, 123, 124, 125, 126, 127, 128, 129, 130, 131, 132, 133, 134, 135, 136, 137, 138, 139, 140, 141, 142, 143, 144, 145, 146] rfl (by decide) (by intro d hd; simp at hd ⊢; omega)
            (fun i v _ => v = ([(.slice (some ⟨g1, 0, none⟩) n n), (.int .i64 ix), (.pointer (some ⟨g1, ix * 5, none⟩)), (.pointer (some ⟨g1, ix * 5 + 4, none⟩)), (.slice aa (chunk X ix).length ca), (.string S), (.slice ax X.length cx), (.int .i64 ix), (.int .i64 q), (.int .i64 ix), (.int .i64 q), (.int .i64 ((q : Int) + 48)), (.slice ax X.length cx), (.int .i64 X.length), (.int .i64 e), (.slice am eq_ cm), (.string S), (.bool false), (.bool false), (.slice (some ⟨g1, 0, none⟩) n n), (.int .i64 ix), (.pointer (some ⟨g1, ix * 5, none⟩)), (.pointer (some ⟨g1, ix * 5 + 2, none⟩)), (.int .i64 ix), (.int .i64 ix), (.bool false), (.bool false), (.bool false), (.slice (some ⟨g1, 0, none⟩) n n), (.int .i64 ix), (.pointer (some ⟨g1, ix * 5, none⟩)), (.pointer (some ⟨g1, ix * 5 + 3, none⟩)), (.int .i64 n), (.int .i64 n), (.bool false), (.bool false), (.bool false), (.slice (some ⟨g1, 0, none⟩) n n), (.int .i64 ix), (.pointer (some ⟨g1, ix * 5, none⟩)), (.pointer (some ⟨g1, ix * 5 + 1, none⟩)), (.int .u32 k), (.int .u32 k), (.bool false), (.bool false), (.bool false), (.slice (some ⟨g1, 0, none⟩) n n), (.int .i64 ix), (.pointer (some ⟨g1, ix * 5, none⟩)), (pv f k ix n (.slice aa (chunk X ix).length ca)), (.int .i64 0), (.bool false), (.bool false)] : List Value).getD i undef)
            (fun _ _ _ _ _ h => h) (by kernel_rfl) ?stepr20 ?finr20
          case stepr20 =>
            intro vals
            simp only [frOf, fill, List.setIfInBounds_toArray, List.set_cons_succ, List.set_cons_zero]
            repeat' (first | exact AllOps.nil | refine AllOps.cons ?_ ?_)
            all_goals
              intro wx hle he K' hK
              simp only [Act.put, List.setIfInBounds_toArray, List.set_cons_succ, List.set_cons_zero, List.getD_cons_zero, List.getD_cons_succ] at hK
              simp only [List.mem_cons, List.not_mem_nil, or_false, forall_eq_or_imp, forall_eq, Region.binds, forall_const, false_imp_iff, List.getD_cons_zero, List.getD_cons_succ] at he
              try simp only [he] at hK ⊢
              have hl5 := Fr.trans (Fr.drew (Fr.refl (fun _ => False) w9)) hle (fun _ _ h => h)
              have hl8 := Lib.hid hl5
              obtain ⟨c0, c1, c2, c3, c4⟩ := (HRK.out.row.fr hl5 (fun h => h)).cells (j := ix) (by rw [← HN.out]; exact hlt)
              rw [HVA.out.1] at c4
              rw [← HN.out] at c3
              have hcv1 : (convert 23 9 (.slice aa (chunk X ix).length ca)).run Try.prog wx = .ok (.string S) wx := by rw [HSS.out.1]; exact (HVA.out.2.fr hl5 (fun _ _ h => h)).string _ _ _ Try.underlying23 Try.underlying5 Try.underlying9
              have hcv2 : (convert 23 9 (.slice am eq_ cm)).run Try.prog wx = .ok (.string S) wx := by rw [HSS.out.1]; exact (HSS.out.2 wx (HSX.out.fr hl5 (fun _ _ h => h))).string _ _ _ Try.underlying23 Try.underlying5 Try.underlying9
              obtain ⟨hmin, hsl⟩ := HMN.out
              obtain ⟨hmulz, hmw, haw, hltz⟩ := HMZ.out
              have hqw := HQW.out
              clear hl5 hle he
              try go_simp
            all_goals first
              | exact hK _ _ (Fr.refl _ _) rfl
              | (refine hK _ _ (Fr.refl _ _) ?_; simp only [hmulz, hmw, hqw]; done)
              | (refine hK _ _ (Fr.refl _ _) ?_; simp [hmulz, hmw, hqw]; done)
              | skip
            · go_at_call 12
              refine (pcheck_any f k ix n aa (chunk X ix).length ca _).mono ?_
              rintro e1 wa ⟨rfl, fa⟩
              rw [HCK.out]
              exact hK _ _ fa rfl
          case finr20 =>
          intro vals w10 hle hV
          have h52 : vals 52 = .bool false := hV 52 (by decide)
          clear hV
          have hfr := Fr.trans (Fr.drew (Fr.refl (fun _ => False) w9)) hle (fun _ _ h => h)
          have NR10 := Lib.hid (NR9.out.fr hfr (fun h => h))
          have F10 := Lib.hid (F9.out.trans hfr (fun _ _ h => h.elim))
          clear hle hfr NR9 F9 HRK HSX
          simp only [frOf, fill, List.setIfInBounds_toArray, List.set_cons_succ, List.set_cons_zero, Nat.reduceAdd]
          simp only [h52]
          clear h52
          generalize vals 0 = y0
          generalize vals 1 = y1
          generalize vals 2 = y2
          generalize vals 3 = y3
          generalize vals 4 = y4
          generalize vals 5 = y5
          generalize vals 6 = y6
          generalize vals 7 = y7
          generalize vals 8 = y8
          generalize vals 9 = y9
          generalize vals 10 = y10
          generalize vals 11 = y11
          generalize vals 12 = y12
          generalize vals 13 = y13
          generalize vals 14 = y14
          generalize vals 15 = y15
          generalize vals 16 = y16
          generalize vals 17 = y17
          generalize vals 18 = y18
          generalize vals 19 = y19
          generalize vals 20 = y20
          generalize vals 21 = y21
          generalize vals 22 = y22
          generalize vals 23 = y23
          generalize vals 24 = y24
          generalize vals 25 = y25
          generalize vals 26 = y26
          generalize vals 27 = y27
          generalize vals 28 = y28
          generalize vals 29 = y29
          generalize vals 30 = y30
          generalize vals 31 = y31
          generalize vals 32 = y32
          generalize vals 33 = y33
          generalize vals 34 = y34
          generalize vals 35 = y35
          generalize vals 36 = y36
          generalize vals 37 = y37
          generalize vals 38 = y38
          generalize vals 39 = y39
          generalize vals 40 = y40
          generalize vals 41 = y41
          generalize vals 42 = y42
          generalize vals 43 = y43
          generalize vals 44 = y44
          generalize vals 45 = y45
          generalize vals 46 = y46
          generalize vals 47 = y47
          generalize vals 48 = y48
          generalize vals 49 = y49
          generalize vals 50 = y50
          generalize vals 51 = y51
          go_wp2_with fail
          go_roundg (n - (ix + 1))
          case measure => omega
          case rel => exact ⟨ix + 1, by omega, rfl, by congr 1, NR10, F10⟩
        obtain rfl : n = ix := by omega
        clear hlt hin
        rw [laidN_all] at HR
        go_wp2_with fail
        go_loopg [150] n (fun gh u150 wr => ∃ (i : Nat) (s : List Nat), i ≤ n ∧ gh = n - i ∧ u150 = .int .i64 i ∧ s.Perm (List.range n) ∧ Hid (NumRow wr ga s) ∧ Hid (Fr (fun z => w7.heap.size ≤ z) w7 wr))
        case atStart => exact ⟨0, List.range n, Nat.zero_le _, rfl, rfl, List.Perm.refl _, HR, HW⟩
        case round =>
          clear HR HW
          obtain ⟨i, s, hin, rfl, rfl, hsp, HR, HW⟩ := hrel
          have hsl : s.length = n := by rw [hsp.length_eq, List.length_range]
          by_cases hlt : i < n
          case pos =>
            have hltz : (i : Int) < (n : Int) := by omega
            by_cases ho : i < ol.length
            case neg =>
              have hoz : ¬ (i : Int) < (ol.length : Int) := by omega
              go_wp2_with fail
              go_roundg (n - (i + 1))
              case measure => omega
              case rel => exact ⟨i + 1, s, by omega, rfl, by congr 1, hsp, HR, HW⟩
            have hoz : (i : Int) < (ol.length : Int) := by omega
            obtain ⟨_, _, SO⟩ := KEEP.out wr HW.out
            obtain ⟨go_, oo, hoa, co⟩ := sees_at SO i ho
            subst hoa
            obtain ⟨z, hz⟩ : ∃ z : Nat, z = (ol.getD i 0).toNat := ⟨_, rfl⟩
            have hz256 : z < 256 := by rw [hz]; exact (ol.getD i 0).toNat_lt
            have hbz : bv (ol.getD i 0) = .int .u8 (z : Int) := by rw [hz]; rfl
            rw [hbz] at co
            clear hz hbz SO
            have wz : IntKind.i64.wrap (z : Int) = (z : Int) := by rw [IntKind.wrap_i64]; omega
            obtain ⟨d, hd⟩ : ∃ d : Nat, d = n - i := ⟨_, rfl⟩
            have hd1 : 1 ≤ d := by omega
            have hsub : (n : Int) - (i : Int) = (d : Int) := by omega
            have hdw : IntKind.i64.wrap (d : Int) = (d : Int) := by rw [IntKind.wrap_i64]; omega
            have hd0 : ¬ (d : Int) = 0 := by omega
            obtain ⟨r, hr⟩ : ∃ r : Nat, r = z % d := ⟨_, rfl⟩
            have hrd : r < d := by rw [hr]; exact Nat.mod_lt _ (by omega)
            have htm : (z : Int).tmod (d : Int) = (r : Int) := by rw [hr, Int.tmod_eq_emod_of_nonneg (by omega)]; rfl
            have hrw : IntKind.i64.wrap (r : Int) = (r : Int) := by rw [IntKind.wrap_i64]; omega
            obtain ⟨j, hj⟩ : ∃ j : Nat, j = i + r := ⟨_, rfl⟩
            have hij : (i : Int) + (r : Int) = (j : Int) := by omega
            have hjw : IntKind.i64.wrap (j : Int) = (j : Int) := by rw [IntKind.wrap_i64]; omega
            have hjn : j < n := by omega
            have hjz : (j : Int) < (n : Int) := by omega
            go_upto_region 28 with fail
            have hv64 : wrap64 ((i : Int) + (z : Int) % ((n - i : Nat) : Int)) = (j : Int) := by
              rw [show (z : Int) % ((n - i : Nat) : Int) = (r : Int) by rw [← hd, hr]; rfl, hij]
              exact Go.IntWalk.wrap64_in _ ⟨by omega, by omega⟩
            rw [hv64]
            clear hv64
            clear hr co wz hsub hdw hd0 htm hrw hij hjw hoz hj hd hd1 hrd
            obtain ⟨si, hsi⟩ : ∃ x : Nat, x = s[i] := ⟨_, rfl⟩
            have hjs : j < s.length := by omega
            obtain ⟨sj, hsj⟩ : ∃ x : Nat, x = s[j] := ⟨_, rfl⟩

            have fz1 : wr.frozen? ⟨ga, i, none⟩ = false := vfree HR.out i
            have fz2 : wr.frozen? ⟨ga, j, none⟩ = false := vfree HR.out j
            have hsj' : j < s.length := by omega
            have ci : wr.cell? ⟨ga, i, none⟩ = some (.int .i64 (si : Int)) := by rw [hsi]; exact HR.out.cell (by omega)
            have cj : wr.cell? ⟨ga, j, none⟩ = some (.int .i64 (sj : Int)) := by rw [hsj]; exact HR.out.cell hsj'
            have cz : ∃ v, (wr.setCell ⟨ga, i, none⟩ (.int .i64 (sj : Int))).cell? ⟨ga, j, none⟩ = some v := ⟨_, (HR.out.set i sj).cell (by rw [List.length_set]; exact hsj')⟩
            obtain ⟨vz, cz⟩ := cz
            have HSI := Lib.hid hsi
            have HSJ := Lib.hid hsj
            clear hsi hsj
            go_region
            clear ci cj fz1 fz2 cz

            have NS : Hid (NumRow ((wr.setCell ⟨ga, i, none⟩ (.int .i64 (sj : Int))).setCell ⟨ga, j, none⟩ (.int .i64 (si : Int))).drew ga ((s.set i s[j]).set j s[i])) := Lib.hid (by rw [← HSI.out, ← HSJ.out]; exact ((HR.out.set i sj).set j si).fr (Fr.drew (Fr.refl (fun _ => False) _)) (fun h => h))
            have NP : ((s.set i s[j]).set j s[i]).Perm (List.range n) := (swap_perm s (by omega) hjs).trans hsp
            have FW : Hid (Fr (fun z => w7.heap.size ≤ z) w7 ((wr.setCell ⟨ga, i, none⟩ (.int .i64 (sj : Int))).setCell ⟨ga, j, none⟩ (.int .i64 (si : Int))).drew) := Lib.hid (Fr.drew ((HW.out.setCell (p := ⟨ga, i, none⟩) (fun h => absurd h (by have := HGA.out; show ¬ ga < _; omega)) _).setCell (p := ⟨ga, j, none⟩) (fun h => absurd h (by have := HGA.out; show ¬ ga < _; omega)) _))
            generalize ((wr.setCell ⟨ga, i, none⟩ (.int .i64 (sj : Int))).setCell ⟨ga, j, none⟩ (.int .i64 (si : Int))).drew = wn at *
            clear HR HW HSI HSJ
            generalize (s.set i s[j]).set j s[i] = sn at *
            go_wp2_with fail
            go_roundg (n - (i + 1))
            case measure => omega
            case rel => exact ⟨i + 1, sn, by omega, rfl, by congr 1, NP, NS, FW⟩
          obtain rfl : n = i := by omega
          clear hlt hin
          have q9 := heap_alloc_new wr (oTab nilS (.map none))
          have f9 : Fr (fun _ => False) wr (wr.alloc (oTab nilS (.map none))) := (Fr.refl _ _).alloc _
          have RK9 : Hid (RowOk (wr.alloc (oTab nilS (.map none))) wr.heap.size (wr.heap.size + 1) f k X g1 vs) := Lib.hid (C7.out.rowOk2 HW.out f9)
          have T9 : Hid (TabV (wr.alloc (oTab nilS (.map none))) wr.heap.size (wr.heap.size + 1) ⟨none, []⟩) := Lib.hid (tab_new q9 (Nat.lt_succ_self _) (by rw [World.size_alloc]; exact Nat.le_refl _))
          have NR9 : Hid (NumRow (wr.alloc (oTab nilS (.map none))) ga s) := Lib.hid (HR.out.fr f9 (fun h => h))
          have hgab : ga < wr.heap.size := vt_lt HR.out
          have HF9 : Hid (Fr (fun z => w7.heap.size ≤ z) w7 (wr.alloc (oTab nilS (.map none)))) := Lib.hid (HW.out.trans f9 (fun _ _ h => h.elim))
          clear q9 f9 HR HW
          go_upto_region 32 with fail
          generalize wr.alloc (oTab nilS (.map none)) = w9 at *
          obtain ⟨b, hb⟩ : ∃ b, b = wr.heap.size := ⟨_, rfl⟩
          rw [← hb] at RK9 T9 hgab ⊢
          obtain ⟨B, hB⟩ : ∃ B, B = b + 1 := ⟨_, rfl⟩
          rw [← hB] at RK9 T9
          have HGAB : Hid (ga < b ∧ b < B ∧ w7.heap.size ≤ b ∧ B = b + 1) := Lib.hid ⟨hgab, by omega, by have := HF9; have := HGA.out; omega, hB⟩
          have SX9 : Hid (∀ wx, Fr (TS b B) w9 wx → Sees wx (.slice ax X.length cx) X) := Lib.hid (fun wx fx => (KEEP.out wx (HF9.out.trans fx (fun z _ hz => by
            have := HGAB.out
            rcases hz with e | e <;> omega))).2.1)
          clear hb hB hgab
          have hsp' := Lib.hid hsp
          have hnd : Hid s.Nodup := Lib.hid (hsp.nodup_iff.2 List.nodup_range)
          have hmem : Hid (∀ j, j ∈ s ↔ j < n) := Lib.hid (fun j => by rw [hsp.mem_iff, List.mem_range])
          clear hsp hsp'
          obtain ⟨wo, hwo⟩ : ∃ wo : World, wo = w9 := ⟨_, rfl⟩
          go_loopg [187] n (fun gh u187 wr => ∃ i : Nat, i ≤ n ∧ gh = n - i ∧ u187 = .int .i64 i ∧ Hid (TabV wr b B (stT f k X [] (s.take i))) ∧ Hid (Fr (TS b B) w9 wr))
          case atStart => exact ⟨0, Nat.zero_le _, rfl, rfl, by rw [List.take_zero, stT_zero]; exact T9, Lib.hid (Fr.refl _ _)⟩
          case round =>
            obtain ⟨i, hin, rfl, rfl, HT, HW⟩ := hrel
            clear T9
            by_cases hlt : i < n
            case pos =>
              have hltz : (i : Int) < (n : Int) := by omega
              obtain ⟨j, hj⟩ : ∃ j : Nat, j = s[i] := ⟨_, rfl⟩
              have hjs : j ∈ s := by rw [hj]; exact List.getElem_mem _
              have hjn : j < n := (hmem.out j).1 hjs
              have hjz : (j : Int) < (n : Int) := by omega
              have hjX : j < numP X := by rw [← HN.out]; exact hjn
              have NRi : NumRow wr ga s := NR9.out.fr HW.out (fun e => by
                have := HGAB.out
                rcases e with e | e <;> omega)
              have his : i < s.length := by omega
              have ci : wr.cell? ⟨ga, i, none⟩ = some (.int .i64 (j : Int)) := by rw [hj]; exact NRi.cell his
              clear NRi his
              have RX := RK9.out.fr HW.out
              obtain ⟨aa, ca, hva, hsa, hoa⟩ := RX.part_ j hjX
              obtain ⟨c0, c1, c2, c3, c4⟩ := RX.row.cells hjX
              rw [hva] at c4
              rw [← HN.out] at c3
              have HVA := Lib.hid hva
              clear hva hsa hoa
              have hsl' : (s.take i).length = i := by rw [List.length_take]; omega
              have htk : s.take (i + 1) = s.take i ++ [j] := by rw [hj]; exact List.take_succ_eq_append_getElem (by omega)
              have hni : j ∉ s.take i := fun h => by
                have hn2 := hnd.out
                rw [← List.take_append_drop (i + 1) s, htk, List.append_assoc] at hn2
                have := (List.nodup_append.1 hn2).2.2 j h j (by simp)
                exact this rfl
              have hall : (s.take i).length + 1 = numP X → ∀ q, q < numP X → q ∈ s.take i ++ [j] := fun h q hq => by
                rw [← htk, List.take_of_length_le (by rw [hsl'] at h; have := HN.out; omega)]
                exact (hmem.out q).2 (by rw [HN.out]; exact hq)
              have P1 := put_new (f := f) (k := k) (l := X) (d := []) (s := s.take i) (j := j) HFB.out (by omega) (by simp) hjX (by rw [hsl', ← HN.out]; exact hlt) hni hall
              rw [← htk, hsl', ← HN.out] at P1
              have P2 := put_again (f := f) (k := k) (l := X) (d := []) (s := s.take (i + 1)) (j := j) HFB.out (by omega) (by simp) hjX (by rw [List.length_take, ← HN.out]; omega) (by rw [htk]; simp)
              have HP := Lib.hid (And.intro P1 P2)
              have SP := step_put (stT f k X [] (s.take i)) HT.out RX HK.out hjX aa ca HVA.out stT_id
              rw [← HN.out, P1] at SP
              have HSP := Lib.hid SP
              have hlen2 : (stT f k X [] (s.take (i + 1))).o.isSome = decide (i + 1 < n) := by
                rw [stT_len _ _ _ _ _ (by rw [htk]; simp) (by rw [List.length_take, ← HN.out]; omega), List.length_take, ← HN.out]
                congr 1
                apply propext
                omega
              have HL2 := Lib.hid hlen2
              clear P1 P2 SP RX hall hni htk hsl' hjs hlen2 hj
              have hnw : IntKind.i64.wrap ((n : Int) - 1) = (n : Int) - 1 := by rw [IntKind.wrap_i64]; omega
              go_wp2_with fail
              refine HSP.out.mono ?_
              rintro e wz ⟨ar, nr, cr, rfl, hz1, hz2, hz3, hz4⟩
              clear c0 c1 c2 c3 c4 ci
              have WZ : Hid (Fr (TS b B) w9 wz) := Lib.hid (HW.out.trans hz2 (fun _ _ h => h))
              have RZ := RK9.out.fr WZ.out
              have TZ := Lib.hid hz1
              obtain ⟨c0, c1, c2, c3, c4⟩ := RZ.row.cells hjX
              rw [HVA.out] at c4
              rw [← HN.out] at c3
              have SP := step_put (stT f k X [] (s.take (i + 1))) TZ.out RZ HK.out hjX aa ca HVA.out stT_id
              rw [← HN.out, HP.out.2] at SP
              have HSQ := Lib.hid SP
              clear SP RZ HSP HP HT hz1 hz2
              by_cases hlast : i + 1 = n
              case pos =>
                have hlz : (i : Int) = (n : Int) - 1 := by omega
                rw [if_pos hlast] at hz3 hz4 ⊢
                obtain ⟨hnr, hsz⟩ := hz4 X rfl
                subst hnr
                obtain ⟨S, hS⟩ : ∃ S : ByteArray, S = ⟨X.toArray⟩ := ⟨_, rfl⟩
                have hcv1 : (convert 23 9 (.slice ar X.length cr)).run Try.prog wz = .ok (.string S) wz := by rw [hS]; exact hsz.string _ _ _ Try.underlying23 Try.underlying5 Try.underlying9
                have hcv2 : (convert 23 9 (.slice ax X.length cx)).run Try.prog wz = .ok (.string S) wz := by
                  rw [hS]
                  exact (SX9.out wz WZ.out).string _ _ _ Try.underlying23 Try.underlying5 Try.underlying9
                have hd : decide (i + 1 < n) = false := by simp; omega
                rw [hd] at HL2
                clear hS hsz hz3 hz4 hd
                dsimp only
                have hd2 : ((i : Int) == (n : Int) - 1) = true := by simp [hlz]
                go_wp2_with fail
                refine HSQ.out.mono ?_
                rintro e wq ⟨a2, n2, c2', rfl, hy1, hy2, hy3, _⟩
                have WQ : Hid (Fr (TS b B) w9 wq) := Lib.hid (WZ.out.trans hy2 (fun _ _ h => h))
                have TQ := Lib.hid hy1
                clear hy1 hy2 hy3 c0 c1 c2 c3 c4 hcv1 hcv2 TZ WZ
                dsimp only
                go_wp2_with fail
                refine (tlenV wq TQ.out).mono ?_
                rintro e we ⟨rfl, rfl⟩
                rw [HL2.out]
                dsimp only
                go_wp2_with fail
                go_roundg (n - (i + 1))
                case measure => omega
                case rel => exact ⟨i + 1, by omega, rfl, by congr 1 <;> omega, TQ, WQ⟩
              case neg =>
                have hlz : ¬ (i : Int) = (n : Int) - 1 := by omega
                rw [if_neg hlast] at hz3 hz4 ⊢
                obtain rfl := hz3 rfl
                have hd : decide (i + 1 < n) = true := by simp; omega
                rw [hd] at HL2
                clear hz3 hz4 hd
                dsimp only
                have hd2 : ((i : Int) == (n : Int) - 1) = false := by simp [hlz]
                go_wp2_with fail
                refine HSQ.out.mono ?_
                rintro e wq ⟨a2, n2, c2', rfl, hy1, hy2, hy3, _⟩
                have WQ : Hid (Fr (TS b B) w9 wq) := Lib.hid (WZ.out.trans hy2 (fun _ _ h => h))
                have TQ := Lib.hid hy1
                clear hy1 hy2 hy3 c0 c1 c2 c3 c4 TZ WZ
                dsimp only
                go_wp2_with fail
                refine (tlenV wq TQ.out).mono ?_
                rintro e we ⟨rfl, rfl⟩
                rw [HL2.out]
                dsimp only
                go_wp2_with fail
                go_roundg (n - (i + 1))
                case measure => omega
                case rel => exact ⟨i + 1, by omega, rfl, by congr 1 <;> omega, TQ, WQ⟩
            obtain rfl : n = i := by omega
            clear hlt hin
            -- the end
            go_wp2_with fail
            refine (pcut_range 16 k _ _ (by omega)).mono ?_
            rintro e wa ⟨rfl, rfl⟩
            dsimp only
            have hmk : ∀ W : World, (Instr.makeSlice 23 (.int .i64 4801) (.int .i64 4801)).run Try.prog W = .ok (.slice (some ⟨W.heap.size, 0, none⟩) 4801 4801) (W.alloc (.cells (madeCells #[.int .u8 0] 4801) 5)) := fun W => make_u8 4801 (by omega) W
            go_wp2_with fail
            refine (pcut_size 1 k _ _ _ _ (by omega) (by omega)).mono ?_
            rintro e wb ⟨rfl, rfl⟩
            dsimp only
            have fm : Fr (fun _ => False) wr (wr.alloc (.cells (madeCells #[.int .u8 0] 4801) 5 (0, 0))) := (Fr.refl _ _).alloc _
            generalize wr.alloc (.cells (madeCells #[.int .u8 0] 4801) 5 (0, 0)) = wm at *
            have FM := Lib.hid fm
            have RM := RK9.out.fr (HW.out.trans fm (fun _ _ h => h.elim))
            have h0X : 0 < numP X := by rw [← HN.out]; omega
            obtain ⟨a0, k0, hv0, _, _⟩ := RM.part_ 0 h0X
            obtain ⟨c0, c1, c2, c3, c4⟩ := RM.row.cells h0X
            rw [hv0] at c4
            rw [← HN.out] at c3
            have d0 : wm.cell? ⟨g1, 0, none⟩ = some (.int .i64 f) := by simpa using c0
            have d1 : wm.cell? ⟨g1, 1, none⟩ = some (.int .u32 k) := by simpa using c1
            have d2 : wm.cell? ⟨g1, 2, none⟩ = some (.int .i64 0) := by simpa using c2
            have d3 : wm.cell? ⟨g1, 3, none⟩ = some (.int .i64 (n : Int)) := by simpa using c3
            have d4 : wm.cell? ⟨g1, 4, none⟩ = some (.slice a0 (chunk X 0).length k0) := by simpa using c4
            have hnz : (0 : Int) < (n : Int) := by omega
            clear c0 c1 c2 c3 c4 hv0 RM fm hmk
            go_wp2_with fail
            refine (tput_nil f k 0 n _ wm).mono ?_
            rintro e we ⟨rfl, fe⟩
            have FE := Lib.hid fe
            clear fe d0 d1 d2 d3 d4
            dsimp only
            go_wp2_with fail
            refine (tlen_nil _).mono ?_
            rintro e wf ⟨rfl, rfl⟩
            dsimp only
            go_wp2_with fail
            go_ret
            exact ⟨by first | rfl | simp, ((F7.out.trans HF9.out (fun z hz h => by
              have := F7.out.size
              have h' : w7.heap.size ≤ z := h
              exact absurd h' (by omega))).trans HW.out (fun z hz h => by
              have := F7.out.size
              have := HGAB.out
              have h' : z = b ∨ B ≤ z := h
              exact absurd h' (by omega))).trans (FM.out.trans FE.out (fun _ _ h => h)) (fun _ _ h => h)⟩
end
section
theorem cuts_all {w : World} (va : Value) (la : List Int) (ha : SeesL w va (la.map (Value.int .u8))) (fa : ∀ n ∈ la, (Lit.int .u8 n).wf = true) (long : Int) (l0 : 0 ≤ long) (l1 : long ≤ 65535) (fr : Int) (h0 : 0 ≤ fr) (h1 : fr ≤ 255) (k : Int) (k0 : 0 ≤ k) (k1 : k ≤ 4294967295) (vo : Value) (lo : List Int) (ho : SeesL w vo (lo.map (Value.int .u8))) (fo : ∀ n ∈ lo, (Lit.int .u8 n).wf = true) :
    Calls Try.prog 5 #[va, .int .u16 long, .int .u8 fr, .int .u32 k, vo] w fun e w' => e = .returned (.bool true) ∧ Fr (fun _ => False) w w' :=
  cuts_law va _ long fr k vo _ w (sees_u8 ha fa) l0 l1 h0 h1 k0 k1 (sees_u8 ho fo)
end
end Go.Proofs.Ytjegdbkkojaacaa
