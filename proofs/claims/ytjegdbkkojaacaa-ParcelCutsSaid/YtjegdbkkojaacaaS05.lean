/-
  What ParAny, ParChk, ParBack, ParOnce rests on, part 5: ParCut, ParAwake, CrcDiv, RefBits, RefSum, RefSummed.
-/
import Derived.Test.YtjegdbkkojaacaaS04
import Derived.Test.YtjegdbkkojaacaaS01
import Derived.Test.YtjegdbkkojaacaaS02
import Derived.BigRegion
import Derived.Deep.LoopGhost
import Derived.Test.YtjegdbkkojaacaaS03
import Derived.Deep.RegionWith
import Derived.Deep.Cut
import Derived.Deep.CutRange
set_option linter.unusedVariables false
set_option linter.unusedSimpArgs false
set_option maxHeartbeats 64000000
namespace Go.Proofs.Ytjegdbkkojaacaa
open Go.RowKit
open Go.Lib (hid)
section
set_option maxRecDepth 100000

theorem Try.infoPar : (Try.prog.info? 29).map (fun i => (i.zero, i.size, i.bytes)) = some (some (.agg #[.int .i64 0, .int .u32 0, .int .i64 0, .int .i64 0, .slice none 0 0]), 5, 56) := by kernel_rfl
theorem Try.sizePar : (Try.prog.info? 29).map (·.size) = some 5 := by kernel_rfl

theorem slice_low {w : World} {a : Option Addr} {l : List UInt8} {c q : Nat} (h : Sees w (.slice a l.length c) l) (hq : q ≤ l.length) :
    ∃ a', (∀ W, (Instr.slice 23 (.slice a l.length c) (some (.int .i64 (q : Int))) none none).run Try.prog W = .ok (.slice a' (l.length - q) (c - q)) W) ∧ Sees w (.slice a' (l.length - q) (c - q)) (l.drop q) := by
  have hs : ∀ W, (sizeOf 5).run Try.prog W = .ok 1 W := fun W => by kernel_rfl
  have e1 : (q : Int) ≤ (l.length : Int) := by omega
  by_cases hc : c = q
  · have hl : l.length - q = 0 := by
      rcases h.cap.2 with e | e <;> omega
    refine ⟨a, fun W => ?_, .inl ⟨List.drop_of_length_le (by omega), a, c - q, by rw [hl]⟩⟩
    subst hc
    simp [Instr.slice, Instr.sliceBounds, Instr.sliceBound, run_underlying Try.underlying23, asIntOf, hs, hq, Result.andThen]
  · refine ⟨a.map fun x => x.add q, fun W => ?_, h.drop_part hq⟩
    cases a with
    | none => simp [Instr.slice, Instr.sliceBounds, Instr.sliceBound, run_underlying Try.underlying23, asIntOf, hs, hq, Result.andThen]
    | some a => simp [Instr.slice, Instr.sliceBounds, Instr.sliceBound, run_underlying Try.underlying23, asIntOf, hs, hq, hc, Result.andThen]

/-- A walk's stop ahead of a store. -/
def Stop (p : Prop) : Prop := p
theorem stop_store {P : Program} {ops : Array Oper} {rest : List Oper} {a : Act} {w : World} {Q : Exit → Act → World → Prop} {dst : Option Tmp} {ty type : TypeId} {pos : String} {after : Array Edge} (x y : Operand)
    (h : Stop (wpList P ops Q (⟨dst, .store ty x y, type, pos, after, none⟩ :: rest) a w)) : wpList P ops Q (⟨dst, .store ty x y, type, pos, after, none⟩ :: rest) a w := h

/-- What Cut gives: a row of the parts. -/
structure CutOk (f k : Int) (l : List UInt8) (g : Nat) (vs : Nat → Value) (w w' : World) : Prop where
  row : PRow w' g (numP l) f k (numP l) vs
  sees : ∀ j, j < numP l → Sees w' (vs j) (chunk l j)
  new_ : ∀ j, j < numP l → ∀ b, (vs j).ownBlock = some b → g < b
  g0 : w.heap.size ≤ g
  fr : Fr (fun _ => False) w w'

theorem pcut_range (f k : Int) (v : Value) (w : World) (hf : ¬ (0 ≤ f ∧ f < 16)) :
    Calls Try.prog 16 #[.int .i64 f, .int .u32 k, v] w fun e w' => e = .returned (.tuple #[nilS, .int .i64 2]) ∧ w = w' := by
  have hn : nodeB f = false := by simp only [nodeB, decide_eq_false_iff_not]; exact hf
  clear hf
  go_enter Try.func16, Try.ntmps16
  go_wp2_with fail
  refine (node_any f w).mono ?_
  rintro e w1 ⟨rfl, rfl⟩
  rw [hn]
  clear hn
  dsimp only
  go_wp2_with fail
  go_ret2
  exact ⟨rfl, rfl⟩

theorem pcut_size (f k : Int) (a : Option Addr) (n c : Nat) (w : World) (hf : 0 ≤ f ∧ f < 16) (hl : 4800 < n) :
    Calls Try.prog 16 #[.int .i64 f, .int .u32 k, .slice a n c] w fun e w' => e = .returned (.tuple #[nilS, .int .i64 6]) ∧ w = w' := by
  have hn : nodeB f = true := by simp only [nodeB, decide_eq_true_eq]; exact hf
  have hl' : (4800 : Int) < (n : Int) := by omega
  clear hf hl
  go_enter Try.func16, Try.ntmps16
  go_wp2_with fail
  refine (node_any f w).mono ?_
  rintro e w1 ⟨rfl, rfl⟩
  rw [hn]
  clear hn
  dsimp only
  go_wp2_with fail
  go_ret2
  exact ⟨rfl, rfl⟩

theorem pcut_ok (f k : Int) (v : Value) (l : List UInt8) (w : World) (hf : 0 ≤ f ∧ f < 16) (hs : Sees w v l) (hl : l.length ≤ 4800) :
    Calls Try.prog 16 #[.int .i64 f, .int .u32 k, v] w fun e w' => ∃ g vs, e = .returned (.tuple #[.slice (some ⟨g, 0, none⟩) (numP l) (numP l), .int .i64 0]) ∧ CutOk f k l g vs w w' := by
  obtain ⟨a, c, rfl, hnn⟩ := hs.shape
  clear hnn
  have hn : nodeB f = true := by simp only [nodeB, decide_eq_true_eq]; exact hf
  have hl' : ¬ (4800 : Int) < (l.length : Int) := by omega
  obtain ⟨n, hnd⟩ : ∃ n, n = numP l := ⟨_, rfl⟩
  obtain ⟨hn1, hn100⟩ := numP_bounds hl
  rw [← hnd] at hn1 hn100
  have hdv : ((l.length : Int) + 47) / 48 = (((l.length + 47) / 48 : Nat) : Int) := by omega
  obtain ⟨d, hd⟩ : ∃ d : Nat, d = (l.length + 47) / 48 := ⟨_, rfl⟩
  rw [← hd] at hdv
  have hmax : ∀ (ts : Array TypeId) (t : TypeId) (W : World), (Builtin.max_ ts t #[.int .i64 1, .int .i64 (d : Int)]).run Try.prog W = .ok (.int .i64 (n : Int)) W := by
    intro ts t W
    simp [Builtin.max_, Builtin.max2]
    unfold numP at hnd
    rw [← hd] at hnd
    split <;> omega
  obtain ⟨i0, hi0, hzz⟩ := Option.map_eq_some_iff.1 Try.infoPar
  simp only [Prod.mk.injEq] at hzz
  obtain ⟨hz, hsz, hby⟩ := hzz
  have hmk : ∀ W : World, (Instr.makeSlice 44 (.int .i64 (n : Int)) (.int .i64 (n : Int))).run Try.prog W = .ok (.slice (some ⟨W.heap.size, 0, none⟩) n n) (W.alloc (.cells (madeCells #[.int .i64 0, .int .u32 0, .int .i64 0, .int .i64 0, .slice none 0 0] (n * 5)) 29 (0, 0))) := by
    intro W
    have hr := run_make (P := Try.prog) W 44 29 i0 _ Try.underlying44 hi0 hz .i64 .i64 n n (by omega) (Int.le_refl _) (by rw [hby]; omega) (by omega)
    rw [hsz] at hr
    simp only [Int.toNat_natCast, Value.cells] at hr
    exact hr
  have HS := Lib.hid hs
  have HN := Lib.hid hnd
  have HF := Lib.hid hf
  have HD := Lib.hid hd
  have HL := Lib.hid hl
  clear hs hnd hf hd hz hsz hby hi0
  have wr1 : IntKind.i64.wrap ((l.length : Int) + 48) = (l.length : Int) + 48 := by rw [IntKind.wrap_i64]; omega
  have wr2 : (l.length : Int) + 48 - 1 = (l.length : Int) + 47 := by omega
  rw [← HN.out]
  go_enter Try.func16, Try.ntmps16
  go_wp2_with fail
  refine (node_any f w).mono ?_
  rintro e w1 ⟨rfl, rfl⟩
  rw [hn]
  clear hn
  dsimp only
  go_upto_region 6 with fail
  have P1 : PRow (w.alloc (.cells (madeCells #[.int .i64 0, .int .u32 0, .int .i64 0, .int .i64 0, .slice none 0 0] (n * 5)) 29 (0, 0))) w.heap.size n f k 0 (fun _ => nilS) := prow_new w f k n _ _ _
  have f1 : Fr (fun _ => False) w (w.alloc (.cells (madeCells #[.int .i64 0, .int .u32 0, .int .i64 0, .int .i64 0, .slice none 0 0] (n * 5)) 29 (0, 0))) := (Fr.refl _ _).alloc _
  generalize w.alloc (.cells (madeCells #[.int .i64 0, .int .u32 0, .int .i64 0, .int .i64 0, .slice none 0 0] (n * 5)) 29 (0, 0)) = w1 at *
  obtain ⟨g, hg⟩ : ∃ g, g = w.heap.size := ⟨_, rfl⟩
  rw [← hg] at P1 ⊢
  have HG := Lib.hid hg
  have HP1 := Lib.hid P1
  have HF1 := Lib.hid f1
  clear hg P1 f1 hmk hmax hdv wr1 wr2 hl'
  go_upto_region 7 with fail
  go_loopg [26] n (fun gg u26 wr => ∃ (i : Nat) (vs : Nat → Value), i ≤ n ∧ gg = n - i ∧ u26 = .int .i64 i ∧ Hid (PRow wr g n f k i vs) ∧ Hid (∀ j, j < i → Sees wr (vs j) (chunk l j) ∧ ∀ b, (vs j).ownBlock = some b → g < b) ∧ Hid (Fr (fun _ => False) w wr))
  case atStart => exact ⟨0, _, Nat.zero_le _, rfl, rfl, HP1, Lib.hid (fun j hj => absurd hj (by omega)), HF1⟩
  case round =>
    obtain ⟨i, vs, hi, rfl, rfl, HP, HV, HW⟩ := hrel
    by_cases hlt : i < n
    case neg =>
      obtain rfl : i = n := by omega
      go_wp2_with fail
      go_ret2
      refine ⟨g, vs, rfl, ?_⟩
      have hN := HN.out
      subst hN
      exact ⟨HP.out, fun j hj => (HV.out j hj).1, fun j hj => (HV.out j hj).2, by rw [HG.out]; exact Nat.le_refl _, HW.out⟩
    have hltz : (i : Int) < (n : Int) := by omega
    obtain ⟨q, hq⟩ : ∃ q : Nat, q = i * 48 := ⟨_, rfl⟩
    have hql : q ≤ l.length := by have := HN.out; unfold numP at this; omega
    have hqz : (i : Int) * 48 = (q : Int) := by rw [hq]; omega
    have hcd : Hid (chunk l i = (l.drop q).take 48) := Lib.hid (by rw [hq]; rfl)
    have S1 := HS.out.fr HW.out (fun _ _ h => h)
    obtain ⟨a', hsl, S2⟩ := slice_low S1 hql
    have hlen : (l.drop q).length = l.length - q := List.length_drop
    obtain ⟨r, hr⟩ : ∃ r : Nat, r = l.length - q := ⟨_, rfl⟩
    rw [← hr] at hsl S2 hlen
    obtain ⟨m, hm⟩ : ∃ m : Nat, m = min 48 r := ⟨_, rfl⟩
    have hmin : ∀ (ts : Array TypeId) (t : TypeId) (W : World), (Builtin.min_ ts t #[.int .i64 48, .int .i64 (r : Int)]).run Try.prog W = .ok (.int .i64 (m : Int)) W := by
      intro ts t W
      simp [Builtin.min_, Builtin.min2]
      subst hm
      split <;> omega
    have S3 := Lib.hid (sees_take S2 m (by rw [hlen]; omega))
    have S3' : Hid (Sees wr (.slice a' m (c - q)) (chunk l i)) := Lib.hid (by
      have h := S3.out
      have e : (l.drop q).take m = chunk l i := by
        rw [hcd.out, hm]
        by_cases h48 : 48 ≤ r
        · rw [Nat.min_eq_left h48]
        · rw [Nat.min_eq_right (by omega), List.take_of_length_le (by omega), List.take_of_length_le (by omega)]
      rw [e] at h
      exact h)
    have hmr : m ≤ r := by omega
    have hrc : r ≤ c - q ∨ r = 0 := by
      rcases S2.cap.2 with e | e <;> omega
    have hmc : m ≤ c - q := by omega
    have HQ := Lib.hid (And.intro hq (And.intro hr hm))
    clear S1 S2 S3 hq hr hm hlen
    go_upto_region 10 with fail
    clear hsl hqz
    obtain ⟨cq, hcq⟩ : ∃ cq, cq = c - q := ⟨_, rfl⟩
    rw [← hcq] at hmc hrc S3' ⊢
    clear hcq
    have hlm : (chunk l i).length = m := by rw [chunk_length]; have := HQ.out; omega
    have HLM := Lib.hid hlm
    clear hlm
    go_wp2_with fail
    refine (clone_any _ (chunk l i) wr S3'.out (by rw [HLM.out]; have := HQ.out; omega)).mono ?_
    rintro e w2 ⟨v2, rfl, o2, f2, n2⟩
    obtain ⟨a2, c2, hv2⟩ := slice_of_own o2
    rw [HLM.out] at hv2
    subst hv2
    have P2 := Lib.hid (HP.out.fr f2 (fun h => h))
    have hgl := HP.out.lt (by omega)
    have V2 : Hid (∀ b, (Value.slice a2 m c2).ownBlock = some b → g < b) := Lib.hid (fun b hb => by have := n2 b hb; omega)
    have O2 := Lib.hid o2
    have F2 := Lib.hid f2
    clear o2 f2 n2 hgl hmin hmc hrc S3'
    dsimp only
    have TH := Lib.hid (show w2.there g (i * 5) (#[.int .i64 f, .int .u32 k, .int .i64 i, .int .i64 n, .slice a2 m c2] : Array Value).size from there_part P2.out.room (by show i * 5 + 5 ≤ n * 5; omega))
    have OC : Hid ((#[.int .i64 f, .int .u32 k, .int .i64 i, .int .i64 n, .slice a2 m c2] : Array Value).all (·.oneCell') = true) := Lib.hid (by simp [Value.oneCell'])
    have SZ := Lib.hid (show (Try.prog.info? 29).map (·.size) = some (#[.int .i64 f, .int .u32 k, .int .i64 i, .int .i64 n, .slice a2 m c2] : Array Value).size from Try.sizePar)
    go_wp2_with (with_reducible refine stop_store (.tmp 47) (.tmp 46) ?_)
    unfold Stop
    refine wpList_store_mid rfl 29 (.tmp 47) (.tmp 46) rfl g (i * 5) #[.int .i64 f, .int .u32 k, .int .i64 i, .int .i64 n, .slice a2 m c2] ?hx ?hy ?ht ?hi ?h1 ?go
    case hx => rfl
    case hy => rfl
    case ht => exact TH.out
    case hi => exact SZ.out
    case h1 => exact OC.out
    rw [show (#[.int .i64 f, .int .u32 k, .int .i64 i, .int .i64 n, .slice a2 m c2] : Array Value).toList = parL f k i n (.slice a2 m c2) from rfl]
    clear TH SZ OC
    have P3 := Lib.hid (P2.out.push hlt (.slice a2 m c2))
    have F3 := Lib.hid ((Fr.refl (fun b => b = g) w2).setCells (b := g) (fun _ => rfl) (i * 5) (parL f k i n (.slice a2 m c2)))
    have V3 : Hid (∀ j, j < i + 1 → Sees (w2.setCells g (i * 5) (parL f k i n (.slice a2 m c2))) (if j = i then Value.slice a2 m c2 else vs j) (chunk l j) ∧ ∀ b, (if j = i then Value.slice a2 m c2 else vs j).ownBlock = some b → g < b) := Lib.hid (fun j hj => by
      by_cases hji : j = i
      · subst hji
        rw [if_pos rfl]
        exact ⟨O2.out.sees.fr F3.out (fun b hb e => by have := V2.out b hb; omega), V2.out⟩
      · rw [if_neg hji]
        have := HV.out j (by omega)
        exact ⟨(this.1.fr F2.out (fun _ _ h => h)).fr F3.out (fun b hb e => by have := this.2 b hb; omega), this.2⟩)
    have F4 : Hid (Fr (fun _ => False) w (w2.setCells g (i * 5) (parL f k i n (.slice a2 m c2)))) := Lib.hid ((HW.out.trans F2.out (fun _ _ h => h)).trans F3.out (fun b hb e => by have := HG.out; omega))
    generalize w2.setCells g (i * 5) (parL f k i n (.slice a2 m c2)) = w3 at *
    clear F3 P2 O2 V2 F2 HP HV HW
    go_wp2_with fail
    go_roundg (n - (i + 1))
    case measure => omega
    case rel => exact ⟨i + 1, _, by omega, rfl, by congr 1, P3, V3, F4⟩
end
section
set_option maxRecDepth 100000

theorem make_u8 (n : Nat) (hn : n ≤ 100000) (W : World) : (Instr.makeSlice 23 (.int .i64 (n : Int)) (.int .i64 (n : Int))).run Try.prog W = .ok (.slice (some ⟨W.heap.size, 0, none⟩) n n) (W.alloc (.cells (madeCells #[.int .u8 0] n) 5)) :=
  run_make_row' _ 5 (.int .u8 0) 1 Try.underlying23 Try.infoU8 rfl .i64 .i64 n (by omega) (by omega) W

theorem pawake_any (w : World) : Calls Try.prog 8 #[] w fun e w' => e = .returned (.bool true) ∧ Fr (fun _ => False) w w' := by
  have hmk : ∀ W : World, (Instr.makeSlice 23 (.int .i64 50) (.int .i64 50)).run Try.prog W = .ok (.slice (some ⟨W.heap.size, 0, none⟩) 50 50) (W.alloc (.cells (madeCells #[.int .u8 0] 50) 5)) := fun W => make_u8 50 (by omega) W
  go_enter Try.func8, Try.ntmps8
  go_wp2_with fail
  have o1 := own_made w 50 (by omega)
  have f1 : Fr (fun _ => False) w (w.alloc (.cells (madeCells #[.int .u8 0] 50) 5)) := (Fr.refl _ _).alloc _
  generalize w.alloc (.cells (madeCells #[.int .u8 0] 50) 5) = w1 at *
  have F1 := Lib.hid f1
  have O1 := Lib.hid o1
  clear f1 o1 hmk
  refine (pcut_ok 1 2 _ (List.replicate 50 0) w1 (by omega) O1.out.sees (by simp)).mono ?_
  rintro e w2 ⟨g, vs, rfl, hc⟩
  have hn : numP (List.replicate 50 0) = 2 := by unfold numP; rw [List.length_replicate]; rfl
  rw [hn]
  have C := Lib.hid hc
  obtain ⟨c0, c1, c2, c3, c4⟩ := hc.row.cells (j := 1) (by rw [hn]; omega)
  rw [hn] at c3
  have hs := hc.sees 1 (by rw [hn]; omega)
  obtain ⟨a, c, hv, _⟩ := hs.shape
  rw [show (chunk (List.replicate 50 0) 1).length = 2 by rw [chunk_length, List.length_replicate]; rfl] at hv
  rw [hv] at c4
  clear hs hv hc hn
  dsimp only
  go_wp2_with fail
  go_ret
  exact ⟨rfl, F1.out.trans C.out.fr (fun _ _ h => h)⟩

/-- A parcel is the same as one with the same bytes elsewhere. -/
theorem psame_any (x : Pc) (v u : Value) (w : World) (hv : Sees w v x.l) (hu : Sees w u x.l) :
    Calls Try.prog 14 #[x.val v, x.val u] w fun e w' => e = .returned (.bool true) ∧ Fr (fun _ => False) w w' := by
  obtain ⟨f, k, p, m, l⟩ := x
  obtain ⟨a, c, rfl, _⟩ := hv.shape
  obtain ⟨b, d, rfl, _⟩ := hu.shape
  dsimp only at *
  have q1 := new_two w (oPv f k p m (.slice a l.length c)) (oPv f k p m (.slice b l.length d))
  have f1 : Fr (fun _ => False) w ((w.alloc (oPv f k p m (.slice a l.length c))).alloc (oPv f k p m (.slice b l.length d))) := ((Fr.refl _ _).alloc _).alloc _
  have q0 : ((w.alloc (oPv f k p m (.slice a l.length c))).alloc (oPv f k p m (.slice b l.length d))).heap[w.heap.size]? = some (oPv f k p m (.slice a l.length c)) := by
    rw [Below.heap_alloc _ _ _ (by simp)]; exact heap_alloc_new w _
  have hv' := hv.fr f1 (fun _ _ h => h)
  have hu' := hu.fr f1 (fun _ _ h => h)
  go_enter Try.func14, Try.ntmps14
  go_upto_region 1 with fail
  generalize (w.alloc (oPv f k p m (.slice a l.length c))).alloc (oPv f k p m (.slice b l.length d)) = w1 at *
  obtain ⟨g1, hg1⟩ : ∃ g, g = w.heap.size + 1 := ⟨_, rfl⟩
  rw [← hg1] at q1 ⊢
  obtain ⟨g0, hg0⟩ : ∃ g, g = w.heap.size := ⟨_, rfl⟩
  rw [← hg0] at q0 ⊢
  have F := Lib.hid f1
  have hc1 : (convert 23 9 (.slice a l.length c)).run Try.prog w1 = .ok (.string ⟨l.toArray⟩) w1 := hv'.string _ _ _ Try.underlying23 Try.underlying5 Try.underlying9
  have hc2 : (convert 23 9 (.slice b l.length d)).run Try.prog w1 = .ok (.string ⟨l.toArray⟩) w1 := hu'.string _ _ _ Try.underlying23 Try.underlying5 Try.underlying9
  obtain ⟨c0, c1, c2, c3, c4⟩ := par_cells q0
  obtain ⟨d0, d1, d2, d3, d4⟩ := par_cells q1
  obtain ⟨S, hS⟩ : ∃ S : ByteArray, S = ⟨l.toArray⟩ := ⟨_, rfl⟩
  rw [← hS] at hc1 hc2
  clear hS f1 hv hu hv' hu' q0 q1 hg1 hg0
  go_wp2_with fail
  go_ret
  exact ⟨by simp, F.out⟩
end
section
namespace Crc

def terms : List Nat := [0, 6, 9, 10, 16, 20, 21, 22, 24, 25, 27, 28, 30, 31, 32]
/-- The polynomial taken away at place i, if there is a 1. -/
def divs (i : Nat) (f : Nat → Bool) : Nat → Bool := fun x => f x ^^ (f i && (decide (i ≤ x) && terms.contains (x - i)))
def win (f : Nat → Bool) (i : Nat) : BitVec 32 := topl ((List.range 32).map fun d => f (i + d))
def low (b : Bool) : BitVec 32 := if b then 1#32 else 0#32

theorem win_bit (f : Nat → Bool) (i d : Nat) (hd : d < 32) : (win f i).getLsbD (31 - d) = f (i + d) := by
  unfold win
  rw [topl_bit _ _ (by simp) hd]
  simp [List.getD, hd]

theorem low_bit (b : Bool) (j : Nat) : (low b).getLsbD j = (b && decide (j = 0)) := by
  unfold low
  cases b with
  | false => simp
  | true =>
    simp only [if_true, Bool.true_and]
    by_cases h : j < 32
    · have : ∀ j : Fin 32, (1#32).getLsbD j.val = decide (j.val = 0) := by decide
      exact this ⟨j, h⟩
    · rw [BitVec.getLsbD_of_ge _ _ (by omega)]
      exact (decide_eq_false (by omega)).symm

theorem win_ext {v : BitVec 32} {f : Nat → Bool} {i : Nat} (h : ∀ d, d < 32 → v.getLsbD (31 - d) = f (i + d)) : v = win f i := by
  apply BitVec.eq_of_getLsbD_eq
  intro j hj
  have h1 := h (31 - j) (by omega)
  have h2 := win_bit f i (31 - j) (by omega)
  rw [show 31 - (31 - j) = j by omega] at h1 h2
  rw [h1, h2]

theorem st_bit (r : BitVec 32) (d : Nat) (hd : d < 31) : (st r).getLsbD (31 - d) = (r.getLsbD (30 - d) ^^ (r.msb && poly.getLsbD (31 - d))) := by
  unfold st
  rw [BitVec.getLsbD_xor, BitVec.getLsbD_shiftLeft]
  have e1 : decide (31 - d < 32) = true := by simp; omega
  have e2 : decide (31 - d < 1) = false := by simp; omega
  have e3 : 31 - d - 1 = 30 - d := by omega
  rw [e1, e2, e3]
  cases r.msb <;> simp
theorem st_bit0 (r : BitVec 32) : (st r).getLsbD 0 = r.msb := by
  unfold st
  rw [BitVec.getLsbD_xor, BitVec.getLsbD_shiftLeft]
  cases r.msb <;> simp [poly]

theorem win_msb (f : Nat → Bool) (i : Nat) : (win f i).msb = f i := by
  rw [BitVec.msb_eq_getLsbD_last]
  have := win_bit f i 0 (by omega)
  simpa using this

theorem poly_terms : ∀ d : Fin 31, poly.getLsbD (31 - d.val) = terms.contains (d.val + 1) := by decide

theorem win_step (f : Nat → Bool) (i : Nat) : st (win f i) ^^^ low (f (i + 32)) = win (divs i f) (i + 1) := by
  apply win_ext
  intro d hd
  rw [BitVec.getLsbD_xor, low_bit]
  by_cases h : d = 31
  · subst h
    rw [show 31 - 31 = 0 from rfl, st_bit0, win_msb]
    simp only [divs, decide_true, Bool.and_true]
    rw [show i + 1 + 31 = i + 32 by omega, show i + 32 - i = 32 by omega, decide_eq_true (by omega : i ≤ i + 32), show terms.contains 32 = true by decide]
    simp [Bool.xor_comm]
  · have hd' : d < 31 := by omega
    rw [st_bit _ _ hd', win_msb]
    have e1 := win_bit f i (d + 1) (by omega)
    rw [show 31 - (d + 1) = 30 - d by omega] at e1
    rw [e1, poly_terms ⟨d, hd'⟩, decide_eq_false (by omega : ¬ 31 - d = 0)]
    simp only [divs]
    rw [show i + 1 + d = i + (d + 1) by omega, show i + (d + 1) - i = d + 1 by omega, decide_eq_true (by omega : i ≤ i + (d + 1))]
    simp

/-- Nothing is taken away where no bit is 1: the window moves on. -/
theorem win_next (m : Nat → Bool) (i : Nat) : win m (i + 1) = st (win m i ^^^ top (m i)) ^^^ low (m (i + 32)) := by
  symm
  apply win_ext
  intro d hd
  have hmsb : (win m i ^^^ top (m i)).msb = false := by
    rw [BitVec.msb_xor, win_msb]
    have : (top (m i)).msb = m i := by cases m i <;> decide
    rw [this, Bool.xor_self]
  rw [BitVec.getLsbD_xor, low_bit]
  by_cases h : d = 31
  · subst h
    rw [show 31 - 31 = 0 from rfl, st_bit0, hmsb, show i + 1 + 31 = i + 32 by omega]
    simp
  · have hd' : d < 31 := by omega
    rw [st_bit _ _ hd', hmsb, BitVec.getLsbD_xor, top_bit]
    have e1 := win_bit m i (d + 1) (by omega)
    rw [show 31 - (d + 1) = 30 - d by omega] at e1
    rw [e1, decide_eq_false (by omega : ¬ 31 - d = 0), decide_eq_false (by omega : ¬ 30 - d = 31)]
    simp
    rw [show i + 1 + d = i + (d + 1) by omega]

/-- The division, i places on. -/
def divn : Nat → (Nat → Bool) → (Nat → Bool)
  | 0, f => f
  | i + 1, f => divs i (divn i f)

theorem divn_far (f : Nat → Bool) : ∀ (i x : Nat), i + 32 ≤ x → divn i f x = f x
  | 0, _, _ => rfl
  | i + 1, x, h => by
    rw [divn, divs, divn_far f i x (by omega)]
    have : terms.contains (x - i) = false := by
      have h2 : ¬ (x - i) ∈ terms := by
        intro hm
        have : ∀ t ∈ terms, t ≤ 32 := by decide
        have := this _ hm
        omega
      simpa using h2
    rw [this]
    simp

/-- The bits with the first 32 turned. -/
def turned (m : Nat → Bool) : Nat → Bool := fun x => m x ^^ decide (x < 32)

theorem ones_bit (j : Nat) (h : j < 32) : ones.getLsbD j = true := by
  have : ∀ j : Fin 32, ones.getLsbD j.val = true := by decide
  exact this ⟨j, h⟩

theorem div_reg (m : Nat → Bool) : ∀ i, win (divn i (turned m)) i = cbs ones ((List.range i).map m) ^^^ win m i
  | 0 => by
    symm
    apply win_ext
    intro d hd
    show ((ones ^^^ win m 0).getLsbD (31 - d)) = turned m (0 + d)
    rw [BitVec.getLsbD_xor, ones_bit _ (by omega), win_bit m 0 d hd]
    simp only [turned]
    rw [decide_eq_true (by omega : 0 + d < 32)]
    cases m (0 + d) <;> rfl
  | i + 1 => by
    rw [divn, ← win_step, div_reg m i, divn_far _ i (i + 32) (by omega)]
    have ht : turned m (i + 32) = m (i + 32) := by
      simp only [turned]
      rw [decide_eq_false (by omega)]
      simp
    rw [ht, List.range_succ, List.map_append, cbs_append]
    show st (cbs ones ((List.range i).map m) ^^^ win m i) ^^^ low (m (i + 32)) = st (cbs ones ((List.range i).map m) ^^^ top (m i)) ^^^ win m (i + 1)
    rw [win_next m i, st_xor, st_xor, st_xor]
    have : ∀ a b c d : BitVec 32, a ^^^ b ^^^ d = a ^^^ c ^^^ (b ^^^ c ^^^ d) := by
      intro a b c d
      rw [BitVec.xor_comm b c, ← BitVec.xor_assoc, BitVec.xor_assoc a c, ← BitVec.xor_assoc c c, BitVec.xor_self, BitVec.zero_xor]
    exact this _ _ _ _

/-- Behind all bits: what is left is the register. -/
theorem div_end (ms : List Bool) : win (divn ms.length (turned fun x => ms.getD x false)) ms.length = cbs ones ms := by
  rw [div_reg]
  have h1 : (List.range ms.length).map (fun x => ms.getD x false) = ms := by
    apply List.ext_getElem
    · simp
    · intro j h1 h2
      simp [List.getD, h2]
  have h2 : win (fun x => ms.getD x false) ms.length = 0#32 := by
    symm
    apply win_ext
    intro d hd
    simp [List.getD]
  rw [h1, h2, BitVec.xor_zero]

/-- The number that bits tell. -/
def num (ms : List Bool) : Nat := ms.foldl (fun n b => n * 2 + b.toNat) 0
theorem num_snoc (ms : List Bool) (b : Bool) : num (ms ++ [b]) = num ms * 2 + b.toNat := by simp [num]
theorem num_lt : ∀ (ms : List Bool) (n : Nat), ms.foldl (fun n b => n * 2 + b.toNat) n < (n + 1) * 2 ^ ms.length
  | [], n => by simp
  | b :: ms, n => by
    have h := num_lt ms (n * 2 + b.toNat)
    have hb : b.toNat ≤ 1 := by cases b <;> decide
    rw [List.foldl_cons, List.length_cons, Nat.pow_succ]
    have h2 : (n * 2 + b.toNat + 1) * 2 ^ ms.length ≤ ((n + 1) * 2) * 2 ^ ms.length := Nat.mul_le_mul_right _ (by omega)
    have h3 : ((n + 1) * 2) * 2 ^ ms.length = (n + 1) * (2 ^ ms.length * 2) := by rw [Nat.mul_assoc, Nat.mul_comm 2]
    omega
theorem num_small (ms : List Bool) (k : Nat) (h : ms.length ≤ k) : num ms < 2 ^ k := by
  have h1 := num_lt ms 0
  have h2 : 2 ^ ms.length ≤ 2 ^ k := Nat.pow_le_pow_right (by omega) h
  unfold num
  omega

theorem num_range (f : Nat → Bool) : ∀ n j, j < n → (num ((List.range n).map f)).testBit j = f (n - 1 - j)
  | n + 1, 0, _ => by
    rw [List.range_succ, List.map_append, List.map_singleton, num_snoc, Nat.testBit_zero]
    simp only [Nat.add_sub_cancel, Nat.sub_zero]
    cases f n <;> simp [Nat.add_mod]
  | n + 1, j + 1, h => by
    rw [List.range_succ, List.map_append, List.map_singleton, num_snoc, Nat.testBit_succ]
    have : (num ((List.range n).map f) * 2 + (f n).toNat) / 2 = num ((List.range n).map f) := by cases f n <;> simp <;> omega
    rw [this, num_range f n j (by omega)]
    congr 1
    omega

/-- The number of 32 bits, each turned. -/
theorem num_win (f : Nat → Bool) (i : Nat) : num ((List.range 32).map fun d => !f (i + d)) = (~~~ win f i).toNat := by
  apply Nat.eq_of_testBit_eq
  intro j
  by_cases h : j < 32
  · rw [num_range _ 32 j h, BitVec.testBit_toNat, BitVec.getLsbD_not, decide_eq_true h]
    have := win_bit f i (31 - j) (by omega)
    rw [show 31 - (31 - j) = j by omega] at this
    rw [this, show 32 - 1 - j = 31 - j by omega]
    simp
  · have h1 := num_small ((List.range 32).map fun d => !f (i + d)) 32 (by simp)
    have h2 := (~~~ win f i).isLt
    rw [Nat.testBit_lt_two_pow (Nat.lt_of_lt_of_le h1 (Nat.pow_le_pow_right (by omega) (by omega))), Nat.testBit_lt_two_pow (Nat.lt_of_lt_of_le h2 (Nat.pow_le_pow_right (by omega) (by omega)))]

/-- The document's answer is the register's, turned. -/
theorem num_div (l : List UInt8) : num ((List.range 32).map fun d => !divn (8 * l.length) (turned fun x => (bits l).getD x false) (8 * l.length + d)) = sum l := by
  rw [num_win]
  have := div_end (bits l)
  rw [bits_length] at this
  rw [this]
  rfl

end Crc
end
section
set_option maxRecDepth 100000

/-- Append of k zero values onto a slice that is owned alone. -/
theorem run_append_zeros {P : Program} (w : World) (base : Nat) (t tn ty e : TypeId) (i : TypeInfo) (z : Value) (size bytes k : Nat) (kq kn : IntKind) (ht : P.underlying t = some (.slice e)) (htn : P.underlying tn = some (.int kn))
    (hi : P.info? e = some i) (hz : i.zero = some z)
    (hsize : i.size = size) (hby : i.bytes = bytes) (hzs : z.cells.size = size) (hsz : 0 < size) (hone : ∀ u ∈ (Builtin.zeroCells z.cells k).toList, u.oneCell' = true)
    (v : Value) (n : Nat) (xs : List Value) (hown : w.ownsRow base e size v n xs) (h0 : 0 < k)
    (h63 : n + k ≤ maxLen) (hbytes : (n + k) * bytes ≤ 140737488355328) (hbase : base ≤ w.heap.size) :
    ∃ v' w', (Builtin.append_ #[t, tn] ty #[v, .int kq (k : Nat)]).run P w = .ok v' w' ∧ w'.ownsRow base e size v' (n + k) (xs ++ (Builtin.zeroCells z.cells k).toList) ∧ w.grownBy w' v.ownBlock ∧
      (v'.ownBlock = v.ownBlock ∨ v'.ownBlock = some w.heap.size) := by
  subst hsize
  subst hby
  have hsmall : n + k ≤ 9223372036854775807 := by simp only [maxLen] at h63; omega
  have hzl : (Builtin.zeroCells z.cells k).toList.length = k * i.size := by rw [Array.length_toList, size_zeroCells, hzs]
  have hlen2 : (xs ++ (Builtin.zeroCells z.cells k).toList).length = (n + k) * i.size := by rw [List.length_append, hown.1, hzl, Nat.add_mul]
  have hkb : k * i.bytes ≤ 281474976710656 := by
    have : k * i.bytes ≤ (n + k) * i.bytes := Nat.mul_le_mul_right _ (by omega)
    omega
  have grown : ∀ (old : Nat), old < n + k → ∀ (row : Option Nat),
      (w.drew.alloc (.cells (xs.toArray ++ Builtin.zeroCells z.cells k ++ Builtin.zeroCells z.cells (grownCap w (n + k) old e - (n + k))) e)).ownsRow base e i.size
        (.slice (some ⟨w.heap.size, 0, none⟩) (n + k) (grownCap w (n + k) old e)) (n + k) (xs ++ (Builtin.zeroCells z.cells k).toList) ∧
      w.grownBy (w.drew.alloc (.cells (xs.toArray ++ Builtin.zeroCells z.cells k ++ Builtin.zeroCells z.cells (grownCap w (n + k) old e - (n + k))) e)) row := by
    intro old ho row
    have hge := grownCap_ge w (n + k) old e
    have hcm : grownCap w (n + k) old e ≤ maxLen := grownCap_le_maxLen w (n + k) old e h63
    refine ⟨⟨hlen2, .inr ⟨w.heap.size, _, _, rfl, hbase, heap_alloc_new w.drew _, hge, hcm, ?_, ?_⟩⟩, ⟨rfl, rfl, rfl, by simp, fun j hj _ => Below.heap_alloc w.drew _ j hj⟩⟩
    · simp only [Array.size_append, List.size_toArray, size_zeroCells, hzs, hown.1, ← Nat.add_mul]
      congr 1
      omega
    · simp only [Array.toList_append, List.append_assoc]
      rw [← List.append_assoc, ← hlen2]
      exact List.take_left
  rcases hown.2 with ⟨rfl, rfl⟩ | ⟨g, cap, cur, rfl, hbg, hg, hnc, hcm, hcs, htake⟩
  · have hx : xs = [] := List.eq_nil_of_length_eq_zero (by simpa using hown.1)
    subst hx
    have hgr := grown 0 (by omega) (Value.ownBlock (.slice none 0 0))
    simp only [Nat.zero_add, List.nil_append, Array.empty_append] at hgr ⊢
    exact ⟨_, _, Lib.run_append_nil_zeros w t tn ty e i z kq kn ht htn hi hz k h0 hsz (by omega) hkb, hgr.1, hgr.2, .inr rfl⟩
  · by_cases hroom : n + k ≤ cap
    · have hfit : n * i.size + (Builtin.zeroCells z.cells k).toList.length ≤ cur.size := by rw [hzl, hcs, ← Nat.add_mul]; exact Nat.mul_le_mul_right _ hroom
      have hst := run_storeCells_at P g (n * i.size) e (Builtin.zeroCells z.cells k).toList 0 cur w hg (by simpa using hfit) hone
      simp only [Nat.add_zero] at hst
      have hw : IntKind.i64.wrap (k : Int) = k := by rw [IntKind.wrap_i64]; omega
      have hneg : ¬ ((k : Int) < 0) := by omega
      have h48i : ¬ (281474976710656 < (k : Int) * (i.bytes : Int)) := by rw [← Int.natCast_mul]; omega
      have hns : ¬ (k * i.size = 0) := Nat.mul_ne_zero (by omega) (by omega)
      refine ⟨.slice (some ⟨g, 0, none⟩) (n + k) cap, w.setRow g (cur.toList.take (n * i.size) ++ (Builtin.zeroCells z.cells k).toList ++ cur.toList.drop (n * i.size + (Builtin.zeroCells z.cells k).toList.length)).toArray, ?_, ⟨hlen2, .inr ⟨g, cap, _, rfl, hbg, setRow_heap w g cur _ e _ hg, hroom, hcm, ?_, ?_⟩⟩, ⟨rfl, rfl, rfl, by simp, fun j _ hj => setRow_other w g j _ (fun e => hj (by simp [Value.ownBlock, e]))⟩, .inl rfl⟩
      · simp [Builtin.append_, run_underlying ht, run_underlying htn, sizeOf, typeInfo, zeroValue, hi, hz, asInt, asIntOf, hw, hneg, h48i, hns, hroom, Addr.add_lit, hst]
      · simp only [List.size_toArray, List.length_append, List.length_take, List.length_drop, Array.length_toList]
        have := hfit
        simp only [Array.length_toList] at this
        omega
      · rw [htake, ← hlen2]
        exact List.take_left
    · have holds : ∀ j u, xs[j]? = some u → w.cell? ((⟨g, 0, none⟩ : Addr).add j) = some u := hown.cells (g := g) rfl
      have hfo := run_firstCells_some (P := P) w.drew i.size n ⟨g, 0, none⟩ n cap xs hown.1 (by simpa using holds)
      have hgr := grown cap (by omega) (Value.ownBlock (.slice (some ⟨g, 0, none⟩) n cap))
      refine ⟨_, _, Lib.run_append_grow_zeros w t tn ty e i z kq kn ht htn hi hz (some ⟨g, 0, none⟩) n cap xs hfo k h0 hsz (by omega) (by omega) hkb (growslice_fits (by omega) hbytes), hgr.1, hgr.2, .inr rfl⟩

def bitv (b : Bool) : Value := .int .u8 (if b then 1 else 0)
/-- The slice u owns a row of bits alone. -/
def RowB (w : World) (u : Value) (ms : List Bool) : Prop := w.ownsRow 0 5 1 u ms.length (ms.map bitv)

theorem bitv_one (ms : List Bool) : ∀ u ∈ ms.map bitv, u.oneCell' = true := by
  intro u hu
  obtain ⟨c, _, rfl⟩ := List.mem_map.1 hu
  rfl

theorem zeros_bits (k : Nat) : (Builtin.zeroCells (Value.int .u8 0).cells k).toList = (List.replicate k false).map bitv := by
  have h : Builtin.zeroCells (Value.int .u8 0).cells k = (List.replicate k (Value.int .u8 0)).toArray := by
    unfold Builtin.zeroCells
    show (Array.range (k * 1)).map _ = _
    rw [Nat.mul_one]
    apply Array.ext'
    rw [Array.toList_map, Array.toList_range]
    apply List.ext_getElem
    · simp
    · intro j h1 h2
      simp [Value.cells, Nat.mod_one]
  rw [h, List.map_replicate]
  rfl

/-- A row of n bits, told by a function. -/
def rowOf (n : Nat) (F : Nat → Bool) : List Bool := (List.range n).map F

theorem rowOf_length (n : Nat) (F : Nat → Bool) : (rowOf n F).length = n := by simp [rowOf]

theorem rowOf_of (ms : List Bool) (k : Nat) : ms ++ List.replicate k false = rowOf (ms.length + k) fun x => ms.getD x false := by
  apply List.ext_getElem
  · simp [rowOf]
  · intro j h1 h2
    simp only [rowOf, List.getElem_map, List.getElem_range]
    by_cases h : j < ms.length
    · rw [List.getElem_append_left h]
      simp [List.getD, h]
    · rw [List.getElem_append_right (by omega)]
      simp [List.getD, h]

theorem rowOf_flip (n : Nat) (F : Nat → Bool) (i : Nat) : (rowOf n F).set i (!F i) = rowOf n fun x => F x ^^ decide (x = i) := by
  apply List.ext_getElem
  · simp [rowOf]
  · intro j h1 h2
    rw [List.getElem_set]
    simp only [rowOf, List.getElem_map, List.getElem_range]
    by_cases h : i = j
    · subst h; simp
    · rw [if_neg h, decide_eq_false (fun e => h e.symm)]; simp

theorem rowb_at {w : World} {g n c N : Nat} {F : Nat → Bool} (h : RowB w (.slice (some ⟨g, 0, none⟩) n c) (rowOf N F)) (k : Nat) (hk : k < N) : w.cell? ⟨g, k, none⟩ = some (bitv (F k)) := by
  have hc := World.ownsRow.cells (g := g) h rfl k (bitv (F k)) (by simp [rowOf, hk])
  have hplain : (⟨g, 0, none⟩ : Addr).add k = ⟨g, k, none⟩ := by unfold Addr.add; split <;> simp_all
  rwa [hplain] at hc

theorem rowb_len {w : World} {g n c : Nat} {ms : List Bool} (h : RowB w (.slice (some ⟨g, 0, none⟩) n c) ms) : n = ms.length := by
  rcases h.2 with ⟨e, _⟩ | ⟨g', cap', cur, h', _⟩
  · simp at e
  · simp at h'; exact h'.2.1

theorem rowb_frozen {w : World} {g n c : Nat} {ms : List Bool} (h : RowB w (.slice (some ⟨g, 0, none⟩) n c) ms) (k : Nat) : w.frozen? ⟨g, k, none⟩ = false := by
  obtain rfl := rowb_len h
  exact World.ownsRow.frozenAt h k

theorem rowb_flip {w : World} {g n c N : Nat} {F : Nat → Bool} (h : RowB w (.slice (some ⟨g, 0, none⟩) n c) (rowOf N F)) (i : Nat) : RowB (w.setCell ⟨g, i, none⟩ (bitv (!F i))) (.slice (some ⟨g, 0, none⟩) n c) (rowOf N fun x => F x ^^ decide (x = i)) := by
  obtain rfl := rowb_len h
  have := (World.ownsRow.stored h i (bitv (!F i))).1
  unfold RowB
  rw [← rowOf_flip, List.length_set, List.map_set]
  exact this

theorem not_bitv (b : Bool) : Value.int .u8 (1 - (if b then (1 : Int) else 0)) = bitv (!b) := by cases b <;> rfl
end
section
theorem byte_bit (c : UInt8) (j : Nat) : ((c.toNat : Int) / 2 ^ (7 - j)).tmod 2 = if c.toNat.testBit (7 - j) then 1 else 0 := by
  have e : ((c.toNat : Int) / 2 ^ (7 - j)) = ((c.toNat / 2 ^ (7 - j) : Nat) : Int) := by simp
  rw [e, Int.tmod_eq_emod_of_nonneg (Int.natCast_nonneg _), Nat.testBit_eq_decide_div_mod_eq]
  by_cases h : c.toNat / 2 ^ (7 - j) % 2 = 1
  · rw [decide_eq_true h]; simp; omega
  · rw [decide_eq_false h]; simp; omega
theorem byte_take (c : UInt8) (j : Nat) (h : j < 8) : (Crc.byteBits c).take (j + 1) = (Crc.byteBits c).take j ++ [c.toNat.testBit (7 - j)] := by
  match j, h with
  | 0, _ => rfl
  | 1, _ => rfl
  | 2, _ => rfl
  | 3, _ => rfl
  | 4, _ => rfl
  | 5, _ => rfl
  | 6, _ => rfl
  | 7, _ => rfl

/-- What the first loops keep: a row of bits made since w. -/
structure BitsRel (w : World) (u : Value) (ms : List Bool) (wr : World) : Prop where
  fr : Fr (fun _ => False) w wr
  row : RowB wr u ms
  new : ∀ k, u.ownBlock = some k → w.heap.size ≤ k

/-- What the later loops keep. -/
structure RowRel (w : World) (g c N : Nat) (F : Nat → Bool) (wr : World) : Prop where
  fr : Fr (fun _ => False) w wr
  row : RowB wr (.slice (some ⟨g, 0, none⟩) N c) (rowOf N F)
  new : w.heap.size ≤ g

/-- A cell of the row, as the walk wants it. -/
theorem RowRel.cell {w wr : World} {g c N : Nat} {F : Nat → Bool} (h : RowRel w g c N F wr) (i : Nat) (hi : i < N) :
    ∃ C : Int, wr.cell? ⟨g, i, none⟩ = some (.int .u8 C) ∧ 0 ≤ C ∧ C ≤ 1 ∧ (C = if F i then 1 else 0) ∧ Value.int .u8 (1 - C) = bitv (!F i) :=
  ⟨if F i then 1 else 0, rowb_at h.row i hi, by split <;> omega, by split <;> omega, rfl, not_bitv _⟩

theorem RowRel.flip {w wr : World} {g c N : Nat} {F : Nat → Bool} (h : RowRel w g c N F wr) (i : Nat) : RowRel w g c N (fun x => F x ^^ decide (x = i)) (wr.setCell ⟨g, i, none⟩ (bitv (!F i))) :=
  ⟨h.fr.setCell (p := ⟨g, i, none⟩) (fun h' => absurd h' (by have := h.new; simp; omega)) _, rowb_flip h.row i, h.new⟩

theorem RowRel.drew {w wr : World} {g c N : Nat} {F : Nat → Bool} (h : RowRel w g c N F wr) : RowRel w g c N F wr.drew := ⟨h.fr.drew, h.row, h.new⟩
theorem RowRel.alloc {w wr : World} {g c N : Nat} {F : Nat → Bool} (h : RowRel w g c N F wr) (o : Obj) : RowRel w g c N F (wr.alloc o) := ⟨h.fr.alloc o, World.ownsRow.alloc h.row o, h.new⟩

/-- The polynomial's places, as the document's answer keeps them. -/
def TermsAt (wr : World) (b : Nat) : Prop := ∀ k, k < 15 → wr.cell? ⟨b, k, none⟩ = some (.int .i64 ((Crc.terms.getD k 0 : Nat) : Int))

theorem TermsAt.set {wr : World} {b g : Nat} (h : TermsAt wr b) (hne : g ≠ b) (i : Nat) (u : Value) : TermsAt (wr.setCell ⟨g, i, none⟩ u).drew b := by
  intro k hk
  rw [← h k hk]
  exact World.cell?_of_block (w := wr) (a := ⟨b, k, none⟩) (Below.heap_setCell wr ⟨g, i, none⟩ u b (fun e => hne e.symm))

theorem terms_new (wr : World) : TermsAt (wr.alloc (.cells #[.int .i64 0, .int .i64 6, .int .i64 9, .int .i64 10, .int .i64 16, .int .i64 20, .int .i64 21, .int .i64 22, .int .i64 24, .int .i64 25, .int .i64 27, .int .i64 28, .int .i64 30, .int .i64 31, .int .i64 32] 3)) wr.heap.size := by
  intro k hk
  rw [cell_of_row _ _ k _ _ (0, 0) (heap_alloc_new wr _)]
  match k, hk with
  | 0, _ | 1, _ | 2, _ | 3, _ | 4, _ | 5, _ | 6, _ | 7, _ | 8, _ | 9, _ | 10, _ | 11, _ | 12, _ | 13, _ | 14, _ => rfl

theorem terms_step : ∀ k : Fin 15, ∀ d : Fin 33, (Crc.terms.take (k.val + 1)).contains d.val = ((Crc.terms.take k.val).contains d.val ^^ decide (d.val = Crc.terms.getD k.val 0)) := by decide +kernel
theorem terms_small : ∀ k : Fin 15, Crc.terms.getD k.val 0 ≤ 32 := by decide
theorem terms_far (k d : Nat) (h : 32 < d) : (Crc.terms.take k).contains d = false := by
  rw [Bool.eq_false_iff]
  intro hc
  have hm := List.mem_of_mem_take (List.contains_iff_mem.1 hc)
  have : ∀ x ∈ Crc.terms, x ≤ 32 := by decide
  have := this d hm
  omega

/-- Behind k places turned. -/
def partG (i k : Nat) (G : Nat → Bool) : Nat → Bool := fun x => G x ^^ (decide (i ≤ x) && (Crc.terms.take k).contains (x - i))

theorem part_zero (i : Nat) (G : Nat → Bool) : partG i 0 G = G := by funext x; simp [partG]
theorem part_step (i k : Nat) (G : Nat → Bool) (hk : k < 15) : (fun x => partG i k G x ^^ decide (x = i + Crc.terms.getD k 0)) = partG i (k + 1) G := by
  funext x
  unfold partG
  rw [Bool.xor_assoc]
  congr 1
  by_cases hx : i ≤ x
  · by_cases hd : x - i ≤ 32
    · have := terms_step ⟨k, hk⟩ ⟨x - i, by omega⟩
      simp only at this
      rw [this, decide_eq_true hx, Bool.true_and, Bool.true_and]
      congr 1
      rw [Bool.eq_iff_iff]
      simp
      omega
    · rw [terms_far _ _ (by omega), terms_far _ _ (by omega)]
      have := terms_small ⟨k, hk⟩
      simp only at this
      rw [decide_eq_false (by omega : ¬ x = i + Crc.terms.getD k 0)]
      simp
  · rw [decide_eq_false hx, decide_eq_false (by omega : ¬ x = i + Crc.terms.getD k 0)]
    simp
theorem part_end (i : Nat) (G : Nat → Bool) (h : G i = true) : partG i 15 G = Crc.divs i G := by
  funext x
  unfold partG Crc.divs
  rw [h, Bool.true_and]
  rfl
theorem divs_none (i : Nat) (G : Nat → Bool) (h : G i = false) : Crc.divs i G = G := by
  funext x
  unfold Crc.divs
  rw [h]
  simp

set_option maxRecDepth 100000 in
theorem refsum_any (v : Value) (l : List UInt8) (w : World) (hs : Sees w v l) (hl : l.length ≤ 300) :
    Calls Try.prog 32 #[v] w fun e w' => e = .returned (.int .u32 (Crc.sum l)) ∧ Fr (fun _ => False) w w' := by
  obtain ⟨i0, hi, hz0, hz1, hz2⟩ := info_parts Try.infoU8
  obtain ⟨a, c, rfl, hn⟩ := hs.shape
  clear hn
  go_enter Try.func32, Try.ntmps32
  go_wp2_with fail
  go_loopg [3, 4] l.length (fun g u i wr => ∃ k : Nat, k ≤ l.length ∧ g = l.length - k ∧ i = .int .i64 k ∧ BitsRel w u (Crc.bits (l.take k)) wr)
  case atStart => exact ⟨0, Nat.zero_le _, rfl, rfl, Fr.refl _ _, World.ownsRow_nil _ _ _ _, by simp [Value.ownBlock]⟩
  case round =>
    obtain ⟨k, hkl, rfl, rfl, hB⟩ := hrel
    by_cases hlt : k < l.length
    · have hc := hs.fr hB.fr (fun _ _ h => h)
      rcases hc with ⟨h0, _⟩ | ⟨g, off, cap, e, hle, hc⟩
      · rw [h0] at hlt; simp at hlt
      simp only [Value.slice.injEq] at e
      obtain ⟨rfl, _, rfl⟩ := e
      have hc0 : w.cell? ⟨g, off + k, none⟩ = some (bv (l.getD k 0)) := by
        rcases hs with ⟨h0, _⟩ | ⟨g', off', cap', e, _, hc'⟩
        · rw [h0] at hlt; simp at hlt
        · simp only [Value.slice.injEq, Option.some.injEq, Addr.mk.injEq] at e
          obtain ⟨⟨rfl, rfl, _⟩, _, _⟩ := e
          exact hc' k hlt
      have Hc0 := Lib.hid hc0
      clear hc hc0
      have hbk : Crc.bits (l.take (k + 1)) = Crc.bits (l.take k) ++ Crc.byteBits (l.getD k 0) := by
        rw [List.take_succ_eq_append_getElem hlt, Crc.bits_append]
        simp [Crc.bits, List.getD, hlt]
      have hlen := Crc.bits_length (l.take k)
      have hll : (l.take k).length ≤ 300 := by simp; omega
      generalize hch : l.getD k 0 = ch at *
      have Hch := Lib.hid hch
      have Hbk := Lib.hid hbk
      clear hch hbk
      generalize Crc.bits (l.take k) = M at *
      have hM : M.length ≤ 2400 := by omega
      clear hlen hll
      go_wp2_with fail
      go_loopg [3, 5] 8 (fun g u i wr => ∃ j : Nat, j ≤ 8 ∧ g = 8 - j ∧ i = .int .i64 (7 - (j : Int)) ∧ BitsRel w u (M ++ (Crc.byteBits ch).take j) wr)
      case atStart => exact ⟨0, by omega, rfl, rfl, by simpa using hB⟩
      case round =>
        clear hB
        obtain ⟨j, hj8, rfl, rfl, hB⟩ := hrel
        by_cases hj : j < 8
        · have hcell : wr.cell? ⟨g, off + k, none⟩ = some (bv ch) := by
            have h1 := Hc0.out
            exact (hB.fr.cell (World.block_lt_of_cell? w _ h1) (fun h => h)).trans h1
          unfold bv at hcell
          have hcb := ch.toNat_lt
          obtain ⟨B, hBd, hBB⟩ : ∃ B : Int, ((ch.toNat : Int) / 2 ^ (7 - j)).tmod 2 = B ∧ B = if ch.toNat.testBit (7 - j) then 1 else 0 := ⟨_, rfl, byte_bit ch j⟩
          have HBB := Lib.hid hBB
          have hjs : (M ++ (Crc.byteBits ch).take j).length = M.length + j := by rw [List.length_append, List.length_take]; simp [Crc.byteBits]; omega
          have htk : M ++ (Crc.byteBits ch).take (j + 1) = M ++ (Crc.byteBits ch).take j ++ [ch.toNat.testBit (7 - j)] := by rw [byte_take ch j hj, List.append_assoc]
          generalize M ++ (Crc.byteBits ch).take j = L at *
          have Htk := Lib.hid htk
          have hL : L.length ≤ 2500 := by omega
          clear hjs htk hBB
          go_wp2_with (at_builtin; refine wpList_append_sep rfl (.tmp 22) (.tmp 30) 23 23 rfl 0 5 i0 (.int .u8 0) 1 1 Try.underlying23 _ Try.underlying23 (.inr ⟨_, rfl⟩) hi hz0 hz1 hz2 rfl (by decide) u3 L.length (L.map bitv) rfl (World.ownsRow.alloc hB.row _) _ 1 [.int .u8 B] rfl (lenOf_slice _ _ _) rfl (by exact first_row (heap_alloc_new wr _) 1 1 rfl) (by exact first_row (heap_alloc_new wr.drew _) 1 1 rfl) (by intro u hu; simp at hu; subst hu; rfl) ?b1 ?b2 (Nat.zero_le _) ?grow)
          case b1 => unfold maxLen; omega
          case b2 => omega
          case grow =>
            intro u' wC ho hg hu
            have hb' : BitsRel w u' (L ++ [ch.toNat.testBit (7 - j)]) wC := by
              refine ⟨(hB.fr.alloc _).trans (Fr.of_grown hg) (fun i hi e => ?_), ?_, ?_⟩
              · have := hB.new i e.symm; omega
              · unfold RowB
                rw [List.length_append, List.map_append]
                have e : [Value.int .u8 B] = List.map bitv [ch.toNat.testBit (7 - j)] := by rw [HBB.out]; rfl
                rw [← e]
                exact ho
              · intro k hk
                rcases hu with e | e
                · exact hB.new k (e ▸ hk)
                · rw [e] at hk; simp at hk; have := hB.fr.size; omega
            rw [← Htk.out] at hb'
            clear ho hg hu hB hcell
            go_wp2_with fail
            go_roundg (8 - (j + 1))
            case measure => omega
            case rel => exact ⟨j + 1, by omega, rfl, by simp; omega, hb'⟩
        · obtain rfl : j = 8 := by omega
          have e8 : (Crc.byteBits ch).take 8 = Crc.byteBits ch := rfl
          rw [e8, ← Hbk.out] at hB
          go_wp2_with fail
          go_roundg (l.length - (k + 1))
          case measure => omega
          case rel => exact ⟨k + 1, by omega, rfl, by simp, hB⟩
    · obtain rfl : k = l.length := by omega
      rw [List.take_length] at hB
      have hlen := Crc.bits_length l
      have Hdiv := Lib.hid (Crc.num_div l)
      rw [← hlen] at Hdiv
      have hM : (Crc.bits l).length ≤ 2400 := by omega
      have HS := Lib.hid hlen
      have hr0 := rowOf_of (Crc.bits l) 32
      have HR0 := Lib.hid hr0
      clear hs hlen hr0
      generalize Crc.bits l = L at *
      generalize hm : L.length = m at *
      have HM := Lib.hid hm; clear hm
      obtain ⟨uz, wz, hrun, hoz, hgz, huz⟩ := run_append_zeros (P := Try.prog) wr 0 23 3 23 5 i0 (.int .u8 0) 1 1 32 .i64 .i64 Try.underlying23 Try.underlying3 hi hz0 hz1 hz2 rfl (by decide) (by rw [zeros_bits]; exact bitv_one _) u3 m (L.map bitv) (by have := hB.row; unfold RowB at this; rw [HM.out] at this; exact this) (by omega) (by unfold maxLen; omega) (by omega) (Nat.zero_le _)
      obtain ⟨g, cz, rfl⟩ : ∃ g cz, uz = .slice (some ⟨g, 0, none⟩) (m + 32) cz := by
        rcases hoz.2 with ⟨_, h0⟩ | ⟨g, cap, cur, e, _⟩
        · omega
        · exact ⟨g, cap, e⟩
      have hRR : RowRel w g cz (m + 32) (fun x => L.getD x false) wz := by
        refine ⟨hB.fr.trans (Fr.of_grown hgz) (fun i hi e => ?_), ?_, ?_⟩
        · have := hB.new i e.symm; omega
        · unfold RowB
          rw [rowOf_length, ← HR0.out, List.map_append, ← zeros_bits]
          exact hoz
        · rcases huz with e | e
          · exact hB.new g e.symm
          · simp [Value.ownBlock] at e; have := hB.fr.size; omega
      clear hB hoz hgz huz HR0
      go_wp2_with (at_builtin; refine Lib.wpList_append_run _ rfl _ _ _ _ rfl _ _ rfl rfl _ _ hrun ?_)
      clear hrun
      go_loopg [6] 32 (fun gg i w2 => ∃ k : Nat, k ≤ 32 ∧ gg = 32 - k ∧ i = .int .i64 k ∧ RowRel w g cz (m + 32) (fun x => L.getD x false ^^ decide (x < k)) w2)
      case atStart => exact ⟨0, by omega, rfl, rfl, by simpa using hRR⟩
      case round =>
        clear hRR
        obtain ⟨k, hk, rfl, rfl, hR⟩ := hrel
        by_cases hlt : k < 32
        · obtain ⟨C, hc, hC0, hC1, hCF, hX⟩ := hR.cell k (by omega)
          have hz := rowb_frozen hR.row k
          have HF := Lib.hid (hR.flip k)
          have HX := Lib.hid hX
          clear hR hX hCF
          go_wp2_with fail
          rw [HX.out]
          have hF := HF.out
          have e : (fun x => (L.getD x false ^^ decide (x < k)) ^^ decide (x = k)) = fun x => L.getD x false ^^ decide (x < k + 1) := by
            funext x
            rw [Bool.xor_assoc]
            congr 1
            by_cases h : x = k
            · subst h; simp
            · rw [decide_eq_false h, Bool.xor_false, Bool.eq_iff_iff]; simp; omega
          rw [e] at hF
          go_roundg (32 - (k + 1))
          case measure => omega
          case rel => exact ⟨k + 1, by omega, rfl, by simp, hF⟩
        · obtain rfl : k = 32 := by omega
          have hR' : RowRel w g cz (m + 32) (Crc.divn 0 (Crc.turned fun x => L.getD x false)) wr := hR
          clear hR
          generalize hG : Crc.turned (fun x => L.getD x false) = G at *
          have HG := Lib.hid hG
          clear hG
          go_wp2_with fail
          have hgb : g < wr.heap.size := World.ownsRow.lt hR'.row g rfl |>.2
          have hT0 : TermsAt (wr.alloc (.cells #[.int .i64 0, .int .i64 6, .int .i64 9, .int .i64 10, .int .i64 16, .int .i64 20, .int .i64 21, .int .i64 22, .int .i64 24, .int .i64 25, .int .i64 27, .int .i64 28, .int .i64 30, .int .i64 31, .int .i64 32] 3)) wr.heap.size := terms_new wr
          have hR0 := hR'.alloc (.cells #[.int .i64 0, .int .i64 6, .int .i64 9, .int .i64 10, .int .i64 16, .int .i64 20, .int .i64 21, .int .i64 22, .int .i64 24, .int .i64 25, .int .i64 27, .int .i64 28, .int .i64 30, .int .i64 31, .int .i64 32] 3)
          generalize wr.alloc (.cells #[.int .i64 0, .int .i64 6, .int .i64 9, .int .i64 10, .int .i64 16, .int .i64 20, .int .i64 21, .int .i64 22, .int .i64 24, .int .i64 25, .int .i64 27, .int .i64 28, .int .i64 30, .int .i64 31, .int .i64 32] 3) = w5 at *
          have hne : g ≠ wr.heap.size := by omega
          generalize wr.heap.size = b at *
          clear hR' hgb
          go_loopg [8, 9] m (fun gg u v w2 => ∃ k : Nat, k ≤ m ∧ gg = m - k ∧ u = .int .i64 k ∧ RowRel w g cz (m + 32) (Crc.divn k G) w2 ∧ TermsAt w2 b)
          case atStart => exact ⟨0, by omega, rfl, rfl, hR0, hT0⟩
          case round =>
            clear hR0 hT0
            obtain ⟨i, hi, rfl, rfl, hR, hT⟩ := hrel
            by_cases hlt : i < m
            · have hstep : Crc.divn (i + 1) G = Crc.divs i (Crc.divn i G) := rfl
              have HST := Lib.hid hstep
              clear hstep
              generalize Crc.divn i G = D at *
              have hcell := rowb_at hR.row i (by omega)
              cases hDi : D i with
              | false =>
                rw [hDi] at hcell
                have e := divs_none i D hDi
                unfold bitv at hcell
                simp only [Bool.false_eq_true, if_false] at hcell
                have HR := Lib.hid hR
                have HT := Lib.hid hT
                clear hR hT
                go_wp2_with fail
                go_roundg (m - (i + 1))
                case measure => omega
                case rel => exact ⟨i + 1, by omega, rfl, by simp, by rw [HST.out, e]; exact HR.out, HT.out⟩
              | true =>
                rw [hDi] at hcell
                have e := part_end i D hDi
                rw [← e] at HST
                unfold bitv at hcell
                simp only [if_true] at hcell
                have h0 : RowRel w g cz (m + 32) (partG i 0 D) wr := by rw [part_zero]; exact hR
                have H0 := Lib.hid h0
                have HT := Lib.hid hT
                clear hR hT h0 e
                go_wp2_with fail
                go_loopg [9] 15 (fun gg u w2 => ∃ k : Nat, k ≤ 15 ∧ gg = 15 - k ∧ u = .int .i64 k ∧ RowRel w g cz (m + 32) (partG i k D) w2 ∧ TermsAt w2 b)
                case atStart => exact ⟨0, by omega, rfl, rfl, H0.out, HT.out⟩
                case round =>
                  clear H0 HT hcell
                  obtain ⟨k, hk, rfl, rfl, hR, hT⟩ := hrel
                  by_cases hlt2 : k < 15
                  · have ht := hT k hlt2
                    have hts := terms_small ⟨k, hlt2⟩
                    simp only at hts
                    have hps := part_step i k D hlt2
                    generalize Crc.terms.getD k 0 = t at *
                    have hc := rowb_at hR.row (i + t) (by omega)
                    have hz := rowb_frozen hR.row (i + t)
                    have hF := (hR.flip (i + t)).drew
                    rw [hps] at hF
                    have hTT := hT.set hne (i + t) (bitv (!partG i k D (i + t)))
                    have hit : i + t < m + 32 := by omega
                    have hitz : (i : Int) + (t : Int) < (m : Int) + 32 := by omega
                    clear hps hT hR
                    cases hb : partG i k D (i + t) with
                    | false =>
                      rw [hb] at hc hF hTT
                      have hc' : wr.cell? ⟨g, i + t, none⟩ = some (.int .u8 0) := hc
                      have HF := Lib.hid hF
                      have HT := Lib.hid hTT
                      clear hc hF hTT hb
                      go_wp2_with fail
                      go_region
                      all_goals
                        go_wp2_with fail
                        go_roundg (15 - (k + 1))
                        case measure => omega
                        case rel => exact ⟨k + 1, by omega, rfl, by simp, HF.out, HT.out⟩
                    | true =>
                      rw [hb] at hc hF hTT
                      have hc' : wr.cell? ⟨g, i + t, none⟩ = some (.int .u8 1) := hc
                      have HF := Lib.hid hF
                      have HT := Lib.hid hTT
                      clear hc hF hTT hb
                      go_wp2_with fail
                      go_region
                      all_goals
                        go_wp2_with fail
                        go_roundg (15 - (k + 1))
                        case measure => omega
                        case rel => exact ⟨k + 1, by omega, rfl, by simp, HF.out, HT.out⟩
                  · obtain rfl : k = 15 := by omega
                    rw [← HST.out] at hR
                    go_wp2_with fail
                    go_roundg (m - (i + 1))
                    case measure => omega
                    case rel => exact ⟨i + 1, by omega, rfl, by simp, hR, hT⟩
            · obtain rfl : i = m := by omega
              clear hT
              have hdiv : Crc.num (rowOf 32 fun d => !Crc.divn i G (i + d)) = Crc.sum l := Hdiv.out
              have HD := Lib.hid hdiv
              clear hdiv
              generalize Crc.divn i G = D at *
              go_wp2_with fail
              go_loopg [10, 11] 32 (fun gg u v w2 => ∃ k : Nat, k ≤ 32 ∧ gg = 32 - k ∧ v = .int .i64 ((i + k : Nat) : Int) ∧ u = .int .u32 (Crc.num (rowOf k fun d => !D (i + d))) ∧ wr = w2)
              case atStart => exact ⟨0, by omega, rfl, by simp, rfl, rfl⟩
              case round =>
                obtain ⟨k, hk, rfl, rfl, rfl, rfl⟩ := hrel
                by_cases hlt2 : k < 32
                · have hc := rowb_at hR.row (i + k) (by omega)
                  have hn1 : Crc.num (rowOf k fun d => !D (i + d)) < 2 ^ 31 := Crc.num_small _ 31 (by rw [rowOf_length]; omega)
                  have hn2 : Crc.num (rowOf (k + 1) fun d => !D (i + d)) = Crc.num (rowOf k fun d => !D (i + d)) * 2 + (!D (i + k)).toNat := by
                    have : rowOf (k + 1) (fun d => !D (i + d)) = rowOf k (fun d => !D (i + d)) ++ [!D (i + k)] := by simp [rowOf, List.range_succ]
                    rw [this, Crc.num_snoc]
                  have HN := Lib.hid hn2
                  have HR := Lib.hid hR
                  clear hR hn2
                  generalize Crc.num (rowOf k fun d => !D (i + d)) = n at *
                  have hik : i + k < i + 32 := by omega
                  cases hb : D (i + k) with
                  | false =>
                    rw [hb] at hc
                    have hc' := (show _ = some (Value.int .u8 0) from hc)
                    have hv := HN.out
                    rw [hb] at hv
                    have HV := Lib.hid hv
                    clear hc hb hv HN
                    go_wp2_with fail
                    go_roundg (32 - (k + 1))
                    case measure => omega
                    case rel =>
                      refine ⟨k + 1, by omega, rfl, by simp; omega, ?_, rfl⟩
                      rw [HV.out]
                      simp
                  | true =>
                    rw [hb] at hc
                    have hc' := (show _ = some (Value.int .u8 1) from hc)
                    have hv := HN.out
                    rw [hb] at hv
                    have HV := Lib.hid hv
                    clear hc hb hv HN
                    go_wp2_with fail
                    go_roundg (32 - (k + 1))
                    case measure => omega
                    case rel =>
                      refine ⟨k + 1, by omega, rfl, by simp; omega, ?_, rfl⟩
                      rw [HV.out]
                      simp
                · obtain rfl : k = 32 := by omega
                  rw [HD.out]
                  have HF := Lib.hid hR.fr
                  clear hR
                  go_wp2_with fail
                  go_ret
                  exact ⟨rfl, HF.out⟩
end
section
set_option maxRecDepth 100000

theorem refsummed_any (v : Value) (l : List UInt8) (w : World) (hs : Sees w v l) (hl : l.length ≤ 300) :
    Calls Try.prog 15 #[v] w fun e w' => e = .returned (.string ⟨(Crc.summed l).toArray⟩) ∧ Fr (fun _ => False) w w' := by
  obtain ⟨a, c, rfl, hn⟩ := hs.shape
  clear hn
  have hcv : ∀ W, Fr (fun _ => False) w.drew W → (convert 23 9 (.slice a l.length c)).run Try.prog W = .ok (.string ⟨l.toArray⟩) W :=
    fun W hf => (Sees.fr (w := w.drew) hs hf (fun _ _ h => h)).string _ _ _ Try.underlying23 Try.underlying5 Try.underlying9
  have hc0 := hcv w.drew (Fr.refl _ _)
  have HCV := Lib.hid hcv
  have hrs : ∀ W, Fr (fun _ => False) w.drew W → Calls Try.prog 32 #[.slice a l.length c] W fun e w' => e = .returned (.int .u32 (Crc.sum l)) ∧ Fr (fun _ => False) W w' :=
    fun W hf => refsum_any _ l W (Sees.fr (w := w.drew) hs hf (fun _ _ h => h)) hl
  have HRS := Lib.hid hrs
  have hlt := Crc.sum_lt l
  have hlen : (be4 (Crc.sum l)).length = 4 := be4_length _
  have hcat : (⟨l.toArray⟩ : ByteArray) ++ ⟨(be4 (Crc.sum l)).toArray⟩ = ⟨(Crc.summed l).toArray⟩ := by
    unfold Crc.summed
    apply ByteArray.ext
    rw [ByteArray.data_append]
    simp
  have HCAT := Lib.hid hcat
  have hz1 : (⟨l.toArray⟩ : ByteArray).size = l.length := rfl
  have hz2 : (⟨(be4 (Crc.sum l)).toArray⟩ : ByteArray).size = 4 := rfl
  clear hcv hrs hs hlen hcat
  generalize Crc.sum l = s at *
  go_enter Try.func15, Try.ntmps15
  go_wp2_with fail
  go_cut [2] from 3 to 9 (fun r wx => r = .string ⟨(Crc.summed l).toArray⟩ ∧ Fr (fun _ => False) w wx)
  case first =>
    go_region_with (first
      | (go_at_call 32; refine (HRS.out _ (Fr.refl _ _)).mono ?_; rintro e wa ⟨rfl, fa⟩; have k1 := HCV.out _ fa)
      | (go_at_call 30; refine (reflong_any s (by omega) (by omega) _).mono ?_; rintro e wb ⟨vb, rfl, mb⟩; have k2 := mb.1.sees.string (P := Try.prog) _ _ _ Try.underlying23 Try.underlying5 Try.underlying9; have k3 := HCV.out _ (fa.trans mb.2.1 (fun _ _ h => h))))
    all_goals
      first
      | (exfalso; omega)
      | (have ff := fa.trans mb.2.1 (fun _ _ h => h)
         go_wp2_with fail
         rw [HCAT.out]
         go_meet
         exact ⟨rfl, ff.os, ff.tape, ff.output, ff.size, ff.block⟩)
  case rest =>
    obtain ⟨rfl, fw⟩ := hcut
    clear HCV hc0 HRS HCAT
    go_wp2_with fail
    go_ret
    exact ⟨rfl, fw⟩
end
end Go.Proofs.Ytjegdbkkojaacaa
