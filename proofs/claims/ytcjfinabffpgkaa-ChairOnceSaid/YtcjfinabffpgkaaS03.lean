/-
  What ChOnce rests on, part 3: TrMost, TrMem, TrMath, TrBits, RegionU, RegionV.
-/
import Derived.Test.YtcjfinabffpgkaaS02
import Derived.Lib.SliceRun
import Derived.Deep.OwnRows
import Derived.Laws.BitsAllLaws
set_option linter.unusedVariables false
set_option linter.unusedSimpArgs false
set_option maxHeartbeats 64000000
namespace Go.Proofs.Ytcjfinabffpgkaa
open Go.RowKit
open Go.Lib (hid)
section
set_option maxRecDepth 100000

theorem most_any (n : Int) (l m : List Int) (a b : Option Addr) (c d : Nat) (w : World) (hc : SIc w a c l) (hd : SIc w b d m) (hs : l.length ≤ 1000) (hs' : m.length ≤ 1000) :
    Calls Try.prog 30 #[.agg #[.int .i64 n, .slice a l.length c], .slice b m.length d] w fun e w' => e = .returned (.bool (decide ((l.length : Int) < 2 * (inC l m : Int)))) ∧ Fr (fun _ => False) w w' := by
  have hq := heap_alloc_new w (oVw n a l.length c)
  have f0 : Fr (fun _ => False) w (w.alloc (oVw n a l.length c)) := (Fr.refl _ _).alloc _
  have Hc := Lib.hid hc
  have Hd := Lib.hid hd
  clear hc hd
  have Hs := Lib.hid hs
  have hin := inC_le l m
  obtain ⟨q, hqe⟩ : ∃ q, q = inC l m := ⟨_, rfl⟩
  rw [← hqe] at hin
  obtain ⟨B, hB⟩ : ∃ B, decide ((l.length : Int) < 2 * (q : Int)) = B := ⟨_, rfl⟩
  have HB := Lib.hid hB; clear hB
  have HW : Hid (IntKind.i64.wrap (2 * (q : Int)) = 2 * (q : Int)) := Lib.hid (by rw [IntKind.wrap_i64]; omega)
  have HQ := Lib.hid hqe; clear hqe
  go_enter Try.func30, Try.ntmps30
  go_upto_region 1 with fail
  generalize w.alloc (oVw n a l.length c) = w0 at *
  generalize w.heap.size = gv at *
  have F0 := Lib.hid f0
  have HG := Lib.hid hq
  clear f0 hq
  refine wp_region_told (by kernel_rfl) (fun a b => Fr (fun _ => False) a b) (fun w => Fr.refl _ w) (fun _ _ _ h k => h.trans k (fun _ _ h => h)) [5, 6, 7, 8, 9, 10, 11, 12, 4] rfl (by decide) (by intro d hd; simp at hd ⊢; omega)
    (fun i v _ => v = ([(.agg #[.int .i64 n, .slice a l.length c]), (.slice b m.length d), (.int .i64 q), (.int .i64 (2 * (q : Int))), (.pointer (some ⟨gv, 1, none⟩)), (.slice a l.length c), (.int .i64 l.length), (.bool B), (.bool B)] : List Value).getD i undef)
    (fun _ _ _ _ _ h => h) (by kernel_rfl) ?step1 ?fin1
  case step1 =>
    intro vals
    simp only [frOf, fill, List.setIfInBounds_toArray, List.set_cons_succ, List.set_cons_zero]
    repeat' (first | exact AllOps.nil | refine AllOps.cons ?_ ?_)
    all_goals
      intro wx hle he K' hK
      simp only [Act.put, List.setIfInBounds_toArray, List.set_cons_succ, List.set_cons_zero, List.getD_cons_zero, List.getD_cons_succ] at hK
      simp only [List.mem_cons, List.not_mem_nil, or_false, forall_eq_or_imp, forall_eq, Region.binds, forall_const, false_imp_iff, List.getD_cons_zero, List.getD_cons_succ] at he
      try simp only [he] at hK ⊢
      have hl5 := Fr.trans (Fr.drew (Fr.refl (fun _ => False) w0)) hle (fun _ _ h => h)
      have hl8 := Lib.hid hl5
      obtain ⟨q0, q1⟩ := vw_cells (lblock_kept HG.out hl5 (fun h => h))
      have hw := HW.out
      have hb := HB.out
      clear hl5 hle he
      try go_simp
    all_goals first
      | exact hK _ _ (Fr.refl _ _) rfl
      | skip
    · go_at_call 33; refine (among_any n l m a b c d _ (Hc.out.fr (F0.out.trans hl8.out (fun _ _ h => h))) (Hd.out.fr (F0.out.trans hl8.out (fun _ _ h => h))) Hs.out hs').mono ?_; rintro e1 wa ⟨rfl, fa⟩; rw [← HQ.out]; exact hK _ _ fa rfl
  case fin1 =>
    intro vals w' hle hV
    have h9 : vals 8 = .bool B := hV 8 (by decide)
    clear hV
    have hfin := F0.out.trans (Fr.trans (Fr.drew (Fr.refl (fun _ => False) w0)) hle (fun _ _ h => h)) (fun _ _ h => h)
    simp only [frOf, fill, List.setIfInBounds_toArray, List.set_cons_succ, List.set_cons_zero, Nat.reduceAdd]
    go_wp2_with fail
    go_ret
    refine ⟨?_, hfin⟩
    first | rw [h9] | skip
    rw [← HB.out, HQ.out]
    rfl
end
section
set_option maxRecDepth 100000

/-- Whether they stand in ascending order, above p, below 16. -/
def asc : Int → List Int → Bool
  | _, [] => true
  | p, x :: l => decide (p < x) && decide (x < 16) && asc x l

/-- The first error of nodes that are to be members. -/
def chkM (l : List Int) : Int := if 1 ≤ l.length ∧ l.length ≤ 16 then (if asc (-1) l then 0 else 2) else 7

theorem asc_step (p : Int) (l : List Int) (k : Nat) (hk : k < l.length) : asc p (l.drop k) = (decide (p < l[k]) && decide (l[k] < 16) && asc l[k] (l.drop (k + 1))) := by
  rw [List.drop_eq_getElem_cons hk]
  rfl

theorem Try.infoInt : (Try.prog.info? 3).map (fun i => (i.zero, i.size, i.bytes)) = some (some (.int .i64 0), 1, 8) := by kernel_rfl

theorem SI.first {P : Program} {w : World} {v : Value} {l : List Int} (h : SI w v l) : (Builtin.firstCells 1 l.length v).run P w = .ok (l.map (Value.int .i64)).toArray w := by
  rcases h with ⟨h, a, c, rfl⟩ | ⟨g, off, cap, rfl, _, hc⟩
  · have : l = [] := by simpa using h
    subst this
    cases a with
    | none => simp [Builtin.firstCells]
    | some a => exact run_firstCells_some (P := P) w 1 0 a 0 c [] rfl (by simp)
  · rw [List.length_map]
    refine run_firstCells_some (P := P) w 1 l.length ⟨g, off, none⟩ l.length cap (l.map (Value.int .i64)) (by simp) ?_
    intro j v hj
    have hplain : (⟨g, off, none⟩ : Addr).add j = ⟨g, off + j, none⟩ := by unfold Addr.add; split <;> simp_all
    rw [hplain, hc j v hj]

theorem iv_one (l : List Int) : ∀ u ∈ l.map (Value.int .i64), u.oneCell' = true := by
  intro u hu
  obtain ⟨c, _, rfl⟩ := List.mem_map.1 hu
  rfl

theorem empty_row (w : World) (base : Nat) (hb : base ≤ w.heap.size) (e : TypeId) (size : Nat) : (w.alloc (.cells #[] e)).ownsRow base e size (.slice (some ⟨w.heap.size, 0, none⟩) 0 0) 0 [] :=
  ⟨by simp, .inr ⟨w.heap.size, 0, #[], rfl, hb, heap_alloc_new w _, Nat.le_refl _, by unfold maxLen; omega, by simp, by simp⟩⟩

/-- The slice v owns the integers l alone, in memory from base on. -/
def OI (w : World) (base : Nat) (v : Value) (l : List Int) : Prop := w.ownsRow base 3 1 v l.length (l.map (Value.int .i64))

theorem OI.si {w : World} {base : Nat} {v : Value} {l : List Int} (h : OI w base v l) : SI w v l := by
  rcases h.2 with ⟨rfl, h0⟩ | ⟨g, cap, cur, rfl, _, hg, hle, _, hs, ht⟩
  · exact .inl ⟨by simp [List.eq_nil_of_length_eq_zero h0], none, 0, rfl⟩
  · refine .inr ⟨g, 0, cap, by simp, by simpa using hle, fun j u hj => ?_⟩
    have := World.ownsRow.cells (g := g) h rfl j u hj
    have hplain : (⟨g, 0, none⟩ : Addr).add j = ⟨g, j, none⟩ := by unfold Addr.add; split <;> simp_all
    rw [hplain] at this
    rw [Nat.zero_add]
    exact this

/-- slices.Clone of integers: a row of its own, or nil. -/
theorem lclone_any (l : List Int) (a : Option Addr) (c : Nat) (w : World) (hc : SIc w a c l) (hs : l.length ≤ 1000) :
    Calls Try.prog 27 #[.slice a l.length c] w fun e w' => ∃ v', e = .returned v' ∧ OI w' w.heap.size v' l ∧ Fr (fun _ => False) w w' := by
  obtain ⟨i0, hi, hz0, hz1, hz2⟩ := info_parts Try.infoInt
  have qT : ∀ (w : World) (a : Option Addr) (n c n' c' : Nat), (binOp .eql 31 (.slice a n c) (.slice none n' c')).run Try.prog w = .ok (.bool a.isNone) w := fun w a n c n' c' => Lib.run_eql_slice_nil w _ _ a n c n' c' Try.underlying31
  cases a with
  | none =>
    have hn : l = [] := by
      by_cases h0 : 0 < l.length
      · obtain ⟨_, g, off, e, _⟩ := hc h0; cases e
      · exact List.eq_nil_of_length_eq_zero (by omega)
    subst hn
    go_enter Try.func27, Try.ntmps27
    go_wp2
    go_ret
    exact ⟨_, rfl, World.ownsRow_nil w _ 3 1, Fr.refl _ _⟩
  | some a =>
    have f0 : Fr (fun _ => False) w (w.alloc (.cells #[] 3)) := (Fr.refl _ _).alloc _
    have hS := (hc.fr f0).sees
    have HS := Lib.hid hS
    have HF0 := Lib.hid f0
    clear hS hc f0
    go_enter Try.func27, Try.ntmps27
    go_wp2_with (at_builtin; refine wpList_append_sep rfl (.tmp 5) (.tmp 6) 31 31 rfl w.heap.size 3 i0 (.int .i64 0) 1 8 Try.underlying31 _ Try.underlying31 (.inr ⟨_, rfl⟩) hi hz0 hz1 hz2 rfl (by decide) (.slice (some ⟨w.heap.size, 0, none⟩) 0 0) 0 [] rfl ?own _ l.length (l.map (Value.int .i64)) rfl (lenOf_slice _ _ _) ?len ?c1 ?c2 ?one ?b1 ?b2 ?base ?grow)
    case own => exact empty_row w _ (Nat.le_refl _) _ _
    case len => simp
    case c1 => exact HS.out.first
    case c2 => exact SI.first (w := World.drew _) HS.out
    case one => exact iv_one l
    case b1 => unfold maxLen; omega
    case b2 => omega
    case base => simp
    case grow =>
      intro v' w1 hown hg hv
      obtain ⟨a1, c1, rfl⟩ := slice_of_own hown
      have Ho := Lib.hid hown
      have Hg := Lib.hid hg
      clear hown hg hv
      go_wp2
      go_ret
      refine ⟨_, rfl, by simpa [OI] using Ho.out, HF0.out.trans (Fr.of_grown Hg.out) ?_⟩
      intro i hi he
      simp [Value.ownBlock] at he
      omega
end
section
def nz (m : Nat) : Nat := if m = 0 then 1 else m
theorem nz_pos (m : Nat) : 0 < nz m := by unfold nz; split <;> omega
theorem nz_lt {m : Nat} (h : m < 65536) : nz m < 65536 := by unfold nz; split <;> omega
theorem nz_of {m : Nat} (h : 0 < m) : nz m = m := by unfold nz; rw [if_neg (by omega)]

/-- The numbers of the bits of m below k. -/
def memP (m k : Nat) : List Int := ((List.range k).filter (fun i => m.testBit i)).map (fun (i : Nat) => (i : Int))
def bitsL (m : Nat) : List Int := memP (nz m) 16

theorem memP_step (m k : Nat) : memP m (k + 1) = memP m k ++ (if m.testBit k then [(k : Int)] else []) := by
  unfold memP
  rw [List.range_succ, List.filter_append, List.map_append]
  congr 1
  by_cases h : m.testBit k <;> simp [h]

theorem memP_le (m k : Nat) : (memP m k).length ≤ k := by
  unfold memP
  rw [List.length_map]
  exact Nat.le_trans (List.length_filter_le _ _) (by simp)

theorem mem_memP (m k : Nat) (x : Int) : x ∈ memP m k ↔ ∃ i : Nat, i < k ∧ m.testBit i = true ∧ x = i := by
  unfold memP
  simp only [List.mem_map, List.mem_filter, List.mem_range]
  constructor
  · rintro ⟨i, ⟨h1, h2⟩, rfl⟩; exact ⟨i, h1, h2, rfl⟩
  · rintro ⟨i, h1, h2, rfl⟩; exact ⟨i, ⟨h1, h2⟩, rfl⟩

theorem mem_bitsL (m i : Nat) (hi : i < 16) : (i : Int) ∈ bitsL m ↔ (nz m).testBit i = true := by
  unfold bitsL
  rw [mem_memP]
  constructor
  · rintro ⟨j, _, h2, h3⟩
    have : i = j := by omega
    subst this; exact h2
  · intro h; exact ⟨i, hi, h, rfl⟩

theorem mem_bitsL_range (m : Nat) (x : Int) (h : x ∈ bitsL m) : ∃ i : Nat, i < 16 ∧ x = i ∧ (nz m).testBit i = true := by
  obtain ⟨i, h1, h2, h3⟩ := (mem_memP _ _ _).1 h
  exact ⟨i, h1, h3, h2⟩

theorem memP_ne (m : Nat) (h0 : 0 < m) (h1 : m < 65536) : memP m 16 ≠ [] := by
  intro h
  have hz : m = 0 := by
    apply Nat.eq_of_testBit_eq
    intro i
    rw [Nat.zero_testBit]
    by_cases hi : i < 16
    · cases hb : m.testBit i with
      | false => rfl
      | true =>
        have : (i : Int) ∈ memP m 16 := (mem_memP _ _ _).2 ⟨i, hi, hb, rfl⟩
        rw [h] at this
        cases this
    · exact Nat.testBit_lt_two_pow (Nat.lt_of_lt_of_le h1 (Nat.pow_le_pow_right (n := 2) (by omega) (show 16 ≤ i by omega)))
  omega

theorem memP_zero : memP 0 16 = [] := by
  unfold memP
  simp

theorem bitsL_of (m : Nat) (h1 : m < 65536) : bitsL m = if memP m 16 = [] then [0] else memP m 16 := by
  unfold bitsL
  by_cases h : m = 0
  · subst h
    rw [if_pos memP_zero]
    decide
  · rw [if_neg (memP_ne m (by omega) h1), nz_of (by omega)]

theorem asc_iff (p : Int) (l : List Int) : asc p l = true ↔ (∀ x ∈ l, p < x ∧ x < 16) ∧ l.Pairwise (· < ·) := by
  induction l generalizing p with
  | nil => simp [asc]
  | cons y l ih =>
    simp only [asc, Bool.and_eq_true, decide_eq_true_eq, ih, List.mem_cons, forall_eq_or_imp, List.pairwise_cons]
    constructor
    · rintro ⟨⟨h1, h2⟩, h3, h4⟩
      exact ⟨⟨⟨h1, h2⟩, fun x hx => ⟨by have := (h3 x hx).1; omega, (h3 x hx).2⟩⟩, fun x hx => (h3 x hx).1, h4⟩
    · rintro ⟨⟨⟨h1, h2⟩, h3⟩, h4, h5⟩
      exact ⟨⟨h1, h2⟩, fun x hx => ⟨h4 x hx, (h3 x hx).2⟩, h5⟩

theorem memP_sorted (m k : Nat) : (memP m k).Pairwise (· < ·) := by
  unfold memP
  rw [List.pairwise_map]
  refine List.Pairwise.imp (R := (· < ·)) (fun h => by omega) ?_
  exact List.Pairwise.filter _ List.pairwise_lt_range

/-- Two ascending lists with the same members are the same. -/
theorem sorted_ext : ∀ (l m : List Int), l.Pairwise (· < ·) → m.Pairwise (· < ·) → (∀ x, x ∈ l ↔ x ∈ m) → l = m
  | [], [], _, _, _ => rfl
  | [], y :: m, _, _, h => by have := (h y).2 (by simp); cases this
  | x :: l, [], _, _, h => by have := (h x).1 (by simp); cases this
  | x :: l, y :: m, hl, hm, h => by
    rw [List.pairwise_cons] at hl hm
    have hxy : x = y := by
      have h1 := (h x).1 (by simp)
      have h2 := (h y).2 (by simp)
      rw [List.mem_cons] at h1 h2
      rcases h1 with h1 | h1
      · exact h1
      · rcases h2 with h2 | h2
        · exact h2.symm
        · have := hl.1 y h2; have := hm.1 x h1; omega
    subst hxy
    rw [sorted_ext l m hl.2 hm.2 (fun z => ?_)]
    constructor
    · intro hz
      have := (h z).1 (by simp [hz])
      rw [List.mem_cons] at this
      rcases this with rfl | h'
      · have := hl.1 z hz; omega
      · exact h'
    · intro hz
      have := (h z).2 (by simp [hz])
      rw [List.mem_cons] at this
      rcases this with rfl | h'
      · have := hm.1 z hz; omega
      · exact h'

theorem bitsL_len (m : Nat) (h1 : m < 65536) : 1 ≤ (bitsL m).length ∧ (bitsL m).length ≤ 16 := by
  have h2 := memP_le (nz m) 16
  refine ⟨?_, h2⟩
  rw [Nat.one_le_iff_ne_zero]
  intro h
  exact memP_ne (nz m) (nz_pos m) (nz_lt h1) (List.eq_nil_of_length_eq_zero h)

theorem bitsL_asc (m : Nat) : asc (-1) (bitsL m) = true := by
  rw [asc_iff]
  refine ⟨fun x hx => ?_, memP_sorted _ _⟩
  obtain ⟨i, h1, h2, _⟩ := mem_bitsL_range m x hx
  omega

theorem bitsL_chk (m : Nat) (h1 : m < 65536) : chkM (bitsL m) = 0 := by
  unfold chkM
  rw [if_pos (bitsL_len m h1), if_pos (bitsL_asc m)]

/-- How many bits below k. -/
def cnt (k m : Nat) : Nat := (List.range k).countP (fun i => m.testBit i)
def pc (m : Nat) : Nat := cnt 16 m

theorem cnt_step (k m : Nat) : cnt (k + 1) m = (if m.testBit 0 then 1 else 0) + cnt k (m / 2) := by
  unfold cnt
  rw [List.range_succ_eq_map, List.countP_cons, List.countP_map]
  rw [Nat.add_comm]
  congr 1
  apply List.countP_congr
  intro i _
  simp [Nat.testBit_succ]

theorem cnt_zero (k : Nat) : cnt k 0 = 0 := by
  unfold cnt
  rw [List.countP_eq_zero]
  simp

theorem cnt_le (k m : Nat) : cnt k m ≤ k := by
  unfold cnt
  exact Nat.le_trans List.countP_le_length (by simp)

theorem and_half (a b : Nat) : (a &&& b) / 2 = a / 2 &&& b / 2 := by
  apply Nat.eq_of_testBit_eq
  intro i
  rw [← Nat.testBit_succ, Nat.testBit_and, Nat.testBit_and, Nat.testBit_succ, Nat.testBit_succ]

theorem cnt_drop : ∀ (k x : Nat), 0 < x → x < 2 ^ k → cnt k (x &&& (x - 1)) + 1 = cnt k x
  | 0, x, h0, h1 => by simp at h1; omega
  | k + 1, x, h0, h1 => by
    rw [cnt_step, cnt_step, and_half, Nat.testBit_and]
    rw [Nat.pow_succ] at h1
    by_cases ho : x % 2 = 1
    · have b0 : x.testBit 0 = true := by simp [Nat.testBit_zero, ho]
      have b1 : (x - 1).testBit 0 = false := by simp [Nat.testBit_zero]; omega
      have e : (x - 1) / 2 = x / 2 := by omega
      rw [b0, b1, e, Nat.and_self]
      simp
      omega
    · have b0 : x.testBit 0 = false := by simp [Nat.testBit_zero]; omega
      have e : (x - 1) / 2 = x / 2 - 1 := by omega
      rw [b0, e]
      have := cnt_drop k (x / 2) (by omega) (by omega)
      simp
      exact this

theorem and_pred_lt (x : Nat) (h : 0 < x) : x &&& (x - 1) < x := by
  have := @Nat.and_le_right x (x - 1)
  omega

theorem pc_drop (x : Nat) (h : 0 < x) (h1 : x < 65536) : pc (x &&& (x - 1)) + 1 = pc x := cnt_drop 16 x h (by simpa using h1)

theorem bitsL_length (m : Nat) : (bitsL m).length = pc (nz m) := by
  unfold bitsL memP pc cnt
  rw [List.length_map, List.countP_eq_length_filter]

theorem inC_bits (a b : Nat) : inC (bitsL a) (bitsL b) = pc (nz a &&& nz b) := by
  unfold inC
  rw [show bitsL a = ((List.range 16).filter (fun i => (nz a).testBit i)).map (fun (i : Nat) => (i : Int)) from rfl]
  rw [List.countP_map, List.countP_filter]
  unfold pc cnt
  apply List.countP_congr
  intro i hi
  rw [List.mem_range] at hi
  simp only [Function.comp, Nat.testBit_and, Bool.and_eq_true, decide_eq_true_eq, mem_bitsL b i hi]
  exact And.comm

theorem inC_self (l : List Int) : inC l l = l.length := by
  unfold inC
  rw [List.countP_eq_length]
  simp

theorem inC_twice (l m : List Int) : inC l (m ++ m) = inC l m := by
  unfold inC
  simp

/-- The bit k, as the program asks for it. -/
theorem bit_and (m k : Nat) (h : m < 65536) : bits .and .u16 ((m : Int) / 2 ^ k) 1 = if m.testBit k then 1 else 0 := by
  have e : ((m : Int) / 2 ^ k) = ((m / 2 ^ k : Nat) : Int) := by simp
  have hl : m / 2 ^ k < 65536 := Nat.lt_of_le_of_lt (Nat.div_le_self _ _) h
  rw [e]
  have := Go.u16_and_nat (m / 2 ^ k) 1 hl (by omega)
  rw [show ((1 : Nat) : Int) = 1 from rfl] at this
  rw [this, Nat.and_one_is_mod, Nat.testBit_eq_decide_div_mod_eq]
  by_cases hb : m / 2 ^ k % 2 = 1
  · simp [hb]
  · simp [hb]; omega
end
section
set_option maxRecDepth 100000

theorem oi_fr {S : Nat → Prop} {w w' : World} {base : Nat} {v : Value} {l : List Int} (h : OI w base v l) (hf : Fr S w w') (hS : ∀ k, v.ownBlock = some k → ¬ S k) : OI w' base v l := by
  refine ⟨h.1, ?_⟩
  rcases h.2 with hn | ⟨g, cap, cur, rfl, hb, hgg, rest⟩
  · exact .inl hn
  · refine .inr ⟨g, cap, cur, rfl, hb, ?_, rest⟩
    rw [hf.block g (Array.getElem?_eq_some_iff.1 hgg).1 (hS g rfl)]
    exact hgg

theorem oi_le {w : World} {base : Nat} {v : Value} {l : List Int} (h : OI w base v l) : ∀ k, v.ownBlock = some k → base ≤ k := fun k hk => (World.ownsRow.lt h k hk).1

theorem oi_one (w : World) (x : Int) : OI (w.alloc (.cells #[.int .i64 x] 3)) w.heap.size (.slice (some ⟨w.heap.size, 0, none⟩) 1 1) [x] :=
  ⟨rfl, .inr ⟨w.heap.size, 1, _, rfl, Nat.le_refl _, heap_alloc_new w _, Nat.le_refl _, by unfold maxLen; omega, rfl, rfl⟩⟩

theorem oi_snoc {w : World} {base n : Nat} {v : Value} {l : List Int} {x : Int} (h : w.ownsRow base 3 1 v n (l.map (Value.int .i64) ++ [.int .i64 x])) (hn : n = l.length + 1) : OI w base v (l ++ [x]) := by
  unfold OI
  rw [List.length_append, List.map_append]
  subst hn
  exact h

/-- The call made the slice v of the integers l anew. -/
def NewI (w w' : World) (v : Value) (l : List Int) : Prop := OI w' w.heap.size v l ∧ Fr (fun _ => False) w w'

theorem lmembers_any (m : Nat) (hm : m < 65536) (w : World) :
    Calls Try.prog 5 #[.int .u16 m] w fun e w' => ∃ v, e = .returned v ∧ NewI w w' v (bitsL m) := by
  obtain ⟨i0, hi, hz0, hz1, hz2⟩ := info_parts Try.infoInt
  have Hm := Lib.hid hm
  have HB : Hid (∀ k, bits .and .u16 ((m : Int) / 2 ^ k) 1 = if m.testBit k then 1 else 0) := Lib.hid (fun k => bit_and m k hm)
  go_enter Try.func5, Try.ntmps5
  go_upto_region 3 with fail
  clear hm
  go_loopg [3, 5] 16 (fun g u3 u5 wr => ∃ k : Nat, k ≤ 16 ∧ g = 16 - k ∧ u5 = .int .i64 k ∧ Hid (OI wr w.heap.size u3 (memP m k)) ∧ Hid (Fr (fun _ => False) w wr))
  case atStart => exact ⟨0, Nat.zero_le _, rfl, rfl, Lib.hid (World.ownsRow_nil w _ 3 1), Lib.hid (Fr.refl _ _)⟩
  case round =>
    obtain ⟨k, hk, rfl, rfl, HO, F⟩ := hrel
    by_cases hlt : k < 16
    · have hkk : (k : Int) < 16 := by omega
      have hbit := HB.out k
      have HL := Lib.hid (memP_le m k)
      have HS := Lib.hid (memP_step m k)
      by_cases hb : m.testBit k = true
      · rw [if_pos hb] at hbit
        have HS2 : Hid (memP m (k + 1) = memP m k ++ [(k : Int)]) := Lib.hid (by rw [HS.out, if_pos hb])
        clear hb HS
        generalize memP m k = l at *
        go_wp2_with (at_builtin; refine wpList_append_sep rfl (.tmp 13) (.tmp 15) 31 31 rfl w.heap.size 3 i0 (.int .i64 0) 1 8 Try.underlying31 _ Try.underlying31 (.inr ⟨_, rfl⟩) hi hz0 hz1 hz2 rfl (by decide) u3 l.length (l.map (Value.int .i64)) rfl ?own _ 1 [.int .i64 k] rfl (lenOf_slice _ _ _) rfl ?c1 ?c2 ?one ?b1 ?b2 ?base ?grow)
        case own => exact World.ownsRow.alloc HO.out _
        case c1 => exact first_row (heap_alloc_new _ _) 1 1 rfl
        case c2 => exact first_row (by exact heap_alloc_new _ _) 1 1 rfl
        case one => intro u hu; simp at hu; subst hu; rfl
        case b1 => have := HL.out; unfold maxLen; omega
        case b2 => have := HL.out; omega
        case base => have := F.out.size; simp; omega
        case grow =>
          intro v' w1 hown hg hv
          have HN : Hid (OI w1 w.heap.size v' (memP m (k + 1))) := Lib.hid (by rw [HS2.out]; exact oi_snoc hown rfl)
          have HF : Hid (Fr (fun _ => False) w w1) := Lib.hid ((F.out.alloc _).trans (Fr.of_grown hg) (fun i hi e => by have := oi_le HO.out i e.symm; omega))
          clear hown hg hv
          go_wp2_with fail
          go_roundg (16 - (k + 1))
          case measure => omega
          case rel => exact ⟨k + 1, by omega, rfl, by congr 1, HN, HF⟩
      · rw [if_neg hb] at hbit
        have HS2 : Hid (memP m (k + 1) = memP m k) := Lib.hid (by rw [HS.out, if_neg hb]; simp)
        clear hb HS
        have HN : Hid (OI wr w.heap.size u3 (memP m (k + 1))) := Lib.hid (by rw [HS2.out]; exact HO.out)
        clear HS2
        go_wp2_with fail
        go_roundg (16 - (k + 1))
        case measure => omega
        case rel => exact ⟨k + 1, by omega, rfl, by congr 1, HN, F⟩
    · obtain rfl : k = 16 := by omega
      have HE := Lib.hid (bitsL_of m Hm.out)
      clear hlt
      by_cases hn : memP m 16 = []
      · have HV := HO.out
        rw [hn] at HV
        obtain ⟨a, c, rfl⟩ := slice_of_own HV
        have HE2 : Hid (bitsL m = [0]) := Lib.hid (by rw [HE.out, if_pos hn])
        clear hn HV HO HE
        simp only [List.length_nil]
        go_wp2_with fail
        go_ret
        refine ⟨_, rfl, ?_, F.out.alloc _⟩
        rw [HE2.out]
        have := oi_one wr 0
        exact ⟨this.1, by
          rcases this.2 with h | ⟨g, cap, cur, e, h1, rest⟩
          · exact .inl h
          · exact .inr ⟨g, cap, cur, e, by have := F.out.size; omega, rest⟩⟩
      · have HE2 : Hid (bitsL m = memP m 16) := Lib.hid (by rw [HE.out, if_neg hn])
        have hlen : 0 < (memP m 16).length := List.length_pos_iff.2 hn
        have HV := HO.out
        obtain ⟨a, c, hv⟩ := slice_of_own HV
        generalize memP m 16 = l at *
        subst hv
        have hlen' : ¬ ((l.length : Int) = 0) := by omega
        clear hn HV HE
        go_wp2_with fail
        go_ret
        refine ⟨_, rfl, ?_, F.out⟩
        rw [HE2.out]
        exact HO.out
end
section
section
variable {P : Program} {ops : Array Oper} {Q : Exit → Act → World → Prop}

/-- What the walk keeps: the frame is 'fr vals', the world is a later one, and of each operation that was carried out its predicate holds. -/
structure RelInvU (ops : Array Oper) (Le : World → World → Prop) (fr : (Nat → Value) → Act) (U : Nat → World → Prop) (V : Nat → Value → World → Prop) (w0 : World) (listed : Array Bool) (vals : Nat → Value) (w : World) : Prop where
  le : Le w0 w
  all : ∀ i, i < ops.size → listed.getD i true = true → V i (vals i) w
  rest : ∀ i, i < ops.size → listed.getD i true = false → U i w
  closed : ∀ i o, ops[i]? = some o → listed.getD i true = true → ∀ e ∈ o.after, Region.binds .any e = true → listed.getD e.on true = true

/-- Does operation j wait for operation i? -/
def waits (ops : Array Oper) (j i : Nat) : Bool := match ops[j]? with
  | some o => o.after.any fun e => Region.binds .any e && decide (e.on = i)
  | none => false

def RelStepU (P : Program) (ops : Array Oper) (Q : Exit → Act → World → Prop) (Le : World → World → Prop) (fr : (Nat → Value) → Act) (U : Nat → World → Prop) (V : Nat → Value → World → Prop) (w0 : World) (i : Nat) (o : Oper) : Prop :=
  ∀ (vals : Nat → Value) (w : World), Le w0 w → (∀ e ∈ o.after.toList, Region.binds .any e = true → V e.on (vals e.on) w) →
    U i w → (∀ j, waits ops j i = true → U j w) →
    ∀ K : Act → World → Prop, (∀ v w', Le w w' → V i v w' → (∀ j, j ≠ i → U j w → U j w') → (∀ j u, j ≠ i → V j u w → V j u w') → K ((fr vals).put o.dst v) w') →
    if Region.wanted o (yielded ops (fr vals).tmps) = true then o.wp P (fr vals) w K Q else K ((fr vals).put o.dst undef) w

theorem wpAny_relU {Le : World → World → Prop} (htrans : ∀ a b c, Le a b → Le b c → Le a c) {fr : (Nat → Value) → Act}
    (hput : ∀ i o, ops[i]? = some o → ∀ vals v, (fr vals).put o.dst v = fr (fun j => if j = i then v else vals j))
    {U : Nat → World → Prop} {V : Nat → Value → World → Prop} {w0 : World} (hdown : edgesDown ops = true)
    (step : ∀ i o, ops[i]? = some o → RelStepU P ops Q Le fr U V w0 i o)
    (fin : ∀ vals w, Le w0 w → (∀ i, i < ops.size → V i (vals i) w) → Q .normal (fr vals) w) :
    ∀ (fuel : Nat) (listed : Array Bool) (vals : Nat → Value) (w : World), listed.size = ops.size → (listed.toList.filter (! ·)).length = fuel → RelInvU ops Le fr U V w0 listed vals w → wpAny P .any ops Q fuel listed (fr vals) w := by
  have done : ∀ (listed : Array Bool) (vals : Nat → Value) (w : World), listed.size = ops.size → RelInvU ops Le fr U V w0 listed vals w → Region.ready .any ops listed = [] → Q .normal (fr vals) w := by
    intro listed vals w hs hI hr
    refine fin vals w hI.le ?_
    have hall : ∀ n i, i < n → i < ops.size → listed.getD i true = true := by
      intro n
      induction n with
      | zero => intro i hi; omega
      | succ n ih =>
        intro i hi hio
        by_cases h : listed.getD i true = true
        · exact h
        · exfalso
          have hno : i ∉ Region.ready .any ops listed := by rw [hr]; exact List.not_mem_nil
          refine hno ?_
          unfold Region.ready
          rw [List.mem_filter]
          refine ⟨List.mem_range.2 hio, ?_⟩
          have ho : ops[i]? = some ops[i] := Array.getElem?_eq_getElem hio
          simp only [Bool.and_eq_true, ho, Option.map_some, Option.getD_some]
          refine ⟨by simpa using h, ?_⟩
          rw [Array.all_eq_true']
          intro e he
          by_cases hb : Region.binds .any e = true
          · have hlt := edgesDown_spec hdown ho he hb
            have h1 := ih e.on (by omega) (by omega)
            have h2 : e.on < listed.size := by omega
            rw [Array.getD_eq_getD_getElem?, Array.getElem?_eq_getElem h2, Option.getD_some] at h1
            simp [h2, h1]
          · simp [hb]
    intro i hi
    exact hI.all i hi (hall (i + 1) i (by omega) hi)
  intro fuel
  induction fuel with
  | zero =>
    intro listed vals w hs hf hI
    have hr : Region.ready .any ops listed = [] := by
      unfold Region.ready
      rw [List.filter_eq_nil_iff]
      intro i hi
      have hio := List.mem_range.1 hi
      have h0 : listed.toList.filter (! ·) = [] := List.eq_nil_of_length_eq_zero hf
      rw [List.filter_eq_nil_iff] at h0
      have hl : i < listed.size := by omega
      have h1 := h0 listed[i] (by simp)
      simp at h1
      simp [Array.getD, hl, h1]
    exact ⟨hr, done listed vals w hs hI hr⟩
  | succ fuel ih =>
    intro listed vals w hs hf hI
    refine ⟨fun hr => done listed vals w hs hI hr, ?_⟩
    intro i hi
    unfold Region.ready at hi
    rw [List.mem_filter] at hi
    obtain ⟨hio, hi2⟩ := hi
    have hio := List.mem_range.1 hio
    have ho : ops[i]? = some ops[i] := Array.getElem?_eq_getElem hio
    simp only [Bool.and_eq_true, ho, Option.map_some, Option.getD_some] at hi2
    obtain ⟨hn, ha⟩ := hi2
    have hil : i < listed.size := by omega
    have hnl : listed[i] = false := by simpa [Array.getD, hil] using hn
    have hcount : ((listed.setIfInBounds i true).toList.filter (! ·)).length = fuel := by
      have e : (listed.setIfInBounds i true).toList = listed.toList.set i true := by simp
      rw [e]
      have hd : listed.toList = listed.toList.take i ++ listed[i] :: listed.toList.drop (i + 1) := by
        have hl' : i < listed.toList.length := by simpa using hil
        have := (List.take_append_drop i listed.toList).symm
        rw [List.drop_eq_getElem_cons hl'] at this
        simpa using this
      have hset : listed.toList.set i true = listed.toList.take i ++ true :: listed.toList.drop (i + 1) := by
        rw [List.set_eq_take_append_cons_drop, if_pos (by simpa using hil)]
      rw [hset]
      rw [hd, hnl] at hf
      simp at hf ⊢
      omega
    have hnd : ∀ e ∈ ops[i].after, Region.binds .any e = true → listed.getD e.on true = true := by
      intro e he hb
      rw [Array.all_eq_true'] at ha
      have h1 := ha e he
      simp [hb] at h1
      have hlt := edgesDown_spec hdown ho he hb
      have h2 : e.on < listed.size := by omega
      simpa [Array.getD, h2] using h1
    have hnext : ∀ v w', Le w w' → V i v w' → (∀ j, j ≠ i → U j w → U j w') → (∀ j u, j ≠ i → V j u w → V j u w') → wpAny P .any ops Q fuel (listed.setIfInBounds i true) ((fr vals).put ops[i].dst v) w' := by
      intro v w' hle hv hu hpres
      rw [hput i _ ho]
      refine ih _ _ _ (by simpa using hs) hcount ⟨htrans _ _ _ hI.le hle, ?_, ?_, ?_⟩
      · intro j hj hlj
        rw [getD_set _ _ _ hil] at hlj
        by_cases hji : j = i
        · subst hji; simpa using hv
        · rw [if_neg hji] at hlj
          simp only [if_neg hji]
          exact hpres j _ hji (hI.all j hj hlj)
      · intro j hj hlj
        rw [getD_set _ _ _ hil] at hlj
        by_cases hji : j = i
        · rw [if_pos hji] at hlj; cases hlj
        · rw [if_neg hji] at hlj
          exact hu j hji (hI.rest j hj hlj)
      · intro j o hjo hlj e he hb
        rw [getD_set _ _ _ hil] at hlj ⊢
        by_cases hei : e.on = i
        · rw [if_pos hei]
        · rw [if_neg hei]
          by_cases hji : j = i
          · subst hji
            rw [ho] at hjo
            cases hjo
            exact hnd e he hb
          · rw [if_neg hji] at hlj
            exact hI.closed j o hjo hlj e he hb
    have hst := step i _ ho vals w hI.le (by
      intro e he hb
      have hlt := edgesDown_spec hdown ho (by simpa using he) hb
      exact hI.all e.on (by omega) (hnd e (by simpa using he) hb)) (by
      refine hI.rest i hio ?_
      rw [Array.getD_eq_getD_getElem?, Array.getElem?_eq_getElem hil, hnl]; rfl) (by
      intro j hw
      unfold waits at hw
      cases hjo : ops[j]? with
      | none => rw [hjo] at hw; cases hw
      | some o =>
        rw [hjo] at hw
        simp only [Array.any_eq_true', Bool.and_eq_true, decide_eq_true_eq] at hw
        obtain ⟨e, he, hb, hei⟩ := hw
        have hjs : j < ops.size := (Array.getElem?_eq_some_iff.1 hjo).1
        cases hlj : listed.getD j true with
        | false => exact hI.rest j hjs hlj
        | true =>
          have := hI.closed j o hjo hlj e he hb
          rw [hei, Array.getD_eq_getD_getElem?, Array.getElem?_eq_getElem hil, hnl] at this
          cases this) _ hnext
    unfold wpOp
    simp only [ho]
    split
    · rename_i hw
      rw [if_pos hw] at hst
      exact .inl hst
    · rename_i hw
      rw [if_neg hw] at hst
      exact hst

/-- THE REGION: whatever order is drawn. -/
theorem wp_region_relU {id : Nat} {a : Act} {w : World} (hm : P.follows .mixedOrders = true) (Le : World → World → Prop) (hrefl : ∀ w, Le w w) (htrans : ∀ a b c, Le a b → Le b c → Le a c)
    (fr : (Nat → Value) → Act) (vals : Nat → Value) (ha : a = fr vals)
    (hput : ∀ i o, ops[i]? = some o → ∀ vals v, (fr vals).put o.dst v = fr (fun j => if j = i then v else vals j))
    (U : Nat → World → Prop) (V : Nat → Value → World → Prop) (hdown : edgesDown ops = true) (hU : ∀ i, i < ops.size → U i w.drew)
    (step : ∀ i o, ops[i]? = some o → RelStepU P ops Q Le fr U V w.drew i o)
    (fin : ∀ vals w', Le w.drew w' → (∀ i, i < ops.size → V i (vals i) w') → Q .normal (fr vals) w') : (Code.region id ops true).wp P Q a w := by
  refine wp_region_any hm ?_
  subst ha
  have hfalse : ∀ i, i < ops.size → ¬ (Array.replicate ops.size false).getD i true = true := by
    intro i hi h
    simp [Array.getD, hi] at h
  refine wpAny_relU (U := U) htrans hput hdown step fin _ _ vals _ (by simp) ?_ ⟨hrefl _, ?_, ?_, ?_⟩
  · simp
  · intro i hi hl
    exact absurd hl (hfalse i hi)
  · intro i hi _
    exact hU i hi
  · intro i o ho hl
    exact absurd hl (hfalse i (Array.getElem?_eq_some_iff.1 ho).1)

/-- The temporaries with the values vals in the slots ds (none: no slot), from number k on. -/
def fillU (vals : Nat → Value) : List (Option Nat) → Nat → Array Value → Array Value
  | [], _, t => t
  | none :: ds, k, t => fillU vals ds (k + 1) t
  | some d :: ds, k, t => fillU vals ds (k + 1) (t.setIfInBounds d (vals k))

def frOfU (a : Act) (ds : List (Option Nat)) (vals : Nat → Value) : Act := { a with tmps := fillU vals ds 0 a.tmps }

theorem fillU_size (vals : Nat → Value) : ∀ (ds : List (Option Nat)) (k : Nat) (t : Array Value), (fillU vals ds k t).size = t.size
  | [], _, _ => rfl
  | none :: ds, k, t => fillU_size vals ds _ _
  | some d :: ds, k, t => by rw [fillU, fillU_size vals ds, Array.size_setIfInBounds]

theorem fillU_other (vals : Nat → Value) : ∀ (ds : List (Option Nat)) (k : Nat) (t : Array Value) (x : Nat), some x ∉ ds → (fillU vals ds k t)[x]? = t[x]?
  | [], _, _, _, _ => rfl
  | none :: ds, k, t, x, h => by
    rw [List.mem_cons, not_or] at h
    exact fillU_other vals ds (k + 1) _ x h.2
  | some d :: ds, k, t, x, h => by
    rw [List.mem_cons, not_or] at h
    rw [fillU, fillU_other vals ds (k + 1) _ x h.2, Array.getElem?_setIfInBounds, if_neg (fun e => h.1 (by rw [e]))]

def noTwice : List (Option Nat) → Bool
  | [] => true
  | none :: ds => noTwice ds
  | some d :: ds => !ds.contains (some d) && noTwice ds

theorem fillU_at (vals : Nat → Value) : ∀ (ds : List (Option Nat)) (k : Nat) (t : Array Value), noTwice ds = true → (∀ d, some d ∈ ds → d < t.size) → ∀ j d, ds[j]? = some (some d) → (fillU vals ds k t)[d]? = some (vals (k + j))
  | [], _, _, _, _, j, d, h => by simp at h
  | none :: ds, k, t, hn, hb, 0, d, h => by simp at h
  | none :: ds, k, t, hn, hb, j + 1, d, h => by
    rw [fillU, fillU_at vals ds (k + 1) t hn (fun x hx => hb x (by simp [hx])) j d (by simpa using h)]
    congr 2
    omega
  | some d' :: ds, k, t, hn, hb, 0, d, h => by
    simp at h
    subst h
    simp only [noTwice, Bool.and_eq_true, Bool.not_eq_true', List.contains_eq_mem, decide_eq_false_iff_not] at hn
    rw [fillU, fillU_other vals ds (k + 1) _ _ hn.1, Array.getElem?_setIfInBounds, if_pos rfl, if_pos (hb _ (by simp)), Nat.add_zero]
  | some d' :: ds, k, t, hn, hb, j + 1, d, h => by
    simp only [noTwice, Bool.and_eq_true] at hn
    rw [fillU, fillU_at vals ds (k + 1) _ hn.2 (fun x hx => by rw [Array.size_setIfInBounds]; exact hb x (by simp [hx])) j d (by simpa using h)]
    congr 2
    omega

theorem noTwice_inj : ∀ {ds : List (Option Nat)}, noTwice ds = true → ∀ {i j d : Nat}, ds[i]? = some (some d) → ds[j]? = some (some d) → i = j
  | [], _, i, j, d, h, _ => by simp at h
  | none :: ds, hn, 0, j, d, h, _ => by simp at h
  | none :: ds, hn, i + 1, 0, d, _, h => by simp at h
  | none :: ds, hn, i + 1, j + 1, d, hi, hj => congrArg (· + 1) (noTwice_inj (ds := ds) (d := d) hn (by simpa using hi) (by simpa using hj))
  | some d' :: ds, hn, 0, 0, d, _, _ => rfl
  | some d' :: ds, hn, 0, j + 1, d, hi, hj => by
    simp at hi
    subst hi
    simp only [noTwice, Bool.and_eq_true, Bool.not_eq_true', List.contains_eq_mem, decide_eq_false_iff_not] at hn
    exact absurd (List.mem_of_getElem? (by simpa using hj)) hn.1
  | some d' :: ds, hn, i + 1, 0, d, hi, hj => by
    simp at hj
    subst hj
    simp only [noTwice, Bool.and_eq_true, Bool.not_eq_true', List.contains_eq_mem, decide_eq_false_iff_not] at hn
    exact absurd (List.mem_of_getElem? (by simpa using hi)) hn.1
  | some d' :: ds, hn, i + 1, j + 1, d, hi, hj => by
    simp only [noTwice, Bool.and_eq_true] at hn
    exact congrArg (· + 1) (noTwice_inj (ds := ds) (d := d) hn.2 (by simpa using hi) (by simpa using hj))

/-- One operation, from a frame: what stands behind it is a variable. -/
def RelOpU (P : Program) (ops : Array Oper) (Q : Exit → Act → World → Prop) (Le : World → World → Prop) (U : Nat → World → Prop) (V : Nat → Value → World → Prop) (w0 : World) (a : Act) (vals : Nat → Value) (i : Nat) (o : Oper) : Prop :=
  ∀ (w : World), Le w0 w → (∀ e ∈ o.after.toList, Region.binds .any e = true → V e.on (vals e.on) w) → U i w → (∀ j, waits ops j i = true → U j w) →
    ∀ K : Act → World → Prop, (∀ v w', Le w w' → V i v w' → (∀ j, j ≠ i → U j w → U j w') → (∀ j u, j ≠ i → V j u w → V j u w') → K (a.put o.dst v) w') →
    if Region.wanted o (yielded ops a.tmps) = true then o.wp P a w K Q else K (a.put o.dst undef) w

/-- THE REGION AS THE WALK WANTS IT: the operations written out, their slots 'ds'; what holds ahead of each ('U'), what each leaves ('V'); each operation, from whatever values the earlier ones left. -/
theorem wp_region_toldU {id : Nat} {l : List Oper} {a : Act} {w : World} (hm : P.follows .mixedOrders = true) (Le : World → World → Prop) (hrefl : ∀ w, Le w w) (htrans : ∀ a b c, Le a b → Le b c → Le a c)
    (ds : List (Option Nat)) (hds : l.map (·.dst) = ds) (hnd : noTwice ds = true) (hlt : ∀ d, some d ∈ ds → d < a.tmps.size)
    (U : Nat → World → Prop) (V : Nat → Value → World → Prop) (hdown : edgesDown l.toArray = true) (hU : ∀ i, i < l.length → U i w.drew)
    (step : ∀ vals : Nat → Value, AllOps (RelOpU P l.toArray Q Le U V w.drew (frOfU a ds vals) vals) l 0)
    (fin : ∀ vals w', Le w.drew w' → (∀ i, i < l.length → V i (vals i) w') → Q .normal (frOfU a ds vals) w') : (Code.region id l.toArray true).wp P Q a w := by
  have hdst : ∀ (i : Nat) (o : Oper), l[i]? = some o → ds[i]? = some o.dst := by
    intro i o ho
    rw [← hds]
    simp [ho]
  refine wp_region_relU hm Le hrefl htrans (frOfU a ds) (fun j => ((ds[j]?.bind fun x => x).bind (a.tmps[·]?)).getD undef) ?_ ?_ U V hdown (by simpa using hU) ?_ (by simpa using fin)
  · unfold frOfU
    have : fillU (fun j => ((ds[j]?.bind fun x => x).bind (a.tmps[·]?)).getD undef) ds 0 a.tmps = a.tmps := by
      apply Array.ext_getElem?
      intro x
      by_cases hx : some x ∈ ds
      · obtain ⟨j, hj, hjx⟩ := List.getElem_of_mem hx
        have hd : ds[j]? = some (some x) := by rw [List.getElem?_eq_getElem hj, hjx]
        rw [fillU_at _ ds 0 a.tmps hnd hlt j _ hd, Nat.zero_add, hd]
        have hb := hlt x hx
        simp [Array.getElem?_eq_getElem hb]
      · exact fillU_other _ _ _ _ _ hx
    rw [this]
  · intro i o ho vals v
    have h1 := hdst i o (by simpa using ho)
    unfold frOfU Act.put
    cases h2 : o.dst with
    | none =>
      rw [h2] at h1
      simp only
      congr 1
      apply Array.ext_getElem?
      intro x
      by_cases hx : some x ∈ ds
      · obtain ⟨j, hj, hjx⟩ := List.getElem_of_mem hx
        have hd : ds[j]? = some (some x) := by rw [List.getElem?_eq_getElem hj, hjx]
        rw [fillU_at _ ds 0 a.tmps hnd hlt j _ hd, fillU_at _ ds 0 a.tmps hnd hlt j _ hd, Nat.zero_add]
        have hne : j ≠ i := by
          intro e
          subst e
          rw [h1] at hd
          cases hd
        rw [if_neg hne]
      · rw [fillU_other _ _ _ _ _ hx, fillU_other _ _ _ _ _ hx]
    | some d =>
      rw [h2] at h1
      simp only
      congr 1
      apply Array.ext_getElem?
      intro x
      have hd : d < a.tmps.size := hlt d (List.mem_of_getElem? h1)
      rw [Array.getElem?_setIfInBounds]
      by_cases hx : some x ∈ ds
      · obtain ⟨j, hj, hjx⟩ := List.getElem_of_mem hx
        have hdj : ds[j]? = some (some x) := by rw [List.getElem?_eq_getElem hj, hjx]
        rw [fillU_at _ ds 0 a.tmps hnd hlt j _ hdj, fillU_at _ ds 0 a.tmps hnd hlt j _ hdj, Nat.zero_add]
        by_cases e : j = i
        · subst e
          rw [h1] at hdj
          simp only [Option.some.injEq] at hdj
          rw [if_pos hdj, if_pos (by rw [fillU_size]; exact hdj ▸ hd), if_pos rfl]
        · have hne : d ≠ x := by
            intro e2
            subst e2
            exact e (noTwice_inj hnd hdj h1)
          rw [if_neg hne, if_neg e]
      · have hne : d ≠ x := fun e => hx (e ▸ List.mem_of_getElem? h1)
        rw [if_neg hne, fillU_other _ _ _ _ _ hx, fillU_other _ _ _ _ _ hx]
  · intro i o ho vals w' hle he hu hw K hK
    have := (step vals).get i o (by simpa using ho)
    rw [Nat.zero_add] at this
    exact this w' hle he hu hw K hK

end
end
section
section
variable {P : Program} {ops : Array Oper} {Q : Exit → Act → World → Prop}

/-- What the walk keeps: the frame is 'fr vals', the world is a later one, and of each operation that was carried out its predicate holds. -/
structure RelInvV (ops : Array Oper) (Le : World → World → Prop) (fr : (Nat → Value) → Act) (U : Nat → Value → World → Prop) (V : Nat → Value → World → Prop) (w0 : World) (listed : Array Bool) (vals : Nat → Value) (w : World) : Prop where
  le : Le w0 w
  all : ∀ i, i < ops.size → listed.getD i true = true → V i (vals i) w
  rest : ∀ i, i < ops.size → listed.getD i true = false → U i (vals i) w
  closed : ∀ i o, ops[i]? = some o → listed.getD i true = true → ∀ e ∈ o.after, Region.binds .any e = true → listed.getD e.on true = true

def RelStepV (P : Program) (ops : Array Oper) (Q : Exit → Act → World → Prop) (Le : World → World → Prop) (fr : (Nat → Value) → Act) (U : Nat → Value → World → Prop) (V : Nat → Value → World → Prop) (w0 : World) (i : Nat) (o : Oper) : Prop :=
  ∀ (vals : Nat → Value) (w : World), Le w0 w → (∀ e ∈ o.after.toList, Region.binds .any e = true → V e.on (vals e.on) w) →
    U i (vals i) w → (∀ j, waits ops j i = true → U j (vals j) w) →
    ∀ K : Act → World → Prop, (∀ v w', Le w w' → V i v w' → (∀ j u, j ≠ i → U j u w → U j u w') → (∀ j u, j ≠ i → waits ops j i = false → V j u w → V j u w') → K ((fr vals).put o.dst v) w') →
    if Region.wanted o (yielded ops (fr vals).tmps) = true then o.wp P (fr vals) w K Q else K ((fr vals).put o.dst undef) w

theorem wpAny_relV {Le : World → World → Prop} (htrans : ∀ a b c, Le a b → Le b c → Le a c) {fr : (Nat → Value) → Act}
    (hput : ∀ i o, ops[i]? = some o → ∀ vals v, (fr vals).put o.dst v = fr (fun j => if j = i then v else vals j))
    {U : Nat → Value → World → Prop} {V : Nat → Value → World → Prop} {w0 : World} (hdown : edgesDown ops = true)
    (step : ∀ i o, ops[i]? = some o → RelStepV P ops Q Le fr U V w0 i o)
    (fin : ∀ vals w, Le w0 w → (∀ i, i < ops.size → V i (vals i) w) → Q .normal (fr vals) w) :
    ∀ (fuel : Nat) (listed : Array Bool) (vals : Nat → Value) (w : World), listed.size = ops.size → (listed.toList.filter (! ·)).length = fuel → RelInvV ops Le fr U V w0 listed vals w → wpAny P .any ops Q fuel listed (fr vals) w := by
  have done : ∀ (listed : Array Bool) (vals : Nat → Value) (w : World), listed.size = ops.size → RelInvV ops Le fr U V w0 listed vals w → Region.ready .any ops listed = [] → Q .normal (fr vals) w := by
    intro listed vals w hs hI hr
    refine fin vals w hI.le ?_
    have hall : ∀ n i, i < n → i < ops.size → listed.getD i true = true := by
      intro n
      induction n with
      | zero => intro i hi; omega
      | succ n ih =>
        intro i hi hio
        by_cases h : listed.getD i true = true
        · exact h
        · exfalso
          have hno : i ∉ Region.ready .any ops listed := by rw [hr]; exact List.not_mem_nil
          refine hno ?_
          unfold Region.ready
          rw [List.mem_filter]
          refine ⟨List.mem_range.2 hio, ?_⟩
          have ho : ops[i]? = some ops[i] := Array.getElem?_eq_getElem hio
          simp only [Bool.and_eq_true, ho, Option.map_some, Option.getD_some]
          refine ⟨by simpa using h, ?_⟩
          rw [Array.all_eq_true']
          intro e he
          by_cases hb : Region.binds .any e = true
          · have hlt := edgesDown_spec hdown ho he hb
            have h1 := ih e.on (by omega) (by omega)
            have h2 : e.on < listed.size := by omega
            rw [Array.getD_eq_getD_getElem?, Array.getElem?_eq_getElem h2, Option.getD_some] at h1
            simp [h2, h1]
          · simp [hb]
    intro i hi
    exact hI.all i hi (hall (i + 1) i (by omega) hi)
  intro fuel
  induction fuel with
  | zero =>
    intro listed vals w hs hf hI
    have hr : Region.ready .any ops listed = [] := by
      unfold Region.ready
      rw [List.filter_eq_nil_iff]
      intro i hi
      have hio := List.mem_range.1 hi
      have h0 : listed.toList.filter (! ·) = [] := List.eq_nil_of_length_eq_zero hf
      rw [List.filter_eq_nil_iff] at h0
      have hl : i < listed.size := by omega
      have h1 := h0 listed[i] (by simp)
      simp at h1
      simp [Array.getD, hl, h1]
    exact ⟨hr, done listed vals w hs hI hr⟩
  | succ fuel ih =>
    intro listed vals w hs hf hI
    refine ⟨fun hr => done listed vals w hs hI hr, ?_⟩
    intro i hi
    unfold Region.ready at hi
    rw [List.mem_filter] at hi
    obtain ⟨hio, hi2⟩ := hi
    have hio := List.mem_range.1 hio
    have ho : ops[i]? = some ops[i] := Array.getElem?_eq_getElem hio
    simp only [Bool.and_eq_true, ho, Option.map_some, Option.getD_some] at hi2
    obtain ⟨hn, ha⟩ := hi2
    have hil : i < listed.size := by omega
    have hnl : listed[i] = false := by simpa [Array.getD, hil] using hn
    have hcount : ((listed.setIfInBounds i true).toList.filter (! ·)).length = fuel := by
      have e : (listed.setIfInBounds i true).toList = listed.toList.set i true := by simp
      rw [e]
      have hd : listed.toList = listed.toList.take i ++ listed[i] :: listed.toList.drop (i + 1) := by
        have hl' : i < listed.toList.length := by simpa using hil
        have := (List.take_append_drop i listed.toList).symm
        rw [List.drop_eq_getElem_cons hl'] at this
        simpa using this
      have hset : listed.toList.set i true = listed.toList.take i ++ true :: listed.toList.drop (i + 1) := by
        rw [List.set_eq_take_append_cons_drop, if_pos (by simpa using hil)]
      rw [hset]
      rw [hd, hnl] at hf
      simp at hf ⊢
      omega
    have hnd : ∀ e ∈ ops[i].after, Region.binds .any e = true → listed.getD e.on true = true := by
      intro e he hb
      rw [Array.all_eq_true'] at ha
      have h1 := ha e he
      simp [hb] at h1
      have hlt := edgesDown_spec hdown ho he hb
      have h2 : e.on < listed.size := by omega
      simpa [Array.getD, h2] using h1
    have hnext : ∀ v w', Le w w' → V i v w' → (∀ j u, j ≠ i → U j u w → U j u w') → (∀ j u, j ≠ i → waits ops j i = false → V j u w → V j u w') → wpAny P .any ops Q fuel (listed.setIfInBounds i true) ((fr vals).put ops[i].dst v) w' := by
      intro v w' hle hv hu hpres
      rw [hput i _ ho]
      refine ih _ _ _ (by simpa using hs) hcount ⟨htrans _ _ _ hI.le hle, ?_, ?_, ?_⟩
      · intro j hj hlj
        rw [getD_set _ _ _ hil] at hlj
        by_cases hji : j = i
        · subst hji; simpa using hv
        · rw [if_neg hji] at hlj
          simp only [if_neg hji]
          refine hpres j _ hji ?_ (hI.all j hj hlj)
          cases hw : waits ops j i with
          | false => rfl
          | true =>
            exfalso
            unfold waits at hw
            cases hjo : ops[j]? with
            | none => rw [hjo] at hw; cases hw
            | some o =>
              rw [hjo] at hw
              simp only [Array.any_eq_true', Bool.and_eq_true, decide_eq_true_eq] at hw
              obtain ⟨e, he, hb, hei⟩ := hw
              have := hI.closed j o hjo hlj e he hb
              rw [hei, Array.getD_eq_getD_getElem?, Array.getElem?_eq_getElem hil, hnl] at this
              cases this
      · intro j hj hlj
        rw [getD_set _ _ _ hil] at hlj
        by_cases hji : j = i
        · rw [if_pos hji] at hlj; cases hlj
        · rw [if_neg hji] at hlj
          simp only [if_neg hji]
          exact hu j _ hji (hI.rest j hj hlj)
      · intro j o hjo hlj e he hb
        rw [getD_set _ _ _ hil] at hlj ⊢
        by_cases hei : e.on = i
        · rw [if_pos hei]
        · rw [if_neg hei]
          by_cases hji : j = i
          · subst hji
            rw [ho] at hjo
            cases hjo
            exact hnd e he hb
          · rw [if_neg hji] at hlj
            exact hI.closed j o hjo hlj e he hb
    have hst := step i _ ho vals w hI.le (by
      intro e he hb
      have hlt := edgesDown_spec hdown ho (by simpa using he) hb
      exact hI.all e.on (by omega) (hnd e (by simpa using he) hb)) (by
      refine hI.rest i hio ?_
      rw [Array.getD_eq_getD_getElem?, Array.getElem?_eq_getElem hil, hnl]; rfl) (by
      intro j hw
      unfold waits at hw
      cases hjo : ops[j]? with
      | none => rw [hjo] at hw; cases hw
      | some o =>
        rw [hjo] at hw
        simp only [Array.any_eq_true', Bool.and_eq_true, decide_eq_true_eq] at hw
        obtain ⟨e, he, hb, hei⟩ := hw
        have hjs : j < ops.size := (Array.getElem?_eq_some_iff.1 hjo).1
        cases hlj : listed.getD j true with
        | false => exact hI.rest j hjs hlj
        | true =>
          have := hI.closed j o hjo hlj e he hb
          rw [hei, Array.getD_eq_getD_getElem?, Array.getElem?_eq_getElem hil, hnl] at this
          cases this) _ hnext
    unfold wpOp
    simp only [ho]
    split
    · rename_i hw
      rw [if_pos hw] at hst
      exact .inl hst
    · rename_i hw
      rw [if_neg hw] at hst
      exact hst

/-- THE REGION: whatever order is drawn. -/
theorem wp_region_relV {id : Nat} {a : Act} {w : World} (hm : P.follows .mixedOrders = true) (Le : World → World → Prop) (hrefl : ∀ w, Le w w) (htrans : ∀ a b c, Le a b → Le b c → Le a c)
    (fr : (Nat → Value) → Act) (vals : Nat → Value) (ha : a = fr vals)
    (hput : ∀ i o, ops[i]? = some o → ∀ vals v, (fr vals).put o.dst v = fr (fun j => if j = i then v else vals j))
    (U : Nat → Value → World → Prop) (V : Nat → Value → World → Prop) (hdown : edgesDown ops = true) (hU : ∀ i, i < ops.size → U i (vals i) w.drew)
    (step : ∀ i o, ops[i]? = some o → RelStepV P ops Q Le fr U V w.drew i o)
    (fin : ∀ vals w', Le w.drew w' → (∀ i, i < ops.size → V i (vals i) w') → Q .normal (fr vals) w') : (Code.region id ops true).wp P Q a w := by
  refine wp_region_any hm ?_
  subst ha
  have hfalse : ∀ i, i < ops.size → ¬ (Array.replicate ops.size false).getD i true = true := by
    intro i hi h
    simp [Array.getD, hi] at h
  refine wpAny_relV (U := U) htrans hput hdown step fin _ _ vals _ (by simp) ?_ ⟨hrefl _, ?_, ?_, ?_⟩
  · simp
  · intro i hi hl
    exact absurd hl (hfalse i hi)
  · intro i hi _
    exact hU i hi
  · intro i o ho hl
    exact absurd hl (hfalse i (Array.getElem?_eq_some_iff.1 ho).1)

/-- One operation, from a frame: what stands behind it is a variable. -/
def RelOpV (P : Program) (ops : Array Oper) (Q : Exit → Act → World → Prop) (Le : World → World → Prop) (U : Nat → Value → World → Prop) (V : Nat → Value → World → Prop) (w0 : World) (a : Act) (vals : Nat → Value) (i : Nat) (o : Oper) : Prop :=
  ∀ (w : World), Le w0 w → (∀ e ∈ o.after.toList, Region.binds .any e = true → V e.on (vals e.on) w) → U i (vals i) w → (∀ j, waits ops j i = true → U j (vals j) w) →
    ∀ K : Act → World → Prop, (∀ v w', Le w w' → V i v w' → (∀ j u, j ≠ i → U j u w → U j u w') → (∀ j u, j ≠ i → waits ops j i = false → V j u w → V j u w') → K (a.put o.dst v) w') →
    if Region.wanted o (yielded ops a.tmps) = true then o.wp P a w K Q else K (a.put o.dst undef) w

/-- THE REGION AS THE WALK WANTS IT: the operations written out, their slots 'ds'; what holds ahead of each ('U'), what each leaves ('V'); each operation, from whatever values the earlier ones left. -/
theorem wp_region_toldV {id : Nat} {l : List Oper} {a : Act} {w : World} (hm : P.follows .mixedOrders = true) (Le : World → World → Prop) (hrefl : ∀ w, Le w w) (htrans : ∀ a b c, Le a b → Le b c → Le a c)
    (ds : List (Option Nat)) (hds : l.map (·.dst) = ds) (hnd : noTwice ds = true) (hlt : ∀ d, some d ∈ ds → d < a.tmps.size)
    (U : Nat → Value → World → Prop) (V : Nat → Value → World → Prop) (hdown : edgesDown l.toArray = true) (hU : ∀ i, i < l.length → U i (((ds[i]?.bind fun x => x).bind (a.tmps[·]?)).getD undef) w.drew)
    (step : ∀ vals : Nat → Value, AllOps (RelOpV P l.toArray Q Le U V w.drew (frOfU a ds vals) vals) l 0)
    (fin : ∀ vals w', Le w.drew w' → (∀ i, i < l.length → V i (vals i) w') → Q .normal (frOfU a ds vals) w') : (Code.region id l.toArray true).wp P Q a w := by
  have hdst : ∀ (i : Nat) (o : Oper), l[i]? = some o → ds[i]? = some o.dst := by
    intro i o ho
    rw [← hds]
    simp [ho]
  refine wp_region_relV hm Le hrefl htrans (frOfU a ds) (fun j => ((ds[j]?.bind fun x => x).bind (a.tmps[·]?)).getD undef) ?_ ?_ U V hdown (by simpa using hU) ?_ (by simpa using fin)
  · unfold frOfU
    have : fillU (fun j => ((ds[j]?.bind fun x => x).bind (a.tmps[·]?)).getD undef) ds 0 a.tmps = a.tmps := by
      apply Array.ext_getElem?
      intro x
      by_cases hx : some x ∈ ds
      · obtain ⟨j, hj, hjx⟩ := List.getElem_of_mem hx
        have hd : ds[j]? = some (some x) := by rw [List.getElem?_eq_getElem hj, hjx]
        rw [fillU_at _ ds 0 a.tmps hnd hlt j _ hd, Nat.zero_add, hd]
        have hb := hlt x hx
        simp [Array.getElem?_eq_getElem hb]
      · exact fillU_other _ _ _ _ _ hx
    rw [this]
  · intro i o ho vals v
    have h1 := hdst i o (by simpa using ho)
    unfold frOfU Act.put
    cases h2 : o.dst with
    | none =>
      rw [h2] at h1
      simp only
      congr 1
      apply Array.ext_getElem?
      intro x
      by_cases hx : some x ∈ ds
      · obtain ⟨j, hj, hjx⟩ := List.getElem_of_mem hx
        have hd : ds[j]? = some (some x) := by rw [List.getElem?_eq_getElem hj, hjx]
        rw [fillU_at _ ds 0 a.tmps hnd hlt j _ hd, fillU_at _ ds 0 a.tmps hnd hlt j _ hd, Nat.zero_add]
        have hne : j ≠ i := by
          intro e
          subst e
          rw [h1] at hd
          cases hd
        rw [if_neg hne]
      · rw [fillU_other _ _ _ _ _ hx, fillU_other _ _ _ _ _ hx]
    | some d =>
      rw [h2] at h1
      simp only
      congr 1
      apply Array.ext_getElem?
      intro x
      have hd : d < a.tmps.size := hlt d (List.mem_of_getElem? h1)
      rw [Array.getElem?_setIfInBounds]
      by_cases hx : some x ∈ ds
      · obtain ⟨j, hj, hjx⟩ := List.getElem_of_mem hx
        have hdj : ds[j]? = some (some x) := by rw [List.getElem?_eq_getElem hj, hjx]
        rw [fillU_at _ ds 0 a.tmps hnd hlt j _ hdj, fillU_at _ ds 0 a.tmps hnd hlt j _ hdj, Nat.zero_add]
        by_cases e : j = i
        · subst e
          rw [h1] at hdj
          simp only [Option.some.injEq] at hdj
          rw [if_pos hdj, if_pos (by rw [fillU_size]; exact hdj ▸ hd), if_pos rfl]
        · have hne : d ≠ x := by
            intro e2
            subst e2
            exact e (noTwice_inj hnd hdj h1)
          rw [if_neg hne, if_neg e]
      · have hne : d ≠ x := fun e => hx (e ▸ List.mem_of_getElem? h1)
        rw [if_neg hne, fillU_other _ _ _ _ _ hx, fillU_other _ _ _ _ _ hx]
  · intro i o ho vals w' hle he hu hw K hK
    have := (step vals).get i o (by simpa using ho)
    rw [Nat.zero_add] at this
    exact this w' hle he hu hw K hK

end
end
end Go.Proofs.Ytcjfinabffpgkaa
