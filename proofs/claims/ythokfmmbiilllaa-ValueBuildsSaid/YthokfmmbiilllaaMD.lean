/-
  The laws' nodes made types: the part of number i (the closure).
-/
import Derived.Test.YthokfmmbiilllaaMC
import Derived.Test.YthokfmmbiilllaaMA
import Derived.Test.YthokfmmbiilllaaMB
import Derived.IntWalk
import Derived.Deep.Cut
import Derived.Deep.CutRange
set_option linter.unusedSimpArgs false
set_option linter.unusedVariables false
namespace Go.Proofs.Ythokfmmbiilllaa
open Go.RowKit

/-- The kind that a node's type has. -/
def kindE (kd d : Nat) (known : List Txt) : Nat :=
  if kd % 10 = 9 ∧ known.length = 0 ∨ d ≤ 1 ∧ (kd % 10 = 5 ∨ kd % 10 = 6 ∨ kd % 10 = 8) then 1 else kd % 10

/-- The type of kind k by small numbers, its parts by 'sub'. -/
def mkE (known : List Txt) (k n : Nat) (sub : Nat → KT) : KT :=
  if k = 4 then .mk 4 (1 + (n % 60 : Nat)) [] 0 (fun _ => .nil)
  else if k = 5 then .mk 5 (1 + (n % 60 : Nat)) [] 1 (fun _ => sub 0)
  else if k = 6 ∨ k = 8 then .mk k 0 ((List.range (1 + n % 3)).map (fun i => nameT i n)) (1 + n % 3) sub
  else if k = 7 then .mk 7 0 ((List.range (1 + n % 3)).map (fun i => nameT i n)) 0 (fun _ => .nil)
  else if k = 9 then .mk 9 0 [known.getD (n % known.length) []] 0 (fun _ => .nil)
  else .mk k 0 [] 0 (fun _ => .nil)

/-- A node's type, so deep at most. -/
def typeE (known : List Txt) : KN → Nat → KT
  | .nil, _ => .nil
  | .mk kd n c of, d => mkE known (kindE kd d known) n (fun i => if c = 0 then .mk (i % 4) 0 [] 0 (fun _ => .nil) else typeE known (of (i % c)) (d - 1))

def subE (known : List Txt) (c : Nat) (of : Nat → KN) (d i : Nat) : KT := if c = 0 then .mk (i % 4) 0 [] 0 (fun _ => .nil) else typeE known (of (i % c)) (d - 1)

theorem typeE_mk (known : List Txt) (kd n c : Nat) (of : Nat → KN) (d : Nat) : typeE known (.mk kd n c of) d = mkE known (kindE kd d known) n (subE known c of d) := rfl

def TypeAt (known : List Txt) (t : KN) : Prop := ∀ (R : Nat → Prop) (v vk : Value) (w : World) (d : Nat) (dz : Int), dz = d → 1 ≤ d → d ≤ 100 → NShows w t v → Texts R w known vk →
  Calls Try.prog 16 #[v, .int .i64 dz, vk] w fun e w' => ∃ v', e = .returned v' ∧ Shows (fun k => w.heap.size ≤ k) w' (typeE known t d) v' ∧ Fr (fun _ => False) w w'

theorem texts_none (R : Nat → Prop) (w : World) (a : Option Addr) (c : Nat) : Texts R w [] (.slice a 0 c) := ⟨by simp, by simp, .inl ⟨rfl, _, _, rfl⟩⟩

/-- A type in a new block of its own: ahead of the call, behind it, behind the store. -/
def OneS (w : World) (T : KT) : List Value → World → Prop
  | [], wx => Fr (fun _ => False) w wx ∧ wx.heap[w.heap.size]? = some (.cells #[.int .u8 0, .int .i64 0, .slice none 0 0, .slice none 0 0] 32 (0, 0))
  | [v], wx => Fr (fun _ => False) w wx ∧ wx.heap[w.heap.size]? = some (.cells #[.int .u8 0, .int .i64 0, .slice none 0 0, .slice none 0 0] 32 (0, 0)) ∧ Shows (fun k => w.heap.size + 1 ≤ k) wx T v
  | _ :: _ :: _, wx => Fr (fun _ => False) w wx ∧ ∃ y0 y1 y2 y3, wx.heap[w.heap.size]? = some (.cells #[y0, y1, y2, y3] 32 (0, 0)) ∧ Shows (fun k => w.heap.size + 1 ≤ k) wx T (.agg #[y0, y1, y2, y3])

theorem OneS.fr {w : World} {T : KT} {cvs : List Value} {wx : World} (h : OneS w T cvs wx) : Fr (fun _ => False) w wx := by
  match cvs with
  | [] => exact h.1
  | [_] => exact h.1
  | _ :: _ :: _ => exact h.1

set_option maxRecDepth 100000 in
set_option maxHeartbeats 16000000 in
theorem sub_any (known : List Txt) (kd n c : Nat) (of : Nat → KN) (ih : ∀ i, TypeAt known (of i)) (R : Nat → Prop) (a vk : Value) (w : World) (d : Nat) (dz : Int) (bn bd bk i : Nat) (hi : i ≤ 100) (hdz : dz = d) (hd1 : 2 ≤ d) (hd : d ≤ 100)
    (hn : w.heap[bn]? = some (.cells #[.int .u8 kd, .int .u8 n, a] 24 (0, 0))) (hbd : w.heap[bd]? = some (.cells #[.int .i64 dz] 3 (0, 0))) (hbk : w.heap[bk]? = some (.cells #[vk] 29 (0, 0)))
    (hsh : NShows w (.mk kd n c of) (.agg #[.int .u8 kd, .int .u8 n, a])) (hk : Texts R w known vk) :
    Calls Try.prog 25 #[.int .i64 i, .pointer (some ⟨bn, 0, none⟩), .pointer (some ⟨bd, 0, none⟩), .pointer (some ⟨bk, 0, none⟩)] w fun e w' => ∃ v', e = .returned v' ∧ Shows (fun k => w.heap.size ≤ k) w' (subE known c of d i) v' ∧ Fr (fun _ => False) w w' := by
  obtain ⟨vo, e, _, _, hc, ho⟩ := hsh
  simp at e
  subst e
  have hln := lt_of_block hn
  have hlbd := lt_of_block hbd
  have hlbk := lt_of_block hbk
  by_cases hc0 : c = 0
  · subst hc0
    obtain ⟨aa, cap, rfl⟩ : ∃ aa cap, a = .slice aa 0 cap := by
      rcases ho with ⟨_, aa, cap, rfl⟩ | ⟨g, off, cap, rfl, _⟩
      · exact ⟨aa, cap, rfl⟩
      · exact ⟨_, cap, rfl⟩
    have y2 := cells_row hn 2 _ rfl
    have i0 : (0 : Int) ≤ (i : Int) := by omega
    have i1 : (i : Int) ≤ 100 := by omega
    have z : ((w.alloc (.cells #[.int .u8 0, .int .i64 0, .slice none 0 0, .slice none 0 0] 32)).heap[w.heap.size]?) = some (.cells #[.int .u8 0, .int .i64 0, .slice none 0 0, .slice none 0 0] 32 (0, 0)) := heap_alloc_new _ _
    have Hz := Lib.hid z
    clear hdz hbd hbk hk ho hn z hc hd1 hd ih
    go_enter Try.func25, Try.ntmps25
    go_wp2
    refine bodyPost_ret (results_cell_row rfl _ _ w.heap.size 32 _ _ _ rfl (heap_alloc_new _ _) Try.underlying32 rfl (by kernel_rfl)) rfl ?_
    refine ⟨_, rfl, ?_, (Fr.refl _ _).alloc _⟩
    unfold subE
    rw [if_pos rfl]
    exact ⟨.slice none 0 0, .slice none 0 0, by simp, by omega, by omega, texts_none _ _ _ _, .inl ⟨rfl, _, _, rfl⟩⟩
  · obtain ⟨g, off, cap, rfl, hle, hcell⟩ : ∃ g off cap, a = .slice (some ⟨g, off, none⟩) c cap ∧ c ≤ cap ∧ ∀ i, i < c → ∃ x0 x1 x2,
      w.cell? ⟨g, off + i * 3, none⟩ = some x0 ∧ w.cell? ⟨g, off + i * 3 + 1, none⟩ = some x1 ∧ w.cell? ⟨g, off + i * 3 + 2, none⟩ = some x2 ∧ NShows w (of i) (.agg #[x0, x1, x2]) := by
      rcases ho with ⟨h, _⟩ | h
      · exact absurd h hc0
      · exact h
    obtain ⟨q, hq⟩ : ∃ q, q = i % c := ⟨_, rfl⟩
    have hq1 : q ≤ 100 := by rw [hq]; exact Nat.le_trans (Nat.mod_le _ _) hi
    have hqc : q < c := by rw [hq]; exact Nat.mod_lt _ (by omega)
    have hqz : (i : Int) % (c : Int) = (q : Int) := by rw [hq]; rfl
    obtain ⟨x0, x1, x2, c0, c1, c2, hx⟩ := hcell q hqc
    obtain ⟨pk, pn, pa, pc, pcap, e⟩ := hx.cells
    simp at e
    obtain ⟨rfl, rfl, rfl⟩ := e
    have HS : Hid (subE known c of d i = typeE known (of q) (d - 1)) := Lib.hid (by unfold subE; rw [if_neg hc0, hq])
    have HC := Lib.hid (fun (wx : World) (f : Fr (fun _ => False) w wx) => ih q R _ vk wx (d - 1) (dz - 1) (by omega) (by omega) (by omega) (NShows.fr f _ _ hx) (hk.fr f (fun _ _ h => h)))
    have HQ := Lib.hid (fun (wx : World) (f : Fr (fun _ => False) w wx) =>
      have up : ∀ {gg o : Nat} {u : Value}, w.cell? ⟨gg, o, none⟩ = some u → wx.cell? ⟨gg, o, none⟩ = some u := fun h => cell_fr (R := fun _ => True) f (fun _ _ h => h) trivial h
      And.intro (up (cells_row hn 2 _ rfl)) (And.intro (up (cell_of_one hbd)) (And.intro (up (cell_of_one hbk)) (And.intro (up c0) (And.intro (up c1) (up c2))))))
    have i0 : (0 : Int) ≤ (i : Int) := by omega
    have i1 : (i : Int) ≤ 100 := by omega
    have i2 : (0 : Int) ≤ (q : Int) := by omega
    have i3 : (q : Int) < (c : Int) := by omega
    have i4 : ¬ (c : Int) = 0 := by omega
    have i5 : 1 ≤ dz := by omega
    have d1 : IntKind.i64.wrap (dz - 1) = dz - 1 := IntWalk.i64_in _ (by omega)
    have d2 : wrap64 (dz - 1) = dz - 1 := IntWalk.wrap64_in _ (by omega)
    have d3 : Int.tmod (i : Int) (c : Int) = (q : Int) := by rw [Int.tmod_eq_emod_of_nonneg (by omega)]; exact hqz
    have d4 : IntKind.i64.wrap (q : Int) = (q : Int) := IntWalk.i64_in _ (by omega)
    have i6 : dz ≤ 100 := by omega
    have i7 : ((c : Int) == 0) = false := by simpa using hc0
    have hcm : (c : Int) ≤ 9223372036854775807 := by unfold maxLen at hc; omega
    have y2 := cells_row hn 2 _ rfl
    clear hdz hbd hbk hk ho hn hd1 hd ih hq hcell c0 c1 c2 hx hc
    obtain ⟨w0, hw0⟩ : ∃ w0, w0 = w.alloc (.cells #[.int .u8 0, .int .i64 0, .slice none 0 0, .slice none 0 0] 32) := ⟨_, rfl⟩
    have F0 : Hid (Fr (fun _ => False) w w0 ∧ w0.heap[w.heap.size]? = some (.cells #[.int .u8 0, .int .i64 0, .slice none 0 0, .slice none 0 0] 32 (0, 0))) := Lib.hid (by rw [hw0]; exact ⟨(Fr.refl _ _).alloc _, heap_alloc_new _ _⟩)
    go_enter Try.func25, Try.ntmps25
    go_wp2_with fail
    rw [← hw0]
    clear hw0 y2
    refine wp_region_chain (by kernel_rfl) [some 14, some 15, some 16, some 17, some 18, some 19, some 20, some 21, some 22, some 23, some 24, some 25, some 26, none] rfl (by decide) (by intro d hd; simp at hd ⊢; omega)
      [12, 13] (OneS w (typeE known (of q) (d - 1)))
      [.free (.pointer (some ⟨bn, 2, none⟩)), .free (.slice (some ⟨g, off, none⟩) c cap), .free (.int .i64 i), .free (.pointer (some ⟨bn, 2, none⟩)), .free (.slice (some ⟨g, off, none⟩) c cap), .free (.int .i64 c), .free (.int .i64 q), .free (.pointer (some ⟨g, off + q * 3, none⟩)),
       .free (.agg #[.int .u8 pk, .int .u8 pn, .slice pa pc pcap]), .free (.int .i64 dz), .free (.int .i64 (dz - 1)), .free vk, .link none, .link none]
      (by kernel_rfl) (by kernel_rfl) ?h0 ?step ?fin
    case h0 => exact ⟨F0.out.1.drew, F0.out.2⟩
    case step =>
      intro vals
      simp only [frOfU, fillU, List.setIfInBounds_toArray, List.set_cons_succ, List.set_cons_zero]
      repeat' (first | exact AllOps.nil | refine AllOps.cons ?_ ?_)
      all_goals
        intro cvs wx hS he hu hlim K hK
        clear hu
        simp only [Act.put, List.setIfInBounds_toArray, List.set_cons_succ, List.set_cons_zero, List.getD_cons_zero, List.getD_cons_succ] at hK
        simp only [List.mem_cons, List.not_mem_nil, or_false, forall_eq_or_imp, forall_eq, Region.binds, forall_const, false_imp_iff, List.getD_cons_zero, List.getD_cons_succ, OpSort.val, Option.some.injEq, forall_eq', reduceCtorEq, implies_true, true_and, and_true] at he
        have FX := Lib.hid hS.fr
        obtain ⟨r0, r1, r2, r3, r4, r5⟩ := HQ.out wx hS.fr
        simp only [List.getElem_toArray, List.getElem_cons_succ, List.getElem_cons_zero] at r0
        have HSX := Lib.hid hS
        clear hS
      all_goals first | (clear hlim; (try simp only [he] at hK ⊢); go_simp; exact hK) | skip
      · obtain rfl := hlim (0 : Nat) rfl
        have h1 := HSX.out
        simp only [List.take_zero, List.map_nil] at h1
        simp only [he] at hK ⊢
        go_simp
        go_at_call 16
        refine (HC.out wx FX.out).mono ?_
        rintro e1 wa ⟨v', rfl, hsv, fa⟩
        refine hK _ _ (fun _ h => by cases h) ⟨FX.out.trans fa (fun _ _ h => h), box_kept h1.2 fa (fun h => h), Shows.mono (fun k _ hk => ?_) _ _ hsv⟩
        have := lt_of_block h1.2
        omega
      · obtain rfl := hlim (1 : Nat) rfl
        have h1 := HSX.out
        clear HSX hlim
        simp only [List.take_succ_cons, List.take_zero, List.map_cons, List.map_nil] at h1 hK
        obtain ⟨_, hb, hs⟩ := h1
        obtain ⟨tk, tm, ta, tn, tc, ta', tn', tc', e12⟩ := hs.four
        have z0 : wx.frozen? ⟨w.heap.size, 0, none⟩ = false := by simp [World.frozen?, hb]
        have z1 : wx.frozen? ⟨w.heap.size, 1, none⟩ = false := by simp [World.frozen?, hb]
        have z2 : wx.frozen? ⟨w.heap.size, 2, none⟩ = false := by simp [World.frozen?, hb]
        have z3 : wx.frozen? ⟨w.heap.size, 3, none⟩ = false := by simp [World.frozen?, hb]
        obtain ⟨b0, b1, b2, b3⟩ := cell_of_four hb
        rw [e12] at hs
        have HB := Lib.hid (And.intro hb hs)
        clear hb hs
        simp only [he, e12] at hK ⊢
        go_simp
        refine hK undef _ (fun _ h => by cases h) ⟨fr_four _ _ _ _ FX.out (fun h => absurd h (Nat.lt_irrefl _)), _, _, _, _, store_four HB.out.1, Shows.fr (S := fun k => k = w.heap.size) (fr_four _ _ _ _ (Fr.refl _ _) (fun _ => rfl)) (fun k hk h => by omega) _ _ HB.out.2⟩
    case fin =>
      intro vals w' hS hV
      clear hV
      simp only [List.map_cons, List.map_nil] at hS
      obtain ⟨hf, y0, y1, y2, y3, hb, hs⟩ := hS
      have HF := Lib.hid (And.intro hf (And.intro hb hs))
      clear hf hb hs
      simp only [frOfU, fillU, List.setIfInBounds_toArray, List.set_cons_succ, List.set_cons_zero]
      go_wp2
      refine bodyPost_ret (results_cell_row rfl _ _ w.heap.size 32 _ _ _ rfl HF.out.2.1 Try.underlying32 rfl (by kernel_rfl)) rfl ?_
      rw [HS.out]
      exact ⟨_, rfl, Shows.mono (fun k _ h => Nat.le_trans (Nat.le_succ _) h) _ _ HF.out.2.2, HF.out.1⟩

end Go.Proofs.Ythokfmmbiilllaa

/-
  The laws' nodes made types: the plain kinds, a text.
-/
namespace Go.Proofs.Ythokfmmbiilllaa
open Go.RowKit
set_option linter.unusedSimpArgs false
set_option linter.unusedVariables false

/-- A node made a type, at one depth. -/
def TypeOne (known : List Txt) (t : KN) (d : Nat) : Prop := ∀ (R : Nat → Prop) (v vk : Value) (w : World) (dz : Int), dz = d → 1 ≤ d → d ≤ 100 → NShows w t v → Texts R w known vk →
  Calls Try.prog 16 #[v, .int .i64 dz, vk] w fun e w' => ∃ v', e = .returned v' ∧ Shows (fun k => w.heap.size ≤ k) w' (typeE known t d) v' ∧ Fr (fun _ => False) w w'

theorem heap_alloc_4 (w : World) (a b c x y : Obj) : (((((w.alloc a).alloc b).alloc c).alloc x).alloc y).heap[w.heap.size + 1 + 1 + 1]? = some x := by
  rw [Below.heap_alloc _ _ _ (by simp)]
  have := heap_alloc_new (((w.alloc a).alloc b).alloc c) x
  simpa using this

set_option maxRecDepth 100000 in
set_option maxHeartbeats 16000000 in
theorem type_k0 (known : List Txt) (kd n c : Nat) (of : Nat → KN) (d : Nat) (hkk : kd % 10 = 0) : TypeOne known (.mk kd n c of) d := by
  intro R v vk w dz hdz hd1 hd hsh hk
  obtain ⟨vo, rfl, hkd, hn, hc, ho⟩ := hsh
  obtain ⟨oa, on, oc, rfl⟩ : ∃ oa on oc, vo = .slice oa on oc := by
    rcases ho with ⟨_, aa, cap, rfl⟩ | ⟨g, off, cap, rfl, _⟩
    · exact ⟨aa, 0, cap, rfl⟩
    · exact ⟨_, c, cap, rfl⟩
  obtain ⟨ka, kc, rfl, hks⟩ := hk.shape
  have hl1 := hk.1
  have h10 : (kd : Int) % 10 = 0 := by omega
  have HT : Hid (typeE known (.mk kd n c of) d = .mk 0 0 [] 0 (fun _ => .nil)) := Lib.hid (by
    rw [typeE_mk]
    have e : kindE kd d known = 0 := by unfold kindE; rw [hkk]; simp
    rw [e]
    rfl)
  clear ho hk hks hkk hdz
  go_enter Try.func16, Try.ntmps16
  go_wp2
  all_goals refine bodyPost_ret (results_cell_row rfl _ _ (w.heap.size + 1 + 1 + 1) 32 _ _ _ rfl (heap_alloc_4 _ _ _ _ _ _) Try.underlying32 rfl (by kernel_rfl)) rfl ?_
  all_goals rw [HT.out]
  all_goals exact ⟨_, rfl, ⟨.slice none 0 0, .slice none 0 0, by simp, by omega, by omega, texts_none _ _ _ _, .inl ⟨rfl, _, _, rfl⟩⟩, (((((Fr.refl _ _).alloc _).alloc _).alloc _).alloc _).alloc _⟩

set_option maxRecDepth 100000 in
set_option maxHeartbeats 16000000 in
theorem type_k1 (known : List Txt) (kd n c : Nat) (of : Nat → KN) (d : Nat) (hkk : kd % 10 = 1) : TypeOne known (.mk kd n c of) d := by
  intro R v vk w dz hdz hd1 hd hsh hk
  obtain ⟨vo, rfl, hkd, hn, hc, ho⟩ := hsh
  obtain ⟨oa, on, oc, rfl⟩ : ∃ oa on oc, vo = .slice oa on oc := by
    rcases ho with ⟨_, aa, cap, rfl⟩ | ⟨g, off, cap, rfl, _⟩
    · exact ⟨aa, 0, cap, rfl⟩
    · exact ⟨_, c, cap, rfl⟩
  obtain ⟨ka, kc, rfl, hks⟩ := hk.shape
  have hl1 := hk.1
  have h10 : (kd : Int) % 10 = 1 := by omega
  have HT : Hid (typeE known (.mk kd n c of) d = .mk 1 0 [] 0 (fun _ => .nil)) := Lib.hid (by
    rw [typeE_mk]
    have e : kindE kd d known = 1 := by unfold kindE; rw [hkk]; simp
    rw [e]
    rfl)
  clear ho hk hks hkk hdz
  go_enter Try.func16, Try.ntmps16
  go_wp2
  all_goals refine bodyPost_ret (results_cell_row rfl _ _ (w.heap.size + 1 + 1 + 1) 32 _ _ _ rfl (heap_alloc_4 _ _ _ _ _ _) Try.underlying32 rfl (by kernel_rfl)) rfl ?_
  all_goals rw [HT.out]
  all_goals exact ⟨_, rfl, ⟨.slice none 0 0, .slice none 0 0, by simp, by omega, by omega, texts_none _ _ _ _, .inl ⟨rfl, _, _, rfl⟩⟩, (((((Fr.refl _ _).alloc _).alloc _).alloc _).alloc _).alloc _⟩

set_option maxRecDepth 100000 in
set_option maxHeartbeats 16000000 in
theorem type_k2 (known : List Txt) (kd n c : Nat) (of : Nat → KN) (d : Nat) (hkk : kd % 10 = 2) : TypeOne known (.mk kd n c of) d := by
  intro R v vk w dz hdz hd1 hd hsh hk
  obtain ⟨vo, rfl, hkd, hn, hc, ho⟩ := hsh
  obtain ⟨oa, on, oc, rfl⟩ : ∃ oa on oc, vo = .slice oa on oc := by
    rcases ho with ⟨_, aa, cap, rfl⟩ | ⟨g, off, cap, rfl, _⟩
    · exact ⟨aa, 0, cap, rfl⟩
    · exact ⟨_, c, cap, rfl⟩
  obtain ⟨ka, kc, rfl, hks⟩ := hk.shape
  have hl1 := hk.1
  have h10 : (kd : Int) % 10 = 2 := by omega
  have HT : Hid (typeE known (.mk kd n c of) d = .mk 2 0 [] 0 (fun _ => .nil)) := Lib.hid (by
    rw [typeE_mk]
    have e : kindE kd d known = 2 := by unfold kindE; rw [hkk]; simp
    rw [e]
    rfl)
  clear ho hk hks hkk hdz
  go_enter Try.func16, Try.ntmps16
  go_wp2
  all_goals refine bodyPost_ret (results_cell_row rfl _ _ (w.heap.size + 1 + 1 + 1) 32 _ _ _ rfl (heap_alloc_4 _ _ _ _ _ _) Try.underlying32 rfl (by kernel_rfl)) rfl ?_
  all_goals rw [HT.out]
  all_goals exact ⟨_, rfl, ⟨.slice none 0 0, .slice none 0 0, by simp, by omega, by omega, texts_none _ _ _ _, .inl ⟨rfl, _, _, rfl⟩⟩, (((((Fr.refl _ _).alloc _).alloc _).alloc _).alloc _).alloc _⟩

set_option maxRecDepth 100000 in
set_option maxHeartbeats 16000000 in
theorem type_k3 (known : List Txt) (kd n c : Nat) (of : Nat → KN) (d : Nat) (hkk : kd % 10 = 3) : TypeOne known (.mk kd n c of) d := by
  intro R v vk w dz hdz hd1 hd hsh hk
  obtain ⟨vo, rfl, hkd, hn, hc, ho⟩ := hsh
  obtain ⟨oa, on, oc, rfl⟩ : ∃ oa on oc, vo = .slice oa on oc := by
    rcases ho with ⟨_, aa, cap, rfl⟩ | ⟨g, off, cap, rfl, _⟩
    · exact ⟨aa, 0, cap, rfl⟩
    · exact ⟨_, c, cap, rfl⟩
  obtain ⟨ka, kc, rfl, hks⟩ := hk.shape
  have hl1 := hk.1
  have h10 : (kd : Int) % 10 = 3 := by omega
  have HT : Hid (typeE known (.mk kd n c of) d = .mk 3 0 [] 0 (fun _ => .nil)) := Lib.hid (by
    rw [typeE_mk]
    have e : kindE kd d known = 3 := by unfold kindE; rw [hkk]; simp
    rw [e]
    rfl)
  clear ho hk hks hkk hdz
  go_enter Try.func16, Try.ntmps16
  go_wp2
  all_goals refine bodyPost_ret (results_cell_row rfl _ _ (w.heap.size + 1 + 1 + 1) 32 _ _ _ rfl (heap_alloc_4 _ _ _ _ _ _) Try.underlying32 rfl (by kernel_rfl)) rfl ?_
  all_goals rw [HT.out]
  all_goals exact ⟨_, rfl, ⟨.slice none 0 0, .slice none 0 0, by simp, by omega, by omega, texts_none _ _ _ _, .inl ⟨rfl, _, _, rfl⟩⟩, (((((Fr.refl _ _).alloc _).alloc _).alloc _).alloc _).alloc _⟩

set_option maxRecDepth 100000 in
set_option maxHeartbeats 16000000 in
theorem type_k4 (known : List Txt) (kd n c : Nat) (of : Nat → KN) (d : Nat) (hkk : kd % 10 = 4) : TypeOne known (.mk kd n c of) d := by
  intro R v vk w dz hdz hd1 hd hsh hk
  obtain ⟨vo, rfl, hkd, hn, hc, ho⟩ := hsh
  obtain ⟨oa, on, oc, rfl⟩ : ∃ oa on oc, vo = .slice oa on oc := by
    rcases ho with ⟨_, aa, cap, rfl⟩ | ⟨g, off, cap, rfl, _⟩
    · exact ⟨aa, 0, cap, rfl⟩
    · exact ⟨_, c, cap, rfl⟩
  obtain ⟨ka, kc, rfl, hks⟩ := hk.shape
  have hl1 := hk.1
  have h10 : (kd : Int) % 10 = 4 := by omega
  have n60 : (0 : Int) ≤ (n : Int) % 60 ∧ (n : Int) % 60 ≤ 59 := by omega
  have N60 := Lib.hid n60
  clear n60
  have HT : Hid (typeE known (.mk kd n c of) d = .mk 4 (1 + (n % 60 : Nat)) [] 0 (fun _ => .nil)) := Lib.hid (by
    rw [typeE_mk]
    have e : kindE kd d known = 4 := by unfold kindE; rw [hkk]; simp
    rw [e]
    rfl)
  clear ho hk hks hkk hdz
  go_enter Try.func16, Try.ntmps16
  go_wp2
  all_goals refine bodyPost_ret (results_cell_row rfl _ _ (w.heap.size + 1 + 1 + 1) 32 _ _ _ rfl (heap_alloc_4 _ _ _ _ _ _) Try.underlying32 rfl (by kernel_rfl)) rfl ?_
  all_goals rw [HT.out]
  all_goals exact ⟨_, rfl, ⟨.slice none 0 0, .slice none 0 0, by simp, by omega, by omega, texts_none _ _ _ _, .inl ⟨rfl, _, _, rfl⟩⟩, (((((Fr.refl _ _).alloc _).alloc _).alloc _).alloc _).alloc _⟩

set_option maxRecDepth 100000 in
set_option maxHeartbeats 16000000 in
theorem type_d5 (known : List Txt) (kd n c : Nat) (of : Nat → KN) (d : Nat) (hd2 : d = 1) (hkk : kd % 10 = 5) : TypeOne known (.mk kd n c of) d := by
  intro R v vk w dz hdz hd1 hd hsh hk
  obtain ⟨vo, rfl, hkd, hn, hc, ho⟩ := hsh
  obtain ⟨oa, on, oc, rfl⟩ : ∃ oa on oc, vo = .slice oa on oc := by
    rcases ho with ⟨_, aa, cap, rfl⟩ | ⟨g, off, cap, rfl, _⟩
    · exact ⟨aa, 0, cap, rfl⟩
    · exact ⟨_, c, cap, rfl⟩
  obtain ⟨ka, kc, rfl, hks⟩ := hk.shape
  have hl1 := hk.1
  have h10 : (kd : Int) % 10 = 5 := by omega
  obtain rfl : dz = 1 := by omega
  have HT : Hid (typeE known (.mk kd n c of) d = .mk 1 0 [] 0 (fun _ => .nil)) := Lib.hid (by
    rw [typeE_mk]
    have e : kindE kd d known = 1 := by unfold kindE; rw [hkk]; simp [hd2]
    rw [e]
    rfl)
  clear ho hk hks hkk hdz hd2 hd1 hd
  go_enter Try.func16, Try.ntmps16
  go_wp2
  all_goals refine bodyPost_ret (results_cell_row rfl _ _ (w.heap.size + 1 + 1 + 1) 32 _ _ _ rfl (heap_alloc_4 _ _ _ _ _ _) Try.underlying32 rfl (by kernel_rfl)) rfl ?_
  all_goals rw [HT.out]
  all_goals exact ⟨_, rfl, ⟨.slice none 0 0, .slice none 0 0, by simp, by omega, by omega, texts_none _ _ _ _, .inl ⟨rfl, _, _, rfl⟩⟩, (((((Fr.refl _ _).alloc _).alloc _).alloc _).alloc _).alloc _⟩

set_option maxRecDepth 100000 in
set_option maxHeartbeats 16000000 in
theorem type_d6 (known : List Txt) (kd n c : Nat) (of : Nat → KN) (d : Nat) (hd2 : d = 1) (hkk : kd % 10 = 6) : TypeOne known (.mk kd n c of) d := by
  intro R v vk w dz hdz hd1 hd hsh hk
  obtain ⟨vo, rfl, hkd, hn, hc, ho⟩ := hsh
  obtain ⟨oa, on, oc, rfl⟩ : ∃ oa on oc, vo = .slice oa on oc := by
    rcases ho with ⟨_, aa, cap, rfl⟩ | ⟨g, off, cap, rfl, _⟩
    · exact ⟨aa, 0, cap, rfl⟩
    · exact ⟨_, c, cap, rfl⟩
  obtain ⟨ka, kc, rfl, hks⟩ := hk.shape
  have hl1 := hk.1
  have h10 : (kd : Int) % 10 = 6 := by omega
  obtain rfl : dz = 1 := by omega
  have HT : Hid (typeE known (.mk kd n c of) d = .mk 1 0 [] 0 (fun _ => .nil)) := Lib.hid (by
    rw [typeE_mk]
    have e : kindE kd d known = 1 := by unfold kindE; rw [hkk]; simp [hd2]
    rw [e]
    rfl)
  clear ho hk hks hkk hdz hd2 hd1 hd
  go_enter Try.func16, Try.ntmps16
  go_wp2
  all_goals refine bodyPost_ret (results_cell_row rfl _ _ (w.heap.size + 1 + 1 + 1) 32 _ _ _ rfl (heap_alloc_4 _ _ _ _ _ _) Try.underlying32 rfl (by kernel_rfl)) rfl ?_
  all_goals rw [HT.out]
  all_goals exact ⟨_, rfl, ⟨.slice none 0 0, .slice none 0 0, by simp, by omega, by omega, texts_none _ _ _ _, .inl ⟨rfl, _, _, rfl⟩⟩, (((((Fr.refl _ _).alloc _).alloc _).alloc _).alloc _).alloc _⟩

set_option maxRecDepth 100000 in
set_option maxHeartbeats 16000000 in
theorem type_d8 (known : List Txt) (kd n c : Nat) (of : Nat → KN) (d : Nat) (hd2 : d = 1) (hkk : kd % 10 = 8) : TypeOne known (.mk kd n c of) d := by
  intro R v vk w dz hdz hd1 hd hsh hk
  obtain ⟨vo, rfl, hkd, hn, hc, ho⟩ := hsh
  obtain ⟨oa, on, oc, rfl⟩ : ∃ oa on oc, vo = .slice oa on oc := by
    rcases ho with ⟨_, aa, cap, rfl⟩ | ⟨g, off, cap, rfl, _⟩
    · exact ⟨aa, 0, cap, rfl⟩
    · exact ⟨_, c, cap, rfl⟩
  obtain ⟨ka, kc, rfl, hks⟩ := hk.shape
  have hl1 := hk.1
  have h10 : (kd : Int) % 10 = 8 := by omega
  obtain rfl : dz = 1 := by omega
  have HT : Hid (typeE known (.mk kd n c of) d = .mk 1 0 [] 0 (fun _ => .nil)) := Lib.hid (by
    rw [typeE_mk]
    have e : kindE kd d known = 1 := by unfold kindE; rw [hkk]; simp [hd2]
    rw [e]
    rfl)
  clear ho hk hks hkk hdz hd2 hd1 hd
  go_enter Try.func16, Try.ntmps16
  go_wp2
  all_goals refine bodyPost_ret (results_cell_row rfl _ _ (w.heap.size + 1 + 1 + 1) 32 _ _ _ rfl (heap_alloc_4 _ _ _ _ _ _) Try.underlying32 rfl (by kernel_rfl)) rfl ?_
  all_goals rw [HT.out]
  all_goals exact ⟨_, rfl, ⟨.slice none 0 0, .slice none 0 0, by simp, by omega, by omega, texts_none _ _ _ _, .inl ⟨rfl, _, _, rfl⟩⟩, (((((Fr.refl _ _).alloc _).alloc _).alloc _).alloc _).alloc _⟩

set_option maxRecDepth 100000 in
set_option maxHeartbeats 16000000 in
theorem type_e9 (known : List Txt) (kd n c : Nat) (of : Nat → KN) (d : Nat) (hl : known.length = 0) (hkk : kd % 10 = 9) : TypeOne known (.mk kd n c of) d := by
  intro R v vk w dz hdz hd1 hd hsh hk
  obtain ⟨vo, rfl, hkd, hn, hc, ho⟩ := hsh
  obtain ⟨oa, on, oc, rfl⟩ : ∃ oa on oc, vo = .slice oa on oc := by
    rcases ho with ⟨_, aa, cap, rfl⟩ | ⟨g, off, cap, rfl, _⟩
    · exact ⟨aa, 0, cap, rfl⟩
    · exact ⟨_, c, cap, rfl⟩
  obtain ⟨ka, kc, rfl, hks⟩ := hk.shape
  have hl1 := hk.1
  have h10 : (kd : Int) % 10 = 9 := by omega
  rw [hl]
  have HT : Hid (typeE known (.mk kd n c of) d = .mk 1 0 [] 0 (fun _ => .nil)) := Lib.hid (by
    rw [typeE_mk]
    have e : kindE kd d known = 1 := by unfold kindE; rw [hkk]; simp [hl]
    rw [e]
    rfl)
  clear ho hk hks hkk hdz hl
  go_enter Try.func16, Try.ntmps16
  go_wp2
  all_goals refine bodyPost_ret (results_cell_row rfl _ _ (w.heap.size + 1 + 1 + 1) 32 _ _ _ rfl (heap_alloc_4 _ _ _ _ _ _) Try.underlying32 rfl (by kernel_rfl)) rfl ?_
  all_goals rw [HT.out]
  all_goals exact ⟨_, rfl, ⟨.slice none 0 0, .slice none 0 0, by simp, by omega, by omega, texts_none _ _ _ _, .inl ⟨rfl, _, _, rfl⟩⟩, (((((Fr.refl _ _).alloc _).alloc _).alloc _).alloc _).alloc _⟩

end Go.Proofs.Ythokfmmbiilllaa

/-
  Rows of items that are owned alone, whose items lie in memory of their own, kept off some blocks; an append of one item.
-/
namespace Go.Proofs.Ythokfmmbiilllaa
open Go.RowKit
set_option linter.unusedVariables false

/-- What an item's cells show, and where: it goes on where these blocks are left. -/
structure Shown (α : Type) where
  sh : (Nat → Prop) → World → α → List Value → Prop
  fr : ∀ {R S : Nat → Prop} {w w' : World} {x : α} {xs : List Value}, sh R w x xs → Fr S w w' → (∀ k, R k → ¬ S k) → sh R w' x xs
  mono : ∀ {R S : Nat → Prop} {w : World} {x : α} {xs : List Value}, sh R w x xs → (∀ k, k < w.heap.size → R k → S k) → sh S w x xs

/-- A row of items alone from block B on, off the blocks X. -/
def ItRow {α : Type} (D : Shown α) (e : TypeId) (size B : Nat) (X : Nat → Prop) (w : World) (pv : Value) (l : List α) : Prop :=
  ∃ cs : List Value, w.ownsRow B e size pv l.length cs ∧ (∀ k, pv.ownBlock = some k → ¬ X k) ∧ ∀ (i : Nat) (x : α), l[i]? = some x → ∃ xs : List Value, xs.length = size ∧ (∀ (j : Nat) (u : Value), xs[j]? = some u → cs[i * size + j]? = some u) ∧
    D.sh (fun k => B ≤ k ∧ ¬ X k ∧ pv.ownBlock ≠ some k) w x xs

section
variable {α : Type} {D : Shown α} {e : TypeId} {size B : Nat} {X : Nat → Prop} {w w' : World} {pv : Value} {l : List α}

theorem ItRow.nil (D : Shown α) (e : TypeId) (size B : Nat) (X : Nat → Prop) (w : World) : ItRow D e size B X w (.slice none 0 0) [] := ⟨[], World.ownsRow_nil w B e size, by simp [Value.ownBlock], by simp⟩

theorem ItRow.fr {S : Nat → Prop} (h : ItRow D e size B X w pv l) (f : Fr S w w') (hS : ∀ k, B ≤ k → S k → X k) : ItRow D e size B X w' pv l := by
  obtain ⟨cs, h1, h0, h2⟩ := h
  refine ⟨cs, ownsRow_fr h1 f (fun k hk hs => h0 k hk (hS k (World.ownsRow.lt h1 k hk).1 hs)), h0, fun i x hi => ?_⟩
  obtain ⟨xs, a, b, hx⟩ := h2 i x hi
  exact ⟨xs, a, b, D.fr hx f (fun k hk hs => hk.2.1 (hS k hk.1 hs))⟩

/-- Other blocks to be kept off. -/
theorem ItRow.off {Y : Nat → Prop} (h : ItRow D e size B X w pv l) (hY : ∀ k, k < w.heap.size → Y k → X k) : ItRow D e size B Y w pv l := by
  obtain ⟨cs, h1, h0, h2⟩ := h
  refine ⟨cs, h1, fun k hk hy => h0 k hk (hY k (World.ownsRow.lt h1 k hk).2 hy), fun i x hi => ?_⟩
  obtain ⟨xs, a, b, hx⟩ := h2 i x hi
  exact ⟨xs, a, b, D.mono hx (fun k hk h => ⟨h.1, fun hy => h.2.1 (hY k hk hy), h.2.2⟩)⟩

theorem ItRow.slice (h : ItRow D e size B X w pv l) : ∃ a c, pv = .slice a l.length c := by
  obtain ⟨cs, h1, _⟩ := h
  exact slice_of_own h1

theorem ItRow.own (h : ItRow D e size B X w pv l) (k : Nat) (hk : pv.ownBlock = some k) : B ≤ k ∧ k < w.heap.size ∧ ¬ X k := by
  obtain ⟨cs, h1, h0, _⟩ := h
  exact ⟨(World.ownsRow.lt h1 k hk).1, (World.ownsRow.lt h1 k hk).2, h0 k hk⟩

/-- One item more, behind an append. -/
theorem ItRow.push {pv' : Value} {x : α} {news : List Value} (h : ItRow D e size B X w pv l) (hx : D.sh (fun k => B ≤ k ∧ ¬ X k ∧ pv.ownBlock ≠ some k) w x news) (hn : news.length = size)
    {cs : List Value} (hc : w.ownsRow B e size pv l.length cs) (ho : w'.ownsRow B e size pv' (l.length + 1) (cs ++ news)) (hg : w.grownBy w' pv.ownBlock) (hv : pv'.ownBlock = pv.ownBlock ∨ pv'.ownBlock = some w.heap.size) (hX : ∀ k, X k → k < w.heap.size) : ItRow D e size B X w' pv' (l ++ [x]) := by
  obtain ⟨cs', h1, h0, h2⟩ := h
  have hcs : cs' = cs := by
    have e1 := h1
    have e2 := hc
    have l1 := h1.1
    have l2 := hc.1
    by_cases hz : l.length = 0
    · rw [hz, Nat.zero_mul] at l1 l2
      rw [List.eq_nil_of_length_eq_zero l1, List.eq_nil_of_length_eq_zero l2]
    · rcases h1.2 with ⟨_, h0⟩ | ⟨g, cap, cur, rfl, hb, hgg, hle, _⟩
      · exact absurd h0 hz
      · refine List.ext_getElem? fun j => ?_
        by_cases hj : j < l.length * size
        · have q1 := World.ownsRow.cells (g := g) h1 rfl j _ (List.getElem?_eq_getElem (by rw [l1]; exact hj))
          have q2 := World.ownsRow.cells (g := g) hc rfl j _ (List.getElem?_eq_getElem (by rw [l2]; exact hj))
          rw [q1] at q2
          rw [List.getElem?_eq_getElem (by rw [l1]; exact hj), List.getElem?_eq_getElem (by rw [l2]; exact hj)]
          exact q2
        · rw [List.getElem?_eq_none (by rw [l1]; omega), List.getElem?_eq_none (by rw [l2]; omega)]
  subst hcs
  have key : ∀ (y : α) (ys : List Value), D.sh (fun k => B ≤ k ∧ ¬ X k ∧ pv.ownBlock ≠ some k) w y ys → D.sh (fun k => B ≤ k ∧ ¬ X k ∧ pv'.ownBlock ≠ some k) w' y ys := by
    intro y ys h
    have h3 := D.fr (D.mono h (S := fun k => (B ≤ k ∧ ¬ X k ∧ pv.ownBlock ≠ some k) ∧ k < w.heap.size) (fun k hk h => ⟨h, hk⟩)) (Fr.of_grown hg) (fun k hk e => hk.1.2.2 e.symm)
    refine D.mono h3 (fun k _ h => ⟨h.1.1, h.1.2.1, fun e => ?_⟩)
    rcases hv with e' | e'
    · rw [e'] at e; exact h.1.2.2 e
    · rw [e'] at e; cases e; exact absurd h.2 (Nat.lt_irrefl _)
  have l1 := h1.1
  refine ⟨cs' ++ news, by rw [List.length_append]; exact ho, ?_, fun i y hi => ?_⟩
  · intro k hk hxk
    rcases hv with e' | e'
    · rw [e'] at hk; exact h0 k hk hxk
    · rw [e'] at hk; cases hk; exact absurd (hX _ hxk) (Nat.lt_irrefl _)
  by_cases hlt : i < l.length
  · rw [List.getElem?_append_left hlt] at hi
    obtain ⟨xs, a, b, hy⟩ := h2 i y hi
    refine ⟨xs, a, fun j u hu => ?_, key _ _ hy⟩
    have := b j u hu
    rw [List.getElem?_append_left (List.getElem?_eq_some_iff.1 this).1]
    exact this
  · have hi' := (List.getElem?_eq_some_iff.1 hi).1
    obtain rfl : i = l.length := by simp at hi'; omega
    rw [List.getElem?_append_right (Nat.le_refl _)] at hi
    simp at hi
    subst hi
    refine ⟨news, hn, fun j u hu => ?_, key _ _ hx⟩
    rw [List.getElem?_append_right (by omega), show l.length * size + j - cs'.length = j by omega]
    exact hu

/-- The row's cells, in memory. -/
theorem ItRow.cells (h : ItRow D e size B X w pv l) : (l = [] ∧ ∃ a c, pv = .slice a 0 c) ∨
    ∃ g cap, (B ≤ g ∧ ¬ X g ∧ g < w.heap.size) ∧ pv = .slice (some ⟨g, 0, none⟩) l.length cap ∧ l.length ≤ cap ∧ ∀ (i : Nat) (x : α), l[i]? = some x → ∃ xs : List Value, xs.length = size ∧ (∀ (j : Nat) (u : Value), xs[j]? = some u → w.cell? ⟨g, 0 + i * size + j, none⟩ = some u) ∧
      D.sh (fun k => B ≤ k ∧ ¬ X k ∧ k < w.heap.size) w x xs := by
  obtain ⟨cs, h1, h0, h2⟩ := h
  rcases h1.2 with ⟨rfl, hz⟩ | ⟨g, cap, cur, rfl, hb, hgg, hle, _⟩
  · exact .inl ⟨List.eq_nil_of_length_eq_zero hz, none, 0, rfl⟩
  · refine .inr ⟨g, cap, ⟨hb, h0 g rfl, (World.ownsRow.lt h1 g rfl).2⟩, rfl, hle, fun i x hi => ?_⟩
    obtain ⟨xs, a, b, hx⟩ := h2 i x hi
    refine ⟨xs, a, fun j u hu => ?_, D.mono hx (fun k hk h => ⟨h.1, h.2.1, hk⟩)⟩
    have := World.ownsRow.cells (g := g) h1 rfl (i * size + j) u (b j u hu)
    rw [plain_add] at this
    rw [Nat.zero_add]
    exact this

theorem first_one {P : Program} {w : World} {g : Nat} {news : List Value} {t : TypeId} {fr : Nat × Nat} (c size : Nat) (hn : news.length = size) (h : w.heap[g]? = some (.cells news.toArray t fr)) :
    (Builtin.firstCells size 1 (.slice (some ⟨g, 0, none⟩) 1 c)).run P w = .ok news.toArray w := by
  have := run_firstCells_some (P := P) w size 1 ⟨g, 0, none⟩ 1 c news (by rw [hn, Nat.one_mul]) (by
    intro j v hj
    rw [plain_add, cell_of_row w g j _ t fr h]
    simpa using hj)
  simpa using this

/-- The append of one item as an operation of a region. -/
theorem opWp_push {P : Program} {o : Oper} {a : Act} {K : Act → World → Prop} {Q : Exit → Act → World → Prop} (s x : Operand) (t u : TypeId)
    (ho : o.op = .call { callee := .builtin .append, args := #[s, x], argTypes := #[t, u] })
    {z : Value} {bytes : Nat} (ht : P.underlying t = some (.slice e)) (hu : P.underlying u = some (.slice e))
    (hi : (P.info? e).map (fun i => (i.zero, i.size, i.bytes)) = some (some z, size, bytes)) (hzs : z.cells.size = size) (hsz : 0 < size)
    (hs : a.eval s = pv) (h : ItRow D e size B X w pv l) (gg : Nat) (hx : a.eval x = .slice (some ⟨gg, 0, none⟩) 1 1) {news : List Value} {tt : TypeId} {ff : Nat × Nat} (hgg : w.heap[gg]? = some (.cells news.toArray tt ff)) (hn : news.length = size) (h1 : ∀ u ∈ news, u.oneCell' = true)
    (hl : l.length ≤ 1000) (hb : bytes ≤ 1000) (hB : B ≤ w.heap.size) (hX : ∀ k, X k → k < w.heap.size) (y : α) (hy : D.sh (fun k => B ≤ k ∧ ¬ X k ∧ pv.ownBlock ≠ some k) w y news)
    (hK : ∀ v' w', ItRow D e size B X w' v' (l ++ [y]) → Fr (fun k => pv.ownBlock = some k) w w' → (v'.ownBlock = pv.ownBlock ∨ v'.ownBlock = some w.heap.size) → K (a.put o.dst v') w') : o.wp P a w K Q := by
  obtain ⟨i0, hi0, hz0, hz1, hz2⟩ := info_parts hi
  have hr := h
  obtain ⟨cs, hown, _⟩ := hr
  refine opWp_append (P := P) s x t u ho B e i0 z size bytes ht _ hu (.inr ⟨_, rfl⟩) hi0 hz0 hz1 hz2 hzs hsz pv l.length cs hs hown (.slice (some ⟨gg, 0, none⟩) 1 1) 1 news hx (lenOf_slice _ _ _) (by omega) (first_one 1 size hn hgg) (first_one 1 size hn hgg) h1 (by unfold maxLen; omega) ?_ hB ?_
  · have : (l.length + 1) * bytes ≤ 1001 * 1000 := Nat.mul_le_mul (by omega) hb
    omega
  · intro v' w' ho' hg hv
    exact hK v' w' (h.push hy hn hown ho' hg hv hX) ((Fr.of_grown hg).mono (fun _ _ e => e.symm)) hv

end

/-- A cell of a block is stored. -/
theorem setCell_row {w : World} {b : Nat} {cs : Array Value} {t : TypeId} {f : Nat × Nat} (i : Nat) (y : Value) (h : w.heap[b]? = some (.cells cs t f)) :
    (w.setCell ⟨b, i, none⟩ y).heap[b]? = some (.cells (cs.setIfInBounds i y) t f) := by
  unfold World.setCell
  simp only [Array.getElem?_modify, if_true, h, Option.map_some]
  simp

def tyShown : Shown KT where
  sh R w t xs := ∃ x0 x1 x2 x3, xs = [x0, x1, x2, x3] ∧ Shows R w t (.agg #[x0, x1, x2, x3])
  fr := by
    rintro R S w w' x xs ⟨x0, x1, x2, x3, rfl, h⟩ f hS
    exact ⟨x0, x1, x2, x3, rfl, Shows.fr f hS _ _ h⟩
  mono := by
    rintro R S w x xs ⟨x0, x1, x2, x3, rfl, h⟩ hS
    exact ⟨x0, x1, x2, x3, rfl, Shows.mono hS _ _ h⟩

def txShown : Shown Txt where
  sh _ _ t xs := xs = [sv t]
  fr := fun h _ _ => h
  mono := fun h _ => h

/-- A row of texts. -/
theorem ItRow.texts {B : Nat} {X : Nat → Prop} {w : World} {pv : Value} {l : List Txt} (h : ItRow txShown 9 1 B X w pv l) (h1 : l.length ≤ 1000) (h2 : ∀ s ∈ l, s.length ≤ 1000) : Texts (fun k => B ≤ k ∧ ¬ X k ∧ k < w.heap.size) w l pv := by
  refine ⟨h1, h2, ?_⟩
  rcases h.cells with ⟨h3, a, c, h4⟩ | ⟨g, cap, hg, rfl, hle, hc⟩
  · exact .inl ⟨h3, a, c, h4⟩
  · refine .inr ⟨g, 0, cap, hg, rfl, hle, fun j s hj => ?_⟩
    obtain ⟨xs, _, hc, rfl⟩ := hc j s hj
    have := hc 0 _ rfl
    simpa using this

/-- A row of types as a type's parts. -/
theorem ItRow.parts {B : Nat} {X : Nat → Prop} {w : World} {pv vn : Value} {ts : List KT} {k n : Nat} {m : Int} {ns : List Txt} (h : ItRow tyShown 32 4 B X w pv ts) (hn : ts.length = n) (hk : k ≤ 255) (hn1 : n ≤ 1000) (ht : Texts (fun k => B ≤ k) w ns vn) (of : Nat → KT) (hof : ∀ i x, ts[i]? = some x → of i = x) :
    Shows (fun k => B ≤ k) w (.mk k m ns n of) (.agg #[.int .u8 k, .int .i64 m, vn, pv]) := by
  subst hn
  refine ⟨vn, pv, rfl, hk, hn1, ht, ?_⟩
  rcases h.cells with ⟨rfl, a, c, h4⟩ | ⟨g, cap, hg, rfl, hle, hc⟩
  · exact .inl ⟨rfl, a, c, h4⟩
  · refine .inr ⟨g, 0, cap, hg.1, rfl, hle, fun i hi => ?_⟩
    obtain ⟨xs, _, hc, x0, x1, x2, x3, rfl, hx⟩ := hc i ts[i] (List.getElem?_eq_getElem hi)
    refine ⟨x0, x1, x2, x3, hc 0 _ rfl, hc 1 _ rfl, hc 2 _ rfl, hc 3 _ rfl, ?_⟩
    rw [hof i _ (List.getElem?_eq_getElem hi)]
    exact Shows.mono (fun k _ h => h.1) _ _ hx

end Go.Proofs.Ythokfmmbiilllaa

/-
  The laws' nodes made types: a sequence, a reference.
-/
namespace Go.Proofs.Ythokfmmbiilllaa
open Go.RowKit
set_option linter.unusedSimpArgs false
set_option linter.unusedVariables false

/-- What the function keeps in blocks of its own: the node, how deep, what is known, the result. -/
def Boxes (w : World) (nv : Array Value) (dz : Int) (kv : Value) (wx : World) : Prop :=
  Fr (fun _ => False) w wx ∧ wx.heap[w.heap.size]? = some (.cells nv 24 (0, 0)) ∧ wx.heap[w.heap.size + 1]? = some (.cells #[.int .i64 dz] 3 (0, 0)) ∧ wx.heap[w.heap.size + 1 + 1]? = some (.cells #[kv] 29 (0, 0)) ∧
  wx.heap[w.heap.size + 1 + 1 + 1]? = some (.cells #[.int .u8 0, .int .i64 0, .slice none 0 0, .slice none 0 0] 32 (0, 0))

theorem Boxes.fr {w wx wy : World} {nv : Array Value} {dz : Int} {kv : Value} {S : Nat → Prop} (h : Boxes w nv dz kv wx) (f : Fr S wx wy) (hS : ∀ k, S k → w.heap.size + 1 + 1 + 1 < k) : Boxes w nv dz kv wy := by
  obtain ⟨h0, h1, h2, h3, h4⟩ := h
  exact ⟨h0.trans f (fun i hi s => by have := hS i s; omega), box_kept h1 f (fun s => by have := hS _ s; omega), box_kept h2 f (fun s => by have := hS _ s; omega), box_kept h3 f (fun s => by have := hS _ s; omega), box_kept h4 f (fun s => by have := hS _ s; omega)⟩

theorem Boxes.drew {w wx : World} {nv : Array Value} {dz : Int} {kv : Value} (h : Boxes w nv dz kv wx) : Boxes w nv dz kv wx.drew := ⟨h.1.drew, h.2⟩

theorem boxes_new (w : World) (nv : Array Value) (dz : Int) (kv : Value) (y : Array Value) :
    Boxes w nv dz kv (((((w.alloc (.cells nv 24)).alloc (.cells #[.int .i64 dz] 3)).alloc (.cells #[kv] 29)).alloc (.cells #[.int .u8 0, .int .i64 0, .slice none 0 0, .slice none 0 0] 32)).alloc (.cells y 32)) ∧
    (((((w.alloc (.cells nv 24)).alloc (.cells #[.int .i64 dz] 3)).alloc (.cells #[kv] 29)).alloc (.cells #[.int .u8 0, .int .i64 0, .slice none 0 0, .slice none 0 0] 32)).alloc (.cells y 32)).heap[w.heap.size + 1 + 1 + 1 + 1]? = some (.cells y 32 (0, 0)) := by
  refine ⟨⟨(((((Fr.refl _ _).alloc _).alloc _).alloc _).alloc _).alloc _, ?_, ?_, ?_, heap_alloc_4 _ _ _ _ _ _⟩, ?_⟩
  · rw [Below.heap_alloc _ _ _ (by simp <;> omega), Below.heap_alloc _ _ _ (by simp <;> omega), Below.heap_alloc _ _ _ (by simp <;> omega), Below.heap_alloc _ _ _ (by simp)]
    exact heap_alloc_new _ _
  · rw [Below.heap_alloc _ _ _ (by simp <;> omega), Below.heap_alloc _ _ _ (by simp <;> omega), Below.heap_alloc _ _ _ (by simp)]
    exact heap_alloc_two _ _ _
  · rw [Below.heap_alloc _ _ _ (by simp <;> omega), Below.heap_alloc _ _ _ (by simp)]
    have := heap_alloc_new ((w.alloc (.cells nv 24)).alloc (.cells #[.int .i64 dz] 3)) (.cells #[kv] 29)
    simpa using this
  · have := heap_alloc_new ((((w.alloc (.cells nv 24)).alloc (.cells #[.int .i64 dz] 3)).alloc (.cells #[kv] 29)).alloc (.cells #[.int .u8 0, .int .i64 0, .slice none 0 0, .slice none 0 0] 32)) (.cells y 32)
    simpa using this

/-- One type in a new block of its own. -/
def One (B : Nat) (T : KT) (u : Value) (wx : World) : Prop := ∃ gl y0 y1 y2 y3, u = .slice (some ⟨gl, 0, none⟩) 1 1 ∧ B ≤ gl ∧ wx.heap[gl]? = some (.cells #[y0, y1, y2, y3] 32 (0, 0)) ∧ Shows (fun k => B ≤ k) wx T (.agg #[y0, y1, y2, y3])

theorem One.fr {B : Nat} {T : KT} {u : Value} {wx wy : World} {S : Nat → Prop} (h : One B T u wx) (f : Fr S wx wy) (hS : ∀ k, B ≤ k → ¬ S k) : One B T u wy := by
  obtain ⟨gl, y0, y1, y2, y3, rfl, h1, h2, h3⟩ := h
  exact ⟨gl, y0, y1, y2, y3, rfl, h1, box_kept h2 f (hS _ h1), Shows.fr f hS _ _ h3⟩

theorem mode_gc : (Region.Mode.any == Region.Mode.gc) = false := rfl

/-- The local type: its number and its parts are still to come, or are there. -/
def Loc (b : Nat) (wx : World) : Prop := ∃ x y, wx.heap[b]? = some (.cells #[.int .u8 5, x, .slice none 0 0, y] 32 (0, 0))

def LocLe (b : Nat) (a c : World) : Prop := Fr (fun k => k = b) a c ∧ (Loc b a → Loc b c)

theorem LocLe.refl (b : Nat) (a : World) : LocLe b a a := ⟨Fr.refl _ _, fun h => h⟩

theorem LocLe.of_fr {b : Nat} {a c : World} (f : Fr (fun _ => False) a c) : LocLe b a c := ⟨f.mono (fun _ _ h => absurd h (fun h => h)), fun ⟨x, y, h⟩ => ⟨x, y, box_kept h f (fun h => h)⟩⟩

set_option maxRecDepth 100000 in
set_option maxHeartbeats 16000000 in
theorem type_seq (known : List Txt) (kd n c : Nat) (of : Nat → KN) (d : Nat) (ih : ∀ i, TypeAt known (of i)) (hd2 : 2 ≤ d) (hkk : kd % 10 = 5) : TypeOne known (.mk kd n c of) d := by
  intro R v vk w dz hdz hd1 hd hsh hk
  have hsh0 := hsh
  obtain ⟨vo, rfl, hkd, hn, hc, ho⟩ := hsh
  obtain ⟨oa, on, oc, rfl⟩ : ∃ oa on oc, vo = .slice oa on oc := by
    rcases ho with ⟨_, aa, cap, rfl⟩ | ⟨g, off, cap, rfl, _⟩
    · exact ⟨aa, 0, cap, rfl⟩
    · exact ⟨_, c, cap, rfl⟩
  obtain ⟨ka, kc, rfl, hks⟩ := hk.shape
  have hl1 := hk.1
  have h10 : (kd : Int) % 10 = 5 := by omega
  have n0 : (0 : Int) ≤ (n : Int) := by omega
  have n1 : (n : Int) ≤ 255 := by omega
  have HSUB := Lib.hid (fun (wx : World) (hb : Boxes w #[.int .u8 kd, .int .u8 n, .slice oa on oc] dz (.slice ka known.length kc) wx) (i : Nat) (hi : i ≤ 100) => sub_any known kd n c of ih R (.slice oa on oc) (.slice ka known.length kc) wx d dz w.heap.size (w.heap.size + 1) (w.heap.size + 1 + 1) i hi hdz hd2 hd hb.2.1 hb.2.2.1 hb.2.2.2.1 (NShows.fr hb.1 _ _ hsh0) (hk.fr hb.1 (fun _ _ h => h)))
  have z1 : ¬ dz ≤ 1 := by omega
  obtain ⟨q, hq⟩ : ∃ q : Int, (n : Int) % 60 = q := ⟨_, rfl⟩
  have q0 : 0 ≤ q := by omega
  have q1 : q ≤ 59 := by omega
  have g1 : IntKind.i64.wrap q = q := IntWalk.i64_in _ (by omega)
  have g2 : wrap64 q = q := IntWalk.wrap64_in _ (by omega)
  have g3 : IntKind.i64.wrap (1 + q) = 1 + q := IntWalk.i64_in _ (by omega)
  have g4 : wrap64 (1 + q) = 1 + q := IntWalk.wrap64_in _ (by omega)
  have g5 : q % 256 = q := by omega
  have g6 : Int.tmod (n : Int) 60 = q := by rw [Int.tmod_eq_emod_of_nonneg n0]; exact hq
  have HT : Hid (typeE known (.mk kd n c of) d = .mk 5 (1 + q) [] 1 (fun _ => subE known c of d 0)) := Lib.hid (by
    rw [typeE_mk]
    have e : kindE kd d known = 5 := by unfold kindE; rw [hkk]; simp; omega
    rw [e, ← hq]
    rfl)
  clear ho hk hks hkk hdz hsh0 hd1 hd hd2 ih
  go_enter Try.func16, Try.ntmps16
  go_wp2_with fail
  obtain ⟨hB, hL⟩ := boxes_new w #[.int .u8 kd, .int .u8 n, .slice oa on oc] dz (.slice ka known.length kc) #[.int .u8 5, .int .i64 0, .slice none 0 0, .slice none 0 0]
  obtain ⟨w5, hw5⟩ : ∃ w5, w5 = (((((w.alloc (.cells #[.int .u8 kd, .int .u8 n, .slice oa on oc] 24)).alloc (.cells #[.int .i64 dz] 3)).alloc (.cells #[(.slice ka known.length kc)] 29)).alloc (.cells #[.int .u8 0, .int .i64 0, .slice none 0 0, .slice none 0 0] 32)).alloc (.cells #[.int .u8 5, .int .i64 0, .slice none 0 0, .slice none 0 0] 32)) := ⟨_, rfl⟩
  rw [← hw5] at hB hL ⊢
  have HB := Lib.hid (And.intro hB hL)
  clear hB hL hw5
  obtain ⟨b4, hb4⟩ : ∃ b4, b4 = w.heap.size + 1 + 1 + 1 + 1 := ⟨_, rfl⟩
  rw [← hb4] at HB ⊢
  have HB4 := Lib.hid hb4
  clear hb4
  have HQ := Lib.hid (fun (wx : World) (h : LocLe b4 w5.drew wx) => And.intro (HB.out.1.drew.fr h.1 (fun k hk => by have := HB4.out; omega)) (h.2 ⟨_, _, HB.out.2⟩))
  refine wp_region_toldU (by kernel_rfl) (fun a b => LocLe b4 a b) (LocLe.refl b4) (fun a b c h k => ⟨h.1.trans k.1 (fun _ _ h => h), fun s => k.2 (h.2 s)⟩)
    [some 51, some 52, some 53, some 54, some 55, some 56, some 57, some 58, some 59, none, some 60, none] rfl (by decide) (by intro d hd; simp at hd ⊢; omega)
    (fun _ _ => True)
    (fun i v wx => ([fun v _ => v = .pointer (some ⟨w.heap.size, 1, none⟩), fun v _ => v = .int .u8 n, fun v _ => v = .int .u8 (q), fun v _ => v = .int .i64 (q), fun v _ => v = (.int .i64 (1 + q)),
      fun v _ => v = .func (.func 25) #[] #[.pointer (some ⟨w.heap.size, 0, none⟩), .pointer (some ⟨w.heap.size + 1, 0, none⟩), .pointer (some ⟨w.heap.size + 1 + 1, 0, none⟩)],
      fun v wx => Shows (fun k => b4 + 1 ≤ k) wx (subE known c of d 0) v, fun v wx => One (b4 + 1) (subE known c of d 0) v wx, fun v _ => v = .pointer (some ⟨b4, 1, none⟩),
      fun _ wx => ∃ y, wx.heap[b4]? = some (.cells #[.int .u8 5, .int .i64 (1 + q), .slice none 0 0, y] 32 (0, 0)), fun v _ => v = .pointer (some ⟨b4, 3, none⟩),
      fun _ wx => ∃ x u, wx.heap[b4]? = some (.cells #[.int .u8 5, x, .slice none 0 0, u] 32 (0, 0)) ∧ One (b4 + 1) (subE known c of d 0) u wx] : List (Value → World → Prop)).getD i (fun _ _ => True) v wx)
    (by kernel_rfl) ?u0 ?step ?fin
  case u0 => exact fun _ _ => trivial
  case step =>
    intro vals
    simp only [frOfU, fillU, List.setIfInBounds_toArray, List.set_cons_succ, List.set_cons_zero]
    repeat' (first | exact AllOps.nil | refine AllOps.cons ?_ ?_)
    all_goals
      intro wx hle he hu hw K hK
      clear hu hw
      simp only [Act.put, List.setIfInBounds_toArray, List.set_cons_succ, List.set_cons_zero, List.getD_cons_zero, List.getD_cons_succ] at hK
      simp only [List.mem_cons, List.not_mem_nil, or_false, forall_eq_or_imp, forall_eq, Region.binds, forall_const, mode_gc, Bool.false_eq_true, false_imp_iff, true_and, and_true, List.getD_cons_zero, List.getD_cons_succ] at he
      obtain ⟨hbx, hloc⟩ := HQ.out wx hle
      have r1 := cells_row hbx.2.1 1 _ rfl
      simp only [List.getElem_toArray, List.getElem_cons_succ, List.getElem_cons_zero] at r1
      obtain ⟨lx, ly, hl⟩ := hloc
      have HX := Lib.hid (And.intro hbx hl)
      have z1' : wx.frozen? ⟨b4, 1, none⟩ = false := by simp [World.frozen?, hl]
      have z3' : wx.frozen? ⟨b4, 3, none⟩ = false := by simp [World.frozen?, hl]
      obtain ⟨e0, e1, e2, e3⟩ := cell_of_four hl
      clear hle hbx hl
    all_goals first | ((try simp only [he] at hK ⊢); go_simp; exact hK _ _ (LocLe.refl _ _) rfl (fun _ _ h => h) (fun _ _ _ h => h)) | skip
    · simp only [he] at hK ⊢
      go_simp
      go_at_call 25
      refine (HSUB.out wx HX.out.1 0 (by omega)).mono ?_
      rintro q1 wa ⟨v', rfl, hsv, fa⟩
      have fb : Fr (fun _ => False) wx wa := fa
      refine hK _ _ (LocLe.of_fr fb) (Shows.mono (fun k _ hk => ?_) _ _ hsv) (fun _ _ h => h) (fun j u _ => pres_list ?_ j u)
      · have := lt_of_block HX.out.2
        omega
      · simp only [List.mem_cons, List.not_mem_nil, or_false, forall_eq_or_imp, forall_eq, imp_self, implies_true, true_and, and_true]
        refine ⟨fun u h => Shows.fr fb (fun _ _ h => h) _ _ h, fun u h => One.fr h fb (fun _ _ h => h), fun u h => ?_, fun u h => ?_⟩
        · obtain ⟨y, h⟩ := h
          exact ⟨y, box_kept h fb (fun h => h)⟩
        · obtain ⟨x, y, h, h'⟩ := h
          exact ⟨x, y, box_kept h fb (fun h => h), h'.fr fb (fun _ _ h => h)⟩
    · obtain ⟨tk, tm, ta, tn, tc, ta', tn', tc', e6⟩ := he.four
      rw [e6] at he
      simp only [e6] at hK ⊢
      go_simp
      have fb : Fr (fun _ => False) wx (wx.alloc (.cells #[.int .u8 tk, .int .i64 tm, .slice ta tn tc, .slice ta' tn' tc'] 32)) := (Fr.refl _ _).alloc _
      have hlb := lt_of_block HX.out.2
      refine hK _ _ (LocLe.of_fr fb) ⟨_, _, _, _, _, rfl, by omega, heap_alloc_new _ _, Shows.fr fb (fun _ _ h => h) _ _ he⟩ (fun _ _ h => h) (fun j u _ => pres_list ?_ j u)
      simp only [List.mem_cons, List.not_mem_nil, or_false, forall_eq_or_imp, forall_eq, imp_self, implies_true, true_and, and_true]
      refine ⟨fun u h => Shows.fr fb (fun _ _ h => h) _ _ h, fun u h => One.fr h fb (fun _ _ h => h), fun u h => ?_, fun u h => ?_⟩
      · obtain ⟨y, h⟩ := h
        exact ⟨y, box_kept h fb (fun h => h)⟩
      · obtain ⟨x, y, h, h'⟩ := h
        exact ⟨x, y, box_kept h fb (fun h => h), h'.fr fb (fun _ _ h => h)⟩
    · have h8 := he.1
      have h4 := he.2.1
      clear he
      simp only [h8, h4] at hK ⊢
      go_simp
      have f8 : Fr (fun k => k = b4) wx (wx.setCell ⟨b4, 1, none⟩ (.int .i64 (1 + q))) := Fr.set1 (Fr.refl _ _) 1 _
      have g8 := setCell_row 1 (.int .i64 (1 + q)) HX.out.2
      refine hK undef _ ⟨f8, fun _ => ⟨_, _, g8⟩⟩ ⟨_, g8⟩ (fun _ _ h => h) (fun j u _ => pres_list ?_ j u)
      simp only [List.mem_cons, List.not_mem_nil, or_false, forall_eq_or_imp, forall_eq, imp_self, implies_true, true_and, and_true]
      refine ⟨fun u h => Shows.fr f8 (fun k hk e => by omega) _ _ h, fun u h => One.fr h f8 (fun k hk e => by omega), fun u h => ⟨_, g8⟩, fun u h => ?_⟩
      obtain ⟨x, y, h, h'⟩ := h
      have := h.symm.trans HX.out.2
      simp at this
      obtain ⟨rfl, rfl⟩ := this
      exact ⟨_, _, g8, h'.fr f8 (fun k hk e => by omega)⟩
    · have h10 := he.1
      have h7 := he.2.1
      clear he
      obtain ⟨gl, y0, y1, y2, y3, e7, hgl, hgc, hgs⟩ := h7
      have HG := Lib.hid (And.intro hgl (And.intro hgc hgs))
      clear hgl hgc hgs
      simp only [h10, e7] at hK ⊢
      go_simp
      have f8 : Fr (fun k => k = b4) wx (wx.setCell ⟨b4, 3, none⟩ (.slice (some ⟨gl, 0, none⟩) 1 1)) := Fr.set1 (Fr.refl _ _) 3 _
      have g8 := setCell_row 3 (.slice (some ⟨gl, 0, none⟩) 1 1) HX.out.2
      have hone : One (b4 + 1) (subE known c of d 0) (.slice (some ⟨gl, 0, none⟩) 1 1) wx := ⟨gl, y0, y1, y2, y3, rfl, HG.out.1, HG.out.2.1, HG.out.2.2⟩
      refine hK undef _ ⟨f8, fun _ => ⟨_, _, g8⟩⟩ ⟨_, _, g8, hone.fr f8 (fun k hk e => by omega)⟩ (fun _ _ h => h) (fun j u _ => pres_list ?_ j u)
      simp only [List.mem_cons, List.not_mem_nil, or_false, forall_eq_or_imp, forall_eq, imp_self, implies_true, true_and, and_true]
      refine ⟨fun u h => Shows.fr f8 (fun k hk e => by omega) _ _ h, fun u h => One.fr h f8 (fun k hk e => by omega), fun u h => ?_, fun u h => ?_⟩
      · obtain ⟨y, h⟩ := h
        have := h.symm.trans HX.out.2
        simp at this
        obtain ⟨rfl, rfl⟩ := this
        exact ⟨_, g8⟩
      · exact ⟨_, _, g8, hone.fr f8 (fun k hk e => by omega)⟩
  case fin =>
    intro vals w' hle hV
    obtain ⟨y, h9⟩ := hV 9 (by decide)
    obtain ⟨x, u, h11, hone⟩ := hV 11 (by decide)
    have := h9.symm.trans h11
    simp at this
    obtain ⟨rfl, rfl⟩ := this
    clear hV h9
    have HF := Lib.hid (And.intro (HQ.out w' hle).1 (And.intro h11 hone))
    obtain ⟨gl, y0, y1, y2, y3, rfl, hgl, hgc, hgs⟩ := hone
    obtain ⟨e0, e1, e2, e3⟩ := cell_of_four h11
    have q3 := HF.out.1.2.2.2.2
    have z0 : w'.frozen? ⟨w.heap.size + 1 + 1 + 1, 0, none⟩ = false := by simp [World.frozen?, q3]
    have z1' : w'.frozen? ⟨w.heap.size + 1 + 1 + 1, 1, none⟩ = false := by simp [World.frozen?, q3]
    have z2' : w'.frozen? ⟨w.heap.size + 1 + 1 + 1, 2, none⟩ = false := by simp [World.frozen?, q3]
    have z3' : w'.frozen? ⟨w.heap.size + 1 + 1 + 1, 3, none⟩ = false := by simp [World.frozen?, q3]
    obtain ⟨i0, i1, i2, i3⟩ := cell_of_four q3
    have HG := Lib.hid (And.intro hgl (And.intro hgc hgs))
    clear hgl hgc hgs hle h11 q3
    simp only [frOfU, fillU, List.setIfInBounds_toArray, List.set_cons_succ, List.set_cons_zero]
    go_wp2
    refine bodyPost_ret (results_cell_row rfl _ _ (w.heap.size + 1 + 1 + 1) 32 _ _ _ rfl (store_four HF.out.1.2.2.2.2) Try.underlying32 rfl (by kernel_rfl)) rfl ?_
    rw [HT.out]
    have hb4 := HB4.out
    refine ⟨_, rfl, ?_, fr_four _ _ _ _ HF.out.1.1 (fun h => by omega)⟩
    refine Shows.mono (fun k _ (h : b4 + 1 ≤ k) => (by omega : w.heap.size ≤ k)) _ _ (Shows.fr (S := fun k => k = w.heap.size + 1 + 1 + 1) (fr_four (w := w') _ _ _ _ (Fr.refl _ _) (fun _ => rfl)) (fun k (hk : b4 + 1 ≤ k) e => by omega) _ _ ?_)
    refine ⟨_, _, rfl, by omega, by omega, texts_none _ _ _ _, .inr ⟨gl, 0, 1, HG.out.1, rfl, Nat.le_refl _, fun i hi => ?_⟩⟩
    obtain rfl : i = 0 := by omega
    obtain ⟨c0, c1, c2, c3⟩ := cell_of_four HG.out.2.1
    exact ⟨y0, y1, y2, y3, by simpa using c0, by simpa using c1, by simpa using c2, by simpa using c3, HG.out.2.2⟩

end Go.Proofs.Ythokfmmbiilllaa
