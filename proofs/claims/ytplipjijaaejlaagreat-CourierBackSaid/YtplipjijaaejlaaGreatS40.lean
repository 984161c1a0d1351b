/-
  CouBack, part 40 of what it rests on: ValTurn.
-/
import Derived.Test.YtplipjijaaejlaaGreatS39
import Derived.Test.YtplipjijaaejlaaGreatS05
set_option linter.unusedVariables false
set_option linter.unusedSimpArgs false
set_option maxHeartbeats 64000000
namespace Go.Proofs.YtplipjijaaejlaaGreat
open Go.RowKit
open Go.Lib (hid)
section
attribute [local go_sem] run_store_float

/-- The part itself, turned. -/
def leafE (wh : Nat) (x : Int) (f : Nat) (s : Txt) : VT → VT
  | .nil => .nil
  | .mk N F S c ov =>
    if wh % 5 = 0 then .mk x F S c ov
    else if wh % 5 = 1 then .mk N f S c ov
    else if wh % 5 = 2 then .mk N F s c ov
    else if wh % 5 = 3 then .mk N F S (c + 1) (fun i => if i < c then ov i else vnum x)
    else .mk N F S (c / 2) ov

/-- A VALUE, ONE OF ITS PARTS TURNED. -/
def turnE (wh : Nat) (x : Int) (f : Nat) (s : Txt) : VT → List UInt8 → VT
  | .nil, _ => .nil
  | .mk N F S c ov, path =>
    if path = [] ∨ c = 0 then leafE wh x f s (.mk N F S c ov)
    else .mk N F S c (fun i => if i = (path.getD 0 0).toNat % c then turnE wh x f s (ov i) path.tail else ov i)

def TurnAt (wh : Nat) (T : VT) : Prop := ∀ (R : Nat → Prop) (v pv : Value) (w : World) (path : List UInt8) (x : Int) (f : Nat) (s : Txt), VShows R w T v → Sees w pv path → path.length ≤ 1000 →
  -9223372036854775808 ≤ x → x ≤ 9223372036854775807 → f < 18446744073709551616 → s.length ≤ maxLen → szV T ≤ 50000 →
  Calls Tryz.prog 8 #[v, pv, .int .u8 (wh : Nat), .int .i64 x, .float .f64 f, sv s] w fun e w' => ∃ v', e = .returned v' ∧ VShows (fun k => R k ∨ w.heap.size ≤ k) w' (turnE wh x f s T path) v' ∧ Fr (fun _ => False) w w'

/-- All but the first byte. -/
theorem Sees.tail {w : World} {pg po pc : Nat} {p : UInt8} {rest : List UInt8} {pv' : Value} (h : Sees w (.slice (some ⟨pg, po, none⟩) (rest.length + 1) pc) (p :: rest))
    (h1 : pc = 1 → pv' = .slice (some ⟨pg, po, none⟩) rest.length 0) (h2 : pc ≠ 1 → pv' = .slice (some ⟨pg, po + 1, none⟩) rest.length (pc - 1)) : Sees w pv' rest := by
  rcases h with ⟨h, _⟩ | ⟨g, off, cap, e, hle, hc⟩
  · cases h
  · cases e
    by_cases hp : pc = 1
    · rw [h1 hp]
      have hr : rest = [] := List.eq_nil_of_length_eq_zero (by simp at hle; omega)
      subst hr
      exact .inl ⟨rfl, _, _, rfl⟩
    · rw [h2 hp]
      refine .inr ⟨pg, po + 1, pc - 1, rfl, by simp at hle; omega, fun j hj => ?_⟩
      have := hc (j + 1) (by simp; omega)
      rw [show po + (j + 1) = po + 1 + j by omega] at this
      simpa using this

/-- A struct of four cells is stored into a row. -/
theorem store_at {w : World} {b : Nat} {cur : Array Value} {t : TypeId} (i : Nat) (y0 y1 y2 y3 : Value) (h : w.heap[b]? = some (.cells cur t (0, 0))) :
    ((((w.setCell ⟨b, i, none⟩ y0).setCell ⟨b, i + 1, none⟩ y1).setCell ⟨b, i + 2, none⟩ y2).setCell ⟨b, i + 3, none⟩ y3).heap[b]? = some (.cells ((((cur.setIfInBounds i y0).setIfInBounds (i + 1) y1).setIfInBounds (i + 2) y2).setIfInBounds (i + 3) y3) t (0, 0)) :=
  setCell_row _ _ (setCell_row _ _ (setCell_row _ _ (setCell_row _ _ h)))

theorem set_at (cur : Array Value) (i : Nat) (y0 y1 y2 y3 : Value) (hi : i + 3 < cur.size) :
    ((((cur.setIfInBounds i y0).setIfInBounds (i + 1) y1).setIfInBounds (i + 2) y2).setIfInBounds (i + 3) y3)[i]? = some y0 ∧
    ((((cur.setIfInBounds i y0).setIfInBounds (i + 1) y1).setIfInBounds (i + 2) y2).setIfInBounds (i + 3) y3)[i + 1]? = some y1 ∧
    ((((cur.setIfInBounds i y0).setIfInBounds (i + 1) y1).setIfInBounds (i + 2) y2).setIfInBounds (i + 3) y3)[i + 2]? = some y2 ∧
    ((((cur.setIfInBounds i y0).setIfInBounds (i + 1) y1).setIfInBounds (i + 2) y2).setIfInBounds (i + 3) y3)[i + 3]? = some y3 ∧
    ∀ j, j < i ∨ i + 3 < j → ((((cur.setIfInBounds i y0).setIfInBounds (i + 1) y1).setIfInBounds (i + 2) y2).setIfInBounds (i + 3) y3)[j]? = cur[j]? := by
  refine ⟨?_, ?_, ?_, ?_, fun j hj => ?_⟩
  · rw [Array.getElem?_setIfInBounds_ne (by omega), Array.getElem?_setIfInBounds_ne (by omega), Array.getElem?_setIfInBounds_ne (by omega), Array.getElem?_setIfInBounds_self, if_pos (by omega)]
  · rw [Array.getElem?_setIfInBounds_ne (by omega), Array.getElem?_setIfInBounds_ne (by omega), Array.getElem?_setIfInBounds_self, if_pos (by simp; omega)]
  · rw [Array.getElem?_setIfInBounds_ne (by omega), Array.getElem?_setIfInBounds_self, if_pos (by simp; omega)]
  · rw [Array.getElem?_setIfInBounds_self, if_pos (by simp; omega)]
  · rw [Array.getElem?_setIfInBounds_ne (by omega), Array.getElem?_setIfInBounds_ne (by omega), Array.getElem?_setIfInBounds_ne (by omega), Array.getElem?_setIfInBounds_ne (by omega)]

theorem VKids.items {R : Nat → Prop} {w : World} {ov : Nat → VT} {a : Option Addr} {c cap : Nat} (h : VKids R w ov a c cap) :
    (((List.range c).map ov) = [] ∧ ∃ a' c', (Value.slice a c cap) = .slice a' 0 c') ∨ ∃ g off cap', R g ∧ (Value.slice a c cap) = .slice (some ⟨g, off, none⟩) ((List.range c).map ov).length cap' ∧ ∀ (i : Nat) (x : VT), ((List.range c).map ov)[i]? = some x → ∃ xs : List Value, xs.length = 4 ∧ (∀ (j : Nat) (u : Value), xs[j]? = some u → w.cell? ⟨g, off + i * 4 + j, none⟩ = some u) ∧ vShown.sh R w x xs := by
  rcases h with rfl | ⟨hle, g, off, hg, rfl, hc⟩
  · exact .inl ⟨rfl, _, _, rfl⟩
  · refine .inr ⟨g, off, cap, hg, by simp, fun i x hx => ?_⟩
    have hi := (List.getElem?_eq_some_iff.1 hx).1
    simp only [List.length_map, List.length_range] at hi
    rw [List.getElem?_map, List.getElem?_range hi] at hx
    cases hx
    obtain ⟨x0, x1, x2, x3, c0, c1, c2, c3, hs⟩ := hc i hi
    refine ⟨[x0, x1, x2, x3], rfl, fun j u hu => ?_, x0, x1, x2, x3, rfl, hs⟩
    have hj := (List.getElem?_eq_some_iff.1 hu).1
    simp at hj
    rcases (by omega : j = 0 ∨ j = 1 ∨ j = 2 ∨ j = 3) with rfl | rfl | rfl | rfl <;> simp at hu <;> subst hu <;> assumption

theorem vShown_one {R : Nat → Prop} {w : World} (x : VT) (xs : List Value) (h : vShown.sh R w x xs) : ∀ u ∈ xs, u.oneCell' = true := by
  obtain ⟨x0, x1, x2, x3, rfl, h⟩ := h
  exact vshows_one h

/-- What the way down keeps: ahead of the call, behind it, behind the store. -/
def DownS (w7 : World) (R : Nat → Prop) (B og : Nat) (cur : Array Value) (q : Nat) (T : VT) : List Value → World → Prop
  | [], wx => Fr (fun _ => False) w7 wx
  | [v], wx => Fr (fun _ => False) w7 wx ∧ VShows (fun k => (R k ∧ k < B) ∨ w7.heap.size ≤ k) wx T v
  | _ :: _ :: _, wx => Fr (fun k => k = og) w7 wx ∧ ∃ y0 y1 y2 y3, VShows (fun k => (R k ∧ k < B) ∨ w7.heap.size ≤ k) wx T (.agg #[y0, y1, y2, y3]) ∧
      wx.heap[og]? = some (.cells ((((cur.setIfInBounds (q * 4) y0).setIfInBounds (q * 4 + 1) y1).setIfInBounds (q * 4 + 2) y2).setIfInBounds (q * 4 + 3) y3) 39 (0, 0))

theorem DownS.f {w7 : World} {R : Nat → Prop} {B og : Nat} {cur : Array Value} {q : Nat} {T : VT} {cvs : List Value} {wx : World} (h : DownS w7 R B og cur q T cvs wx) : Fr (fun k => k = og) w7 wx := by
  match cvs with
  | [] => exact h.mono (fun _ _ h => h.elim)
  | [_] => exact h.1.mono (fun _ _ h => h.elim)
  | _ :: _ :: _ => exact h.1

set_option maxRecDepth 100000 in
theorem turn_in (wh : Nat) (N : Int) (F : Nat) (S : Txt) (c : Nat) (ov : Nat → VT) (ih : ∀ i, TurnAt wh (ov i)) (hc0 : 0 < c) (hwh : wh ≤ 255) (R : Nat → Prop) (v pv : Value) (w : World) (p : UInt8) (rest : List UInt8) (x : Int) (f : Nat) (s : Txt) (hvs : VShows R w (.mk N F S c ov) v) (hpv : Sees w pv (p :: rest)) (hpl : (p :: rest).length ≤ 1000)
    (hx0 : -9223372036854775808 ≤ x) (hx1 : x ≤ 9223372036854775807) (hf : f < 18446744073709551616) (hsl : s.length ≤ maxLen) (hsz : szV (.mk N F S c ov) ≤ 50000) :
    Calls Tryz.prog 8 #[v, pv, .int .u8 (wh : Nat), .int .i64 x, .float .f64 f, sv s] w fun e w' => ∃ v', e = .returned v' ∧ VShows (fun k => R k ∨ w.heap.size ≤ k) w' (turnE wh x f s (.mk N F S c ov) (p :: rest)) v' ∧ Fr (fun _ => False) w w' := by
  have HVS := Lib.hid (VShows.mono (S := fun k => R k ∧ k < w.heap.size) (fun k hk h => ⟨h, hk⟩) _ _ hvs)
  obtain ⟨_, _, _, _, _, va, cap, e1, rfl, hVB, hVK⟩ := vshows_open HVS.out
  cases e1
  rcases hVK with hz | ⟨hle, g, off, hg, rfl, hcell⟩
  · omega
  obtain ⟨pg, po, pc, rfl, hpc⟩ : ∃ pg po pc, pv = .slice (some ⟨pg, po, none⟩) (rest.length + 1) pc ∧ rest.length + 1 ≤ pc := by
    rcases hpv with ⟨h, _⟩ | ⟨g', off', cap', e, hle', _⟩
    · cases h
    · exact ⟨g', off', cap', e, hle'⟩
  have hp0 : w.cell? ⟨pg, po, none⟩ = some (.int .u8 p.toNat) := by
    rcases hpv with ⟨h, _⟩ | ⟨g', off', cap', e, _, hc'⟩
    · cases h
    · cases e
      exact hc' 0 (by simp)
  obtain ⟨pl, hpl'⟩ : ∃ pl, rest.length + 1 = pl := ⟨_, rfl⟩
  obtain ⟨pv', hpv1, hpv2⟩ : ∃ pv' : Value, (pc = 1 → pv' = .slice (some ⟨pg, po, none⟩) rest.length 0) ∧ (pc ≠ 1 → pv' = .slice (some ⟨pg, po + 1, none⟩) rest.length (pc - 1)) := by
    by_cases h : pc = 1
    · exact ⟨_, fun _ => rfl, fun h' => absurd h h'⟩
    · exact ⟨_, fun h' => absurd h' h, fun _ => rfl⟩
  have HTL := Lib.hid (Sees.tail hpv hpv1 hpv2)
  rw [show rest.length = pl - 1 by omega] at hpv1 hpv2
  have HPV := Lib.hid (And.intro hpv1 hpv2)
  have hpl0 : 1 ≤ pl := by omega
  have hpl1 : pl ≤ 1000 := by simp at hpl; omega
  have hpl2 : pl ≤ pc := by omega
  rw [hpl']
  have HPL := Lib.hid hpl'
  obtain ⟨a0, cs0, cells, ecs, hcl, hone, hfirst, hit⟩ := items_first vShown (by decide) ((List.range c).map ov) _ (VKids.items (.inr ⟨hle, g, off, hg, rfl, hcell⟩ : VKids (fun k => R k ∧ k < w.heap.size) w ov (some ⟨g, off, none⟩) c cap)) (fun x xs h => vShown_one x xs h)
  simp only [List.length_map, List.length_range] at ecs hcl hfirst
  cases ecs
  have hc5 : c ≤ 50000 := by
    have h := hsz
    rw [szV] at h
    have hall : ∀ j, j ≤ ((List.range j).map fun i => szV (ov i)).sum := fun j => by
      induction j with
      | zero => simp
      | succ j ih => rw [List.range_succ, List.map_append, List.sum_append]; have := szV_pos (ov j); simp; omega
    have := hall c
    omega
  have HCL := Lib.hid (And.intro hcl (And.intro hone (And.intro hfirst hit)))
  have HB := Lib.hid hVB
  have HXF := Lib.hid (And.intro hx0 (And.intro hx1 (And.intro hf hsl)))
  obtain ⟨q, hq⟩ : ∃ q, p.toNat % c = q := ⟨_, rfl⟩
  have hqc : q < c := by rw [← hq]; exact Nat.mod_lt _ hc0
  obtain ⟨x0, x1, x2, x3, y0, y1, y2, y3, hxs⟩ := hcell q hqc
  obtain ⟨zn, zf, zs, za, zc, zcap, es⟩ := hxs.lit
  simp only [Value.agg.injEq, Array.mk.injEq, List.cons.injEq, and_true] at es
  obtain ⟨rfl, rfl, rfl, rfl⟩ := es
  have HY := Lib.hid (And.intro hg (And.intro y0 (And.intro y1 (And.intro y2 y3))))
  have HXS := Lib.hid hxs
  have HP0 := Lib.hid hp0
  have hszq : szV (ov q) ≤ 50000 := by
    have h := hsz
    rw [szV] at h
    have h2 := sumTo_le (fun i => szV (ov i)) q c hqc
    unfold sumTo at h2
    omega
  have HSZQ := Lib.hid hszq
  have HT : Hid (turnE wh x f s (.mk N F S c ov) (p :: rest) = .mk N F S c (fun i => if i = q then turnE wh x f s (ov i) rest else ov i)) := Lib.hid (by
    rw [turnE, if_neg (by simp; omega)]
    simp only [List.getD_cons_zero, hq, List.tail_cons])
  have hpb : p.toNat ≤ 255 := by have := p.toNat_lt; omega
  obtain ⟨pn, hpn⟩ : ∃ pn, pn = p.toNat := ⟨_, rfl⟩
  rw [← hpn] at HP0 hpb hq
  have HQ := Lib.hid hq
  have HVK := Lib.hid hcell
  have hcz : ¬ c = 0 := by omega
  unfold sv
  clear hvs hpv hcell hle hVB hp0 hpl' hpv1 hpv2 hcl hone hfirst hit hxs y0 y1 y2 y3 hszq hsz hq hpl hpn hx0 hx1 hf hsl hg
  obtain ⟨w1, hw1⟩ : ∃ w1, w1 = (w.alloc (.cells #[.int .i64 N, .float .f64 F, .string ⟨S.toArray⟩, .slice (some ⟨g, off, none⟩) c cap] 39)).alloc (.cells #[.int .i64 0, .float .f64 0, .string ⟨#[]⟩, .slice none 0 0] 39) := ⟨_, rfl⟩
  have f1 : Fr (fun _ => False) w w1 := by rw [hw1]; exact ((Fr.refl _ _).alloc _).alloc _
  have q1 : w1.heap[w.heap.size]? = some (.cells #[.int .i64 N, .float .f64 F, .string ⟨S.toArray⟩, .slice (some ⟨g, off, none⟩) c cap] 39 (0, 0)) := by rw [hw1]; exact heap_alloc_first _ _ _
  have p1 : w1.heap[w.heap.size + 1]? = some (.cells #[.int .i64 0, .float .f64 0, .string ⟨#[]⟩, .slice none 0 0] 39 (0, 0)) := by rw [hw1]; exact heap_alloc_two _ _ _
  go_enter Tryz.func8, Tryz.ntmps8
  go_upto_region 1 with fail
  rw [← hw1]
  obtain ⟨rb, hrb⟩ : ∃ rb, w.heap.size + 1 = rb := ⟨_, rfl⟩
  rw [hrb] at p1 ⊢
  have HRB := Lib.hid hrb
  obtain ⟨c0, c1, c2, c3⟩ := cell_of_four q1
  have H1 := Lib.hid (And.intro f1 (And.intro q1 p1))
  have cpos : (0 : Int) < (c : Int) := by omega
  have plpos : (0 : Int) < (pl : Int) := by omega
  clear hw1 f1 q1 p1 hrb
  go_upto_region 3 with fail
  obtain ⟨w2, hw2⟩ : ∃ w2, w2 = w1.alloc (.cells #[.int .i64 N, .float .f64 F, .string ⟨S.toArray⟩, .slice (some ⟨g, off, none⟩) c cap] 39) := ⟨_, rfl⟩
  rw [← hw2]
  have f2 : Fr (fun _ => False) w1 w2 := by rw [hw2]; exact (Fr.refl _ _).alloc _
  have o2 : w2.heap[w1.heap.size]? = some (.cells #[.int .i64 N, .float .f64 F, .string ⟨S.toArray⟩, .slice (some ⟨g, off, none⟩) c cap] 39 (0, 0)) := by rw [hw2]; exact heap_alloc_new _ _
  have q2 := box_kept H1.out.2.1 f2 (fun h => h)
  have p2 := box_kept H1.out.2.2 f2 (fun h => h)
  obtain ⟨ob, hob⟩ : ∃ ob, w1.heap.size = ob := ⟨_, rfl⟩
  rw [hob] at o2 ⊢
  have hrbo : rb < ob := by rw [← hob]; exact lt_of_block H1.out.2.2
  have hobl : ob < w2.heap.size := lt_of_block o2
  have hvbo : w.heap.size < rb := by have := HRB.out; omega
  have hvbl : w.heap.size < w2.heap.size := by omega
  obtain ⟨c0, c1, c2, c3⟩ := cell_of_four q2
  have vn : w.heap.size ≠ w2.heap.size := by omega
  have H2 := Lib.hid (And.intro (H1.out.1.trans f2 (fun _ _ h => h)) (And.intro q2 (And.intro p2 o2)))
  clear hw2 f2 o2 q2 p2 hob c0 c1 c2
  have HEMP := Lib.hid (empty_row w2 w2.heap.size (Nat.le_refl _) 39 4)
  obtain ⟨i0, hi, hz0, hz1, hz2⟩ := info_parts Tryz.infoValue
  have hcells : ∀ w', Fr (fun _ => False) w2 w' → (Builtin.firstCells 4 c (.slice (some ⟨g, off, none⟩) c cap)).run Tryz.prog w' = .ok cells.toArray w' := fun w' f => HCL.out.2.2.1 w' (fun g o u hg hu => cell_fr (R := fun _ => True) (H2.out.1.trans f (fun _ _ h => h)) (fun _ _ h => h) trivial hu)
  have HC := Lib.hid hcells
  clear hcells cpos plpos
  go_wp2_with (at_builtin; refine wpList_append_sep rfl (.tmp 25) (.tmp 27) 37 37 rfl w2.heap.size 39 i0 (.agg #[.int .i64 0, .float .f64 0, .string ⟨#[]⟩, .slice none 0 0]) 4 56 Tryz.underlying37 _ Tryz.underlying37 (.inr ⟨_, rfl⟩) hi hz0 hz1 hz2 rfl (by decide) (.slice (some ⟨w2.heap.size, 0, none⟩) 0 0) 0 [] rfl ?own _ c cells rfl (lenOf_slice _ _ _) ?len (HC.out _ ((Fr.refl (fun _ => False) w2).alloc (.cells #[] 39))) (HC.out _ (((Fr.refl (fun _ => False) w2).alloc (.cells #[] 39)).drew)) ?one ?b1 ?b2 ?base ?grow)
  case own => exact HEMP.out
  case len => exact HCL.out.1
  case one => exact HCL.out.2.1
  case b1 => unfold maxLen; omega
  case b2 => omega
  case base => simp
  case grow =>
    intro v1 w5 hown hg5 hv0
    have f5 : Fr (fun _ => False) w2 w5 := ((Fr.refl (fun _ => False) w2).alloc (.cells #[] 39)).trans (Fr.of_grown hg5) (fun i hi e => by simp [Value.ownBlock] at e; omega)
    have hown' : w5.ownsRow w2.heap.size 39 4 v1 c cells := by simpa using hown
    obtain ⟨og, uc, cur, rfl, hogB, hog, hcuc, hcsz, hccell⟩ : ∃ og uc cur, v1 = .slice (some ⟨og, 0, none⟩) c uc ∧ w2.heap.size ≤ og ∧ w5.heap[og]? = some (.cells cur 39 (0, 0)) ∧ c ≤ uc ∧ c * 4 ≤ cur.size ∧ ∀ j u, cells[j]? = some u → cur[j]? = some u := by
      have h := hown'
      rcases h.2 with ⟨_, hz⟩ | ⟨og, cap', cur, rfl, hb, hgg, hle', _, hsz', htk⟩
      · omega
      · refine ⟨og, cap', cur, rfl, hb, hgg, hle', by rw [hsz']; exact Nat.mul_le_mul_right _ hle', fun j u hu => ?_⟩
        have h2 := World.ownsRow.cells (g := og) hown' rfl j u hu
        rw [plain_add, cell_of_row w5 og j _ _ _ hgg] at h2
        exact h2
    have o5 := box_kept H2.out.2.2.2 f5 (fun h => h)
    have z3 : w5.frozen? ⟨ob, 3, none⟩ = false := by simp [World.frozen?, o5]
    have d3 := cells_row o5 3 _ rfl
    have H5 := Lib.hid (And.intro (H2.out.1.trans f5 (fun _ _ h => h)) (And.intro (box_kept H2.out.2.1 f5 (fun h => h)) (And.intro (box_kept H2.out.2.2.1 f5 (fun h => h)) (And.intro o5 (And.intro hog (And.intro hcsz hccell))))))
    clear hown hown' hg5 hv0 f5 o5 hog hcsz hccell
    go_upto_region 4 with fail
    obtain ⟨w6, hw6⟩ : ∃ w6, w6 = w5.setCell ⟨ob, 3, none⟩ (.slice (some ⟨og, 0, none⟩) c uc) := ⟨_, rfl⟩
    rw [← hw6]
    have f6 : Fr (fun k => k = ob) w5 w6 := by rw [hw6]; exact Fr.set1 (Fr.refl _ _) 3 _
    have o6 : w6.heap[ob]? = some (.cells #[.int .i64 N, .float .f64 F, .string ⟨S.toArray⟩, .slice (some ⟨og, 0, none⟩) c uc] 39 (0, 0)) := by rw [hw6]; exact setCell_row 3 _ H5.out.2.2.2.1
    have q6 := box_kept H5.out.2.1 f6 (fun h => by omega)
    have c3 := cells_row q6 3 _ rfl
    have hwo : w.heap.size < ob := by omega
    have f06 : Fr (fun _ => False) w w6 := H5.out.1.trans f6 (fun i hi h => by omega)
    have r0 := cell_fr (R := fun _ => True) f06 (fun _ _ h => h) trivial HP0.out
    have H6 := Lib.hid (And.intro f06 (And.intro q6 (And.intro (box_kept H5.out.2.2.1 f6 (fun h => by omega)) (And.intro o6 (box_kept H5.out.2.2.2.2.1 f6 (fun h => by omega))))))
    clear hw6 f6 o6 q6 f06 z3 d3
    have e1 : (pn : Int).tmod (c : Int) = (q : Int) := by rw [← HQ.out]; exact (Int.ofNat_tmod pn c).symm
    have e2 : (pn : Int) % (c : Int) = (q : Int) := by rw [← HQ.out]; omega
    have plp : (0 : Int) < (pl : Int) := by omega
    have plp' : 0 < pl := by omega
    have cz : ¬ (c : Int) = 0 := by omega
    have cz' : ((c : Int) == 0) = false := by simpa using cz
    go_wp2
    go_quiet (fail)
    clear e1 e2 plp plp' cz cz' r0 c3
    go_upto_region 5 with fail
    obtain ⟨w7, hw7⟩ : ∃ w7, w7 = w6.drewN nq := ⟨_, rfl⟩
    rw [← hw7]
    have f7 : Fr (fun _ => False) w6 w7 := by rw [hw7]; exact (Fr.refl _ _).drewN _
    have H7 := Lib.hid (And.intro (H6.out.1.trans f7 (fun _ _ h => h)) (And.intro (box_kept H6.out.2.1 f7 (fun h => h)) (And.intro (box_kept H6.out.2.2.1 f7 (fun h => h)) (And.intro (box_kept H6.out.2.2.2.1 f7 (fun h => h)) (box_kept H6.out.2.2.2.2 f7 (fun h => h))))))
    have hogl : og < w7.heap.size := lt_of_block H7.out.2.2.2.2
    have hogo : ob < og := by omega
    have HOG := Lib.hid (And.intro hogl (And.intro hogo (And.intro hwo hrbo)))
    have hcs := H5.out.2.2.2.2.2.1
    have HCS := Lib.hid hcs
    have qc : (q : Int) < (c : Int) := by omega
    have q0 : (0 : Int) ≤ (q : Int) := by omega
    clear hw7 f7 hcs
    refine wp_region_chain (by kernel_rfl) [some 38, some 39, some 40, some 41, some 42, some 43, some 44, some 45, some 46, some 47, some 48, some 49, some 50, some 51, some 52, some 53, none] rfl (by decide) (by intro d hd; simp at hd ⊢; omega)
      [14, 16] (DownS w7 R w.heap.size og cur q (turnE wh x f s (ov q) rest))
      [.free (.pointer (some ⟨ob, 3, none⟩)), .free (.slice (some ⟨og, 0, none⟩) c uc), .free (.int .i64 q), .free (.pointer (some ⟨w.heap.size, 3, none⟩)), .free (.slice (some ⟨g, off, none⟩) c cap), .free (.int .i64 q), .free (.pointer (some ⟨g, off + q * 4, none⟩)),
       .free (.agg #[.int .i64 zn, .float .f64 zf, .string zs, .slice za zc zcap]), .free (.slice (some ⟨pg, po, none⟩) pl pc), .free pv', .free (.int .u8 wh), .free (.int .i64 x), .free (.float .f64 f), .free (.string ⟨s.toArray⟩), .link none, .free (.pointer (some ⟨og, q * 4, none⟩)), .link none]
      (by kernel_rfl) (by kernel_rfl) ?h0 ?step ?fin
    case h0 => exact (Fr.refl _ _).drew
    case step =>
      intro vals2
      simp only [frOfU, fillU, List.setIfInBounds_toArray, List.set_cons_succ, List.set_cons_zero]
      repeat' (first | exact AllOps.nil | refine AllOps.cons ?_ ?_)
      all_goals
        intro cvs wx hS he hu hlim K hK
        simp only [Act.put, List.setIfInBounds_toArray, List.set_cons_succ, List.set_cons_zero, List.getD_cons_zero, List.getD_cons_succ] at hK
        simp only [List.mem_cons, List.not_mem_nil, or_false, forall_eq_or_imp, forall_eq, Region.binds, forall_const, vmode_gc, Bool.false_eq_true, false_imp_iff, List.getD_cons_zero, List.getD_cons_succ, OpSort.val, Option.some.injEq, forall_eq', reduceCtorEq, implies_true, true_and, and_true] at he
        have HSX := Lib.hid hS
        clear hS
      all_goals first | (clear hlim hu; (try simp only [he] at hK ⊢); go_simp; exact hK) | skip
      · have e3 := cells_row (box_kept H7.out.2.2.2.1 HSX.out.f (fun h => by have := HOG.out; omega)) 3 _ rfl
        clear hlim hu
        simp only [he] at hK ⊢
        go_simp
        exact hK
      · have e3 := cells_row (box_kept H7.out.2.1 HSX.out.f (fun h => by have := HOG.out; omega)) 3 _ rfl
        clear hlim hu
        simp only [he] at hK ⊢
        go_simp
        exact hK
      · have up : ∀ {o : Nat} {u : Value}, w.cell? ⟨g, o, none⟩ = some u → wx.cell? ⟨g, o, none⟩ = some u := fun h => cell_fr (R := fun k => k = g) HSX.out.f (fun k hk h => by have := HOG.out; have := HY.out.1.2; omega) rfl (cell_fr (R := fun _ => True) H7.out.1 (fun _ _ h => h) trivial h)
        have e0 := up HY.out.2.1
        have e1 := up HY.out.2.2.1
        have e2 := up HY.out.2.2.2.1
        have e3 := up HY.out.2.2.2.2
        clear hlim hu up
        simp only [he] at hK ⊢
        go_simp
        exact hK
      · clear hlim hu
        have pl1 : (1 : Int) ≤ (pl : Int) := by omega
        by_cases hp1 : pc = 1
        · have ev := HPV.out.1 hp1
          rw [ev] at hK
          clear ev
          subst hp1
          rw [show pl - 1 = 0 by omega] at hK
          simp only [he] at hK ⊢
          go_simp
          exact hK
        · have ev := HPV.out.2 hp1
          rw [ev] at hK
          clear ev
          simp only [he] at hK ⊢
          go_simp
          exact hK
      · obtain rfl := hlim (0 : Nat) rfl
        have h1 := HSX.out
        simp only [List.take_zero, List.map_nil] at h1
        simp only [he] at hK ⊢
        go_simp
        go_at_call 8
        have fx : Fr (fun _ => False) w wx := H7.out.1.trans h1 (fun _ _ h => h)
        have hrl : rest.length ≤ 1000 := by have := HPL.out; omega
        refine (ih q (fun k => R k ∧ k < w.heap.size) _ _ wx rest x f s (VShows.fr fx (fun _ _ h => h) _ _ HXS.out) (HTL.out.fr fx (fun _ _ h => h)) hrl HXF.out.1 HXF.out.2.1 HXF.out.2.2.1 HXF.out.2.2.2 HSZQ.out).mono ?_
        rintro e1 wa ⟨v', rfl, hsv, fa⟩
        exact hK _ _ (fun _ h => by cases h) ⟨h1.trans fa (fun _ _ h => h), VShows.mono (fun k _ hk => hk.imp_right (fun h => Nat.le_trans h1.size h)) _ _ hsv⟩
      · obtain rfl := hlim (1 : Nat) rfl
        have h1 := HSX.out
        clear HSX hlim hu
        simp only [List.take_succ_cons, List.take_zero, List.map_cons, List.map_nil] at h1 hK
        obtain ⟨hf1, hs1⟩ := h1
        obtain ⟨tn, tf, ts, ta, tc, tcap, e4⟩ := hs1.lit
        rw [e4] at hs1
        have hrow := box_kept H7.out.2.2.2.2 hf1 (fun h => h)
        have hcs := HCS.out
        have gcell : ∀ j, j < 4 → ∃ u, wx.cell? ⟨og, q * 4 + j, none⟩ = some u := fun j hj => ⟨_, (cell_of_row wx og _ _ _ _ hrow).trans (Array.getElem?_eq_getElem (by omega))⟩
        obtain ⟨g0, k0⟩ := gcell 0 (by omega)
        obtain ⟨g1, k1⟩ := gcell 1 (by omega)
        obtain ⟨g2, k2⟩ := gcell 2 (by omega)
        obtain ⟨g3, k3⟩ := gcell 3 (by omega)
        rw [Nat.add_zero] at k0
        have z0 : wx.frozen? ⟨og, q * 4, none⟩ = false := by simp [World.frozen?, hrow]
        have z1 : wx.frozen? ⟨og, q * 4 + 1, none⟩ = false := by simp [World.frozen?, hrow]
        have z2 : wx.frozen? ⟨og, q * 4 + 2, none⟩ = false := by simp [World.frozen?, hrow]
        have z3 : wx.frozen? ⟨og, q * 4 + 3, none⟩ = false := by simp [World.frozen?, hrow]
        have fs : Fr (fun k => k = og) wx ((((wx.setCell ⟨og, q * 4, none⟩ (.int .i64 tn)).setCell ⟨og, q * 4 + 1, none⟩ (.float .f64 tf)).setCell ⟨og, q * 4 + 2, none⟩ (.string ts)).setCell ⟨og, q * 4 + 3, none⟩ (.slice ta tc tcap)) := ((((Fr.refl _ _).set1 _ _).set1 _ _).set1 _ _).set1 _ _
        have HG := Lib.hid (show DownS w7 R w.heap.size og cur q (turnE wh x f s (ov q) rest) [vals2 14, undef] ((((wx.setCell ⟨og, q * 4, none⟩ (.int .i64 tn)).setCell ⟨og, q * 4 + 1, none⟩ (.float .f64 tf)).setCell ⟨og, q * 4 + 2, none⟩ (.string ts)).setCell ⟨og, q * 4 + 3, none⟩ (.slice ta tc tcap)) from
          ⟨(hf1.mono (fun _ _ h => h.elim)).trans fs (fun _ _ h => h), _, _, _, _, VShows.fr fs (fun k hk e => by have := HOG.out; rcases hk with h | h <;> omega) _ _ hs1, store_at (q * 4) _ _ _ _ hrow⟩)
        clear hf1 hs1 hrow gcell fs hcs
        simp only [he, e4] at hK ⊢
        go_simp
        rw [e4] at HG
        exact hK undef _ (fun _ h => by cases h) HG.out
    case fin =>
      intro vals2 w8 hS hV
      clear hV
      simp only [List.map_cons, List.map_nil] at hS
      obtain ⟨f8, t0, t1, t2, t3, hsv, hrow⟩ := hS
      have o8 := box_kept H7.out.2.2.2.1 f8 (fun h => by omega)
      have p8 := box_kept H7.out.2.2.1 f8 (fun h => by omega)
      obtain ⟨d0, d1, d2, d3⟩ := cell_of_four o8
      obtain ⟨b0, b1, b2, b3⟩ := cell_of_four p8
      have u0 : w8.frozen? ⟨rb, 0, none⟩ = false := by simp [World.frozen?, p8]
      have u1 : w8.frozen? ⟨rb, 1, none⟩ = false := by simp [World.frozen?, p8]
      have u2 : w8.frozen? ⟨rb, 2, none⟩ = false := by simp [World.frozen?, p8]
      have u3 : w8.frozen? ⟨rb, 3, none⟩ = false := by simp [World.frozen?, p8]
      have H8 := Lib.hid (And.intro f8 (And.intro hsv (And.intro hrow p8)))
      clear f8 hsv hrow o8 p8
      simp only [frOfU, fillU, List.setIfInBounds_toArray, List.set_cons_succ, List.set_cons_zero]
      go_wp2
      refine bodyPost_ret (results_cell_row rfl _ _ rb 39 _ _ _ rfl (store_four H8.out.2.2.2) Tryz.underlying39 rfl (by kernel_rfl)) rfl ?_
      have fs : Fr (fun k => k = rb) w8 ((((w8.setCell ⟨rb, 0, none⟩ (.int .i64 N)).setCell ⟨rb, 1, none⟩ (.float .f64 F)).setCell ⟨rb, 2, none⟩ (.string ⟨S.toArray⟩)).setCell ⟨rb, 3, none⟩ (.slice (some ⟨og, 0, none⟩) c uc)) := fr_four _ _ _ _ (Fr.refl _ _) (fun _ => rfl)
      refine ⟨_, rfl, ?_, (H7.out.1.trans H8.out.1 (fun i hi h => by omega)).trans fs (fun i hi h => by omega)⟩
      rw [HT.out]
      have hrow := H8.out.2.2.1
      have hcs := HCS.out
      obtain ⟨s0, s1, s2, s3, sx⟩ := set_at cur (q * 4) t0 t1 t2 t3 (by omega)
      have hw7 := H7.out.1.size
      refine vshows_mk HB.out (.inr ⟨hcuc, og, 0, .inr (by omega), rfl, fun i hi => ?_⟩)
      have rd : ∀ (j : Nat) (u : Value), ((((cur.setIfInBounds (q * 4) t0).setIfInBounds (q * 4 + 1) t1).setIfInBounds (q * 4 + 2) t2).setIfInBounds (q * 4 + 3) t3)[j]? = some u → (((((w8.setCell ⟨rb, 0, none⟩ (.int .i64 N)).setCell ⟨rb, 1, none⟩ (.float .f64 F)).setCell ⟨rb, 2, none⟩ (.string ⟨S.toArray⟩)).setCell ⟨rb, 3, none⟩ (.slice (some ⟨og, 0, none⟩) c uc)).cell? ⟨og, j, none⟩) = some u := fun j u hu => by
        refine cell_fr (R := fun k => k = og) fs (fun k hk h => by omega) rfl ?_
        rw [cell_of_row w8 og j _ _ _ hrow]
        exact hu
      rw [Nat.zero_add]
      by_cases hiq : i = q
      · subst hiq
        refine ⟨t0, t1, t2, t3, rd _ _ s0, rd _ _ s1, rd _ _ s2, rd _ _ s3, ?_⟩
        show VShows _ _ (if i = i then turnE wh x f s (ov i) rest else ov i) _
        rw [if_pos rfl]
        refine VShows.mono (fun k _ hk => ?_) _ _ (VShows.fr fs (fun k hk e => by rcases hk with h | h <;> omega) _ _ H8.out.2.1)
        rcases hk with h | h
        · exact .inl h.1
        · exact .inr (by omega)
      · obtain ⟨xs, e1, e2, y0, y1, y2, y3, rfl, hy⟩ := HCL.out.2.2.2 i (ov i) (by rw [List.getElem?_map, List.getElem?_range hi]; rfl)
        have cc := fun (j : Nat) (u : Value) (hj : j < 4) (hu : [y0, y1, y2, y3][j]? = some u) => rd (i * 4 + j) u ((sx _ (by omega)).trans (H5.out.2.2.2.2.2.2 _ _ (e2 j u hu)))
        have c0 := cc 0 _ (by omega) rfl
        have c1 := cc 1 _ (by omega) rfl
        have c2 := cc 2 _ (by omega) rfl
        have c3 := cc 3 _ (by omega) rfl
        rw [Nat.add_zero] at c0
        refine ⟨y0, y1, y2, y3, c0, c1, c2, c3, ?_⟩
        show VShows _ _ (if i = q then turnE wh x f s (ov i) rest else ov i) _
        rw [if_neg hiq]
        have hy2 := VShows.fr fs (fun k hk e => by omega) _ _ (VShows.fr H8.out.1 (fun k hk e => by omega) _ _ (VShows.fr H7.out.1 (fun _ _ h => h) _ _ hy))
        exact VShows.mono (fun k _ hk => .inl hk.1) _ _ hy2
end
end Go.Proofs.YtplipjijaaejlaaGreat
