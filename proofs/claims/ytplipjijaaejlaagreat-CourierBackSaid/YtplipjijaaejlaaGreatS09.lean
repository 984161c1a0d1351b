/-
  CouBack, part 9 of what it rests on: KindWhole.
-/
import Derived.Test.YtplipjijaaejlaaGreatS06
import Derived.Test.YtplipjijaaejlaaGreatS03
import Derived.Test.YtplipjijaaejlaaGreatS04
import Derived.Test.YtplipjijaaejlaaGreatS08
import Derived.Laws.ResultCell
import Derived.IntWalk
import Derived.Deep.Cut
import Derived.Deep.CutRange
set_option linter.unusedVariables false
set_option linter.unusedSimpArgs false
set_option maxHeartbeats 64000000
namespace Go.Proofs.YtplipjijaaejlaaGreat
open Go.RowKit
open Go.Lib (hid)
section
theorem results_cell_tmp_row {P : Program} {fn : Func} {p u : Tmp} {ty : TypeId} (h : fn.results = #[.cell p ty, .tmp u]) (tmps : Array Value) (w : World) (g : Nat) (t : TypeId) (cs : Array Value) (fr : Nat × Nat) (d : TypeDesc)
    (hp : tmps.getD p undef = .pointer (some ⟨g, 0, none⟩)) (hg : w.heap[g]? = some (.cells cs t fr))
    (hu : P.underlying ty = some d) (hd : (match d with | .struct _ | .array _ _ => true | _ => false) = true) (hi : (P.info? ty).map (·.size) = some cs.size) :
    (results fn tmps).run P w = .ok (.tuple #[.agg cs, tmps.getD u undef]) w := by
  rw [results_cell_tmp h]
  have hp' : tmps[p]?.getD undef = .pointer (some ⟨g, 0, none⟩) := by simpa using hp
  simp [hp', asAddr, run_loadVar_row w g t ty cs fr d hg hu hd hi, Result.andThen]

theorem zero_shows (R : Nat → Prop) (w : World) : Shows R w zeroT (.agg #[.int .u8 0, .int .i64 0, .slice none 0 0, .slice none 0 0]) :=
  ⟨_, _, rfl, by omega, by omega, ⟨by simp, by simp, .inl ⟨rfl, _, _, rfl⟩⟩, .inl ⟨rfl, _, _, rfl⟩⟩

/-- What a call of whole leaves: its answer; the count; the type in new memory. -/
def Wholed (r : WR) (lb : Nat) (w : World) (e : Ending) (w' : World) : Prop :=
  ∃ tv, e = .returned (.tuple #[tv, .int .i64 (r.e : Nat)]) ∧ Fr (fun k => k = lb) w w' ∧ w'.heap[lb]? = some (.cells #[.int .i64 (r.left : Nat)] 3 (0, 0)) ∧ Shows (fun k => w.heap.size ≤ k) w' r.t tv ∧ r.left ≤ 1000

theorem setCell_four {w : World} {b : Nat} {x0 x1 x2 x3 y : Value} {t : TypeId} (i : Nat) (h : w.heap[b]? = some (.cells #[x0, x1, x2, x3] t (0, 0))) :
    (w.setCell ⟨b, i, none⟩ y).heap[b]? = some (.cells (#[x0, x1, x2, x3].setIfInBounds i y) t (0, 0)) := by
  have hb := lt_of_block h
  unfold World.setCell
  simp only [Array.getElem?_modify, if_true, h, Option.map_some]
  simp

theorem store_four {w : World} {b : Nat} {x0 x1 x2 x3 y0 y1 y2 y3 : Value} {t : TypeId} (h : w.heap[b]? = some (.cells #[x0, x1, x2, x3] t (0, 0))) :
    ((((w.setCell ⟨b, 0, none⟩ y0).setCell ⟨b, 1, none⟩ y1).setCell ⟨b, 2, none⟩ y2).setCell ⟨b, 3, none⟩ y3).heap[b]? = some (.cells #[y0, y1, y2, y3] t (0, 0)) :=
  setCell_four 3 (setCell_four 2 (setCell_four 1 (setCell_four 0 h)))

theorem fr_four {w : World} {b : Nat} (y0 y1 y2 y3 : Value) {S : Nat → Prop} {w0 : World} (f : Fr S w0 w) (hb : b < w0.heap.size → S b) :
    Fr S w0 ((((w.setCell ⟨b, 0, none⟩ y0).setCell ⟨b, 1, none⟩ y1).setCell ⟨b, 2, none⟩ y2).setCell ⟨b, 3, none⟩ y3) :=
  (((f.setCell (p := ⟨b, 0, none⟩) hb _).setCell (p := ⟨b, 1, none⟩) hb _).setCell (p := ⟨b, 2, none⟩) hb _).setCell (p := ⟨b, 3, none⟩) hb _

theorem other_four (w : World) {b : Nat} (y0 y1 y2 y3 : Value) {g : Nat} (hg : g ≠ b) :
    ((((w.setCell ⟨b, 0, none⟩ y0).setCell ⟨b, 1, none⟩ y1).setCell ⟨b, 2, none⟩ y2).setCell ⟨b, 3, none⟩ y3).heap[g]? = w.heap[g]? := by
  rw [Below.heap_setCell _ _ _ _ (by simpa using hg), Below.heap_setCell _ _ _ _ (by simpa using hg), Below.heap_setCell _ _ _ _ (by simpa using hg), Below.heap_setCell _ _ _ _ (by simpa using hg)]

/-- What holds of every operation's value goes on to hold, if each saying does. -/
theorem pres_list {L : List (Value → World → Prop)} {w w' : World} (h : ∀ p ∈ L, ∀ u, p u w → p u w') : ∀ (j : Nat) (u : Value), L.getD j (fun _ _ => True) u w → L.getD j (fun _ _ => True) u w' := by
  intro j u hj
  by_cases hl : j < L.length
  · have e : L.getD j (fun _ _ => True) = L[j] := by simp [List.getD, hl]
    rw [e] at hj ⊢
    exact h _ (List.getElem_mem hl) u hj
  · have e : L.getD j (fun _ _ => True) = fun _ _ => True := by simp [List.getD, hl]
    rw [e]
    trivial

theorem wholed_zero {w w' : World} {e lb : Nat} {l : Nat} (f : Fr (fun k => k = lb) w w') (hb : w'.heap[lb]? = some (.cells #[.int .i64 l] 3 (0, 0))) (hl : l ≤ 1000) :
    Wholed ⟨e, zeroT, l⟩ lb w (.returned (.tuple #[.agg #[.int .u8 0, .int .i64 0, .slice none 0 0, .slice none 0 0], .int .i64 (e : Nat)])) w' :=
  ⟨_, rfl, f, hb, zero_shows _ _, hl⟩

theorem heap_alloc_two (w : World) (o o' : Obj) : ((w.alloc o).alloc o').heap[w.heap.size + 1]? = some o' := by
  have := heap_alloc_new (w.alloc o) o'
  simpa using this

set_option maxRecDepth 100000 in
theorem whole_zero (al : List (Txt × KT)) (t : KT) (R : Nat → Prop) (v av : Value) (lb l : Nat) (w : World) (hl : l ≤ 1000) (hsh : Shows R w t v) (hb : w.heap[lb]? = some (.cells #[.int .i64 l] 3 (0, 0))) :
    Calls Tryz.prog 103 #[v, av, .int .i64 0, .pointer (some ⟨lb, 0, none⟩)] w (Wholed (wholeE 0 al t l) lb w) := by
  obtain ⟨k, m, a, n, c, a', n', c', rfl⟩ := hsh.four
  have Hb := Lib.hid hb
  clear hsh hb
  go_enter Tryz.func103, Tryz.ntmps103
  go_wp2
  refine bodyPost_ret (results_cell_tmp_row rfl _ _ (w.heap.size + 1) 34 _ _ _ rfl (heap_alloc_two _ _ _) Tryz.underlying34 rfl (by kernel_rfl)) rfl ?_
  have f : Fr (fun k => k = lb) w ((w.alloc (.cells #[.int .u8 k, .int .i64 m, .slice a n c, .slice a' n' c'] 34)).alloc (.cells #[.int .u8 0, .int .i64 0, .slice none 0 0, .slice none 0 0] 34)) := ((Fr.refl _ _).alloc _).alloc _
  have hlb := lt_of_block Hb.out
  exact wholed_zero (e := 5) f (by rw [Below.heap_alloc _ _ _ (by simp; omega), Below.heap_alloc _ _ _ hlb]; exact Hb.out) hl

/-- The hypothesis of the induction on levels. -/
def WholeAt (lv : Nat) : Prop := ∀ (al : List (Txt × KT)) (t : KT) (R : Nat → Prop) (v av : Value) (lz : Int) (lb l : Nat) (w : World), lz = lv → lv ≤ 100 → l ≤ 1000 → ¬ R lb → Shows R w t v → Aliases R w al av → w.heap[lb]? = some (.cells #[.int .i64 l] 3 (0, 0)) →
    Calls Tryz.prog 103 #[v, av, .int .i64 lz, .pointer (some ⟨lb, 0, none⟩)] w (Wholed (wholeE lv al t l) lb w)

set_option maxRecDepth 100000 in
theorem whole_ref (lv : Nat) (ih : WholeAt lv) (al : List (Txt × KT)) (m : Int) (ns : List Txt) (n : Nat) (of : Nat → KT) (R : Nat → Prop) (v av : Value) (lz : Int) (lb l : Nat) (w : World) (hlz : lz = lv + 1) (hlv : lv ≤ 99) (hl : l ≤ 1000) (hR : ¬ R lb) (hsh : Shows R w (.mk 9 m ns n of) v) (hal : Aliases R w al av) (hb : w.heap[lb]? = some (.cells #[.int .i64 l] 3 (0, 0))) :
    Calls Tryz.prog 103 #[v, av, .int .i64 lz, .pointer (some ⟨lb, 0, none⟩)] w (Wholed (wholeE (lv + 1) al (.mk 9 m ns n of) l) lb w) := by
  have hlb := lt_of_block hb
  have hsh0 := Lib.hid hsh
  obtain ⟨k', m', a, nn, c, a', n', c', hv⟩ := hsh.four
  obtain ⟨rfl, rfl⟩ : 9 = k' ∧ m = m' := by
    obtain ⟨vn, vo, e, _⟩ := hsh
    rw [hv] at e
    simp at e
    omega
  subst hv
  have hl' : (lz == 0) = false := by simp; omega
  have hz0 : 1 ≤ lz := by omega
  have hz1 : lz ≤ 100 := by omega
  have Hlz := Lib.hid hlz
  have Hb := Lib.hid hb
  have Hal := Lib.hid hal
  clear hsh hlz hb hal
  have e9 : wholeE (lv + 1) al (.mk 9 m ns n of) l = if standsN al ns < 0 then ⟨10, zeroT, l⟩ else wholeE lv (al.take (standsN al ns).toNat) (al.getD (standsN al ns).toNat ([], .nil)).2 l := by
    simp only [wholeE, if_true]
  have E9 := Lib.hid e9
  clear e9
  obtain ⟨w0, hw0⟩ : ∃ w0, w0 = (w.alloc (.cells #[.int .u8 (9 : Nat), .int .i64 m, .slice a nn c, .slice a' n' c'] 34)).alloc (.cells #[.int .u8 0, .int .i64 0, .slice none 0 0, .slice none 0 0] 34) := ⟨_, rfl⟩
  have f0 : Hid (Fr (fun _ => False) w w0) := Lib.hid (by rw [hw0]; exact ((Fr.refl _ _).alloc _).alloc _)
  have q4 : Hid (w0.heap[w.heap.size]? = some (.cells #[.int .u8 (9 : Nat), .int .i64 m, .slice a nn c, .slice a' n' c'] 34 (0, 0))) := Lib.hid (by rw [hw0, Below.heap_alloc _ _ _ (by simp)]; exact heap_alloc_new _ _)
  have q8 : Hid (w0.heap[w.heap.size + 1]? = some (.cells #[.int .u8 0, .int .i64 0, .slice none 0 0, .slice none 0 0] 34 (0, 0))) := Lib.hid (by rw [hw0]; exact heap_alloc_two _ _ _)
  obtain ⟨c0, c1, c2, c3⟩ := cell_of_four q4.out
  have hsf := stands_any R al (.mk 9 m ns n of) _ av w0 (Shows.fr f0.out (fun _ _ h => h) _ _ hsh0.out) (Hal.out.fr f0.out (fun _ _ h => h))
  have hse : standsE al (.mk 9 m ns n of) = standsN al ns := rfl
  rw [hse] at hsf
  have hlt := Lib.hid (@standsN_lt al ns)
  obtain ⟨E, hE⟩ : ∃ E, E = standsN al ns := ⟨_, rfl⟩
  rw [← hE] at hsf
  have HE := Lib.hid hE
  clear hE hse
  by_cases he : E < 0
  · go_enter Tryz.func103, Tryz.ntmps103
    go_wp2_with fail
    rw [hw0] at hsf
    refine hsf.mono ?_
    rintro e w1 ⟨rfl, f1⟩
    rw [← hw0] at f1
    have q8' := box_kept q8.out f1 (fun h => h)
    obtain ⟨b0, b1, b2, b3⟩ := cell_of_four q8'
    have z0 : w1.frozen? ⟨w.heap.size + 1, 0, none⟩ = false := by simp [World.frozen?, q8']
    have z1 : w1.frozen? ⟨w.heap.size + 1, 1, none⟩ = false := by simp [World.frozen?, q8']
    have z2 : w1.frozen? ⟨w.heap.size + 1, 2, none⟩ = false := by simp [World.frozen?, q8']
    have z3 : w1.frozen? ⟨w.heap.size + 1, 3, none⟩ = false := by simp [World.frozen?, q8']
    have Q8 := Lib.hid q8'
    have F1 := Lib.hid f1
    clear q8' f1 hw0 hsf
    go_wp2
    refine bodyPost_ret (results_cell_tmp_row rfl _ _ (w.heap.size + 1) 34 _ _ _ rfl (store_four Q8.out) Tryz.underlying34 rfl (by kernel_rfl)) rfl ?_
    rw [E9.out, ← HE.out, if_pos he]
    have hk := box_kept Hb.out (f0.out.trans F1.out (fun _ _ h => h)) (fun h => h)
    exact wholed_zero (e := 10) (fr_four _ _ _ _ ((f0.out.trans F1.out (fun _ _ h => h)).mono (fun _ _ h => absurd h (fun h => h))) (fun h => absurd h (by omega))) (by rw [other_four _ _ _ _ _ (by omega)]; exact hk) hl
  · obtain ⟨i, rfl⟩ : ∃ i : Nat, E = i := ⟨E.toNat, by omega⟩
    have hi : i < al.length := by
      have := (hlt.out (by rw [← HE.out]; omega)).1
      rw [← HE.out] at this
      simpa using this
    have hal0 := Hal.out
    have hall : al.length ≤ 1000 := hal0.1
    obtain ⟨aa, ca, rfl, hsa⟩ := hal0.shape
    have halv := Lib.hid hal0
    clear hal0
    rcases hsa with hz | ⟨hcap, ga, oa, hg, rfl, hcell⟩
    · omega
    obtain ⟨nm, tt, htt⟩ : ∃ nm tt, al[i]? = some (nm, tt) := ⟨al[i].1, al[i].2, by rw [List.getElem?_eq_getElem hi]⟩
    obtain ⟨x0, x1, x2, x3, _, y0, y1, y2, y3, hx⟩ := hcell i _ htt
    obtain ⟨pk, pm, pa, pn, pc, pa', pn', pc', rfl, rfl, rfl, rfl⟩ := hx.cells
    have HX := Lib.hid hx
    have hgl : ga < w.heap.size := World.block_lt_of_cell? w _ y0
    have Y := Lib.hid (And.intro y0 (And.intro y1 (And.intro y2 y3)))
    have Htt := Lib.hid htt
    clear hx hcell htt y0 y1 y2 y3
    have hi' : (i : Int) < (al.length : Int) := by omega
    have hic : (i : Int) ≤ (ca : Int) := by omega
    have hiz : (0 : Int) ≤ (i : Int) := by omega
    have hwr : IntKind.i64.wrap (lz - 1) = lz - 1 := IntWalk.i64_in _ (by omega)
    go_enter Tryz.func103, Tryz.ntmps103
    go_wp2_with fail
    rw [hw0] at hsf
    refine hsf.mono ?_
    rintro e w1 ⟨rfl, f1⟩
    rw [← hw0] at f1
    have F1 := Lib.hid (f0.out.trans f1 (fun _ _ h => h))
    have Q8 := Lib.hid (box_kept q8.out f1 (fun h => h))
    have Bq := Lib.hid (box_kept Hb.out F1.out (fun h => h))
    clear f1 hw0 hsf c0 c1 c2 c3
    go_wp2_with fail
    obtain ⟨r, hr⟩ : ∃ r, r = wholeE lv (al.take i) tt l := ⟨_, rfl⟩
    have HR := Lib.hid hr
    have hcall := Lib.hid (fun wx lz' hz f hbx => ih (al.take i) tt (fun k => R k ∧ k < w.heap.size) _ (.slice (some ⟨ga, oa, none⟩) i ca) lz' lb l wx hz (by omega) hl (fun h => hR h.1)
      (Shows.fr (R := fun k => R k ∧ k < w.heap.size) (S := fun k => k = lb ∨ k = w.heap.size + 1) f (fun k hk h => by rcases h with h | h; exact hR (h ▸ hk.1); omega) _ _ (Shows.mono (fun k hk h => ⟨h, hk⟩) _ _ HX.out))
      (((Aliases.take halv.out i (by omega)).mono (fun k hk h => ⟨h, hk⟩)).fr (R := fun k => R k ∧ k < w.heap.size) (S := fun k => k = lb ∨ k = w.heap.size + 1) f (fun k hk h => by rcases h with h | h; exact hR (h ▸ hk.1); omega)) hbx)
    clear hr
    have HW1 : Hid (w.heap.size + 2 ≤ w1.drew.heap.size) := Lib.hid (by have := lt_of_block Q8.out; show _ ≤ w1.heap.size; omega)
    have HY := Lib.hid (fun (wx : World) (f : Fr (fun k => k = lb ∨ k = w.heap.size + 1) w1.drew wx) =>
      have fw : Fr (fun k => k = lb ∨ k = w.heap.size + 1) w wx := (F1.out.drew.mono (fun _ _ h => absurd h (fun h => h))).trans f (fun _ _ h => h)
      have up : ∀ {o : Nat} {u : Value}, w.cell? ⟨ga, o, none⟩ = some u → wx.cell? ⟨ga, o, none⟩ = some u := fun h => cell_fr (R := fun k => R k ∧ k < w.heap.size) fw (fun k hk h => by rcases h with h | h; exact hR (h ▸ hk.1); omega) ⟨hg, hgl⟩ h
      And.intro fw (And.intro (up Y.out.1) (And.intro (up Y.out.2.1) (And.intro (up Y.out.2.2.1) (up Y.out.2.2.2)))))
    refine wp_region_toldU (by kernel_rfl) (fun a b => Fr (fun k => k = lb ∨ k = w.heap.size + 1) a b) (fun w => Fr.refl _ w) (fun _ _ _ h k => h.trans k (fun _ _ h => h))
      [some 28, some 29, some 30, some 31, some 32, some 33, some 34, some 35, some 36, some 37, some 38, some 39, some 40, some 41, none, some 9] rfl (by decide) (by intro d hd; simp at hd ⊢; omega)
      (fun j wx => (j = 11 → wx.heap[lb]? = some (.cells #[.int .i64 l] 3 (0, 0))) ∧ (j = 14 → wx.heap[w.heap.size + 1]? = some (.cells #[.int .u8 0, .int .i64 0, .slice none 0 0, .slice none 0 0] 34 (0, 0))))
      (fun j v wx => ([fun v _ => v = .slice (some ⟨ga, oa, none⟩) al.length ca, fun v _ => v = .int .i64 i, fun v _ => v = .pointer (some ⟨ga, oa + i * 5, none⟩), fun v _ => v = .pointer (some ⟨ga, oa + i * 5 + 1, none⟩),
        fun v _ => v = .agg #[.int .u8 pk, .int .i64 pm, .slice pa pn pc, .slice pa' pn' pc'], fun v _ => v = .slice (some ⟨ga, oa, none⟩) al.length ca, fun v _ => v = .int .i64 i, fun v _ => v = .slice (some ⟨ga, oa, none⟩) i ca,
        fun v _ => v = .int .i64 lz, fun v _ => v = .int .i64 (lz - 1), fun v _ => v = .pointer (some ⟨lb, 0, none⟩),
        fun v wx => (∃ tv, v = .tuple #[tv, .int .i64 (r.e : Nat)] ∧ Shows (fun k => w.heap.size + 2 ≤ k) wx r.t tv) ∧ wx.heap[lb]? = some (.cells #[.int .i64 (r.left : Nat)] 3 (0, 0)) ∧ r.left ≤ 1000,
        fun v wx => Shows (fun k => w.heap.size + 2 ≤ k) wx r.t v, fun v _ => v = .int .i64 (r.e : Nat),
        fun _ wx => ∃ z0 z1 z2 z3, wx.heap[w.heap.size + 1]? = some (.cells #[z0, z1, z2, z3] 34 (0, 0)) ∧ Shows (fun k => w.heap.size + 2 ≤ k) wx r.t (.agg #[z0, z1, z2, z3]),
        fun v _ => v = .int .i64 (r.e : Nat)] : List (Value → World → Prop)).getD j (fun _ _ => True) v wx)
      (by kernel_rfl) ?u0 ?step ?fin
    case u0 => exact fun j _ => ⟨fun _ => Bq.out, fun _ => Q8.out⟩
    case step =>
      intro vals
      simp only [frOfU, fillU, List.setIfInBounds_toArray, List.set_cons_succ, List.set_cons_zero]
      repeat' (first | exact AllOps.nil | refine AllOps.cons ?_ ?_)
      all_goals
        intro wx hle he hu hw K hK
        clear hw
        simp only [Act.put, List.setIfInBounds_toArray, List.set_cons_succ, List.set_cons_zero, List.getD_cons_zero, List.getD_cons_succ] at hK
        simp only [List.mem_cons, List.not_mem_nil, or_false, forall_eq_or_imp, forall_eq, Region.binds, forall_const, false_imp_iff, List.getD_cons_zero, List.getD_cons_succ] at he
        obtain ⟨fw, y0, y1, y2, y3⟩ := HY.out wx hle
        have FW := Lib.hid fw
        have FW0 : w.heap.size + 2 ≤ wx.heap.size := Nat.le_trans HW1.out hle.size
        clear fw hle
      all_goals first | ((try simp only [he] at hK ⊢); go_simp; exact hK _ _ (Fr.refl _ _) rfl (fun _ _ h => h) (fun _ _ _ h => h)) | skip
      · obtain ⟨h4, h7, h9, h10⟩ := he
        simp only [h4, h7, h9, h10] at hK ⊢
        go_simp
        go_at_call 103
        have hbx := hu.1 rfl
        refine (hcall.out wx (lz - 1) (by have := Hlz.out; omega) FW.out hbx).mono ?_
        rintro e1 wa ⟨tv, rfl, fa, hla, hta, hle1⟩
        rw [← HR.out] at hla hta hle1 ⊢
        have hta' := Shows.mono (S := fun k => w.heap.size + 2 ≤ k) (fun k _ h => Nat.le_trans FW0 h) _ _ hta
        refine hK _ _ (fa.mono (fun _ _ h => .inl h)) ⟨⟨tv, rfl, hta'⟩, hla, hle1⟩ ?_ ?_
        · intro j hj h
          exact ⟨fun e => absurd e hj, fun e => by rw [fa.block _ (lt_of_block (h.2 e)) (by omega)]; exact h.2 e⟩
        · refine fun j u _ => pres_list ?_ j u
          have st : ∀ u, Shows (fun k => w.heap.size + 2 ≤ k) wx r.t u → Shows (fun k => w.heap.size + 2 ≤ k) wa r.t u := fun u h => Shows.fr (R := fun k => w.heap.size + 2 ≤ k) (S := fun k => k = lb) fa (fun k hk h => by omega) _ _ h
          simp only [List.mem_cons, List.not_mem_nil, or_false, forall_eq_or_imp, forall_eq, imp_self, implies_true, true_and, and_true]
          refine ⟨fun u h => ⟨?_, hla, hle1⟩, fun u h => st u h, fun u h => ?_⟩
          · obtain ⟨⟨tv', e', h'⟩, _⟩ := h
            exact ⟨tv', e', st _ h'⟩
          · obtain ⟨z0, z1, z2, z3, h1, h2⟩ := h
            exact ⟨z0, z1, z2, z3, by rw [fa.block _ (lt_of_block h1) (by omega)]; exact h1, st _ h2⟩
      · obtain ⟨⟨tv, hv, hs⟩, _, _⟩ := he
        simp only [hv] at hK ⊢
        go_simp
        exact hK _ _ (Fr.refl _ _) hs (fun _ _ h => h) (fun _ _ _ h => h)
      · obtain ⟨⟨tv, hv, hs⟩, _, _⟩ := he
        simp only [hv] at hK ⊢
        go_simp
        exact hK _ _ (Fr.refl _ _) rfl (fun _ _ h => h) (fun _ _ _ h => h)
      · have hs := he.1
        have hcl := he.2.1.2
        obtain ⟨k2, m2, a2, n2, c2, a3, n3, c3, h12⟩ := hs.four
        rw [h12] at hs
        clear he
        simp only [h12] at hK ⊢
        have h8 := hu.2 rfl
        obtain ⟨b0, b1, b2, b3⟩ := cell_of_four h8
        have z0 : wx.frozen? ⟨w.heap.size + 1, 0, none⟩ = false := by simp [World.frozen?, h8]
        have z1 : wx.frozen? ⟨w.heap.size + 1, 1, none⟩ = false := by simp [World.frozen?, h8]
        have z2 : wx.frozen? ⟨w.heap.size + 1, 2, none⟩ = false := by simp [World.frozen?, h8]
        have z3 : wx.frozen? ⟨w.heap.size + 1, 3, none⟩ = false := by simp [World.frozen?, h8]
        have H8 := Lib.hid h8
        clear h8 hu
        go_simp
        have f8 := fr_four (w := wx) (b := w.heap.size + 1) (.int .u8 k2) (.int .i64 m2) (.slice a2 n2 c2) (.slice a3 n3 c3) (S := fun k => k = w.heap.size + 1) (Fr.refl _ _) (fun _ => rfl)
        have st : ∀ u, Shows (fun k => w.heap.size + 2 ≤ k) wx r.t u → Shows (fun k => w.heap.size + 2 ≤ k) _ r.t u := fun u h => Shows.fr (R := fun k => w.heap.size + 2 ≤ k) (S := fun k => k = w.heap.size + 1) f8 (fun k hk h => by omega) _ _ h
        refine hK undef _ (f8.mono (fun _ _ h => .inr h)) ⟨_, _, _, _, store_four H8.out, st _ hs⟩ ?_ ?_
        · intro j hj h
          exact ⟨fun e => by rw [other_four _ _ _ _ _ (by omega)]; exact h.1 e, fun e => absurd e hj⟩
        · refine fun j u _ => pres_list ?_ j u
          simp only [List.mem_cons, List.not_mem_nil, or_false, forall_eq_or_imp, forall_eq, imp_self, implies_true, true_and, and_true]
          refine ⟨fun u h => ⟨?_, by rw [other_four _ _ _ _ _ (by omega)]; exact h.2.1, h.2.2⟩, fun u h => st u h, fun u h => ⟨_, _, _, _, store_four H8.out, st _ hs⟩⟩
          obtain ⟨⟨tv', e', h'⟩, _⟩ := h
          exact ⟨tv', e', st _ h'⟩
      · have h13 := he.1
        clear he
        go_simp
        simp only [h13] at hK ⊢
        exact hK _ _ (Fr.refl _ _) rfl (fun _ _ h => h) (fun _ _ _ h => h)
    case fin =>
      intro vals w' hle hV
      obtain ⟨z0, z1, z2, z3, h8, hs⟩ := hV 14 (by decide)
      have h15 := hV 15 (by decide)
      have hcl := (hV 11 (by decide)).2
      clear hV
      simp only [List.getD_cons_zero, List.getD_cons_succ] at h15 hcl
      have fw := (HY.out w' hle).1
      simp only [frOfU, fillU, List.setIfInBounds_toArray, List.set_cons_succ, List.set_cons_zero, h15]
      go_wp2
      refine bodyPost_ret (results_cell_tmp_row rfl _ _ (w.heap.size + 1) 34 _ _ _ rfl h8 Tryz.underlying34 rfl (by kernel_rfl)) rfl ?_
      have e1 : al.getD i ([], .nil) = (nm, tt) := by rw [List.getD_eq_getElem?_getD, Htt.out]; rfl
      have e2 : wholeE (lv + 1) al (.mk 9 m ns n of) l = r := by
        rw [E9.out, ← HE.out, if_neg (by omega), Int.toNat_natCast, e1, HR.out]
      rw [e2]
      exact ⟨_, rfl, ⟨fw.os, fw.tape, fw.output, fw.size, fun k hk hs => fw.block k hk (fun h => by rcases h with h | h; exact hs h; omega)⟩, hcl.1, Shows.mono (fun k _ h => Nat.le_trans (Nat.le_add_right _ _) h) _ _ hs, hcl.2⟩

/-- The slice pv owns a row of types alone, each in new memory of its own. -/
def TyRow (B : Nat) (w : World) (pv : Value) (ts : List KT) : Prop :=
  ∃ cs : List Value, w.ownsRow B 34 4 pv ts.length cs ∧ ∀ i t, ts[i]? = some t → ∃ x0 x1 x2 x3, cs[i * 4]? = some x0 ∧ cs[i * 4 + 1]? = some x1 ∧ cs[i * 4 + 2]? = some x2 ∧ cs[i * 4 + 3]? = some x3 ∧
    Shows (fun k => B ≤ k ∧ pv.ownBlock ≠ some k) w t (.agg #[x0, x1, x2, x3])

theorem TyRow.nil (B : Nat) (w : World) : TyRow B w (.slice none 0 0) [] := ⟨[], World.ownsRow_nil w B 34 4, by simp⟩

theorem TyRow.fr {B : Nat} {S : Nat → Prop} {w w' : World} {pv : Value} {ts : List KT} (h : TyRow B w pv ts) (f : Fr S w w') (hS : ∀ k, B ≤ k → ¬ S k) : TyRow B w' pv ts := by
  obtain ⟨cs, h1, h2⟩ := h
  refine ⟨cs, ownsRow_fr h1 f (fun k hk => hS k (World.ownsRow.lt h1 k hk).1), fun i t hi => ?_⟩
  obtain ⟨x0, x1, x2, x3, a0, a1, a2, a3, hx⟩ := h2 i t hi
  exact ⟨x0, x1, x2, x3, a0, a1, a2, a3, Shows.fr f (fun k hk => hS k hk.1) _ _ hx⟩

theorem TyRow.push {B : Nat} {w w1 w' : World} {pv pv' : Value} {ts : List KT} {t : KT} {cs : List Value} {y0 y1 y2 y3 : Value} {n : Nat} (h1 : ∀ i t, ts[i]? = some t → ∃ x0 x1 x2 x3, cs[i * 4]? = some x0 ∧ cs[i * 4 + 1]? = some x1 ∧ cs[i * 4 + 2]? = some x2 ∧ cs[i * 4 + 3]? = some x3 ∧
    Shows (fun k => B ≤ k ∧ pv.ownBlock ≠ some k) w t (.agg #[x0, x1, x2, x3])) (hl : cs.length = ts.length * 4) (hn : n = ts.length + 1) (ho : w'.ownsRow B 34 4 pv' n (cs ++ [y0, y1, y2, y3]))
    (f0 : Fr (fun _ => False) w w1) (hg : w1.grownBy w' pv.ownBlock) (hv : pv'.ownBlock = pv.ownBlock ∨ pv'.ownBlock = some w1.heap.size) (ht : Shows (fun k => B ≤ k ∧ pv.ownBlock ≠ some k) w t (.agg #[y0, y1, y2, y3])) : TyRow B w' pv' (ts ++ [t]) := by
  have key : ∀ (t : KT) (v : Value), Shows (fun k => B ≤ k ∧ pv.ownBlock ≠ some k) w t v → Shows (fun k => B ≤ k ∧ pv'.ownBlock ≠ some k) w' t v := by
    intro t v h
    have h1 := Shows.mono (S := fun k => (B ≤ k ∧ pv.ownBlock ≠ some k) ∧ k < w.heap.size) (fun k hk h => ⟨h, hk⟩) _ _ h
    have h2 := Shows.fr f0 (fun _ _ h => h) _ _ h1
    have h3 := Shows.fr (Fr.of_grown hg) (fun k hk e => hk.1.2 e.symm) _ _ h2
    refine Shows.mono (fun k _ h => ⟨h.1.1, fun e => ?_⟩) _ _ h3
    rcases hv with e' | e'
    · rw [e'] at e; exact h.1.2 e
    · rw [e'] at e; cases e; have := f0.size; omega
  refine ⟨cs ++ [y0, y1, y2, y3], by rw [List.length_append]; simpa [hn] using ho, fun i u hi => ?_⟩
  by_cases hlt : i < ts.length
  · rw [List.getElem?_append_left hlt] at hi
    obtain ⟨x0, x1, x2, x3, a0, a1, a2, a3, hx⟩ := h1 i u hi
    refine ⟨x0, x1, x2, x3, ?_, ?_, ?_, ?_, key _ _ hx⟩
    · rw [List.getElem?_append_left (by omega)]; exact a0
    · rw [List.getElem?_append_left (by omega)]; exact a1
    · rw [List.getElem?_append_left (by omega)]; exact a2
    · rw [List.getElem?_append_left (by omega)]; exact a3
  · have hi' := (List.getElem?_eq_some_iff.1 hi).1
    obtain rfl : i = ts.length := by simp at hi'; omega
    rw [List.getElem?_append_right (Nat.le_refl _)] at hi
    simp at hi
    subst hi
    refine ⟨y0, y1, y2, y3, ?_, ?_, ?_, ?_, key _ _ ht⟩
    · rw [List.getElem?_append_right (by omega), show ts.length * 4 - cs.length = 0 by omega]; rfl
    · rw [List.getElem?_append_right (by omega), show ts.length * 4 + 1 - cs.length = 1 by omega]; rfl
    · rw [List.getElem?_append_right (by omega), show ts.length * 4 + 2 - cs.length = 2 by omega]; rfl
    · rw [List.getElem?_append_right (by omega), show ts.length * 4 + 3 - cs.length = 3 by omega]; rfl

/-- A type over such a row. -/
theorem TyRow.shows {B : Nat} {w : World} {pv vn : Value} {ts : List KT} {k n : Nat} {m : Int} {ns : List Txt} (h : TyRow B w pv ts) (hn : ts.length = n) (hk : k ≤ 255) (hn1 : n ≤ 1000) (ht : Texts (fun k => B ≤ k) w ns vn) :
    Shows (fun k => B ≤ k) w (.mk k m ns n (fun i => ts.getD i .nil)) (.agg #[.int .u8 k, .int .i64 m, vn, pv]) := by
  subst hn
  obtain ⟨cs, h1, h2⟩ := h
  refine ⟨vn, pv, rfl, hk, hn1, ht, ?_⟩
  rcases h1.2 with ⟨rfl, h0⟩ | ⟨g, cap, cur, rfl, hb, hg, hle, _, hs, htk⟩
  · exact .inl ⟨h0, none, 0, rfl⟩
  · refine .inr ⟨g, 0, cap, hb, rfl, hle, fun i hi => ?_⟩
    obtain ⟨x0, x1, x2, x3, a0, a1, a2, a3, hx⟩ := h2 i ts[i] (List.getElem?_eq_getElem hi)
    have hplain : ∀ j, (⟨g, 0, none⟩ : Addr).add j = ⟨g, j, none⟩ := fun j => by unfold Addr.add; split <;> simp_all
    have hc := fun (j : Nat) (u : Value) (hu : cs[j]? = some u) => World.ownsRow.cells (g := g) h1 rfl j u hu
    simp only [hplain] at hc
    rw [Nat.zero_add]
    refine ⟨x0, x1, x2, x3, hc _ _ a0, hc _ _ a1, hc _ _ a2, hc _ _ a3, ?_⟩
    have e : ts.getD i .nil = ts[i] := by simp [List.getD, hi]
    show Shows _ w (ts.getD i .nil) _
    rw [e]
    exact Shows.mono (fun k _ h => h.1) _ _ hx

theorem Tryz.infoType : (Tryz.prog.info? 34).map (fun i => (i.zero, i.size, i.bytes)) = some (some (.agg #[.int .u8 0, .int .i64 0, .slice none 0 0, .slice none 0 0]), 4, 64) := by kernel_rfl
end
end Go.Proofs.YtplipjijaaejlaaGreat
