/-
  CouBack, part 32 of what it rests on: KindTypeR, ValType, ValIsE.
-/
import Derived.Test.YtplipjijaaejlaaGreatS31
import Derived.Test.YtplipjijaaejlaaGreatS25
import Derived.Test.YtplipjijaaejlaaGreatS15
import Derived.Test.YtplipjijaaejlaaGreatS20
set_option linter.unusedVariables false
set_option linter.unusedSimpArgs false
set_option maxHeartbeats 64000000
namespace Go.Proofs.YtplipjijaaejlaaGreat
open Go.RowKit
open Go.Lib (hid)
section
def RefS (w : World) (nv : Array Value) (dz : Int) (kv : Value) (b : Nat) (nm : Txt) : List Value → World → Prop
  | [], wx => Boxes w nv dz kv wx ∧ wx.heap[b]? = some (.cells #[.int .u8 9, .int .i64 0, .slice none 0 0, .slice none 0 0] 34 (0, 0))
  | [u], wx => Boxes w nv dz kv wx ∧ wx.heap[b]? = some (.cells #[.int .u8 9, .int .i64 0, .slice none 0 0, .slice none 0 0] 34 (0, 0)) ∧ ∃ gg, u = .slice (some ⟨gg, 0, none⟩) 1 1 ∧ b + 1 ≤ gg ∧ wx.heap[gg]? = some (.cells #[sv nm] 9 (0, 0))
  | _ :: _ :: _, wx => Boxes w nv dz kv wx ∧ ∃ gg, wx.heap[b]? = some (.cells #[.int .u8 9, .int .i64 0, .slice (some ⟨gg, 0, none⟩) 1 1, .slice none 0 0] 34 (0, 0)) ∧ b + 1 ≤ gg ∧ wx.heap[gg]? = some (.cells #[sv nm] 9 (0, 0))

theorem RefS.box {w : World} {nv : Array Value} {dz : Int} {kv : Value} {b : Nat} {nm : Txt} {cvs : List Value} {wx : World} (h : RefS w nv dz kv b nm cvs wx) : Boxes w nv dz kv wx := by
  match cvs with
  | [] => exact h.1
  | [_] => exact h.1
  | _ :: _ :: _ => exact h.1

set_option maxRecDepth 100000 in
theorem type_refa (known : List Txt) (kd n c : Nat) (of : Nat → KN) (d : Nat) (hd2 : d = 1) (hl0 : ¬ known.length = 0) (hkk : kd % 10 = 9) : TypeOne known (.mk kd n c of) d := by
  intro R v vk w dz hdz hd1 hd hsh hk
  have hsh0 := hsh
  obtain ⟨vo, rfl, hkd, hn, hc, ho⟩ := hsh
  obtain ⟨oa, on, oc, rfl⟩ : ∃ oa on oc, vo = .slice oa on oc := by
    rcases ho with ⟨_, aa, cap, rfl⟩ | ⟨g, off, cap, rfl, _⟩
    · exact ⟨aa, 0, cap, rfl⟩
    · exact ⟨_, c, cap, rfl⟩
  obtain ⟨ka, kc, rfl, hks⟩ := hk.shape
  have hl1 := hk.1
  have h10 : (kd : Int) % 10 = 9 := by omega
  have n0 : (0 : Int) ≤ (n : Int) := by omega
  have n1 : (n : Int) ≤ 255 := by omega
  rcases hks with hz | ⟨hkc, g, off, _, rfl, hkcell⟩
  · exact absurd hz hl0
  obtain ⟨q, hq⟩ : ∃ q : Nat, q = n % known.length := ⟨_, rfl⟩
  have hql : q < known.length := by rw [hq]; exact Nat.mod_lt _ (by omega)
  obtain ⟨nm, hnm⟩ : ∃ nm, known[q]? = some nm := ⟨_, List.getElem?_eq_getElem hql⟩
  have hcell := hkcell q nm hnm
  have hnm0 : nm.length ≤ 1000 := hk.2.1 nm (List.mem_of_getElem? hnm)
  have hnm2 : known.getD (n % known.length) [] = nm := by rw [← hq, List.getD_eq_getElem?_getD, hnm]; rfl
  have hqz : Int.tmod (n : Int) (known.length : Int) = (q : Int) := by rw [Int.tmod_eq_emod_of_nonneg n0, hq]; rfl
  have hqz2 : (n : Int) % (known.length : Int) = (q : Int) := by rw [hq]; rfl
  have q0 : (0 : Int) ≤ (q : Int) := by omega
  have q1 : (q : Int) < (known.length : Int) := by omega
  have g1 : IntKind.i64.wrap (q : Int) = (q : Int) := IntWalk.i64_in _ (by omega)
  have g2 : wrap64 (q : Int) = (q : Int) := IntWalk.wrap64_in _ (by omega)
  have b0 : ((known.length : Int) == 0) = false := by simpa using hl0
  have g3 : IntKind.i64.wrap (n : Int) = n := IntWalk.i64_in _ (by omega)
  have g4 : wrap64 (n : Int) = n := IntWalk.wrap64_in _ (by omega)
  have z1 : dz ≤ 1 := by omega
  have HNM := Lib.hid (And.intro hnm0 True.intro)
  have HCELL := Lib.hid (fun (wx : World) (f : Fr (fun _ => False) w wx) => cell_fr (R := fun _ => True) f (fun _ _ h => h) trivial hcell)
  have HT : Hid (typeE known (.mk kd n c of) d = .mk 9 0 [nm] 0 (fun _ => .nil)) := Lib.hid (by
    rw [typeE_mk]
    have e : kindE kd d known = 9 := by unfold kindE; rw [hkk]; simp [hl0]
    rw [e, ← hnm2]
    rfl)
  clear ho hk hkk hd2 hdz hd1 hd hq hkcell hnm hcell hnm0 hnm2 hkc
  generalize known.length = L at *
  go_enter Tryz.func17, Tryz.ntmps17
  go_wp2_with fail
  obtain ⟨hB, hL⟩ := boxes_new w #[.int .u8 kd, .int .u8 n, .slice oa on oc] dz (.slice (some ⟨g, off, none⟩) L kc) #[.int .u8 9, .int .i64 0, .slice none 0 0, .slice none 0 0]
  obtain ⟨w5, hw5⟩ : ∃ w5, w5 = (((((w.alloc (.cells #[.int .u8 kd, .int .u8 n, .slice oa on oc] 24)).alloc (.cells #[.int .i64 dz] 3)).alloc (.cells #[(.slice (some ⟨g, off, none⟩) L kc)] 31)).alloc (.cells #[.int .u8 0, .int .i64 0, .slice none 0 0, .slice none 0 0] 34)).alloc (.cells #[.int .u8 9, .int .i64 0, .slice none 0 0, .slice none 0 0] 34)) := ⟨_, rfl⟩
  rw [← hw5] at hB hL ⊢
  have HB := Lib.hid (And.intro hB hL)
  clear hB hL hw5
  obtain ⟨b4, hb4⟩ : ∃ b4, b4 = w.heap.size + 1 + 1 + 1 + 1 := ⟨_, rfl⟩
  rw [← hb4] at HB ⊢
  have HB4 := Lib.hid hb4
  clear hb4
  refine wp_region_chain (by kernel_rfl) [some 95, some 96, some 97, some 98, some 99, some 100, some 101, some 102, some 103, some 104, some 105, none] rfl (by decide) (by intro d hd; simp at hd ⊢; omega)
    [9, 11] (RefS w #[.int .u8 kd, .int .u8 n, .slice oa on oc] dz (.slice (some ⟨g, off, none⟩) L kc) b4 nm)
    [.free (.slice (some ⟨g, off, none⟩) L kc), .free (.pointer (some ⟨w.heap.size, 1, none⟩)), .free (.int .u8 n), .free (.int .i64 n), .free (.slice (some ⟨g, off, none⟩) L kc), .free (.int .i64 L), .free (.int .i64 q), .free (.pointer (some ⟨g, off + q, none⟩)), .free (.string ⟨nm.toArray⟩), .link none, .free (.pointer (some ⟨b4, 2, none⟩)), .link none]
    (by kernel_rfl) (by kernel_rfl) ?h0 ?step ?fin
  case h0 => exact ⟨HB.out.1.drew, HB.out.2⟩
  case step =>
    intro vals
    simp only [frOfU, fillU, List.setIfInBounds_toArray, List.set_cons_succ, List.set_cons_zero]
    repeat' (first | exact AllOps.nil | refine AllOps.cons ?_ ?_)
    all_goals
      intro cvs wx hS he hu hlim K hK
      simp only [Act.put, List.setIfInBounds_toArray, List.set_cons_succ, List.set_cons_zero, List.getD_cons_zero, List.getD_cons_succ] at hK
      simp only [List.mem_cons, List.not_mem_nil, or_false, forall_eq_or_imp, forall_eq, Region.binds, forall_const, mode_gc, Bool.false_eq_true, false_imp_iff, List.getD_cons_zero, List.getD_cons_succ, OpSort.val, Option.some.injEq, forall_eq', reduceCtorEq, implies_true, true_and, and_true] at he
      have hbx := hS.box
      have r1 := cells_row hbx.2.1 1 _ rfl
      have r2 := cell_of_one hbx.2.2.2.1
      have r3 := HCELL.out wx hbx.1
      unfold sv at r3
      try simp only [h10] at hK
      simp only [List.getElem_toArray, List.getElem_cons_succ, List.getElem_cons_zero] at r1
      clear hbx
      have HSX := Lib.hid hS
      clear hS
    all_goals first | (clear hlim hu; (try simp only [he] at hK ⊢); go_simp; exact hK) | skip
    · obtain rfl := hlim (0 : Nat) rfl
      have h1 := HSX.out
      clear HSX hlim hu
      simp only [List.take_zero, List.map_nil] at h1 hK
      simp only [he] at hK ⊢
      go_simp
      have fa : Fr (fun _ => False) wx (wx.alloc (.cells #[.string ⟨nm.toArray⟩] 9)) := (Fr.refl _ _).alloc _
      have hlb := lt_of_block h1.2
      exact hK _ _ (fun _ h => by cases h) ⟨h1.1.fr fa (fun _ h => absurd h (fun h => h)), box_kept h1.2 fa (fun h => h), _, rfl, by omega, heap_alloc_new _ _⟩
    · obtain rfl := hlim (1 : Nat) rfl
      have h1 := HSX.out
      clear HSX hlim hu
      simp only [List.take_succ_cons, List.take_zero, List.map_cons, List.map_nil] at h1 hK
      obtain ⟨hb, hl, gg, e9, hgg, hgc⟩ := h1
      have z2 : wx.frozen? ⟨b4, 2, none⟩ = false := by simp [World.frozen?, hl]
      obtain ⟨e0, e1, e2, e3⟩ := cell_of_four hl
      have f : Fr (fun k => k = b4) wx (wx.setCell ⟨b4, 2, none⟩ (.slice (some ⟨gg, 0, none⟩) 1 1)) := Fr.set1 (Fr.refl _ _) 2 _
      have HG := Lib.hid (show RefS w #[.int .u8 kd, .int .u8 n, .slice oa on oc] dz (.slice (some ⟨g, off, none⟩) L kc) b4 nm [vals 9, undef] (wx.setCell ⟨b4, 2, none⟩ (.slice (some ⟨gg, 0, none⟩) 1 1)) from ⟨hb.fr f (fun k hk => by have := HB4.out; omega), gg, setCell_row 2 _ hl, hgg, box_kept hgc f (by omega)⟩)
      clear hb hl hgg hgc f
      simp only [he, e9] at hK ⊢
      go_simp
      exact hK undef _ (fun _ h => by cases h) HG.out
  case fin =>
    intro vals w' hS hV
    clear hV
    simp only [List.map_cons, List.map_nil] at hS
    obtain ⟨hbx, gg, hl, hgg, hgc⟩ := hS
    obtain ⟨e0, e1, e2, e3⟩ := cell_of_four hl
    have HF := Lib.hid (And.intro hbx (And.intro hl (And.intro hgg hgc)))
    have q3 := HF.out.1.2.2.2.2
    have z0 : w'.frozen? ⟨w.heap.size + 1 + 1 + 1, 0, none⟩ = false := by simp [World.frozen?, q3]
    have z1' : w'.frozen? ⟨w.heap.size + 1 + 1 + 1, 1, none⟩ = false := by simp [World.frozen?, q3]
    have z2' : w'.frozen? ⟨w.heap.size + 1 + 1 + 1, 2, none⟩ = false := by simp [World.frozen?, q3]
    have z3' : w'.frozen? ⟨w.heap.size + 1 + 1 + 1, 3, none⟩ = false := by simp [World.frozen?, q3]
    obtain ⟨i0, i1, i2, i3⟩ := cell_of_four q3
    clear hbx hl hgg hgc q3
    simp only [frOfU, fillU, List.setIfInBounds_toArray, List.set_cons_succ, List.set_cons_zero]
    go_wp2
    refine bodyPost_ret (results_cell_row rfl _ _ (w.heap.size + 1 + 1 + 1) 34 _ _ _ rfl (store_four HF.out.1.2.2.2.2) Tryz.underlying34 rfl (by kernel_rfl)) rfl ?_
    rw [HT.out]
    have hb4 := HB4.out
    refine ⟨_, rfl, ?_, fr_four _ _ _ _ HF.out.1.1 (fun h => by omega)⟩
    refine Shows.mono (fun k _ (h : b4 + 1 ≤ k) => (by omega : w.heap.size ≤ k)) _ _ (Shows.fr (S := fun k => k = w.heap.size + 1 + 1 + 1) (fr_four (w := w') _ _ _ _ (Fr.refl _ _) (fun _ => rfl)) (fun k (hk : b4 + 1 ≤ k) e => by omega) _ _ ?_)
    refine ⟨_, _, rfl, by omega, by omega, ⟨by simp, fun s hs => by simp at hs; subst hs; exact HNM.out.1, .inr ⟨gg, 0, 1, HF.out.2.2.1, rfl, by simp, fun j s hj => ?_⟩⟩, .inl ⟨rfl, _, _, rfl⟩⟩
    have hj0 := (List.getElem?_eq_some_iff.1 hj).1
    obtain rfl : j = 0 := by simpa using hj0
    simp at hj
    subst hj
    simpa using cell_of_one HF.out.2.2.2

set_option maxRecDepth 100000 in
theorem type_refb (known : List Txt) (kd n c : Nat) (of : Nat → KN) (d : Nat) (hd2 : ¬ d = 1) (hl0 : ¬ known.length = 0) (hkk : kd % 10 = 9) : TypeOne known (.mk kd n c of) d := by
  intro R v vk w dz hdz hd1 hd hsh hk
  have hsh0 := hsh
  obtain ⟨vo, rfl, hkd, hn, hc, ho⟩ := hsh
  obtain ⟨oa, on, oc, rfl⟩ : ∃ oa on oc, vo = .slice oa on oc := by
    rcases ho with ⟨_, aa, cap, rfl⟩ | ⟨g, off, cap, rfl, _⟩
    · exact ⟨aa, 0, cap, rfl⟩
    · exact ⟨_, c, cap, rfl⟩
  obtain ⟨ka, kc, rfl, hks⟩ := hk.shape
  have hl1 := hk.1
  have h10 : (kd : Int) % 10 = 9 := by omega
  have n0 : (0 : Int) ≤ (n : Int) := by omega
  have n1 : (n : Int) ≤ 255 := by omega
  rcases hks with hz | ⟨hkc, g, off, _, rfl, hkcell⟩
  · exact absurd hz hl0
  obtain ⟨q, hq⟩ : ∃ q : Nat, q = n % known.length := ⟨_, rfl⟩
  have hql : q < known.length := by rw [hq]; exact Nat.mod_lt _ (by omega)
  obtain ⟨nm, hnm⟩ : ∃ nm, known[q]? = some nm := ⟨_, List.getElem?_eq_getElem hql⟩
  have hcell := hkcell q nm hnm
  have hnm0 : nm.length ≤ 1000 := hk.2.1 nm (List.mem_of_getElem? hnm)
  have hnm2 : known.getD (n % known.length) [] = nm := by rw [← hq, List.getD_eq_getElem?_getD, hnm]; rfl
  have hqz : Int.tmod (n : Int) (known.length : Int) = (q : Int) := by rw [Int.tmod_eq_emod_of_nonneg n0, hq]; rfl
  have hqz2 : (n : Int) % (known.length : Int) = (q : Int) := by rw [hq]; rfl
  have q0 : (0 : Int) ≤ (q : Int) := by omega
  have q1 : (q : Int) < (known.length : Int) := by omega
  have g1 : IntKind.i64.wrap (q : Int) = (q : Int) := IntWalk.i64_in _ (by omega)
  have g2 : wrap64 (q : Int) = (q : Int) := IntWalk.wrap64_in _ (by omega)
  have b0 : ((known.length : Int) == 0) = false := by simpa using hl0
  have g3 : IntKind.i64.wrap (n : Int) = n := IntWalk.i64_in _ (by omega)
  have g4 : wrap64 (n : Int) = n := IntWalk.wrap64_in _ (by omega)
  have z1 : ¬ dz ≤ 1 := by omega
  have HNM := Lib.hid (And.intro hnm0 True.intro)
  have HCELL := Lib.hid (fun (wx : World) (f : Fr (fun _ => False) w wx) => cell_fr (R := fun _ => True) f (fun _ _ h => h) trivial hcell)
  have HT : Hid (typeE known (.mk kd n c of) d = .mk 9 0 [nm] 0 (fun _ => .nil)) := Lib.hid (by
    rw [typeE_mk]
    have e : kindE kd d known = 9 := by unfold kindE; rw [hkk]; simp [hl0]
    rw [e, ← hnm2]
    rfl)
  clear ho hk hkk hd2 hdz hd1 hd hq hkcell hnm hcell hnm0 hnm2 hkc
  generalize known.length = L at *
  go_enter Tryz.func17, Tryz.ntmps17
  go_wp2_with fail
  obtain ⟨hB, hL⟩ := boxes_new w #[.int .u8 kd, .int .u8 n, .slice oa on oc] dz (.slice (some ⟨g, off, none⟩) L kc) #[.int .u8 9, .int .i64 0, .slice none 0 0, .slice none 0 0]
  obtain ⟨w5, hw5⟩ : ∃ w5, w5 = (((((w.alloc (.cells #[.int .u8 kd, .int .u8 n, .slice oa on oc] 24)).alloc (.cells #[.int .i64 dz] 3)).alloc (.cells #[(.slice (some ⟨g, off, none⟩) L kc)] 31)).alloc (.cells #[.int .u8 0, .int .i64 0, .slice none 0 0, .slice none 0 0] 34)).alloc (.cells #[.int .u8 9, .int .i64 0, .slice none 0 0, .slice none 0 0] 34)) := ⟨_, rfl⟩
  rw [← hw5] at hB hL ⊢
  have HB := Lib.hid (And.intro hB hL)
  clear hB hL hw5
  obtain ⟨b4, hb4⟩ : ∃ b4, b4 = w.heap.size + 1 + 1 + 1 + 1 := ⟨_, rfl⟩
  rw [← hb4] at HB ⊢
  have HB4 := Lib.hid hb4
  clear hb4
  refine wp_region_chain (by kernel_rfl) [some 95, some 96, some 97, some 98, some 99, some 100, some 101, some 102, some 103, some 104, some 105, none] rfl (by decide) (by intro d hd; simp at hd ⊢; omega)
    [9, 11] (RefS w #[.int .u8 kd, .int .u8 n, .slice oa on oc] dz (.slice (some ⟨g, off, none⟩) L kc) b4 nm)
    [.free (.slice (some ⟨g, off, none⟩) L kc), .free (.pointer (some ⟨w.heap.size, 1, none⟩)), .free (.int .u8 n), .free (.int .i64 n), .free (.slice (some ⟨g, off, none⟩) L kc), .free (.int .i64 L), .free (.int .i64 q), .free (.pointer (some ⟨g, off + q, none⟩)), .free (.string ⟨nm.toArray⟩), .link none, .free (.pointer (some ⟨b4, 2, none⟩)), .link none]
    (by kernel_rfl) (by kernel_rfl) ?h0 ?step ?fin
  case h0 => exact ⟨HB.out.1.drew, HB.out.2⟩
  case step =>
    intro vals
    simp only [frOfU, fillU, List.setIfInBounds_toArray, List.set_cons_succ, List.set_cons_zero]
    repeat' (first | exact AllOps.nil | refine AllOps.cons ?_ ?_)
    all_goals
      intro cvs wx hS he hu hlim K hK
      simp only [Act.put, List.setIfInBounds_toArray, List.set_cons_succ, List.set_cons_zero, List.getD_cons_zero, List.getD_cons_succ] at hK
      simp only [List.mem_cons, List.not_mem_nil, or_false, forall_eq_or_imp, forall_eq, Region.binds, forall_const, mode_gc, Bool.false_eq_true, false_imp_iff, List.getD_cons_zero, List.getD_cons_succ, OpSort.val, Option.some.injEq, forall_eq', reduceCtorEq, implies_true, true_and, and_true] at he
      have hbx := hS.box
      have r1 := cells_row hbx.2.1 1 _ rfl
      have r2 := cell_of_one hbx.2.2.2.1
      have r3 := HCELL.out wx hbx.1
      unfold sv at r3
      try simp only [h10] at hK
      simp only [List.getElem_toArray, List.getElem_cons_succ, List.getElem_cons_zero] at r1
      clear hbx
      have HSX := Lib.hid hS
      clear hS
    all_goals first | (clear hlim hu; (try simp only [he] at hK ⊢); go_simp; exact hK) | skip
    · obtain rfl := hlim (0 : Nat) rfl
      have h1 := HSX.out
      clear HSX hlim hu
      simp only [List.take_zero, List.map_nil] at h1 hK
      simp only [he] at hK ⊢
      go_simp
      have fa : Fr (fun _ => False) wx (wx.alloc (.cells #[.string ⟨nm.toArray⟩] 9)) := (Fr.refl _ _).alloc _
      have hlb := lt_of_block h1.2
      exact hK _ _ (fun _ h => by cases h) ⟨h1.1.fr fa (fun _ h => absurd h (fun h => h)), box_kept h1.2 fa (fun h => h), _, rfl, by omega, heap_alloc_new _ _⟩
    · obtain rfl := hlim (1 : Nat) rfl
      have h1 := HSX.out
      clear HSX hlim hu
      simp only [List.take_succ_cons, List.take_zero, List.map_cons, List.map_nil] at h1 hK
      obtain ⟨hb, hl, gg, e9, hgg, hgc⟩ := h1
      have z2 : wx.frozen? ⟨b4, 2, none⟩ = false := by simp [World.frozen?, hl]
      obtain ⟨e0, e1, e2, e3⟩ := cell_of_four hl
      have f : Fr (fun k => k = b4) wx (wx.setCell ⟨b4, 2, none⟩ (.slice (some ⟨gg, 0, none⟩) 1 1)) := Fr.set1 (Fr.refl _ _) 2 _
      have HG := Lib.hid (show RefS w #[.int .u8 kd, .int .u8 n, .slice oa on oc] dz (.slice (some ⟨g, off, none⟩) L kc) b4 nm [vals 9, undef] (wx.setCell ⟨b4, 2, none⟩ (.slice (some ⟨gg, 0, none⟩) 1 1)) from ⟨hb.fr f (fun k hk => by have := HB4.out; omega), gg, setCell_row 2 _ hl, hgg, box_kept hgc f (by omega)⟩)
      clear hb hl hgg hgc f
      simp only [he, e9] at hK ⊢
      go_simp
      exact hK undef _ (fun _ h => by cases h) HG.out
  case fin =>
    intro vals w' hS hV
    clear hV
    simp only [List.map_cons, List.map_nil] at hS
    obtain ⟨hbx, gg, hl, hgg, hgc⟩ := hS
    obtain ⟨e0, e1, e2, e3⟩ := cell_of_four hl
    have HF := Lib.hid (And.intro hbx (And.intro hl (And.intro hgg hgc)))
    have q3 := HF.out.1.2.2.2.2
    have z0 : w'.frozen? ⟨w.heap.size + 1 + 1 + 1, 0, none⟩ = false := by simp [World.frozen?, q3]
    have z1' : w'.frozen? ⟨w.heap.size + 1 + 1 + 1, 1, none⟩ = false := by simp [World.frozen?, q3]
    have z2' : w'.frozen? ⟨w.heap.size + 1 + 1 + 1, 2, none⟩ = false := by simp [World.frozen?, q3]
    have z3' : w'.frozen? ⟨w.heap.size + 1 + 1 + 1, 3, none⟩ = false := by simp [World.frozen?, q3]
    obtain ⟨i0, i1, i2, i3⟩ := cell_of_four q3
    clear hbx hl hgg hgc q3
    simp only [frOfU, fillU, List.setIfInBounds_toArray, List.set_cons_succ, List.set_cons_zero]
    go_wp2
    refine bodyPost_ret (results_cell_row rfl _ _ (w.heap.size + 1 + 1 + 1) 34 _ _ _ rfl (store_four HF.out.1.2.2.2.2) Tryz.underlying34 rfl (by kernel_rfl)) rfl ?_
    rw [HT.out]
    have hb4 := HB4.out
    refine ⟨_, rfl, ?_, fr_four _ _ _ _ HF.out.1.1 (fun h => by omega)⟩
    refine Shows.mono (fun k _ (h : b4 + 1 ≤ k) => (by omega : w.heap.size ≤ k)) _ _ (Shows.fr (S := fun k => k = w.heap.size + 1 + 1 + 1) (fr_four (w := w') _ _ _ _ (Fr.refl _ _) (fun _ => rfl)) (fun k (hk : b4 + 1 ≤ k) e => by omega) _ _ ?_)
    refine ⟨_, _, rfl, by omega, by omega, ⟨by simp, fun s hs => by simp at hs; subst hs; exact HNM.out.1, .inr ⟨gg, 0, 1, HF.out.2.2.1, rfl, by simp, fun j s hj => ?_⟩⟩, .inl ⟨rfl, _, _, rfl⟩⟩
    have hj0 := (List.getElem?_eq_some_iff.1 hj).1
    obtain rfl : j = 0 := by simpa using hj0
    simp at hj
    subst hj
    simpa using cell_of_one HF.out.2.2.2

/-- EVERY NODE, MADE A TYPE. -/
theorem type_any (known : List Txt) (t : KN) : TypeAt known t := by
  induction t with
  | nil => exact fun _ _ _ _ _ _ _ _ _ h => h.elim
  | mk kd n c of ih =>
    intro R v vk w d dz h1 h2 h3 h4 h5
    have key : TypeOne known (.mk kd n c of) d := by
      have h10 : kd % 10 < 10 := Nat.mod_lt _ (by omega)
      rcases (by omega : kd % 10 = 0 ∨ kd % 10 = 1 ∨ kd % 10 = 2 ∨ kd % 10 = 3 ∨ kd % 10 = 4 ∨ kd % 10 = 5 ∨ kd % 10 = 6 ∨ kd % 10 = 7 ∨ kd % 10 = 8 ∨ kd % 10 = 9) with h | h | h | h | h | h | h | h | h | h
      · exact type_k0 known kd n c of d h
      · exact type_k1 known kd n c of d h
      · exact type_k2 known kd n c of d h
      · exact type_k3 known kd n c of d h
      · exact type_k4 known kd n c of d h
      · by_cases hd : d = 1
        · exact type_d5 known kd n c of d hd h
        · exact type_seq known kd n c of d ih (by omega) h
      · by_cases hd : d = 1
        · exact type_d6 known kd n c of d hd h
        · exact type_n6 known kd n c of d ih (by omega) h
      · exact type_n7 known kd n c of d h
      · by_cases hd : d = 1
        · exact type_d8 known kd n c of d hd h
        · exact type_n8 known kd n c of d ih (by omega) h
      · by_cases hl : known.length = 0
        · exact type_e9 known kd n c of d hl h
        · by_cases hd : d = 1
          · exact type_refa known kd n c of d hd hl h
          · exact type_refb known kd n c of d hd hl h
    exact key R v vk w dz h1 h2 h3 h4 h5
end
section
theorem four_pos (d : Nat) : 1 ≤ 4 ^ d := Nat.pos_of_ne_zero (by simp)

theorem sum_le (c : Nat → Nat) (B : Nat) (h : ∀ i, c i ≤ B) (n : Nat) : ((List.range n).map c).sum ≤ n * B := by
  induction n with
  | zero => simp
  | succ n ih => rw [List.range_succ, List.map_append, List.sum_append, Nat.succ_mul]; have := h n; simp; omega

theorem cost_typeE (known : List Txt) (t : KN) : ∀ d, costE (typeE known t d) ≤ 4 ^ d := by
  induction t with
  | nil => exact fun d => four_pos d
  | mk kd n c of ih =>
    intro d
    have h4 := four_pos d
    rw [typeE_mk]
    have hleaf : ∀ k m ns of', k ≠ 5 → costE (.mk k m ns 0 of') = 1 := fun k m ns of' hk => by rw [costE, if_neg hk]; rfl
    have hsub : ∀ i, costE (subE known c of d i) ≤ 4 ^ (d - 1) := by
      intro i
      unfold subE
      split
      · rw [hleaf _ _ _ _ (by omega)]; exact four_pos _
      · exact ih _ _
    by_cases hd : d ≤ 1
    · have hk : kindE kd d known ≠ 5 ∧ kindE kd d known ≠ 6 ∧ kindE kd d known ≠ 8 := by
        unfold kindE
        split <;> omega
      unfold mkE
      split
      · rw [hleaf _ _ _ _ (by omega)]; exact h4
      split
      · omega
      split
      · omega
      split
      · rw [hleaf _ _ _ _ (by omega)]; exact h4
      split
      · rw [hleaf _ _ _ _ (by omega)]; exact h4
      · rw [hleaf _ _ _ _ (by omega)]; exact h4
    · have e : 4 ^ d = 4 * 4 ^ (d - 1) := by
        have : d = (d - 1) + 1 := by omega
        rw [this, Nat.pow_succ, Nat.add_sub_cancel]; omega
      have h1 := four_pos (d - 1)
      unfold mkE
      split
      · rw [hleaf _ _ _ _ (by omega)]; exact h4
      split
      · rw [cost_seq]
        have := hsub 0
        omega
      split
      · rename_i hk
        rw [costE, if_neg (by omega)]
        have := sum_le (fun i => costE (subE known c of d i)) (4 ^ (d - 1)) hsub (1 + n % 3)
        have h3 : (1 + n % 3) * 4 ^ (d - 1) ≤ 3 * 4 ^ (d - 1) := Nat.mul_le_mul_right _ (by omega)
        omega
      split
      · rw [hleaf _ _ _ _ (by omega)]; exact h4
      split
      · rw [hleaf _ _ _ _ (by omega)]; exact h4
      · rename_i hk5 _ _ _
        rw [hleaf _ _ _ _ hk5]; exact h4

set_option maxRecDepth 100000 in
theorem vtype_any (t : KN) (v : Value) (w : World) (h : NShows w t v) :
    Calls Tryz.prog 6 #[v] w fun e w' => ∃ v', e = .returned v' ∧ Shows (fun k => w.heap.size ≤ k) w' (typeE [] t 4) v' ∧ Fr (fun _ => False) w w' := by
  obtain ⟨k, n, a, c, cap, rfl⟩ := h.cells
  obtain ⟨w1, hw1⟩ : ∃ w1, w1 = (w.alloc (.cells #[.int .u8 k, .int .u8 n, .slice a c cap] 24)).alloc (.cells #[.int .u8 0, .int .i64 0, .slice none 0 0, .slice none 0 0] 34) := ⟨_, rfl⟩
  have f1 : Fr (fun _ => False) w w1 := by rw [hw1]; exact ((Fr.refl _ _).alloc _).alloc _
  have q1 : w1.heap[w.heap.size]? = some (.cells #[.int .u8 k, .int .u8 n, .slice a c cap] 24 (0, 0)) := by rw [hw1]; exact heap_alloc_first _ _ _
  have p1 : w1.heap[w.heap.size + 1]? = some (.cells #[.int .u8 0, .int .i64 0, .slice none 0 0, .slice none 0 0] 34 (0, 0)) := by rw [hw1]; exact heap_alloc_two _ _ _
  have hty := type_any [] t (fun _ => True) (.agg #[.int .u8 k, .int .u8 n, .slice a c cap]) (.slice none 0 0) w1 4 4 rfl (by omega) (by omega) (NShows.fr f1 _ _ h) (texts_none _ _ _ _)
  have c0 := cells_row q1 0 _ rfl
  have c1 := cells_row q1 1 _ rfl
  have c2 := cells_row q1 2 _ rfl
  go_enter Tryz.func6, Tryz.ntmps6
  go_upto_region 1 with fail
  rw [← hw1]
  obtain ⟨rb, hrb⟩ : ∃ rb, w.heap.size + 1 = rb := ⟨_, rfl⟩
  rw [hrb] at p1 ⊢
  have HRB := Lib.hid hrb
  have hrbl : rb < w1.heap.size := lt_of_block p1
  have H1 := Lib.hid (And.intro f1 p1)
  clear hw1 f1 q1 p1 hrb h
  go_wp2_with fail
  refine hty.mono ?_
  rintro e w2 ⟨v', rfl, hs, f2⟩
  have p2 := box_kept H1.out.2 f2 (fun h => h)
  have t0 := cells_row p2 0 _ rfl
  have t1 := cells_row p2 1 _ rfl
  have t2 := cells_row p2 2 _ rfl
  have t3 := cells_row p2 3 _ rfl
  have u0 : w2.frozen? ⟨rb, 0, none⟩ = false := by simp [World.frozen?, p2]
  have u1 : w2.frozen? ⟨rb, 1, none⟩ = false := by simp [World.frozen?, p2]
  have u2 : w2.frozen? ⟨rb, 2, none⟩ = false := by simp [World.frozen?, p2]
  have u3 : w2.frozen? ⟨rb, 3, none⟩ = false := by simp [World.frozen?, p2]
  obtain ⟨yk, ym, ya, yn, yc, ya', yn', yc', rfl⟩ := hs.four
  have H2 := Lib.hid (And.intro (H1.out.1.trans f2 (fun _ _ h => h)) (And.intro hs p2))
  clear f2 hs p2 hty c0 c1 c2
  go_wp2
  refine bodyPost_ret (results_cell_row rfl _ _ rb 34 _ _ _ rfl (store_four H2.out.2.2) Tryz.underlying34 rfl (by kernel_rfl)) rfl ?_
  have hb := HRB.out
  have fs : Fr (fun k => k = rb) w2 ((((w2.setCell ⟨rb, 0, none⟩ (.int .u8 yk)).setCell ⟨rb, 1, none⟩ (.int .i64 ym)).setCell ⟨rb, 2, none⟩ (.slice ya yn yc)).setCell ⟨rb, 3, none⟩ (.slice ya' yn' yc')) := fr_four _ _ _ _ (Fr.refl _ _) (fun _ => rfl)
  exact ⟨_, rfl, Shows.mono (fun k _ (hk : w1.heap.size ≤ k) => by omega) _ _ (Shows.fr fs (fun k (hk : w1.heap.size ≤ k) e => by omega) _ _ H2.out.2.1), H2.out.1.trans fs (fun i hi e => by omega)⟩
end
section
def lowE (k : Nat) : Int := if k = 2 then -2147483648 else 0

def highE (k nn n : Nat) : Int := if k = 0 then 1 else if k = 1 then 65535 else if k = 2 then 2147483647 else if k = 7 then (nn : Int) - 1 else if k = 8 then (n : Int) - 1 else 0

def isE : KT → VT → Bool
  | .nil, _ => false
  | .mk _ _ _ _ _, .nil => false
  | .mk k m ns n of, .mk N f s c ov =>
    if k ≠ 3 ∧ Fl.canon f ≠ 0 ∨ k ≠ 4 ∧ s ≠ [] then false
    else if (k < 5 ∨ k = 7) ∧ 0 < c then false
    else if N < lowE k ∨ highE k ns.length n < N ∨ k = 4 ∧ m < s.length ∨ k = 5 ∧ m < c then false
    else if k = 6 ∧ c ≠ n ∨ k = 8 ∧ c ≠ 1 then false
    else (List.range c).all (fun i => isE (of (if k = 6 then i else if k = 8 then N.toNat else 0)) (ov i))

theorem isE_has {k : Nat} {m : Int} {ns : List Txt} {n : Nat} {of : Nat → KT} {N : Int} {f : Nat} {s : Txt} {c : Nat} {ov : Nat → VT} (h : (k < 5 ∨ k = 7) ∧ 0 < c) : isE (.mk k m ns n of) (.mk N f s c ov) = false := by
  rw [isE]
  split
  · rfl
  · first | rw [if_pos h] | rfl

theorem isE_range {k : Nat} {m : Int} {ns : List Txt} {n : Nat} {of : Nat → KT} {N : Int} {f : Nat} {s : Txt} {c : Nat} {ov : Nat → VT} (h : N < lowE k ∨ highE k ns.length n < N ∨ k = 4 ∧ m < s.length ∨ k = 5 ∧ m < c) : isE (.mk k m ns n of) (.mk N f s c ov) = false := by
  rw [isE]
  split
  · rfl
  · split
    · rfl
    · first | rw [if_pos h] | rfl

theorem isE_count {k : Nat} {m : Int} {ns : List Txt} {n : Nat} {of : Nat → KT} {N : Int} {f : Nat} {s : Txt} {c : Nat} {ov : Nat → VT} (h : k = 6 ∧ c ≠ n ∨ k = 8 ∧ c ≠ 1) : isE (.mk k m ns n of) (.mk N f s c ov) = false := by
  rw [isE]
  split
  · rfl
  · split
    · rfl
    · split
      · rfl
      · first | rw [if_pos h] | rfl
end
end Go.Proofs.YtplipjijaaejlaaGreat
