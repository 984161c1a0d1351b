/-
  CouAny, part 7 of what it rests on: KindTypeQ, KindTypeL, KindTypeR, ValType, ValIsE, ValMath, ValFlat.
-/
import Derived.Test.YtplipjijaaejlaaSf
import Derived.Deep.QuietTactic
import Derived.BigQuiet
set_option linter.unusedVariables false
set_option linter.unusedSimpArgs false
set_option maxHeartbeats 32000000
namespace Go.Proofs.Ytplipjijaaejlaa
open Go.RowKit
open Go.Lib (hid)
section
/-- What the function keeps in blocks of its own: the node, how deep, what is known, the result. -/
def Boxes (w : World) (nv : Array Value) (dz : Int) (kv : Value) (wx : World) : Prop :=
  Fr (fun _ => False) w wx ∧ wx.heap[w.heap.size]? = some (.cells nv 24 (0, 0)) ∧ wx.heap[w.heap.size + 1]? = some (.cells #[.int .i64 dz] 3 (0, 0)) ∧ wx.heap[w.heap.size + 1 + 1]? = some (.cells #[kv] 31 (0, 0)) ∧
  wx.heap[w.heap.size + 1 + 1 + 1]? = some (.cells #[.int .u8 0, .int .i64 0, .slice none 0 0, .slice none 0 0] 34 (0, 0))

theorem Boxes.fr {w wx wy : World} {nv : Array Value} {dz : Int} {kv : Value} {S : Nat → Prop} (h : Boxes w nv dz kv wx) (f : Fr S wx wy) (hS : ∀ k, S k → w.heap.size + 1 + 1 + 1 < k) : Boxes w nv dz kv wy := by
  obtain ⟨h0, h1, h2, h3, h4⟩ := h
  exact ⟨h0.trans f (fun i hi s => by have := hS i s; omega), box_kept h1 f (fun s => by have := hS _ s; omega), box_kept h2 f (fun s => by have := hS _ s; omega), box_kept h3 f (fun s => by have := hS _ s; omega), box_kept h4 f (fun s => by have := hS _ s; omega)⟩

theorem Boxes.drew {w wx : World} {nv : Array Value} {dz : Int} {kv : Value} (h : Boxes w nv dz kv wx) : Boxes w nv dz kv wx.drew := ⟨h.1.drew, h.2⟩

theorem boxes_new (w : World) (nv : Array Value) (dz : Int) (kv : Value) (y : Array Value) :
    Boxes w nv dz kv (((((w.alloc (.cells nv 24)).alloc (.cells #[.int .i64 dz] 3)).alloc (.cells #[kv] 31)).alloc (.cells #[.int .u8 0, .int .i64 0, .slice none 0 0, .slice none 0 0] 34)).alloc (.cells y 34)) ∧
    (((((w.alloc (.cells nv 24)).alloc (.cells #[.int .i64 dz] 3)).alloc (.cells #[kv] 31)).alloc (.cells #[.int .u8 0, .int .i64 0, .slice none 0 0, .slice none 0 0] 34)).alloc (.cells y 34)).heap[w.heap.size + 1 + 1 + 1 + 1]? = some (.cells y 34 (0, 0)) := by
  refine ⟨⟨(((((Fr.refl _ _).alloc _).alloc _).alloc _).alloc _).alloc _, ?_, ?_, ?_, heap_alloc_4 _ _ _ _ _ _⟩, ?_⟩
  · rw [Below.heap_alloc _ _ _ (by simp <;> omega), Below.heap_alloc _ _ _ (by simp <;> omega), Below.heap_alloc _ _ _ (by simp <;> omega), Below.heap_alloc _ _ _ (by simp)]
    exact heap_alloc_new _ _
  · rw [Below.heap_alloc _ _ _ (by simp <;> omega), Below.heap_alloc _ _ _ (by simp <;> omega), Below.heap_alloc _ _ _ (by simp)]
    exact heap_alloc_two _ _ _
  · rw [Below.heap_alloc _ _ _ (by simp <;> omega), Below.heap_alloc _ _ _ (by simp)]
    have := heap_alloc_new ((w.alloc (.cells nv 24)).alloc (.cells #[.int .i64 dz] 3)) (.cells #[kv] 31)
    simpa using this
  · have := heap_alloc_new ((((w.alloc (.cells nv 24)).alloc (.cells #[.int .i64 dz] 3)).alloc (.cells #[kv] 31)).alloc (.cells #[.int .u8 0, .int .i64 0, .slice none 0 0, .slice none 0 0] 34)) (.cells y 34)
    simpa using this

/-- One type in a new block of its own. -/
def One (B : Nat) (T : KT) (u : Value) (wx : World) : Prop := ∃ gl y0 y1 y2 y3, u = .slice (some ⟨gl, 0, none⟩) 1 1 ∧ B ≤ gl ∧ wx.heap[gl]? = some (.cells #[y0, y1, y2, y3] 34 (0, 0)) ∧ Shows (fun k => B ≤ k) wx T (.agg #[y0, y1, y2, y3])

theorem One.fr {B : Nat} {T : KT} {u : Value} {wx wy : World} {S : Nat → Prop} (h : One B T u wx) (f : Fr S wx wy) (hS : ∀ k, B ≤ k → ¬ S k) : One B T u wy := by
  obtain ⟨gl, y0, y1, y2, y3, rfl, h1, h2, h3⟩ := h
  exact ⟨gl, y0, y1, y2, y3, rfl, h1, box_kept h2 f (hS _ h1), Shows.fr f hS _ _ h3⟩

theorem mode_gc : (Region.Mode.any == Region.Mode.gc) = false := rfl

/-- The local type: its number and its parts are still to come, or are there. -/
def Loc (b : Nat) (wx : World) : Prop := ∃ x y, wx.heap[b]? = some (.cells #[.int .u8 5, x, .slice none 0 0, y] 34 (0, 0))

def LocLe (b : Nat) (a c : World) : Prop := Fr (fun k => k = b) a c ∧ (Loc b a → Loc b c)

theorem LocLe.refl (b : Nat) (a : World) : LocLe b a a := ⟨Fr.refl _ _, fun h => h⟩

theorem LocLe.of_fr {b : Nat} {a c : World} (f : Fr (fun _ => False) a c) : LocLe b a c := ⟨f.mono (fun _ _ h => absurd h (fun h => h)), fun ⟨x, y, h⟩ => ⟨x, y, box_kept h f (fun h => h)⟩⟩

set_option maxRecDepth 100000 in
theorem type_seq (known : List Txt) (kd n c : Nat) (of : Nat → KN) (d : Nat) (ih : ∀ i, TypeAt known (of i)) (hd2 : 2 ≤ d) (hkk : kd % 10 = 5) : TypeOne known (.mk kd n c of) d := by
  intro R v vk w dz hdz hd1 hd hsh hk
  have hsh0 := hsh
  obtain ⟨vo, rfl, hkd, hn, hc, ho⟩ := hsh
  obtain ⟨oa, on, oc, rfl⟩ : ∃ oa on oc, vo = .slice oa on oc := by
    rcases ho with ⟨_, aa, cap, rfl⟩ | ⟨g, off, cap, rfl, _⟩
    · exact ⟨aa, 0, cap, rfl⟩
    · exact ⟨_, c, cap, rfl⟩
  obtain ⟨ka, kc, rfl, hks⟩ := hk.shape
  have hl1 := hk.1
  have h10 : (kd : Int) % 10 = 5 := by omega
  have n0 : (0 : Int) ≤ (n : Int) := by omega
  have n1 : (n : Int) ≤ 255 := by omega
  have HSUB := Lib.hid (fun (wx : World) (hb : Boxes w #[.int .u8 kd, .int .u8 n, .slice oa on oc] dz (.slice ka known.length kc) wx) (i : Nat) (hi : i ≤ 100) => sub_any known kd n c of ih R (.slice oa on oc) (.slice ka known.length kc) wx d dz w.heap.size (w.heap.size + 1) (w.heap.size + 1 + 1) i hi hdz hd2 hd hb.2.1 hb.2.2.1 hb.2.2.2.1 (NShows.fr hb.1 _ _ hsh0) (hk.fr hb.1 (fun _ _ h => h)))
  have z1 : ¬ dz ≤ 1 := by omega
  obtain ⟨q, hq⟩ : ∃ q : Int, (n : Int) % 60 = q := ⟨_, rfl⟩
  have q0 : 0 ≤ q := by omega
  have q1 : q ≤ 59 := by omega
  have g1 : IntKind.i64.wrap q = q := IntWalk.i64_in _ (by omega)
  have g2 : wrap64 q = q := IntWalk.wrap64_in _ (by omega)
  have g3 : IntKind.i64.wrap (1 + q) = 1 + q := IntWalk.i64_in _ (by omega)
  have g4 : wrap64 (1 + q) = 1 + q := IntWalk.wrap64_in _ (by omega)
  have g5 : q % 256 = q := by omega
  have g6 : Int.tmod (n : Int) 60 = q := by rw [Int.tmod_eq_emod_of_nonneg n0]; exact hq
  have HT : Hid (typeE known (.mk kd n c of) d = .mk 5 (1 + q) [] 1 (fun _ => subE known c of d 0)) := Lib.hid (by
    rw [typeE_mk]
    have e : kindE kd d known = 5 := by unfold kindE; rw [hkk]; simp; omega
    rw [e, ← hq]
    rfl)
  clear ho hk hks hkk hdz hsh0 hd1 hd hd2 ih
  go_enter Try.func15, Try.ntmps15
  go_wp2_with fail
  obtain ⟨hB, hL⟩ := boxes_new w #[.int .u8 kd, .int .u8 n, .slice oa on oc] dz (.slice ka known.length kc) #[.int .u8 5, .int .i64 0, .slice none 0 0, .slice none 0 0]
  obtain ⟨w5, hw5⟩ : ∃ w5, w5 = (((((w.alloc (.cells #[.int .u8 kd, .int .u8 n, .slice oa on oc] 24)).alloc (.cells #[.int .i64 dz] 3)).alloc (.cells #[(.slice ka known.length kc)] 31)).alloc (.cells #[.int .u8 0, .int .i64 0, .slice none 0 0, .slice none 0 0] 34)).alloc (.cells #[.int .u8 5, .int .i64 0, .slice none 0 0, .slice none 0 0] 34)) := ⟨_, rfl⟩
  rw [← hw5] at hB hL ⊢
  have HB := Lib.hid (And.intro hB hL)
  clear hB hL hw5
  obtain ⟨b4, hb4⟩ : ∃ b4, b4 = w.heap.size + 1 + 1 + 1 + 1 := ⟨_, rfl⟩
  rw [← hb4] at HB ⊢
  have HB4 := Lib.hid hb4
  clear hb4
  have HQ := Lib.hid (fun (wx : World) (h : LocLe b4 w5.drew wx) => And.intro (HB.out.1.drew.fr h.1 (fun k hk => by have := HB4.out; omega)) (h.2 ⟨_, _, HB.out.2⟩))
  refine wp_region_toldU (by kernel_rfl) (fun a b => LocLe b4 a b) (LocLe.refl b4) (fun a b c h k => ⟨h.1.trans k.1 (fun _ _ h => h), fun s => k.2 (h.2 s)⟩)
    [some 51, some 52, some 53, some 54, some 55, some 56, some 57, some 58, some 59, none, some 60, none] rfl (by decide) (by intro d hd; simp at hd ⊢; omega)
    (fun _ _ => True)
    (fun i v wx => ([fun v _ => v = .pointer (some ⟨w.heap.size, 1, none⟩), fun v _ => v = .int .u8 n, fun v _ => v = .int .u8 (q), fun v _ => v = .int .i64 (q), fun v _ => v = (.int .i64 (1 + q)),
      fun v _ => v = .func (.func 26) #[] #[.pointer (some ⟨w.heap.size, 0, none⟩), .pointer (some ⟨w.heap.size + 1, 0, none⟩), .pointer (some ⟨w.heap.size + 1 + 1, 0, none⟩)],
      fun v wx => Shows (fun k => b4 + 1 ≤ k) wx (subE known c of d 0) v, fun v wx => One (b4 + 1) (subE known c of d 0) v wx, fun v _ => v = .pointer (some ⟨b4, 1, none⟩),
      fun _ wx => ∃ y, wx.heap[b4]? = some (.cells #[.int .u8 5, .int .i64 (1 + q), .slice none 0 0, y] 34 (0, 0)), fun v _ => v = .pointer (some ⟨b4, 3, none⟩),
      fun _ wx => ∃ x u, wx.heap[b4]? = some (.cells #[.int .u8 5, x, .slice none 0 0, u] 34 (0, 0)) ∧ One (b4 + 1) (subE known c of d 0) u wx] : List (Value → World → Prop)).getD i (fun _ _ => True) v wx)
    (by kernel_rfl) ?u0 ?step ?fin
  case u0 => exact fun _ _ => trivial
  case step =>
    intro vals
    simp only [frOfU, fillU, List.setIfInBounds_toArray, List.set_cons_succ, List.set_cons_zero]
    repeat' (first | exact AllOps.nil | refine AllOps.cons ?_ ?_)
    all_goals
      intro wx hle he hu hw K hK
      clear hu hw
      simp only [Act.put, List.setIfInBounds_toArray, List.set_cons_succ, List.set_cons_zero, List.getD_cons_zero, List.getD_cons_succ] at hK
      simp only [List.mem_cons, List.not_mem_nil, or_false, forall_eq_or_imp, forall_eq, Region.binds, forall_const, mode_gc, Bool.false_eq_true, false_imp_iff, true_and, and_true, List.getD_cons_zero, List.getD_cons_succ] at he
      obtain ⟨hbx, hloc⟩ := HQ.out wx hle
      have r1 := cells_row hbx.2.1 1 _ rfl
      simp only [List.getElem_toArray, List.getElem_cons_succ, List.getElem_cons_zero] at r1
      obtain ⟨lx, ly, hl⟩ := hloc
      have HX := Lib.hid (And.intro hbx hl)
      have z1' : wx.frozen? ⟨b4, 1, none⟩ = false := by simp [World.frozen?, hl]
      have z3' : wx.frozen? ⟨b4, 3, none⟩ = false := by simp [World.frozen?, hl]
      obtain ⟨e0, e1, e2, e3⟩ := cell_of_four hl
      clear hle hbx hl
    all_goals first | ((try simp only [he] at hK ⊢); go_simp; exact hK _ _ (LocLe.refl _ _) rfl (fun _ _ h => h) (fun _ _ _ h => h)) | skip
    · simp only [he] at hK ⊢
      go_simp
      go_at_call 26
      refine (HSUB.out wx HX.out.1 0 (by omega)).mono ?_
      rintro q1 wa ⟨v', rfl, hsv, fa⟩
      have fb : Fr (fun _ => False) wx wa := fa
      refine hK _ _ (LocLe.of_fr fb) (Shows.mono (fun k _ hk => ?_) _ _ hsv) (fun _ _ h => h) (fun j u _ => pres_list ?_ j u)
      · have := lt_of_block HX.out.2
        omega
      · simp only [List.mem_cons, List.not_mem_nil, or_false, forall_eq_or_imp, forall_eq, imp_self, implies_true, true_and, and_true]
        refine ⟨fun u h => Shows.fr fb (fun _ _ h => h) _ _ h, fun u h => One.fr h fb (fun _ _ h => h), fun u h => ?_, fun u h => ?_⟩
        · obtain ⟨y, h⟩ := h
          exact ⟨y, box_kept h fb (fun h => h)⟩
        · obtain ⟨x, y, h, h'⟩ := h
          exact ⟨x, y, box_kept h fb (fun h => h), h'.fr fb (fun _ _ h => h)⟩
    · obtain ⟨tk, tm, ta, tn, tc, ta', tn', tc', e6⟩ := he.four
      rw [e6] at he
      simp only [e6] at hK ⊢
      go_simp
      have fb : Fr (fun _ => False) wx (wx.alloc (.cells #[.int .u8 tk, .int .i64 tm, .slice ta tn tc, .slice ta' tn' tc'] 34)) := (Fr.refl _ _).alloc _
      have hlb := lt_of_block HX.out.2
      refine hK _ _ (LocLe.of_fr fb) ⟨_, _, _, _, _, rfl, by omega, heap_alloc_new _ _, Shows.fr fb (fun _ _ h => h) _ _ he⟩ (fun _ _ h => h) (fun j u _ => pres_list ?_ j u)
      simp only [List.mem_cons, List.not_mem_nil, or_false, forall_eq_or_imp, forall_eq, imp_self, implies_true, true_and, and_true]
      refine ⟨fun u h => Shows.fr fb (fun _ _ h => h) _ _ h, fun u h => One.fr h fb (fun _ _ h => h), fun u h => ?_, fun u h => ?_⟩
      · obtain ⟨y, h⟩ := h
        exact ⟨y, box_kept h fb (fun h => h)⟩
      · obtain ⟨x, y, h, h'⟩ := h
        exact ⟨x, y, box_kept h fb (fun h => h), h'.fr fb (fun _ _ h => h)⟩
    · have h8 := he.1
      have h4 := he.2.1
      clear he
      simp only [h8, h4] at hK ⊢
      go_simp
      have f8 : Fr (fun k => k = b4) wx (wx.setCell ⟨b4, 1, none⟩ (.int .i64 (1 + q))) := Fr.set1 (Fr.refl _ _) 1 _
      have g8 := setCell_row 1 (.int .i64 (1 + q)) HX.out.2
      refine hK undef _ ⟨f8, fun _ => ⟨_, _, g8⟩⟩ ⟨_, g8⟩ (fun _ _ h => h) (fun j u _ => pres_list ?_ j u)
      simp only [List.mem_cons, List.not_mem_nil, or_false, forall_eq_or_imp, forall_eq, imp_self, implies_true, true_and, and_true]
      refine ⟨fun u h => Shows.fr f8 (fun k hk e => by omega) _ _ h, fun u h => One.fr h f8 (fun k hk e => by omega), fun u h => ⟨_, g8⟩, fun u h => ?_⟩
      obtain ⟨x, y, h, h'⟩ := h
      have := h.symm.trans HX.out.2
      simp at this
      obtain ⟨rfl, rfl⟩ := this
      exact ⟨_, _, g8, h'.fr f8 (fun k hk e => by omega)⟩
    · have h10 := he.1
      have h7 := he.2.1
      clear he
      obtain ⟨gl, y0, y1, y2, y3, e7, hgl, hgc, hgs⟩ := h7
      have HG := Lib.hid (And.intro hgl (And.intro hgc hgs))
      clear hgl hgc hgs
      simp only [h10, e7] at hK ⊢
      go_simp
      have f8 : Fr (fun k => k = b4) wx (wx.setCell ⟨b4, 3, none⟩ (.slice (some ⟨gl, 0, none⟩) 1 1)) := Fr.set1 (Fr.refl _ _) 3 _
      have g8 := setCell_row 3 (.slice (some ⟨gl, 0, none⟩) 1 1) HX.out.2
      have hone : One (b4 + 1) (subE known c of d 0) (.slice (some ⟨gl, 0, none⟩) 1 1) wx := ⟨gl, y0, y1, y2, y3, rfl, HG.out.1, HG.out.2.1, HG.out.2.2⟩
      refine hK undef _ ⟨f8, fun _ => ⟨_, _, g8⟩⟩ ⟨_, _, g8, hone.fr f8 (fun k hk e => by omega)⟩ (fun _ _ h => h) (fun j u _ => pres_list ?_ j u)
      simp only [List.mem_cons, List.not_mem_nil, or_false, forall_eq_or_imp, forall_eq, imp_self, implies_true, true_and, and_true]
      refine ⟨fun u h => Shows.fr f8 (fun k hk e => by omega) _ _ h, fun u h => One.fr h f8 (fun k hk e => by omega), fun u h => ?_, fun u h => ?_⟩
      · obtain ⟨y, h⟩ := h
        have := h.symm.trans HX.out.2
        simp at this
        obtain ⟨rfl, rfl⟩ := this
        exact ⟨_, g8⟩
      · exact ⟨_, _, g8, hone.fr f8 (fun k hk e => by omega)⟩
  case fin =>
    intro vals w' hle hV
    obtain ⟨y, h9⟩ := hV 9 (by decide)
    obtain ⟨x, u, h11, hone⟩ := hV 11 (by decide)
    have := h9.symm.trans h11
    simp at this
    obtain ⟨rfl, rfl⟩ := this
    clear hV h9
    have HF := Lib.hid (And.intro (HQ.out w' hle).1 (And.intro h11 hone))
    obtain ⟨gl, y0, y1, y2, y3, rfl, hgl, hgc, hgs⟩ := hone
    obtain ⟨e0, e1, e2, e3⟩ := cell_of_four h11
    have q3 := HF.out.1.2.2.2.2
    have z0 : w'.frozen? ⟨w.heap.size + 1 + 1 + 1, 0, none⟩ = false := by simp [World.frozen?, q3]
    have z1' : w'.frozen? ⟨w.heap.size + 1 + 1 + 1, 1, none⟩ = false := by simp [World.frozen?, q3]
    have z2' : w'.frozen? ⟨w.heap.size + 1 + 1 + 1, 2, none⟩ = false := by simp [World.frozen?, q3]
    have z3' : w'.frozen? ⟨w.heap.size + 1 + 1 + 1, 3, none⟩ = false := by simp [World.frozen?, q3]
    obtain ⟨i0, i1, i2, i3⟩ := cell_of_four q3
    have HG := Lib.hid (And.intro hgl (And.intro hgc hgs))
    clear hgl hgc hgs hle h11 q3
    simp only [frOfU, fillU, List.setIfInBounds_toArray, List.set_cons_succ, List.set_cons_zero]
    go_wp2
    refine bodyPost_ret (results_cell_row rfl _ _ (w.heap.size + 1 + 1 + 1) 34 _ _ _ rfl (store_four HF.out.1.2.2.2.2) Try.underlying34 rfl (by kernel_rfl)) rfl ?_
    rw [HT.out]
    have hb4 := HB4.out
    refine ⟨_, rfl, ?_, fr_four _ _ _ _ HF.out.1.1 (fun h => by omega)⟩
    refine Shows.mono (fun k _ (h : b4 + 1 ≤ k) => (by omega : w.heap.size ≤ k)) _ _ (Shows.fr (S := fun k => k = w.heap.size + 1 + 1 + 1) (fr_four (w := w') _ _ _ _ (Fr.refl _ _) (fun _ => rfl)) (fun k (hk : b4 + 1 ≤ k) e => by omega) _ _ ?_)
    refine ⟨_, _, rfl, by omega, by omega, texts_none _ _ _ _, .inr ⟨gl, 0, 1, HG.out.1, rfl, Nat.le_refl _, fun i hi => ?_⟩⟩
    obtain rfl : i = 0 := by omega
    obtain ⟨c0, c1, c2, c3⟩ := cell_of_four HG.out.2.1
    exact ⟨y0, y1, y2, y3, by simpa using c0, by simpa using c1, by simpa using c2, by simpa using c3, HG.out.2.2⟩
end
section
/-- The local type while its names and parts are gathered. -/
def LBase (w : World) (nv : Array Value) (dz : Int) (kv : Value) (b k : Nat) (pv po : Value) (l : List Txt) (ts : List KT) (wx : World) : Prop :=
  Boxes w nv dz kv wx ∧ wx.heap[b]? = some (.cells #[.int .u8 k, .int .i64 0, pv, po] 34 (0, 0)) ∧
  ItRow txShown 9 1 (b + 1) (fun k => po.ownBlock = some k) wx pv l ∧ ItRow tyShown 34 4 (b + 1) (fun k => pv.ownBlock = some k) wx po ts

theorem LBase.fr {w wx wy : World} {nv : Array Value} {dz : Int} {kv : Value} {b k : Nat} {pv po : Value} {l : List Txt} {ts : List KT} (h : LBase w nv dz kv b k pv po l ts wx) (hb : b = w.heap.size + 1 + 1 + 1 + 1) (f : Fr (fun _ => False) wx wy) : LBase w nv dz kv b k pv po l ts wy :=
  ⟨h.1.fr f (fun _ h => absurd h (fun h => h)), box_kept h.2.1 f (fun h => h), h.2.2.1.fr f (fun _ _ h => absurd h (fun h => h)), h.2.2.2.fr f (fun _ _ h => absurd h (fun h => h))⟩

theorem LBase.drew {w wx : World} {nv : Array Value} {dz : Int} {kv : Value} {b k : Nat} {pv po : Value} {l : List Txt} {ts : List KT} (h : LBase w nv dz kv b k pv po l ts wx) : LBase w nv dz kv b k pv po l ts wx.drew :=
  ⟨h.1.drew, h.2.1, h.2.2.1.fr ((Fr.refl (fun _ => False) _).drew) (fun _ _ h => absurd h (fun h => h)), h.2.2.2.fr ((Fr.refl (fun _ => False) _).drew) (fun _ _ h => absurd h (fun h => h))⟩

theorem map_range_at {α : Type} {f : Nat → α} {n i : Nat} {x : α} (h : ((List.range n).map f)[i]? = some x) : f i = x := by
  rw [List.getElem?_map] at h
  by_cases hlt : i < n
  · rw [List.getElem?_range hlt] at h
    simpa using h
  · rw [List.getElem?_eq_none (by simp; omega)] at h
    cases h

/-- Rows apart: the one goes on where an item is appended to the other. -/
theorem ItRow.apart {α : Type} {D : Shown α} {e : TypeId} {size B : Nat} {w w' : World} {pv v v' : Value} {l : List α} (h : ItRow D e size B (fun k => v.ownBlock = some k) w pv l) (f : Fr (fun k => v.ownBlock = some k) w w') (hv : v'.ownBlock = v.ownBlock ∨ v'.ownBlock = some w.heap.size) :
    ItRow D e size B (fun k => v'.ownBlock = some k) w' pv l := by
  have h1 := h.off (Y := fun k => v.ownBlock = some k ∨ v'.ownBlock = some k) (fun k hk hy => by
    rcases hy with hy | hy
    · exact hy
    · rcases hv with e | e
      · rw [← e]; exact hy
      · rw [e] at hy; cases hy; exact absurd hk (Nat.lt_irrefl _))
  exact (h1.fr f (fun k _ hs => .inl hs)).off (fun k _ hy => .inr hy)

/-- Behind the append to the names; to the parts; ahead of the store. -/
def NameS (w : World) (nv : Array Value) (dz : Int) (kv : Value) (b k : Nat) (pv po : Value) (l : List Txt) (ts : List KT) (nm : Txt) : List Value → World → Prop
  | [], wx => LBase w nv dz kv b k pv po l ts wx
  | [_], wx => LBase w nv dz kv b k pv po l ts wx
  | [_, u], wx => LBase w nv dz kv b k pv po l ts wx ∧ ∃ gg, u = .slice (some ⟨gg, 0, none⟩) 1 1 ∧ wx.heap[gg]? = some (.cells #[sv nm] 9 (0, 0))
  | [_, _, x], wx => Boxes w nv dz kv wx ∧ wx.heap[b]? = some (.cells #[.int .u8 k, .int .i64 0, pv, po] 34 (0, 0)) ∧
      ItRow txShown 9 1 (b + 1) (fun k => po.ownBlock = some k) wx x (l ++ [nm]) ∧ ItRow tyShown 34 4 (b + 1) (fun k => x.ownBlock = some k) wx po ts
  | _ :: _ :: x :: _ :: _, wx => LBase w nv dz kv b k x po (l ++ [nm]) ts wx

theorem NameS.box {w : World} {nv : Array Value} {dz : Int} {kv : Value} {b k : Nat} {pv po : Value} {l : List Txt} {ts : List KT} {nm : Txt} {cvs : List Value} {wx : World} (h : NameS w nv dz kv b k pv po l ts nm cvs wx) : Boxes w nv dz kv wx := by
  match cvs with
  | [] => exact h.1
  | [_] => exact h.1
  | [_, _] => exact h.1.1
  | [_, _, _] => exact h.1
  | _ :: _ :: _ :: _ :: _ => exact h.1

theorem NameS.loc {w : World} {nv : Array Value} {dz : Int} {kv : Value} {b k : Nat} {pv po : Value} {l : List Txt} {ts : List KT} {nm : Txt} {cvs : List Value} {wx : World} (h : NameS w nv dz kv b k pv po l ts nm cvs wx) (hc : cvs.length ≤ 3) : wx.heap[b]? = some (.cells #[.int .u8 k, .int .i64 0, pv, po] 34 (0, 0)) := by
  match cvs with
  | [] => exact h.2.1
  | [_] => exact h.2.1
  | [_, _] => exact h.1.2.1
  | [_, _, _] => exact h.2.1
  | _ :: _ :: _ :: _ :: _ => simp at hc

def PartS (w : World) (nv : Array Value) (dz : Int) (kv : Value) (b k : Nat) (pv po : Value) (l : List Txt) (ts : List KT) (T : KT) : List Value → World → Prop
  | [], wx => LBase w nv dz kv b k pv po l ts wx
  | [v], wx => LBase w nv dz kv b k pv po l ts wx ∧ Shows (fun k => b + 1 ≤ k ∧ ¬ pv.ownBlock = some k ∧ po.ownBlock ≠ some k) wx T v
  | [_, u], wx => LBase w nv dz kv b k pv po l ts wx ∧ ∃ gg y0 y1 y2 y3, u = .slice (some ⟨gg, 0, none⟩) 1 1 ∧ wx.heap[gg]? = some (.cells #[y0, y1, y2, y3] 34 (0, 0)) ∧ Shows (fun k => b + 1 ≤ k ∧ ¬ pv.ownBlock = some k ∧ po.ownBlock ≠ some k) wx T (.agg #[y0, y1, y2, y3])
  | [_, _, x], wx => Boxes w nv dz kv wx ∧ wx.heap[b]? = some (.cells #[.int .u8 k, .int .i64 0, pv, po] 34 (0, 0)) ∧
      ItRow txShown 9 1 (b + 1) (fun k => x.ownBlock = some k) wx pv l ∧ ItRow tyShown 34 4 (b + 1) (fun k => pv.ownBlock = some k) wx x (ts ++ [T])
  | _ :: _ :: x :: _ :: _, wx => LBase w nv dz kv b k pv x l (ts ++ [T]) wx

theorem PartS.box {w : World} {nv : Array Value} {dz : Int} {kv : Value} {b k : Nat} {pv po : Value} {l : List Txt} {ts : List KT} {T : KT} {cvs : List Value} {wx : World} (h : PartS w nv dz kv b k pv po l ts T cvs wx) : Boxes w nv dz kv wx := by
  match cvs with
  | [] => exact h.1
  | [_] => exact h.1.1
  | [_, _] => exact h.1.1
  | [_, _, _] => exact h.1
  | _ :: _ :: _ :: _ :: _ => exact h.1

theorem PartS.loc {w : World} {nv : Array Value} {dz : Int} {kv : Value} {b k : Nat} {pv po : Value} {l : List Txt} {ts : List KT} {T : KT} {cvs : List Value} {wx : World} (h : PartS w nv dz kv b k pv po l ts T cvs wx) (hc : cvs.length ≤ 3) : wx.heap[b]? = some (.cells #[.int .u8 k, .int .i64 0, pv, po] 34 (0, 0)) := by
  match cvs with
  | [] => exact h.2.1
  | [_] => exact h.1.2.1
  | [_, _] => exact h.1.2.1
  | [_, _, _] => exact h.2.1
  | _ :: _ :: _ :: _ :: _ => simp at hc

/-- A cell is stored: the local type's names, its parts. -/
theorem LBase.setNames {w wx : World} {nv : Array Value} {dz : Int} {kv : Value} {b k : Nat} {pv po x : Value} {l : List Txt} {ts : List KT} (hb : b = w.heap.size + 1 + 1 + 1 + 1) (h0 : Boxes w nv dz kv wx) (h1 : wx.heap[b]? = some (.cells #[.int .u8 k, .int .i64 0, pv, po] 34 (0, 0)))
    (h2 : ItRow txShown 9 1 (b + 1) (fun k => po.ownBlock = some k) wx x l) (h3 : ItRow tyShown 34 4 (b + 1) (fun k => x.ownBlock = some k) wx po ts) : LBase w nv dz kv b k x po l ts (wx.setCell ⟨b, 2, none⟩ x) := by
  have f : Fr (fun k => k = b) wx (wx.setCell ⟨b, 2, none⟩ x) := Fr.set1 (Fr.refl _ _) 2 _
  exact ⟨h0.fr f (fun k hk => by omega), setCell_row 2 x h1, h2.fr f (fun k hk e => by omega), h3.fr f (fun k hk e => by omega)⟩

theorem LBase.setParts {w wx : World} {nv : Array Value} {dz : Int} {kv : Value} {b k : Nat} {pv po x : Value} {l : List Txt} {ts : List KT} (hb : b = w.heap.size + 1 + 1 + 1 + 1) (h0 : Boxes w nv dz kv wx) (h1 : wx.heap[b]? = some (.cells #[.int .u8 k, .int .i64 0, pv, po] 34 (0, 0)))
    (h2 : ItRow txShown 9 1 (b + 1) (fun k => x.ownBlock = some k) wx pv l) (h3 : ItRow tyShown 34 4 (b + 1) (fun k => pv.ownBlock = some k) wx x ts) : LBase w nv dz kv b k pv x l ts (wx.setCell ⟨b, 3, none⟩ x) := by
  have f : Fr (fun k => k = b) wx (wx.setCell ⟨b, 3, none⟩ x) := Fr.set1 (Fr.refl _ _) 3 _
  exact ⟨h0.fr f (fun k hk => by omega), setCell_row 3 x h1, h2.fr f (fun k hk e => by omega), h3.fr f (fun k hk e => by omega)⟩

theorem Try.infoTxt : (Try.prog.info? 9).map (fun i => (i.zero, i.size, i.bytes)) = some (some (.string ByteArray.empty), 1, 16) := by kernel_rfl

set_option maxRecDepth 100000 in
theorem type_n6 (known : List Txt) (kd n c : Nat) (of : Nat → KN) (d : Nat) (ih : ∀ i, TypeAt known (of i)) (hd2 : 2 ≤ d) (hkk : kd % 10 = 6) : TypeOne known (.mk kd n c of) d := by
  intro R v vk w dz hdz hd1 hd hsh hk
  have hsh0 := hsh
  obtain ⟨vo, rfl, hkd, hn, hc, ho⟩ := hsh
  obtain ⟨oa, on, oc, rfl⟩ : ∃ oa on oc, vo = .slice oa on oc := by
    rcases ho with ⟨_, aa, cap, rfl⟩ | ⟨g, off, cap, rfl, _⟩
    · exact ⟨aa, 0, cap, rfl⟩
    · exact ⟨_, c, cap, rfl⟩
  obtain ⟨ka, kc, rfl, hks⟩ := hk.shape
  have hl1 := hk.1
  have h10 : (kd : Int) % 10 = 6 := by omega
  have n0 : (0 : Int) ≤ (n : Int) := by omega
  have n1 : (n : Int) ≤ 255 := by omega
  have HSUB := Lib.hid (fun (wx : World) (hb : Boxes w #[.int .u8 kd, .int .u8 n, .slice oa on oc] dz (.slice ka known.length kc) wx) (i : Nat) (hi : i ≤ 100) => sub_any known kd n c of ih R (.slice oa on oc) (.slice ka known.length kc) wx d dz w.heap.size (w.heap.size + 1) (w.heap.size + 1 + 1) i hi hdz hd2 hd hb.2.1 hb.2.2.1 hb.2.2.2.1 (NShows.fr hb.1 _ _ hsh0) (hk.fr hb.1 (fun _ _ h => h)))
  have z1 : ¬ dz ≤ 1 := by omega
  obtain ⟨q, hq⟩ : ∃ q : Int, (n : Int) % 3 = q := ⟨_, rfl⟩
  have q0 : 0 ≤ q := by omega
  have q1 : q ≤ 2 := by omega
  have g1 : IntKind.i64.wrap q = q := IntWalk.i64_in _ (by omega)
  have g2 : wrap64 q = q := IntWalk.wrap64_in _ (by omega)
  have g3 : IntKind.i64.wrap (1 + q) = 1 + q := IntWalk.i64_in _ (by omega)
  have g4 : wrap64 (1 + q) = 1 + q := IntWalk.wrap64_in _ (by omega)
  have g5 : q % 256 = q := by omega
  have g6 : Int.tmod (n : Int) 3 = q := by rw [Int.tmod_eq_emod_of_nonneg n0]; exact hq
  obtain ⟨N, hN⟩ : ∃ N : Nat, N = 1 + n % 3 := ⟨_, rfl⟩
  have hqN : 1 + q = (N : Int) := by omega
  have hN3 : N ≤ 3 := by omega
  have HN := Lib.hid hN
  have HT : Hid (typeE known (.mk kd n c of) d = .mk 6 0 ((List.range N).map (fun i => nameT i n)) N (subE known c of d)) := Lib.hid (by
    rw [typeE_mk]
    have e : kindE kd d known = 6 := by unfold kindE; rw [hkk]; simp; omega
    rw [e, hN]
    rfl)
  clear hN
  clear ho hk hks hkk hdz hsh0 hd1 hd ih hd2 hq
  go_enter Try.func15, Try.ntmps15
  go_wp2_with fail
  obtain ⟨hB, hL⟩ := boxes_new w #[.int .u8 kd, .int .u8 n, .slice oa on oc] dz (.slice ka known.length kc) #[.int .u8 6, .int .i64 0, .slice none 0 0, .slice none 0 0]
  obtain ⟨w5, hw5⟩ : ∃ w5, w5 = (((((w.alloc (.cells #[.int .u8 kd, .int .u8 n, .slice oa on oc] 24)).alloc (.cells #[.int .i64 dz] 3)).alloc (.cells #[(.slice ka known.length kc)] 31)).alloc (.cells #[.int .u8 0, .int .i64 0, .slice none 0 0, .slice none 0 0] 34)).alloc (.cells #[.int .u8 6, .int .i64 0, .slice none 0 0, .slice none 0 0] 34)) := ⟨_, rfl⟩
  rw [← hw5] at hB hL ⊢
  have HB := Lib.hid (And.intro hB hL)
  clear hB hL
  obtain ⟨b4, hb4⟩ : ∃ b4, b4 = w.heap.size + 1 + 1 + 1 + 1 := ⟨_, rfl⟩
  rw [← hb4] at HB ⊢
  have HB4 := Lib.hid hb4
  have HLB := Lib.hid (show LBase w #[.int .u8 kd, .int .u8 n, .slice oa on oc] dz (.slice ka known.length kc) b4 6 (.slice none 0 0) (.slice none 0 0) [] [] w5 from ⟨HB.out.1, HB.out.2, ItRow.nil _ _ _ _ _ _, ItRow.nil _ _ _ _ _ _⟩)
  clear hb4 hw5
  go_loopg [10, 70] N (fun G u10 u70 wr => ∃ (j : Nat) (pv po : Value), j ≤ N ∧ G = N - j ∧ u70 = .int .i64 j ∧ Hid (LBase w #[.int .u8 kd, .int .u8 n, .slice oa on oc] dz (.slice ka known.length kc) b4 6 pv po ((List.range j).map (fun i => nameT i n)) ((List.range j).map (subE known c of d)) wr))
  case atStart => exact ⟨0, _, _, Nat.zero_le _, rfl, by go_num, HLB⟩
  case round =>
    obtain ⟨j, pv, po, hj, rfl, rfl, HI⟩ := hrel
    obtain ⟨pa, pn, pc, rfl⟩ : ∃ pa pn pc, pv = .slice pa pn pc := by obtain ⟨a, c, e⟩ := HI.out.2.2.1.slice; exact ⟨a, _, c, e⟩
    obtain ⟨qa, qn, qc, rfl⟩ : ∃ qa qn qc, po = .slice qa qn qc := by obtain ⟨a, c, e⟩ := HI.out.2.2.2.slice; exact ⟨a, _, c, e⟩
    by_cases hlt : j < N
    · have hlen : ((List.range j).map (fun i => nameT i n)).length ≤ 3 := by simp; omega
      have HLEN := Lib.hid hlen
      clear hlen
      have hcall := Lib.hid (fun (wx : World) => nameOf_any j (by omega) n n0 n1 wx)
      go_wp2_with fail
      refine wp_region_chain (by kernel_rfl) [some 73, some 74, some 75, some 76, some 77, some 78, some 79, some 80, some 81, none] rfl (by decide) (by intro d hd; simp at hd ⊢; omega)
        [5, 6, 7, 9] (NameS w #[.int .u8 kd, .int .u8 n, .slice oa on oc] dz (.slice ka known.length kc) b4 6 (.slice pa pn pc) (.slice qa qn qc) ((List.range j).map (fun i => nameT i n)) ((List.range j).map (subE known c of d)) (nameT j n))
        [.free (.pointer (some ⟨b4, 2, none⟩)), .free (.slice pa pn pc), .free (.int .i64 j), .free (.pointer (some ⟨w.heap.size, 1, none⟩)), .free (.int .u8 n), .link (some (sv (nameT j n))), .link none, .link none, .free (.pointer (some ⟨b4, 2, none⟩)), .link none]
        (by kernel_rfl) (by kernel_rfl) ?h0 ?step ?fin
      case h0 => exact LBase.drew HI.out
      case step =>
        intro vals
        simp only [frOfU, fillU, List.setIfInBounds_toArray, List.set_cons_succ, List.set_cons_zero]
        repeat' (first | exact AllOps.nil | refine AllOps.cons ?_ ?_)
        all_goals
          intro cvs wx hS he hu hlim K hK
          simp only [Act.put, List.setIfInBounds_toArray, List.set_cons_succ, List.set_cons_zero, List.getD_cons_zero, List.getD_cons_succ] at hK
          simp only [List.mem_cons, List.not_mem_nil, or_false, forall_eq_or_imp, forall_eq, Region.binds, forall_const, mode_gc, Bool.false_eq_true, false_imp_iff, List.getD_cons_zero, List.getD_cons_succ, OpSort.val, Option.some.injEq, forall_eq', reduceCtorEq, implies_true, true_and, and_true] at he
          have hbx := hS.box
          have r1 := cells_row hbx.2.1 1 _ rfl
          simp only [List.getElem_toArray, List.getElem_cons_succ, List.getElem_cons_zero] at r1
          clear hbx
          have HSX := Lib.hid hS
          clear hS
        all_goals first | (clear hlim hu; (try simp only [he] at hK ⊢); go_simp; exact hK) | skip
        · have hl := HSX.out.loc (Nat.le_trans (hlim 2 7 rfl (by kernel_rfl)) (by omega))
          obtain ⟨e0, e1, e2, e3⟩ := cell_of_four hl
          clear hlim hu hl
          simp only [he] at hK ⊢
          go_simp
          exact hK
        · obtain rfl := hlim (0 : Nat) rfl
          have h1 := HSX.out
          simp only [List.take_zero, List.map_nil] at h1
          simp only [he] at hK ⊢
          go_simp
          go_at_call 27
          refine (hcall.out wx).mono ?_
          rintro e1 wa ⟨rfl, fa⟩
          exact hK _ _ (fun _ h => by cases h; rfl) (LBase.fr h1 HB4.out fa)
        · obtain rfl := hlim (1 : Nat) rfl
          have h1 := HSX.out
          clear HSX hlim hu
          simp only [List.take_succ_cons, List.take_zero, List.map_cons, List.map_nil] at h1 hK
          unfold sv at he
          simp only [he] at hK ⊢
          go_simp
          have fa : Fr (fun _ => False) wx (wx.alloc (.cells #[.string ⟨(nameT j n).toArray⟩] 9)) := (Fr.refl _ _).alloc _
          exact hK _ _ (fun _ h => by cases h) ⟨LBase.fr h1 HB4.out fa, _, rfl, heap_alloc_new _ _⟩
        · obtain rfl := hlim (2 : Nat) rfl
          have h1 := HSX.out
          clear HSX hlim hu
          simp only [List.take_succ_cons, List.take_zero, List.map_cons, List.map_nil] at h1 hK
          obtain ⟨hb, gg, e6, hgg⟩ := h1
          rw [if_pos (by rfl)]
          have hsz := lt_of_block hb.2.1
          refine opWp_push (pv := (.slice pa pn pc)) (l := (List.range j).map (fun i => nameT i n)) (B := b4 + 1) (X := fun k => (Value.slice qa qn qc).ownBlock = some k) (D := txShown) (.tmp 74) (.tmp 79) 31 31 rfl Try.underlying31 Try.underlying31 Try.infoTxt rfl (by decide) he.1 hb.2.2.1 gg e6 (news := [sv (nameT j n)]) hgg rfl (by intro u hu; simp at hu; subst hu; rfl) (by have := HLEN.out; omega) (by omega) (by omega) (fun k hk => (hb.2.2.2.own k hk).2.1) (nameT j n) rfl ?_
          intro v' w6 hrow f6 hv
          refine hK _ _ (fun _ h => by cases h) ⟨hb.1.fr f6 (fun k hk => by have := (hb.2.2.1.own k hk).1; have := HB4.out; omega), box_kept hb.2.1 f6 (fun hk => by have := (hb.2.2.1.own _ hk).1; omega), hrow, hb.2.2.2.apart f6 hv⟩
        · obtain rfl := hlim (3 : Nat) rfl
          have h1 := HSX.out
          clear HSX hlim hu
          simp only [List.take_succ_cons, List.take_zero, List.map_cons, List.map_nil] at h1 hK
          obtain ⟨hb, hl, hr, ho⟩ := h1
          obtain ⟨xa, xn, xc, e7⟩ : ∃ xa xn xc, vals 7 = .slice xa xn xc := by obtain ⟨a, c, e⟩ := hr.slice; exact ⟨a, _, c, e⟩
          have z2 : wx.frozen? ⟨b4, 2, none⟩ = false := by simp [World.frozen?, hl]
          obtain ⟨e0, e1, e2, e3⟩ := cell_of_four hl
          have HG := Lib.hid (LBase.setNames HB4.out hb hl hr ho)
          clear hb hl hr ho
          rw [e7] at HG
          simp only [he, e7] at hK ⊢
          go_simp
          exact hK undef _ (fun _ h => by cases h) HG.out
      case fin =>
        intro vals w6 hS hV
        clear hV
        simp only [List.map_cons, List.map_nil] at hS
        obtain ⟨pa2, pn2, pc2, e7⟩ : ∃ xa xn xc, vals 7 = .slice xa xn xc := by obtain ⟨a, c, e⟩ := hS.2.2.1.slice; exact ⟨a, _, c, e⟩
        rw [show NameS w #[.int .u8 kd, .int .u8 n, .slice oa on oc] dz (.slice ka known.length kc) b4 6 (.slice pa pn pc) (.slice qa qn qc) ((List.range j).map (fun i => nameT i n)) ((List.range j).map (subE known c of d)) (nameT j n) [vals 5, vals 6, vals 7, vals 9] w6 = LBase w #[.int .u8 kd, .int .u8 n, .slice oa on oc] dz (.slice ka known.length kc) b4 6 (vals 7) (.slice qa qn qc) ((List.range j).map (fun i => nameT i n) ++ [nameT j n]) ((List.range j).map (subE known c of d)) w6 from rfl, e7] at hS
        have HS := Lib.hid hS
        clear hS e7
        simp only [frOfU, fillU, List.setIfInBounds_toArray, List.set_cons_succ, List.set_cons_zero]
        go_wp2_with fail
        refine wp_region_chain (by kernel_rfl) [some 84, some 85, some 86, some 87, some 88, some 89, some 90, some 91, none] rfl (by decide) (by intro d hd; simp at hd ⊢; omega)
          [4, 5, 6, 8] (PartS w #[.int .u8 kd, .int .u8 n, .slice oa on oc] dz (.slice ka known.length kc) b4 6 (.slice pa2 pn2 pc2) (.slice qa qn qc) ((List.range j).map (fun i => nameT i n) ++ [nameT j n]) ((List.range j).map (subE known c of d)) (subE known c of d j))
          [.free (.pointer (some ⟨b4, 3, none⟩)), .free (.slice qa qn qc), .free (.func (.func 26) #[] #[.pointer (some ⟨w.heap.size, 0, none⟩), .pointer (some ⟨w.heap.size + 1, 0, none⟩), .pointer (some ⟨w.heap.size + 1 + 1, 0, none⟩)]), .free (.int .i64 j),
           .link none, .link none, .link none, .free (.pointer (some ⟨b4, 3, none⟩)), .link none]
          (by kernel_rfl) (by kernel_rfl) ?h0 ?step ?fin
        case h0 => exact LBase.drew HS.out
        case step =>
          intro vals2
          simp only [frOfU, fillU, List.setIfInBounds_toArray, List.set_cons_succ, List.set_cons_zero]
          repeat' (first | exact AllOps.nil | refine AllOps.cons ?_ ?_)
          all_goals
            intro cvs wx hS he hu hlim K hK
            simp only [Act.put, List.setIfInBounds_toArray, List.set_cons_succ, List.set_cons_zero, List.getD_cons_zero, List.getD_cons_succ] at hK
            simp only [List.mem_cons, List.not_mem_nil, or_false, forall_eq_or_imp, forall_eq, Region.binds, forall_const, mode_gc, Bool.false_eq_true, false_imp_iff, List.getD_cons_zero, List.getD_cons_succ, OpSort.val, Option.some.injEq, forall_eq', reduceCtorEq, implies_true, true_and, and_true] at he
            have hbx := hS.box
            have HBX := Lib.hid hbx
            clear hbx
            have HSX := Lib.hid hS
            clear hS
          all_goals first | (clear hlim hu; (try simp only [he] at hK ⊢); go_simp; exact hK) | skip
          · have hl := HSX.out.loc (Nat.le_trans (hlim 2 6 rfl (by kernel_rfl)) (by omega))
            obtain ⟨e0, e1, e2, e3⟩ := cell_of_four hl
            clear hlim hu hl
            simp only [he] at hK ⊢
            go_simp
            exact hK
          · obtain rfl := hlim (0 : Nat) rfl
            have h1 := HSX.out
            simp only [List.take_zero, List.map_nil] at h1
            simp only [he] at hK ⊢
            go_simp
            go_at_call 26
            refine (HSUB.out wx HBX.out j (by omega)).mono ?_
            rintro e1 wa ⟨v', rfl, hsv, fa⟩
            refine hK _ _ (fun _ h => by cases h) ⟨LBase.fr h1 HB4.out fa, Shows.mono (fun k _ hk => ⟨by have := lt_of_block h1.2.1; omega, fun e => ?_, fun e => ?_⟩) _ _ hsv⟩
            · have := (h1.2.2.1.own k e).2.1; omega
            · have := (h1.2.2.2.own k e).2.1; omega
          · obtain rfl := hlim (1 : Nat) rfl
            have h1 := HSX.out
            clear HSX hlim hu
            simp only [List.take_succ_cons, List.take_zero, List.map_cons, List.map_nil] at h1 hK
            obtain ⟨hb, hs⟩ := h1
            obtain ⟨tk, tm, ta, tn, tc, ta', tn', tc', e4⟩ := hs.four
            rw [e4] at hs
            simp only [he, e4] at hK ⊢
            go_simp
            have fa : Fr (fun _ => False) wx (wx.alloc (.cells #[.int .u8 tk, .int .i64 tm, .slice ta tn tc, .slice ta' tn' tc'] 34)) := (Fr.refl _ _).alloc _
            exact hK _ _ (fun _ h => by cases h) ⟨LBase.fr hb HB4.out fa, _, _, _, _, _, rfl, heap_alloc_new _ _, Shows.fr fa (fun _ _ h => h) _ _ hs⟩
          · obtain rfl := hlim (2 : Nat) rfl
            have h1 := HSX.out
            clear HSX hlim hu
            simp only [List.take_succ_cons, List.take_zero, List.map_cons, List.map_nil] at h1 hK
            obtain ⟨hb, gg, y0, y1, y2, y3, e6, hgg, hss⟩ := h1
            rw [if_pos (by rfl)]
            have hsz := lt_of_block hb.2.1
            obtain ⟨yk, ym, ya, yn, yc, ya2, yn2, yc2, ey0, ey1, ey2, ey3⟩ := hss.cells
            refine opWp_push (pv := (.slice qa qn qc)) (l := (List.range j).map (subE known c of d)) (B := b4 + 1) (X := fun k => (Value.slice pa2 pn2 pc2).ownBlock = some k) (D := tyShown) (.tmp 85) (.tmp 89) 32 32 rfl Try.underlying32 Try.underlying32 Try.infoType rfl (by decide) he hb.2.2.2 gg e6 (news := [y0, y1, y2, y3]) hgg rfl (by intro u hu; simp at hu; rcases hu with rfl | rfl | rfl | rfl; exact ey0 ▸ rfl; exact ey1 ▸ rfl; exact ey2 ▸ rfl; exact ey3 ▸ rfl) (by simp; omega) (by omega) (by omega) (fun k hk => (hb.2.2.1.own k hk).2.1) (subE known c of d j) ⟨_, _, _, _, rfl, hss⟩ ?_
            intro v' w8 hrow f6 hv
            refine hK _ _ (fun _ h => by cases h) ⟨hb.1.fr f6 (fun k hk => by have := (hb.2.2.2.own k hk).1; have := HB4.out; omega), box_kept hb.2.1 f6 (fun hk => by have := (hb.2.2.2.own _ hk).1; omega), hb.2.2.1.apart f6 hv, hrow⟩
          · obtain rfl := hlim (3 : Nat) rfl
            have h1 := HSX.out
            clear HSX hlim hu
            simp only [List.take_succ_cons, List.take_zero, List.map_cons, List.map_nil] at h1 hK
            obtain ⟨hb, hl, hr, ho⟩ := h1
            obtain ⟨xa, xn, xc, e7⟩ : ∃ xa xn xc, vals2 6 = .slice xa xn xc := by obtain ⟨a, c, e⟩ := ho.slice; exact ⟨a, _, c, e⟩
            have z2 : wx.frozen? ⟨b4, 3, none⟩ = false := by simp [World.frozen?, hl]
            obtain ⟨e0, e1, e2, e3⟩ := cell_of_four hl
            have HG := Lib.hid (LBase.setParts HB4.out hb hl hr ho)
            clear hb hl hr ho
            rw [e7] at HG
            simp only [he, e7] at hK ⊢
            go_simp
            exact hK undef _ (fun _ h => by cases h) HG.out
        case fin =>
          intro vals2 w7 hS hV
          clear hV
          simp only [List.map_cons, List.map_nil] at hS
          have hS2 : LBase w #[.int .u8 kd, .int .u8 n, .slice oa on oc] dz (.slice ka known.length kc) b4 6 (.slice pa2 pn2 pc2) (vals2 6) ((List.range (j + 1)).map (fun i => nameT i n)) ((List.range (j + 1)).map (subE known c of d)) w7 := by
            rw [List.range_succ, List.map_append, List.map_append]
            exact hS
          have HS2 := Lib.hid hS2
          clear hS hS2
          simp only [frOfU, fillU, List.setIfInBounds_toArray, List.set_cons_succ, List.set_cons_zero]
          go_wp2
          go_roundg (N - (j + 1))
          case measure => omega
          case rel => exact ⟨j + 1, _, _, by omega, rfl, by go_num, HS2⟩
    · obtain rfl : j = N := by omega
      have HF := HI
      have hl := HF.out.2.1
      obtain ⟨e0, e1, e2, e3⟩ := cell_of_four hl
      have q3 := HF.out.1.2.2.2.2
      have z0 : wr.frozen? ⟨w.heap.size + 1 + 1 + 1, 0, none⟩ = false := by simp [World.frozen?, q3]
      have z1' : wr.frozen? ⟨w.heap.size + 1 + 1 + 1, 1, none⟩ = false := by simp [World.frozen?, q3]
      have z2' : wr.frozen? ⟨w.heap.size + 1 + 1 + 1, 2, none⟩ = false := by simp [World.frozen?, q3]
      have z3' : wr.frozen? ⟨w.heap.size + 1 + 1 + 1, 3, none⟩ = false := by simp [World.frozen?, q3]
      obtain ⟨i0, i1, i2, i3⟩ := cell_of_four q3
      clear hl q3
      go_wp2
      refine bodyPost_ret (results_cell_row rfl _ _ (w.heap.size + 1 + 1 + 1) 34 _ _ _ rfl (store_four HF.out.1.2.2.2.2) Try.underlying34 rfl (by kernel_rfl)) rfl ?_
      rw [HT.out]
      have hb4 := HB4.out
      refine ⟨_, rfl, ?_, fr_four _ _ _ _ HF.out.1.1 (fun h => by omega)⟩
      refine Shows.mono (fun k _ (h : b4 + 1 ≤ k) => (by omega : w.heap.size ≤ k)) _ _ (Shows.fr (S := fun k => k = w.heap.size + 1 + 1 + 1) (fr_four (w := wr) _ _ _ _ (Fr.refl _ _) (fun _ => rfl)) (fun k (hk : b4 + 1 ≤ k) e => by omega) _ _ ?_)
      exact ItRow.parts HF.out.2.2.2 (n := j) (by simp) (by omega) (by omega) ((HF.out.2.2.1.texts (by simp; omega) (by intro s hs; obtain ⟨i, _, rfl⟩ := List.mem_map.1 hs; simp [nameT])).mono (fun k _ h => h.1)) _ (fun i x hi => map_range_at hi)

set_option maxRecDepth 100000 in
theorem type_n8 (known : List Txt) (kd n c : Nat) (of : Nat → KN) (d : Nat) (ih : ∀ i, TypeAt known (of i)) (hd2 : 2 ≤ d) (hkk : kd % 10 = 8) : TypeOne known (.mk kd n c of) d := by
  intro R v vk w dz hdz hd1 hd hsh hk
  have hsh0 := hsh
  obtain ⟨vo, rfl, hkd, hn, hc, ho⟩ := hsh
  obtain ⟨oa, on, oc, rfl⟩ : ∃ oa on oc, vo = .slice oa on oc := by
    rcases ho with ⟨_, aa, cap, rfl⟩ | ⟨g, off, cap, rfl, _⟩
    · exact ⟨aa, 0, cap, rfl⟩
    · exact ⟨_, c, cap, rfl⟩
  obtain ⟨ka, kc, rfl, hks⟩ := hk.shape
  have hl1 := hk.1
  have h10 : (kd : Int) % 10 = 8 := by omega
  have n0 : (0 : Int) ≤ (n : Int) := by omega
  have n1 : (n : Int) ≤ 255 := by omega
  have HSUB := Lib.hid (fun (wx : World) (hb : Boxes w #[.int .u8 kd, .int .u8 n, .slice oa on oc] dz (.slice ka known.length kc) wx) (i : Nat) (hi : i ≤ 100) => sub_any known kd n c of ih R (.slice oa on oc) (.slice ka known.length kc) wx d dz w.heap.size (w.heap.size + 1) (w.heap.size + 1 + 1) i hi hdz hd2 hd hb.2.1 hb.2.2.1 hb.2.2.2.1 (NShows.fr hb.1 _ _ hsh0) (hk.fr hb.1 (fun _ _ h => h)))
  have z1 : ¬ dz ≤ 1 := by omega
  obtain ⟨q, hq⟩ : ∃ q : Int, (n : Int) % 3 = q := ⟨_, rfl⟩
  have q0 : 0 ≤ q := by omega
  have q1 : q ≤ 2 := by omega
  have g1 : IntKind.i64.wrap q = q := IntWalk.i64_in _ (by omega)
  have g2 : wrap64 q = q := IntWalk.wrap64_in _ (by omega)
  have g3 : IntKind.i64.wrap (1 + q) = 1 + q := IntWalk.i64_in _ (by omega)
  have g4 : wrap64 (1 + q) = 1 + q := IntWalk.wrap64_in _ (by omega)
  have g5 : q % 256 = q := by omega
  have g6 : Int.tmod (n : Int) 3 = q := by rw [Int.tmod_eq_emod_of_nonneg n0]; exact hq
  obtain ⟨N, hN⟩ : ∃ N : Nat, N = 1 + n % 3 := ⟨_, rfl⟩
  have hqN : 1 + q = (N : Int) := by omega
  have hN3 : N ≤ 3 := by omega
  have HN := Lib.hid hN
  have HT : Hid (typeE known (.mk kd n c of) d = .mk 8 0 ((List.range N).map (fun i => nameT i n)) N (subE known c of d)) := Lib.hid (by
    rw [typeE_mk]
    have e : kindE kd d known = 8 := by unfold kindE; rw [hkk]; simp; omega
    rw [e, hN]
    rfl)
  clear hN
  clear ho hk hks hkk hdz hsh0 hd1 hd ih hd2 hq
  go_enter Try.func15, Try.ntmps15
  go_wp2_with fail
  obtain ⟨hB, hL⟩ := boxes_new w #[.int .u8 kd, .int .u8 n, .slice oa on oc] dz (.slice ka known.length kc) #[.int .u8 8, .int .i64 0, .slice none 0 0, .slice none 0 0]
  obtain ⟨w5, hw5⟩ : ∃ w5, w5 = (((((w.alloc (.cells #[.int .u8 kd, .int .u8 n, .slice oa on oc] 24)).alloc (.cells #[.int .i64 dz] 3)).alloc (.cells #[(.slice ka known.length kc)] 31)).alloc (.cells #[.int .u8 0, .int .i64 0, .slice none 0 0, .slice none 0 0] 34)).alloc (.cells #[.int .u8 8, .int .i64 0, .slice none 0 0, .slice none 0 0] 34)) := ⟨_, rfl⟩
  rw [← hw5] at hB hL ⊢
  have HB := Lib.hid (And.intro hB hL)
  clear hB hL
  obtain ⟨b4, hb4⟩ : ∃ b4, b4 = w.heap.size + 1 + 1 + 1 + 1 := ⟨_, rfl⟩
  rw [← hb4] at HB ⊢
  have HB4 := Lib.hid hb4
  have HLB := Lib.hid (show LBase w #[.int .u8 kd, .int .u8 n, .slice oa on oc] dz (.slice ka known.length kc) b4 8 (.slice none 0 0) (.slice none 0 0) [] [] w5 from ⟨HB.out.1, HB.out.2, ItRow.nil _ _ _ _ _ _, ItRow.nil _ _ _ _ _ _⟩)
  clear hb4 hw5
  go_loopg [10, 70] N (fun G u10 u70 wr => ∃ (j : Nat) (pv po : Value), j ≤ N ∧ G = N - j ∧ u70 = .int .i64 j ∧ Hid (LBase w #[.int .u8 kd, .int .u8 n, .slice oa on oc] dz (.slice ka known.length kc) b4 8 pv po ((List.range j).map (fun i => nameT i n)) ((List.range j).map (subE known c of d)) wr))
  case atStart => exact ⟨0, _, _, Nat.zero_le _, rfl, by go_num, HLB⟩
  case round =>
    obtain ⟨j, pv, po, hj, rfl, rfl, HI⟩ := hrel
    obtain ⟨pa, pn, pc, rfl⟩ : ∃ pa pn pc, pv = .slice pa pn pc := by obtain ⟨a, c, e⟩ := HI.out.2.2.1.slice; exact ⟨a, _, c, e⟩
    obtain ⟨qa, qn, qc, rfl⟩ : ∃ qa qn qc, po = .slice qa qn qc := by obtain ⟨a, c, e⟩ := HI.out.2.2.2.slice; exact ⟨a, _, c, e⟩
    by_cases hlt : j < N
    · have hlen : ((List.range j).map (fun i => nameT i n)).length ≤ 3 := by simp; omega
      have HLEN := Lib.hid hlen
      clear hlen
      have hcall := Lib.hid (fun (wx : World) => nameOf_any j (by omega) n n0 n1 wx)
      go_wp2_with fail
      refine wp_region_chain (by kernel_rfl) [some 73, some 74, some 75, some 76, some 77, some 78, some 79, some 80, some 81, none] rfl (by decide) (by intro d hd; simp at hd ⊢; omega)
        [5, 6, 7, 9] (NameS w #[.int .u8 kd, .int .u8 n, .slice oa on oc] dz (.slice ka known.length kc) b4 8 (.slice pa pn pc) (.slice qa qn qc) ((List.range j).map (fun i => nameT i n)) ((List.range j).map (subE known c of d)) (nameT j n))
        [.free (.pointer (some ⟨b4, 2, none⟩)), .free (.slice pa pn pc), .free (.int .i64 j), .free (.pointer (some ⟨w.heap.size, 1, none⟩)), .free (.int .u8 n), .link (some (sv (nameT j n))), .link none, .link none, .free (.pointer (some ⟨b4, 2, none⟩)), .link none]
        (by kernel_rfl) (by kernel_rfl) ?h0 ?step ?fin
      case h0 => exact LBase.drew HI.out
      case step =>
        intro vals
        simp only [frOfU, fillU, List.setIfInBounds_toArray, List.set_cons_succ, List.set_cons_zero]
        repeat' (first | exact AllOps.nil | refine AllOps.cons ?_ ?_)
        all_goals
          intro cvs wx hS he hu hlim K hK
          simp only [Act.put, List.setIfInBounds_toArray, List.set_cons_succ, List.set_cons_zero, List.getD_cons_zero, List.getD_cons_succ] at hK
          simp only [List.mem_cons, List.not_mem_nil, or_false, forall_eq_or_imp, forall_eq, Region.binds, forall_const, mode_gc, Bool.false_eq_true, false_imp_iff, List.getD_cons_zero, List.getD_cons_succ, OpSort.val, Option.some.injEq, forall_eq', reduceCtorEq, implies_true, true_and, and_true] at he
          have hbx := hS.box
          have r1 := cells_row hbx.2.1 1 _ rfl
          simp only [List.getElem_toArray, List.getElem_cons_succ, List.getElem_cons_zero] at r1
          clear hbx
          have HSX := Lib.hid hS
          clear hS
        all_goals first | (clear hlim hu; (try simp only [he] at hK ⊢); go_simp; exact hK) | skip
        · have hl := HSX.out.loc (Nat.le_trans (hlim 2 7 rfl (by kernel_rfl)) (by omega))
          obtain ⟨e0, e1, e2, e3⟩ := cell_of_four hl
          clear hlim hu hl
          simp only [he] at hK ⊢
          go_simp
          exact hK
        · obtain rfl := hlim (0 : Nat) rfl
          have h1 := HSX.out
          simp only [List.take_zero, List.map_nil] at h1
          simp only [he] at hK ⊢
          go_simp
          go_at_call 27
          refine (hcall.out wx).mono ?_
          rintro e1 wa ⟨rfl, fa⟩
          exact hK _ _ (fun _ h => by cases h; rfl) (LBase.fr h1 HB4.out fa)
        · obtain rfl := hlim (1 : Nat) rfl
          have h1 := HSX.out
          clear HSX hlim hu
          simp only [List.take_succ_cons, List.take_zero, List.map_cons, List.map_nil] at h1 hK
          unfold sv at he
          simp only [he] at hK ⊢
          go_simp
          have fa : Fr (fun _ => False) wx (wx.alloc (.cells #[.string ⟨(nameT j n).toArray⟩] 9)) := (Fr.refl _ _).alloc _
          exact hK _ _ (fun _ h => by cases h) ⟨LBase.fr h1 HB4.out fa, _, rfl, heap_alloc_new _ _⟩
        · obtain rfl := hlim (2 : Nat) rfl
          have h1 := HSX.out
          clear HSX hlim hu
          simp only [List.take_succ_cons, List.take_zero, List.map_cons, List.map_nil] at h1 hK
          obtain ⟨hb, gg, e6, hgg⟩ := h1
          rw [if_pos (by rfl)]
          have hsz := lt_of_block hb.2.1
          refine opWp_push (pv := (.slice pa pn pc)) (l := (List.range j).map (fun i => nameT i n)) (B := b4 + 1) (X := fun k => (Value.slice qa qn qc).ownBlock = some k) (D := txShown) (.tmp 74) (.tmp 79) 31 31 rfl Try.underlying31 Try.underlying31 Try.infoTxt rfl (by decide) he.1 hb.2.2.1 gg e6 (news := [sv (nameT j n)]) hgg rfl (by intro u hu; simp at hu; subst hu; rfl) (by have := HLEN.out; omega) (by omega) (by omega) (fun k hk => (hb.2.2.2.own k hk).2.1) (nameT j n) rfl ?_
          intro v' w6 hrow f6 hv
          refine hK _ _ (fun _ h => by cases h) ⟨hb.1.fr f6 (fun k hk => by have := (hb.2.2.1.own k hk).1; have := HB4.out; omega), box_kept hb.2.1 f6 (fun hk => by have := (hb.2.2.1.own _ hk).1; omega), hrow, hb.2.2.2.apart f6 hv⟩
        · obtain rfl := hlim (3 : Nat) rfl
          have h1 := HSX.out
          clear HSX hlim hu
          simp only [List.take_succ_cons, List.take_zero, List.map_cons, List.map_nil] at h1 hK
          obtain ⟨hb, hl, hr, ho⟩ := h1
          obtain ⟨xa, xn, xc, e7⟩ : ∃ xa xn xc, vals 7 = .slice xa xn xc := by obtain ⟨a, c, e⟩ := hr.slice; exact ⟨a, _, c, e⟩
          have z2 : wx.frozen? ⟨b4, 2, none⟩ = false := by simp [World.frozen?, hl]
          obtain ⟨e0, e1, e2, e3⟩ := cell_of_four hl
          have HG := Lib.hid (LBase.setNames HB4.out hb hl hr ho)
          clear hb hl hr ho
          rw [e7] at HG
          simp only [he, e7] at hK ⊢
          go_simp
          exact hK undef _ (fun _ h => by cases h) HG.out
      case fin =>
        intro vals w6 hS hV
        clear hV
        simp only [List.map_cons, List.map_nil] at hS
        obtain ⟨pa2, pn2, pc2, e7⟩ : ∃ xa xn xc, vals 7 = .slice xa xn xc := by obtain ⟨a, c, e⟩ := hS.2.2.1.slice; exact ⟨a, _, c, e⟩
        rw [show NameS w #[.int .u8 kd, .int .u8 n, .slice oa on oc] dz (.slice ka known.length kc) b4 8 (.slice pa pn pc) (.slice qa qn qc) ((List.range j).map (fun i => nameT i n)) ((List.range j).map (subE known c of d)) (nameT j n) [vals 5, vals 6, vals 7, vals 9] w6 = LBase w #[.int .u8 kd, .int .u8 n, .slice oa on oc] dz (.slice ka known.length kc) b4 8 (vals 7) (.slice qa qn qc) ((List.range j).map (fun i => nameT i n) ++ [nameT j n]) ((List.range j).map (subE known c of d)) w6 from rfl, e7] at hS
        have HS := Lib.hid hS
        clear hS e7
        simp only [frOfU, fillU, List.setIfInBounds_toArray, List.set_cons_succ, List.set_cons_zero]
        go_wp2_with fail
        refine wp_region_chain (by kernel_rfl) [some 84, some 85, some 86, some 87, some 88, some 89, some 90, some 91, none] rfl (by decide) (by intro d hd; simp at hd ⊢; omega)
          [4, 5, 6, 8] (PartS w #[.int .u8 kd, .int .u8 n, .slice oa on oc] dz (.slice ka known.length kc) b4 8 (.slice pa2 pn2 pc2) (.slice qa qn qc) ((List.range j).map (fun i => nameT i n) ++ [nameT j n]) ((List.range j).map (subE known c of d)) (subE known c of d j))
          [.free (.pointer (some ⟨b4, 3, none⟩)), .free (.slice qa qn qc), .free (.func (.func 26) #[] #[.pointer (some ⟨w.heap.size, 0, none⟩), .pointer (some ⟨w.heap.size + 1, 0, none⟩), .pointer (some ⟨w.heap.size + 1 + 1, 0, none⟩)]), .free (.int .i64 j),
           .link none, .link none, .link none, .free (.pointer (some ⟨b4, 3, none⟩)), .link none]
          (by kernel_rfl) (by kernel_rfl) ?h0 ?step ?fin
        case h0 => exact LBase.drew HS.out
        case step =>
          intro vals2
          simp only [frOfU, fillU, List.setIfInBounds_toArray, List.set_cons_succ, List.set_cons_zero]
          repeat' (first | exact AllOps.nil | refine AllOps.cons ?_ ?_)
          all_goals
            intro cvs wx hS he hu hlim K hK
            simp only [Act.put, List.setIfInBounds_toArray, List.set_cons_succ, List.set_cons_zero, List.getD_cons_zero, List.getD_cons_succ] at hK
            simp only [List.mem_cons, List.not_mem_nil, or_false, forall_eq_or_imp, forall_eq, Region.binds, forall_const, mode_gc, Bool.false_eq_true, false_imp_iff, List.getD_cons_zero, List.getD_cons_succ, OpSort.val, Option.some.injEq, forall_eq', reduceCtorEq, implies_true, true_and, and_true] at he
            have hbx := hS.box
            have HBX := Lib.hid hbx
            clear hbx
            have HSX := Lib.hid hS
            clear hS
          all_goals first | (clear hlim hu; (try simp only [he] at hK ⊢); go_simp; exact hK) | skip
          · have hl := HSX.out.loc (Nat.le_trans (hlim 2 6 rfl (by kernel_rfl)) (by omega))
            obtain ⟨e0, e1, e2, e3⟩ := cell_of_four hl
            clear hlim hu hl
            simp only [he] at hK ⊢
            go_simp
            exact hK
          · obtain rfl := hlim (0 : Nat) rfl
            have h1 := HSX.out
            simp only [List.take_zero, List.map_nil] at h1
            simp only [he] at hK ⊢
            go_simp
            go_at_call 26
            refine (HSUB.out wx HBX.out j (by omega)).mono ?_
            rintro e1 wa ⟨v', rfl, hsv, fa⟩
            refine hK _ _ (fun _ h => by cases h) ⟨LBase.fr h1 HB4.out fa, Shows.mono (fun k _ hk => ⟨by have := lt_of_block h1.2.1; omega, fun e => ?_, fun e => ?_⟩) _ _ hsv⟩
            · have := (h1.2.2.1.own k e).2.1; omega
            · have := (h1.2.2.2.own k e).2.1; omega
          · obtain rfl := hlim (1 : Nat) rfl
            have h1 := HSX.out
            clear HSX hlim hu
            simp only [List.take_succ_cons, List.take_zero, List.map_cons, List.map_nil] at h1 hK
            obtain ⟨hb, hs⟩ := h1
            obtain ⟨tk, tm, ta, tn, tc, ta', tn', tc', e4⟩ := hs.four
            rw [e4] at hs
            simp only [he, e4] at hK ⊢
            go_simp
            have fa : Fr (fun _ => False) wx (wx.alloc (.cells #[.int .u8 tk, .int .i64 tm, .slice ta tn tc, .slice ta' tn' tc'] 34)) := (Fr.refl _ _).alloc _
            exact hK _ _ (fun _ h => by cases h) ⟨LBase.fr hb HB4.out fa, _, _, _, _, _, rfl, heap_alloc_new _ _, Shows.fr fa (fun _ _ h => h) _ _ hs⟩
          · obtain rfl := hlim (2 : Nat) rfl
            have h1 := HSX.out
            clear HSX hlim hu
            simp only [List.take_succ_cons, List.take_zero, List.map_cons, List.map_nil] at h1 hK
            obtain ⟨hb, gg, y0, y1, y2, y3, e6, hgg, hss⟩ := h1
            rw [if_pos (by rfl)]
            have hsz := lt_of_block hb.2.1
            obtain ⟨yk, ym, ya, yn, yc, ya2, yn2, yc2, ey0, ey1, ey2, ey3⟩ := hss.cells
            refine opWp_push (pv := (.slice qa qn qc)) (l := (List.range j).map (subE known c of d)) (B := b4 + 1) (X := fun k => (Value.slice pa2 pn2 pc2).ownBlock = some k) (D := tyShown) (.tmp 85) (.tmp 89) 32 32 rfl Try.underlying32 Try.underlying32 Try.infoType rfl (by decide) he hb.2.2.2 gg e6 (news := [y0, y1, y2, y3]) hgg rfl (by intro u hu; simp at hu; rcases hu with rfl | rfl | rfl | rfl; exact ey0 ▸ rfl; exact ey1 ▸ rfl; exact ey2 ▸ rfl; exact ey3 ▸ rfl) (by simp; omega) (by omega) (by omega) (fun k hk => (hb.2.2.1.own k hk).2.1) (subE known c of d j) ⟨_, _, _, _, rfl, hss⟩ ?_
            intro v' w8 hrow f6 hv
            refine hK _ _ (fun _ h => by cases h) ⟨hb.1.fr f6 (fun k hk => by have := (hb.2.2.2.own k hk).1; have := HB4.out; omega), box_kept hb.2.1 f6 (fun hk => by have := (hb.2.2.2.own _ hk).1; omega), hb.2.2.1.apart f6 hv, hrow⟩
          · obtain rfl := hlim (3 : Nat) rfl
            have h1 := HSX.out
            clear HSX hlim hu
            simp only [List.take_succ_cons, List.take_zero, List.map_cons, List.map_nil] at h1 hK
            obtain ⟨hb, hl, hr, ho⟩ := h1
            obtain ⟨xa, xn, xc, e7⟩ : ∃ xa xn xc, vals2 6 = .slice xa xn xc := by obtain ⟨a, c, e⟩ := ho.slice; exact ⟨a, _, c, e⟩
            have z2 : wx.frozen? ⟨b4, 3, none⟩ = false := by simp [World.frozen?, hl]
            obtain ⟨e0, e1, e2, e3⟩ := cell_of_four hl
            have HG := Lib.hid (LBase.setParts HB4.out hb hl hr ho)
            clear hb hl hr ho
            rw [e7] at HG
            simp only [he, e7] at hK ⊢
            go_simp
            exact hK undef _ (fun _ h => by cases h) HG.out
        case fin =>
          intro vals2 w7 hS hV
          clear hV
          simp only [List.map_cons, List.map_nil] at hS
          have hS2 : LBase w #[.int .u8 kd, .int .u8 n, .slice oa on oc] dz (.slice ka known.length kc) b4 8 (.slice pa2 pn2 pc2) (vals2 6) ((List.range (j + 1)).map (fun i => nameT i n)) ((List.range (j + 1)).map (subE known c of d)) w7 := by
            rw [List.range_succ, List.map_append, List.map_append]
            exact hS
          have HS2 := Lib.hid hS2
          clear hS hS2
          simp only [frOfU, fillU, List.setIfInBounds_toArray, List.set_cons_succ, List.set_cons_zero]
          go_wp2
          go_roundg (N - (j + 1))
          case measure => omega
          case rel => exact ⟨j + 1, _, _, by omega, rfl, by go_num, HS2⟩
    · obtain rfl : j = N := by omega
      have HF := HI
      have hl := HF.out.2.1
      obtain ⟨e0, e1, e2, e3⟩ := cell_of_four hl
      have q3 := HF.out.1.2.2.2.2
      have z0 : wr.frozen? ⟨w.heap.size + 1 + 1 + 1, 0, none⟩ = false := by simp [World.frozen?, q3]
      have z1' : wr.frozen? ⟨w.heap.size + 1 + 1 + 1, 1, none⟩ = false := by simp [World.frozen?, q3]
      have z2' : wr.frozen? ⟨w.heap.size + 1 + 1 + 1, 2, none⟩ = false := by simp [World.frozen?, q3]
      have z3' : wr.frozen? ⟨w.heap.size + 1 + 1 + 1, 3, none⟩ = false := by simp [World.frozen?, q3]
      obtain ⟨i0, i1, i2, i3⟩ := cell_of_four q3
      clear hl q3
      go_wp2
      refine bodyPost_ret (results_cell_row rfl _ _ (w.heap.size + 1 + 1 + 1) 34 _ _ _ rfl (store_four HF.out.1.2.2.2.2) Try.underlying34 rfl (by kernel_rfl)) rfl ?_
      rw [HT.out]
      have hb4 := HB4.out
      refine ⟨_, rfl, ?_, fr_four _ _ _ _ HF.out.1.1 (fun h => by omega)⟩
      refine Shows.mono (fun k _ (h : b4 + 1 ≤ k) => (by omega : w.heap.size ≤ k)) _ _ (Shows.fr (S := fun k => k = w.heap.size + 1 + 1 + 1) (fr_four (w := wr) _ _ _ _ (Fr.refl _ _) (fun _ => rfl)) (fun k (hk : b4 + 1 ≤ k) e => by omega) _ _ ?_)
      exact ItRow.parts HF.out.2.2.2 (n := j) (by simp) (by omega) (by omega) ((HF.out.2.2.1.texts (by simp; omega) (by intro s hs; obtain ⟨i, _, rfl⟩ := List.mem_map.1 hs; simp [nameT])).mono (fun k _ h => h.1)) _ (fun i x hi => map_range_at hi)

set_option maxRecDepth 100000 in
theorem type_n7a (known : List Txt) (kd n c : Nat) (of : Nat → KN) (d : Nat) (hd2 : d = 1) (hkk : kd % 10 = 7) : TypeOne known (.mk kd n c of) d := by
  intro R v vk w dz hdz hd1 hd hsh hk
  have hsh0 := hsh
  obtain ⟨vo, rfl, hkd, hn, hc, ho⟩ := hsh
  obtain ⟨oa, on, oc, rfl⟩ : ∃ oa on oc, vo = .slice oa on oc := by
    rcases ho with ⟨_, aa, cap, rfl⟩ | ⟨g, off, cap, rfl, _⟩
    · exact ⟨aa, 0, cap, rfl⟩
    · exact ⟨_, c, cap, rfl⟩
  obtain ⟨ka, kc, rfl, hks⟩ := hk.shape
  have hl1 := hk.1
  have h10 : (kd : Int) % 10 = 7 := by omega
  have n0 : (0 : Int) ≤ (n : Int) := by omega
  have n1 : (n : Int) ≤ 255 := by omega
  have z1 : dz ≤ 1 := by omega
  obtain ⟨q, hq⟩ : ∃ q : Int, (n : Int) % 3 = q := ⟨_, rfl⟩
  have q0 : 0 ≤ q := by omega
  have q1 : q ≤ 2 := by omega
  have g1 : IntKind.i64.wrap q = q := IntWalk.i64_in _ (by omega)
  have g2 : wrap64 q = q := IntWalk.wrap64_in _ (by omega)
  have g3 : IntKind.i64.wrap (1 + q) = 1 + q := IntWalk.i64_in _ (by omega)
  have g4 : wrap64 (1 + q) = 1 + q := IntWalk.wrap64_in _ (by omega)
  have g5 : q % 256 = q := by omega
  have g6 : Int.tmod (n : Int) 3 = q := by rw [Int.tmod_eq_emod_of_nonneg n0]; exact hq
  obtain ⟨N, hN⟩ : ∃ N : Nat, N = 1 + n % 3 := ⟨_, rfl⟩
  have hqN : 1 + q = (N : Int) := by omega
  have hN3 : N ≤ 3 := by omega
  have HN := Lib.hid hN
  have HT : Hid (typeE known (.mk kd n c of) d = .mk 7 0 ((List.range N).map (fun i => nameT i n)) 0 (fun _ => .nil)) := Lib.hid (by
    rw [typeE_mk]
    have e : kindE kd d known = 7 := by unfold kindE; rw [hkk]; simp
    rw [e, hN]
    rfl)
  clear hN
  clear ho hk hks hkk hdz hsh0 hd1 hd hd2 hq
  go_enter Try.func15, Try.ntmps15
  go_wp2_with fail
  obtain ⟨hB, hL⟩ := boxes_new w #[.int .u8 kd, .int .u8 n, .slice oa on oc] dz (.slice ka known.length kc) #[.int .u8 7, .int .i64 0, .slice none 0 0, .slice none 0 0]
  obtain ⟨w5, hw5⟩ : ∃ w5, w5 = (((((w.alloc (.cells #[.int .u8 kd, .int .u8 n, .slice oa on oc] 24)).alloc (.cells #[.int .i64 dz] 3)).alloc (.cells #[(.slice ka known.length kc)] 31)).alloc (.cells #[.int .u8 0, .int .i64 0, .slice none 0 0, .slice none 0 0] 34)).alloc (.cells #[.int .u8 7, .int .i64 0, .slice none 0 0, .slice none 0 0] 34)) := ⟨_, rfl⟩
  rw [← hw5] at hB hL ⊢
  have HB := Lib.hid (And.intro hB hL)
  clear hB hL
  obtain ⟨b4, hb4⟩ : ∃ b4, b4 = w.heap.size + 1 + 1 + 1 + 1 := ⟨_, rfl⟩
  rw [← hb4] at HB ⊢
  have HB4 := Lib.hid hb4
  have HLB := Lib.hid (show LBase w #[.int .u8 kd, .int .u8 n, .slice oa on oc] dz (.slice ka known.length kc) b4 7 (.slice none 0 0) (.slice none 0 0) [] [] w5 from ⟨HB.out.1, HB.out.2, ItRow.nil _ _ _ _ _ _, ItRow.nil _ _ _ _ _ _⟩)
  clear hb4 hw5
  go_loopg [10, 70] N (fun G u10 u70 wr => ∃ (j : Nat) (pv po : Value), j ≤ N ∧ G = N - j ∧ u70 = .int .i64 j ∧ Hid (LBase w #[.int .u8 kd, .int .u8 n, .slice oa on oc] dz (.slice ka known.length kc) b4 7 pv po ((List.range j).map (fun i => nameT i n)) ([]) wr))
  case atStart => exact ⟨0, _, _, Nat.zero_le _, rfl, by go_num, HLB⟩
  case round =>
    obtain ⟨j, pv, po, hj, rfl, rfl, HI⟩ := hrel
    obtain ⟨pa, pn, pc, rfl⟩ : ∃ pa pn pc, pv = .slice pa pn pc := by obtain ⟨a, c, e⟩ := HI.out.2.2.1.slice; exact ⟨a, _, c, e⟩
    obtain ⟨qa, qn, qc, rfl⟩ : ∃ qa qn qc, po = .slice qa qn qc := by obtain ⟨a, c, e⟩ := HI.out.2.2.2.slice; exact ⟨a, _, c, e⟩
    by_cases hlt : j < N
    · have hlen : ((List.range j).map (fun i => nameT i n)).length ≤ 3 := by simp; omega
      have HLEN := Lib.hid hlen
      clear hlen
      have hcall := Lib.hid (fun (wx : World) => nameOf_any j (by omega) n n0 n1 wx)
      go_wp2_with fail
      refine wp_region_chain (by kernel_rfl) [some 73, some 74, some 75, some 76, some 77, some 78, some 79, some 80, some 81, none] rfl (by decide) (by intro d hd; simp at hd ⊢; omega)
        [5, 6, 7, 9] (NameS w #[.int .u8 kd, .int .u8 n, .slice oa on oc] dz (.slice ka known.length kc) b4 7 (.slice pa pn pc) (.slice qa qn qc) ((List.range j).map (fun i => nameT i n)) ([]) (nameT j n))
        [.free (.pointer (some ⟨b4, 2, none⟩)), .free (.slice pa pn pc), .free (.int .i64 j), .free (.pointer (some ⟨w.heap.size, 1, none⟩)), .free (.int .u8 n), .link (some (sv (nameT j n))), .link none, .link none, .free (.pointer (some ⟨b4, 2, none⟩)), .link none]
        (by kernel_rfl) (by kernel_rfl) ?h0 ?step ?fin
      case h0 => exact LBase.drew HI.out
      case step =>
        intro vals
        simp only [frOfU, fillU, List.setIfInBounds_toArray, List.set_cons_succ, List.set_cons_zero]
        repeat' (first | exact AllOps.nil | refine AllOps.cons ?_ ?_)
        all_goals
          intro cvs wx hS he hu hlim K hK
          simp only [Act.put, List.setIfInBounds_toArray, List.set_cons_succ, List.set_cons_zero, List.getD_cons_zero, List.getD_cons_succ] at hK
          simp only [List.mem_cons, List.not_mem_nil, or_false, forall_eq_or_imp, forall_eq, Region.binds, forall_const, mode_gc, Bool.false_eq_true, false_imp_iff, List.getD_cons_zero, List.getD_cons_succ, OpSort.val, Option.some.injEq, forall_eq', reduceCtorEq, implies_true, true_and, and_true] at he
          have hbx := hS.box
          have r1 := cells_row hbx.2.1 1 _ rfl
          simp only [List.getElem_toArray, List.getElem_cons_succ, List.getElem_cons_zero] at r1
          clear hbx
          try simp only [h10] at hK
          have HSX := Lib.hid hS
          clear hS
        all_goals first | (clear hlim hu; (try simp only [he] at hK ⊢); go_simp; exact hK) | skip
        · have hl := HSX.out.loc (Nat.le_trans (hlim 2 7 rfl (by kernel_rfl)) (by omega))
          obtain ⟨e0, e1, e2, e3⟩ := cell_of_four hl
          clear hlim hu hl
          simp only [he] at hK ⊢
          go_simp
          exact hK
        · obtain rfl := hlim (0 : Nat) rfl
          have h1 := HSX.out
          simp only [List.take_zero, List.map_nil] at h1
          simp only [he] at hK ⊢
          go_simp
          go_at_call 27
          refine (hcall.out wx).mono ?_
          rintro e1 wa ⟨rfl, fa⟩
          exact hK _ _ (fun _ h => by cases h; rfl) (LBase.fr h1 HB4.out fa)
        · obtain rfl := hlim (1 : Nat) rfl
          have h1 := HSX.out
          clear HSX hlim hu
          simp only [List.take_succ_cons, List.take_zero, List.map_cons, List.map_nil] at h1 hK
          unfold sv at he
          simp only [he] at hK ⊢
          go_simp
          have fa : Fr (fun _ => False) wx (wx.alloc (.cells #[.string ⟨(nameT j n).toArray⟩] 9)) := (Fr.refl _ _).alloc _
          exact hK _ _ (fun _ h => by cases h) ⟨LBase.fr h1 HB4.out fa, _, rfl, heap_alloc_new _ _⟩
        · obtain rfl := hlim (2 : Nat) rfl
          have h1 := HSX.out
          clear HSX hlim hu
          simp only [List.take_succ_cons, List.take_zero, List.map_cons, List.map_nil] at h1 hK
          obtain ⟨hb, gg, e6, hgg⟩ := h1
          rw [if_pos (by rfl)]
          have hsz := lt_of_block hb.2.1
          refine opWp_push (pv := (.slice pa pn pc)) (l := (List.range j).map (fun i => nameT i n)) (B := b4 + 1) (X := fun k => (Value.slice qa qn qc).ownBlock = some k) (D := txShown) (.tmp 74) (.tmp 79) 31 31 rfl Try.underlying31 Try.underlying31 Try.infoTxt rfl (by decide) he.1 hb.2.2.1 gg e6 (news := [sv (nameT j n)]) hgg rfl (by intro u hu; simp at hu; subst hu; rfl) (by have := HLEN.out; omega) (by omega) (by omega) (fun k hk => (hb.2.2.2.own k hk).2.1) (nameT j n) rfl ?_
          intro v' w6 hrow f6 hv
          simp only [h10]
          refine hK _ _ (fun _ h => by cases h) ⟨hb.1.fr f6 (fun k hk => by have := (hb.2.2.1.own k hk).1; have := HB4.out; omega), box_kept hb.2.1 f6 (fun hk => by have := (hb.2.2.1.own _ hk).1; omega), hrow, hb.2.2.2.apart f6 hv⟩
        · obtain rfl := hlim (3 : Nat) rfl
          have h1 := HSX.out
          clear HSX hlim hu
          simp only [List.take_succ_cons, List.take_zero, List.map_cons, List.map_nil] at h1 hK
          obtain ⟨hb, hl, hr, ho⟩ := h1
          obtain ⟨xa, xn, xc, e7⟩ : ∃ xa xn xc, vals 7 = .slice xa xn xc := by obtain ⟨a, c, e⟩ := hr.slice; exact ⟨a, _, c, e⟩
          have z2 : wx.frozen? ⟨b4, 2, none⟩ = false := by simp [World.frozen?, hl]
          obtain ⟨e0, e1, e2, e3⟩ := cell_of_four hl
          have HG := Lib.hid (LBase.setNames HB4.out hb hl hr ho)
          clear hb hl hr ho
          rw [e7] at HG
          simp only [he, e7] at hK ⊢
          go_simp
          exact hK undef _ (fun _ h => by cases h) HG.out
      case fin =>
        intro vals w6 hS hV
        clear hV
        simp only [List.map_cons, List.map_nil] at hS
        obtain ⟨pa2, pn2, pc2, e7⟩ : ∃ xa xn xc, vals 7 = .slice xa xn xc := by obtain ⟨a, c, e⟩ := hS.2.2.1.slice; exact ⟨a, _, c, e⟩
        rw [show NameS w #[.int .u8 kd, .int .u8 n, .slice oa on oc] dz (.slice ka known.length kc) b4 7 (.slice pa pn pc) (.slice qa qn qc) ((List.range j).map (fun i => nameT i n)) ([]) (nameT j n) [vals 5, vals 6, vals 7, vals 9] w6 = LBase w #[.int .u8 kd, .int .u8 n, .slice oa on oc] dz (.slice ka known.length kc) b4 7 (vals 7) (.slice qa qn qc) ((List.range j).map (fun i => nameT i n) ++ [nameT j n]) ([]) w6 from rfl, e7] at hS
        have HS := Lib.hid hS
        clear hS e7
        simp only [frOfU, fillU, List.setIfInBounds_toArray, List.set_cons_succ, List.set_cons_zero]
        go_wp2
        go_roundg (N - (j + 1))
        case measure => omega
        case rel => exact ⟨j + 1, _, _, by omega, rfl, by go_num, Lib.hid (by rw [List.range_succ, List.map_append]; exact HS.out)⟩
    · obtain rfl : j = N := by omega
      have HF := HI
      have hl := HF.out.2.1
      obtain ⟨e0, e1, e2, e3⟩ := cell_of_four hl
      have q3 := HF.out.1.2.2.2.2
      have z0 : wr.frozen? ⟨w.heap.size + 1 + 1 + 1, 0, none⟩ = false := by simp [World.frozen?, q3]
      have z1' : wr.frozen? ⟨w.heap.size + 1 + 1 + 1, 1, none⟩ = false := by simp [World.frozen?, q3]
      have z2' : wr.frozen? ⟨w.heap.size + 1 + 1 + 1, 2, none⟩ = false := by simp [World.frozen?, q3]
      have z3' : wr.frozen? ⟨w.heap.size + 1 + 1 + 1, 3, none⟩ = false := by simp [World.frozen?, q3]
      obtain ⟨i0, i1, i2, i3⟩ := cell_of_four q3
      clear hl q3
      go_wp2
      refine bodyPost_ret (results_cell_row rfl _ _ (w.heap.size + 1 + 1 + 1) 34 _ _ _ rfl (store_four HF.out.1.2.2.2.2) Try.underlying34 rfl (by kernel_rfl)) rfl ?_
      rw [HT.out]
      have hb4 := HB4.out
      refine ⟨_, rfl, ?_, fr_four _ _ _ _ HF.out.1.1 (fun h => by omega)⟩
      refine Shows.mono (fun k _ (h : b4 + 1 ≤ k) => (by omega : w.heap.size ≤ k)) _ _ (Shows.fr (S := fun k => k = w.heap.size + 1 + 1 + 1) (fr_four (w := wr) _ _ _ _ (Fr.refl _ _) (fun _ => rfl)) (fun k (hk : b4 + 1 ≤ k) e => by omega) _ _ ?_)
      exact ItRow.parts HF.out.2.2.2 (n := 0) rfl (by omega) (by omega) ((HF.out.2.2.1.texts (by simp; omega) (by intro s hs; obtain ⟨i, _, rfl⟩ := List.mem_map.1 hs; simp [nameT])).mono (fun k _ h => h.1)) _ (by simp)

set_option maxRecDepth 100000 in
theorem type_n7b (known : List Txt) (kd n c : Nat) (of : Nat → KN) (d : Nat) (hd2 : 2 ≤ d) (hkk : kd % 10 = 7) : TypeOne known (.mk kd n c of) d := by
  intro R v vk w dz hdz hd1 hd hsh hk
  have hsh0 := hsh
  obtain ⟨vo, rfl, hkd, hn, hc, ho⟩ := hsh
  obtain ⟨oa, on, oc, rfl⟩ : ∃ oa on oc, vo = .slice oa on oc := by
    rcases ho with ⟨_, aa, cap, rfl⟩ | ⟨g, off, cap, rfl, _⟩
    · exact ⟨aa, 0, cap, rfl⟩
    · exact ⟨_, c, cap, rfl⟩
  obtain ⟨ka, kc, rfl, hks⟩ := hk.shape
  have hl1 := hk.1
  have h10 : (kd : Int) % 10 = 7 := by omega
  have n0 : (0 : Int) ≤ (n : Int) := by omega
  have n1 : (n : Int) ≤ 255 := by omega
  have z1 : ¬ dz ≤ 1 := by omega
  obtain ⟨q, hq⟩ : ∃ q : Int, (n : Int) % 3 = q := ⟨_, rfl⟩
  have q0 : 0 ≤ q := by omega
  have q1 : q ≤ 2 := by omega
  have g1 : IntKind.i64.wrap q = q := IntWalk.i64_in _ (by omega)
  have g2 : wrap64 q = q := IntWalk.wrap64_in _ (by omega)
  have g3 : IntKind.i64.wrap (1 + q) = 1 + q := IntWalk.i64_in _ (by omega)
  have g4 : wrap64 (1 + q) = 1 + q := IntWalk.wrap64_in _ (by omega)
  have g5 : q % 256 = q := by omega
  have g6 : Int.tmod (n : Int) 3 = q := by rw [Int.tmod_eq_emod_of_nonneg n0]; exact hq
  obtain ⟨N, hN⟩ : ∃ N : Nat, N = 1 + n % 3 := ⟨_, rfl⟩
  have hqN : 1 + q = (N : Int) := by omega
  have hN3 : N ≤ 3 := by omega
  have HN := Lib.hid hN
  have HT : Hid (typeE known (.mk kd n c of) d = .mk 7 0 ((List.range N).map (fun i => nameT i n)) 0 (fun _ => .nil)) := Lib.hid (by
    rw [typeE_mk]
    have e : kindE kd d known = 7 := by unfold kindE; rw [hkk]; simp
    rw [e, hN]
    rfl)
  clear hN
  clear ho hk hks hkk hdz hsh0 hd1 hd hd2 hq
  go_enter Try.func15, Try.ntmps15
  go_wp2_with fail
  obtain ⟨hB, hL⟩ := boxes_new w #[.int .u8 kd, .int .u8 n, .slice oa on oc] dz (.slice ka known.length kc) #[.int .u8 7, .int .i64 0, .slice none 0 0, .slice none 0 0]
  obtain ⟨w5, hw5⟩ : ∃ w5, w5 = (((((w.alloc (.cells #[.int .u8 kd, .int .u8 n, .slice oa on oc] 24)).alloc (.cells #[.int .i64 dz] 3)).alloc (.cells #[(.slice ka known.length kc)] 31)).alloc (.cells #[.int .u8 0, .int .i64 0, .slice none 0 0, .slice none 0 0] 34)).alloc (.cells #[.int .u8 7, .int .i64 0, .slice none 0 0, .slice none 0 0] 34)) := ⟨_, rfl⟩
  rw [← hw5] at hB hL ⊢
  have HB := Lib.hid (And.intro hB hL)
  clear hB hL
  obtain ⟨b4, hb4⟩ : ∃ b4, b4 = w.heap.size + 1 + 1 + 1 + 1 := ⟨_, rfl⟩
  rw [← hb4] at HB ⊢
  have HB4 := Lib.hid hb4
  have HLB := Lib.hid (show LBase w #[.int .u8 kd, .int .u8 n, .slice oa on oc] dz (.slice ka known.length kc) b4 7 (.slice none 0 0) (.slice none 0 0) [] [] w5 from ⟨HB.out.1, HB.out.2, ItRow.nil _ _ _ _ _ _, ItRow.nil _ _ _ _ _ _⟩)
  clear hb4 hw5
  go_loopg [10, 70] N (fun G u10 u70 wr => ∃ (j : Nat) (pv po : Value), j ≤ N ∧ G = N - j ∧ u70 = .int .i64 j ∧ Hid (LBase w #[.int .u8 kd, .int .u8 n, .slice oa on oc] dz (.slice ka known.length kc) b4 7 pv po ((List.range j).map (fun i => nameT i n)) ([]) wr))
  case atStart => exact ⟨0, _, _, Nat.zero_le _, rfl, by go_num, HLB⟩
  case round =>
    obtain ⟨j, pv, po, hj, rfl, rfl, HI⟩ := hrel
    obtain ⟨pa, pn, pc, rfl⟩ : ∃ pa pn pc, pv = .slice pa pn pc := by obtain ⟨a, c, e⟩ := HI.out.2.2.1.slice; exact ⟨a, _, c, e⟩
    obtain ⟨qa, qn, qc, rfl⟩ : ∃ qa qn qc, po = .slice qa qn qc := by obtain ⟨a, c, e⟩ := HI.out.2.2.2.slice; exact ⟨a, _, c, e⟩
    by_cases hlt : j < N
    · have hlen : ((List.range j).map (fun i => nameT i n)).length ≤ 3 := by simp; omega
      have HLEN := Lib.hid hlen
      clear hlen
      have hcall := Lib.hid (fun (wx : World) => nameOf_any j (by omega) n n0 n1 wx)
      go_wp2_with fail
      refine wp_region_chain (by kernel_rfl) [some 73, some 74, some 75, some 76, some 77, some 78, some 79, some 80, some 81, none] rfl (by decide) (by intro d hd; simp at hd ⊢; omega)
        [5, 6, 7, 9] (NameS w #[.int .u8 kd, .int .u8 n, .slice oa on oc] dz (.slice ka known.length kc) b4 7 (.slice pa pn pc) (.slice qa qn qc) ((List.range j).map (fun i => nameT i n)) ([]) (nameT j n))
        [.free (.pointer (some ⟨b4, 2, none⟩)), .free (.slice pa pn pc), .free (.int .i64 j), .free (.pointer (some ⟨w.heap.size, 1, none⟩)), .free (.int .u8 n), .link (some (sv (nameT j n))), .link none, .link none, .free (.pointer (some ⟨b4, 2, none⟩)), .link none]
        (by kernel_rfl) (by kernel_rfl) ?h0 ?step ?fin
      case h0 => exact LBase.drew HI.out
      case step =>
        intro vals
        simp only [frOfU, fillU, List.setIfInBounds_toArray, List.set_cons_succ, List.set_cons_zero]
        repeat' (first | exact AllOps.nil | refine AllOps.cons ?_ ?_)
        all_goals
          intro cvs wx hS he hu hlim K hK
          simp only [Act.put, List.setIfInBounds_toArray, List.set_cons_succ, List.set_cons_zero, List.getD_cons_zero, List.getD_cons_succ] at hK
          simp only [List.mem_cons, List.not_mem_nil, or_false, forall_eq_or_imp, forall_eq, Region.binds, forall_const, mode_gc, Bool.false_eq_true, false_imp_iff, List.getD_cons_zero, List.getD_cons_succ, OpSort.val, Option.some.injEq, forall_eq', reduceCtorEq, implies_true, true_and, and_true] at he
          have hbx := hS.box
          have r1 := cells_row hbx.2.1 1 _ rfl
          simp only [List.getElem_toArray, List.getElem_cons_succ, List.getElem_cons_zero] at r1
          clear hbx
          try simp only [h10] at hK
          have HSX := Lib.hid hS
          clear hS
        all_goals first | (clear hlim hu; (try simp only [he] at hK ⊢); go_simp; exact hK) | skip
        · have hl := HSX.out.loc (Nat.le_trans (hlim 2 7 rfl (by kernel_rfl)) (by omega))
          obtain ⟨e0, e1, e2, e3⟩ := cell_of_four hl
          clear hlim hu hl
          simp only [he] at hK ⊢
          go_simp
          exact hK
        · obtain rfl := hlim (0 : Nat) rfl
          have h1 := HSX.out
          simp only [List.take_zero, List.map_nil] at h1
          simp only [he] at hK ⊢
          go_simp
          go_at_call 27
          refine (hcall.out wx).mono ?_
          rintro e1 wa ⟨rfl, fa⟩
          exact hK _ _ (fun _ h => by cases h; rfl) (LBase.fr h1 HB4.out fa)
        · obtain rfl := hlim (1 : Nat) rfl
          have h1 := HSX.out
          clear HSX hlim hu
          simp only [List.take_succ_cons, List.take_zero, List.map_cons, List.map_nil] at h1 hK
          unfold sv at he
          simp only [he] at hK ⊢
          go_simp
          have fa : Fr (fun _ => False) wx (wx.alloc (.cells #[.string ⟨(nameT j n).toArray⟩] 9)) := (Fr.refl _ _).alloc _
          exact hK _ _ (fun _ h => by cases h) ⟨LBase.fr h1 HB4.out fa, _, rfl, heap_alloc_new _ _⟩
        · obtain rfl := hlim (2 : Nat) rfl
          have h1 := HSX.out
          clear HSX hlim hu
          simp only [List.take_succ_cons, List.take_zero, List.map_cons, List.map_nil] at h1 hK
          obtain ⟨hb, gg, e6, hgg⟩ := h1
          rw [if_pos (by rfl)]
          have hsz := lt_of_block hb.2.1
          refine opWp_push (pv := (.slice pa pn pc)) (l := (List.range j).map (fun i => nameT i n)) (B := b4 + 1) (X := fun k => (Value.slice qa qn qc).ownBlock = some k) (D := txShown) (.tmp 74) (.tmp 79) 31 31 rfl Try.underlying31 Try.underlying31 Try.infoTxt rfl (by decide) he.1 hb.2.2.1 gg e6 (news := [sv (nameT j n)]) hgg rfl (by intro u hu; simp at hu; subst hu; rfl) (by have := HLEN.out; omega) (by omega) (by omega) (fun k hk => (hb.2.2.2.own k hk).2.1) (nameT j n) rfl ?_
          intro v' w6 hrow f6 hv
          simp only [h10]
          refine hK _ _ (fun _ h => by cases h) ⟨hb.1.fr f6 (fun k hk => by have := (hb.2.2.1.own k hk).1; have := HB4.out; omega), box_kept hb.2.1 f6 (fun hk => by have := (hb.2.2.1.own _ hk).1; omega), hrow, hb.2.2.2.apart f6 hv⟩
        · obtain rfl := hlim (3 : Nat) rfl
          have h1 := HSX.out
          clear HSX hlim hu
          simp only [List.take_succ_cons, List.take_zero, List.map_cons, List.map_nil] at h1 hK
          obtain ⟨hb, hl, hr, ho⟩ := h1
          obtain ⟨xa, xn, xc, e7⟩ : ∃ xa xn xc, vals 7 = .slice xa xn xc := by obtain ⟨a, c, e⟩ := hr.slice; exact ⟨a, _, c, e⟩
          have z2 : wx.frozen? ⟨b4, 2, none⟩ = false := by simp [World.frozen?, hl]
          obtain ⟨e0, e1, e2, e3⟩ := cell_of_four hl
          have HG := Lib.hid (LBase.setNames HB4.out hb hl hr ho)
          clear hb hl hr ho
          rw [e7] at HG
          simp only [he, e7] at hK ⊢
          go_simp
          exact hK undef _ (fun _ h => by cases h) HG.out
      case fin =>
        intro vals w6 hS hV
        clear hV
        simp only [List.map_cons, List.map_nil] at hS
        obtain ⟨pa2, pn2, pc2, e7⟩ : ∃ xa xn xc, vals 7 = .slice xa xn xc := by obtain ⟨a, c, e⟩ := hS.2.2.1.slice; exact ⟨a, _, c, e⟩
        rw [show NameS w #[.int .u8 kd, .int .u8 n, .slice oa on oc] dz (.slice ka known.length kc) b4 7 (.slice pa pn pc) (.slice qa qn qc) ((List.range j).map (fun i => nameT i n)) ([]) (nameT j n) [vals 5, vals 6, vals 7, vals 9] w6 = LBase w #[.int .u8 kd, .int .u8 n, .slice oa on oc] dz (.slice ka known.length kc) b4 7 (vals 7) (.slice qa qn qc) ((List.range j).map (fun i => nameT i n) ++ [nameT j n]) ([]) w6 from rfl, e7] at hS
        have HS := Lib.hid hS
        clear hS e7
        simp only [frOfU, fillU, List.setIfInBounds_toArray, List.set_cons_succ, List.set_cons_zero]
        go_wp2
        go_roundg (N - (j + 1))
        case measure => omega
        case rel => exact ⟨j + 1, _, _, by omega, rfl, by go_num, Lib.hid (by rw [List.range_succ, List.map_append]; exact HS.out)⟩
    · obtain rfl : j = N := by omega
      have HF := HI
      have hl := HF.out.2.1
      obtain ⟨e0, e1, e2, e3⟩ := cell_of_four hl
      have q3 := HF.out.1.2.2.2.2
      have z0 : wr.frozen? ⟨w.heap.size + 1 + 1 + 1, 0, none⟩ = false := by simp [World.frozen?, q3]
      have z1' : wr.frozen? ⟨w.heap.size + 1 + 1 + 1, 1, none⟩ = false := by simp [World.frozen?, q3]
      have z2' : wr.frozen? ⟨w.heap.size + 1 + 1 + 1, 2, none⟩ = false := by simp [World.frozen?, q3]
      have z3' : wr.frozen? ⟨w.heap.size + 1 + 1 + 1, 3, none⟩ = false := by simp [World.frozen?, q3]
      obtain ⟨i0, i1, i2, i3⟩ := cell_of_four q3
      clear hl q3
      go_wp2
      refine bodyPost_ret (results_cell_row rfl _ _ (w.heap.size + 1 + 1 + 1) 34 _ _ _ rfl (store_four HF.out.1.2.2.2.2) Try.underlying34 rfl (by kernel_rfl)) rfl ?_
      rw [HT.out]
      have hb4 := HB4.out
      refine ⟨_, rfl, ?_, fr_four _ _ _ _ HF.out.1.1 (fun h => by omega)⟩
      refine Shows.mono (fun k _ (h : b4 + 1 ≤ k) => (by omega : w.heap.size ≤ k)) _ _ (Shows.fr (S := fun k => k = w.heap.size + 1 + 1 + 1) (fr_four (w := wr) _ _ _ _ (Fr.refl _ _) (fun _ => rfl)) (fun k (hk : b4 + 1 ≤ k) e => by omega) _ _ ?_)
      exact ItRow.parts HF.out.2.2.2 (n := 0) rfl (by omega) (by omega) ((HF.out.2.2.1.texts (by simp; omega) (by intro s hs; obtain ⟨i, _, rfl⟩ := List.mem_map.1 hs; simp [nameT])).mono (fun k _ h => h.1)) _ (by simp)

theorem type_n7 (known : List Txt) (kd n c : Nat) (of : Nat → KN) (d : Nat) (hkk : kd % 10 = 7) : TypeOne known (.mk kd n c of) d := by
  by_cases h : d = 1
  · exact type_n7a known kd n c of d h hkk
  · intro R v vk w dz h1 h2
    exact type_n7b known kd n c of d (by omega) hkk R v vk w dz h1 h2
end
section
def RefS (w : World) (nv : Array Value) (dz : Int) (kv : Value) (b : Nat) (nm : Txt) : List Value → World → Prop
  | [], wx => Boxes w nv dz kv wx ∧ wx.heap[b]? = some (.cells #[.int .u8 9, .int .i64 0, .slice none 0 0, .slice none 0 0] 34 (0, 0))
  | [u], wx => Boxes w nv dz kv wx ∧ wx.heap[b]? = some (.cells #[.int .u8 9, .int .i64 0, .slice none 0 0, .slice none 0 0] 34 (0, 0)) ∧ ∃ gg, u = .slice (some ⟨gg, 0, none⟩) 1 1 ∧ b + 1 ≤ gg ∧ wx.heap[gg]? = some (.cells #[sv nm] 9 (0, 0))
  | _ :: _ :: _, wx => Boxes w nv dz kv wx ∧ ∃ gg, wx.heap[b]? = some (.cells #[.int .u8 9, .int .i64 0, .slice (some ⟨gg, 0, none⟩) 1 1, .slice none 0 0] 34 (0, 0)) ∧ b + 1 ≤ gg ∧ wx.heap[gg]? = some (.cells #[sv nm] 9 (0, 0))

theorem RefS.box {w : World} {nv : Array Value} {dz : Int} {kv : Value} {b : Nat} {nm : Txt} {cvs : List Value} {wx : World} (h : RefS w nv dz kv b nm cvs wx) : Boxes w nv dz kv wx := by
  match cvs with
  | [] => exact h.1
  | [_] => exact h.1
  | _ :: _ :: _ => exact h.1

set_option maxRecDepth 100000 in
theorem type_refa (known : List Txt) (kd n c : Nat) (of : Nat → KN) (d : Nat) (hd2 : d = 1) (hl0 : ¬ known.length = 0) (hkk : kd % 10 = 9) : TypeOne known (.mk kd n c of) d := by
  intro R v vk w dz hdz hd1 hd hsh hk
  have hsh0 := hsh
  obtain ⟨vo, rfl, hkd, hn, hc, ho⟩ := hsh
  obtain ⟨oa, on, oc, rfl⟩ : ∃ oa on oc, vo = .slice oa on oc := by
    rcases ho with ⟨_, aa, cap, rfl⟩ | ⟨g, off, cap, rfl, _⟩
    · exact ⟨aa, 0, cap, rfl⟩
    · exact ⟨_, c, cap, rfl⟩
  obtain ⟨ka, kc, rfl, hks⟩ := hk.shape
  have hl1 := hk.1
  have h10 : (kd : Int) % 10 = 9 := by omega
  have n0 : (0 : Int) ≤ (n : Int) := by omega
  have n1 : (n : Int) ≤ 255 := by omega
  rcases hks with hz | ⟨hkc, g, off, _, rfl, hkcell⟩
  · exact absurd hz hl0
  obtain ⟨q, hq⟩ : ∃ q : Nat, q = n % known.length := ⟨_, rfl⟩
  have hql : q < known.length := by rw [hq]; exact Nat.mod_lt _ (by omega)
  obtain ⟨nm, hnm⟩ : ∃ nm, known[q]? = some nm := ⟨_, List.getElem?_eq_getElem hql⟩
  have hcell := hkcell q nm hnm
  have hnm0 : nm.length ≤ 1000 := hk.2.1 nm (List.mem_of_getElem? hnm)
  have hnm2 : known.getD (n % known.length) [] = nm := by rw [← hq, List.getD_eq_getElem?_getD, hnm]; rfl
  have hqz : Int.tmod (n : Int) (known.length : Int) = (q : Int) := by rw [Int.tmod_eq_emod_of_nonneg n0, hq]; rfl
  have hqz2 : (n : Int) % (known.length : Int) = (q : Int) := by rw [hq]; rfl
  have q0 : (0 : Int) ≤ (q : Int) := by omega
  have q1 : (q : Int) < (known.length : Int) := by omega
  have g1 : IntKind.i64.wrap (q : Int) = (q : Int) := IntWalk.i64_in _ (by omega)
  have g2 : wrap64 (q : Int) = (q : Int) := IntWalk.wrap64_in _ (by omega)
  have b0 : ((known.length : Int) == 0) = false := by simpa using hl0
  have g3 : IntKind.i64.wrap (n : Int) = n := IntWalk.i64_in _ (by omega)
  have g4 : wrap64 (n : Int) = n := IntWalk.wrap64_in _ (by omega)
  have z1 : dz ≤ 1 := by omega
  have HNM := Lib.hid (And.intro hnm0 True.intro)
  have HCELL := Lib.hid (fun (wx : World) (f : Fr (fun _ => False) w wx) => cell_fr (R := fun _ => True) f (fun _ _ h => h) trivial hcell)
  have HT : Hid (typeE known (.mk kd n c of) d = .mk 9 0 [nm] 0 (fun _ => .nil)) := Lib.hid (by
    rw [typeE_mk]
    have e : kindE kd d known = 9 := by unfold kindE; rw [hkk]; simp [hl0]
    rw [e, ← hnm2]
    rfl)
  clear ho hk hkk hd2 hdz hd1 hd hq hkcell hnm hcell hnm0 hnm2 hkc
  generalize known.length = L at *
  go_enter Try.func15, Try.ntmps15
  go_wp2_with fail
  obtain ⟨hB, hL⟩ := boxes_new w #[.int .u8 kd, .int .u8 n, .slice oa on oc] dz (.slice (some ⟨g, off, none⟩) L kc) #[.int .u8 9, .int .i64 0, .slice none 0 0, .slice none 0 0]
  obtain ⟨w5, hw5⟩ : ∃ w5, w5 = (((((w.alloc (.cells #[.int .u8 kd, .int .u8 n, .slice oa on oc] 24)).alloc (.cells #[.int .i64 dz] 3)).alloc (.cells #[(.slice (some ⟨g, off, none⟩) L kc)] 31)).alloc (.cells #[.int .u8 0, .int .i64 0, .slice none 0 0, .slice none 0 0] 34)).alloc (.cells #[.int .u8 9, .int .i64 0, .slice none 0 0, .slice none 0 0] 34)) := ⟨_, rfl⟩
  rw [← hw5] at hB hL ⊢
  have HB := Lib.hid (And.intro hB hL)
  clear hB hL hw5
  obtain ⟨b4, hb4⟩ : ∃ b4, b4 = w.heap.size + 1 + 1 + 1 + 1 := ⟨_, rfl⟩
  rw [← hb4] at HB ⊢
  have HB4 := Lib.hid hb4
  clear hb4
  refine wp_region_chain (by kernel_rfl) [some 95, some 96, some 97, some 98, some 99, some 100, some 101, some 102, some 103, some 104, some 105, none] rfl (by decide) (by intro d hd; simp at hd ⊢; omega)
    [9, 11] (RefS w #[.int .u8 kd, .int .u8 n, .slice oa on oc] dz (.slice (some ⟨g, off, none⟩) L kc) b4 nm)
    [.free (.slice (some ⟨g, off, none⟩) L kc), .free (.pointer (some ⟨w.heap.size, 1, none⟩)), .free (.int .u8 n), .free (.int .i64 n), .free (.slice (some ⟨g, off, none⟩) L kc), .free (.int .i64 L), .free (.int .i64 q), .free (.pointer (some ⟨g, off + q, none⟩)), .free (.string ⟨nm.toArray⟩), .link none, .free (.pointer (some ⟨b4, 2, none⟩)), .link none]
    (by kernel_rfl) (by kernel_rfl) ?h0 ?step ?fin
  case h0 => exact ⟨HB.out.1.drew, HB.out.2⟩
  case step =>
    intro vals
    simp only [frOfU, fillU, List.setIfInBounds_toArray, List.set_cons_succ, List.set_cons_zero]
    repeat' (first | exact AllOps.nil | refine AllOps.cons ?_ ?_)
    all_goals
      intro cvs wx hS he hu hlim K hK
      simp only [Act.put, List.setIfInBounds_toArray, List.set_cons_succ, List.set_cons_zero, List.getD_cons_zero, List.getD_cons_succ] at hK
      simp only [List.mem_cons, List.not_mem_nil, or_false, forall_eq_or_imp, forall_eq, Region.binds, forall_const, mode_gc, Bool.false_eq_true, false_imp_iff, List.getD_cons_zero, List.getD_cons_succ, OpSort.val, Option.some.injEq, forall_eq', reduceCtorEq, implies_true, true_and, and_true] at he
      have hbx := hS.box
      have r1 := cells_row hbx.2.1 1 _ rfl
      have r2 := cell_of_one hbx.2.2.2.1
      have r3 := HCELL.out wx hbx.1
      unfold sv at r3
      try simp only [h10] at hK
      simp only [List.getElem_toArray, List.getElem_cons_succ, List.getElem_cons_zero] at r1
      clear hbx
      have HSX := Lib.hid hS
      clear hS
    all_goals first | (clear hlim hu; (try simp only [he] at hK ⊢); go_simp; exact hK) | skip
    · obtain rfl := hlim (0 : Nat) rfl
      have h1 := HSX.out
      clear HSX hlim hu
      simp only [List.take_zero, List.map_nil] at h1 hK
      simp only [he] at hK ⊢
      go_simp
      have fa : Fr (fun _ => False) wx (wx.alloc (.cells #[.string ⟨nm.toArray⟩] 9)) := (Fr.refl _ _).alloc _
      have hlb := lt_of_block h1.2
      exact hK _ _ (fun _ h => by cases h) ⟨h1.1.fr fa (fun _ h => absurd h (fun h => h)), box_kept h1.2 fa (fun h => h), _, rfl, by omega, heap_alloc_new _ _⟩
    · obtain rfl := hlim (1 : Nat) rfl
      have h1 := HSX.out
      clear HSX hlim hu
      simp only [List.take_succ_cons, List.take_zero, List.map_cons, List.map_nil] at h1 hK
      obtain ⟨hb, hl, gg, e9, hgg, hgc⟩ := h1
      have z2 : wx.frozen? ⟨b4, 2, none⟩ = false := by simp [World.frozen?, hl]
      obtain ⟨e0, e1, e2, e3⟩ := cell_of_four hl
      have f : Fr (fun k => k = b4) wx (wx.setCell ⟨b4, 2, none⟩ (.slice (some ⟨gg, 0, none⟩) 1 1)) := Fr.set1 (Fr.refl _ _) 2 _
      have HG := Lib.hid (show RefS w #[.int .u8 kd, .int .u8 n, .slice oa on oc] dz (.slice (some ⟨g, off, none⟩) L kc) b4 nm [vals 9, undef] (wx.setCell ⟨b4, 2, none⟩ (.slice (some ⟨gg, 0, none⟩) 1 1)) from ⟨hb.fr f (fun k hk => by have := HB4.out; omega), gg, setCell_row 2 _ hl, hgg, box_kept hgc f (by omega)⟩)
      clear hb hl hgg hgc f
      simp only [he, e9] at hK ⊢
      go_simp
      exact hK undef _ (fun _ h => by cases h) HG.out
  case fin =>
    intro vals w' hS hV
    clear hV
    simp only [List.map_cons, List.map_nil] at hS
    obtain ⟨hbx, gg, hl, hgg, hgc⟩ := hS
    obtain ⟨e0, e1, e2, e3⟩ := cell_of_four hl
    have HF := Lib.hid (And.intro hbx (And.intro hl (And.intro hgg hgc)))
    have q3 := HF.out.1.2.2.2.2
    have z0 : w'.frozen? ⟨w.heap.size + 1 + 1 + 1, 0, none⟩ = false := by simp [World.frozen?, q3]
    have z1' : w'.frozen? ⟨w.heap.size + 1 + 1 + 1, 1, none⟩ = false := by simp [World.frozen?, q3]
    have z2' : w'.frozen? ⟨w.heap.size + 1 + 1 + 1, 2, none⟩ = false := by simp [World.frozen?, q3]
    have z3' : w'.frozen? ⟨w.heap.size + 1 + 1 + 1, 3, none⟩ = false := by simp [World.frozen?, q3]
    obtain ⟨i0, i1, i2, i3⟩ := cell_of_four q3
    clear hbx hl hgg hgc q3
    simp only [frOfU, fillU, List.setIfInBounds_toArray, List.set_cons_succ, List.set_cons_zero]
    go_wp2
    refine bodyPost_ret (results_cell_row rfl _ _ (w.heap.size + 1 + 1 + 1) 34 _ _ _ rfl (store_four HF.out.1.2.2.2.2) Try.underlying34 rfl (by kernel_rfl)) rfl ?_
    rw [HT.out]
    have hb4 := HB4.out
    refine ⟨_, rfl, ?_, fr_four _ _ _ _ HF.out.1.1 (fun h => by omega)⟩
    refine Shows.mono (fun k _ (h : b4 + 1 ≤ k) => (by omega : w.heap.size ≤ k)) _ _ (Shows.fr (S := fun k => k = w.heap.size + 1 + 1 + 1) (fr_four (w := w') _ _ _ _ (Fr.refl _ _) (fun _ => rfl)) (fun k (hk : b4 + 1 ≤ k) e => by omega) _ _ ?_)
    refine ⟨_, _, rfl, by omega, by omega, ⟨by simp, fun s hs => by simp at hs; subst hs; exact HNM.out.1, .inr ⟨gg, 0, 1, HF.out.2.2.1, rfl, by simp, fun j s hj => ?_⟩⟩, .inl ⟨rfl, _, _, rfl⟩⟩
    have hj0 := (List.getElem?_eq_some_iff.1 hj).1
    obtain rfl : j = 0 := by simpa using hj0
    simp at hj
    subst hj
    simpa using cell_of_one HF.out.2.2.2

set_option maxRecDepth 100000 in
theorem type_refb (known : List Txt) (kd n c : Nat) (of : Nat → KN) (d : Nat) (hd2 : ¬ d = 1) (hl0 : ¬ known.length = 0) (hkk : kd % 10 = 9) : TypeOne known (.mk kd n c of) d := by
  intro R v vk w dz hdz hd1 hd hsh hk
  have hsh0 := hsh
  obtain ⟨vo, rfl, hkd, hn, hc, ho⟩ := hsh
  obtain ⟨oa, on, oc, rfl⟩ : ∃ oa on oc, vo = .slice oa on oc := by
    rcases ho with ⟨_, aa, cap, rfl⟩ | ⟨g, off, cap, rfl, _⟩
    · exact ⟨aa, 0, cap, rfl⟩
    · exact ⟨_, c, cap, rfl⟩
  obtain ⟨ka, kc, rfl, hks⟩ := hk.shape
  have hl1 := hk.1
  have h10 : (kd : Int) % 10 = 9 := by omega
  have n0 : (0 : Int) ≤ (n : Int) := by omega
  have n1 : (n : Int) ≤ 255 := by omega
  rcases hks with hz | ⟨hkc, g, off, _, rfl, hkcell⟩
  · exact absurd hz hl0
  obtain ⟨q, hq⟩ : ∃ q : Nat, q = n % known.length := ⟨_, rfl⟩
  have hql : q < known.length := by rw [hq]; exact Nat.mod_lt _ (by omega)
  obtain ⟨nm, hnm⟩ : ∃ nm, known[q]? = some nm := ⟨_, List.getElem?_eq_getElem hql⟩
  have hcell := hkcell q nm hnm
  have hnm0 : nm.length ≤ 1000 := hk.2.1 nm (List.mem_of_getElem? hnm)
  have hnm2 : known.getD (n % known.length) [] = nm := by rw [← hq, List.getD_eq_getElem?_getD, hnm]; rfl
  have hqz : Int.tmod (n : Int) (known.length : Int) = (q : Int) := by rw [Int.tmod_eq_emod_of_nonneg n0, hq]; rfl
  have hqz2 : (n : Int) % (known.length : Int) = (q : Int) := by rw [hq]; rfl
  have q0 : (0 : Int) ≤ (q : Int) := by omega
  have q1 : (q : Int) < (known.length : Int) := by omega
  have g1 : IntKind.i64.wrap (q : Int) = (q : Int) := IntWalk.i64_in _ (by omega)
  have g2 : wrap64 (q : Int) = (q : Int) := IntWalk.wrap64_in _ (by omega)
  have b0 : ((known.length : Int) == 0) = false := by simpa using hl0
  have g3 : IntKind.i64.wrap (n : Int) = n := IntWalk.i64_in _ (by omega)
  have g4 : wrap64 (n : Int) = n := IntWalk.wrap64_in _ (by omega)
  have z1 : ¬ dz ≤ 1 := by omega
  have HNM := Lib.hid (And.intro hnm0 True.intro)
  have HCELL := Lib.hid (fun (wx : World) (f : Fr (fun _ => False) w wx) => cell_fr (R := fun _ => True) f (fun _ _ h => h) trivial hcell)
  have HT : Hid (typeE known (.mk kd n c of) d = .mk 9 0 [nm] 0 (fun _ => .nil)) := Lib.hid (by
    rw [typeE_mk]
    have e : kindE kd d known = 9 := by unfold kindE; rw [hkk]; simp [hl0]
    rw [e, ← hnm2]
    rfl)
  clear ho hk hkk hd2 hdz hd1 hd hq hkcell hnm hcell hnm0 hnm2 hkc
  generalize known.length = L at *
  go_enter Try.func15, Try.ntmps15
  go_wp2_with fail
  obtain ⟨hB, hL⟩ := boxes_new w #[.int .u8 kd, .int .u8 n, .slice oa on oc] dz (.slice (some ⟨g, off, none⟩) L kc) #[.int .u8 9, .int .i64 0, .slice none 0 0, .slice none 0 0]
  obtain ⟨w5, hw5⟩ : ∃ w5, w5 = (((((w.alloc (.cells #[.int .u8 kd, .int .u8 n, .slice oa on oc] 24)).alloc (.cells #[.int .i64 dz] 3)).alloc (.cells #[(.slice (some ⟨g, off, none⟩) L kc)] 31)).alloc (.cells #[.int .u8 0, .int .i64 0, .slice none 0 0, .slice none 0 0] 34)).alloc (.cells #[.int .u8 9, .int .i64 0, .slice none 0 0, .slice none 0 0] 34)) := ⟨_, rfl⟩
  rw [← hw5] at hB hL ⊢
  have HB := Lib.hid (And.intro hB hL)
  clear hB hL hw5
  obtain ⟨b4, hb4⟩ : ∃ b4, b4 = w.heap.size + 1 + 1 + 1 + 1 := ⟨_, rfl⟩
  rw [← hb4] at HB ⊢
  have HB4 := Lib.hid hb4
  clear hb4
  refine wp_region_chain (by kernel_rfl) [some 95, some 96, some 97, some 98, some 99, some 100, some 101, some 102, some 103, some 104, some 105, none] rfl (by decide) (by intro d hd; simp at hd ⊢; omega)
    [9, 11] (RefS w #[.int .u8 kd, .int .u8 n, .slice oa on oc] dz (.slice (some ⟨g, off, none⟩) L kc) b4 nm)
    [.free (.slice (some ⟨g, off, none⟩) L kc), .free (.pointer (some ⟨w.heap.size, 1, none⟩)), .free (.int .u8 n), .free (.int .i64 n), .free (.slice (some ⟨g, off, none⟩) L kc), .free (.int .i64 L), .free (.int .i64 q), .free (.pointer (some ⟨g, off + q, none⟩)), .free (.string ⟨nm.toArray⟩), .link none, .free (.pointer (some ⟨b4, 2, none⟩)), .link none]
    (by kernel_rfl) (by kernel_rfl) ?h0 ?step ?fin
  case h0 => exact ⟨HB.out.1.drew, HB.out.2⟩
  case step =>
    intro vals
    simp only [frOfU, fillU, List.setIfInBounds_toArray, List.set_cons_succ, List.set_cons_zero]
    repeat' (first | exact AllOps.nil | refine AllOps.cons ?_ ?_)
    all_goals
      intro cvs wx hS he hu hlim K hK
      simp only [Act.put, List.setIfInBounds_toArray, List.set_cons_succ, List.set_cons_zero, List.getD_cons_zero, List.getD_cons_succ] at hK
      simp only [List.mem_cons, List.not_mem_nil, or_false, forall_eq_or_imp, forall_eq, Region.binds, forall_const, mode_gc, Bool.false_eq_true, false_imp_iff, List.getD_cons_zero, List.getD_cons_succ, OpSort.val, Option.some.injEq, forall_eq', reduceCtorEq, implies_true, true_and, and_true] at he
      have hbx := hS.box
      have r1 := cells_row hbx.2.1 1 _ rfl
      have r2 := cell_of_one hbx.2.2.2.1
      have r3 := HCELL.out wx hbx.1
      unfold sv at r3
      try simp only [h10] at hK
      simp only [List.getElem_toArray, List.getElem_cons_succ, List.getElem_cons_zero] at r1
      clear hbx
      have HSX := Lib.hid hS
      clear hS
    all_goals first | (clear hlim hu; (try simp only [he] at hK ⊢); go_simp; exact hK) | skip
    · obtain rfl := hlim (0 : Nat) rfl
      have h1 := HSX.out
      clear HSX hlim hu
      simp only [List.take_zero, List.map_nil] at h1 hK
      simp only [he] at hK ⊢
      go_simp
      have fa : Fr (fun _ => False) wx (wx.alloc (.cells #[.string ⟨nm.toArray⟩] 9)) := (Fr.refl _ _).alloc _
      have hlb := lt_of_block h1.2
      exact hK _ _ (fun _ h => by cases h) ⟨h1.1.fr fa (fun _ h => absurd h (fun h => h)), box_kept h1.2 fa (fun h => h), _, rfl, by omega, heap_alloc_new _ _⟩
    · obtain rfl := hlim (1 : Nat) rfl
      have h1 := HSX.out
      clear HSX hlim hu
      simp only [List.take_succ_cons, List.take_zero, List.map_cons, List.map_nil] at h1 hK
      obtain ⟨hb, hl, gg, e9, hgg, hgc⟩ := h1
      have z2 : wx.frozen? ⟨b4, 2, none⟩ = false := by simp [World.frozen?, hl]
      obtain ⟨e0, e1, e2, e3⟩ := cell_of_four hl
      have f : Fr (fun k => k = b4) wx (wx.setCell ⟨b4, 2, none⟩ (.slice (some ⟨gg, 0, none⟩) 1 1)) := Fr.set1 (Fr.refl _ _) 2 _
      have HG := Lib.hid (show RefS w #[.int .u8 kd, .int .u8 n, .slice oa on oc] dz (.slice (some ⟨g, off, none⟩) L kc) b4 nm [vals 9, undef] (wx.setCell ⟨b4, 2, none⟩ (.slice (some ⟨gg, 0, none⟩) 1 1)) from ⟨hb.fr f (fun k hk => by have := HB4.out; omega), gg, setCell_row 2 _ hl, hgg, box_kept hgc f (by omega)⟩)
      clear hb hl hgg hgc f
      simp only [he, e9] at hK ⊢
      go_simp
      exact hK undef _ (fun _ h => by cases h) HG.out
  case fin =>
    intro vals w' hS hV
    clear hV
    simp only [List.map_cons, List.map_nil] at hS
    obtain ⟨hbx, gg, hl, hgg, hgc⟩ := hS
    obtain ⟨e0, e1, e2, e3⟩ := cell_of_four hl
    have HF := Lib.hid (And.intro hbx (And.intro hl (And.intro hgg hgc)))
    have q3 := HF.out.1.2.2.2.2
    have z0 : w'.frozen? ⟨w.heap.size + 1 + 1 + 1, 0, none⟩ = false := by simp [World.frozen?, q3]
    have z1' : w'.frozen? ⟨w.heap.size + 1 + 1 + 1, 1, none⟩ = false := by simp [World.frozen?, q3]
    have z2' : w'.frozen? ⟨w.heap.size + 1 + 1 + 1, 2, none⟩ = false := by simp [World.frozen?, q3]
    have z3' : w'.frozen? ⟨w.heap.size + 1 + 1 + 1, 3, none⟩ = false := by simp [World.frozen?, q3]
    obtain ⟨i0, i1, i2, i3⟩ := cell_of_four q3
    clear hbx hl hgg hgc q3
    simp only [frOfU, fillU, List.setIfInBounds_toArray, List.set_cons_succ, List.set_cons_zero]
    go_wp2
    refine bodyPost_ret (results_cell_row rfl _ _ (w.heap.size + 1 + 1 + 1) 34 _ _ _ rfl (store_four HF.out.1.2.2.2.2) Try.underlying34 rfl (by kernel_rfl)) rfl ?_
    rw [HT.out]
    have hb4 := HB4.out
    refine ⟨_, rfl, ?_, fr_four _ _ _ _ HF.out.1.1 (fun h => by omega)⟩
    refine Shows.mono (fun k _ (h : b4 + 1 ≤ k) => (by omega : w.heap.size ≤ k)) _ _ (Shows.fr (S := fun k => k = w.heap.size + 1 + 1 + 1) (fr_four (w := w') _ _ _ _ (Fr.refl _ _) (fun _ => rfl)) (fun k (hk : b4 + 1 ≤ k) e => by omega) _ _ ?_)
    refine ⟨_, _, rfl, by omega, by omega, ⟨by simp, fun s hs => by simp at hs; subst hs; exact HNM.out.1, .inr ⟨gg, 0, 1, HF.out.2.2.1, rfl, by simp, fun j s hj => ?_⟩⟩, .inl ⟨rfl, _, _, rfl⟩⟩
    have hj0 := (List.getElem?_eq_some_iff.1 hj).1
    obtain rfl : j = 0 := by simpa using hj0
    simp at hj
    subst hj
    simpa using cell_of_one HF.out.2.2.2

/-- EVERY NODE, MADE A TYPE. -/
theorem type_any (known : List Txt) (t : KN) : TypeAt known t := by
  induction t with
  | nil => exact fun _ _ _ _ _ _ _ _ _ h => h.elim
  | mk kd n c of ih =>
    intro R v vk w d dz h1 h2 h3 h4 h5
    have key : TypeOne known (.mk kd n c of) d := by
      have h10 : kd % 10 < 10 := Nat.mod_lt _ (by omega)
      rcases (by omega : kd % 10 = 0 ∨ kd % 10 = 1 ∨ kd % 10 = 2 ∨ kd % 10 = 3 ∨ kd % 10 = 4 ∨ kd % 10 = 5 ∨ kd % 10 = 6 ∨ kd % 10 = 7 ∨ kd % 10 = 8 ∨ kd % 10 = 9) with h | h | h | h | h | h | h | h | h | h
      · exact type_k0 known kd n c of d h
      · exact type_k1 known kd n c of d h
      · exact type_k2 known kd n c of d h
      · exact type_k3 known kd n c of d h
      · exact type_k4 known kd n c of d h
      · by_cases hd : d = 1
        · exact type_d5 known kd n c of d hd h
        · exact type_seq known kd n c of d ih (by omega) h
      · by_cases hd : d = 1
        · exact type_d6 known kd n c of d hd h
        · exact type_n6 known kd n c of d ih (by omega) h
      · exact type_n7 known kd n c of d h
      · by_cases hd : d = 1
        · exact type_d8 known kd n c of d hd h
        · exact type_n8 known kd n c of d ih (by omega) h
      · by_cases hl : known.length = 0
        · exact type_e9 known kd n c of d hl h
        · by_cases hd : d = 1
          · exact type_refa known kd n c of d hd hl h
          · exact type_refb known kd n c of d hd hl h
    exact key R v vk w dz h1 h2 h3 h4 h5
end
section
theorem four_pos (d : Nat) : 1 ≤ 4 ^ d := Nat.pos_of_ne_zero (by simp)

theorem sum_le (c : Nat → Nat) (B : Nat) (h : ∀ i, c i ≤ B) (n : Nat) : ((List.range n).map c).sum ≤ n * B := by
  induction n with
  | zero => simp
  | succ n ih => rw [List.range_succ, List.map_append, List.sum_append, Nat.succ_mul]; have := h n; simp; omega

theorem cost_typeE (known : List Txt) (t : KN) : ∀ d, costE (typeE known t d) ≤ 4 ^ d := by
  induction t with
  | nil => exact fun d => four_pos d
  | mk kd n c of ih =>
    intro d
    have h4 := four_pos d
    rw [typeE_mk]
    have hleaf : ∀ k m ns of', k ≠ 5 → costE (.mk k m ns 0 of') = 1 := fun k m ns of' hk => by rw [costE, if_neg hk]; rfl
    have hsub : ∀ i, costE (subE known c of d i) ≤ 4 ^ (d - 1) := by
      intro i
      unfold subE
      split
      · rw [hleaf _ _ _ _ (by omega)]; exact four_pos _
      · exact ih _ _
    by_cases hd : d ≤ 1
    · have hk : kindE kd d known ≠ 5 ∧ kindE kd d known ≠ 6 ∧ kindE kd d known ≠ 8 := by
        unfold kindE
        split <;> omega
      unfold mkE
      split
      · rw [hleaf _ _ _ _ (by omega)]; exact h4
      split
      · omega
      split
      · omega
      split
      · rw [hleaf _ _ _ _ (by omega)]; exact h4
      split
      · rw [hleaf _ _ _ _ (by omega)]; exact h4
      · rw [hleaf _ _ _ _ (by omega)]; exact h4
    · have e : 4 ^ d = 4 * 4 ^ (d - 1) := by
        have : d = (d - 1) + 1 := by omega
        rw [this, Nat.pow_succ, Nat.add_sub_cancel]; omega
      have h1 := four_pos (d - 1)
      unfold mkE
      split
      · rw [hleaf _ _ _ _ (by omega)]; exact h4
      split
      · rw [cost_seq]
        have := hsub 0
        omega
      split
      · rename_i hk
        rw [costE, if_neg (by omega)]
        have := sum_le (fun i => costE (subE known c of d i)) (4 ^ (d - 1)) hsub (1 + n % 3)
        have h3 : (1 + n % 3) * 4 ^ (d - 1) ≤ 3 * 4 ^ (d - 1) := Nat.mul_le_mul_right _ (by omega)
        omega
      split
      · rw [hleaf _ _ _ _ (by omega)]; exact h4
      split
      · rw [hleaf _ _ _ _ (by omega)]; exact h4
      · rename_i hk5 _ _ _
        rw [hleaf _ _ _ _ hk5]; exact h4

set_option maxRecDepth 100000 in
theorem vtype_any (t : KN) (v : Value) (w : World) (h : NShows w t v) :
    Calls Try.prog 9 #[v] w fun e w' => ∃ v', e = .returned v' ∧ Shows (fun k => w.heap.size ≤ k) w' (typeE [] t 4) v' ∧ Fr (fun _ => False) w w' := by
  obtain ⟨k, n, a, c, cap, rfl⟩ := h.cells
  obtain ⟨w1, hw1⟩ : ∃ w1, w1 = (w.alloc (.cells #[.int .u8 k, .int .u8 n, .slice a c cap] 24)).alloc (.cells #[.int .u8 0, .int .i64 0, .slice none 0 0, .slice none 0 0] 34) := ⟨_, rfl⟩
  have f1 : Fr (fun _ => False) w w1 := by rw [hw1]; exact ((Fr.refl _ _).alloc _).alloc _
  have q1 : w1.heap[w.heap.size]? = some (.cells #[.int .u8 k, .int .u8 n, .slice a c cap] 24 (0, 0)) := by rw [hw1]; exact heap_alloc_first _ _ _
  have p1 : w1.heap[w.heap.size + 1]? = some (.cells #[.int .u8 0, .int .i64 0, .slice none 0 0, .slice none 0 0] 34 (0, 0)) := by rw [hw1]; exact heap_alloc_two _ _ _
  have hty := type_any [] t (fun _ => True) (.agg #[.int .u8 k, .int .u8 n, .slice a c cap]) (.slice none 0 0) w1 4 4 rfl (by omega) (by omega) (NShows.fr f1 _ _ h) (texts_none _ _ _ _)
  have c0 := cells_row q1 0 _ rfl
  have c1 := cells_row q1 1 _ rfl
  have c2 := cells_row q1 2 _ rfl
  go_enter Try.func9, Try.ntmps9
  go_upto_region 1 with fail
  rw [← hw1]
  obtain ⟨rb, hrb⟩ : ∃ rb, w.heap.size + 1 = rb := ⟨_, rfl⟩
  rw [hrb] at p1 ⊢
  have HRB := Lib.hid hrb
  have hrbl : rb < w1.heap.size := lt_of_block p1
  have H1 := Lib.hid (And.intro f1 p1)
  clear hw1 f1 q1 p1 hrb h
  go_wp2_with fail
  refine hty.mono ?_
  rintro e w2 ⟨v', rfl, hs, f2⟩
  have p2 := box_kept H1.out.2 f2 (fun h => h)
  have t0 := cells_row p2 0 _ rfl
  have t1 := cells_row p2 1 _ rfl
  have t2 := cells_row p2 2 _ rfl
  have t3 := cells_row p2 3 _ rfl
  have u0 : w2.frozen? ⟨rb, 0, none⟩ = false := by simp [World.frozen?, p2]
  have u1 : w2.frozen? ⟨rb, 1, none⟩ = false := by simp [World.frozen?, p2]
  have u2 : w2.frozen? ⟨rb, 2, none⟩ = false := by simp [World.frozen?, p2]
  have u3 : w2.frozen? ⟨rb, 3, none⟩ = false := by simp [World.frozen?, p2]
  obtain ⟨yk, ym, ya, yn, yc, ya', yn', yc', rfl⟩ := hs.four
  have H2 := Lib.hid (And.intro (H1.out.1.trans f2 (fun _ _ h => h)) (And.intro hs p2))
  clear f2 hs p2 hty c0 c1 c2
  go_wp2
  refine bodyPost_ret (results_cell_row rfl _ _ rb 34 _ _ _ rfl (store_four H2.out.2.2) Try.underlying34 rfl (by kernel_rfl)) rfl ?_
  have hb := HRB.out
  have fs : Fr (fun k => k = rb) w2 ((((w2.setCell ⟨rb, 0, none⟩ (.int .u8 yk)).setCell ⟨rb, 1, none⟩ (.int .i64 ym)).setCell ⟨rb, 2, none⟩ (.slice ya yn yc)).setCell ⟨rb, 3, none⟩ (.slice ya' yn' yc')) := fr_four _ _ _ _ (Fr.refl _ _) (fun _ => rfl)
  exact ⟨_, rfl, Shows.mono (fun k _ (hk : w1.heap.size ≤ k) => by omega) _ _ (Shows.fr fs (fun k (hk : w1.heap.size ≤ k) e => by omega) _ _ H2.out.2.1), H2.out.1.trans fs (fun i hi e => by omega)⟩
end
section
def lowE (k : Nat) : Int := if k = 2 then -2147483648 else 0

def highE (k nn n : Nat) : Int := if k = 0 then 1 else if k = 1 then 65535 else if k = 2 then 2147483647 else if k = 7 then (nn : Int) - 1 else if k = 8 then (n : Int) - 1 else 0

def isE : KT → VT → Bool
  | .nil, _ => false
  | .mk _ _ _ _ _, .nil => false
  | .mk k m ns n of, .mk N f s c ov =>
    if k ≠ 3 ∧ Fl.canon f ≠ 0 ∨ k ≠ 4 ∧ s ≠ [] then false
    else if (k < 5 ∨ k = 7) ∧ 0 < c then false
    else if N < lowE k ∨ highE k ns.length n < N ∨ k = 4 ∧ m < s.length ∨ k = 5 ∧ m < c then false
    else if k = 6 ∧ c ≠ n ∨ k = 8 ∧ c ≠ 1 then false
    else (List.range c).all (fun i => isE (of (if k = 6 then i else if k = 8 then N.toNat else 0)) (ov i))

theorem isE_has {k : Nat} {m : Int} {ns : List Txt} {n : Nat} {of : Nat → KT} {N : Int} {f : Nat} {s : Txt} {c : Nat} {ov : Nat → VT} (h : (k < 5 ∨ k = 7) ∧ 0 < c) : isE (.mk k m ns n of) (.mk N f s c ov) = false := by
  rw [isE]
  split
  · rfl
  · first | rw [if_pos h] | rfl

theorem isE_range {k : Nat} {m : Int} {ns : List Txt} {n : Nat} {of : Nat → KT} {N : Int} {f : Nat} {s : Txt} {c : Nat} {ov : Nat → VT} (h : N < lowE k ∨ highE k ns.length n < N ∨ k = 4 ∧ m < s.length ∨ k = 5 ∧ m < c) : isE (.mk k m ns n of) (.mk N f s c ov) = false := by
  rw [isE]
  split
  · rfl
  · split
    · rfl
    · first | rw [if_pos h] | rfl

theorem isE_count {k : Nat} {m : Int} {ns : List Txt} {n : Nat} {of : Nat → KT} {N : Int} {f : Nat} {s : Txt} {c : Nat} {ov : Nat → VT} (h : k = 6 ∧ c ≠ n ∨ k = 8 ∧ c ≠ 1) : isE (.mk k m ns n of) (.mk N f s c ov) = false := by
  rw [isE]
  split
  · rfl
  · split
    · rfl
    · split
      · rfl
      · first | rw [if_pos h] | rfl
end
section
theorem same_zero (x : Int) (f : Nat) (s : Txt) (c : Nat) (ov : Nat → VT) : sameV (.mk x f s c ov) zeroV = (decide (x = 0) && decide (Fl.canon f = 0) && decide (s = []) && decide (c = 0)) := by
  unfold zeroV
  rw [sameV]
  have : Fl.canon 0 = 0 := by decide +kernel
  rw [this]
  by_cases hc : c = 0
  · subst hc; simp
  · simp [hc]

theorem canon0 : Fl.canon 0 = 0 := by decide +kernel

theorem isE_iff (k : Nat) (m : Int) (ns : List Txt) (n : Nat) (of : Nat → KT) (N : Int) (f : Nat) (s : Txt) (c : Nat) (ov : Nat → VT) :
    isE (.mk k m ns n of) (.mk N f s c ov) = true ↔ (k ≠ 3 → Fl.canon f = 0) ∧ (k ≠ 4 → s = []) ∧ ((k < 5 ∨ k = 7) → c = 0) ∧ lowE k ≤ N ∧ N ≤ highE k ns.length n ∧ (k = 4 → (s.length : Int) ≤ m) ∧ (k = 5 → (c : Int) ≤ m) ∧ (k = 6 → c = n) ∧ (k = 8 → c = 1) ∧
      ∀ i, i < c → isE (of (if k = 6 then i else if k = 8 then N.toNat else 0)) (ov i) = true := by
  rw [isE]
  constructor
  · intro h
    split at h
    · cases h
    rename_i h1
    split at h
    · cases h
    rename_i h2
    split at h
    · cases h
    rename_i h3
    split at h
    · cases h
    rename_i h4
    rw [List.all_eq_true] at h
    refine ⟨fun hk => Classical.byContradiction fun e => h1 (.inl ⟨hk, e⟩), fun hk => Classical.byContradiction fun e => h1 (.inr ⟨hk, e⟩), fun hk => ?_, by omega, by omega, fun hk => by omega, fun hk => by omega, fun hk => by omega, fun hk => by omega, fun i hi => h i (List.mem_range.2 hi)⟩
    omega
  · rintro ⟨a1, a2, a3, a4, a5, a6, a7, a8, a9, a10⟩
    rw [if_neg, if_neg, if_neg, if_neg, List.all_eq_true]
    · exact fun i hi => a10 i (List.mem_range.1 hi)
    · rintro (⟨h, h'⟩ | ⟨h, h'⟩)
      · exact h' (a8 h)
      · exact h' (a9 h)
    · rintro (h | h | ⟨h, h'⟩ | ⟨h, h'⟩)
      · omega
      · omega
      · have := a6 h; omega
      · have := a7 h; omega
    · rintro ⟨h, h'⟩
      have := a3 h; omega
    · rintro (⟨h, h'⟩ | ⟨h, h'⟩)
      · exact h' (a1 h)
      · exact h' (a2 h)

/-- THE PROGRAM'S ANSWER IS THE DOCUMENT'S. -/
theorem fits_is (t : KT) : goodE t → ∀ T, fitsE t T = isE t T := by
  induction t with
  | nil => exact fun h => h.elim
  | mk k m ns n of ih =>
    rintro ⟨⟨hn12, hown⟩, hkids⟩ T
    obtain ⟨hk8, hmost, hone, hparts, hnames, hnone⟩ := own_facts hown
    cases T with
    | nil => rfl
    | mk N f s c ov =>
      rw [Bool.eq_iff_iff, isE_iff, fitsE]
      simp only [same_zero, canon0]
      rcases (by omega : k = 0 ∨ k = 1 ∨ k = 2 ∨ k = 3 ∨ k = 4 ∨ k = 5 ∨ k = 6 ∨ k = 7 ∨ k = 8) with h | h | h | h | h | h | h | h | h <;> subst h
      · simp [lowE, highE]
        constructor
        · rintro ⟨⟨a, b⟩, ⟨c1, c2⟩, c3⟩; subst c3; exact ⟨c1, c2, rfl, a, b, fun i hi => by omega⟩
        · rintro ⟨a, b, c3, d, e, _⟩; exact ⟨⟨d, e⟩, ⟨a, b⟩, c3⟩
      · simp [lowE, highE]
        constructor
        · rintro ⟨⟨a, b⟩, ⟨c1, c2⟩, c3⟩; subst c3; exact ⟨c1, c2, rfl, a, b, fun i hi => by omega⟩
        · rintro ⟨a, b, c3, d, e, _⟩; exact ⟨⟨d, e⟩, ⟨a, b⟩, c3⟩
      · simp [lowE, highE]
        constructor
        · rintro ⟨⟨a, b⟩, ⟨c1, c2⟩, c3⟩; subst c3; exact ⟨c1, c2, rfl, a, b, fun i hi => by omega⟩
        · rintro ⟨a, b, c3, d, e, _⟩; exact ⟨⟨d, e⟩, ⟨a, b⟩, c3⟩
      · simp [lowE, highE]
        constructor
        · rintro ⟨⟨a, b⟩, c3⟩; subst c3; exact ⟨b, rfl, by omega, by omega, fun i hi => by omega⟩
        · rintro ⟨a, b, c3, d, _⟩; exact ⟨⟨by omega, a⟩, b⟩
      · simp [lowE, highE]
        constructor
        · rintro ⟨a, ⟨b, c1⟩, c3⟩; subst c3; exact ⟨c1, rfl, by omega, by omega, a, fun i hi => by omega⟩
        · rintro ⟨a, c3, d, e, g, _⟩; exact ⟨g, ⟨by omega, a⟩, c3⟩
      · have h1 := hone rfl
        subst h1
        have hi0 := ih 0 (hkids 0 (by omega))
        simp [lowE, highE, hi0]
        constructor
        · rintro ⟨⟨a, b⟩, ⟨c1, c2⟩, c3⟩; exact ⟨c2, c3, by omega, by omega, a, b⟩
        · rintro ⟨a, b, c1, c2, d, e⟩; exact ⟨⟨d, e⟩, ⟨by omega, a⟩, b⟩
      · simp [lowE, highE]
        constructor
        · rintro ⟨⟨a, b⟩, ⟨c1, c2⟩, c3⟩; subst a; exact ⟨c2, c3, by omega, by omega, rfl, fun i hi => by rw [← ih i (hkids i hi)]; exact b i hi⟩
        · rintro ⟨a, b, c1, c2, d, e⟩; subst d; exact ⟨⟨rfl, fun i hi => by rw [ih i (hkids i hi)]; exact e i hi⟩, ⟨by omega, a⟩, b⟩
      · simp [lowE, highE]
        constructor
        · rintro ⟨⟨a, b⟩, ⟨c1, c2⟩, c3⟩; subst c3; exact ⟨c1, c2, rfl, a, b, fun i hi => by omega⟩
        · rintro ⟨a, b, c3, d, e, _⟩; exact ⟨⟨d, e⟩, ⟨a, b⟩, c3⟩
      · simp [lowE, highE]
        constructor
        · rintro ⟨⟨⟨a, b⟩, a', b'⟩, c1, c3⟩
          subst a'
          exact ⟨c1, c3, a, b, rfl, fun i hi => (by (have e : i = 0 := by omega); subst e; rw [← ih _ (hkids N.toNat (by omega))]; exact b')⟩
        · rintro ⟨a, b, c1, c2, d, e⟩
          subst d
          exact ⟨⟨⟨c1, c2⟩, rfl, by rw [ih _ (hkids N.toNat (by omega))]; exact e 0 (by omega)⟩, a, b⟩

/-- No part of a node is missing. -/
def vokN : KN → Prop
  | .nil => False
  | .mk _ _ c of => ∀ i, i < c → vokN (of i)

theorem NShows.vok {w : World} (t : KN) : ∀ v, NShows w t v → vokN t := by
  induction t with
  | nil => exact fun _ h => h.elim
  | mk k n c of ih =>
    rintro v ⟨vo, rfl, hk, hn, hc, ho⟩ i hi
    rcases ho with ⟨h, _⟩ | ⟨g, off, cap, rfl, hle, hcell⟩
    · omega
    · obtain ⟨x0, x1, x2, _, _, _, hx⟩ := hcell i hi
      exact ih i _ hx

theorem vnamed_nameT (i : Nat) (hi : i < 4) (n : Nat) : named (nameT i n) = true := by
  have key : ∀ j < 26, ∀ i < 4, named [UInt8.ofNat (97 + i), UInt8.ofNat (65 + j), 48] = true := by decide +kernel
  have := key (n % 26) (Nat.mod_lt _ (by decide)) i hi
  have e : ((65 : Int) + (n : Int) % 26).toNat = 65 + n % 26 := by omega
  unfold nameT
  rw [e]
  exact this

theorem vnameT_ne (i j : Nat) (hi : i < 4) (hj : j < 4) (h : i ≠ j) (n : Int) : nameT i n ≠ nameT j n := by
  have key : ∀ i < 4, ∀ j < 4, i ≠ j → UInt8.ofNat (97 + i) ≠ UInt8.ofNat (97 + j) := by decide
  intro e
  unfold nameT at e
  simp only [List.cons.injEq] at e
  exact key i hi j hj h e.1

theorem vnames_right (n c : Nat) (h0 : 1 ≤ c) (hc : c ≤ 3) : checkNamesE ((List.range c).map (fun i => nameT i n)) = 0 := by
  have h01 := vnameT_ne 0 1 (by omega) (by omega) (by omega) n
  have h02 := vnameT_ne 0 2 (by omega) (by omega) (by omega) n
  have h12 := vnameT_ne 1 2 (by omega) (by omega) (by omega) n
  have n0 := vnamed_nameT 0 (by omega) n
  have n1 := vnamed_nameT 1 (by omega) n
  have n2 := vnamed_nameT 2 (by omega) n
  unfold checkNamesE
  rw [if_neg (by simp; omega)]
  rcases (by omega : c = 1 ∨ c = 2 ∨ c = 3) with rfl | rfl | rfl <;> simp [List.range_succ, namesE, nameE, n0, n1, n2, h01, h02, h12]

theorem leaf_good (q : Nat) (hq : q < 4) (of : Nat → KT) : goodE (.mk q 0 [] 0 of) := by
  refine ⟨⟨by omega, ?_⟩, fun i hi => by omega⟩
  rcases (by omega : q = 0 ∨ q = 1 ∨ q = 2 ∨ q = 3) with rfl | rfl | rfl | rfl <;> simp [ownOK, sizedB, formedB]

/-- A type of the laws, of nothing that is known. -/
theorem good_type (t : KN) : ∀ d, 1 ≤ d → vokN t → goodE (typeE [] t d) ∧ ∀ lv, d ≤ lv → hasE (typeE [] t d) lv = true := by
  induction t with
  | nil => exact fun _ _ h => h.elim
  | mk kd n c of ih =>
    intro d hd ok
    rw [typeE_mk]
    have hsub : ∀ i, 2 ≤ d → goodE (subE [] c of d i) ∧ ∀ lv, d - 1 ≤ lv → hasE (subE [] c of d i) lv = true := by
      intro i h2
      unfold subE
      split
      · have h4 : i % 4 < 4 := Nat.mod_lt _ (by decide)
        refine ⟨leaf_good _ h4 _, fun lv hlv => ?_⟩
        rw [hasE, if_neg (by omega)]
        rfl
      · exact ih _ _ (by omega) (ok _ (Nat.mod_lt _ (by omega)))
    have h60 : (1 : Int) ≤ 1 + ((n % 60 : Nat) : Int) ∧ 1 + ((n % 60 : Nat) : Int) ≤ 60 := by have := Nat.mod_lt n (show 0 < 60 by decide); omega
    have h3 : n % 3 < 3 := Nat.mod_lt _ (by decide)
    have hnm : checkNamesE ((List.range (1 + n % 3)).map (fun i => nameT i n)) = 0 := vnames_right n _ (by omega) (by omega)
    obtain ⟨k, hk⟩ : ∃ k, k = kindE kd d [] := ⟨_, rfl⟩
    have hk9 : k ≤ 8 ∧ (k = 5 ∨ k = 6 ∨ k = 8 → 2 ≤ d) := by
      rw [hk]; unfold kindE
      split
      · omega
      · rename_i h
        simp only [List.length_nil, and_true] at h
        omega
    rw [← hk]
    clear hk
    rcases (by omega : k = 0 ∨ k = 1 ∨ k = 2 ∨ k = 3 ∨ k = 4 ∨ k = 5 ∨ k = 6 ∨ k = 7 ∨ k = 8) with h | h | h | h | h | h | h | h | h <;> subst h
    · exact ⟨leaf_good 0 (by omega) _, fun lv hlv => by simp [mkE, hasE]; omega⟩
    · exact ⟨leaf_good 1 (by omega) _, fun lv hlv => by simp [mkE, hasE]; omega⟩
    · exact ⟨leaf_good 2 (by omega) _, fun lv hlv => by simp [mkE, hasE]; omega⟩
    · exact ⟨leaf_good 3 (by omega) _, fun lv hlv => by simp [mkE, hasE]; omega⟩
    · have e : mkE [] 4 n (subE [] c of d) = .mk 4 (1 + (n % 60 : Nat)) [] 0 (fun _ => .nil) := by simp [mkE]
      rw [e]
      refine ⟨⟨⟨by omega, ?_⟩, fun i hi => by omega⟩, fun lv hlv => by simp [hasE]; omega⟩
      unfold ownOK sizedB formedB
      rw [decide_eq_true h60]
      simp
    · have hs := hsub 0 (hk9.2 (by omega))
      have e : mkE [] 5 n (subE [] c of d) = .mk 5 (1 + (n % 60 : Nat)) [] 1 (fun _ => subE [] c of d 0) := by simp [mkE]
      rw [e]
      refine ⟨⟨⟨by omega, ?_⟩, fun i hi => hs.1⟩, fun lv hlv => ?_⟩
      · unfold ownOK sizedB formedB
        rw [decide_eq_true h60]
        simp
      · rw [hasE, if_neg (by omega), List.all_eq_true]
        exact fun i _ => hs.2 _ (by omega)
    · have hs := fun i => hsub i (hk9.2 (by omega))
      have e : mkE [] 6 n (subE [] c of d) = .mk 6 0 ((List.range (1 + n % 3)).map (fun i => nameT i n)) (1 + n % 3) (subE [] c of d) := by simp [mkE]
      rw [e]
      refine ⟨⟨⟨by omega, ?_⟩, fun i hi => (hs i).1⟩, fun lv hlv => ?_⟩
      · unfold ownOK sizedB formedB
        simp only [if_pos (show (6 : Nat) = 6 ∨ (6 : Nat) = 7 ∨ (6 : Nat) = 8 by decide)]
        rw [hnm]
        simp
      · rw [hasE, if_neg (by omega), List.all_eq_true]
        exact fun i _ => (hs i).2 _ (by omega)
    · have e : mkE [] 7 n (subE [] c of d) = .mk 7 0 ((List.range (1 + n % 3)).map (fun i => nameT i n)) 0 (fun _ => .nil) := by simp [mkE]
      rw [e]
      refine ⟨⟨⟨by omega, ?_⟩, fun i hi => by omega⟩, fun lv hlv => by simp [hasE]; omega⟩
      unfold ownOK sizedB formedB
      simp only [if_pos (show (7 : Nat) = 6 ∨ (7 : Nat) = 7 ∨ (7 : Nat) = 8 by decide)]
      rw [hnm]
      simp
    · have hs := fun i => hsub i (hk9.2 (by omega))
      have e : mkE [] 8 n (subE [] c of d) = .mk 8 0 ((List.range (1 + n % 3)).map (fun i => nameT i n)) (1 + n % 3) (subE [] c of d) := by simp [mkE]
      rw [e]
      refine ⟨⟨⟨by omega, ?_⟩, fun i hi => (hs i).1⟩, fun lv hlv => ?_⟩
      · unfold ownOK sizedB formedB
        simp only [if_pos (show (8 : Nat) = 6 ∨ (8 : Nat) = 7 ∨ (8 : Nat) = 8 by decide)]
        rw [hnm]
        simp
      · rw [hasE, if_neg (by omega), List.all_eq_true]
        exact fun i _ => (hs i).2 _ (by omega)

/-- What the check answers of a type of the laws. -/
theorem val_is (t : KN) (T : VT) (h : vokN t) : valE (typeE [] t 4) T = if isE (typeE [] t 4) T then 0 else 17 := by
  obtain ⟨hg, hh⟩ := good_type t 4 (by omega) h
  unfold valE isVal
  rw [hh 20 (by omega), fits_is _ hg, Bool.true_and]
end
section
attribute [local go_sem] run_store_float

theorem Try.infoI64 : (Try.prog.info? 2).map (fun i => (i.zero, i.size, i.bytes)) = some (some (.int .i64 0), 1, 8) := by kernel_rfl

/-- One number more, if there are not so many. -/
def addE (m : Int) (acc : List Int) (x : Int) : List Int := if m ≤ (acc.length : Int) then acc else acc ++ [x]

/-- A VALUE'S NUMBERS. -/
def flE : KT → VT → List Int
  | .nil, _ => []
  | .mk _ _ _ _ _, .nil => []
  | .mk k m ns n of, .mk N f s c ov =>
    if k = 3 then [Fl.whole f]
    else if k = 4 then [(s.length : Int)]
    else (if k = 5 then [(c : Int)] else []) ++ (if k < 3 ∨ 6 < k then [N] else []) ++ ((List.range c).map (fun i => flE (of (if k = 6 then i else if k = 8 then N.toNat else 0)) (ov i))).flatten
end
end Go.Proofs.Ytplipjijaaejlaa
