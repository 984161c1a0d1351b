/-
  CouBack, part 24 of what it rests on: ValBuild3.
-/
import Derived.Test.YtplipjijaaejlaaGreatS23
set_option linter.unusedVariables false
set_option linter.unusedSimpArgs false
set_option maxHeartbeats 64000000
namespace Go.Proofs.YtplipjijaaejlaaGreat
open Go.RowKit
open Go.Lib (hid)
section
attribute [local go_sem] run_store_float

/-- Ahead of the call of take, and behind it. -/
def TakeS (w : World) (b : Nat) (nv : Value) (tk tk' bg : Nat) : List Value → World → Prop
  | [], wx => Fr (fun k => k = b) w wx ∧ BBox wx b nv tk bg
  | _ :: _, wx => Fr (fun k => k = b) w wx ∧ BBox wx b nv tk' bg

theorem TakeS.f {w : World} {b : Nat} {nv : Value} {tk tk' bg : Nat} {cvs : List Value} {wx : World} (h : TakeS w b nv tk tk' bg cvs wx) : Fr (fun k => k = b) w wx := by
  match cvs with
  | [] => exact h.1
  | _ :: _ => exact h.1

theorem run_min_int (x y : Int) (ts : Array TypeId) (t : TypeId) (w : World) : (Builtin.min_ ts t #[.int .i64 x, .int .i64 y]).run Tryz.prog w = .ok (.int .i64 (if y < x then y else x)) w := by
  simp [Builtin.min_, Builtin.min2]

set_option maxRecDepth 100000 in
theorem seq_any (l : List Int) (m : Int) (ns : List Txt) (n : Nat) (of : Nat → KT) (ih : BuildAt l (of 0)) (R : Nat → Prop) (v nv : Value) (w : World) (b tk bg : Nat) (hgood : goodE (.mk 5 m ns n of))
    (htk : tk + costE (.mk 5 m ns n of) ≤ 100000) (hbg : bg + costE (.mk 5 m ns n of) ≤ 100000) (hsh : Shows R w (.mk 5 m ns n of) v) (hRb : ¬ R b) (hnum : Nums R w l nv) (hbox : BBox w b nv tk (bg + 1)) :
    Calls Tryz.prog 43 #[.pointer (some ⟨b, 0, none⟩), v] w (BuiltAs l (.mk 5 m ns n of) w b nv tk bg) := by
  obtain ⟨⟨hn12, hown⟩, hkids⟩ := hgood
  obtain ⟨hk8, hmost, hone, hparts, hnames, hnone⟩ := own_facts hown
  obtain ⟨hm0, hm1⟩ := hmost (.inr rfl)
  obtain rfl : n = 1 := hone rfl
  have hgd := hkids 0 (by omega)
  have hcost := cost_seq m ns 1 of
  have htk' : tk ≤ 100000 := by omega
  have hbg' : bg + 1 ≤ 100000 := by omega
  obtain ⟨vn, vo, rfl, hk, hn, ht, ho⟩ := hsh
  obtain ⟨a, c, rfl, _⟩ := ht.shape
  obtain ⟨a', c', rfl, hs⟩ : ∃ a' c', vo = .slice a' 1 c' ∧ Kids R w of a' 1 c' := by
    rcases ho with ⟨h, _⟩ | ⟨g, off, cap, hg, rfl, hle, hc⟩
    · cases h
    · exact ⟨_, cap, rfl, .inr ⟨hle, g, off, hg, rfl, hc⟩⟩
  rcases hs with hz | ⟨hcap, g, off, hg, rfl, hcell⟩
  · cases hz
  obtain ⟨x0, x1, x2, x3, y0, y1, y2, y3, hx⟩ := hcell 0 (by omega)
  obtain ⟨xk, xm, xa, xn, xc, xa', xn', xc', rfl, rfl, rfl, rfl⟩ := hx.cells
  simp only [Nat.zero_mul, Nat.add_zero] at y0 y1 y2 y3
  have hRB : ∀ i, (R i ∧ i < w.heap.size) → ¬ i = b := fun i hi e => hRb (by rw [← e]; exact hi.1)
  have hgl : g < w.heap.size := World.block_lt_of_cell? w _ y0
  have HY := Lib.hid (And.intro y0 (And.intro y1 (And.intro y2 y3)))
  have HX := Lib.hid (Shows.mono (S := fun k => R k ∧ k < w.heap.size) (fun k hk h => ⟨h, hk⟩) _ _ hx)
  have HRB := Lib.hid hRB
  have HG := Lib.hid (show R g ∧ g < w.heap.size from ⟨hg, hgl⟩)
  have HN2 := Lib.hid (hnum.mono (S := fun k => R k ∧ k < w.heap.size) (fun k hk h => ⟨h, hk⟩))
  have HBX := Lib.hid hbox
  have hbl : b < w.heap.size := lt_of_block hbox
  have HCST := Lib.hid (And.intro htk (And.intro hbg hcost))
  have HGD := Lib.hid hgd
  clear ho hcell hx y0 y1 y2 y3 hRb hnum hbox hmost hone hparts hnames hnone hkids htk hbg hown hcost hk hgd hRB hn ht hg
  go_enter Tryz.func43, Tryz.ntmps43
  go_upto_region 2 with fail
  obtain ⟨w3, hw3⟩ : ∃ w3, w3 = ((w.alloc (.cells #[.int .u8 5, .int .i64 m, .slice a ns.length c, .slice (some ⟨g, off, none⟩) 1 c'] 34)).alloc (.cells #[.int .i64 0, .float .f64 0, .string ⟨#[]⟩, .slice none 0 0] 39)).alloc (.cells #[.int .i64 0, .float .f64 0, .string ⟨#[]⟩, .slice none 0 0] 39) := ⟨_, rfl⟩
  rw [← hw3]
  have f3 : Fr (fun _ => False) w w3 := by rw [hw3]; exact (((Fr.refl _ _).alloc _).alloc _).alloc _
  have q3 : w3.heap[w.heap.size]? = some (.cells #[.int .u8 5, .int .i64 m, .slice a ns.length c, .slice (some ⟨g, off, none⟩) 1 c'] 34 (0, 0)) := by
    rw [hw3, Below.heap_alloc _ _ _ (by simp; omega)]; exact heap_alloc_first _ _ _
  have p3 : w3.heap[w.heap.size + 1]? = some (.cells #[.int .i64 0, .float .f64 0, .string ⟨#[]⟩, .slice none 0 0] 39 (0, 0)) := by
    rw [hw3, Below.heap_alloc _ _ _ (by simp)]; exact heap_alloc_two _ _ _
  have v3 : VLoc w3 (w.heap.size + 1 + 1) (.slice none 0 0) := by
    rw [hw3]
    have h := heap_alloc_new ((w.alloc (.cells #[.int .u8 5, .int .i64 m, .slice a ns.length c, .slice (some ⟨g, off, none⟩) 1 c'] 34)).alloc (.cells #[.int .i64 0, .float .f64 0, .string ⟨#[]⟩, .slice none 0 0] 39)) (.cells #[.int .i64 0, .float .f64 0, .string ⟨#[]⟩, .slice none 0 0] 39)
    rw [show ((w.alloc (.cells #[.int .u8 5, .int .i64 m, .slice a ns.length c, .slice (some ⟨g, off, none⟩) 1 c'] 34)).alloc (.cells #[.int .i64 0, .float .f64 0, .string ⟨#[]⟩, .slice none 0 0] 39)).heap.size = w.heap.size + 1 + 1 by simp] at h
    exact h
  have b3 := HBX.out.fr f3 (fun h => h)
  have lt3 : w.heap.size + 1 + 1 < w3.heap.size := lt_of_block v3
  obtain ⟨vb, hvb⟩ : ∃ vb, w.heap.size + 1 + 1 = vb := ⟨_, rfl⟩
  obtain ⟨rb, hrb⟩ : ∃ rb, w.heap.size + 1 = rb := ⟨_, rfl⟩
  obtain ⟨tb, htb⟩ : ∃ tb, w.heap.size = tb := ⟨_, rfl⟩
  rw [hvb] at v3 lt3 ⊢
  rw [hrb] at p3 ⊢
  rw [htb] at q3 ⊢
  have o1 : tb < rb := by omega
  have o2 : rb < vb := by omega
  have o3 : b < tb := by omega
  have o4 : rb ≠ b := by omega
  have o5 : w.heap.size ≤ rb := by omega
  have hrbb : rb ≠ b := o4
  have hbvb : b < vb := by omega
  have hwvb : w.heap.size < vb := by omega
  have HTB := Lib.hid htb
  unfold BBox at b3
  have r2 := cells_row b3 2 _ rfl
  have H3 := Lib.hid (And.intro f3 (And.intro q3 (And.intro p3 (And.intro v3 b3))))
  clear hw3 f3 hvb hrb htb
  by_cases h100 : 100 < bg + 1
  · have h100' : 100 < ((bg + 1 : Nat) : Int) := by omega
    have HE : Hid (buildE l (.mk 5 m ns 1 of) (tk, bg) = (listV [], tk, bg + 1)) := Lib.hid (buildE_none l m ns 1 of (tk, bg) h100)
    obtain ⟨d0, d1, d2, d3⟩ := cell_of_four v3
    have t0 := cells_row p3 0 _ rfl
    have t1 := cells_row p3 1 _ rfl
    have t2 := cells_row p3 2 _ rfl
    have t3 := cells_row p3 3 _ rfl
    have u0 : w3.frozen? ⟨rb, 0, none⟩ = false := by simp [World.frozen?, p3]
    have u1 : w3.frozen? ⟨rb, 1, none⟩ = false := by simp [World.frozen?, p3]
    have u2 : w3.frozen? ⟨rb, 2, none⟩ = false := by simp [World.frozen?, p3]
    have u3 : w3.frozen? ⟨rb, 3, none⟩ = false := by simp [World.frozen?, p3]
    clear q3 p3 v3 b3 h100
    go_wp2
    refine bodyPost_ret (results_cell_row rfl _ _ rb 39 _ _ _ rfl (store_four H3.out.2.2.1) Tryz.underlying39 rfl (by kernel_rfl)) rfl ?_
    exact record_done H3.out.2.2.1 (H3.out.1.mono (fun _ _ h => h.elim)) H3.out.2.2.2.2 o4 o5 o2 (ItRow.nil _ _ _ _ _ _) rfl (by simp) HE.out
  have h100' : ¬ 100 < ((bg + 1 : Nat) : Int) := by omega
  have hx0 : 0 ≤ numE l tk % 4 := Int.emod_nonneg _ (by omega)
  have hx1 : numE l tk % 4 < 4 := Int.emod_lt_of_pos _ (by omega)
  obtain ⟨x, hx⟩ : ∃ x, numE l tk % 4 = x := ⟨_, rfl⟩
  rw [hx] at hx0 hx1
  obtain ⟨cnt, hcnt⟩ : ∃ cnt : Nat, (if m < x then m else x) = (cnt : Int) := ⟨(if m < x then m else x).toNat, by split <;> omega⟩
  have hcnt3 : cnt ≤ 3 := by split at hcnt <;> omega
  have hmin : (min (numE l tk % 4) m).toNat = cnt := by rw [hx]; split at hcnt <;> omega
  obtain ⟨f, hf⟩ : ∃ f : Nat → Nat × Nat → VT × (Nat × Nat), f = (fun _ q => buildE l (of 0) q) := ⟨_, rfl⟩
  have HF := Lib.hid hf
  have HE : Hid (buildE l (.mk 5 m ns 1 of) (tk, bg) = (listV (partsL f cnt (nextE l tk, bg + 1)).1, (partsL f cnt (nextE l tk, bg + 1)).2)) := Lib.hid (by
    rw [buildE_seq l m ns 1 of (tk, bg) h100, hf]
    simp only [hmin])
  have HLE := Lib.hid (show ∀ j, j ≤ cnt → (partsL f j (nextE l tk, bg + 1)).2.1 + costE (of 0) * (cnt - j) ≤ 100000 ∧ (partsL f j (nextE l tk, bg + 1)).2.2 + costE (of 0) * (cnt - j) ≤ 100000 from fun j hj => by
    have h1 := partsL_le f (fun _ => costE (of 0)) cnt (fun i s hi => by rw [hf]; exact (build_le l (of 0) HGD.out s).1) (nextE l tk, bg + 1) j hj
    rw [sumTo_const] at h1
    have h2 := nextE_le l tk
    have h3 := HCST.out
    have h4 : j * costE (of 0) + costE (of 0) * (cnt - j) ≤ 3 * costE (of 0) := by
      rw [Nat.mul_comm (costE (of 0)), ← Nat.add_mul]
      exact Nat.mul_le_mul_right _ (by omega)
    have h5 := h1.1
    have h6 := h1.2
    simp only at h5 h6
    omega)
  have htake := fun (wx : World) (hb : BBox wx b nv tk (bg + 1)) (hf : Fr (fun k => k = b) w3 wx) => take_any (fun k => R k ∧ k < w.heap.size) l nv b tk (bg + 1) 4 wx hb ((HN2.out.fr H3.out.1 (fun _ _ h => h)).fr hf HRB.out) htk' (by omega) (by omega)
  rw [hx] at htake
  have HTK := Lib.hid htake
  have hmn : ∀ (ts : Array TypeId) (t : TypeId) (w : World), (Builtin.min_ ts t #[.int .i64 x, .int .i64 m]).run Tryz.prog w = .ok (.int .i64 (cnt : Int)) w := fun ts t w => by rw [run_min_int, hcnt]
  have HMN := Lib.hid hmn
  clear hx hcnt hmin hf htake hmn h100 q3 p3 v3 b3
  go_upto_region 4 with fail
  refine wp_region_chain (by kernel_rfl) [some 13, some 14, some 15, some 16, some 17, some 18] rfl (by decide) (by intro d hd; simp at hd ⊢; omega)
    [1] (TakeS w3 b nv tk (nextE l tk) (bg + 1))
    [.free (.pointer (some ⟨b, 0, none⟩)), .link (some (.int .i64 x)), .free (.pointer (some ⟨tb, 1, none⟩)), .free (.int .i64 m), .free (.int .i64 cnt), .free (.int .i64 0)]
    (by kernel_rfl) (by kernel_rfl) ?a0 ?astep ?afin
  case a0 => exact ⟨(Fr.refl _ _).drew, H3.out.2.2.2.2⟩
  case astep =>
    intro vals
    simp only [frOfU, fillU, List.setIfInBounds_toArray, List.set_cons_succ, List.set_cons_zero]
    repeat' (first | exact AllOps.nil | refine AllOps.cons ?_ ?_)
    all_goals
      intro cvs wx hS he hu hlim K hK
      simp only [Act.put, List.setIfInBounds_toArray, List.set_cons_succ, List.set_cons_zero, List.getD_cons_zero, List.getD_cons_succ] at hK
      simp only [List.mem_cons, List.not_mem_nil, or_false, forall_eq_or_imp, forall_eq, Region.binds, forall_const, vmode_gc, Bool.false_eq_true, false_imp_iff, List.getD_cons_zero, List.getD_cons_succ, OpSort.val, Option.some.injEq, forall_eq', reduceCtorEq, implies_true, true_and, and_true] at he
      have HSX := Lib.hid hS
      clear hS
    all_goals first | (clear hlim hu; (try simp only [he] at hK ⊢); go_simp; exact hK) | skip
    · obtain rfl := hlim (0 : Nat) rfl
      have h1 := HSX.out
      simp only [List.take_zero, List.map_nil] at h1
      simp only [he] at hK ⊢
      go_simp
      go_at_call 40
      refine (HTK.out wx h1.2 h1.1).mono ?_
      rintro e1 wa ⟨rfl, fa, ba⟩
      exact hK _ _ (fun _ h => by cases h; rfl) ⟨h1.1.trans fa (fun _ _ h => h), ba⟩
    · have hq := box_kept H3.out.2.1 HSX.out.f (fun h => by omega)
      have e1 := cells_row hq 1 _ rfl
      clear hlim hu hq
      simp only [he] at hK ⊢
      go_simp
      exact hK
    · have hmn := HMN.out
      clear hlim hu
      simp only [he] at hK ⊢
      go_simp
      exact hK
  case afin =>
  intro vals w4 hS hV
  have v1 := hV 1 _ (by decide) rfl
  have v4 := hV 4 _ (by decide) rfl
  have v5 := hV 5 _ (by decide) rfl
  clear hV
  simp only [List.map_cons, List.map_nil] at hS
  obtain ⟨f4, b4⟩ := hS
  have H4 := Lib.hid (show Fr (fun k => k = b) w w4 ∧ BBox w4 b nv (nextE l tk) (bg + 1) ∧ VLoc w4 vb (.slice none 0 0) ∧ w4.heap[rb]? = some (.cells #[.int .i64 0, .float .f64 0, .string ⟨#[]⟩, .slice none 0 0] 39 (0, 0)) ∧ w4.heap[tb]? = some (.cells #[.int .u8 5, .int .i64 m, .slice a ns.length c, .slice (some ⟨g, off, none⟩) 1 c'] 34 (0, 0)) from
    ⟨(H3.out.1.mono (fun _ _ h => h.elim)).trans f4 (fun _ _ h => h), b4, box_kept H3.out.2.2.2.1 f4 (fun h => by omega), box_kept H3.out.2.2.1 f4 (fun h => by omega), box_kept H3.out.2.1 f4 (fun h => by omega)⟩)
  clear f4 b4
  simp only [frOfU, fillU, List.setIfInBounds_toArray, List.set_cons_succ, List.set_cons_zero]
  simp only [Nat.reduceAdd, v1, v4, v5]
  clear v1 v4 v5
  go_wp2
  go_loopg [18] cnt (fun G u18 wr => ∃ (j : Nat) (po : Value), j ≤ cnt ∧ G = cnt - j ∧ u18 = .int .i64 j ∧ Hid (Fr (fun k => k = b) w wr ∧ BBox wr b nv (partsL f j (nextE l tk, bg + 1)).2.1 (partsL f j (nextE l tk, bg + 1)).2.2 ∧ VLoc wr vb po ∧ VRow wr vb po (partsL f j (nextE l tk, bg + 1)).1 ∧ wr.heap[rb]? = some (.cells #[.int .i64 0, .float .f64 0, .string ⟨#[]⟩, .slice none 0 0] 39 (0, 0)) ∧ wr.heap[tb]? = some (.cells #[.int .u8 5, .int .i64 m, .slice a ns.length c, .slice (some ⟨g, off, none⟩) 1 c'] 34 (0, 0))))
  case atStart => exact ⟨0, .slice none 0 0, Nat.zero_le _, rfl, by go_num, Lib.hid ⟨H4.out.1, H4.out.2.1, H4.out.2.2.1, ItRow.nil _ _ _ _ _ _, H4.out.2.2.2.1, H4.out.2.2.2.2⟩⟩
  case round =>
    obtain ⟨j, po, hj, rfl, rfl, HI⟩ := hrel
    have hlen := partsL_length f j (nextE l tk, bg + 1)
    obtain ⟨qa, qc, hpo⟩ : ∃ qa qc, po = .slice qa j qc := by
      obtain ⟨qa, qc, e⟩ := HI.out.2.2.2.1.slice
      rw [hlen] at e
      exact ⟨qa, qc, e⟩
    subst hpo
    have HLEN := Lib.hid hlen
    have hvbr : vb < wr.heap.size := lt_of_block HI.out.2.2.1
    clear hlen
    by_cases hlt : j < cnt
    · have HLT := Lib.hid hlt
      obtain ⟨wp, hwp⟩ : ∃ wp : World, wp = wr := ⟨_, rfl⟩
      subst hwp
      have hown : ∀ k, (Value.slice qa j qc).ownBlock = some k → vb + 1 ≤ k ∧ k < wp.heap.size := fun k hk => by
        have := HI.out.2.2.2.1.own k hk
        omega
      have HP := Lib.hid hown
      have HB0 := Lib.hid (And.intro hbvb (And.intro hwvb (And.intro o1 (And.intro o2 o3))))
      have jn : (j : Int) < (cnt : Int) := by omega
      clear hown
      go_upto_region 6 with fail
      clear jn
      obtain ⟨s, hs⟩ : ∃ s, s = (partsL f j (nextE l tk, bg + 1)).2 := ⟨_, rfl⟩
      obtain ⟨L, hL⟩ : ∃ L, L = (partsL f j (nextE l tk, bg + 1)).1 := ⟨_, rfl⟩
      have HSL := Lib.hid (And.intro hs hL)
      have hacc : AccS wp b vb nv (.slice qa j qc) L s (f j s).2 (f j s).1 [] wp.drew := by
        rw [hs, hL]
        exact ⟨(Fr.refl _ _).drew, HI.out.2.1, HI.out.2.2.1, HI.out.2.2.2.1.fr ((Fr.refl (fun _ => False) _).drew) (fun _ _ h => h)⟩
      have HACC := Lib.hid hacc
      have hbnd : s.1 + costE (of 0) ≤ 100000 ∧ s.2 + costE (of 0) ≤ 100000 := by
        have h1 := HLE.out j hj
        rw [← hs] at h1
        have h2 : costE (of 0) * 1 ≤ costE (of 0) * (cnt - j) := Nat.mul_le_mul_left _ (by have := HLT.out; omega)
        omega
      have HBND := Lib.hid hbnd
      have hLj : L.length = j := by rw [hL]; exact HLEN.out
      have HLJ := Lib.hid hLj
      have HFJ : Hid (f j s = buildE l (of 0) s) := Lib.hid (by rw [HF.out])
      have hdirt : ∀ k, k < w.heap.size → ¬ k = b → ¬ Dirt b vb (.slice qa j qc) k := fun k hk hb h => by
        rcases h with h | h | h
        · exact hb h
        · omega
        · have := (HP.out _ h).1; omega
      have HD := Lib.hid hdirt
      have hgb : ¬ g = b := fun h => HRB.out g HG.out h
      have HGB := Lib.hid hgb
      clear hs hL hacc hbnd hLj hdirt hgb
      refine wp_region_chain (by kernel_rfl) [some 20, some 21, some 22, some 23, some 24, some 25, some 26, some 27, some 28, some 29, some 30, none] rfl (by decide) (by intro d hd; simp at hd ⊢; omega)
        [7, 8, 9, 11] (AccS wp b vb nv (.slice qa j qc) L s (f j s).2 (f j s).1)
        [.free (.pointer (some ⟨vb, 3, none⟩)), .free (.slice qa j qc), .free (.pointer (some ⟨b, 0, none⟩)), .free (.pointer (some ⟨tb, 3, none⟩)), .free (.slice (some ⟨g, off, none⟩) 1 c'), .free (.pointer (some ⟨g, off, none⟩)), .free (.agg #[.int .u8 xk, .int .i64 xm, .slice xa xn xc, .slice xa' xn' xc']),
         .link none, .link none, .link none, .free (.pointer (some ⟨vb, 3, none⟩)), .link none]
        (by kernel_rfl) (by kernel_rfl) ?h0 ?step ?fin
      case h0 => exact HACC.out
      case step =>
        intro vals2
        simp only [frOfU, fillU, List.setIfInBounds_toArray, List.set_cons_succ, List.set_cons_zero]
        repeat' (first | exact AllOps.nil | refine AllOps.cons ?_ ?_)
        all_goals
          intro cvs wx hS he hu hlim K hK
          simp only [Act.put, List.setIfInBounds_toArray, List.set_cons_succ, List.set_cons_zero, List.getD_cons_zero, List.getD_cons_succ] at hK
          simp only [List.mem_cons, List.not_mem_nil, or_false, forall_eq_or_imp, forall_eq, Region.binds, forall_const, vmode_gc, Bool.false_eq_true, false_imp_iff, List.getD_cons_zero, List.getD_cons_succ, OpSort.val, Option.some.injEq, forall_eq', reduceCtorEq, implies_true, true_and, and_true] at he
          have HSX := Lib.hid hS
          clear hS
        all_goals first | (clear hlim hu; (try simp only [he] at hK ⊢); go_simp; exact hK) | skip
        · have hl := HSX.out.loc (Nat.le_trans (hlim 2 9 rfl (by kernel_rfl)) (by omega))
          have e3 := cells_row hl 3 _ rfl
          clear hlim hu hl
          simp only [he] at hK ⊢
          go_simp
          exact hK
        · have hq := box_kept HI.out.2.2.2.2.2 HSX.out.f (fun h => by
            rcases h with h | h | h
            · have := HB0.out; omega
            · have := HB0.out; omega
            · have := (HP.out _ h).1; have := HB0.out; omega)
          have e3 := cells_row hq 3 _ rfl
          clear hlim hu hq
          simp only [he] at hK ⊢
          go_simp
          exact hK
        · have up : ∀ {o : Nat} {u : Value}, w.cell? ⟨g, o, none⟩ = some u → wx.cell? ⟨g, o, none⟩ = some u := fun h => cell_fr (R := fun k => k = g) HSX.out.f (fun k hk h => HD.out k (by rw [hk]; exact HG.out.2) (fun h => HGB.out (hk.symm.trans h)) h) rfl (cell_fr (R := fun k => k = g) HI.out.1 (fun k hk h => HGB.out (hk.symm.trans h)) rfl h)
          have e0 := up HY.out.1
          have e1 := up HY.out.2.1
          have e2 := up HY.out.2.2.1
          have e3 := up HY.out.2.2.2
          clear hlim hu up
          simp only [he] at hK ⊢
          go_simp
          exact hK
        · obtain rfl := hlim (0 : Nat) rfl
          have h1 := HSX.out
          simp only [List.take_zero, List.map_nil] at h1
          simp only [he] at hK ⊢
          go_simp
          go_at_call 19
          have hR : ∀ k, (R k ∧ k < w.heap.size) → ¬ Dirt b vb (.slice qa j qc) k := fun k hk h => HD.out k hk.2 (HRB.out k hk) h
          refine (ih (fun k => R k ∧ k < w.heap.size) _ nv wx b s.1 s.2 HGD.out HBND.out.1 HBND.out.2 (Shows.fr h1.1 hR _ _ (Shows.fr HI.out.1 HRB.out _ _ HX.out)) (fun h => HRB.out b h rfl) ((HN2.out.fr HI.out.1 HRB.out).fr h1.1 hR) h1.2.1).mono ?_
          rintro e1 wa ⟨v', rfl, hsv, fa, ba⟩
          have fe : buildE l (of 0) (s.1, s.2) = f j s := HFJ.out.symm
          rw [fe] at hsv ba
          refine hK _ _ (fun _ h => by cases h) ⟨h1.1.trans fa (fun i _ h => .inl h), ba, box_kept h1.2.2.1 fa (fun h => by have := HB0.out; omega), h1.2.2.2.fr fa (fun k hk h => by have := HB0.out; omega), VShows.mono (fun k _ hk => Nat.le_trans h1.1.size hk) _ _ hsv⟩
        · obtain rfl := hlim (1 : Nat) rfl
          have h1 := HSX.out
          clear HSX hlim hu
          simp only [List.take_succ_cons, List.take_zero, List.map_cons, List.map_nil] at h1 hK
          obtain ⟨hf, hb, hl, hr, hs⟩ := h1
          obtain ⟨zn, zf, zs, za, zc, zcap, e4⟩ := hs.lit
          rw [e4] at hs
          simp only [he, e4] at hK ⊢
          go_simp
          have fa : Fr (fun _ => False) wx (wx.alloc (.cells #[.int .i64 zn, .float .f64 zf, .string zs, .slice za zc zcap] 39)) := (Fr.refl _ _).alloc _
          exact hK _ _ (fun _ h => by cases h) ⟨hf.trans fa (fun _ _ h => h.elim), hb.fr fa (fun h => h), box_kept hl fa (fun h => h), hr.fr fa (fun _ _ h => h), _, _, _, _, _, rfl, heap_alloc_new _ _, VShows.fr fa (fun _ _ h => h) _ _ hs⟩
        · obtain rfl := hlim (2 : Nat) rfl
          have h1 := HSX.out
          clear HSX hlim hu
          simp only [List.take_succ_cons, List.take_zero, List.map_cons, List.map_nil] at h1 hK
          obtain ⟨hf, hb, hl, hr, gg, y0, y1, y2, y3, e6, hgg, hss⟩ := h1
          rw [if_pos (by rfl)]
          have hsz := lt_of_block hl
          have hfs := hf.size
          have hb0 := HB0.out
          refine opWp_push (pv := (.slice qa j qc)) (l := L) (B := vb + 1) (X := fun _ => False) (D := vShown) (.tmp 21) (.tmp 28) 37 37 rfl Tryz.underlying37 Tryz.underlying37 Tryz.infoValue rfl (by decide) he hr gg e6 (news := [y0, y1, y2, y3]) hgg rfl (vshows_one hss) (by have := HLJ.out; omega) (by omega) (by omega) (fun k hk => hk.elim) (f j s).1 ⟨_, _, _, _, rfl, VShows.mono (fun k _ hk => ⟨by omega, fun h => h, fun h => by have := (HP.out _ h).2; omega⟩) _ _ hss⟩ ?_
          intro v' w8 hrow f6 hv
          refine hK _ _ (fun _ h => by cases h) ⟨hf.trans f6 (fun i _ h => .inr (.inr h)), hb.fr f6 (fun h => by have := (HP.out _ h).1; omega), box_kept hl f6 (fun h => by have := (HP.out _ h).1; omega), hrow⟩
        · obtain rfl := hlim (3 : Nat) rfl
          have h1 := HSX.out
          clear HSX hlim hu
          simp only [List.take_succ_cons, List.take_zero, List.map_cons, List.map_nil] at h1 hK
          obtain ⟨hf, hb, hl, hr⟩ := h1
          obtain ⟨xa, xn, xc, e7⟩ : ∃ xa xn xc, vals2 9 = .slice xa xn xc := by obtain ⟨a, c, e⟩ := hr.slice; exact ⟨a, _, c, e⟩
          have z2 : wx.frozen? ⟨vb, 3, none⟩ = false := by unfold VLoc at hl; simp [World.frozen?, hl]
          obtain ⟨e0, e1, e2, e3⟩ := cell_of_four hl
          have fs : Fr (fun k => k = vb) wx (wx.setCell ⟨vb, 3, none⟩ (vals2 9)) := Fr.set1 (Fr.refl _ _) 3 _
          have HG := Lib.hid (show AccS wp b vb nv (.slice qa j qc) L s (f j s).2 (f j s).1 [vals2 7, vals2 8, vals2 9, undef] (wx.setCell ⟨vb, 3, none⟩ (vals2 9)) from
            ⟨hf.trans fs (fun i _ h => .inr (.inl h)), hb.fr fs (fun h => by have := HB0.out; omega), setCell_row 3 _ hl, hr.fr fs (fun k hk h => by omega)⟩)
          clear hf hb hl hr fs
          rw [e7] at HG
          simp only [he, e7] at hK ⊢
          go_simp
          exact hK undef _ (fun _ h => by cases h) HG.out
      case fin =>
        intro vals2 w7 hS hV
        clear hV
        simp only [List.map_cons, List.map_nil] at hS
        obtain ⟨hf, hb, hl, hr⟩ := hS
        have hd : ∀ i, i < wp.heap.size → Dirt b vb (.slice qa j qc) i → i < w.heap.size → i = b := fun i hi h hw => by
          rcases h with h | h | h
          · exact h
          · have := HB0.out; omega
          · have := (HP.out _ h).1; have := HB0.out; omega
        have fw : Fr (fun k => k = b) w w7 := ⟨hf.os.trans HI.out.1.os, hf.tape.trans HI.out.1.tape, hf.output.trans HI.out.1.output, Nat.le_trans HI.out.1.size hf.size, fun i hi hs => by
          have i1 : i < wp.heap.size := Nat.lt_of_lt_of_le hi HI.out.1.size
          rw [hf.block i i1 (fun h => hs (hd i i1 h hi)), HI.out.1.block i hi hs]⟩
        have hrbk := box_kept HI.out.2.2.2.2.1 hf (fun h => by
          rcases h with h | h | h
          · exact hrbb h
          · omega
          · have := (HP.out _ h).1; omega)
        have htbk := box_kept HI.out.2.2.2.2.2 hf (fun h => by
          rcases h with h | h | h
          · omega
          · omega
          · have := (HP.out _ h).1; omega)
        have hps : partsL f (j + 1) (nextE l tk, bg + 1) = (L ++ [(f j s).1], (f j s).2) := by
          rw [HSL.out.1, HSL.out.2]; rfl
        have HS2 := Lib.hid (show Fr (fun k => k = b) w w7 ∧ BBox w7 b nv (partsL f (j + 1) (nextE l tk, bg + 1)).2.1 (partsL f (j + 1) (nextE l tk, bg + 1)).2.2 ∧ VLoc w7 vb (vals2 9) ∧ VRow w7 vb (vals2 9) (partsL f (j + 1) (nextE l tk, bg + 1)).1 ∧ w7.heap[rb]? = some (.cells #[.int .i64 0, .float .f64 0, .string ⟨#[]⟩, .slice none 0 0] 39 (0, 0)) ∧ w7.heap[tb]? = some (.cells #[.int .u8 5, .int .i64 m, .slice a ns.length c, .slice (some ⟨g, off, none⟩) 1 c'] 34 (0, 0)) from by
          rw [hps]; exact ⟨fw, hb, hl, hr, hrbk, htbk⟩)
        clear hf hb hl hr fw hrbk htbk hps hd
        simp only [frOfU, fillU, List.setIfInBounds_toArray, List.set_cons_succ, List.set_cons_zero]
        go_wp2
        go_roundg (cnt - (j + 1))
        case measure => have := HLT.out; omega
        case rel => exact ⟨j + 1, vals2 9, HLT.out, rfl, by go_num, HS2⟩
    · obtain rfl : j = cnt := by omega
      obtain ⟨d0, d1, d2, d3⟩ := cell_of_four HI.out.2.2.1
      have p2 := HI.out.2.2.2.2.1
      have t0 := cells_row p2 0 _ rfl
      have t1 := cells_row p2 1 _ rfl
      have t2 := cells_row p2 2 _ rfl
      have t3 := cells_row p2 3 _ rfl
      have u0 : wr.frozen? ⟨rb, 0, none⟩ = false := by simp [World.frozen?, p2]
      have u1 : wr.frozen? ⟨rb, 1, none⟩ = false := by simp [World.frozen?, p2]
      have u2 : wr.frozen? ⟨rb, 2, none⟩ = false := by simp [World.frozen?, p2]
      have u3 : wr.frozen? ⟨rb, 3, none⟩ = false := by simp [World.frozen?, p2]
      clear p2
      go_wp2
      refine bodyPost_ret (results_cell_row rfl _ _ rb 39 _ _ _ rfl (store_four HI.out.2.2.2.2.1) Tryz.underlying39 rfl (by kernel_rfl)) rfl ?_
      exact record_done HI.out.2.2.2.2.1 HI.out.1 HI.out.2.1 o4 o5 o2 HI.out.2.2.2.1 rfl (by have := HLEN.out; omega) HE.out
end
end Go.Proofs.YtplipjijaaejlaaGreat
