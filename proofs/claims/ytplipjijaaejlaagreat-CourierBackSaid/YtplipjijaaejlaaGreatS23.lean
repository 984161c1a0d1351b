/-
  CouBack, part 23 of what it rests on: ValBuildLe, ValAcc, ValBuild2.
-/
import Derived.Test.YtplipjijaaejlaaGreatS21
import Derived.Test.YtplipjijaaejlaaGreatS22
import Derived.Test.YtplipjijaaejlaaGreatS12
import Derived.IntWalk
set_option linter.unusedVariables false
set_option linter.unusedSimpArgs false
set_option maxHeartbeats 64000000
namespace Go.Proofs.YtplipjijaaejlaaGreat
open Go.RowKit
open Go.Lib (hid)
section
def sumTo (c : Nat → Nat) (j : Nat) : Nat := ((List.range j).map c).sum

theorem sumTo_succ (c : Nat → Nat) (j : Nat) : sumTo c (j + 1) = sumTo c j + c j := by
  unfold sumTo; rw [List.range_succ, List.map_append, List.sum_append]; simp

theorem sumTo_le (c : Nat → Nat) (j n : Nat) (h : j < n) : sumTo c j + c j ≤ sumTo c n := by
  induction n with
  | zero => omega
  | succ n ih =>
    rw [sumTo_succ]
    by_cases e : j = n
    · subst e; exact Nat.le_refl _
    · have := ih (by omega); omega

theorem sumTo_mono (c : Nat → Nat) (j n : Nat) (h : j ≤ n) : sumTo c j ≤ sumTo c n := by
  by_cases e : j = n
  · subst e; exact Nat.le_refl _
  · have := sumTo_le c j n (by omega); omega

theorem sumTo_const (c j : Nat) : sumTo (fun _ => c) j = j * c := by
  induction j with
  | zero => simp [sumTo]
  | succ j ih => rw [sumTo_succ, ih, Nat.add_mul]; omega

theorem partsL_le (f : Nat → Nat × Nat → VT × (Nat × Nat)) (c : Nat → Nat) (n : Nat) (h : ∀ i s, i < n → (f i s).2.1 ≤ s.1 + c i ∧ (f i s).2.2 ≤ s.2 + c i) (s : Nat × Nat) :
    ∀ j, j ≤ n → (partsL f j s).2.1 ≤ s.1 + sumTo c j ∧ (partsL f j s).2.2 ≤ s.2 + sumTo c j := by
  intro j
  induction j with
  | zero => intro _; exact ⟨by simp [partsL], by simp [partsL]⟩
  | succ j ih =>
    intro hj
    have h1 := ih (by omega)
    have h2 := h j (partsL f j s).2 (by omega)
    rw [sumTo_succ]
    simp only [partsL]
    omega

theorem szV_list (L : List VT) : szV (listV L) = 1 + (L.map szV).sum := by
  unfold listV
  rw [szV]
  congr 1
  have : ((List.range L.length).map fun i => szV (L.getD i .nil)) = L.map szV := by
    apply List.ext_getElem
    · simp
    · intro i h1 h2
      simp at h1
      simp [List.getD, h1]
  rw [this]

theorem partsL_sz (f : Nat → Nat × Nat → VT × (Nat × Nat)) (c : Nat → Nat) (n : Nat) (h : ∀ i s, i < n → szV (f i s).1 ≤ c i) (s : Nat × Nat) : ∀ j, j ≤ n → ((partsL f j s).1.map szV).sum ≤ sumTo c j := by
  intro j
  induction j with
  | zero => intro _; simp [partsL, sumTo]
  | succ j ih =>
    intro hj
    have h1 := ih (by omega)
    have h2 := h j (partsL f j s).2 (by omega)
    rw [sumTo_succ]
    simp only [partsL, List.map_append, List.sum_append, List.map_cons, List.map_nil, List.sum_cons, List.sum_nil]
    omega

theorem nextE_le (l : List Int) (tk : Nat) : nextE l tk ≤ tk + 1 := by unfold nextE; split <;> omega

/-- How often a Seq's part is built. -/
theorem seq_times (x m : Int) : (min (x % 4) m).toNat ≤ 3 := by
  have h1 := Int.emod_lt_of_pos x (show (0 : Int) < 4 by omega)
  omega

theorem choice_index (x : Int) (n : Nat) (hn : 1 ≤ n) : (x % (n : Int)).toNat < n := by
  have h1 := Int.emod_lt_of_pos x (show (0 : Int) < (n : Int) by omega)
  have h2 := Int.emod_nonneg x (show (n : Int) ≠ 0 by omega)
  omega

theorem cost_parts (k : Nat) (m : Int) (ns : List Txt) (n : Nat) (of : Nat → KT) (h : k ≠ 5) : costE (.mk k m ns n of) = 1 + sumTo (fun i => costE (of i)) n := by
  rw [costE, if_neg h]; rfl

theorem cost_seq (m : Int) (ns : List Txt) (n : Nat) (of : Nat → KT) : costE (.mk 5 m ns n of) = 1 + 3 * costE (of 0) := by
  rw [costE, if_pos rfl]

theorem build_le (l : List Int) (t : KT) : goodE t → ∀ s, ((buildE l t s).2.1 ≤ s.1 + costE t ∧ (buildE l t s).2.2 ≤ s.2 + costE t) ∧ szV (buildE l t s).1 ≤ costE t := by
  induction t with
  | nil => exact fun h => h.elim
  | mk k m ns n of ih =>
    intro hg s
    obtain ⟨⟨hn12, hown⟩, hkids⟩ := hg
    obtain ⟨hk8, hmost, hone, hparts, hnames, hnone⟩ := own_facts hown
    have hnx := nextE_le l s.1
    have hone' : 1 ≤ costE (.mk k m ns n of) := by unfold costE; omega
    have hleaf : ∀ x f tx, szV (.mk x f tx 0 (fun _ => .nil)) = 1 := fun _ _ _ => by simp [szV]
    unfold buildE
    split
    · refine ⟨?_, ?_⟩
      · show nextE l s.1 ≤ _ ∧ s.2 + 1 ≤ _
        omega
      · rw [show szV (vnum (numE l s.1 % 2)) = 1 from hleaf _ _ _]; exact hone'
    split
    · refine ⟨?_, ?_⟩
      · show nextE l s.1 ≤ _ ∧ s.2 + 1 ≤ _
        omega
      · rw [show szV (vnum (numE l s.1 % 65536)) = 1 from hleaf _ _ _]; exact hone'
    split
    · refine ⟨?_, ?_⟩
      · show nextE l s.1 ≤ _ ∧ s.2 + 1 ≤ _
        omega
      · rw [show szV (vnum (long32 (numE l s.1 % 4294967296))) = 1 from hleaf _ _ _]; exact hone'
    split
    · refine ⟨?_, ?_⟩
      · show nextE l s.1 ≤ _ ∧ s.2 + 1 ≤ _
        omega
      · show szV (.mk _ _ _ 0 _) ≤ _
        rw [hleaf]; exact hone'
    split
    · refine ⟨?_, ?_⟩
      · show nextE l s.1 ≤ _ ∧ s.2 + 1 ≤ _
        omega
      · show szV (.mk _ _ _ 0 _) ≤ _
        rw [hleaf]; exact hone'
    split
    · rename_i h5
      subst h5
      rw [cost_seq]
      split
      · refine ⟨?_, ?_⟩
        · show s.1 ≤ _ ∧ s.2 + 1 ≤ _
          omega
        · rw [szV_list]; simp
      · have hj := seq_times (numE l s.1) m
        have h0 : 0 < n := by have := hone rfl; omega
        have hi := fun s => ih 0 (hkids 0 h0) s
        have a := partsL_le (fun _ q => buildE l (of 0) q) (fun _ => costE (of 0)) 3 (fun i s _ => (hi s).1) (nextE l s.1, s.2 + 1) _ hj
        have b := partsL_sz (fun _ q => buildE l (of 0) q) (fun _ => costE (of 0)) 3 (fun i s _ => (hi s).2) (nextE l s.1, s.2 + 1) _ hj
        have c := sumTo_mono (fun _ => costE (of 0)) _ _ hj
        rw [sumTo_const (costE (of 0)) 3] at c
        refine ⟨?_, ?_⟩
        · have a1 := a.1
          have a2 := a.2
          simp only at a1 a2 ⊢
          omega
        · simp only
          rw [szV_list]
          omega
    split
    · rename_i h6
      have hk5 : k ≠ 5 := by omega
      rw [cost_parts _ _ _ _ _ hk5]
      have a := partsL_le (fun i q => buildE l (of i) q) (fun i => costE (of i)) n (fun i s hi => (ih i (hkids i hi) s).1) (s.1, s.2 + 1) n (Nat.le_refl _)
      have b := partsL_sz (fun i q => buildE l (of i) q) (fun i => costE (of i)) n (fun i s hi => (ih i (hkids i hi) s).2) (s.1, s.2 + 1) n (Nat.le_refl _)
      refine ⟨?_, ?_⟩
      · have a1 := a.1
        have a2 := a.2
        simp only at a1 a2 ⊢
        omega
      · simp only
        rw [szV_list]
        omega
    split
    · refine ⟨?_, ?_⟩
      · show nextE l s.1 ≤ _ ∧ s.2 + 1 ≤ _
        omega
      · rw [show szV (vnum (numE l s.1 % ns.length)) = 1 from hleaf _ _ _]; exact hone'
    · have hk : k = 8 := by omega
      have hn1 : 1 ≤ n := by have := hparts (.inr hk); have := (hnames (.inr (.inr hk))).1; omega
      have hi := choice_index (numE l s.1) n hn1
      obtain ⟨⟨a, b⟩, c⟩ := ih _ (hkids _ hi) (nextE l s.1, s.2 + 1)
      have d := sumTo_le (fun i => costE (of i)) _ _ hi
      rw [cost_parts _ _ _ _ _ (by omega : k ≠ 5)]
      refine ⟨?_, ?_⟩
      · simp only at a b d ⊢
        omega
      · simp only [szV]
        have e : ((List.range 1).map fun _ : Nat => szV (buildE l (of (numE l s.1 % (n : Int)).toNat) (nextE l s.1, s.2 + 1)).1).sum = szV (buildE l (of (numE l s.1 % (n : Int)).toNat) (nextE l s.1, s.2 + 1)).1 := by simp
        rw [e]
        omega
end
section
theorem Tryz.infoValue : (Tryz.prog.info? 39).map (fun i => (i.zero, i.size, i.bytes)) = some (some (.agg #[.int .i64 0, .float .f64 0, .string ⟨#[]⟩, .slice none 0 0]), 4, 56) := by kernel_rfl

theorem vmode_gc : (Region.Mode.any == Region.Mode.gc) = false := rfl

/-- The local value, its parts being in the row po. -/
def VLoc (wx : World) (vb : Nat) (po : Value) : Prop := wx.heap[vb]? = some (.cells #[.int .i64 0, .float .f64 0, .string ⟨#[]⟩, po] 39 (0, 0))

abbrev VRow (wx : World) (vb : Nat) (po : Value) (L : List VT) : Prop := ItRow vShown 39 4 (vb + 1) (fun _ => False) wx po L

/-- What one round may change: the builder, the local value, its parts' row. -/
def Dirt (b vb : Nat) (po : Value) (k : Nat) : Prop := k = b ∨ k = vb ∨ po.ownBlock = some k

/-- Ahead of the call of build, behind it, behind the row of one, behind the append, behind the store. -/
def AccS (wr : World) (b vb : Nat) (nv po : Value) (L : List VT) (s s' : Nat × Nat) (T : VT) : List Value → World → Prop
  | [], wx => Fr (Dirt b vb po) wr wx ∧ BBox wx b nv s.1 s.2 ∧ VLoc wx vb po ∧ VRow wx vb po L
  | [v], wx => Fr (Dirt b vb po) wr wx ∧ BBox wx b nv s'.1 s'.2 ∧ VLoc wx vb po ∧ VRow wx vb po L ∧ VShows (fun k => wr.heap.size ≤ k) wx T v
  | [_, u], wx => Fr (Dirt b vb po) wr wx ∧ BBox wx b nv s'.1 s'.2 ∧ VLoc wx vb po ∧ VRow wx vb po L ∧ ∃ gg y0 y1 y2 y3, u = .slice (some ⟨gg, 0, none⟩) 1 1 ∧ wx.heap[gg]? = some (.cells #[y0, y1, y2, y3] 39 (0, 0)) ∧ VShows (fun k => wr.heap.size ≤ k) wx T (.agg #[y0, y1, y2, y3])
  | [_, _, x], wx => Fr (Dirt b vb po) wr wx ∧ BBox wx b nv s'.1 s'.2 ∧ VLoc wx vb po ∧ VRow wx vb x (L ++ [T])
  | _ :: _ :: x :: _ :: _, wx => Fr (Dirt b vb po) wr wx ∧ BBox wx b nv s'.1 s'.2 ∧ VLoc wx vb x ∧ VRow wx vb x (L ++ [T])

theorem AccS.f {wr : World} {b vb : Nat} {nv po : Value} {L : List VT} {s s' : Nat × Nat} {T : VT} {cvs : List Value} {wx : World} (h : AccS wr b vb nv po L s s' T cvs wx) : Fr (Dirt b vb po) wr wx := by
  match cvs with
  | [] => exact h.1
  | [_] => exact h.1
  | [_, _] => exact h.1
  | [_, _, _] => exact h.1
  | _ :: _ :: _ :: _ :: _ => exact h.1

theorem AccS.loc {wr : World} {b vb : Nat} {nv po : Value} {L : List VT} {s s' : Nat × Nat} {T : VT} {cvs : List Value} {wx : World} (h : AccS wr b vb nv po L s s' T cvs wx) (hc : cvs.length ≤ 3) : VLoc wx vb po := by
  match cvs with
  | [] => exact h.2.2.1
  | [_] => exact h.2.2.1
  | [_, _] => exact h.2.2.1
  | [_, _, _] => exact h.2.2.1
  | _ :: _ :: _ :: _ :: _ => simp at hc

/-- A value's cells are single ones. -/
theorem vshows_one {R : Nat → Prop} {w : World} {t : VT} {y0 y1 y2 y3 : Value} (h : VShows R w t (.agg #[y0, y1, y2, y3])) : ∀ u ∈ [y0, y1, y2, y3], u.oneCell' = true := by
  obtain ⟨n, f, s, a, c, cap, e⟩ := h.lit
  simp only [Value.agg.injEq, Array.mk.injEq, List.cons.injEq, and_true] at e
  obtain ⟨rfl, rfl, rfl, rfl⟩ := e
  intro u hu
  simp at hu
  rcases hu with rfl | rfl | rfl | rfl <;> rfl
end
section
attribute [local go_sem] run_store_float

theorem record_done {l : List Int} {t : KT} {w w2 : World} {b rb vb tk bg tk2 bg2 : Nat} {nv : Value} {x0 x1 x2 x3 : Value} {po : Value} {L : List VT} {a : Option Addr} {n cap : Nat}
    (p : w2.heap[rb]? = some (.cells #[x0, x1, x2, x3] 39 (0, 0))) (f2 : Fr (fun k => k = b) w w2) (b2 : BBox w2 b nv tk2 bg2) (hrb : rb ≠ b) (hrb0 : w.heap.size ≤ rb) (hvb : rb < vb) (hrow : VRow w2 vb po L) (hpo : po = .slice a n cap)
    (hL : L.length ≤ 100000) (hE : buildE l t (tk, bg) = (listV L, tk2, bg2)) :
    BuiltAs l t w b nv tk bg (.returned (.agg #[.int .i64 0, .float .f64 0, .string ⟨#[]⟩, .slice a n cap])) ((((w2.setCell ⟨rb, 0, none⟩ (.int .i64 0)).setCell ⟨rb, 1, none⟩ (.float .f64 0)).setCell ⟨rb, 2, none⟩ (.string ⟨#[]⟩)).setCell ⟨rb, 3, none⟩ (.slice a n cap)) := by
  subst hpo
  have hk := ItRow.vkids hrow (fun i => L.getD i .nil) (fun i x hi => by rw [List.getD_eq_getElem?_getD, hi]; rfl)
  obtain ⟨a', c', e⟩ := hrow.slice
  cases e
  refine build_done p f2 b2 hrb hrb0 (s := []) hE (by unfold VB maxLen; simp; omega) ?_
  rcases hk with h | ⟨h1, gg, off, hg, e, hc⟩
  · exact .inl h
  · refine .inr ⟨h1, gg, off, ⟨by omega, by omega⟩, e, fun i hi => ?_⟩
    obtain ⟨x0, x1, x2, x3, c0, c1, c2, c3, hx⟩ := hc i hi
    exact ⟨x0, x1, x2, x3, c0, c1, c2, c3, VShows.mono (fun k _ (h : vb + 1 ≤ k) => ⟨by omega, by omega⟩) _ _ hx⟩

set_option maxRecDepth 100000 in
theorem build_k6 (l : List Int) (k : Nat) (m : Int) (ns : List Txt) (n : Nat) (of : Nat → KT) (ih : ∀ i, BuildAt l (of i)) (hk0 : k = 6) : BuildAt l (.mk k m ns n of) := by
  intro R v nv w b tk bg hgood htk hbg hsh hRb hnum hbox
  obtain ⟨⟨hn12, hown⟩, hkids⟩ := hgood
  obtain ⟨hk8, hmost, hone, hparts, hnames, hnone⟩ := own_facts hown
  have hcost : 1 ≤ costE (.mk k m ns n of) := by unfold costE; omega
  have htk' : tk ≤ 100000 := by omega
  have hbg' : bg + 1 ≤ 100000 := by omega
  obtain ⟨vn, vo, rfl, hk, hn, ht, ho⟩ := hsh
  obtain ⟨a, c, rfl, _⟩ := ht.shape
  obtain ⟨a', c', rfl, hs⟩ : ∃ a' c', vo = .slice a' n c' ∧ Kids R w of a' n c' := by
    rcases ho with ⟨rfl, a', c', rfl⟩ | ⟨g, off, cap, hg, rfl, hle, hc⟩
    · exact ⟨a', c', rfl, .inl rfl⟩
    · exact ⟨_, cap, rfl, .inr ⟨hle, g, off, hg, rfl, hc⟩⟩
  have HS := Lib.hid hs
  have HRB := Lib.hid (show ∀ i, R i → ¬ i = b from fun i hi e => hRb (by rw [← e]; exact hi))
  have HN := Lib.hid hnum
  have HBX := Lib.hid hbox
  have hbl : b < w.heap.size := lt_of_block hbox
  unfold BBox at hbox
  have r0 := cells_row hbox 2 _ rfl
  have z0 : w.frozen? ⟨b, 2, none⟩ = false := by simp [World.frozen?, hbox]
  have n1 : b ≠ w.heap.size := by omega
  have n2 : w.heap.size ≠ b := by omega
  have n3 : b ≠ w.heap.size + 1 := by omega
  have n4 : w.heap.size + 1 ≠ b := by omega
  have HK := Lib.hid (And.intro hk0 (And.intro hmost (And.intro hone (And.intro hparts (And.intro hnames hnone)))))
  have HKIDS := Lib.hid hkids
  have HCST := Lib.hid (And.intro htk hbg)
  have HT := Lib.hid ht
  obtain ⟨kz, hkz⟩ : ∃ kz : Int, (k : Int) = kz := ⟨_, rfl⟩
  rw [hkz]
  have e0 : (kz == 0) = false := by simp; omega
  have e1 : (kz == 1) = false := by simp; omega
  have e2 : (kz == 2) = false := by simp; omega
  have e3 : (kz == 3) = false := by simp; omega
  have e4 : (kz == 4) = false := by simp; omega
  have e5 : (kz == 5) = false := by simp; omega
  have e6 : (kz == 6) = true := by simp; omega
  clear ho hs ht hRb hnum hbox hk0 hmost hone hparts hnames hnone hkids htk hbg hkz hown hcost hk
  go_enter Tryz.func19, Tryz.ntmps19
  go_upto_region 2 with fail
  obtain ⟨w1, hw1⟩ : ∃ w1, w1 = ((w.setCell ⟨b, 2, none⟩ (.int .i64 ((bg : Int) + 1))).alloc (.cells #[.int .u8 kz, .int .i64 m, .slice a ns.length c, .slice a' n c'] 34)).alloc (.cells #[.int .i64 0, .float .f64 0, .string ⟨#[]⟩, .slice none 0 0] 39) := ⟨_, rfl⟩
  rw [← hw1]
  obtain ⟨q1, p1, b1, f1⟩ := build_box kz m a ns.length c a' n c' HBX.out hw1
  obtain ⟨rb, hrb⟩ : ∃ rb, w.heap.size + 1 = rb := ⟨_, rfl⟩
  rw [hrb] at p1 ⊢
  have hrbb : rb ≠ b := by omega
  have hrb0 : w.heap.size ≤ rb := by omega
  have HRBX := Lib.hid hrb
  have c0 := cells_row q1 0 _ rfl
  have c1 := cells_row q1 1 _ rfl
  have c2 := cells_row q1 2 _ rfl
  have c3 := cells_row q1 3 _ rfl
  have HW1 := Lib.hid (And.intro q1 (And.intro p1 (And.intro b1 f1)))
  clear hw1 r0 z0 n1 n2 n3 n4 hrb q1 p1 b1 f1
  have HN2 := Lib.hid (HN.out.mono (S := fun k => R k ∧ k < w.heap.size) (fun k hk h => ⟨h, hk⟩))
  go_upto_region 19 with fail
  obtain ⟨w2, hw2⟩ : ∃ w2, w2 = w1.alloc (.cells #[.int .i64 0, .float .f64 0, .string ⟨#[]⟩, .slice none 0 0] 39) := ⟨_, rfl⟩
  rw [← hw2]
  have f2 : Fr (fun _ => False) w1 w2 := by rw [hw2]; exact (Fr.refl _ _).alloc _
  have v2' : VLoc w2 w1.heap.size (.slice none 0 0) := by rw [hw2]; exact heap_alloc_new _ _
  obtain ⟨vb, hvb⟩ : ∃ vb, w1.heap.size = vb := ⟨_, rfl⟩
  have hrbv : rb < vb := by rw [← hvb]; exact lt_of_block HW1.out.2.1
  rw [hvb] at v2' ⊢
  have hbvb : b < vb := by omega
  have hwvb : w.heap.size < vb := by omega
  have q2 := box_kept HW1.out.1 f2 (fun h => h)
  have c3 := cells_row q2 3 _ rfl
  have H2 := Lib.hid (And.intro (box_kept HW1.out.2.1 f2 (fun h => h)) (And.intro (HW1.out.2.2.1.fr f2 (fun h => h)) (And.intro v2' (HW1.out.2.2.2.trans f2 (fun _ _ h => h.elim)))))
  have hnn : n ≤ 12 := hn12
  clear hw2 hvb f2 v2' q2 c0 c1 c2
  go_wp2
  clear c3
  obtain ⟨f, hf⟩ : ∃ f : Nat → Nat × Nat → VT × (Nat × Nat), f = (fun i q => buildE l (of i) q) := ⟨_, rfl⟩
  have HF := Lib.hid hf
  have HLE := Lib.hid (show ∀ j, j ≤ n → (partsL f j (tk, bg + 1)).2.1 ≤ tk + sumTo (fun i => costE (of i)) j ∧ (partsL f j (tk, bg + 1)).2.2 ≤ bg + 1 + sumTo (fun i => costE (of i)) j from fun j hj => by
    have := partsL_le f (fun i => costE (of i)) n (fun i s hi => by rw [hf]; exact (build_le l (of i) (HKIDS.out i hi) s).1) (tk, bg + 1) j hj
    exact this)
  have HE : Hid (buildE l (.mk k m ns n of) (tk, bg) = (listV (partsL f n (tk, bg + 1)).1, (partsL f n (tk, bg + 1)).2)) := Lib.hid (by
    have hk := HK.out.1
    subst hk
    rw [hf]
    exact buildE_record l m ns n of (tk, bg))
  have HC5 := Lib.hid (cost_parts k m ns n of (by have := HK.out.1; omega))
  clear hf
  go_loopg [7, 76] n (fun G u7 u76 wr => ∃ (j : Nat) (po : Value), j ≤ n ∧ G = n - j ∧ u76 = .int .i64 j ∧ Hid (Fr (fun k => k = b) w wr ∧ BBox wr b nv (partsL f j (tk, bg + 1)).2.1 (partsL f j (tk, bg + 1)).2.2 ∧ VLoc wr vb po ∧ VRow wr vb po (partsL f j (tk, bg + 1)).1 ∧ wr.heap[rb]? = some (.cells #[.int .i64 0, .float .f64 0, .string ⟨#[]⟩, .slice none 0 0] 39 (0, 0))))
  case atStart => exact ⟨0, .slice none 0 0, Nat.zero_le _, rfl, by go_num, Lib.hid ⟨H2.out.2.2.2, H2.out.2.1, H2.out.2.2.1, ItRow.nil _ _ _ _ _ _, H2.out.1⟩⟩
  case round =>
    obtain ⟨j, po, hj, rfl, rfl, HI⟩ := hrel
    have hlen := partsL_length f j (tk, bg + 1)
    obtain ⟨qa, qc, hpo⟩ : ∃ qa qc, po = .slice qa j qc := by
      obtain ⟨qa, qc, e⟩ := HI.out.2.2.2.1.slice
      rw [hlen] at e
      exact ⟨qa, qc, e⟩
    subst hpo
    have HLEN := Lib.hid hlen
    have hvbr : vb < wr.heap.size := lt_of_block HI.out.2.2.1
    clear hlen
    by_cases hlt : j < n
    · rcases HS.out with hz | ⟨hcap, g, off, hg, rfl, hcell⟩
      · omega
      obtain ⟨x0, x1, x2, x3, y0, y1, y2, y3, hx⟩ := hcell j hlt
      have y0 := cell_fr HI.out.1 HRB.out hg y0
      have y1 := cell_fr HI.out.1 HRB.out hg y1
      have y2 := cell_fr HI.out.1 HRB.out hg y2
      have y3 := cell_fr HI.out.1 HRB.out hg y3
      obtain ⟨xk, xm, xa, xn, xc, xa', xn', xc', rfl, rfl, rfl, rfl⟩ := hx.cells
      have HX := Lib.hid (Shows.fr HI.out.1 (fun k hk e => HRB.out k hk.1 e) _ _ (Shows.mono (S := fun k => R k ∧ k < w.heap.size) (fun k hk h => ⟨h, hk⟩) _ _ hx))
      have HLT := Lib.hid hlt
      have jn : (j : Int) < (n : Int) := by omega
      have j0 : (0 : Int) ≤ (j : Int) := by omega
      clear hcell hx
      go_wp2_with fail
      obtain ⟨wp, hwp⟩ : ∃ wp, wp = wr.alloc (.cells #[.int .u8 xk, .int .i64 xm, .slice xa xn xc, .slice xa' xn' xc'] 34) := ⟨_, rfl⟩
      rw [← hwp]
      obtain ⟨pb, hpb⟩ : ∃ pb, wr.heap.size = pb := ⟨_, rfl⟩
      have fp : Fr (fun _ => False) wr wp := by rw [hwp]; exact (Fr.refl _ _).alloc _
      have qp : wp.heap[pb]? = some (.cells #[.int .u8 xk, .int .i64 xm, .slice xa xn xc, .slice xa' xn' xc'] 34 (0, 0)) := by rw [hwp, ← hpb]; exact heap_alloc_new _ _
      have hown : ∀ k, (Value.slice qa j qc).ownBlock = some k → vb + 1 ≤ k ∧ k < pb := fun k hk => by
        have := HI.out.2.2.2.1.own k hk
        omega
      have hpbw : pb < wp.heap.size := lt_of_block qp
      have hpbv : vb < pb := by omega
      rw [hpb]
      have HP := Lib.hid (And.intro fp (And.intro qp hown))
      have HB0 := Lib.hid (And.intro hbvb (And.intro hpbv hwvb))
      clear hwp hpb fp qp hown y0 y1 y2 y3 hlt jn j0
      obtain ⟨s, hs⟩ : ∃ s, s = (partsL f j (tk, bg + 1)).2 := ⟨_, rfl⟩
      obtain ⟨L, hL⟩ : ∃ L, L = (partsL f j (tk, bg + 1)).1 := ⟨_, rfl⟩
      have HSL := Lib.hid (And.intro hs hL)
      have hacc : AccS wp b vb nv (.slice qa j qc) L s (f j s).2 (f j s).1 [] wp.drew := by
        rw [hs, hL]
        exact ⟨(Fr.refl _ _).drew, HI.out.2.1.fr (HP.out.1.drew) (fun h => h), box_kept HI.out.2.2.1 (HP.out.1.drew) (fun h => h), HI.out.2.2.2.1.fr (HP.out.1.drew) (fun _ _ h => h)⟩
      have HACC := Lib.hid hacc
      have hbnd : s.1 + costE (of j) ≤ 100000 ∧ s.2 + costE (of j) ≤ 100000 := by
        have h1 := HLE.out j hj
        have h2 := sumTo_le (fun i => costE (of i)) j n HLT.out
        have h3 := HCST.out
        have h4 := HC5.out
        rw [← hs] at h1
        omega
      have HBND := Lib.hid hbnd
      have hLj : L.length = j := by rw [hL]; exact HLEN.out
      have HLJ := Lib.hid hLj
      have HFJ : Hid (f j s = buildE l (of j) s) := Lib.hid (by rw [HF.out])
      clear hs hL hacc hbnd hLj
      refine wp_region_chain (by kernel_rfl) [some 80, some 81, some 82, some 83, some 84, some 85, some 86, some 87, none] rfl (by decide) (by intro d hd; simp at hd ⊢; omega)
        [4, 5, 6, 8] (AccS wp b vb nv (.slice qa j qc) L s (f j s).2 (f j s).1)
        [.free (.pointer (some ⟨vb, 3, none⟩)), .free (.slice qa j qc), .free (.pointer (some ⟨b, 0, none⟩)), .free (.agg #[.int .u8 xk, .int .i64 xm, .slice xa xn xc, .slice xa' xn' xc']),
         .link none, .link none, .link none, .free (.pointer (some ⟨vb, 3, none⟩)), .link none]
        (by kernel_rfl) (by kernel_rfl) ?h0 ?step ?fin
      case h0 => exact HACC.out
      case step =>
        intro vals2
        simp only [frOfU, fillU, List.setIfInBounds_toArray, List.set_cons_succ, List.set_cons_zero]
        repeat' (first | exact AllOps.nil | refine AllOps.cons ?_ ?_)
        all_goals
          intro cvs wx hS he hu hlim K hK
          simp only [Act.put, List.setIfInBounds_toArray, List.set_cons_succ, List.set_cons_zero, List.getD_cons_zero, List.getD_cons_succ] at hK
          simp only [List.mem_cons, List.not_mem_nil, or_false, forall_eq_or_imp, forall_eq, Region.binds, forall_const, vmode_gc, Bool.false_eq_true, false_imp_iff, List.getD_cons_zero, List.getD_cons_succ, OpSort.val, Option.some.injEq, forall_eq', reduceCtorEq, implies_true, true_and, and_true] at he
          have HSX := Lib.hid hS
          clear hS
        all_goals first | (clear hlim hu; (try simp only [he] at hK ⊢); go_simp; exact hK) | skip
        · have hl := HSX.out.loc (Nat.le_trans (hlim 2 6 rfl (by kernel_rfl)) (by omega))
          have e3 := cells_row hl 3 _ rfl
          clear hlim hu hl
          simp only [he] at hK ⊢
          go_simp
          exact hK
        · have hq := box_kept HP.out.2.1 HSX.out.f (fun h => by
            rcases h with h | h | h
            · have := HB0.out; omega
            · have := HB0.out; omega
            · have := (HP.out.2.2 _ h).2; omega)
          obtain ⟨e0, e1, e2, e3⟩ := cell_of_four hq
          clear hlim hu hq
          simp only [he] at hK ⊢
          go_simp
          exact hK
        · obtain rfl := hlim (0 : Nat) rfl
          have h1 := HSX.out
          simp only [List.take_zero, List.map_nil] at h1
          simp only [he] at hK ⊢
          go_simp
          go_at_call 19
          have hR : ∀ k, (R k ∧ k < w.heap.size) → ¬ Dirt b vb (.slice qa j qc) k := fun k hk h => by
            rcases h with h | h | h
            · exact HRB.out k hk.1 h
            · have := HB0.out; omega
            · have := (HP.out.2.2 _ h).1; have := HB0.out; omega
          refine (ih j (fun k => R k ∧ k < w.heap.size) _ nv wx b s.1 s.2 (HKIDS.out j HLT.out) HBND.out.1 HBND.out.2 (Shows.fr h1.1 hR _ _ (Shows.fr HP.out.1 (fun _ _ h => h) _ _ HX.out)) (fun h => HRB.out b h.1 rfl) (((HN2.out.fr HI.out.1 (fun k hk e => HRB.out k hk.1 e)).fr HP.out.1 (fun _ _ h => h)).fr h1.1 hR) h1.2.1).mono ?_
          rintro e1 wa ⟨v', rfl, hsv, fa, ba⟩
          have fe : buildE l (of j) (s.1, s.2) = f j s := HFJ.out.symm
          rw [fe] at hsv ba
          refine hK _ _ (fun _ h => by cases h) ⟨h1.1.trans fa (fun i _ h => .inl h), ba, box_kept h1.2.2.1 fa (fun h => by have := HB0.out; omega), h1.2.2.2.fr fa (fun k hk h => by have := HB0.out; omega), VShows.mono (fun k _ hk => Nat.le_trans h1.1.size hk) _ _ hsv⟩
        · obtain rfl := hlim (1 : Nat) rfl
          have h1 := HSX.out
          clear HSX hlim hu
          simp only [List.take_succ_cons, List.take_zero, List.map_cons, List.map_nil] at h1 hK
          obtain ⟨hf, hb, hl, hr, hs⟩ := h1
          obtain ⟨zn, zf, zs, za, zc, zcap, e4⟩ := hs.lit
          rw [e4] at hs
          simp only [he, e4] at hK ⊢
          go_simp
          have fa : Fr (fun _ => False) wx (wx.alloc (.cells #[.int .i64 zn, .float .f64 zf, .string zs, .slice za zc zcap] 39)) := (Fr.refl _ _).alloc _
          exact hK _ _ (fun _ h => by cases h) ⟨hf.trans fa (fun _ _ h => h.elim), hb.fr fa (fun h => h), box_kept hl fa (fun h => h), hr.fr fa (fun _ _ h => h), _, _, _, _, _, rfl, heap_alloc_new _ _, VShows.fr fa (fun _ _ h => h) _ _ hs⟩
        · obtain rfl := hlim (2 : Nat) rfl
          have h1 := HSX.out
          clear HSX hlim hu
          simp only [List.take_succ_cons, List.take_zero, List.map_cons, List.map_nil] at h1 hK
          obtain ⟨hf, hb, hl, hr, gg, y0, y1, y2, y3, e6, hgg, hss⟩ := h1
          rw [if_pos (by rfl)]
          have hsz := lt_of_block hl
          have hfs := hf.size
          have hb0 := HB0.out
          refine opWp_push (pv := (.slice qa j qc)) (l := L) (B := vb + 1) (X := fun _ => False) (D := vShown) (.tmp 81) (.tmp 85) 37 37 rfl Tryz.underlying37 Tryz.underlying37 Tryz.infoValue rfl (by decide) he hr gg e6 (news := [y0, y1, y2, y3]) hgg rfl (vshows_one hss) (by have := HLJ.out; omega) (by omega) (by omega) (fun k hk => hk.elim) (f j s).1 ⟨_, _, _, _, rfl, VShows.mono (fun k _ hk => ⟨by omega, fun h => h, fun h => by have := (HP.out.2.2 _ h).2; omega⟩) _ _ hss⟩ ?_
          intro v' w8 hrow f6 hv
          refine hK _ _ (fun _ h => by cases h) ⟨hf.trans f6 (fun i _ h => .inr (.inr h)), hb.fr f6 (fun h => by have := (HP.out.2.2 _ h).1; omega), box_kept hl f6 (fun h => by have := (HP.out.2.2 _ h).1; omega), hrow⟩
        · obtain rfl := hlim (3 : Nat) rfl
          have h1 := HSX.out
          clear HSX hlim hu
          simp only [List.take_succ_cons, List.take_zero, List.map_cons, List.map_nil] at h1 hK
          obtain ⟨hf, hb, hl, hr⟩ := h1
          obtain ⟨xa, xn, xc, e7⟩ : ∃ xa xn xc, vals2 6 = .slice xa xn xc := by obtain ⟨a, c, e⟩ := hr.slice; exact ⟨a, _, c, e⟩
          have z2 : wx.frozen? ⟨vb, 3, none⟩ = false := by unfold VLoc at hl; simp [World.frozen?, hl]
          obtain ⟨e0, e1, e2, e3⟩ := cell_of_four hl
          have fs : Fr (fun k => k = vb) wx (wx.setCell ⟨vb, 3, none⟩ (vals2 6)) := Fr.set1 (Fr.refl _ _) 3 _
          have HG := Lib.hid (show AccS wp b vb nv (.slice qa j qc) L s (f j s).2 (f j s).1 [vals2 4, vals2 5, vals2 6, undef] (wx.setCell ⟨vb, 3, none⟩ (vals2 6)) from
            ⟨hf.trans fs (fun i _ h => .inr (.inl h)), hb.fr fs (fun h => by have := HB0.out; omega), setCell_row 3 _ hl, hr.fr fs (fun k hk h => by omega)⟩)
          clear hf hb hl hr fs
          rw [e7] at HG
          simp only [he, e7] at hK ⊢
          go_simp
          exact hK undef _ (fun _ h => by cases h) HG.out
      case fin =>
        intro vals2 w7 hS hV
        clear hV
        simp only [List.map_cons, List.map_nil] at hS
        obtain ⟨hf, hb, hl, hr⟩ := hS
        have hd : ∀ i, i < wr.heap.size → Dirt b vb (.slice qa j qc) i → i < w.heap.size → i = b := fun i hi h hw => by
          rcases h with h | h | h
          · exact h
          · have := HB0.out; omega
          · have := (HP.out.2.2 _ h).1; have := HB0.out; omega
        have fw : Fr (fun k => k = b) w w7 := ⟨hf.os.trans (HP.out.1.os.trans HI.out.1.os), hf.tape.trans (HP.out.1.tape.trans HI.out.1.tape), hf.output.trans (HP.out.1.output.trans HI.out.1.output), Nat.le_trans HI.out.1.size (Nat.le_trans HP.out.1.size hf.size), fun i hi hs => by
          have i1 : i < wr.heap.size := Nat.lt_of_lt_of_le hi HI.out.1.size
          rw [hf.block i (Nat.lt_of_lt_of_le i1 HP.out.1.size) (fun h => hs (hd i i1 h hi)), HP.out.1.block i i1 (fun h => h), HI.out.1.block i hi hs]⟩
        have hrbk := box_kept (box_kept HI.out.2.2.2.2 HP.out.1 (fun h => h)) hf (fun h => by
          rcases h with h | h | h
          · exact hrbb h
          · omega
          · have := (HP.out.2.2 _ h).1; omega)
        have hps : partsL f (j + 1) (tk, bg + 1) = (L ++ [(f j s).1], (f j s).2) := by
          rw [HSL.out.1, HSL.out.2]; rfl
        have HS2 := Lib.hid (show Fr (fun k => k = b) w w7 ∧ BBox w7 b nv (partsL f (j + 1) (tk, bg + 1)).2.1 (partsL f (j + 1) (tk, bg + 1)).2.2 ∧ VLoc w7 vb (vals2 6) ∧ VRow w7 vb (vals2 6) (partsL f (j + 1) (tk, bg + 1)).1 ∧ w7.heap[rb]? = some (.cells #[.int .i64 0, .float .f64 0, .string ⟨#[]⟩, .slice none 0 0] 39 (0, 0)) from by
          rw [hps]; exact ⟨fw, hb, hl, hr, hrbk⟩)
        clear hf hb hl hr fw hrbk hps hd
        simp only [frOfU, fillU, List.setIfInBounds_toArray, List.set_cons_succ, List.set_cons_zero]
        go_wp2
        go_roundg (n - (j + 1))
        case measure => have := HLT.out; omega
        case rel => exact ⟨j + 1, vals2 6, HLT.out, rfl, by go_num, HS2⟩
    · obtain rfl : j = n := by omega
      obtain ⟨d0, d1, d2, d3⟩ := cell_of_four HI.out.2.2.1
      have p2 := HI.out.2.2.2.2
      have t0 := cells_row p2 0 _ rfl
      have t1 := cells_row p2 1 _ rfl
      have t2 := cells_row p2 2 _ rfl
      have t3 := cells_row p2 3 _ rfl
      have u0 : wr.frozen? ⟨rb, 0, none⟩ = false := by simp [World.frozen?, p2]
      have u1 : wr.frozen? ⟨rb, 1, none⟩ = false := by simp [World.frozen?, p2]
      have u2 : wr.frozen? ⟨rb, 2, none⟩ = false := by simp [World.frozen?, p2]
      have u3 : wr.frozen? ⟨rb, 3, none⟩ = false := by simp [World.frozen?, p2]
      clear p2
      go_wp2
      refine bodyPost_ret (results_cell_row rfl _ _ rb 39 _ _ _ rfl (store_four HI.out.2.2.2.2) Tryz.underlying39 rfl (by kernel_rfl)) rfl ?_
      exact record_done HI.out.2.2.2.2 HI.out.1 HI.out.2.1 hrbb hrb0 hrbv HI.out.2.2.2.1 rfl (by have := HLEN.out; omega) HE.out
end
end Go.Proofs.YtplipjijaaejlaaGreat
