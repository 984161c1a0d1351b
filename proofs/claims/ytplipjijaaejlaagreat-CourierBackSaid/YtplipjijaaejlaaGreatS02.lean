/-
  CouBack, part 2 of what it rests on: Open, KindNaming.
-/
import Derived.Test.YtplipjijaaejlaaGreatS01
import Derived.ProofKit
import Derived.OpenShut
import Derived.SliceStrings
set_option linter.unusedVariables false
set_option linter.unusedSimpArgs false
set_option maxHeartbeats 64000000
namespace Go.Proofs.YtplipjijaaejlaaGreat
open Go.RowKit
open Go.Lib (hid)
section
open Go.RowKit Go.WideShapes Go.ChangeShapes

/-- The slice value v shows the values xs. -/
def SeesL (w : World) (v : Value) (xs : List Value) : Prop :=
  (xs = [] ∧ ∃ a c, v = .slice a 0 c) ∨
  ∃ g off cap, v = .slice (some ⟨g, off, none⟩) xs.length cap ∧ xs.length ≤ cap ∧ ∀ j u, xs[j]? = some u → w.cell? ⟨g, off + j, none⟩ = some u

theorem SeesL.old {w : World} {v : Value} {xs : List Value} (h : SeesL w v xs) : xs = [] ∨ ∀ k, v.ownBlock = some k → k < w.heap.size := by
  rcases h with ⟨h, _⟩ | ⟨g, off, cap, rfl, hle, hc⟩
  · exact .inl h
  · cases xs with
    | nil => exact .inl rfl
    | cons x xs =>
      right
      intro k hk
      simp [Value.ownBlock] at hk
      subst hk
      exact World.block_lt_of_cell? w _ (hc 0 x rfl)

theorem SeesL.fr0 {w w' : World} {v : Value} {xs : List Value} (h : SeesL w v xs) (hf : Fr (fun _ => False) w w') : SeesL w' v xs := by
  rcases h with h | ⟨g, off, cap, rfl, hle, hc⟩
  · exact .inl h
  · refine .inr ⟨g, off, cap, rfl, hle, fun j u hj => ?_⟩
    have h1 := hc j u hj
    rw [← h1]
    exact hf.cell (World.block_lt_of_cell? w _ h1) (fun h => h)

theorem addr_plain {w : World} {a : Addr} {u : Value} (h : w.cell? a = some u) : a = ⟨a.block, a.off, none⟩ := by
  obtain ⟨b, o, s⟩ := a
  cases s with
  | none => rfl
  | some s =>
    exfalso
    unfold World.cell? at h
    split at h
    · simp at h
    · cases h

theorem seesL_of {w : World} {a : Addr} {cap : Nat} {xs : List Value} (hle : xs.length ≤ cap) (hc : ∀ j u, xs[j]? = some u → w.cell? (a.add j) = some u) : SeesL w (.slice (some a) xs.length cap) xs := by
  cases xs with
  | nil => exact .inl ⟨rfl, _, _, rfl⟩
  | cons x xs =>
    have h0 := hc 0 x rfl
    have e0 : a.add 0 = a := by simp [Addr.add]
    rw [e0] at h0
    obtain ⟨b, o, s⟩ := a
    have e := addr_plain h0
    simp at e
    subst e
    refine .inr ⟨b, o, cap, rfl, hle, fun j u hj => ?_⟩
    have h1 := hc j u hj
    have e1 : (⟨b, o, none⟩ : Addr).add j = ⟨b, o + j, none⟩ := by unfold Addr.add; split <;> simp_all
    rw [e1] at h1
    exact h1

section
variable {P : Program} {H : Type} {enc : TypeId × Value → H} {W : World}

theorem sees_ints {t e : TypeId} {k : IntKind} {v : Value} {d : DataW H} {p : List MemPlace} {base : Nat} (ht : P.underlying t = some (.slice e)) (he : P.underlying e = some (.int k)) (hc : P.cellsOf e = 1)
    (hval : Value.okWide P W .any base t v) (hd : DataW.Trod enc P W 0 (fun _ => true) true t v d p) :
    ∃ l : List Int, SeesL W v (l.map (Value.int k)) ∧ ∀ n ∈ l, (Lit.int k n).wf = true := by
  obtain ⟨a, len, cap, rfl⟩ := okWide_slice ht hval
  obtain ⟨fuel, hf⟩ := hd
  rcases open_ints ht he hc hf with ⟨hcs, _⟩ | ⟨x, l, c, zs, hcs, _, hl, hm, hz, _, hcell, hwz⟩
  · simp [Value.cells] at hcs
    obtain ⟨rfl, rfl, rfl⟩ := hcs
    exact ⟨[], .inl ⟨rfl, _, _, rfl⟩, by simp⟩
  · simp [Value.cells] at hcs
    obtain ⟨rfl, rfl, rfl⟩ := hcs
    have hz' : zs.length = cap := by simpa using hz
    refine ⟨zs.take len, ?_, fun n hn => hwz n (List.mem_of_mem_take hn)⟩
    have hlen : ((zs.take len).map (Value.int k)).length = len := by simp; omega
    have := seesL_of (w := W) (a := x) (cap := cap) (xs := (zs.take len).map (Value.int k)) (by rw [hlen]; exact hl) (by
      intro j u hj
      have hjl : j < len := by have := (List.getElem?_eq_some_iff.1 hj).1; rw [hlen] at this; exact this
      rw [hcell j (by omega), ← hj]
      simp [List.getD, hjl, show j < zs.length by omega])
    rw [hlen] at this
    exact this

theorem sees_strs {t e : TypeId} {v : Value} {d : DataW H} {p : List MemPlace} {base : Nat} (ht : P.underlying t = some (.slice e)) (he : P.underlying e = some .string) (hc : P.cellsOf e = 1)
    (hval : Value.okWide P W .any base t v) (hd : DataW.Trod enc P W 0 (fun _ => true) true t v d p) :
    ∃ l : List ByteArray, SeesL W v (l.map Value.string) ∧ ∀ s ∈ l, s.size ≤ maxLen := by
  obtain ⟨a, len, cap, rfl⟩ := okWide_slice ht hval
  obtain ⟨fuel, hf⟩ := hd
  rcases open_strings ht he hc hf with ⟨hcs, _⟩ | ⟨x, l, c, zs, hcs, _, hl, hm, hz, _, hcell, hwz⟩
  · simp [Value.cells] at hcs
    obtain ⟨rfl, rfl, rfl⟩ := hcs
    exact ⟨[], .inl ⟨rfl, _, _, rfl⟩, by simp⟩
  · simp [Value.cells] at hcs
    obtain ⟨rfl, rfl, rfl⟩ := hcs
    have hz' : zs.length = cap := by simpa using hz
    refine ⟨zs.take len, ?_, fun n hn => hwz n (List.mem_of_mem_take hn)⟩
    have hlen : ((zs.take len).map Value.string).length = len := by simp; omega
    have := seesL_of (w := W) (a := x) (cap := cap) (xs := (zs.take len).map Value.string) (by rw [hlen]; exact hl) (by
      intro j u hj
      have hjl : j < len := by have := (List.getElem?_eq_some_iff.1 hj).1; rw [hlen] at this; exact this
      rw [hcell j (by omega), ← hj]
      simp [List.getD, hjl, show j < zs.length by omega])
    rw [hlen] at this
    exact this
end

/-- A slice of bytes that came in, as a list of bytes. -/
theorem sees_u8 {w : World} {v : Value} {l : List Int} (h : SeesL w v (l.map (Value.int .u8))) (hw : ∀ n ∈ l, (Lit.int .u8 n).wf = true) : Sees w v (l.map fun n => UInt8.ofNat n.toNat) := by
  rcases h with ⟨h, a, c, rfl⟩ | ⟨g, off, cap, rfl, hle, hc⟩
  · left
    have : l = [] := by cases l with | nil => rfl | cons _ _ => simp at h
    subst this
    exact ⟨rfl, a, c, rfl⟩
  · right
    refine ⟨g, off, cap, by simp, by simpa using hle, fun j hj => ?_⟩
    simp at hj
    have hb := bounds_u8 (hw _ (List.getElem_mem hj))
    rw [hc j (.int .u8 l[j]) (by simp [hj])]
    have := bv_of l[j] hb.1 hb.2
    simp [List.getD, hj, this]
end
section
theorem SeesL.cells {w : World} {a : Option Addr} {n c : Nat} {xs : List Value} (h : SeesL w (.slice a n c) xs) : n = xs.length ∧ (0 < n → n ≤ c ∧ ∃ g off, a = some ⟨g, off, none⟩ ∧ ∀ j u, xs[j]? = some u → w.cell? ⟨g, off + j, none⟩ = some u) := by
  rcases h with ⟨rfl, a', c', e⟩ | ⟨g, off, cap, e, hle, hc⟩
  · cases e; exact ⟨rfl, fun h => absurd h (by simp)⟩
  · cases e; exact ⟨rfl, fun _ => ⟨hle, g, off, rfl, hc⟩⟩

theorem SeesL.shape {w : World} {v : Value} {xs : List Value} (h : SeesL w v xs) : ∃ a c, v = .slice a xs.length c ∧ (0 < xs.length → xs.length ≤ c ∧ ∃ g off, a = some ⟨g, off, none⟩ ∧ ∀ j u, xs[j]? = some u → w.cell? ⟨g, off + j, none⟩ = some u) := by
  rcases h with ⟨rfl, a', c', rfl⟩ | ⟨g, off, cap, rfl, hle, hc⟩
  · exact ⟨a', c', rfl, fun h => absurd h (by simp)⟩
  · exact ⟨_, cap, rfl, fun _ => ⟨hle, g, off, rfl, hc⟩⟩

abbrev Txt := List UInt8

/-- A text as a value. -/
def sv (l : Txt) : Value := .string ⟨l.toArray⟩

theorem txt_beq (a b : Txt) : ((⟨a.toArray⟩ : ByteArray).toList == (⟨b.toArray⟩ : ByteArray).toList) = decide (a = b) := by
  rw [Lib.toList_data, Lib.toList_data]
  by_cases h : a = b
  · subst h; simp
  · simp [h]

/-- Which of them is the first that is fit: its index, or -1. -/
def firstAt {α : Type} (p : α → Bool) (l : List α) : Int := if l.any p then (l.findIdx p : Nat) else -1

theorem firstAt_found {α : Type} (p : α → Bool) (l : List α) (k : Nat) (hk : k < l.length) (ha : ∀ j, (hj : j < l.length) → j < k → p l[j] = false) (h : p l[k] = true) : firstAt p l = k := by
  unfold firstAt
  have h1 : l.any p = true := List.any_eq_true.2 ⟨_, List.getElem_mem hk, h⟩
  rw [if_pos h1]
  congr 1
  exact (List.findIdx_eq hk).2 ⟨h, fun j hj => ha j (by omega) hj⟩

theorem firstAt_none {α : Type} (p : α → Bool) (l : List α) (ha : ∀ j, (hj : j < l.length) → p l[j] = false) : firstAt p l = -1 := by
  unfold firstAt
  rw [if_neg]
  intro h
  obtain ⟨x, hx, hp⟩ := List.any_eq_true.1 h
  obtain ⟨j, hj, rfl⟩ := List.getElem_of_mem hx
  rw [ha j hj] at hp
  cases hp

theorem firstAt_ge {α : Type} (p : α → Bool) (l : List α) : decide (0 ≤ firstAt p l) = l.any p := by
  unfold firstAt
  split
  · rename_i h; rw [h]; simp
  · rename_i h; simp at h; simp; intro x hx; simp [h x hx]

theorem ret_int {a b : Int} (h : a = b) : Ending.returned (.int .i64 a) = .returned (.int .i64 b) := by rw [h]

theorem index_any (l : List Txt) (s : Txt) (v : Value) (w : World) (h : SeesL w v (l.map sv)) (hs : l.length ≤ maxLen) :
    Calls Tryz.prog 96 #[v, sv s] w fun e w' => e = .returned (.int .i64 (firstAt (fun d => d = s) l)) ∧ w = w' := by
  unfold maxLen at hs
  obtain ⟨a, c, rfl, hc⟩ := h.shape
  rw [List.length_map] at *
  have Hc := Lib.hid hc
  clear hc h
  unfold sv
  go_enter Tryz.func96, Tryz.ntmps96
  go_wp2
  go_loopg [5, 8] l.length (fun g u5 u8 wr => ∃ k : Nat, k ≤ l.length ∧ g = l.length - k ∧ u8 = .int .i64 k ∧ Hid (∀ j, (hj : j < l.length) → j < k → l[j] ≠ s) ∧ wr = w)
  case atStart => exact ⟨0, Nat.zero_le _, rfl, rfl, Lib.hid (fun j _ hj => by omega), rfl⟩
  case round =>
    obtain ⟨k, hk, rfl, rfl, HA, rfl⟩ := hrel
    by_cases hlt : k < l.length
    · obtain ⟨hcap, g, off, rfl, hcell⟩ := Hc.out (by omega)
      obtain ⟨d, hd⟩ : ∃ d, d = l[k] := ⟨_, rfl⟩
      have hck := hcell k (sv d) (by rw [List.getElem?_map, List.getElem?_eq_getElem hlt, hd]; rfl)
      unfold sv at hck
      have Hd := Lib.hid hd
      clear hcell hd
      by_cases he : s = d
      · have hb : (s == d) = true := by simpa using he
        have He := Lib.hid he
        clear he
        go_wp2
        go_ret
        refine ⟨ret_int ?_, rfl⟩
        exact (firstAt_found _ l k hlt (fun j hj hjk => by simpa using HA.out j hj hjk) (by rw [← Hd.out]; simpa using He.out.symm)).symm
      · have hb : (s == d) = false := by simpa using he
        have He := Lib.hid he
        clear he
        go_wp2
        go_roundg (l.length - (k + 1))
        case measure => omega
        case rel => exact ⟨k + 1, by omega, rfl, by go_num, Lib.hid (fun j hj' hj => by
          by_cases h : j < k
          · exact HA.out j hj' h
          · obtain rfl : j = k := by omega
            rw [← Hd.out]; exact fun e => He.out e.symm), rfl⟩
    · obtain rfl : k = l.length := by omega
      go_wp2
      go_ret
      refine ⟨ret_int ?_, rfl⟩
      exact (firstAt_none _ l (fun j hj => by simpa using HA.out j hj hj)).symm

theorem contains_any (l : List Txt) (s : Txt) (v : Value) (w : World) (h : SeesL w v (l.map sv)) (hs : l.length ≤ maxLen) :
    Calls Tryz.prog 89 #[v, sv s] w fun e w' => e = .returned (.bool (l.any fun d => d = s)) ∧ w = w' := by
  obtain ⟨v0, hv⟩ : ∃ v0, v0 = v := ⟨_, rfl⟩
  rw [← hv] at h ⊢
  obtain ⟨s0, hs0⟩ : ∃ s0, s0 = sv s := ⟨_, rfl⟩
  rw [← hs0]
  have HS := Lib.hid hs0
  clear hv hs0
  go_enter Tryz.func89, Tryz.ntmps89
  go_wp2_with fail
  rw [HS.out]
  refine (index_any l s _ _ h hs).mono ?_
  rintro e w' ⟨rfl, rfl⟩
  go_wp2
  go_ret
  refine ⟨ret_bool ?_, rfl⟩
  exact firstAt_ge _ _

theorem seesL_own {w : World} {base : Nat} {e : TypeId} {v : Value} {n : Nat} {xs : List Value} (h : w.ownsRow base e 1 v n xs) : SeesL w v xs := by
  have hn : n = xs.length := by have := h.1; omega
  subst hn
  rcases h.2 with ⟨rfl, h0⟩ | ⟨g, cap, cur, rfl, _, hg, hle, _, hs, ht⟩
  · exact .inl ⟨List.eq_nil_of_length_eq_zero h0, none, 0, rfl⟩
  · refine .inr ⟨g, 0, cap, rfl, hle, fun j u hj => ?_⟩
    have := World.ownsRow.cells (g := g) h rfl j u hj
    have hplain : (⟨g, 0, none⟩ : Addr).add j = ⟨g, j, none⟩ := by unfold Addr.add; split <;> simp_all
    rw [hplain] at this
    rw [Nat.zero_add]
    exact this

theorem Tryz.infoStr : (Tryz.prog.info? 9).map (fun i => (i.zero, i.size, i.bytes)) = some (some (.string ⟨#[]⟩), 1, 16) := by kernel_rfl

/-- Block b remembers the names l, in a row of its own; none of its memory is in P. -/
structure Nm (P : Nat → Prop) (w : World) (b : Nat) (l : List Txt) : Prop where
  here : ∃ v, w.heap[b]? = some (.cells #[v] 31 (0, 0)) ∧ w.ownsRow 0 9 1 v l.length (l.map sv) ∧ ∀ k, v.ownBlock = some k → ¬ P k ∧ k ≠ b
  apart : ¬ P b

theorem ownsRow_fr {S : Nat → Prop} {w w' : World} {base : Nat} {e : TypeId} {size : Nat} {v : Value} {n : Nat} {xs : List Value} (h : w.ownsRow base e size v n xs) (hf : Fr S w w') (hS : ∀ k, v.ownBlock = some k → ¬ S k) : w'.ownsRow base e size v n xs := by
  refine ⟨h.1, ?_⟩
  rcases h.2 with hn | ⟨g, cap, cur, rfl, hb, hgg, rest⟩
  · exact .inl hn
  · refine .inr ⟨g, cap, cur, rfl, hb, ?_, rest⟩
    rw [hf.block g (Array.getElem?_eq_some_iff.1 hgg).1 (hS g rfl)]
    exact hgg

/-- What others write elsewhere leaves it as it is. -/
theorem Nm.fr {P S : Nat → Prop} {w w' : World} {b : Nat} {l : List Txt} (h : Nm P w b l) (hf : Fr S w w') (hS : ∀ k, S k → P k) : Nm P w' b l := by
  obtain ⟨⟨v, h1, h2, h3⟩, h4⟩ := h
  refine ⟨⟨v, ?_, ownsRow_fr h2 hf (fun k hk hs => (h3 k hk).1 (hS k hs)), h3⟩, h4⟩
  rw [hf.block b (lt_of_block h1) (fun hs => h4 (hS b hs))]
  exact h1

/-- What is new may be guarded, too. -/
theorem Nm.guard {P Q : Nat → Prop} {w : World} {b : Nat} {l : List Txt} (h : Nm P w b l) (hQ : ∀ k, k < w.heap.size → Q k → P k) : Nm Q w b l := by
  obtain ⟨⟨v, h1, h2, h3⟩, h4⟩ := h
  refine ⟨⟨v, h1, h2, fun k hk => ⟨fun hq => (h3 k hk).1 (hQ k (World.ownsRow.lt h2 k hk).2 hq), (h3 k hk).2⟩⟩, fun hq => h4 (hQ b (lt_of_block h1) hq)⟩

/-- The closure. -/
def namer (b : Nat) : Value := .func (.func 88) #[] #[.pointer (some ⟨b, 0, none⟩)]

theorem naming_any (w : World) : Calls Tryz.prog 80 #[] w fun e w' => e = .returned (namer w.heap.size) ∧ Fr (fun _ => False) w w' ∧ Nm (fun k => k < w.heap.size) w' w.heap.size [] := by
  go_enter Tryz.func80, Tryz.ntmps80
  go_wp2
  go_ret
  exact ⟨rfl, (Fr.refl _ _).alloc _, ⟨_, heap_alloc_new w _, World.ownsRow_nil _ 0 9 1, by intro k hk; cases hk⟩, fun h => Nat.lt_irrefl _ h⟩

/-- The error of the next name. -/
def nameE (l : List Txt) (s : Txt) : Nat := if !named s then 8 else if l.any (fun d => d = s) then 9 else 0

theorem name_next (P : Nat → Prop) (b : Nat) (l : List Txt) (s : Txt) (w : World) (h : Nm P w b l) (hP : ∀ k, P k → k < w.heap.size) (hl : l.length ≤ 1000000) (hs : s.length ≤ maxLen) :
    Calls Tryz.prog 88 #[sv s, .pointer (some ⟨b, 0, none⟩)] w fun e w' => e = .returned (.int .i64 (nameE l s)) ∧ Fr (fun k => ¬ P k) w w' ∧ (nameE l s = 0 → Nm P w' b (l ++ [s])) := by
  obtain ⟨⟨v, h1, h2, h3⟩, h4⟩ := h
  have hc := cell_of_one h1
  have hf := free_of_one h1
  have hb := lt_of_block h1
  have H1 := Lib.hid h1
  have H2 := Lib.hid h2
  have H3 := Lib.hid h3
  have H4 := Lib.hid h4
  have HP := Lib.hid hP
  clear h1 h2 h3 h4 hP
  have hn : ∀ w, Calls Tryz.prog 78 #[.string ⟨s.toArray⟩] w fun e w' => e = .returned (.bool (named s)) ∧ w = w' := fun w => named_any ⟨s.toArray⟩ w hs
  have hk : ∀ w0, SeesL w0 v (l.map sv) → Calls Tryz.prog 89 #[v, .string ⟨s.toArray⟩] w0 fun e w' => e = .returned (.bool (l.any fun d => d = s)) ∧ w0 = w' := fun w0 h => contains_any l s v w0 h (by unfold maxLen; omega)
  unfold sv
  by_cases hm : named s = true
  · have HM := Lib.hid hm
    clear hm
    by_cases ha : (l.any fun d => d = s) = true
    · have HA := Lib.hid ha
      clear ha
      go_enter Tryz.func88, Tryz.ntmps88
      go_wp2_with fail
      refine (hn _).mono ?_
      rintro e w' ⟨rfl, rfl⟩
      rw [HM.out]
      go_wp2_with fail
      refine (hk _ (seesL_own H2.out)).mono ?_
      rintro e w' ⟨rfl, rfl⟩
      rw [HA.out]
      go_wp2
      go_ret
      have e1 : nameE l s = 9 := by rw [nameE, HM.out, HA.out]; rfl
      refine ⟨by rw [e1]; rfl, Fr.refl _ _, fun h0 => by rw [e1] at h0; cases h0⟩
    · have ha' : (l.any fun d => d = s) = false := eq_false_of_ne_true ha
      have HA := Lib.hid ha'
      clear ha ha'
      have e1 : nameE l s = 0 := by rw [nameE, HM.out, HA.out]; rfl
      have E1 := Lib.hid e1
      clear e1
      obtain ⟨i0, hi, hz0, hz1, hz2⟩ := info_parts Tryz.infoStr
      go_enter Tryz.func88, Tryz.ntmps88
      go_wp2_with fail
      refine (hn _).mono ?_
      rintro e w' ⟨rfl, rfl⟩
      rw [HM.out]
      go_wp2_with fail
      refine (hk _ (seesL_own H2.out)).mono ?_
      rintro e w' ⟨rfl, rfl⟩
      rw [HA.out]
      go_wp2_with (at_builtin; refine wpList_append_sep rfl (.tmp 10) (.tmp 12) 31 31 rfl 0 9 i0 (.string ⟨#[]⟩) 1 16 Tryz.underlying31 _ Tryz.underlying31 (.inr ⟨_, rfl⟩) hi hz0 hz1 hz2 rfl (by decide) v l.length (l.map sv) rfl ?own _ 1 [sv s] rfl (lenOf_slice _ _ _) rfl ?c1 ?c2 ?one ?b1 ?b2 (Nat.zero_le _) ?grow)
      case own => exact World.ownsRow.alloc H2.out _
      case c1 => exact first_row (heap_alloc_new _ _) 1 1 rfl
      case c2 => exact first_row (by exact heap_alloc_new _ _) 1 1 rfl
      case one => intro u hu; simp at hu; subst hu; rfl
      case b1 => unfold maxLen; omega
      case b2 => omega
      case grow =>
        intro v' w1 hown hg hv
        obtain ⟨a, c, rfl⟩ := slice_of_own hown
        have hk1 : w1.heap[b]? = some (.cells #[v] 31 (0, 0)) := by
          rw [hg.block b (by show b < (w.heap.push _).size; simp; omega) (fun e => (H3.out b e.symm).2 rfl), Below.heap_alloc _ _ _ hb]; exact H1.out
        have hc1 := cell_of_one hk1
        have hf1 := free_of_one hk1
        clear hc hf
        have Hk := Lib.hid hk1; clear hk1
        have Hv := Lib.hid hv; clear hv
        have Hg := Lib.hid hg; clear hg
        have Ho := Lib.hid hown; clear hown
        go_wp2
        go_ret
        have hblk : ∀ k, (Value.slice a (l.length + 1) c).ownBlock = some k → ¬ P k ∧ k ≠ b := by
          intro k hk'
          rcases Hv.out with e | e
          · exact H3.out k (e ▸ hk')
          · rw [e] at hk'
            simp at hk'
            exact ⟨fun hp => by have := HP.out k hp; omega, by omega⟩
        have hfr : Fr (fun k => ¬ P k) w w1 := ((Fr.refl _ _).alloc _).trans (Fr.of_grown Hg.out) (fun i _ e => (H3.out i e.symm).1)
        refine ⟨by rw [E1.out]; rfl, hfr.setCell (fun _ => H4.out) _, fun _ => ⟨⟨_, one_setCell Hk.out, ?_, hblk⟩, H4.out⟩⟩
        have := ownsRow_setCell_other Ho.out (a := ⟨b, 0, none⟩) (fun e => (hblk b e).2 rfl) (.slice a (l.length + 1) c)
        rw [List.length_append, List.map_append]
        exact this
  · have hm' : named s = false := by simpa using hm
    have HM := Lib.hid hm'
    clear hm hm'
    go_enter Tryz.func88, Tryz.ntmps88
    go_wp2_with fail
    refine (hn _).mono ?_
    rintro e w' ⟨rfl, rfl⟩
    rw [HM.out]
    go_wp2
    go_ret
    have e1 : nameE l s = 8 := by rw [nameE, HM.out]; rfl
    refine ⟨by rw [e1]; rfl, Fr.refl _ _, fun h0 => by rw [e1] at h0; cases h0⟩
end
end Go.Proofs.YtplipjijaaejlaaGreat
