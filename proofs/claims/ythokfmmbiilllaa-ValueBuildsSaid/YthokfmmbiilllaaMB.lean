/-
  The small functions of package kind and what they call: which bytes are letters and digits; which texts are reserved; which may be names.
-/
import Derived.Test.YthokfmmbiilllaaMA
import Derived.Deep.LoopGhost
import Derived.Lib.Strings
import Derived.Deep.QuietTactic
import Derived.BigQuiet
import Derived.Lib.Bytealg
import Derived.Lib.BufferWrite
import Derived.Lib.UnsafeStr
import Derived.Laws.MakeOwn
import Derived.Lib.SliceRun
import Derived.Deep.OwnRows
import Derived.Laws.ResultCell
import Derived.IntWalk
import Derived.Deep.Cut
import Derived.Deep.CutRange
set_option linter.unusedSimpArgs false
set_option linter.unusedVariables false
namespace Go.Proofs.Ythokfmmbiilllaa
open Go.RowKit

theorem ret_bool {a b : Bool} (h : a = b) : Ending.returned (.bool a) = .returned (.bool b) := by rw [h]

def isLet (c : UInt8) : Bool := decide (97 ≤ (c.toNat : Int) ∧ (c.toNat : Int) ≤ 122 ∨ 65 ≤ (c.toNat : Int) ∧ (c.toNat : Int) ≤ 90)
def isDig (c : UInt8) : Bool := decide (48 ≤ (c.toNat : Int) ∧ (c.toNat : Int) ≤ 57)

/-- The words that are no names. -/
def kwords : List (List UInt8) := [[98, 111, 111, 108], [99, 97, 114, 100], [108, 111, 110, 103], [114, 101, 97, 108], [116, 101, 120, 116], [115, 101, 113], [111, 102], [114, 101, 99, 111, 114, 100], [101, 110, 117, 109], [99, 104, 111, 105, 99, 101], [112, 114, 111, 103, 114, 97, 109], [118, 101, 114, 115, 105, 111, 110], [116, 121, 112, 101], [101, 114, 114, 111, 114], [112, 114, 111, 99], [114, 101, 116, 117, 114, 110, 115], [99, 111, 108, 108, 97, 116, 101], [116, 105, 109, 101, 111, 117, 116], [102, 105, 114, 115, 116], [109, 97, 106, 111, 114, 105, 116, 121], [97, 108, 108]]

def isNam (c : UInt8) : Bool := isLet c || isDig c

/-- May it be a name? -/
def named (l : List UInt8) : Bool := decide (1 ≤ l.length ∧ l.length ≤ 20) && isLet (l.getD 0 0) && l.all isNam && !kwords.contains l

theorem all_getD (p : UInt8 → Bool) (l : List UInt8) (h : ∀ j, j < l.length → p (l.getD j 0) = true) : l.all p = true := by
  rw [List.all_eq_true]
  intro x hx
  obtain ⟨j, hj, rfl⟩ := List.getElem_of_mem hx
  have := h j hj
  simpa [List.getD, hj] using this

theorem not_all (p : UInt8 → Bool) (l : List UInt8) (j : Nat) (hj : j < l.length) (h : p (l.getD j 0) = false) : l.all p = false := by
  rw [List.all_eq_false]
  refine ⟨l[j], List.getElem_mem hj, ?_⟩
  simpa [List.getD, hj] using h

set_option maxHeartbeats 1000000 in
theorem letter_any (c : UInt8) (w : World) : Calls Try.prog 51 #[.int .u8 c.toNat] w fun e w' => e = .returned (.bool (isLet c)) ∧ w = w' := by
  unfold isLet
  have h1 : (c.toNat : Int) ≤ 255 := by have := c.toNat_lt; omega
  have h0 : (0 : Int) ≤ (c.toNat : Int) := by omega
  generalize (c.toNat : Int) = n at *
  by_cases a : 97 ≤ n <;> by_cases b : n ≤ 122 <;> by_cases d : 65 ≤ n <;> by_cases e : n ≤ 90 <;>
    first
    | omega
    | (go_enter Try.func51, Try.ntmps51
       go_wp2
       go_ret
       exact ⟨ret_bool (by simp [a, b, d, e]), rfl⟩)

set_option maxHeartbeats 1000000 in
theorem digit_any (c : UInt8) (w : World) : Calls Try.prog 52 #[.int .u8 c.toNat] w fun e w' => e = .returned (.bool (isDig c)) ∧ w = w' := by
  unfold isDig
  have h1 : (c.toNat : Int) ≤ 255 := by have := c.toNat_lt; omega
  have h0 : (0 : Int) ≤ (c.toNat : Int) := by omega
  generalize (c.toNat : Int) = n at *
  by_cases a : 48 ≤ n <;> by_cases b : n ≤ 57 <;>
    first
    | omega
    | (go_enter Try.func52, Try.ntmps52
       go_wp2
       go_ret
       exact ⟨ret_bool (by simp [a, b]), rfl⟩)

set_option maxHeartbeats 4000000 in
theorem reserved_any (s : ByteArray) (w : World) : Calls Try.prog 53 #[.string s] w fun e w' => e = .returned (.bool (kwords.contains s.data.toList)) ∧ w = w' := by
  go_enter Try.func53, Try.ntmps53
  go_wp2
  all_goals go_ret
  all_goals refine ⟨ret_bool ?_, rfl⟩
  all_goals simp_all [Lib.toList_data, kwords]

set_option maxHeartbeats 2000000 in
theorem named_any (s : ByteArray) (w : World) (hs : s.size ≤ maxLen) : Calls Try.prog 44 #[.string s] w fun e w' => e = .returned (.bool (named s.data.toList)) ∧ w = w' := by
  unfold maxLen at hs
  have hl : s.data.toList.length = s.size := rfl
  have Hl := Lib.hid hl
  clear hl
  by_cases h1 : s.size < 1
  · go_enter Try.func44, Try.ntmps44
    go_wp2
    go_ret
    refine ⟨ret_bool ?_, rfl⟩
    simp [named, Hl.out]; omega
  by_cases h2 : 20 < s.size
  · go_enter Try.func44, Try.ntmps44
    go_wp2
    go_ret
    refine ⟨ret_bool ?_, rfl⟩
    simp [named, Hl.out]; omega
  have h3 : 0 < s.size := by omega
  have h4 : ¬ ((s.size : Int) < 1) := by omega
  have h5 : ¬ (20 < (s.size : Int)) := by omega
  obtain ⟨c, hc⟩ : ∃ c, c = s[0] := ⟨_, rfl⟩
  have hg : s.data.toList.getD 0 0 = c := by
    rw [hc, List.getD_eq_getElem?_getD, List.getElem?_eq_getElem (by rw [Hl.out]; exact h3)]
    rfl
  have Hc := Lib.hid hc
  have Hg := Lib.hid hg
  clear hc hg
  by_cases hp : isLet c = true
  · have HP := Lib.hid hp
    clear hp
    go_enter Try.func44, Try.ntmps44
    go_wp2_with fail
    rw [← Hc.out]
    refine (letter_any _ _).mono ?_
    rintro e w' ⟨rfl, rfl⟩
    rw [HP.out]
    go_wp2_with fail
    go_loopg [3, 20] s.size (fun g u3 u20 wr => ∃ k : Nat, k ≤ s.size ∧ g = s.size - k ∧ u20 = .int .i64 k ∧ Hid (∀ j, j < k → isNam (s.data.toList.getD j 0) = true) ∧ wr = w)
    case atStart => exact ⟨0, Nat.zero_le _, rfl, rfl, Lib.hid (fun j hj => by omega), rfl⟩
    case round =>
      obtain ⟨k, hk, rfl, rfl, HA, rfl⟩ := hrel
      by_cases hlt : k < s.size
      · obtain ⟨d, hd⟩ : ∃ d, d = s[k] := ⟨_, rfl⟩
        have hgd : s.data.toList.getD k 0 = d := by
          rw [hd, List.getD_eq_getElem?_getD, List.getElem?_eq_getElem (by rw [Hl.out]; exact hlt)]
          rfl
        have Hd := Lib.hid hd
        have Hgd := Lib.hid hgd
        clear hd hgd
        by_cases ha : isLet d = true
        · have HLet := Lib.hid ha
          clear ha
          go_wp2_with fail
          rw [← Hd.out]
          refine (letter_any _ _).mono ?_
          rintro e w' ⟨rfl, rfl⟩
          rw [HLet.out]
          go_wp2_with fail
          go_roundg (s.size - (k + 1))
          case measure => omega
          case rel => exact ⟨k + 1, by omega, rfl, by go_num, Lib.hid (fun j hj => by
            by_cases h : j < k
            · exact HA.out j h
            · obtain rfl : j = k := by omega
              rw [Hgd.out]; simp [isNam, HLet.out]), rfl⟩
        · have ha' : isLet d = false := by simpa using ha
          have HLet := Lib.hid ha'
          clear ha ha'
          go_wp2_with fail
          rw [← Hd.out]
          refine (letter_any _ _).mono ?_
          rintro e w' ⟨rfl, rfl⟩
          rw [HLet.out]
          go_wp2_with fail
          rw [← Hd.out]
          refine (digit_any _ _).mono ?_
          rintro e w' ⟨rfl, rfl⟩
          by_cases hb : isDig d = true
          · rw [hb]
            have HDig := Lib.hid hb
            clear hb
            go_wp2_with fail
            go_roundg (s.size - (k + 1))
            case measure => omega
            case rel => exact ⟨k + 1, by omega, rfl, by go_num, Lib.hid (fun j hj => by
              by_cases h : j < k
              · exact HA.out j h
              · obtain rfl : j = k := by omega
                rw [Hgd.out]; simp [isNam, HDig.out]), rfl⟩
          · have hb' : isDig d = false := by simpa using hb
            rw [hb']
            have HDig := Lib.hid hb'
            clear hb hb'
            go_wp2_with fail
            go_ret
            refine ⟨ret_bool ?_, rfl⟩
            have := not_all isNam s.data.toList k (by rw [Hl.out]; exact hlt) (by rw [Hgd.out]; simp [isNam, HLet.out, HDig.out])
            simp [named, this]
      · obtain rfl : k = s.size := by omega
        have hall : s.data.toList.all isNam = true := all_getD _ _ (by rw [Hl.out]; exact HA.out)
        have HAll := Lib.hid hall
        clear hall
        go_wp2_with fail
        refine (reserved_any _ _).mono ?_
        rintro e w' ⟨rfl, rfl⟩
        go_wp2_with fail
        go_ret
        refine ⟨ret_bool ?_, rfl⟩
        have e1 : decide (1 ≤ s.data.toList.length ∧ s.data.toList.length ≤ 20) = true := by rw [Hl.out]; simp; omega
        rw [named, e1, HAll.out, Hg.out, HP.out]
        simp
  · have hp' : isLet c = false := by simpa using hp
    have HP := Lib.hid hp'
    clear hp hp'
    go_enter Try.func44, Try.ntmps44
    go_wp2_with fail
    rw [← Hc.out]
    refine (letter_any _ _).mono ?_
    rintro e w' ⟨rfl, rfl⟩
    rw [HP.out]
    go_wp2_with fail
    go_ret
    refine ⟨ret_bool ?_, rfl⟩
    rw [named, Hg.out, HP.out]
    simp

end Go.Proofs.Ythokfmmbiilllaa

/-
  Names that exist already: slices of texts searched; the function that remembers names, made and called.
-/
namespace Go.Proofs.Ythokfmmbiilllaa
open Go.RowKit

theorem SeesL.cells {w : World} {a : Option Addr} {n c : Nat} {xs : List Value} (h : SeesL w (.slice a n c) xs) : n = xs.length ∧ (0 < n → n ≤ c ∧ ∃ g off, a = some ⟨g, off, none⟩ ∧ ∀ j u, xs[j]? = some u → w.cell? ⟨g, off + j, none⟩ = some u) := by
  rcases h with ⟨rfl, a', c', e⟩ | ⟨g, off, cap, e, hle, hc⟩
  · cases e; exact ⟨rfl, fun h => absurd h (by simp)⟩
  · cases e; exact ⟨rfl, fun _ => ⟨hle, g, off, rfl, hc⟩⟩

theorem SeesL.shape {w : World} {v : Value} {xs : List Value} (h : SeesL w v xs) : ∃ a c, v = .slice a xs.length c ∧ (0 < xs.length → xs.length ≤ c ∧ ∃ g off, a = some ⟨g, off, none⟩ ∧ ∀ j u, xs[j]? = some u → w.cell? ⟨g, off + j, none⟩ = some u) := by
  rcases h with ⟨rfl, a', c', rfl⟩ | ⟨g, off, cap, rfl, hle, hc⟩
  · exact ⟨a', c', rfl, fun h => absurd h (by simp)⟩
  · exact ⟨_, cap, rfl, fun _ => ⟨hle, g, off, rfl, hc⟩⟩

abbrev Txt := List UInt8

/-- A text as a value. -/
def sv (l : Txt) : Value := .string ⟨l.toArray⟩

theorem txt_beq (a b : Txt) : ((⟨a.toArray⟩ : ByteArray).toList == (⟨b.toArray⟩ : ByteArray).toList) = decide (a = b) := by
  rw [Lib.toList_data, Lib.toList_data]
  by_cases h : a = b
  · subst h; simp
  · simp [h]

/-- Which of them is the first that is fit: its index, or -1. -/
def firstAt {α : Type} (p : α → Bool) (l : List α) : Int := if l.any p then (l.findIdx p : Nat) else -1

theorem firstAt_found {α : Type} (p : α → Bool) (l : List α) (k : Nat) (hk : k < l.length) (ha : ∀ j, (hj : j < l.length) → j < k → p l[j] = false) (h : p l[k] = true) : firstAt p l = k := by
  unfold firstAt
  have h1 : l.any p = true := List.any_eq_true.2 ⟨_, List.getElem_mem hk, h⟩
  rw [if_pos h1]
  congr 1
  exact (List.findIdx_eq hk).2 ⟨h, fun j hj => ha j (by omega) hj⟩

theorem firstAt_none {α : Type} (p : α → Bool) (l : List α) (ha : ∀ j, (hj : j < l.length) → p l[j] = false) : firstAt p l = -1 := by
  unfold firstAt
  rw [if_neg]
  intro h
  obtain ⟨x, hx, hp⟩ := List.any_eq_true.1 h
  obtain ⟨j, hj, rfl⟩ := List.getElem_of_mem hx
  rw [ha j hj] at hp
  cases hp

theorem firstAt_ge {α : Type} (p : α → Bool) (l : List α) : decide (0 ≤ firstAt p l) = l.any p := by
  unfold firstAt
  split
  · rename_i h; rw [h]; simp
  · rename_i h; simp at h; simp; intro x hx; simp [h x hx]

theorem ret_int {a b : Int} (h : a = b) : Ending.returned (.int .i64 a) = .returned (.int .i64 b) := by rw [h]

set_option maxHeartbeats 2000000 in
theorem index_any (l : List Txt) (s : Txt) (v : Value) (w : World) (h : SeesL w v (l.map sv)) (hs : l.length ≤ maxLen) :
    Calls Try.prog 62 #[v, sv s] w fun e w' => e = .returned (.int .i64 (firstAt (fun d => d = s) l)) ∧ w = w' := by
  unfold maxLen at hs
  obtain ⟨a, c, rfl, hc⟩ := h.shape
  rw [List.length_map] at *
  have Hc := Lib.hid hc
  clear hc h
  unfold sv
  go_enter Try.func62, Try.ntmps62
  go_wp2
  go_loopg [5, 8] l.length (fun g u5 u8 wr => ∃ k : Nat, k ≤ l.length ∧ g = l.length - k ∧ u8 = .int .i64 k ∧ Hid (∀ j, (hj : j < l.length) → j < k → l[j] ≠ s) ∧ wr = w)
  case atStart => exact ⟨0, Nat.zero_le _, rfl, rfl, Lib.hid (fun j _ hj => by omega), rfl⟩
  case round =>
    obtain ⟨k, hk, rfl, rfl, HA, rfl⟩ := hrel
    by_cases hlt : k < l.length
    · obtain ⟨hcap, g, off, rfl, hcell⟩ := Hc.out (by omega)
      obtain ⟨d, hd⟩ : ∃ d, d = l[k] := ⟨_, rfl⟩
      have hck := hcell k (sv d) (by rw [List.getElem?_map, List.getElem?_eq_getElem hlt, hd]; rfl)
      unfold sv at hck
      have Hd := Lib.hid hd
      clear hcell hd
      by_cases he : s = d
      · have hb : (s == d) = true := by simpa using he
        have He := Lib.hid he
        clear he
        go_wp2
        go_ret
        refine ⟨ret_int ?_, rfl⟩
        exact (firstAt_found _ l k hlt (fun j hj hjk => by simpa using HA.out j hj hjk) (by rw [← Hd.out]; simpa using He.out.symm)).symm
      · have hb : (s == d) = false := by simpa using he
        have He := Lib.hid he
        clear he
        go_wp2
        go_roundg (l.length - (k + 1))
        case measure => omega
        case rel => exact ⟨k + 1, by omega, rfl, by go_num, Lib.hid (fun j hj' hj => by
          by_cases h : j < k
          · exact HA.out j hj' h
          · obtain rfl : j = k := by omega
            rw [← Hd.out]; exact fun e => He.out e.symm), rfl⟩
    · obtain rfl : k = l.length := by omega
      go_wp2
      go_ret
      refine ⟨ret_int ?_, rfl⟩
      exact (firstAt_none _ l (fun j hj => by simpa using HA.out j hj hj)).symm

set_option maxHeartbeats 1000000 in
theorem contains_any (l : List Txt) (s : Txt) (v : Value) (w : World) (h : SeesL w v (l.map sv)) (hs : l.length ≤ maxLen) :
    Calls Try.prog 55 #[v, sv s] w fun e w' => e = .returned (.bool (l.any fun d => d = s)) ∧ w = w' := by
  obtain ⟨v0, hv⟩ : ∃ v0, v0 = v := ⟨_, rfl⟩
  rw [← hv] at h ⊢
  obtain ⟨s0, hs0⟩ : ∃ s0, s0 = sv s := ⟨_, rfl⟩
  rw [← hs0]
  have HS := Lib.hid hs0
  clear hv hs0
  go_enter Try.func55, Try.ntmps55
  go_wp2_with fail
  rw [HS.out]
  refine (index_any l s _ _ h hs).mono ?_
  rintro e w' ⟨rfl, rfl⟩
  go_wp2
  go_ret
  refine ⟨ret_bool ?_, rfl⟩
  exact firstAt_ge _ _

theorem seesL_own {w : World} {base : Nat} {e : TypeId} {v : Value} {n : Nat} {xs : List Value} (h : w.ownsRow base e 1 v n xs) : SeesL w v xs := by
  have hn : n = xs.length := by have := h.1; omega
  subst hn
  rcases h.2 with ⟨rfl, h0⟩ | ⟨g, cap, cur, rfl, _, hg, hle, _, hs, ht⟩
  · exact .inl ⟨List.eq_nil_of_length_eq_zero h0, none, 0, rfl⟩
  · refine .inr ⟨g, 0, cap, rfl, hle, fun j u hj => ?_⟩
    have := World.ownsRow.cells (g := g) h rfl j u hj
    have hplain : (⟨g, 0, none⟩ : Addr).add j = ⟨g, j, none⟩ := by unfold Addr.add; split <;> simp_all
    rw [hplain] at this
    rw [Nat.zero_add]
    exact this

theorem Try.infoStr : (Try.prog.info? 9).map (fun i => (i.zero, i.size, i.bytes)) = some (some (.string ⟨#[]⟩), 1, 16) := by kernel_rfl

/-- Block b remembers the names l, in a row of its own; none of its memory is in P. -/
structure Nm (P : Nat → Prop) (w : World) (b : Nat) (l : List Txt) : Prop where
  here : ∃ v, w.heap[b]? = some (.cells #[v] 29 (0, 0)) ∧ w.ownsRow 0 9 1 v l.length (l.map sv) ∧ ∀ k, v.ownBlock = some k → ¬ P k ∧ k ≠ b
  apart : ¬ P b

theorem ownsRow_fr {S : Nat → Prop} {w w' : World} {base : Nat} {e : TypeId} {size : Nat} {v : Value} {n : Nat} {xs : List Value} (h : w.ownsRow base e size v n xs) (hf : Fr S w w') (hS : ∀ k, v.ownBlock = some k → ¬ S k) : w'.ownsRow base e size v n xs := by
  refine ⟨h.1, ?_⟩
  rcases h.2 with hn | ⟨g, cap, cur, rfl, hb, hgg, rest⟩
  · exact .inl hn
  · refine .inr ⟨g, cap, cur, rfl, hb, ?_, rest⟩
    rw [hf.block g (Array.getElem?_eq_some_iff.1 hgg).1 (hS g rfl)]
    exact hgg

/-- What others write elsewhere leaves it as it is. -/
theorem Nm.fr {P S : Nat → Prop} {w w' : World} {b : Nat} {l : List Txt} (h : Nm P w b l) (hf : Fr S w w') (hS : ∀ k, S k → P k) : Nm P w' b l := by
  obtain ⟨⟨v, h1, h2, h3⟩, h4⟩ := h
  refine ⟨⟨v, ?_, ownsRow_fr h2 hf (fun k hk hs => (h3 k hk).1 (hS k hs)), h3⟩, h4⟩
  rw [hf.block b (lt_of_block h1) (fun hs => h4 (hS b hs))]
  exact h1

/-- What is new may be guarded, too. -/
theorem Nm.guard {P Q : Nat → Prop} {w : World} {b : Nat} {l : List Txt} (h : Nm P w b l) (hQ : ∀ k, k < w.heap.size → Q k → P k) : Nm Q w b l := by
  obtain ⟨⟨v, h1, h2, h3⟩, h4⟩ := h
  refine ⟨⟨v, h1, h2, fun k hk => ⟨fun hq => (h3 k hk).1 (hQ k (World.ownsRow.lt h2 k hk).2 hq), (h3 k hk).2⟩⟩, fun hq => h4 (hQ b (lt_of_block h1) hq)⟩

/-- The closure. -/
def namer (b : Nat) : Value := .func (.func 54) #[] #[.pointer (some ⟨b, 0, none⟩)]

set_option maxHeartbeats 1000000 in
theorem naming_any (w : World) : Calls Try.prog 46 #[] w fun e w' => e = .returned (namer w.heap.size) ∧ Fr (fun _ => False) w w' ∧ Nm (fun k => k < w.heap.size) w' w.heap.size [] := by
  go_enter Try.func46, Try.ntmps46
  go_wp2
  go_ret
  exact ⟨rfl, (Fr.refl _ _).alloc _, ⟨_, heap_alloc_new w _, World.ownsRow_nil _ 0 9 1, by intro k hk; cases hk⟩, fun h => Nat.lt_irrefl _ h⟩

/-- The error of the next name. -/
def nameE (l : List Txt) (s : Txt) : Nat := if !named s then 8 else if l.any (fun d => d = s) then 9 else 0

set_option maxHeartbeats 4000000 in
theorem name_next (P : Nat → Prop) (b : Nat) (l : List Txt) (s : Txt) (w : World) (h : Nm P w b l) (hP : ∀ k, P k → k < w.heap.size) (hl : l.length ≤ 1000000) (hs : s.length ≤ maxLen) :
    Calls Try.prog 54 #[sv s, .pointer (some ⟨b, 0, none⟩)] w fun e w' => e = .returned (.int .i64 (nameE l s)) ∧ Fr (fun k => ¬ P k) w w' ∧ (nameE l s = 0 → Nm P w' b (l ++ [s])) := by
  obtain ⟨⟨v, h1, h2, h3⟩, h4⟩ := h
  have hc := cell_of_one h1
  have hf := free_of_one h1
  have hb := lt_of_block h1
  have H1 := Lib.hid h1
  have H2 := Lib.hid h2
  have H3 := Lib.hid h3
  have H4 := Lib.hid h4
  have HP := Lib.hid hP
  clear h1 h2 h3 h4 hP
  have hn : ∀ w, Calls Try.prog 44 #[.string ⟨s.toArray⟩] w fun e w' => e = .returned (.bool (named s)) ∧ w = w' := fun w => named_any ⟨s.toArray⟩ w hs
  have hk : ∀ w0, SeesL w0 v (l.map sv) → Calls Try.prog 55 #[v, .string ⟨s.toArray⟩] w0 fun e w' => e = .returned (.bool (l.any fun d => d = s)) ∧ w0 = w' := fun w0 h => contains_any l s v w0 h (by unfold maxLen; omega)
  unfold sv
  by_cases hm : named s = true
  · have HM := Lib.hid hm
    clear hm
    by_cases ha : (l.any fun d => d = s) = true
    · have HA := Lib.hid ha
      clear ha
      go_enter Try.func54, Try.ntmps54
      go_wp2_with fail
      refine (hn _).mono ?_
      rintro e w' ⟨rfl, rfl⟩
      rw [HM.out]
      go_wp2_with fail
      refine (hk _ (seesL_own H2.out)).mono ?_
      rintro e w' ⟨rfl, rfl⟩
      rw [HA.out]
      go_wp2
      go_ret
      have e1 : nameE l s = 9 := by rw [nameE, HM.out, HA.out]; rfl
      refine ⟨by rw [e1]; rfl, Fr.refl _ _, fun h0 => by rw [e1] at h0; cases h0⟩
    · have ha' : (l.any fun d => d = s) = false := eq_false_of_ne_true ha
      have HA := Lib.hid ha'
      clear ha ha'
      have e1 : nameE l s = 0 := by rw [nameE, HM.out, HA.out]; rfl
      have E1 := Lib.hid e1
      clear e1
      obtain ⟨i0, hi, hz0, hz1, hz2⟩ := info_parts Try.infoStr
      go_enter Try.func54, Try.ntmps54
      go_wp2_with fail
      refine (hn _).mono ?_
      rintro e w' ⟨rfl, rfl⟩
      rw [HM.out]
      go_wp2_with fail
      refine (hk _ (seesL_own H2.out)).mono ?_
      rintro e w' ⟨rfl, rfl⟩
      rw [HA.out]
      go_wp2_with (at_builtin; refine wpList_append_sep rfl (.tmp 10) (.tmp 12) 29 29 rfl 0 9 i0 (.string ⟨#[]⟩) 1 16 Try.underlying29 _ Try.underlying29 (.inr ⟨_, rfl⟩) hi hz0 hz1 hz2 rfl (by decide) v l.length (l.map sv) rfl ?own _ 1 [sv s] rfl (lenOf_slice _ _ _) rfl ?c1 ?c2 ?one ?b1 ?b2 (Nat.zero_le _) ?grow)
      case own => exact World.ownsRow.alloc H2.out _
      case c1 => exact first_row (heap_alloc_new _ _) 1 1 rfl
      case c2 => exact first_row (by exact heap_alloc_new _ _) 1 1 rfl
      case one => intro u hu; simp at hu; subst hu; rfl
      case b1 => unfold maxLen; omega
      case b2 => omega
      case grow =>
        intro v' w1 hown hg hv
        obtain ⟨a, c, rfl⟩ := slice_of_own hown
        have hk1 : w1.heap[b]? = some (.cells #[v] 29 (0, 0)) := by
          rw [hg.block b (by show b < (w.heap.push _).size; simp; omega) (fun e => (H3.out b e.symm).2 rfl), Below.heap_alloc _ _ _ hb]; exact H1.out
        have hc1 := cell_of_one hk1
        have hf1 := free_of_one hk1
        clear hc hf
        have Hk := Lib.hid hk1; clear hk1
        have Hv := Lib.hid hv; clear hv
        have Hg := Lib.hid hg; clear hg
        have Ho := Lib.hid hown; clear hown
        go_wp2
        go_ret
        have hblk : ∀ k, (Value.slice a (l.length + 1) c).ownBlock = some k → ¬ P k ∧ k ≠ b := by
          intro k hk'
          rcases Hv.out with e | e
          · exact H3.out k (e ▸ hk')
          · rw [e] at hk'
            simp at hk'
            exact ⟨fun hp => by have := HP.out k hp; omega, by omega⟩
        have hfr : Fr (fun k => ¬ P k) w w1 := ((Fr.refl _ _).alloc _).trans (Fr.of_grown Hg.out) (fun i _ e => (H3.out i e.symm).1)
        refine ⟨by rw [E1.out]; rfl, hfr.setCell (fun _ => H4.out) _, fun _ => ⟨⟨_, one_setCell Hk.out, ?_, hblk⟩, H4.out⟩⟩
        have := ownsRow_setCell_other Ho.out (a := ⟨b, 0, none⟩) (fun e => (hblk b e).2 rfl) (.slice a (l.length + 1) c)
        rw [List.length_append, List.map_append]
        exact this
  · have hm' : named s = false := by simpa using hm
    have HM := Lib.hid hm'
    clear hm hm'
    go_enter Try.func54, Try.ntmps54
    go_wp2_with fail
    refine (hn _).mono ?_
    rintro e w' ⟨rfl, rfl⟩
    rw [HM.out]
    go_wp2
    go_ret
    have e1 : nameE l s = 8 := by rw [nameE, HM.out]; rfl
    refine ⟨by rw [e1]; rfl, Fr.refl _ _, fun h0 => by rw [e1] at h0; cases h0⟩

end Go.Proofs.Ythokfmmbiilllaa

/-
  Types as plain trees; a type's value in memory; whether it is right.
-/
namespace Go.Proofs.Ythokfmmbiilllaa
open Go.RowKit

/-- A type: its kind, its greatest length, its names, how many types it consists of, and which ('nil' stands for those that there aren't). -/
inductive KT where
  | nil
  | mk (k : Nat) (m : Int) (ns : List Txt) (n : Nat) (of : Nat → KT)

/-- The slice v shows the texts l, in memory of R. -/
def Texts (R : Nat → Prop) (w : World) (l : List Txt) (v : Value) : Prop :=
  l.length ≤ 1000 ∧ (∀ s ∈ l, s.length ≤ 1000) ∧
  ((l = [] ∧ ∃ a c, v = .slice a 0 c) ∨
   ∃ g off cap, R g ∧ v = .slice (some ⟨g, off, none⟩) l.length cap ∧ l.length ≤ cap ∧ ∀ j s, l[j]? = some s → w.cell? ⟨g, off + j, none⟩ = some (sv s))

/-- The value v shows the type t, in memory of R. -/
def Shows (R : Nat → Prop) (w : World) : KT → Value → Prop
  | .nil, _ => False
  | .mk k m ns n of, v => ∃ vn vo, v = .agg #[.int .u8 k, .int .i64 m, vn, vo] ∧ k ≤ 255 ∧ n ≤ 1000 ∧ Texts R w ns vn ∧
    ((n = 0 ∧ ∃ a c, vo = .slice a 0 c) ∨
     ∃ g off cap, R g ∧ vo = .slice (some ⟨g, off, none⟩) n cap ∧ n ≤ cap ∧ ∀ i, i < n → ∃ x0 x1 x2 x3,
      w.cell? ⟨g, off + i * 4, none⟩ = some x0 ∧ w.cell? ⟨g, off + i * 4 + 1, none⟩ = some x1 ∧ w.cell? ⟨g, off + i * 4 + 2, none⟩ = some x2 ∧ w.cell? ⟨g, off + i * 4 + 3, none⟩ = some x3 ∧
      Shows R w (of i) (.agg #[x0, x1, x2, x3]))

/-- The slice v shows these aliases. -/
def Aliases (R : Nat → Prop) (w : World) (l : List (Txt × KT)) (v : Value) : Prop :=
  l.length ≤ 1000 ∧ (∀ x ∈ l, x.1.length ≤ 1000) ∧
  ((l = [] ∧ ∃ a c, v = .slice a 0 c) ∨
   ∃ g off cap, R g ∧ v = .slice (some ⟨g, off, none⟩) l.length cap ∧ l.length ≤ cap ∧ ∀ i x, l[i]? = some x → ∃ x0 x1 x2 x3,
    w.cell? ⟨g, off + i * 5, none⟩ = some (sv x.1) ∧ w.cell? ⟨g, off + i * 5 + 1, none⟩ = some x0 ∧ w.cell? ⟨g, off + i * 5 + 2, none⟩ = some x1 ∧ w.cell? ⟨g, off + i * 5 + 3, none⟩ = some x2 ∧ w.cell? ⟨g, off + i * 5 + 4, none⟩ = some x3 ∧
    Shows R w x.2 (.agg #[x0, x1, x2, x3]))

theorem cell_fr {R S : Nat → Prop} {w w' : World} (hf : Fr S w w') (hS : ∀ k, R k → ¬ S k) {g o : Nat} {u : Value} (hR : R g) (h : w.cell? ⟨g, o, none⟩ = some u) : w'.cell? ⟨g, o, none⟩ = some u := by
  rw [← h]; exact hf.cell (World.block_lt_of_cell? w _ h) (hS g hR)

theorem Texts.fr {R S : Nat → Prop} {w w' : World} {l : List Txt} {v : Value} (h : Texts R w l v) (hf : Fr S w w') (hS : ∀ k, R k → ¬ S k) : Texts R w' l v := by
  obtain ⟨h1, h2, h3 | ⟨g, off, cap, hg, rfl, hle, hc⟩⟩ := h
  · exact ⟨h1, h2, .inl h3⟩
  · exact ⟨h1, h2, .inr ⟨g, off, cap, hg, rfl, hle, fun j s hj => cell_fr hf hS hg (hc j s hj)⟩⟩

theorem Texts.mono {R S : Nat → Prop} {w : World} {l : List Txt} {v : Value} (h : Texts R w l v) (hS : ∀ k, k < w.heap.size → R k → S k) : Texts S w l v := by
  obtain ⟨h1, h2, h3 | ⟨g, off, cap, hg, rfl, hle, hc⟩⟩ := h
  · exact ⟨h1, h2, .inl h3⟩
  · cases l with
    | nil => exact ⟨h1, h2, .inl ⟨rfl, _, _, rfl⟩⟩
    | cons x l => exact ⟨h1, h2, .inr ⟨g, off, cap, hS g (World.block_lt_of_cell? w _ (hc 0 x rfl)) hg, rfl, hle, hc⟩⟩

theorem Texts.seesL {R : Nat → Prop} {w : World} {l : List Txt} {v : Value} (h : Texts R w l v) : SeesL w v (l.map sv) := by
  obtain ⟨h1, h2, ⟨rfl, a, c, rfl⟩ | ⟨g, off, cap, hg, rfl, hle, hc⟩⟩ := h
  · exact .inl ⟨rfl, a, c, rfl⟩
  · refine .inr ⟨g, off, cap, by simp, by simpa using hle, fun j u hj => ?_⟩
    rw [List.getElem?_map] at hj
    cases hx : l[j]? with
    | none => rw [hx] at hj; cases hj
    | some x => rw [hx] at hj; cases hj; exact hc j x hx

theorem Shows.fr {R S : Nat → Prop} {w w' : World} (hf : Fr S w w') (hS : ∀ k, R k → ¬ S k) (t : KT) : ∀ v, Shows R w t v → Shows R w' t v := by
  induction t with
  | nil => exact fun _ h => h.elim
  | mk k m ns n of ih =>
    rintro v ⟨vn, vo, rfl, hk, hn, ht, ho⟩
    refine ⟨vn, vo, rfl, hk, hn, ht.fr hf hS, ?_⟩
    rcases ho with h | ⟨g, off, cap, hg, rfl, hle, hc⟩
    · exact .inl h
    · refine .inr ⟨g, off, cap, hg, rfl, hle, fun i hi => ?_⟩
      obtain ⟨x0, x1, x2, x3, c0, c1, c2, c3, hx⟩ := hc i hi
      exact ⟨x0, x1, x2, x3, cell_fr hf hS hg c0, cell_fr hf hS hg c1, cell_fr hf hS hg c2, cell_fr hf hS hg c3, ih i _ hx⟩

theorem Shows.mono {R S : Nat → Prop} {w : World} (hS : ∀ k, k < w.heap.size → R k → S k) (t : KT) : ∀ v, Shows R w t v → Shows S w t v := by
  induction t with
  | nil => exact fun _ h => h.elim
  | mk k m ns n of ih =>
    rintro v ⟨vn, vo, rfl, hk, hn, ht, ho⟩
    refine ⟨vn, vo, rfl, hk, hn, ht.mono hS, ?_⟩
    rcases ho with h | ⟨g, off, cap, hg, rfl, hle, hc⟩
    · exact .inl h
    · cases n with
      | zero => exact .inl ⟨rfl, _, _, rfl⟩
      | succ n =>
        refine .inr ⟨g, off, cap, ?_, rfl, hle, fun i hi => ?_⟩
        · obtain ⟨x0, x1, x2, x3, c0, _⟩ := hc 0 (by omega)
          exact hS g (World.block_lt_of_cell? w _ c0) hg
        · obtain ⟨x0, x1, x2, x3, c0, c1, c2, c3, hx⟩ := hc i hi
          exact ⟨x0, x1, x2, x3, c0, c1, c2, c3, ih i _ hx⟩

theorem Aliases.fr {R S : Nat → Prop} {w w' : World} {l : List (Txt × KT)} {v : Value} (h : Aliases R w l v) (hf : Fr S w w') (hS : ∀ k, R k → ¬ S k) : Aliases R w' l v := by
  obtain ⟨h1, h2, h3 | ⟨g, off, cap, hg, rfl, hle, hc⟩⟩ := h
  · exact ⟨h1, h2, .inl h3⟩
  · refine ⟨h1, h2, .inr ⟨g, off, cap, hg, rfl, hle, fun i x hi => ?_⟩⟩
    obtain ⟨x0, x1, x2, x3, c, c0, c1, c2, c3, hx⟩ := hc i x hi
    exact ⟨x0, x1, x2, x3, cell_fr hf hS hg c, cell_fr hf hS hg c0, cell_fr hf hS hg c1, cell_fr hf hS hg c2, cell_fr hf hS hg c3, Shows.fr hf hS _ _ hx⟩

theorem Aliases.mono {R S : Nat → Prop} {w : World} {l : List (Txt × KT)} {v : Value} (h : Aliases R w l v) (hS : ∀ k, k < w.heap.size → R k → S k) : Aliases S w l v := by
  obtain ⟨h1, h2, h3 | ⟨g, off, cap, hg, rfl, hle, hc⟩⟩ := h
  · exact ⟨h1, h2, .inl h3⟩
  · cases l with
    | nil => exact ⟨h1, h2, .inl ⟨rfl, _, _, rfl⟩⟩
    | cons x l =>
      refine ⟨h1, h2, .inr ⟨g, off, cap, ?_, rfl, hle, fun i y hi => ?_⟩⟩
      · obtain ⟨x0, x1, x2, x3, c, _⟩ := hc 0 x rfl
        exact hS g (World.block_lt_of_cell? w _ c) hg
      · obtain ⟨x0, x1, x2, x3, c, c0, c1, c2, c3, hx⟩ := hc i y hi
        exact ⟨x0, x1, x2, x3, c, c0, c1, c2, c3, Shows.mono hS _ _ hx⟩

/-- The shape of a slice of texts, of types, of aliases. -/
theorem Texts.shape {R : Nat → Prop} {w : World} {l : List Txt} {v : Value} (h : Texts R w l v) : ∃ a c, v = .slice a l.length c ∧ (l.length = 0 ∨ l.length ≤ c ∧ ∃ g off, R g ∧ a = some ⟨g, off, none⟩ ∧ ∀ j s, l[j]? = some s → w.cell? ⟨g, off + j, none⟩ = some (sv s)) := by
  obtain ⟨h1, h2, ⟨rfl, a, c, rfl⟩ | ⟨g, off, cap, hg, rfl, hle, hc⟩⟩ := h
  · exact ⟨a, c, rfl, .inl rfl⟩
  · exact ⟨_, cap, rfl, .inr ⟨hle, g, off, hg, rfl, hc⟩⟩

theorem Aliases.shape {R : Nat → Prop} {w : World} {l : List (Txt × KT)} {v : Value} (h : Aliases R w l v) : ∃ a c, v = .slice a l.length c ∧ (l.length = 0 ∨ l.length ≤ c ∧ ∃ g off, R g ∧ a = some ⟨g, off, none⟩ ∧ ∀ i x, l[i]? = some x → ∃ x0 x1 x2 x3,
    w.cell? ⟨g, off + i * 5, none⟩ = some (sv x.1) ∧ w.cell? ⟨g, off + i * 5 + 1, none⟩ = some x0 ∧ w.cell? ⟨g, off + i * 5 + 2, none⟩ = some x1 ∧ w.cell? ⟨g, off + i * 5 + 3, none⟩ = some x2 ∧ w.cell? ⟨g, off + i * 5 + 4, none⟩ = some x3 ∧
    Shows R w x.2 (.agg #[x0, x1, x2, x3])) := by
  obtain ⟨h1, h2, ⟨rfl, a, c, rfl⟩ | ⟨g, off, cap, hg, rfl, hle, hc⟩⟩ := h
  · exact ⟨a, c, rfl, .inl rfl⟩
  · exact ⟨_, cap, rfl, .inr ⟨hle, g, off, hg, rfl, hc⟩⟩

/-- The cells of a type's value. -/
theorem Shows.cells {R : Nat → Prop} {w : World} {t : KT} {x0 x1 x2 x3 : Value} (h : Shows R w t (.agg #[x0, x1, x2, x3])) :
    ∃ (k : Nat) (m : Int) (a : Option Addr) (n c : Nat) (a' : Option Addr) (n' c' : Nat), x0 = .int .u8 k ∧ x1 = .int .i64 m ∧ x2 = .slice a n c ∧ x3 = .slice a' n' c' := by
  cases t with
  | nil => exact h.elim
  | mk k m ns n of =>
    obtain ⟨vn, vo, e, _, _, ht, ho⟩ := h
    simp at e
    obtain ⟨rfl, rfl, rfl, rfl⟩ := e
    obtain ⟨a, c, rfl, _⟩ := ht.shape
    rcases ho with ⟨_, a', c', rfl⟩ | ⟨g, off, cap, _, rfl, _⟩
    · exact ⟨k, m, a, _, c, a', _, c', rfl, rfl, rfl, rfl⟩
    · exact ⟨k, m, a, _, c, _, _, cap, rfl, rfl, rfl, rfl⟩

theorem Shows.four {R : Nat → Prop} {w : World} {t : KT} {v : Value} (h : Shows R w t v) :
    ∃ (k : Nat) (m : Int) (a : Option Addr) (n c : Nat) (a' : Option Addr) (n' c' : Nat), v = .agg #[.int .u8 k, .int .i64 m, .slice a n c, .slice a' n' c'] := by
  obtain ⟨x0, x1, x2, x3, rfl⟩ : ∃ x0 x1 x2 x3, v = .agg #[x0, x1, x2, x3] := by
    cases t with
    | nil => exact h.elim
    | mk k m ns n of =>
      obtain ⟨vn, vo, e, _⟩ := h
      exact ⟨_, _, _, _, e⟩
  obtain ⟨k, m, a, n, c, a', n', c', rfl, rfl, rfl, rfl⟩ := h.cells
  exact ⟨k, m, a, n, c, a', n', c', rfl⟩

/-- The first aliases of some. -/
theorem Aliases.take {R : Nat → Prop} {w : World} {l : List (Txt × KT)} {a : Option Addr} {n c : Nat} (h : Aliases R w l (.slice a n c)) (i : Nat) (hi : i ≤ l.length) : Aliases R w (l.take i) (.slice a i c) := by
  obtain ⟨h1, h2, h3⟩ := h
  refine ⟨by rw [List.length_take]; omega, fun x hx => h2 x (List.mem_of_mem_take hx), ?_⟩
  rcases h3 with ⟨rfl, a', c', e⟩ | ⟨g, off, cap, hg, e, hle, hc⟩
  · cases e
    simp at hi
    subst hi
    exact .inl ⟨rfl, _, _, rfl⟩
  · cases e
    have e1 : (l.take i).length = i := by rw [List.length_take]; omega
    refine .inr ⟨g, off, _, hg, by rw [e1], by omega, fun j x hj => hc j x ?_⟩
    rw [List.getElem?_take] at hj
    split at hj
    · exact hj
    · cases hj

/-- A greatest length if, and only if, it needs one? -/
def sizedB (k : Nat) (m : Int) : Bool := if k = 4 ∨ k = 5 then decide (1 ≤ m ∧ m ≤ 60) else decide (m = 0)

/-- As many names and types as the kind asks for? -/
def formedB (k nn n : Nat) : Bool :=
  if k = 5 then decide (nn = 0 ∧ n = 1) else if k = 6 ∨ k = 8 then decide (n = nn) else if k = 7 then decide (n = 0) else if k = 9 then decide (nn = 1 ∧ n = 0) else decide (nn = 0 ∧ n = 0)

/-- The first error of names, behind those of bef. -/
def namesE (bef : List Txt) : List Txt → Nat
  | [] => 0
  | s :: r => if nameE bef s = 0 then namesE (bef ++ [s]) r else nameE bef s

def checkNamesE (ns : List Txt) : Nat := if ns.length < 1 ∨ 12 < ns.length then 7 else namesE [] ns

/-- The first error of n that are asked in order. -/
def firstE (f : Nat → Nat) : Nat → Nat
  | 0 => 0
  | n + 1 => if firstE f n = 0 then f n else firstE f n

theorem firstE_stop (f : Nat → Nat) (n k : Nat) (hk : k < n) (h0 : firstE f k = 0) (h : f k ≠ 0) : firstE f n = f k := by
  induction n with
  | zero => omega
  | succ n ih =>
    unfold firstE
    by_cases e : k = n
    · subst e; rw [if_pos h0]
    · have := ih (by omega)
      rw [if_neg (by rw [this]; exact h)]
      exact this

theorem firstE_step (f : Nat → Nat) (k : Nat) (h0 : firstE f k = 0) (h : f k = 0) : firstE f (k + 1) = 0 := by
  unfold firstE; rw [if_pos h0]; exact h

/-- The index of the alias for which a type of these names stands, or -1. -/
def standsN (known : List (Txt × KT)) (ns : List Txt) : Int := match ns with
  | [s] => firstAt (fun x => decide (x.1 = s)) known
  | _ => -1

/-- The first error of a type, where these aliases are known. -/
def rightE (known : List (Txt × KT)) : KT → Nat → Nat
  | .nil, _ => 0
  | .mk k m ns n of, lv =>
    if 10 ≤ k ∨ lv = 0 then 5
    else if !sizedB k m then 2
    else if !formedB k ns.length n then 4
    else
      let e := if k = 6 ∨ k = 7 ∨ k = 8 then checkNamesE ns else if k = 9 then (if standsN known ns < 0 then 10 else 0) else 0
      if e = 0 then firstE (fun i => rightE known (of i) (lv - 1)) n else e

end Go.Proofs.Ythokfmmbiilllaa

/-
  package kind: whether a type is right.
-/
namespace Go.Proofs.Ythokfmmbiilllaa
open Go.RowKit

theorem k10 {k : Nat} (h : k < 10) : k = 0 ∨ k = 1 ∨ k = 2 ∨ k = 3 ∨ k = 4 ∨ k = 5 ∨ k = 6 ∨ k = 7 ∨ k = 8 ∨ k = 9 := by omega

set_option maxHeartbeats 4000000 in
theorem sized_any (k : Nat) (m : Int) (hk : k < 10) (vn vo : Value) (w : World) :
    Calls Try.prog 63 #[.agg #[.int .u8 k, .int .i64 m, vn, vo]] w fun e w' => e = .returned (.bool (sizedB k m)) ∧ Fr (fun _ => False) w w' := by
  rcases k10 hk with rfl | rfl | rfl | rfl | rfl | rfl | rfl | rfl | rfl | rfl <;>
    (go_enter Try.func63, Try.ntmps63
     go_wp2
     all_goals go_ret
     all_goals refine ⟨ret_bool ?_, (Fr.refl _ _).alloc _⟩
     all_goals (rw [Bool.eq_iff_iff]; simp_all [sizedB]; try omega))

set_option maxHeartbeats 4000000 in
theorem formed_any (k nn n : Nat) (m : Int) (hk : k < 10) (a a' : Option Addr) (c c' : Nat) (w : World) :
    Calls Try.prog 64 #[.agg #[.int .u8 k, .int .i64 m, .slice a nn c, .slice a' n c']] w fun e w' => e = .returned (.bool (formedB k nn n)) ∧ Fr (fun _ => False) w w' := by
  rcases k10 hk with rfl | rfl | rfl | rfl | rfl | rfl | rfl | rfl | rfl | rfl <;>
    (go_enter Try.func64, Try.ntmps64
     go_wp2
     all_goals go_ret
     all_goals refine ⟨ret_bool ?_, (Fr.refl _ _).alloc _⟩
     all_goals (rw [Bool.eq_iff_iff]; simp_all [formedB]; try omega))

theorem namesE_step (bef : List Txt) (s : Txt) (r : List Txt) (h : nameE bef s = 0) : namesE bef (s :: r) = namesE (bef ++ [s]) r := by
  rw [namesE, if_pos h]

theorem namesE_stop (bef : List Txt) (s : Txt) (r : List Txt) (h : nameE bef s ≠ 0) : namesE bef (s :: r) = nameE bef s := by
  rw [namesE, if_neg h]

theorem ret_nat {a b : Nat} (h : a = b) : Ending.returned (.int .i64 (a : Int)) = .returned (.int .i64 (b : Int)) := by rw [h]

theorem nameE_small (l : List Txt) (s : Txt) : nameE l s = 0 ∨ nameE l s = 8 ∨ nameE l s = 9 := by
  unfold nameE; split
  · exact .inr (.inl rfl)
  · split
    · exact .inr (.inr rfl)
    · exact .inl rfl

set_option maxHeartbeats 4000000 in
theorem checkNames_any (R : Nat → Prop) (ns : List Txt) (v : Value) (w : World) (h : Texts R w ns v) :
    Calls Try.prog 65 #[v] w fun e w' => e = .returned (.int .i64 (checkNamesE ns)) ∧ Fr (fun _ => False) w w' := by
  have hl := Lib.hid h.1
  have hs := Lib.hid h.2.1
  obtain ⟨a, c, rfl, hc⟩ := h.shape
  have hl0 : ns.length ≤ 1000 := hl.out
  by_cases h1 : ns.length < 1
  · have h1' : (ns.length : Int) < 1 := by omega
    go_enter Try.func65, Try.ntmps65
    go_wp2
    go_ret
    exact ⟨ret_nat (a := 7) (by unfold checkNamesE; rw [if_pos (.inl h1)]), Fr.refl _ _⟩
  have h1' : ¬ (ns.length : Int) < 1 := by omega
  by_cases h2 : 12 < ns.length
  · have h2' : 12 < (ns.length : Int) := by omega
    go_enter Try.func65, Try.ntmps65
    go_wp2
    go_ret
    exact ⟨ret_nat (a := 7) (by unfold checkNamesE; rw [if_pos (.inr h2)]), Fr.refl _ _⟩
  have h2' : ¬ 12 < (ns.length : Int) := by omega
  have hce : checkNamesE ns = namesE [] ns := by unfold checkNamesE; rw [if_neg (by omega)]
  have HCE := Lib.hid hce
  clear hce
  rcases hc with hc | ⟨hcap, g, off, hg, rfl, hcell⟩
  · omega
  have Hcell := Lib.hid hcell
  have H := Lib.hid h
  clear hcell h
  go_enter Try.func65, Try.ntmps65
  go_wp2_with fail
  refine (naming_any _).mono ?_
  rintro e w1 ⟨rfl, f1, N1⟩
  unfold namer
  go_wp2
  go_loopg [5, 6, 18] ns.length (fun G u5 u6 u18 wr => ∃ k : Nat, k ≤ ns.length ∧ G = ns.length - k ∧ u18 = .int .i64 k ∧ Hid (Fr (fun _ => False) w wr ∧ Nm (fun k => k < w.heap.size) wr w.heap.size (ns.take k) ∧ namesE [] ns = namesE (ns.take k) (ns.drop k)))
  case atStart => exact ⟨0, Nat.zero_le _, rfl, by go_num, Lib.hid ⟨f1, N1, rfl⟩⟩
  case round =>
    obtain ⟨k, hk, rfl, rfl, HI⟩ := hrel
    by_cases hlt : k < ns.length
    · obtain ⟨d, hd⟩ : ∃ d, d = ns[k] := ⟨_, rfl⟩
      have hck0 := Hcell.out k d (by rw [List.getElem?_eq_getElem hlt, hd])
      have hck := cell_fr (R := fun k => k < w.heap.size) HI.out.1 (fun _ _ h => h) (World.block_lt_of_cell? w _ hck0) hck0
      unfold sv at hck
      clear hck0
      have hdl : d.length ≤ 1000 := hs.out d (by rw [hd]; exact List.getElem_mem hlt)
      have hdrop : ns.drop k = d :: ns.drop (k + 1) := by rw [hd]; exact List.drop_eq_getElem_cons hlt
      have htake : ns.take (k + 1) = ns.take k ++ [d] := by rw [hd]; exact List.take_succ_eq_append_getElem hlt
      have HT := Lib.hid htake
      have HD := Lib.hid hdrop
      clear hd hdrop htake
      have hnx := name_next (fun k => k < w.heap.size) w.heap.size (ns.take k) d wr HI.out.2.1 (fun k hk => Nat.lt_of_lt_of_le hk HI.out.1.size) (by rw [List.length_take]; omega) (by unfold maxLen; omega)
      unfold sv at hnx
      obtain ⟨E, hE⟩ : ∃ E, E = nameE (ns.take k) d := ⟨_, rfl⟩
      rw [← hE] at hnx
      have HE := Lib.hid hE
      clear hE
      by_cases he : E = 0
      · subst he
        go_wp2_with fail
        refine hnx.mono ?_
        rintro e w2 ⟨rfl, f2, N2⟩
        have N2 := Lib.hid (N2 (by first | trivial | rfl))
        have f2 := Lib.hid f2
        go_wp2
        go_roundg (ns.length - (k + 1))
        case measure => omega
        case rel => exact ⟨k + 1, by omega, rfl, by go_num, Lib.hid ⟨HI.out.1.trans f2.out (fun i hi hn => hn hi), by rw [HT.out]; exact N2.out, by rw [HI.out.2.2, HD.out, HT.out, namesE_step _ _ _ HE.out.symm]⟩⟩
      · have he' : ¬ (E : Int) = 0 := by omega
        go_wp2_with fail
        refine hnx.mono ?_
        rintro e w2 ⟨rfl, f2, _⟩
        have f2 := Lib.hid f2
        go_wp2
        go_ret
        refine ⟨ret_nat ?_, HI.out.1.trans f2.out (fun i hi hn => hn hi)⟩
        rw [HCE.out, HI.out.2.2, HD.out, namesE_stop _ _ _ (by rw [← HE.out]; exact he)]
        exact HE.out
    · obtain rfl : k = ns.length := by omega
      go_wp2
      go_ret
      refine ⟨ret_nat (a := 0) ?_, HI.out.1⟩
      rw [HCE.out, HI.out.2.2, List.drop_length]
      rfl

end Go.Proofs.Ythokfmmbiilllaa

/-
  package kind: which alias a reference stands for.
-/
namespace Go.Proofs.Ythokfmmbiilllaa
open Go.RowKit

/-- The index of the alias for which a type stands, or -1. -/
def standsE (known : List (Txt × KT)) : KT → Int
  | .nil => -1
  | .mk _ _ ns _ _ => standsN known ns

theorem cell_of_four {w : World} {b : Nat} {x0 x1 x2 x3 : Value} {t : TypeId} (h : w.heap[b]? = some (.cells #[x0, x1, x2, x3] t (0, 0))) :
    w.cell? ⟨b, 0, none⟩ = some x0 ∧ w.cell? ⟨b, 1, none⟩ = some x1 ∧ w.cell? ⟨b, 2, none⟩ = some x2 ∧ w.cell? ⟨b, 3, none⟩ = some x3 := by
  simp [World.cell?, h]

theorem Fr.drewN {S : Nat → Prop} {a b : World} (h : Fr S a b) (n : Nat) : Fr S a (b.drewN n) := ⟨h.os, h.tape, h.output, h.size, h.block⟩

set_option maxHeartbeats 4000000 in
theorem stands_fn (b : Nat) (x0 x1 x3 y0 y1 y2 y3 : Value) (c g off : Nat) (s d : Txt) (w : World) (hb : w.heap[b]? = some (.cells #[x0, x1, .slice (some ⟨g, off, none⟩) 1 c, x3] 32 (0, 0))) (hc : w.cell? ⟨g, off, none⟩ = some (sv s)) :
    Calls Try.prog 71 #[.agg #[sv d, y0, y1, y2, y3], .pointer (some ⟨b, 0, none⟩)] w fun e w' => e = .returned (.bool (decide (d = s))) ∧ Fr (fun _ => False) w w' := by
  obtain ⟨_, _, c2, _⟩ := cell_of_four hb
  have hlt := lt_of_block hb
  have hlg := World.block_lt_of_cell? w _ hc
  have hlg' : g < w.heap.size := hlg
  have n1 : b ≠ w.heap.size := by omega
  have n2 : g ≠ w.heap.size := by omega
  clear hb
  unfold sv at *
  have hbs : (d == s) = decide (d = s) := by by_cases h : d = s <;> simp [h]
  go_enter Try.func71, Try.ntmps71
  go_wp2
  go_quiet (fail)
  go_wp2
  go_ret
  exact ⟨rfl, ((Fr.refl _ _).alloc _).drewN _⟩

set_option maxHeartbeats 4000000 in
theorem index_alias (R : Nat → Prop) (l : List (Txt × KT)) (v : Value) (b : Nat) (x0 x1 x3 : Value) (c g off : Nat) (s : Txt) (w : World) (h : Aliases R w l v) (hb : w.heap[b]? = some (.cells #[x0, x1, .slice (some ⟨g, off, none⟩) 1 c, x3] 32 (0, 0))) (hc : w.cell? ⟨g, off, none⟩ = some (sv s)) :
    Calls Try.prog 70 #[v, .func (.func 71) #[] #[.pointer (some ⟨b, 0, none⟩)]] w fun e w' => e = .returned (.int .i64 (firstAt (fun x => decide (x.1 = s)) l)) ∧ Fr (fun _ => False) w w' := by
  have hl0 : l.length ≤ 1000 := h.1
  obtain ⟨a, cap, rfl, hs⟩ := h.shape
  have Hs := Lib.hid hs
  have Hb := Lib.hid hb
  have Hc := Lib.hid hc
  clear hs h hb hc
  go_enter Try.func70, Try.ntmps70
  go_wp2
  go_loopg [5, 8] l.length (fun G u5 u8 wr => ∃ k : Nat, k ≤ l.length ∧ G = l.length - k ∧ u8 = .int .i64 k ∧ Hid ((∀ j, (hj : j < l.length) → j < k → l[j].1 ≠ s) ∧ Fr (fun _ => False) w wr))
  case atStart => exact ⟨0, Nat.zero_le _, rfl, by go_num, Lib.hid ⟨fun j _ hj => by omega, Fr.refl _ _⟩⟩
  case round =>
    obtain ⟨k, hk, rfl, rfl, HI⟩ := hrel
    by_cases hlt : k < l.length
    · rcases Hs.out with hz | ⟨hcap, ga, oa, hg, rfl, hcell⟩
      · omega
      obtain ⟨d, hd⟩ : ∃ d, d = l[k] := ⟨_, rfl⟩
      obtain ⟨y0, y1, y2, y3, q, q0, q1, q2, q3, _⟩ := hcell k d (by rw [List.getElem?_eq_getElem hlt, hd])
      have up : ∀ {o : Nat} {u : Value}, w.cell? ⟨ga, o, none⟩ = some u → wr.cell? ⟨ga, o, none⟩ = some u := fun {o u} hq => cell_fr (R := fun _ => True) HI.out.2 (fun _ _ h => h) trivial hq
      have q' := up q
      have q0' := up q0
      have q1' := up q1
      have q2' := up q2
      have q3' := up q3
      clear up q q0 q1 q2 q3 hcell
      have hbr : wr.heap[b]? = some (.cells #[x0, x1, .slice (some ⟨g, off, none⟩) 1 c, x3] 32 (0, 0)) := by
        rw [HI.out.2.block b (lt_of_block Hb.out) (fun h => h)]; exact Hb.out
      have hcr : wr.cell? ⟨g, off, none⟩ = some (sv s) := cell_fr (R := fun _ => True) HI.out.2 (fun _ _ h => h) trivial Hc.out
      have hfn := stands_fn b x0 x1 x3 y0 y1 y2 y3 c g off s d.1 wr hbr hcr
      have Hd := Lib.hid hd
      clear hd hbr hcr
      unfold sv at *
      by_cases he : d.1 = s
      · have hb1 : decide (d.1 = s) = true := by simpa using he
        rw [hb1] at hfn
        have He := Lib.hid he
        clear he hb1
        go_wp2_with fail
        refine hfn.mono ?_
        rintro e w1 ⟨rfl, f1⟩
        have f1 := Lib.hid f1
        go_wp2
        go_ret
        refine ⟨ret_int ?_, HI.out.2.trans f1.out (fun _ _ h => h)⟩
        exact (firstAt_found _ l k hlt (fun j hj hjk => by simpa using HI.out.1 j hj hjk) (by rw [← Hd.out]; simpa using He.out)).symm
      · have hb1 : decide (d.1 = s) = false := by simpa using he
        rw [hb1] at hfn
        have He := Lib.hid he
        clear he hb1
        go_wp2_with fail
        refine hfn.mono ?_
        rintro e w1 ⟨rfl, f1⟩
        have f1 := Lib.hid f1
        go_wp2
        go_roundg (l.length - (k + 1))
        case measure => omega
        case rel => exact ⟨k + 1, by omega, rfl, by go_num, Lib.hid ⟨fun j hj' hj => by
          by_cases h : j < k
          · exact HI.out.1 j hj' h
          · obtain rfl : j = k := by omega
            rw [← Hd.out]; exact He.out, HI.out.2.trans f1.out (fun _ _ h => h)⟩⟩
    · obtain rfl : k = l.length := by omega
      go_wp2
      go_ret
      refine ⟨ret_int ?_, HI.out.2⟩
      exact (firstAt_none _ l (fun j hj => by simpa using HI.out.1 j hj hj)).symm

set_option maxHeartbeats 4000000 in
theorem stands_any (R : Nat → Prop) (known : List (Txt × KT)) (t : KT) (v kv : Value) (w : World) (h : Shows R w t v) (hk : Aliases R w known kv) :
    Calls Try.prog 66 #[v, kv] w fun e w' => e = .returned (.int .i64 (standsE known t)) ∧ Fr (fun _ => False) w w' := by
  cases t with
  | nil => exact h.elim
  | mk k m ns n of =>
  obtain ⟨vn, vo, rfl, _, _, ht, _⟩ := h
  have hl0 : ns.length ≤ 1000 := ht.1
  obtain ⟨a, cap, rfl, hs⟩ := ht.shape
  have Hs := Lib.hid hs
  have Hk := Lib.hid hk
  clear hs hk ht
  by_cases h1 : ns.length = 1
  · obtain ⟨s, rfl⟩ : ∃ s, ns = [s] := List.length_eq_one_iff.1 h1
    rcases Hs.out with hz | ⟨hcap, g, off, hg, rfl, hcell⟩
    · simp at hz
    have hc := hcell 0 s rfl
    rw [Nat.add_zero] at hc
    clear hcell
    have Hc := Lib.hid hc
    clear hc
    have hlg : g < w.heap.size := World.block_lt_of_cell? w _ Hc.out
    have e1 : standsE known (.mk k m [s] n of) = firstAt (fun x => decide (x.1 = s)) known := rfl
    have E1 := Lib.hid e1
    clear e1
    go_enter Try.func66, Try.ntmps66
    go_wp2_with fail
    have f0 : Fr (fun _ => False) w (w.alloc (.cells #[.int .u8 k, .int .i64 m, .slice (some ⟨g, off, none⟩) 1 cap, vo] 32)) := (Fr.refl _ _).alloc _
    refine (index_alias R known kv w.heap.size _ _ _ cap g off s _ (Hk.out.fr f0 (fun _ _ h => h)) (heap_alloc_new w _) (cell_fr (R := fun _ => True) f0 (fun _ _ h => h) trivial Hc.out)).mono ?_
    rintro e w1 ⟨rfl, f1⟩
    have f1 := Lib.hid f1
    have f0 := Lib.hid f0
    go_wp2
    go_ret
    exact ⟨by rw [E1.out]; rfl, f0.out.trans f1.out (fun _ _ h => h)⟩
  · have e1 : standsE known (.mk k m ns n of) = -1 := by
      match ns, h1 with
      | [], _ => rfl
      | [s], h => exact absurd rfl h
      | _ :: _ :: _, _ => rfl
    have E1 := Lib.hid e1
    clear e1
    have h1' : ¬ (ns.length : Int) = 1 := by omega
    go_enter Try.func66, Try.ntmps66
    go_wp2
    go_ret
    exact ⟨by rw [E1.out]; rfl, (Fr.refl _ _).alloc _⟩

end Go.Proofs.Ythokfmmbiilllaa

/-
  package kind: whether a type is right, from the outermost type on.
-/
namespace Go.Proofs.Ythokfmmbiilllaa
open Go.RowKit

theorem alloc_four (w : World) (x0 x1 x2 x3 : Value) (t : TypeId) : (w.alloc (.cells #[x0, x1, x2, x3] t)).heap[w.heap.size]? = some (.cells #[x0, x1, x2, x3] t (0, 0)) := heap_alloc_new w _

theorem box_kept {S : Nat → Prop} {w0 w1 : World} {b : Nat} {o : Obj} (h : w0.heap[b]? = some o) (f : Fr S w0 w1) (hb : ¬ S b) : w1.heap[b]? = some o := by
  rw [f.block b (lt_of_block h) hb]; exact h

theorem rightE_kind (known : List (Txt × KT)) (k : Nat) (m : Int) (ns : List Txt) (n : Nat) (of : Nat → KT) (lv : Nat) (h : 10 ≤ k ∨ lv = 0) : rightE known (.mk k m ns n of) lv = 5 := by
  unfold rightE; rw [if_pos h]

theorem rightE_size (known : List (Txt × KT)) (k : Nat) (m : Int) (ns : List Txt) (n : Nat) (of : Nat → KT) (lv : Nat) (h : ¬ (10 ≤ k ∨ lv = 0)) (h1 : sizedB k m = false) : rightE known (.mk k m ns n of) lv = 2 := by
  unfold rightE; rw [if_neg h, h1]; rfl

theorem rightE_form (known : List (Txt × KT)) (k : Nat) (m : Int) (ns : List Txt) (n : Nat) (of : Nat → KT) (lv : Nat) (h : ¬ (10 ≤ k ∨ lv = 0)) (h1 : sizedB k m = true) (h2 : formedB k ns.length n = false) : rightE known (.mk k m ns n of) lv = 4 := by
  unfold rightE; rw [if_neg h, h1, h2]; rfl

/-- The error of a type's own names. -/
def ownE (known : List (Txt × KT)) (k : Nat) (ns : List Txt) : Nat := if k = 6 ∨ k = 7 ∨ k = 8 then checkNamesE ns else if k = 9 then (if standsN known ns < 0 then 10 else 0) else 0

theorem rightE_own (known : List (Txt × KT)) (k : Nat) (m : Int) (ns : List Txt) (n : Nat) (of : Nat → KT) (lv : Nat) (h : ¬ (10 ≤ k ∨ lv = 0)) (h1 : sizedB k m = true) (h2 : formedB k ns.length n = true) : rightE known (.mk k m ns n of) lv = if ownE known k ns = 0 then firstE (fun i => rightE known (of i) (lv - 1)) n else ownE known k ns := by
  rw [rightE, if_neg h, h1, h2]; rfl

set_option maxRecDepth 100000 in
set_option maxHeartbeats 16000000 in
theorem right_any (known : List (Txt × KT)) (t : KT) : ∀ (R : Nat → Prop) (v kv : Value) (w : World) (lv : Nat) (lz : Int), lz = lv → lv ≤ 100 → Shows R w t v → Aliases R w known kv →
    Calls Try.prog 56 #[v, kv, .int .i64 lz] w fun e w' => e = .returned (.int .i64 (rightE known t lv)) ∧ Fr (fun _ => False) w w' := by
  induction t with
  | nil => exact fun _ _ _ _ _ _ _ _ h => h.elim
  | mk k m ns n of ih =>
  intro R v kv w lv lz hlz hlv hsh hka
  have hsh0 := Lib.hid hsh
  obtain ⟨vn, vo, rfl, hk255, hn, ht, ho⟩ := hsh
  have hl0 : ns.length ≤ 1000 := ht.1
  have Ht := Lib.hid ht
  obtain ⟨a, cap, rfl, hs⟩ := ht.shape
  obtain ⟨a', cap', rfl, hso⟩ : ∃ a' cap', vo = .slice a' n cap' ∧ (n = 0 ∨ n ≤ cap' ∧ ∃ g off, R g ∧ a' = some ⟨g, off, none⟩ ∧ ∀ i, i < n → ∃ x0 x1 x2 x3,
      w.cell? ⟨g, off + i * 4, none⟩ = some x0 ∧ w.cell? ⟨g, off + i * 4 + 1, none⟩ = some x1 ∧ w.cell? ⟨g, off + i * 4 + 2, none⟩ = some x2 ∧ w.cell? ⟨g, off + i * 4 + 3, none⟩ = some x3 ∧
      Shows R w (of i) (.agg #[x0, x1, x2, x3])) := by
    rcases ho with ⟨rfl, a', c', rfl⟩ | ⟨g, off, cap', hg, rfl, hle, hc⟩
    · exact ⟨a', c', rfl, .inl rfl⟩
    · exact ⟨_, cap', rfl, .inr ⟨hle, g, off, hg, rfl, hc⟩⟩
  have Hso := Lib.hid hso
  have Hka := Lib.hid hka
  clear ho hs ht hso hka
  by_cases h10 : 10 ≤ k
  · have h10' : (10 : Int) ≤ (k : Int) := by omega
    have e1 := Lib.hid (rightE_kind known k m ns n of lv (.inl h10))
    have hlz := Lib.hid hlz
    go_enter Try.func56, Try.ntmps56
    go_wp2
    go_ret
    exact ⟨by rw [e1.out]; rfl, (Fr.refl _ _).alloc _⟩
  have h10' : ¬ (10 : Int) ≤ (k : Int) := by omega
  have hk10 : k < 10 := by omega
  by_cases hl : lv = 0
  · have e1 := Lib.hid (rightE_kind known k m ns n of lv (.inr hl))
    obtain rfl : lz = 0 := by omega
    clear hlz hl
    go_enter Try.func56, Try.ntmps56
    go_wp2
    go_ret
    exact ⟨by rw [e1.out]; rfl, (Fr.refl _ _).alloc _⟩
  have hl' : (lz == 0) = false := by simp; omega
  have hz0 : 1 ≤ lz := by omega
  have hz1 : lz ≤ 100 := by omega
  have hdom : ¬ (10 ≤ k ∨ lv = 0) := by omega
  have Hdom := Lib.hid hdom
  have Hlz := Lib.hid hlz
  clear hlz hl hdom
  have hq := alloc_four w (.int .u8 k) (.int .i64 m) (.slice a ns.length cap) (.slice a' n cap') 32
  obtain ⟨c0, c1, c2, c3⟩ := cell_of_four hq
  have Hq := Lib.hid hq
  have hsz := sized_any k m hk10 (.slice a ns.length cap) (.slice a' n cap') (w.alloc (.cells #[.int .u8 k, .int .i64 m, .slice a ns.length cap, .slice a' n cap'] 32))
  clear hq
  have f0 : Hid (Fr (fun _ => False) w (w.alloc (.cells #[.int .u8 k, .int .i64 m, .slice a ns.length cap, .slice a' n cap'] 32))) := Lib.hid ((Fr.refl _ _).alloc _)
  by_cases hB : sizedB k m = true
  case neg =>
    have hB' : sizedB k m = false := eq_false_of_ne_true hB
    have e1 := Lib.hid (rightE_size known k m ns n of lv Hdom.out hB')
    rw [hB'] at hsz
    clear hB hB'
    go_enter Try.func56, Try.ntmps56
    go_wp2_with fail
    refine hsz.mono ?_
    rintro e w1 ⟨rfl, f1⟩
    have f1 := Lib.hid f1
    go_wp2
    go_ret
    exact ⟨by rw [e1.out]; rfl, f0.out.trans f1.out (fun _ _ h => h)⟩
  rw [hB] at hsz
  have HB := Lib.hid hB
  clear hB
  by_cases hF : formedB k ns.length n = true
  case neg =>
    have hF' : formedB k ns.length n = false := eq_false_of_ne_true hF
    have e1 := Lib.hid (rightE_form known k m ns n of lv Hdom.out HB.out hF')
    have HF := Lib.hid hF'
    clear hF hF'
    go_enter Try.func56, Try.ntmps56
    go_wp2_with fail
    refine hsz.mono ?_
    rintro e w1 ⟨rfl, f1⟩
    have q1 := box_kept Hq.out f1 (fun h => h)
    obtain ⟨d0, d1, d2, d3⟩ := cell_of_four q1
    have f1 := Lib.hid f1
    have q1 := Lib.hid q1
    go_wp2_with fail
    refine (formed_any k ns.length n m hk10 a a' cap cap' w1).mono ?_
    rintro e w2 ⟨rfl, f2⟩
    rw [HF.out]
    have f2 := Lib.hid f2
    go_wp2
    go_ret
    exact ⟨by rw [e1.out]; rfl, (f0.out.trans f1.out (fun _ _ h => h)).trans f2.out (fun _ _ h => h)⟩
  have eown := Lib.hid (rightE_own known k m ns n of lv Hdom.out HB.out hF)
  have HF := Lib.hid hF
  clear hF
  have hcases : k < 6 ∨ k = 6 ∨ k = 7 ∨ k = 8 ∨ k = 9 := by omega
  rcases hcases with hk6 | rfl | rfl | rfl | rfl
  · have i6 : ((k : Int) == 6) = false := by simp; omega
    have i7 : ((k : Int) == 7) = false := by simp; omega
    have i8 : ((k : Int) == 8) = false := by simp; omega
    have i9 : ((k : Int) == 9) = false := by simp; omega
    have HO : Hid (ownE known k ns = 0) := Lib.hid (by unfold ownE; rw [if_neg (by omega), if_neg (by omega)])
    go_enter Try.func56, Try.ntmps56
    go_wp2_with fail
    refine hsz.mono ?_
    rintro e w1 ⟨rfl, f1⟩
    have q1 := box_kept Hq.out f1 (fun h => h)
    obtain ⟨d0, d1, d2, d3⟩ := cell_of_four q1
    have f1 := Lib.hid f1
    have q1 := Lib.hid q1
    go_wp2_with fail
    refine (formed_any k ns.length n m (by omega) a a' cap cap' w1).mono ?_
    rintro e w2 ⟨rfl, f2⟩
    rw [HF.out]
    have q2 := box_kept q1.out f2 (fun h => h)
    obtain ⟨b0, b1, b2, b3⟩ := cell_of_four q2
    have f2 := Lib.hid f2
    have q2 := Lib.hid q2
    clear c0 c1 c2 c3 d0 d1 d2 d3
    have g3 : Hid (Fr (fun _ => False) w w2) := Lib.hid ((f0.out.trans f1.out (fun _ _ h => h)).trans f2.out (fun _ _ h => h))
    go_wp2_with fail
    go_loopg [9, 10, 48] n (fun G u9 u10 u48 wr => ∃ j : Nat, j ≤ n ∧ G = n - j ∧ u48 = .int .i64 j ∧ Hid (Fr (fun _ => False) w wr ∧ firstE (fun i => rightE known (of i) (lv - 1)) j = 0))
    case atStart => exact ⟨0, Nat.zero_le _, rfl, by go_num, Lib.hid ⟨g3.out, rfl⟩⟩
    case round =>
      obtain ⟨j, hj, rfl, rfl, HI⟩ := hrel
      by_cases hlt : j < n
      · rcases Hso.out with hz | ⟨hcap, g, off, hg, rfl, hcell⟩
        · omega
        obtain ⟨x0, x1, x2, x3, y0, y1, y2, y3, hx⟩ := hcell j hlt
        have y0 := cell_fr (R := fun _ => True) HI.out.1 (fun _ _ h => h) trivial y0
        have y1 := cell_fr (R := fun _ => True) HI.out.1 (fun _ _ h => h) trivial y1
        have y2 := cell_fr (R := fun _ => True) HI.out.1 (fun _ _ h => h) trivial y2
        have y3 := cell_fr (R := fun _ => True) HI.out.1 (fun _ _ h => h) trivial y3
        obtain ⟨pk, pm, pa, pn, pc, pa', pn', pc', rfl, rfl, rfl, rfl⟩ := hx.cells
        clear hcell
        have fx : Hid (Fr (fun _ => False) wr (wr.alloc (.cells #[.int .u8 pk, .int .i64 pm, .slice pa pn pc, .slice pa' pn' pc'] 32))) := Lib.hid ((Fr.refl _ _).alloc _)
        have hrec := ih j R (.agg #[.int .u8 pk, .int .i64 pm, .slice pa pn pc, .slice pa' pn' pc']) kv (wr.alloc (.cells #[.int .u8 pk, .int .i64 pm, .slice pa pn pc, .slice pa' pn' pc'] 32)) (lv - 1) (lz - 1) (by have := Hlz.out; omega) (by omega) (Shows.fr (HI.out.1.trans fx.out (fun _ _ h => h)) (fun _ _ h => h) _ _ hx) (Hka.out.fr (HI.out.1.trans fx.out (fun _ _ h => h)) (fun _ _ h => h))
        clear hx
        obtain ⟨E, hE⟩ : ∃ E, E = rightE known (of j) (lv - 1) := ⟨_, rfl⟩
        rw [← hE] at hrec
        have HE := Lib.hid hE
        clear hE
        by_cases he : E = 0
        · subst he
          go_wp2_with fail
          refine hrec.mono ?_
          rintro e w5 ⟨rfl, f5⟩
          have f5 := Lib.hid f5
          go_wp2
          go_roundg (n - (j + 1))
          case measure => omega
          case rel => exact ⟨j + 1, by omega, rfl, by go_num, Lib.hid ⟨(HI.out.1.trans fx.out (fun _ _ h => h)).trans f5.out (fun _ _ h => h), firstE_step _ _ HI.out.2 HE.out.symm⟩⟩
        · have he' : ¬ (E : Int) = 0 := by omega
          go_wp2_with fail
          refine hrec.mono ?_
          rintro e w5 ⟨rfl, f5⟩
          have f5 := Lib.hid f5
          go_wp2
          go_ret
          refine ⟨ret_nat ?_, (HI.out.1.trans fx.out (fun _ _ h => h)).trans f5.out (fun _ _ h => h)⟩
          rw [eown.out, if_pos HO.out, HE.out]
          exact (firstE_stop (fun i => rightE known (of i) (lv - 1)) n j hlt HI.out.2 (by rw [← HE.out]; exact he)).symm
      · obtain rfl : j = n := by omega
        go_wp2
        go_ret
        refine ⟨ret_nat (a := 0) ?_, HI.out.1⟩
        rw [eown.out, if_pos HO.out]
        exact HI.out.2.symm
  · have hown : ownE known 6 ns = checkNamesE ns := by unfold ownE; rw [if_pos (by omega)]
    have Hown := Lib.hid hown
    clear hown
    go_enter Try.func56, Try.ntmps56
    go_wp2_with fail
    refine hsz.mono ?_
    rintro e w1 ⟨rfl, f1⟩
    have q1 := box_kept Hq.out f1 (fun h => h)
    obtain ⟨d0, d1, d2, d3⟩ := cell_of_four q1
    have f1 := Lib.hid f1
    have q1 := Lib.hid q1
    go_wp2_with fail
    refine (formed_any 6 ns.length n m (by omega) a a' cap cap' w1).mono ?_
    rintro e w2 ⟨rfl, f2⟩
    rw [HF.out]
    have q2 := box_kept q1.out f2 (fun h => h)
    obtain ⟨b0, b1, b2, b3⟩ := cell_of_four q2
    have f2 := Lib.hid f2
    have q2 := Lib.hid q2
    clear c0 c1 c2 c3 d0 d1 d2 d3
    have hcn := checkNames_any R ns _ w2 (Ht.out.fr ((f0.out.trans f1.out (fun _ _ h => h)).trans f2.out (fun _ _ h => h)) (fun _ _ h => h))
    obtain ⟨E, hE⟩ : ∃ E, E = checkNamesE ns := ⟨_, rfl⟩
    rw [← hE] at hcn
    have HE := Lib.hid hE
    clear hE
    by_cases he : E = 0
    · subst he
      have HO : Hid (ownE known 6 ns = 0) := Lib.hid (Hown.out.trans HE.out.symm)
      go_wp2_with fail
      refine hcn.mono ?_
      rintro e w3 ⟨rfl, f3⟩
      have q3 := box_kept q2.out f3 (fun h => h)
      obtain ⟨a0, a1, a2, a3⟩ := cell_of_four q3
      have f3 := Lib.hid f3
      have q3 := Lib.hid q3
      clear b0 b1 b2 b3
      have g3 : Hid (Fr (fun _ => False) w w3) := Lib.hid (((f0.out.trans f1.out (fun _ _ h => h)).trans f2.out (fun _ _ h => h)).trans f3.out (fun _ _ h => h))
      go_wp2_with fail
      go_loopg [9, 10, 48] n (fun G u9 u10 u48 wr => ∃ j : Nat, j ≤ n ∧ G = n - j ∧ u48 = .int .i64 j ∧ Hid (Fr (fun _ => False) w wr ∧ firstE (fun i => rightE known (of i) (lv - 1)) j = 0))
      case atStart => exact ⟨0, Nat.zero_le _, rfl, by go_num, Lib.hid ⟨g3.out, rfl⟩⟩
      case round =>
        obtain ⟨j, hj, rfl, rfl, HI⟩ := hrel
        by_cases hlt : j < n
        · rcases Hso.out with hz | ⟨hcap, g, off, hg, rfl, hcell⟩
          · omega
          obtain ⟨x0, x1, x2, x3, y0, y1, y2, y3, hx⟩ := hcell j hlt
          have y0 := cell_fr (R := fun _ => True) HI.out.1 (fun _ _ h => h) trivial y0
          have y1 := cell_fr (R := fun _ => True) HI.out.1 (fun _ _ h => h) trivial y1
          have y2 := cell_fr (R := fun _ => True) HI.out.1 (fun _ _ h => h) trivial y2
          have y3 := cell_fr (R := fun _ => True) HI.out.1 (fun _ _ h => h) trivial y3
          obtain ⟨pk, pm, pa, pn, pc, pa', pn', pc', rfl, rfl, rfl, rfl⟩ := hx.cells
          clear hcell
          have fx : Hid (Fr (fun _ => False) wr (wr.alloc (.cells #[.int .u8 pk, .int .i64 pm, .slice pa pn pc, .slice pa' pn' pc'] 32))) := Lib.hid ((Fr.refl _ _).alloc _)
          have hrec := ih j R (.agg #[.int .u8 pk, .int .i64 pm, .slice pa pn pc, .slice pa' pn' pc']) kv (wr.alloc (.cells #[.int .u8 pk, .int .i64 pm, .slice pa pn pc, .slice pa' pn' pc'] 32)) (lv - 1) (lz - 1) (by have := Hlz.out; omega) (by omega) (Shows.fr (HI.out.1.trans fx.out (fun _ _ h => h)) (fun _ _ h => h) _ _ hx) (Hka.out.fr (HI.out.1.trans fx.out (fun _ _ h => h)) (fun _ _ h => h))
          clear hx
          obtain ⟨E, hE⟩ : ∃ E, E = rightE known (of j) (lv - 1) := ⟨_, rfl⟩
          rw [← hE] at hrec
          have HE := Lib.hid hE
          clear hE
          by_cases he : E = 0
          · subst he
            go_wp2_with fail
            refine hrec.mono ?_
            rintro e w5 ⟨rfl, f5⟩
            have f5 := Lib.hid f5
            go_wp2
            go_roundg (n - (j + 1))
            case measure => omega
            case rel => exact ⟨j + 1, by omega, rfl, by go_num, Lib.hid ⟨(HI.out.1.trans fx.out (fun _ _ h => h)).trans f5.out (fun _ _ h => h), firstE_step _ _ HI.out.2 HE.out.symm⟩⟩
          · have he' : ¬ (E : Int) = 0 := by omega
            go_wp2_with fail
            refine hrec.mono ?_
            rintro e w5 ⟨rfl, f5⟩
            have f5 := Lib.hid f5
            go_wp2
            go_ret
            refine ⟨ret_nat ?_, (HI.out.1.trans fx.out (fun _ _ h => h)).trans f5.out (fun _ _ h => h)⟩
            rw [eown.out, if_pos HO.out, HE.out]
            exact (firstE_stop (fun i => rightE known (of i) (lv - 1)) n j hlt HI.out.2 (by rw [← HE.out]; exact he)).symm
        · obtain rfl : j = n := by omega
          go_wp2
          go_ret
          refine ⟨ret_nat (a := 0) ?_, HI.out.1⟩
          rw [eown.out, if_pos HO.out]
          exact HI.out.2.symm
    · have he' : ¬ (E : Int) = 0 := by omega
      go_wp2_with fail
      refine hcn.mono ?_
      rintro e w3 ⟨rfl, f3⟩
      have f3 := Lib.hid f3
      go_wp2
      go_ret
      refine ⟨ret_nat ?_, ((f0.out.trans f1.out (fun _ _ h => h)).trans f2.out (fun _ _ h => h)).trans f3.out (fun _ _ h => h)⟩
      rw [eown.out, Hown.out, ← HE.out, if_neg he]
  · have hown : ownE known 7 ns = checkNamesE ns := by unfold ownE; rw [if_pos (by omega)]
    have Hown := Lib.hid hown
    clear hown
    go_enter Try.func56, Try.ntmps56
    go_wp2_with fail
    refine hsz.mono ?_
    rintro e w1 ⟨rfl, f1⟩
    have q1 := box_kept Hq.out f1 (fun h => h)
    obtain ⟨d0, d1, d2, d3⟩ := cell_of_four q1
    have f1 := Lib.hid f1
    have q1 := Lib.hid q1
    go_wp2_with fail
    refine (formed_any 7 ns.length n m (by omega) a a' cap cap' w1).mono ?_
    rintro e w2 ⟨rfl, f2⟩
    rw [HF.out]
    have q2 := box_kept q1.out f2 (fun h => h)
    obtain ⟨b0, b1, b2, b3⟩ := cell_of_four q2
    have f2 := Lib.hid f2
    have q2 := Lib.hid q2
    clear c0 c1 c2 c3 d0 d1 d2 d3
    have hcn := checkNames_any R ns _ w2 (Ht.out.fr ((f0.out.trans f1.out (fun _ _ h => h)).trans f2.out (fun _ _ h => h)) (fun _ _ h => h))
    obtain ⟨E, hE⟩ : ∃ E, E = checkNamesE ns := ⟨_, rfl⟩
    rw [← hE] at hcn
    have HE := Lib.hid hE
    clear hE
    by_cases he : E = 0
    · subst he
      have HO : Hid (ownE known 7 ns = 0) := Lib.hid (Hown.out.trans HE.out.symm)
      go_wp2_with fail
      refine hcn.mono ?_
      rintro e w3 ⟨rfl, f3⟩
      have q3 := box_kept q2.out f3 (fun h => h)
      obtain ⟨a0, a1, a2, a3⟩ := cell_of_four q3
      have f3 := Lib.hid f3
      have q3 := Lib.hid q3
      clear b0 b1 b2 b3
      have g3 : Hid (Fr (fun _ => False) w w3) := Lib.hid (((f0.out.trans f1.out (fun _ _ h => h)).trans f2.out (fun _ _ h => h)).trans f3.out (fun _ _ h => h))
      go_wp2_with fail
      go_loopg [9, 10, 48] n (fun G u9 u10 u48 wr => ∃ j : Nat, j ≤ n ∧ G = n - j ∧ u48 = .int .i64 j ∧ Hid (Fr (fun _ => False) w wr ∧ firstE (fun i => rightE known (of i) (lv - 1)) j = 0))
      case atStart => exact ⟨0, Nat.zero_le _, rfl, by go_num, Lib.hid ⟨g3.out, rfl⟩⟩
      case round =>
        obtain ⟨j, hj, rfl, rfl, HI⟩ := hrel
        by_cases hlt : j < n
        · rcases Hso.out with hz | ⟨hcap, g, off, hg, rfl, hcell⟩
          · omega
          obtain ⟨x0, x1, x2, x3, y0, y1, y2, y3, hx⟩ := hcell j hlt
          have y0 := cell_fr (R := fun _ => True) HI.out.1 (fun _ _ h => h) trivial y0
          have y1 := cell_fr (R := fun _ => True) HI.out.1 (fun _ _ h => h) trivial y1
          have y2 := cell_fr (R := fun _ => True) HI.out.1 (fun _ _ h => h) trivial y2
          have y3 := cell_fr (R := fun _ => True) HI.out.1 (fun _ _ h => h) trivial y3
          obtain ⟨pk, pm, pa, pn, pc, pa', pn', pc', rfl, rfl, rfl, rfl⟩ := hx.cells
          clear hcell
          have fx : Hid (Fr (fun _ => False) wr (wr.alloc (.cells #[.int .u8 pk, .int .i64 pm, .slice pa pn pc, .slice pa' pn' pc'] 32))) := Lib.hid ((Fr.refl _ _).alloc _)
          have hrec := ih j R (.agg #[.int .u8 pk, .int .i64 pm, .slice pa pn pc, .slice pa' pn' pc']) kv (wr.alloc (.cells #[.int .u8 pk, .int .i64 pm, .slice pa pn pc, .slice pa' pn' pc'] 32)) (lv - 1) (lz - 1) (by have := Hlz.out; omega) (by omega) (Shows.fr (HI.out.1.trans fx.out (fun _ _ h => h)) (fun _ _ h => h) _ _ hx) (Hka.out.fr (HI.out.1.trans fx.out (fun _ _ h => h)) (fun _ _ h => h))
          clear hx
          obtain ⟨E, hE⟩ : ∃ E, E = rightE known (of j) (lv - 1) := ⟨_, rfl⟩
          rw [← hE] at hrec
          have HE := Lib.hid hE
          clear hE
          by_cases he : E = 0
          · subst he
            go_wp2_with fail
            refine hrec.mono ?_
            rintro e w5 ⟨rfl, f5⟩
            have f5 := Lib.hid f5
            go_wp2
            go_roundg (n - (j + 1))
            case measure => omega
            case rel => exact ⟨j + 1, by omega, rfl, by go_num, Lib.hid ⟨(HI.out.1.trans fx.out (fun _ _ h => h)).trans f5.out (fun _ _ h => h), firstE_step _ _ HI.out.2 HE.out.symm⟩⟩
          · have he' : ¬ (E : Int) = 0 := by omega
            go_wp2_with fail
            refine hrec.mono ?_
            rintro e w5 ⟨rfl, f5⟩
            have f5 := Lib.hid f5
            go_wp2
            go_ret
            refine ⟨ret_nat ?_, (HI.out.1.trans fx.out (fun _ _ h => h)).trans f5.out (fun _ _ h => h)⟩
            rw [eown.out, if_pos HO.out, HE.out]
            exact (firstE_stop (fun i => rightE known (of i) (lv - 1)) n j hlt HI.out.2 (by rw [← HE.out]; exact he)).symm
        · obtain rfl : j = n := by omega
          go_wp2
          go_ret
          refine ⟨ret_nat (a := 0) ?_, HI.out.1⟩
          rw [eown.out, if_pos HO.out]
          exact HI.out.2.symm
    · have he' : ¬ (E : Int) = 0 := by omega
      go_wp2_with fail
      refine hcn.mono ?_
      rintro e w3 ⟨rfl, f3⟩
      have f3 := Lib.hid f3
      go_wp2
      go_ret
      refine ⟨ret_nat ?_, ((f0.out.trans f1.out (fun _ _ h => h)).trans f2.out (fun _ _ h => h)).trans f3.out (fun _ _ h => h)⟩
      rw [eown.out, Hown.out, ← HE.out, if_neg he]
  · have hown : ownE known 8 ns = checkNamesE ns := by unfold ownE; rw [if_pos (by omega)]
    have Hown := Lib.hid hown
    clear hown
    go_enter Try.func56, Try.ntmps56
    go_wp2_with fail
    refine hsz.mono ?_
    rintro e w1 ⟨rfl, f1⟩
    have q1 := box_kept Hq.out f1 (fun h => h)
    obtain ⟨d0, d1, d2, d3⟩ := cell_of_four q1
    have f1 := Lib.hid f1
    have q1 := Lib.hid q1
    go_wp2_with fail
    refine (formed_any 8 ns.length n m (by omega) a a' cap cap' w1).mono ?_
    rintro e w2 ⟨rfl, f2⟩
    rw [HF.out]
    have q2 := box_kept q1.out f2 (fun h => h)
    obtain ⟨b0, b1, b2, b3⟩ := cell_of_four q2
    have f2 := Lib.hid f2
    have q2 := Lib.hid q2
    clear c0 c1 c2 c3 d0 d1 d2 d3
    have hcn := checkNames_any R ns _ w2 (Ht.out.fr ((f0.out.trans f1.out (fun _ _ h => h)).trans f2.out (fun _ _ h => h)) (fun _ _ h => h))
    obtain ⟨E, hE⟩ : ∃ E, E = checkNamesE ns := ⟨_, rfl⟩
    rw [← hE] at hcn
    have HE := Lib.hid hE
    clear hE
    by_cases he : E = 0
    · subst he
      have HO : Hid (ownE known 8 ns = 0) := Lib.hid (Hown.out.trans HE.out.symm)
      go_wp2_with fail
      refine hcn.mono ?_
      rintro e w3 ⟨rfl, f3⟩
      have q3 := box_kept q2.out f3 (fun h => h)
      obtain ⟨a0, a1, a2, a3⟩ := cell_of_four q3
      have f3 := Lib.hid f3
      have q3 := Lib.hid q3
      clear b0 b1 b2 b3
      have g3 : Hid (Fr (fun _ => False) w w3) := Lib.hid (((f0.out.trans f1.out (fun _ _ h => h)).trans f2.out (fun _ _ h => h)).trans f3.out (fun _ _ h => h))
      go_wp2_with fail
      go_loopg [9, 10, 48] n (fun G u9 u10 u48 wr => ∃ j : Nat, j ≤ n ∧ G = n - j ∧ u48 = .int .i64 j ∧ Hid (Fr (fun _ => False) w wr ∧ firstE (fun i => rightE known (of i) (lv - 1)) j = 0))
      case atStart => exact ⟨0, Nat.zero_le _, rfl, by go_num, Lib.hid ⟨g3.out, rfl⟩⟩
      case round =>
        obtain ⟨j, hj, rfl, rfl, HI⟩ := hrel
        by_cases hlt : j < n
        · rcases Hso.out with hz | ⟨hcap, g, off, hg, rfl, hcell⟩
          · omega
          obtain ⟨x0, x1, x2, x3, y0, y1, y2, y3, hx⟩ := hcell j hlt
          have y0 := cell_fr (R := fun _ => True) HI.out.1 (fun _ _ h => h) trivial y0
          have y1 := cell_fr (R := fun _ => True) HI.out.1 (fun _ _ h => h) trivial y1
          have y2 := cell_fr (R := fun _ => True) HI.out.1 (fun _ _ h => h) trivial y2
          have y3 := cell_fr (R := fun _ => True) HI.out.1 (fun _ _ h => h) trivial y3
          obtain ⟨pk, pm, pa, pn, pc, pa', pn', pc', rfl, rfl, rfl, rfl⟩ := hx.cells
          clear hcell
          have fx : Hid (Fr (fun _ => False) wr (wr.alloc (.cells #[.int .u8 pk, .int .i64 pm, .slice pa pn pc, .slice pa' pn' pc'] 32))) := Lib.hid ((Fr.refl _ _).alloc _)
          have hrec := ih j R (.agg #[.int .u8 pk, .int .i64 pm, .slice pa pn pc, .slice pa' pn' pc']) kv (wr.alloc (.cells #[.int .u8 pk, .int .i64 pm, .slice pa pn pc, .slice pa' pn' pc'] 32)) (lv - 1) (lz - 1) (by have := Hlz.out; omega) (by omega) (Shows.fr (HI.out.1.trans fx.out (fun _ _ h => h)) (fun _ _ h => h) _ _ hx) (Hka.out.fr (HI.out.1.trans fx.out (fun _ _ h => h)) (fun _ _ h => h))
          clear hx
          obtain ⟨E, hE⟩ : ∃ E, E = rightE known (of j) (lv - 1) := ⟨_, rfl⟩
          rw [← hE] at hrec
          have HE := Lib.hid hE
          clear hE
          by_cases he : E = 0
          · subst he
            go_wp2_with fail
            refine hrec.mono ?_
            rintro e w5 ⟨rfl, f5⟩
            have f5 := Lib.hid f5
            go_wp2
            go_roundg (n - (j + 1))
            case measure => omega
            case rel => exact ⟨j + 1, by omega, rfl, by go_num, Lib.hid ⟨(HI.out.1.trans fx.out (fun _ _ h => h)).trans f5.out (fun _ _ h => h), firstE_step _ _ HI.out.2 HE.out.symm⟩⟩
          · have he' : ¬ (E : Int) = 0 := by omega
            go_wp2_with fail
            refine hrec.mono ?_
            rintro e w5 ⟨rfl, f5⟩
            have f5 := Lib.hid f5
            go_wp2
            go_ret
            refine ⟨ret_nat ?_, (HI.out.1.trans fx.out (fun _ _ h => h)).trans f5.out (fun _ _ h => h)⟩
            rw [eown.out, if_pos HO.out, HE.out]
            exact (firstE_stop (fun i => rightE known (of i) (lv - 1)) n j hlt HI.out.2 (by rw [← HE.out]; exact he)).symm
        · obtain rfl : j = n := by omega
          go_wp2
          go_ret
          refine ⟨ret_nat (a := 0) ?_, HI.out.1⟩
          rw [eown.out, if_pos HO.out]
          exact HI.out.2.symm
    · have he' : ¬ (E : Int) = 0 := by omega
      go_wp2_with fail
      refine hcn.mono ?_
      rintro e w3 ⟨rfl, f3⟩
      have f3 := Lib.hid f3
      go_wp2
      go_ret
      refine ⟨ret_nat ?_, ((f0.out.trans f1.out (fun _ _ h => h)).trans f2.out (fun _ _ h => h)).trans f3.out (fun _ _ h => h)⟩
      rw [eown.out, Hown.out, ← HE.out, if_neg he]
  · have hown : ownE known 9 ns = if standsN known ns < 0 then 10 else 0 := rfl
    have Hown := Lib.hid hown
    clear hown
    go_enter Try.func56, Try.ntmps56
    go_wp2_with fail
    refine hsz.mono ?_
    rintro e w1 ⟨rfl, f1⟩
    have q1 := box_kept Hq.out f1 (fun h => h)
    obtain ⟨d0, d1, d2, d3⟩ := cell_of_four q1
    have f1 := Lib.hid f1
    have q1 := Lib.hid q1
    go_wp2_with fail
    refine (formed_any 9 ns.length n m (by omega) a a' cap cap' w1).mono ?_
    rintro e w2 ⟨rfl, f2⟩
    rw [HF.out]
    have q2 := box_kept q1.out f2 (fun h => h)
    obtain ⟨b0, b1, b2, b3⟩ := cell_of_four q2
    have f2 := Lib.hid f2
    have q2 := Lib.hid q2
    clear c0 c1 c2 c3 d0 d1 d2 d3
    have hsf := stands_any R known (.mk 9 m ns n of) _ kv w2 (Shows.fr ((f0.out.trans f1.out (fun _ _ h => h)).trans f2.out (fun _ _ h => h)) (fun _ _ h => h) _ _ hsh0.out) (Hka.out.fr ((f0.out.trans f1.out (fun _ _ h => h)).trans f2.out (fun _ _ h => h)) (fun _ _ h => h))
    have hse : standsE known (.mk 9 m ns n of) = standsN known ns := rfl
    rw [hse] at hsf
    obtain ⟨E, hE⟩ : ∃ E, E = standsN known ns := ⟨_, rfl⟩
    rw [← hE] at hsf
    have HE := Lib.hid hE
    clear hE hse
    by_cases he : E < 0
    · go_wp2_with fail
      refine hsf.mono ?_
      rintro e w3 ⟨rfl, f3⟩
      have f3 := Lib.hid f3
      go_wp2
      go_ret
      refine ⟨ret_nat (a := 10) ?_, ((f0.out.trans f1.out (fun _ _ h => h)).trans f2.out (fun _ _ h => h)).trans f3.out (fun _ _ h => h)⟩
      rw [eown.out, Hown.out, ← HE.out, if_pos he]; rfl
    · have HO : Hid (ownE known 9 ns = 0) := Lib.hid (by rw [Hown.out, ← HE.out, if_neg he])
      go_wp2_with fail
      refine hsf.mono ?_
      rintro e w3 ⟨rfl, f3⟩
      have q3 := box_kept q2.out f3 (fun h => h)
      obtain ⟨a0, a1, a2, a3⟩ := cell_of_four q3
      have f3 := Lib.hid f3
      have q3 := Lib.hid q3
      clear b0 b1 b2 b3
      have g3 : Hid (Fr (fun _ => False) w w3) := Lib.hid (((f0.out.trans f1.out (fun _ _ h => h)).trans f2.out (fun _ _ h => h)).trans f3.out (fun _ _ h => h))
      go_wp2_with fail
      go_loopg [9, 10, 48] n (fun G u9 u10 u48 wr => ∃ j : Nat, j ≤ n ∧ G = n - j ∧ u48 = .int .i64 j ∧ Hid (Fr (fun _ => False) w wr ∧ firstE (fun i => rightE known (of i) (lv - 1)) j = 0))
      case atStart => exact ⟨0, Nat.zero_le _, rfl, by go_num, Lib.hid ⟨g3.out, rfl⟩⟩
      case round =>
        obtain ⟨j, hj, rfl, rfl, HI⟩ := hrel
        by_cases hlt : j < n
        · rcases Hso.out with hz | ⟨hcap, g, off, hg, rfl, hcell⟩
          · omega
          obtain ⟨x0, x1, x2, x3, y0, y1, y2, y3, hx⟩ := hcell j hlt
          have y0 := cell_fr (R := fun _ => True) HI.out.1 (fun _ _ h => h) trivial y0
          have y1 := cell_fr (R := fun _ => True) HI.out.1 (fun _ _ h => h) trivial y1
          have y2 := cell_fr (R := fun _ => True) HI.out.1 (fun _ _ h => h) trivial y2
          have y3 := cell_fr (R := fun _ => True) HI.out.1 (fun _ _ h => h) trivial y3
          obtain ⟨pk, pm, pa, pn, pc, pa', pn', pc', rfl, rfl, rfl, rfl⟩ := hx.cells
          clear hcell
          have fx : Hid (Fr (fun _ => False) wr (wr.alloc (.cells #[.int .u8 pk, .int .i64 pm, .slice pa pn pc, .slice pa' pn' pc'] 32))) := Lib.hid ((Fr.refl _ _).alloc _)
          have hrec := ih j R (.agg #[.int .u8 pk, .int .i64 pm, .slice pa pn pc, .slice pa' pn' pc']) kv (wr.alloc (.cells #[.int .u8 pk, .int .i64 pm, .slice pa pn pc, .slice pa' pn' pc'] 32)) (lv - 1) (lz - 1) (by have := Hlz.out; omega) (by omega) (Shows.fr (HI.out.1.trans fx.out (fun _ _ h => h)) (fun _ _ h => h) _ _ hx) (Hka.out.fr (HI.out.1.trans fx.out (fun _ _ h => h)) (fun _ _ h => h))
          clear hx
          obtain ⟨E, hE⟩ : ∃ E, E = rightE known (of j) (lv - 1) := ⟨_, rfl⟩
          rw [← hE] at hrec
          have HE := Lib.hid hE
          clear hE
          by_cases he : E = 0
          · subst he
            go_wp2_with fail
            refine hrec.mono ?_
            rintro e w5 ⟨rfl, f5⟩
            have f5 := Lib.hid f5
            go_wp2
            go_roundg (n - (j + 1))
            case measure => omega
            case rel => exact ⟨j + 1, by omega, rfl, by go_num, Lib.hid ⟨(HI.out.1.trans fx.out (fun _ _ h => h)).trans f5.out (fun _ _ h => h), firstE_step _ _ HI.out.2 HE.out.symm⟩⟩
          · have he' : ¬ (E : Int) = 0 := by omega
            go_wp2_with fail
            refine hrec.mono ?_
            rintro e w5 ⟨rfl, f5⟩
            have f5 := Lib.hid f5
            go_wp2
            go_ret
            refine ⟨ret_nat ?_, (HI.out.1.trans fx.out (fun _ _ h => h)).trans f5.out (fun _ _ h => h)⟩
            rw [eown.out, if_pos HO.out, HE.out]
            exact (firstE_stop (fun i => rightE known (of i) (lv - 1)) n j hlt HI.out.2 (by rw [← HE.out]; exact he)).symm
        · obtain rfl : j = n := by omega
          go_wp2
          go_ret
          refine ⟨ret_nat (a := 0) ?_, HI.out.1⟩
          rw [eown.out, if_pos HO.out]
          exact HI.out.2.symm

end Go.Proofs.Ythokfmmbiilllaa

/-
  A text's copy; a slice of texts, copied with all that it holds.
-/
namespace Go.Proofs.Ythokfmmbiilllaa
open Go.RowKit
set_option maxRecDepth 100000

theorem Try.infoU8 : (Try.prog.info? 5).map (fun i => (i.zero, i.size, i.bytes)) = some (some (.int .u8 0), 1, 1) := by kernel_rfl

/-- What strings.Clone does to memory, step by step: a row is made, the bytes go into it, it is read as a text. -/
theorem clone_steps (s : ByteArray) (h0 : 0 < s.size) (hlim : s.size ≤ 281474976710656) (w : World) : ∃ (w0 w1 w2 : World),
    (Instr.makeSlice 91 (.int .i64 (s.size : Int)) (.int .i64 (s.size : Int))).run Try.prog w = .ok (.slice (some ⟨w.heap.size, 0, none⟩) s.size s.size) w0 ∧
    (Builtin.copy_ #[91, 9] 3 #[.slice (some ⟨w.heap.size, 0, none⟩) s.size s.size, .string s]).run Try.prog w0 = .ok (goInt s.size) w1 ∧
    (Builtin.unsafeString_ #[133, 3] 9 #[.pointer (some ⟨w.heap.size, 0, none⟩), .int .i64 (s.size : Int)]).run Try.prog w1 = .ok (.string s) w2 ∧ Fr (fun _ => False) w w2 := by
  obtain ⟨i0, hi, hz0, hz1, hz2⟩ := info_parts Try.infoU8
  have hls : s.data.toList.length = s.size := rfl
  have hbl : (Lib.byteCells s.data.toList).length = s.size := (Lib.byteCells_length _).trans hls
  obtain ⟨w0, hw0⟩ : ∃ w0, w0 = w.alloc (.cells (madeCells (Value.int .u8 0).cells (s.size * 1)) 5) := ⟨_, rfl⟩
  have m := run_make (P := Try.prog) w 91 5 i0 (.int .u8 0) Try.underlying91 hi hz0 .i64 .i64 (s.size : Int) (s.size : Int) (Int.natCast_nonneg _) (Int.le_refl _) (by rw [hz2]; omega) (by omega)
  rw [Int.toNat_natCast, hz1, ← hw0] at m
  have g0 : w0.heap[w.heap.size]? = some (.cells (madeCells (Value.int .u8 0).cells (s.size * 1)) 5 (0, 0)) := by rw [hw0]; exact heap_alloc_new w _
  have k := Lib.run_copy_row_string (P := Try.prog) w0 91 9 3 5 w.heap.size 0 s.size s.size s _ 5 Try.underlying91 (by rw [hi]; exact congrArg some hz1) g0 (Nat.le_refl _) (by rw [size_madeCells]; omega)
  rw [List.take_zero, List.nil_append, List.drop_of_length_le (by rw [Array.length_toList, size_madeCells]; omega), List.append_nil] at k
  have g1 := setRow_heap w0 w.heap.size _ (Lib.byteCells s.data.toList).toArray 5 (0, 0) g0
  have u := Lib.run_unsafeString_row (P := Try.prog) (w0.setRow w.heap.size (Lib.byteCells s.data.toList).toArray) 133 3 9 5 Try.underlying133 (by unfold Program.cellsOf; rw [hi]; exact hz1) w.heap.size s.size (by unfold World.shape?; rw [g1]; simp [hbl]) s.data.toList
    (fun e => by rw [e] at hls; simp at hls; omega) (Nat.le_of_eq hls) (by omega) (fun j x hx => by
      have hplain : (⟨w.heap.size, 0, none⟩ : Addr).add j = ⟨w.heap.size, j, none⟩ := by unfold Addr.add; split <;> simp_all
      rw [hplain, cell_of_row _ w.heap.size j _ 5 (0, 0) g1]
      simp [Lib.byteCells, hx])
  refine ⟨w0, _, _, m, k, u, ?_⟩
  have f1 : Fr (fun _ => False) w (w0.setRow w.heap.size (Lib.byteCells s.data.toList).toArray) := by
    have f0 : Fr (fun _ => False) w w0 := by rw [hw0]; exact (Fr.refl _ _).alloc _
    exact ⟨f0.os, f0.tape, f0.output, by have := f0.size; simp; omega, fun b hb hs => (setRow_other _ _ _ _ (by omega)).trans (f0.block b hb hs)⟩
  have B : Below w.heap.size w _ := Lib.below_freeze (f1.below (Nat.le_refl _) (fun _ _ h => h)) (p := ⟨w.heap.size, 0, none⟩) (Nat.le_refl _) s.data.toList.length
  exact ⟨B.os, B.tape, B.output, B.size, fun b hb _ => B.block b hb⟩

set_option maxHeartbeats 1000000 in
/-- A text's copy: the same bytes; what it is made of is new. -/
theorem lit_clone (s : ByteArray) (w : World) (hlim : s.size ≤ 281474976710656) :
    Calls Try.prog 75 #[.string s] w fun e w' => e = .returned (.string s) ∧ Fr (fun _ => False) w w' := by
  rcases Nat.eq_zero_or_pos s.size with h0 | h0
  · obtain rfl : s = ⟨#[]⟩ := ByteArray.ext (Array.eq_empty_of_size_eq_zero h0)
    go_enter Try.func75, Try.ntmps75
    go_wp2
    go_ret
    exact ⟨rfl, Fr.refl _ _⟩
  · obtain ⟨w0, w1, w2, m, k, u, f⟩ := clone_steps s h0 hlim w
    go_enter Try.func75, Try.ntmps75
    go_wp2
    go_ret
    exact ⟨rfl, f⟩

theorem clone_any (s : ByteArray) (w : World) (hlim : s.size ≤ 281474976710656) :
    Calls Try.prog 74 #[.string s] w fun e w' => e = .returned (.string s) ∧ Fr (fun _ => False) w w' := by
  go_enter Try.func74, Try.ntmps74
  go_wp2_with fail
  refine (lit_clone _ _ hlim).mono ?_
  rintro e w' ⟨rfl, f1⟩
  go_wp2
  go_ret
  exact ⟨rfl, f1⟩


theorem SeesL.first {P : Program} {w : World} {v : Value} {xs : List Value} (h : SeesL w v xs) : (Builtin.firstCells 1 xs.length v).run P w = .ok xs.toArray w := by
  rcases h with ⟨rfl, a, c, rfl⟩ | ⟨g, off, cap, rfl, _, hc⟩
  · cases a with
    | none => simp [Builtin.firstCells]
    | some a => exact run_firstCells_some (P := P) w 1 0 a 0 c [] rfl (by simp)
  · refine run_firstCells_some (P := P) w 1 xs.length ⟨g, off, none⟩ xs.length cap xs (by simp) ?_
    intro j v hj
    have hplain : (⟨g, off, none⟩ : Addr).add j = ⟨g, off + j, none⟩ := by unfold Addr.add; split <;> simp_all
    rw [hplain, hc j v hj]

theorem SeesL.drew {w : World} {v : Value} {xs : List Value} (h : SeesL w v xs) : SeesL w.drew v xs := h

theorem empty_row (w : World) (base : Nat) (hb : base ≤ w.heap.size) (e : TypeId) (size : Nat) : (w.alloc (.cells #[] e)).ownsRow base e size (.slice (some ⟨w.heap.size, 0, none⟩) 0 0) 0 [] :=
  ⟨by simp, .inr ⟨w.heap.size, 0, #[], rfl, hb, heap_alloc_new w _, Nat.le_refl _, by unfold maxLen; omega, by simp, by simp⟩⟩

theorem sv_one (l : List Txt) : ∀ u ∈ l.map sv, u.oneCell' = true := by
  intro u hu
  obtain ⟨c, _, rfl⟩ := List.mem_map.1 hu
  rfl

/-- The call made the slice v of these texts anew. -/
def NewTexts (w w' : World) (l : List Txt) (v : Value) : Prop := Texts (fun k => w.heap.size ≤ k) w' l v ∧ Fr (fun _ => False) w w'

set_option maxHeartbeats 4000000 in
/-- slices.Clone of texts: a row of its own, or nil. -/
theorem cloneTexts_any (R : Nat → Prop) (l : List Txt) (v : Value) (w : World) (h : Texts R w l v) :
    Calls Try.prog 73 #[v] w fun e w' => ∃ v', e = .returned v' ∧ w'.ownsRow w.heap.size 9 1 v' l.length (l.map sv) ∧ Fr (fun _ => False) w w' := by
  obtain ⟨i0, hi, hz0, hz1, hz2⟩ := info_parts Try.infoStr
  have qT : ∀ (w : World) (a : Option Addr) (n c n' c' : Nat), (binOp .eql 29 (.slice a n c) (.slice none n' c')).run Try.prog w = .ok (.bool a.isNone) w := fun w a n c n' c' => Lib.run_eql_slice_nil w _ _ a n c n' c' Try.underlying29
  have hl0 : l.length ≤ 1000 := h.1
  have hL := h.seesL
  obtain ⟨a, c, rfl, hc⟩ := h.shape
  cases a with
  | none =>
    have hn : l = [] := by
      rcases hc with hz | ⟨_, g, off, _, e, _⟩
      · exact List.eq_nil_of_length_eq_zero hz
      · cases e
    subst hn
    go_enter Try.func73, Try.ntmps73
    go_wp2
    go_ret
    exact ⟨_, rfl, World.ownsRow_nil w _ 9 1, Fr.refl _ _⟩
  | some a =>
    go_enter Try.func73, Try.ntmps73
    have f0 : Fr (fun _ => False) w (w.alloc (.cells #[] 9)) := (Fr.refl _ _).alloc _
    have hS := hL.fr0 f0
    have hF : ∀ w' : World, SeesL w' (.slice (some a) l.length c) (l.map sv) → (Builtin.firstCells 1 l.length (.slice (some a) l.length c)).run Try.prog w' = .ok (l.map sv).toArray w' := fun w' h => by
      have := h.first (P := Try.prog)
      rwa [List.length_map] at this
    have HF := Lib.hid hF
    have HS := Lib.hid hS
    have HF0 := Lib.hid f0
    clear hF hS hL hc h f0
    go_wp2_with (at_builtin; refine wpList_append_sep rfl (.tmp 5) (.tmp 6) 29 29 rfl w.heap.size 9 i0 (.string ⟨#[]⟩) 1 16 Try.underlying29 _ Try.underlying29 (.inr ⟨_, rfl⟩) hi hz0 hz1 hz2 rfl (by decide) (.slice (some ⟨w.heap.size, 0, none⟩) 0 0) 0 [] rfl ?own _ l.length (l.map sv) rfl (lenOf_slice _ _ _) ?len ?c1 ?c2 ?one ?b1 ?b2 ?base ?grow)
    case own => exact empty_row w _ (Nat.le_refl _) _ _
    case len => simp
    case c1 => exact HF.out _ HS.out
    case c2 => exact HF.out _ HS.out.drew
    case one => exact sv_one l
    case b1 => unfold maxLen; omega
    case b2 => omega
    case base => simp
    case grow =>
      intro v' w1 hown hg hv
      obtain ⟨a1, c1, rfl⟩ := slice_of_own hown
      have Ho := Lib.hid hown
      have Hg := Lib.hid hg
      clear hown hg hv
      go_wp2
      go_ret
      refine ⟨_, rfl, ?_, ?_⟩
      · have := Ho.out
        simpa using this
      · have := Fr.trans HF0.out (Fr.of_grown Hg.out) (S := fun _ => False) (fun i hi e => by simp [Value.ownBlock] at e; omega)
        exact this

theorem texts_own {w : World} {base : Nat} {l : List Txt} {v : Value} (h : w.ownsRow base 9 1 v l.length (l.map sv)) (h1 : l.length ≤ 1000) (h2 : ∀ s ∈ l, s.length ≤ 1000) : Texts (fun k => base ≤ k) w l v := by
  refine ⟨h1, h2, ?_⟩
  have hc := seesL_own h
  rcases h.2 with ⟨rfl, h0⟩ | ⟨g, cap, cur, rfl, hb, hg, hle, _, hs, ht⟩
  · exact .inl ⟨List.eq_nil_of_length_eq_zero h0, none, 0, rfl⟩
  · refine .inr ⟨g, 0, cap, hb, rfl, hle, fun j s hj => ?_⟩
    have := World.ownsRow.cells (g := g) h rfl j (sv s) (by rw [List.getElem?_map, hj]; rfl)
    have hplain : (⟨g, 0, none⟩ : Addr).add j = ⟨g, j, none⟩ := by unfold Addr.add; split <;> simp_all
    rw [hplain] at this
    rw [Nat.zero_add]
    exact this

theorem set_same (l : List Txt) (k : Nat) (hk : k < l.length) : (l.map sv).set k (sv l[k]) = l.map sv := by
  rw [← List.map_set]
  congr 1
  exact List.set_getElem_self hk

set_option maxHeartbeats 4000000 in
/-- copiedNames: the same texts, in new memory. -/
theorem copied_names (R : Nat → Prop) (l : List Txt) (v : Value) (w : World) (h : Texts R w l v) :
    Calls Try.prog 72 #[v] w fun e w' => ∃ v', e = .returned v' ∧ NewTexts w w' l v' := by
  have hl0 : l.length ≤ 1000 := h.1
  have hs0 := Lib.hid h.2.1
  have hcl := cloneTexts_any R l v w h
  obtain ⟨a0, c0, rfl, _⟩ := h.shape
  clear h
  go_enter Try.func72, Try.ntmps72
  go_wp2_with fail
  refine hcl.mono ?_
  rintro e w1 ⟨v1, rfl, hO, f1⟩
  clear hcl
  obtain ⟨a, c, rfl⟩ := slice_of_own hO
  have HO := Lib.hid hO
  have F1 := Lib.hid f1
  clear hO f1
  go_wp2
  go_loopg [3, 4, 9] l.length (fun G u3 u4 u9 wr => ∃ k : Nat, k ≤ l.length ∧ G = l.length - k ∧ u9 = .int .i64 k ∧ Hid (wr.ownsRow w.heap.size 9 1 (.slice a l.length c) l.length (l.map sv) ∧ Fr (fun _ => False) w wr))
  case atStart => exact ⟨0, Nat.zero_le _, rfl, by go_num, Lib.hid ⟨HO.out, F1.out⟩⟩
  case round =>
    obtain ⟨k, hk, rfl, rfl, HI⟩ := hrel
    by_cases hlt : k < l.length
    · obtain ⟨g, cap, rfl, hg, hle⟩ : ∃ g cap, a = some ⟨g, 0, none⟩ ∧ w.heap.size ≤ g ∧ l.length ≤ cap ∧ c = cap := by
        rcases HI.out.1.2 with ⟨e, h0⟩ | ⟨g, cap, cur, e, hb, _, hn, _⟩
        · omega
        · cases e; exact ⟨g, c, rfl, hb, hn, rfl⟩
      obtain ⟨hle, rfl⟩ := hle
      have hplain : ∀ j, (⟨g, 0, none⟩ : Addr).add j = ⟨g, j, none⟩ := fun j => by unfold Addr.add; split <;> simp_all
      have hck := World.ownsRow.cells (g := g) HI.out.1 rfl k (sv l[k]) (by rw [List.getElem?_map, List.getElem?_eq_getElem hlt]; rfl)
      rw [hplain] at hck
      have PL := Lib.hid hplain
      clear hplain
      obtain ⟨d, hd⟩ : ∃ d, d = l[k] := ⟨_, rfl⟩
      rw [← hd] at hck
      unfold sv at hck
      have hdl : d.length ≤ 1000 := hs0.out d (by rw [hd]; exact List.getElem_mem hlt)
      have Hd := Lib.hid hd
      clear hd
      go_wp2_with fail
      refine (clone_any ⟨d.toArray⟩ wr (by show d.toArray.size ≤ _; simp; omega)).mono ?_
      rintro e w2 ⟨rfl, f2⟩
      have hO2 := ownsRow_fr HI.out.1 f2 (fun _ _ h => h)
      have hck2 := World.ownsRow.cells (g := g) hO2 rfl k (sv l[k]) (by rw [List.getElem?_map, List.getElem?_eq_getElem hlt]; rfl)
      rw [PL.out, ← Hd.out] at hck2
      unfold sv at hck2
      have hfz := World.ownsRow.frozenAt hO2 k
      have HO2 := Lib.hid hO2
      have F2 := Lib.hid f2
      clear hO2 f2 hck
      go_wp2
      go_roundg (l.length - (k + 1))
      case measure => omega
      case rel =>
        refine ⟨k + 1, by omega, rfl, by go_num, Lib.hid ⟨?_, ?_⟩⟩
        · have h1 := (World.ownsRow.stored HO2.out k (sv l[k])).1
          rw [set_same l k hlt, ← Hd.out] at h1
          exact h1
        · exact Fr.setCell (p := ⟨g, k, none⟩) (HI.out.2.trans F2.out (fun _ _ h => h)) (fun h => absurd h (Nat.not_lt.2 hg)) _
    · obtain rfl : k = l.length := by omega
      go_wp2
      go_ret
      exact ⟨_, rfl, texts_own HI.out.1 hl0 hs0.out, HI.out.2⟩

end Go.Proofs.Ythokfmmbiilllaa

/-
  What Whole answers, as a plain function; facts on it. No program is spoken of.
-/
namespace Go.Proofs.Ythokfmmbiilllaa
open Go.RowKit

/-- What Whole finds: an error (0: none), the type, and how many more types there may be. -/
structure WR where
  e : Nat
  t : KT
  left : Nat

structure WP where
  e : Nat
  ts : List KT
  left : Nat

def zeroT : KT := .mk 0 0 [] 0 (fun _ => .nil)

/-- The parts of a type, made whole one by one. -/
def wholeAll (f : Nat → Nat → WR) : Nat → Nat → WP
  | 0, l => ⟨0, [], l⟩
  | n + 1, l =>
    let r := wholeAll f n l
    if r.e = 0 then (let q := f n r.left; if q.e = 0 then ⟨0, r.ts ++ [q.t], q.left⟩ else ⟨q.e, [], q.left⟩) else r

def wholeE : Nat → List (Txt × KT) → KT → Nat → WR
  | 0, _, _, l => ⟨5, zeroT, l⟩
  | lv + 1, al, t, l => match t with
    | .nil => ⟨0, .nil, l⟩
    | .mk k m ns n of =>
      if k = 9 then
        if standsN al ns < 0 then ⟨10, zeroT, l⟩
        else wholeE lv (al.take (standsN al ns).toNat) (al.getD (standsN al ns).toNat ([], .nil)).2 l
      else if l = 0 then ⟨6, zeroT, l⟩
      else
        let r := wholeAll (fun i l => wholeE lv al (of i) l) n (l - 1)
        if r.e = 0 then ⟨0, .mk k m ns n (fun i => r.ts.getD i .nil), r.left⟩ else ⟨r.e, zeroT, r.left⟩

theorem wholeAll_stop (f : Nat → Nat → WR) (n k l : Nat) (hk : k < n) (h0 : (wholeAll f k l).e = 0) (h : (f k (wholeAll f k l).left).e ≠ 0) : wholeAll f n l = ⟨(f k (wholeAll f k l).left).e, [], (f k (wholeAll f k l).left).left⟩ := by
  induction n with
  | zero => omega
  | succ n ih =>
    by_cases e : k = n
    · subst e
      simp only [wholeAll, h0, if_true, if_neg h]
    · have := ih (by omega)
      simp only [wholeAll]
      rw [this]
      exact if_neg h

theorem wholeAll_step (f : Nat → Nat → WR) (k l : Nat) (h0 : (wholeAll f k l).e = 0) (h : (f k (wholeAll f k l).left).e = 0) : wholeAll f (k + 1) l = ⟨0, (wholeAll f k l).ts ++ [(f k (wholeAll f k l).left).t], (f k (wholeAll f k l).left).left⟩ := by
  simp only [wholeAll, h0, if_true, h]

theorem standsN_lt {al : List (Txt × KT)} {ns : List Txt} (h : ¬ standsN al ns < 0) : (standsN al ns).toNat < al.length ∧ ((standsN al ns).toNat : Int) = standsN al ns := by
  refine ⟨?_, by omega⟩
  unfold standsN firstAt at *
  split at h
  · split at h
    · rename_i s h1
      rw [if_pos h1]
      have := List.findIdx_lt_length_of_exists (p := fun x : Txt × KT => decide (x.1 = s)) (xs := al) (by
        obtain ⟨x, hx, hp⟩ := List.any_eq_true.1 h1
        exact ⟨x, hx, hp⟩)
      simpa using this
    · omega
  · omega

end Go.Proofs.Ythokfmmbiilllaa

/-
  Interfaces as plain data; an interface's value in memory; what its check answers, as a plain function.
-/
namespace Go.Proofs.Ythokfmmbiilllaa
open Go.RowKit

structure KProc where
  name : Txt
  number : Int
  takes : KT
  answers : KT
  collate : Nat
  timeout : Int

structure KTab where
  name : Txt
  number : Int
  version : Int
  types : List (Txt × KT)
  faults : List (Txt × Int)
  procs : List KProc

/-- The slice v shows these faults. -/
def Faults (R : Nat → Prop) (w : World) (l : List (Txt × Int)) (v : Value) : Prop :=
  l.length ≤ 1000 ∧ (∀ x ∈ l, x.1.length ≤ 1000) ∧
  ((l = [] ∧ ∃ a c, v = .slice a 0 c) ∨
   ∃ g off cap, R g ∧ v = .slice (some ⟨g, off, none⟩) l.length cap ∧ l.length ≤ cap ∧ ∀ i x, l[i]? = some x →
    w.cell? ⟨g, off + i * 2, none⟩ = some (sv x.1) ∧ w.cell? ⟨g, off + i * 2 + 1, none⟩ = some (.int .i64 x.2))

/-- The cells of a procedure, its types' cells being x0 to x3 and y0 to y3. -/
def procCells (p : KProc) (x0 x1 x2 x3 y0 y1 y2 y3 : Value) : List Value := [sv p.name, .int .i64 p.number, x0, x1, x2, x3, y0, y1, y2, y3, .int .u8 p.collate, .int .i64 p.timeout]

/-- The slice v shows these procedures. -/
def Procs (R : Nat → Prop) (w : World) (l : List KProc) (v : Value) : Prop :=
  l.length ≤ 1000 ∧ (∀ p ∈ l, p.name.length ≤ 1000 ∧ p.collate ≤ 255) ∧
  ((l = [] ∧ ∃ a c, v = .slice a 0 c) ∨
   ∃ g off cap, R g ∧ v = .slice (some ⟨g, off, none⟩) l.length cap ∧ l.length ≤ cap ∧ ∀ i p, l[i]? = some p → ∃ x0 x1 x2 x3 y0 y1 y2 y3,
    (∀ j u, (procCells p x0 x1 x2 x3 y0 y1 y2 y3)[j]? = some u → w.cell? ⟨g, off + i * 12 + j, none⟩ = some u) ∧
    Shows R w p.takes (.agg #[x0, x1, x2, x3]) ∧ Shows R w p.answers (.agg #[y0, y1, y2, y3]))

/-- The value v shows the interface t. -/
def Tabled (R : Nat → Prop) (w : World) (t : KTab) (v : Value) : Prop :=
  ∃ tv fv pv, v = .agg #[sv t.name, .int .i64 t.number, .int .i64 t.version, tv, fv, pv] ∧ t.name.length ≤ 1000 ∧ Aliases R w t.types tv ∧ Faults R w t.faults fv ∧ Procs R w t.procs pv

theorem Faults.fr {R S : Nat → Prop} {w w' : World} {l : List (Txt × Int)} {v : Value} (h : Faults R w l v) (hf : Fr S w w') (hS : ∀ k, R k → ¬ S k) : Faults R w' l v := by
  obtain ⟨h1, h2, h3 | ⟨g, off, cap, hg, rfl, hle, hc⟩⟩ := h
  · exact ⟨h1, h2, .inl h3⟩
  · exact ⟨h1, h2, .inr ⟨g, off, cap, hg, rfl, hle, fun i x hi => ⟨cell_fr hf hS hg (hc i x hi).1, cell_fr hf hS hg (hc i x hi).2⟩⟩⟩

theorem Faults.mono {R S : Nat → Prop} {w : World} {l : List (Txt × Int)} {v : Value} (h : Faults R w l v) (hS : ∀ k, k < w.heap.size → R k → S k) : Faults S w l v := by
  obtain ⟨h1, h2, h3 | ⟨g, off, cap, hg, rfl, hle, hc⟩⟩ := h
  · exact ⟨h1, h2, .inl h3⟩
  · cases l with
    | nil => exact ⟨h1, h2, .inl ⟨rfl, _, _, rfl⟩⟩
    | cons x l => exact ⟨h1, h2, .inr ⟨g, off, cap, hS g (World.block_lt_of_cell? w _ (hc 0 x rfl).1) hg, rfl, hle, hc⟩⟩

theorem Procs.fr {R S : Nat → Prop} {w w' : World} {l : List KProc} {v : Value} (h : Procs R w l v) (hf : Fr S w w') (hS : ∀ k, R k → ¬ S k) : Procs R w' l v := by
  obtain ⟨h1, h2, h3 | ⟨g, off, cap, hg, rfl, hle, hc⟩⟩ := h
  · exact ⟨h1, h2, .inl h3⟩
  · refine ⟨h1, h2, .inr ⟨g, off, cap, hg, rfl, hle, fun i p hi => ?_⟩⟩
    obtain ⟨x0, x1, x2, x3, y0, y1, y2, y3, c, hx, hy⟩ := hc i p hi
    exact ⟨x0, x1, x2, x3, y0, y1, y2, y3, fun j u hj => cell_fr hf hS hg (c j u hj), Shows.fr hf hS _ _ hx, Shows.fr hf hS _ _ hy⟩

theorem Procs.mono {R S : Nat → Prop} {w : World} {l : List KProc} {v : Value} (h : Procs R w l v) (hS : ∀ k, k < w.heap.size → R k → S k) : Procs S w l v := by
  obtain ⟨h1, h2, h3 | ⟨g, off, cap, hg, rfl, hle, hc⟩⟩ := h
  · exact ⟨h1, h2, .inl h3⟩
  · cases l with
    | nil => exact ⟨h1, h2, .inl ⟨rfl, _, _, rfl⟩⟩
    | cons q l =>
      refine ⟨h1, h2, .inr ⟨g, off, cap, ?_, rfl, hle, fun i p hi => ?_⟩⟩
      · obtain ⟨x0, x1, x2, x3, y0, y1, y2, y3, c, _⟩ := hc 0 q rfl
        exact hS g (World.block_lt_of_cell? w _ (c 0 _ rfl)) hg
      · obtain ⟨x0, x1, x2, x3, y0, y1, y2, y3, c, hx, hy⟩ := hc i p hi
        exact ⟨x0, x1, x2, x3, y0, y1, y2, y3, c, Shows.mono hS _ _ hx, Shows.mono hS _ _ hy⟩

theorem Tabled.fr {R S : Nat → Prop} {w w' : World} {t : KTab} {v : Value} (h : Tabled R w t v) (hf : Fr S w w') (hS : ∀ k, R k → ¬ S k) : Tabled R w' t v := by
  obtain ⟨tv, fv, pv, e, hn, h1, h2, h3⟩ := h
  exact ⟨tv, fv, pv, e, hn, h1.fr hf hS, h2.fr hf hS, h3.fr hf hS⟩

theorem Tabled.mono {R S : Nat → Prop} {w : World} {t : KTab} {v : Value} (h : Tabled R w t v) (hS : ∀ k, k < w.heap.size → R k → S k) : Tabled S w t v := by
  obtain ⟨tv, fv, pv, e, hn, h1, h2, h3⟩ := h
  exact ⟨tv, fv, pv, e, hn, h1.mono hS, h2.mono hS, h3.mono hS⟩

theorem Faults.shape {R : Nat → Prop} {w : World} {l : List (Txt × Int)} {v : Value} (h : Faults R w l v) : ∃ a c, v = .slice a l.length c ∧ (l.length = 0 ∨ l.length ≤ c ∧ ∃ g off, R g ∧ a = some ⟨g, off, none⟩ ∧ ∀ i x, l[i]? = some x →
    w.cell? ⟨g, off + i * 2, none⟩ = some (sv x.1) ∧ w.cell? ⟨g, off + i * 2 + 1, none⟩ = some (.int .i64 x.2)) := by
  obtain ⟨h1, h2, ⟨rfl, a, c, rfl⟩ | ⟨g, off, cap, hg, rfl, hle, hc⟩⟩ := h
  · exact ⟨a, c, rfl, .inl rfl⟩
  · exact ⟨_, cap, rfl, .inr ⟨hle, g, off, hg, rfl, hc⟩⟩

theorem Procs.shape {R : Nat → Prop} {w : World} {l : List KProc} {v : Value} (h : Procs R w l v) : ∃ a c, v = .slice a l.length c ∧ (l.length = 0 ∨ l.length ≤ c ∧ ∃ g off, R g ∧ a = some ⟨g, off, none⟩ ∧ ∀ i p, l[i]? = some p → ∃ x0 x1 x2 x3 y0 y1 y2 y3,
    (∀ j u, (procCells p x0 x1 x2 x3 y0 y1 y2 y3)[j]? = some u → w.cell? ⟨g, off + i * 12 + j, none⟩ = some u) ∧
    Shows R w p.takes (.agg #[x0, x1, x2, x3]) ∧ Shows R w p.answers (.agg #[y0, y1, y2, y3])) := by
  obtain ⟨h1, h2, ⟨rfl, a, c, rfl⟩ | ⟨g, off, cap, hg, rfl, hle, hc⟩⟩ := h
  · exact ⟨a, c, rfl, .inl rfl⟩
  · exact ⟨_, cap, rfl, .inr ⟨hle, g, off, hg, rfl, hc⟩⟩

theorem Faults.take {R : Nat → Prop} {w : World} {l : List (Txt × Int)} {a : Option Addr} {n c : Nat} (h : Faults R w l (.slice a n c)) (i : Nat) (hi : i ≤ l.length) : Faults R w (l.take i) (.slice a i c) := by
  obtain ⟨h1, h2, h3⟩ := h
  refine ⟨by rw [List.length_take]; omega, fun x hx => h2 x (List.mem_of_mem_take hx), ?_⟩
  rcases h3 with ⟨rfl, a', c', e⟩ | ⟨g, off, cap, hg, e, hle, hc⟩
  · cases e
    simp at hi
    subst hi
    exact .inl ⟨rfl, _, _, rfl⟩
  · cases e
    have e1 : (l.take i).length = i := by rw [List.length_take]; omega
    refine .inr ⟨g, off, _, hg, by rw [e1], by omega, fun j x hj => hc j x ?_⟩
    rw [List.getElem?_take] at hj
    split at hj
    · exact hj
    · cases hj

theorem Procs.take {R : Nat → Prop} {w : World} {l : List KProc} {a : Option Addr} {n c : Nat} (h : Procs R w l (.slice a n c)) (i : Nat) (hi : i ≤ l.length) : Procs R w (l.take i) (.slice a i c) := by
  obtain ⟨h1, h2, h3⟩ := h
  refine ⟨by rw [List.length_take]; omega, fun x hx => h2 x (List.mem_of_mem_take hx), ?_⟩
  rcases h3 with ⟨rfl, a', c', e⟩ | ⟨g, off, cap, hg, e, hle, hc⟩
  · cases e
    simp at hi
    subst hi
    exact .inl ⟨rfl, _, _, rfl⟩
  · cases e
    have e1 : (l.take i).length = i := by rw [List.length_take]; omega
    refine .inr ⟨g, off, _, hg, by rw [e1], by omega, fun j x hj => hc j x ?_⟩
    rw [List.getElem?_take] at hj
    split at hj
    · exact hj
    · cases hj

/-- May it number something? -/
def validN (n : Int) : Bool := decide (0 ≤ n ∧ n ≤ 65535)

def noProc : KProc := ⟨[], 0, .nil, .nil, 0, 0⟩

/-- The error of the alias at place i. -/
def aliasE (ts : List (Txt × KT)) (i : Nat) : Nat :=
  if nameE ((ts.take i).map (·.1)) (ts.getD i ([], .nil)).1 = 0 then rightE (ts.take i) (ts.getD i ([], .nil)).2 5 else nameE ((ts.take i).map (·.1)) (ts.getD i ([], .nil)).1

/-- The error of the fault at place i, behind the names bef. -/
def faultE (bef : List Txt) (fs : List (Txt × Int)) (i : Nat) : Nat :=
  if nameE (bef ++ (fs.take i).map (·.1)) (fs.getD i ([], 0)).1 = 0 then
    if !validN (fs.getD i ([], 0)).2 then 2 else if (fs.take i).any (fun g => decide (g.2 = (fs.getD i ([], 0)).2)) then 9 else 0
  else nameE (bef ++ (fs.take i).map (·.1)) (fs.getD i ([], 0)).1

/-- The error of a type that a procedure takes or answers. -/
def usedE (ts : List (Txt × KT)) (x : KT) : Nat := if rightE ts x 5 = 0 then (wholeE 20 ts x 200).e else rightE ts x 5

/-- The error of a procedure, but for its name. -/
def procE1 (ts : List (Txt × KT)) (ps : List KProc) (p : KProc) : Nat :=
  if !validN p.number || decide (p.timeout < 1) || decide (1000 < p.timeout) || decide (3 ≤ p.collate) then 2
  else if ps.any (fun q => decide (q.number = p.number)) then 9
  else if usedE ts p.takes = 0 then usedE ts p.answers else usedE ts p.takes

/-- The error of the procedure at place i, behind the names bef. -/
def procE (bef : List Txt) (ts : List (Txt × KT)) (ps : List KProc) (i : Nat) : Nat :=
  if nameE (bef ++ (ps.take i).map (·.name)) (ps.getD i noProc).name = 0 then procE1 ts (ps.take i) (ps.getD i noProc)
  else nameE (bef ++ (ps.take i).map (·.name)) (ps.getD i noProc).name

/-- THE CHECK OF AN INTERFACE. -/
def checkE (t : KTab) : Nat :=
  if !named t.name then 8
  else if !validN t.number || !validN t.version then 2
  else if 16 < t.types.length ∨ 16 < t.faults.length ∨ 16 < t.procs.length then 7
  else if firstE (aliasE t.types) t.types.length ≠ 0 then firstE (aliasE t.types) t.types.length
  else if firstE (faultE (t.types.map (·.1)) t.faults) t.faults.length ≠ 0 then firstE (faultE (t.types.map (·.1)) t.faults) t.faults.length
  else firstE (procE (t.types.map (·.1) ++ t.faults.map (·.1)) t.types t.procs) t.procs.length

end Go.Proofs.Ythokfmmbiilllaa

/-
  package kind: a type made whole.
-/
namespace Go.Proofs.Ythokfmmbiilllaa
open Go.RowKit

theorem results_cell_tmp_row {P : Program} {fn : Func} {p u : Tmp} {ty : TypeId} (h : fn.results = #[.cell p ty, .tmp u]) (tmps : Array Value) (w : World) (g : Nat) (t : TypeId) (cs : Array Value) (fr : Nat × Nat) (d : TypeDesc)
    (hp : tmps.getD p undef = .pointer (some ⟨g, 0, none⟩)) (hg : w.heap[g]? = some (.cells cs t fr))
    (hu : P.underlying ty = some d) (hd : (match d with | .struct _ | .array _ _ => true | _ => false) = true) (hi : (P.info? ty).map (·.size) = some cs.size) :
    (results fn tmps).run P w = .ok (.tuple #[.agg cs, tmps.getD u undef]) w := by
  rw [results_cell_tmp h]
  have hp' : tmps[p]?.getD undef = .pointer (some ⟨g, 0, none⟩) := by simpa using hp
  simp [hp', asAddr, run_loadVar_row w g t ty cs fr d hg hu hd hi, Result.andThen]

theorem zero_shows (R : Nat → Prop) (w : World) : Shows R w zeroT (.agg #[.int .u8 0, .int .i64 0, .slice none 0 0, .slice none 0 0]) :=
  ⟨_, _, rfl, by omega, by omega, ⟨by simp, by simp, .inl ⟨rfl, _, _, rfl⟩⟩, .inl ⟨rfl, _, _, rfl⟩⟩

/-- What a call of whole leaves: its answer; the count; the type in new memory. -/
def Wholed (r : WR) (lb : Nat) (w : World) (e : Ending) (w' : World) : Prop :=
  ∃ tv, e = .returned (.tuple #[tv, .int .i64 (r.e : Nat)]) ∧ Fr (fun k => k = lb) w w' ∧ w'.heap[lb]? = some (.cells #[.int .i64 (r.left : Nat)] 3 (0, 0)) ∧ Shows (fun k => w.heap.size ≤ k) w' r.t tv ∧ r.left ≤ 1000

theorem setCell_four {w : World} {b : Nat} {x0 x1 x2 x3 y : Value} {t : TypeId} (i : Nat) (h : w.heap[b]? = some (.cells #[x0, x1, x2, x3] t (0, 0))) :
    (w.setCell ⟨b, i, none⟩ y).heap[b]? = some (.cells (#[x0, x1, x2, x3].setIfInBounds i y) t (0, 0)) := by
  have hb := lt_of_block h
  unfold World.setCell
  simp only [Array.getElem?_modify, if_true, h, Option.map_some]
  simp

theorem store_four {w : World} {b : Nat} {x0 x1 x2 x3 y0 y1 y2 y3 : Value} {t : TypeId} (h : w.heap[b]? = some (.cells #[x0, x1, x2, x3] t (0, 0))) :
    ((((w.setCell ⟨b, 0, none⟩ y0).setCell ⟨b, 1, none⟩ y1).setCell ⟨b, 2, none⟩ y2).setCell ⟨b, 3, none⟩ y3).heap[b]? = some (.cells #[y0, y1, y2, y3] t (0, 0)) :=
  setCell_four 3 (setCell_four 2 (setCell_four 1 (setCell_four 0 h)))

theorem fr_four {w : World} {b : Nat} (y0 y1 y2 y3 : Value) {S : Nat → Prop} {w0 : World} (f : Fr S w0 w) (hb : b < w0.heap.size → S b) :
    Fr S w0 ((((w.setCell ⟨b, 0, none⟩ y0).setCell ⟨b, 1, none⟩ y1).setCell ⟨b, 2, none⟩ y2).setCell ⟨b, 3, none⟩ y3) :=
  (((f.setCell (p := ⟨b, 0, none⟩) hb _).setCell (p := ⟨b, 1, none⟩) hb _).setCell (p := ⟨b, 2, none⟩) hb _).setCell (p := ⟨b, 3, none⟩) hb _

theorem other_four (w : World) {b : Nat} (y0 y1 y2 y3 : Value) {g : Nat} (hg : g ≠ b) :
    ((((w.setCell ⟨b, 0, none⟩ y0).setCell ⟨b, 1, none⟩ y1).setCell ⟨b, 2, none⟩ y2).setCell ⟨b, 3, none⟩ y3).heap[g]? = w.heap[g]? := by
  rw [Below.heap_setCell _ _ _ _ (by simpa using hg), Below.heap_setCell _ _ _ _ (by simpa using hg), Below.heap_setCell _ _ _ _ (by simpa using hg), Below.heap_setCell _ _ _ _ (by simpa using hg)]

/-- What holds of every operation's value goes on to hold, if each saying does. -/
theorem pres_list {L : List (Value → World → Prop)} {w w' : World} (h : ∀ p ∈ L, ∀ u, p u w → p u w') : ∀ (j : Nat) (u : Value), L.getD j (fun _ _ => True) u w → L.getD j (fun _ _ => True) u w' := by
  intro j u hj
  by_cases hl : j < L.length
  · have e : L.getD j (fun _ _ => True) = L[j] := by simp [List.getD, hl]
    rw [e] at hj ⊢
    exact h _ (List.getElem_mem hl) u hj
  · have e : L.getD j (fun _ _ => True) = fun _ _ => True := by simp [List.getD, hl]
    rw [e]
    trivial

theorem wholed_zero {w w' : World} {e lb : Nat} {l : Nat} (f : Fr (fun k => k = lb) w w') (hb : w'.heap[lb]? = some (.cells #[.int .i64 l] 3 (0, 0))) (hl : l ≤ 1000) :
    Wholed ⟨e, zeroT, l⟩ lb w (.returned (.tuple #[.agg #[.int .u8 0, .int .i64 0, .slice none 0 0, .slice none 0 0], .int .i64 (e : Nat)])) w' :=
  ⟨_, rfl, f, hb, zero_shows _ _, hl⟩

theorem heap_alloc_two (w : World) (o o' : Obj) : ((w.alloc o).alloc o').heap[w.heap.size + 1]? = some o' := by
  have := heap_alloc_new (w.alloc o) o'
  simpa using this

set_option maxRecDepth 100000 in
set_option maxHeartbeats 16000000 in
theorem whole_zero (al : List (Txt × KT)) (t : KT) (R : Nat → Prop) (v av : Value) (lb l : Nat) (w : World) (hl : l ≤ 1000) (hsh : Shows R w t v) (hb : w.heap[lb]? = some (.cells #[.int .i64 l] 3 (0, 0))) :
    Calls Try.prog 69 #[v, av, .int .i64 0, .pointer (some ⟨lb, 0, none⟩)] w (Wholed (wholeE 0 al t l) lb w) := by
  obtain ⟨k, m, a, n, c, a', n', c', rfl⟩ := hsh.four
  have Hb := Lib.hid hb
  clear hsh hb
  go_enter Try.func69, Try.ntmps69
  go_wp2
  refine bodyPost_ret (results_cell_tmp_row rfl _ _ (w.heap.size + 1) 32 _ _ _ rfl (heap_alloc_two _ _ _) Try.underlying32 rfl (by kernel_rfl)) rfl ?_
  have f : Fr (fun k => k = lb) w ((w.alloc (.cells #[.int .u8 k, .int .i64 m, .slice a n c, .slice a' n' c'] 32)).alloc (.cells #[.int .u8 0, .int .i64 0, .slice none 0 0, .slice none 0 0] 32)) := ((Fr.refl _ _).alloc _).alloc _
  have hlb := lt_of_block Hb.out
  exact wholed_zero (e := 5) f (by rw [Below.heap_alloc _ _ _ (by simp; omega), Below.heap_alloc _ _ _ hlb]; exact Hb.out) hl

/-- The hypothesis of the induction on levels. -/
def WholeAt (lv : Nat) : Prop := ∀ (al : List (Txt × KT)) (t : KT) (R : Nat → Prop) (v av : Value) (lz : Int) (lb l : Nat) (w : World), lz = lv → lv ≤ 100 → l ≤ 1000 → ¬ R lb → Shows R w t v → Aliases R w al av → w.heap[lb]? = some (.cells #[.int .i64 l] 3 (0, 0)) →
    Calls Try.prog 69 #[v, av, .int .i64 lz, .pointer (some ⟨lb, 0, none⟩)] w (Wholed (wholeE lv al t l) lb w)

set_option maxRecDepth 100000 in
set_option maxHeartbeats 16000000 in
theorem whole_ref (lv : Nat) (ih : WholeAt lv) (al : List (Txt × KT)) (m : Int) (ns : List Txt) (n : Nat) (of : Nat → KT) (R : Nat → Prop) (v av : Value) (lz : Int) (lb l : Nat) (w : World) (hlz : lz = lv + 1) (hlv : lv ≤ 99) (hl : l ≤ 1000) (hR : ¬ R lb) (hsh : Shows R w (.mk 9 m ns n of) v) (hal : Aliases R w al av) (hb : w.heap[lb]? = some (.cells #[.int .i64 l] 3 (0, 0))) :
    Calls Try.prog 69 #[v, av, .int .i64 lz, .pointer (some ⟨lb, 0, none⟩)] w (Wholed (wholeE (lv + 1) al (.mk 9 m ns n of) l) lb w) := by
  have hlb := lt_of_block hb
  have hsh0 := Lib.hid hsh
  obtain ⟨k', m', a, nn, c, a', n', c', hv⟩ := hsh.four
  obtain ⟨rfl, rfl⟩ : 9 = k' ∧ m = m' := by
    obtain ⟨vn, vo, e, _⟩ := hsh
    rw [hv] at e
    simp at e
    omega
  subst hv
  have hl' : (lz == 0) = false := by simp; omega
  have hz0 : 1 ≤ lz := by omega
  have hz1 : lz ≤ 100 := by omega
  have Hlz := Lib.hid hlz
  have Hb := Lib.hid hb
  have Hal := Lib.hid hal
  clear hsh hlz hb hal
  have e9 : wholeE (lv + 1) al (.mk 9 m ns n of) l = if standsN al ns < 0 then ⟨10, zeroT, l⟩ else wholeE lv (al.take (standsN al ns).toNat) (al.getD (standsN al ns).toNat ([], .nil)).2 l := by
    simp only [wholeE, if_true]
  have E9 := Lib.hid e9
  clear e9
  obtain ⟨w0, hw0⟩ : ∃ w0, w0 = (w.alloc (.cells #[.int .u8 (9 : Nat), .int .i64 m, .slice a nn c, .slice a' n' c'] 32)).alloc (.cells #[.int .u8 0, .int .i64 0, .slice none 0 0, .slice none 0 0] 32) := ⟨_, rfl⟩
  have f0 : Hid (Fr (fun _ => False) w w0) := Lib.hid (by rw [hw0]; exact ((Fr.refl _ _).alloc _).alloc _)
  have q4 : Hid (w0.heap[w.heap.size]? = some (.cells #[.int .u8 (9 : Nat), .int .i64 m, .slice a nn c, .slice a' n' c'] 32 (0, 0))) := Lib.hid (by rw [hw0, Below.heap_alloc _ _ _ (by simp)]; exact heap_alloc_new _ _)
  have q8 : Hid (w0.heap[w.heap.size + 1]? = some (.cells #[.int .u8 0, .int .i64 0, .slice none 0 0, .slice none 0 0] 32 (0, 0))) := Lib.hid (by rw [hw0]; exact heap_alloc_two _ _ _)
  obtain ⟨c0, c1, c2, c3⟩ := cell_of_four q4.out
  have hsf := stands_any R al (.mk 9 m ns n of) _ av w0 (Shows.fr f0.out (fun _ _ h => h) _ _ hsh0.out) (Hal.out.fr f0.out (fun _ _ h => h))
  have hse : standsE al (.mk 9 m ns n of) = standsN al ns := rfl
  rw [hse] at hsf
  have hlt := Lib.hid (@standsN_lt al ns)
  obtain ⟨E, hE⟩ : ∃ E, E = standsN al ns := ⟨_, rfl⟩
  rw [← hE] at hsf
  have HE := Lib.hid hE
  clear hE hse
  by_cases he : E < 0
  · go_enter Try.func69, Try.ntmps69
    go_wp2_with fail
    rw [hw0] at hsf
    refine hsf.mono ?_
    rintro e w1 ⟨rfl, f1⟩
    rw [← hw0] at f1
    have q8' := box_kept q8.out f1 (fun h => h)
    obtain ⟨b0, b1, b2, b3⟩ := cell_of_four q8'
    have z0 : w1.frozen? ⟨w.heap.size + 1, 0, none⟩ = false := by simp [World.frozen?, q8']
    have z1 : w1.frozen? ⟨w.heap.size + 1, 1, none⟩ = false := by simp [World.frozen?, q8']
    have z2 : w1.frozen? ⟨w.heap.size + 1, 2, none⟩ = false := by simp [World.frozen?, q8']
    have z3 : w1.frozen? ⟨w.heap.size + 1, 3, none⟩ = false := by simp [World.frozen?, q8']
    have Q8 := Lib.hid q8'
    have F1 := Lib.hid f1
    clear q8' f1 hw0 hsf
    go_wp2
    refine bodyPost_ret (results_cell_tmp_row rfl _ _ (w.heap.size + 1) 32 _ _ _ rfl (store_four Q8.out) Try.underlying32 rfl (by kernel_rfl)) rfl ?_
    rw [E9.out, ← HE.out, if_pos he]
    have hk := box_kept Hb.out (f0.out.trans F1.out (fun _ _ h => h)) (fun h => h)
    exact wholed_zero (e := 10) (fr_four _ _ _ _ ((f0.out.trans F1.out (fun _ _ h => h)).mono (fun _ _ h => absurd h (fun h => h))) (fun h => absurd h (by omega))) (by rw [other_four _ _ _ _ _ (by omega)]; exact hk) hl
  · obtain ⟨i, rfl⟩ : ∃ i : Nat, E = i := ⟨E.toNat, by omega⟩
    have hi : i < al.length := by
      have := (hlt.out (by rw [← HE.out]; omega)).1
      rw [← HE.out] at this
      simpa using this
    have hal0 := Hal.out
    have hall : al.length ≤ 1000 := hal0.1
    obtain ⟨aa, ca, rfl, hsa⟩ := hal0.shape
    have halv := Lib.hid hal0
    clear hal0
    rcases hsa with hz | ⟨hcap, ga, oa, hg, rfl, hcell⟩
    · omega
    obtain ⟨nm, tt, htt⟩ : ∃ nm tt, al[i]? = some (nm, tt) := ⟨al[i].1, al[i].2, by rw [List.getElem?_eq_getElem hi]⟩
    obtain ⟨x0, x1, x2, x3, _, y0, y1, y2, y3, hx⟩ := hcell i _ htt
    obtain ⟨pk, pm, pa, pn, pc, pa', pn', pc', rfl, rfl, rfl, rfl⟩ := hx.cells
    have HX := Lib.hid hx
    have hgl : ga < w.heap.size := World.block_lt_of_cell? w _ y0
    have Y := Lib.hid (And.intro y0 (And.intro y1 (And.intro y2 y3)))
    have Htt := Lib.hid htt
    clear hx hcell htt y0 y1 y2 y3
    have hi' : (i : Int) < (al.length : Int) := by omega
    have hic : (i : Int) ≤ (ca : Int) := by omega
    have hiz : (0 : Int) ≤ (i : Int) := by omega
    have hwr : IntKind.i64.wrap (lz - 1) = lz - 1 := IntWalk.i64_in _ (by omega)
    go_enter Try.func69, Try.ntmps69
    go_wp2_with fail
    rw [hw0] at hsf
    refine hsf.mono ?_
    rintro e w1 ⟨rfl, f1⟩
    rw [← hw0] at f1
    have F1 := Lib.hid (f0.out.trans f1 (fun _ _ h => h))
    have Q8 := Lib.hid (box_kept q8.out f1 (fun h => h))
    have Bq := Lib.hid (box_kept Hb.out F1.out (fun h => h))
    clear f1 hw0 hsf c0 c1 c2 c3
    go_wp2_with fail
    obtain ⟨r, hr⟩ : ∃ r, r = wholeE lv (al.take i) tt l := ⟨_, rfl⟩
    have HR := Lib.hid hr
    have hcall := Lib.hid (fun wx lz' hz f hbx => ih (al.take i) tt (fun k => R k ∧ k < w.heap.size) _ (.slice (some ⟨ga, oa, none⟩) i ca) lz' lb l wx hz (by omega) hl (fun h => hR h.1)
      (Shows.fr (R := fun k => R k ∧ k < w.heap.size) (S := fun k => k = lb ∨ k = w.heap.size + 1) f (fun k hk h => by rcases h with h | h; exact hR (h ▸ hk.1); omega) _ _ (Shows.mono (fun k hk h => ⟨h, hk⟩) _ _ HX.out))
      (((Aliases.take halv.out i (by omega)).mono (fun k hk h => ⟨h, hk⟩)).fr (R := fun k => R k ∧ k < w.heap.size) (S := fun k => k = lb ∨ k = w.heap.size + 1) f (fun k hk h => by rcases h with h | h; exact hR (h ▸ hk.1); omega)) hbx)
    clear hr
    have HW1 : Hid (w.heap.size + 2 ≤ w1.drew.heap.size) := Lib.hid (by have := lt_of_block Q8.out; show _ ≤ w1.heap.size; omega)
    have HY := Lib.hid (fun (wx : World) (f : Fr (fun k => k = lb ∨ k = w.heap.size + 1) w1.drew wx) =>
      have fw : Fr (fun k => k = lb ∨ k = w.heap.size + 1) w wx := (F1.out.drew.mono (fun _ _ h => absurd h (fun h => h))).trans f (fun _ _ h => h)
      have up : ∀ {o : Nat} {u : Value}, w.cell? ⟨ga, o, none⟩ = some u → wx.cell? ⟨ga, o, none⟩ = some u := fun h => cell_fr (R := fun k => R k ∧ k < w.heap.size) fw (fun k hk h => by rcases h with h | h; exact hR (h ▸ hk.1); omega) ⟨hg, hgl⟩ h
      And.intro fw (And.intro (up Y.out.1) (And.intro (up Y.out.2.1) (And.intro (up Y.out.2.2.1) (up Y.out.2.2.2)))))
    refine wp_region_toldU (by kernel_rfl) (fun a b => Fr (fun k => k = lb ∨ k = w.heap.size + 1) a b) (fun w => Fr.refl _ w) (fun _ _ _ h k => h.trans k (fun _ _ h => h))
      [some 28, some 29, some 30, some 31, some 32, some 33, some 34, some 35, some 36, some 37, some 38, some 39, some 40, some 41, none, some 9] rfl (by decide) (by intro d hd; simp at hd ⊢; omega)
      (fun j wx => (j = 11 → wx.heap[lb]? = some (.cells #[.int .i64 l] 3 (0, 0))) ∧ (j = 14 → wx.heap[w.heap.size + 1]? = some (.cells #[.int .u8 0, .int .i64 0, .slice none 0 0, .slice none 0 0] 32 (0, 0))))
      (fun j v wx => ([fun v _ => v = .slice (some ⟨ga, oa, none⟩) al.length ca, fun v _ => v = .int .i64 i, fun v _ => v = .pointer (some ⟨ga, oa + i * 5, none⟩), fun v _ => v = .pointer (some ⟨ga, oa + i * 5 + 1, none⟩),
        fun v _ => v = .agg #[.int .u8 pk, .int .i64 pm, .slice pa pn pc, .slice pa' pn' pc'], fun v _ => v = .slice (some ⟨ga, oa, none⟩) al.length ca, fun v _ => v = .int .i64 i, fun v _ => v = .slice (some ⟨ga, oa, none⟩) i ca,
        fun v _ => v = .int .i64 lz, fun v _ => v = .int .i64 (lz - 1), fun v _ => v = .pointer (some ⟨lb, 0, none⟩),
        fun v wx => (∃ tv, v = .tuple #[tv, .int .i64 (r.e : Nat)] ∧ Shows (fun k => w.heap.size + 2 ≤ k) wx r.t tv) ∧ wx.heap[lb]? = some (.cells #[.int .i64 (r.left : Nat)] 3 (0, 0)) ∧ r.left ≤ 1000,
        fun v wx => Shows (fun k => w.heap.size + 2 ≤ k) wx r.t v, fun v _ => v = .int .i64 (r.e : Nat),
        fun _ wx => ∃ z0 z1 z2 z3, wx.heap[w.heap.size + 1]? = some (.cells #[z0, z1, z2, z3] 32 (0, 0)) ∧ Shows (fun k => w.heap.size + 2 ≤ k) wx r.t (.agg #[z0, z1, z2, z3]),
        fun v _ => v = .int .i64 (r.e : Nat)] : List (Value → World → Prop)).getD j (fun _ _ => True) v wx)
      (by kernel_rfl) ?u0 ?step ?fin
    case u0 => exact fun j _ => ⟨fun _ => Bq.out, fun _ => Q8.out⟩
    case step =>
      intro vals
      simp only [frOfU, fillU, List.setIfInBounds_toArray, List.set_cons_succ, List.set_cons_zero]
      repeat' (first | exact AllOps.nil | refine AllOps.cons ?_ ?_)
      all_goals
        intro wx hle he hu hw K hK
        clear hw
        simp only [Act.put, List.setIfInBounds_toArray, List.set_cons_succ, List.set_cons_zero, List.getD_cons_zero, List.getD_cons_succ] at hK
        simp only [List.mem_cons, List.not_mem_nil, or_false, forall_eq_or_imp, forall_eq, Region.binds, forall_const, false_imp_iff, List.getD_cons_zero, List.getD_cons_succ] at he
        obtain ⟨fw, y0, y1, y2, y3⟩ := HY.out wx hle
        have FW := Lib.hid fw
        have FW0 : w.heap.size + 2 ≤ wx.heap.size := Nat.le_trans HW1.out hle.size
        clear fw hle
      all_goals first | ((try simp only [he] at hK ⊢); go_simp; exact hK _ _ (Fr.refl _ _) rfl (fun _ _ h => h) (fun _ _ _ h => h)) | skip
      · obtain ⟨h4, h7, h9, h10⟩ := he
        simp only [h4, h7, h9, h10] at hK ⊢
        go_simp
        go_at_call 69
        have hbx := hu.1 rfl
        refine (hcall.out wx (lz - 1) (by have := Hlz.out; omega) FW.out hbx).mono ?_
        rintro e1 wa ⟨tv, rfl, fa, hla, hta, hle1⟩
        rw [← HR.out] at hla hta hle1 ⊢
        have hta' := Shows.mono (S := fun k => w.heap.size + 2 ≤ k) (fun k _ h => Nat.le_trans FW0 h) _ _ hta
        refine hK _ _ (fa.mono (fun _ _ h => .inl h)) ⟨⟨tv, rfl, hta'⟩, hla, hle1⟩ ?_ ?_
        · intro j hj h
          exact ⟨fun e => absurd e hj, fun e => by rw [fa.block _ (lt_of_block (h.2 e)) (by omega)]; exact h.2 e⟩
        · refine fun j u _ => pres_list ?_ j u
          have st : ∀ u, Shows (fun k => w.heap.size + 2 ≤ k) wx r.t u → Shows (fun k => w.heap.size + 2 ≤ k) wa r.t u := fun u h => Shows.fr (R := fun k => w.heap.size + 2 ≤ k) (S := fun k => k = lb) fa (fun k hk h => by omega) _ _ h
          simp only [List.mem_cons, List.not_mem_nil, or_false, forall_eq_or_imp, forall_eq, imp_self, implies_true, true_and, and_true]
          refine ⟨fun u h => ⟨?_, hla, hle1⟩, fun u h => st u h, fun u h => ?_⟩
          · obtain ⟨⟨tv', e', h'⟩, _⟩ := h
            exact ⟨tv', e', st _ h'⟩
          · obtain ⟨z0, z1, z2, z3, h1, h2⟩ := h
            exact ⟨z0, z1, z2, z3, by rw [fa.block _ (lt_of_block h1) (by omega)]; exact h1, st _ h2⟩
      · obtain ⟨⟨tv, hv, hs⟩, _, _⟩ := he
        simp only [hv] at hK ⊢
        go_simp
        exact hK _ _ (Fr.refl _ _) hs (fun _ _ h => h) (fun _ _ _ h => h)
      · obtain ⟨⟨tv, hv, hs⟩, _, _⟩ := he
        simp only [hv] at hK ⊢
        go_simp
        exact hK _ _ (Fr.refl _ _) rfl (fun _ _ h => h) (fun _ _ _ h => h)
      · have hs := he.1
        have hcl := he.2.1.2
        obtain ⟨k2, m2, a2, n2, c2, a3, n3, c3, h12⟩ := hs.four
        rw [h12] at hs
        clear he
        simp only [h12] at hK ⊢
        have h8 := hu.2 rfl
        obtain ⟨b0, b1, b2, b3⟩ := cell_of_four h8
        have z0 : wx.frozen? ⟨w.heap.size + 1, 0, none⟩ = false := by simp [World.frozen?, h8]
        have z1 : wx.frozen? ⟨w.heap.size + 1, 1, none⟩ = false := by simp [World.frozen?, h8]
        have z2 : wx.frozen? ⟨w.heap.size + 1, 2, none⟩ = false := by simp [World.frozen?, h8]
        have z3 : wx.frozen? ⟨w.heap.size + 1, 3, none⟩ = false := by simp [World.frozen?, h8]
        have H8 := Lib.hid h8
        clear h8 hu
        go_simp
        have f8 := fr_four (w := wx) (b := w.heap.size + 1) (.int .u8 k2) (.int .i64 m2) (.slice a2 n2 c2) (.slice a3 n3 c3) (S := fun k => k = w.heap.size + 1) (Fr.refl _ _) (fun _ => rfl)
        have st : ∀ u, Shows (fun k => w.heap.size + 2 ≤ k) wx r.t u → Shows (fun k => w.heap.size + 2 ≤ k) _ r.t u := fun u h => Shows.fr (R := fun k => w.heap.size + 2 ≤ k) (S := fun k => k = w.heap.size + 1) f8 (fun k hk h => by omega) _ _ h
        refine hK undef _ (f8.mono (fun _ _ h => .inr h)) ⟨_, _, _, _, store_four H8.out, st _ hs⟩ ?_ ?_
        · intro j hj h
          exact ⟨fun e => by rw [other_four _ _ _ _ _ (by omega)]; exact h.1 e, fun e => absurd e hj⟩
        · refine fun j u _ => pres_list ?_ j u
          simp only [List.mem_cons, List.not_mem_nil, or_false, forall_eq_or_imp, forall_eq, imp_self, implies_true, true_and, and_true]
          refine ⟨fun u h => ⟨?_, by rw [other_four _ _ _ _ _ (by omega)]; exact h.2.1, h.2.2⟩, fun u h => st u h, fun u h => ⟨_, _, _, _, store_four H8.out, st _ hs⟩⟩
          obtain ⟨⟨tv', e', h'⟩, _⟩ := h
          exact ⟨tv', e', st _ h'⟩
      · have h13 := he.1
        clear he
        go_simp
        simp only [h13] at hK ⊢
        exact hK _ _ (Fr.refl _ _) rfl (fun _ _ h => h) (fun _ _ _ h => h)
    case fin =>
      intro vals w' hle hV
      obtain ⟨z0, z1, z2, z3, h8, hs⟩ := hV 14 (by decide)
      have h15 := hV 15 (by decide)
      have hcl := (hV 11 (by decide)).2
      clear hV
      simp only [List.getD_cons_zero, List.getD_cons_succ] at h15 hcl
      have fw := (HY.out w' hle).1
      simp only [frOfU, fillU, List.setIfInBounds_toArray, List.set_cons_succ, List.set_cons_zero, h15]
      go_wp2
      refine bodyPost_ret (results_cell_tmp_row rfl _ _ (w.heap.size + 1) 32 _ _ _ rfl h8 Try.underlying32 rfl (by kernel_rfl)) rfl ?_
      have e1 : al.getD i ([], .nil) = (nm, tt) := by rw [List.getD_eq_getElem?_getD, Htt.out]; rfl
      have e2 : wholeE (lv + 1) al (.mk 9 m ns n of) l = r := by
        rw [E9.out, ← HE.out, if_neg (by omega), Int.toNat_natCast, e1, HR.out]
      rw [e2]
      exact ⟨_, rfl, ⟨fw.os, fw.tape, fw.output, fw.size, fun k hk hs => fw.block k hk (fun h => by rcases h with h | h; exact hs h; omega)⟩, hcl.1, Shows.mono (fun k _ h => Nat.le_trans (Nat.le_add_right _ _) h) _ _ hs, hcl.2⟩

/-- The slice pv owns a row of types alone, each in new memory of its own. -/
def TyRow (B : Nat) (w : World) (pv : Value) (ts : List KT) : Prop :=
  ∃ cs : List Value, w.ownsRow B 32 4 pv ts.length cs ∧ ∀ i t, ts[i]? = some t → ∃ x0 x1 x2 x3, cs[i * 4]? = some x0 ∧ cs[i * 4 + 1]? = some x1 ∧ cs[i * 4 + 2]? = some x2 ∧ cs[i * 4 + 3]? = some x3 ∧
    Shows (fun k => B ≤ k ∧ pv.ownBlock ≠ some k) w t (.agg #[x0, x1, x2, x3])

theorem TyRow.nil (B : Nat) (w : World) : TyRow B w (.slice none 0 0) [] := ⟨[], World.ownsRow_nil w B 32 4, by simp⟩

theorem TyRow.fr {B : Nat} {S : Nat → Prop} {w w' : World} {pv : Value} {ts : List KT} (h : TyRow B w pv ts) (f : Fr S w w') (hS : ∀ k, B ≤ k → ¬ S k) : TyRow B w' pv ts := by
  obtain ⟨cs, h1, h2⟩ := h
  refine ⟨cs, ownsRow_fr h1 f (fun k hk => hS k (World.ownsRow.lt h1 k hk).1), fun i t hi => ?_⟩
  obtain ⟨x0, x1, x2, x3, a0, a1, a2, a3, hx⟩ := h2 i t hi
  exact ⟨x0, x1, x2, x3, a0, a1, a2, a3, Shows.fr f (fun k hk => hS k hk.1) _ _ hx⟩

theorem TyRow.push {B : Nat} {w w1 w' : World} {pv pv' : Value} {ts : List KT} {t : KT} {cs : List Value} {y0 y1 y2 y3 : Value} {n : Nat} (h1 : ∀ i t, ts[i]? = some t → ∃ x0 x1 x2 x3, cs[i * 4]? = some x0 ∧ cs[i * 4 + 1]? = some x1 ∧ cs[i * 4 + 2]? = some x2 ∧ cs[i * 4 + 3]? = some x3 ∧
    Shows (fun k => B ≤ k ∧ pv.ownBlock ≠ some k) w t (.agg #[x0, x1, x2, x3])) (hl : cs.length = ts.length * 4) (hn : n = ts.length + 1) (ho : w'.ownsRow B 32 4 pv' n (cs ++ [y0, y1, y2, y3]))
    (f0 : Fr (fun _ => False) w w1) (hg : w1.grownBy w' pv.ownBlock) (hv : pv'.ownBlock = pv.ownBlock ∨ pv'.ownBlock = some w1.heap.size) (ht : Shows (fun k => B ≤ k ∧ pv.ownBlock ≠ some k) w t (.agg #[y0, y1, y2, y3])) : TyRow B w' pv' (ts ++ [t]) := by
  have key : ∀ (t : KT) (v : Value), Shows (fun k => B ≤ k ∧ pv.ownBlock ≠ some k) w t v → Shows (fun k => B ≤ k ∧ pv'.ownBlock ≠ some k) w' t v := by
    intro t v h
    have h1 := Shows.mono (S := fun k => (B ≤ k ∧ pv.ownBlock ≠ some k) ∧ k < w.heap.size) (fun k hk h => ⟨h, hk⟩) _ _ h
    have h2 := Shows.fr f0 (fun _ _ h => h) _ _ h1
    have h3 := Shows.fr (Fr.of_grown hg) (fun k hk e => hk.1.2 e.symm) _ _ h2
    refine Shows.mono (fun k _ h => ⟨h.1.1, fun e => ?_⟩) _ _ h3
    rcases hv with e' | e'
    · rw [e'] at e; exact h.1.2 e
    · rw [e'] at e; cases e; have := f0.size; omega
  refine ⟨cs ++ [y0, y1, y2, y3], by rw [List.length_append]; simpa [hn] using ho, fun i u hi => ?_⟩
  by_cases hlt : i < ts.length
  · rw [List.getElem?_append_left hlt] at hi
    obtain ⟨x0, x1, x2, x3, a0, a1, a2, a3, hx⟩ := h1 i u hi
    refine ⟨x0, x1, x2, x3, ?_, ?_, ?_, ?_, key _ _ hx⟩
    · rw [List.getElem?_append_left (by omega)]; exact a0
    · rw [List.getElem?_append_left (by omega)]; exact a1
    · rw [List.getElem?_append_left (by omega)]; exact a2
    · rw [List.getElem?_append_left (by omega)]; exact a3
  · have hi' := (List.getElem?_eq_some_iff.1 hi).1
    obtain rfl : i = ts.length := by simp at hi'; omega
    rw [List.getElem?_append_right (Nat.le_refl _)] at hi
    simp at hi
    subst hi
    refine ⟨y0, y1, y2, y3, ?_, ?_, ?_, ?_, key _ _ ht⟩
    · rw [List.getElem?_append_right (by omega), show ts.length * 4 - cs.length = 0 by omega]; rfl
    · rw [List.getElem?_append_right (by omega), show ts.length * 4 + 1 - cs.length = 1 by omega]; rfl
    · rw [List.getElem?_append_right (by omega), show ts.length * 4 + 2 - cs.length = 2 by omega]; rfl
    · rw [List.getElem?_append_right (by omega), show ts.length * 4 + 3 - cs.length = 3 by omega]; rfl

/-- A type over such a row. -/
theorem TyRow.shows {B : Nat} {w : World} {pv vn : Value} {ts : List KT} {k n : Nat} {m : Int} {ns : List Txt} (h : TyRow B w pv ts) (hn : ts.length = n) (hk : k ≤ 255) (hn1 : n ≤ 1000) (ht : Texts (fun k => B ≤ k) w ns vn) :
    Shows (fun k => B ≤ k) w (.mk k m ns n (fun i => ts.getD i .nil)) (.agg #[.int .u8 k, .int .i64 m, vn, pv]) := by
  subst hn
  obtain ⟨cs, h1, h2⟩ := h
  refine ⟨vn, pv, rfl, hk, hn1, ht, ?_⟩
  rcases h1.2 with ⟨rfl, h0⟩ | ⟨g, cap, cur, rfl, hb, hg, hle, _, hs, htk⟩
  · exact .inl ⟨h0, none, 0, rfl⟩
  · refine .inr ⟨g, 0, cap, hb, rfl, hle, fun i hi => ?_⟩
    obtain ⟨x0, x1, x2, x3, a0, a1, a2, a3, hx⟩ := h2 i ts[i] (List.getElem?_eq_getElem hi)
    have hplain : ∀ j, (⟨g, 0, none⟩ : Addr).add j = ⟨g, j, none⟩ := fun j => by unfold Addr.add; split <;> simp_all
    have hc := fun (j : Nat) (u : Value) (hu : cs[j]? = some u) => World.ownsRow.cells (g := g) h1 rfl j u hu
    simp only [hplain] at hc
    rw [Nat.zero_add]
    refine ⟨x0, x1, x2, x3, hc _ _ a0, hc _ _ a1, hc _ _ a2, hc _ _ a3, ?_⟩
    have e : ts.getD i .nil = ts[i] := by simp [List.getD, hi]
    show Shows _ w (ts.getD i .nil) _
    rw [e]
    exact Shows.mono (fun k _ h => h.1) _ _ hx

theorem Try.infoType : (Try.prog.info? 32).map (fun i => (i.zero, i.size, i.bytes)) = some (some (.agg #[.int .u8 0, .int .i64 0, .slice none 0 0, .slice none 0 0]), 4, 64) := by kernel_rfl

end Go.Proofs.Ythokfmmbiilllaa

/-
  package kind: a type made whole, part by part.
-/
namespace Go.Proofs.Ythokfmmbiilllaa
open Go.RowKit

theorem first_one4 {P : Program} {w : World} {g : Nat} {y0 y1 y2 y3 : Value} {t : TypeId} {fr : Nat × Nat} (c : Nat) (h : w.heap[g]? = some (.cells #[y0, y1, y2, y3] t fr)) :
    (Builtin.firstCells 4 1 (.slice (some ⟨g, 0, none⟩) 1 c)).run P w = .ok #[y0, y1, y2, y3] w := by
  have := run_firstCells_some (P := P) w 4 1 ⟨g, 0, none⟩ 1 c [y0, y1, y2, y3] rfl (by
    intro j v hj
    have hplain : (⟨g, 0, none⟩ : Addr).add j = ⟨g, j, none⟩ := by unfold Addr.add; split <;> simp_all
    rw [hplain, cell_of_row w g j _ t fr h]
    simpa using hj)
  simpa using this

set_option maxRecDepth 100000 in
set_option maxHeartbeats 32000000 in
theorem whole_rest (lv : Nat) (ih : WholeAt lv) (al : List (Txt × KT)) (k : Nat) (m : Int) (ns : List Txt) (n : Nat) (of : Nat → KT) (R : Nat → Prop) (v av : Value) (lz : Int) (lb l : Nat) (w : World) (hk9 : k ≠ 9) (hlz : lz = lv + 1) (hlv : lv ≤ 99) (hl : l ≤ 1000) (hR : ¬ R lb) (hsh : Shows R w (.mk k m ns n of) v) (hal : Aliases R w al av) (hb : w.heap[lb]? = some (.cells #[.int .i64 l] 3 (0, 0))) :
    Calls Try.prog 69 #[v, av, .int .i64 lz, .pointer (some ⟨lb, 0, none⟩)] w (Wholed (wholeE (lv + 1) al (.mk k m ns n of) l) lb w) := by
  obtain ⟨i0, hi, hz0, hz1, hz2⟩ := info_parts Try.infoType
  have hlb := lt_of_block hb
  obtain ⟨vn, vo, rfl, hk255, hn, ht, ho⟩ := hsh
  have Ht := Lib.hid ht
  obtain ⟨a, c, rfl, _⟩ := ht.shape
  obtain ⟨a', c', rfl, hso⟩ : ∃ a' c', vo = .slice a' n c' ∧ (n = 0 ∨ n ≤ c' ∧ ∃ g off, R g ∧ a' = some ⟨g, off, none⟩ ∧ ∀ i, i < n → ∃ x0 x1 x2 x3,
      w.cell? ⟨g, off + i * 4, none⟩ = some x0 ∧ w.cell? ⟨g, off + i * 4 + 1, none⟩ = some x1 ∧ w.cell? ⟨g, off + i * 4 + 2, none⟩ = some x2 ∧ w.cell? ⟨g, off + i * 4 + 3, none⟩ = some x3 ∧
      Shows R w (of i) (.agg #[x0, x1, x2, x3])) := by
    rcases ho with ⟨rfl, a', c', rfl⟩ | ⟨g, off, cap', hg, rfl, hle, hc⟩
    · exact ⟨a', c', rfl, .inl rfl⟩
    · exact ⟨_, cap', rfl, .inr ⟨hle, g, off, hg, rfl, hc⟩⟩
  have Hso := Lib.hid hso
  clear ho ht hso
  have hl' : (lz == 0) = false := by simp; omega
  have h9' : ((k : Int) == 9) = false := by simp; omega
  have hz0' : 1 ≤ lz := by omega
  have hz1' : lz ≤ 100 := by omega
  have Hlz := Lib.hid hlz
  have Hb := Lib.hid hb
  have Hal := Lib.hid hal
  have HK9 := Lib.hid hk9
  clear hlz hb hal hk9
  obtain ⟨f, hf⟩ : ∃ f, f = fun i l => wholeE lv al (of i) l := ⟨_, rfl⟩
  have e9 : wholeE (lv + 1) al (.mk k m ns n of) l = if l = 0 then ⟨6, zeroT, l⟩ else
      if (wholeAll f n (l - 1)).e = 0 then ⟨0, .mk k m ns n (fun i => (wholeAll f n (l - 1)).ts.getD i .nil), (wholeAll f n (l - 1)).left⟩ else ⟨(wholeAll f n (l - 1)).e, zeroT, (wholeAll f n (l - 1)).left⟩ := by
    simp only [wholeE, if_neg HK9.out, hf]
  have E9 := Lib.hid e9
  have HF := Lib.hid hf
  clear e9 hf
  obtain ⟨w0, hw0⟩ : ∃ w0, w0 = (w.alloc (.cells #[.int .u8 k, .int .i64 m, .slice a ns.length c, .slice a' n c'] 32)).alloc (.cells #[.int .u8 0, .int .i64 0, .slice none 0 0, .slice none 0 0] 32) := ⟨_, rfl⟩
  have f0 : Hid (Fr (fun _ => False) w w0) := Lib.hid (by rw [hw0]; exact ((Fr.refl _ _).alloc _).alloc _)
  have q4 : Hid (w0.heap[w.heap.size]? = some (.cells #[.int .u8 k, .int .i64 m, .slice a ns.length c, .slice a' n c'] 32 (0, 0))) := Lib.hid (by rw [hw0, Below.heap_alloc _ _ _ (by simp)]; exact heap_alloc_new _ _)
  have q8 : Hid (w0.heap[w.heap.size + 1]? = some (.cells #[.int .u8 0, .int .i64 0, .slice none 0 0, .slice none 0 0] 32 (0, 0))) := Lib.hid (by rw [hw0]; exact heap_alloc_two _ _ _)
  have q0 : Hid (w0.heap[lb]? = some (.cells #[.int .i64 l] 3 (0, 0))) := Lib.hid (box_kept Hb.out f0.out (fun h => h))
  have s0 : Hid (w0.heap.size = w.heap.size + 2) := Lib.hid (by rw [hw0]; simp)
  have cl := cell_of_one Hb.out
  have zl := free_of_one Hb.out
  by_cases hl0 : l = 0
  · subst hl0
    go_enter Try.func69, Try.ntmps69
    go_wp2
    rw [← hw0]
    refine bodyPost_ret (results_cell_tmp_row rfl _ _ (w.heap.size + 1) 32 _ _ _ rfl q8.out Try.underlying32 rfl (by kernel_rfl)) rfl ?_
    simp only [E9.out, if_true]
    exact wholed_zero (e := 6) (f0.out.mono (fun _ _ h => absurd h (fun h => h))) q0.out hl
  · have hl0' : ((l : Int) == 0) = false := by simp; omega
    have hl1 : 1 ≤ l := by omega
    have HL0 := Lib.hid hl0
    clear hl0
    go_enter Try.func69, Try.ntmps69
    go_wp2
    obtain ⟨wz, hwz⟩ : ∃ wz, wz = w.setCell ⟨lb, 0, none⟩ (.int .i64 ((l : Int) - 1)) := ⟨_, rfl⟩
    have fz : Fr (fun k => k = lb) w wz := by
      rw [hwz]; exact Fr.setCell (p := ⟨lb, 0, none⟩) (Fr.refl (fun k => k = lb) w) (fun _ => rfl) _
    have sz : wz.heap.size = w.heap.size := by rw [hwz]; simp [World.setCell]
    have g0 : wz.heap[lb]? = some (.cells #[.int .i64 ((wholeAll f 0 (l - 1)).left : Nat)] 3 (0, 0)) := by
      rw [hwz, one_setCell Hb.out]
      show some (Obj.cells #[.int .i64 ((l : Int) - 1)] _ _) = some (Obj.cells #[.int .i64 ((l - 1 : Nat) : Int)] _ _)
      rw [show ((l - 1 : Nat) : Int) = (l : Int) - 1 by omega]
    rw [← hwz]
    obtain ⟨w2, hw2⟩ : ∃ w2, w2 = (wz.alloc (.cells #[.int .u8 k, .int .i64 m, .slice a ns.length c, .slice a' n c'] 32)).alloc (.cells #[.int .u8 0, .int .i64 0, .slice none 0 0, .slice none 0 0] 32) := ⟨_, rfl⟩
    rw [← hw2]
    have f2 : Fr (fun k => k = lb) w w2 := by rw [hw2]; exact (fz.alloc _).alloc _
    have g0 : w2.heap[lb]? = some (.cells #[.int .i64 ((wholeAll f 0 (l - 1)).left : Nat)] 3 (0, 0)) := by
      rw [hw2, Below.heap_alloc _ _ _ (by simp; omega), Below.heap_alloc _ _ _ (by omega)]; exact g0
    have g4 : w2.heap[w.heap.size]? = some (.cells #[.int .u8 k, .int .i64 m, .slice a ns.length c, .slice a' n c'] 32 (0, 0)) := by
      rw [hw2, Below.heap_alloc _ _ _ (by simp; omega), ← sz]; exact heap_alloc_new _ _
    have g8 : w2.heap[w.heap.size + 1]? = some (.cells #[.int .u8 0, .int .i64 0, .slice none 0 0, .slice none 0 0] 32 (0, 0)) := by
      rw [hw2, ← sz]; exact heap_alloc_two _ _ _
    have HSt := Lib.hid (And.intro f2 (And.intro g0 (And.intro g4 g8)))
    clear f2 g0 g4 g8 hw2 hw0 fz sz hwz
    go_loopg [13, 14, 15, 11, 55] n (fun G u13 u14 u15 u11 u55 wr => ∃ j : Nat, j ≤ n ∧ G = n - j ∧ u55 = .int .i64 j ∧ Hid ((Fr (fun k => k = lb) w wr ∧ wr.heap[lb]? = some (.cells #[.int .i64 ((wholeAll f j (l - 1)).left : Nat)] 3 (0, 0)) ∧
      wr.heap[w.heap.size]? = some (.cells #[.int .u8 k, .int .i64 m, .slice a ns.length c, .slice a' n c'] 32 (0, 0)) ∧ wr.heap[w.heap.size + 1]? = some (.cells #[.int .u8 0, .int .i64 0, .slice none 0 0, .slice none 0 0] 32 (0, 0))) ∧
      (wholeAll f j (l - 1)).e = 0 ∧ (wholeAll f j (l - 1)).ts.length = j ∧ (wholeAll f j (l - 1)).left ≤ 1000 ∧ TyRow (w.heap.size + 2) wr u11 (wholeAll f j (l - 1)).ts))
    case atStart => exact ⟨0, Nat.zero_le _, rfl, by go_num, Lib.hid ⟨HSt.out, rfl, rfl, (by show l - 1 ≤ 1000; omega), TyRow.nil _ _⟩⟩
    case round =>
      obtain ⟨j, hj, rfl, rfl, HI⟩ := hrel
      by_cases hlt : j < n
      · rcases Hso.out with hz | ⟨hcap, g, off, hg, rfl, hcell⟩
        · omega
        obtain ⟨x0, x1, x2, x3, y0, y1, y2, y3, hx⟩ := hcell j hlt
        have hgl : g < w.heap.size := World.block_lt_of_cell? w _ y0
        have nlb : ∀ k, R k → ¬ k = lb := fun k hk e => hR (e ▸ hk)
        have y0 := cell_fr HI.out.1.1 nlb hg y0
        have y1 := cell_fr HI.out.1.1 nlb hg y1
        have y2 := cell_fr HI.out.1.1 nlb hg y2
        have y3 := cell_fr HI.out.1.1 nlb hg y3
        obtain ⟨pk, pm, pa, pn, pc, pa', pn', pc', rfl, rfl, rfl, rfl⟩ := hx.cells
        have hws : w.heap.size + 2 ≤ wr.heap.size := by have := lt_of_block HI.out.1.2.2.2; omega
        have NLB := Lib.hid nlb
        clear hcell nlb
        have hwr : IntKind.i64.wrap (lz - 1) = lz - 1 := IntWalk.i64_in _ (by omega)
        obtain ⟨wb, hwb⟩ : ∃ wb, wb = wr.alloc (.cells #[.int .u8 pk, .int .i64 pm, .slice pa pn pc, .slice pa' pn' pc'] 32) := ⟨_, rfl⟩
        have fb : Fr (fun _ => False) wr wb := by rw [hwb]; exact (Fr.refl _ _).alloc _
        have fwb : Fr (fun k => k = lb) w wb := HI.out.1.1.trans fb (fun _ _ h => absurd h (fun h => h))
        have swb : wb.heap.size = wr.heap.size + 1 := by rw [hwb]; simp
        have hcall := ih al (of j) R (.agg #[.int .u8 pk, .int .i64 pm, .slice pa pn pc, .slice pa' pn' pc']) av (lz - 1) lb (wholeAll f j (l - 1)).left wb (by have := Hlz.out; omega) (by omega) HI.out.2.2.2.1 hR
          (Shows.fr fwb (fun k hk => NLB.out k hk) _ _ hx) (Hal.out.fr fwb (fun k hk => NLB.out k hk)) (box_kept HI.out.1.2.1 fb (fun h => h))
        obtain ⟨r, hr⟩ : ∃ r, r = f j (wholeAll f j (l - 1)).left := ⟨_, rfl⟩
        have hr' : wholeE lv al (of j) (wholeAll f j (l - 1)).left = r := by rw [hr, HF.out]
        rw [hr', hwb] at hcall
        have HR := Lib.hid hr
        have HB := Lib.hid (And.intro hwb (And.intro fb (And.intro fwb swb)))
        clear hx hr hr' hwb fb fwb swb
        obtain ⟨E, hE⟩ : ∃ E, E = r.e := ⟨_, rfl⟩
        have HE := Lib.hid hE
        rw [show Wholed r lb = fun w0 e w' => ∃ tv, e = .returned (.tuple #[tv, .int .i64 (E : Nat)]) ∧ Fr (fun k => k = lb) w0 w' ∧ w'.heap[lb]? = some (.cells #[.int .i64 (r.left : Nat)] 3 (0, 0)) ∧ Shows (fun k => w0.heap.size ≤ k) w' r.t tv ∧ r.left ≤ 1000 by rw [hE]; rfl] at hcall
        clear hE
        go_wp2_with fail
        refine hcall.mono ?_
        rintro e w3 ⟨tv, rfl, f3, g3, hs3, hl3⟩
        obtain ⟨k2, m2, a2, n2, c2, a3, n3, c3, rfl⟩ := hs3.four
        rw [← HB.out.1] at f3 hs3
        have h8 := box_kept (box_kept HI.out.1.2.2.2 HB.out.2.1 (fun h => h)) f3 (by omega)
        have h4 := box_kept (box_kept HI.out.1.2.2.1 HB.out.2.1 (fun h => h)) f3 (by omega)
        have hs3w : w.heap.size + 2 ≤ w3.heap.size := by have := f3.size; have := HB.out.2.2.2; omega
        go_upto_region 16 with fail
        obtain ⟨w4, hw4⟩ : ∃ w4, w4 = w3.alloc (.cells #[.int .u8 k2, .int .i64 m2, .slice a2 n2 c2, .slice a3 n3 c3] 32) := ⟨_, rfl⟩
        rw [← hw4]
        have f4 : Fr (fun _ => False) w3 w4 := by rw [hw4]; exact (Fr.refl _ _).alloc _
        have h8 := box_kept h8 f4 (fun h => h)
        have h4 := box_kept h4 f4 (fun h => h)
        have h14 : w4.heap[w3.heap.size]? = some (.cells #[.int .u8 k2, .int .i64 m2, .slice a2 n2 c2, .slice a3 n3 c3] 32 (0, 0)) := by rw [hw4]; exact heap_alloc_new _ _
        have hs4 : w4.heap.size = w3.heap.size + 1 := by rw [hw4]; simp
        have g3 := box_kept g3 f4 (fun h => h)
        have hs3 := Shows.fr (R := fun k => wb.heap.size ≤ k) f4 (fun _ _ h => h) _ _ hs3
        obtain ⟨b0, b1, b2, b3⟩ := cell_of_four h8
        obtain ⟨p0, p1, p2, p3⟩ := cell_of_four h14
        have z0 : w4.frozen? ⟨w.heap.size + 1, 0, none⟩ = false := by simp [World.frozen?, h8]
        have z1 : w4.frozen? ⟨w.heap.size + 1, 1, none⟩ = false := by simp [World.frozen?, h8]
        have z2 : w4.frozen? ⟨w.heap.size + 1, 2, none⟩ = false := by simp [World.frozen?, h8]
        have z3 : w4.frozen? ⟨w.heap.size + 1, 3, none⟩ = false := by simp [World.frozen?, h8]
        have H4 := Lib.hid (And.intro (HB.out.2.2.1.trans (f3.trans f4 (fun _ _ h => absurd h (fun h => h))) (fun _ _ h => h)) (And.intro (Fr.trans (S := fun k => k = lb) (HB.out.2.1.mono (fun _ _ h => absurd h (fun h => h))) (f3.trans f4 (fun _ _ h => absurd h (fun h => h))) (fun _ _ h => h)) (And.intro g3 (And.intro hs3 (And.intro hl3 (And.intro h8 h4))))))
        have hs4w : w.heap.size + 2 ≤ w4.heap.size := by omega
        clear f3 f4 g3 hs3 hl3 h8 h4 h14 hcall y0 y1 y2 y3 hw4 hs4
        by_cases he : E = 0
        · subst he
          obtain ⟨cs, hown, hts⟩ := TyRow.fr HI.out.2.2.2.2 H4.out.2.1 (fun k hk h => by omega)
          rw [HI.out.2.2.1] at hown
          have HO := Lib.hid hown
          have HTS := Lib.hid hts
          clear hown hts
          have hws4 : w.heap.size + 2 ≤ (w4.alloc (.cells #[.int .u8 k2, .int .i64 m2, .slice a2 n2 c2, .slice a3 n3 c3] 32)).heap.size := by simp; omega
          go_wp2_with (at_builtin; refine wpList_append_sep rfl (.tmp 72) (.tmp 74) 30 30 rfl (w.heap.size + 2) 32 i0 (.agg #[.int .u8 0, .int .i64 0, .slice none 0 0, .slice none 0 0]) 4 64 Try.underlying30 _ Try.underlying30 (.inr ⟨_, rfl⟩) hi hz0 hz1 hz2 rfl (by decide) u11 j cs rfl ?own _ 1 [.int .u8 k2, .int .i64 m2, .slice a2 n2 c2, .slice a3 n3 c3] rfl (lenOf_slice _ _ _) rfl ?c1 ?c2 ?one ?b1 ?b2 ?base ?grow)
          case own => exact World.ownsRow.alloc HO.out _
          case c1 => exact first_one4 1 (heap_alloc_new _ _)
          case c2 => exact first_one4 1 (by exact heap_alloc_new _ _)
          case one => intro u hu; simp at hu; rcases hu with rfl | rfl | rfl | rfl <;> rfl
          case b1 => unfold maxLen; omega
          case b2 => omega
          case base => exact hws4
          case grow =>
            intro v' w5 hown hg hv
            have HG := Lib.hid (And.intro hown (And.intro hg hv))
            clear hown hg hv
            go_wp2
            go_roundg (n - (j + 1))
            case measure => omega
            case rel =>
              have est := wholeAll_step f j (l - 1) HI.out.2.1 (by rw [← HR.out, ← HE.out])
              rw [← HR.out] at est
              have fo : Fr (fun k => w.heap.size + 2 ≤ k) w4 w5 := ((Fr.refl _ _).alloc _).trans (Fr.of_grown HG.out.2.1) (fun i _ e => (World.ownsRow.lt HO.out i e.symm).1)
              have lt11 : ∀ k, u11.ownBlock = some k → k < wr.heap.size := by
                obtain ⟨cs', h1, _⟩ := HI.out.2.2.2.2
                exact fun k hk => (World.ownsRow.lt h1 k hk).2
              have hst := Shows.mono (S := fun k => w.heap.size + 2 ≤ k ∧ u11.ownBlock ≠ some k) (fun k _ h => ⟨by have := HB.out.2.2.2; omega, fun e => by have := lt11 k e; have := HB.out.2.2.2; omega⟩) _ _ H4.out.2.2.2.1
              refine ⟨j + 1, by omega, rfl, by go_num, Lib.hid ⟨⟨H4.out.1.trans fo (fun i hi h => by omega), ?_, box_kept H4.out.2.2.2.2.2.2 fo (by omega), box_kept H4.out.2.2.2.2.2.1 fo (by omega)⟩, ?_, ?_, ?_, ?_⟩⟩
              · rw [est]; exact box_kept H4.out.2.2.1 fo (by omega)
              · rw [est]
              · rw [est]; simp [HI.out.2.2.1]
              · rw [est]; exact H4.out.2.2.2.2.1
              · rw [est]
                exact TyRow.push HTS.out (by rw [HO.out.1, HI.out.2.2.1]) (by rw [HI.out.2.2.1]) HG.out.1 ((Fr.refl _ _).alloc _) HG.out.2.1 (by simpa using HG.out.2.2) hst
        · have he' : ¬ (E : Int) = 0 := by omega
          go_wp2
          refine bodyPost_ret (results_cell_tmp_row rfl _ _ (w.heap.size + 1) 32 _ _ _ rfl (store_four H4.out.2.2.2.2.2.1) Try.underlying32 rfl (by kernel_rfl)) rfl ?_
          have est := wholeAll_stop f n j (l - 1) hlt HI.out.2.1 (by rw [← HR.out, ← HE.out]; exact he)
          rw [← HR.out] at est
          rw [E9.out, if_neg HL0.out, est, if_neg (by rw [← HE.out]; exact he), HE.out]
          exact wholed_zero (e := r.e) (fr_four _ _ _ _ H4.out.1 (fun h => by omega)) (by rw [other_four _ _ _ _ _ (by omega)]; exact H4.out.2.2.1) H4.out.2.2.2.2.1
      · obtain rfl : j = n := by omega
        have hws : w.heap.size + 2 ≤ wr.heap.size := by have := lt_of_block HI.out.1.2.2.2; omega
        have HWS := Lib.hid hws
        have nlb : ∀ k, R k → ¬ k = lb := fun k hk e => hR (e ▸ hk)
        have ht0 := (Ht.out.mono (S := fun k => R k ∧ k < w.heap.size) (fun k hk h => ⟨h, hk⟩)).fr HI.out.1.1 (fun k hk => nlb k hk.1)
        have HT0 := Lib.hid ht0
        have HQ := Lib.hid (fun (wx : World) (f : Fr (fun k => k = w.heap.size + 1) wr.drew wx) =>
          And.intro (box_kept (w0 := wr.drew) HI.out.1.2.2.1 f (by omega)) (copied_names _ ns _ wx (Texts.fr HT0.out (S := fun k => k = w.heap.size + 1) ⟨f.os, f.tape, f.output, f.size, f.block⟩ (fun k hk h => by omega))))
        obtain ⟨ua, un, uc, rfl⟩ : ∃ ua un uc, u11 = .slice ua un uc := by
          obtain ⟨_, hown, _⟩ := HI.out.2.2.2.2
          obtain ⟨ua, uc, e⟩ := slice_of_own hown
          exact ⟨ua, _, uc, e⟩
        have g8 := Lib.hid HI.out.1.2.2.2
        have glb := Lib.hid HI.out.1.2.1
        have HTY := Lib.hid HI.out.2.2.2.2
        clear nlb ht0 hws
        go_wp2_with fail
        refine wp_region_toldU (by kernel_rfl) (fun a b => Fr (fun k => k = w.heap.size + 1) a b) (fun w => Fr.refl _ w) (fun _ _ _ h k => h.trans k (fun _ _ h => h))
          [some 77, some 78, some 79, some 80, some 81, some 82, some 83, some 84, some 85, none, some 9] rfl (by decide) (by intro d hd; simp at hd ⊢; omega)
          (fun j wx => j = 9 → wx.heap[w.heap.size + 1]? = some (.cells #[.int .u8 0, .int .i64 0, .slice none 0 0, .slice none 0 0] 32 (0, 0)))
          (fun j v wx => ([fun v _ => v = .pointer (some ⟨w.heap.size, 0, none⟩), fun v _ => v = .int .u8 k, fun v _ => v = .pointer (some ⟨w.heap.size, 1, none⟩), fun v _ => v = .int .i64 m, fun v _ => v = .pointer (some ⟨w.heap.size, 2, none⟩), fun v _ => v = .slice a ns.length c,
            fun v wx => Texts (fun k => w.heap.size + 2 ≤ k) wx ns v, fun v _ => v = (.slice ua un uc),
            fun v wx => ∃ vn, v = .agg #[.int .u8 k, .int .i64 m, vn, (.slice ua un uc)] ∧ Texts (fun k => w.heap.size + 2 ≤ k) wx ns vn,
            fun _ wx => ∃ vn, wx.heap[w.heap.size + 1]? = some (.cells #[.int .u8 k, .int .i64 m, vn, (.slice ua un uc)] 32 (0, 0)) ∧ Texts (fun k => w.heap.size + 2 ≤ k) wx ns vn,
            fun v _ => v = .int .i64 0] : List (Value → World → Prop)).getD j (fun _ _ => True) v wx)
          (by kernel_rfl) ?u0 ?step ?fin
        case u0 => exact fun j _ _ => g8.out
        case step =>
          intro vals
          simp only [frOfU, fillU, List.setIfInBounds_toArray, List.set_cons_succ, List.set_cons_zero]
          repeat' (first | exact AllOps.nil | refine AllOps.cons ?_ ?_)
          all_goals
            intro wx hle he hu hw K hK
            clear hw
            simp only [Act.put, List.setIfInBounds_toArray, List.set_cons_succ, List.set_cons_zero, List.getD_cons_zero, List.getD_cons_succ] at hK
            simp only [List.mem_cons, List.not_mem_nil, or_false, forall_eq_or_imp, forall_eq, Region.binds, forall_const, false_imp_iff, List.getD_cons_zero, List.getD_cons_succ] at he
            obtain ⟨hq4, hcn⟩ := HQ.out wx hle
            obtain ⟨y0, y1, y2, y3⟩ := cell_of_four hq4
            have HCN := Lib.hid hcn
            have FW0 : w.heap.size + 2 ≤ wx.heap.size := Nat.le_trans HWS.out hle.size
            clear hle hq4 hcn
          all_goals first | ((try simp only [he] at hK ⊢); go_simp; exact hK _ _ (Fr.refl _ _) rfl (fun _ _ h => h) (fun _ _ _ h => h)) | skip
          · simp only [he] at hK ⊢
            go_simp
            go_at_call 72
            refine HCN.out.mono ?_
            rintro e1 wa ⟨vn, rfl, ht, fa⟩
            have ht' := Texts.mono ht (S := fun k => w.heap.size + 2 ≤ k) (fun k _ h => Nat.le_trans FW0 h)
            refine hK _ _ (fa.mono (fun _ _ h => absurd h (fun h => h))) ht' ?_ ?_
            · intro j hj h e
              have := h e
              rw [fa.block _ (lt_of_block this) (fun h => h)]; exact this
            · refine fun j u _ => pres_list ?_ j u
              have st : ∀ u, Texts (fun k => w.heap.size + 2 ≤ k) wx ns u → Texts (fun k => w.heap.size + 2 ≤ k) wa ns u := fun u h => h.fr fa (fun _ _ h => h)
              simp only [List.mem_cons, List.not_mem_nil, or_false, forall_eq_or_imp, forall_eq, imp_self, implies_true, true_and, and_true]
              refine ⟨fun u h => st u h, fun u h => ?_, fun u h => ?_⟩
              · obtain ⟨vn, e, h⟩ := h
                exact ⟨vn, e, st _ h⟩
              · obtain ⟨vn, e, h⟩ := h
                exact ⟨vn, by rw [fa.block _ (lt_of_block e) (fun h => h)]; exact e, st _ h⟩
          · obtain ⟨h1, h3, h6, h7⟩ := he
            obtain ⟨na, nc, e6, _⟩ := h6.shape
            rw [e6] at h6
            simp only [h1, h3, h7, e6] at hK ⊢
            go_simp
            exact hK _ _ (Fr.refl _ _) ⟨_, rfl, h6⟩ (fun _ _ h => h) (fun _ _ _ h => h)
          · obtain ⟨vn, h8v, htx⟩ := he.1
            obtain ⟨na, nc, rfl, _⟩ := htx.shape
            clear he
            simp only [h8v] at hK ⊢
            have h8 := hu rfl
            obtain ⟨b0, b1, b2, b3⟩ := cell_of_four h8
            have z0 : wx.frozen? ⟨w.heap.size + 1, 0, none⟩ = false := by simp [World.frozen?, h8]
            have z1 : wx.frozen? ⟨w.heap.size + 1, 1, none⟩ = false := by simp [World.frozen?, h8]
            have z2 : wx.frozen? ⟨w.heap.size + 1, 2, none⟩ = false := by simp [World.frozen?, h8]
            have z3 : wx.frozen? ⟨w.heap.size + 1, 3, none⟩ = false := by simp [World.frozen?, h8]
            have H8 := Lib.hid h8
            clear h8 hu
            go_simp
            have f8 := fr_four (w := wx) (b := w.heap.size + 1) (.int .u8 k) (.int .i64 m) (.slice na ns.length nc) (.slice ua un uc) (S := fun k => k = w.heap.size + 1) (Fr.refl _ _) (fun _ => rfl)
            have st : ∀ u, Texts (fun k => w.heap.size + 2 ≤ k) wx ns u → Texts (fun k => w.heap.size + 2 ≤ k) _ ns u := fun u h => h.fr f8 (fun k hk h => by omega)
            refine hK undef _ f8 ⟨_, store_four H8.out, st _ htx⟩ ?_ ?_
            · intro j hj h e
              exact absurd e hj
            · refine fun j u _ => pres_list ?_ j u
              simp only [List.mem_cons, List.not_mem_nil, or_false, forall_eq_or_imp, forall_eq, imp_self, implies_true, true_and, and_true]
              refine ⟨fun u h => st u h, fun u h => ?_, fun u h => ⟨_, store_four H8.out, st _ htx⟩⟩
              obtain ⟨vn, e, h⟩ := h
              exact ⟨vn, e, st _ h⟩
        case fin =>
          intro vals w' hle hV
          obtain ⟨vn, h8, htx⟩ := hV 9 (by decide)
          have h10 := hV 10 (by decide)
          clear hV
          simp only [List.getD_cons_zero, List.getD_cons_succ] at h10
          have fe : Fr (fun k => k = w.heap.size + 1) wr w' := ⟨hle.os, hle.tape, hle.output, hle.size, hle.block⟩
          simp only [frOfU, fillU, List.setIfInBounds_toArray, List.set_cons_succ, List.set_cons_zero, h10]
          go_wp2
          refine bodyPost_ret (results_cell_tmp_row rfl _ _ (w.heap.size + 1) 32 _ _ _ rfl h8 Try.underlying32 rfl (by kernel_rfl)) rfl ?_
          have e2 := E9.out
          rw [if_neg HL0.out, if_pos HI.out.2.1] at e2
          rw [e2]
          have hsh := TyRow.shows (m := m) (TyRow.fr HTY.out fe (fun k hk h => by omega)) HI.out.2.2.1 hk255 hn htx
          exact ⟨_, rfl, HI.out.1.1.trans fe (fun i hi h => by omega), box_kept glb.out fe (by omega), Shows.mono (fun k _ h => Nat.le_trans (Nat.le_add_right _ _) h) _ _ hsh, HI.out.2.2.2.1⟩

/-- EVERY TYPE, MADE WHOLE. -/
theorem whole_any (lv : Nat) : WholeAt lv := by
  induction lv with
  | zero =>
    intro al t R v av lz lb l w hlz _ hl hR hsh hal hb
    obtain rfl : lz = 0 := by simpa using hlz
    exact whole_zero al t R v av lb l w hl hsh hb
  | succ lv ih =>
    intro al t R v av lz lb l w hlz hlv hl hR hsh hal hb
    cases t with
    | nil => exact hsh.elim
    | mk k m ns n of =>
      by_cases hk : k = 9
      · subst hk
        exact whole_ref lv ih al m ns n of R v av lz lb l w (by omega) (by omega) hl hR hsh hal hb
      · exact whole_rest lv ih al k m ns n of R v av lz lb l w hk (by omega) (by omega) hl hR hsh hal hb

end Go.Proofs.Ythokfmmbiilllaa

/-
  package kind: the checks of an interface's aliases and of its faults.
-/
namespace Go.Proofs.Ythokfmmbiilllaa
open Go.RowKit

set_option maxHeartbeats 1000000 in
theorem validN_any (n : Int) (w : World) : Calls Try.prog 45 #[.int .i64 n] w fun e w' => e = .returned (.bool (validN n)) ∧ w = w' := by
  by_cases h0 : 0 ≤ n <;> by_cases h1 : n ≤ 65535 <;>
    (go_enter Try.func45, Try.ntmps45
     go_wp2
     go_ret
     exact ⟨ret_bool (by simp [validN, h0, h1]), rfl⟩)

theorem cells_row {w : World} {b : Nat} {cs : Array Value} {t : TypeId} (h : w.heap[b]? = some (.cells cs t (0, 0))) (i : Nat) (u : Value) (hu : cs[i]? = some u) : w.cell? ⟨b, i, none⟩ = some u := by
  rw [cell_of_row w b i cs t (0, 0) h]; exact hu

set_option maxRecDepth 100000 in
set_option maxHeartbeats 16000000 in
theorem checkTypes_any (R : Nat → Prop) (t : KTab) (v : Value) (b : Nat) (w : World) (ht : Tabled R w t v) (hR : ∀ k, R k → k < b) (hb : b < w.heap.size) (hN : Nm (fun k => k < b) w b []) :
    Calls Try.prog 47 #[v, namer b] w fun e w' => e = .returned (.int .i64 (firstE (aliasE t.types) t.types.length)) ∧ Fr (fun k => b ≤ k) w w' ∧ (firstE (aliasE t.types) t.types.length = 0 → Nm (fun k => k < b) w' b (t.types.map (·.1))) := by
  obtain ⟨tv, fv, pv, rfl, _, hal, hfl, hpl⟩ := ht
  obtain ⟨fa, fc, rfl, _⟩ := hfl.shape
  obtain ⟨pa, pc, rfl, _⟩ := hpl.shape
  have hall : t.types.length ≤ 1000 := hal.1
  have hnl := Lib.hid hal.2.1
  have Hal0 := Lib.hid hal
  obtain ⟨a, c, rfl, hs⟩ := hal.shape
  have Hal := Lib.hid hal
  have Hs := Lib.hid hs
  have HN := Lib.hid hN
  have HR := Lib.hid hR
  clear hal hs hN hR hfl hpl
  obtain ⟨w0, hw0⟩ : ∃ w0, w0 = w.alloc (.cells #[sv t.name, .int .i64 t.number, .int .i64 t.version, .slice a t.types.length c, .slice fa t.faults.length fc, .slice pa t.procs.length pc] 98) := ⟨_, rfl⟩
  have f0 : Hid (Fr (fun _ => False) w w0) := Lib.hid (by rw [hw0]; exact (Fr.refl _ _).alloc _)
  have q2 : Hid (w0.heap[w.heap.size]? = some (.cells #[sv t.name, .int .i64 t.number, .int .i64 t.version, .slice a t.types.length c, .slice fa t.faults.length fc, .slice pa t.procs.length pc] 98 (0, 0))) := Lib.hid (by rw [hw0]; exact heap_alloc_new _ _)
  have s0 : Hid (w0.heap.size = w.heap.size + 1) := Lib.hid (by rw [hw0]; simp)
  have c3 := cells_row q2.out 3 _ rfl
  unfold namer
  unfold sv at *
  go_enter Try.func47, Try.ntmps47
  go_wp2
  rw [← hw0]
  clear hw0 c3
  go_loopg [5, 6, 7, 8, 12] t.types.length (fun G u5 u6 u7 u8 u12 wr => ∃ j : Nat, j ≤ t.types.length ∧ G = t.types.length - j ∧ u12 = .int .i64 j ∧ Hid (firstE (aliasE t.types) j = 0 ∧ Fr (fun k => b ≤ k) w wr ∧
    wr.heap[w.heap.size]? = some (.cells #[.string ⟨t.name.toArray⟩, .int .i64 t.number, .int .i64 t.version, .slice a t.types.length c, .slice fa t.faults.length fc, .slice pa t.procs.length pc] 98 (0, 0)) ∧
    Nm (fun k => k < b ∨ k = w.heap.size) wr b ((t.types.take j).map (·.1))))
  case atStart => exact ⟨0, Nat.zero_le _, rfl, by go_num, Lib.hid ⟨rfl, f0.out.mono (fun _ _ h => absurd h (fun h => h)), q2.out, (HN.out.guard (Q := fun k => k < b ∨ k = w.heap.size) (fun k hk h => by omega)).fr f0.out (fun _ h => absurd h (fun h => h))⟩⟩
  case round =>
    obtain ⟨j, hj, rfl, rfl, HI⟩ := hrel
    by_cases hlt : j < t.types.length
    · rcases Hs.out with hz | ⟨hcap, g, off, hg, rfl, hcell⟩
      · omega
      obtain ⟨nm, tt, htt⟩ : ∃ nm tt, t.types[j]? = some (nm, tt) := ⟨t.types[j].1, t.types[j].2, by rw [List.getElem?_eq_getElem hlt]⟩
      obtain ⟨x0, x1, x2, x3, y, y0, y1, y2, y3, hx⟩ := hcell j _ htt
      have nb : ∀ k, R k → ¬ b ≤ k := fun k hk h => by have := HR.out k hk; omega
      have y := cell_fr HI.out.2.1 nb hg y
      have y0 := cell_fr HI.out.2.1 nb hg y0
      have y1 := cell_fr HI.out.2.1 nb hg y1
      have y2 := cell_fr HI.out.2.1 nb hg y2
      have y3 := cell_fr HI.out.2.1 nb hg y3
      have NB := Lib.hid nb
      obtain ⟨pk, pm, pa', pn, pc', pa2, pn2, pc2, rfl, rfl, rfl, rfl⟩ := hx.cells
      have HX := Lib.hid hx
      have hgd : t.types.getD j ([], .nil) = (nm, tt) := by rw [List.getD_eq_getElem?_getD, htt]; rfl
      have hnml : nm.length ≤ 1000 := hnl.out _ (List.mem_of_getElem? htt)
      have htk : (t.types.take (j + 1)).map (·.1) = (t.types.take j).map (·.1) ++ [nm] := by
        rw [List.take_add_one, htt]; simp
      have HGD := Lib.hid hgd
      have HTK := Lib.hid htk
      clear hcell nb hx htt hgd htk
      unfold sv at y
      -- the alias in its own box
      obtain ⟨wb, hwb⟩ : ∃ wb, wb = wr.alloc (.cells #[.string ⟨nm.toArray⟩, .int .u8 pk, .int .i64 pm, .slice pa' pn pc', .slice pa2 pn2 pc2] 93) := ⟨_, rfl⟩
      have fb : Fr (fun _ => False) wr wb := by rw [hwb]; exact (Fr.refl _ _).alloc _
      have qb : wb.heap[wr.heap.size]? = some (.cells #[.string ⟨nm.toArray⟩, .int .u8 pk, .int .i64 pm, .slice pa' pn pc', .slice pa2 pn2 pc2] 93 (0, 0)) := by rw [hwb]; exact heap_alloc_new _ _
      have sb : wb.heap.size = wr.heap.size + 1 := by rw [hwb]; simp
      have hwr : w.heap.size + 1 ≤ wr.heap.size := lt_of_block HI.out.2.2.1
      have hNb : Nm (fun k => (k < b ∨ k = w.heap.size) ∨ k = wr.heap.size) wb b ((t.types.take j).map (·.1)) :=
        (HI.out.2.2.2.guard (Q := fun k => (k < b ∨ k = w.heap.size) ∨ k = wr.heap.size) (fun k hk h => by rcases h with h | h; exact h; omega)).fr fb (fun _ h => absurd h (fun h => h))
      have hnx := name_next _ b ((t.types.take j).map (·.1)) nm wb hNb (fun k h => by omega) (by simp; omega) (by unfold maxLen; omega)
      unfold sv at hnx
      rw [hwb] at hnx
      have z0 := cells_row qb 0 _ rfl
      have HB := Lib.hid (And.intro hwb (And.intro fb (And.intro qb sb)))
      clear hwb fb qb sb hNb
      obtain ⟨E, hE⟩ : ∃ E, E = nameE ((t.types.take j).map (·.1)) nm := ⟨_, rfl⟩
      rw [← hE] at hnx
      have HE := Lib.hid hE
      clear hE
      go_wp2_with fail
      refine hnx.mono ?_
      rintro e w2 ⟨rfl, f2, N2⟩
      rw [← HB.out.1] at f2
      have HF2 := Lib.hid (And.intro f2 N2)
      clear f2 N2 hnx
      by_cases he : E = 0
      · subst he
        have N2 := HF2.out.2 (by first | trivial | rfl)
        have qt := box_kept (box_kept HI.out.2.2.1 HB.out.2.1 (fun h => h)) HF2.out.1 (by omega)
        have qa := box_kept HB.out.2.2.1 HF2.out.1 (by omega)
        have fw2 : Fr (fun k => b ≤ k) w w2 := (HI.out.2.1.trans HB.out.2.1 (fun _ _ h => absurd h (fun h => h))).trans HF2.out.1 (fun i hi h => by omega)
        have hsl : ∀ wx : World, Fr (fun _ => False) w2.drew wx → Calls Try.prog 56 #[.agg #[.int .u8 pk, .int .i64 pm, .slice pa' pn pc', .slice pa2 pn2 pc2], .slice (some ⟨g, off, none⟩) j c, .int .i64 5] wx fun e w' => e = .returned (.int .i64 (rightE (t.types.take j) tt 5)) ∧ Fr (fun _ => False) wx w' := fun wx fx =>
          have fwx : Fr (fun k => b ≤ k) w wx := ⟨fx.os.trans fw2.os, fx.tape.trans fw2.tape, fx.output.trans fw2.output, Nat.le_trans fw2.size fx.size, fun i hi hs => (fx.block i (Nat.lt_of_lt_of_le hi fw2.size) (fun h => h)).trans (fw2.block i hi hs)⟩
          right_any (t.types.take j) tt R _ _ wx 5 5 rfl (by omega) (Shows.fr fwx (fun k hk => NB.out k hk) _ _ HX.out) ((Aliases.take Hal0.out j (by omega)).fr fwx (fun k hk => NB.out k hk))
        have HSL := Lib.hid hsl
        have HQ := Lib.hid (And.intro qt (And.intro qa (And.intro fw2 N2)))
        obtain ⟨E2, hE2⟩ : ∃ E2, E2 = rightE (t.types.take j) tt 5 := ⟨_, rfl⟩
        have HE2 := Lib.hid hE2
        clear hsl qt qa fw2 N2 z0 hE2 y y0 y1 y2 y3
        have hjc : (j : Int) ≤ (c : Int) := by omega
        have hj0 : (0 : Int) ≤ (j : Int) := by omega
        have ea : aliasE t.types j = E2 := by unfold aliasE; rw [HGD.out]; rw [if_pos HE.out.symm, HE2.out]
        have EA := Lib.hid ea
        clear ea
        go_wp2_with fail
        refine wp_region_told (by kernel_rfl) (fun a b => Fr (fun _ => False) a b) (fun w => Fr.refl _ w) (fun _ _ _ h k => h.trans k (fun _ _ h => h))
          [24, 25, 26, 27, 28, 29, 30, 8] rfl (by decide) (by intro d hd; simp at hd ⊢; omega)
          (fun i v _ => v = [.pointer (some ⟨wr.heap.size, 1, none⟩), .agg #[.int .u8 pk, .int .i64 pm, .slice pa' pn pc', .slice pa2 pn2 pc2], .pointer (some ⟨w.heap.size, 3, none⟩), .slice (some ⟨g, off, none⟩) t.types.length c, .int .i64 j, .slice (some ⟨g, off, none⟩) j c, .int .i64 (E2 : Nat), .int .i64 (E2 : Nat)].getD i undef)
          (fun _ _ _ _ _ h => h) (by kernel_rfl) ?step ?fin
        case step =>
          intro vals
          simp only [frOf, fill, List.setIfInBounds_toArray, List.set_cons_succ, List.set_cons_zero]
          repeat' (first | exact AllOps.nil | refine AllOps.cons ?_ ?_)
          all_goals
            intro wx hle he K hK
            simp only [Act.put, List.setIfInBounds_toArray, List.set_cons_succ, List.set_cons_zero, List.getD_cons_zero, List.getD_cons_succ] at hK
            simp only [List.mem_cons, List.not_mem_nil, or_false, forall_eq_or_imp, forall_eq, Region.binds, forall_const, false_imp_iff, List.getD_cons_zero, List.getD_cons_succ] at he
            try simp only [he] at hK
            have hcall := HSL.out wx hle
            have fx : Fr (fun _ => False) w2 wx := ⟨hle.os, hle.tape, hle.output, hle.size, hle.block⟩
            have c3 := cells_row (box_kept HQ.out.1 fx (fun h => h)) 3 _ rfl
            have d1 := cells_row (box_kept HQ.out.2.1 fx (fun h => h)) 1 _ rfl
            have d2 := cells_row (box_kept HQ.out.2.1 fx (fun h => h)) 2 _ rfl
            have d3 := cells_row (box_kept HQ.out.2.1 fx (fun h => h)) 3 _ rfl
            have d4 := cells_row (box_kept HQ.out.2.1 fx (fun h => h)) 4 _ rfl
            clear hle fx
            try go_simp
            first
              | (go_at_call 56; refine hcall.mono ?_; rintro e1 wa ⟨rfl, fa⟩; rw [← HE2.out]; exact hK _ _ fa rfl)
              | exact hK _ _ (Fr.refl _ _) rfl
        case fin =>
          intro vals w' hle hV
          have h7 : vals 7 = .int .i64 (E2 : Nat) := hV 7 (by decide)
          clear hV
          have fx : Fr (fun _ => False) w2 w' := ⟨hle.os, hle.tape, hle.output, hle.size, hle.block⟩
          have HFX := Lib.hid fx
          clear hle fx
          simp only [frOf, fill, List.setIfInBounds_toArray, List.set_cons_succ, List.set_cons_zero, h7]
          by_cases he2 : E2 = 0
          · subst he2
            go_wp2
            go_roundg (t.types.length - (j + 1))
            case measure => omega
            case rel =>
              refine ⟨j + 1, by omega, rfl, by go_num, Lib.hid ⟨firstE_step _ _ HI.out.1 EA.out, HQ.out.2.2.1.trans HFX.out (fun _ _ h => absurd h (fun h => h)), box_kept HQ.out.1 HFX.out (fun h => h), ?_⟩⟩
              rw [HTK.out]
              exact (HQ.out.2.2.2.guard (Q := fun k => k < b ∨ k = w.heap.size) (fun k _ h => .inl h)).fr HFX.out (fun _ h => absurd h (fun h => h))
          · have he' : ¬ (E2 : Int) = 0 := by omega
            go_wp2
            go_ret
            have es : firstE (aliasE t.types) t.types.length = E2 := by rw [firstE_stop _ _ j hlt HI.out.1 (by rw [EA.out]; exact he2), EA.out]
            rw [es]
            exact ⟨rfl, HQ.out.2.2.1.trans HFX.out (fun _ _ h => absurd h (fun h => h)), fun h => absurd h he2⟩
      · have he' : ¬ (E : Int) = 0 := by omega
        go_wp2
        go_ret
        have ea : aliasE t.types j = E := by unfold aliasE; rw [HGD.out]; rw [if_neg (by rw [← HE.out]; exact he), HE.out]
        have es : firstE (aliasE t.types) t.types.length = E := by rw [firstE_stop _ _ j hlt HI.out.1 (by rw [ea]; exact he), ea]
        rw [es]
        refine ⟨rfl, (HI.out.2.1.trans HB.out.2.1 (fun _ _ h => absurd h (fun h => h))).trans HF2.out.1 (fun i hi h => by omega), fun h => absurd h he⟩
    · obtain rfl : j = t.types.length := by omega
      go_wp2
      go_ret
      rw [HI.out.1]
      refine ⟨rfl, HI.out.2.1, fun _ => ?_⟩
      have := HI.out.2.2.2
      rw [List.take_length] at this
      exact this.guard (fun k _ h => .inl h)

end Go.Proofs.Ythokfmmbiilllaa
