/-
  Slices that show integers: searched, compared, their members counted.
-/
import Derived.Test.YtcjijafmfomohaaOpen
import Derived.Deep.Cut
import Derived.Deep.CutRange
import Derived.Deep.CutBlock
import Derived.Deep.LoopGhost
namespace Go.Proofs.Ytcjijafmfomohaa
open Go.RowKit
set_option maxRecDepth 100000

abbrev iv (n : Int) : Value := .int .i64 n

/-- The slice value v shows the integers l. -/
def SI (w : World) (v : Value) (l : List Int) : Prop := SeesL w v (l.map (Value.int .i64))

/-- Of a slice that shows l: where its elements lie. -/
def SIc (w : World) (a : Option Addr) (c : Nat) (l : List Int) : Prop :=
  0 < l.length → l.length ≤ c ∧ ∃ g off, a = some ⟨g, off, none⟩ ∧ ∀ j, (hj : j < l.length) → w.cell? ⟨g, off + j, none⟩ = some (.int .i64 l[j])

theorem SI.shape {w : World} {v : Value} {l : List Int} (h : SI w v l) : ∃ a c, v = .slice a l.length c ∧ SIc w a c l := by
  rcases h with ⟨h, a, c, rfl⟩ | ⟨g, off, cap, rfl, hle, hc⟩
  · have : l = [] := by simpa using h
    subst this
    exact ⟨a, c, rfl, fun h => absurd h (by simp)⟩
  · rw [List.length_map] at *
    exact ⟨_, cap, rfl, fun _ => ⟨hle, g, off, rfl, fun j hj => hc j _ (by rw [List.getElem?_map, List.getElem?_eq_getElem hj]; rfl)⟩⟩

theorem SI.fr {w w' : World} {v : Value} {l : List Int} (h : SI w v l) (hf : Fr (fun _ => False) w w') : SI w' v l := h.fr0 hf

theorem SIc.fr {w w' : World} {a : Option Addr} {c : Nat} {l : List Int} (h : SIc w a c l) (hf : Fr (fun _ => False) w w') : SIc w' a c l := fun h0 => by
  obtain ⟨h1, g, off, h2, h3⟩ := h h0
  refine ⟨h1, g, off, h2, fun j hj => ?_⟩
  rw [← h3 j hj]
  exact hf.cell (World.block_lt_of_cell? w _ (h3 j hj)) (fun h => h)

theorem SIc.sees {w : World} {a : Option Addr} {c : Nat} {l : List Int} (h : SIc w a c l) : SI w (.slice a l.length c) l := by
  by_cases h0 : 0 < l.length
  · obtain ⟨h1, g, off, rfl, h3⟩ := h h0
    refine .inr ⟨g, off, c, by simp, by simpa using h1, fun j u hu => ?_⟩
    rw [List.getElem?_map] at hu
    obtain ⟨x, hx, rfl⟩ := Option.map_eq_some_iff.1 hu
    obtain ⟨hj, rfl⟩ := List.getElem?_eq_some_iff.1 hx
    exact h3 j hj
  · have : l = [] := List.eq_nil_of_length_eq_zero (by omega)
    subst this
    exact .inl ⟨rfl, a, c, rfl⟩

theorem lret_bool {a b : Bool} (h : a = b) : Ending.returned (.bool a) = .returned (.bool b) := by rw [h]
theorem lret_int {a b : Int} (h : a = b) : Ending.returned (.int .i64 a) = .returned (.int .i64 b) := by rw [h]

set_option maxHeartbeats 2000000 in
theorem lindex_any (l : List Int) (s : Int) (a : Option Addr) (c : Nat) (w : World) (hc : SIc w a c l) (hs : l.length ≤ 1000) :
    Calls Try.prog 33 #[.slice a l.length c, .int .i64 s] w fun e w' => ∃ r : Int, e = .returned (.int .i64 r) ∧ decide (0 ≤ r) = decide (s ∈ l) ∧ w = w' := by
  have Hc := Lib.hid hc
  clear hc
  go_enter Try.func33, Try.ntmps33
  go_wp2
  go_loopg [5, 8] l.length (fun g u5 u8 wr => ∃ k : Nat, k ≤ l.length ∧ g = l.length - k ∧ u8 = .int .i64 k ∧ Hid (∀ j, (hj : j < l.length) → j < k → l[j] ≠ s) ∧ wr = w)
  case atStart => exact ⟨0, Nat.zero_le _, rfl, rfl, Lib.hid (fun j _ hj => by omega), rfl⟩
  case round =>
    obtain ⟨k, hk, rfl, rfl, HA, rfl⟩ := hrel
    by_cases hlt : k < l.length
    · obtain ⟨hcap, g, off, rfl, hcell⟩ := Hc.out (by omega)
      obtain ⟨d, hd⟩ : ∃ d, d = l[k] := ⟨_, rfl⟩
      have hck := hcell k hlt
      rw [← hd] at hck
      have Hd := Lib.hid hd
      clear hcell hd
      by_cases he : s = d
      · have Hm : Hid (s ∈ l) := Lib.hid (by rw [he, Hd.out]; exact List.getElem_mem hlt)
        clear Hd HA
        go_wp2
        go_ret
        exact ⟨_, rfl, by simp [Hm.out], rfl⟩
      · have He := Lib.hid he
        go_wp2
        clear he
        go_roundg (l.length - (k + 1))
        case measure => omega
        case rel =>
          refine ⟨k + 1, by omega, rfl, by congr 1, Lib.hid (fun j hj hjk => ?_), rfl⟩
          by_cases e : j = k
          · subst e; rw [← Hd.out]; exact fun h => He.out h.symm
          · exact HA.out j hj (by omega)
    · go_wp2
      go_ret
      refine ⟨_, rfl, ?_, rfl⟩
      have : s ∉ l := by
        intro h
        obtain ⟨j, hj, e⟩ := List.getElem_of_mem h
        exact HA.out j hj (by omega) e
      simp [this]

set_option maxHeartbeats 2000000 in
theorem contains_any (l : List Int) (s : Int) (a : Option Addr) (c : Nat) (w : World) (hc : SIc w a c l) (hs : l.length ≤ 1000) :
    Calls Try.prog 30 #[.slice a l.length c, .int .i64 s] w fun e w' => e = .returned (.bool (decide (s ∈ l))) ∧ w = w' := by
  have Hc := Lib.hid hc
  clear hc
  go_enter Try.func30, Try.ntmps30
  go_wp2_with fail
  refine (lindex_any l s a c _ Hc.out hs).mono ?_
  rintro e w1 ⟨r, rfl, hr, rfl⟩
  have HR := Lib.hid hr
  clear hr
  by_cases h : 0 ≤ r
  · go_wp2_with fail
    go_ret
    exact ⟨lret_bool (by rw [← HR.out] <;> simp [h]), rfl⟩
  · go_wp2_with fail
    go_ret
    exact ⟨lret_bool (by rw [← HR.out] <;> simp [h]), rfl⟩

theorem int_list_ext (l m : List Int) (hl : l.length = m.length) (h : ∀ j, (hj : j < l.length) → l[j] = m[j]'(hl ▸ hj)) : l = m :=
  List.ext_getElem hl (fun i h1 _ => h i h1)

set_option maxHeartbeats 2000000 in
theorem lequal_any (l m : List Int) (a b : Option Addr) (c d : Nat) (w : World) (hc : SIc w a c l) (hd : SIc w b d m) (hs : l.length ≤ 1000) :
    Calls Try.prog 26 #[.slice a l.length c, .slice b m.length d] w fun e w' => e = .returned (.bool (decide (l = m))) ∧ Fr (fun _ => False) w w' := by
  have Hc := Lib.hid hc
  have Hd := Lib.hid hd
  clear hc hd
  by_cases hlm : l.length = m.length
  case neg =>
    have hlm1 : ¬ ((l.length : Int) = (m.length : Int)) := by omega
    have HN := Lib.hid hlm
    go_enter Try.func26, Try.ntmps26
    go_wp2
    go_ret
    exact ⟨lret_bool (by have : l ≠ m := fun e => HN.out (by rw [e]); simp [this]), Fr.refl _ _⟩
  have HL := Lib.hid hlm
  obtain ⟨n, hn⟩ : ∃ n, n = m.length := ⟨_, rfl⟩
  rw [← hn, ← hn.trans hlm.symm]
  have HN := Lib.hid hn
  have hs2 : n ≤ 1000 := by omega
  clear hn hlm hs
  go_enter Try.func26, Try.ntmps26
  go_wp2
  go_loopg [5, 13] n (fun g u5 u13 wr => ∃ k : Nat, k ≤ n ∧ g = n - k ∧ u13 = .int .i64 k ∧ Hid (∀ j, (hj : j < l.length) → (hj' : j < m.length) → j < k → l[j] = m[j]) ∧ Fr (fun _ => False) w wr)
  case atStart => exact ⟨0, Nat.zero_le _, rfl, rfl, Lib.hid (fun j _ _ hj => by omega), Fr.refl _ _⟩
  case round =>
    obtain ⟨k, hk, rfl, rfl, HA, hf⟩ := hrel
    by_cases hlt : k < n
    · have hl1 : k < l.length := by have := HL.out; have := HN.out; omega
      have hl2 : k < m.length := by have := HN.out; omega
      obtain ⟨hcap, g, off, rfl, hcell⟩ := (Hc.out.fr hf) (by omega)
      obtain ⟨hcap', g', off', rfl, hcell'⟩ := (Hd.out.fr hf) (by omega)
      obtain ⟨x, hx⟩ : ∃ x, x = l[k] := ⟨_, rfl⟩
      obtain ⟨y, hy⟩ : ∃ y, y = m[k] := ⟨_, rfl⟩
      have hck := hcell k hl1
      have hck' := hcell' k hl2
      rw [← hx] at hck
      rw [← hy] at hck'
      have Hx := Lib.hid hx
      have Hy := Lib.hid hy
      have F := Lib.hid hf
      clear hcell hx hcell' hy hcap hcap' hf
      by_cases he : x = y
      · have He := Lib.hid he
        have hne : (x != y) = false := by simp [he]
        clear he
        go_wp2_with fail
        go_region
        go_wp2_with fail
        go_roundg (n - (k + 1))
        case measure => omega
        case rel =>
          refine ⟨k + 1, by omega, rfl, by congr 1, Lib.hid (fun j hj hj' hjk => ?_), F.out.drew⟩
          by_cases e : j = k
          · subst e; rw [← Hx.out, ← Hy.out]; exact He.out
          · exact HA.out j hj hj' (by omega)
      · have He := Lib.hid he
        have hne : (x != y) = true := by simp [he]
        clear he
        go_wp2_with fail
        go_region
        go_wp2_with fail
        go_ret
        refine ⟨lret_bool ?_, F.out.drew⟩
        have : l ≠ m := by
          intro e
          apply He.out
          rw [Hx.out, Hy.out]
          simp [e]
        simp [this]
    · have F := Lib.hid hf
      clear hf
      go_wp2_with fail
      go_ret
      refine ⟨lret_bool ?_, F.out⟩
      have : l = m := by
        refine int_list_ext l m HL.out (fun j hj => HA.out j hj (HL.out ▸ hj) ?_)
        have := HN.out; have := HL.out; omega
      simp [this]

end Go.Proofs.Ytcjijafmfomohaa
