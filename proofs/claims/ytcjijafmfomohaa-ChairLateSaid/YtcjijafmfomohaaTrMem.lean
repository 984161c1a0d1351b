/-
  Package troupe: which nodes may be members; Check, Same; a slice's clone.
-/
import Derived.Test.YtcjijafmfomohaaTrMost
import Derived.Lib.SliceRun
import Derived.Deep.OwnRows
namespace Go.Proofs.Ytcjijafmfomohaa
open Go.RowKit
set_option maxRecDepth 100000

/-- Whether they stand in ascending order, above p, below 16. -/
def asc : Int → List Int → Bool
  | _, [] => true
  | p, x :: l => decide (p < x) && decide (x < 16) && asc x l

/-- The first error of nodes that are to be members. -/
def chkM (l : List Int) : Int := if 1 ≤ l.length ∧ l.length ≤ 16 then (if asc (-1) l then 0 else 2) else 7

theorem asc_step (p : Int) (l : List Int) (k : Nat) (hk : k < l.length) : asc p (l.drop k) = (decide (p < l[k]) && decide (l[k] < 16) && asc l[k] (l.drop (k + 1))) := by
  rw [List.drop_eq_getElem_cons hk]
  rfl

theorem Try.infoInt : (Try.prog.info? 3).map (fun i => (i.zero, i.size, i.bytes)) = some (some (.int .i64 0), 1, 8) := by kernel_rfl

theorem SI.first {P : Program} {w : World} {v : Value} {l : List Int} (h : SI w v l) : (Builtin.firstCells 1 l.length v).run P w = .ok (l.map (Value.int .i64)).toArray w := by
  rcases h with ⟨h, a, c, rfl⟩ | ⟨g, off, cap, rfl, _, hc⟩
  · have : l = [] := by simpa using h
    subst this
    cases a with
    | none => simp [Builtin.firstCells]
    | some a => exact run_firstCells_some (P := P) w 1 0 a 0 c [] rfl (by simp)
  · rw [List.length_map]
    refine run_firstCells_some (P := P) w 1 l.length ⟨g, off, none⟩ l.length cap (l.map (Value.int .i64)) (by simp) ?_
    intro j v hj
    have hplain : (⟨g, off, none⟩ : Addr).add j = ⟨g, off + j, none⟩ := by unfold Addr.add; split <;> simp_all
    rw [hplain, hc j v hj]

theorem iv_one (l : List Int) : ∀ u ∈ l.map (Value.int .i64), u.oneCell' = true := by
  intro u hu
  obtain ⟨c, _, rfl⟩ := List.mem_map.1 hu
  rfl

theorem empty_row (w : World) (base : Nat) (hb : base ≤ w.heap.size) (e : TypeId) (size : Nat) : (w.alloc (.cells #[] e)).ownsRow base e size (.slice (some ⟨w.heap.size, 0, none⟩) 0 0) 0 [] :=
  ⟨by simp, .inr ⟨w.heap.size, 0, #[], rfl, hb, heap_alloc_new w _, Nat.le_refl _, by unfold maxLen; omega, by simp, by simp⟩⟩

/-- The slice v owns the integers l alone, in memory from base on. -/
def OI (w : World) (base : Nat) (v : Value) (l : List Int) : Prop := w.ownsRow base 3 1 v l.length (l.map (Value.int .i64))

theorem OI.si {w : World} {base : Nat} {v : Value} {l : List Int} (h : OI w base v l) : SI w v l := by
  rcases h.2 with ⟨rfl, h0⟩ | ⟨g, cap, cur, rfl, _, hg, hle, _, hs, ht⟩
  · exact .inl ⟨by simp [List.eq_nil_of_length_eq_zero h0], none, 0, rfl⟩
  · refine .inr ⟨g, 0, cap, by simp, by simpa using hle, fun j u hj => ?_⟩
    have := World.ownsRow.cells (g := g) h rfl j u hj
    have hplain : (⟨g, 0, none⟩ : Addr).add j = ⟨g, j, none⟩ := by unfold Addr.add; split <;> simp_all
    rw [hplain] at this
    rw [Nat.zero_add]
    exact this

set_option maxHeartbeats 4000000 in
/-- slices.Clone of integers: a row of its own, or nil. -/
theorem lclone_any (l : List Int) (a : Option Addr) (c : Nat) (w : World) (hc : SIc w a c l) (hs : l.length ≤ 1000) :
    Calls Try.prog 28 #[.slice a l.length c] w fun e w' => ∃ v', e = .returned v' ∧ OI w' w.heap.size v' l ∧ Fr (fun _ => False) w w' := by
  obtain ⟨i0, hi, hz0, hz1, hz2⟩ := info_parts Try.infoInt
  have qT : ∀ (w : World) (a : Option Addr) (n c n' c' : Nat), (binOp .eql 31 (.slice a n c) (.slice none n' c')).run Try.prog w = .ok (.bool a.isNone) w := fun w a n c n' c' => Lib.run_eql_slice_nil w _ _ a n c n' c' Try.underlying31
  cases a with
  | none =>
    have hn : l = [] := by
      by_cases h0 : 0 < l.length
      · obtain ⟨_, g, off, e, _⟩ := hc h0; cases e
      · exact List.eq_nil_of_length_eq_zero (by omega)
    subst hn
    go_enter Try.func28, Try.ntmps28
    go_wp2
    go_ret
    exact ⟨_, rfl, World.ownsRow_nil w _ 3 1, Fr.refl _ _⟩
  | some a =>
    have f0 : Fr (fun _ => False) w (w.alloc (.cells #[] 3)) := (Fr.refl _ _).alloc _
    have hS := (hc.fr f0).sees
    have HS := Lib.hid hS
    have HF0 := Lib.hid f0
    clear hS hc f0
    go_enter Try.func28, Try.ntmps28
    go_wp2_with (at_builtin; refine wpList_append_sep rfl (.tmp 5) (.tmp 6) 31 31 rfl w.heap.size 3 i0 (.int .i64 0) 1 8 Try.underlying31 _ Try.underlying31 (.inr ⟨_, rfl⟩) hi hz0 hz1 hz2 rfl (by decide) (.slice (some ⟨w.heap.size, 0, none⟩) 0 0) 0 [] rfl ?own _ l.length (l.map (Value.int .i64)) rfl (lenOf_slice _ _ _) ?len ?c1 ?c2 ?one ?b1 ?b2 ?base ?grow)
    case own => exact empty_row w _ (Nat.le_refl _) _ _
    case len => simp
    case c1 => exact HS.out.first
    case c2 => exact SI.first (w := World.drew _) HS.out
    case one => exact iv_one l
    case b1 => unfold maxLen; omega
    case b2 => omega
    case base => simp
    case grow =>
      intro v' w1 hown hg hv
      obtain ⟨a1, c1, rfl⟩ := slice_of_own hown
      have Ho := Lib.hid hown
      have Hg := Lib.hid hg
      clear hown hg hv
      go_wp2
      go_ret
      refine ⟨_, rfl, by simpa [OI] using Ho.out, HF0.out.trans (Fr.of_grown Hg.out) ?_⟩
      intro i hi he
      simp [Value.ownBlock] at he
      omega

end Go.Proofs.Ytcjijafmfomohaa
