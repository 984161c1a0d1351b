/-
  A text's copy; a slice of texts, copied with all that it holds.
-/
import Derived.Test.YtdaabgnfgdojhaaKindType
import Derived.Lib.Bytealg
import Derived.Lib.BufferWrite
import Derived.Lib.UnsafeStr
import Derived.Laws.MakeOwn
import Derived.Lib.SliceRun
import Derived.Deep.OwnRows
namespace Go.Proofs.Ytdaabgnfgdojhaa
open Go.RowKit
set_option maxRecDepth 100000

theorem Try.infoU8 : (Try.prog.info? 5).map (fun i => (i.zero, i.size, i.bytes)) = some (some (.int .u8 0), 1, 1) := by kernel_rfl

/-- What strings.Clone does to memory, step by step: a row is made, the bytes go into it, it is read as a text. -/
theorem clone_steps (s : ByteArray) (h0 : 0 < s.size) (hlim : s.size ≤ 281474976710656) (w : World) : ∃ (w0 w1 w2 : World),
    (Instr.makeSlice 61 (.int .i64 (s.size : Int)) (.int .i64 (s.size : Int))).run Try.prog w = .ok (.slice (some ⟨w.heap.size, 0, none⟩) s.size s.size) w0 ∧
    (Builtin.copy_ #[61, 9] 3 #[.slice (some ⟨w.heap.size, 0, none⟩) s.size s.size, .string s]).run Try.prog w0 = .ok (goInt s.size) w1 ∧
    (Builtin.unsafeString_ #[144, 3] 9 #[.pointer (some ⟨w.heap.size, 0, none⟩), .int .i64 (s.size : Int)]).run Try.prog w1 = .ok (.string s) w2 ∧ Fr (fun _ => False) w w2 := by
  obtain ⟨i0, hi, hz0, hz1, hz2⟩ := info_parts Try.infoU8
  have hls : s.data.toList.length = s.size := rfl
  have hbl : (Lib.byteCells s.data.toList).length = s.size := (Lib.byteCells_length _).trans hls
  obtain ⟨w0, hw0⟩ : ∃ w0, w0 = w.alloc (.cells (madeCells (Value.int .u8 0).cells (s.size * 1)) 5) := ⟨_, rfl⟩
  have m := run_make (P := Try.prog) w 61 5 i0 (.int .u8 0) Try.underlying61 hi hz0 .i64 .i64 (s.size : Int) (s.size : Int) (Int.natCast_nonneg _) (Int.le_refl _) (by rw [hz2]; omega) (by omega)
  rw [Int.toNat_natCast, hz1, ← hw0] at m
  have g0 : w0.heap[w.heap.size]? = some (.cells (madeCells (Value.int .u8 0).cells (s.size * 1)) 5 (0, 0)) := by rw [hw0]; exact heap_alloc_new w _
  have k := Lib.run_copy_row_string (P := Try.prog) w0 61 9 3 5 w.heap.size 0 s.size s.size s _ 5 Try.underlying61 (by rw [hi]; exact congrArg some hz1) g0 (Nat.le_refl _) (by rw [size_madeCells]; omega)
  rw [List.take_zero, List.nil_append, List.drop_of_length_le (by rw [Array.length_toList, size_madeCells]; omega), List.append_nil] at k
  have g1 := setRow_heap w0 w.heap.size _ (Lib.byteCells s.data.toList).toArray 5 (0, 0) g0
  have u := Lib.run_unsafeString_row (P := Try.prog) (w0.setRow w.heap.size (Lib.byteCells s.data.toList).toArray) 144 3 9 5 Try.underlying144 (by unfold Program.cellsOf; rw [hi]; exact hz1) w.heap.size s.size (by unfold World.shape?; rw [g1]; simp [hbl]) s.data.toList
    (fun e => by rw [e] at hls; simp at hls; omega) (Nat.le_of_eq hls) (by omega) (fun j x hx => by
      have hplain : (⟨w.heap.size, 0, none⟩ : Addr).add j = ⟨w.heap.size, j, none⟩ := by unfold Addr.add; split <;> simp_all
      rw [hplain, cell_of_row _ w.heap.size j _ 5 (0, 0) g1]
      simp [Lib.byteCells, hx])
  refine ⟨w0, _, _, m, k, u, ?_⟩
  have f1 : Fr (fun _ => False) w (w0.setRow w.heap.size (Lib.byteCells s.data.toList).toArray) := by
    have f0 : Fr (fun _ => False) w w0 := by rw [hw0]; exact (Fr.refl _ _).alloc _
    exact ⟨f0.os, f0.tape, f0.output, by have := f0.size; simp; omega, fun b hb hs => (setRow_other _ _ _ _ (by omega)).trans (f0.block b hb hs)⟩
  have B : Below w.heap.size w _ := Lib.below_freeze (f1.below (Nat.le_refl _) (fun _ _ h => h)) (p := ⟨w.heap.size, 0, none⟩) (Nat.le_refl _) s.data.toList.length
  exact ⟨B.os, B.tape, B.output, B.size, fun b hb _ => B.block b hb⟩

set_option maxHeartbeats 1000000 in
/-- A text's copy: the same bytes; what it is made of is new. -/
theorem lit_clone (s : ByteArray) (w : World) (hlim : s.size ≤ 281474976710656) :
    Calls Try.prog 67 #[.string s] w fun e w' => e = .returned (.string s) ∧ Fr (fun _ => False) w w' := by
  rcases Nat.eq_zero_or_pos s.size with h0 | h0
  · obtain rfl : s = ⟨#[]⟩ := ByteArray.ext (Array.eq_empty_of_size_eq_zero h0)
    go_enter Try.func67, Try.ntmps67
    go_wp2
    go_ret
    exact ⟨rfl, Fr.refl _ _⟩
  · obtain ⟨w0, w1, w2, m, k, u, f⟩ := clone_steps s h0 hlim w
    go_enter Try.func67, Try.ntmps67
    go_wp2
    go_ret
    exact ⟨rfl, f⟩

theorem clone_any (s : ByteArray) (w : World) (hlim : s.size ≤ 281474976710656) :
    Calls Try.prog 45 #[.string s] w fun e w' => e = .returned (.string s) ∧ Fr (fun _ => False) w w' := by
  go_enter Try.func45, Try.ntmps45
  go_wp2_with fail
  refine (lit_clone _ _ hlim).mono ?_
  rintro e w' ⟨rfl, f1⟩
  go_wp2
  go_ret
  exact ⟨rfl, f1⟩


theorem SeesL.first {P : Program} {w : World} {v : Value} {xs : List Value} (h : SeesL w v xs) : (Builtin.firstCells 1 xs.length v).run P w = .ok xs.toArray w := by
  rcases h with ⟨rfl, a, c, rfl⟩ | ⟨g, off, cap, rfl, _, hc⟩
  · cases a with
    | none => simp [Builtin.firstCells]
    | some a => exact run_firstCells_some (P := P) w 1 0 a 0 c [] rfl (by simp)
  · refine run_firstCells_some (P := P) w 1 xs.length ⟨g, off, none⟩ xs.length cap xs (by simp) ?_
    intro j v hj
    have hplain : (⟨g, off, none⟩ : Addr).add j = ⟨g, off + j, none⟩ := by unfold Addr.add; split <;> simp_all
    rw [hplain, hc j v hj]

theorem SeesL.drew {w : World} {v : Value} {xs : List Value} (h : SeesL w v xs) : SeesL w.drew v xs := h

theorem empty_row (w : World) (base : Nat) (hb : base ≤ w.heap.size) (e : TypeId) (size : Nat) : (w.alloc (.cells #[] e)).ownsRow base e size (.slice (some ⟨w.heap.size, 0, none⟩) 0 0) 0 [] :=
  ⟨by simp, .inr ⟨w.heap.size, 0, #[], rfl, hb, heap_alloc_new w _, Nat.le_refl _, by unfold maxLen; omega, by simp, by simp⟩⟩

theorem sv_one (l : List Txt) : ∀ u ∈ l.map sv, u.oneCell' = true := by
  intro u hu
  obtain ⟨c, _, rfl⟩ := List.mem_map.1 hu
  rfl

/-- The call made the slice v of these texts anew. -/
def NewTexts (w w' : World) (l : List Txt) (v : Value) : Prop := Texts (fun k => w.heap.size ≤ k) w' l v ∧ Fr (fun _ => False) w w'

set_option maxHeartbeats 4000000 in
/-- slices.Clone of texts: a row of its own, or nil. -/
theorem cloneTexts_any (R : Nat → Prop) (l : List Txt) (v : Value) (w : World) (h : Texts R w l v) :
    Calls Try.prog 87 #[v] w fun e w' => ∃ v', e = .returned v' ∧ w'.ownsRow w.heap.size 9 1 v' l.length (l.map sv) ∧ Fr (fun _ => False) w w' := by
  obtain ⟨i0, hi, hz0, hz1, hz2⟩ := info_parts Try.infoStr
  have qT : ∀ (w : World) (a : Option Addr) (n c n' c' : Nat), (binOp .eql 35 (.slice a n c) (.slice none n' c')).run Try.prog w = .ok (.bool a.isNone) w := fun w a n c n' c' => Lib.run_eql_slice_nil w _ _ a n c n' c' Try.underlying35
  have hl0 : l.length ≤ 1000 := h.1
  have hL := h.seesL
  obtain ⟨a, c, rfl, hc⟩ := h.shape
  cases a with
  | none =>
    have hn : l = [] := by
      rcases hc with hz | ⟨_, g, off, _, e, _⟩
      · exact List.eq_nil_of_length_eq_zero hz
      · cases e
    subst hn
    go_enter Try.func87, Try.ntmps87
    go_wp2
    go_ret
    exact ⟨_, rfl, World.ownsRow_nil w _ 9 1, Fr.refl _ _⟩
  | some a =>
    go_enter Try.func87, Try.ntmps87
    have f0 : Fr (fun _ => False) w (w.alloc (.cells #[] 9)) := (Fr.refl _ _).alloc _
    have hS := hL.fr0 f0
    have hF : ∀ w' : World, SeesL w' (.slice (some a) l.length c) (l.map sv) → (Builtin.firstCells 1 l.length (.slice (some a) l.length c)).run Try.prog w' = .ok (l.map sv).toArray w' := fun w' h => by
      have := h.first (P := Try.prog)
      rwa [List.length_map] at this
    have HF := Lib.hid hF
    have HS := Lib.hid hS
    have HF0 := Lib.hid f0
    clear hF hS hL hc h f0
    go_wp2_with (at_builtin; refine wpList_append_sep rfl (.tmp 5) (.tmp 6) 35 35 rfl w.heap.size 9 i0 (.string ⟨#[]⟩) 1 16 Try.underlying35 _ Try.underlying35 (.inr ⟨_, rfl⟩) hi hz0 hz1 hz2 rfl (by decide) (.slice (some ⟨w.heap.size, 0, none⟩) 0 0) 0 [] rfl ?own _ l.length (l.map sv) rfl (lenOf_slice _ _ _) ?len ?c1 ?c2 ?one ?b1 ?b2 ?base ?grow)
    case own => exact empty_row w _ (Nat.le_refl _) _ _
    case len => simp
    case c1 => exact HF.out _ HS.out
    case c2 => exact HF.out _ HS.out.drew
    case one => exact sv_one l
    case b1 => unfold maxLen; omega
    case b2 => omega
    case base => simp
    case grow =>
      intro v' w1 hown hg hv
      obtain ⟨a1, c1, rfl⟩ := slice_of_own hown
      have Ho := Lib.hid hown
      have Hg := Lib.hid hg
      clear hown hg hv
      go_wp2
      go_ret
      refine ⟨_, rfl, ?_, ?_⟩
      · have := Ho.out
        simpa using this
      · have := Fr.trans HF0.out (Fr.of_grown Hg.out) (S := fun _ => False) (fun i hi e => by simp [Value.ownBlock] at e; omega)
        exact this

theorem texts_own {w : World} {base : Nat} {l : List Txt} {v : Value} (h : w.ownsRow base 9 1 v l.length (l.map sv)) (h1 : l.length ≤ 1000) (h2 : ∀ s ∈ l, s.length ≤ 1000) : Texts (fun k => base ≤ k) w l v := by
  refine ⟨h1, h2, ?_⟩
  have hc := seesL_own h
  rcases h.2 with ⟨rfl, h0⟩ | ⟨g, cap, cur, rfl, hb, hg, hle, _, hs, ht⟩
  · exact .inl ⟨List.eq_nil_of_length_eq_zero h0, none, 0, rfl⟩
  · refine .inr ⟨g, 0, cap, hb, rfl, hle, fun j s hj => ?_⟩
    have := World.ownsRow.cells (g := g) h rfl j (sv s) (by rw [List.getElem?_map, hj]; rfl)
    have hplain : (⟨g, 0, none⟩ : Addr).add j = ⟨g, j, none⟩ := by unfold Addr.add; split <;> simp_all
    rw [hplain] at this
    rw [Nat.zero_add]
    exact this

theorem set_same (l : List Txt) (k : Nat) (hk : k < l.length) : (l.map sv).set k (sv l[k]) = l.map sv := by
  rw [← List.map_set]
  congr 1
  exact List.set_getElem_self hk

set_option maxHeartbeats 4000000 in
/-- copiedNames: the same texts, in new memory. -/
theorem copied_names (R : Nat → Prop) (l : List Txt) (v : Value) (w : World) (h : Texts R w l v) :
    Calls Try.prog 66 #[v] w fun e w' => ∃ v', e = .returned v' ∧ NewTexts w w' l v' := by
  have hl0 : l.length ≤ 1000 := h.1
  have hs0 := Lib.hid h.2.1
  have hcl := cloneTexts_any R l v w h
  obtain ⟨a0, c0, rfl, _⟩ := h.shape
  clear h
  go_enter Try.func66, Try.ntmps66
  go_wp2_with fail
  refine hcl.mono ?_
  rintro e w1 ⟨v1, rfl, hO, f1⟩
  clear hcl
  obtain ⟨a, c, rfl⟩ := slice_of_own hO
  have HO := Lib.hid hO
  have F1 := Lib.hid f1
  clear hO f1
  go_wp2
  go_loopg [3, 4, 9] l.length (fun G u3 u4 u9 wr => ∃ k : Nat, k ≤ l.length ∧ G = l.length - k ∧ u9 = .int .i64 k ∧ Hid (wr.ownsRow w.heap.size 9 1 (.slice a l.length c) l.length (l.map sv) ∧ Fr (fun _ => False) w wr))
  case atStart => exact ⟨0, Nat.zero_le _, rfl, by go_num, Lib.hid ⟨HO.out, F1.out⟩⟩
  case round =>
    obtain ⟨k, hk, rfl, rfl, HI⟩ := hrel
    by_cases hlt : k < l.length
    · obtain ⟨g, cap, rfl, hg, hle⟩ : ∃ g cap, a = some ⟨g, 0, none⟩ ∧ w.heap.size ≤ g ∧ l.length ≤ cap ∧ c = cap := by
        rcases HI.out.1.2 with ⟨e, h0⟩ | ⟨g, cap, cur, e, hb, _, hn, _⟩
        · omega
        · cases e; exact ⟨g, c, rfl, hb, hn, rfl⟩
      obtain ⟨hle, rfl⟩ := hle
      have hplain : ∀ j, (⟨g, 0, none⟩ : Addr).add j = ⟨g, j, none⟩ := fun j => by unfold Addr.add; split <;> simp_all
      have hck := World.ownsRow.cells (g := g) HI.out.1 rfl k (sv l[k]) (by rw [List.getElem?_map, List.getElem?_eq_getElem hlt]; rfl)
      rw [hplain] at hck
      have PL := Lib.hid hplain
      clear hplain
      obtain ⟨d, hd⟩ : ∃ d, d = l[k] := ⟨_, rfl⟩
      rw [← hd] at hck
      unfold sv at hck
      have hdl : d.length ≤ 1000 := hs0.out d (by rw [hd]; exact List.getElem_mem hlt)
      have Hd := Lib.hid hd
      clear hd
      go_wp2_with fail
      refine (clone_any ⟨d.toArray⟩ wr (by show d.toArray.size ≤ _; simp; omega)).mono ?_
      rintro e w2 ⟨rfl, f2⟩
      have hO2 := ownsRow_fr HI.out.1 f2 (fun _ _ h => h)
      have hck2 := World.ownsRow.cells (g := g) hO2 rfl k (sv l[k]) (by rw [List.getElem?_map, List.getElem?_eq_getElem hlt]; rfl)
      rw [PL.out, ← Hd.out] at hck2
      unfold sv at hck2
      have hfz := World.ownsRow.frozenAt hO2 k
      have HO2 := Lib.hid hO2
      have F2 := Lib.hid f2
      clear hO2 f2 hck
      go_wp2
      go_roundg (l.length - (k + 1))
      case measure => omega
      case rel =>
        refine ⟨k + 1, by omega, rfl, by go_num, Lib.hid ⟨?_, ?_⟩⟩
        · have h1 := (World.ownsRow.stored HO2.out k (sv l[k])).1
          rw [set_same l k hlt, ← Hd.out] at h1
          exact h1
        · exact Fr.setCell (p := ⟨g, k, none⟩) (HI.out.2.trans F2.out (fun _ _ h => h)) (fun h => absurd h (Nat.not_lt.2 hg)) _
    · obtain rfl : k = l.length := by omega
      go_wp2
      go_ret
      exact ⟨_, rfl, texts_own HI.out.1 hl0 hs0.out, HI.out.2⟩

end Go.Proofs.Ytdaabgnfgdojhaa
