/-
  CouBack, part 3 of what it rests on: KindType, KindCopy, Bytes.
-/
import Derived.Test.YtplipjijaaejlaaGreatS02
import Derived.Lib.Bytealg
import Derived.Lib.BufferWrite
import Derived.Lib.UnsafeStr
import Derived.Laws.MakeOwn
import Derived.Lib.SliceRun
import Derived.Deep.OwnRows
set_option linter.unusedVariables false
set_option linter.unusedSimpArgs false
set_option maxHeartbeats 64000000
namespace Go.Proofs.YtplipjijaaejlaaGreat
open Go.RowKit
open Go.Lib (hid)
section
/-- A type: its kind, its greatest length, its names, how many types it consists of, and which ('nil' stands for those that there aren't). -/
inductive KT where
  | nil
  | mk (k : Nat) (m : Int) (ns : List Txt) (n : Nat) (of : Nat → KT)

/-- The slice v shows the texts l, in memory of R. -/
def Texts (R : Nat → Prop) (w : World) (l : List Txt) (v : Value) : Prop :=
  l.length ≤ 1000 ∧ (∀ s ∈ l, s.length ≤ 1000) ∧
  ((l = [] ∧ ∃ a c, v = .slice a 0 c) ∨
   ∃ g off cap, R g ∧ v = .slice (some ⟨g, off, none⟩) l.length cap ∧ l.length ≤ cap ∧ ∀ j s, l[j]? = some s → w.cell? ⟨g, off + j, none⟩ = some (sv s))

/-- The value v shows the type t, in memory of R. -/
def Shows (R : Nat → Prop) (w : World) : KT → Value → Prop
  | .nil, _ => False
  | .mk k m ns n of, v => ∃ vn vo, v = .agg #[.int .u8 k, .int .i64 m, vn, vo] ∧ k ≤ 255 ∧ n ≤ 1000 ∧ Texts R w ns vn ∧
    ((n = 0 ∧ ∃ a c, vo = .slice a 0 c) ∨
     ∃ g off cap, R g ∧ vo = .slice (some ⟨g, off, none⟩) n cap ∧ n ≤ cap ∧ ∀ i, i < n → ∃ x0 x1 x2 x3,
      w.cell? ⟨g, off + i * 4, none⟩ = some x0 ∧ w.cell? ⟨g, off + i * 4 + 1, none⟩ = some x1 ∧ w.cell? ⟨g, off + i * 4 + 2, none⟩ = some x2 ∧ w.cell? ⟨g, off + i * 4 + 3, none⟩ = some x3 ∧
      Shows R w (of i) (.agg #[x0, x1, x2, x3]))

/-- The slice v shows these aliases. -/
def Aliases (R : Nat → Prop) (w : World) (l : List (Txt × KT)) (v : Value) : Prop :=
  l.length ≤ 1000 ∧ (∀ x ∈ l, x.1.length ≤ 1000) ∧
  ((l = [] ∧ ∃ a c, v = .slice a 0 c) ∨
   ∃ g off cap, R g ∧ v = .slice (some ⟨g, off, none⟩) l.length cap ∧ l.length ≤ cap ∧ ∀ i x, l[i]? = some x → ∃ x0 x1 x2 x3,
    w.cell? ⟨g, off + i * 5, none⟩ = some (sv x.1) ∧ w.cell? ⟨g, off + i * 5 + 1, none⟩ = some x0 ∧ w.cell? ⟨g, off + i * 5 + 2, none⟩ = some x1 ∧ w.cell? ⟨g, off + i * 5 + 3, none⟩ = some x2 ∧ w.cell? ⟨g, off + i * 5 + 4, none⟩ = some x3 ∧
    Shows R w x.2 (.agg #[x0, x1, x2, x3]))

theorem cell_fr {R S : Nat → Prop} {w w' : World} (hf : Fr S w w') (hS : ∀ k, R k → ¬ S k) {g o : Nat} {u : Value} (hR : R g) (h : w.cell? ⟨g, o, none⟩ = some u) : w'.cell? ⟨g, o, none⟩ = some u := by
  rw [← h]; exact hf.cell (World.block_lt_of_cell? w _ h) (hS g hR)

theorem Texts.fr {R S : Nat → Prop} {w w' : World} {l : List Txt} {v : Value} (h : Texts R w l v) (hf : Fr S w w') (hS : ∀ k, R k → ¬ S k) : Texts R w' l v := by
  obtain ⟨h1, h2, h3 | ⟨g, off, cap, hg, rfl, hle, hc⟩⟩ := h
  · exact ⟨h1, h2, .inl h3⟩
  · exact ⟨h1, h2, .inr ⟨g, off, cap, hg, rfl, hle, fun j s hj => cell_fr hf hS hg (hc j s hj)⟩⟩

theorem Texts.mono {R S : Nat → Prop} {w : World} {l : List Txt} {v : Value} (h : Texts R w l v) (hS : ∀ k, k < w.heap.size → R k → S k) : Texts S w l v := by
  obtain ⟨h1, h2, h3 | ⟨g, off, cap, hg, rfl, hle, hc⟩⟩ := h
  · exact ⟨h1, h2, .inl h3⟩
  · cases l with
    | nil => exact ⟨h1, h2, .inl ⟨rfl, _, _, rfl⟩⟩
    | cons x l => exact ⟨h1, h2, .inr ⟨g, off, cap, hS g (World.block_lt_of_cell? w _ (hc 0 x rfl)) hg, rfl, hle, hc⟩⟩

theorem Texts.seesL {R : Nat → Prop} {w : World} {l : List Txt} {v : Value} (h : Texts R w l v) : SeesL w v (l.map sv) := by
  obtain ⟨h1, h2, ⟨rfl, a, c, rfl⟩ | ⟨g, off, cap, hg, rfl, hle, hc⟩⟩ := h
  · exact .inl ⟨rfl, a, c, rfl⟩
  · refine .inr ⟨g, off, cap, by simp, by simpa using hle, fun j u hj => ?_⟩
    rw [List.getElem?_map] at hj
    cases hx : l[j]? with
    | none => rw [hx] at hj; cases hj
    | some x => rw [hx] at hj; cases hj; exact hc j x hx

theorem Shows.fr {R S : Nat → Prop} {w w' : World} (hf : Fr S w w') (hS : ∀ k, R k → ¬ S k) (t : KT) : ∀ v, Shows R w t v → Shows R w' t v := by
  induction t with
  | nil => exact fun _ h => h.elim
  | mk k m ns n of ih =>
    rintro v ⟨vn, vo, rfl, hk, hn, ht, ho⟩
    refine ⟨vn, vo, rfl, hk, hn, ht.fr hf hS, ?_⟩
    rcases ho with h | ⟨g, off, cap, hg, rfl, hle, hc⟩
    · exact .inl h
    · refine .inr ⟨g, off, cap, hg, rfl, hle, fun i hi => ?_⟩
      obtain ⟨x0, x1, x2, x3, c0, c1, c2, c3, hx⟩ := hc i hi
      exact ⟨x0, x1, x2, x3, cell_fr hf hS hg c0, cell_fr hf hS hg c1, cell_fr hf hS hg c2, cell_fr hf hS hg c3, ih i _ hx⟩

theorem Shows.mono {R S : Nat → Prop} {w : World} (hS : ∀ k, k < w.heap.size → R k → S k) (t : KT) : ∀ v, Shows R w t v → Shows S w t v := by
  induction t with
  | nil => exact fun _ h => h.elim
  | mk k m ns n of ih =>
    rintro v ⟨vn, vo, rfl, hk, hn, ht, ho⟩
    refine ⟨vn, vo, rfl, hk, hn, ht.mono hS, ?_⟩
    rcases ho with h | ⟨g, off, cap, hg, rfl, hle, hc⟩
    · exact .inl h
    · cases n with
      | zero => exact .inl ⟨rfl, _, _, rfl⟩
      | succ n =>
        refine .inr ⟨g, off, cap, ?_, rfl, hle, fun i hi => ?_⟩
        · obtain ⟨x0, x1, x2, x3, c0, _⟩ := hc 0 (by omega)
          exact hS g (World.block_lt_of_cell? w _ c0) hg
        · obtain ⟨x0, x1, x2, x3, c0, c1, c2, c3, hx⟩ := hc i hi
          exact ⟨x0, x1, x2, x3, c0, c1, c2, c3, ih i _ hx⟩

theorem Aliases.fr {R S : Nat → Prop} {w w' : World} {l : List (Txt × KT)} {v : Value} (h : Aliases R w l v) (hf : Fr S w w') (hS : ∀ k, R k → ¬ S k) : Aliases R w' l v := by
  obtain ⟨h1, h2, h3 | ⟨g, off, cap, hg, rfl, hle, hc⟩⟩ := h
  · exact ⟨h1, h2, .inl h3⟩
  · refine ⟨h1, h2, .inr ⟨g, off, cap, hg, rfl, hle, fun i x hi => ?_⟩⟩
    obtain ⟨x0, x1, x2, x3, c, c0, c1, c2, c3, hx⟩ := hc i x hi
    exact ⟨x0, x1, x2, x3, cell_fr hf hS hg c, cell_fr hf hS hg c0, cell_fr hf hS hg c1, cell_fr hf hS hg c2, cell_fr hf hS hg c3, Shows.fr hf hS _ _ hx⟩

theorem Aliases.mono {R S : Nat → Prop} {w : World} {l : List (Txt × KT)} {v : Value} (h : Aliases R w l v) (hS : ∀ k, k < w.heap.size → R k → S k) : Aliases S w l v := by
  obtain ⟨h1, h2, h3 | ⟨g, off, cap, hg, rfl, hle, hc⟩⟩ := h
  · exact ⟨h1, h2, .inl h3⟩
  · cases l with
    | nil => exact ⟨h1, h2, .inl ⟨rfl, _, _, rfl⟩⟩
    | cons x l =>
      refine ⟨h1, h2, .inr ⟨g, off, cap, ?_, rfl, hle, fun i y hi => ?_⟩⟩
      · obtain ⟨x0, x1, x2, x3, c, _⟩ := hc 0 x rfl
        exact hS g (World.block_lt_of_cell? w _ c) hg
      · obtain ⟨x0, x1, x2, x3, c, c0, c1, c2, c3, hx⟩ := hc i y hi
        exact ⟨x0, x1, x2, x3, c, c0, c1, c2, c3, Shows.mono hS _ _ hx⟩

/-- The shape of a slice of texts, of types, of aliases. -/
theorem Texts.shape {R : Nat → Prop} {w : World} {l : List Txt} {v : Value} (h : Texts R w l v) : ∃ a c, v = .slice a l.length c ∧ (l.length = 0 ∨ l.length ≤ c ∧ ∃ g off, R g ∧ a = some ⟨g, off, none⟩ ∧ ∀ j s, l[j]? = some s → w.cell? ⟨g, off + j, none⟩ = some (sv s)) := by
  obtain ⟨h1, h2, ⟨rfl, a, c, rfl⟩ | ⟨g, off, cap, hg, rfl, hle, hc⟩⟩ := h
  · exact ⟨a, c, rfl, .inl rfl⟩
  · exact ⟨_, cap, rfl, .inr ⟨hle, g, off, hg, rfl, hc⟩⟩

theorem Aliases.shape {R : Nat → Prop} {w : World} {l : List (Txt × KT)} {v : Value} (h : Aliases R w l v) : ∃ a c, v = .slice a l.length c ∧ (l.length = 0 ∨ l.length ≤ c ∧ ∃ g off, R g ∧ a = some ⟨g, off, none⟩ ∧ ∀ i x, l[i]? = some x → ∃ x0 x1 x2 x3,
    w.cell? ⟨g, off + i * 5, none⟩ = some (sv x.1) ∧ w.cell? ⟨g, off + i * 5 + 1, none⟩ = some x0 ∧ w.cell? ⟨g, off + i * 5 + 2, none⟩ = some x1 ∧ w.cell? ⟨g, off + i * 5 + 3, none⟩ = some x2 ∧ w.cell? ⟨g, off + i * 5 + 4, none⟩ = some x3 ∧
    Shows R w x.2 (.agg #[x0, x1, x2, x3])) := by
  obtain ⟨h1, h2, ⟨rfl, a, c, rfl⟩ | ⟨g, off, cap, hg, rfl, hle, hc⟩⟩ := h
  · exact ⟨a, c, rfl, .inl rfl⟩
  · exact ⟨_, cap, rfl, .inr ⟨hle, g, off, hg, rfl, hc⟩⟩

/-- The cells of a type's value. -/
theorem Shows.cells {R : Nat → Prop} {w : World} {t : KT} {x0 x1 x2 x3 : Value} (h : Shows R w t (.agg #[x0, x1, x2, x3])) :
    ∃ (k : Nat) (m : Int) (a : Option Addr) (n c : Nat) (a' : Option Addr) (n' c' : Nat), x0 = .int .u8 k ∧ x1 = .int .i64 m ∧ x2 = .slice a n c ∧ x3 = .slice a' n' c' := by
  cases t with
  | nil => exact h.elim
  | mk k m ns n of =>
    obtain ⟨vn, vo, e, _, _, ht, ho⟩ := h
    simp at e
    obtain ⟨rfl, rfl, rfl, rfl⟩ := e
    obtain ⟨a, c, rfl, _⟩ := ht.shape
    rcases ho with ⟨_, a', c', rfl⟩ | ⟨g, off, cap, _, rfl, _⟩
    · exact ⟨k, m, a, _, c, a', _, c', rfl, rfl, rfl, rfl⟩
    · exact ⟨k, m, a, _, c, _, _, cap, rfl, rfl, rfl, rfl⟩

theorem Shows.four {R : Nat → Prop} {w : World} {t : KT} {v : Value} (h : Shows R w t v) :
    ∃ (k : Nat) (m : Int) (a : Option Addr) (n c : Nat) (a' : Option Addr) (n' c' : Nat), v = .agg #[.int .u8 k, .int .i64 m, .slice a n c, .slice a' n' c'] := by
  obtain ⟨x0, x1, x2, x3, rfl⟩ : ∃ x0 x1 x2 x3, v = .agg #[x0, x1, x2, x3] := by
    cases t with
    | nil => exact h.elim
    | mk k m ns n of =>
      obtain ⟨vn, vo, e, _⟩ := h
      exact ⟨_, _, _, _, e⟩
  obtain ⟨k, m, a, n, c, a', n', c', rfl, rfl, rfl, rfl⟩ := h.cells
  exact ⟨k, m, a, n, c, a', n', c', rfl⟩

/-- The first aliases of some. -/
theorem Aliases.take {R : Nat → Prop} {w : World} {l : List (Txt × KT)} {a : Option Addr} {n c : Nat} (h : Aliases R w l (.slice a n c)) (i : Nat) (hi : i ≤ l.length) : Aliases R w (l.take i) (.slice a i c) := by
  obtain ⟨h1, h2, h3⟩ := h
  refine ⟨by rw [List.length_take]; omega, fun x hx => h2 x (List.mem_of_mem_take hx), ?_⟩
  rcases h3 with ⟨rfl, a', c', e⟩ | ⟨g, off, cap, hg, e, hle, hc⟩
  · cases e
    simp at hi
    subst hi
    exact .inl ⟨rfl, _, _, rfl⟩
  · cases e
    have e1 : (l.take i).length = i := by rw [List.length_take]; omega
    refine .inr ⟨g, off, _, hg, by rw [e1], by omega, fun j x hj => hc j x ?_⟩
    rw [List.getElem?_take] at hj
    split at hj
    · exact hj
    · cases hj

/-- A greatest length if, and only if, it needs one? -/
def sizedB (k : Nat) (m : Int) : Bool := if k = 4 ∨ k = 5 then decide (1 ≤ m ∧ m ≤ 60) else decide (m = 0)

/-- As many names and types as the kind asks for? -/
def formedB (k nn n : Nat) : Bool :=
  if k = 5 then decide (nn = 0 ∧ n = 1) else if k = 6 ∨ k = 8 then decide (n = nn) else if k = 7 then decide (n = 0) else if k = 9 then decide (nn = 1 ∧ n = 0) else decide (nn = 0 ∧ n = 0)

/-- The first error of names, behind those of bef. -/
def namesE (bef : List Txt) : List Txt → Nat
  | [] => 0
  | s :: r => if nameE bef s = 0 then namesE (bef ++ [s]) r else nameE bef s

def checkNamesE (ns : List Txt) : Nat := if ns.length < 1 ∨ 12 < ns.length then 7 else namesE [] ns

/-- The first error of n that are asked in order. -/
def firstE (f : Nat → Nat) : Nat → Nat
  | 0 => 0
  | n + 1 => if firstE f n = 0 then f n else firstE f n

theorem firstE_stop (f : Nat → Nat) (n k : Nat) (hk : k < n) (h0 : firstE f k = 0) (h : f k ≠ 0) : firstE f n = f k := by
  induction n with
  | zero => omega
  | succ n ih =>
    unfold firstE
    by_cases e : k = n
    · subst e; rw [if_pos h0]
    · have := ih (by omega)
      rw [if_neg (by rw [this]; exact h)]
      exact this

theorem firstE_step (f : Nat → Nat) (k : Nat) (h0 : firstE f k = 0) (h : f k = 0) : firstE f (k + 1) = 0 := by
  unfold firstE; rw [if_pos h0]; exact h

/-- The index of the alias for which a type of these names stands, or -1. -/
def standsN (known : List (Txt × KT)) (ns : List Txt) : Int := match ns with
  | [s] => firstAt (fun x => decide (x.1 = s)) known
  | _ => -1

/-- The first error of a type, where these aliases are known. -/
def rightE (known : List (Txt × KT)) : KT → Nat → Nat
  | .nil, _ => 0
  | .mk k m ns n of, lv =>
    if 10 ≤ k ∨ lv = 0 then 5
    else if !sizedB k m then 2
    else if !formedB k ns.length n then 4
    else
      let e := if k = 6 ∨ k = 7 ∨ k = 8 then checkNamesE ns else if k = 9 then (if standsN known ns < 0 then 10 else 0) else 0
      if e = 0 then firstE (fun i => rightE known (of i) (lv - 1)) n else e
end
section
set_option maxRecDepth 100000

theorem Tryz.infoU8 : (Tryz.prog.info? 5).map (fun i => (i.zero, i.size, i.bytes)) = some (some (.int .u8 0), 1, 1) := by kernel_rfl

/-- What strings.Clone does to memory, step by step: a row is made, the bytes go into it, it is read as a text. -/
theorem clone_steps (s : ByteArray) (h0 : 0 < s.size) (hlim : s.size ≤ 281474976710656) (w : World) : ∃ (w0 w1 w2 : World),
    (Instr.makeSlice 26 (.int .i64 (s.size : Int)) (.int .i64 (s.size : Int))).run Tryz.prog w = .ok (.slice (some ⟨w.heap.size, 0, none⟩) s.size s.size) w0 ∧
    (Builtin.copy_ #[26, 9] 3 #[.slice (some ⟨w.heap.size, 0, none⟩) s.size s.size, .string s]).run Tryz.prog w0 = .ok (goInt s.size) w1 ∧
    (Builtin.unsafeString_ #[170, 3] 9 #[.pointer (some ⟨w.heap.size, 0, none⟩), .int .i64 (s.size : Int)]).run Tryz.prog w1 = .ok (.string s) w2 ∧ Fr (fun _ => False) w w2 := by
  obtain ⟨i0, hi, hz0, hz1, hz2⟩ := info_parts Tryz.infoU8
  have hls : s.data.toList.length = s.size := rfl
  have hbl : (Lib.byteCells s.data.toList).length = s.size := (Lib.byteCells_length _).trans hls
  obtain ⟨w0, hw0⟩ : ∃ w0, w0 = w.alloc (.cells (madeCells (Value.int .u8 0).cells (s.size * 1)) 5) := ⟨_, rfl⟩
  have m := run_make (P := Tryz.prog) w 26 5 i0 (.int .u8 0) Tryz.underlying26 hi hz0 .i64 .i64 (s.size : Int) (s.size : Int) (Int.natCast_nonneg _) (Int.le_refl _) (by rw [hz2]; omega) (by omega)
  rw [Int.toNat_natCast, hz1, ← hw0] at m
  have g0 : w0.heap[w.heap.size]? = some (.cells (madeCells (Value.int .u8 0).cells (s.size * 1)) 5 (0, 0)) := by rw [hw0]; exact heap_alloc_new w _
  have k := Lib.run_copy_row_string (P := Tryz.prog) w0 26 9 3 5 w.heap.size 0 s.size s.size s _ 5 Tryz.underlying26 (by rw [hi]; exact congrArg some hz1) g0 (Nat.le_refl _) (by rw [size_madeCells]; omega)
  rw [List.take_zero, List.nil_append, List.drop_of_length_le (by rw [Array.length_toList, size_madeCells]; omega), List.append_nil] at k
  have g1 := setRow_heap w0 w.heap.size _ (Lib.byteCells s.data.toList).toArray 5 (0, 0) g0
  have u := Lib.run_unsafeString_row (P := Tryz.prog) (w0.setRow w.heap.size (Lib.byteCells s.data.toList).toArray) 170 3 9 5 Tryz.underlying170 (by unfold Program.cellsOf; rw [hi]; exact hz1) w.heap.size s.size (by unfold World.shape?; rw [g1]; simp [hbl]) s.data.toList
    (fun e => by rw [e] at hls; simp at hls; omega) (Nat.le_of_eq hls) (by omega) (fun j x hx => by
      have hplain : (⟨w.heap.size, 0, none⟩ : Addr).add j = ⟨w.heap.size, j, none⟩ := by unfold Addr.add; split <;> simp_all
      rw [hplain, cell_of_row _ w.heap.size j _ 5 (0, 0) g1]
      simp [Lib.byteCells, hx])
  refine ⟨w0, _, _, m, k, u, ?_⟩
  have f1 : Fr (fun _ => False) w (w0.setRow w.heap.size (Lib.byteCells s.data.toList).toArray) := by
    have f0 : Fr (fun _ => False) w w0 := by rw [hw0]; exact (Fr.refl _ _).alloc _
    exact ⟨f0.os, f0.tape, f0.output, by have := f0.size; simp; omega, fun b hb hs => (setRow_other _ _ _ _ (by omega)).trans (f0.block b hb hs)⟩
  have B : Below w.heap.size w _ := Lib.below_freeze (f1.below (Nat.le_refl _) (fun _ _ h => h)) (p := ⟨w.heap.size, 0, none⟩) (Nat.le_refl _) s.data.toList.length
  exact ⟨B.os, B.tape, B.output, B.size, fun b hb _ => B.block b hb⟩

/-- A text's copy: the same bytes; what it is made of is new. -/
theorem lit_clone (s : ByteArray) (w : World) (hlim : s.size ≤ 281474976710656) :
    Calls Tryz.prog 109 #[.string s] w fun e w' => e = .returned (.string s) ∧ Fr (fun _ => False) w w' := by
  rcases Nat.eq_zero_or_pos s.size with h0 | h0
  · obtain rfl : s = ⟨#[]⟩ := ByteArray.ext (Array.eq_empty_of_size_eq_zero h0)
    go_enter Tryz.func109, Tryz.ntmps109
    go_wp2
    go_ret
    exact ⟨rfl, Fr.refl _ _⟩
  · obtain ⟨w0, w1, w2, m, k, u, f⟩ := clone_steps s h0 hlim w
    go_enter Tryz.func109, Tryz.ntmps109
    go_wp2
    go_ret
    exact ⟨rfl, f⟩

theorem clone_any (s : ByteArray) (w : World) (hlim : s.size ≤ 281474976710656) :
    Calls Tryz.prog 108 #[.string s] w fun e w' => e = .returned (.string s) ∧ Fr (fun _ => False) w w' := by
  go_enter Tryz.func108, Tryz.ntmps108
  go_wp2_with fail
  refine (lit_clone _ _ hlim).mono ?_
  rintro e w' ⟨rfl, f1⟩
  go_wp2
  go_ret
  exact ⟨rfl, f1⟩


theorem SeesL.first {P : Program} {w : World} {v : Value} {xs : List Value} (h : SeesL w v xs) : (Builtin.firstCells 1 xs.length v).run P w = .ok xs.toArray w := by
  rcases h with ⟨rfl, a, c, rfl⟩ | ⟨g, off, cap, rfl, _, hc⟩
  · cases a with
    | none => simp [Builtin.firstCells]
    | some a => exact run_firstCells_some (P := P) w 1 0 a 0 c [] rfl (by simp)
  · refine run_firstCells_some (P := P) w 1 xs.length ⟨g, off, none⟩ xs.length cap xs (by simp) ?_
    intro j v hj
    have hplain : (⟨g, off, none⟩ : Addr).add j = ⟨g, off + j, none⟩ := by unfold Addr.add; split <;> simp_all
    rw [hplain, hc j v hj]

theorem SeesL.drew {w : World} {v : Value} {xs : List Value} (h : SeesL w v xs) : SeesL w.drew v xs := h

theorem empty_row (w : World) (base : Nat) (hb : base ≤ w.heap.size) (e : TypeId) (size : Nat) : (w.alloc (.cells #[] e)).ownsRow base e size (.slice (some ⟨w.heap.size, 0, none⟩) 0 0) 0 [] :=
  ⟨by simp, .inr ⟨w.heap.size, 0, #[], rfl, hb, heap_alloc_new w _, Nat.le_refl _, by unfold maxLen; omega, by simp, by simp⟩⟩

theorem sv_one (l : List Txt) : ∀ u ∈ l.map sv, u.oneCell' = true := by
  intro u hu
  obtain ⟨c, _, rfl⟩ := List.mem_map.1 hu
  rfl

/-- The call made the slice v of these texts anew. -/
def NewTexts (w w' : World) (l : List Txt) (v : Value) : Prop := Texts (fun k => w.heap.size ≤ k) w' l v ∧ Fr (fun _ => False) w w'

/-- slices.Clone of texts: a row of its own, or nil. -/
theorem cloneTexts_any (R : Nat → Prop) (l : List Txt) (v : Value) (w : World) (h : Texts R w l v) :
    Calls Tryz.prog 107 #[v] w fun e w' => ∃ v', e = .returned v' ∧ w'.ownsRow w.heap.size 9 1 v' l.length (l.map sv) ∧ Fr (fun _ => False) w w' := by
  obtain ⟨i0, hi, hz0, hz1, hz2⟩ := info_parts Tryz.infoStr
  have qT : ∀ (w : World) (a : Option Addr) (n c n' c' : Nat), (binOp .eql 31 (.slice a n c) (.slice none n' c')).run Tryz.prog w = .ok (.bool a.isNone) w := fun w a n c n' c' => Lib.run_eql_slice_nil w _ _ a n c n' c' Tryz.underlying31
  have hl0 : l.length ≤ 1000 := h.1
  have hL := h.seesL
  obtain ⟨a, c, rfl, hc⟩ := h.shape
  cases a with
  | none =>
    have hn : l = [] := by
      rcases hc with hz | ⟨_, g, off, _, e, _⟩
      · exact List.eq_nil_of_length_eq_zero hz
      · cases e
    subst hn
    go_enter Tryz.func107, Tryz.ntmps107
    go_wp2
    go_ret
    exact ⟨_, rfl, World.ownsRow_nil w _ 9 1, Fr.refl _ _⟩
  | some a =>
    go_enter Tryz.func107, Tryz.ntmps107
    have f0 : Fr (fun _ => False) w (w.alloc (.cells #[] 9)) := (Fr.refl _ _).alloc _
    have hS := hL.fr0 f0
    have hF : ∀ w' : World, SeesL w' (.slice (some a) l.length c) (l.map sv) → (Builtin.firstCells 1 l.length (.slice (some a) l.length c)).run Tryz.prog w' = .ok (l.map sv).toArray w' := fun w' h => by
      have := h.first (P := Tryz.prog)
      rwa [List.length_map] at this
    have HF := Lib.hid hF
    have HS := Lib.hid hS
    have HF0 := Lib.hid f0
    clear hF hS hL hc h f0
    go_wp2_with (at_builtin; refine wpList_append_sep rfl (.tmp 5) (.tmp 6) 31 31 rfl w.heap.size 9 i0 (.string ⟨#[]⟩) 1 16 Tryz.underlying31 _ Tryz.underlying31 (.inr ⟨_, rfl⟩) hi hz0 hz1 hz2 rfl (by decide) (.slice (some ⟨w.heap.size, 0, none⟩) 0 0) 0 [] rfl ?own _ l.length (l.map sv) rfl (lenOf_slice _ _ _) ?len ?c1 ?c2 ?one ?b1 ?b2 ?base ?grow)
    case own => exact empty_row w _ (Nat.le_refl _) _ _
    case len => simp
    case c1 => exact HF.out _ HS.out
    case c2 => exact HF.out _ HS.out.drew
    case one => exact sv_one l
    case b1 => unfold maxLen; omega
    case b2 => omega
    case base => simp
    case grow =>
      intro v' w1 hown hg hv
      obtain ⟨a1, c1, rfl⟩ := slice_of_own hown
      have Ho := Lib.hid hown
      have Hg := Lib.hid hg
      clear hown hg hv
      go_wp2
      go_ret
      refine ⟨_, rfl, ?_, ?_⟩
      · have := Ho.out
        simpa using this
      · have := Fr.trans HF0.out (Fr.of_grown Hg.out) (S := fun _ => False) (fun i hi e => by simp [Value.ownBlock] at e; omega)
        exact this

theorem texts_own {w : World} {base : Nat} {l : List Txt} {v : Value} (h : w.ownsRow base 9 1 v l.length (l.map sv)) (h1 : l.length ≤ 1000) (h2 : ∀ s ∈ l, s.length ≤ 1000) : Texts (fun k => base ≤ k) w l v := by
  refine ⟨h1, h2, ?_⟩
  have hc := seesL_own h
  rcases h.2 with ⟨rfl, h0⟩ | ⟨g, cap, cur, rfl, hb, hg, hle, _, hs, ht⟩
  · exact .inl ⟨List.eq_nil_of_length_eq_zero h0, none, 0, rfl⟩
  · refine .inr ⟨g, 0, cap, hb, rfl, hle, fun j s hj => ?_⟩
    have := World.ownsRow.cells (g := g) h rfl j (sv s) (by rw [List.getElem?_map, hj]; rfl)
    have hplain : (⟨g, 0, none⟩ : Addr).add j = ⟨g, j, none⟩ := by unfold Addr.add; split <;> simp_all
    rw [hplain] at this
    rw [Nat.zero_add]
    exact this

theorem set_same (l : List Txt) (k : Nat) (hk : k < l.length) : (l.map sv).set k (sv l[k]) = l.map sv := by
  rw [← List.map_set]
  congr 1
  exact List.set_getElem_self hk

/-- copiedNames: the same texts, in new memory. -/
theorem copied_names (R : Nat → Prop) (l : List Txt) (v : Value) (w : World) (h : Texts R w l v) :
    Calls Tryz.prog 106 #[v] w fun e w' => ∃ v', e = .returned v' ∧ NewTexts w w' l v' := by
  have hl0 : l.length ≤ 1000 := h.1
  have hs0 := Lib.hid h.2.1
  have hcl := cloneTexts_any R l v w h
  obtain ⟨a0, c0, rfl, _⟩ := h.shape
  clear h
  go_enter Tryz.func106, Tryz.ntmps106
  go_wp2_with fail
  refine hcl.mono ?_
  rintro e w1 ⟨v1, rfl, hO, f1⟩
  clear hcl
  obtain ⟨a, c, rfl⟩ := slice_of_own hO
  have HO := Lib.hid hO
  have F1 := Lib.hid f1
  clear hO f1
  go_wp2
  go_loopg [3, 4, 9] l.length (fun G u3 u4 u9 wr => ∃ k : Nat, k ≤ l.length ∧ G = l.length - k ∧ u9 = .int .i64 k ∧ Hid (wr.ownsRow w.heap.size 9 1 (.slice a l.length c) l.length (l.map sv) ∧ Fr (fun _ => False) w wr))
  case atStart => exact ⟨0, Nat.zero_le _, rfl, by go_num, Lib.hid ⟨HO.out, F1.out⟩⟩
  case round =>
    obtain ⟨k, hk, rfl, rfl, HI⟩ := hrel
    by_cases hlt : k < l.length
    · obtain ⟨g, cap, rfl, hg, hle⟩ : ∃ g cap, a = some ⟨g, 0, none⟩ ∧ w.heap.size ≤ g ∧ l.length ≤ cap ∧ c = cap := by
        rcases HI.out.1.2 with ⟨e, h0⟩ | ⟨g, cap, cur, e, hb, _, hn, _⟩
        · omega
        · cases e; exact ⟨g, c, rfl, hb, hn, rfl⟩
      obtain ⟨hle, rfl⟩ := hle
      have hplain : ∀ j, (⟨g, 0, none⟩ : Addr).add j = ⟨g, j, none⟩ := fun j => by unfold Addr.add; split <;> simp_all
      have hck := World.ownsRow.cells (g := g) HI.out.1 rfl k (sv l[k]) (by rw [List.getElem?_map, List.getElem?_eq_getElem hlt]; rfl)
      rw [hplain] at hck
      have PL := Lib.hid hplain
      clear hplain
      obtain ⟨d, hd⟩ : ∃ d, d = l[k] := ⟨_, rfl⟩
      rw [← hd] at hck
      unfold sv at hck
      have hdl : d.length ≤ 1000 := hs0.out d (by rw [hd]; exact List.getElem_mem hlt)
      have Hd := Lib.hid hd
      clear hd
      go_wp2_with fail
      refine (clone_any ⟨d.toArray⟩ wr (by show d.toArray.size ≤ _; simp; omega)).mono ?_
      rintro e w2 ⟨rfl, f2⟩
      have hO2 := ownsRow_fr HI.out.1 f2 (fun _ _ h => h)
      have hck2 := World.ownsRow.cells (g := g) hO2 rfl k (sv l[k]) (by rw [List.getElem?_map, List.getElem?_eq_getElem hlt]; rfl)
      rw [PL.out, ← Hd.out] at hck2
      unfold sv at hck2
      have hfz := World.ownsRow.frozenAt hO2 k
      have HO2 := Lib.hid hO2
      have F2 := Lib.hid f2
      clear hO2 f2 hck
      go_wp2
      go_roundg (l.length - (k + 1))
      case measure => omega
      case rel =>
        refine ⟨k + 1, by omega, rfl, by go_num, Lib.hid ⟨?_, ?_⟩⟩
        · have h1 := (World.ownsRow.stored HO2.out k (sv l[k])).1
          rw [set_same l k hlt, ← Hd.out] at h1
          exact h1
        · exact Fr.setCell (p := ⟨g, k, none⟩) (HI.out.2.trans F2.out (fun _ _ h => h)) (fun h => absurd h (Nat.not_lt.2 hg)) _
    · obtain rfl : k = l.length := by omega
      go_wp2
      go_ret
      exact ⟨_, rfl, texts_own HI.out.1 hl0 hs0.out, HI.out.2⟩
end
section
def be2 (n : Nat) : List UInt8 := [UInt8.ofNat (n / 256), UInt8.ofNat (n % 256)]

def be4 (n : Nat) : List UInt8 := be2 (n / 65536) ++ be2 (n % 65536)
def be8 (n : Nat) : List UInt8 := be4 (n / 4294967296) ++ be4 (n % 4294967296)
theorem be2_length (n : Nat) : (be2 n).length = 2 := rfl
theorem be4_length (n : Nat) : (be4 n).length = 4 := rfl
theorem be8_length (n : Nat) : (be8 n).length = 8 := rfl

/-- The number that bytes tell, the highest one first. -/
def beNum (l : List UInt8) : Nat := l.foldl (fun n c => n * 256 + c.toNat) 0

theorem beNum_snoc (l : List UInt8) (c : UInt8) : beNum (l ++ [c]) = beNum l * 256 + c.toNat := by simp [beNum]
theorem beFold_lt : ∀ (l : List UInt8) (n : Nat), l.foldl (fun n c => n * 256 + c.toNat) n < (n + 1) * 256 ^ l.length
  | [], n => by simp
  | c :: l, n => by
    have h := beFold_lt l (n * 256 + c.toNat)
    have hc := c.toNat_lt
    rw [List.foldl_cons, List.length_cons, Nat.pow_succ]
    have h2 : (n * 256 + c.toNat + 1) * 256 ^ l.length ≤ ((n + 1) * 256) * 256 ^ l.length := Nat.mul_le_mul_right _ (by omega)
    have h3 : ((n + 1) * 256) * 256 ^ l.length = (n + 1) * (256 ^ l.length * 256) := by rw [Nat.mul_assoc, Nat.mul_comm 256]
    omega
theorem beNum_lt (l : List UInt8) : beNum l < 256 ^ l.length := by have := beFold_lt l 0; simpa [beNum] using this
theorem beNum_small (l : List UInt8) (k : Nat) (h : l.length ≤ k) : beNum l < 256 ^ k := Nat.lt_of_lt_of_le (beNum_lt l) (Nat.pow_le_pow_right (by omega) h)

theorem beNum_be2 (n : Nat) (h : n < 65536) : beNum (be2 n) = n := by
  simp [beNum, be2]
  omega
theorem beNum_append (l m : List UInt8) : beNum (l ++ m) = beNum l * 256 ^ m.length + beNum m := by
  have h : ∀ (m : List UInt8) (a : Nat), m.foldl (fun n c => n * 256 + c.toNat) a = a * 256 ^ m.length + m.foldl (fun n c => n * 256 + c.toNat) 0 := by
    intro m
    induction m with
    | nil => simp
    | cons c m ih =>
      intro a
      rw [List.foldl_cons, List.foldl_cons, ih, ih (0 * 256 + c.toNat), List.length_cons, Nat.pow_succ, Nat.add_mul, Nat.zero_mul, Nat.zero_add, Nat.mul_assoc, Nat.mul_comm 256]
      omega
  unfold beNum
  rw [List.foldl_append, h]
theorem beNum_be4 (n : Nat) (h : n < 4294967296) : beNum (be4 n) = n := by
  unfold be4
  rw [beNum_append, beNum_be2 _ (by omega), beNum_be2 _ (by omega), be2_length]
  omega
theorem beNum_be8 (n : Nat) (h : n < 18446744073709551616) : beNum (be8 n) = n := by
  unfold be8
  rw [beNum_append, beNum_be4 _ (by omega), beNum_be4 _ (by omega), be4_length]
  omega

theorem be2_beNum (l : List UInt8) (h : l.length = 2) : be2 (beNum l) = l := by
  match l, h with
  | [a, b], _ =>
    have ha := a.toNat_lt
    have hb := b.toNat_lt
    simp only [beNum, List.foldl_cons, List.foldl_nil, be2, Nat.zero_mul, Nat.zero_add]
    rw [show (a.toNat * 256 + b.toNat) / 256 = a.toNat by omega, show (a.toNat * 256 + b.toNat) % 256 = b.toNat by omega]
    simp
theorem be4_beNum (l : List UInt8) (h : l.length = 4) : be4 (beNum l) = l := by
  have e : l = l.take 2 ++ l.drop 2 := (List.take_append_drop 2 l).symm
  have h1 : (l.take 2).length = 2 := by simp; omega
  have h2 : (l.drop 2).length = 2 := by simp; omega
  have s1 := beNum_small (l.take 2) 2 (by omega)
  have s2 := beNum_small (l.drop 2) 2 (by omega)
  have hn : beNum l = beNum (l.take 2) * 65536 + beNum (l.drop 2) := by
    conv => lhs; rw [e]
    rw [beNum_append, h2]
  unfold be4
  rw [hn, show (beNum (l.take 2) * 65536 + beNum (l.drop 2)) / 65536 = beNum (l.take 2) by omega, show (beNum (l.take 2) * 65536 + beNum (l.drop 2)) % 65536 = beNum (l.drop 2) by omega, be2_beNum _ h1, be2_beNum _ h2]
  exact e.symm
theorem be8_beNum (l : List UInt8) (h : l.length = 8) : be8 (beNum l) = l := by
  have e : l = l.take 4 ++ l.drop 4 := (List.take_append_drop 4 l).symm
  have h1 : (l.take 4).length = 4 := by simp; omega
  have h2 : (l.drop 4).length = 4 := by simp; omega
  have s1 := beNum_small (l.take 4) 4 (by omega)
  have s2 := beNum_small (l.drop 4) 4 (by omega)
  have hn : beNum l = beNum (l.take 4) * 4294967296 + beNum (l.drop 4) := by
    conv => lhs; rw [e]
    rw [beNum_append, h2]
  unfold be8
  rw [hn, show (beNum (l.take 4) * 4294967296 + beNum (l.drop 4)) / 4294967296 = beNum (l.take 4) by omega, show (beNum (l.take 4) * 4294967296 + beNum (l.drop 4)) % 4294967296 = beNum (l.drop 4) by omega, be4_beNum _ h1, be4_beNum _ h2]
  exact e.symm
end
end Go.Proofs.YtplipjijaaejlaaGreat
