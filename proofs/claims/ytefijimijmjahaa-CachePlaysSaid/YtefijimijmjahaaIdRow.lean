/-
  Rows of calls' numbers: append in place, clear, slices.Delete of the first.
-/
import Derived.Test.YtefijimijmjahaaMapRaw
import Derived.Lib.SliceRun
namespace Go.Proofs.Ytefijimijmjahaa
open Go.RowKit
set_option maxRecDepth 100000

def idCells (l : List IdN) : List Value := l.flatMap (fun x => [.int .u16 x.1, .int .u16 x.2])
theorem idCells_length (l : List IdN) : (idCells l).length = l.length * 2 := by
  unfold idCells
  induction l with
  | nil => rfl
  | cons x l ih => simp only [List.flatMap_cons, List.length_append, ih, List.length_cons, List.length_nil]; omega
theorem idCells_append (l m : List IdN) : idCells (l ++ m) = idCells l ++ idCells m := by simp [idCells]
theorem idCells_one (l : List IdN) : ∀ u ∈ idCells l, u.oneCell' = true := by
  intro u hu
  obtain ⟨x, _, hx⟩ := List.mem_flatMap.1 hu
  simp at hx
  rcases hx with rfl | rfl <;> rfl
theorem idCells_cons (x : IdN) (l : List IdN) : idCells (x :: l) = .int .u16 x.1 :: .int .u16 x.2 :: idCells l := rfl

theorem Try.infoId : (Try.prog.info? 36).map (fun i => (i.zero, i.size, i.bytes)) = some (some (.agg #[.int .u16 0, .int .u16 0]), 2, 4) := by kernel_rfl

/-- Append where there is room: in place. -/
theorem run_append_room {P : Program} (w : World) (t u ty e : TypeId) (i : TypeInfo) (size : Nat) (ht : P.underlying t = some (.slice e)) (du : TypeDesc) (hu : P.underlying u = some du) (hud : du = .string ∨ ∃ e', du = .slice e')
    (hi : P.info? e = some i) (hsize : i.size = size) (g o n cap : Nat) (cur : Array Value) (hg : w.heap[g]? = some (.cells cur e (0, 0))) (hcs : o + cap * size ≤ cur.size)
    (x : Value) (m : Nat) (news : List Value) (hlen : ∀ w, (Builtin.lenOf x).run P w = .ok m w) (hl : news.length = m * size)
    (hc : (Builtin.firstCells size m x).run P w = .ok news.toArray w) (h1 : ∀ u ∈ news, u.oneCell' = true) (hroom : n + m ≤ cap) :
    (Builtin.append_ #[t, u] ty #[.slice (some ⟨g, o, none⟩) n cap, x]).run P w = .ok (.slice (some ⟨g, o, none⟩) (n + m) cap) (w.setRow g (cur.toList.take (o + n * size) ++ news ++ cur.toList.drop (o + n * size + news.length)).toArray) := by
  subst hsize
  have hl1 := hlen w
  have hfit : o + n * i.size + news.length ≤ cur.size := by
    rw [hl]
    have : (n + m) * i.size ≤ cap * i.size := Nat.mul_le_mul_right _ hroom
    rw [Nat.add_mul] at this
    omega
  have hst := run_storeCells_at P g (o + n * i.size) e news 0 cur w hg (by simpa using hfit) h1
  simp only [Nat.add_zero] at hst
  rcases hud with rfl | ⟨e', rfl⟩ <;> simp [Builtin.append_, run_underlying ht, run_underlying hu, sizeOf, typeInfo, hi, hl1, hroom, hc, Addr.add_lit, hst]

/-- 'clear(s)' of structs. -/
theorem run_clear_row {P : Program} (w : World) (t e ty : TypeId) (z : Value) (zs : List Value) (ht : P.underlying t = some (.slice e)) (hv : ∀ w, (zeroValue e).run P w = .ok z w) (n : Nat) (hn : 0 < n) (hzs : (Builtin.zeroCells z.cells n).toList = zs) (h1 : ∀ u ∈ zs, u.oneCell' = true)
    (g o c : Nat) (cur : Array Value) (hg : w.heap[g]? = some (.cells cur e (0, 0))) (hfit : o + zs.length ≤ cur.size) :
    (Builtin.clear_ #[t] ty #[.slice (some ⟨g, o, none⟩) n c]).run P w = .ok (.tuple #[]) (w.setRow g (cur.toList.take o ++ zs ++ cur.toList.drop (o + zs.length)).toArray) := by
  have hst := run_storeCells_at P g o e zs 0 cur w hg (by simpa using hfit) h1
  simp only [Nat.add_zero] at hst
  obtain ⟨m, rfl⟩ : ∃ m, n = m + 1 := ⟨n - 1, by omega⟩
  simp [Builtin.clear_, run_underlying ht, hv, hzs, hst]

theorem Fr.setRow0 {S : Nat → Prop} {w0 w : World} (f : Fr S w0 w) {g : Nat} (hg : g < w0.heap.size → S g) (cs : Array Value) : Fr S w0 (w.setRow g cs) :=
  ⟨f.os, f.tape, f.output, by have := f.size; simpa [World.setRow] using this, fun k hk hs => by
    rw [setRow_other _ _ _ _ (fun e => hs (by subst e; exact hg hk))]; exact f.block k hk hs⟩

theorem slice_01 (w : World) (a : Addr) (n c : Nat) (h : n ≤ c) (h1 : 1 ≤ n) : (Instr.slice 28 (.slice (some a) n c) (some (.int .i64 0)) (some (.int .i64 1)) (some (.int .i64 n))).run Try.prog w = .ok (.slice (some a) 1 n) w := by
  have hs : (sizeOf 36).run Try.prog w = .ok 2 w := by kernel_rfl
  have e0 : a.add 0 = a := by simp [Addr.add]
  have e1 : (1 : Int) ≤ (n : Int) := by omega
  simp [Instr.slice, Instr.sliceBounds, Instr.sliceBound, run_underlying Try.underlying28, asIntOf, hs, e0, e1, h, Result.andThen]

theorem slice_to0 (w : World) (a : Addr) (n c : Nat) : (Instr.slice 28 (.slice (some a) n c) none (some (.int .i64 0)) none).run Try.prog w = .ok (.slice (some a) 0 c) w := by
  have hs : (sizeOf 36).run Try.prog w = .ok 2 w := by kernel_rfl
  have e0 : a.add 0 = a := by simp [Addr.add]
  simp [Instr.slice, Instr.sliceBounds, Instr.sliceBound, run_underlying Try.underlying28, asIntOf, hs, e0, Result.andThen]

theorem slice_from1 (w : World) (g o n c : Nat) (h : n ≤ c) (h1 : 1 ≤ n) : (Instr.slice 28 (.slice (some ⟨g, o, none⟩) n c) (some (.int .i64 1)) none none).run Try.prog w = .ok (.slice (some ⟨g, if c = 1 then o else o + 2, none⟩) (n - 1) (c - 1)) w := by
  have hs : (sizeOf 36).run Try.prog w = .ok 2 w := by kernel_rfl
  have e1 : (1 : Int) ≤ (n : Int) := by omega
  have e2 : (⟨g, o, none⟩ : Addr).add 2 = ⟨g, o + 2, none⟩ := by unfold Addr.add; simp
  by_cases hc : c = 1
  · subst hc
    simp [Instr.slice, Instr.sliceBounds, Instr.sliceBound, run_underlying Try.underlying28, asIntOf, hs, e1, Result.andThen]
  · simp [Instr.slice, Instr.sliceBounds, Instr.sliceBound, run_underlying Try.underlying28, asIntOf, hs, e1, e2, hc, Result.andThen]

theorem slice_last (w : World) (g n c : Nat) (h : n + 1 ≤ c) : (Instr.slice 28 (.slice (some ⟨g, 0, none⟩) n c) (some (.int .i64 n)) (some (.int .i64 (n + 1 : Nat))) none).run Try.prog w = .ok (.slice (some ⟨g, n * 2, none⟩) 1 (c - n)) w := by
  have hs : (sizeOf 36).run Try.prog w = .ok 2 w := by kernel_rfl
  have e1 : (0 : Int) ≤ (n : Int) + 1 ∧ (n : Int) + 1 ≤ (c : Int) := by omega
  have e2 : (⟨g, 0, none⟩ : Addr).add (n * 2) = ⟨g, n * 2, none⟩ := by
    unfold Addr.add
    split
    · simp
    · simp
  have e4 : ¬ c = n := by omega
  have e5 : n + 1 - n = 1 := by omega
  have e6 : n ≤ n + 1 := by omega
  simp [Instr.slice, Instr.sliceBounds, Instr.sliceBound, run_underlying Try.underlying28, asIntOf, hs, e1, e2, e4, e5, e6, Result.andThen]
end Go.Proofs.Ytefijimijmjahaa
