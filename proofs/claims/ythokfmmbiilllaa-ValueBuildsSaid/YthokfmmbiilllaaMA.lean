/-
  General lemmas on memory: what a call may have changed; append onto a slice that is owned alone, from a slice or a string. They speak of no program.
-/
import Derived.Test.YthokfmmbiilllaaProg
import Derived.KernelRfl
import Derived.WalkKit
import Derived.WalkSpells
import Derived.WalkLawsBesides
import Derived.OneCell
import Derived.Lib.Hide
import Derived.Handy
import Derived.ProofKit
import Derived.OpenShut
import Derived.SliceStrings
import Derived.Deep.QuietTactic
import Derived.Laws.FloatArith
set_option linter.unusedSimpArgs false
set_option linter.unusedVariables false
namespace Go.Proofs.Ythokfmmbiilllaa
open Go.RowKit

/-- Between w and w' only the blocks in S (and new ones) may have changed. -/
structure Fr (S : Nat → Prop) (w w' : World) : Prop where
  os : w'.os = w.os
  tape : w'.tape = w.tape
  output : w'.output = w.output
  size : w.heap.size ≤ w'.heap.size
  block : ∀ k, k < w.heap.size → ¬ S k → w'.heap[k]? = w.heap[k]?

theorem Fr.refl (S : Nat → Prop) (w : World) : Fr S w w := ⟨rfl, rfl, rfl, Nat.le_refl _, fun _ _ _ => rfl⟩

theorem Fr.trans {S T : Nat → Prop} {a b c : World} (h : Fr S a b) (k : Fr T b c) (hT : ∀ i, i < a.heap.size → T i → S i) : Fr S a c :=
  ⟨k.os.trans h.os, k.tape.trans h.tape, k.output.trans h.output, Nat.le_trans h.size k.size,
   fun i hi hs => (k.block i (Nat.lt_of_lt_of_le hi h.size) (fun ht => hs (hT i hi ht))).trans (h.block i hi hs)⟩

theorem Fr.mono {S T : Nat → Prop} {a b : World} (h : Fr S a b) (hT : ∀ i, i < a.heap.size → S i → T i) : Fr T a b :=
  ⟨h.os, h.tape, h.output, h.size, fun i hi hs => h.block i hi (fun x => hs (hT i hi x))⟩

theorem Fr.drew {S : Nat → Prop} {a b : World} (h : Fr S a b) : Fr S a b.drew := ⟨h.os, h.tape, h.output, h.size, h.block⟩

theorem Fr.alloc {S : Nat → Prop} {a b : World} (h : Fr S a b) (o : Obj) : Fr S a (b.alloc o) :=
  ⟨h.os, h.tape, h.output, by have := h.size; show _ ≤ (b.heap.push o).size; rw [Array.size_push]; omega, fun i hi hs => by
    rw [Below.heap_alloc _ _ _ (Nat.lt_of_lt_of_le hi h.size)]; exact h.block i hi hs⟩

theorem Fr.setCell {S : Nat → Prop} {a b : World} (h : Fr S a b) {p : Addr} (hp : p.block < a.heap.size → S p.block) (u : Value) : Fr S a (b.setCell p u) :=
  ⟨h.os, h.tape, h.output, by have := h.size; simp [World.setCell]; omega, fun i hi hs => by
    rw [Below.heap_setCell _ _ _ _ (fun e => hs (by rw [e]; exact hp (by omega)))]; exact h.block i hi hs⟩

theorem Fr.set1 {b : Nat} {a c : World} (h : Fr (fun k => k = b) a c) (i : Nat) (u : Value) : Fr (fun k => k = b) a (c.setCell ⟨b, i, none⟩ u) :=
  h.setCell (p := ⟨b, i, none⟩) (fun _ => rfl) u

theorem Fr.of_grown {a b : World} {row : Option Nat} (h : a.grownBy b row) : Fr (fun k => some k = row) a b :=
  ⟨h.os, h.tape, h.output, h.size, fun i hi hs => h.block i hi hs⟩

theorem Fr.below {S : Nat → Prop} {B : Nat} {a b : World} (h : Fr S a b) (hB : B ≤ a.heap.size) (hS : ∀ i, i < B → ¬ S i) : Below B a b :=
  ⟨h.os, h.tape, h.output, h.size, fun i hi => h.block i (Nat.lt_of_lt_of_le hi hB) (hS i hi)⟩

theorem Fr.cell {S : Nat → Prop} {w w' : World} (h : Fr S w w') {p : Addr} (hp : p.block < w.heap.size) (hs : ¬ S p.block) : w'.cell? p = w.cell? p :=
  World.cell?_of_block (w := w) (h.block p.block hp hs)

set_option maxHeartbeats 1000000 in
/-- Append onto a slice that is owned alone: from whatever source whose first cells are known. -/
theorem run_append_sep {P : Program} (w : World) (base : Nat) (t u ty e : TypeId) (i : TypeInfo) (z : Value) (size bytes : Nat) (ht : P.underlying t = some (.slice e)) (du : TypeDesc) (hu : P.underlying u = some du) (hud : du = .string ∨ ∃ e', du = .slice e')
    (hi : P.info? e = some i) (hz : i.zero = some z)
    (hsize : i.size = size) (hby : i.bytes = bytes) (hzs : z.cells.size = size) (hsz : 0 < size)
    (v : Value) (n : Nat) (xs : List Value) (hown : w.ownsRow base e size v n xs)
    (x : Value) (m : Nat) (news : List Value) (hlen : ∀ w, (Builtin.lenOf x).run P w = .ok m w) (hl : news.length = m * size)
    (hc : (Builtin.firstCells size m x).run P w = .ok news.toArray w) (hc' : (Builtin.firstCells size m x).run P w.drew = .ok news.toArray w.drew) (h1 : ∀ u ∈ news, u.oneCell' = true)
    (h63 : n + m ≤ maxLen) (hbytes : (n + m) * bytes ≤ 140737488355328) (hbase : base ≤ w.heap.size) :
    ∃ v' w', (Builtin.append_ #[t, u] ty #[v, x]).run P w = .ok v' w' ∧ w'.ownsRow base e size v' (n + m) (xs ++ news) ∧ w.grownBy w' v.ownBlock ∧
      (v'.ownBlock = v.ownBlock ∨ v'.ownBlock = some w.heap.size) := by
  subst hsize
  subst hby
  have hsmall : n + m ≤ 9223372036854775807 := by simp only [maxLen] at h63; omega
  have hlen2 : (xs ++ news).length = (n + m) * i.size := by rw [List.length_append, hown.1, hl, Nat.add_mul]
  have grown : ∀ (old : Nat), old < n + m → ∀ (row : Option Nat),
      (w.drew.alloc (.cells (xs.toArray ++ news.toArray ++ Builtin.zeroCells z.cells (grownCap w (n + m) old e - (n + m))) e)).ownsRow base e i.size
        (.slice (some ⟨w.heap.size, 0, none⟩) (n + m) (grownCap w (n + m) old e)) (n + m) (xs ++ news) ∧
      w.grownBy (w.drew.alloc (.cells (xs.toArray ++ news.toArray ++ Builtin.zeroCells z.cells (grownCap w (n + m) old e - (n + m))) e)) row := by
    intro old ho row
    have hge := grownCap_ge w (n + m) old e
    have hcm : grownCap w (n + m) old e ≤ maxLen := grownCap_le_maxLen w (n + m) old e h63
    refine ⟨⟨hlen2, .inr ⟨w.heap.size, _, _, rfl, hbase, heap_alloc_new w.drew _, hge, hcm, ?_, ?_⟩⟩, ⟨rfl, rfl, rfl, by simp, fun k hk _ => Below.heap_alloc w.drew _ k hk⟩⟩
    · simp only [Array.size_append, List.size_toArray, size_zeroCells, hzs, hown.1, hl, ← Nat.add_mul]
      congr 1
      omega
    · simp only [Array.toList_append, List.append_assoc]
      rw [← List.append_assoc, ← hlen2]
      exact List.take_left
  have hl1 := hlen w
  rcases hown.2 with ⟨rfl, rfl⟩ | ⟨g, cap, cur, rfl, hbg, hg, hnc, hcm, hcs, htake⟩
  · have hx : xs = [] := List.eq_nil_of_length_eq_zero (by simpa using hown.1)
    subst hx
    by_cases hm : m = 0
    · subst hm
      have hn : news = [] := List.eq_nil_of_length_eq_zero (by simpa using hl)
      subst hn
      refine ⟨.slice none 0 0, w, ?_, World.ownsRow_nil w base e i.size, ⟨rfl, rfl, rfl, Nat.le_refl _, fun _ _ _ => rfl⟩, .inl rfl⟩
      rcases hud with rfl | ⟨e', rfl⟩ <;> simp [Builtin.append_, run_underlying ht, run_underlying hu, sizeOf, typeInfo, hi, hl1, hc]
    · have hm63 : ¬ (9223372036854775807 < (m : Int)) := by omega
      have hm48 : ¬ (281474976710656 < Builtin.nextslicecap m 0 * i.bytes) := by rw [nextslicecap_zero (by omega)]; have hb := hbytes; simp only [Nat.zero_add] at hb; omega
      have hgr := grown 0 (by omega) (Value.ownBlock (.slice none 0 0))
      simp only [Nat.zero_add, List.nil_append, Array.empty_append] at hgr ⊢
      refine ⟨_, _, ?_, hgr.1, hgr.2, .inr rfl⟩
      rcases hud with rfl | ⟨e', rfl⟩ <;> simp [Builtin.append_, run_underlying ht, run_underlying hu, sizeOf, typeInfo, zeroValue, hi, hz, hl1, hm, hm63, hm48, Question.forced, run_firstCells_none, hc', newRow, grownCap]
  · by_cases hroom : n + m ≤ cap
    · have hfit : n * i.size + news.length ≤ cur.size := by rw [hl, hcs, ← Nat.add_mul]; exact Nat.mul_le_mul_right _ hroom
      have hst := run_storeCells_at P g (n * i.size) e news 0 cur w hg (by simpa using hfit) h1
      simp only [Nat.add_zero] at hst
      refine ⟨.slice (some ⟨g, 0, none⟩) (n + m) cap, w.setRow g (cur.toList.take (n * i.size) ++ news ++ cur.toList.drop (n * i.size + news.length)).toArray, ?_, ⟨hlen2, .inr ⟨g, cap, _, rfl, hbg, setRow_heap w g cur _ e _ hg, hroom, hcm, ?_, ?_⟩⟩, ⟨rfl, rfl, rfl, by simp, fun k _ hk => setRow_other w g k _ (fun e => hk (by simp [Value.ownBlock, e]))⟩, .inl rfl⟩
      · rcases hud with rfl | ⟨e', rfl⟩ <;> simp [Builtin.append_, run_underlying ht, run_underlying hu, sizeOf, typeInfo, hi, hl1, hroom, hc, Addr.add_lit, hst]
      · simp only [List.size_toArray, List.length_append, List.length_take, List.length_drop, Array.length_toList]
        omega
      · rw [htake, ← hlen2]
        exact List.take_left
    · have holds : ∀ j u, xs[j]? = some u → w.cell? ((⟨g, 0, none⟩ : Addr).add j) = some u := hown.cells (g := g) rfl
      have hn63 : ¬ (9223372036854775807 < ((n : Int) + (m : Int))) := by omega
      have hn48 : ¬ (281474976710656 < Builtin.nextslicecap (n + m) cap * i.bytes) := by have := growslice_fits (need := n + m) (old := cap) (bytes := i.bytes) (by omega) hbytes; omega
      have hfo := run_firstCells_some (P := P) w.drew i.size n ⟨g, 0, none⟩ n cap xs hown.1 (by simpa using holds)
      have hgr := grown cap (by omega) (Value.ownBlock (.slice (some ⟨g, 0, none⟩) n cap))
      refine ⟨_, _, ?_, hgr.1, hgr.2, .inr rfl⟩
      rcases hud with rfl | ⟨e', rfl⟩ <;> (simp [Builtin.append_, run_underlying ht, run_underlying hu, sizeOf, typeInfo, zeroValue, hi, hz, hl1, hroom, hn63, hn48, Question.forced, hc', hfo, newRow, grownCap]; congr 2; apply Array.ext'; simp [List.append_assoc])

theorem wpList_append_sep {P : Program} {w : World} {ops : Array Oper} {rest : List Oper} {o : Oper} {a : Act} {Q : Exit → Act → World → Prop} (hgd : o.guard = none) (s x : Operand) (t u : TypeId)
    (ho : o.op = .call { callee := .builtin .append, args := #[s, x], argTypes := #[t, u] })
    (base : Nat) (e : TypeId) (i : TypeInfo) (z : Value) (size bytes : Nat) (ht : P.underlying t = some (.slice e)) (du : TypeDesc) (hu : P.underlying u = some du) (hud : du = .string ∨ ∃ e', du = .slice e')
    (hi : P.info? e = some i) (hz : i.zero = some z)
    (hsize : i.size = size) (hby : i.bytes = bytes) (hzs : z.cells.size = size) (hsz : 0 < size)
    (v : Value) (n : Nat) (xs : List Value) (hs : a.eval s = v) (hown : w.ownsRow base e size v n xs)
    (xv : Value) (m : Nat) (news : List Value) (hx : a.eval x = xv) (hlen : ∀ w, (Builtin.lenOf xv).run P w = .ok m w) (hl : news.length = m * size)
    (hc : (Builtin.firstCells size m xv).run P w = .ok news.toArray w) (hc' : (Builtin.firstCells size m xv).run P w.drew = .ok news.toArray w.drew) (h1 : ∀ u ∈ news, u.oneCell' = true)
    (h63 : n + m ≤ maxLen) (hbytes : (n + m) * bytes ≤ 140737488355328) (hbase : base ≤ w.heap.size)
    (h : ∀ v' w', w'.ownsRow base e size v' (n + m) (xs ++ news) → w.grownBy w' v.ownBlock → (v'.ownBlock = v.ownBlock ∨ v'.ownBlock = some w.heap.size) → wpList P ops Q rest (a.put o.dst v') w') : wpList P ops Q (o :: rest) a w := by
  obtain ⟨v', w', hr, h2, h3, h4⟩ := run_append_sep (P := P) w base t u o.type e i z size bytes ht du hu hud hi hz hsize hby hzs hsz v n xs hown xv m news hlen hl hc hc' h1 h63 hbytes hbase
  refine wpList_plain hgd fun _ hK => ?_
  unfold Oper.wp execOp
  simp only [ho, resolve, invoke, builtin, Sem.run_bind, Sem.run_pure, Result.andThen_ok, List.map_toArray, List.map_cons, List.map_nil, hs, hx, hr]
  exact hK _ _ (h v' w' h2 h3 h4)

end Go.Proofs.Ythokfmmbiilllaa

/-
  General lemmas on memory: slices that show bytes, slices that own bytes alone, and what reads them. They speak of no program.
-/
namespace Go.Proofs.Ythokfmmbiilllaa
open Go.RowKit

/-- A byte as a value. -/
def bv (c : UInt8) : Value := .int .u8 c.toNat

theorem bv_one (l : List UInt8) : ∀ u ∈ l.map bv, u.oneCell' = true := by
  intro u hu
  obtain ⟨c, _, rfl⟩ := List.mem_map.1 hu
  rfl

/-- The slice value v shows the bytes l (which others may show, too). -/
def Sees (w : World) (v : Value) (l : List UInt8) : Prop :=
  (l = [] ∧ ∃ a c, v = .slice a 0 c) ∨
  ∃ g off cap, v = .slice (some ⟨g, off, none⟩) l.length cap ∧ l.length ≤ cap ∧ ∀ j, j < l.length → w.cell? ⟨g, off + j, none⟩ = some (bv (l.getD j 0))

/-- The slice value v owns the row of bytes l alone. -/
def Own (w : World) (v : Value) (l : List UInt8) : Prop := w.ownsRow 0 5 1 v l.length (l.map bv)

theorem lenOf_slice {P : Program} (a : Option Addr) (n c : Nat) (w : World) : (Builtin.lenOf (.slice a n c)).run P w = .ok n w := by simp [Builtin.lenOf]
theorem lenOf_string {P : Program} (s : ByteArray) (w : World) : (Builtin.lenOf (.string s)).run P w = .ok s.size w := by simp [Builtin.lenOf]

theorem Sees.lenOf {P : Program} {w : World} {v : Value} {l : List UInt8} (h : Sees w v l) (w' : World) : (Builtin.lenOf v).run P w' = .ok l.length w' := by
  rcases h with ⟨rfl, a, c, rfl⟩ | ⟨g, off, cap, rfl, _, _⟩
  · exact lenOf_slice _ _ _ _
  · exact lenOf_slice _ _ _ _

theorem Sees.first {P : Program} {w : World} {v : Value} {l : List UInt8} (h : Sees w v l) : (Builtin.firstCells 1 l.length v).run P w = .ok (l.map bv).toArray w := by
  rcases h with ⟨rfl, a, c, rfl⟩ | ⟨g, off, cap, rfl, _, hc⟩
  · cases a with
    | none => simp [Builtin.firstCells]
    | some a => exact run_firstCells_some (P := P) w 1 0 a 0 c [] rfl (by simp)
  · refine run_firstCells_some (P := P) w 1 l.length ⟨g, off, none⟩ l.length cap (l.map bv) (by simp) ?_
    intro j v hj
    have hjl : j < l.length := by
      have := (List.getElem?_eq_some_iff.1 hj).1
      simpa using this
    have hplain : (⟨g, off, none⟩ : Addr).add j = ⟨g, off + j, none⟩ := by unfold Addr.add; split <;> simp_all
    rw [hplain, hc j hjl, ← hj]
    simp [List.getD, hjl]

theorem Sees.drew {w : World} {v : Value} {l : List UInt8} (h : Sees w v l) : Sees w.drew v l := h

theorem Sees.fr {S : Nat → Prop} {w w' : World} {v : Value} {l : List UInt8} (h : Sees w v l) (hf : Fr S w w') (hS : ∀ k, v.ownBlock = some k → ¬ S k) : Sees w' v l := by
  rcases h with h | ⟨g, off, cap, rfl, hle, hc⟩
  · exact .inl h
  · refine .inr ⟨g, off, cap, rfl, hle, fun j hj => ?_⟩
    have h1 := hc j hj
    rw [← h1]
    exact hf.cell (World.block_lt_of_cell? w _ h1) (hS g rfl)

theorem string_first {P : Program} (s : ByteArray) (w : World) : (Builtin.firstCells 1 s.size (.string s)).run P w = .ok (s.data.toList.map bv).toArray w := by
  have hx : s.extract 0 s.size = s := by
    apply ByteArray.ext
    rw [ByteArray.data_extract]
    show s.data.extract 0 s.data.size = s.data
    exact Array.extract_size
  have hy : s.data.map (fun b => Value.int IntKind.u8 b.toNat) = (s.data.toList.map bv).toArray := by
    apply Array.ext'
    simp only [Array.toList_map]
    rfl
  simp [Builtin.firstCells, hx, hy]

theorem Own.sees {w : World} {v : Value} {l : List UInt8} (h : Own w v l) : Sees w v l := by
  obtain ⟨_, h2⟩ := h
  rcases h2 with ⟨rfl, h0⟩ | ⟨g, cap, cur, rfl, _, hg, hn, _, hs, ht⟩
  · exact .inl ⟨List.eq_nil_of_length_eq_zero h0, none, 0, rfl⟩
  · refine .inr ⟨g, 0, cap, rfl, hn, fun j hj => ?_⟩
    rw [cell_of_row w g (0 + j) cur _ (0, 0) hg, Nat.zero_add]
    have e : (cur.toList.take (l.length * 1))[j]? = (l.map bv)[j]? := by rw [ht]
    rw [List.getElem?_take, if_pos (by omega)] at e
    rw [← Array.getElem?_toList, e]
    simp [List.getD, hj]

theorem Own.fr {S : Nat → Prop} {w w' : World} {v : Value} {l : List UInt8} (h : Own w v l) (hf : Fr S w w') (hS : ∀ k, v.ownBlock = some k → ¬ S k) : Own w' v l := by
  refine ⟨h.1, ?_⟩
  rcases h.2 with hn | ⟨g, cap, cur, rfl, hb, hgg, rest⟩
  · exact .inl hn
  · refine .inr ⟨g, cap, cur, rfl, hb, ?_, rest⟩
    rw [hf.block g (Array.getElem?_eq_some_iff.1 hgg).1 (hS g rfl)]
    exact hgg

theorem Own.lt {w : World} {v : Value} {l : List UInt8} (h : Own w v l) : ∀ k, v.ownBlock = some k → k < w.heap.size := fun k hk => (World.ownsRow.lt h k hk).2

theorem first_row {P : Program} {w : World} {g : Nat} {cs : Array Value} {t : TypeId} {fr : Nat × Nat} (h : w.heap[g]? = some (.cells cs t fr)) (n c : Nat) (hn : cs.size = n) :
    (Builtin.firstCells 1 n (.slice (some ⟨g, 0, none⟩) n c)).run P w = .ok cs w := by
  have := run_firstCells_some (P := P) w 1 n ⟨g, 0, none⟩ n c cs.toList (by simp [hn]) (by
    intro j v hj
    have hplain : (⟨g, 0, none⟩ : Addr).add j = ⟨g, j, none⟩ := by unfold Addr.add; split <;> simp_all
    rw [hplain, cell_of_row w g j cs t fr h]
    simpa using hj)
  simpa using this

theorem bv_of (n : Int) (h0 : 0 ≤ n) (h1 : n ≤ 255) : bv (UInt8.ofNat n.toNat) = .int .u8 n := by
  unfold bv
  congr 1
  have : (UInt8.ofNat n.toNat).toNat = n.toNat := by simp; omega
  rw [this]; omega

theorem slice_of_own {w : World} {base : Nat} {e : TypeId} {size : Nat} {v : Value} {n : Nat} {xs : List Value} (h : w.ownsRow base e size v n xs) : ∃ a c, v = .slice a n c := by
  rcases h.2 with ⟨rfl, rfl⟩ | ⟨g, cap, cur, rfl, _⟩
  · exact ⟨_, _, rfl⟩
  · exact ⟨_, _, rfl⟩

theorem push_bytes : ∀ (l : List UInt8) (s : ByteArray), (l.map fun c => (c.toNat : Int)).foldl (fun r n => r.push (UInt8.ofNat n.toNat)) s = ⟨s.data ++ l.toArray⟩
  | [], s => by simp
  | c :: l, s => by
    rw [List.map_cons, List.foldl_cons, push_bytes l]
    simp [ByteArray.push]

theorem Sees.shape {w : World} {v : Value} {l : List UInt8} (h : Sees w v l) : ∃ a c, v = .slice a l.length c ∧ (a = none → l = []) := by
  rcases h with ⟨rfl, a, c, rfl⟩ | ⟨g, off, cap, rfl, hle, _⟩
  · exact ⟨a, c, rfl, fun _ => rfl⟩
  · exact ⟨_, cap, rfl, fun h => by cases h⟩

theorem Sees.cap {w : World} {a : Option Addr} {n c : Nat} {l : List UInt8} (h : Sees w (.slice a n c) l) : n = l.length ∧ (n = 0 ∨ n ≤ c) := by
  rcases h with ⟨rfl, _, _, e⟩ | ⟨g, off, cap, e, hle, _⟩
  · simp at e; simp [e]
  · simp at e; omega

/-- string(v) -/
theorem Sees.string {P : Program} {w : World} {v : Value} {l : List UInt8} (h : Sees w v l) (src e dst : TypeId) (hs : P.underlying src = some (.slice e)) (he : P.underlying e = some (.int .u8)) (hd : P.underlying dst = some .string) :
    (convert src dst v).run P w = .ok (.string ⟨l.toArray⟩) w := by
  have main : ∀ a n c, v = .slice (some a) n c → (loadCells a n).run P w = .ok ((l.map fun c => (c.toNat : Int)).map (Value.int .u8)).toArray w → (convert src dst v).run P w = .ok (.string ⟨l.toArray⟩) w := by
    rintro a n c rfl hl
    rw [run_convert_bytes_string w src dst e _ n c hs he hd, run_bytesToString w _ n c _ hl, push_bytes]
    simp [ByteArray.empty, ByteArray.emptyWithCapacity]
    rfl
  have hf := h.first (P := P)
  rcases h with ⟨rfl, a, c, rfl⟩ | ⟨g, off, cap, rfl, _, _⟩
  · cases a with
    | none => rw [run_convert_bytes_nil w src e hs he 0 c dst hd]; rfl
    | some a => exact main a 0 c rfl (by simpa [Builtin.firstCells] using hf)
  · refine main _ _ cap rfl ?_
    simp only [Builtin.firstCells, Nat.mul_one] at hf
    rw [hf, List.map_map]
    rfl

/-- A new row whose first cells are bytes: the slice over it shows them. -/
theorem sees_new {w : World} {cs : Array Value} {t : TypeId} {fr : Nat × Nat} {l : List UInt8} {c : Nat} (g : Nat) (hg : w.heap[g]? = some (.cells cs t fr)) (hc : ∀ j, j < l.length → cs[j]? = some (bv (l.getD j 0))) (hle : l.length ≤ c) :
    Sees w (.slice (some ⟨g, 0, none⟩) l.length c) l := by
  refine .inr ⟨g, 0, c, rfl, hle, fun j hj => ?_⟩
  rw [Nat.zero_add, cell_of_row w g j cs t fr hg, hc j hj]

/-- The bytes of a text, behind '[]byte(s)'. -/
theorem sees_bytes (w : World) (s : ByteArray) (e : TypeId) :
    Sees (w.drew.alloc (.cells (bytesRow s (grownCap w s.size 0 e)) e ((bytesRow s (grownCap w s.size 0 e)).size, (bytesRow s (grownCap w s.size 0 e)).size + 1))) (.slice (some ⟨w.heap.size, 0, none⟩) s.size (grownCap w s.size 0 e)) s.data.toList := by
  have hl : s.data.toList.length = s.size := rfl
  have := sees_new (w := w.drew.alloc (.cells (bytesRow s (grownCap w s.size 0 e)) e ((bytesRow s (grownCap w s.size 0 e)).size, (bytesRow s (grownCap w s.size 0 e)).size + 1))) (l := s.data.toList) (c := grownCap w s.size 0 e) w.heap.size (heap_alloc_new w.drew _) ?_ (by rw [hl]; exact grownCap_ge w _ _ _)
  · rw [hl] at this; exact this
  · intro j hj
    have hj' : j < s.data.size := by simpa using hj
    unfold bytesRow
    rw [Array.getElem?_append_left (by simpa using hj'), Array.getElem?_map, Array.getElem?_eq_getElem hj']
    simp only [bv, List.getD, Option.map_some, Array.getElem?_toList, Array.getElem?_eq_getElem hj', Option.getD_some]

end Go.Proofs.Ythokfmmbiilllaa

/-
  Arguments that are slices of integers or of texts, opened: what the walk is told of them.
-/
namespace Go.Proofs.Ythokfmmbiilllaa
open Go.RowKit Go.WideShapes Go.ChangeShapes

/-- The slice value v shows the values xs. -/
def SeesL (w : World) (v : Value) (xs : List Value) : Prop :=
  (xs = [] ∧ ∃ a c, v = .slice a 0 c) ∨
  ∃ g off cap, v = .slice (some ⟨g, off, none⟩) xs.length cap ∧ xs.length ≤ cap ∧ ∀ j u, xs[j]? = some u → w.cell? ⟨g, off + j, none⟩ = some u

theorem SeesL.old {w : World} {v : Value} {xs : List Value} (h : SeesL w v xs) : xs = [] ∨ ∀ k, v.ownBlock = some k → k < w.heap.size := by
  rcases h with ⟨h, _⟩ | ⟨g, off, cap, rfl, hle, hc⟩
  · exact .inl h
  · cases xs with
    | nil => exact .inl rfl
    | cons x xs =>
      right
      intro k hk
      simp [Value.ownBlock] at hk
      subst hk
      exact World.block_lt_of_cell? w _ (hc 0 x rfl)

theorem SeesL.fr0 {w w' : World} {v : Value} {xs : List Value} (h : SeesL w v xs) (hf : Fr (fun _ => False) w w') : SeesL w' v xs := by
  rcases h with h | ⟨g, off, cap, rfl, hle, hc⟩
  · exact .inl h
  · refine .inr ⟨g, off, cap, rfl, hle, fun j u hj => ?_⟩
    have h1 := hc j u hj
    rw [← h1]
    exact hf.cell (World.block_lt_of_cell? w _ h1) (fun h => h)

theorem addr_plain {w : World} {a : Addr} {u : Value} (h : w.cell? a = some u) : a = ⟨a.block, a.off, none⟩ := by
  obtain ⟨b, o, s⟩ := a
  cases s with
  | none => rfl
  | some s =>
    exfalso
    unfold World.cell? at h
    split at h
    · simp at h
    · cases h

theorem seesL_of {w : World} {a : Addr} {cap : Nat} {xs : List Value} (hle : xs.length ≤ cap) (hc : ∀ j u, xs[j]? = some u → w.cell? (a.add j) = some u) : SeesL w (.slice (some a) xs.length cap) xs := by
  cases xs with
  | nil => exact .inl ⟨rfl, _, _, rfl⟩
  | cons x xs =>
    have h0 := hc 0 x rfl
    have e0 : a.add 0 = a := by simp [Addr.add]
    rw [e0] at h0
    obtain ⟨b, o, s⟩ := a
    have e := addr_plain h0
    simp at e
    subst e
    refine .inr ⟨b, o, cap, rfl, hle, fun j u hj => ?_⟩
    have h1 := hc j u hj
    have e1 : (⟨b, o, none⟩ : Addr).add j = ⟨b, o + j, none⟩ := by unfold Addr.add; split <;> simp_all
    rw [e1] at h1
    exact h1

section
variable {P : Program} {H : Type} {enc : TypeId × Value → H} {W : World}

theorem sees_ints {t e : TypeId} {k : IntKind} {v : Value} {d : DataW H} {p : List MemPlace} {base : Nat} (ht : P.underlying t = some (.slice e)) (he : P.underlying e = some (.int k)) (hc : P.cellsOf e = 1)
    (hval : Value.okWide P W .any base t v) (hd : DataW.Trod enc P W 0 (fun _ => true) true t v d p) :
    ∃ l : List Int, SeesL W v (l.map (Value.int k)) ∧ ∀ n ∈ l, (Lit.int k n).wf = true := by
  obtain ⟨a, len, cap, rfl⟩ := okWide_slice ht hval
  obtain ⟨fuel, hf⟩ := hd
  rcases open_ints ht he hc hf with ⟨hcs, _⟩ | ⟨x, l, c, zs, hcs, _, hl, hm, hz, _, hcell, hwz⟩
  · simp [Value.cells] at hcs
    obtain ⟨rfl, rfl, rfl⟩ := hcs
    exact ⟨[], .inl ⟨rfl, _, _, rfl⟩, by simp⟩
  · simp [Value.cells] at hcs
    obtain ⟨rfl, rfl, rfl⟩ := hcs
    have hz' : zs.length = cap := by simpa using hz
    refine ⟨zs.take len, ?_, fun n hn => hwz n (List.mem_of_mem_take hn)⟩
    have hlen : ((zs.take len).map (Value.int k)).length = len := by simp; omega
    have := seesL_of (w := W) (a := x) (cap := cap) (xs := (zs.take len).map (Value.int k)) (by rw [hlen]; exact hl) (by
      intro j u hj
      have hjl : j < len := by have := (List.getElem?_eq_some_iff.1 hj).1; rw [hlen] at this; exact this
      rw [hcell j (by omega), ← hj]
      simp [List.getD, hjl, show j < zs.length by omega])
    rw [hlen] at this
    exact this

theorem sees_strs {t e : TypeId} {v : Value} {d : DataW H} {p : List MemPlace} {base : Nat} (ht : P.underlying t = some (.slice e)) (he : P.underlying e = some .string) (hc : P.cellsOf e = 1)
    (hval : Value.okWide P W .any base t v) (hd : DataW.Trod enc P W 0 (fun _ => true) true t v d p) :
    ∃ l : List ByteArray, SeesL W v (l.map Value.string) ∧ ∀ s ∈ l, s.size ≤ maxLen := by
  obtain ⟨a, len, cap, rfl⟩ := okWide_slice ht hval
  obtain ⟨fuel, hf⟩ := hd
  rcases open_strings ht he hc hf with ⟨hcs, _⟩ | ⟨x, l, c, zs, hcs, _, hl, hm, hz, _, hcell, hwz⟩
  · simp [Value.cells] at hcs
    obtain ⟨rfl, rfl, rfl⟩ := hcs
    exact ⟨[], .inl ⟨rfl, _, _, rfl⟩, by simp⟩
  · simp [Value.cells] at hcs
    obtain ⟨rfl, rfl, rfl⟩ := hcs
    have hz' : zs.length = cap := by simpa using hz
    refine ⟨zs.take len, ?_, fun n hn => hwz n (List.mem_of_mem_take hn)⟩
    have hlen : ((zs.take len).map Value.string).length = len := by simp; omega
    have := seesL_of (w := W) (a := x) (cap := cap) (xs := (zs.take len).map Value.string) (by rw [hlen]; exact hl) (by
      intro j u hj
      have hjl : j < len := by have := (List.getElem?_eq_some_iff.1 hj).1; rw [hlen] at this; exact this
      rw [hcell j (by omega), ← hj]
      simp [List.getD, hjl, show j < zs.length by omega])
    rw [hlen] at this
    exact this
end

/-- A slice of bytes that came in, as a list of bytes. -/
theorem sees_u8 {w : World} {v : Value} {l : List Int} (h : SeesL w v (l.map (Value.int .u8))) (hw : ∀ n ∈ l, (Lit.int .u8 n).wf = true) : Sees w v (l.map fun n => UInt8.ofNat n.toNat) := by
  rcases h with ⟨h, a, c, rfl⟩ | ⟨g, off, cap, rfl, hle, hc⟩
  · left
    have : l = [] := by cases l with | nil => rfl | cons _ _ => simp at h
    subst this
    exact ⟨rfl, a, c, rfl⟩
  · right
    refine ⟨g, off, cap, by simp, by simpa using hle, fun j hj => ?_⟩
    simp at hj
    have hb := bounds_u8 (hw _ (List.getElem_mem hj))
    rw [hc j (.int .u8 l[j]) (by simp [hj])]
    have := bv_of l[j] hb.1 hb.2
    simp [List.getD, hj, this]

end Go.Proofs.Ythokfmmbiilllaa

/-
  A region that draws its order, whose operations may make memory but change none: what each operation leaves is told by a predicate that later worlds keep; then whatever order is drawn, all of them hold at the end.
-/
namespace Go.Proofs.Ythokfmmbiilllaa
open Go.RowKit

/-- Each edge that binds leads to an operation that stands before. -/
def edgesDown (ops : Array Oper) : Bool := ops.toList.zipIdx.all fun (o, i) => o.after.all fun e => !Region.binds .any e || decide (e.on < i)

theorem edgesDown_spec {ops : Array Oper} (h : edgesDown ops = true) {i : Nat} {o : Oper} (ho : ops[i]? = some o) {e : Edge} (he : e ∈ o.after) (hb : Region.binds .any e = true) : e.on < i := by
  unfold edgesDown at h
  rw [List.all_eq_true] at h
  have hi := (Array.getElem?_eq_some_iff.1 ho)
  obtain ⟨hlt, hoi⟩ := hi
  have hm : (o, i) ∈ ops.toList.zipIdx := by
    rw [List.mem_zipIdx_iff_getElem?]
    simp [ho]
  have h1 := h _ hm
  simp only [Array.all_eq_true'] at h1
  have h2 := h1 e he
  simp [hb] at h2
  exact h2

section
variable {P : Program} {ops : Array Oper} {Q : Exit → Act → World → Prop}

/-- What the walk keeps: the frame is 'fr vals', the world is a later one, and of each operation that was carried out its predicate holds. -/
structure RelInv (ops : Array Oper) (Le : World → World → Prop) (fr : (Nat → Value) → Act) (V : Nat → Value → World → Prop) (w0 : World) (listed : Array Bool) (vals : Nat → Value) (w : World) : Prop where
  le : Le w0 w
  all : ∀ i, i < ops.size → listed.getD i true = true → V i (vals i) w

def RelStep (P : Program) (ops : Array Oper) (Q : Exit → Act → World → Prop) (Le : World → World → Prop) (fr : (Nat → Value) → Act) (V : Nat → Value → World → Prop) (w0 : World) (i : Nat) (o : Oper) : Prop :=
  ∀ (vals : Nat → Value) (w : World), Le w0 w → (∀ e ∈ o.after.toList, Region.binds .any e = true → V e.on (vals e.on) w) →
    ∀ K : Act → World → Prop, (∀ v w', Le w w' → V i v w' → K ((fr vals).put o.dst v) w') →
    if Region.wanted o (yielded ops (fr vals).tmps) = true then o.wp P (fr vals) w K Q else K ((fr vals).put o.dst undef) w

theorem getD_set (l : Array Bool) (i j : Nat) (hi : i < l.size) : (l.setIfInBounds i true).getD j true = if j = i then true else l.getD j true := by
  rw [Array.getD_eq_getD_getElem?, Array.getD_eq_getD_getElem?, Array.getElem?_setIfInBounds]
  by_cases h : j = i
  · subst h
    simp [hi]
  · rw [if_neg h, if_neg (Ne.symm h)]

theorem wpAny_rel {Le : World → World → Prop} (htrans : ∀ a b c, Le a b → Le b c → Le a c) {fr : (Nat → Value) → Act}
    (hput : ∀ i o, ops[i]? = some o → ∀ vals v, (fr vals).put o.dst v = fr (fun j => if j = i then v else vals j))
    {V : Nat → Value → World → Prop} (mono : ∀ i v w w', Le w w' → V i v w → V i v w') {w0 : World} (hdown : edgesDown ops = true)
    (step : ∀ i o, ops[i]? = some o → RelStep P ops Q Le fr V w0 i o)
    (fin : ∀ vals w, Le w0 w → (∀ i, i < ops.size → V i (vals i) w) → Q .normal (fr vals) w) :
    ∀ (fuel : Nat) (listed : Array Bool) (vals : Nat → Value) (w : World), listed.size = ops.size → (listed.toList.filter (! ·)).length = fuel → RelInv ops Le fr V w0 listed vals w → wpAny P .any ops Q fuel listed (fr vals) w := by
  have done : ∀ (listed : Array Bool) (vals : Nat → Value) (w : World), listed.size = ops.size → RelInv ops Le fr V w0 listed vals w → Region.ready .any ops listed = [] → Q .normal (fr vals) w := by
    intro listed vals w hs hI hr
    refine fin vals w hI.le ?_
    have hall : ∀ n i, i < n → i < ops.size → listed.getD i true = true := by
      intro n
      induction n with
      | zero => intro i hi; omega
      | succ n ih =>
        intro i hi hio
        by_cases h : listed.getD i true = true
        · exact h
        · exfalso
          have hno : i ∉ Region.ready .any ops listed := by rw [hr]; exact List.not_mem_nil
          refine hno ?_
          unfold Region.ready
          rw [List.mem_filter]
          refine ⟨List.mem_range.2 hio, ?_⟩
          have ho : ops[i]? = some ops[i] := Array.getElem?_eq_getElem hio
          simp only [Bool.and_eq_true, ho, Option.map_some, Option.getD_some]
          refine ⟨by simpa using h, ?_⟩
          rw [Array.all_eq_true']
          intro e he
          by_cases hb : Region.binds .any e = true
          · have hlt := edgesDown_spec hdown ho he hb
            have h1 := ih e.on (by omega) (by omega)
            have h2 : e.on < listed.size := by omega
            rw [Array.getD_eq_getD_getElem?, Array.getElem?_eq_getElem h2, Option.getD_some] at h1
            simp [h2, h1]
          · simp [hb]
    intro i hi
    exact hI.all i hi (hall (i + 1) i (by omega) hi)
  intro fuel
  induction fuel with
  | zero =>
    intro listed vals w hs hf hI
    have hr : Region.ready .any ops listed = [] := by
      unfold Region.ready
      rw [List.filter_eq_nil_iff]
      intro i hi
      have hio := List.mem_range.1 hi
      have h0 : listed.toList.filter (! ·) = [] := List.eq_nil_of_length_eq_zero hf
      rw [List.filter_eq_nil_iff] at h0
      have hl : i < listed.size := by omega
      have h1 := h0 listed[i] (by simp)
      simp at h1
      simp [Array.getD, hl, h1]
    exact ⟨hr, done listed vals w hs hI hr⟩
  | succ fuel ih =>
    intro listed vals w hs hf hI
    refine ⟨fun hr => done listed vals w hs hI hr, ?_⟩
    intro i hi
    unfold Region.ready at hi
    rw [List.mem_filter] at hi
    obtain ⟨hio, hi2⟩ := hi
    have hio := List.mem_range.1 hio
    have ho : ops[i]? = some ops[i] := Array.getElem?_eq_getElem hio
    simp only [Bool.and_eq_true, ho, Option.map_some, Option.getD_some] at hi2
    obtain ⟨hn, ha⟩ := hi2
    have hil : i < listed.size := by omega
    have hnl : listed[i] = false := by simpa [Array.getD, hil] using hn
    have hcount : ((listed.setIfInBounds i true).toList.filter (! ·)).length = fuel := by
      have e : (listed.setIfInBounds i true).toList = listed.toList.set i true := by simp
      rw [e]
      have hd : listed.toList = listed.toList.take i ++ listed[i] :: listed.toList.drop (i + 1) := by
        have hl' : i < listed.toList.length := by simpa using hil
        have := (List.take_append_drop i listed.toList).symm
        rw [List.drop_eq_getElem_cons hl'] at this
        simpa using this
      have hset : listed.toList.set i true = listed.toList.take i ++ true :: listed.toList.drop (i + 1) := by
        rw [List.set_eq_take_append_cons_drop, if_pos (by simpa using hil)]
      rw [hset]
      rw [hd, hnl] at hf
      simp at hf ⊢
      omega
    have hnext : ∀ v w', Le w w' → V i v w' → wpAny P .any ops Q fuel (listed.setIfInBounds i true) ((fr vals).put ops[i].dst v) w' := by
      intro v w' hle hv
      rw [hput i _ ho]
      refine ih _ _ _ (by simpa using hs) hcount ⟨htrans _ _ _ hI.le hle, ?_⟩
      intro j hj hlj
      rw [getD_set _ _ _ hil] at hlj
      by_cases hji : j = i
      · subst hji; simpa using hv
      · rw [if_neg hji] at hlj
        simp only [if_neg hji]
        exact mono _ _ _ _ hle (hI.all j hj hlj)
    have hst := step i _ ho vals w hI.le (by
      intro e he hb
      rw [Array.all_eq_true'] at ha
      have h1 := ha e (by simpa using he)
      simp [hb] at h1
      have hlt := edgesDown_spec hdown ho (by simpa using he) hb
      refine hI.all e.on (by omega) ?_
      have h2 : e.on < listed.size := by omega
      simpa [Array.getD, h2] using h1) _ hnext
    unfold wpOp
    simp only [ho]
    split
    · rename_i hw
      rw [if_pos hw] at hst
      exact .inl hst
    · rename_i hw
      rw [if_neg hw] at hst
      exact hst

/-- THE REGION: whatever order is drawn. -/
theorem wp_region_rel {id : Nat} {a : Act} {w : World} (hm : P.follows .mixedOrders = true) (Le : World → World → Prop) (hrefl : ∀ w, Le w w) (htrans : ∀ a b c, Le a b → Le b c → Le a c)
    (fr : (Nat → Value) → Act) (vals : Nat → Value) (ha : a = fr vals)
    (hput : ∀ i o, ops[i]? = some o → ∀ vals v, (fr vals).put o.dst v = fr (fun j => if j = i then v else vals j))
    (V : Nat → Value → World → Prop) (mono : ∀ i v w w', Le w w' → V i v w → V i v w') (hdown : edgesDown ops = true)
    (step : ∀ i o, ops[i]? = some o → RelStep P ops Q Le fr V w.drew i o)
    (fin : ∀ vals w', Le w.drew w' → (∀ i, i < ops.size → V i (vals i) w') → Q .normal (fr vals) w') : (Code.region id ops true).wp P Q a w := by
  refine wp_region_any hm ?_
  subst ha
  refine wpAny_rel htrans hput mono hdown step fin _ _ vals _ (by simp) ?_ ⟨hrefl _, ?_⟩
  · simp
  · intro i hi hl
    exfalso
    simp [Array.getD, hi] at hl

/-- The temporaries with the values vals in the slots ds, from number k on. -/
def fill (vals : Nat → Value) : List Nat → Nat → Array Value → Array Value
  | [], _, t => t
  | d :: ds, k, t => fill vals ds (k + 1) (t.setIfInBounds d (vals k))

def frOf (a : Act) (ds : List Nat) (vals : Nat → Value) : Act := { a with tmps := fill vals ds 0 a.tmps }

theorem fill_size (vals : Nat → Value) : ∀ (ds : List Nat) (k : Nat) (t : Array Value), (fill vals ds k t).size = t.size
  | [], _, _ => rfl
  | d :: ds, k, t => by rw [fill, fill_size vals ds, Array.size_setIfInBounds]

theorem fill_other (vals : Nat → Value) : ∀ (ds : List Nat) (k : Nat) (t : Array Value) (x : Nat), x ∉ ds → (fill vals ds k t)[x]? = t[x]?
  | [], _, _, _, _ => rfl
  | d :: ds, k, t, x, h => by
    rw [List.mem_cons, not_or] at h
    rw [fill, fill_other vals ds (k + 1) _ x h.2, Array.getElem?_setIfInBounds, if_neg (Ne.symm h.1)]

theorem fill_at (vals : Nat → Value) : ∀ (ds : List Nat) (k : Nat) (t : Array Value), ds.Nodup → (∀ d ∈ ds, d < t.size) → ∀ j d, ds[j]? = some d → (fill vals ds k t)[d]? = some (vals (k + j))
  | [], _, _, _, _, j, d, h => by simp at h
  | d' :: ds, k, t, hn, hb, 0, d, h => by
    simp at h
    subst h
    rw [fill, fill_other vals ds (k + 1) _ _ (List.nodup_cons.1 hn).1, Array.getElem?_setIfInBounds, if_pos rfl, if_pos (hb _ (by simp)), Nat.add_zero]
  | d' :: ds, k, t, hn, hb, j + 1, d, h => by
    rw [fill, fill_at vals ds (k + 1) _ (List.nodup_cons.1 hn).2 (fun x hx => by rw [Array.size_setIfInBounds]; exact hb x (by simp [hx])) j d (by simpa using h)]
    congr 2
    omega

/-- Every operation of a list, with its number. -/
def AllOps (T : Nat → Oper → Prop) : List Oper → Nat → Prop
  | [], _ => True
  | o :: l, k => T k o ∧ AllOps T l (k + 1)
theorem AllOps.nil {T : Nat → Oper → Prop} {k : Nat} : AllOps T [] k := trivial
theorem AllOps.cons {T : Nat → Oper → Prop} {o : Oper} {l : List Oper} {k : Nat} (h : T k o) (hl : AllOps T l (k + 1)) : AllOps T (o :: l) k := ⟨h, hl⟩
theorem AllOps.get {T : Nat → Oper → Prop} : ∀ {l : List Oper} {k : Nat}, AllOps T l k → ∀ i o, l[i]? = some o → T (k + i) o
  | [], _, _, i, o, h => by simp at h
  | o' :: l, k, ⟨h0, _⟩, 0, o, h => by simp at h; subst h; exact h0
  | o' :: l, k, ⟨_, hl⟩, i + 1, o, h => by have := AllOps.get hl i o (by simpa using h); rwa [show k + 1 + i = k + (i + 1) by omega] at this

/-- One operation, from a frame: what stands behind it is a variable. -/
def RelOp (P : Program) (ops : Array Oper) (Q : Exit → Act → World → Prop) (Le : World → World → Prop) (V : Nat → Value → World → Prop) (w0 : World) (a : Act) (vals : Nat → Value) (i : Nat) (o : Oper) : Prop :=
  ∀ (w : World), Le w0 w → (∀ e ∈ o.after.toList, Region.binds .any e = true → V e.on (vals e.on) w) →
    ∀ K : Act → World → Prop, (∀ v w', Le w w' → V i v w' → K (a.put o.dst v) w') →
    if Region.wanted o (yielded ops a.tmps) = true then o.wp P a w K Q else K (a.put o.dst undef) w

/-- THE REGION AS THE WALK WANTS IT: the operations written out, their slots 'ds'; what each leaves ('V'); each operation, from whatever values the earlier ones left. -/
theorem wp_region_told {id : Nat} {l : List Oper} {a : Act} {w : World} (hm : P.follows .mixedOrders = true) (Le : World → World → Prop) (hrefl : ∀ w, Le w w) (htrans : ∀ a b c, Le a b → Le b c → Le a c)
    (ds : List Nat) (hds : l.map (·.dst) = ds.map some) (hnd : ds.Nodup) (hlt : ∀ d ∈ ds, d < a.tmps.size)
    (V : Nat → Value → World → Prop) (mono : ∀ i v w w', Le w w' → V i v w → V i v w') (hdown : edgesDown l.toArray = true)
    (step : ∀ vals : Nat → Value, AllOps (RelOp P l.toArray Q Le V w.drew (frOf a ds vals) vals) l 0)
    (fin : ∀ vals w', Le w.drew w' → (∀ i, i < l.length → V i (vals i) w') → Q .normal (frOf a ds vals) w') : (Code.region id l.toArray true).wp P Q a w := by
  have hdst : ∀ (i : Nat) (o : Oper), l[i]? = some o → ∃ d, ds[i]? = some d ∧ o.dst = some d := by
    intro i o ho
    have h1 : (l.map (·.dst))[i]? = some o.dst := by simp [ho]
    rw [hds] at h1
    simp only [List.getElem?_map, Option.map_eq_some_iff] at h1
    obtain ⟨d, h2, h3⟩ := h1
    exact ⟨d, h2, h3.symm⟩
  refine wp_region_rel hm Le hrefl htrans (frOf a ds) (fun j => (ds[j]?.bind (a.tmps[·]?)).getD undef) ?_ ?_ V mono hdown ?_ (by simpa using fin)
  · unfold frOf
    have : fill (fun j => (ds[j]?.bind (a.tmps[·]?)).getD undef) ds 0 a.tmps = a.tmps := by
      apply Array.ext_getElem?
      intro x
      by_cases hx : x ∈ ds
      · obtain ⟨j, hj, rfl⟩ := List.getElem_of_mem hx
        have hd := List.getElem?_eq_getElem hj
        rw [fill_at _ ds 0 a.tmps hnd hlt j _ hd, Nat.zero_add, hd]
        have hb := hlt ds[j] hx
        simp [Array.getElem?_eq_getElem hb]
      · exact fill_other _ _ _ _ _ hx
    rw [this]
  · intro i o ho vals v
    obtain ⟨d, h1, h2⟩ := hdst i o (by simpa using ho)
    rw [h2]
    unfold frOf Act.put
    simp only
    congr 1
    apply Array.ext_getElem?
    intro x
    have hd : d < a.tmps.size := hlt d (List.mem_of_getElem? h1)
    rw [Array.getElem?_setIfInBounds]
    by_cases hx : x ∈ ds
    · obtain ⟨j, hj, rfl⟩ := List.getElem_of_mem hx
      have hdj := List.getElem?_eq_getElem hj
      rw [fill_at _ ds 0 a.tmps hnd hlt j _ hdj, fill_at _ ds 0 a.tmps hnd hlt j _ hdj, Nat.zero_add]
      by_cases e : j = i
      · subst e
        rw [h1] at hdj
        simp only [Option.some.injEq] at hdj
        rw [if_pos hdj, if_pos (by rw [fill_size]; exact hd), if_pos rfl]
      · have hne : d ≠ ds[j] := by
          intro e2
          refine e ?_
          have hi : i < ds.length := (List.getElem?_eq_some_iff.1 h1).1
          have h3 : ds[i] = ds[j] := by rw [(List.getElem?_eq_some_iff.1 h1).2]; exact e2
          exact ((List.getElem_inj hnd).1 h3).symm
        rw [if_neg hne, if_neg e]
    · have hne : d ≠ x := fun e => hx (e ▸ List.mem_of_getElem? h1)
      rw [if_neg hne, fill_other _ _ _ _ _ hx, fill_other _ _ _ _ _ hx]
  · intro i o ho vals w' hle he K hK
    have := (step vals).get i o (by simpa using ho)
    rw [Nat.zero_add] at this
    exact this w' hle he K hK

end
end Go.Proofs.Ythokfmmbiilllaa

/-
  A region that draws its order, some of whose operations change memory: of each operation it is said what holds while it is not yet carried out ('U'), and what it leaves ('V'); then whatever order is drawn, all of them hold at the end. (As YthokfmmbiilllaaRegion, where nothing is changed.)
-/
namespace Go.Proofs.Ythokfmmbiilllaa
open Go.RowKit

section
variable {P : Program} {ops : Array Oper} {Q : Exit → Act → World → Prop}

/-- What the walk keeps: the frame is 'fr vals', the world is a later one, and of each operation that was carried out its predicate holds. -/
structure RelInvU (ops : Array Oper) (Le : World → World → Prop) (fr : (Nat → Value) → Act) (U : Nat → World → Prop) (V : Nat → Value → World → Prop) (w0 : World) (listed : Array Bool) (vals : Nat → Value) (w : World) : Prop where
  le : Le w0 w
  all : ∀ i, i < ops.size → listed.getD i true = true → V i (vals i) w
  rest : ∀ i, i < ops.size → listed.getD i true = false → U i w
  closed : ∀ i o, ops[i]? = some o → listed.getD i true = true → ∀ e ∈ o.after, Region.binds .any e = true → listed.getD e.on true = true

/-- Does operation j wait for operation i? -/
def waits (ops : Array Oper) (j i : Nat) : Bool := match ops[j]? with
  | some o => o.after.any fun e => Region.binds .any e && decide (e.on = i)
  | none => false

def RelStepU (P : Program) (ops : Array Oper) (Q : Exit → Act → World → Prop) (Le : World → World → Prop) (fr : (Nat → Value) → Act) (U : Nat → World → Prop) (V : Nat → Value → World → Prop) (w0 : World) (i : Nat) (o : Oper) : Prop :=
  ∀ (vals : Nat → Value) (w : World), Le w0 w → (∀ e ∈ o.after.toList, Region.binds .any e = true → V e.on (vals e.on) w) →
    U i w → (∀ j, waits ops j i = true → U j w) →
    ∀ K : Act → World → Prop, (∀ v w', Le w w' → V i v w' → (∀ j, j ≠ i → U j w → U j w') → (∀ j u, j ≠ i → V j u w → V j u w') → K ((fr vals).put o.dst v) w') →
    if Region.wanted o (yielded ops (fr vals).tmps) = true then o.wp P (fr vals) w K Q else K ((fr vals).put o.dst undef) w

theorem wpAny_relU {Le : World → World → Prop} (htrans : ∀ a b c, Le a b → Le b c → Le a c) {fr : (Nat → Value) → Act}
    (hput : ∀ i o, ops[i]? = some o → ∀ vals v, (fr vals).put o.dst v = fr (fun j => if j = i then v else vals j))
    {U : Nat → World → Prop} {V : Nat → Value → World → Prop} {w0 : World} (hdown : edgesDown ops = true)
    (step : ∀ i o, ops[i]? = some o → RelStepU P ops Q Le fr U V w0 i o)
    (fin : ∀ vals w, Le w0 w → (∀ i, i < ops.size → V i (vals i) w) → Q .normal (fr vals) w) :
    ∀ (fuel : Nat) (listed : Array Bool) (vals : Nat → Value) (w : World), listed.size = ops.size → (listed.toList.filter (! ·)).length = fuel → RelInvU ops Le fr U V w0 listed vals w → wpAny P .any ops Q fuel listed (fr vals) w := by
  have done : ∀ (listed : Array Bool) (vals : Nat → Value) (w : World), listed.size = ops.size → RelInvU ops Le fr U V w0 listed vals w → Region.ready .any ops listed = [] → Q .normal (fr vals) w := by
    intro listed vals w hs hI hr
    refine fin vals w hI.le ?_
    have hall : ∀ n i, i < n → i < ops.size → listed.getD i true = true := by
      intro n
      induction n with
      | zero => intro i hi; omega
      | succ n ih =>
        intro i hi hio
        by_cases h : listed.getD i true = true
        · exact h
        · exfalso
          have hno : i ∉ Region.ready .any ops listed := by rw [hr]; exact List.not_mem_nil
          refine hno ?_
          unfold Region.ready
          rw [List.mem_filter]
          refine ⟨List.mem_range.2 hio, ?_⟩
          have ho : ops[i]? = some ops[i] := Array.getElem?_eq_getElem hio
          simp only [Bool.and_eq_true, ho, Option.map_some, Option.getD_some]
          refine ⟨by simpa using h, ?_⟩
          rw [Array.all_eq_true']
          intro e he
          by_cases hb : Region.binds .any e = true
          · have hlt := edgesDown_spec hdown ho he hb
            have h1 := ih e.on (by omega) (by omega)
            have h2 : e.on < listed.size := by omega
            rw [Array.getD_eq_getD_getElem?, Array.getElem?_eq_getElem h2, Option.getD_some] at h1
            simp [h2, h1]
          · simp [hb]
    intro i hi
    exact hI.all i hi (hall (i + 1) i (by omega) hi)
  intro fuel
  induction fuel with
  | zero =>
    intro listed vals w hs hf hI
    have hr : Region.ready .any ops listed = [] := by
      unfold Region.ready
      rw [List.filter_eq_nil_iff]
      intro i hi
      have hio := List.mem_range.1 hi
      have h0 : listed.toList.filter (! ·) = [] := List.eq_nil_of_length_eq_zero hf
      rw [List.filter_eq_nil_iff] at h0
      have hl : i < listed.size := by omega
      have h1 := h0 listed[i] (by simp)
      simp at h1
      simp [Array.getD, hl, h1]
    exact ⟨hr, done listed vals w hs hI hr⟩
  | succ fuel ih =>
    intro listed vals w hs hf hI
    refine ⟨fun hr => done listed vals w hs hI hr, ?_⟩
    intro i hi
    unfold Region.ready at hi
    rw [List.mem_filter] at hi
    obtain ⟨hio, hi2⟩ := hi
    have hio := List.mem_range.1 hio
    have ho : ops[i]? = some ops[i] := Array.getElem?_eq_getElem hio
    simp only [Bool.and_eq_true, ho, Option.map_some, Option.getD_some] at hi2
    obtain ⟨hn, ha⟩ := hi2
    have hil : i < listed.size := by omega
    have hnl : listed[i] = false := by simpa [Array.getD, hil] using hn
    have hcount : ((listed.setIfInBounds i true).toList.filter (! ·)).length = fuel := by
      have e : (listed.setIfInBounds i true).toList = listed.toList.set i true := by simp
      rw [e]
      have hd : listed.toList = listed.toList.take i ++ listed[i] :: listed.toList.drop (i + 1) := by
        have hl' : i < listed.toList.length := by simpa using hil
        have := (List.take_append_drop i listed.toList).symm
        rw [List.drop_eq_getElem_cons hl'] at this
        simpa using this
      have hset : listed.toList.set i true = listed.toList.take i ++ true :: listed.toList.drop (i + 1) := by
        rw [List.set_eq_take_append_cons_drop, if_pos (by simpa using hil)]
      rw [hset]
      rw [hd, hnl] at hf
      simp at hf ⊢
      omega
    have hnd : ∀ e ∈ ops[i].after, Region.binds .any e = true → listed.getD e.on true = true := by
      intro e he hb
      rw [Array.all_eq_true'] at ha
      have h1 := ha e he
      simp [hb] at h1
      have hlt := edgesDown_spec hdown ho he hb
      have h2 : e.on < listed.size := by omega
      simpa [Array.getD, h2] using h1
    have hnext : ∀ v w', Le w w' → V i v w' → (∀ j, j ≠ i → U j w → U j w') → (∀ j u, j ≠ i → V j u w → V j u w') → wpAny P .any ops Q fuel (listed.setIfInBounds i true) ((fr vals).put ops[i].dst v) w' := by
      intro v w' hle hv hu hpres
      rw [hput i _ ho]
      refine ih _ _ _ (by simpa using hs) hcount ⟨htrans _ _ _ hI.le hle, ?_, ?_, ?_⟩
      · intro j hj hlj
        rw [getD_set _ _ _ hil] at hlj
        by_cases hji : j = i
        · subst hji; simpa using hv
        · rw [if_neg hji] at hlj
          simp only [if_neg hji]
          exact hpres j _ hji (hI.all j hj hlj)
      · intro j hj hlj
        rw [getD_set _ _ _ hil] at hlj
        by_cases hji : j = i
        · rw [if_pos hji] at hlj; cases hlj
        · rw [if_neg hji] at hlj
          exact hu j hji (hI.rest j hj hlj)
      · intro j o hjo hlj e he hb
        rw [getD_set _ _ _ hil] at hlj ⊢
        by_cases hei : e.on = i
        · rw [if_pos hei]
        · rw [if_neg hei]
          by_cases hji : j = i
          · subst hji
            rw [ho] at hjo
            cases hjo
            exact hnd e he hb
          · rw [if_neg hji] at hlj
            exact hI.closed j o hjo hlj e he hb
    have hst := step i _ ho vals w hI.le (by
      intro e he hb
      have hlt := edgesDown_spec hdown ho (by simpa using he) hb
      exact hI.all e.on (by omega) (hnd e (by simpa using he) hb)) (by
      refine hI.rest i hio ?_
      rw [Array.getD_eq_getD_getElem?, Array.getElem?_eq_getElem hil, hnl]; rfl) (by
      intro j hw
      unfold waits at hw
      cases hjo : ops[j]? with
      | none => rw [hjo] at hw; cases hw
      | some o =>
        rw [hjo] at hw
        simp only [Array.any_eq_true', Bool.and_eq_true, decide_eq_true_eq] at hw
        obtain ⟨e, he, hb, hei⟩ := hw
        have hjs : j < ops.size := (Array.getElem?_eq_some_iff.1 hjo).1
        cases hlj : listed.getD j true with
        | false => exact hI.rest j hjs hlj
        | true =>
          have := hI.closed j o hjo hlj e he hb
          rw [hei, Array.getD_eq_getD_getElem?, Array.getElem?_eq_getElem hil, hnl] at this
          cases this) _ hnext
    unfold wpOp
    simp only [ho]
    split
    · rename_i hw
      rw [if_pos hw] at hst
      exact .inl hst
    · rename_i hw
      rw [if_neg hw] at hst
      exact hst

/-- THE REGION: whatever order is drawn. -/
theorem wp_region_relU {id : Nat} {a : Act} {w : World} (hm : P.follows .mixedOrders = true) (Le : World → World → Prop) (hrefl : ∀ w, Le w w) (htrans : ∀ a b c, Le a b → Le b c → Le a c)
    (fr : (Nat → Value) → Act) (vals : Nat → Value) (ha : a = fr vals)
    (hput : ∀ i o, ops[i]? = some o → ∀ vals v, (fr vals).put o.dst v = fr (fun j => if j = i then v else vals j))
    (U : Nat → World → Prop) (V : Nat → Value → World → Prop) (hdown : edgesDown ops = true) (hU : ∀ i, i < ops.size → U i w.drew)
    (step : ∀ i o, ops[i]? = some o → RelStepU P ops Q Le fr U V w.drew i o)
    (fin : ∀ vals w', Le w.drew w' → (∀ i, i < ops.size → V i (vals i) w') → Q .normal (fr vals) w') : (Code.region id ops true).wp P Q a w := by
  refine wp_region_any hm ?_
  subst ha
  have hfalse : ∀ i, i < ops.size → ¬ (Array.replicate ops.size false).getD i true = true := by
    intro i hi h
    simp [Array.getD, hi] at h
  refine wpAny_relU (U := U) htrans hput hdown step fin _ _ vals _ (by simp) ?_ ⟨hrefl _, ?_, ?_, ?_⟩
  · simp
  · intro i hi hl
    exact absurd hl (hfalse i hi)
  · intro i hi _
    exact hU i hi
  · intro i o ho hl
    exact absurd hl (hfalse i (Array.getElem?_eq_some_iff.1 ho).1)

/-- The temporaries with the values vals in the slots ds (none: no slot), from number k on. -/
def fillU (vals : Nat → Value) : List (Option Nat) → Nat → Array Value → Array Value
  | [], _, t => t
  | none :: ds, k, t => fillU vals ds (k + 1) t
  | some d :: ds, k, t => fillU vals ds (k + 1) (t.setIfInBounds d (vals k))

def frOfU (a : Act) (ds : List (Option Nat)) (vals : Nat → Value) : Act := { a with tmps := fillU vals ds 0 a.tmps }

theorem fillU_size (vals : Nat → Value) : ∀ (ds : List (Option Nat)) (k : Nat) (t : Array Value), (fillU vals ds k t).size = t.size
  | [], _, _ => rfl
  | none :: ds, k, t => fillU_size vals ds _ _
  | some d :: ds, k, t => by rw [fillU, fillU_size vals ds, Array.size_setIfInBounds]

theorem fillU_other (vals : Nat → Value) : ∀ (ds : List (Option Nat)) (k : Nat) (t : Array Value) (x : Nat), some x ∉ ds → (fillU vals ds k t)[x]? = t[x]?
  | [], _, _, _, _ => rfl
  | none :: ds, k, t, x, h => by
    rw [List.mem_cons, not_or] at h
    exact fillU_other vals ds (k + 1) _ x h.2
  | some d :: ds, k, t, x, h => by
    rw [List.mem_cons, not_or] at h
    rw [fillU, fillU_other vals ds (k + 1) _ x h.2, Array.getElem?_setIfInBounds, if_neg (fun e => h.1 (by rw [e]))]

def noTwice : List (Option Nat) → Bool
  | [] => true
  | none :: ds => noTwice ds
  | some d :: ds => !ds.contains (some d) && noTwice ds

theorem fillU_at (vals : Nat → Value) : ∀ (ds : List (Option Nat)) (k : Nat) (t : Array Value), noTwice ds = true → (∀ d, some d ∈ ds → d < t.size) → ∀ j d, ds[j]? = some (some d) → (fillU vals ds k t)[d]? = some (vals (k + j))
  | [], _, _, _, _, j, d, h => by simp at h
  | none :: ds, k, t, hn, hb, 0, d, h => by simp at h
  | none :: ds, k, t, hn, hb, j + 1, d, h => by
    rw [fillU, fillU_at vals ds (k + 1) t hn (fun x hx => hb x (by simp [hx])) j d (by simpa using h)]
    congr 2
    omega
  | some d' :: ds, k, t, hn, hb, 0, d, h => by
    simp at h
    subst h
    simp only [noTwice, Bool.and_eq_true, Bool.not_eq_true', List.contains_eq_mem, decide_eq_false_iff_not] at hn
    rw [fillU, fillU_other vals ds (k + 1) _ _ hn.1, Array.getElem?_setIfInBounds, if_pos rfl, if_pos (hb _ (by simp)), Nat.add_zero]
  | some d' :: ds, k, t, hn, hb, j + 1, d, h => by
    simp only [noTwice, Bool.and_eq_true] at hn
    rw [fillU, fillU_at vals ds (k + 1) _ hn.2 (fun x hx => by rw [Array.size_setIfInBounds]; exact hb x (by simp [hx])) j d (by simpa using h)]
    congr 2
    omega

theorem noTwice_inj : ∀ {ds : List (Option Nat)}, noTwice ds = true → ∀ {i j d : Nat}, ds[i]? = some (some d) → ds[j]? = some (some d) → i = j
  | [], _, i, j, d, h, _ => by simp at h
  | none :: ds, hn, 0, j, d, h, _ => by simp at h
  | none :: ds, hn, i + 1, 0, d, _, h => by simp at h
  | none :: ds, hn, i + 1, j + 1, d, hi, hj => congrArg (· + 1) (noTwice_inj (ds := ds) (d := d) hn (by simpa using hi) (by simpa using hj))
  | some d' :: ds, hn, 0, 0, d, _, _ => rfl
  | some d' :: ds, hn, 0, j + 1, d, hi, hj => by
    simp at hi
    subst hi
    simp only [noTwice, Bool.and_eq_true, Bool.not_eq_true', List.contains_eq_mem, decide_eq_false_iff_not] at hn
    exact absurd (List.mem_of_getElem? (by simpa using hj)) hn.1
  | some d' :: ds, hn, i + 1, 0, d, hi, hj => by
    simp at hj
    subst hj
    simp only [noTwice, Bool.and_eq_true, Bool.not_eq_true', List.contains_eq_mem, decide_eq_false_iff_not] at hn
    exact absurd (List.mem_of_getElem? (by simpa using hi)) hn.1
  | some d' :: ds, hn, i + 1, j + 1, d, hi, hj => by
    simp only [noTwice, Bool.and_eq_true] at hn
    exact congrArg (· + 1) (noTwice_inj (ds := ds) (d := d) hn.2 (by simpa using hi) (by simpa using hj))

/-- One operation, from a frame: what stands behind it is a variable. -/
def RelOpU (P : Program) (ops : Array Oper) (Q : Exit → Act → World → Prop) (Le : World → World → Prop) (U : Nat → World → Prop) (V : Nat → Value → World → Prop) (w0 : World) (a : Act) (vals : Nat → Value) (i : Nat) (o : Oper) : Prop :=
  ∀ (w : World), Le w0 w → (∀ e ∈ o.after.toList, Region.binds .any e = true → V e.on (vals e.on) w) → U i w → (∀ j, waits ops j i = true → U j w) →
    ∀ K : Act → World → Prop, (∀ v w', Le w w' → V i v w' → (∀ j, j ≠ i → U j w → U j w') → (∀ j u, j ≠ i → V j u w → V j u w') → K (a.put o.dst v) w') →
    if Region.wanted o (yielded ops a.tmps) = true then o.wp P a w K Q else K (a.put o.dst undef) w

/-- THE REGION AS THE WALK WANTS IT: the operations written out, their slots 'ds'; what holds ahead of each ('U'), what each leaves ('V'); each operation, from whatever values the earlier ones left. -/
theorem wp_region_toldU {id : Nat} {l : List Oper} {a : Act} {w : World} (hm : P.follows .mixedOrders = true) (Le : World → World → Prop) (hrefl : ∀ w, Le w w) (htrans : ∀ a b c, Le a b → Le b c → Le a c)
    (ds : List (Option Nat)) (hds : l.map (·.dst) = ds) (hnd : noTwice ds = true) (hlt : ∀ d, some d ∈ ds → d < a.tmps.size)
    (U : Nat → World → Prop) (V : Nat → Value → World → Prop) (hdown : edgesDown l.toArray = true) (hU : ∀ i, i < l.length → U i w.drew)
    (step : ∀ vals : Nat → Value, AllOps (RelOpU P l.toArray Q Le U V w.drew (frOfU a ds vals) vals) l 0)
    (fin : ∀ vals w', Le w.drew w' → (∀ i, i < l.length → V i (vals i) w') → Q .normal (frOfU a ds vals) w') : (Code.region id l.toArray true).wp P Q a w := by
  have hdst : ∀ (i : Nat) (o : Oper), l[i]? = some o → ds[i]? = some o.dst := by
    intro i o ho
    rw [← hds]
    simp [ho]
  refine wp_region_relU hm Le hrefl htrans (frOfU a ds) (fun j => ((ds[j]?.bind fun x => x).bind (a.tmps[·]?)).getD undef) ?_ ?_ U V hdown (by simpa using hU) ?_ (by simpa using fin)
  · unfold frOfU
    have : fillU (fun j => ((ds[j]?.bind fun x => x).bind (a.tmps[·]?)).getD undef) ds 0 a.tmps = a.tmps := by
      apply Array.ext_getElem?
      intro x
      by_cases hx : some x ∈ ds
      · obtain ⟨j, hj, hjx⟩ := List.getElem_of_mem hx
        have hd : ds[j]? = some (some x) := by rw [List.getElem?_eq_getElem hj, hjx]
        rw [fillU_at _ ds 0 a.tmps hnd hlt j _ hd, Nat.zero_add, hd]
        have hb := hlt x hx
        simp [Array.getElem?_eq_getElem hb]
      · exact fillU_other _ _ _ _ _ hx
    rw [this]
  · intro i o ho vals v
    have h1 := hdst i o (by simpa using ho)
    unfold frOfU Act.put
    cases h2 : o.dst with
    | none =>
      rw [h2] at h1
      simp only
      congr 1
      apply Array.ext_getElem?
      intro x
      by_cases hx : some x ∈ ds
      · obtain ⟨j, hj, hjx⟩ := List.getElem_of_mem hx
        have hd : ds[j]? = some (some x) := by rw [List.getElem?_eq_getElem hj, hjx]
        rw [fillU_at _ ds 0 a.tmps hnd hlt j _ hd, fillU_at _ ds 0 a.tmps hnd hlt j _ hd, Nat.zero_add]
        have hne : j ≠ i := by
          intro e
          subst e
          rw [h1] at hd
          cases hd
        rw [if_neg hne]
      · rw [fillU_other _ _ _ _ _ hx, fillU_other _ _ _ _ _ hx]
    | some d =>
      rw [h2] at h1
      simp only
      congr 1
      apply Array.ext_getElem?
      intro x
      have hd : d < a.tmps.size := hlt d (List.mem_of_getElem? h1)
      rw [Array.getElem?_setIfInBounds]
      by_cases hx : some x ∈ ds
      · obtain ⟨j, hj, hjx⟩ := List.getElem_of_mem hx
        have hdj : ds[j]? = some (some x) := by rw [List.getElem?_eq_getElem hj, hjx]
        rw [fillU_at _ ds 0 a.tmps hnd hlt j _ hdj, fillU_at _ ds 0 a.tmps hnd hlt j _ hdj, Nat.zero_add]
        by_cases e : j = i
        · subst e
          rw [h1] at hdj
          simp only [Option.some.injEq] at hdj
          rw [if_pos hdj, if_pos (by rw [fillU_size]; exact hdj ▸ hd), if_pos rfl]
        · have hne : d ≠ x := by
            intro e2
            subst e2
            exact e (noTwice_inj hnd hdj h1)
          rw [if_neg hne, if_neg e]
      · have hne : d ≠ x := fun e => hx (e ▸ List.mem_of_getElem? h1)
        rw [if_neg hne, fillU_other _ _ _ _ _ hx, fillU_other _ _ _ _ _ hx]
  · intro i o ho vals w' hle he hu hw K hK
    have := (step vals).get i o (by simpa using ho)
    rw [Nat.zero_add] at this
    exact this w' hle he hu hw K hK

end
end Go.Proofs.Ythokfmmbiilllaa

/-
  A region that draws its order (as YthokfmmbiilllaaRegionU), where a slot that is read is written at the end: of each operation it is said what holds of its slot and of memory while it is not yet carried out.
-/
namespace Go.Proofs.Ythokfmmbiilllaa
open Go.RowKit

section
variable {P : Program} {ops : Array Oper} {Q : Exit → Act → World → Prop}

/-- What the walk keeps: the frame is 'fr vals', the world is a later one, and of each operation that was carried out its predicate holds. -/
structure RelInvV (ops : Array Oper) (Le : World → World → Prop) (fr : (Nat → Value) → Act) (U : Nat → Value → World → Prop) (V : Nat → Value → World → Prop) (w0 : World) (listed : Array Bool) (vals : Nat → Value) (w : World) : Prop where
  le : Le w0 w
  all : ∀ i, i < ops.size → listed.getD i true = true → V i (vals i) w
  rest : ∀ i, i < ops.size → listed.getD i true = false → U i (vals i) w
  closed : ∀ i o, ops[i]? = some o → listed.getD i true = true → ∀ e ∈ o.after, Region.binds .any e = true → listed.getD e.on true = true

def RelStepV (P : Program) (ops : Array Oper) (Q : Exit → Act → World → Prop) (Le : World → World → Prop) (fr : (Nat → Value) → Act) (U : Nat → Value → World → Prop) (V : Nat → Value → World → Prop) (w0 : World) (i : Nat) (o : Oper) : Prop :=
  ∀ (vals : Nat → Value) (w : World), Le w0 w → (∀ e ∈ o.after.toList, Region.binds .any e = true → V e.on (vals e.on) w) →
    U i (vals i) w → (∀ j, waits ops j i = true → U j (vals j) w) →
    ∀ K : Act → World → Prop, (∀ v w', Le w w' → V i v w' → (∀ j u, j ≠ i → U j u w → U j u w') → (∀ j u, j ≠ i → waits ops j i = false → V j u w → V j u w') → K ((fr vals).put o.dst v) w') →
    if Region.wanted o (yielded ops (fr vals).tmps) = true then o.wp P (fr vals) w K Q else K ((fr vals).put o.dst undef) w

theorem wpAny_relV {Le : World → World → Prop} (htrans : ∀ a b c, Le a b → Le b c → Le a c) {fr : (Nat → Value) → Act}
    (hput : ∀ i o, ops[i]? = some o → ∀ vals v, (fr vals).put o.dst v = fr (fun j => if j = i then v else vals j))
    {U : Nat → Value → World → Prop} {V : Nat → Value → World → Prop} {w0 : World} (hdown : edgesDown ops = true)
    (step : ∀ i o, ops[i]? = some o → RelStepV P ops Q Le fr U V w0 i o)
    (fin : ∀ vals w, Le w0 w → (∀ i, i < ops.size → V i (vals i) w) → Q .normal (fr vals) w) :
    ∀ (fuel : Nat) (listed : Array Bool) (vals : Nat → Value) (w : World), listed.size = ops.size → (listed.toList.filter (! ·)).length = fuel → RelInvV ops Le fr U V w0 listed vals w → wpAny P .any ops Q fuel listed (fr vals) w := by
  have done : ∀ (listed : Array Bool) (vals : Nat → Value) (w : World), listed.size = ops.size → RelInvV ops Le fr U V w0 listed vals w → Region.ready .any ops listed = [] → Q .normal (fr vals) w := by
    intro listed vals w hs hI hr
    refine fin vals w hI.le ?_
    have hall : ∀ n i, i < n → i < ops.size → listed.getD i true = true := by
      intro n
      induction n with
      | zero => intro i hi; omega
      | succ n ih =>
        intro i hi hio
        by_cases h : listed.getD i true = true
        · exact h
        · exfalso
          have hno : i ∉ Region.ready .any ops listed := by rw [hr]; exact List.not_mem_nil
          refine hno ?_
          unfold Region.ready
          rw [List.mem_filter]
          refine ⟨List.mem_range.2 hio, ?_⟩
          have ho : ops[i]? = some ops[i] := Array.getElem?_eq_getElem hio
          simp only [Bool.and_eq_true, ho, Option.map_some, Option.getD_some]
          refine ⟨by simpa using h, ?_⟩
          rw [Array.all_eq_true']
          intro e he
          by_cases hb : Region.binds .any e = true
          · have hlt := edgesDown_spec hdown ho he hb
            have h1 := ih e.on (by omega) (by omega)
            have h2 : e.on < listed.size := by omega
            rw [Array.getD_eq_getD_getElem?, Array.getElem?_eq_getElem h2, Option.getD_some] at h1
            simp [h2, h1]
          · simp [hb]
    intro i hi
    exact hI.all i hi (hall (i + 1) i (by omega) hi)
  intro fuel
  induction fuel with
  | zero =>
    intro listed vals w hs hf hI
    have hr : Region.ready .any ops listed = [] := by
      unfold Region.ready
      rw [List.filter_eq_nil_iff]
      intro i hi
      have hio := List.mem_range.1 hi
      have h0 : listed.toList.filter (! ·) = [] := List.eq_nil_of_length_eq_zero hf
      rw [List.filter_eq_nil_iff] at h0
      have hl : i < listed.size := by omega
      have h1 := h0 listed[i] (by simp)
      simp at h1
      simp [Array.getD, hl, h1]
    exact ⟨hr, done listed vals w hs hI hr⟩
  | succ fuel ih =>
    intro listed vals w hs hf hI
    refine ⟨fun hr => done listed vals w hs hI hr, ?_⟩
    intro i hi
    unfold Region.ready at hi
    rw [List.mem_filter] at hi
    obtain ⟨hio, hi2⟩ := hi
    have hio := List.mem_range.1 hio
    have ho : ops[i]? = some ops[i] := Array.getElem?_eq_getElem hio
    simp only [Bool.and_eq_true, ho, Option.map_some, Option.getD_some] at hi2
    obtain ⟨hn, ha⟩ := hi2
    have hil : i < listed.size := by omega
    have hnl : listed[i] = false := by simpa [Array.getD, hil] using hn
    have hcount : ((listed.setIfInBounds i true).toList.filter (! ·)).length = fuel := by
      have e : (listed.setIfInBounds i true).toList = listed.toList.set i true := by simp
      rw [e]
      have hd : listed.toList = listed.toList.take i ++ listed[i] :: listed.toList.drop (i + 1) := by
        have hl' : i < listed.toList.length := by simpa using hil
        have := (List.take_append_drop i listed.toList).symm
        rw [List.drop_eq_getElem_cons hl'] at this
        simpa using this
      have hset : listed.toList.set i true = listed.toList.take i ++ true :: listed.toList.drop (i + 1) := by
        rw [List.set_eq_take_append_cons_drop, if_pos (by simpa using hil)]
      rw [hset]
      rw [hd, hnl] at hf
      simp at hf ⊢
      omega
    have hnd : ∀ e ∈ ops[i].after, Region.binds .any e = true → listed.getD e.on true = true := by
      intro e he hb
      rw [Array.all_eq_true'] at ha
      have h1 := ha e he
      simp [hb] at h1
      have hlt := edgesDown_spec hdown ho he hb
      have h2 : e.on < listed.size := by omega
      simpa [Array.getD, h2] using h1
    have hnext : ∀ v w', Le w w' → V i v w' → (∀ j u, j ≠ i → U j u w → U j u w') → (∀ j u, j ≠ i → waits ops j i = false → V j u w → V j u w') → wpAny P .any ops Q fuel (listed.setIfInBounds i true) ((fr vals).put ops[i].dst v) w' := by
      intro v w' hle hv hu hpres
      rw [hput i _ ho]
      refine ih _ _ _ (by simpa using hs) hcount ⟨htrans _ _ _ hI.le hle, ?_, ?_, ?_⟩
      · intro j hj hlj
        rw [getD_set _ _ _ hil] at hlj
        by_cases hji : j = i
        · subst hji; simpa using hv
        · rw [if_neg hji] at hlj
          simp only [if_neg hji]
          refine hpres j _ hji ?_ (hI.all j hj hlj)
          cases hw : waits ops j i with
          | false => rfl
          | true =>
            exfalso
            unfold waits at hw
            cases hjo : ops[j]? with
            | none => rw [hjo] at hw; cases hw
            | some o =>
              rw [hjo] at hw
              simp only [Array.any_eq_true', Bool.and_eq_true, decide_eq_true_eq] at hw
              obtain ⟨e, he, hb, hei⟩ := hw
              have := hI.closed j o hjo hlj e he hb
              rw [hei, Array.getD_eq_getD_getElem?, Array.getElem?_eq_getElem hil, hnl] at this
              cases this
      · intro j hj hlj
        rw [getD_set _ _ _ hil] at hlj
        by_cases hji : j = i
        · rw [if_pos hji] at hlj; cases hlj
        · rw [if_neg hji] at hlj
          simp only [if_neg hji]
          exact hu j _ hji (hI.rest j hj hlj)
      · intro j o hjo hlj e he hb
        rw [getD_set _ _ _ hil] at hlj ⊢
        by_cases hei : e.on = i
        · rw [if_pos hei]
        · rw [if_neg hei]
          by_cases hji : j = i
          · subst hji
            rw [ho] at hjo
            cases hjo
            exact hnd e he hb
          · rw [if_neg hji] at hlj
            exact hI.closed j o hjo hlj e he hb
    have hst := step i _ ho vals w hI.le (by
      intro e he hb
      have hlt := edgesDown_spec hdown ho (by simpa using he) hb
      exact hI.all e.on (by omega) (hnd e (by simpa using he) hb)) (by
      refine hI.rest i hio ?_
      rw [Array.getD_eq_getD_getElem?, Array.getElem?_eq_getElem hil, hnl]; rfl) (by
      intro j hw
      unfold waits at hw
      cases hjo : ops[j]? with
      | none => rw [hjo] at hw; cases hw
      | some o =>
        rw [hjo] at hw
        simp only [Array.any_eq_true', Bool.and_eq_true, decide_eq_true_eq] at hw
        obtain ⟨e, he, hb, hei⟩ := hw
        have hjs : j < ops.size := (Array.getElem?_eq_some_iff.1 hjo).1
        cases hlj : listed.getD j true with
        | false => exact hI.rest j hjs hlj
        | true =>
          have := hI.closed j o hjo hlj e he hb
          rw [hei, Array.getD_eq_getD_getElem?, Array.getElem?_eq_getElem hil, hnl] at this
          cases this) _ hnext
    unfold wpOp
    simp only [ho]
    split
    · rename_i hw
      rw [if_pos hw] at hst
      exact .inl hst
    · rename_i hw
      rw [if_neg hw] at hst
      exact hst

/-- THE REGION: whatever order is drawn. -/
theorem wp_region_relV {id : Nat} {a : Act} {w : World} (hm : P.follows .mixedOrders = true) (Le : World → World → Prop) (hrefl : ∀ w, Le w w) (htrans : ∀ a b c, Le a b → Le b c → Le a c)
    (fr : (Nat → Value) → Act) (vals : Nat → Value) (ha : a = fr vals)
    (hput : ∀ i o, ops[i]? = some o → ∀ vals v, (fr vals).put o.dst v = fr (fun j => if j = i then v else vals j))
    (U : Nat → Value → World → Prop) (V : Nat → Value → World → Prop) (hdown : edgesDown ops = true) (hU : ∀ i, i < ops.size → U i (vals i) w.drew)
    (step : ∀ i o, ops[i]? = some o → RelStepV P ops Q Le fr U V w.drew i o)
    (fin : ∀ vals w', Le w.drew w' → (∀ i, i < ops.size → V i (vals i) w') → Q .normal (fr vals) w') : (Code.region id ops true).wp P Q a w := by
  refine wp_region_any hm ?_
  subst ha
  have hfalse : ∀ i, i < ops.size → ¬ (Array.replicate ops.size false).getD i true = true := by
    intro i hi h
    simp [Array.getD, hi] at h
  refine wpAny_relV (U := U) htrans hput hdown step fin _ _ vals _ (by simp) ?_ ⟨hrefl _, ?_, ?_, ?_⟩
  · simp
  · intro i hi hl
    exact absurd hl (hfalse i hi)
  · intro i hi _
    exact hU i hi
  · intro i o ho hl
    exact absurd hl (hfalse i (Array.getElem?_eq_some_iff.1 ho).1)

/-- One operation, from a frame: what stands behind it is a variable. -/
def RelOpV (P : Program) (ops : Array Oper) (Q : Exit → Act → World → Prop) (Le : World → World → Prop) (U : Nat → Value → World → Prop) (V : Nat → Value → World → Prop) (w0 : World) (a : Act) (vals : Nat → Value) (i : Nat) (o : Oper) : Prop :=
  ∀ (w : World), Le w0 w → (∀ e ∈ o.after.toList, Region.binds .any e = true → V e.on (vals e.on) w) → U i (vals i) w → (∀ j, waits ops j i = true → U j (vals j) w) →
    ∀ K : Act → World → Prop, (∀ v w', Le w w' → V i v w' → (∀ j u, j ≠ i → U j u w → U j u w') → (∀ j u, j ≠ i → waits ops j i = false → V j u w → V j u w') → K (a.put o.dst v) w') →
    if Region.wanted o (yielded ops a.tmps) = true then o.wp P a w K Q else K (a.put o.dst undef) w

/-- THE REGION AS THE WALK WANTS IT: the operations written out, their slots 'ds'; what holds ahead of each ('U'), what each leaves ('V'); each operation, from whatever values the earlier ones left. -/
theorem wp_region_toldV {id : Nat} {l : List Oper} {a : Act} {w : World} (hm : P.follows .mixedOrders = true) (Le : World → World → Prop) (hrefl : ∀ w, Le w w) (htrans : ∀ a b c, Le a b → Le b c → Le a c)
    (ds : List (Option Nat)) (hds : l.map (·.dst) = ds) (hnd : noTwice ds = true) (hlt : ∀ d, some d ∈ ds → d < a.tmps.size)
    (U : Nat → Value → World → Prop) (V : Nat → Value → World → Prop) (hdown : edgesDown l.toArray = true) (hU : ∀ i, i < l.length → U i (((ds[i]?.bind fun x => x).bind (a.tmps[·]?)).getD undef) w.drew)
    (step : ∀ vals : Nat → Value, AllOps (RelOpV P l.toArray Q Le U V w.drew (frOfU a ds vals) vals) l 0)
    (fin : ∀ vals w', Le w.drew w' → (∀ i, i < l.length → V i (vals i) w') → Q .normal (frOfU a ds vals) w') : (Code.region id l.toArray true).wp P Q a w := by
  have hdst : ∀ (i : Nat) (o : Oper), l[i]? = some o → ds[i]? = some o.dst := by
    intro i o ho
    rw [← hds]
    simp [ho]
  refine wp_region_relV hm Le hrefl htrans (frOfU a ds) (fun j => ((ds[j]?.bind fun x => x).bind (a.tmps[·]?)).getD undef) ?_ ?_ U V hdown (by simpa using hU) ?_ (by simpa using fin)
  · unfold frOfU
    have : fillU (fun j => ((ds[j]?.bind fun x => x).bind (a.tmps[·]?)).getD undef) ds 0 a.tmps = a.tmps := by
      apply Array.ext_getElem?
      intro x
      by_cases hx : some x ∈ ds
      · obtain ⟨j, hj, hjx⟩ := List.getElem_of_mem hx
        have hd : ds[j]? = some (some x) := by rw [List.getElem?_eq_getElem hj, hjx]
        rw [fillU_at _ ds 0 a.tmps hnd hlt j _ hd, Nat.zero_add, hd]
        have hb := hlt x hx
        simp [Array.getElem?_eq_getElem hb]
      · exact fillU_other _ _ _ _ _ hx
    rw [this]
  · intro i o ho vals v
    have h1 := hdst i o (by simpa using ho)
    unfold frOfU Act.put
    cases h2 : o.dst with
    | none =>
      rw [h2] at h1
      simp only
      congr 1
      apply Array.ext_getElem?
      intro x
      by_cases hx : some x ∈ ds
      · obtain ⟨j, hj, hjx⟩ := List.getElem_of_mem hx
        have hd : ds[j]? = some (some x) := by rw [List.getElem?_eq_getElem hj, hjx]
        rw [fillU_at _ ds 0 a.tmps hnd hlt j _ hd, fillU_at _ ds 0 a.tmps hnd hlt j _ hd, Nat.zero_add]
        have hne : j ≠ i := by
          intro e
          subst e
          rw [h1] at hd
          cases hd
        rw [if_neg hne]
      · rw [fillU_other _ _ _ _ _ hx, fillU_other _ _ _ _ _ hx]
    | some d =>
      rw [h2] at h1
      simp only
      congr 1
      apply Array.ext_getElem?
      intro x
      have hd : d < a.tmps.size := hlt d (List.mem_of_getElem? h1)
      rw [Array.getElem?_setIfInBounds]
      by_cases hx : some x ∈ ds
      · obtain ⟨j, hj, hjx⟩ := List.getElem_of_mem hx
        have hdj : ds[j]? = some (some x) := by rw [List.getElem?_eq_getElem hj, hjx]
        rw [fillU_at _ ds 0 a.tmps hnd hlt j _ hdj, fillU_at _ ds 0 a.tmps hnd hlt j _ hdj, Nat.zero_add]
        by_cases e : j = i
        · subst e
          rw [h1] at hdj
          simp only [Option.some.injEq] at hdj
          rw [if_pos hdj, if_pos (by rw [fillU_size]; exact hdj ▸ hd), if_pos rfl]
        · have hne : d ≠ x := by
            intro e2
            subst e2
            exact e (noTwice_inj hnd hdj h1)
          rw [if_neg hne, if_neg e]
      · have hne : d ≠ x := fun e => hx (e ▸ List.mem_of_getElem? h1)
        rw [if_neg hne, fillU_other _ _ _ _ _ hx, fillU_other _ _ _ _ _ hx]
  · intro i o ho vals w' hle he hu hw K hK
    have := (step vals).get i o (by simpa using ho)
    rw [Nat.zero_add] at this
    exact this w' hle he hu hw K hK

end
end Go.Proofs.Ythokfmmbiilllaa

/-
  A region that draws its order, whose operations are of two sorts: the free ones (each yields one value and changes nothing), and those of a chain (each waits for the one ahead of it), of which it is said what holds when so many are carried out.
-/
namespace Go.Proofs.Ythokfmmbiilllaa
open Go.RowKit

/-- An operation is free (and yields this value), or a link of the chain (and yields this value, if it is said). -/
inductive OpSort where
  | free (v : Value)
  | link (v : Option Value)

def OpSort.val : OpSort → Option Value
  | .free v => some v
  | .link v => v

def OpSort.isLink : OpSort → Bool
  | .free _ => false
  | .link _ => true

section
variable {P : Program} {ops : Array Oper} {Q : Exit → Act → World → Prop}

/-- What the walk keeps: so many of the chain are carried out, and what holds then; the free ones that are carried out have their values. -/
structure RelInvC (ops : Array Oper) (chain : List Nat) (S : List Value → World → Prop) (F : Nat → OpSort) (orig : Nat → Value) (listed : Array Bool) (vals : Nat → Value) (w : World) : Prop where
  done : ∃ k, k ≤ chain.length ∧ (∀ m i, chain[m]? = some i → listed.getD i true = decide (m < k)) ∧ S ((chain.take k).map vals) w
  free : ∀ i v, i < ops.size → listed.getD i true = true → (F i).val = some v → vals i = v
  rest : ∀ i, i < ops.size → listed.getD i true = false → vals i = orig i
  closed : ∀ i o, ops[i]? = some o → listed.getD i true = true → ∀ e ∈ o.after, Region.binds .any e = true → listed.getD e.on true = true

/-- One operation of number i, from a frame. -/
def RelOpC (P : Program) (ops : Array Oper) (Q : Exit → Act → World → Prop) (chain : List Nat) (S : List Value → World → Prop) (F : Nat → OpSort) (orig : Nat → Value) (a : Act) (vals : Nat → Value) (i : Nat) (o : Oper) : Prop :=
  ∀ (cvs : List Value) (w : World), S cvs w → (∀ e ∈ o.after.toList, Region.binds .any e = true → ∀ v, (F e.on).val = some v → vals e.on = v) → (∀ j, j < ops.size → waits ops j i = true → vals j = orig j) →
    match F i with
    | .free v => (∀ m j, chain[m]? = some j → waits ops j i = true → cvs.length ≤ m) → ∀ K : Act → World → Prop, K (a.put o.dst v) w →
        if Region.wanted o (yielded ops a.tmps) = true then o.wp P a w K Q else K (a.put o.dst undef) w
    | .link u => (∀ k, chain[k]? = some i → cvs = (chain.take k).map vals) → ∀ K : Act → World → Prop, (∀ v w', (∀ x, u = some x → v = x) → S (cvs ++ [v]) w' → K (a.put o.dst v) w') →
        if Region.wanted o (yielded ops a.tmps) = true then o.wp P a w K Q else K (a.put o.dst undef) w

/-- Is it a chain: those that are not free, each once, each but the first waits for the one ahead? -/
def chainOK (ops : Array Oper) (chain : List Nat) (F : Nat → Bool) : Bool :=
  chain.all (fun i => decide (i < ops.size) && F i) && (List.range ops.size).all (fun i => !F i || chain.contains i) &&
  (List.range (chain.length - 1)).all (fun m => waits ops (chain.getD (m + 1) 0) (chain.getD m 0)) && (List.range chain.length).all (fun m => (List.range chain.length).all fun m' => decide (m = m') || decide (chain.getD m 0 ≠ chain.getD m' 0))

theorem chainOK_in {chain : List Nat} {F : Nat → Bool} (h : chainOK ops chain F = true) {m i : Nat} (hm : chain[m]? = some i) : i < ops.size ∧ F i = true := by
  unfold chainOK at h
  simp only [Bool.and_eq_true, List.all_eq_true] at h
  simpa using h.1.1.1 i (List.mem_of_getElem? hm)

theorem chainOK_all {chain : List Nat} {F : Nat → Bool} (h : chainOK ops chain F = true) {i : Nat} (hi : i < ops.size) (hF : F i = true) : ∃ m : Nat, chain[m]? = some i := by
  unfold chainOK at h
  simp only [Bool.and_eq_true, List.all_eq_true] at h
  have := h.1.1.2 i (List.mem_range.2 hi)
  simp [hF] at this
  exact List.getElem?_of_mem this

theorem chainOK_waits {chain : List Nat} {F : Nat → Bool} (h : chainOK ops chain F = true) {m i j : Nat} (hi : chain[m]? = some i) (hj : chain[m + 1]? = some j) : waits ops j i = true := by
  unfold chainOK at h
  simp only [Bool.and_eq_true, List.all_eq_true] at h
  have hl := (List.getElem?_eq_some_iff.1 hj).1
  have := h.1.2 m (List.mem_range.2 (by omega))
  rw [List.getD_eq_getElem?_getD, List.getD_eq_getElem?_getD, hi, hj] at this
  exact this

theorem chainOK_once {chain : List Nat} {F : Nat → Bool} (h : chainOK ops chain F = true) {m m' i : Nat} (hi : chain[m]? = some i) (hj : chain[m']? = some i) : m = m' := by
  unfold chainOK at h
  simp only [Bool.and_eq_true, List.all_eq_true] at h
  have hl := (List.getElem?_eq_some_iff.1 hi).1
  have hl' := (List.getElem?_eq_some_iff.1 hj).1
  have := h.2 m (List.mem_range.2 hl) m' (List.mem_range.2 hl')
  rw [List.getD_eq_getElem?_getD, List.getD_eq_getElem?_getD, hi, hj] at this
  simpa using this

theorem wpAny_chain {fr : (Nat → Value) → Act}
    (hput : ∀ i o, ops[i]? = some o → ∀ vals v, (fr vals).put o.dst v = fr (fun j => if j = i then v else vals j))
    {chain : List Nat} {S : List Value → World → Prop} {F : Nat → OpSort} {orig : Nat → Value} (hdown : edgesDown ops = true) (hch : chainOK ops chain (fun i => (F i).isLink) = true)
    (step : ∀ i o, ops[i]? = some o → ∀ vals, RelOpC P ops Q chain S F orig (fr vals) vals i o)
    (fin : ∀ vals w, S (chain.map vals) w → (∀ i v, i < ops.size → (F i).val = some v → vals i = v) → Q .normal (fr vals) w) :
    ∀ (fuel : Nat) (listed : Array Bool) (vals : Nat → Value) (w : World), listed.size = ops.size → (listed.toList.filter (! ·)).length = fuel → RelInvC ops chain S F orig listed vals w → wpAny P .any ops Q fuel listed (fr vals) w := by
  have done : ∀ (listed : Array Bool) (vals : Nat → Value) (w : World), listed.size = ops.size → RelInvC ops chain S F orig listed vals w → Region.ready .any ops listed = [] → Q .normal (fr vals) w := by
    intro listed vals w hs hI hr
    have hall : ∀ n i, i < n → i < ops.size → listed.getD i true = true := by
      intro n
      induction n with
      | zero => intro i hi; omega
      | succ n ih =>
        intro i hi hio
        by_cases h : listed.getD i true = true
        · exact h
        · exfalso
          have hno : i ∉ Region.ready .any ops listed := by rw [hr]; exact List.not_mem_nil
          refine hno ?_
          unfold Region.ready
          rw [List.mem_filter]
          refine ⟨List.mem_range.2 hio, ?_⟩
          have ho : ops[i]? = some ops[i] := Array.getElem?_eq_getElem hio
          simp only [Bool.and_eq_true, ho, Option.map_some, Option.getD_some]
          refine ⟨by simpa using h, ?_⟩
          rw [Array.all_eq_true']
          intro e he
          by_cases hb : Region.binds .any e = true
          · have hlt := edgesDown_spec hdown ho he hb
            have h1 := ih e.on (by omega) (by omega)
            have h2 : e.on < listed.size := by omega
            rw [Array.getD_eq_getD_getElem?, Array.getElem?_eq_getElem h2, Option.getD_some] at h1
            simp [h2, h1]
          · simp [hb]
    obtain ⟨k, hk, hl, hS⟩ := hI.done
    have hkl : k = chain.length := by
      rcases Nat.lt_or_ge k chain.length with h | h
      · have h1 := hl k chain[k] (List.getElem?_eq_getElem h)
        have h2 := (chainOK_in hch (List.getElem?_eq_getElem h)).1
        rw [hall (chain[k] + 1) _ (by omega) h2] at h1
        simp at h1
      · omega
    rw [hkl, List.take_length] at hS
    exact fin vals w hS (fun i v hi hv => hI.free i v hi (hall (i + 1) i (by omega) hi) hv)
  intro fuel
  induction fuel with
  | zero =>
    intro listed vals w hs hf hI
    have hr : Region.ready .any ops listed = [] := by
      unfold Region.ready
      rw [List.filter_eq_nil_iff]
      intro i hi
      have hio := List.mem_range.1 hi
      have h0 : listed.toList.filter (! ·) = [] := List.eq_nil_of_length_eq_zero hf
      rw [List.filter_eq_nil_iff] at h0
      have hl : i < listed.size := by omega
      have h1 := h0 listed[i] (by simp)
      simp at h1
      simp [Array.getD, hl, h1]
    exact ⟨hr, done listed vals w hs hI hr⟩
  | succ fuel ih =>
    intro listed vals w hs hf hI
    refine ⟨fun hr => done listed vals w hs hI hr, ?_⟩
    intro i hi
    unfold Region.ready at hi
    rw [List.mem_filter] at hi
    obtain ⟨hio, hi2⟩ := hi
    have hio := List.mem_range.1 hio
    have ho : ops[i]? = some ops[i] := Array.getElem?_eq_getElem hio
    simp only [Bool.and_eq_true, ho, Option.map_some, Option.getD_some] at hi2
    obtain ⟨hn, ha⟩ := hi2
    have hil : i < listed.size := by omega
    have hnl : listed[i] = false := by simpa [Array.getD, hil] using hn
    have hni : listed.getD i true = false := by rw [Array.getD_eq_getD_getElem?, Array.getElem?_eq_getElem hil, hnl]; rfl
    have hcount : ((listed.setIfInBounds i true).toList.filter (! ·)).length = fuel := by
      have e : (listed.setIfInBounds i true).toList = listed.toList.set i true := by simp
      rw [e]
      have hd : listed.toList = listed.toList.take i ++ listed[i] :: listed.toList.drop (i + 1) := by
        have hl' : i < listed.toList.length := by simpa using hil
        have := (List.take_append_drop i listed.toList).symm
        rw [List.drop_eq_getElem_cons hl'] at this
        simpa using this
      have hset : listed.toList.set i true = listed.toList.take i ++ true :: listed.toList.drop (i + 1) := by
        rw [List.set_eq_take_append_cons_drop, if_pos (by simpa using hil)]
      rw [hset]
      rw [hd, hnl] at hf
      simp at hf ⊢
      omega
    have hnd : ∀ e ∈ ops[i].after, Region.binds .any e = true → listed.getD e.on true = true := by
      intro e he hb
      rw [Array.all_eq_true'] at ha
      have h1 := ha e he
      simp [hb] at h1
      have hlt := edgesDown_spec hdown ho he hb
      have h2 : e.on < listed.size := by omega
      simpa [Array.getD, h2] using h1
    have hwt : ∀ j, j < ops.size → waits ops j i = true → listed.getD j true = false := by
      intro j hjs hw
      unfold waits at hw
      have hjo : ops[j]? = some ops[j] := Array.getElem?_eq_getElem hjs
      rw [hjo] at hw
      simp only [Array.any_eq_true', Bool.and_eq_true, decide_eq_true_eq] at hw
      obtain ⟨e, he, hb, hei⟩ := hw
      cases hlj : listed.getD j true with
      | false => rfl
      | true =>
        have := hI.closed j _ hjo hlj e he hb
        rw [hei, hni] at this
        cases this
    obtain ⟨k, hk, hl, hS⟩ := hI.done
    have hnext : ∀ v w', (∃ k', k' ≤ chain.length ∧ (∀ m j, chain[m]? = some j → (if j = i then true else listed.getD j true) = decide (m < k')) ∧ S ((chain.take k').map (fun j => if j = i then v else vals j)) w') → (∀ u, (F i).val = some u → v = u) →
        wpAny P .any ops Q fuel (listed.setIfInBounds i true) ((fr vals).put ops[i].dst v) w' := by
      intro v w' hd hu
      rw [hput i _ ho]
      refine ih _ _ _ (by simpa using hs) hcount ⟨?_, ?_, ?_, ?_⟩
      · obtain ⟨k', h1, h2, h3⟩ := hd
        exact ⟨k', h1, fun m j hj => by rw [getD_set _ _ _ hil]; exact h2 m j hj, h3⟩
      · intro j u hj hlj hF
        rw [getD_set _ _ _ hil] at hlj
        by_cases hji : j = i
        · subst hji; simpa using hu u hF
        · rw [if_neg hji] at hlj
          simp only [if_neg hji]
          exact hI.free j u hj hlj hF
      · intro j hj hlj
        rw [getD_set _ _ _ hil] at hlj
        by_cases hji : j = i
        · rw [if_pos hji] at hlj; cases hlj
        · rw [if_neg hji] at hlj
          simp only [if_neg hji]
          exact hI.rest j hj hlj
      · intro j o hjo hlj e he hb
        rw [getD_set _ _ _ hil] at hlj ⊢
        by_cases hei : e.on = i
        · rw [if_pos hei]
        · rw [if_neg hei]
          by_cases hji : j = i
          · subst hji
            rw [ho] at hjo
            cases hjo
            exact hnd e he hb
          · rw [if_neg hji] at hlj
            exact hI.closed j o hjo hlj e he hb
    have hst := step i _ ho vals _ w hS (by
      intro e he hb v hv
      have hlt := edgesDown_spec hdown ho (by simpa using he) hb
      exact hI.free e.on v (by omega) (hnd e (by simpa using he) hb) hv) (fun j hjs hw => hI.rest j hjs (hwt j hjs hw))
    have hkey : if Region.wanted ops[i] (yielded ops (fr vals).tmps) = true then ops[i].wp P (fr vals) w (fun a' w' => wpAny P .any ops Q fuel (listed.setIfInBounds i true) a' w') Q else wpAny P .any ops Q fuel (listed.setIfInBounds i true) ((fr vals).put ops[i].dst undef) w := by
      cases hF : F i with
      | free v =>
        simp only [hF] at hst
        have hnin : ∀ (m j : Nat), chain[m]? = some j → j ≠ i := by
          intro m j hj e
          have := (chainOK_in hch hj).2
          rw [e, hF] at this
          cases this
        refine hst ?_ _ (hnext v w ⟨k, hk, ?_, ?_⟩ ?_)
        · intro m j hj hw
          have h1 := hl m j hj
          rw [hwt j (chainOK_in hch hj).1 hw] at h1
          have : ¬ m < k := by simpa using h1.symm
          rw [List.length_map, List.length_take]
          omega
        · intro m j hj
          rw [if_neg (hnin m j hj)]
          exact hl m j hj
        · have : (chain.take k).map (fun j => if j = i then v else vals j) = (chain.take k).map vals := by
            refine List.map_congr_left fun j hj => ?_
            obtain ⟨m, hm⟩ := List.getElem?_of_mem (List.mem_of_mem_take hj)
            rw [if_neg (hnin m j hm)]
          rw [this]
          exact hS
        · intro u hu
          rw [hF] at hu
          simpa [OpSort.val] using hu
      | link u =>
        simp only [hF] at hst
        obtain ⟨m, hm⟩ := chainOK_all (F := fun i => (F i).isLink) hch hio (by rw [hF]; rfl)
        have hmk : ¬ m < k := by
          have h1 := hl m i hm
          rw [hni] at h1
          simpa using h1.symm
        obtain rfl : m = k := by
          cases m with
          | zero => omega
          | succ m =>
            have hml : m < chain.length := by have := (List.getElem?_eq_some_iff.1 hm).1; omega
            have h0 := List.getElem?_eq_getElem hml
            have hw := chainOK_waits hch h0 hm
            unfold waits at hw
            rw [ho] at hw
            simp only [Array.any_eq_true', Bool.and_eq_true, decide_eq_true_eq] at hw
            obtain ⟨e, he, hb, hei⟩ := hw
            have h1 := hnd e he hb
            rw [hei, hl m _ h0] at h1
            have : m < k := by simpa using h1
            omega
        refine hst ?_ _ (fun v w' hv' hS' => hnext v w' ⟨m + 1, (List.getElem?_eq_some_iff.1 hm).1, ?_, ?_⟩ ?_)
        · intro m' hm'
          rw [chainOK_once hch hm' hm]
        · intro m' j hj
          by_cases hji : j = i
          · subst hji
            rw [if_pos rfl, chainOK_once hch hj hm]
            simp
          · rw [if_neg hji, hl m' j hj]
            have hne : m' ≠ m := fun e => by rw [e, hm] at hj; cases hj; exact hji rfl
            simp only [decide_eq_decide]
            omega
        · have e1 : chain.take (m + 1) = chain.take m ++ [i] := by rw [List.take_add_one, hm]; rfl
          rw [e1, List.map_append, List.map_singleton, if_pos rfl]
          have : (chain.take m).map (fun j => if j = i then v else vals j) = (chain.take m).map vals := by
            refine List.map_congr_left fun j hj => ?_
            obtain ⟨m', hm'⟩ := List.getElem?_of_mem hj
            have h2 := (List.getElem?_eq_some_iff.1 hm').1
            rw [List.length_take] at h2
            rw [List.getElem?_take, if_pos (by omega)] at hm'
            rw [if_neg]
            intro e
            subst e
            have := chainOK_once hch hm' hm
            omega
          rw [this]
          exact hS'
        · intro u' hu
          rw [hF] at hu
          exact hv' u' (by simpa [OpSort.val] using hu)
    unfold wpOp
    simp only [ho]
    split
    · rename_i hw
      rw [if_pos hw] at hkey
      exact .inl hkey
    · rename_i hw
      rw [if_neg hw] at hkey
      exact hkey

/-- THE REGION: the operations written out, their slots 'ds', the chain, what holds when so many of it are carried out ('S', over their values), the free ones' values ('FL'). -/
theorem wp_region_chain {id : Nat} {l : List Oper} {a : Act} {w : World} (hm : P.follows .mixedOrders = true)
    (ds : List (Option Nat)) (hds : l.map (·.dst) = ds) (hnd : noTwice ds = true) (hlt : ∀ d, some d ∈ ds → d < a.tmps.size)
    (chain : List Nat) (S : List Value → World → Prop) (FL : List OpSort) (hdown : edgesDown l.toArray = true) (hch : chainOK l.toArray chain (fun i => (FL.getD i (.link none)).isLink) = true)
    (h0 : S [] w.drew)
    (step : ∀ vals : Nat → Value, AllOps (RelOpC P l.toArray Q chain S (fun i => FL.getD i (.link none)) (fun i => ((ds[i]?.bind fun x => x).bind (a.tmps[·]?)).getD undef) (frOfU a ds vals) vals) l 0)
    (fin : ∀ vals w', S (chain.map vals) w' → (∀ i v, i < l.length → (FL.getD i (.link none)).val = some v → vals i = v) → Q .normal (frOfU a ds vals) w') : (Code.region id l.toArray true).wp P Q a w := by
  have hdst : ∀ (i : Nat) (o : Oper), l[i]? = some o → ds[i]? = some o.dst := by
    intro i o ho
    rw [← hds]
    simp [ho]
  refine wp_region_any hm ?_
  have ha : a = frOfU a ds (fun i => ((ds[i]?.bind fun x => x).bind (a.tmps[·]?)).getD undef) := by
    unfold frOfU
    have : fillU (fun j => ((ds[j]?.bind fun x => x).bind (a.tmps[·]?)).getD undef) ds 0 a.tmps = a.tmps := by
      apply Array.ext_getElem?
      intro x
      by_cases hx : some x ∈ ds
      · obtain ⟨j, hj, hjx⟩ := List.getElem_of_mem hx
        have hd : ds[j]? = some (some x) := by rw [List.getElem?_eq_getElem hj, hjx]
        rw [fillU_at _ ds 0 a.tmps hnd hlt j _ hd, Nat.zero_add, hd]
        have hb := hlt x hx
        simp [Array.getElem?_eq_getElem hb]
      · exact fillU_other _ _ _ _ _ hx
    rw [this]
  have hput : ∀ i o, l.toArray[i]? = some o → ∀ vals v, (frOfU a ds vals).put o.dst v = frOfU a ds (fun j => if j = i then v else vals j) := by
    intro i o ho vals v
    have h1 := hdst i o (by simpa using ho)
    unfold frOfU Act.put
    cases h2 : o.dst with
    | none =>
      rw [h2] at h1
      simp only
      congr 1
      apply Array.ext_getElem?
      intro x
      by_cases hx : some x ∈ ds
      · obtain ⟨j, hj, hjx⟩ := List.getElem_of_mem hx
        have hd : ds[j]? = some (some x) := by rw [List.getElem?_eq_getElem hj, hjx]
        rw [fillU_at _ ds 0 a.tmps hnd hlt j _ hd, fillU_at _ ds 0 a.tmps hnd hlt j _ hd, Nat.zero_add]
        have hne : j ≠ i := by
          intro e
          subst e
          rw [h1] at hd
          cases hd
        rw [if_neg hne]
      · rw [fillU_other _ _ _ _ _ hx, fillU_other _ _ _ _ _ hx]
    | some d =>
      rw [h2] at h1
      simp only
      congr 1
      apply Array.ext_getElem?
      intro x
      have hd : d < a.tmps.size := hlt d (List.mem_of_getElem? h1)
      rw [Array.getElem?_setIfInBounds]
      by_cases hx : some x ∈ ds
      · obtain ⟨j, hj, hjx⟩ := List.getElem_of_mem hx
        have hdj : ds[j]? = some (some x) := by rw [List.getElem?_eq_getElem hj, hjx]
        rw [fillU_at _ ds 0 a.tmps hnd hlt j _ hdj, fillU_at _ ds 0 a.tmps hnd hlt j _ hdj, Nat.zero_add]
        by_cases e : j = i
        · subst e
          rw [h1] at hdj
          simp only [Option.some.injEq] at hdj
          rw [if_pos hdj, if_pos (by rw [fillU_size]; exact hdj ▸ hd), if_pos rfl]
        · have hne : d ≠ x := by
            intro e2
            subst e2
            exact e (noTwice_inj hnd hdj h1)
          rw [if_neg hne, if_neg e]
      · have hne : d ≠ x := fun e => hx (e ▸ List.mem_of_getElem? h1)
        rw [if_neg hne, fillU_other _ _ _ _ _ hx, fillU_other _ _ _ _ _ hx]
  have hfalse : ∀ i, i < l.toArray.size → ¬ (Array.replicate l.toArray.size false).getD i true = true := by
    intro i hi h
    have hi' : i < l.length := by simpa using hi
    simp [Array.getD, hi'] at h
  have hmain := wpAny_chain (P := P) (ops := l.toArray) (Q := Q) (fr := frOfU a ds) hput (chain := chain) (S := S) (F := fun i => FL.getD i (.link none)) (orig := fun i => ((ds[i]?.bind fun x => x).bind (a.tmps[·]?)).getD undef) hdown hch (by
      intro i o ho vals
      have := (step vals).get i o (by simpa using ho)
      rw [Nat.zero_add] at this
      exact this) (fun vals w h1 h2 => fin vals w h1 (fun i v hi => h2 i v (by simpa using hi))) l.toArray.size (Array.replicate l.toArray.size false) (fun i => ((ds[i]?.bind fun x => x).bind (a.tmps[·]?)).getD undef) w.drew (by simp) (by simp) ⟨?_, ?_, ?_, ?_⟩
  · rw [← ha] at hmain
    exact hmain
  · refine ⟨0, Nat.zero_le _, fun m i hi => ?_, by simpa using h0⟩
    have h1 := hfalse i (chainOK_in hch hi).1
    simpa using h1
  · intro i v hi hl
    exact absurd hl (hfalse i hi)
  · intro i _ _
    rfl
  · intro i o ho hl
    exact absurd hl (hfalse i (Array.getElem?_eq_some_iff.1 ho).1)

end
end Go.Proofs.Ythokfmmbiilllaa

/-
  The model's float64, as words: what a word is read as, and that what is read is written as the same word; the order of two words is that of two whole numbers. Pure: it speaks of no program.
-/
namespace Go.Proofs.Ythokfmmbiilllaa
namespace Fl
open Ieee

theorem sw_eq : double.signWeight = 9223372036854775808 := by decide +kernel
theorem bin_eq : double.binade = 4503599627370496 := by decide +kernel
theorem inf_eq : double.infRung = 9218868437227405312 := by decide +kernel
theorem least_eq : double.leastPlace = -1074 := by decide +kernel
theorem frac_eq : double.fractionBits = 52 := rfl

def mag (r : Nat) : Nat := if r < 4503599627370496 then r else 4503599627370496 + r % 4503599627370496
def ex (r : Nat) : Nat := if r < 4503599627370496 then 0 else r / 4503599627370496 - 1
def V (r : Nat) : Nat := mag r * 2 ^ ex r
def neg (b : Nat) : Bool := b / 9223372036854775808 % 2 == 1
def rung (b : Nat) : Nat := b % 9223372036854775808
def isNaN (b : Nat) : Bool := decide (9218868437227405312 < rung b)
/-- A word as a whole number: the rung with the sign. -/
def key (b : Nat) : Int := if neg b then -(rung b : Int) else rung b

theorem rung_lt (b : Nat) : rung b < 9223372036854775808 := Nat.mod_lt _ (by decide)

theorem nan_iff {b : Nat} : isNaN b = true ↔ 9218868437227405312 < rung b := by simp [isNaN]
theorem not_nan_iff {b : Nat} : isNaN b = false ↔ rung b ≤ 9218868437227405312 := by simp [isNaN]

theorem read_num {b : Nat} (h : rung b < 9218868437227405312) : double.read b = .number (neg b) (mag (rung b)) (-1074 + (ex (rung b) : Int)) := by
  have h' : b % 9223372036854775808 < 9218868437227405312 := h
  unfold Format.read
  simp only [sw_eq, bin_eq, inf_eq, least_eq, rung, neg, mag, ex]
  by_cases hs : b % 9223372036854775808 < 4503599627370496
  · simp [hs]
  · simp [hs, h']

theorem read_inf {b : Nat} (h : rung b = 9218868437227405312) : double.read b = .infinity (neg b) := by
  have h' : b % 9223372036854775808 = 9218868437227405312 := h
  unfold Format.read
  simp only [sw_eq, bin_eq, inf_eq, neg, h']
  simp

theorem read_nan {b : Nat} (h : isNaN b = true) : double.read b = .nan (neg b) (rung b - 9218868437227405312) := by
  have h' : 9218868437227405312 < b % 9223372036854775808 := nan_iff.1 h
  have h1 : ¬ b % 9223372036854775808 < 4503599627370496 := by omega
  have h2 : ¬ b % 9223372036854775808 < 9218868437227405312 := by omega
  have h3 : ¬ b % 9223372036854775808 = 9218868437227405312 := by omega
  unfold Format.read
  simp only [sw_eq, bin_eq, inf_eq, neg, rung]
  rw [if_neg h1, if_neg h2, if_neg h3]

/-- A word is told by its sign and its rung. -/
theorem word_of (b : Nat) (hb : b < 18446744073709551616) : double.word (neg b) (rung b) = b := by
  unfold Format.word neg rung
  rw [sw_eq]
  by_cases h : b / 9223372036854775808 % 2 = 1
  · simp only [h, beq_self_eq_true, if_true]; omega
  · have h0 : (b / 9223372036854775808 % 2 == 1) = false := by simpa using h
    simp only [h0]; simp only [Bool.false_eq_true, if_false]; omega

theorem neg_word (s : Bool) (r : Nat) (h : r < 9223372036854775808) : neg (double.word s r) = s := by
  unfold neg Format.word
  rw [sw_eq]
  cases s
  · simp; omega
  · simp; omega
theorem rung_word (s : Bool) (r : Nat) (h : r < 9223372036854775808) : rung (double.word s r) = r := by
  unfold rung Format.word
  rw [sw_eq]
  cases s
  · simp; omega
  · simp; omega
theorem word_lt (s : Bool) (r : Nat) (h : r < 9223372036854775808) : double.word s r < 18446744073709551616 := by
  unfold Format.word
  rw [sw_eq]
  split <;> omega

theorem same_word {a b : Nat} (ha : a < 18446744073709551616) (hb : b < 18446744073709551616) (hn : neg a = neg b) (hr : rung a = rung b) : a = b := by
  rw [← word_of a ha, ← word_of b hb, hn, hr]

theorem mag_ex (r : Nat) : r = ex r * 4503599627370496 + mag r := by
  unfold ex mag
  split <;> omega

theorem mag_zero {r : Nat} : mag r = 0 ↔ r = 0 := by
  unfold mag
  split <;> omega

theorem mag_lt (r : Nat) : mag r < 9007199254740992 := by
  unfold mag
  split <;> omega

theorem mag_ge {r : Nat} (h : 0 < ex r) : 4503599627370496 ≤ mag r := by
  unfold ex at h
  unfold mag
  split at h
  · omega
  · rename_i h'; rw [if_neg h']; omega

theorem V_succ (r : Nat) : V r < V (r + 1) := by
  unfold V
  by_cases h1 : r + 1 < 4503599627370496
  · simp [mag, ex, h1, show r < 4503599627370496 by omega]
  · by_cases h2 : r + 1 = 4503599627370496
    · obtain rfl : r = 4503599627370495 := by omega
      decide +kernel
    · have e0 : mag r = 4503599627370496 + r % 4503599627370496 := by unfold mag; rw [if_neg (by omega)]
      have e1 : mag (r + 1) = 4503599627370496 + (r + 1) % 4503599627370496 := by unfold mag; rw [if_neg (by omega)]
      have x0 : ex r = r / 4503599627370496 - 1 := by unfold ex; rw [if_neg (by omega)]
      have x1 : ex (r + 1) = (r + 1) / 4503599627370496 - 1 := by unfold ex; rw [if_neg (by omega)]
      by_cases h3 : r % 4503599627370496 + 1 = 4503599627370496
      · have x2 : ex (r + 1) = ex r + 1 := by omega
        have m1 : mag (r + 1) = 4503599627370496 := by omega
        have m0 : mag r = 9007199254740991 := by omega
        rw [x2, m1, m0, Nat.pow_succ]
        have : 0 < 2 ^ ex r := Nat.two_pow_pos _
        omega
      · have x2 : ex (r + 1) = ex r := by omega
        have m1 : mag (r + 1) = mag r + 1 := by omega
        rw [x2, m1, Nat.add_mul]
        have : 0 < 2 ^ ex r := Nat.two_pow_pos _
        omega

theorem V_lt {a b : Nat} (h : a < b) : V a < V b := by
  induction b with
  | zero => omega
  | succ n ih =>
    have := V_succ n
    by_cases e : a = n
    · subst e; exact this
    · have := ih (by omega); omega

theorem V_lt_iff {a b : Nat} : V a < V b ↔ a < b := by
  refine ⟨fun h => ?_, V_lt⟩
  rcases Nat.lt_trichotomy a b with h' | h' | h'
  · exact h'
  · subst h'; omega
  · have := V_lt h'; omega

theorem V_zero : V 0 = 0 := by decide +kernel
theorem V_pos {r : Nat} : V r = 0 ↔ r = 0 := by
  refine ⟨fun h => ?_, fun h => by subst h; exact V_zero⟩
  rcases Nat.eq_zero_or_pos r with h' | h'
  · exact h'
  · have := V_lt h'; rw [V_zero] at this; omega

theorem signed_eq (s : Bool) (m u : Nat) : signed s m u = if s then -((m * 2 ^ u : Nat) : Int) else ((m * 2 ^ u : Nat) : Int) := by
  unfold signed
  rw [Nat.shiftLeft_eq]

theorem compare_int (x y x' y' : Int) (h : x < y ↔ x' < y') (h' : y < x ↔ y' < x') : compare x y = compare x' y' := by
  show compareOfLessAndEq x y = compareOfLessAndEq x' y'
  unfold compareOfLessAndEq
  by_cases h1 : x < y
  · rw [if_pos h1, if_pos (h.1 h1)]
  · rw [if_neg h1, if_neg (fun q => h1 (h.2 q))]
    by_cases h2 : x = y
    · rw [if_pos h2, if_pos (by omega)]
    · rw [if_neg h2, if_neg (by omega)]

theorem order_nan {a b : Nat} (h : isNaN a = true ∨ isNaN b = true) : double.order a b = none := by
  unfold Format.order
  rcases h with h | h
  · rw [read_nan h]; rfl
  · rw [read_nan h]; cases double.read a <;> rfl

theorem order_num_num (s t : Bool) (m n : Nat) (i j : Int) : (Datum.number s m i).order (.number t n j) = some (compare (signed s m (i - min i j).toNat) (signed t n (j - min i j).toNat)) := rfl

theorem order_finite {a b : Nat} (ha : rung a < 9218868437227405312) (hb : rung b < 9218868437227405312) : double.order a b = some (compare (key a) (key b)) := by
  unfold Format.order
  rw [read_num ha, read_num hb, order_num_num]
  generalize hra : rung a = ra at *
  generalize hrb : rung b = rb at *
  congr 1
  have hd : ∃ d : Nat, d ≤ ex ra ∧ d ≤ ex rb ∧ (-1074 + (ex ra : Int) - min (-1074 + (ex ra : Int)) (-1074 + (ex rb : Int))).toNat = ex ra - d ∧ (-1074 + (ex rb : Int) - min (-1074 + (ex ra : Int)) (-1074 + (ex rb : Int))).toNat = ex rb - d :=
    ⟨min (ex ra) (ex rb), by omega, by omega, by omega, by omega⟩
  obtain ⟨d, h1, h2, e1, e2⟩ := hd
  rw [e1, e2, signed_eq, signed_eq]
  have v1 : V ra = mag ra * 2 ^ (ex ra - d) * 2 ^ d := by
    unfold V; rw [Nat.mul_assoc, ← Nat.pow_add, Nat.sub_add_cancel h1]
  have v2 : V rb = mag rb * 2 ^ (ex rb - d) * 2 ^ d := by
    unfold V; rw [Nat.mul_assoc, ← Nat.pow_add, Nat.sub_add_cancel h2]
  generalize mag ra * 2 ^ (ex ra - d) = X at *
  generalize mag rb * 2 ^ (ex rb - d) = Y at *
  have hp : 0 < 2 ^ d := Nat.two_pow_pos _
  have c1 : X < Y ↔ ra < rb := by rw [← @V_lt_iff ra rb, v1, v2]; exact (Nat.mul_lt_mul_right hp).symm
  have c2 : Y < X ↔ rb < ra := by rw [← @V_lt_iff rb ra, v1, v2]; exact (Nat.mul_lt_mul_right hp).symm
  have z1 : X = 0 ↔ ra = 0 := by
    rw [← @V_pos ra, v1, Nat.mul_eq_zero]; constructor
    · exact Or.inl
    · rintro (h | h); exact h; omega
  have z2 : Y = 0 ↔ rb = 0 := by
    rw [← @V_pos rb, v2, Nat.mul_eq_zero]; constructor
    · exact Or.inl
    · rintro (h | h); exact h; omega
  unfold key
  rw [hra, hrb]
  refine compare_int _ _ _ _ ?_ ?_ <;> cases neg a <;> cases neg b <;> simp only [if_true, if_false, Bool.false_eq_true] <;> omega

theorem order_num {a b : Nat} (ha : isNaN a = false) (hb : isNaN b = false) : double.order a b = some (compare (key a) (key b)) := by
  have ha' := not_nan_iff.1 ha
  have hb' := not_nan_iff.1 hb
  by_cases h1 : rung a = 9218868437227405312
  · by_cases h2 : rung b = 9218868437227405312
    · unfold Format.order
      rw [read_inf h1, read_inf h2]
      unfold key
      rw [h1, h2]
      cases neg a <;> cases neg b <;> rfl
    · have h2' : rung b < 9218868437227405312 := by omega
      unfold Format.order
      rw [read_inf h1, read_num h2']
      show some (if neg a then Ordering.lt else .gt) = _
      congr 1
      unfold key
      rw [h1]
      show _ = compareOfLessAndEq _ _
      unfold compareOfLessAndEq
      cases neg a <;> cases neg b <;> simp only [if_true, if_false, Bool.false_eq_true]
      · rw [if_neg (by omega), if_neg (by omega)]
      · rw [if_neg (by omega), if_neg (by omega)]
      · rw [if_pos (by omega)]
      · rw [if_pos (by omega)]
  · have h1' : rung a < 9218868437227405312 := by omega
    by_cases h2 : rung b = 9218868437227405312
    · unfold Format.order
      rw [read_num h1', read_inf h2]
      show some (if neg b then Ordering.gt else .lt) = _
      congr 1
      unfold key
      rw [h2]
      show _ = compareOfLessAndEq _ _
      unfold compareOfLessAndEq
      cases neg a <;> cases neg b <;> simp only [if_true, if_false, Bool.false_eq_true]
      · rw [if_pos (by omega)]
      · rw [if_neg (by omega), if_neg (by omega)]
      · rw [if_pos (by omega)]
      · rw [if_neg (by omega), if_neg (by omega)]
    · exact order_finite h1' (by omega)

theorem compare_lt {x y : Int} : (some (compare x y) == some Ordering.lt) = decide (x < y) := by
  show (some (compareOfLessAndEq x y) == _) = _
  unfold compareOfLessAndEq
  by_cases h : x < y
  · simp [h]
  · by_cases h' : x = y <;> simp [h, h']
theorem compare_eq {x y : Int} : (some (compare x y) == some Ordering.eq) = decide (x = y) := by
  show (some (compareOfLessAndEq x y) == _) = _
  unfold compareOfLessAndEq
  by_cases h : x < y
  · have : ¬ x = y := by omega
    simp [h, this]
  · by_cases h' : x = y <;> simp [h, h']
theorem compare_gt {x y : Int} : (some (compare x y) == some Ordering.gt) = decide (y < x) := by
  show (some (compareOfLessAndEq x y) == _) = _
  unfold compareOfLessAndEq
  by_cases h : x < y
  · have : ¬ y < x := by omega
    simp [h, this]
  · by_cases h' : x = y
    · subst h'; simp
    · have : y < x := by omega
      simp [h, h', this]

/-- 'x != x': just a NaN. -/
theorem self_ne (b : Nat) : (double.order b b != some .eq) = isNaN b := by
  cases h : isNaN b
  · rw [order_num h h]
    show (!_) = _
    rw [compare_eq]; simp
  · rw [order_nan (.inl h)]; rfl

theorem log2_mul (m k : Nat) (h0 : m ≠ 0) : (m * 2 ^ k).log2 = m.log2 + k := by
  have h2k : 0 < 2 ^ k := Nat.two_pow_pos _
  have hne : m * 2 ^ k ≠ 0 := Nat.mul_ne_zero h0 (by omega)
  have a1 : 2 ^ m.log2 ≤ m := (Nat.le_log2 h0).1 (Nat.le_refl _)
  have a2 : m < 2 ^ (m.log2 + 1) := (Nat.log2_lt h0).1 (Nat.lt_succ_self _)
  apply Nat.le_antisymm
  · have : (m * 2 ^ k).log2 < m.log2 + 1 + k := by
      rw [Nat.log2_lt hne, Nat.pow_add]
      exact Nat.mul_lt_mul_of_pos_right a2 h2k
    omega
  · rw [Nat.le_log2 hne, Nat.pow_add]
    exact Nat.mul_le_mul_right _ a1

theorem cut_exact (s : Bool) (m k : Nat) (h0 : m ≠ 0) : Toward.even.cut s (m * 2 ^ k) k = m := by
  have h2k : 0 < 2 ^ k := Nat.two_pow_pos _
  unfold Toward.cut
  have g : 1 <<< min k ((m * 2 ^ k).log2 + 2) = 2 ^ k := by
    rw [log2_mul m k h0, Nat.min_eq_left (by omega), Nat.shiftLeft_eq, Nat.one_mul]
  simp only [g]
  rw [Nat.mul_div_cancel _ h2k, Nat.mul_mod_left]
  have e1 : decide (2 ^ k < 2 * 0) = false := by simp
  have e2 : (2 ^ k == 2 * 0) = false := by simp
  simp only [e1, e2]
  rfl

theorem nearest_zero (s : Bool) (place : Int) : double.nearest s 0 place = double.word s 0 := by
  unfold Format.nearest
  rw [if_pos rfl]

theorem nearest_last (s : Bool) (m : Nat) (place last : Int) (h0 : m ≠ 0) (hl : max (place + (m.log2 : Int) - 52) (-1074) = last) :
    double.nearest s m place = double.word s (min ((last + 1074).toNat * 4503599627370496 + Toward.even.cut s (m <<< (place - last).toNat) (last - place).toNat) 9218868437227405312) := by
  unfold Format.nearest
  rw [if_neg h0, bin_eq, inf_eq, least_eq, frac_eq]
  have hl' : max (place + (m.log2 : Int) - ((52 : Nat) : Int)) (-1074) = last := hl
  simp only [hl']
  rw [show last - -1074 = last + 1074 by omega]

/-- What is read is written as the same word: also with 'mag * 2 ^ k' at 'place - k'. -/
theorem nearest_exact (s : Bool) (r k : Nat) (hr : r < 9218868437227405312) (place : Int) (hp : place = -1074 + (ex r : Int) - k) :
    double.nearest s (mag r * 2 ^ k) place = double.word s r := by
  have hme := mag_ex r
  by_cases h0 : mag r = 0
  · have hr0 : r = 0 := mag_zero.1 h0
    rw [h0, Nat.zero_mul, nearest_zero, hr0]
  have h2k : 0 < 2 ^ k := Nat.two_pow_pos _
  have hne : mag r * 2 ^ k ≠ 0 := Nat.mul_ne_zero h0 (by omega)
  have hl52 : (mag r).log2 < 53 := by rw [Nat.log2_lt h0]; exact mag_lt r
  have hge : 0 < ex r → 52 ≤ (mag r).log2 := by
    intro hx
    rw [Nat.le_log2 h0]; exact mag_ge hx
  have hlast : max (place + ((mag r * 2 ^ k).log2 : Int) - 52) (-1074) = -1074 + (ex r : Int) := by
    rw [log2_mul _ k h0, hp]
    omega
  rw [nearest_last s _ place _ hne hlast]
  have t1 : (place - (-1074 + (ex r : Int))).toNat = 0 := by omega
  have t2 : (-1074 + (ex r : Int) - place).toNat = k := by omega
  have t3 : (-1074 + (ex r : Int) + 1074).toNat = ex r := by omega
  rw [t1, t2, t3, Nat.shiftLeft_zero, cut_exact s _ k h0, ← hme, Nat.min_eq_left (by omega)]

end Fl
end Go.Proofs.Ythokfmmbiilllaa

/-
  The model's float64, its operations on words: which sums, products and quotients are what; signs turned; cut to a whole number. Pure: it speaks of no program.
-/
namespace Go.Proofs.Ythokfmmbiilllaa
namespace Fl
open Ieee

/-- The word that real takes for a float. -/
def canon (b : Nat) : Nat := if isNaN b then 9221120237041090560 else b
/-- What real answers for an operation's outcome. -/
def res : Option Nat → Nat
  | some r => canon r
  | none => 9221120237041090560

theorem canon_canon (b : Nat) : canon (canon b) = canon b := by
  unfold canon
  by_cases h : isNaN b = true
  · rw [if_pos h]; rfl
  · rw [if_neg h, if_neg h]
theorem canon_res (o : Option Nat) : canon (res o) = res o := by
  cases o with
  | none => rfl
  | some r => exact canon_canon r
theorem canon_of_not {b : Nat} (h : isNaN b = false) : canon b = b := by unfold canon; rw [h]; rfl
theorem canon_of_nan {b : Nat} (h : isNaN b = true) : canon b = 9221120237041090560 := by unfold canon; rw [h]; rfl
theorem canon_lt {b : Nat} (h : b < 18446744073709551616) : canon b < 18446744073709551616 := by
  unfold canon; split <;> omega
theorem nan_canon (b : Nat) : isNaN (canon b) = isNaN b := by
  unfold canon
  cases h : isNaN b
  · simp [h]
  · rfl

/-- Every NaN that the model may draw is a NaN. -/
theorem drawn_nan (t : Nat) : isNaN (t % 2 * 2 ^ 63 + 9218868437227405312 + 1 + t / 2 % (2 ^ 52 - 1)) = true := by
  rw [nan_iff]
  unfold rung
  show 9218868437227405312 < (t % 2 * 9223372036854775808 + 9218868437227405312 + 1 + t / 2 % 4503599627370495) % 9223372036854775808
  generalize ht : t % 2 = p
  generalize hq : t / 2 % 4503599627370495 = q
  have h1 : p = 0 ∨ p = 1 := by omega
  have h2 : q < 4503599627370495 := by omega
  rcases h1 with rfl | rfl <;> omega
theorem canon_drawn (k : Nat) (x y : Nat) : canon (Question.cut (.nanBits .f64 x y) k) = 9221120237041090560 :=
  canon_of_nan (drawn_nan k)

theorem map_write_lt {o : Option Datum} {r : Nat} (h : o.map double.write = some r) : r < 18446744073709551616 := double.map_write_lt h

theorem res_lt {o : Option Datum} : res (o.map double.write) < 18446744073709551616 := by
  cases h : o.map double.write with
  | none => show 9221120237041090560 < _; omega
  | some r => exact canon_lt (map_write_lt h)

/-- The sign turned. -/
def opp (b : Nat) : Nat := b ^^^ 9223372036854775808

theorem opp_neg (b : Nat) : neg (opp b) = !neg b := by
  have e : ∀ x : Nat, neg x = x.testBit 63 := by
    intro x
    unfold neg
    rw [Nat.testBit_eq_decide_div_mod_eq]
    show _ = decide (x / 9223372036854775808 % 2 = 1)
    by_cases h : x / 9223372036854775808 % 2 = 1 <;> simp [h]
  rw [e, e]
  unfold opp
  rw [Nat.testBit_xor, show Nat.testBit 9223372036854775808 63 = true by decide +kernel]
  simp
theorem opp_rung (b : Nat) : rung (opp b) = rung b := by
  unfold opp rung
  rw [show (9223372036854775808 : Nat) = 2 ^ 63 from rfl, Nat.xor_mod_two_pow, Nat.mod_self, Nat.xor_zero]
theorem opp_lt {b : Nat} (h : b < 18446744073709551616) : opp b < 18446744073709551616 :=
  Nat.xor_lt_two_pow (n := 64) h (by decide)
theorem opp_nan (b : Nat) : isNaN (opp b) = isNaN b := by unfold isNaN; rw [opp_rung]
theorem opp_key (b : Nat) : key (opp b) = -key b := by
  unfold key
  rw [opp_neg, opp_rung]
  cases neg b <;> simp

theorem read_opp (b : Nat) : double.read (opp b) = (double.read b).opposite := by
  cases h : isNaN b
  · have h' := not_nan_iff.1 h
    by_cases hi : rung b = 9218868437227405312
    · rw [read_inf hi, read_inf (by rw [opp_rung]; exact hi), opp_neg]; rfl
    · rw [read_num (b := b) (by omega), read_num (b := opp b) (by rw [opp_rung]; omega), opp_neg, opp_rung]; rfl
  · rw [read_nan h, read_nan (b := opp b) (by rw [opp_nan]; exact h), opp_neg, opp_rung]; rfl

theorem sum_comm (x y : Datum) : x.sum y = y.sum x := by
  cases x with
  | nan s t => cases y <;> rfl
  | infinity s =>
    cases y with
    | nan => rfl
    | infinity t =>
      show (if s = t then some (Datum.infinity s) else none) = if t = s then some (Datum.infinity t) else none
      cases s <;> cases t <;> rfl
    | number => rfl
  | number s m i =>
    cases y with
    | nan => rfl
    | infinity t => rfl
    | number t n j =>
      unfold Datum.sum
      simp only [Int.min_comm j i, Int.add_comm (signed t n _), Bool.and_comm t s]

theorem product_comm (x y : Datum) : x.product y = y.product x := by
  cases x with
  | nan s t => cases y <;> rfl
  | infinity s =>
    cases y with
    | nan => rfl
    | infinity t => show some (Datum.infinity (s ^^ t)) = some (Datum.infinity (t ^^ s)); rw [Bool.xor_comm]
    | number t n j => rfl
  | number s m i =>
    cases y with
    | nan => rfl
    | infinity t => rfl
    | number t n j =>
      show some (Datum.number (s ^^ t) (m * n) (i + j)) = some (Datum.number (t ^^ s) (n * m) (j + i))
      rw [Bool.xor_comm, Nat.mul_comm, Int.add_comm]

theorem product_opp (x y : Datum) : x.opposite.product y = x.product y.opposite := by
  cases x with
  | nan s t => cases y <;> rfl
  | infinity s =>
    cases y with
    | nan => rfl
    | infinity t => show some (Datum.infinity (!s ^^ t)) = some (Datum.infinity (s ^^ !t)); cases s <;> cases t <;> rfl
    | number t n j => show (if n = 0 then none else some (Datum.infinity (!s ^^ t))) = if n = 0 then none else some (Datum.infinity (s ^^ !t)); cases s <;> cases t <;> rfl
  | number s m i =>
    cases y with
    | nan => rfl
    | infinity t => show (if m = 0 then none else some (Datum.infinity (t ^^ !s))) = if m = 0 then none else some (Datum.infinity ((!t) ^^ s)); cases s <;> cases t <;> rfl
    | number t n j => show some (Datum.number (!s ^^ t) (m * n) (i + j)) = some (Datum.number (s ^^ !t) (m * n) (i + j)); cases s <;> cases t <;> rfl

theorem add_comm (a b : Nat) : double.add a b = double.add b a := by unfold Format.add; rw [sum_comm]
theorem mul_comm (a b : Nat) : double.mul a b = double.mul b a := by unfold Format.mul; rw [product_comm]
theorem mul_opp (a b : Nat) : double.mul (opp a) b = double.mul a (opp b) := by unfold Format.mul; rw [read_opp, read_opp, product_opp]

theorem add_nan {a : Nat} (b : Nat) (h : isNaN a = true) : double.add a b = none := by
  unfold Format.add; rw [read_nan h]; rfl
theorem mul_nan {a : Nat} (b : Nat) (h : isNaN a = true) : double.mul a b = none := by
  unfold Format.mul; rw [read_nan h]; rfl
theorem div_nan {a : Nat} (b : Nat) (h : isNaN a = true) : double.div a b = none := by
  unfold Format.div; rw [read_nan h]; rfl

theorem write_number (s : Bool) (r k : Nat) (hr : r < 9218868437227405312) (m : Nat) (hm : m = mag r * 2 ^ k) (place : Int) (hp : place = -1074 + (ex r : Int) - k) :
    double.write (.number s m place) = double.word s r := by
  subst hm
  exact nearest_exact s r k hr place hp

theorem read_mzero : double.read 9223372036854775808 = .number true 0 (-1074) := by decide +kernel
theorem read_zero : double.read 0 = .number false 0 (-1074) := by decide +kernel
theorem read_one : double.read 4607182418800017408 = .number false 4503599627370496 (-52) := by decide +kernel
theorem read_infp : double.read 9218868437227405312 = .infinity false := by decide +kernel

theorem sum_num_num (s t : Bool) (m n : Nat) (i j : Int) : (Datum.number s m i).sum (.number t n j) =
    some (.number (if signed s m (i - min i j).toNat + signed t n (j - min i j).toNat = 0 then s && t else decide (signed s m (i - min i j).toNat + signed t n (j - min i j).toNat < 0)) (signed s m (i - min i j).toNat + signed t n (j - min i j).toNat).natAbs (min i j)) := rfl

/-- 'a + -0' is a. -/
theorem add_mzero {a : Nat} (ha : a < 18446744073709551616) (h : isNaN a = false) : double.add a 9223372036854775808 = some a := by
  have h' := not_nan_iff.1 h
  unfold Format.add
  rw [read_mzero]
  by_cases hi : rung a = 9218868437227405312
  · rw [read_inf hi]
    show some (double.word (neg a) double.infRung) = some a
    rw [inf_eq, ← hi, word_of a ha]
  · have hr : rung a < 9218868437227405312 := by omega
    rw [read_num hr, sum_num_num]
    have e1 : min (-1074 + (ex (rung a) : Int)) (-1074) = -1074 := by omega
    have e2 : (-1074 + (ex (rung a) : Int) - -1074).toNat = ex (rung a) := by omega
    rw [e1, e2, signed_eq, signed_eq]
    show some (double.write _) = some a
    congr 1
    rw [← word_of a ha]
    rw [neg_word _ _ (rung_lt a), rung_word _ _ (rung_lt a)]
    have hz : mag (rung a) * 2 ^ ex (rung a) = 0 ↔ mag (rung a) = 0 := by
      rw [Nat.mul_eq_zero]; have : 0 < 2 ^ ex (rung a) := Nat.two_pow_pos _; omega
    have hs : (if (if neg a = true then -((mag (rung a) * 2 ^ ex (rung a) : Nat) : Int) else ((mag (rung a) * 2 ^ ex (rung a) : Nat) : Int)) + (if true = true then -((0 * 2 ^ ((-1074 : Int) - -1074).toNat : Nat) : Int) else ((0 * 2 ^ ((-1074 : Int) - -1074).toNat : Nat) : Int)) = 0 then neg a && true else decide ((if neg a = true then -((mag (rung a) * 2 ^ ex (rung a) : Nat) : Int) else ((mag (rung a) * 2 ^ ex (rung a) : Nat) : Int)) + (if true = true then -((0 * 2 ^ ((-1074 : Int) - -1074).toNat : Nat) : Int) else ((0 * 2 ^ ((-1074 : Int) - -1074).toNat : Nat) : Int)) < 0)) = neg a := by
      rw [Nat.zero_mul]
      generalize mag (rung a) * 2 ^ ex (rung a) = X
      cases neg a
      · simp
      · simp; omega
    rw [hs]
    refine write_number (neg a) (rung a) (ex (rung a)) hr _ ?_ _ (by omega)
    rw [Nat.zero_mul]
    generalize mag (rung a) * 2 ^ ex (rung a) = X
    cases neg a <;> simp

/-- 'a * 1' is a. -/
theorem mul_one {a : Nat} (ha : a < 18446744073709551616) (h : isNaN a = false) : double.mul a 4607182418800017408 = some a := by
  have h' := not_nan_iff.1 h
  unfold Format.mul
  rw [read_one]
  by_cases hi : rung a = 9218868437227405312
  · rw [read_inf hi]
    show some (double.word (neg a ^^ false) double.infRung) = some a
    rw [inf_eq, Bool.xor_false, ← hi, word_of a ha]
  · have hr : rung a < 9218868437227405312 := by omega
    rw [read_num hr]
    show some (double.write (.number (neg a ^^ false) (mag (rung a) * 4503599627370496) (-1074 + (ex (rung a) : Int) + -52))) = some a
    rw [Bool.xor_false, write_number (neg a) (rung a) 52 hr _ rfl _ (by omega), word_of a ha]

theorem quotient_zero (d : Nat) (s t : Bool) (m : Nat) (i j : Int) : (Datum.number s m i).quotient d (.number t 0 j) = if m = 0 then none else some (.infinity (s ^^ t)) := rfl

/-- 'a / 0': a NaN where a is a zero; else infinity with a's sign. -/
theorem div_zero_zero {a : Nat} (h : rung a = 0) : double.div a 0 = none := by
  unfold Format.div
  rw [read_zero, read_num (by omega), h]
  rfl
theorem div_zero {a : Nat} (h : isNaN a = false) (h0 : rung a ≠ 0) : double.div a 0 = some (double.word (neg a) 9218868437227405312) := by
  have h' := not_nan_iff.1 h
  unfold Format.div
  rw [read_zero]
  by_cases hi : rung a = 9218868437227405312
  · rw [read_inf hi]
    show some (double.word (neg a ^^ false) double.infRung) = _
    rw [inf_eq, Bool.xor_false]
  · rw [read_num (by omega)]
    rw [quotient_zero, if_neg (fun e => h0 (mag_zero.1 e)), Bool.xor_false]
    show some (double.word (neg a) double.infRung) = _
    rw [inf_eq]

/-- 'a / +Inf' of a finite a: a zero with a's sign. -/
theorem div_inf {a : Nat} (h : rung a < 9218868437227405312) : double.div a 9218868437227405312 = some (double.word (neg a) 0) := by
  unfold Format.div
  rw [read_infp, read_num h]
  show some (double.nearest (neg a ^^ false) 0 0) = _
  rw [nearest_zero, Bool.xor_false]
theorem div_inf_inf {a : Nat} (h : rung a = 9218868437227405312) (b : Nat) (hb : rung b = 9218868437227405312) : double.div a b = none := by
  unfold Format.div
  rw [read_inf h, read_inf hb]
  rfl

/-- 'a / a': 1 of a finite a that is no zero; else a NaN. -/
theorem div_self {a : Nat} (h : rung a < 9218868437227405312) (h0 : rung a ≠ 0) : double.div a a = some 4607182418800017408 := by
  have hm : mag (rung a) ≠ 0 := fun e => h0 (mag_zero.1 e)
  unfold Format.div
  rw [read_num h]
  generalize mag (rung a) = m at *
  generalize (-1074 + (ex (rung a) : Int)) = i
  generalize neg a = s
  unfold Datum.quotient
  simp only [if_neg hm]
  have e1 : double.fractionBits + 2 + m.log2 - m.log2 = 54 := by rw [frac_eq]; omega
  have e2 : m <<< 54 = 18014398509481984 * m := by rw [Nat.shiftLeft_eq, Nat.mul_comm]
  simp only [e1, e2]
  have e3 : 18014398509481984 * m / m = 18014398509481984 := Nat.mul_div_cancel _ (by omega)
  have e4 : 18014398509481984 * m % m = 0 := Nat.mul_mod_left _ _
  rw [e3, e4, Bool.xor_self, show i - i - ((54 : Nat) : Int) - 1 = -55 by omega]
  decide +kernel
theorem div_self_none {a : Nat} (h : rung a = 0 ∨ 9218868437227405312 ≤ rung a) : double.div a a = none := by
  by_cases hn : isNaN a = true
  · exact div_nan a hn
  have hn' := not_nan_iff.1 (by simpa using hn)
  by_cases hi : rung a = 9218868437227405312
  · exact div_inf_inf hi a hi
  have h0 : rung a = 0 := by omega
  unfold Format.div
  rw [read_num (by omega), h0]
  rfl

/-- Cut towards zero. -/
def tr (b : Nat) : Int :=
  match (double.read b).toInt .zero with
  | some n => n
  | none => 0

theorem toInt_num (s : Bool) (m : Nat) (i : Int) : (Datum.number s m i).toInt .zero = some (signed s (Toward.zero.cut s (m <<< i.toNat) (-i).toNat) 0) := rfl
theorem cut_zero (s : Bool) (n d : Nat) : Toward.zero.cut s n d = n / (1 <<< min d (n.log2 + 2)) := rfl

theorem toInt_small {b : Nat} (h : rung b ≤ 4746794007248502784) : ∃ c : Nat, c < 9007199254740992 ∧ (double.read b).toInt .zero = some (if neg b then -(c : Int) else c) ∧ (double.read (opp b)).toInt .zero = some (if neg b then (c : Int) else -(c : Int)) := by
  have hx : ex (rung b) ≤ 1053 := by unfold ex; split <;> omega
  rw [read_opp, read_num (by omega)]
  refine ⟨Toward.zero.cut (neg b) (mag (rung b) <<< (-1074 + (ex (rung b) : Int)).toNat) (-(-1074 + (ex (rung b) : Int))).toNat, ?_, ?_, ?_⟩
  · rw [cut_zero, show (-1074 + (ex (rung b) : Int)).toNat = 0 by omega, Nat.shiftLeft_zero]
    exact Nat.lt_of_le_of_lt (Nat.div_le_self _ _) (mag_lt _)
  · rw [toInt_num, signed_eq]
    simp
  · show (Datum.number (!neg b) _ _).toInt .zero = _
    rw [toInt_num, signed_eq, cut_zero, cut_zero]
    cases neg b <;> simp

theorem toInt_val {b : Nat} (h : rung b ≤ 4746794007248502784) : floatToIntVal .f64 b .i64 = some (tr b) := by
  obtain ⟨c, hc, e, _⟩ := toInt_small h
  unfold floatToIntVal tr
  have e' : (FloatKind.decode .f64 b).toInt .zero = some (if neg b then -(c : Int) else c) := e
  rw [e', e]
  have : IntKind.i64.min ≤ (if neg b then -(c : Int) else c) ∧ (if neg b then -(c : Int) else c) ≤ IntKind.i64.max := by
    rw [show IntKind.i64.min = -9223372036854775808 from rfl, show IntKind.i64.max = 9223372036854775807 from rfl]
    cases neg b <;> simp <;> omega
  simp only [this, and_self, if_true]
theorem tr_opp {b : Nat} (h : rung b ≤ 4746794007248502784) : tr (opp b) = -tr b := by
  obtain ⟨c, _, e1, e2⟩ := toInt_small h
  unfold tr
  rw [e1, e2]
  cases neg b <;> simp

/-- What real's Whole answers. -/
def whole (b : Nat) : Int :=
  if isNaN b then 0
  else if 4746794007248502784 ≤ key b then 2147483648
  else if key b ≤ -4746794007248502784 then -2147483648
  else tr b

theorem whole_opp {b : Nat} : whole (opp b) = -whole b := by
  unfold whole
  rw [opp_nan, opp_key]
  cases h : isNaN b
  · simp only [Bool.false_eq_true, if_false]
    by_cases h1 : 4746794007248502784 ≤ key b
    · rw [if_neg (by omega), if_pos (by omega), if_pos h1]
    · by_cases h2 : key b ≤ -4746794007248502784
      · rw [if_pos (by omega), if_neg h1, if_pos h2]; rfl
      · rw [if_neg (by omega), if_neg (by omega), if_neg h1, if_neg h2]
        refine tr_opp ?_
        unfold key at h1 h2
        cases hn : neg b <;> simp [hn] at h1 h2 <;> omega
  · rfl

/-- real's Same, as Go's own comparison tells it. -/
theorem same_iff {a b : Nat} (ha : a < 18446744073709551616) (hb : b < 18446744073709551616) :
    (canon a = canon b) ↔ (isNaN a = true ∧ isNaN b = true) ∨ ((isNaN a = false ∧ isNaN b = false) ∧ key a = key b ∧ neg a = neg b) := by
  cases h1 : isNaN a
  · cases h2 : isNaN b
    · rw [canon_of_not h1, canon_of_not h2]
      simp only [Bool.false_eq_true, and_self, false_or, true_and]
      refine ⟨fun e => by subst e; exact ⟨rfl, rfl⟩, fun ⟨e, e'⟩ => same_word ha hb e' ?_⟩
      unfold key at e
      rw [e'] at e
      cases hn : neg b <;> simp [hn] at e <;> omega
    · have hne : canon a ≠ canon b := by
        intro e
        have := nan_canon a
        rw [e, nan_canon, h1, h2] at this
        exact absurd this (by decide)
      simp [hne]
  · cases h2 : isNaN b
    · have hne : canon a ≠ canon b := by
        intro e
        have := nan_canon a
        rw [e, nan_canon, h1, h2] at this
        exact absurd this (by decide)
      simp [hne]
    · rw [canon_of_nan h1, canon_of_nan h2]; simp

end Fl
end Go.Proofs.Ythokfmmbiilllaa

/-
  What the program's real, the reference's Bits and Whole, and math's small functions give, function by function: in words.
-/
namespace Go.Proofs.Ythokfmmbiilllaa
open Go.RowKit

theorem f64_bits (b : Nat) (w : World) : (callFunc 42 #[.float .f64 b]).run Try.prog w = .ok (.value (.int .u64 b)) w := by
  rw [run_callFunc_extern Try.func42 (e := Extern.MathFloatBits.float64bits) (by kernel_rfl) (by kernel_rfl) (by kernel_rfl) (by kernel_rfl)]
  rfl
theorem f64_of (n : Int) (w : World) : (callFunc 50 #[.int .u64 n]).run Try.prog w = .ok (.value (.float .f64 n.toNat)) w := by
  rw [run_callFunc_extern Try.func50 (e := Extern.MathFloatBits.float64frombits) (by kernel_rfl) (by kernel_rfl) (by kernel_rfl) (by kernel_rfl)]
  rfl
theorem f64_neg (b : Nat) (w : World) : (Op.unary .neg (.float .f64 b)).run Try.prog w = .ok (.float .f64 (Fl.opp b)) w := rfl
attribute [go_sem] f64_bits f64_of f64_neg

theorem isNaN_any (b : Nat) (w : World) : Calls Try.prog 41 #[.float .f64 b] w fun e w' => e = .returned (.bool (Fl.isNaN b)) ∧ w = w' := by
  have hb : ((FloatKind.f64.format.order b b != some .eq) : Bool) = Fl.isNaN b := Fl.self_ne b
  go_enter Try.func41, Try.ntmps41
  go_wp2_with (rw [hb])
  all_goals (go_ret; exact ⟨rfl, rfl⟩)

theorem canonical_any (b : Nat) (w : World) : Calls Try.prog 43 #[.float .f64 b] w fun e w' => e = .returned (.float .f64 (Fl.canon b)) ∧ w = w' := by
  go_enter Try.func43, Try.ntmps43
  go_wp2_with fail
  refine (isNaN_any b w).mono ?_
  rintro e w1 ⟨rfl, rfl⟩
  cases h : Fl.isNaN b
  · go_wp2_with fail
    go_ret
    exact ⟨by simp [Fl.canon, h], rfl⟩
  · go_wp2_with fail
    go_ret
    exact ⟨by simp [Fl.canon, h], rfl⟩

theorem bits_any (b : Nat) (w : World) : Calls Try.prog 35 #[.float .f64 b] w fun e w' => e = .returned (.int .u64 (Fl.canon b)) ∧ w = w' := by
  go_enter Try.func35, Try.ntmps35
  go_wp2_with fail
  refine (canonical_any b w).mono ?_
  rintro e w1 ⟨rfl, rfl⟩
  go_wp2_with fail
  go_ret
  exact ⟨rfl, rfl⟩

theorem rsame_any (a b : Nat) (w : World) : Calls Try.prog 22 #[.float .f64 a, .float .f64 b] w fun e w' => e = .returned (.bool ((Fl.canon a : Int) == Fl.canon b)) ∧ w = w' := by
  go_enter Try.func22, Try.ntmps22
  go_wp2_with fail
  refine (bits_any _ w).mono ?_
  rintro e w1 ⟨rfl, rfl⟩
  go_wp2_with fail
  refine (bits_any _ _).mono ?_
  rintro e w1 ⟨rfl, rfl⟩
  go_wp2_with fail
  go_ret
  exact ⟨rfl, rfl⟩

/-- What an operation on floats comes to in the machine: the outcome's word, or a NaN that is drawn. -/
theorem arith_run (op : BinOp) (o : Option Nat) (t : TypeId) (a b : Nat) (ho : floatBits op .f64 a b = o) (hop : op = .add ∨ op = .mul ∨ op = .quo) (w : World) :
    ∃ (r : Nat) (w' : World), (binOp op t (.float .f64 a) (.float .f64 b)).run Try.prog w = .ok (.float .f64 r) w' ∧ Fl.canon r = Fl.res o ∧ Fr (fun _ => False) w w' := by
  cases o with
  | some r => exact ⟨r, w, run_float_arith w op t .f64 a b r ho, rfl, Fr.refl _ _⟩
  | none =>
    refine ⟨Question.cut (.nanBits .f64 a b) (w.tape w.drawn (.nanBits .f64 a b)), w.drew, ?_, Fl.canon_drawn _ a b, (Fr.refl _ _).drew⟩
    unfold floatBits at ho
    rcases hop with rfl | rfl | rfl <;> simp only at ho <;> simp [binOp, Op.floatArith, ho, Question.forced]

theorem conv_self (b : Nat) (w : World) : (convert 34 34 (.float .f64 b)).run Try.prog w = .ok (.float .f64 b) w :=
  run_convert_float_float w _ _ .f64 .f64 b b (by rw [Try.underlying34]; rfl) Try.underlying34 rfl

theorem key_low : Fl.key 13970166044103278592 = -4746794007248502784 := by decide +kernel
theorem key_high : Fl.key 4746794007248502784 = 4746794007248502784 := by decide +kernel
theorem nan_low : Fl.isNaN 13970166044103278592 = false := by decide +kernel
theorem nan_high : Fl.isNaN 4746794007248502784 = false := by decide +kernel

theorem same_key {a b : Nat} (ha : a < 18446744073709551616) (hb : b < 18446744073709551616) (h0 : Fl.rung b ≠ 0) (h : Fl.key a = Fl.key b) : a = b := by
  unfold Fl.key at h
  refine Fl.same_word ha hb ?_ ?_ <;> cases h1 : Fl.neg a <;> cases h2 : Fl.neg b <;> simp [h1, h2] at h ⊢ <;> omega

theorem run_max_low (b : Nat) (hb : b < 18446744073709551616) (hn : Fl.isNaN b = false) (ts : Array TypeId) (t : TypeId) (w : World) :
    (Builtin.max_ ts t #[.float .f64 b, .float .f64 13970166044103278592]).run Try.prog w = .ok (.float .f64 (if Fl.key b ≤ -4746794007248502784 then 13970166044103278592 else b)) w := by
  have ho : FloatKind.f64.format.order b 13970166044103278592 = some (compare (Fl.key b) (-4746794007248502784)) := by rw [← key_low]; exact Fl.order_num hn nan_low
  unfold Builtin.max_
  simp only [List.foldlM, Builtin.max2, ho]
  have hc : compare (Fl.key b) (-4746794007248502784) = if Fl.key b < -4746794007248502784 then .lt else if Fl.key b = -4746794007248502784 then .eq else .gt := rfl
  rw [hc]
  by_cases h1 : Fl.key b < -4746794007248502784
  · simp [h1, show Fl.key b ≤ -4746794007248502784 by omega]
  · by_cases h2 : Fl.key b = -4746794007248502784
    · obtain rfl := same_key hb (by omega) (by decide +kernel) (h2.trans key_low.symm)
      simp [key_low]
    · simp [h1, h2, show ¬ Fl.key b ≤ -4746794007248502784 by omega]

theorem run_min_high (b : Nat) (hb : b < 18446744073709551616) (hn : Fl.isNaN b = false) (ts : Array TypeId) (t : TypeId) (w : World) :
    (Builtin.min_ ts t #[.float .f64 b, .float .f64 4746794007248502784]).run Try.prog w = .ok (.float .f64 (if 4746794007248502784 ≤ Fl.key b then 4746794007248502784 else b)) w := by
  have ho : FloatKind.f64.format.order b 4746794007248502784 = some (compare (Fl.key b) 4746794007248502784) := by
    have := Fl.order_num hn nan_high
    rw [key_high] at this
    exact this
  unfold Builtin.min_
  simp only [List.foldlM, Builtin.min2, ho]
  have hc : compare (Fl.key b) 4746794007248502784 = if Fl.key b < 4746794007248502784 then .lt else if Fl.key b = 4746794007248502784 then .eq else .gt := rfl
  rw [hc]
  by_cases h1 : Fl.key b < 4746794007248502784
  · simp [h1, show ¬ 4746794007248502784 ≤ Fl.key b by omega]
  · by_cases h2 : Fl.key b = 4746794007248502784
    · obtain rfl := same_key hb (by omega) (by decide +kernel) (h2.trans key_high.symm)
      simp [key_high]
    · simp [h1, h2, show 4746794007248502784 ≤ Fl.key b by omega]

theorem key_rung {b : Nat} (h1 : ¬ 4746794007248502784 ≤ Fl.key b) (h2 : ¬ Fl.key b ≤ -4746794007248502784) : Fl.rung b ≤ 4746794007248502784 := by
  unfold Fl.key at h1 h2
  cases hn : Fl.neg b <;> simp [hn] at h1 h2 <;> omega

theorem run_int (b : Nat) (n : Int) (h : floatToIntVal .f64 b .i64 = some n) (w : World) : (convert 34 2 (.float .f64 b)).run Try.prog w = .ok (.int .i64 n) w :=
  run_convert_float_int w _ _ .f64 .i64 b n (by rw [Try.underlying34]; rfl) Try.underlying2 h

theorem rwhole_any (b : Nat) (hb : b < 18446744073709551616) (w : World) : Calls Try.prog 33 #[.float .f64 b] w fun e w' => e = .returned (.int .i64 (Fl.whole b)) ∧ w = w' := by
  go_enter Try.func33, Try.ntmps33
  go_wp2_with fail
  refine (isNaN_any b w).mono ?_
  rintro e w1 ⟨rfl, rfl⟩
  cases h : Fl.isNaN b
  · have hx := run_max_low b hb h
    by_cases h1 : 4746794007248502784 ≤ Fl.key b
    · have hw : Fl.whole b = 2147483648 := by unfold Fl.whole; rw [h, if_neg (by decide), if_pos h1]
      have hy := run_min_high b hb h
      rw [if_neg (by omega)] at hx
      rw [if_pos h1] at hy
      have hz := run_int 4746794007248502784 2147483648 (by decide +kernel)
      clear h1
      go_wp2_with fail
      go_ret
      exact ⟨by rw [hw]; rfl, rfl⟩
    · by_cases h2 : Fl.key b ≤ -4746794007248502784
      · have hw : Fl.whole b = -2147483648 := by unfold Fl.whole; rw [h, if_neg (by decide), if_neg h1, if_pos h2]
        have hy := run_min_high 13970166044103278592 (by omega) nan_low
        rw [if_pos h2] at hx
        rw [key_low, if_neg (by omega)] at hy
        have hz := run_int 13970166044103278592 (-2147483648) (by decide +kernel)
        clear h1 h2
        go_wp2_with fail
        go_ret
        exact ⟨by rw [hw]; rfl, rfl⟩
      · have hw : Fl.whole b = Fl.tr b := by unfold Fl.whole; rw [h, if_neg (by decide), if_neg h1, if_neg h2]
        have hy := run_min_high b hb h
        rw [if_neg h2] at hx
        rw [if_neg h1] at hy
        have hz := run_int b (Fl.tr b) (Fl.toInt_val (key_rung h1 h2))
        clear h1 h2
        have HW := Lib.hid hw; clear hw
        go_wp2_with fail
        go_ret
        exact ⟨by rw [HW.out]; rfl, rfl⟩
  · have hw : Fl.whole b = 0 := by unfold Fl.whole; rw [h, if_pos rfl]
    go_wp2_with fail
    go_ret
    exact ⟨by rw [hw]; rfl, rfl⟩

theorem refwhole_any (b : Nat) (w : World) : Calls Try.prog 20 #[.float .f64 b] w fun e w' => e = .returned (.int .i64 (Fl.whole b)) ∧ w = w' := by
  have hb : ((FloatKind.f64.format.order b b != some .eq) : Bool) = Fl.isNaN b := Fl.self_ne b
  cases h : Fl.isNaN b <;> rw [h] at hb
  · have ho : ((FloatKind.f64.format.order b 4746794007248502784 == some .gt || FloatKind.f64.format.order b 4746794007248502784 == some .eq) : Bool) = decide (4746794007248502784 ≤ Fl.key b) := by
      have := Fl.order_num h nan_high
      rw [key_high] at this
      rw [show FloatKind.f64.format.order b 4746794007248502784 = _ from this, Fl.compare_gt, Fl.compare_eq, ← Bool.decide_or]
      exact decide_eq_decide.2 (by omega)
    have hl : ((FloatKind.f64.format.order b 13970166044103278592 == some .lt || FloatKind.f64.format.order b 13970166044103278592 == some .eq) : Bool) = decide (Fl.key b ≤ -4746794007248502784) := by
      have := Fl.order_num h nan_low
      rw [key_low] at this
      rw [show FloatKind.f64.format.order b 13970166044103278592 = _ from this, Fl.compare_lt, Fl.compare_eq, ← Bool.decide_or]
      exact decide_eq_decide.2 (by omega)
    by_cases h1 : 4746794007248502784 ≤ Fl.key b
    · have hw : Fl.whole b = 2147483648 := by unfold Fl.whole; rw [h, if_neg (by decide), if_pos h1]
      rw [decide_eq_true h1] at ho
      clear h1 hl
      go_enter Try.func20, Try.ntmps20
      go_wp2_with (first | rw [hb] | rw [ho])
      go_ret
      exact ⟨by rw [hw]; rfl, rfl⟩
    · rw [decide_eq_false h1] at ho
      by_cases h2 : Fl.key b ≤ -4746794007248502784
      · have hw : Fl.whole b = -2147483648 := by unfold Fl.whole; rw [h, if_neg (by decide), if_neg h1, if_pos h2]
        rw [decide_eq_true h2] at hl
        clear h1 h2
        go_enter Try.func20, Try.ntmps20
        go_wp2_with (first | rw [hb] | rw [ho] | rw [hl])
        go_ret
        exact ⟨by rw [hw]; rfl, rfl⟩
      · have hw : Fl.whole b = Fl.tr b := by unfold Fl.whole; rw [h, if_neg (by decide), if_neg h1, if_neg h2]
        rw [decide_eq_false h2] at hl
        have hz := run_int b (Fl.tr b) (Fl.toInt_val (key_rung h1 h2))
        have HW := Lib.hid hw; clear hw
        clear h1 h2
        go_enter Try.func20, Try.ntmps20
        go_wp2_with (first | rw [hb] | rw [ho] | rw [hl] | simp only [hz])
        go_ret
        exact ⟨by rw [HW.out]; rfl, rfl⟩
  · have hw : Fl.whole b = 0 := by unfold Fl.whole; rw [h, if_pos rfl]
    have HW := Lib.hid hw; clear hw
    go_enter Try.func20, Try.ntmps20
    go_wp2_with (rw [hb])
    go_ret
    exact ⟨by rw [HW.out]; rfl, rfl⟩
end Go.Proofs.Ythokfmmbiilllaa

/-
  What math's Signbit, Copysign, Inf, NaN, Abs and IsInf give, in words; layer 3's Awake and Float.
-/
namespace Go.Proofs.Ythokfmmbiilllaa
open Go.RowKit

theorem nan_max : Fl.isNaN 9218868437227405311 = false := by decide +kernel
theorem key_max : Fl.key 9218868437227405311 = 9218868437227405311 := by decide +kernel

theorem float_of_int (n : Int) : floatOfInt .f64 n < 18446744073709551616 := Ieee.double.write_lt (.number (n < 0) n.natAbs 0)

theorem half_off (n : Int) : ∃ r : Nat, (r = 4602678819172646912 ∨ r = 13826050856027422720) ∧ ∀ (t : TypeId) (w : World), (binOp .sub t (.float .f64 (floatOfInt .f64 (n % 2))) (.float .f64 4602678819172646912)).run Try.prog w = .ok (.float .f64 r) w := by
  have h : n % 2 = 0 ∨ n % 2 = 1 := by omega
  rcases h with h | h <;> rw [h]
  · exact ⟨13826050856027422720, .inr rfl, fun t w => run_float_arith w .sub t .f64 _ _ _ (by decide +kernel)⟩
  · exact ⟨4602678819172646912, .inl rfl, fun t w => run_float_arith w .sub t .f64 _ _ _ (by decide +kernel)⟩

end Go.Proofs.Ythokfmmbiilllaa
