/-
  What ChOnce rests on, part 1: App, Gen, Bytes, Made, Writer, Reader, RefLong, Ref, Call, CallChk, CrcMath, CrcSum.
-/
import Derived.Test.YtcjfinabffpgkaaProg
import Derived.KernelRfl
import Derived.WalkKit
import Derived.WalkSpells
import Derived.WalkLawsBesides
import Derived.OneCell
import Derived.Lib.Hide
import Derived.Handy
import Derived.LoopN
import Derived.Deep.LoopGhost
set_option linter.unusedVariables false
set_option linter.unusedSimpArgs false
set_option maxHeartbeats 64000000
namespace Go.Proofs.Ytcjfinabffpgkaa
open Go.RowKit
open Go.Lib (hid)
section
/-- Between w and w' only the blocks in S (and new ones) may have changed. -/
structure Fr (S : Nat → Prop) (w w' : World) : Prop where
  os : w'.os = w.os
  tape : w'.tape = w.tape
  output : w'.output = w.output
  size : w.heap.size ≤ w'.heap.size
  block : ∀ k, k < w.heap.size → ¬ S k → w'.heap[k]? = w.heap[k]?

theorem Fr.refl (S : Nat → Prop) (w : World) : Fr S w w := ⟨rfl, rfl, rfl, Nat.le_refl _, fun _ _ _ => rfl⟩

theorem Fr.trans {S T : Nat → Prop} {a b c : World} (h : Fr S a b) (k : Fr T b c) (hT : ∀ i, i < a.heap.size → T i → S i) : Fr S a c :=
  ⟨k.os.trans h.os, k.tape.trans h.tape, k.output.trans h.output, Nat.le_trans h.size k.size,
   fun i hi hs => (k.block i (Nat.lt_of_lt_of_le hi h.size) (fun ht => hs (hT i hi ht))).trans (h.block i hi hs)⟩

theorem Fr.mono {S T : Nat → Prop} {a b : World} (h : Fr S a b) (hT : ∀ i, i < a.heap.size → S i → T i) : Fr T a b :=
  ⟨h.os, h.tape, h.output, h.size, fun i hi hs => h.block i hi (fun x => hs (hT i hi x))⟩

theorem Fr.drew {S : Nat → Prop} {a b : World} (h : Fr S a b) : Fr S a b.drew := ⟨h.os, h.tape, h.output, h.size, h.block⟩

theorem Fr.alloc {S : Nat → Prop} {a b : World} (h : Fr S a b) (o : Obj) : Fr S a (b.alloc o) :=
  ⟨h.os, h.tape, h.output, by have := h.size; show _ ≤ (b.heap.push o).size; rw [Array.size_push]; omega, fun i hi hs => by
    rw [Below.heap_alloc _ _ _ (Nat.lt_of_lt_of_le hi h.size)]; exact h.block i hi hs⟩

theorem Fr.setCell {S : Nat → Prop} {a b : World} (h : Fr S a b) {p : Addr} (hp : p.block < a.heap.size → S p.block) (u : Value) : Fr S a (b.setCell p u) :=
  ⟨h.os, h.tape, h.output, by have := h.size; simp [World.setCell]; omega, fun i hi hs => by
    rw [Below.heap_setCell _ _ _ _ (fun e => hs (by rw [e]; exact hp (by omega)))]; exact h.block i hi hs⟩

theorem Fr.set1 {b : Nat} {a c : World} (h : Fr (fun k => k = b) a c) (i : Nat) (u : Value) : Fr (fun k => k = b) a (c.setCell ⟨b, i, none⟩ u) :=
  h.setCell (p := ⟨b, i, none⟩) (fun _ => rfl) u

theorem Fr.of_grown {a b : World} {row : Option Nat} (h : a.grownBy b row) : Fr (fun k => some k = row) a b :=
  ⟨h.os, h.tape, h.output, h.size, fun i hi hs => h.block i hi hs⟩

theorem Fr.below {S : Nat → Prop} {B : Nat} {a b : World} (h : Fr S a b) (hB : B ≤ a.heap.size) (hS : ∀ i, i < B → ¬ S i) : Below B a b :=
  ⟨h.os, h.tape, h.output, h.size, fun i hi => h.block i (Nat.lt_of_lt_of_le hi hB) (hS i hi)⟩

theorem Fr.cell {S : Nat → Prop} {w w' : World} (h : Fr S w w') {p : Addr} (hp : p.block < w.heap.size) (hs : ¬ S p.block) : w'.cell? p = w.cell? p :=
  World.cell?_of_block (w := w) (h.block p.block hp hs)

/-- Append onto a slice that is owned alone: from whatever source whose first cells are known. -/
theorem run_append_sep {P : Program} (w : World) (base : Nat) (t u ty e : TypeId) (i : TypeInfo) (z : Value) (size bytes : Nat) (ht : P.underlying t = some (.slice e)) (du : TypeDesc) (hu : P.underlying u = some du) (hud : du = .string ∨ ∃ e', du = .slice e')
    (hi : P.info? e = some i) (hz : i.zero = some z)
    (hsize : i.size = size) (hby : i.bytes = bytes) (hzs : z.cells.size = size) (hsz : 0 < size)
    (v : Value) (n : Nat) (xs : List Value) (hown : w.ownsRow base e size v n xs)
    (x : Value) (m : Nat) (news : List Value) (hlen : ∀ w, (Builtin.lenOf x).run P w = .ok m w) (hl : news.length = m * size)
    (hc : (Builtin.firstCells size m x).run P w = .ok news.toArray w) (hc' : (Builtin.firstCells size m x).run P w.drew = .ok news.toArray w.drew) (h1 : ∀ u ∈ news, u.oneCell' = true)
    (h63 : n + m ≤ maxLen) (hbytes : (n + m) * bytes ≤ 140737488355328) (hbase : base ≤ w.heap.size) :
    ∃ v' w', (Builtin.append_ #[t, u] ty #[v, x]).run P w = .ok v' w' ∧ w'.ownsRow base e size v' (n + m) (xs ++ news) ∧ w.grownBy w' v.ownBlock ∧
      (v'.ownBlock = v.ownBlock ∨ v'.ownBlock = some w.heap.size) := by
  subst hsize
  subst hby
  have hsmall : n + m ≤ 9223372036854775807 := by simp only [maxLen] at h63; omega
  have hlen2 : (xs ++ news).length = (n + m) * i.size := by rw [List.length_append, hown.1, hl, Nat.add_mul]
  have grown : ∀ (old : Nat), old < n + m → ∀ (row : Option Nat),
      (w.drew.alloc (.cells (xs.toArray ++ news.toArray ++ Builtin.zeroCells z.cells (grownCap w (n + m) old e - (n + m))) e)).ownsRow base e i.size
        (.slice (some ⟨w.heap.size, 0, none⟩) (n + m) (grownCap w (n + m) old e)) (n + m) (xs ++ news) ∧
      w.grownBy (w.drew.alloc (.cells (xs.toArray ++ news.toArray ++ Builtin.zeroCells z.cells (grownCap w (n + m) old e - (n + m))) e)) row := by
    intro old ho row
    have hge := grownCap_ge w (n + m) old e
    have hcm : grownCap w (n + m) old e ≤ maxLen := grownCap_le_maxLen w (n + m) old e h63
    refine ⟨⟨hlen2, .inr ⟨w.heap.size, _, _, rfl, hbase, heap_alloc_new w.drew _, hge, hcm, ?_, ?_⟩⟩, ⟨rfl, rfl, rfl, by simp, fun k hk _ => Below.heap_alloc w.drew _ k hk⟩⟩
    · simp only [Array.size_append, List.size_toArray, size_zeroCells, hzs, hown.1, hl, ← Nat.add_mul]
      congr 1
      omega
    · simp only [Array.toList_append, List.append_assoc]
      rw [← List.append_assoc, ← hlen2]
      exact List.take_left
  have hl1 := hlen w
  rcases hown.2 with ⟨rfl, rfl⟩ | ⟨g, cap, cur, rfl, hbg, hg, hnc, hcm, hcs, htake⟩
  · have hx : xs = [] := List.eq_nil_of_length_eq_zero (by simpa using hown.1)
    subst hx
    by_cases hm : m = 0
    · subst hm
      have hn : news = [] := List.eq_nil_of_length_eq_zero (by simpa using hl)
      subst hn
      refine ⟨.slice none 0 0, w, ?_, World.ownsRow_nil w base e i.size, ⟨rfl, rfl, rfl, Nat.le_refl _, fun _ _ _ => rfl⟩, .inl rfl⟩
      rcases hud with rfl | ⟨e', rfl⟩ <;> simp [Builtin.append_, run_underlying ht, run_underlying hu, sizeOf, typeInfo, hi, hl1, hc]
    · have hm63 : ¬ (9223372036854775807 < (m : Int)) := by omega
      have hm48 : ¬ (281474976710656 < Builtin.nextslicecap m 0 * i.bytes) := by rw [nextslicecap_zero (by omega)]; have hb := hbytes; simp only [Nat.zero_add] at hb; omega
      have hgr := grown 0 (by omega) (Value.ownBlock (.slice none 0 0))
      simp only [Nat.zero_add, List.nil_append, Array.empty_append] at hgr ⊢
      refine ⟨_, _, ?_, hgr.1, hgr.2, .inr rfl⟩
      rcases hud with rfl | ⟨e', rfl⟩ <;> simp [Builtin.append_, run_underlying ht, run_underlying hu, sizeOf, typeInfo, zeroValue, hi, hz, hl1, hm, hm63, hm48, Question.forced, run_firstCells_none, hc', newRow, grownCap]
  · by_cases hroom : n + m ≤ cap
    · have hfit : n * i.size + news.length ≤ cur.size := by rw [hl, hcs, ← Nat.add_mul]; exact Nat.mul_le_mul_right _ hroom
      have hst := run_storeCells_at P g (n * i.size) e news 0 cur w hg (by simpa using hfit) h1
      simp only [Nat.add_zero] at hst
      refine ⟨.slice (some ⟨g, 0, none⟩) (n + m) cap, w.setRow g (cur.toList.take (n * i.size) ++ news ++ cur.toList.drop (n * i.size + news.length)).toArray, ?_, ⟨hlen2, .inr ⟨g, cap, _, rfl, hbg, setRow_heap w g cur _ e _ hg, hroom, hcm, ?_, ?_⟩⟩, ⟨rfl, rfl, rfl, by simp, fun k _ hk => setRow_other w g k _ (fun e => hk (by simp [Value.ownBlock, e]))⟩, .inl rfl⟩
      · rcases hud with rfl | ⟨e', rfl⟩ <;> simp [Builtin.append_, run_underlying ht, run_underlying hu, sizeOf, typeInfo, hi, hl1, hroom, hc, Addr.add_lit, hst]
      · simp only [List.size_toArray, List.length_append, List.length_take, List.length_drop, Array.length_toList]
        omega
      · rw [htake, ← hlen2]
        exact List.take_left
    · have holds : ∀ j u, xs[j]? = some u → w.cell? ((⟨g, 0, none⟩ : Addr).add j) = some u := hown.cells (g := g) rfl
      have hn63 : ¬ (9223372036854775807 < ((n : Int) + (m : Int))) := by omega
      have hn48 : ¬ (281474976710656 < Builtin.nextslicecap (n + m) cap * i.bytes) := by have := growslice_fits (need := n + m) (old := cap) (bytes := i.bytes) (by omega) hbytes; omega
      have hfo := run_firstCells_some (P := P) w.drew i.size n ⟨g, 0, none⟩ n cap xs hown.1 (by simpa using holds)
      have hgr := grown cap (by omega) (Value.ownBlock (.slice (some ⟨g, 0, none⟩) n cap))
      refine ⟨_, _, ?_, hgr.1, hgr.2, .inr rfl⟩
      rcases hud with rfl | ⟨e', rfl⟩ <;> (simp [Builtin.append_, run_underlying ht, run_underlying hu, sizeOf, typeInfo, zeroValue, hi, hz, hl1, hroom, hn63, hn48, Question.forced, hc', hfo, newRow, grownCap]; congr 2; apply Array.ext'; simp [List.append_assoc])

theorem wpList_append_sep {P : Program} {w : World} {ops : Array Oper} {rest : List Oper} {o : Oper} {a : Act} {Q : Exit → Act → World → Prop} (hgd : o.guard = none) (s x : Operand) (t u : TypeId)
    (ho : o.op = .call { callee := .builtin .append, args := #[s, x], argTypes := #[t, u] })
    (base : Nat) (e : TypeId) (i : TypeInfo) (z : Value) (size bytes : Nat) (ht : P.underlying t = some (.slice e)) (du : TypeDesc) (hu : P.underlying u = some du) (hud : du = .string ∨ ∃ e', du = .slice e')
    (hi : P.info? e = some i) (hz : i.zero = some z)
    (hsize : i.size = size) (hby : i.bytes = bytes) (hzs : z.cells.size = size) (hsz : 0 < size)
    (v : Value) (n : Nat) (xs : List Value) (hs : a.eval s = v) (hown : w.ownsRow base e size v n xs)
    (xv : Value) (m : Nat) (news : List Value) (hx : a.eval x = xv) (hlen : ∀ w, (Builtin.lenOf xv).run P w = .ok m w) (hl : news.length = m * size)
    (hc : (Builtin.firstCells size m xv).run P w = .ok news.toArray w) (hc' : (Builtin.firstCells size m xv).run P w.drew = .ok news.toArray w.drew) (h1 : ∀ u ∈ news, u.oneCell' = true)
    (h63 : n + m ≤ maxLen) (hbytes : (n + m) * bytes ≤ 140737488355328) (hbase : base ≤ w.heap.size)
    (h : ∀ v' w', w'.ownsRow base e size v' (n + m) (xs ++ news) → w.grownBy w' v.ownBlock → (v'.ownBlock = v.ownBlock ∨ v'.ownBlock = some w.heap.size) → wpList P ops Q rest (a.put o.dst v') w') : wpList P ops Q (o :: rest) a w := by
  obtain ⟨v', w', hr, h2, h3, h4⟩ := run_append_sep (P := P) w base t u o.type e i z size bytes ht du hu hud hi hz hsize hby hzs hsz v n xs hown xv m news hlen hl hc hc' h1 h63 hbytes hbase
  refine wpList_plain hgd fun _ hK => ?_
  unfold Oper.wp execOp
  simp only [ho, resolve, invoke, builtin, Sem.run_bind, Sem.run_pure, Result.andThen_ok, List.map_toArray, List.map_cons, List.map_nil, hs, hx, hr]
  exact hK _ _ (h v' w' h2 h3 h4)
end
section
/-- A byte as a value. -/
def bv (c : UInt8) : Value := .int .u8 c.toNat

theorem bv_one (l : List UInt8) : ∀ u ∈ l.map bv, u.oneCell' = true := by
  intro u hu
  obtain ⟨c, _, rfl⟩ := List.mem_map.1 hu
  rfl

/-- The slice value v shows the bytes l (which others may show, too). -/
def Sees (w : World) (v : Value) (l : List UInt8) : Prop :=
  (l = [] ∧ ∃ a c, v = .slice a 0 c) ∨
  ∃ g off cap, v = .slice (some ⟨g, off, none⟩) l.length cap ∧ l.length ≤ cap ∧ ∀ j, j < l.length → w.cell? ⟨g, off + j, none⟩ = some (bv (l.getD j 0))

/-- The slice value v owns the row of bytes l alone. -/
def Own (w : World) (v : Value) (l : List UInt8) : Prop := w.ownsRow 0 5 1 v l.length (l.map bv)

theorem lenOf_slice {P : Program} (a : Option Addr) (n c : Nat) (w : World) : (Builtin.lenOf (.slice a n c)).run P w = .ok n w := by simp [Builtin.lenOf]
theorem lenOf_string {P : Program} (s : ByteArray) (w : World) : (Builtin.lenOf (.string s)).run P w = .ok s.size w := by simp [Builtin.lenOf]

theorem Sees.lenOf {P : Program} {w : World} {v : Value} {l : List UInt8} (h : Sees w v l) (w' : World) : (Builtin.lenOf v).run P w' = .ok l.length w' := by
  rcases h with ⟨rfl, a, c, rfl⟩ | ⟨g, off, cap, rfl, _, _⟩
  · exact lenOf_slice _ _ _ _
  · exact lenOf_slice _ _ _ _

theorem Sees.first {P : Program} {w : World} {v : Value} {l : List UInt8} (h : Sees w v l) : (Builtin.firstCells 1 l.length v).run P w = .ok (l.map bv).toArray w := by
  rcases h with ⟨rfl, a, c, rfl⟩ | ⟨g, off, cap, rfl, _, hc⟩
  · cases a with
    | none => simp [Builtin.firstCells]
    | some a => exact run_firstCells_some (P := P) w 1 0 a 0 c [] rfl (by simp)
  · refine run_firstCells_some (P := P) w 1 l.length ⟨g, off, none⟩ l.length cap (l.map bv) (by simp) ?_
    intro j v hj
    have hjl : j < l.length := by
      have := (List.getElem?_eq_some_iff.1 hj).1
      simpa using this
    have hplain : (⟨g, off, none⟩ : Addr).add j = ⟨g, off + j, none⟩ := by unfold Addr.add; split <;> simp_all
    rw [hplain, hc j hjl, ← hj]
    simp [List.getD, hjl]

theorem Sees.drew {w : World} {v : Value} {l : List UInt8} (h : Sees w v l) : Sees w.drew v l := h

theorem Sees.fr {S : Nat → Prop} {w w' : World} {v : Value} {l : List UInt8} (h : Sees w v l) (hf : Fr S w w') (hS : ∀ k, v.ownBlock = some k → ¬ S k) : Sees w' v l := by
  rcases h with h | ⟨g, off, cap, rfl, hle, hc⟩
  · exact .inl h
  · refine .inr ⟨g, off, cap, rfl, hle, fun j hj => ?_⟩
    have h1 := hc j hj
    rw [← h1]
    exact hf.cell (World.block_lt_of_cell? w _ h1) (hS g rfl)

theorem string_first {P : Program} (s : ByteArray) (w : World) : (Builtin.firstCells 1 s.size (.string s)).run P w = .ok (s.data.toList.map bv).toArray w := by
  have hx : s.extract 0 s.size = s := by
    apply ByteArray.ext
    rw [ByteArray.data_extract]
    show s.data.extract 0 s.data.size = s.data
    exact Array.extract_size
  have hy : s.data.map (fun b => Value.int IntKind.u8 b.toNat) = (s.data.toList.map bv).toArray := by
    apply Array.ext'
    simp only [Array.toList_map]
    rfl
  simp [Builtin.firstCells, hx, hy]

theorem Own.sees {w : World} {v : Value} {l : List UInt8} (h : Own w v l) : Sees w v l := by
  obtain ⟨_, h2⟩ := h
  rcases h2 with ⟨rfl, h0⟩ | ⟨g, cap, cur, rfl, _, hg, hn, _, hs, ht⟩
  · exact .inl ⟨List.eq_nil_of_length_eq_zero h0, none, 0, rfl⟩
  · refine .inr ⟨g, 0, cap, rfl, hn, fun j hj => ?_⟩
    rw [cell_of_row w g (0 + j) cur _ (0, 0) hg, Nat.zero_add]
    have e : (cur.toList.take (l.length * 1))[j]? = (l.map bv)[j]? := by rw [ht]
    rw [List.getElem?_take, if_pos (by omega)] at e
    rw [← Array.getElem?_toList, e]
    simp [List.getD, hj]

theorem Own.fr {S : Nat → Prop} {w w' : World} {v : Value} {l : List UInt8} (h : Own w v l) (hf : Fr S w w') (hS : ∀ k, v.ownBlock = some k → ¬ S k) : Own w' v l := by
  refine ⟨h.1, ?_⟩
  rcases h.2 with hn | ⟨g, cap, cur, rfl, hb, hgg, rest⟩
  · exact .inl hn
  · refine .inr ⟨g, cap, cur, rfl, hb, ?_, rest⟩
    rw [hf.block g (Array.getElem?_eq_some_iff.1 hgg).1 (hS g rfl)]
    exact hgg

theorem Own.lt {w : World} {v : Value} {l : List UInt8} (h : Own w v l) : ∀ k, v.ownBlock = some k → k < w.heap.size := fun k hk => (World.ownsRow.lt h k hk).2

theorem first_row {P : Program} {w : World} {g : Nat} {cs : Array Value} {t : TypeId} {fr : Nat × Nat} (h : w.heap[g]? = some (.cells cs t fr)) (n c : Nat) (hn : cs.size = n) :
    (Builtin.firstCells 1 n (.slice (some ⟨g, 0, none⟩) n c)).run P w = .ok cs w := by
  have := run_firstCells_some (P := P) w 1 n ⟨g, 0, none⟩ n c cs.toList (by simp [hn]) (by
    intro j v hj
    have hplain : (⟨g, 0, none⟩ : Addr).add j = ⟨g, j, none⟩ := by unfold Addr.add; split <;> simp_all
    rw [hplain, cell_of_row w g j cs t fr h]
    simpa using hj)
  simpa using this

theorem bv_of (n : Int) (h0 : 0 ≤ n) (h1 : n ≤ 255) : bv (UInt8.ofNat n.toNat) = .int .u8 n := by
  unfold bv
  congr 1
  have : (UInt8.ofNat n.toNat).toNat = n.toNat := by simp; omega
  rw [this]; omega

theorem slice_of_own {w : World} {base : Nat} {e : TypeId} {size : Nat} {v : Value} {n : Nat} {xs : List Value} (h : w.ownsRow base e size v n xs) : ∃ a c, v = .slice a n c := by
  rcases h.2 with ⟨rfl, rfl⟩ | ⟨g, cap, cur, rfl, _⟩
  · exact ⟨_, _, rfl⟩
  · exact ⟨_, _, rfl⟩

theorem push_bytes : ∀ (l : List UInt8) (s : ByteArray), (l.map fun c => (c.toNat : Int)).foldl (fun r n => r.push (UInt8.ofNat n.toNat)) s = ⟨s.data ++ l.toArray⟩
  | [], s => by simp
  | c :: l, s => by
    rw [List.map_cons, List.foldl_cons, push_bytes l]
    simp [ByteArray.push]

theorem Sees.shape {w : World} {v : Value} {l : List UInt8} (h : Sees w v l) : ∃ a c, v = .slice a l.length c ∧ (a = none → l = []) := by
  rcases h with ⟨rfl, a, c, rfl⟩ | ⟨g, off, cap, rfl, hle, _⟩
  · exact ⟨a, c, rfl, fun _ => rfl⟩
  · exact ⟨_, cap, rfl, fun h => by cases h⟩

theorem Sees.cap {w : World} {a : Option Addr} {n c : Nat} {l : List UInt8} (h : Sees w (.slice a n c) l) : n = l.length ∧ (n = 0 ∨ n ≤ c) := by
  rcases h with ⟨rfl, _, _, e⟩ | ⟨g, off, cap, e, hle, _⟩
  · simp at e; simp [e]
  · simp at e; omega

/-- string(v) -/
theorem Sees.string {P : Program} {w : World} {v : Value} {l : List UInt8} (h : Sees w v l) (src e dst : TypeId) (hs : P.underlying src = some (.slice e)) (he : P.underlying e = some (.int .u8)) (hd : P.underlying dst = some .string) :
    (convert src dst v).run P w = .ok (.string ⟨l.toArray⟩) w := by
  have main : ∀ a n c, v = .slice (some a) n c → (loadCells a n).run P w = .ok ((l.map fun c => (c.toNat : Int)).map (Value.int .u8)).toArray w → (convert src dst v).run P w = .ok (.string ⟨l.toArray⟩) w := by
    rintro a n c rfl hl
    rw [run_convert_bytes_string w src dst e _ n c hs he hd, run_bytesToString w _ n c _ hl, push_bytes]
    simp [ByteArray.empty, ByteArray.emptyWithCapacity]
    rfl
  have hf := h.first (P := P)
  rcases h with ⟨rfl, a, c, rfl⟩ | ⟨g, off, cap, rfl, _, _⟩
  · cases a with
    | none => rw [run_convert_bytes_nil w src e hs he 0 c dst hd]; rfl
    | some a => exact main a 0 c rfl (by simpa [Builtin.firstCells] using hf)
  · refine main _ _ cap rfl ?_
    simp only [Builtin.firstCells, Nat.mul_one] at hf
    rw [hf, List.map_map]
    rfl

/-- A new row whose first cells are bytes: the slice over it shows them. -/
theorem sees_new {w : World} {cs : Array Value} {t : TypeId} {fr : Nat × Nat} {l : List UInt8} {c : Nat} (g : Nat) (hg : w.heap[g]? = some (.cells cs t fr)) (hc : ∀ j, j < l.length → cs[j]? = some (bv (l.getD j 0))) (hle : l.length ≤ c) :
    Sees w (.slice (some ⟨g, 0, none⟩) l.length c) l := by
  refine .inr ⟨g, 0, c, rfl, hle, fun j hj => ?_⟩
  rw [Nat.zero_add, cell_of_row w g j cs t fr hg, hc j hj]

/-- The bytes of a text, behind '[]byte(s)'. -/
theorem sees_bytes (w : World) (s : ByteArray) (e : TypeId) :
    Sees (w.drew.alloc (.cells (bytesRow s (grownCap w s.size 0 e)) e ((bytesRow s (grownCap w s.size 0 e)).size, (bytesRow s (grownCap w s.size 0 e)).size + 1))) (.slice (some ⟨w.heap.size, 0, none⟩) s.size (grownCap w s.size 0 e)) s.data.toList := by
  have hl : s.data.toList.length = s.size := rfl
  have := sees_new (w := w.drew.alloc (.cells (bytesRow s (grownCap w s.size 0 e)) e ((bytesRow s (grownCap w s.size 0 e)).size, (bytesRow s (grownCap w s.size 0 e)).size + 1))) (l := s.data.toList) (c := grownCap w s.size 0 e) w.heap.size (heap_alloc_new w.drew _) ?_ (by rw [hl]; exact grownCap_ge w _ _ _)
  · rw [hl] at this; exact this
  · intro j hj
    have hj' : j < s.data.size := by simpa using hj
    unfold bytesRow
    rw [Array.getElem?_append_left (by simpa using hj'), Array.getElem?_map, Array.getElem?_eq_getElem hj']
    simp only [bv, List.getD, Option.map_some, Array.getElem?_toList, Array.getElem?_eq_getElem hj', Option.getD_some]
end
section
def be2 (n : Nat) : List UInt8 := [UInt8.ofNat (n / 256), UInt8.ofNat (n % 256)]

def be4 (n : Nat) : List UInt8 := be2 (n / 65536) ++ be2 (n % 65536)
def be8 (n : Nat) : List UInt8 := be4 (n / 4294967296) ++ be4 (n % 4294967296)
theorem be2_length (n : Nat) : (be2 n).length = 2 := rfl
theorem be4_length (n : Nat) : (be4 n).length = 4 := rfl
theorem be8_length (n : Nat) : (be8 n).length = 8 := rfl

/-- The number that bytes tell, the highest one first. -/
def beNum (l : List UInt8) : Nat := l.foldl (fun n c => n * 256 + c.toNat) 0

theorem beNum_snoc (l : List UInt8) (c : UInt8) : beNum (l ++ [c]) = beNum l * 256 + c.toNat := by simp [beNum]
theorem beFold_lt : ∀ (l : List UInt8) (n : Nat), l.foldl (fun n c => n * 256 + c.toNat) n < (n + 1) * 256 ^ l.length
  | [], n => by simp
  | c :: l, n => by
    have h := beFold_lt l (n * 256 + c.toNat)
    have hc := c.toNat_lt
    rw [List.foldl_cons, List.length_cons, Nat.pow_succ]
    have h2 : (n * 256 + c.toNat + 1) * 256 ^ l.length ≤ ((n + 1) * 256) * 256 ^ l.length := Nat.mul_le_mul_right _ (by omega)
    have h3 : ((n + 1) * 256) * 256 ^ l.length = (n + 1) * (256 ^ l.length * 256) := by rw [Nat.mul_assoc, Nat.mul_comm 256]
    omega
theorem beNum_lt (l : List UInt8) : beNum l < 256 ^ l.length := by have := beFold_lt l 0; simpa [beNum] using this
theorem beNum_small (l : List UInt8) (k : Nat) (h : l.length ≤ k) : beNum l < 256 ^ k := Nat.lt_of_lt_of_le (beNum_lt l) (Nat.pow_le_pow_right (by omega) h)

theorem beNum_be2 (n : Nat) (h : n < 65536) : beNum (be2 n) = n := by
  simp [beNum, be2]
  omega
theorem beNum_append (l m : List UInt8) : beNum (l ++ m) = beNum l * 256 ^ m.length + beNum m := by
  have h : ∀ (m : List UInt8) (a : Nat), m.foldl (fun n c => n * 256 + c.toNat) a = a * 256 ^ m.length + m.foldl (fun n c => n * 256 + c.toNat) 0 := by
    intro m
    induction m with
    | nil => simp
    | cons c m ih =>
      intro a
      rw [List.foldl_cons, List.foldl_cons, ih, ih (0 * 256 + c.toNat), List.length_cons, Nat.pow_succ, Nat.add_mul, Nat.zero_mul, Nat.zero_add, Nat.mul_assoc, Nat.mul_comm 256]
      omega
  unfold beNum
  rw [List.foldl_append, h]
theorem beNum_be4 (n : Nat) (h : n < 4294967296) : beNum (be4 n) = n := by
  unfold be4
  rw [beNum_append, beNum_be2 _ (by omega), beNum_be2 _ (by omega), be2_length]
  omega
theorem beNum_be8 (n : Nat) (h : n < 18446744073709551616) : beNum (be8 n) = n := by
  unfold be8
  rw [beNum_append, beNum_be4 _ (by omega), beNum_be4 _ (by omega), be4_length]
  omega

theorem be2_beNum (l : List UInt8) (h : l.length = 2) : be2 (beNum l) = l := by
  match l, h with
  | [a, b], _ =>
    have ha := a.toNat_lt
    have hb := b.toNat_lt
    simp only [beNum, List.foldl_cons, List.foldl_nil, be2, Nat.zero_mul, Nat.zero_add]
    rw [show (a.toNat * 256 + b.toNat) / 256 = a.toNat by omega, show (a.toNat * 256 + b.toNat) % 256 = b.toNat by omega]
    simp
theorem be4_beNum (l : List UInt8) (h : l.length = 4) : be4 (beNum l) = l := by
  have e : l = l.take 2 ++ l.drop 2 := (List.take_append_drop 2 l).symm
  have h1 : (l.take 2).length = 2 := by simp; omega
  have h2 : (l.drop 2).length = 2 := by simp; omega
  have s1 := beNum_small (l.take 2) 2 (by omega)
  have s2 := beNum_small (l.drop 2) 2 (by omega)
  have hn : beNum l = beNum (l.take 2) * 65536 + beNum (l.drop 2) := by
    conv => lhs; rw [e]
    rw [beNum_append, h2]
  unfold be4
  rw [hn, show (beNum (l.take 2) * 65536 + beNum (l.drop 2)) / 65536 = beNum (l.take 2) by omega, show (beNum (l.take 2) * 65536 + beNum (l.drop 2)) % 65536 = beNum (l.drop 2) by omega, be2_beNum _ h1, be2_beNum _ h2]
  exact e.symm
theorem be8_beNum (l : List UInt8) (h : l.length = 8) : be8 (beNum l) = l := by
  have e : l = l.take 4 ++ l.drop 4 := (List.take_append_drop 4 l).symm
  have h1 : (l.take 4).length = 4 := by simp; omega
  have h2 : (l.drop 4).length = 4 := by simp; omega
  have s1 := beNum_small (l.take 4) 4 (by omega)
  have s2 := beNum_small (l.drop 4) 4 (by omega)
  have hn : beNum l = beNum (l.take 4) * 4294967296 + beNum (l.drop 4) := by
    conv => lhs; rw [e]
    rw [beNum_append, h2]
  unfold be8
  rw [hn, show (beNum (l.take 4) * 4294967296 + beNum (l.drop 4)) / 4294967296 = beNum (l.take 4) by omega, show (beNum (l.take 4) * 4294967296 + beNum (l.drop 4)) % 4294967296 = beNum (l.drop 4) by omega, be4_beNum _ h1, be4_beNum _ h2]
  exact e.symm
end
section
theorem Try.infoU8 : (Try.prog.info? 5).map (fun i => (i.zero, i.size, i.bytes)) = some (some (.int .u8 0), 1, 1) := by kernel_rfl

theorem be2_new {P : Program} {n : Int} (h0 : 0 ≤ n) (h1 : n ≤ 65535) (w : World) : (Builtin.firstCells 1 2 (.slice (some ⟨w.heap.size, 0, none⟩) 2 2)).run P (w.alloc (.cells #[.int .u8 (n / 256), .int .u8 (n % 256)] 5)) =
    .ok ((be2 n.toNat).map bv).toArray (w.alloc (.cells #[.int .u8 (n / 256), .int .u8 (n % 256)] 5)) := by
  rw [first_row (heap_alloc_new w _) 2 2 rfl]
  have e1 := bv_of (n / 256) (by omega) (by omega)
  have e2 := bv_of (n % 256) (by omega) (by omega)
  rw [show (n / 256).toNat = n.toNat / 256 by omega] at e1
  rw [show (n % 256).toNat = n.toNat % 256 by omega] at e2
  simp [be2, e1, e2]

theorem zero_new {P : Program} (w : World) : (Builtin.firstCells 1 1 (.slice (some ⟨w.heap.size, 0, none⟩) 1 1)).run P (w.alloc (.cells #[.int .u8 0] 5)) =
    .ok ([(0 : UInt8)].map bv).toArray (w.alloc (.cells #[.int .u8 0] 5)) := first_row (heap_alloc_new w _) 1 1 rfl

/-- The call made the slice v of the bytes l, anew. -/
def Made (v : Value) (l : List UInt8) (w w' : World) : Prop := Own w' v l ∧ Fr (fun _ => False) w w' ∧ (∀ k, v.ownBlock = some k → w.heap.size ≤ k)

theorem own_new2 {n : Int} (h0 : 0 ≤ n) (h1 : n ≤ 65535) (w : World) : Own (w.alloc (.cells #[.int .u8 (n / 256), .int .u8 (n % 256)] 5)) (.slice (some ⟨w.heap.size, 0, none⟩) 2 2) (be2 n.toNat) := by
  have e1 := bv_of (n / 256) (by omega) (by omega)
  have e2 := bv_of (n % 256) (by omega) (by omega)
  rw [show (n / 256).toNat = n.toNat / 256 by omega] at e1
  rw [show (n % 256).toNat = n.toNat % 256 by omega] at e2
  refine ⟨rfl, .inr ⟨w.heap.size, 2, _, rfl, Nat.zero_le _, heap_alloc_new w _, Nat.le_refl _, by unfold maxLen; omega, rfl, ?_⟩⟩
  simp [be2, e1, e2]

/-- Behind an append of bytes that were made anew to a slice that was made anew. -/
theorem Made.append {v1 v' : Value} {l1 l2 : List UInt8} {n : Nat} {w w1 w2 w3 : World} (h1 : Made v1 l1 w w1) (h2 : Fr (fun _ => False) w1 w2) (hn : n = l1.length + l2.length)
    (ho : w3.ownsRow 0 5 1 v' n (l1.map bv ++ l2.map bv)) (hg : w2.grownBy w3 v1.ownBlock) (hv : v'.ownBlock = v1.ownBlock ∨ v'.ownBlock = some w2.heap.size) : Made v' (l1 ++ l2) w w3 := by
  obtain ⟨o1, f1, k1⟩ := h1
  refine ⟨?_, (f1.trans h2 (fun _ _ h => h)).trans (Fr.of_grown hg) (fun i hi e => by have := k1 i e.symm; omega), ?_⟩
  · unfold Own
    rw [List.length_append, List.map_append, ← hn]
    exact ho
  · intro k hk
    rcases hv with e | e
    · exact k1 k (e ▸ hk)
    · rw [e] at hk; simp at hk; have := f1.size; have := h2.size; omega
end
section
/-- The list of bytes in two parts: what is owned, said of each part. -/
theorem own_split {w : World} {v : Value} {l : List UInt8} {s : ByteArray} (h : Own w v (l ++ s.data.toList)) : w.ownsRow 0 5 1 v (l.length + s.size) (l.map bv ++ s.data.toList.map bv) := by
  unfold Own at h
  rw [List.length_append, List.map_append] at h
  exact h

/-- The bytes of a text as a Writer lays them. -/
def txt (s : List UInt8) : List UInt8 := be2 s.length ++ s ++ (if s.length % 2 = 1 then [0] else [])

theorem bv_length (s : ByteArray) : (s.data.toList.map bv).length = s.size * 1 := by
  rw [List.length_map, Nat.mul_one]; rfl

theorem txt_even (l : List UInt8) (s : ByteArray) (h : ¬ s.size % 2 = 1) : l ++ txt s.data.toList = l ++ be2 (s.size : Int).toNat ++ s.data.toList := by
  unfold txt
  have e : s.data.toList.length = s.size := rfl
  rw [e, if_neg h, List.append_nil, Int.toNat_natCast]
  simp only [List.append_assoc]
theorem txt_odd (l : List UInt8) (s : ByteArray) (h : s.size % 2 = 1) : l ++ txt s.data.toList = l ++ be2 (s.size : Int).toNat ++ s.data.toList ++ [0] := by
  unfold txt
  have e : s.data.toList.length = s.size := rfl
  rw [e, if_pos h, Int.toNat_natCast]
  simp only [List.append_assoc]
end
section
theorem cell_of_two {w : World} {b : Nat} {v u : Value} {t : TypeId} (h : w.heap[b]? = some (.cells #[v, u] t (0, 0))) : w.cell? ⟨b, 0, none⟩ = some v ∧ w.cell? ⟨b, 1, none⟩ = some u ∧ w.frozen? ⟨b, 0, none⟩ = false ∧ w.frozen? ⟨b, 1, none⟩ = false := by
  simp [World.cell?, World.frozen?, h]

theorem two_setCell0 {w : World} {b : Nat} {v u : Value} {t : TypeId} (h : w.heap[b]? = some (.cells #[v, u] t (0, 0))) (x : Value) : (w.setCell ⟨b, 0, none⟩ x).heap[b]? = some (.cells #[x, u] t (0, 0)) := by
  rw [heap_setCell_same w b 0 _ t x h]; rfl
theorem two_setCell1 {w : World} {b : Nat} {v u : Value} {t : TypeId} (h : w.heap[b]? = some (.cells #[v, u] t (0, 0))) (x : Value) : (w.setCell ⟨b, 1, none⟩ x).heap[b]? = some (.cells #[v, x] t (0, 0)) := by
  rw [heap_setCell_same w b 1 _ t x h]; rfl

theorem clone_any (v : Value) (l : List UInt8) (w : World) (h : Sees w v l) (hl : l.length ≤ 2000000000) :
    Calls Try.prog 26 #[v] w fun e w' => ∃ v', e = .returned v' ∧ Own w' v' l ∧ Fr (fun _ => False) w w' ∧ (∀ k, v'.ownBlock = some k → w.heap.size ≤ k) := by
  obtain ⟨i0, hi, hz0, hz1, hz2⟩ := info_parts Try.infoU8
  obtain ⟨a, c, rfl, hn⟩ := h.shape
  have q1 : ∀ (w : World) (a : Option Addr) (n c : Nat), (binOp .eql 23 (.slice a n c) (.slice none 0 0)).run Try.prog w = .ok (.bool a.isNone) w := fun w a n c => Lib.run_eql_slice_nil w _ _ a n c 0 0 Try.underlying23
  cases a with
  | none =>
    have hl := hn rfl
    subst hl
    go_enter Try.func26, Try.ntmps26
    go_wp2
    go_ret
    exact ⟨_, rfl, World.ownsRow_nil _ _ _ _, Fr.refl _ _, fun k hk => by cases hk⟩
  | some a =>
    have Hn := Lib.hid hn; clear hn
    go_enter Try.func26, Try.ntmps26
    go_wp2_with (at_builtin; refine wpList_append_sep rfl (.tmp 5) (.tmp 6) 23 23 rfl 0 5 i0 (.int .u8 0) 1 1 Try.underlying23 _ Try.underlying23 (.inr ⟨_, rfl⟩) hi hz0 hz1 hz2 rfl (by decide) (.slice (some ⟨w.heap.size, 0, none⟩) 0 0) 0 [] rfl ?own _ l.length (l.map bv) rfl (lenOf_slice _ _ _) (by simp) ?c1 ?c2 (bv_one _) ?b1 ?b2 (Nat.zero_le _) ?grow)
    case own => exact World.ownsRow_made w #[] 0 (Nat.zero_le _) (by unfold maxLen; omega) rfl
    case c1 => exact (h.fr ((Fr.refl (fun _ => False) w).alloc _) (fun _ _ h => h)).first
    case c2 => exact (h.fr ((Fr.refl (fun _ => False) w).alloc _) (fun _ _ h => h)).drew.first
    case b1 => unfold maxLen; omega
    case b2 => omega
    case grow =>
      intro v' w1 hown hg hv
      have Ho := Lib.hid hown
      have Hg := Lib.hid hg
      have Hv := Lib.hid hv
      clear hown hg hv
      go_wp2
      go_ret
      refine ⟨v', rfl, Ho.out, ?_, ?_⟩
      · exact ((Fr.refl _ _).alloc (.cells #[] 5)).trans (Fr.of_grown Hg.out) (fun i hi e => by simp [Value.ownBlock] at e; omega)
      · intro k hk
        rcases Hv.out with e | e
        · rw [e] at hk; simp [Value.ownBlock] at hk; omega
        · rw [e] at hk; simp at hk; omega

/-- Fail, told of the bytes and the error. -/
def failS (st : List UInt8 × Int) (x : Int) : List UInt8 × Int := if x = 0 ∨ st.2 ≠ 0 then st else ([], x)

/-- The next k bytes, told of the bytes and the error. -/
def nextS (st : List UInt8 × Int) (k : Nat) : List UInt8 × (List UInt8 × Int) :=
  if st.1.length < k then ([], failS st 3) else (st.1.take k, (st.1.drop k, st.2))

theorem Sees.take {w : World} {a : Option Addr} {c k : Nat} {l : List UInt8} (h : Sees w (.slice a l.length c) l) (hk : k ≤ l.length) : Sees w (.slice a k c) (l.take k) := by
  rcases h with ⟨rfl, _⟩ | ⟨g, off, cap, e, hle, hc⟩
  · left; simp at hk; subst hk; exact ⟨rfl, _, _, rfl⟩
  · simp at e; obtain ⟨rfl, rfl⟩ := e
    right
    have hl : (l.take k).length = k := by simp; omega
    refine ⟨g, off, _, by rw [hl], by omega, fun j hj => ?_⟩
    rw [hc j (by omega)]
    simp [List.getD, show j < k by omega]

theorem Sees.drop_full {w : World} {a : Option Addr} {k : Nat} {l : List UInt8} (h : Sees w (.slice a l.length k) l) (hk : k ≤ l.length) :
    l.length = k := by
  rcases h with ⟨rfl, _⟩ | ⟨g, off, cap, e, hle, hc⟩
  · simp at hk; simp [hk]
  · simp at e; omega

theorem Sees.drop_part {w : World} {a : Option Addr} {c k : Nat} {l : List UInt8} (h : Sees w (.slice a l.length c) l) (hk : k ≤ l.length) :
    Sees w (.slice (a.map fun x => x.add k) (l.length - k) (c - k)) (l.drop k) := by
  rcases h with ⟨rfl, _⟩ | ⟨g, off, cap, e, hle, hc⟩
  · left; simp at hk; subst hk; exact ⟨by simp, _, _, rfl⟩
  · simp at e; obtain ⟨rfl, rfl⟩ := e
    right
    have hplain : (⟨g, off, none⟩ : Addr).add k = ⟨g, off + k, none⟩ := by unfold Addr.add; split <;> simp_all
    refine ⟨g, off + k, c - k, ?_, by simp; omega, fun j hj => ?_⟩
    · rw [Option.map_some, hplain, List.length_drop]
    · simp at hj
      rw [show off + k + j = off + (k + j) by omega, hc (k + j) (by omega)]
      simp [List.getD]

theorem part_block {a : Option Addr} {n c n' c' k : Nat} : (Value.slice (a.map fun x => x.add k) n c').ownBlock = (Value.slice a n' c).ownBlock := by
  cases a with
  | none => rfl
  | some a =>
    simp only [Option.map_some, Value.ownBlock, Addr.add]
    split <;> rfl

theorem or8 (n c : Nat) (hn : n < 256 ^ 7) (hc : c < 2 ^ 8) : bits .or .u64 ((n : Int) * 256) (c : Int) = ((n * 256 + c : Nat) : Int) := by
  have e : ((n : Int) * 256) = ((n * 256 : Nat) : Int) := by omega
  rw [e, u64_or_nat (n * 256) c (by omega) (by omega)]
  congr 1
  have h := Nat.two_pow_add_eq_or_of_lt (i := 8) (b := c) hc n
  rw [show n * 256 = 2 ^ 8 * n by omega]
  exact h.symm

/-- A number of k bytes. -/
def numS (st : List UInt8 × Int) (k : Nat) : Nat × (List UInt8 × Int) := (beNum (nextS st k).1, (nextS st k).2)

theorem nextS_len (st : List UInt8 × Int) (k : Nat) : (nextS st k).1.length ≤ k := by
  unfold nextS; split
  · simp
  · simp; omega

theorem nextS_full (st : List UInt8 × Int) (k : Nat) : (nextS st k).2.2 = 0 → (nextS st k).1.length = k := by
  unfold nextS
  split
  · unfold failS
    intro h
    exfalso
    split at h
    · rename_i h2; rcases h2 with h2 | h2
      · omega
      · exact h2 h
    · simp at h
  · intro _; simp; omega

theorem numS_small (st : List UInt8 × Int) (k : Nat) : (numS st k).1 < 256 ^ k := beNum_small _ _ (nextS_len st k)

/-- A Word that is at most most. -/
def withinS (st : List UInt8 × Int) (most : Int) : Nat × (List UInt8 × Int) :=
  if most < (numS st 2).1 then (0, failS (numS st 2).2 7) else numS st 2

/-- A text of at most most bytes. -/
def textS (st : List UInt8 × Int) (most : Int) : List UInt8 × (List UInt8 × Int) :=
  let n := withinS st most
  let p := nextS n.2 (n.1 + n.1 % 2)
  if p.2.2 ≠ 0 then ([], p.2) else if n.1 % 2 = 1 ∧ p.1.getD n.1 0 ≠ 0 then ([], failS p.2 4) else (p.1.take n.1, p.2)

theorem withinS_small (st : List UInt8 × Int) (most : Int) : (withinS st most).1 < 65536 := by
  unfold withinS; split
  · simp
  · exact numS_small _ _
end
section

end
section
/-- Two Writers that share no memory. -/
structure Off (b : Nat) (v : Value) (b' : Nat) (v' : Value) : Prop where
  ne : b ≠ b'
  own1 : v.ownBlock ≠ some b'
  own2 : v'.ownBlock ≠ some b
  both : ∀ k, v.ownBlock = some k → v'.ownBlock ≠ some k

theorem Off.symm {b : Nat} {v : Value} {b' : Nat} {v' : Value} (h : Off b v b' v') : Off b' v' b v :=
  ⟨fun e => h.ne e.symm, h.own2, h.own1, fun k hk e => h.both k e hk⟩

theorem Fr.trans0 {a b c : World} (h : Fr (fun _ => False) a b) (k : Fr (fun _ => False) b c) : Fr (fun _ => False) a c := h.trans k (fun _ _ h => h)

/-! What a Reader takes of bytes that begin as a Writer laid them. -/

theorem nextS_pre (p rest : List UInt8) (e : Int) : nextS (p ++ rest, e) p.length = (p, (rest, e)) := by
  unfold nextS
  rw [if_neg (by simp)]
  simp

theorem numS_be2 (n : Nat) (h : n < 65536) (rest : List UInt8) (e : Int) : numS (be2 n ++ rest, e) 2 = (n, (rest, e)) := by
  unfold numS
  rw [show (2 : Nat) = (be2 n).length from rfl, nextS_pre, beNum_be2 n h]
theorem numS_be4 (n : Nat) (h : n < 4294967296) (rest : List UInt8) (e : Int) : numS (be4 n ++ rest, e) 4 = (n, (rest, e)) := by
  unfold numS
  rw [show (4 : Nat) = (be4 n).length from rfl, nextS_pre, beNum_be4 n h]
theorem numS_be8 (n : Nat) (h : n < 18446744073709551616) (rest : List UInt8) (e : Int) : numS (be8 n ++ rest, e) 8 = (n, (rest, e)) := by
  unfold numS
  rw [show (8 : Nat) = (be8 n).length from rfl, nextS_pre, beNum_be8 n h]

theorem withinS_be2 (n : Nat) (h : n < 65536) (rest : List UInt8) (most : Int) (hm : (n : Int) ≤ most) (e : Int) : withinS (be2 n ++ rest, e) most = (n, (rest, e)) := by
  unfold withinS
  rw [numS_be2 n h, if_neg (by show ¬ most < (n : Int); omega)]

theorem textS_txt (s rest : List UInt8) (h : s.length < 65536) (most : Int) (hm : (s.length : Int) ≤ most) : textS (txt s ++ rest, 0) most = (s, (rest, 0)) := by
  unfold textS txt
  have hw : withinS (be2 s.length ++ s ++ (if s.length % 2 = 1 then [0] else []) ++ rest, 0) most = (s.length, (s ++ (if s.length % 2 = 1 then [0] else []) ++ rest, 0)) := by
    rw [List.append_assoc, List.append_assoc, withinS_be2 s.length h _ most hm, List.append_assoc]
  rw [hw]
  by_cases ho : s.length % 2 = 1
  · rw [if_pos ho]
    have hn : nextS (s ++ [0] ++ rest, 0) (s.length + s.length % 2) = (s ++ [0], (rest, 0)) := by
      rw [ho, show s.length + 1 = (s ++ [(0 : UInt8)]).length by simp, nextS_pre]
    simp only [hn]
    simp
  · rw [if_neg ho]
    have hn : nextS (s ++ [] ++ rest, 0) (s.length + s.length % 2) = (s, (rest, 0)) := by
      rw [show s.length % 2 = 0 by omega, Nat.add_zero, List.append_nil, nextS_pre]
    simp only [hn]
    simp [ho]

theorem txt_length (s : List UInt8) : (txt s).length = 2 + s.length + s.length % 2 := by
  unfold txt
  rw [List.length_append, List.length_append, be2_length]
  split
  · simp; omega
  · simp; omega

theorem str_of (s : ByteArray) : (⟨s.data.toList.toArray⟩ : ByteArray) = s := by simp
end
section
/-- A call and an answer, as values. -/
def cv (t n p : Int) (v : Value) : Value := .agg #[.int .u16 t, .int .u16 n, .int .i64 p, v]
def av (e r : Int) (v : Value) : Value := .agg #[.int .i64 e, .int .i64 r, v]

/-- Their encoding. -/
def callB (t n p : Int) (l : List UInt8) : List UInt8 := be2 t.toNat ++ be2 n.toNat ++ be2 p.toNat ++ txt l
def ansB (e r : Int) (l : List UInt8) : List UInt8 := be2 e.toNat ++ be2 r.toNat ++ txt l

/-- The first error of numbers that are Words, and so many bytes. -/
def okN (p : Int) : Bool := decide (0 ≤ p) && decide (p ≤ 65535)
def sizeN (n : Nat) : Int := if n ≤ 4000 then 0 else 6
def cchk (p : Int) (n : Nat) : Int := if okN p = true then sizeN n else 2
def achk (e r : Int) (n : Nat) : Int := if okN e = true then cchk r n else 2

theorem crow {w : World} {b : Nat} {cs : Array Value} {t : TypeId} (h : w.heap[b]? = some (.cells cs t (0, 0))) (i : Nat) (u : Value) (hu : cs[i]? = some u) : w.cell? ⟨b, i, none⟩ = some u := by
  simp only [World.cell?, h]
  simpa using hu

/-- The three ways of a number: below, above, a Word. -/
theorem three (p : Int) : (p < 0 ∧ okN p = false) ∨ ((decide (p < 0) = false ∧ (65535 : Int) < p) ∧ okN p = false) ∨ ((decide (p < 0) = false ∧ decide ((65535 : Int) < p) = false) ∧ okN p = true) := by
  unfold okN
  by_cases h0 : p < 0
  · left; simp; omega
  · by_cases h1 : 65535 < p
    · right; left; simp; omega
    · right; right; simp; omega
end
section
theorem new_two (w : World) (A B : Obj) : ((w.alloc A).alloc B).heap[w.heap.size + 1]? = some B := by
  have := heap_alloc_new (w.alloc A) B
  rw [World.size_alloc] at this
  exact this
end
section
namespace Crc

def poly : BitVec 32 := 0x04c11db7#32
/-- One step of the register with nothing put in. -/
def st (r : BitVec 32) : BitVec 32 := (r <<< 1) ^^^ (if r.msb then poly else 0#32)
/-- A bit at the highest place. -/
def top (m : Bool) : BitVec 32 := if m then 0x80000000#32 else 0#32
def cb (r : BitVec 32) (m : Bool) : BitVec 32 := st (r ^^^ top m)
def cbs (r : BitVec 32) (ms : List Bool) : BitVec 32 := ms.foldl cb r
def its : Nat → BitVec 32 → BitVec 32
  | 0, r => r
  | n + 1, r => its n (st r)

theorem st_zero : st 0#32 = 0#32 := by decide
theorem st_xor (a b : BitVec 32) : st (a ^^^ b) = st a ^^^ st b := by
  unfold st
  rw [BitVec.shiftLeft_xor_distrib, BitVec.msb_xor]
  cases ha : a.msb <;> cases hb : b.msb <;> simp
  · rw [BitVec.xor_assoc]
  · rw [BitVec.xor_assoc, BitVec.xor_assoc, BitVec.xor_comm (b <<< 1)]
  · rw [BitVec.xor_comm (b <<< 1) poly, BitVec.xor_assoc, ← BitVec.xor_assoc poly poly, BitVec.xor_self, BitVec.zero_xor]
theorem st_eq_zero {r : BitVec 32} (h : st r = 0#32) : r = 0#32 := by
  unfold st at h
  cases hm : r.msb with
  | true =>
    exfalso
    rw [hm] at h
    have h0 := congrArg (fun v => v.getLsbD 0) h
    simp [poly] at h0
  | false =>
    rw [hm] at h
    simp at h
    apply BitVec.eq_of_getLsbD_eq
    intro i hi
    by_cases h31 : i = 31
    · subst h31
      rw [BitVec.msb_eq_getLsbD_last] at hm
      simpa using hm
    · have h0 := congrArg (fun v => v.getLsbD (i + 1)) h
      simp at h0
      simpa using h0 (by omega)
theorem its_xor : ∀ (n : Nat) (a b : BitVec 32), its n (a ^^^ b) = its n a ^^^ its n b
  | 0, _, _ => rfl
  | n + 1, a, b => by rw [its, its, its, st_xor, its_xor n]
theorem its_zero : ∀ n : Nat, its n 0#32 = 0#32
  | 0 => rfl
  | n + 1 => by rw [its, st_zero, its_zero n]
theorem its_eq_zero : ∀ {n : Nat} {r : BitVec 32}, its n r = 0#32 → r = 0#32
  | 0, _, h => h
  | _ + 1, _, h => st_eq_zero (its_eq_zero h)
theorem its_inj {n : Nat} {a b : BitVec 32} (h : its n a = its n b) : a = b := by
  have h1 : its n (a ^^^ b) = 0#32 := by rw [its_xor, h, BitVec.xor_self]
  have h2 := its_eq_zero h1
  have h3 : a ^^^ b ^^^ b = 0#32 ^^^ b := by rw [h2]
  rw [BitVec.xor_assoc, BitVec.xor_self, BitVec.xor_zero, BitVec.zero_xor] at h3
  exact h3

theorem top_xor (a b : Bool) : top (a ^^ b) = top a ^^^ top b := by cases a <;> cases b <;> decide
theorem cb_xor (a b : BitVec 32) (m n : Bool) : cb (a ^^^ b) (m ^^ n) = cb a m ^^^ cb b n := by
  unfold cb
  rw [top_xor, ← st_xor]
  congr 1
  ac_rfl

def xorl : List Bool → List Bool → List Bool
  | a :: l, b :: m => (a ^^ b) :: xorl l m
  | l, [] => l
  | [], m => m

theorem cbs_xor : ∀ (ms ns : List Bool) (a b : BitVec 32), ms.length = ns.length → cbs (a ^^^ b) (xorl ms ns) = cbs a ms ^^^ cbs b ns
  | [], [], _, _, _ => rfl
  | m :: ms, n :: ns, a, b, h => by
    show cbs (cb (a ^^^ b) (m ^^ n)) (xorl ms ns) = cbs (cb a m) ms ^^^ cbs (cb b n) ns
    rw [cb_xor, cbs_xor ms ns _ _ (by simpa using h)]
  | [], _ :: _, _, _, h => by simp at h
  | _ :: _, [], _, _, h => by simp at h

theorem cbs_append (r : BitVec 32) (l m : List Bool) : cbs r (l ++ m) = cbs (cbs r l) m := List.foldl_append

/-- Bits laid from the highest place down. -/
def topl : List Bool → BitVec 32
  | [] => 0#32
  | m :: ms => top m ^^^ (topl ms >>> 1)

theorem top_bit (m : Bool) (i : Nat) : (top m).getLsbD i = (m && decide (i = 31)) := by
  unfold top
  cases m with
  | false => simp
  | true =>
    simp only [if_true, Bool.true_and]
    by_cases h : i < 32
    · have : ∀ j : Fin 32, (0x80000000#32).getLsbD j.val = decide (j.val = 31) := by decide
      exact this ⟨i, h⟩
    · rw [BitVec.getLsbD_of_ge _ _ (by omega)]
      simp; omega

theorem topl_bit : ∀ (ms : List Bool) (i : Nat), ms.length ≤ 32 → i < 32 → (topl ms).getLsbD (31 - i) = ms.getD i false
  | [], i, _, _ => by simp [topl]
  | m :: ms, 0, _, _ => by
    simp only [topl, BitVec.getLsbD_xor, top_bit, BitVec.getLsbD_ushiftRight, Nat.sub_zero, decide_true, Bool.and_true]
    rw [BitVec.getLsbD_of_ge _ _ (by omega)]
    simp
  | m :: ms, i + 1, h, hi => by
    have ih := topl_bit ms i (by simp at h; omega) (by omega)
    have e : 1 + (31 - (i + 1)) = 31 - i := by omega
    simp only [topl, BitVec.getLsbD_xor, top_bit, BitVec.getLsbD_ushiftRight, e, ih]
    have : decide (31 - (i + 1) = 31) = false := decide_eq_false (by omega)
    rw [this, Bool.and_false, Bool.false_xor, List.getD_cons_succ]

theorem topl_low (ms : List Bool) (h : ms.length ≤ 31) : (topl ms).getLsbD 0 = false := by
  have := topl_bit ms 31 (by omega) (by omega)
  rw [show 31 - 31 = 0 by rfl] at this
  rw [this, List.getD_eq_getElem?_getD, List.getElem?_eq_none (by omega)]
  rfl

theorem st_half (x : BitVec 32) (h : x.getLsbD 0 = false) : st (x >>> 1) = x := by
  unfold st
  have hm : (x >>> 1).msb = false := by
    rw [BitVec.msb_eq_getLsbD_last]
    simp
  rw [hm]
  simp
  apply BitVec.eq_of_getLsbD_eq
  intro i hi
  cases i with
  | zero => rw [h]; simp
  | succ i => simp [Nat.add_comm 1 i]; omega

theorem cbs_its : ∀ (ms : List Bool) (r : BitVec 32), ms.length ≤ 32 → cbs r ms = its ms.length (r ^^^ topl ms)
  | [], r, _ => by simp [cbs, its, topl]
  | m :: ms, r, h => by
    show cbs (cb r m) ms = _
    rw [cbs_its ms _ (by simp at h; omega)]
    have hl := topl_low ms (by simp at h; omega)
    show its ms.length (st (r ^^^ top m) ^^^ topl ms) = its ms.length (st (r ^^^ (top m ^^^ (topl ms >>> 1))))
    rw [← BitVec.xor_assoc, st_xor (r ^^^ top m), st_half _ hl]

theorem topl_ne {ms : List Bool} (h : ms.length ≤ 32) (ht : true ∈ ms) : topl ms ≠ 0#32 := by
  intro e
  obtain ⟨i, hi, hm⟩ := List.getElem_of_mem ht
  have h1 := topl_bit ms i h (by omega)
  rw [e, List.getD_eq_getElem?_getD, List.getElem?_eq_getElem hi, hm] at h1
  simp at h1

theorem cbs_zeros (r : BitVec 32) : ∀ n : Nat, cbs r (List.replicate n false) = its n r := by
  intro n
  induction n generalizing r with
  | zero => rfl
  | succ n ih =>
    show cbs (cb r false) (List.replicate n false) = its n (st r)
    rw [ih]
    unfold cb
    simp [top]

/-- A burst leaves a register that is not 0. -/
theorem burst (i j : Nat) (w : List Bool) (h : w.length ≤ 32) (ht : true ∈ w) : cbs 0#32 (List.replicate i false ++ w ++ List.replicate j false) ≠ 0#32 := by
  rw [cbs_append, cbs_append, cbs_zeros 0#32 i, its_zero, cbs_zeros, cbs_its w _ h, BitVec.zero_xor]
  intro e
  exact topl_ne h ht (its_eq_zero (its_eq_zero e))
theorem no_burst (n : Nat) : cbs 0#32 (List.replicate n false) = 0#32 := by rw [cbs_zeros, its_zero]

/-! ### Bytes -/

def byteBits (c : UInt8) : List Bool := [c.toNat.testBit 7, c.toNat.testBit 6, c.toNat.testBit 5, c.toNat.testBit 4, c.toNat.testBit 3, c.toNat.testBit 2, c.toNat.testBit 1, c.toNat.testBit 0]
def bits (l : List UInt8) : List Bool := l.flatMap byteBits
def ones : BitVec 32 := 0xffffffff#32
/-- The register behind bytes. -/
def reg (l : List UInt8) : BitVec 32 := cbs ones (bits l)
/-- The checksum. -/
def sum (l : List UInt8) : Nat := (~~~ reg l).toNat
/-- The bytes with their sum behind. -/
def summed (l : List UInt8) : List UInt8 := l ++ be4 (sum l)
/-- Whether the last four bytes are the sum of those before. -/
def right (l : List UInt8) : Bool := decide (4 ≤ l.length) && decide (l.drop (l.length - 4) = be4 (sum (l.take (l.length - 4))))

theorem sum_lt (l : List UInt8) : sum l < 4294967296 := (~~~ reg l).isLt
theorem bits_append (l m : List UInt8) : bits (l ++ m) = bits l ++ bits m := List.flatMap_append
theorem bits_length (l : List UInt8) : (bits l).length = 8 * l.length := by
  induction l with
  | nil => rfl
  | cons c l ih => simp only [bits, List.flatMap_cons, List.length_append, List.length_cons] at *; rw [ih]; show 8 + _ = _; omega

/-- The bits of a 32-bit number, the highest one first. -/
def wordBits (v : BitVec 32) : List Bool := (List.range 32).map fun i => v.getLsbD (31 - i)

theorem topl_word (v : BitVec 32) : topl (wordBits v) = v := by
  apply BitVec.eq_of_getLsbD_eq
  intro i hi
  have h := topl_bit (wordBits v) (31 - i) (by simp [wordBits]) (by omega)
  rw [show 31 - (31 - i) = i by omega] at h
  rw [h]
  simp [wordBits, List.getD, show 31 - i < 32 by omega, show 31 - (31 - i) = i by omega]

theorem bits_be4 (n : Nat) (h : n < 4294967296) : bits (be4 n) = wordBits (BitVec.ofNat 32 n) := by
  have hb : ∀ k, k < 256 → ∀ i, (UInt8.ofNat k).toNat.testBit i = k.testBit i := by
    intro k hk i
    rw [show (UInt8.ofNat k).toNat = k by simp; omega]
  have ht : ∀ (k a i : Nat), i < 8 → (k / 2 ^ a % 256).testBit i = k.testBit (a + i) := by
    intro k a i hi
    rw [show (256 : Nat) = 2 ^ 8 from rfl, Nat.testBit_mod_two_pow, Nat.testBit_div_two_pow]
    simp [hi, Nat.add_comm]
  have e1 : n / 65536 / 256 = n / 2 ^ 24 % 256 := by omega
  have e2 : n / 65536 % 256 = n / 2 ^ 16 % 256 := by omega
  have e3 : n % 65536 / 256 = n / 2 ^ 8 % 256 := by omega
  have e4 : n % 65536 % 256 = n / 2 ^ 0 % 256 := by omega
  have l1 : n / 2 ^ 24 % 256 < 256 := by omega
  have l2 : n / 2 ^ 16 % 256 < 256 := by omega
  have l3 : n / 2 ^ 8 % 256 < 256 := by omega
  have l4 : n / 2 ^ 0 % 256 < 256 := by omega
  have hw : ∀ i, i < 32 → (BitVec.ofNat 32 n).getLsbD i = n.testBit i := by
    intro i hi
    rw [BitVec.getLsbD_ofNat]
    simp [hi]
  unfold be4 be2
  rw [e1, e2, e3, e4]
  simp only [bits, byteBits, List.cons_append, List.nil_append, List.flatMap_cons, List.flatMap_nil, List.append_nil, hb _ l1, hb _ l2, hb _ l3, hb _ l4, ht _ _ _ (by omega : (0:Nat) < 8), ht _ _ _ (by omega : (1:Nat) < 8), ht _ _ _ (by omega : (2:Nat) < 8), ht _ _ _ (by omega : (3:Nat) < 8), ht _ _ _ (by omega : (4:Nat) < 8), ht _ _ _ (by omega : (5:Nat) < 8), ht _ _ _ (by omega : (6:Nat) < 8), ht _ _ _ (by omega : (7:Nat) < 8)]
  have hr : List.range 32 = [0, 1, 2, 3, 4, 5, 6, 7, 8, 9, 10, 11, 12, 13, 14, 15, 16, 17, 18, 19, 20, 21, 22, 23, 24, 25, 26, 27, 28, 29, 30, 31] := by decide
  unfold wordBits
  rw [hr]
  simp only [List.map_cons, List.map_nil]
  simp only [hw _ (by omega : (31 : Nat) - 0 < 32), hw _ (by omega : (31 : Nat) - 1 < 32), hw _ (by omega : (31 : Nat) - 2 < 32), hw _ (by omega : (31 : Nat) - 3 < 32), hw _ (by omega : (31 : Nat) - 4 < 32), hw _ (by omega : (31 : Nat) - 5 < 32), hw _ (by omega : (31 : Nat) - 6 < 32), hw _ (by omega : (31 : Nat) - 7 < 32),
    hw _ (by omega : (31 : Nat) - 8 < 32), hw _ (by omega : (31 : Nat) - 9 < 32), hw _ (by omega : (31 : Nat) - 10 < 32), hw _ (by omega : (31 : Nat) - 11 < 32), hw _ (by omega : (31 : Nat) - 12 < 32), hw _ (by omega : (31 : Nat) - 13 < 32), hw _ (by omega : (31 : Nat) - 14 < 32), hw _ (by omega : (31 : Nat) - 15 < 32),
    hw _ (by omega : (31 : Nat) - 16 < 32), hw _ (by omega : (31 : Nat) - 17 < 32), hw _ (by omega : (31 : Nat) - 18 < 32), hw _ (by omega : (31 : Nat) - 19 < 32), hw _ (by omega : (31 : Nat) - 20 < 32), hw _ (by omega : (31 : Nat) - 21 < 32), hw _ (by omega : (31 : Nat) - 22 < 32), hw _ (by omega : (31 : Nat) - 23 < 32),
    hw _ (by omega : (31 : Nat) - 24 < 32), hw _ (by omega : (31 : Nat) - 25 < 32), hw _ (by omega : (31 : Nat) - 26 < 32), hw _ (by omega : (31 : Nat) - 27 < 32), hw _ (by omega : (31 : Nat) - 28 < 32), hw _ (by omega : (31 : Nat) - 29 < 32), hw _ (by omega : (31 : Nat) - 30 < 32), hw _ (by omega : (31 : Nat) - 31 < 32)]

theorem be4_inj {a b : Nat} (ha : a < 4294967296) (hb : b < 4294967296) (h : be4 a = be4 b) : a = b := by
  rw [← beNum_be4 a ha, ← beNum_be4 b hb, h]

theorem ones_xor (v : BitVec 32) : v ^^^ ones = ~~~ v := by
  apply BitVec.eq_of_getLsbD_eq
  intro i hi
  have : ∀ j : Fin 32, ones.getLsbD j.val = true := by decide
  rw [BitVec.getLsbD_xor, this ⟨i, hi⟩, BitVec.getLsbD_not]
  simp [hi]

/-- The register behind bytes and a word. -/
theorem reg_be4 (l : List UInt8) (n : Nat) (h : n < 4294967296) : reg (l ++ be4 n) = its 32 (reg l ^^^ BitVec.ofNat 32 n) := by
  unfold reg
  rw [bits_append, cbs_append, bits_be4 n h, cbs_its _ _ (by simp [wordBits]), topl_word]
  simp [wordBits]

/-- Right bytes are those behind which the register is one and the same. -/
theorem right_iff (l : List UInt8) (h : 4 ≤ l.length) : right l = true ↔ reg l = its 32 ones := by
  have hl : l.take (l.length - 4) ++ l.drop (l.length - 4) = l := List.take_append_drop _ _
  have hd : (l.drop (l.length - 4)).length = 4 := by simp; omega
  have hq := be4_beNum _ hd
  have hs := beNum_small (l.drop (l.length - 4)) 4 (by omega)
  have hs' : beNum (l.drop (l.length - 4)) < 4294967296 := hs
  have hreg : reg l = its 32 (reg (l.take (l.length - 4)) ^^^ BitVec.ofNat 32 (beNum (l.drop (l.length - 4)))) := by
    conv => lhs; rw [← hl, ← hq]
    exact reg_be4 _ _ hs'
  unfold right
  simp only [h, decide_true, Bool.true_and, decide_eq_true_eq]
  rw [hreg]
  constructor
  · intro e
    have e2 : beNum (l.drop (l.length - 4)) = sum (l.take (l.length - 4)) := by rw [e]; exact beNum_be4 _ (sum_lt _)
    rw [e2]
    unfold sum
    rw [BitVec.ofNat_toNat, BitVec.setWidth_eq, ← ones_xor, ← BitVec.xor_assoc, BitVec.xor_self, BitVec.zero_xor]
  · intro e
    have e1 := its_inj e
    have e2 : BitVec.ofNat 32 (beNum (l.drop (l.length - 4))) = ~~~ reg (l.take (l.length - 4)) := by
      rw [← ones_xor, ← e1, ← BitVec.xor_assoc, BitVec.xor_self, BitVec.zero_xor]
    have e3 : sum (l.take (l.length - 4)) = beNum (l.drop (l.length - 4)) := by
      unfold sum
      rw [← e2, BitVec.toNat_ofNat]
      omega
    rw [e3, hq]

theorem right_summed (l : List UInt8) : right (summed l) = true := by
  have hn : (summed l).length = l.length + 4 := by unfold summed; rw [List.length_append, be4_length]
  rw [right_iff _ (by omega)]
  unfold summed
  rw [reg_be4 _ _ (sum_lt l)]
  unfold sum
  rw [BitVec.ofNat_toNat, BitVec.setWidth_eq, ← ones_xor, ← BitVec.xor_assoc, BitVec.xor_self, BitVec.zero_xor]

/-- Bytes changed by others, one by one. -/
def xorb : List UInt8 → List UInt8 → List UInt8
  | a :: l, b :: m => (a ^^^ b) :: xorb l m
  | l, [] => l
  | [], m => m

theorem byteBits_xor (a b : UInt8) : byteBits (a ^^^ b) = xorl (byteBits a) (byteBits b) := by
  simp only [byteBits, xorl, UInt8.toNat_xor, Nat.testBit_xor]
theorem xorl_append : ∀ (a b c d : List Bool), a.length = b.length → xorl (a ++ c) (b ++ d) = xorl a b ++ xorl c d
  | [], [], _, _, _ => rfl
  | x :: a, y :: b, c, d, h => by
    show (x ^^ y) :: xorl (a ++ c) (b ++ d) = (x ^^ y) :: (xorl a b ++ xorl c d)
    rw [xorl_append a b c d (by simpa using h)]
  | [], _ :: _, _, _, h => by simp at h
  | _ :: _, [], _, _, h => by simp at h
theorem bits_xor : ∀ (l m : List UInt8), l.length = m.length → bits (xorb l m) = xorl (bits l) (bits m)
  | [], [], _ => rfl
  | a :: l, b :: m, h => by
    show byteBits (a ^^^ b) ++ bits (xorb l m) = xorl (byteBits a ++ bits l) (byteBits b ++ bits m)
    rw [xorl_append (byteBits a) (byteBits b) _ _ rfl, byteBits_xor, bits_xor l m (by simpa using h)]
  | [], _ :: _, h => by simp at h
  | _ :: _, [], h => by simp at h

/-- The register is linear: bytes changed by others differ by what those alone leave. -/
theorem reg_xor (l m : List UInt8) (h : l.length = m.length) : reg (xorb l m) = reg l ^^^ cbs 0#32 (bits m) := by
  unfold reg
  rw [bits_xor l m h]
  have := cbs_xor (bits l) (bits m) ones 0#32 (by rw [bits_length, bits_length, h])
  rw [BitVec.xor_zero] at this
  exact this

theorem xorb_length : ∀ (l m : List UInt8), l.length = m.length → (xorb l m).length = l.length
  | [], [], _ => rfl
  | a :: l, b :: m, h => by show (xorb l m).length + 1 = l.length + 1; rw [xorb_length l m (by simpa using h)]
  | [], _ :: _, h => by simp at h
  | _ :: _, [], h => by simp at h

/-- Right bytes, changed: they are right just if what was changed leaves nothing. -/
theorem right_xor (l m : List UInt8) (h : l.length = m.length) (h4 : 4 ≤ l.length) (hr : right l = true) : right (xorb l m) = true ↔ cbs 0#32 (bits m) = 0#32 := by
  rw [right_iff _ (by rw [xorb_length l m h]; exact h4), reg_xor l m h, (right_iff l h4).1 hr]
  constructor
  · intro e
    have : its 32 ones ^^^ (its 32 ones ^^^ cbs 0#32 (bits m)) = its 32 ones ^^^ its 32 ones := by rw [e]
    rw [← BitVec.xor_assoc, BitVec.xor_self, BitVec.zero_xor] at this
    exact this
  · intro e; rw [e, BitVec.xor_zero]

end Crc
end
section
theorem bits_xor_nat (k : IntKind) (j : Nat) (hj : j ≤ k.bits) (hk : ∀ n : Int, 0 ≤ n → n < 2 ^ j → k.wrap n = n) (a b : Nat) (ha : a < 2 ^ j) (hb : b < 2 ^ j) :
    bits .xor k a b = ((a ^^^ b : Nat) : Int) := by
  have hp : 2 ^ j ≤ 2 ^ k.bits := Nat.pow_le_pow_right (by decide) hj
  have ha' : a % 2 ^ k.bits = a := Nat.mod_eq_of_lt (Nat.lt_of_lt_of_le ha hp)
  have hb' : b % 2 ^ k.bits = b := Nat.mod_eq_of_lt (Nat.lt_of_lt_of_le hb hp)
  simp only [bits, BitVec.ofInt_natCast, BitVec.toNat_xor, BitVec.toNat_ofNat, ha', hb']
  exact hk _ (Int.natCast_nonneg _) (by exact_mod_cast Nat.xor_lt_two_pow ha hb)

theorem wraps_u32 (n : Int) (h₀ : 0 ≤ n) (h₁ : n < 2 ^ 32) : IntKind.u32.wrap n = n := by rw [IntKind.wrap_u32]; omega

theorem xor_u32 (a b : Nat) (ha : a < 4294967296) (hb : b < 4294967296) : bits .xor .u32 (a : Int) (b : Int) = ((a ^^^ b : Nat) : Int) :=
  bits_xor_nat .u32 32 (by decide) wraps_u32 a b ha hb
theorem xor_u8 (a b : Nat) (ha : a < 256) (hb : b < 256) : bits .xor .u8 (a : Int) (b : Int) = ((a ^^^ b : Nat) : Int) :=
  bits_xor_nat .u8 8 (by decide) wraps_u8 a b ha hb

namespace Crc
theorem st_nat (q : BitVec 32) : ((st q).toNat : Int) = if (q.toNat : Int) / 2147483648 == 1 then Go.bits .xor .u32 ((q.toNat : Int) * 2 % 4294967296) 79764919 else (q.toNat : Int) * 2 % 4294967296 := by
  have hq := q.isLt
  have hm : q.msb = ((q.toNat : Int) / 2147483648 == 1) := by
    rw [BitVec.msb_eq_decide]
    by_cases h : 2 ^ (32 - 1) ≤ q.toNat
    · rw [decide_eq_true h]; symm; rw [beq_iff_eq]; omega
    · rw [decide_eq_false h]; symm; rw [beq_eq_false_iff_ne]; omega
  have e2 : (q.toNat : Int) * 2 % 4294967296 = ((q.toNat * 2 % 4294967296 : Nat) : Int) := by omega
  have e3 : (q <<< 1).toNat = q.toNat * 2 % 4294967296 := by
    rw [BitVec.toNat_shiftLeft, Nat.shiftLeft_eq]
  rw [← hm, e2]
  unfold st
  cases q.msb with
  | false =>
    simp only [Bool.false_eq_true, if_false, BitVec.xor_zero]
    rw [e3]
  | true =>
    simp only [if_true]
    rw [show (79764919 : Int) = ((79764919 : Nat) : Int) from rfl, xor_u32 _ _ (by omega) (by omega), BitVec.toNat_xor, e3]
    rfl
end Crc

def regv (r : BitVec 32) : Value := .int .u32 r.toNat

theorem Crc.topl_byte (c : UInt8) : (Crc.topl (Crc.byteBits c)).toNat = c.toNat * 16777216 := by
  have h : ∀ k : Fin 256, (Crc.topl (Crc.byteBits (UInt8.ofNat k.val))).toNat = (UInt8.ofNat k.val).toNat * 16777216 := by decide +kernel
  have := h ⟨c.toNat, c.toNat_lt⟩
  simpa using this

theorem Crc.cbs_byte (q : BitVec 32) (c : UInt8) : Crc.its 8 (q ^^^ Crc.topl (Crc.byteBits c)) = Crc.cbs q (Crc.byteBits c) := by
  rw [Crc.cbs_its _ _ (by simp [Crc.byteBits])]
  rfl

theorem Crc.xor_byte (q : BitVec 32) (c : UInt8) : Go.bits .xor .u32 (q.toNat : Int) ((c.toNat : Int) * 16777216) = ((q ^^^ Crc.topl (Crc.byteBits c)).toNat : Int) := by
  have hc := c.toNat_lt
  rw [show (c.toNat : Int) * 16777216 = ((c.toNat * 16777216 : Nat) : Int) by omega, xor_u32 _ _ q.isLt (by omega), BitVec.toNat_xor, Crc.topl_byte]

theorem Crc.not_reg (q : BitVec 32) : Go.bits .xor .u32 IntKind.u32.max (q.toNat : Int) = ((~~~ q).toNat : Int) := by
  rw [show IntKind.u32.max = ((4294967295 : Nat) : Int) from rfl, xor_u32 _ _ (by omega) q.isLt, ← Crc.ones_xor, BitVec.toNat_xor, Nat.xor_comm]
  rfl
end
end Go.Proofs.Ytcjfinabffpgkaa
