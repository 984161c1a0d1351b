/-
  LetAny, part 1 of what it rests on: App, Gen, Bytes, Made, Writer.
-/
import Derived.Test.YtjnbpgadgdjobaaProg
import Derived.KernelRfl
import Derived.WalkKit
import Derived.WalkSpells
import Derived.WalkLawsBesides
import Derived.OneCell
import Derived.Lib.Hide
import Derived.Handy
set_option linter.unusedVariables false
set_option linter.unusedSimpArgs false
set_option maxHeartbeats 64000000
namespace Go.Proofs.Ytjnbpgadgdjobaa
open Go.RowKit
open Go.Lib (hid)
section
/-- Between w and w' only the blocks in S (and new ones) may have changed. -/
structure Fr (S : Nat → Prop) (w w' : World) : Prop where
  os : w'.os = w.os
  tape : w'.tape = w.tape
  output : w'.output = w.output
  size : w.heap.size ≤ w'.heap.size
  block : ∀ k, k < w.heap.size → ¬ S k → w'.heap[k]? = w.heap[k]?

theorem Fr.refl (S : Nat → Prop) (w : World) : Fr S w w := ⟨rfl, rfl, rfl, Nat.le_refl _, fun _ _ _ => rfl⟩

theorem Fr.trans {S T : Nat → Prop} {a b c : World} (h : Fr S a b) (k : Fr T b c) (hT : ∀ i, i < a.heap.size → T i → S i) : Fr S a c :=
  ⟨k.os.trans h.os, k.tape.trans h.tape, k.output.trans h.output, Nat.le_trans h.size k.size,
   fun i hi hs => (k.block i (Nat.lt_of_lt_of_le hi h.size) (fun ht => hs (hT i hi ht))).trans (h.block i hi hs)⟩

theorem Fr.mono {S T : Nat → Prop} {a b : World} (h : Fr S a b) (hT : ∀ i, i < a.heap.size → S i → T i) : Fr T a b :=
  ⟨h.os, h.tape, h.output, h.size, fun i hi hs => h.block i hi (fun x => hs (hT i hi x))⟩

theorem Fr.drew {S : Nat → Prop} {a b : World} (h : Fr S a b) : Fr S a b.drew := ⟨h.os, h.tape, h.output, h.size, h.block⟩

theorem Fr.alloc {S : Nat → Prop} {a b : World} (h : Fr S a b) (o : Obj) : Fr S a (b.alloc o) :=
  ⟨h.os, h.tape, h.output, by have := h.size; show _ ≤ (b.heap.push o).size; rw [Array.size_push]; omega, fun i hi hs => by
    rw [Below.heap_alloc _ _ _ (Nat.lt_of_lt_of_le hi h.size)]; exact h.block i hi hs⟩

theorem Fr.setCell {S : Nat → Prop} {a b : World} (h : Fr S a b) {p : Addr} (hp : p.block < a.heap.size → S p.block) (u : Value) : Fr S a (b.setCell p u) :=
  ⟨h.os, h.tape, h.output, by have := h.size; simp [World.setCell]; omega, fun i hi hs => by
    rw [Below.heap_setCell _ _ _ _ (fun e => hs (by rw [e]; exact hp (by omega)))]; exact h.block i hi hs⟩

theorem Fr.set1 {b : Nat} {a c : World} (h : Fr (fun k => k = b) a c) (i : Nat) (u : Value) : Fr (fun k => k = b) a (c.setCell ⟨b, i, none⟩ u) :=
  h.setCell (p := ⟨b, i, none⟩) (fun _ => rfl) u

theorem Fr.of_grown {a b : World} {row : Option Nat} (h : a.grownBy b row) : Fr (fun k => some k = row) a b :=
  ⟨h.os, h.tape, h.output, h.size, fun i hi hs => h.block i hi hs⟩

theorem Fr.below {S : Nat → Prop} {B : Nat} {a b : World} (h : Fr S a b) (hB : B ≤ a.heap.size) (hS : ∀ i, i < B → ¬ S i) : Below B a b :=
  ⟨h.os, h.tape, h.output, h.size, fun i hi => h.block i (Nat.lt_of_lt_of_le hi hB) (hS i hi)⟩

theorem Fr.cell {S : Nat → Prop} {w w' : World} (h : Fr S w w') {p : Addr} (hp : p.block < w.heap.size) (hs : ¬ S p.block) : w'.cell? p = w.cell? p :=
  World.cell?_of_block (w := w) (h.block p.block hp hs)

/-- Append onto a slice that is owned alone: from whatever source whose first cells are known. -/
theorem run_append_sep {P : Program} (w : World) (base : Nat) (t u ty e : TypeId) (i : TypeInfo) (z : Value) (size bytes : Nat) (ht : P.underlying t = some (.slice e)) (du : TypeDesc) (hu : P.underlying u = some du) (hud : du = .string ∨ ∃ e', du = .slice e')
    (hi : P.info? e = some i) (hz : i.zero = some z)
    (hsize : i.size = size) (hby : i.bytes = bytes) (hzs : z.cells.size = size) (hsz : 0 < size)
    (v : Value) (n : Nat) (xs : List Value) (hown : w.ownsRow base e size v n xs)
    (x : Value) (m : Nat) (news : List Value) (hlen : ∀ w, (Builtin.lenOf x).run P w = .ok m w) (hl : news.length = m * size)
    (hc : (Builtin.firstCells size m x).run P w = .ok news.toArray w) (hc' : (Builtin.firstCells size m x).run P w.drew = .ok news.toArray w.drew) (h1 : ∀ u ∈ news, u.oneCell' = true)
    (h63 : n + m ≤ maxLen) (hbytes : (n + m) * bytes ≤ 140737488355328) (hbase : base ≤ w.heap.size) :
    ∃ v' w', (Builtin.append_ #[t, u] ty #[v, x]).run P w = .ok v' w' ∧ w'.ownsRow base e size v' (n + m) (xs ++ news) ∧ w.grownBy w' v.ownBlock ∧
      (v'.ownBlock = v.ownBlock ∨ v'.ownBlock = some w.heap.size) := by
  subst hsize
  subst hby
  have hsmall : n + m ≤ 9223372036854775807 := by simp only [maxLen] at h63; omega
  have hlen2 : (xs ++ news).length = (n + m) * i.size := by rw [List.length_append, hown.1, hl, Nat.add_mul]
  have grown : ∀ (old : Nat), old < n + m → ∀ (row : Option Nat),
      (w.drew.alloc (.cells (xs.toArray ++ news.toArray ++ Builtin.zeroCells z.cells (grownCap w (n + m) old e - (n + m))) e)).ownsRow base e i.size
        (.slice (some ⟨w.heap.size, 0, none⟩) (n + m) (grownCap w (n + m) old e)) (n + m) (xs ++ news) ∧
      w.grownBy (w.drew.alloc (.cells (xs.toArray ++ news.toArray ++ Builtin.zeroCells z.cells (grownCap w (n + m) old e - (n + m))) e)) row := by
    intro old ho row
    have hge := grownCap_ge w (n + m) old e
    have hcm : grownCap w (n + m) old e ≤ maxLen := grownCap_le_maxLen w (n + m) old e h63
    refine ⟨⟨hlen2, .inr ⟨w.heap.size, _, _, rfl, hbase, heap_alloc_new w.drew _, hge, hcm, ?_, ?_⟩⟩, ⟨rfl, rfl, rfl, by simp, fun k hk _ => Below.heap_alloc w.drew _ k hk⟩⟩
    · simp only [Array.size_append, List.size_toArray, size_zeroCells, hzs, hown.1, hl, ← Nat.add_mul]
      congr 1
      omega
    · simp only [Array.toList_append, List.append_assoc]
      rw [← List.append_assoc, ← hlen2]
      exact List.take_left
  have hl1 := hlen w
  rcases hown.2 with ⟨rfl, rfl⟩ | ⟨g, cap, cur, rfl, hbg, hg, hnc, hcm, hcs, htake⟩
  · have hx : xs = [] := List.eq_nil_of_length_eq_zero (by simpa using hown.1)
    subst hx
    by_cases hm : m = 0
    · subst hm
      have hn : news = [] := List.eq_nil_of_length_eq_zero (by simpa using hl)
      subst hn
      refine ⟨.slice none 0 0, w, ?_, World.ownsRow_nil w base e i.size, ⟨rfl, rfl, rfl, Nat.le_refl _, fun _ _ _ => rfl⟩, .inl rfl⟩
      rcases hud with rfl | ⟨e', rfl⟩ <;> simp [Builtin.append_, run_underlying ht, run_underlying hu, sizeOf, typeInfo, hi, hl1, hc]
    · have hm63 : ¬ (9223372036854775807 < (m : Int)) := by omega
      have hm48 : ¬ (281474976710656 < Builtin.nextslicecap m 0 * i.bytes) := by rw [nextslicecap_zero (by omega)]; have hb := hbytes; simp only [Nat.zero_add] at hb; omega
      have hgr := grown 0 (by omega) (Value.ownBlock (.slice none 0 0))
      simp only [Nat.zero_add, List.nil_append, Array.empty_append] at hgr ⊢
      refine ⟨_, _, ?_, hgr.1, hgr.2, .inr rfl⟩
      rcases hud with rfl | ⟨e', rfl⟩ <;> simp [Builtin.append_, run_underlying ht, run_underlying hu, sizeOf, typeInfo, zeroValue, hi, hz, hl1, hm, hm63, hm48, Question.forced, run_firstCells_none, hc', newRow, grownCap]
  · by_cases hroom : n + m ≤ cap
    · have hfit : n * i.size + news.length ≤ cur.size := by rw [hl, hcs, ← Nat.add_mul]; exact Nat.mul_le_mul_right _ hroom
      have hst := run_storeCells_at P g (n * i.size) e news 0 cur w hg (by simpa using hfit) h1
      simp only [Nat.add_zero] at hst
      refine ⟨.slice (some ⟨g, 0, none⟩) (n + m) cap, w.setRow g (cur.toList.take (n * i.size) ++ news ++ cur.toList.drop (n * i.size + news.length)).toArray, ?_, ⟨hlen2, .inr ⟨g, cap, _, rfl, hbg, setRow_heap w g cur _ e _ hg, hroom, hcm, ?_, ?_⟩⟩, ⟨rfl, rfl, rfl, by simp, fun k _ hk => setRow_other w g k _ (fun e => hk (by simp [Value.ownBlock, e]))⟩, .inl rfl⟩
      · rcases hud with rfl | ⟨e', rfl⟩ <;> simp [Builtin.append_, run_underlying ht, run_underlying hu, sizeOf, typeInfo, hi, hl1, hroom, hc, Addr.add_lit, hst]
      · simp only [List.size_toArray, List.length_append, List.length_take, List.length_drop, Array.length_toList]
        omega
      · rw [htake, ← hlen2]
        exact List.take_left
    · have holds : ∀ j u, xs[j]? = some u → w.cell? ((⟨g, 0, none⟩ : Addr).add j) = some u := hown.cells (g := g) rfl
      have hn63 : ¬ (9223372036854775807 < ((n : Int) + (m : Int))) := by omega
      have hn48 : ¬ (281474976710656 < Builtin.nextslicecap (n + m) cap * i.bytes) := by have := growslice_fits (need := n + m) (old := cap) (bytes := i.bytes) (by omega) hbytes; omega
      have hfo := run_firstCells_some (P := P) w.drew i.size n ⟨g, 0, none⟩ n cap xs hown.1 (by simpa using holds)
      have hgr := grown cap (by omega) (Value.ownBlock (.slice (some ⟨g, 0, none⟩) n cap))
      refine ⟨_, _, ?_, hgr.1, hgr.2, .inr rfl⟩
      rcases hud with rfl | ⟨e', rfl⟩ <;> (simp [Builtin.append_, run_underlying ht, run_underlying hu, sizeOf, typeInfo, zeroValue, hi, hz, hl1, hroom, hn63, hn48, Question.forced, hc', hfo, newRow, grownCap]; congr 2; apply Array.ext'; simp [List.append_assoc])

theorem wpList_append_sep {P : Program} {w : World} {ops : Array Oper} {rest : List Oper} {o : Oper} {a : Act} {Q : Exit → Act → World → Prop} (hgd : o.guard = none) (s x : Operand) (t u : TypeId)
    (ho : o.op = .call { callee := .builtin .append, args := #[s, x], argTypes := #[t, u] })
    (base : Nat) (e : TypeId) (i : TypeInfo) (z : Value) (size bytes : Nat) (ht : P.underlying t = some (.slice e)) (du : TypeDesc) (hu : P.underlying u = some du) (hud : du = .string ∨ ∃ e', du = .slice e')
    (hi : P.info? e = some i) (hz : i.zero = some z)
    (hsize : i.size = size) (hby : i.bytes = bytes) (hzs : z.cells.size = size) (hsz : 0 < size)
    (v : Value) (n : Nat) (xs : List Value) (hs : a.eval s = v) (hown : w.ownsRow base e size v n xs)
    (xv : Value) (m : Nat) (news : List Value) (hx : a.eval x = xv) (hlen : ∀ w, (Builtin.lenOf xv).run P w = .ok m w) (hl : news.length = m * size)
    (hc : (Builtin.firstCells size m xv).run P w = .ok news.toArray w) (hc' : (Builtin.firstCells size m xv).run P w.drew = .ok news.toArray w.drew) (h1 : ∀ u ∈ news, u.oneCell' = true)
    (h63 : n + m ≤ maxLen) (hbytes : (n + m) * bytes ≤ 140737488355328) (hbase : base ≤ w.heap.size)
    (h : ∀ v' w', w'.ownsRow base e size v' (n + m) (xs ++ news) → w.grownBy w' v.ownBlock → (v'.ownBlock = v.ownBlock ∨ v'.ownBlock = some w.heap.size) → wpList P ops Q rest (a.put o.dst v') w') : wpList P ops Q (o :: rest) a w := by
  obtain ⟨v', w', hr, h2, h3, h4⟩ := run_append_sep (P := P) w base t u o.type e i z size bytes ht du hu hud hi hz hsize hby hzs hsz v n xs hown xv m news hlen hl hc hc' h1 h63 hbytes hbase
  refine wpList_plain hgd fun _ hK => ?_
  unfold Oper.wp execOp
  simp only [ho, resolve, invoke, builtin, Sem.run_bind, Sem.run_pure, Result.andThen_ok, List.map_toArray, List.map_cons, List.map_nil, hs, hx, hr]
  exact hK _ _ (h v' w' h2 h3 h4)
end
section
/-- A byte as a value. -/
def bv (c : UInt8) : Value := .int .u8 c.toNat

theorem bv_one (l : List UInt8) : ∀ u ∈ l.map bv, u.oneCell' = true := by
  intro u hu
  obtain ⟨c, _, rfl⟩ := List.mem_map.1 hu
  rfl

/-- The slice value v shows the bytes l (which others may show, too). -/
def Sees (w : World) (v : Value) (l : List UInt8) : Prop :=
  (l = [] ∧ ∃ a c, v = .slice a 0 c) ∨
  ∃ g off cap, v = .slice (some ⟨g, off, none⟩) l.length cap ∧ l.length ≤ cap ∧ ∀ j, j < l.length → w.cell? ⟨g, off + j, none⟩ = some (bv (l.getD j 0))

/-- The slice value v owns the row of bytes l alone. -/
def Own (w : World) (v : Value) (l : List UInt8) : Prop := w.ownsRow 0 5 1 v l.length (l.map bv)

theorem lenOf_slice {P : Program} (a : Option Addr) (n c : Nat) (w : World) : (Builtin.lenOf (.slice a n c)).run P w = .ok n w := by simp [Builtin.lenOf]
theorem lenOf_string {P : Program} (s : ByteArray) (w : World) : (Builtin.lenOf (.string s)).run P w = .ok s.size w := by simp [Builtin.lenOf]

theorem Sees.lenOf {P : Program} {w : World} {v : Value} {l : List UInt8} (h : Sees w v l) (w' : World) : (Builtin.lenOf v).run P w' = .ok l.length w' := by
  rcases h with ⟨rfl, a, c, rfl⟩ | ⟨g, off, cap, rfl, _, _⟩
  · exact lenOf_slice _ _ _ _
  · exact lenOf_slice _ _ _ _

theorem Sees.first {P : Program} {w : World} {v : Value} {l : List UInt8} (h : Sees w v l) : (Builtin.firstCells 1 l.length v).run P w = .ok (l.map bv).toArray w := by
  rcases h with ⟨rfl, a, c, rfl⟩ | ⟨g, off, cap, rfl, _, hc⟩
  · cases a with
    | none => simp [Builtin.firstCells]
    | some a => exact run_firstCells_some (P := P) w 1 0 a 0 c [] rfl (by simp)
  · refine run_firstCells_some (P := P) w 1 l.length ⟨g, off, none⟩ l.length cap (l.map bv) (by simp) ?_
    intro j v hj
    have hjl : j < l.length := by
      have := (List.getElem?_eq_some_iff.1 hj).1
      simpa using this
    have hplain : (⟨g, off, none⟩ : Addr).add j = ⟨g, off + j, none⟩ := by unfold Addr.add; split <;> simp_all
    rw [hplain, hc j hjl, ← hj]
    simp [List.getD, hjl]

theorem Sees.drew {w : World} {v : Value} {l : List UInt8} (h : Sees w v l) : Sees w.drew v l := h

theorem Sees.fr {S : Nat → Prop} {w w' : World} {v : Value} {l : List UInt8} (h : Sees w v l) (hf : Fr S w w') (hS : ∀ k, v.ownBlock = some k → ¬ S k) : Sees w' v l := by
  rcases h with h | ⟨g, off, cap, rfl, hle, hc⟩
  · exact .inl h
  · refine .inr ⟨g, off, cap, rfl, hle, fun j hj => ?_⟩
    have h1 := hc j hj
    rw [← h1]
    exact hf.cell (World.block_lt_of_cell? w _ h1) (hS g rfl)

theorem string_first {P : Program} (s : ByteArray) (w : World) : (Builtin.firstCells 1 s.size (.string s)).run P w = .ok (s.data.toList.map bv).toArray w := by
  have hx : s.extract 0 s.size = s := by
    apply ByteArray.ext
    rw [ByteArray.data_extract]
    show s.data.extract 0 s.data.size = s.data
    exact Array.extract_size
  have hy : s.data.map (fun b => Value.int IntKind.u8 b.toNat) = (s.data.toList.map bv).toArray := by
    apply Array.ext'
    simp only [Array.toList_map]
    rfl
  simp [Builtin.firstCells, hx, hy]

theorem Own.sees {w : World} {v : Value} {l : List UInt8} (h : Own w v l) : Sees w v l := by
  obtain ⟨_, h2⟩ := h
  rcases h2 with ⟨rfl, h0⟩ | ⟨g, cap, cur, rfl, _, hg, hn, _, hs, ht⟩
  · exact .inl ⟨List.eq_nil_of_length_eq_zero h0, none, 0, rfl⟩
  · refine .inr ⟨g, 0, cap, rfl, hn, fun j hj => ?_⟩
    rw [cell_of_row w g (0 + j) cur _ (0, 0) hg, Nat.zero_add]
    have e : (cur.toList.take (l.length * 1))[j]? = (l.map bv)[j]? := by rw [ht]
    rw [List.getElem?_take, if_pos (by omega)] at e
    rw [← Array.getElem?_toList, e]
    simp [List.getD, hj]

theorem Own.fr {S : Nat → Prop} {w w' : World} {v : Value} {l : List UInt8} (h : Own w v l) (hf : Fr S w w') (hS : ∀ k, v.ownBlock = some k → ¬ S k) : Own w' v l := by
  refine ⟨h.1, ?_⟩
  rcases h.2 with hn | ⟨g, cap, cur, rfl, hb, hgg, rest⟩
  · exact .inl hn
  · refine .inr ⟨g, cap, cur, rfl, hb, ?_, rest⟩
    rw [hf.block g (Array.getElem?_eq_some_iff.1 hgg).1 (hS g rfl)]
    exact hgg

theorem Own.lt {w : World} {v : Value} {l : List UInt8} (h : Own w v l) : ∀ k, v.ownBlock = some k → k < w.heap.size := fun k hk => (World.ownsRow.lt h k hk).2

theorem first_row {P : Program} {w : World} {g : Nat} {cs : Array Value} {t : TypeId} {fr : Nat × Nat} (h : w.heap[g]? = some (.cells cs t fr)) (n c : Nat) (hn : cs.size = n) :
    (Builtin.firstCells 1 n (.slice (some ⟨g, 0, none⟩) n c)).run P w = .ok cs w := by
  have := run_firstCells_some (P := P) w 1 n ⟨g, 0, none⟩ n c cs.toList (by simp [hn]) (by
    intro j v hj
    have hplain : (⟨g, 0, none⟩ : Addr).add j = ⟨g, j, none⟩ := by unfold Addr.add; split <;> simp_all
    rw [hplain, cell_of_row w g j cs t fr h]
    simpa using hj)
  simpa using this

theorem bv_of (n : Int) (h0 : 0 ≤ n) (h1 : n ≤ 255) : bv (UInt8.ofNat n.toNat) = .int .u8 n := by
  unfold bv
  congr 1
  have : (UInt8.ofNat n.toNat).toNat = n.toNat := by simp; omega
  rw [this]; omega

theorem slice_of_own {w : World} {base : Nat} {e : TypeId} {size : Nat} {v : Value} {n : Nat} {xs : List Value} (h : w.ownsRow base e size v n xs) : ∃ a c, v = .slice a n c := by
  rcases h.2 with ⟨rfl, rfl⟩ | ⟨g, cap, cur, rfl, _⟩
  · exact ⟨_, _, rfl⟩
  · exact ⟨_, _, rfl⟩

theorem push_bytes : ∀ (l : List UInt8) (s : ByteArray), (l.map fun c => (c.toNat : Int)).foldl (fun r n => r.push (UInt8.ofNat n.toNat)) s = ⟨s.data ++ l.toArray⟩
  | [], s => by simp
  | c :: l, s => by
    rw [List.map_cons, List.foldl_cons, push_bytes l]
    simp [ByteArray.push]

theorem Sees.shape {w : World} {v : Value} {l : List UInt8} (h : Sees w v l) : ∃ a c, v = .slice a l.length c ∧ (a = none → l = []) := by
  rcases h with ⟨rfl, a, c, rfl⟩ | ⟨g, off, cap, rfl, hle, _⟩
  · exact ⟨a, c, rfl, fun _ => rfl⟩
  · exact ⟨_, cap, rfl, fun h => by cases h⟩

theorem Sees.cap {w : World} {a : Option Addr} {n c : Nat} {l : List UInt8} (h : Sees w (.slice a n c) l) : n = l.length ∧ (n = 0 ∨ n ≤ c) := by
  rcases h with ⟨rfl, _, _, e⟩ | ⟨g, off, cap, e, hle, _⟩
  · simp at e; simp [e]
  · simp at e; omega

/-- string(v) -/
theorem Sees.string {P : Program} {w : World} {v : Value} {l : List UInt8} (h : Sees w v l) (src e dst : TypeId) (hs : P.underlying src = some (.slice e)) (he : P.underlying e = some (.int .u8)) (hd : P.underlying dst = some .string) :
    (convert src dst v).run P w = .ok (.string ⟨l.toArray⟩) w := by
  have main : ∀ a n c, v = .slice (some a) n c → (loadCells a n).run P w = .ok ((l.map fun c => (c.toNat : Int)).map (Value.int .u8)).toArray w → (convert src dst v).run P w = .ok (.string ⟨l.toArray⟩) w := by
    rintro a n c rfl hl
    rw [run_convert_bytes_string w src dst e _ n c hs he hd, run_bytesToString w _ n c _ hl, push_bytes]
    simp [ByteArray.empty, ByteArray.emptyWithCapacity]
    rfl
  have hf := h.first (P := P)
  rcases h with ⟨rfl, a, c, rfl⟩ | ⟨g, off, cap, rfl, _, _⟩
  · cases a with
    | none => rw [run_convert_bytes_nil w src e hs he 0 c dst hd]; rfl
    | some a => exact main a 0 c rfl (by simpa [Builtin.firstCells] using hf)
  · refine main _ _ cap rfl ?_
    simp only [Builtin.firstCells, Nat.mul_one] at hf
    rw [hf, List.map_map]
    rfl

/-- A new row whose first cells are bytes: the slice over it shows them. -/
theorem sees_new {w : World} {cs : Array Value} {t : TypeId} {fr : Nat × Nat} {l : List UInt8} {c : Nat} (g : Nat) (hg : w.heap[g]? = some (.cells cs t fr)) (hc : ∀ j, j < l.length → cs[j]? = some (bv (l.getD j 0))) (hle : l.length ≤ c) :
    Sees w (.slice (some ⟨g, 0, none⟩) l.length c) l := by
  refine .inr ⟨g, 0, c, rfl, hle, fun j hj => ?_⟩
  rw [Nat.zero_add, cell_of_row w g j cs t fr hg, hc j hj]

/-- The bytes of a text, behind '[]byte(s)'. -/
theorem sees_bytes (w : World) (s : ByteArray) (e : TypeId) :
    Sees (w.drew.alloc (.cells (bytesRow s (grownCap w s.size 0 e)) e ((bytesRow s (grownCap w s.size 0 e)).size, (bytesRow s (grownCap w s.size 0 e)).size + 1))) (.slice (some ⟨w.heap.size, 0, none⟩) s.size (grownCap w s.size 0 e)) s.data.toList := by
  have hl : s.data.toList.length = s.size := rfl
  have := sees_new (w := w.drew.alloc (.cells (bytesRow s (grownCap w s.size 0 e)) e ((bytesRow s (grownCap w s.size 0 e)).size, (bytesRow s (grownCap w s.size 0 e)).size + 1))) (l := s.data.toList) (c := grownCap w s.size 0 e) w.heap.size (heap_alloc_new w.drew _) ?_ (by rw [hl]; exact grownCap_ge w _ _ _)
  · rw [hl] at this; exact this
  · intro j hj
    have hj' : j < s.data.size := by simpa using hj
    unfold bytesRow
    rw [Array.getElem?_append_left (by simpa using hj'), Array.getElem?_map, Array.getElem?_eq_getElem hj']
    simp only [bv, List.getD, Option.map_some, Array.getElem?_toList, Array.getElem?_eq_getElem hj', Option.getD_some]
end
section
def be2 (n : Nat) : List UInt8 := [UInt8.ofNat (n / 256), UInt8.ofNat (n % 256)]

def be4 (n : Nat) : List UInt8 := be2 (n / 65536) ++ be2 (n % 65536)
def be8 (n : Nat) : List UInt8 := be4 (n / 4294967296) ++ be4 (n % 4294967296)
theorem be2_length (n : Nat) : (be2 n).length = 2 := rfl
theorem be4_length (n : Nat) : (be4 n).length = 4 := rfl
theorem be8_length (n : Nat) : (be8 n).length = 8 := rfl

/-- The number that bytes tell, the highest one first. -/
def beNum (l : List UInt8) : Nat := l.foldl (fun n c => n * 256 + c.toNat) 0

theorem beNum_snoc (l : List UInt8) (c : UInt8) : beNum (l ++ [c]) = beNum l * 256 + c.toNat := by simp [beNum]
theorem beFold_lt : ∀ (l : List UInt8) (n : Nat), l.foldl (fun n c => n * 256 + c.toNat) n < (n + 1) * 256 ^ l.length
  | [], n => by simp
  | c :: l, n => by
    have h := beFold_lt l (n * 256 + c.toNat)
    have hc := c.toNat_lt
    rw [List.foldl_cons, List.length_cons, Nat.pow_succ]
    have h2 : (n * 256 + c.toNat + 1) * 256 ^ l.length ≤ ((n + 1) * 256) * 256 ^ l.length := Nat.mul_le_mul_right _ (by omega)
    have h3 : ((n + 1) * 256) * 256 ^ l.length = (n + 1) * (256 ^ l.length * 256) := by rw [Nat.mul_assoc, Nat.mul_comm 256]
    omega
theorem beNum_lt (l : List UInt8) : beNum l < 256 ^ l.length := by have := beFold_lt l 0; simpa [beNum] using this
theorem beNum_small (l : List UInt8) (k : Nat) (h : l.length ≤ k) : beNum l < 256 ^ k := Nat.lt_of_lt_of_le (beNum_lt l) (Nat.pow_le_pow_right (by omega) h)

theorem beNum_be2 (n : Nat) (h : n < 65536) : beNum (be2 n) = n := by
  simp [beNum, be2]
  omega
theorem beNum_append (l m : List UInt8) : beNum (l ++ m) = beNum l * 256 ^ m.length + beNum m := by
  have h : ∀ (m : List UInt8) (a : Nat), m.foldl (fun n c => n * 256 + c.toNat) a = a * 256 ^ m.length + m.foldl (fun n c => n * 256 + c.toNat) 0 := by
    intro m
    induction m with
    | nil => simp
    | cons c m ih =>
      intro a
      rw [List.foldl_cons, List.foldl_cons, ih, ih (0 * 256 + c.toNat), List.length_cons, Nat.pow_succ, Nat.add_mul, Nat.zero_mul, Nat.zero_add, Nat.mul_assoc, Nat.mul_comm 256]
      omega
  unfold beNum
  rw [List.foldl_append, h]
theorem beNum_be4 (n : Nat) (h : n < 4294967296) : beNum (be4 n) = n := by
  unfold be4
  rw [beNum_append, beNum_be2 _ (by omega), beNum_be2 _ (by omega), be2_length]
  omega
theorem beNum_be8 (n : Nat) (h : n < 18446744073709551616) : beNum (be8 n) = n := by
  unfold be8
  rw [beNum_append, beNum_be4 _ (by omega), beNum_be4 _ (by omega), be4_length]
  omega

theorem be2_beNum (l : List UInt8) (h : l.length = 2) : be2 (beNum l) = l := by
  match l, h with
  | [a, b], _ =>
    have ha := a.toNat_lt
    have hb := b.toNat_lt
    simp only [beNum, List.foldl_cons, List.foldl_nil, be2, Nat.zero_mul, Nat.zero_add]
    rw [show (a.toNat * 256 + b.toNat) / 256 = a.toNat by omega, show (a.toNat * 256 + b.toNat) % 256 = b.toNat by omega]
    simp
theorem be4_beNum (l : List UInt8) (h : l.length = 4) : be4 (beNum l) = l := by
  have e : l = l.take 2 ++ l.drop 2 := (List.take_append_drop 2 l).symm
  have h1 : (l.take 2).length = 2 := by simp; omega
  have h2 : (l.drop 2).length = 2 := by simp; omega
  have s1 := beNum_small (l.take 2) 2 (by omega)
  have s2 := beNum_small (l.drop 2) 2 (by omega)
  have hn : beNum l = beNum (l.take 2) * 65536 + beNum (l.drop 2) := by
    conv => lhs; rw [e]
    rw [beNum_append, h2]
  unfold be4
  rw [hn, show (beNum (l.take 2) * 65536 + beNum (l.drop 2)) / 65536 = beNum (l.take 2) by omega, show (beNum (l.take 2) * 65536 + beNum (l.drop 2)) % 65536 = beNum (l.drop 2) by omega, be2_beNum _ h1, be2_beNum _ h2]
  exact e.symm
theorem be8_beNum (l : List UInt8) (h : l.length = 8) : be8 (beNum l) = l := by
  have e : l = l.take 4 ++ l.drop 4 := (List.take_append_drop 4 l).symm
  have h1 : (l.take 4).length = 4 := by simp; omega
  have h2 : (l.drop 4).length = 4 := by simp; omega
  have s1 := beNum_small (l.take 4) 4 (by omega)
  have s2 := beNum_small (l.drop 4) 4 (by omega)
  have hn : beNum l = beNum (l.take 4) * 4294967296 + beNum (l.drop 4) := by
    conv => lhs; rw [e]
    rw [beNum_append, h2]
  unfold be8
  rw [hn, show (beNum (l.take 4) * 4294967296 + beNum (l.drop 4)) / 4294967296 = beNum (l.take 4) by omega, show (beNum (l.take 4) * 4294967296 + beNum (l.drop 4)) % 4294967296 = beNum (l.drop 4) by omega, be4_beNum _ h1, be4_beNum _ h2]
  exact e.symm
end
section
theorem Try.infoU8 : (Try.prog.info? 5).map (fun i => (i.zero, i.size, i.bytes)) = some (some (.int .u8 0), 1, 1) := by kernel_rfl

theorem be2_new {P : Program} {n : Int} (h0 : 0 ≤ n) (h1 : n ≤ 65535) (w : World) : (Builtin.firstCells 1 2 (.slice (some ⟨w.heap.size, 0, none⟩) 2 2)).run P (w.alloc (.cells #[.int .u8 (n / 256), .int .u8 (n % 256)] 5)) =
    .ok ((be2 n.toNat).map bv).toArray (w.alloc (.cells #[.int .u8 (n / 256), .int .u8 (n % 256)] 5)) := by
  rw [first_row (heap_alloc_new w _) 2 2 rfl]
  have e1 := bv_of (n / 256) (by omega) (by omega)
  have e2 := bv_of (n % 256) (by omega) (by omega)
  rw [show (n / 256).toNat = n.toNat / 256 by omega] at e1
  rw [show (n % 256).toNat = n.toNat % 256 by omega] at e2
  simp [be2, e1, e2]

theorem zero_new {P : Program} (w : World) : (Builtin.firstCells 1 1 (.slice (some ⟨w.heap.size, 0, none⟩) 1 1)).run P (w.alloc (.cells #[.int .u8 0] 5)) =
    .ok ([(0 : UInt8)].map bv).toArray (w.alloc (.cells #[.int .u8 0] 5)) := first_row (heap_alloc_new w _) 1 1 rfl

/-- The call made the slice v of the bytes l, anew. -/
def Made (v : Value) (l : List UInt8) (w w' : World) : Prop := Own w' v l ∧ Fr (fun _ => False) w w' ∧ (∀ k, v.ownBlock = some k → w.heap.size ≤ k)

theorem own_new2 {n : Int} (h0 : 0 ≤ n) (h1 : n ≤ 65535) (w : World) : Own (w.alloc (.cells #[.int .u8 (n / 256), .int .u8 (n % 256)] 5)) (.slice (some ⟨w.heap.size, 0, none⟩) 2 2) (be2 n.toNat) := by
  have e1 := bv_of (n / 256) (by omega) (by omega)
  have e2 := bv_of (n % 256) (by omega) (by omega)
  rw [show (n / 256).toNat = n.toNat / 256 by omega] at e1
  rw [show (n % 256).toNat = n.toNat % 256 by omega] at e2
  refine ⟨rfl, .inr ⟨w.heap.size, 2, _, rfl, Nat.zero_le _, heap_alloc_new w _, Nat.le_refl _, by unfold maxLen; omega, rfl, ?_⟩⟩
  simp [be2, e1, e2]

/-- Behind an append of bytes that were made anew to a slice that was made anew. -/
theorem Made.append {v1 v' : Value} {l1 l2 : List UInt8} {n : Nat} {w w1 w2 w3 : World} (h1 : Made v1 l1 w w1) (h2 : Fr (fun _ => False) w1 w2) (hn : n = l1.length + l2.length)
    (ho : w3.ownsRow 0 5 1 v' n (l1.map bv ++ l2.map bv)) (hg : w2.grownBy w3 v1.ownBlock) (hv : v'.ownBlock = v1.ownBlock ∨ v'.ownBlock = some w2.heap.size) : Made v' (l1 ++ l2) w w3 := by
  obtain ⟨o1, f1, k1⟩ := h1
  refine ⟨?_, (f1.trans h2 (fun _ _ h => h)).trans (Fr.of_grown hg) (fun i hi e => by have := k1 i e.symm; omega), ?_⟩
  · unfold Own
    rw [List.length_append, List.map_append, ← hn]
    exact ho
  · intro k hk
    rcases hv with e | e
    · exact k1 k (e ▸ hk)
    · rw [e] at hk; simp at hk; have := f1.size; have := h2.size; omega
end
section
/-- Block b is a Writer whose bytes are l, in the slice v that it owns alone. -/
structure Wr (w : World) (b : Nat) (v : Value) (l : List UInt8) : Prop where
  here : w.heap[b]? = some (.cells #[v] 67 (0, 0))
  own : Own w v l
  apart : v.ownBlock ≠ some b

/-- What a call of the Writer leaves. -/
def Wrote (b : Nat) (v : Value) (l : List UInt8) (w : World) (w' : World) : Prop :=
  ∃ v', Wr w' b v' l ∧ Fr (fun k => k = b ∨ v.ownBlock = some k) w w' ∧ (v'.ownBlock = v.ownBlock ∨ ∀ k, v'.ownBlock = some k → w.heap.size ≤ k)

theorem wrote_of {b : Nat} {v : Value} {l m : List UInt8} {w w1 : World} {o : Obj} {a : Option Addr} {c k : Nat} (h : Wr w b v l) (hk : w1.heap[b]? = some (.cells #[v] 67 (0, 0)))
    (hown : w1.ownsRow 0 5 1 (.slice a (l.length + k) c) (l.length + k) (l.map bv ++ m.map bv)) (hg : (w.alloc o).grownBy w1 v.ownBlock)
    (hv : (Value.slice a (l.length + k) c).ownBlock = v.ownBlock ∨ (Value.slice a (l.length + k) c).ownBlock = some (w.heap.size + 1)) :
    Wrote b v (l ++ m) w (w1.setCell ⟨b, 0, none⟩ (.slice a (l.length + k) c)) := by
  have hb := lt_of_block h.here
  have hm : k = m.length := by have := hown.1; simp at this; omega
  have hfr : Fr (fun k => k = b ∨ v.ownBlock = some k) w w1 := ((Fr.refl _ _).alloc o).trans (Fr.of_grown hg) (fun i _ e => .inr e.symm)
  have hne : (Value.slice a (l.length + k) c).ownBlock ≠ some b := by
    rcases hv with e | e
    · rw [e]; exact h.apart
    · rw [e]; intro e; simp at e; omega
  refine ⟨_, ⟨one_setCell hk, ?_, hne⟩, hfr.setCell (fun _ => .inl rfl) _, ?_⟩
  · have := ownsRow_setCell_other hown (a := ⟨b, 0, none⟩) hne (.slice a (l.length + k) c)
    unfold Own
    rw [List.length_append, List.map_append, ← hm]
    exact this
  · rcases hv with e | e
    · exact .inl e
    · right; intro k hk; rw [e] at hk; simp at hk; omega

theorem wrote_of' {b : Nat} {v : Value} {l m : List UInt8} {w w1 : World} {a : Option Addr} {c k : Nat} (h : Wr w b v l) (hk : w1.heap[b]? = some (.cells #[v] 67 (0, 0)))
    (hown : w1.ownsRow 0 5 1 (.slice a (l.length + k) c) (l.length + k) (l.map bv ++ m.map bv)) (hg : w.grownBy w1 v.ownBlock)
    (hv : (Value.slice a (l.length + k) c).ownBlock = v.ownBlock ∨ (Value.slice a (l.length + k) c).ownBlock = some w.heap.size) :
    Wr (w1.setCell ⟨b, 0, none⟩ (.slice a (l.length + k) c)) b (.slice a (l.length + k) c) (l ++ m) ∧ Fr (fun k => k = b ∨ v.ownBlock = some k) w (w1.setCell ⟨b, 0, none⟩ (.slice a (l.length + k) c)) ∧
      ((Value.slice a (l.length + k) c).ownBlock = v.ownBlock ∨ ∀ j, (Value.slice a (l.length + k) c).ownBlock = some j → w.heap.size ≤ j) := by
  have hb := lt_of_block h.here
  have hm : k = m.length := by have := hown.1; simp at this; omega
  have hfr : Fr (fun k => k = b ∨ v.ownBlock = some k) w w1 := (Fr.refl _ _).trans (Fr.of_grown hg) (fun i _ e => .inr e.symm)
  have hne : (Value.slice a (l.length + k) c).ownBlock ≠ some b := by
    rcases hv with e | e
    · rw [e]; exact h.apart
    · rw [e]; intro e; simp at e; omega
  refine ⟨⟨one_setCell hk, ?_, hne⟩, hfr.setCell (fun _ => .inl rfl) _, ?_⟩
  · have := ownsRow_setCell_other hown (a := ⟨b, 0, none⟩) hne (.slice a (l.length + k) c)
    unfold Own
    rw [List.length_append, List.map_append, ← hm]
    exact this
  · rcases hv with e | e
    · exact .inl e
    · right; intro k hk; rw [e] at hk; simp at hk; omega

/-- The list of bytes in two parts: what is owned, said of each part. -/
theorem own_split {w : World} {v : Value} {l : List UInt8} {s : ByteArray} (h : Own w v (l ++ s.data.toList)) : w.ownsRow 0 5 1 v (l.length + s.size) (l.map bv ++ s.data.toList.map bv) := by
  unfold Own at h
  rw [List.length_append, List.map_append] at h
  exact h

theorem word_any (b : Nat) (v : Value) (l : List UInt8) (n : Int) (h0 : 0 ≤ n) (h1 : n ≤ 65535) (w : World) (h : Wr w b v l) (hl : l.length ≤ 1000000000) :
    Calls Try.prog 49 #[.pointer (some ⟨b, 0, none⟩), .int .u16 n] w fun e w' => e = .returned (.tuple #[]) ∧ Wrote b v (l ++ be2 n.toNat) w w' := by
  obtain ⟨i0, hi, hz0, hz1, hz2⟩ := info_parts Try.infoU8
  have hc := cell_of_one h.here
  have hf := free_of_one h.here
  go_enter Try.func49, Try.ntmps49
  go_wp2_with (at_builtin; refine wpList_append_sep rfl (.tmp 10) (.tmp 16) 24 24 rfl 0 5 i0 (.int .u8 0) 1 1 Try.underlying24 _ Try.underlying24 (.inr ⟨_, rfl⟩) hi hz0 hz1 hz2 rfl (by decide) v l.length (l.map bv) rfl ?own _ 2 ((be2 n.toNat).map bv) rfl (lenOf_slice _ _ _) rfl ?c1 ?c2 (bv_one _) ?b1 ?b2 (Nat.zero_le _) ?grow)
  case own => exact World.ownsRow.alloc h.own _
  case c1 => exact be2_new h0 h1 w
  case c2 => exact be2_new h0 h1 w.drew
  case b1 => unfold maxLen; omega
  case b2 => omega
  case grow =>
    intro v' w1 hown hg hv
    obtain ⟨a, c, rfl⟩ := slice_of_own hown
    have hb := lt_of_block h.here
    have hk : w1.heap[b]? = some (.cells #[v] 67 (0, 0)) := by
      rw [hg.block b (by show b < (w.heap.push _).size; simp; omega) (fun e => h.apart e.symm), Below.heap_alloc _ _ _ hb]; exact h.here
    have hc1 := cell_of_one hk
    have hf1 := free_of_one hk
    clear hc hf
    have Hk := Lib.hid hk; clear hk
    have Hv := Lib.hid hv; clear hv
    have Hg := Lib.hid hg; clear hg
    have Ho := Lib.hid hown; clear hown
    go_wp2
    go_end0
    exact ⟨rfl, wrote_of h Hk.out Ho.out Hg.out Hv.out⟩
theorem Wrote.size {b : Nat} {v : Value} {l : List UInt8} {w w' : World} (h : Wrote b v l w w') : w.heap.size ≤ w'.heap.size := by
  obtain ⟨_, _, hf, _⟩ := h; exact hf.size

theorem Wrote.trans {b : Nat} {v v1 : Value} {l2 : List UInt8} {w w1 w2 : World} (hf : Fr (fun k => k = b ∨ v.ownBlock = some k) w w1) (hv : v1.ownBlock = v.ownBlock ∨ ∀ k, v1.ownBlock = some k → w.heap.size ≤ k)
    (h2 : Wrote b v1 l2 w1 w2) : Wrote b v l2 w w2 := by
  obtain ⟨v2, hw2, hf2, hv2⟩ := h2
  refine ⟨v2, hw2, hf.trans hf2 ?_, ?_⟩
  · rintro i hi (rfl | e)
    · exact .inl rfl
    · rcases hv with e1 | e1
      · exact .inr (e1 ▸ e)
      · have := e1 i e; omega
  · rcases hv2 with e2 | e2
    · rcases hv with e1 | e1
      · exact .inl (e2.trans e1)
      · right; intro k hk; exact e1 k (e2 ▸ hk)
    · right; intro k hk; have := e2 k hk; have := hf.size; omega

theorem long_any (b : Nat) (v : Value) (l : List UInt8) (n : Int) (h0 : 0 ≤ n) (h1 : n ≤ 4294967295) (w : World) (h : Wr w b v l) (hl : l.length ≤ 999999998) :
    Calls Try.prog 50 #[.pointer (some ⟨b, 0, none⟩), .int .u32 n] w fun e w' => e = .returned (.tuple #[]) ∧ Wrote b v (l ++ be4 n.toNat) w w' := by
  have hwr : IntKind.u16.wrap n = n % 65536 := IntKind.wrap_u16 n
  go_enter Try.func50, Try.ntmps50
  go_wp2_with fail
  refine (word_any b v l _ (by omega) (by omega) _ h (by omega)).mono ?_
  rintro e w1 ⟨rfl, v1, hw1, hf1, hv1⟩
  have Hv := Lib.hid hv1; clear hv1
  go_wp2_with fail
  refine (word_any b v1 _ _ (by omega) (by omega) _ hw1 (by rw [List.length_append, be2_length]; omega)).mono ?_
  rintro e w2 ⟨rfl, h2⟩
  go_wp2_with fail
  go_end0
  refine ⟨rfl, Wrote.trans hf1 Hv.out ?_⟩
  have e1 : (n / 65536).toNat = n.toNat / 65536 := by omega
  have e2 : (n % 65536).toNat = n.toNat % 65536 := by omega
  rw [e1, e2, List.append_assoc] at h2
  exact h2

/-- A Writer that is nil does nothing. -/
theorem word_nil (n : Int) (w : World) : Calls Try.prog 49 #[.pointer none, .int .u16 n] w fun e w' => e = .returned (.tuple #[]) ∧ w' = w := by
  go_enter Try.func49, Try.ntmps49
  go_wp2
  go_returns
  exact ⟨rfl, rfl⟩
theorem long_nil (n : Int) (h0 : 0 ≤ n) (h1 : n ≤ 4294967295) (w : World) : Calls Try.prog 50 #[.pointer none, .int .u32 n] w fun e w' => e = .returned (.tuple #[]) ∧ w' = w := by
  go_enter Try.func50, Try.ntmps50
  go_wp2_with (go_at_call 49; refine (word_nil _ _).mono ?_; rintro e w' ⟨rfl, rfl⟩)
  go_end0
  exact ⟨rfl, rfl⟩
theorem text_nil (s : ByteArray) (w : World) : Calls Try.prog 75 #[.pointer none, .string s] w fun e w' => e = .returned (.tuple #[]) ∧ w' = w := by
  go_enter Try.func75, Try.ntmps75
  go_wp2
  go_returns
  exact ⟨rfl, rfl⟩
theorem bytes_nil (w : World) : Calls Try.prog 19 #[.pointer none] w fun e w' => e = .returned (.slice none 0 0) ∧ w' = w := by
  go_enter Try.func19, Try.ntmps19
  go_wp2
  go_ret
  exact ⟨rfl, rfl⟩

/-- The bytes of a text as a Writer lays them. -/
def txt (s : List UInt8) : List UInt8 := be2 s.length ++ s ++ (if s.length % 2 = 1 then [0] else [])

theorem bv_length (s : ByteArray) : (s.data.toList.map bv).length = s.size * 1 := by
  rw [List.length_map, Nat.mul_one]; rfl

theorem txt_even (l : List UInt8) (s : ByteArray) (h : ¬ s.size % 2 = 1) : l ++ txt s.data.toList = l ++ be2 (s.size : Int).toNat ++ s.data.toList := by
  unfold txt
  have e : s.data.toList.length = s.size := rfl
  rw [e, if_neg h, List.append_nil, Int.toNat_natCast]
  simp only [List.append_assoc]
theorem txt_odd (l : List UInt8) (s : ByteArray) (h : s.size % 2 = 1) : l ++ txt s.data.toList = l ++ be2 (s.size : Int).toNat ++ s.data.toList ++ [0] := by
  unfold txt
  have e : s.data.toList.length = s.size := rfl
  rw [e, if_pos h, Int.toNat_natCast]
  simp only [List.append_assoc]

theorem wrote_of_split {b : Nat} {v : Value} {l : List UInt8} {s : ByteArray} {w w1 : World} {o : Obj} {a : Option Addr} {c k : Nat} (h : Wr w b v (l ++ s.data.toList)) (hk : w1.heap[b]? = some (.cells #[v] 67 (0, 0)))
    (hown : w1.ownsRow 0 5 1 (.slice a (l.length + s.size + k) c) (l.length + s.size + k) (l.map bv ++ (s.data.toList.map bv ++ [bv 0]))) (hg : (w.alloc o).grownBy w1 v.ownBlock)
    (hv : (Value.slice a (l.length + s.size + k) c).ownBlock = v.ownBlock ∨ (Value.slice a (l.length + s.size + k) c).ownBlock = some (w.heap.size + 1)) :
    Wrote b v (l ++ s.data.toList ++ [0]) w (w1.setCell ⟨b, 0, none⟩ (.slice a (l.length + s.size + k) c)) := by
  have e : (l ++ s.data.toList).length = l.length + s.size := by rw [List.length_append]; rfl
  rw [← e] at hown hv ⊢
  have hown' : w1.ownsRow 0 5 1 (.slice a ((l ++ s.data.toList).length + k) c) ((l ++ s.data.toList).length + k) ((l ++ s.data.toList).map bv ++ [(0 : UInt8)].map bv) := by
    rw [List.map_append, List.append_assoc]; exact hown
  exact wrote_of h hk hown' hg hv

theorem text_any (b : Nat) (v : Value) (l : List UInt8) (s : ByteArray) (hs : s.size ≤ 65535) (w : World) (h : Wr w b v l) (hl : l.length ≤ 900000000) :
    Calls Try.prog 75 #[.pointer (some ⟨b, 0, none⟩), .string s] w fun e w' => e = .returned (.tuple #[]) ∧ Wrote b v (l ++ txt s.data.toList) w w' := by
  obtain ⟨i0, hi, hz0, hz1, hz2⟩ := info_parts Try.infoU8
  have hcond : decide ((65535 : Int) < (s.size : Int)) = false := by simp; omega
  have hwr : IntKind.u16.wrap (s.size : Int) = (s.size : Int) := by rw [IntKind.wrap_u16]; omega
  go_enter Try.func75, Try.ntmps75
  go_wp2_with fail
  refine (word_any b v l _ (by omega) (by omega) _ h (by omega)).mono ?_
  rintro e w1 ⟨rfl, v1, hw1, hf1, hv1⟩
  have Hv := Lib.hid hv1; clear hv1
  obtain ⟨l1, hl1⟩ : ∃ l1, l1 = l ++ be2 (s.size : Int).toNat := ⟨_, rfl⟩
  have hlen1 : l1.length ≤ 900000002 := by rw [hl1, List.length_append, be2_length]; omega
  rw [← hl1] at hw1
  have Hl1 := Lib.hid hl1; clear hl1
  have hc := cell_of_one hw1.here
  have hf := free_of_one hw1.here
  go_wp2_with (at_builtin; refine wpList_append_sep rfl (.tmp 20) (.tmp 21) 24 9 rfl 0 5 i0 (.int .u8 0) 1 1 Try.underlying24 _ Try.underlying9 (.inl rfl) hi hz0 hz1 hz2 rfl (by decide) v1 _ _ rfl hw1.own _ s.size (s.data.toList.map bv) rfl (lenOf_string _) (bv_length s) (string_first _ _) (string_first _ _) (bv_one _) ?b1 ?b2 (Nat.zero_le _) ?grow)
  case b1 => unfold maxLen; omega
  case b2 => omega
  case grow =>
    intro v' w2 hown hg hv
    obtain ⟨a, c, rfl⟩ := slice_of_own hown
    have hb := lt_of_block hw1.here
    have hk : w2.heap[b]? = some (.cells #[v1] 67 (0, 0)) := by
      rw [hg.block b hb (fun e => hw1.apart e.symm)]; exact hw1.here
    have hc2 := cell_of_one hk
    have hf2 := free_of_one hk
    clear hc hf
    have h2 := Lib.hid (wrote_of' hw1 hk hown hg hv)
    have Hg := Lib.hid hg
    have Ho := Lib.hid hown
    have Hk := Lib.hid hk
    have Hvv := Lib.hid hv
    clear hk hown hg hv
    by_cases hodd : s.size % 2 = 1
    · have h21 : ((s.size : Int) % 2 == 1) = true := by simp; omega
      go_wp2_with (at_builtin; refine wpList_append_sep rfl (.tmp 33) (.tmp 34) 24 24 rfl 0 5 i0 (.int .u8 0) 1 1 Try.underlying24 _ Try.underlying24 (.inr ⟨_, rfl⟩) hi hz0 hz1 hz2 rfl (by decide) _ (l1.length + s.size) (l1.map bv ++ s.data.toList.map bv) rfl ?own _ 1 ([0].map bv) rfl (lenOf_slice _ _ _) rfl ?c1 ?c2 (bv_one _) ?b1 ?b2 (Nat.zero_le _) ?grow)
      case own => exact World.ownsRow.alloc (own_split h2.out.1.own) _
      case c1 =>
        have z := zero_new (P := Try.prog) (w2.setCell ⟨b, 0, none⟩ (.slice a (l1.length + s.size) c))
        rw [World.size_setCell] at z
        exact z
      case c2 =>
        have z := zero_new (P := Try.prog) (w2.setCell ⟨b, 0, none⟩ (.slice a (l1.length + s.size) c)).drew
        rw [show (w2.setCell ⟨b, 0, none⟩ (.slice a (l1.length + s.size) c)).drew.heap.size = w2.heap.size from World.size_setCell _ _ _] at z
        exact z
      case b1 => unfold maxLen; omega
      case b2 => omega
      case grow =>
        intro v' w4 hown hg hv
        obtain ⟨a4, c4, rfl⟩ := slice_of_own hown
        have hb4 := lt_of_block h2.out.1.here
        have hk4 : w4.heap[b]? = some (.cells #[.slice a (l1.length + s.size) c] 67 (0, 0)) := by
          rw [hg.block b (by show b < (Array.push _ _).size; rw [Array.size_push]; omega) (fun e => h2.out.1.apart e.symm), Below.heap_alloc _ _ _ hb4]; exact h2.out.1.here
        have hc4 := cell_of_one hk4
        have hf4 := free_of_one hk4
        clear hc2 hf2
        have Ho4 := Lib.hid hown
        have Hg4 := Lib.hid hg
        have Hk4 := Lib.hid hk4
        have Hv4 := Lib.hid hv
        clear hown hg hk4 hv
        go_wp2
        go_end0
        refine ⟨rfl, Wrote.trans hf1 Hv.out (Wrote.trans h2.out.2.1 h2.out.2.2 ?_)⟩
        rw [show l ++ txt s.data.toList = l1 ++ s.data.toList ++ [0] by rw [Hl1.out]; exact txt_odd l s hodd]
        exact wrote_of_split h2.out.1 Hk4.out Ho4.out Hg4.out (by rw [World.size_setCell]; exact Hv4.out)
    · have h21 : ((s.size : Int) % 2 == 1) = false := by simp; omega
      go_wp2
      go_end0
      refine ⟨rfl, Wrote.trans hf1 Hv.out ?_⟩
      rw [show l ++ txt s.data.toList = l1 ++ s.data.toList by rw [Hl1.out]; exact txt_even l s hodd]
      exact ⟨_, h2.out⟩
end
end Go.Proofs.Ytjnbpgadgdjobaa
