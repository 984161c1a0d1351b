/-
  PlayPlays, part 1 of what it rests on: App, Gen, ProgMath, ProgSees, PlayMath, PlaySees, Region, RegionU, RegionV, RegionC, PlayLoad, Recover, PlayCatch.
-/
import Derived.Test.YtohfejpjjjaejaaProg
import Derived.KernelRfl
import Derived.WalkKit
import Derived.WalkSpells
import Derived.WalkLawsBesides
import Derived.OneCell
import Derived.Lib.Hide
import Derived.Handy
import Derived.RowKit
import Derived.LoopN
import Derived.Deep.LoopGhost
import Derived.Deep.CutRange
import Derived.Deep.CutBlock
import Derived.IntWalk
import Derived.BigRegion
import Derived.Deep.QuietTactic
import Derived.BigQuiet
import Derived.Laws.CopyRow
import Derived.Laws.IdiomCopy
import Derived.Laws.Rows
import Derived.Laws.Tables
import Derived.Laws.ResultCell
import Derived.Tactics
import Derived.Tactics2
import Derived.Defers
import Derived.Recover
import Derived.Laws.Pointers
set_option linter.unusedVariables false
set_option linter.unusedSimpArgs false
set_option maxHeartbeats 32000000
namespace Go.Proofs.Ytohfejpjjjaejaa
open Go.RowKit
open Go.Lib (hid)
section
theorem fid2 {p S : Nat -> Prop} : ∀ i, p i -> S i -> S i := fun _ _ h => h
theorem zsl {α : Type} : (∀ (l : List α) (i : Nat) (a : α), l.toArray.setIfInBounds i a = (l.set i a).toArray) /\ (∀ (x : α) (l : List α) (n : Nat) (a : α), (x :: l).set (n + 1) a = x :: l.set n a) /\ (∀ (x : α) (l : List α) (a : α), (x :: l).set 0 a = a :: l) :=
 ⟨fun _ _ _ => List.setIfInBounds_toArray .., fun _ _ _ _ => rfl, fun _ _ _ => rfl⟩
theorem zgl {α : Type} : (∀ (x : α) (l : List α) (d : α), (x :: l).getD 0 d = x) /\ (∀ (x : α) (l : List α) (n : Nat) (d : α), (x :: l).getD (n + 1) d = l.getD n d) := ⟨fun _ _ _ => rfl, fun _ _ _ _ => rfl⟩
theorem zml : (∀ {α : Type} (a b : α) (l : List α), (a ∈ b :: l) = (a = b \/ a ∈ l)) /\ (∀ {α : Type} (a : α), (a ∈ ([] : List α)) = False) /\ (∀ p : Prop, (p \/ False) = p) /\ (∀ {α : Type} (p q : α -> Prop) (a : α), (∀ b, b = a \/ q b -> p b) = (p a /\ ∀ b, q b -> p b)) /\ (∀ {α : Type} (p : α -> Prop) (a : α), (∀ b, b = a -> p b) = p a) :=
 ⟨fun _ _ _ => by simp, fun _ => by simp, fun _ => by simp, fun _ _ _ => by simp, fun _ _ => by simp⟩

structure Fr (S : Nat -> Prop) (w w' : World) : Prop where
 os : w'.os = w.os
 tape : w'.tape = w.tape
 output : w'.output = w.output
 size : w.heap.size <= w'.heap.size
 block : ∀ k, k < w.heap.size -> ¬ S k -> w'.heap[k]? = w.heap[k]?

theorem Fr.refl (S : Nat -> Prop) (w : World) : Fr S w w := ⟨rfl, rfl, rfl, Nat.le_refl _, fun _ _ _ => rfl⟩

theorem Fr.trans {S T : Nat -> Prop} {a b c : World} (h : Fr S a b) (k : Fr T b c) (hT : ∀ i, i < a.heap.size -> T i -> S i) : Fr S a c :=
 ⟨k.os.trans h.os, k.tape.trans h.tape, k.output.trans h.output, Nat.le_trans h.size k.size,
  fun i hi hs => (k.block i (Nat.lt_of_lt_of_le hi h.size) (fun ht => hs (hT i hi ht))).trans (h.block i hi hs)⟩

theorem Fr.mono {S T : Nat -> Prop} {a b : World} (h : Fr S a b) (hT : ∀ i, i < a.heap.size -> S i -> T i) : Fr T a b :=
 ⟨h.os, h.tape, h.output, h.size, fun i hi hs => h.block i hi (fun x => hs (hT i hi x))⟩

theorem Fr.drew {S : Nat -> Prop} {a b : World} (h : Fr S a b) : Fr S a b.drew := ⟨h.os, h.tape, h.output, h.size, h.block⟩

theorem Fr.alloc {S : Nat -> Prop} {a b : World} (h : Fr S a b) (o : Obj) : Fr S a (b.alloc o) :=
 ⟨h.os, h.tape, h.output, by have := h.size; show _ <= (b.heap.push o).size; rw [Array.size_push]; omega, fun i hi hs => by
  rw [Below.heap_alloc _ _ _ (Nat.lt_of_lt_of_le hi h.size)]; exact h.block i hi hs⟩

theorem Fr.setCell {S : Nat -> Prop} {a b : World} (h : Fr S a b) {p : Addr} (hp : p.block < a.heap.size -> S p.block) (u : Value) : Fr S a (b.setCell p u) :=
 ⟨h.os, h.tape, h.output, by have := h.size; simp [World.setCell]; omega, fun i hi hs => by
  rw [Below.heap_setCell _ _ _ _ (fun e => hs (by rw [e]; exact hp (by omega)))]; exact h.block i hi hs⟩

theorem Fr.set1 {b : Nat} {a c : World} (h : Fr (fun k => k = b) a c) (i : Nat) (u : Value) : Fr (fun k => k = b) a (c.setCell ⟨b, i, none⟩ u) :=
 h.setCell (p := ⟨b, i, none⟩) (fun _ => rfl) u

theorem Fr.of_grown {a b : World} {row : Option Nat} (h : a.grownBy b row) : Fr (fun k => some k = row) a b :=
 ⟨h.os, h.tape, h.output, h.size, fun i hi hs => h.block i hi hs⟩

theorem Fr.below {S : Nat -> Prop} {B : Nat} {a b : World} (h : Fr S a b) (hB : B <= a.heap.size) (hS : ∀ i, i < B -> ¬ S i) : Below B a b :=
 ⟨h.os, h.tape, h.output, h.size, fun i hi => h.block i (Nat.lt_of_lt_of_le hi hB) (hS i hi)⟩

theorem Fr.cell {S : Nat -> Prop} {w w' : World} (h : Fr S w w') {p : Addr} (hp : p.block < w.heap.size) (hs : ¬ S p.block) : w'.cell? p = w.cell? p :=
 World.cell?_of_block (w := w) (h.block p.block hp hs)

theorem run_append_sep {P : Program} (w : World) (base : Nat) (t u ty e : TypeId) (i : TypeInfo) (z : Value) (size bytes : Nat) (ht : P.underlying t = some (.slice e)) (du : TypeDesc) (hu : P.underlying u = some du) (hud : du = .string \/ ∃ e', du = .slice e')
  (hi : P.info? e = some i) (hz : i.zero = some z)
  (hsize : i.size = size) (hby : i.bytes = bytes) (hzs : z.cells.size = size) (hsz : 0 < size)
  (v : Value) (n : Nat) (xs : List Value) (hown : w.ownsRow base e size v n xs)
  (x : Value) (m : Nat) (news : List Value) (hlen : ∀ w, (Builtin.lenOf x).run P w = .ok m w) (hl : news.length = m * size)
  (hc : (Builtin.firstCells size m x).run P w = .ok news.toArray w) (hc' : (Builtin.firstCells size m x).run P w.drew = .ok news.toArray w.drew) (h1 : ∀ u ∈ news, u.oneCell' = true)
  (h63 : n + m <= maxLen) (hbytes : (n + m) * bytes <= 140737488355328) (hbase : base <= w.heap.size) :
  ∃ v' w', (Builtin.append_ #[t, u] ty #[v, x]).run P w = .ok v' w' /\ w'.ownsRow base e size v' (n + m) (xs ++ news) /\ w.grownBy w' v.ownBlock /\
   (v'.ownBlock = v.ownBlock \/ v'.ownBlock = some w.heap.size) := by
 subst hsize
 subst hby
 have hsmall : n + m <= 9223372036854775807 := by simp only [maxLen] at h63; omega
 have hlen2 : (xs ++ news).length = (n + m) * i.size := by rw [List.length_append, hown.1, hl, Nat.add_mul]
 have grown : ∀ (old : Nat), old < n + m -> ∀ (row : Option Nat),
   (w.drew.alloc (.cells (xs.toArray ++ news.toArray ++ Builtin.zeroCells z.cells (grownCap w (n + m) old e - (n + m))) e)).ownsRow base e i.size
    (.slice (some ⟨w.heap.size, 0, none⟩) (n + m) (grownCap w (n + m) old e)) (n + m) (xs ++ news) /\
   w.grownBy (w.drew.alloc (.cells (xs.toArray ++ news.toArray ++ Builtin.zeroCells z.cells (grownCap w (n + m) old e - (n + m))) e)) row := by
  intro old ho row
  have hge := grownCap_ge w (n + m) old e
  have hcm : grownCap w (n + m) old e <= maxLen := grownCap_le_maxLen w (n + m) old e h63
  refine ⟨⟨hlen2, .inr ⟨w.heap.size, _, _, rfl, hbase, heap_alloc_new w.drew _, hge, hcm, ?_, ?_⟩⟩, ⟨rfl, rfl, rfl, by simp, fun k hk _ => Below.heap_alloc w.drew _ k hk⟩⟩
  ·simp only [Array.size_append, List.size_toArray, size_zeroCells, hzs, hown.1, hl, <- Nat.add_mul]
   congr 1
   omega
  ·simp only [Array.toList_append, List.append_assoc]
   rw [<- List.append_assoc, <- hlen2]
   exact List.take_left
 have hl1 := hlen w
 rcases hown.2 with ⟨rfl, rfl⟩ | ⟨g, cap, cur, rfl, hbg, hg, hnc, hcm, hcs, htake⟩
 ·have hx : xs = [] := List.eq_nil_of_length_eq_zero (by simpa using hown.1)
  subst hx
  by_cases hm : m = 0
  ·subst hm
   have hn : news = [] := List.eq_nil_of_length_eq_zero (by simpa using hl)
   subst hn
   refine ⟨.slice none 0 0, w, ?_, World.ownsRow_nil w base e i.size, ⟨rfl, rfl, rfl, Nat.le_refl _, fun _ _ _ => rfl⟩, .inl rfl⟩
   rcases hud with rfl | ⟨e', rfl⟩ <;> simp [Builtin.append_, run_underlying ht, run_underlying hu, sizeOf, typeInfo, hi, hl1, hc]
  ·have hm63 : ¬ (9223372036854775807 < (m : Int)) := by omega
   have hm48 : ¬ (281474976710656 < Builtin.nextslicecap m 0 * i.bytes) := by rw [nextslicecap_zero (by omega)]; have hb := hbytes; simp only [Nat.zero_add] at hb; omega
   have hgr := grown 0 (by omega) (Value.ownBlock (.slice none 0 0))
   simp only [Nat.zero_add, List.nil_append, Array.empty_append] at hgr ⊢
   refine ⟨_, _, ?_, hgr.1, hgr.2, .inr rfl⟩
   rcases hud with rfl | ⟨e', rfl⟩ <;> simp [Builtin.append_, run_underlying ht, run_underlying hu, sizeOf, typeInfo, zeroValue, hi, hz, hl1, hm, hm63, hm48, Question.forced, run_firstCells_none, hc', newRow, grownCap]
 ·by_cases hroom : n + m <= cap
  ·have hfit : n * i.size + news.length <= cur.size := by rw [hl, hcs, <- Nat.add_mul]; exact Nat.mul_le_mul_right _ hroom
   have hst := run_storeCells_at P g (n * i.size) e news 0 cur w hg (by simpa using hfit) h1
   simp only [Nat.add_zero] at hst
   refine ⟨.slice (some ⟨g, 0, none⟩) (n + m) cap, w.setRow g (cur.toList.take (n * i.size) ++ news ++ cur.toList.drop (n * i.size + news.length)).toArray, ?_, ⟨hlen2, .inr ⟨g, cap, _, rfl, hbg, setRow_heap w g cur _ e _ hg, hroom, hcm, ?_, ?_⟩⟩, ⟨rfl, rfl, rfl, by simp, fun k _ hk => setRow_other w g k _ (fun e => hk (by simp [Value.ownBlock, e]))⟩, .inl rfl⟩
   ·rcases hud with rfl | ⟨e', rfl⟩ <;> simp [Builtin.append_, run_underlying ht, run_underlying hu, sizeOf, typeInfo, hi, hl1, hroom, hc, Addr.add_lit, hst]
   ·simp only [List.size_toArray, List.length_append, List.length_take, List.length_drop, Array.length_toList]
    omega
   ·rw [htake, <- hlen2]
    exact List.take_left
  ·have holds : ∀ j u, xs[j]? = some u -> w.cell? ((⟨g, 0, none⟩ : Addr).add j) = some u := hown.cells (g := g) rfl
   have hn63 : ¬ (9223372036854775807 < ((n : Int) + (m : Int))) := by omega
   have hn48 : ¬ (281474976710656 < Builtin.nextslicecap (n + m) cap * i.bytes) := by have := growslice_fits (need := n + m) (old := cap) (bytes := i.bytes) (by omega) hbytes; omega
   have hfo := run_firstCells_some (P := P) w.drew i.size n ⟨g, 0, none⟩ n cap xs hown.1 (by simpa using holds)
   have hgr := grown cap (by omega) (Value.ownBlock (.slice (some ⟨g, 0, none⟩) n cap))
   refine ⟨_, _, ?_, hgr.1, hgr.2, .inr rfl⟩
   rcases hud with rfl | ⟨e', rfl⟩ <;> (simp [Builtin.append_, run_underlying ht, run_underlying hu, sizeOf, typeInfo, zeroValue, hi, hz, hl1, hroom, hn63, hn48, Question.forced, hc', hfo, newRow, grownCap]; congr 2; apply Array.ext'; simp [List.append_assoc])

theorem wpList_append_sep {P : Program} {w : World} {ops : Array Oper} {rest : List Oper} {o : Oper} {a : Act} {Q : Exit -> Act -> World -> Prop} (hgd : o.guard = none) (s x : Operand) (t u : TypeId)
  (ho : o.op = .call { callee := .builtin .append, args := #[s, x], argTypes := #[t, u] })
  (base : Nat) (e : TypeId) (i : TypeInfo) (z : Value) (size bytes : Nat) (ht : P.underlying t = some (.slice e)) (du : TypeDesc) (hu : P.underlying u = some du) (hud : du = .string \/ ∃ e', du = .slice e')
  (hi : P.info? e = some i) (hz : i.zero = some z)
  (hsize : i.size = size) (hby : i.bytes = bytes) (hzs : z.cells.size = size) (hsz : 0 < size)
  (v : Value) (n : Nat) (xs : List Value) (hs : a.eval s = v) (hown : w.ownsRow base e size v n xs)
  (xv : Value) (m : Nat) (news : List Value) (hx : a.eval x = xv) (hlen : ∀ w, (Builtin.lenOf xv).run P w = .ok m w) (hl : news.length = m * size)
  (hc : (Builtin.firstCells size m xv).run P w = .ok news.toArray w) (hc' : (Builtin.firstCells size m xv).run P w.drew = .ok news.toArray w.drew) (h1 : ∀ u ∈ news, u.oneCell' = true)
  (h63 : n + m <= maxLen) (hbytes : (n + m) * bytes <= 140737488355328) (hbase : base <= w.heap.size)
  (h : ∀ v' w', w'.ownsRow base e size v' (n + m) (xs ++ news) -> w.grownBy w' v.ownBlock -> (v'.ownBlock = v.ownBlock \/ v'.ownBlock = some w.heap.size) -> wpList P ops Q rest (a.put o.dst v') w') : wpList P ops Q (o :: rest) a w := by
 obtain ⟨v', w', hr, h2, h3, h4⟩ := run_append_sep (P := P) w base t u o.type e i z size bytes ht du hu hud hi hz hsize hby hzs hsz v n xs hown xv m news hlen hl hc hc' h1 h63 hbytes hbase
 refine wpList_plain hgd fun _ hK => ?_
 unfold Oper.wp execOp
 simp only [ho, resolve, invoke, builtin, Sem.run_bind, Sem.run_pure, Result.andThen_ok, List.map_toArray, List.map_cons, List.map_nil, hs, hx, hr]
 exact hK _ _ (h v' w' h2 h3 h4)
end
section
def bv (c : UInt8) : Value := .int .u8 c.toNat

def Sees (w : World) (v : Value) (l : List UInt8) : Prop :=
 (l = [] /\ ∃ a c, v = .slice a 0 c) \/
 ∃ g off cap, v = .slice (some ⟨g, off, none⟩) l.length cap /\ l.length <= cap /\ ∀ j, j < l.length -> w.cell? ⟨g, off + j, none⟩ = some (bv (l.getD j 0))

theorem lenOf_slice {P : Program} (a : Option Addr) (n c : Nat) (w : World) : (Builtin.lenOf (.slice a n c)).run P w = .ok n w := by simp [Builtin.lenOf]

theorem Sees.first {P : Program} {w : World} {v : Value} {l : List UInt8} (h : Sees w v l) : (Builtin.firstCells 1 l.length v).run P w = .ok (l.map bv).toArray w := by
 rcases h with ⟨rfl, a, c, rfl⟩ | ⟨g, off, cap, rfl, _, hc⟩
 ·cases a with
  | none => simp [Builtin.firstCells]
  | some a => exact run_firstCells_some (P := P) w 1 0 a 0 c [] rfl (by simp)
 ·refine run_firstCells_some (P := P) w 1 l.length ⟨g, off, none⟩ l.length cap (l.map bv) (by simp) ?_
  intro j v hj
  have hjl : j < l.length := by
   have := (List.getElem?_eq_some_iff.1 hj).1
   simpa using this
  have hplain : (⟨g, off, none⟩ : Addr).add j = ⟨g, off + j, none⟩ := by unfold Addr.add; split <;> simp_all
  rw [hplain, hc j hjl, <- hj]
  simp [List.getD, hjl]

theorem first_row {P : Program} {w : World} {g : Nat} {cs : Array Value} {t : TypeId} {fr : Nat × Nat} (h : w.heap[g]? = some (.cells cs t fr)) (n c : Nat) (hn : cs.size = n) :
  (Builtin.firstCells 1 n (.slice (some ⟨g, 0, none⟩) n c)).run P w = .ok cs w := by
 have := run_firstCells_some (P := P) w 1 n ⟨g, 0, none⟩ n c cs.toList (by simp [hn]) (by
  intro j v hj
  have hplain : (⟨g, 0, none⟩ : Addr).add j = ⟨g, j, none⟩ := by unfold Addr.add; split <;> simp_all
  rw [hplain, cell_of_row w g j cs t fr h]
  simpa using hj)
 simpa using this

theorem bv_of (n : Int) (h0 : 0 <= n) (h1 : n <= 255) : bv (UInt8.ofNat n.toNat) = .int .u8 n := by
 unfold bv
 congr 1
 have : (UInt8.ofNat n.toNat).toNat = n.toNat := by simp; omega
 rw [this]; omega

theorem slice_of_own {w : World} {base : Nat} {e : TypeId} {size : Nat} {v : Value} {n : Nat} {xs : List Value} (h : w.ownsRow base e size v n xs) : ∃ a c, v = .slice a n c := by
 rcases h.2 with ⟨rfl, rfl⟩ | ⟨g, cap, cur, rfl, _⟩
 ·exact ⟨_, _, rfl⟩
 ·exact ⟨_, _, rfl⟩

theorem push_bytes : ∀ (l : List UInt8) (s : ByteArray), (l.map fun c => (c.toNat : Int)).foldl (fun r n => r.push (UInt8.ofNat n.toNat)) s = ⟨s.data ++ l.toArray⟩
 | [], s => by simp
 | c :: l, s => by
  rw [List.map_cons, List.foldl_cons, push_bytes l]
  simp [ByteArray.push]

theorem Sees.string {P : Program} {w : World} {v : Value} {l : List UInt8} (h : Sees w v l) (src e dst : TypeId) (hs : P.underlying src = some (.slice e)) (he : P.underlying e = some (.int .u8)) (hd : P.underlying dst = some .string) :
  (convert src dst v).run P w = .ok (.string ⟨l.toArray⟩) w := by
 have main : ∀ a n c, v = .slice (some a) n c -> (loadCells a n).run P w = .ok ((l.map fun c => (c.toNat : Int)).map (Value.int .u8)).toArray w -> (convert src dst v).run P w = .ok (.string ⟨l.toArray⟩) w := by
  rintro a n c rfl hl
  rw [run_convert_bytes_string w src dst e _ n c hs he hd, run_bytesToString w _ n c _ hl, push_bytes]
  simp [ByteArray.empty, ByteArray.emptyWithCapacity]
  rfl
 have hf := h.first (P := P)
 rcases h with ⟨rfl, a, c, rfl⟩ | ⟨g, off, cap, rfl, _, _⟩
 ·cases a with
  | none => rw [run_convert_bytes_nil w src e hs he 0 c dst hd]; rfl
  | some a => exact main a 0 c rfl (by simpa [Builtin.firstCells] using hf)
 ·refine main _ _ cap rfl ?_
  simp only [Builtin.firstCells, Nat.mul_one] at hf
  rw [hf, List.map_map]
  rfl

theorem sees_new {w : World} {cs : Array Value} {t : TypeId} {fr : Nat × Nat} {l : List UInt8} {c : Nat} (g : Nat) (hg : w.heap[g]? = some (.cells cs t fr)) (hc : ∀ j, j < l.length -> cs[j]? = some (bv (l.getD j 0))) (hle : l.length <= c) :
  Sees w (.slice (some ⟨g, 0, none⟩) l.length c) l := by
 refine .inr ⟨g, 0, c, rfl, hle, fun j hj => ?_⟩
 rw [Nat.zero_add, cell_of_row w g j cs t fr hg, hc j hj]
end
section
structure Ins where
 op : Nat
 dst : Nat
 a : Nat
 b : Nat
 n : Int

structure Ins.Fits (x : Ins) : Prop where
 op : x.op <= 255
 dst : x.dst <= 255
 a : x.a <= 255
 b : x.b <= 255
 lo : -32768 <= x.n
 hi : x.n <= 32767

def Ins.turns (x : Ins) : Int := if x.op = 9 then (x.b : Int) * (max x.n 1 - 1) else 0

def fuelE (l : List Ins) : Int := l.length + (l.map Ins.turns).sum

def bodyAt (l : List Ins) (i j : Nat) : Option Nat :=
 match l[j]? with
 | some x => if x.op = 9 /\ i < j + 1 + x.b then some (j + 1 + x.b) else none
 | none => none

def bodyE (l : List Ins) (i : Nat) : Option Nat := (List.range i).findSome? (bodyAt l i)

def regsE (x : Ins) : Bool := decide (x.dst < 16) && (decide (x.a < 16) && (decide (x.op = 9) || decide (x.b < 16)))

def loopE (l : List Ins) (i : Nat) (x : Ins) : Bool :=
 !(bodyE l i).isSome && (decide (0 < x.b) && (decide (i + x.b < l.length) && (decide (1 <= x.n) && decide (x.n <= 8))))

def skipE (l : List Ins) (i : Nat) (x : Ins) : Bool :=
 if x.n < 1 \/ (l.length : Int) < i + 1 + x.n then false
 else match bodyE l i with
  | some e => decide ((i : Int) + 1 + x.n <= e)
  | none => !(bodyE l (i + 1 + x.n.toNat)).isSome

def insE (l : List Ins) (i : Nat) (x : Ins) : Nat :=
 if 12 <= x.op then 5
 else if regsE x = false then 2
 else if (x.op = 9 /\ loopE l i x = false) \/ (x.op = 8 /\ skipE l i x = false) then 4
 else if x.op = 10 /\ x.n < 0 then 2 else 0

def pfirstE (l : List Ins) : Nat -> List Ins -> Nat
 | _, [] => 0
 | i, x :: r => if insE l i x ≠ 0 then insE l i x else pfirstE l (i + 1) r

def pcheckE (l : List Ins) : Nat :=
 if 24 < l.length then 7
 else if pfirstE l 0 l ≠ 0 then pfirstE l 0 l
 else if 200 < fuelE l then 6 else 0

theorem findSome_range {f : Nat -> Option Nat} : ∀ (n j : Nat) (e : Nat), j < n -> (∀ k, k < j -> f k = none) -> f j = some e -> (List.range n).findSome? f = some e := by
 intro n
 induction n with
 | zero => intro j e h; omega
 | succ n ih =>
  intro j e hj hk hf
  rw [List.range_succ, List.findSome?_append]
  by_cases h : j < n
  ·rw [ih j e h hk hf]; rfl
  ·obtain rfl : j = n := by omega
   have : (List.range j).findSome? f = none := by
    rw [List.findSome?_eq_none_iff]
    intro x hx
    exact hk x (List.mem_range.1 hx)
   rw [this]
   simp [hf]

theorem findSome_none {f : Nat -> Option Nat} (n : Nat) (hk : ∀ k, k < n -> f k = none) : (List.range n).findSome? f = none := by
 rw [List.findSome?_eq_none_iff]
 intro x hx
 exact hk x (List.mem_range.1 hx)

theorem pfirstE_zero (l : List Ins) : ∀ (r : List Ins) (i : Nat), pfirstE l i r = 0 ↔ ∀ k x, r[k]? = some x -> insE l (i + k) x = 0
 | [], i => by simp [pfirstE]
 | x :: r, i => by
  have ih := pfirstE_zero l r (i + 1)
  unfold pfirstE
  by_cases h : insE l i x = 0
  ·rw [if_neg (by simpa using h), ih]
   constructor
   ·intro g k y hy
    cases k with
    | zero => simp at hy; subst hy; exact h
    | succ k => have := g k y (by simpa using hy); rw [show i + (k + 1) = i + 1 + k by omega]; exact this
   ·intro g k y hy
    have := g (k + 1) y (by simpa using hy)
    rw [show i + (k + 1) = i + 1 + k by omega] at this
    exact this
  ·rw [if_pos h]
   constructor
   ·intro g; exact absurd g h
   ·intro g; exact absurd (g 0 x rfl) h

theorem checkE_zero (l : List Ins) : pcheckE l = 0 ↔ l.length <= 24 /\ (∀ i x, l[i]? = some x -> insE l i x = 0) /\ fuelE l <= 200 := by
 have h := pfirstE_zero l l 0
 simp only [Nat.zero_add] at h
 unfold pcheckE
 rw [<- h]
 split
 ·constructor
  ·intro g; cases g
  ·intro g; omega
 ·split
  ·rename_i h1 h2
   constructor
   ·intro g; exact absurd g h2
   ·intro g; exact absurd g.2.1 h2
  ·rename_i h1 h2
   split
   ·constructor
    ·intro g; cases g
    ·intro g; omega
   ·constructor
    ·intro _; exact ⟨by omega, by simpa using h2, by omega⟩
    ·intro _; rfl

theorem loop_ends (p : List Ins) (h : ∀ i x, p[i]? = some x -> insE p i x = 0) (j : Nat) (x : Ins) (hx : p[j]? = some x) (h9 : x.op = 9) : j + 1 + x.b <= p.length := by
 have h1 := h j x hx
 unfold insE at h1
 rw [if_neg (by omega)] at h1
 split at h1
 ·cases h1
 ·split at h1
  ·cases h1
  ·rename_i h3
   have : loopE p j x = true := by
    cases hb : loopE p j x
    ·exact absurd (.inl ⟨h9, hb⟩) h3
    ·rfl
   unfold loopE at this
   simp only [Bool.and_eq_true, decide_eq_true_eq] at this
   omega

structure Pre (x : Ins) : Prop where
 fits : x.Fits
 op : x.op < 12
 dst : x.dst < 16
 a : x.a < 16
 b : x.op = 9 \/ x.b < 16
 n : x.op = 10 -> 0 <= x.n

theorem pre_check (l : List Ins) (hl : l.length <= 16) (h : ∀ x ∈ l, Pre x) (h8 : ∀ x ∈ l, x.op ≠ 8 /\ x.op ≠ 9) : pcheckE l = 0 := by
 rw [checkE_zero]
 refine ⟨by omega, fun i x hx => ?_, ?_⟩
 ·have hm := List.mem_of_getElem? hx
  have p := h x hm
  have := h8 x hm
  have hr : regsE x = true := by
   unfold regsE
   simp [p.dst, p.a]
   exact p.b
  have ho := p.op
  have hn := p.n
  unfold insE
  rw [if_neg (by omega), hr, if_neg (by simp), if_neg (by rintro (⟨a, _⟩ | ⟨a, _⟩) <;> omega), if_neg]
  rintro ⟨a, b⟩
  have := hn a
  omega
 ·unfold fuelE
  have : (l.map Ins.turns).sum = 0 := by
   clear hl h
   induction l with
   | nil => rfl
   | cons x r ih =>
    rw [List.map_cons, List.sum_cons, ih (fun y hy => h8 y (List.mem_cons_of_mem _ hy))]
    unfold Ins.turns
    rw [if_neg (h8 x List.mem_cons_self).2]
    rfl
  omega

theorem turns_bounds (x : Ins) (h : x.Fits) : 0 <= x.turns /\ x.turns <= 8355330 := by
 unfold Ins.turns
 obtain ⟨_, _, _, hb, hlo, hhi⟩ := h
 split
 ·have h1 : (0 : Int) <= max x.n 1 - 1 := by omega
  have h2 : max x.n 1 - 1 <= 32766 := by omega
  have h3 : (x.b : Int) <= 255 := by omega
  have h4 := Int.mul_le_mul h3 h2 h1 (by omega)
  have h5 := Int.mul_nonneg (Int.natCast_nonneg x.b) h1
  omega
 ·omega

theorem sum_bounds (l : List Ins) (h : ∀ x ∈ l, x.Fits) : 0 <= (l.map Ins.turns).sum /\ (l.map Ins.turns).sum <= 8355330 * l.length := by
 induction l with
 | nil => simp
 | cons x r ih =>
  have h1 := turns_bounds x (h x List.mem_cons_self)
  have h2 := ih (fun y hy => h y (List.mem_cons_of_mem _ hy))
  rw [List.map_cons, List.sum_cons, List.length_cons]
  omega
end
section
theorem lt_of_block {w : World} {b : Nat} {o : Obj} (h : w.heap[b]? = some o) : b < w.heap.size := (Array.getElem?_eq_some_iff.1 h).1

theorem pbox_kept {S : Nat -> Prop} {w0 w1 : World} {b : Nat} {o : Obj} (h : w0.heap[b]? = some o) (f : Fr S w0 w1) (hb : ¬ S b) : w1.heap[b]? = some o := by
 rw [f.block b (lt_of_block h) hb]; exact h

theorem pcells_row {w : World} {b : Nat} {cs : Array Value} {t : TypeId} (h : w.heap[b]? = some (.cells cs t (0, 0))) (i : Nat) (u : Value) (hu : cs[i]? = some u) : w.cell? ⟨b, i, none⟩ = some u := by
 rw [cell_of_row w b i cs t (0, 0) h]; exact hu

theorem cell_fr0 {w w' : World} (hf : Fr (fun _ => False) w w') {g o : Nat} {u : Value} (h : w.cell? ⟨g, o, none⟩ = some u) : w'.cell? ⟨g, o, none⟩ = some u := by
 rw [<- h]; exact hf.cell (World.block_lt_of_cell? w _ h) (fun h => h)

theorem pplain_add (g o j : Nat) : (⟨g, o, none⟩ : Addr).add j = ⟨g, o + j, none⟩ := by unfold Addr.add; split <;> simp_all

theorem Fr.pdrewN {S : Nat -> Prop} {a b : World} (h : Fr S a b) (n : Nat) : Fr S a (b.drewN n) := ⟨h.os, h.tape, h.output, h.size, h.block⟩

def insC (x : Ins) : List Value := [.int .u8 x.op, .int .u8 x.dst, .int .u8 x.a, .int .u8 x.b, .int .i16 x.n]

def PAt (w : World) (g : Nat) (l : List Ins) : Prop :=
 ∀ i x, l[i]? = some x -> x.Fits /\ w.cell? ⟨g, i * 5, none⟩ = some (.int .u8 x.op) /\ w.cell? ⟨g, i * 5 + 1, none⟩ = some (.int .u8 x.dst) /\ w.cell? ⟨g, i * 5 + 2, none⟩ = some (.int .u8 x.a) /\
  w.cell? ⟨g, i * 5 + 3, none⟩ = some (.int .u8 x.b) /\ w.cell? ⟨g, i * 5 + 4, none⟩ = some (.int .i16 x.n)

def PSees (w : World) (v : Value) (l : List Ins) : Prop :=
 (l = [] /\ ∃ a c, v = .slice a 0 c) \/ ∃ g cap, v = .slice (some ⟨g, 0, none⟩) l.length cap /\ l.length <= cap /\ PAt w g l

theorem PAt.lt {w : World} {g : Nat} {l : List Ins} (h : PAt w g l) (hl : l ≠ []) : g < w.heap.size := by
 cases l with
 | nil => exact absurd rfl hl
 | cons x l => exact World.block_lt_of_cell? w _ (h 0 x rfl).2.1

theorem PAt.fr {S : Nat -> Prop} {w w' : World} {g : Nat} {l : List Ins} (h : PAt w g l) (hf : Fr S w w') (hS : ¬ S g) : PAt w' g l := by
 intro i x hx
 obtain ⟨h0, h1, h2, h3, h4, h5⟩ := h i x hx
 have hg : g < w.heap.size := World.block_lt_of_cell? w _ h1
 exact ⟨h0, by rw [hf.cell hg hS]; exact h1, by rw [hf.cell hg hS]; exact h2, by rw [hf.cell hg hS]; exact h3, by rw [hf.cell hg hS]; exact h4, by rw [hf.cell hg hS]; exact h5⟩

theorem PAt.take {w : World} {g : Nat} {l : List Ins} (h : PAt w g l) (n : Nat) : PAt w g (l.take n) := by
 intro i x hx
 refine h i x ?_
 rw [List.getElem?_take] at hx
 split at hx
 ·exact hx
 ·cases hx

theorem PSees.fr {S : Nat -> Prop} {w w' : World} {v : Value} {l : List Ins} (h : PSees w v l) (hf : Fr S w w') (hS : ∀ k, v.ownBlock = some k -> ¬ S k) : PSees w' v l := by
 rcases h with h | ⟨g, cap, rfl, hle, hc⟩
 ·exact .inl h
 ·exact .inr ⟨g, cap, rfl, hle, hc.fr hf (hS g rfl)⟩

theorem PSees.shape {w : World} {v : Value} {l : List Ins} (h : PSees w v l) : ∃ a c, v = .slice a l.length c /\ (l = [] \/ ∃ g, a = some ⟨g, 0, none⟩ /\ l.length <= c /\ PAt w g l) := by
 rcases h with ⟨rfl, a, c, rfl⟩ | ⟨g, cap, rfl, hle, hc⟩
 ·exact ⟨a, c, rfl, .inl rfl⟩
 ·exact ⟨_, cap, rfl, .inr ⟨g, rfl, hle, hc⟩⟩

theorem flat_at (l : List Ins) : ∀ (i j : Nat), j < 5 -> (l.flatMap insC)[i * 5 + j]? = (l[i]?).bind (fun x => (insC x)[j]?) := by
 induction l with
 | nil => simp
 | cons x l ih =>
  intro i j hj
  rw [List.flatMap_cons]
  cases i with
  | zero => rw [List.getElem?_append_left (by simp [insC]; omega)]; simp
  | succ i =>
   rw [List.getElem?_append_right (by simp [insC]; omega), show (i + 1) * 5 + j - (insC x).length = i * 5 + j by simp [insC]; omega, ih i j hj]
   simp

theorem flat_length (l : List Ins) : (l.flatMap insC).length = l.length * 5 := by
 induction l with
 | nil => rfl
 | cons x l ih => rw [List.flatMap_cons, List.length_append, ih]; simp [insC]; omega

theorem flat_one (l : List Ins) : ∀ u ∈ l.flatMap insC, u.oneCell' = true := by
 intro u hu
 obtain ⟨x, _, hx⟩ := List.mem_flatMap.1 hu
 simp [insC] at hx
 rcases hx with rfl | rfl | rfl | rfl | rfl <;> rfl

theorem PAt.flat {w : World} {g : Nat} {l : List Ins} (h : PAt w g l) (j : Nat) (u : Value) (hj : (l.flatMap insC)[j]? = some u) : w.cell? ⟨g, j, none⟩ = some u := by
 have e : j = j / 5 * 5 + j % 5 := by omega
 rw [e, flat_at l _ _ (by omega)] at hj
 obtain ⟨x, hx, hu⟩ := Option.bind_eq_some_iff.1 hj
 obtain ⟨_, h1, h2, h3, h4, h5⟩ := h _ x hx
 rw [e]
 have : j % 5 = 0 \/ j % 5 = 1 \/ j % 5 = 2 \/ j % 5 = 3 \/ j % 5 = 4 := by omega
 rcases this with c | c | c | c | c <;> rw [c] at hu ⊢ <;> simp [insC] at hu <;> subst hu <;> assumption

theorem PSees.first {P : Program} {w : World} {v : Value} {l : List Ins} (h : PSees w v l) : (Builtin.firstCells 5 l.length v).run P w = .ok (l.flatMap insC).toArray w := by
 rcases h with ⟨rfl, a, c, rfl⟩ | ⟨g, cap, rfl, hle, hc⟩
 ·cases a with
  | none => simp [Builtin.firstCells]
  | some a => exact run_firstCells_some (P := P) w 5 0 a 0 c [] rfl (by simp)
 ·refine run_firstCells_some (P := P) w 5 l.length ⟨g, 0, none⟩ l.length cap (l.flatMap insC) (flat_length l) ?_
  intro j u hj
  rw [pplain_add, Nat.zero_add]
  exact hc.flat j u hj

def POwn (w : World) (v : Value) (l : List Ins) : Prop := w.ownsRow 0 79 5 v l.length (l.flatMap insC)

theorem Try.infoIns : (Try.prog.info? 79).map (fun i => (i.zero, i.size, i.bytes)) = some (some (.agg #[.int .u8 0, .int .u8 0, .int .u8 0, .int .u8 0, .int .i16 0]), 5, 6) := by kernel_rfl

theorem POwn.nil (w : World) : POwn w (.slice none 0 0) [] := World.ownsRow_nil w 0 79 5

theorem POwn.fr {S : Nat -> Prop} {w w' : World} {v : Value} {l : List Ins} (h : POwn w v l) (hf : Fr S w w') (hS : ∀ k, v.ownBlock = some k -> ¬ S k) : POwn w' v l := by
 refine ⟨h.1, ?_⟩
 rcases h.2 with hn | ⟨g, cap, cur, rfl, hb, hgg, rest⟩
 ·exact .inl hn
 ·refine .inr ⟨g, cap, cur, rfl, hb, ?_, rest⟩
  rw [hf.block g (Array.getElem?_eq_some_iff.1 hgg).1 (hS g rfl)]
  exact hgg

theorem POwn.lt {w : World} {v : Value} {l : List Ins} (h : POwn w v l) : ∀ k, v.ownBlock = some k -> k < w.heap.size := fun k hk => (World.ownsRow.lt h k hk).2

theorem POwn.sees {w : World} {v : Value} {l : List Ins} (h : POwn w v l) (hf : ∀ x ∈ l, x.Fits) : PSees w v l := by
 obtain ⟨_, h2⟩ := h
 rcases h2 with ⟨rfl, h0⟩ | ⟨g, cap, cur, rfl, _, hg, hn, _, hs, ht⟩
 ·exact .inl ⟨List.eq_nil_of_length_eq_zero h0, none, 0, rfl⟩
 ·refine .inr ⟨g, cap, rfl, hn, fun i x hx => ?_⟩
  have hi := (List.getElem?_eq_some_iff.1 hx).1
  have key : ∀ j u, j < 5 -> (insC x)[j]? = some u -> w.cell? ⟨g, i * 5 + j, none⟩ = some u := by
   intro j u hj hu
   rw [cell_of_row w g (i * 5 + j) cur _ (0, 0) hg]
   have e : (cur.toList.take (l.length * 5))[i * 5 + j]? = (l.flatMap insC)[i * 5 + j]? := by rw [ht]
   rw [List.getElem?_take, if_pos (by omega), flat_at l i j hj, hx] at e
   rw [<- Array.getElem?_toList, e]
   exact hu
  exact ⟨hf x (List.mem_of_getElem? hx), key 0 _ (by omega) rfl, key 1 _ (by omega) rfl, key 2 _ (by omega) rfl, key 3 _ (by omega) rfl, key 4 _ (by omega) rfl⟩

theorem wpList_append_ins {w : World} {ops : Array Oper} {rest : List Oper} {o : Oper} {a : Act} {Q : Exit -> Act -> World -> Prop} (hgd : o.guard = none) (s x : Operand)
  (ho : o.op = .call { callee := .builtin .append, args := #[s, x], argTypes := #[38, 38] })
  (v : Value) (acc : List Ins) (hs : a.eval s = v) (hown : POwn w v acc) (u : Value) (news : List Ins) (hx : a.eval x = u) (hu : PSees w u news) (hl : acc.length + news.length <= 4000)
  (h : ∀ v' w', POwn w' v' (acc ++ news) -> w.grownBy w' v.ownBlock -> (v'.ownBlock = v.ownBlock \/ v'.ownBlock = some w.heap.size) -> wpList Try.prog ops Q rest (a.put o.dst v') w') : wpList Try.prog ops Q (o :: rest) a w := by
 obtain ⟨i0, hi, hz0, hz1, hz2⟩ := info_parts Try.infoIns
 obtain ⟨ua, uc, rfl, _⟩ := hu.shape
 refine wpList_append_sep (P := Try.prog) hgd s x 38 38 ho 0 79 i0 (.agg #[.int .u8 0, .int .u8 0, .int .u8 0, .int .u8 0, .int .i16 0]) 5 6 Try.underlying38 _ Try.underlying38 (.inr ⟨_, rfl⟩) hi hz0 hz1 hz2 rfl (by decide)
  v acc.length _ hs hown _ news.length (news.flatMap insC) hx (fun w => lenOf_slice _ _ _ _) (flat_length _) hu.first (hu.fr (w' := w.drew) (S := fun _ => False) ((Fr.refl _ w).drew) fid2).first (flat_one news) (by unfold maxLen; omega) (by omega) (Nat.zero_le _) ?_
 intro v' w' h1 h2 h3
 refine h v' w' ?_ h2 h3
 unfold POwn
 rw [List.flatMap_append, List.length_append]
 exact h1

def PTold (w w' : World) (v : Value) (l : List Ins) : Prop := POwn w' v l /\ Fr (fun _ => False) w w' /\ ∀ k, v.ownBlock = some k -> w.heap.size <= k

theorem PTold.append {w wr w' w3 : World} {v v' : Value} {acc news : List Ins} (h : PTold w wr v acc) (f : Fr (fun _ => False) wr w') (hown' : POwn w3 v' (acc ++ news)) (hg : w'.grownBy w3 v.ownBlock)
  {n : Nat} (hc : v'.ownBlock = v.ownBlock \/ v'.ownBlock = some n) (hn : wr.heap.size <= n) : PTold w w3 v' (acc ++ news) := by
 have F := h.2.1.trans f fid2
 refine ⟨hown', F.trans (Fr.of_grown hg) (fun i hi e => by have := h.2.2 i e.symm; omega), ?_⟩
 intro k hk
 rcases hc with e | e
 ·exact h.2.2 k (e ▸ hk)
 ·rw [e] at hk; cases hk; exact Nat.le_trans h.2.1.size hn

theorem new_two (w : World) (o1 o2 : Obj) : ((w.alloc o1).alloc o2).heap[w.heap.size + 1]? = some o2 := by
 have := heap_alloc_new (w.alloc o1) o2
 rwa [World.size_alloc] at this

theorem new_three (w : World) (o1 o2 o3 : Obj) : (((w.alloc o1).alloc o2).alloc o3).heap[w.heap.size + 1 + 1]? = some o3 := by
 have := new_two (w.alloc o1) o2 o3
 rwa [World.size_alloc] at this

theorem PTold.fr {w wr w' : World} {v : Value} {l : List Ins} (h : PTold w wr v l) (f : Fr (fun _ => False) wr w') : PTold w w' v l :=
 ⟨h.1.fr f fid2, h.2.1.trans f fid2, h.2.2⟩

theorem psetCell_row {w : World} {b : Nat} {cs : Array Value} {t : TypeId} {f : Nat × Nat} (i : Nat) (y : Value) (h : w.heap[b]? = some (.cells cs t f)) :
  (w.setCell ⟨b, i, none⟩ y).heap[b]? = some (.cells (cs.setIfInBounds i y) t f) := by
 unfold World.setCell
 simp only [Array.getElem?_modify, if_true, h, Option.map_some]
 simp

def setIns (w : World) (g i : Nat) (x : Ins) : World :=
 ((((w.setCell ⟨g, i * 5, none⟩ (.int .u8 x.op)).setCell ⟨g, i * 5 + 1, none⟩ (.int .u8 x.dst)).setCell ⟨g, i * 5 + 2, none⟩ (.int .u8 x.a)).setCell ⟨g, i * 5 + 3, none⟩ (.int .u8 x.b)).setCell ⟨g, i * 5 + 4, none⟩ (.int .i16 x.n)

theorem setIns_row {w : World} {g : Nat} {cs : Array Value} {t : TypeId} {f : Nat × Nat} (i : Nat) (x : Ins) (h : w.heap[g]? = some (.cells cs t f)) :
  (setIns w g i x).heap[g]? = some (.cells (((((cs.setIfInBounds (i * 5) (.int .u8 x.op)).setIfInBounds (i * 5 + 1) (.int .u8 x.dst)).setIfInBounds (i * 5 + 2) (.int .u8 x.a)).setIfInBounds (i * 5 + 3) (.int .u8 x.b)).setIfInBounds (i * 5 + 4) (.int .i16 x.n)) t f) :=
 psetCell_row _ _ (psetCell_row _ _ (psetCell_row _ _ (psetCell_row _ _ (psetCell_row _ _ h))))

theorem setIns_fr {w0 w : World} {g i : Nat} {x : Ins} {S : Nat -> Prop} (h : Fr S w0 w) (hg : g < w0.heap.size -> S g) : Fr S w0 (setIns w g i x) :=
 ((((h.setCell (p := ⟨g, i * 5, none⟩) hg _).setCell (p := ⟨g, i * 5 + 1, none⟩) hg _).setCell (p := ⟨g, i * 5 + 2, none⟩) hg _).setCell (p := ⟨g, i * 5 + 3, none⟩) hg _).setCell (p := ⟨g, i * 5 + 4, none⟩) hg _

theorem POwn.set {w : World} {g n cap : Nat} {l : List Ins} (h : POwn w (.slice (some ⟨g, 0, none⟩) n cap) l) (i : Nat) (hi : i < l.length) (x : Ins) : POwn (setIns w g i x) (.slice (some ⟨g, 0, none⟩) n cap) (l.set i x) := by
 obtain ⟨h1, h2⟩ := h
 rcases h2 with ⟨e, _⟩ | ⟨g', cap', cur, e, hb, hg, hn, hm, hs, ht⟩
 ·cases e
 ·simp at e
  obtain ⟨rfl, e1, rfl⟩ := e
  refine ⟨by rw [flat_length], .inr ⟨g, cap, _, by rw [List.length_set, e1], hb, setIns_row i x hg, by rw [List.length_set]; exact hn, hm, by simp [hs], ?_⟩⟩
  refine List.ext_getElem? fun k => ?_
  have hc : (cur.toList.take (l.length * 5))[k]? = (l.flatMap insC)[k]? := by rw [ht]
  have ek : k = k / 5 * 5 + k % 5 := by omega
  by_cases hk : k < l.length * 5
  ·rw [List.getElem?_take, if_pos (by rw [List.length_set]; exact hk)]
   rw [List.getElem?_take, if_pos hk] at hc
   rw [ek, flat_at _ _ _ (by omega), <- ek, List.getElem?_set]
   rw [ek, flat_at _ _ _ (by omega), <- ek] at hc
   have hcur : k < cur.size := by rw [hs]; omega
   simp only [Array.getElem?_toList, Array.getElem?_setIfInBounds] at hc ⊢
   have five : k % 5 = 0 \/ k % 5 = 1 \/ k % 5 = 2 \/ k % 5 = 3 \/ k % 5 = 4 := by omega
   by_cases hq : i = k / 5
   ·subst hq
    rw [if_pos rfl, if_pos hi]
    rcases five with c | c | c | c | c
    ·rw [if_neg (by omega), if_neg (by omega), if_neg (by omega), if_neg (by omega), if_pos (by omega), if_pos (by omega), c]; rfl
    ·rw [if_neg (by omega), if_neg (by omega), if_neg (by omega), if_pos (by omega), if_pos (by simp only [Array.size_setIfInBounds]; omega), c]; rfl
    ·rw [if_neg (by omega), if_neg (by omega), if_pos (by omega), if_pos (by simp only [Array.size_setIfInBounds]; omega), c]; rfl
    ·rw [if_neg (by omega), if_pos (by omega), if_pos (by simp only [Array.size_setIfInBounds]; omega), c]; rfl
    ·rw [if_pos (by omega), if_pos (by simp only [Array.size_setIfInBounds]; omega), c]; rfl
   ·rw [if_neg hq, if_neg (by omega), if_neg (by omega), if_neg (by omega), if_neg (by omega), if_neg (by omega)]
    exact hc
  ·rw [List.getElem?_eq_none (by rw [List.length_take, List.length_set]; omega), List.getElem?_eq_none (by rw [flat_length, List.length_set]; omega)]

theorem PTold.set {w wr : World} {g n cap : Nat} {l : List Ins} (h : PTold w wr (.slice (some ⟨g, 0, none⟩) n cap) l) (i : Nat) (hi : i < l.length) (x : Ins) : PTold w (setIns wr g i x) (.slice (some ⟨g, 0, none⟩) n cap) (l.set i x) :=
 ⟨h.1.set i hi x, setIns_fr h.2.1 (fun hg => by have := h.2.2 g rfl; omega), h.2.2⟩
end
section
def upd (r : Nat -> Int) (d : Nat) (v : Int) : Nat -> Int := fun k => if k = d then v else r k

inductive Out where
 | ok (stop : Bool) (r : Nat -> Int)
 | bad (e : Nat) (n : Int)

def opE (s : Int) (x : Ins) (r : Nat -> Int) : Option Int :=
 if x.op = 1 then some x.n
 else if x.op = 2 then some (r x.a)
 else if x.op = 3 then some (wrap64 (r x.a + r x.b))
 else if x.op = 4 then some (wrap64 (r x.a - r x.b))
 else if x.op = 5 then some (wrap64 (r x.a * r x.b))
 else if x.op = 6 then (if r x.b = 0 then none else some (wrap64 ((r x.a).tdiv (r x.b))))
 else if x.op = 7 then some (if r x.a < r x.b then 1 else 0)
 else some s

def stepsE (rep : List Ins -> Nat -> (Nat -> Int) -> Out) (s : Int) : List Ins -> Nat -> (Nat -> Int) -> Out
 | [], _, r => .ok false r
 | _ :: l, k + 1, r => stepsE rep s l k r
 | x :: l, 0, r =>
  if x.op = 0 then .ok true r
  else if x.op = 8 then stepsE rep s l (if r x.a = 0 then x.n.toNat else 0) r
  else if x.op = 9 then match rep (l.take x.b) x.n.toNat r with
   | .ok true r' => .ok true r'
   | .ok false r' => stepsE rep s l x.b r'
   | .bad e n => .bad e n
  else if x.op = 10 then (if r x.a = 0 then stepsE rep s l 0 r else .bad 16 x.n)
  else match opE s x r with
   | some v => stepsE rep s l 0 (upd r x.dst v)
   | none => .bad 14 0

def repE (f : (Nat -> Int) -> Out) : Nat -> (Nat -> Int) -> Out
 | 0, r => .ok false r
 | n + 1, r => match f r with
  | .ok false r' => repE f n r'
  | .ok true r' => .ok true r'
  | .bad e n => .bad e n

def runE (s : Int) : Nat -> List Ins -> (Nat -> Int) -> Out
 | 0, l, r => stepsE (fun _ _ r => .ok false r) s l 0 r
 | d + 1, l, r => stepsE (fun b n r => repE (runE s d b) n r) s l 0 r

def repD (s : Int) : Nat -> List Ins -> Nat -> (Nat -> Int) -> Out
 | 0 => fun _ _ r => .ok false r
 | d + 1 => fun b n r => repE (runE s d b) n r

theorem runE_steps (s : Int) (d : Nat) (l : List Ins) (r : Nat -> Int) : runE s d l r = stepsE (repD s d) s l 0 r := by
 cases d <;> rfl

theorem steps_skip (rep : List Ins -> Nat -> (Nat -> Int) -> Out) (s : Int) : ∀ (l : List Ins) (k : Nat) (r : Nat -> Int), stepsE rep s l k r = stepsE rep s (l.drop k) 0 r
 | [], k, r => by simp [stepsE]
 | _ :: _, 0, r => rfl
 | _ :: l, k + 1, r => by rw [stepsE, steps_skip rep s l k r]; rfl

theorem steps_at (rep : List Ins -> Nat -> (Nat -> Int) -> Out) (s : Int) (l : List Ins) (j : Nat) (x : Ins) (r : Nat -> Int) (hx : l[j]? = some x) :
  stepsE rep s (l.drop j) 0 r =
  if x.op = 0 then .ok true r
  else if x.op = 8 then stepsE rep s (l.drop (j + 1 + (if r x.a = 0 then x.n.toNat else 0))) 0 r
  else if x.op = 9 then match rep ((l.drop (j + 1)).take x.b) x.n.toNat r with
   | .ok true r' => .ok true r'
   | .ok false r' => stepsE rep s (l.drop (j + 1 + x.b)) 0 r'
   | .bad e n => .bad e n
  else if x.op = 10 then (if r x.a = 0 then stepsE rep s (l.drop (j + 1)) 0 r else .bad 16 x.n)
  else match opE s x r with
   | some v => stepsE rep s (l.drop (j + 1)) 0 (upd r x.dst v)
   | none => .bad 14 0 := by
 have hj := List.getElem?_eq_some_iff.1 hx
 rw [List.drop_eq_getElem_cons hj.1, hj.2, stepsE]
 simp only [steps_skip rep s (l.drop (j + 1)) (if r x.a = 0 then x.n.toNat else 0), steps_skip rep s (l.drop (j + 1)) x.b, List.drop_drop]

def Well : Nat -> List Ins -> Prop
 | 0, l => ∀ (i : Nat) (x : Ins), l[i]? = some x -> x.Fits /\ x.dst < 16 /\ x.a < 16 /\ (x.op ≠ 9 -> x.b < 16) /\ (x.op = 8 -> 0 <= x.n) /\ x.op ≠ 9
 | d + 1, l => ∀ (i : Nat) (x : Ins), l[i]? = some x -> x.Fits /\ x.dst < 16 /\ x.a < 16 /\ (x.op ≠ 9 -> x.b < 16) /\ (x.op = 8 -> 0 <= x.n) /\ (x.op = 9 -> (i + 1 + x.b <= l.length /\ 0 < x.b) /\ Well d ((l.drop (i + 1)).take x.b))

theorem Well.one {d : Nat} {l : List Ins} (h : Well d l) {i : Nat} {x : Ins} (hx : l[i]? = some x) : x.Fits /\ x.dst < 16 /\ x.a < 16 /\ (x.op ≠ 9 -> x.b < 16) /\ (x.op = 8 -> 0 <= x.n) := by
 cases d with
 | zero => obtain ⟨a, b, c, d, e, _⟩ := h i x hx; exact ⟨a, b, c, d, e⟩
 | succ d => obtain ⟨a, b, c, d, e, _⟩ := h i x hx; exact ⟨a, b, c, d, e⟩

theorem well_check (l : List Ins) (hf : ∀ x ∈ l, x.Fits) (h : pcheckE l = 0) : Well 1 l := by
 have h1 := ((checkE_zero l).1 h).2.1
 have key : ∀ (i : Nat) (x : Ins), l[i]? = some x -> x.Fits /\ x.dst < 16 /\ x.a < 16 /\ (x.op ≠ 9 -> x.b < 16) /\ (x.op = 8 -> 0 <= x.n) := by
  intro i x hx
  have h2 := h1 i x hx
  unfold insE at h2
  split at h2
  ·cases h2
  ·split at h2
   ·cases h2
   ·rename_i h3
    split at h2
    ·cases h2
    ·rename_i h4
     have hr : regsE x = true := by simpa using h3
     unfold regsE at hr
     simp at hr
     refine ⟨hf x (List.mem_of_getElem? hx), hr.1, hr.2.1, fun h9 => (hr.2.2.resolve_left h9), fun h8 => ?_⟩
     by_cases hn : x.n < 1
     ·refine absurd (.inr ⟨h8, ?_⟩) h4
      unfold skipE
      rw [if_pos (.inl hn)]
     ·omega
 intro i x hx
 obtain ⟨k1, k2, k3, k4, k5⟩ := key i x hx
 refine ⟨k1, k2, k3, k4, k5, fun h9 => ?_⟩
 have he := loop_ends l h1 i x hx h9
 have hb0 : 0 < x.b := by
  have h2 := h1 i x hx
  unfold insE at h2
  rw [if_neg (by omega)] at h2
  split at h2
  ·cases h2
  ·split at h2
   ·cases h2
   ·rename_i h4
    cases hb : loopE l i x
    ·exact absurd (.inl ⟨h9, hb⟩) h4
    ·unfold loopE at hb
     simp only [Bool.and_eq_true, decide_eq_true_eq] at hb
     exact hb.2.1
 refine ⟨⟨he, hb0⟩, fun j y hy => ?_⟩
 rw [List.getElem?_take] at hy
 split at hy
 ·rename_i hj
  rw [List.getElem?_drop] at hy
  obtain ⟨m1, m2, m3, m4, m5⟩ := key _ y hy
  refine ⟨m1, m2, m3, m4, m5, fun hy9 => ?_⟩
  have h2 := h1 _ y hy
  unfold insE at h2
  rw [if_neg (by omega)] at h2
  split at h2
  ·cases h2
  ·split at h2
   ·cases h2
   ·rename_i h4
    have hl : loopE l (i + 1 + j) y = true := by
     cases hb : loopE l (i + 1 + j) y
     ·exact absurd (.inl ⟨hy9, hb⟩) h4
     ·rfl
    unfold loopE at hl
    simp only [Bool.and_eq_true, Bool.not_eq_true'] at hl
    have hn : bodyE l (i + 1 + j) ≠ none := by
     intro hb
     unfold bodyE at hb
     rw [List.findSome?_eq_none_iff] at hb
     have := hb i (List.mem_range.2 (by omega))
     unfold bodyAt at this
     rw [hx] at this
     simp only at this
     rw [if_pos ⟨h9, by omega⟩] at this
     cases this
    cases hb : bodyE l (i + 1 + j) with
    | none => exact hn hb
    | some e => rw [hb] at hl; simp at hl
 ·cases hy

def sumE (l : List Int) : Int := l.foldl (fun t n => wrap64 (t + n)) 0
end
section
def failV (e : Nat) (n : Int) : Ending := .panicked [{ v := .iface 88 (.agg #[.int .i64 e, .int .i64 n]), recovered := false }]

def PSub (B : Nat -> Prop) (w : World) (v : Value) (l : List Ins) : Prop :=
 l.length <= 100 /\ ((l = [] /\ ∃ a c, v = .slice a 0 c) \/ ∃ g o cap, B g /\ v = .slice (some ⟨g, o, none⟩) l.length cap /\ l.length <= cap /\
  ∀ (i : Nat) (x : Ins), l[i]? = some x -> w.cell? ⟨g, o + i * 5, none⟩ = some (.int .u8 x.op) /\ w.cell? ⟨g, o + i * 5 + 1, none⟩ = some (.int .u8 x.dst) /\ w.cell? ⟨g, o + i * 5 + 2, none⟩ = some (.int .u8 x.a) /\
   w.cell? ⟨g, o + i * 5 + 3, none⟩ = some (.int .u8 x.b) /\ w.cell? ⟨g, o + i * 5 + 4, none⟩ = some (.int .i16 x.n))

theorem PSub.fr {B S : Nat -> Prop} {w w' : World} {v : Value} {l : List Ins} (h : PSub B w v l) (f : Fr S w w') (hS : ∀ k, B k -> ¬ S k) : PSub B w' v l := by
 obtain ⟨h0, h | ⟨g, o, cap, hB, rfl, hle, hc⟩⟩ := h
 ·exact ⟨h0, .inl h⟩
 ·refine ⟨h0, .inr ⟨g, o, cap, hB, rfl, hle, fun i x hx => ?_⟩⟩
  obtain ⟨h1, h2, h3, h4, h5⟩ := hc i x hx
  have hg : g < w.heap.size := World.block_lt_of_cell? w _ h1
  exact ⟨by rw [f.cell hg (hS g hB)]; exact h1, by rw [f.cell hg (hS g hB)]; exact h2, by rw [f.cell hg (hS g hB)]; exact h3, by rw [f.cell hg (hS g hB)]; exact h4, by rw [f.cell hg (hS g hB)]; exact h5⟩

theorem PSees.sub {w : World} {v : Value} {l : List Ins} (h : PSees w v l) (hl : l.length <= 100) {B : Nat -> Prop} (hB : ∀ k, v.ownBlock = some k -> B k) : PSub B w v l := by
 rcases h with h | ⟨g, cap, rfl, hle, hc⟩
 ·exact ⟨hl, .inl h⟩
 ·refine ⟨hl, .inr ⟨g, 0, cap, hB g rfl, rfl, hle, fun i x hx => ?_⟩⟩
  obtain ⟨_, h1, h2, h3, h4, h5⟩ := hc i x hx
  rw [Nat.zero_add]
  exact ⟨h1, h2, h3, h4, h5⟩

def regC (r : Nat -> Int) (nv : Value) : Array Value :=
 #[.int .i64 (r 0), .int .i64 (r 1), .int .i64 (r 2), .int .i64 (r 3), .int .i64 (r 4), .int .i64 (r 5), .int .i64 (r 6), .int .i64 (r 7), .int .i64 (r 8), .int .i64 (r 9), .int .i64 (r 10), .int .i64 (r 11), .int .i64 (r 12), .int .i64 (r 13), .int .i64 (r 14), .int .i64 (r 15), nv]

theorem regC_at (r : Nat -> Int) (nv : Value) (k : Nat) (hk : k < 16) : (regC r nv)[k]? = some (.int .i64 (r k)) := by
 unfold regC
 have : k = 0 \/ k = 1 \/ k = 2 \/ k = 3 \/ k = 4 \/ k = 5 \/ k = 6 \/ k = 7 \/ k = 8 \/ k = 9 \/ k = 10 \/ k = 11 \/ k = 12 \/ k = 13 \/ k = 14 \/ k = 15 := by omega
 rcases this with rfl | rfl | rfl | rfl | rfl | rfl | rfl | rfl | rfl | rfl | rfl | rfl | rfl | rfl | rfl | rfl <;> rfl

theorem regC_set (r : Nat -> Int) (nv : Value) (k : Nat) (hk : k < 16) (y : Int) : (regC r nv).setIfInBounds k (.int .i64 y) = regC (upd r k y) nv := by
 have : k = 0 \/ k = 1 \/ k = 2 \/ k = 3 \/ k = 4 \/ k = 5 \/ k = 6 \/ k = 7 \/ k = 8 \/ k = 9 \/ k = 10 \/ k = 11 \/ k = 12 \/ k = 13 \/ k = 14 \/ k = 15 := by omega
 rcases this with rfl | rfl | rfl | rfl | rfl | rfl | rfl | rfl | rfl | rfl | rfl | rfl | rfl | rfl | rfl | rfl <;> rfl

def MAt (w : World) (g : Nat) (r : Nat -> Int) (nv : Value) : Prop := w.heap[g]? = some (.cells (regC r nv) 92 (0, 0))

theorem MAt.cell {w : World} {g : Nat} {r : Nat -> Int} {nv : Value} (h : MAt w g r nv) (k : Nat) (hk : k < 16) : w.cell? ⟨g, k, none⟩ = some (.int .i64 (r k)) := by
 rw [cell_of_row w g k _ _ _ h, regC_at r nv k hk]

theorem MAt.nums {w : World} {g : Nat} {r : Nat -> Int} {nv : Value} (h : MAt w g r nv) : w.cell? ⟨g, 16, none⟩ = some nv := by
 rw [cell_of_row w g 16 _ _ _ h]; rfl

theorem MAt.frozen {w : World} {g : Nat} {r : Nat -> Int} {nv : Value} (h : MAt w g r nv) (k : Nat) : w.frozen? ⟨g, k, none⟩ = false := by
 have h' : w.heap[g]? = some (.cells (regC r nv) 92 (0, 0)) := h
 simp [World.frozen?, h']

theorem MAt.set {w : World} {g : Nat} {r : Nat -> Int} {nv : Value} (h : MAt w g r nv) (k : Nat) (hk : k < 16) (y : Int) : MAt (w.setCell ⟨g, k, none⟩ (.int .i64 y)) g (upd r k y) nv := by
 unfold MAt
 rw [psetCell_row k _ h, regC_set r nv k hk]

theorem MAt.fr {S : Nat -> Prop} {w w' : World} {g : Nat} {r : Nat -> Int} {nv : Value} (h : MAt w g r nv) (f : Fr S w w') (hS : ¬ S g) : MAt w' g r nv := pbox_kept h f hS

def NumsAt (B : Nat -> Prop) (w : World) (l : List Int) (v : Value) : Prop :=
 l.length <= 1000 /\ ((l = [] /\ ∃ a c, v = .slice a 0 c) \/
  ∃ g off cap, B g /\ v = .slice (some ⟨g, off, none⟩) l.length cap /\ l.length <= cap /\ ∀ (j : Nat) (x : Int), l[j]? = some x -> w.cell? ⟨g, off + j, none⟩ = some (.int .i64 x))

theorem NumsAt.fr {B S : Nat -> Prop} {w w' : World} {l : List Int} {v : Value} (h : NumsAt B w l v) (f : Fr S w w') (hS : ∀ k, B k -> ¬ S k) : NumsAt B w' l v := by
 obtain ⟨h0, h | ⟨g, o, cap, hB, rfl, hle, hc⟩⟩ := h
 ·exact ⟨h0, .inl h⟩
 ·refine ⟨h0, .inr ⟨g, o, cap, hB, rfl, hle, fun i x hx => ?_⟩⟩
  have h1 := hc i x hx
  have hg : g < w.heap.size := World.block_lt_of_cell? w _ h1
  rw [f.cell hg (hS g hB)]
  exact h1

theorem NumsAt.shape {B : Nat -> Prop} {w : World} {v : Value} {l : List Int} (h : NumsAt B w l v) : ∃ a c, v = .slice a l.length c /\ (l = [] \/ ∃ g o, a = some ⟨g, o, none⟩ /\ l.length <= c /\ B g /\ ∀ (j : Nat) (x : Int), l[j]? = some x -> w.cell? ⟨g, o + j, none⟩ = some (.int .i64 x)) := by
 obtain ⟨_, ⟨rfl, a, c, rfl⟩ | ⟨g, o, cap, hB, rfl, hle, hc⟩⟩ := h
 ·exact ⟨a, c, rfl, .inl rfl⟩
 ·exact ⟨_, cap, rfl, .inr ⟨g, o, rfl, hle, hB, hc⟩⟩

theorem sumE_take (l : List Int) (j : Nat) (x : Int) (hx : l[j]? = some x) : sumE (l.take (j + 1)) = wrap64 (sumE (l.take j) + x) := by
 unfold sumE
 rw [List.take_add_one, hx, List.foldl_append]
 rfl

set_option maxRecDepth 100000 in
theorem psum_any (B : Nat -> Prop) (l : List Int) (v : Value) (w : World) (h : NumsAt B w l v) :
  Calls Try.prog 58 #[v] w fun e w' => e = .returned (.int .i64 (sumE l)) /\ w = w' := by
 have hl := h.1
 obtain ⟨a, cap, rfl, hs⟩ := h.shape
 have Hs := hid hs
 clear h hs
 go_enter Try.func58, Try.ntmps58
 go_wp2
 go_loopg [3, 5, 8] l.length (fun G u3 u5 u8 wr => ∃ (j : Nat) (s : Int), j <= l.length /\ G = l.length - j /\ u8 = .int .i64 j /\ u3 = .int .i64 s /\ Hid (s = sumE (l.take j) /\ w = wr))
 case atStart => exact ⟨0, 0, Nat.zero_le _, rfl, rfl, rfl, hid ⟨rfl, rfl⟩⟩
 case round =>
  obtain ⟨j, s, hj, rfl, rfl, rfl, HI⟩ := hrel
  obtain ⟨hs, hw⟩ := HI.out
  subst hw
  by_cases hlt : j < l.length
  ·rcases Hs.out with rfl | ⟨g, o, rfl, hcap, _, hat⟩
   ·simp at hlt
   obtain ⟨x, hx⟩ : ∃ x, l[j]? = some x := ⟨_, List.getElem?_eq_getElem hlt⟩
   have c0 := hat j x hx
   have HT := hid (sumE_take l j x hx)
   have HS := hid hs
   clear hx hat hs HI
   go_wp2
   go_roundg (l.length - (j + 1))
   case measure => omega
   case rel => exact ⟨j + 1, wrap64 (s + x), by omega, rfl, by go_num, rfl, hid ⟨by rw [HT.out, HS.out], rfl⟩⟩
  ·obtain rfl : j = l.length := by omega
   have HS := hid (show s = sumE l by rw [hs, List.take_length])
   clear hs HI
   go_wp2
   go_ret
   rw [HS.out]
   exact ⟨rfl, rfl⟩

theorem truth_any (b : Bool) (w : World) : Calls Try.prog 57 #[.bool b] w fun e w' => e = .returned (.int .i64 (if b = true then 1 else 0)) /\ w = w' := by
 cases b
 all_goals
  go_enter Try.func57, Try.ntmps57
  go_wp2
  go_ret
  exact ⟨rfl, rfl⟩

theorem quo_zero (a : Int) (w : World) : Calls Try.prog 56 #[.int .i64 a, .int .i64 0] w fun e w' => e = failV 14 0 /\ w = w' := by
 go_enter Try.func56, Try.ntmps56
 go_wp2
 exact ⟨rfl, rfl, rfl⟩

theorem quo_some (a b : Int) (hb : ¬ b = 0) (w : World) : Calls Try.prog 56 #[.int .i64 a, .int .i64 b] w fun e w' => e = .returned (.int .i64 (wrap64 (a.tdiv b))) /\ w = w' := by
 go_enter Try.func56, Try.ntmps56
 go_wp2
 go_ret
 exact ⟨rfl, rfl⟩
end
section
def edgesDown (ops : Array Oper) : Bool := ops.toList.zipIdx.all fun (o, i) => o.after.all fun e => !Region.binds .any e || decide (e.on < i)

theorem edgesDown_spec {ops : Array Oper} (h : edgesDown ops = true) {i : Nat} {o : Oper} (ho : ops[i]? = some o) {e : Edge} (he : e ∈ o.after) (hb : Region.binds .any e = true) : e.on < i := by
 unfold edgesDown at h
 rw [List.all_eq_true] at h
 have hi := (Array.getElem?_eq_some_iff.1 ho)
 obtain ⟨hlt, hoi⟩ := hi
 have hm : (o, i) ∈ ops.toList.zipIdx := by
  rw [List.mem_zipIdx_iff_getElem?]
  simp [ho]
 have h1 := h _ hm
 simp only [Array.all_eq_true'] at h1
 have h2 := h1 e he
 simp [hb] at h2
 exact h2

section
variable {P : Program} {ops : Array Oper} {Q : Exit -> Act -> World -> Prop}

structure RelInv (ops : Array Oper) (Le : World -> World -> Prop) (fr : (Nat -> Value) -> Act) (V : Nat -> Value -> World -> Prop) (w0 : World) (listed : Array Bool) (vals : Nat -> Value) (w : World) : Prop where
 le : Le w0 w
 all : ∀ i, i < ops.size -> listed.getD i true = true -> V i (vals i) w

def RelStep (P : Program) (ops : Array Oper) (Q : Exit -> Act -> World -> Prop) (Le : World -> World -> Prop) (fr : (Nat -> Value) -> Act) (V : Nat -> Value -> World -> Prop) (w0 : World) (i : Nat) (o : Oper) : Prop :=
 ∀ (vals : Nat -> Value) (w : World), Le w0 w -> (∀ e ∈ o.after.toList, Region.binds .any e = true -> V e.on (vals e.on) w) ->
  ∀ K : Act -> World -> Prop, (∀ v w', Le w w' -> V i v w' -> K ((fr vals).put o.dst v) w') ->
  if Region.wanted o (yielded ops (fr vals).tmps) = true then o.wp P (fr vals) w K Q else K ((fr vals).put o.dst undef) w

theorem getD_set (l : Array Bool) (i j : Nat) (hi : i < l.size) : (l.setIfInBounds i true).getD j true = if j = i then true else l.getD j true := by
 rw [Array.getD_eq_getD_getElem?, Array.getD_eq_getD_getElem?, Array.getElem?_setIfInBounds]
 by_cases h : j = i
 ·subst h
  simp [hi]
 ·rw [if_neg h, if_neg (Ne.symm h)]

theorem wpAny_rel {Le : World -> World -> Prop} (htrans : ∀ a b c, Le a b -> Le b c -> Le a c) {fr : (Nat -> Value) -> Act}
  (hput : ∀ i o, ops[i]? = some o -> ∀ vals v, (fr vals).put o.dst v = fr (fun j => if j = i then v else vals j))
  {V : Nat -> Value -> World -> Prop} (mono : ∀ i v w w', Le w w' -> V i v w -> V i v w') {w0 : World} (hdown : edgesDown ops = true)
  (step : ∀ i o, ops[i]? = some o -> RelStep P ops Q Le fr V w0 i o)
  (fin : ∀ vals w, Le w0 w -> (∀ i, i < ops.size -> V i (vals i) w) -> Q .normal (fr vals) w) :
  ∀ (fuel : Nat) (listed : Array Bool) (vals : Nat -> Value) (w : World), listed.size = ops.size -> (listed.toList.filter (! ·)).length = fuel -> RelInv ops Le fr V w0 listed vals w -> wpAny P .any ops Q fuel listed (fr vals) w := by
 have done : ∀ (listed : Array Bool) (vals : Nat -> Value) (w : World), listed.size = ops.size -> RelInv ops Le fr V w0 listed vals w -> Region.ready .any ops listed = [] -> Q .normal (fr vals) w := by
  intro listed vals w hs hI hr
  refine fin vals w hI.le ?_
  have hall : ∀ n i, i < n -> i < ops.size -> listed.getD i true = true := by
   intro n
   induction n with
   | zero => intro i hi; omega
   | succ n ih =>
    intro i hi hio
    by_cases h : listed.getD i true = true
    ·exact h
    ·exfalso
     have hno : i ∉ Region.ready .any ops listed := by rw [hr]; exact List.not_mem_nil
     refine hno ?_
     unfold Region.ready
     rw [List.mem_filter]
     refine ⟨List.mem_range.2 hio, ?_⟩
     have ho : ops[i]? = some ops[i] := Array.getElem?_eq_getElem hio
     simp only [Bool.and_eq_true, ho, Option.map_some, Option.getD_some]
     refine ⟨by simpa using h, ?_⟩
     rw [Array.all_eq_true']
     intro e he
     by_cases hb : Region.binds .any e = true
     ·have hlt := edgesDown_spec hdown ho he hb
      have h1 := ih e.on (by omega) (by omega)
      have h2 : e.on < listed.size := by omega
      rw [Array.getD_eq_getD_getElem?, Array.getElem?_eq_getElem h2, Option.getD_some] at h1
      simp [h2, h1]
     ·simp [hb]
  intro i hi
  exact hI.all i hi (hall (i + 1) i (by omega) hi)
 intro fuel
 induction fuel with
 | zero =>
  intro listed vals w hs hf hI
  have hr : Region.ready .any ops listed = [] := by
   unfold Region.ready
   rw [List.filter_eq_nil_iff]
   intro i hi
   have hio := List.mem_range.1 hi
   have h0 : listed.toList.filter (! ·) = [] := List.eq_nil_of_length_eq_zero hf
   rw [List.filter_eq_nil_iff] at h0
   have hl : i < listed.size := by omega
   have h1 := h0 listed[i] (by simp)
   simp at h1
   simp [Array.getD, hl, h1]
  exact ⟨hr, done listed vals w hs hI hr⟩
 | succ fuel ih =>
  intro listed vals w hs hf hI
  refine ⟨fun hr => done listed vals w hs hI hr, ?_⟩
  intro i hi
  unfold Region.ready at hi
  rw [List.mem_filter] at hi
  obtain ⟨hio, hi2⟩ := hi
  have hio := List.mem_range.1 hio
  have ho : ops[i]? = some ops[i] := Array.getElem?_eq_getElem hio
  simp only [Bool.and_eq_true, ho, Option.map_some, Option.getD_some] at hi2
  obtain ⟨hn, ha⟩ := hi2
  have hil : i < listed.size := by omega
  have hnl : listed[i] = false := by simpa [Array.getD, hil] using hn
  have hcount : ((listed.setIfInBounds i true).toList.filter (! ·)).length = fuel := by
   have e : (listed.setIfInBounds i true).toList = listed.toList.set i true := by simp
   rw [e]
   have hd : listed.toList = listed.toList.take i ++ listed[i] :: listed.toList.drop (i + 1) := by
    have hl' : i < listed.toList.length := by simpa using hil
    have := (List.take_append_drop i listed.toList).symm
    rw [List.drop_eq_getElem_cons hl'] at this
    simpa using this
   have hset : listed.toList.set i true = listed.toList.take i ++ true :: listed.toList.drop (i + 1) := by
    rw [List.set_eq_take_append_cons_drop, if_pos (by simpa using hil)]
   rw [hset]
   rw [hd, hnl] at hf
   simp at hf ⊢
   omega
  have hnext : ∀ v w', Le w w' -> V i v w' -> wpAny P .any ops Q fuel (listed.setIfInBounds i true) ((fr vals).put ops[i].dst v) w' := by
   intro v w' hle hv
   rw [hput i _ ho]
   refine ih _ _ _ (by simpa using hs) hcount ⟨htrans _ _ _ hI.le hle, ?_⟩
   intro j hj hlj
   rw [getD_set _ _ _ hil] at hlj
   by_cases hji : j = i
   ·subst hji; simpa using hv
   ·rw [if_neg hji] at hlj
    simp only [if_neg hji]
    exact mono _ _ _ _ hle (hI.all j hj hlj)
  have hst := step i _ ho vals w hI.le (by
   intro e he hb
   rw [Array.all_eq_true'] at ha
   have h1 := ha e (by simpa using he)
   simp [hb] at h1
   have hlt := edgesDown_spec hdown ho (by simpa using he) hb
   refine hI.all e.on (by omega) ?_
   have h2 : e.on < listed.size := by omega
   simpa [Array.getD, h2] using h1) _ hnext
  unfold wpOp
  simp only [ho]
  split
  ·rename_i hw
   rw [if_pos hw] at hst
   exact .inl hst
  ·rename_i hw
   rw [if_neg hw] at hst
   exact hst

theorem wp_region_rel {id : Nat} {a : Act} {w : World} (hm : P.follows .mixedOrders = true) (Le : World -> World -> Prop) (hrefl : ∀ w, Le w w) (htrans : ∀ a b c, Le a b -> Le b c -> Le a c)
  (fr : (Nat -> Value) -> Act) (vals : Nat -> Value) (ha : a = fr vals)
  (hput : ∀ i o, ops[i]? = some o -> ∀ vals v, (fr vals).put o.dst v = fr (fun j => if j = i then v else vals j))
  (V : Nat -> Value -> World -> Prop) (mono : ∀ i v w w', Le w w' -> V i v w -> V i v w') (hdown : edgesDown ops = true)
  (step : ∀ i o, ops[i]? = some o -> RelStep P ops Q Le fr V w.drew i o)
  (fin : ∀ vals w', Le w.drew w' -> (∀ i, i < ops.size -> V i (vals i) w') -> Q .normal (fr vals) w') : (Code.region id ops true).wp P Q a w := by
 refine wp_region_any hm ?_
 subst ha
 refine wpAny_rel htrans hput mono hdown step fin _ _ vals _ (by simp) ?_ ⟨hrefl _, ?_⟩
 ·simp
 ·intro i hi hl
  exfalso
  simp [Array.getD, hi] at hl

def fill (vals : Nat -> Value) : List Nat -> Nat -> Array Value -> Array Value
 | [], _, t => t
 | d :: ds, k, t => fill vals ds (k + 1) (t.setIfInBounds d (vals k))

def frOf (a : Act) (ds : List Nat) (vals : Nat -> Value) : Act := { a with tmps := fill vals ds 0 a.tmps }

theorem fill_size (vals : Nat -> Value) : ∀ (ds : List Nat) (k : Nat) (t : Array Value), (fill vals ds k t).size = t.size
 | [], _, _ => rfl
 | d :: ds, k, t => by rw [fill, fill_size vals ds, Array.size_setIfInBounds]

theorem fill_other (vals : Nat -> Value) : ∀ (ds : List Nat) (k : Nat) (t : Array Value) (x : Nat), x ∉ ds -> (fill vals ds k t)[x]? = t[x]?
 | [], _, _, _, _ => rfl
 | d :: ds, k, t, x, h => by
  rw [List.mem_cons, not_or] at h
  rw [fill, fill_other vals ds (k + 1) _ x h.2, Array.getElem?_setIfInBounds, if_neg (Ne.symm h.1)]

theorem fill_at (vals : Nat -> Value) : ∀ (ds : List Nat) (k : Nat) (t : Array Value), ds.Nodup -> (∀ d ∈ ds, d < t.size) -> ∀ j d, ds[j]? = some d -> (fill vals ds k t)[d]? = some (vals (k + j))
 | [], _, _, _, _, j, d, h => by simp at h
 | d' :: ds, k, t, hn, hb, 0, d, h => by
  simp at h
  subst h
  rw [fill, fill_other vals ds (k + 1) _ _ (List.nodup_cons.1 hn).1, Array.getElem?_setIfInBounds, if_pos rfl, if_pos (hb _ (by simp)), Nat.add_zero]
 | d' :: ds, k, t, hn, hb, j + 1, d, h => by
  rw [fill, fill_at vals ds (k + 1) _ (List.nodup_cons.1 hn).2 (fun x hx => by rw [Array.size_setIfInBounds]; exact hb x (by simp [hx])) j d (by simpa using h)]
  congr 2
  omega

def AllOps (T : Nat -> Oper -> Prop) : List Oper -> Nat -> Prop
 | [], _ => True
 | o :: l, k => T k o /\ AllOps T l (k + 1)
theorem AllOps.nil {T : Nat -> Oper -> Prop} {k : Nat} : AllOps T [] k := trivial
theorem AllOps.cons {T : Nat -> Oper -> Prop} {o : Oper} {l : List Oper} {k : Nat} (h : T k o) (hl : AllOps T l (k + 1)) : AllOps T (o :: l) k := ⟨h, hl⟩
theorem AllOps.get {T : Nat -> Oper -> Prop} : ∀ {l : List Oper} {k : Nat}, AllOps T l k -> ∀ i o, l[i]? = some o -> T (k + i) o
 | [], _, _, i, o, h => by simp at h
 | o' :: l, k, ⟨h0, _⟩, 0, o, h => by simp at h; subst h; exact h0
 | o' :: l, k, ⟨_, hl⟩, i + 1, o, h => by have := AllOps.get hl i o (by simpa using h); rwa [show k + 1 + i = k + (i + 1) by omega] at this

def RelOp (P : Program) (ops : Array Oper) (Q : Exit -> Act -> World -> Prop) (Le : World -> World -> Prop) (V : Nat -> Value -> World -> Prop) (w0 : World) (a : Act) (vals : Nat -> Value) (i : Nat) (o : Oper) : Prop :=
 ∀ (w : World), Le w0 w -> (∀ e ∈ o.after.toList, Region.binds .any e = true -> V e.on (vals e.on) w) ->
  ∀ K : Act -> World -> Prop, (∀ v w', Le w w' -> V i v w' -> K (a.put o.dst v) w') ->
  if Region.wanted o (yielded ops a.tmps) = true then o.wp P a w K Q else K (a.put o.dst undef) w

theorem wp_region_told {id : Nat} {l : List Oper} {a : Act} {w : World} (hm : P.follows .mixedOrders = true) (Le : World -> World -> Prop) (hrefl : ∀ w, Le w w) (htrans : ∀ a b c, Le a b -> Le b c -> Le a c)
  (ds : List Nat) (hds : l.map (·.dst) = ds.map some) (hnd : ds.Nodup) (hlt : ∀ d ∈ ds, d < a.tmps.size)
  (V : Nat -> Value -> World -> Prop) (mono : ∀ i v w w', Le w w' -> V i v w -> V i v w') (hdown : edgesDown l.toArray = true)
  (step : ∀ vals : Nat -> Value, AllOps (RelOp P l.toArray Q Le V w.drew (frOf a ds vals) vals) l 0)
  (fin : ∀ vals w', Le w.drew w' -> (∀ i, i < l.length -> V i (vals i) w') -> Q .normal (frOf a ds vals) w') : (Code.region id l.toArray true).wp P Q a w := by
 have hdst : ∀ (i : Nat) (o : Oper), l[i]? = some o -> ∃ d, ds[i]? = some d /\ o.dst = some d := by
  intro i o ho
  have h1 : (l.map (·.dst))[i]? = some o.dst := by simp [ho]
  rw [hds] at h1
  simp only [List.getElem?_map, Option.map_eq_some_iff] at h1
  obtain ⟨d, h2, h3⟩ := h1
  exact ⟨d, h2, h3.symm⟩
 refine wp_region_rel hm Le hrefl htrans (frOf a ds) (fun j => (ds[j]?.bind (a.tmps[·]?)).getD undef) ?_ ?_ V mono hdown ?_ (by simpa using fin)
 ·unfold frOf
  have : fill (fun j => (ds[j]?.bind (a.tmps[·]?)).getD undef) ds 0 a.tmps = a.tmps := by
   apply Array.ext_getElem?
   intro x
   by_cases hx : x ∈ ds
   ·obtain ⟨j, hj, rfl⟩ := List.getElem_of_mem hx
    have hd := List.getElem?_eq_getElem hj
    rw [fill_at _ ds 0 a.tmps hnd hlt j _ hd, Nat.zero_add, hd]
    have hb := hlt ds[j] hx
    simp [Array.getElem?_eq_getElem hb]
   ·exact fill_other _ _ _ _ _ hx
  rw [this]
 ·intro i o ho vals v
  obtain ⟨d, h1, h2⟩ := hdst i o (by simpa using ho)
  rw [h2]
  unfold frOf Act.put
  simp only
  congr 1
  apply Array.ext_getElem?
  intro x
  have hd : d < a.tmps.size := hlt d (List.mem_of_getElem? h1)
  rw [Array.getElem?_setIfInBounds]
  by_cases hx : x ∈ ds
  ·obtain ⟨j, hj, rfl⟩ := List.getElem_of_mem hx
   have hdj := List.getElem?_eq_getElem hj
   rw [fill_at _ ds 0 a.tmps hnd hlt j _ hdj, fill_at _ ds 0 a.tmps hnd hlt j _ hdj, Nat.zero_add]
   by_cases e : j = i
   ·subst e
    rw [h1] at hdj
    simp only [Option.some.injEq] at hdj
    rw [if_pos hdj, if_pos (by rw [fill_size]; exact hd), if_pos rfl]
   ·have hne : d ≠ ds[j] := by
     intro e2
     refine e ?_
     have hi : i < ds.length := (List.getElem?_eq_some_iff.1 h1).1
     have h3 : ds[i] = ds[j] := by rw [(List.getElem?_eq_some_iff.1 h1).2]; exact e2
     exact ((List.getElem_inj hnd).1 h3).symm
    rw [if_neg hne, if_neg e]
  ·have hne : d ≠ x := fun e => hx (e ▸ List.mem_of_getElem? h1)
   rw [if_neg hne, fill_other _ _ _ _ _ hx, fill_other _ _ _ _ _ hx]
 ·intro i o ho vals w' hle he K hK
  have := (step vals).get i o (by simpa using ho)
  rw [Nat.zero_add] at this
  exact this w' hle he K hK

end
end
section
section
variable {P : Program} {ops : Array Oper} {Q : Exit -> Act -> World -> Prop}

structure RelInvU (ops : Array Oper) (Le : World -> World -> Prop) (fr : (Nat -> Value) -> Act) (U : Nat -> World -> Prop) (V : Nat -> Value -> World -> Prop) (w0 : World) (listed : Array Bool) (vals : Nat -> Value) (w : World) : Prop where
 le : Le w0 w
 all : ∀ i, i < ops.size -> listed.getD i true = true -> V i (vals i) w
 rest : ∀ i, i < ops.size -> listed.getD i true = false -> U i w
 closed : ∀ i o, ops[i]? = some o -> listed.getD i true = true -> ∀ e ∈ o.after, Region.binds .any e = true -> listed.getD e.on true = true

def waits (ops : Array Oper) (j i : Nat) : Bool := match ops[j]? with
 | some o => o.after.any fun e => Region.binds .any e && decide (e.on = i)
 | none => false

def RelStepU (P : Program) (ops : Array Oper) (Q : Exit -> Act -> World -> Prop) (Le : World -> World -> Prop) (fr : (Nat -> Value) -> Act) (U : Nat -> World -> Prop) (V : Nat -> Value -> World -> Prop) (w0 : World) (i : Nat) (o : Oper) : Prop :=
 ∀ (vals : Nat -> Value) (w : World), Le w0 w -> (∀ e ∈ o.after.toList, Region.binds .any e = true -> V e.on (vals e.on) w) ->
  U i w -> (∀ j, waits ops j i = true -> U j w) ->
  ∀ K : Act -> World -> Prop, (∀ v w', Le w w' -> V i v w' -> (∀ j, j ≠ i -> U j w -> U j w') -> (∀ j u, j ≠ i -> V j u w -> V j u w') -> K ((fr vals).put o.dst v) w') ->
  if Region.wanted o (yielded ops (fr vals).tmps) = true then o.wp P (fr vals) w K Q else K ((fr vals).put o.dst undef) w

theorem wpAny_relU {Le : World -> World -> Prop} (htrans : ∀ a b c, Le a b -> Le b c -> Le a c) {fr : (Nat -> Value) -> Act}
  (hput : ∀ i o, ops[i]? = some o -> ∀ vals v, (fr vals).put o.dst v = fr (fun j => if j = i then v else vals j))
  {U : Nat -> World -> Prop} {V : Nat -> Value -> World -> Prop} {w0 : World} (hdown : edgesDown ops = true)
  (step : ∀ i o, ops[i]? = some o -> RelStepU P ops Q Le fr U V w0 i o)
  (fin : ∀ vals w, Le w0 w -> (∀ i, i < ops.size -> V i (vals i) w) -> Q .normal (fr vals) w) :
  ∀ (fuel : Nat) (listed : Array Bool) (vals : Nat -> Value) (w : World), listed.size = ops.size -> (listed.toList.filter (! ·)).length = fuel -> RelInvU ops Le fr U V w0 listed vals w -> wpAny P .any ops Q fuel listed (fr vals) w := by
 have done : ∀ (listed : Array Bool) (vals : Nat -> Value) (w : World), listed.size = ops.size -> RelInvU ops Le fr U V w0 listed vals w -> Region.ready .any ops listed = [] -> Q .normal (fr vals) w := by
  intro listed vals w hs hI hr
  refine fin vals w hI.le ?_
  have hall : ∀ n i, i < n -> i < ops.size -> listed.getD i true = true := by
   intro n
   induction n with
   | zero => intro i hi; omega
   | succ n ih =>
    intro i hi hio
    by_cases h : listed.getD i true = true
    ·exact h
    ·exfalso
     have hno : i ∉ Region.ready .any ops listed := by rw [hr]; exact List.not_mem_nil
     refine hno ?_
     unfold Region.ready
     rw [List.mem_filter]
     refine ⟨List.mem_range.2 hio, ?_⟩
     have ho : ops[i]? = some ops[i] := Array.getElem?_eq_getElem hio
     simp only [Bool.and_eq_true, ho, Option.map_some, Option.getD_some]
     refine ⟨by simpa using h, ?_⟩
     rw [Array.all_eq_true']
     intro e he
     by_cases hb : Region.binds .any e = true
     ·have hlt := edgesDown_spec hdown ho he hb
      have h1 := ih e.on (by omega) (by omega)
      have h2 : e.on < listed.size := by omega
      rw [Array.getD_eq_getD_getElem?, Array.getElem?_eq_getElem h2, Option.getD_some] at h1
      simp [h2, h1]
     ·simp [hb]
  intro i hi
  exact hI.all i hi (hall (i + 1) i (by omega) hi)
 intro fuel
 induction fuel with
 | zero =>
  intro listed vals w hs hf hI
  have hr : Region.ready .any ops listed = [] := by
   unfold Region.ready
   rw [List.filter_eq_nil_iff]
   intro i hi
   have hio := List.mem_range.1 hi
   have h0 : listed.toList.filter (! ·) = [] := List.eq_nil_of_length_eq_zero hf
   rw [List.filter_eq_nil_iff] at h0
   have hl : i < listed.size := by omega
   have h1 := h0 listed[i] (by simp)
   simp at h1
   simp [Array.getD, hl, h1]
  exact ⟨hr, done listed vals w hs hI hr⟩
 | succ fuel ih =>
  intro listed vals w hs hf hI
  refine ⟨fun hr => done listed vals w hs hI hr, ?_⟩
  intro i hi
  unfold Region.ready at hi
  rw [List.mem_filter] at hi
  obtain ⟨hio, hi2⟩ := hi
  have hio := List.mem_range.1 hio
  have ho : ops[i]? = some ops[i] := Array.getElem?_eq_getElem hio
  simp only [Bool.and_eq_true, ho, Option.map_some, Option.getD_some] at hi2
  obtain ⟨hn, ha⟩ := hi2
  have hil : i < listed.size := by omega
  have hnl : listed[i] = false := by simpa [Array.getD, hil] using hn
  have hcount : ((listed.setIfInBounds i true).toList.filter (! ·)).length = fuel := by
   have e : (listed.setIfInBounds i true).toList = listed.toList.set i true := by simp
   rw [e]
   have hd : listed.toList = listed.toList.take i ++ listed[i] :: listed.toList.drop (i + 1) := by
    have hl' : i < listed.toList.length := by simpa using hil
    have := (List.take_append_drop i listed.toList).symm
    rw [List.drop_eq_getElem_cons hl'] at this
    simpa using this
   have hset : listed.toList.set i true = listed.toList.take i ++ true :: listed.toList.drop (i + 1) := by
    rw [List.set_eq_take_append_cons_drop, if_pos (by simpa using hil)]
   rw [hset]
   rw [hd, hnl] at hf
   simp at hf ⊢
   omega
  have hnd : ∀ e ∈ ops[i].after, Region.binds .any e = true -> listed.getD e.on true = true := by
   intro e he hb
   rw [Array.all_eq_true'] at ha
   have h1 := ha e he
   simp [hb] at h1
   have hlt := edgesDown_spec hdown ho he hb
   have h2 : e.on < listed.size := by omega
   simpa [Array.getD, h2] using h1
  have hnext : ∀ v w', Le w w' -> V i v w' -> (∀ j, j ≠ i -> U j w -> U j w') -> (∀ j u, j ≠ i -> V j u w -> V j u w') -> wpAny P .any ops Q fuel (listed.setIfInBounds i true) ((fr vals).put ops[i].dst v) w' := by
   intro v w' hle hv hu hpres
   rw [hput i _ ho]
   refine ih _ _ _ (by simpa using hs) hcount ⟨htrans _ _ _ hI.le hle, ?_, ?_, ?_⟩
   ·intro j hj hlj
    rw [getD_set _ _ _ hil] at hlj
    by_cases hji : j = i
    ·subst hji; simpa using hv
    ·rw [if_neg hji] at hlj
     simp only [if_neg hji]
     exact hpres j _ hji (hI.all j hj hlj)
   ·intro j hj hlj
    rw [getD_set _ _ _ hil] at hlj
    by_cases hji : j = i
    ·rw [if_pos hji] at hlj; cases hlj
    ·rw [if_neg hji] at hlj
     exact hu j hji (hI.rest j hj hlj)
   ·intro j o hjo hlj e he hb
    rw [getD_set _ _ _ hil] at hlj ⊢
    by_cases hei : e.on = i
    ·rw [if_pos hei]
    ·rw [if_neg hei]
     by_cases hji : j = i
     ·subst hji
      rw [ho] at hjo
      cases hjo
      exact hnd e he hb
     ·rw [if_neg hji] at hlj
      exact hI.closed j o hjo hlj e he hb
  have hst := step i _ ho vals w hI.le (by
   intro e he hb
   have hlt := edgesDown_spec hdown ho (by simpa using he) hb
   exact hI.all e.on (by omega) (hnd e (by simpa using he) hb)) (by
   refine hI.rest i hio ?_
   rw [Array.getD_eq_getD_getElem?, Array.getElem?_eq_getElem hil, hnl]; rfl) (by
   intro j hw
   unfold waits at hw
   cases hjo : ops[j]? with
   | none => rw [hjo] at hw; cases hw
   | some o =>
    rw [hjo] at hw
    simp only [Array.any_eq_true', Bool.and_eq_true, decide_eq_true_eq] at hw
    obtain ⟨e, he, hb, hei⟩ := hw
    have hjs : j < ops.size := (Array.getElem?_eq_some_iff.1 hjo).1
    cases hlj : listed.getD j true with
    | false => exact hI.rest j hjs hlj
    | true =>
     have := hI.closed j o hjo hlj e he hb
     rw [hei, Array.getD_eq_getD_getElem?, Array.getElem?_eq_getElem hil, hnl] at this
     cases this) _ hnext
  unfold wpOp
  simp only [ho]
  split
  ·rename_i hw
   rw [if_pos hw] at hst
   exact .inl hst
  ·rename_i hw
   rw [if_neg hw] at hst
   exact hst

theorem wp_region_relU {id : Nat} {a : Act} {w : World} (hm : P.follows .mixedOrders = true) (Le : World -> World -> Prop) (hrefl : ∀ w, Le w w) (htrans : ∀ a b c, Le a b -> Le b c -> Le a c)
  (fr : (Nat -> Value) -> Act) (vals : Nat -> Value) (ha : a = fr vals)
  (hput : ∀ i o, ops[i]? = some o -> ∀ vals v, (fr vals).put o.dst v = fr (fun j => if j = i then v else vals j))
  (U : Nat -> World -> Prop) (V : Nat -> Value -> World -> Prop) (hdown : edgesDown ops = true) (hU : ∀ i, i < ops.size -> U i w.drew)
  (step : ∀ i o, ops[i]? = some o -> RelStepU P ops Q Le fr U V w.drew i o)
  (fin : ∀ vals w', Le w.drew w' -> (∀ i, i < ops.size -> V i (vals i) w') -> Q .normal (fr vals) w') : (Code.region id ops true).wp P Q a w := by
 refine wp_region_any hm ?_
 subst ha
 have hfalse : ∀ i, i < ops.size -> ¬ (Array.replicate ops.size false).getD i true = true := by
  intro i hi h
  simp [Array.getD, hi] at h
 refine wpAny_relU (U := U) htrans hput hdown step fin _ _ vals _ (by simp) ?_ ⟨hrefl _, ?_, ?_, ?_⟩
 ·simp
 ·intro i hi hl
  exact absurd hl (hfalse i hi)
 ·intro i hi _
  exact hU i hi
 ·intro i o ho hl
  exact absurd hl (hfalse i (Array.getElem?_eq_some_iff.1 ho).1)

def fillU (vals : Nat -> Value) : List (Option Nat) -> Nat -> Array Value -> Array Value
 | [], _, t => t
 | none :: ds, k, t => fillU vals ds (k + 1) t
 | some d :: ds, k, t => fillU vals ds (k + 1) (t.setIfInBounds d (vals k))

def frOfU (a : Act) (ds : List (Option Nat)) (vals : Nat -> Value) : Act := { a with tmps := fillU vals ds 0 a.tmps }

theorem fillU_size (vals : Nat -> Value) : ∀ (ds : List (Option Nat)) (k : Nat) (t : Array Value), (fillU vals ds k t).size = t.size
 | [], _, _ => rfl
 | none :: ds, k, t => fillU_size vals ds _ _
 | some d :: ds, k, t => by rw [fillU, fillU_size vals ds, Array.size_setIfInBounds]

theorem fillU_other (vals : Nat -> Value) : ∀ (ds : List (Option Nat)) (k : Nat) (t : Array Value) (x : Nat), some x ∉ ds -> (fillU vals ds k t)[x]? = t[x]?
 | [], _, _, _, _ => rfl
 | none :: ds, k, t, x, h => by
  rw [List.mem_cons, not_or] at h
  exact fillU_other vals ds (k + 1) _ x h.2
 | some d :: ds, k, t, x, h => by
  rw [List.mem_cons, not_or] at h
  rw [fillU, fillU_other vals ds (k + 1) _ x h.2, Array.getElem?_setIfInBounds, if_neg (fun e => h.1 (by rw [e]))]

def noTwice : List (Option Nat) -> Bool
 | [] => true
 | none :: ds => noTwice ds
 | some d :: ds => !ds.contains (some d) && noTwice ds

theorem fillU_at (vals : Nat -> Value) : ∀ (ds : List (Option Nat)) (k : Nat) (t : Array Value), noTwice ds = true -> (∀ d, some d ∈ ds -> d < t.size) -> ∀ j d, ds[j]? = some (some d) -> (fillU vals ds k t)[d]? = some (vals (k + j))
 | [], _, _, _, _, j, d, h => by simp at h
 | none :: ds, k, t, hn, hb, 0, d, h => by simp at h
 | none :: ds, k, t, hn, hb, j + 1, d, h => by
  rw [fillU, fillU_at vals ds (k + 1) t hn (fun x hx => hb x (by simp [hx])) j d (by simpa using h)]
  congr 2
  omega
 | some d' :: ds, k, t, hn, hb, 0, d, h => by
  simp at h
  subst h
  simp only [noTwice, Bool.and_eq_true, Bool.not_eq_true', List.contains_eq_mem, decide_eq_false_iff_not] at hn
  rw [fillU, fillU_other vals ds (k + 1) _ _ hn.1, Array.getElem?_setIfInBounds, if_pos rfl, if_pos (hb _ (by simp)), Nat.add_zero]
 | some d' :: ds, k, t, hn, hb, j + 1, d, h => by
  simp only [noTwice, Bool.and_eq_true] at hn
  rw [fillU, fillU_at vals ds (k + 1) _ hn.2 (fun x hx => by rw [Array.size_setIfInBounds]; exact hb x (by simp [hx])) j d (by simpa using h)]
  congr 2
  omega

theorem noTwice_inj : ∀ {ds : List (Option Nat)}, noTwice ds = true -> ∀ {i j d : Nat}, ds[i]? = some (some d) -> ds[j]? = some (some d) -> i = j
 | [], _, i, j, d, h, _ => by simp at h
 | none :: ds, hn, 0, j, d, h, _ => by simp at h
 | none :: ds, hn, i + 1, 0, d, _, h => by simp at h
 | none :: ds, hn, i + 1, j + 1, d, hi, hj => congrArg (· + 1) (noTwice_inj (ds := ds) (d := d) hn (by simpa using hi) (by simpa using hj))
 | some d' :: ds, hn, 0, 0, d, _, _ => rfl
 | some d' :: ds, hn, 0, j + 1, d, hi, hj => by
  simp at hi
  subst hi
  simp only [noTwice, Bool.and_eq_true, Bool.not_eq_true', List.contains_eq_mem, decide_eq_false_iff_not] at hn
  exact absurd (List.mem_of_getElem? (by simpa using hj)) hn.1
 | some d' :: ds, hn, i + 1, 0, d, hi, hj => by
  simp at hj
  subst hj
  simp only [noTwice, Bool.and_eq_true, Bool.not_eq_true', List.contains_eq_mem, decide_eq_false_iff_not] at hn
  exact absurd (List.mem_of_getElem? (by simpa using hi)) hn.1
 | some d' :: ds, hn, i + 1, j + 1, d, hi, hj => by
  simp only [noTwice, Bool.and_eq_true] at hn
  exact congrArg (· + 1) (noTwice_inj (ds := ds) (d := d) hn.2 (by simpa using hi) (by simpa using hj))

def RelOpU (P : Program) (ops : Array Oper) (Q : Exit -> Act -> World -> Prop) (Le : World -> World -> Prop) (U : Nat -> World -> Prop) (V : Nat -> Value -> World -> Prop) (w0 : World) (a : Act) (vals : Nat -> Value) (i : Nat) (o : Oper) : Prop :=
 ∀ (w : World), Le w0 w -> (∀ e ∈ o.after.toList, Region.binds .any e = true -> V e.on (vals e.on) w) -> U i w -> (∀ j, waits ops j i = true -> U j w) ->
  ∀ K : Act -> World -> Prop, (∀ v w', Le w w' -> V i v w' -> (∀ j, j ≠ i -> U j w -> U j w') -> (∀ j u, j ≠ i -> V j u w -> V j u w') -> K (a.put o.dst v) w') ->
  if Region.wanted o (yielded ops a.tmps) = true then o.wp P a w K Q else K (a.put o.dst undef) w

theorem wp_region_toldU {id : Nat} {l : List Oper} {a : Act} {w : World} (hm : P.follows .mixedOrders = true) (Le : World -> World -> Prop) (hrefl : ∀ w, Le w w) (htrans : ∀ a b c, Le a b -> Le b c -> Le a c)
  (ds : List (Option Nat)) (hds : l.map (·.dst) = ds) (hnd : noTwice ds = true) (hlt : ∀ d, some d ∈ ds -> d < a.tmps.size)
  (U : Nat -> World -> Prop) (V : Nat -> Value -> World -> Prop) (hdown : edgesDown l.toArray = true) (hU : ∀ i, i < l.length -> U i w.drew)
  (step : ∀ vals : Nat -> Value, AllOps (RelOpU P l.toArray Q Le U V w.drew (frOfU a ds vals) vals) l 0)
  (fin : ∀ vals w', Le w.drew w' -> (∀ i, i < l.length -> V i (vals i) w') -> Q .normal (frOfU a ds vals) w') : (Code.region id l.toArray true).wp P Q a w := by
 have hdst : ∀ (i : Nat) (o : Oper), l[i]? = some o -> ds[i]? = some o.dst := by
  intro i o ho
  rw [<- hds]
  simp [ho]
 refine wp_region_relU hm Le hrefl htrans (frOfU a ds) (fun j => ((ds[j]?.bind fun x => x).bind (a.tmps[·]?)).getD undef) ?_ ?_ U V hdown (by simpa using hU) ?_ (by simpa using fin)
 ·unfold frOfU
  have : fillU (fun j => ((ds[j]?.bind fun x => x).bind (a.tmps[·]?)).getD undef) ds 0 a.tmps = a.tmps := by
   apply Array.ext_getElem?
   intro x
   by_cases hx : some x ∈ ds
   ·obtain ⟨j, hj, hjx⟩ := List.getElem_of_mem hx
    have hd : ds[j]? = some (some x) := by rw [List.getElem?_eq_getElem hj, hjx]
    rw [fillU_at _ ds 0 a.tmps hnd hlt j _ hd, Nat.zero_add, hd]
    have hb := hlt x hx
    simp [Array.getElem?_eq_getElem hb]
   ·exact fillU_other _ _ _ _ _ hx
  rw [this]
 ·intro i o ho vals v
  have h1 := hdst i o (by simpa using ho)
  unfold frOfU Act.put
  cases h2 : o.dst with
  | none =>
   rw [h2] at h1
   simp only
   congr 1
   apply Array.ext_getElem?
   intro x
   by_cases hx : some x ∈ ds
   ·obtain ⟨j, hj, hjx⟩ := List.getElem_of_mem hx
    have hd : ds[j]? = some (some x) := by rw [List.getElem?_eq_getElem hj, hjx]
    rw [fillU_at _ ds 0 a.tmps hnd hlt j _ hd, fillU_at _ ds 0 a.tmps hnd hlt j _ hd, Nat.zero_add]
    have hne : j ≠ i := by
     intro e
     subst e
     rw [h1] at hd
     cases hd
    rw [if_neg hne]
   ·rw [fillU_other _ _ _ _ _ hx, fillU_other _ _ _ _ _ hx]
  | some d =>
   rw [h2] at h1
   simp only
   congr 1
   apply Array.ext_getElem?
   intro x
   have hd : d < a.tmps.size := hlt d (List.mem_of_getElem? h1)
   rw [Array.getElem?_setIfInBounds]
   by_cases hx : some x ∈ ds
   ·obtain ⟨j, hj, hjx⟩ := List.getElem_of_mem hx
    have hdj : ds[j]? = some (some x) := by rw [List.getElem?_eq_getElem hj, hjx]
    rw [fillU_at _ ds 0 a.tmps hnd hlt j _ hdj, fillU_at _ ds 0 a.tmps hnd hlt j _ hdj, Nat.zero_add]
    by_cases e : j = i
    ·subst e
     rw [h1] at hdj
     simp only [Option.some.injEq] at hdj
     rw [if_pos hdj, if_pos (by rw [fillU_size]; exact hdj ▸ hd), if_pos rfl]
    ·have hne : d ≠ x := by
      intro e2
      subst e2
      exact e (noTwice_inj hnd hdj h1)
     rw [if_neg hne, if_neg e]
   ·have hne : d ≠ x := fun e => hx (e ▸ List.mem_of_getElem? h1)
    rw [if_neg hne, fillU_other _ _ _ _ _ hx, fillU_other _ _ _ _ _ hx]
 ·intro i o ho vals w' hle he hu hw K hK
  have := (step vals).get i o (by simpa using ho)
  rw [Nat.zero_add] at this
  exact this w' hle he hu hw K hK

end
end
section
section
variable {P : Program} {ops : Array Oper} {Q : Exit -> Act -> World -> Prop}

structure RelInvV (ops : Array Oper) (Le : World -> World -> Prop) (fr : (Nat -> Value) -> Act) (U : Nat -> Value -> World -> Prop) (V : Nat -> Value -> World -> Prop) (w0 : World) (listed : Array Bool) (vals : Nat -> Value) (w : World) : Prop where
 le : Le w0 w
 all : ∀ i, i < ops.size -> listed.getD i true = true -> V i (vals i) w
 rest : ∀ i, i < ops.size -> listed.getD i true = false -> U i (vals i) w
 closed : ∀ i o, ops[i]? = some o -> listed.getD i true = true -> ∀ e ∈ o.after, Region.binds .any e = true -> listed.getD e.on true = true

def RelStepV (P : Program) (ops : Array Oper) (Q : Exit -> Act -> World -> Prop) (Le : World -> World -> Prop) (fr : (Nat -> Value) -> Act) (U : Nat -> Value -> World -> Prop) (V : Nat -> Value -> World -> Prop) (w0 : World) (i : Nat) (o : Oper) : Prop :=
 ∀ (vals : Nat -> Value) (w : World), Le w0 w -> (∀ e ∈ o.after.toList, Region.binds .any e = true -> V e.on (vals e.on) w) ->
  U i (vals i) w -> (∀ j, waits ops j i = true -> U j (vals j) w) ->
  ∀ K : Act -> World -> Prop, (∀ v w', Le w w' -> V i v w' -> (∀ j u, j ≠ i -> U j u w -> U j u w') -> (∀ j u, j ≠ i -> waits ops j i = false -> V j u w -> V j u w') -> K ((fr vals).put o.dst v) w') ->
  if Region.wanted o (yielded ops (fr vals).tmps) = true then o.wp P (fr vals) w K Q else K ((fr vals).put o.dst undef) w

theorem wpAny_relV {Le : World -> World -> Prop} (htrans : ∀ a b c, Le a b -> Le b c -> Le a c) {fr : (Nat -> Value) -> Act}
  (hput : ∀ i o, ops[i]? = some o -> ∀ vals v, (fr vals).put o.dst v = fr (fun j => if j = i then v else vals j))
  {U : Nat -> Value -> World -> Prop} {V : Nat -> Value -> World -> Prop} {w0 : World} (hdown : edgesDown ops = true)
  (step : ∀ i o, ops[i]? = some o -> RelStepV P ops Q Le fr U V w0 i o)
  (fin : ∀ vals w, Le w0 w -> (∀ i, i < ops.size -> V i (vals i) w) -> Q .normal (fr vals) w) :
  ∀ (fuel : Nat) (listed : Array Bool) (vals : Nat -> Value) (w : World), listed.size = ops.size -> (listed.toList.filter (! ·)).length = fuel -> RelInvV ops Le fr U V w0 listed vals w -> wpAny P .any ops Q fuel listed (fr vals) w := by
 have done : ∀ (listed : Array Bool) (vals : Nat -> Value) (w : World), listed.size = ops.size -> RelInvV ops Le fr U V w0 listed vals w -> Region.ready .any ops listed = [] -> Q .normal (fr vals) w := by
  intro listed vals w hs hI hr
  refine fin vals w hI.le ?_
  have hall : ∀ n i, i < n -> i < ops.size -> listed.getD i true = true := by
   intro n
   induction n with
   | zero => intro i hi; omega
   | succ n ih =>
    intro i hi hio
    by_cases h : listed.getD i true = true
    ·exact h
    ·exfalso
     have hno : i ∉ Region.ready .any ops listed := by rw [hr]; exact List.not_mem_nil
     refine hno ?_
     unfold Region.ready
     rw [List.mem_filter]
     refine ⟨List.mem_range.2 hio, ?_⟩
     have ho : ops[i]? = some ops[i] := Array.getElem?_eq_getElem hio
     simp only [Bool.and_eq_true, ho, Option.map_some, Option.getD_some]
     refine ⟨by simpa using h, ?_⟩
     rw [Array.all_eq_true']
     intro e he
     by_cases hb : Region.binds .any e = true
     ·have hlt := edgesDown_spec hdown ho he hb
      have h1 := ih e.on (by omega) (by omega)
      have h2 : e.on < listed.size := by omega
      rw [Array.getD_eq_getD_getElem?, Array.getElem?_eq_getElem h2, Option.getD_some] at h1
      simp [h2, h1]
     ·simp [hb]
  intro i hi
  exact hI.all i hi (hall (i + 1) i (by omega) hi)
 intro fuel
 induction fuel with
 | zero =>
  intro listed vals w hs hf hI
  have hr : Region.ready .any ops listed = [] := by
   unfold Region.ready
   rw [List.filter_eq_nil_iff]
   intro i hi
   have hio := List.mem_range.1 hi
   have h0 : listed.toList.filter (! ·) = [] := List.eq_nil_of_length_eq_zero hf
   rw [List.filter_eq_nil_iff] at h0
   have hl : i < listed.size := by omega
   have h1 := h0 listed[i] (by simp)
   simp at h1
   simp [Array.getD, hl, h1]
  exact ⟨hr, done listed vals w hs hI hr⟩
 | succ fuel ih =>
  intro listed vals w hs hf hI
  refine ⟨fun hr => done listed vals w hs hI hr, ?_⟩
  intro i hi
  unfold Region.ready at hi
  rw [List.mem_filter] at hi
  obtain ⟨hio, hi2⟩ := hi
  have hio := List.mem_range.1 hio
  have ho : ops[i]? = some ops[i] := Array.getElem?_eq_getElem hio
  simp only [Bool.and_eq_true, ho, Option.map_some, Option.getD_some] at hi2
  obtain ⟨hn, ha⟩ := hi2
  have hil : i < listed.size := by omega
  have hnl : listed[i] = false := by simpa [Array.getD, hil] using hn
  have hcount : ((listed.setIfInBounds i true).toList.filter (! ·)).length = fuel := by
   have e : (listed.setIfInBounds i true).toList = listed.toList.set i true := by simp
   rw [e]
   have hd : listed.toList = listed.toList.take i ++ listed[i] :: listed.toList.drop (i + 1) := by
    have hl' : i < listed.toList.length := by simpa using hil
    have := (List.take_append_drop i listed.toList).symm
    rw [List.drop_eq_getElem_cons hl'] at this
    simpa using this
   have hset : listed.toList.set i true = listed.toList.take i ++ true :: listed.toList.drop (i + 1) := by
    rw [List.set_eq_take_append_cons_drop, if_pos (by simpa using hil)]
   rw [hset]
   rw [hd, hnl] at hf
   simp at hf ⊢
   omega
  have hnd : ∀ e ∈ ops[i].after, Region.binds .any e = true -> listed.getD e.on true = true := by
   intro e he hb
   rw [Array.all_eq_true'] at ha
   have h1 := ha e he
   simp [hb] at h1
   have hlt := edgesDown_spec hdown ho he hb
   have h2 : e.on < listed.size := by omega
   simpa [Array.getD, h2] using h1
  have hnext : ∀ v w', Le w w' -> V i v w' -> (∀ j u, j ≠ i -> U j u w -> U j u w') -> (∀ j u, j ≠ i -> waits ops j i = false -> V j u w -> V j u w') -> wpAny P .any ops Q fuel (listed.setIfInBounds i true) ((fr vals).put ops[i].dst v) w' := by
   intro v w' hle hv hu hpres
   rw [hput i _ ho]
   refine ih _ _ _ (by simpa using hs) hcount ⟨htrans _ _ _ hI.le hle, ?_, ?_, ?_⟩
   ·intro j hj hlj
    rw [getD_set _ _ _ hil] at hlj
    by_cases hji : j = i
    ·subst hji; simpa using hv
    ·rw [if_neg hji] at hlj
     simp only [if_neg hji]
     refine hpres j _ hji ?_ (hI.all j hj hlj)
     cases hw : waits ops j i with
     | false => rfl
     | true =>
      exfalso
      unfold waits at hw
      cases hjo : ops[j]? with
      | none => rw [hjo] at hw; cases hw
      | some o =>
       rw [hjo] at hw
       simp only [Array.any_eq_true', Bool.and_eq_true, decide_eq_true_eq] at hw
       obtain ⟨e, he, hb, hei⟩ := hw
       have := hI.closed j o hjo hlj e he hb
       rw [hei, Array.getD_eq_getD_getElem?, Array.getElem?_eq_getElem hil, hnl] at this
       cases this
   ·intro j hj hlj
    rw [getD_set _ _ _ hil] at hlj
    by_cases hji : j = i
    ·rw [if_pos hji] at hlj; cases hlj
    ·rw [if_neg hji] at hlj
     simp only [if_neg hji]
     exact hu j _ hji (hI.rest j hj hlj)
   ·intro j o hjo hlj e he hb
    rw [getD_set _ _ _ hil] at hlj ⊢
    by_cases hei : e.on = i
    ·rw [if_pos hei]
    ·rw [if_neg hei]
     by_cases hji : j = i
     ·subst hji
      rw [ho] at hjo
      cases hjo
      exact hnd e he hb
     ·rw [if_neg hji] at hlj
      exact hI.closed j o hjo hlj e he hb
  have hst := step i _ ho vals w hI.le (by
   intro e he hb
   have hlt := edgesDown_spec hdown ho (by simpa using he) hb
   exact hI.all e.on (by omega) (hnd e (by simpa using he) hb)) (by
   refine hI.rest i hio ?_
   rw [Array.getD_eq_getD_getElem?, Array.getElem?_eq_getElem hil, hnl]; rfl) (by
   intro j hw
   unfold waits at hw
   cases hjo : ops[j]? with
   | none => rw [hjo] at hw; cases hw
   | some o =>
    rw [hjo] at hw
    simp only [Array.any_eq_true', Bool.and_eq_true, decide_eq_true_eq] at hw
    obtain ⟨e, he, hb, hei⟩ := hw
    have hjs : j < ops.size := (Array.getElem?_eq_some_iff.1 hjo).1
    cases hlj : listed.getD j true with
    | false => exact hI.rest j hjs hlj
    | true =>
     have := hI.closed j o hjo hlj e he hb
     rw [hei, Array.getD_eq_getD_getElem?, Array.getElem?_eq_getElem hil, hnl] at this
     cases this) _ hnext
  unfold wpOp
  simp only [ho]
  split
  ·rename_i hw
   rw [if_pos hw] at hst
   exact .inl hst
  ·rename_i hw
   rw [if_neg hw] at hst
   exact hst

theorem wp_region_relV {id : Nat} {a : Act} {w : World} (hm : P.follows .mixedOrders = true) (Le : World -> World -> Prop) (hrefl : ∀ w, Le w w) (htrans : ∀ a b c, Le a b -> Le b c -> Le a c)
  (fr : (Nat -> Value) -> Act) (vals : Nat -> Value) (ha : a = fr vals)
  (hput : ∀ i o, ops[i]? = some o -> ∀ vals v, (fr vals).put o.dst v = fr (fun j => if j = i then v else vals j))
  (U : Nat -> Value -> World -> Prop) (V : Nat -> Value -> World -> Prop) (hdown : edgesDown ops = true) (hU : ∀ i, i < ops.size -> U i (vals i) w.drew)
  (step : ∀ i o, ops[i]? = some o -> RelStepV P ops Q Le fr U V w.drew i o)
  (fin : ∀ vals w', Le w.drew w' -> (∀ i, i < ops.size -> V i (vals i) w') -> Q .normal (fr vals) w') : (Code.region id ops true).wp P Q a w := by
 refine wp_region_any hm ?_
 subst ha
 have hfalse : ∀ i, i < ops.size -> ¬ (Array.replicate ops.size false).getD i true = true := by
  intro i hi h
  simp [Array.getD, hi] at h
 refine wpAny_relV (U := U) htrans hput hdown step fin _ _ vals _ (by simp) ?_ ⟨hrefl _, ?_, ?_, ?_⟩
 ·simp
 ·intro i hi hl
  exact absurd hl (hfalse i hi)
 ·intro i hi _
  exact hU i hi
 ·intro i o ho hl
  exact absurd hl (hfalse i (Array.getElem?_eq_some_iff.1 ho).1)

def RelOpV (P : Program) (ops : Array Oper) (Q : Exit -> Act -> World -> Prop) (Le : World -> World -> Prop) (U : Nat -> Value -> World -> Prop) (V : Nat -> Value -> World -> Prop) (w0 : World) (a : Act) (vals : Nat -> Value) (i : Nat) (o : Oper) : Prop :=
 ∀ (w : World), Le w0 w -> (∀ e ∈ o.after.toList, Region.binds .any e = true -> V e.on (vals e.on) w) -> U i (vals i) w -> (∀ j, waits ops j i = true -> U j (vals j) w) ->
  ∀ K : Act -> World -> Prop, (∀ v w', Le w w' -> V i v w' -> (∀ j u, j ≠ i -> U j u w -> U j u w') -> (∀ j u, j ≠ i -> waits ops j i = false -> V j u w -> V j u w') -> K (a.put o.dst v) w') ->
  if Region.wanted o (yielded ops a.tmps) = true then o.wp P a w K Q else K (a.put o.dst undef) w

theorem wp_region_toldV {id : Nat} {l : List Oper} {a : Act} {w : World} (hm : P.follows .mixedOrders = true) (Le : World -> World -> Prop) (hrefl : ∀ w, Le w w) (htrans : ∀ a b c, Le a b -> Le b c -> Le a c)
  (ds : List (Option Nat)) (hds : l.map (·.dst) = ds) (hnd : noTwice ds = true) (hlt : ∀ d, some d ∈ ds -> d < a.tmps.size)
  (U : Nat -> Value -> World -> Prop) (V : Nat -> Value -> World -> Prop) (hdown : edgesDown l.toArray = true) (hU : ∀ i, i < l.length -> U i (((ds[i]?.bind fun x => x).bind (a.tmps[·]?)).getD undef) w.drew)
  (step : ∀ vals : Nat -> Value, AllOps (RelOpV P l.toArray Q Le U V w.drew (frOfU a ds vals) vals) l 0)
  (fin : ∀ vals w', Le w.drew w' -> (∀ i, i < l.length -> V i (vals i) w') -> Q .normal (frOfU a ds vals) w') : (Code.region id l.toArray true).wp P Q a w := by
 have hdst : ∀ (i : Nat) (o : Oper), l[i]? = some o -> ds[i]? = some o.dst := by
  intro i o ho
  rw [<- hds]
  simp [ho]
 refine wp_region_relV hm Le hrefl htrans (frOfU a ds) (fun j => ((ds[j]?.bind fun x => x).bind (a.tmps[·]?)).getD undef) ?_ ?_ U V hdown (by simpa using hU) ?_ (by simpa using fin)
 ·unfold frOfU
  have : fillU (fun j => ((ds[j]?.bind fun x => x).bind (a.tmps[·]?)).getD undef) ds 0 a.tmps = a.tmps := by
   apply Array.ext_getElem?
   intro x
   by_cases hx : some x ∈ ds
   ·obtain ⟨j, hj, hjx⟩ := List.getElem_of_mem hx
    have hd : ds[j]? = some (some x) := by rw [List.getElem?_eq_getElem hj, hjx]
    rw [fillU_at _ ds 0 a.tmps hnd hlt j _ hd, Nat.zero_add, hd]
    have hb := hlt x hx
    simp [Array.getElem?_eq_getElem hb]
   ·exact fillU_other _ _ _ _ _ hx
  rw [this]
 ·intro i o ho vals v
  have h1 := hdst i o (by simpa using ho)
  unfold frOfU Act.put
  cases h2 : o.dst with
  | none =>
   rw [h2] at h1
   simp only
   congr 1
   apply Array.ext_getElem?
   intro x
   by_cases hx : some x ∈ ds
   ·obtain ⟨j, hj, hjx⟩ := List.getElem_of_mem hx
    have hd : ds[j]? = some (some x) := by rw [List.getElem?_eq_getElem hj, hjx]
    rw [fillU_at _ ds 0 a.tmps hnd hlt j _ hd, fillU_at _ ds 0 a.tmps hnd hlt j _ hd, Nat.zero_add]
    have hne : j ≠ i := by
     intro e
     subst e
     rw [h1] at hd
     cases hd
    rw [if_neg hne]
   ·rw [fillU_other _ _ _ _ _ hx, fillU_other _ _ _ _ _ hx]
  | some d =>
   rw [h2] at h1
   simp only
   congr 1
   apply Array.ext_getElem?
   intro x
   have hd : d < a.tmps.size := hlt d (List.mem_of_getElem? h1)
   rw [Array.getElem?_setIfInBounds]
   by_cases hx : some x ∈ ds
   ·obtain ⟨j, hj, hjx⟩ := List.getElem_of_mem hx
    have hdj : ds[j]? = some (some x) := by rw [List.getElem?_eq_getElem hj, hjx]
    rw [fillU_at _ ds 0 a.tmps hnd hlt j _ hdj, fillU_at _ ds 0 a.tmps hnd hlt j _ hdj, Nat.zero_add]
    by_cases e : j = i
    ·subst e
     rw [h1] at hdj
     simp only [Option.some.injEq] at hdj
     rw [if_pos hdj, if_pos (by rw [fillU_size]; exact hdj ▸ hd), if_pos rfl]
    ·have hne : d ≠ x := by
      intro e2
      subst e2
      exact e (noTwice_inj hnd hdj h1)
     rw [if_neg hne, if_neg e]
   ·have hne : d ≠ x := fun e => hx (e ▸ List.mem_of_getElem? h1)
    rw [if_neg hne, fillU_other _ _ _ _ _ hx, fillU_other _ _ _ _ _ hx]
 ·intro i o ho vals w' hle he hu hw K hK
  have := (step vals).get i o (by simpa using ho)
  rw [Nat.zero_add] at this
  exact this w' hle he hu hw K hK

end
end
section
inductive OpSort where
 | free (v : Value)
 | link (v : Option Value)

def OpSort.val : OpSort -> Option Value
 | .free v => some v
 | .link v => v

def OpSort.isLink : OpSort -> Bool
 | .free _ => false
 | .link _ => true

section
variable {P : Program} {ops : Array Oper} {Q : Exit -> Act -> World -> Prop}

structure RelInvC (ops : Array Oper) (chain : List Nat) (S : List Value -> World -> Prop) (F : Nat -> OpSort) (orig : Nat -> Value) (listed : Array Bool) (vals : Nat -> Value) (w : World) : Prop where
 done : ∃ k, k <= chain.length /\ (∀ m i, chain[m]? = some i -> listed.getD i true = decide (m < k)) /\ S ((chain.take k).map vals) w
 free : ∀ i v, i < ops.size -> listed.getD i true = true -> (F i).val = some v -> vals i = v
 rest : ∀ i, i < ops.size -> listed.getD i true = false -> vals i = orig i
 closed : ∀ i o, ops[i]? = some o -> listed.getD i true = true -> ∀ e ∈ o.after, Region.binds .any e = true -> listed.getD e.on true = true

def RelOpC (P : Program) (ops : Array Oper) (Q : Exit -> Act -> World -> Prop) (chain : List Nat) (S : List Value -> World -> Prop) (F : Nat -> OpSort) (orig : Nat -> Value) (a : Act) (vals : Nat -> Value) (i : Nat) (o : Oper) : Prop :=
 ∀ (cvs : List Value) (w : World), S cvs w -> (∀ e ∈ o.after.toList, Region.binds .any e = true -> ∀ v, (F e.on).val = some v -> vals e.on = v) -> (∀ j, j < ops.size -> waits ops j i = true -> vals j = orig j) ->
  match F i with
  | .free v => (∀ m j, chain[m]? = some j -> waits ops j i = true -> cvs.length <= m) -> ∀ K : Act -> World -> Prop, K (a.put o.dst v) w ->
    if Region.wanted o (yielded ops a.tmps) = true then o.wp P a w K Q else K (a.put o.dst undef) w
  | .link u => (∀ k, chain[k]? = some i -> cvs = (chain.take k).map vals) -> ∀ K : Act -> World -> Prop, (∀ v w', (∀ x, u = some x -> v = x) -> S (cvs ++ [v]) w' -> K (a.put o.dst v) w') ->
    if Region.wanted o (yielded ops a.tmps) = true then o.wp P a w K Q else K (a.put o.dst undef) w

def chainOK (ops : Array Oper) (chain : List Nat) (F : Nat -> Bool) : Bool :=
 chain.all (fun i => decide (i < ops.size) && F i) && (List.range ops.size).all (fun i => !F i || chain.contains i) &&
 (List.range (chain.length - 1)).all (fun m => waits ops (chain.getD (m + 1) 0) (chain.getD m 0)) && (List.range chain.length).all (fun m => (List.range chain.length).all fun m' => decide (m = m') || decide (chain.getD m 0 ≠ chain.getD m' 0))

theorem chainOK_in {chain : List Nat} {F : Nat -> Bool} (h : chainOK ops chain F = true) {m i : Nat} (hm : chain[m]? = some i) : i < ops.size /\ F i = true := by
 unfold chainOK at h
 simp only [Bool.and_eq_true, List.all_eq_true] at h
 simpa using h.1.1.1 i (List.mem_of_getElem? hm)

theorem chainOK_all {chain : List Nat} {F : Nat -> Bool} (h : chainOK ops chain F = true) {i : Nat} (hi : i < ops.size) (hF : F i = true) : ∃ m : Nat, chain[m]? = some i := by
 unfold chainOK at h
 simp only [Bool.and_eq_true, List.all_eq_true] at h
 have := h.1.1.2 i (List.mem_range.2 hi)
 simp [hF] at this
 exact List.getElem?_of_mem this

theorem chainOK_waits {chain : List Nat} {F : Nat -> Bool} (h : chainOK ops chain F = true) {m i j : Nat} (hi : chain[m]? = some i) (hj : chain[m + 1]? = some j) : waits ops j i = true := by
 unfold chainOK at h
 simp only [Bool.and_eq_true, List.all_eq_true] at h
 have hl := (List.getElem?_eq_some_iff.1 hj).1
 have := h.1.2 m (List.mem_range.2 (by omega))
 rw [List.getD_eq_getElem?_getD, List.getD_eq_getElem?_getD, hi, hj] at this
 exact this

theorem chainOK_once {chain : List Nat} {F : Nat -> Bool} (h : chainOK ops chain F = true) {m m' i : Nat} (hi : chain[m]? = some i) (hj : chain[m']? = some i) : m = m' := by
 unfold chainOK at h
 simp only [Bool.and_eq_true, List.all_eq_true] at h
 have hl := (List.getElem?_eq_some_iff.1 hi).1
 have hl' := (List.getElem?_eq_some_iff.1 hj).1
 have := h.2 m (List.mem_range.2 hl) m' (List.mem_range.2 hl')
 rw [List.getD_eq_getElem?_getD, List.getD_eq_getElem?_getD, hi, hj] at this
 simpa using this

theorem wpAny_chain {fr : (Nat -> Value) -> Act}
  (hput : ∀ i o, ops[i]? = some o -> ∀ vals v, (fr vals).put o.dst v = fr (fun j => if j = i then v else vals j))
  {chain : List Nat} {S : List Value -> World -> Prop} {F : Nat -> OpSort} {orig : Nat -> Value} (hdown : edgesDown ops = true) (hch : chainOK ops chain (fun i => (F i).isLink) = true)
  (step : ∀ i o, ops[i]? = some o -> ∀ vals, RelOpC P ops Q chain S F orig (fr vals) vals i o)
  (fin : ∀ vals w, S (chain.map vals) w -> (∀ i v, i < ops.size -> (F i).val = some v -> vals i = v) -> Q .normal (fr vals) w) :
  ∀ (fuel : Nat) (listed : Array Bool) (vals : Nat -> Value) (w : World), listed.size = ops.size -> (listed.toList.filter (! ·)).length = fuel -> RelInvC ops chain S F orig listed vals w -> wpAny P .any ops Q fuel listed (fr vals) w := by
 have done : ∀ (listed : Array Bool) (vals : Nat -> Value) (w : World), listed.size = ops.size -> RelInvC ops chain S F orig listed vals w -> Region.ready .any ops listed = [] -> Q .normal (fr vals) w := by
  intro listed vals w hs hI hr
  have hall : ∀ n i, i < n -> i < ops.size -> listed.getD i true = true := by
   intro n
   induction n with
   | zero => intro i hi; omega
   | succ n ih =>
    intro i hi hio
    by_cases h : listed.getD i true = true
    ·exact h
    ·exfalso
     have hno : i ∉ Region.ready .any ops listed := by rw [hr]; exact List.not_mem_nil
     refine hno ?_
     unfold Region.ready
     rw [List.mem_filter]
     refine ⟨List.mem_range.2 hio, ?_⟩
     have ho : ops[i]? = some ops[i] := Array.getElem?_eq_getElem hio
     simp only [Bool.and_eq_true, ho, Option.map_some, Option.getD_some]
     refine ⟨by simpa using h, ?_⟩
     rw [Array.all_eq_true']
     intro e he
     by_cases hb : Region.binds .any e = true
     ·have hlt := edgesDown_spec hdown ho he hb
      have h1 := ih e.on (by omega) (by omega)
      have h2 : e.on < listed.size := by omega
      rw [Array.getD_eq_getD_getElem?, Array.getElem?_eq_getElem h2, Option.getD_some] at h1
      simp [h2, h1]
     ·simp [hb]
  obtain ⟨k, hk, hl, hS⟩ := hI.done
  have hkl : k = chain.length := by
   rcases Nat.lt_or_ge k chain.length with h | h
   ·have h1 := hl k chain[k] (List.getElem?_eq_getElem h)
    have h2 := (chainOK_in hch (List.getElem?_eq_getElem h)).1
    rw [hall (chain[k] + 1) _ (by omega) h2] at h1
    simp at h1
   ·omega
  rw [hkl, List.take_length] at hS
  exact fin vals w hS (fun i v hi hv => hI.free i v hi (hall (i + 1) i (by omega) hi) hv)
 intro fuel
 induction fuel with
 | zero =>
  intro listed vals w hs hf hI
  have hr : Region.ready .any ops listed = [] := by
   unfold Region.ready
   rw [List.filter_eq_nil_iff]
   intro i hi
   have hio := List.mem_range.1 hi
   have h0 : listed.toList.filter (! ·) = [] := List.eq_nil_of_length_eq_zero hf
   rw [List.filter_eq_nil_iff] at h0
   have hl : i < listed.size := by omega
   have h1 := h0 listed[i] (by simp)
   simp at h1
   simp [Array.getD, hl, h1]
  exact ⟨hr, done listed vals w hs hI hr⟩
 | succ fuel ih =>
  intro listed vals w hs hf hI
  refine ⟨fun hr => done listed vals w hs hI hr, ?_⟩
  intro i hi
  unfold Region.ready at hi
  rw [List.mem_filter] at hi
  obtain ⟨hio, hi2⟩ := hi
  have hio := List.mem_range.1 hio
  have ho : ops[i]? = some ops[i] := Array.getElem?_eq_getElem hio
  simp only [Bool.and_eq_true, ho, Option.map_some, Option.getD_some] at hi2
  obtain ⟨hn, ha⟩ := hi2
  have hil : i < listed.size := by omega
  have hnl : listed[i] = false := by simpa [Array.getD, hil] using hn
  have hni : listed.getD i true = false := by rw [Array.getD_eq_getD_getElem?, Array.getElem?_eq_getElem hil, hnl]; rfl
  have hcount : ((listed.setIfInBounds i true).toList.filter (! ·)).length = fuel := by
   have e : (listed.setIfInBounds i true).toList = listed.toList.set i true := by simp
   rw [e]
   have hd : listed.toList = listed.toList.take i ++ listed[i] :: listed.toList.drop (i + 1) := by
    have hl' : i < listed.toList.length := by simpa using hil
    have := (List.take_append_drop i listed.toList).symm
    rw [List.drop_eq_getElem_cons hl'] at this
    simpa using this
   have hset : listed.toList.set i true = listed.toList.take i ++ true :: listed.toList.drop (i + 1) := by
    rw [List.set_eq_take_append_cons_drop, if_pos (by simpa using hil)]
   rw [hset]
   rw [hd, hnl] at hf
   simp at hf ⊢
   omega
  have hnd : ∀ e ∈ ops[i].after, Region.binds .any e = true -> listed.getD e.on true = true := by
   intro e he hb
   rw [Array.all_eq_true'] at ha
   have h1 := ha e he
   simp [hb] at h1
   have hlt := edgesDown_spec hdown ho he hb
   have h2 : e.on < listed.size := by omega
   simpa [Array.getD, h2] using h1
  have hwt : ∀ j, j < ops.size -> waits ops j i = true -> listed.getD j true = false := by
   intro j hjs hw
   unfold waits at hw
   have hjo : ops[j]? = some ops[j] := Array.getElem?_eq_getElem hjs
   rw [hjo] at hw
   simp only [Array.any_eq_true', Bool.and_eq_true, decide_eq_true_eq] at hw
   obtain ⟨e, he, hb, hei⟩ := hw
   cases hlj : listed.getD j true with
   | false => rfl
   | true =>
    have := hI.closed j _ hjo hlj e he hb
    rw [hei, hni] at this
    cases this
  obtain ⟨k, hk, hl, hS⟩ := hI.done
  have hnext : ∀ v w', (∃ k', k' <= chain.length /\ (∀ m j, chain[m]? = some j -> (if j = i then true else listed.getD j true) = decide (m < k')) /\ S ((chain.take k').map (fun j => if j = i then v else vals j)) w') -> (∀ u, (F i).val = some u -> v = u) ->
    wpAny P .any ops Q fuel (listed.setIfInBounds i true) ((fr vals).put ops[i].dst v) w' := by
   intro v w' hd hu
   rw [hput i _ ho]
   refine ih _ _ _ (by simpa using hs) hcount ⟨?_, ?_, ?_, ?_⟩
   ·obtain ⟨k', h1, h2, h3⟩ := hd
    exact ⟨k', h1, fun m j hj => by rw [getD_set _ _ _ hil]; exact h2 m j hj, h3⟩
   ·intro j u hj hlj hF
    rw [getD_set _ _ _ hil] at hlj
    by_cases hji : j = i
    ·subst hji; simpa using hu u hF
    ·rw [if_neg hji] at hlj
     simp only [if_neg hji]
     exact hI.free j u hj hlj hF
   ·intro j hj hlj
    rw [getD_set _ _ _ hil] at hlj
    by_cases hji : j = i
    ·rw [if_pos hji] at hlj; cases hlj
    ·rw [if_neg hji] at hlj
     simp only [if_neg hji]
     exact hI.rest j hj hlj
   ·intro j o hjo hlj e he hb
    rw [getD_set _ _ _ hil] at hlj ⊢
    by_cases hei : e.on = i
    ·rw [if_pos hei]
    ·rw [if_neg hei]
     by_cases hji : j = i
     ·subst hji
      rw [ho] at hjo
      cases hjo
      exact hnd e he hb
     ·rw [if_neg hji] at hlj
      exact hI.closed j o hjo hlj e he hb
  have hst := step i _ ho vals _ w hS (by
   intro e he hb v hv
   have hlt := edgesDown_spec hdown ho (by simpa using he) hb
   exact hI.free e.on v (by omega) (hnd e (by simpa using he) hb) hv) (fun j hjs hw => hI.rest j hjs (hwt j hjs hw))
  have hkey : if Region.wanted ops[i] (yielded ops (fr vals).tmps) = true then ops[i].wp P (fr vals) w (fun a' w' => wpAny P .any ops Q fuel (listed.setIfInBounds i true) a' w') Q else wpAny P .any ops Q fuel (listed.setIfInBounds i true) ((fr vals).put ops[i].dst undef) w := by
   cases hF : F i with
   | free v =>
    simp only [hF] at hst
    have hnin : ∀ (m j : Nat), chain[m]? = some j -> j ≠ i := by
     intro m j hj e
     have := (chainOK_in hch hj).2
     rw [e, hF] at this
     cases this
    refine hst ?_ _ (hnext v w ⟨k, hk, ?_, ?_⟩ ?_)
    ·intro m j hj hw
     have h1 := hl m j hj
     rw [hwt j (chainOK_in hch hj).1 hw] at h1
     have : ¬ m < k := by simpa using h1.symm
     rw [List.length_map, List.length_take]
     omega
    ·intro m j hj
     rw [if_neg (hnin m j hj)]
     exact hl m j hj
    ·have : (chain.take k).map (fun j => if j = i then v else vals j) = (chain.take k).map vals := by
      refine List.map_congr_left fun j hj => ?_
      obtain ⟨m, hm⟩ := List.getElem?_of_mem (List.mem_of_mem_take hj)
      rw [if_neg (hnin m j hm)]
     rw [this]
     exact hS
    ·intro u hu
     rw [hF] at hu
     simpa [OpSort.val] using hu
   | link u =>
    simp only [hF] at hst
    obtain ⟨m, hm⟩ := chainOK_all (F := fun i => (F i).isLink) hch hio (by rw [hF]; rfl)
    have hmk : ¬ m < k := by
     have h1 := hl m i hm
     rw [hni] at h1
     simpa using h1.symm
    obtain rfl : m = k := by
     cases m with
     | zero => omega
     | succ m =>
      have hml : m < chain.length := by have := (List.getElem?_eq_some_iff.1 hm).1; omega
      have h0 := List.getElem?_eq_getElem hml
      have hw := chainOK_waits hch h0 hm
      unfold waits at hw
      rw [ho] at hw
      simp only [Array.any_eq_true', Bool.and_eq_true, decide_eq_true_eq] at hw
      obtain ⟨e, he, hb, hei⟩ := hw
      have h1 := hnd e he hb
      rw [hei, hl m _ h0] at h1
      have : m < k := by simpa using h1
      omega
    refine hst ?_ _ (fun v w' hv' hS' => hnext v w' ⟨m + 1, (List.getElem?_eq_some_iff.1 hm).1, ?_, ?_⟩ ?_)
    ·intro m' hm'
     rw [chainOK_once hch hm' hm]
    ·intro m' j hj
     by_cases hji : j = i
     ·subst hji
      rw [if_pos rfl, chainOK_once hch hj hm]
      simp
     ·rw [if_neg hji, hl m' j hj]
      have hne : m' ≠ m := fun e => by rw [e, hm] at hj; cases hj; exact hji rfl
      simp only [decide_eq_decide]
      omega
    ·have e1 : chain.take (m + 1) = chain.take m ++ [i] := by rw [List.take_add_one, hm]; rfl
     rw [e1, List.map_append, List.map_singleton, if_pos rfl]
     have : (chain.take m).map (fun j => if j = i then v else vals j) = (chain.take m).map vals := by
      refine List.map_congr_left fun j hj => ?_
      obtain ⟨m', hm'⟩ := List.getElem?_of_mem hj
      have h2 := (List.getElem?_eq_some_iff.1 hm').1
      rw [List.length_take] at h2
      rw [List.getElem?_take, if_pos (by omega)] at hm'
      rw [if_neg]
      intro e
      subst e
      have := chainOK_once hch hm' hm
      omega
     rw [this]
     exact hS'
    ·intro u' hu
     rw [hF] at hu
     exact hv' u' (by simpa [OpSort.val] using hu)
  unfold wpOp
  simp only [ho]
  split
  ·rename_i hw
   rw [if_pos hw] at hkey
   exact .inl hkey
  ·rename_i hw
   rw [if_neg hw] at hkey
   exact hkey

theorem wp_region_chain {id : Nat} {l : List Oper} {a : Act} {w : World} (hm : P.follows .mixedOrders = true)
  (ds : List (Option Nat)) (hds : l.map (·.dst) = ds) (hnd : noTwice ds = true) (hlt : ∀ d, some d ∈ ds -> d < a.tmps.size)
  (chain : List Nat) (S : List Value -> World -> Prop) (FL : List OpSort) (hdown : edgesDown l.toArray = true) (hch : chainOK l.toArray chain (fun i => (FL.getD i (.link none)).isLink) = true)
  (h0 : S [] w.drew)
  (step : ∀ vals : Nat -> Value, AllOps (RelOpC P l.toArray Q chain S (fun i => FL.getD i (.link none)) (fun i => ((ds[i]?.bind fun x => x).bind (a.tmps[·]?)).getD undef) (frOfU a ds vals) vals) l 0)
  (fin : ∀ vals w', S (chain.map vals) w' -> (∀ i v, i < l.length -> (FL.getD i (.link none)).val = some v -> vals i = v) -> Q .normal (frOfU a ds vals) w') : (Code.region id l.toArray true).wp P Q a w := by
 have hdst : ∀ (i : Nat) (o : Oper), l[i]? = some o -> ds[i]? = some o.dst := by
  intro i o ho
  rw [<- hds]
  simp [ho]
 refine wp_region_any hm ?_
 have ha : a = frOfU a ds (fun i => ((ds[i]?.bind fun x => x).bind (a.tmps[·]?)).getD undef) := by
  unfold frOfU
  have : fillU (fun j => ((ds[j]?.bind fun x => x).bind (a.tmps[·]?)).getD undef) ds 0 a.tmps = a.tmps := by
   apply Array.ext_getElem?
   intro x
   by_cases hx : some x ∈ ds
   ·obtain ⟨j, hj, hjx⟩ := List.getElem_of_mem hx
    have hd : ds[j]? = some (some x) := by rw [List.getElem?_eq_getElem hj, hjx]
    rw [fillU_at _ ds 0 a.tmps hnd hlt j _ hd, Nat.zero_add, hd]
    have hb := hlt x hx
    simp [Array.getElem?_eq_getElem hb]
   ·exact fillU_other _ _ _ _ _ hx
  rw [this]
 have hput : ∀ i o, l.toArray[i]? = some o -> ∀ vals v, (frOfU a ds vals).put o.dst v = frOfU a ds (fun j => if j = i then v else vals j) := by
  intro i o ho vals v
  have h1 := hdst i o (by simpa using ho)
  unfold frOfU Act.put
  cases h2 : o.dst with
  | none =>
   rw [h2] at h1
   simp only
   congr 1
   apply Array.ext_getElem?
   intro x
   by_cases hx : some x ∈ ds
   ·obtain ⟨j, hj, hjx⟩ := List.getElem_of_mem hx
    have hd : ds[j]? = some (some x) := by rw [List.getElem?_eq_getElem hj, hjx]
    rw [fillU_at _ ds 0 a.tmps hnd hlt j _ hd, fillU_at _ ds 0 a.tmps hnd hlt j _ hd, Nat.zero_add]
    have hne : j ≠ i := by
     intro e
     subst e
     rw [h1] at hd
     cases hd
    rw [if_neg hne]
   ·rw [fillU_other _ _ _ _ _ hx, fillU_other _ _ _ _ _ hx]
  | some d =>
   rw [h2] at h1
   simp only
   congr 1
   apply Array.ext_getElem?
   intro x
   have hd : d < a.tmps.size := hlt d (List.mem_of_getElem? h1)
   rw [Array.getElem?_setIfInBounds]
   by_cases hx : some x ∈ ds
   ·obtain ⟨j, hj, hjx⟩ := List.getElem_of_mem hx
    have hdj : ds[j]? = some (some x) := by rw [List.getElem?_eq_getElem hj, hjx]
    rw [fillU_at _ ds 0 a.tmps hnd hlt j _ hdj, fillU_at _ ds 0 a.tmps hnd hlt j _ hdj, Nat.zero_add]
    by_cases e : j = i
    ·subst e
     rw [h1] at hdj
     simp only [Option.some.injEq] at hdj
     rw [if_pos hdj, if_pos (by rw [fillU_size]; exact hdj ▸ hd), if_pos rfl]
    ·have hne : d ≠ x := by
      intro e2
      subst e2
      exact e (noTwice_inj hnd hdj h1)
     rw [if_neg hne, if_neg e]
   ·have hne : d ≠ x := fun e => hx (e ▸ List.mem_of_getElem? h1)
    rw [if_neg hne, fillU_other _ _ _ _ _ hx, fillU_other _ _ _ _ _ hx]
 have hfalse : ∀ i, i < l.toArray.size -> ¬ (Array.replicate l.toArray.size false).getD i true = true := by
  intro i hi h
  have hi' : i < l.length := by simpa using hi
  simp [Array.getD, hi'] at h
 have hmain := wpAny_chain (P := P) (ops := l.toArray) (Q := Q) (fr := frOfU a ds) hput (chain := chain) (S := S) (F := fun i => FL.getD i (.link none)) (orig := fun i => ((ds[i]?.bind fun x => x).bind (a.tmps[·]?)).getD undef) hdown hch (by
   intro i o ho vals
   have := (step vals).get i o (by simpa using ho)
   rw [Nat.zero_add] at this
   exact this) (fun vals w h1 h2 => fin vals w h1 (fun i v hi => h2 i v (by simpa using hi))) l.toArray.size (Array.replicate l.toArray.size false) (fun i => ((ds[i]?.bind fun x => x).bind (a.tmps[·]?)).getD undef) w.drew (by simp) (by simp) ⟨?_, ?_, ?_, ?_⟩
 ·rw [<- ha] at hmain
  exact hmain
 ·refine ⟨0, Nat.zero_le _, fun m i hi => ?_, by simpa using h0⟩
  have h1 := hfalse i (chainOK_in hch hi).1
  simpa using h1
 ·intro i v hi hl
  exact absurd hl (hfalse i hi)
 ·intro i _ _
  rfl
 ·intro i o ho hl
  exact absurd hl (hfalse i (Array.getElem?_eq_some_iff.1 ho).1)

end
end
section
theorem Fr.setRow {S : Nat -> Prop} {w w' : World} (h : Fr S w w') {g : Nat} (hg : g < w.heap.size -> S g) (cs : Array Value) : Fr S w (w'.setRow g cs) :=
 ⟨h.os, h.tape, h.output, by have := h.size; simp [World.setRow]; omega, fun b hb hs => (setRow_other _ _ _ _ (by rintro rfl; exact hs (hg hb))).trans (h.block b hb hs)⟩

def stC (s : Nat -> Int) : Array Value := #[.int .i64 (s 0), .int .i64 (s 1), .int .i64 (s 2), .int .i64 (s 3), .int .i64 (s 4), .int .i64 (s 5), .int .i64 (s 6), .int .i64 (s 7)]

def loadE (s : Nat -> Int) (ns : List Int) (k : Nat) : Int := if k < 8 then s k else if k < 8 + ns.length then ns.getD (k - 8) 0 else 0

theorem load_state (s : Nat -> Int) (nv : Value) : ((regC (fun _ => 0) nv).toList.take 0 ++ (stC s).toList ++ (regC (fun _ => 0) nv).toList.drop (0 + (stC s).toList.length)).toArray = regC (loadE s []) nv := rfl

theorem load_nums (s : Nat -> Int) (nv : Value) (ns : List Int) :
  ((regC (loadE s []) nv).toList.take 8 ++ (ns.take 8).map (Value.int .i64) ++ (regC (loadE s []) nv).toList.drop (8 + ((ns.take 8).map (Value.int .i64)).length)).toArray = regC (loadE s ns) nv := by
 match ns with
 | [] => rfl
 | [a] => rfl
 | [a, b] => rfl
 | [a, b, c] => rfl
 | [a, b, c, d] => rfl
 | [a, b, c, d, e] => rfl
 | [a, b, c, d, e, f] => rfl
 | [a, b, c, d, e, f, g] => rfl
 | a :: b :: c :: d :: e :: f :: g :: h :: r =>
  have key : ∀ k, k < 16 -> loadE s (a :: b :: c :: d :: e :: f :: g :: h :: r) k = loadE s [a, b, c, d, e, f, g, h] k := by
   intro k hk
   unfold loadE
   by_cases h8 : k < 8
   ·rw [if_pos h8, if_pos h8]
   ·rw [if_neg h8, if_neg h8, if_pos (by simp; omega), if_pos (by simp; omega)]
    have : k = 8 \/ k = 9 \/ k = 10 \/ k = 11 \/ k = 12 \/ k = 13 \/ k = 14 \/ k = 15 := by omega
    rcases this with rfl | rfl | rfl | rfl | rfl | rfl | rfl | rfl <;> rfl
  unfold regC
  simp only [key 0 (by decide), key 1 (by decide), key 2 (by decide), key 3 (by decide), key 4 (by decide), key 5 (by decide), key 6 (by decide), key 7 (by decide), key 8 (by decide), key 9 (by decide), key 10 (by decide), key 11 (by decide), key 12 (by decide), key 13 (by decide), key 14 (by decide), key 15 (by decide)]
  rfl

theorem NumsAt.below {B : Nat -> Prop} {w : World} {l : List Int} {v : Value} (h : NumsAt B w l v) : NumsAt (fun k => B k /\ k < w.heap.size) w l v := by
 obtain ⟨h0, h | ⟨g, o, cap, hB, rfl, hle, hc⟩⟩ := h
 ·exact ⟨h0, .inl h⟩
 ·cases l with
  | nil => exact ⟨h0, .inl ⟨rfl, _, _, rfl⟩⟩
  | cons x l => exact ⟨h0, .inr ⟨g, o, cap, ⟨hB, World.block_lt_of_cell? w _ (hc 0 x rfl)⟩, rfl, hle, hc⟩⟩

theorem Fr.new {S T : Nat -> Prop} {w w1 w2 : World} (h : Fr S w w1) (hT : ∀ k, T k -> w.heap.size <= k) (f : Fr T w1 w2) : Fr S w w2 :=
 ⟨f.os.trans h.os, f.tape.trans h.tape, f.output.trans h.output, Nat.le_trans h.size f.size, fun b hb hs => (f.block b (Nat.lt_of_lt_of_le hb h.size) (fun t => by have := hT b t; omega)).trans (h.block b hb hs)⟩

theorem Try.infoInt64 : (Try.prog.info? 2).map (·.size) = some 1 := by kernel_rfl

theorem copy_state (w : World) (g sb : Nat) (ty : TypeId) (s : Nat -> Int) (nv : Value) (hm : MAt w g (fun _ => 0) nv) (hs : w.heap[sb]? = some (.cells (stC s) 27 (0, 0))) :
  (Builtin.copy_ #[28, 28] ty #[.slice (some ⟨g, 0, none⟩) 8 16, .slice (some ⟨sb, 0, none⟩) 8 8]).run Try.prog w = .ok (.int .i64 8) (w.setRow g (regC (loadE s []) nv)) := by
 have := run_copy_row (P := Try.prog) w 28 28 ty 2 g 0 8 16 ⟨sb, 0, none⟩ 8 8 (regC (fun _ => 0) nv) 92 (stC s).toList Try.underlying28 Try.infoInt64 hm rfl
  (by
   intro j v hj
   rw [pplain_add, Nat.zero_add, cell_of_row w sb j _ _ _ hs]
   simpa using hj) (by simp [stC, regC]) (by simp [stC, Value.oneCell'])
 rw [load_state s nv] at this
 exact this

theorem copy_nums (B : Nat -> Prop) (w : World) (g : Nat) (ty : TypeId) (s : Nat -> Int) (nv : Value) (ns : List Int) (hm : MAt w g (loadE s []) nv) (hn : NumsAt B w ns nv) :
  ∃ n w', (Builtin.copy_ #[28, 28] ty #[.slice (some ⟨g, 8, none⟩) 8 8, nv]).run Try.prog w = .ok n w' /\ MAt w' g (loadE s ns) nv /\ Fr (fun k => k = g) w w' := by
 obtain ⟨hl, ⟨rfl, a, c, rfl⟩ | ⟨b, o, cap, hB, rfl, hle, hc⟩⟩ := hn
 ·exact ⟨_, w, run_copy_none (P := Try.prog) w 28 28 ty 2 _ a 8 8 0 c Try.underlying28 Try.infoInt64 rfl, hm, Fr.refl _ _⟩
 ·have hlen : ((ns.take 8).map (Value.int .i64)).length = Nat.min ns.length 8 := by
   rw [List.length_map, List.length_take]
   exact Nat.min_comm _ _
  have := run_copy_row (P := Try.prog) w 28 28 ty 2 g 8 8 8 ⟨b, o, none⟩ ns.length cap (regC (loadE s []) (.slice (some ⟨b, o, none⟩) ns.length cap)) 92 ((ns.take 8).map (Value.int .i64)) Try.underlying28 Try.infoInt64 hm hlen
   (by
    intro j v hj
    rw [pplain_add]
    simp only [List.getElem?_map, Option.map_eq_some_iff, List.getElem?_take] at hj
    obtain ⟨x, hx, rfl⟩ := hj
    split at hx
    ·exact hc j x hx
    ·cases hx) (by rw [hlen]; have : Nat.min ns.length 8 <= 8 := Nat.min_le_right _ _; simp [regC]; omega) (by
    intro v hv
    obtain ⟨x, _, rfl⟩ := List.mem_map.1 hv
    rfl)
  rw [load_nums] at this
  exact ⟨_, _, this, setRow_heap w g _ _ _ _ hm, Fr.setRow (S := fun k => k = g) (Fr.refl _ _) (fun _ => rfl) _⟩

set_option maxRecDepth 100000 in
theorem load_any (B : Nat -> Prop) (s : Nat -> Int) (ns : List Int) (nv : Value) (w : World) (hn : NumsAt B w ns nv) :
  Calls Try.prog 24 #[.agg (stC s), nv] w fun e w' => e = .returned (.agg (regC (loadE s ns) nv)) /\ Fr (fun _ => False) w w' := by
 obtain ⟨na, nc, rfl, hx⟩ := hn.shape
 clear hx
 have HN := hid hn
 obtain ⟨w0, hw0⟩ : ∃ w0, w0 = ((w.alloc (.cells (stC s) 27)).alloc (.cells (regC (fun _ => 0) (.slice none 0 0)) 92)).alloc (.cells (regC (fun _ => 0) (.slice na ns.length nc)) 92) := ⟨_, rfl⟩
 have f0 : Fr (fun _ => False) w w0 := by rw [hw0]; exact (((Fr.refl _ _).alloc _).alloc _).alloc _
 have q0 : w0.heap[w.heap.size]? = some (.cells (stC s) 27 (0, 0)) := by
  rw [hw0]; exact pbox_kept (pbox_kept (heap_alloc_new _ _) ((Fr.refl (fun _ => False) _).alloc _) (fun h => h)) ((Fr.refl (fun _ => False) _).alloc _) (fun h => h)
 have q1 : w0.heap[w.heap.size + 1]? = some (.cells (regC (fun _ => 0) (.slice none 0 0)) 92 (0, 0)) := by
  rw [hw0]; exact pbox_kept (new_two _ _ _) ((Fr.refl (fun _ => False) _).alloc _) (fun h => h)
 have m1 : MAt w0 (w.heap.size + 1 + 1) (fun _ => 0) (.slice na ns.length nc) := by
  rw [hw0]; exact new_three _ _ _ _
 have Q := hid (And.intro f0 (And.intro q0 (And.intro q1 m1)))
 have HW : Hid (w0.heap.size = w.heap.size + 1 + 1 + 1) := hid (by rw [hw0]; simp)
 clear hn f0 q0 q1 m1
 simp only [stC, regC] at hw0
 simp only [stC]
 go_enter Try.func24, Try.ntmps24
 go_wp2_with fail
 rw [<- hw0]
 clear hw0
 generalize hg0 : w.heap.size = g0 at *
 have G0 := hid hg0
 clear hg0
 refine wp_region_chain (by kernel_rfl) [some 8, some 9, some 10, some 11] rfl (by decide) (by intro d hd; simp at hd ⊢; omega)
  [3] (fun cvs wx => match cvs with
   | [] => Fr (fun _ => False) w0 wx
   | _ => Fr (fun k => k = g0 + 1 + 1) w0 wx /\ MAt wx (g0 + 1 + 1) (loadE s []) (.slice na ns.length nc))
  [.free (.pointer (some ⟨g0 + 1 + 1, 0, none⟩)), .free (.slice (some ⟨g0 + 1 + 1, 0, none⟩) 8 16), .free (.slice (some ⟨g0, 0, none⟩) 8 8), .link none]
  (by kernel_rfl) (by kernel_rfl) ?h0 ?step ?fin
 case h0 => exact (Fr.refl _ _).drew
 case step =>
  intro vals
  simp only [frOfU, fillU, zsl]
  repeat' (first | exact AllOps.nil | refine AllOps.cons ?_ ?_)
  all_goals
   intro cvs wx hS he hu hlim K hK
   clear hu
   simp only [Act.put, zsl, zgl] at hK
   simp only [zml, Region.binds, forall_const, false_imp_iff, zgl, OpSort.val, Option.some.injEq, forall_eq', reduceCtorEq, implies_true, true_and, and_true] at he
   have HSX := hid hS
   clear hS
  all_goals first | (clear hlim; (try simp only [he] at hK ⊢); go_simp; exact hK) | skip
  ·obtain rfl := hlim (0 : Nat) rfl
   have h1 : Fr (fun _ => False) w0 wx := HSX.out
   have hc := copy_state wx (g0 + 1 + 1) g0 3 s _ (Q.out.2.2.2.fr h1 (fun h => h)) (pbox_kept Q.out.2.1 h1 (fun h => h))
   have H1 := hid h1
   clear h1 hlim HSX
   simp only [he] at hK ⊢
   go_simp
   exact hK _ _ (fun _ h => by cases h) ⟨Fr.setRow (S := fun k => k = g0 + 1 + 1) (H1.out.mono (fun _ _ h => h.elim)) (fun _ => rfl) _, setRow_heap _ _ _ _ _ _ (Q.out.2.2.2.fr H1.out (fun h => h))⟩
 case fin =>
  intro vals w1 hS hV
  clear hV
  simp only [List.map_cons, List.map_nil] at hS
  have HF := hid hS
  obtain ⟨cn, w2, hc, m2, f2⟩ := copy_nums (fun k => B k /\ k < w.heap.size) w1 (g0 + 1 + 1) 3 s _ ns hS.2 ((HN.out.below.fr Q.out.1 fid2).fr hS.1 (fun k hk h => by have := hk.2; have := G0.out; omega))
  clear hS
  have M2 := hid (And.intro m2 f2)
  clear m2 f2
  simp only [frOfU, fillU, zsl]
  go_wp2_with (first
   | refine wpList_load_row rfl 92 (.tmp 5) rfl (g0 + 1 + 1) rfl 92 _ (0, 0) _ M2.out.1 Try.underlying92 rfl (by kernel_rfl) ?_
   | refine wpList_store_row rfl 92 (.tmp 4) (.tmp 16) rfl (g0 + 1) (regC (loadE s ns) (.slice na ns.length nc)) rfl rfl 92 (regC (fun _ => 0) (.slice none 0 0)) ?hg ?hi ?hold ?h1 ?go)
  case hg => exact pbox_kept (pbox_kept Q.out.2.2.1 HF.out.1 (by omega)) M2.out.2 (by omega)
  case hi => kernel_rfl
  case hold => rfl
  case h1 => simp [regC, Value.oneCell']
  case go =>
   have q2 : w2.heap[g0 + 1]? = some (.cells (regC (fun _ => 0) (.slice none 0 0)) 92 (0, 0)) := pbox_kept (pbox_kept Q.out.2.2.1 HF.out.1 (by omega)) M2.out.2 (by omega)
   refine bodyPost_ret (results_cell_row rfl _ _ (g0 + 1) 92 _ _ _ rfl (setRow_heap _ _ _ _ _ _ q2) Try.underlying92 rfl (by kernel_rfl)) rfl ?_
   refine ⟨rfl, ?_⟩
   have hg := G0.out
   exact (((Q.out.1.new (fun k hk => by omega) HF.out.1).new (fun k hk => by omega) M2.out.2)).setRow (fun h => by omega) _
end
section
section
variable {P : Program} {ops : Array Oper} {a : Act} {w : World}

theorem upon_next {o : Oper} {next next' : Act -> World -> Prop} {Q : Exit -> Act -> World -> Prop} {r : Result Next} (hn : ∀ a w, next a w -> next' a w) (h : o.upon P a next Q r) : o.upon P a next' Q r := by
 unfold Oper.upon at h ⊢
 split at h
 ·exact hn _ _ h
 ·exact hn _ _ h
 ·exact hn _ _ h
 ·refine h.mono fun e w' he => ?_
  cases e with
  | returned v => exact hn _ _ he
  | panicked c => exact he
  | outgrown => exact he
 ·exact h.mono fun v w' he => hn _ _ he
 ·exact h
 ·exact h.elim

theorem wpOpsS_of_wpOps {Q : Exit -> Act -> List Frame -> World -> Prop} {cs : List Frame} (hno : ¬ LetsOut (fun e a w => Q e a cs w)) :
  ∀ (l : List Nat) (a : Act) (w : World), wpOps P ops (fun e a w => Q e a cs w) l a w -> wpOpsS P ops Q l a cs w := by
 intro l
 induction l with
 | nil => exact fun a w h => h
 | cons i rest ih =>
  intro a w h
  simp only [wpOps, wpOpsS] at h ⊢
  cases ho : ops[i]? with
  | none => rw [ho] at h; exact ih a w h
  | some o =>
   rw [ho] at h
   simp only at h ⊢
   by_cases hw : Region.wanted o (yielded ops a.tmps) = true
   ·rw [if_pos hw] at h ⊢
    rcases h with h | ⟨_, h⟩
    ·unfold Oper.wp at h
     generalize (execOp a.eval o).run P w = r at h ⊢
     split
     ·exact absurd h (by unfold Oper.upon; exact fun h => h)
     ·exact upon_next ih h
    ·exact absurd h hno
   ·rw [if_neg hw] at h ⊢
    exact ih _ _ h

theorem wpS_recover_first {id : Nat} {o0 : Oper} {l : List Oper} {y : Code} {Q : Exit -> Act -> List Frame -> World -> Prop} {cs cs' : List Frame} {v : Value} (hg : o0.guard = none) (hr : (execOp a.eval o0).run P w = .ok .recover w)
  (hrec : recoverD cs = some (v, cs') \/ recoverD cs = none /\ v = .nilIface /\ cs' = cs) (hno : ∀ a w, ¬ Q .outgrown a cs' w)
  (h : wpList P (o0 :: l).toArray (fun e a w => Exit.thenS (y.wpS P Q) Q e a cs' w) l (a.put o0.dst v) w) : (Code.seq (Code.region id (o0 :: l).toArray false) y).wpS P Q a cs w := by
 apply wpS_seq
 apply wpS_region
 have hsz : (o0 :: l).toArray.size = l.length + 1 := by simp
 have e1 : List.range (l.length + 1) = 0 :: List.range' 1 l.length := by rw [List.range_eq_range', List.range'_succ]
 have key : wpOpsS P (o0 :: l).toArray (Exit.thenS (y.wpS P Q) Q) (List.range' 1 l.length) (a.put o0.dst v) cs' w := by
  refine wpOpsS_of_wpOps ?_ _ _ _ ?_
  ·rintro ⟨a, w, h⟩
   exact hno a w h
  ·rw [wpOps_eq_wpList l 1 (fun j => by simp [Nat.add_comm 1 j])]
   exact h
 rw [hsz, e1]
 unfold wpOpsS
 have h0 : (o0 :: l).toArray[0]? = some o0 := by simp
 rw [h0]
 simp only [Region.wanted, hg, if_true]
 rw [hr]
 rcases hrec with hrec | ⟨hrec, rfl, rfl⟩
 ·rw [hrec]; exact key
 ·rw [hrec]; exact key
end
end
section
theorem assert_nil (w : World) : (Instr.typeAssert Value.nilIface 20 88 true).run Try.prog w = .ok (.tuple #[.agg #[.int .i64 0, .int .i64 0], .bool false]) w := by kernel_rfl

theorem assert_some (e n : Int) (w : World) : (Instr.typeAssert (.iface 88 (.agg #[.int .i64 e, .int .i64 n])) 20 88 true).run Try.prog w = .ok (.tuple #[.agg #[.int .i64 e, .int .i64 n], .bool true]) w := by kernel_rfl

set_option maxRecDepth 100000 in
theorem catch_idle (sb ob vb : Nat) (w : World) :
  CallsD Try.prog 22 #[.pointer (some ⟨sb, 0, none⟩), .pointer (some ⟨ob, 0, none⟩), .pointer (some ⟨vb, 0, none⟩)] .returning w fun e u' w' => e = .returned (.tuple #[]) /\ u' = .returning /\ w' = w.alloc (.cells #[.int .i64 0, .int .i64 0] 88) := by
 refine callsD_of_wpS Try.func22 rfl fun c₀ cs hu => ?_
 have ht : (#[.pointer (some ⟨sb, 0, none⟩), .pointer (some ⟨ob, 0, none⟩), .pointer (some ⟨vb, 0, none⟩)] ++ Array.replicate 14 undef : Array Value) = #[.pointer (some ⟨sb, 0, none⟩), .pointer (some ⟨ob, 0, none⟩), .pointer (some ⟨vb, 0, none⟩), undef, undef, undef, undef, undef, undef, undef, undef, undef, undef, undef, undef, undef, undef] := rfl
 rw [Try.ntmps22]
 simp only [List.size_toArray, List.length_cons, List.length_nil, Nat.reduceAdd, Nat.reduceSub, ht]
 have hta := assert_nil
 refine wpS_recover_first (v := .nilIface) (cs' := c₀ :: cs) rfl rfl (.inr ⟨by simp [recoverD, hu], rfl, rfl⟩) (fun a w h => by obtain ⟨u', h1, _⟩ := h; cases h1) ?_
 go_wp2
 refine wpS_of_wp ?_
 go_wp2
 refine ⟨rfl, .returning, ?_, .tuple #[], ?_, rfl, rfl, rfl⟩
 ·cases c₀; simp_all
 ·simp [results, Try.results22]

def outC (e : Nat) (n : Int) : Array Value := #[.int .i64 e, .int .i64 n, .int .i64 0, .float .f64 0, .string ⟨#[]⟩, .slice none 0 0]

def CaS (w0 : World) (ob vb : Nat) (s : Nat -> Int) (e : Nat) (n : Int) : List Value -> World -> Prop
 | [], wx => Fr (fun _ => False) w0 wx
 | [_], wx => Fr (fun k => k = ob) w0 wx /\ wx.heap[ob]? = some (.cells (stC s) 27 (0, 0))
 | _, wx => Fr (fun k => k = ob \/ k = vb) w0 wx /\ wx.heap[ob]? = some (.cells (stC s) 27 (0, 0)) /\ wx.heap[vb]? = some (.cells (outC e n) 65 (0, 0))

theorem CaS.fr {w0 : World} {ob vb : Nat} {s : Nat -> Int} {e : Nat} {n : Int} {l : List Value} {wx : World} (h : CaS w0 ob vb s e n l wx) : Fr (fun k => k = ob \/ k = vb) w0 wx := by
 match l, h with
 | [], h => exact h.mono (fun _ _ h => h.elim)
 | [_], h => exact h.1.mono (fun _ _ h => .inl h)
 | _ :: _ :: _, h => exact h.1

set_option maxRecDepth 100000 in
theorem catch_fail (sb ob vb : Nat) (e : Nat) (n : Int) (s : Nat -> Int) (oldO oldV : Array Value) (w : World) (h1 : sb ≠ ob) (h2 : sb ≠ vb) (h3 : ob ≠ vb) (hs : w.heap[sb]? = some (.cells (stC s) 27 (0, 0)))
  (ho : w.heap[ob]? = some (.cells oldO 27 (0, 0))) (hoz : oldO.size = 8) (hv : w.heap[vb]? = some (.cells oldV 65 (0, 0))) (hvz : oldV.size = 6) :
  CallsD Try.prog 22 #[.pointer (some ⟨sb, 0, none⟩), .pointer (some ⟨ob, 0, none⟩), .pointer (some ⟨vb, 0, none⟩)] (.panicking [{ v := .iface 88 (.agg #[.int .i64 e, .int .i64 n]), recovered := false }]) w fun e1 u' w' =>
   e1 = .returned (.tuple #[]) /\ u' = .panicking [{ v := .iface 88 (.agg #[.int .i64 e, .int .i64 n]), recovered := true }] /\
   w'.heap[ob]? = some (.cells (stC s) 27 (0, 0)) /\ w'.heap[vb]? = some (.cells (outC e n) 65 (0, 0)) /\ Fr (fun k => k = ob \/ k = vb) w w' := by
 obtain ⟨w0, hw0⟩ : ∃ w0, w0 = w.alloc (.cells #[.int .i64 e, .int .i64 n] 88) := ⟨_, rfl⟩
 have f0 : Fr (fun _ => False) w w0 := by rw [hw0]; exact (Fr.refl _ _).alloc _
 have q0 : w0.heap[w.heap.size]? = some (.cells #[.int .i64 e, .int .i64 n] 88 (0, 0)) := by rw [hw0]; exact heap_alloc_new _ _
 have hs0 := pbox_kept hs f0 (fun h => h)
 have ho0 := pbox_kept ho f0 (fun h => h)
 have hv0 := pbox_kept hv f0 (fun h => h)
 have l1 := lt_of_block ho
 have l2 := lt_of_block hv
 have Q := hid (And.intro f0 (And.intro q0 (And.intro hs0 (And.intro ho0 (And.intro hv0 (And.intro hoz (And.intro hvz (And.intro h1 (And.intro h2 (And.intro h3 (And.intro l1 l2)))))))))))
 clear f0 q0 hs0 ho0 hv0 hs ho hv hoz hvz h1 h2 h3 l1 l2
 refine callsD_of_wpS Try.func22 rfl fun c₀ cs hu => ?_
 have ht : (#[.pointer (some ⟨sb, 0, none⟩), .pointer (some ⟨ob, 0, none⟩), .pointer (some ⟨vb, 0, none⟩)] ++ Array.replicate 14 undef : Array Value) = #[.pointer (some ⟨sb, 0, none⟩), .pointer (some ⟨ob, 0, none⟩), .pointer (some ⟨vb, 0, none⟩), undef, undef, undef, undef, undef, undef, undef, undef, undef, undef, undef, undef, undef, undef] := rfl
 rw [Try.ntmps22]
 simp only [List.size_toArray, List.length_cons, List.length_nil, Nat.reduceAdd, Nat.reduceSub, ht]
 clear ht
 have hta := assert_some e n
 refine wpS_recover_first (v := .iface 88 (.agg #[.int .i64 e, .int .i64 n])) (cs' := { c₀ with mode := .panicking [{ v := .iface 88 (.agg #[.int .i64 e, .int .i64 n]), recovered := true }] } :: cs) rfl rfl (.inl (by simp [recoverD, hu])) (fun a w h => by obtain ⟨u', h1, _⟩ := h; cases h1) ?_
 go_wp2
 refine wpS_of_wp ?_
 go_wp2
 rw [<- hw0]
 clear hw0
 generalize hg0 : w.heap.size = g0 at *
 have G0 := hid hg0
 clear hg0
 have is : (Try.prog.info? 27).map (·.size) = some 8 := by kernel_rfl
 have io : (Try.prog.info? 65).map (·.size) = some 6 := by kernel_rfl
 have I := hid (And.intro is io)
 clear is io
 refine wp_region_chain (by kernel_rfl) [some 11, some 12, some 13, some 14, some 15, some 16, none, none] rfl (by decide) (by intro d hd; simp at hd ⊢; omega)
  [6, 7] (CaS w0 ob vb s e n)
  [.free (.agg (stC s)), .free (.pointer (some ⟨g0, 0, none⟩)), .free (.int .i64 e), .free (.pointer (some ⟨g0, 1, none⟩)), .free (.int .i64 n), .free (.agg (outC e n)), .link none, .link none]
  (by kernel_rfl) (by kernel_rfl) ?h0 ?step ?fin
 case h0 => exact (Fr.refl _ _).drew
 case step =>
  intro vals
  simp only [frOfU, fillU, zsl]
  repeat' (first | exact AllOps.nil | refine AllOps.cons ?_ ?_)
  all_goals
   intro cvs wx hS he hu hlim K hK
   clear hu
   simp only [Act.put, zsl, zgl, stC, outC] at hK
   simp only [zml, Region.binds, forall_const, false_imp_iff, zgl, OpSort.val, Option.some.injEq, forall_eq', reduceCtorEq, implies_true, true_and, and_true, stC, outC] at he
   have lg : g0 ≠ ob /\ g0 ≠ vb := by have := Q.out.2.2.2.2.2.2.2.2.2.2; have := G0.out; omega
   have q := pbox_kept Q.out.2.1 hS.fr (fun h => by rcases h with h | h; exact lg.1 h; exact lg.2 h)
   have k0 := pcells_row q 0 _ rfl
   have k1 := pcells_row q 1 _ rfl
   have qs := pbox_kept Q.out.2.2.1 hS.fr (fun h => by rcases h with h | h; exact Q.out.2.2.2.2.2.2.2.1 h; exact Q.out.2.2.2.2.2.2.2.2.1 h)
   have s0 := pcells_row qs 0 _ rfl
   have s1 := pcells_row qs 1 _ rfl
   have s2 := pcells_row qs 2 _ rfl
   have s3 := pcells_row qs 3 _ rfl
   have s4 := pcells_row qs 4 _ rfl
   have s5 := pcells_row qs 5 _ rfl
   have s6 := pcells_row qs 6 _ rfl
   have s7 := pcells_row qs 7 _ rfl
   clear q qs lg
   have HSX := hid hS
   clear hS
  all_goals first | (clear hlim; (try simp only [he] at hK ⊢); go_simp; exact hK) | skip
  ·obtain rfl := hlim (0 : Nat) rfl
   have h1 : Fr (fun _ => False) w0 wx := HSX.out
   clear hlim HSX
   simp only [he] at hK ⊢
   simp only [Region.wanted, if_true]
   refine wp_store_row 27 (.tmp 1) (.tmp 11) rfl ob (stC s) rfl rfl 27 oldO (pbox_kept Q.out.2.2.2.1 h1 (fun h => h)) I.out.1 Q.out.2.2.2.2.2.1 (by simp [stC, Value.oneCell']) ?_
   exact hK undef _ (fun _ h => by cases h) ⟨Fr.setRow (S := fun k => k = ob) (h1.mono (fun _ _ h => h.elim)) (fun _ => rfl) _, setRow_heap _ _ _ _ _ _ (pbox_kept Q.out.2.2.2.1 h1 (fun h => h))⟩
  ·obtain rfl := hlim (1 : Nat) rfl
   have h1 : Fr (fun k => k = ob) w0 wx /\ wx.heap[ob]? = some (.cells (stC s) 27 (0, 0)) := HSX.out
   clear hlim HSX
   have q1 : wx.heap[vb]? = some (.cells oldV 65 (0, 0)) := pbox_kept Q.out.2.2.2.2.1 h1.1 (fun h => Q.out.2.2.2.2.2.2.2.2.2.1 h.symm)
   simp only [he] at hK ⊢
   simp only [Region.wanted, if_true]
   refine wp_store_row 65 (.tmp 2) (.tmp 16) rfl vb (outC e n) rfl rfl 65 oldV q1 I.out.2 Q.out.2.2.2.2.2.2.1 (by simp [outC, Value.oneCell']) ?_
   exact hK undef _ (fun _ h => by cases h) ⟨Fr.setRow (S := fun k => k = ob \/ k = vb) (h1.1.mono (fun _ _ h => .inl h)) (fun _ => .inr rfl) _, (setRow_other _ _ _ _ (fun h => Q.out.2.2.2.2.2.2.2.2.2.1 h)).trans h1.2, setRow_heap _ _ _ _ _ _ q1⟩
 case fin =>
  intro vals w' hS hV
  clear hV
  simp only [List.map_cons, List.map_nil] at hS
  have HF := hid hS
  clear hS
  simp only [frOfU, fillU, zsl]
  go_wp2
  refine ⟨rfl, _, rfl, .tuple #[], ?_, rfl, rfl, HF.out.2.1, HF.out.2.2, (Q.out.1.mono (fun _ _ h => h.elim)).trans HF.out.1 fid2⟩
  simp [results, Try.results22]
end
end Go.Proofs.Ytohfejpjjjaejaa
