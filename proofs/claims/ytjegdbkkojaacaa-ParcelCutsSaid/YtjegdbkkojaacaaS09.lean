/-
  What ParAny, ParChk, ParBack, ParOnce rests on, part 9: MapKey, ParTab, ParTab1, ParTab2, ParTab3.
-/
import Derived.Test.YtjegdbkkojaacaaS01
import Derived.Maps.Keyed
import Derived.Maps.Own
import Derived.DeepKeys4
import Derived.Carry
import Derived.Test.YtjegdbkkojaacaaS05
import Derived.BigRegion
import Derived.Laws.ResultCell
import Derived.Test.YtjegdbkkojaacaaS06
import Derived.Deep.Cut
import Derived.Deep.CutRange
import Derived.Deep.RegionWith
import Derived.Test.YtjegdbkkojaacaaS07
set_option linter.unusedVariables false
set_option linter.unusedSimpArgs false
set_option maxHeartbeats 64000000
namespace Go.Proofs.Ytjegdbkkojaacaa
open Go.RowKit
open Go.Lib (hid)
section
open Go.RowKit Go.MapKept
open Go.ChangeMaps (setBlock heap_setBlock_same heap_setBlock_other)
open Go.ChangeShapes Go.WideShapes
set_option maxRecDepth 100000

/-- What a map's laws want of its keys. -/
structure KeyF (P : Program) (kt : TypeId) {K : Type} (kv : K → Value) (ok : K → Prop) : Prop where
  inj : ∀ {x y : K}, kv x = kv y → x = y
  key : ∀ {x : K}, ok x → ∃ l, keyOf P kt (kv x) = some l
  law : Go.Maps.Keyed P kt

/-- Block b of w is a map of these entries. -/
def MapK {K : Type} (kv : K → Value) (ok : K → Prop) (w : World) (b : Nat) (l : List (K × Value)) : Prop :=
  ∃ es clock, w.heap[b]? = some (.map es clock) ∧ es.toList.map (fun e => (e.key, e.val)) = l.map (fun p => (kv p.1, p.2)) ∧ ∀ p ∈ l, ok p.1

section
variable {K : Type} {kv : K → Value} {ok : K → Prop}

theorem MapK.lt {w : World} {b : Nat} {l : List (K × Value)} (h : MapK kv ok w b l) : b < w.heap.size := by
  obtain ⟨es, clock, hb, _⟩ := h
  exact (Array.getElem?_eq_some_iff.1 hb).1

theorem MapK.fr {S : Nat → Prop} {w w' : World} {b : Nat} {l : List (K × Value)} (h : MapK kv ok w b l) (f : Fr S w w') (hb : ¬ S b) : MapK kv ok w' b l := by
  have hlt := h.lt
  obtain ⟨es, clock, h1, h2⟩ := h
  exact ⟨es, clock, (f.block b hlt hb).trans h1, h2⟩

theorem MapK.no_cells {w : World} {b : Nat} {l : List (K × Value)} (h : MapK kv ok w b l) {cs : Array Value} {t : TypeId} {fr : Nat × Nat} : w.heap[b]? ≠ some (.cells cs t fr) := by
  obtain ⟨es, clock, hb, _⟩ := h
  rw [hb]
  intro e
  cases e

theorem MapK.no_cell {w : World} {b : Nat} {l : List (K × Value)} (h : MapK kv ok w b l) (o : Nat) : w.cell? ⟨b, o, none⟩ = none := by
  obtain ⟨es, clock, hb, _⟩ := h
  simp [World.cell?, hb]

/-- Bytes do not lie in a map. -/
theorem Sees.keepMap {w w' : World} {v : Value} {s : List UInt8} {b : Nat} {l : List (K × Value)} (h : Sees w v s) (m : MapK kv ok w b l) (f : Fr (fun k => k = b) w w') : Sees w' v s := by
  rcases h with ⟨rfl, a, c, rfl⟩ | ⟨g, off, cap, rfl, hle, hc⟩
  · exact .inl ⟨rfl, _, _, rfl⟩
  · cases s with
    | nil => exact .inl ⟨rfl, _, _, rfl⟩
    | cons x s =>
      refine .inr ⟨g, off, cap, rfl, hle, fun j hj => ?_⟩
      have hne : g ≠ b := by
        rintro rfl
        have := hc 0 (by simp)
        rw [m.no_cell] at this
        cases this
      rw [← hc j hj]
      exact f.cell (World.block_lt_of_cell? w _ (hc j hj)) hne

theorem mapK_new (w : World) : MapK kv ok (w.alloc (.map #[] 0)) w.heap.size [] := ⟨#[], 0, heap_alloc_new w _, rfl, by simp⟩
end

section
variable {K : Type} {kv : K → Value} {ok : K → Prop}
variable {P : Program} {kt : TypeId} {w : World} {b : Nat} {l : List (K × Value)}

theorem MapK.find (F : KeyF P kt kv ok) (h : MapK kv ok w b l) {x : K} (hx : ok x) : ∃ es clock, w.heap[b]? = some (.map es clock) ∧ es.toList.map (fun e => (e.key, e.val)) = l.map (fun p => (kv p.1, p.2)) ∧
    (((Instr.findKey kt (kv x) es.toList).run P w = .ok none w ∧ x ∉ l.map Prod.fst) ∨ ∃ j v, (Instr.findKey kt (kv x) es.toList).run P w = .ok (some (j, v)) w ∧ l[j]? = some (x, v)) := by
  obtain ⟨es, clock, hb, he, hk⟩ := h
  refine ⟨es, clock, hb, he, ?_⟩
  obtain ⟨lx, hlx⟩ := F.key hx
  have hkeys : ∀ e ∈ es.toList, ∃ l, keyOf P kt e.key = some l := by
    intro e hm
    have h1 : (e.key, e.val) ∈ l.map (fun p => (kv p.1, p.2)) := by rw [← he]; exact List.mem_map.2 ⟨e, hm, rfl⟩
    obtain ⟨p, hp, e1⟩ := List.mem_map.1 h1
    simp at e1
    rw [← e1.1]
    exact F.key (hk p hp)
  rcases F.law.find w hlx es.toList hkeys with ⟨h1, h2⟩ | ⟨j, e, h1, h2, h3⟩
  · refine .inl ⟨h1, fun hm => ?_⟩
    obtain ⟨p, hp, e1⟩ := List.mem_map.1 hm
    have h4 : (kv p.1, p.2) ∈ es.toList.map (fun e => (e.key, e.val)) := by rw [he]; exact List.mem_map.2 ⟨p, hp, rfl⟩
    obtain ⟨e, hem, e2⟩ := List.mem_map.1 h4
    simp at e2
    exact h2 e hem (by rw [e2.1, e1])
  · refine .inr ⟨j, e.val, h1, ?_⟩
    have h4 : (l.map (fun p => (kv p.1, p.2)))[j]? = some (e.key, e.val) := by rw [← he, List.getElem?_map, h2]; rfl
    rw [List.getElem?_map] at h4
    obtain ⟨p, hp, e1⟩ := Option.map_eq_some_iff.1 h4
    simp at e1
    rw [hp]
    obtain ⟨p1, p2⟩ := p
    simp at e1
    rw [h3] at e1
    rw [F.inj e1.1, e1.2]

theorem KeyF.check (F : KeyF P kt kv ok) (w : World) (em : Bool) {x : K} (hx : ok x) : (Instr.checkKey em 10000 kt (kv x)).run P w = .ok () w := by
  obtain ⟨lx, hlx⟩ := F.key hx
  exact F.law.check w em hlx

/-- A nil map has nothing. -/
theorem look_nil (F : KeyF P kt kv ok) {x : K} (hx : ok x) {t e : TypeId} (ht : P.underlying t = some (.map kt e)) {z : Value} (hz : (zeroValue e).run P w = .ok z w) (c : Bool) :
    (Instr.lookup t (.map none) (kv x) c).run P w = .ok (if c then .tuple #[z, .bool false] else z) w := by
  obtain ⟨lx, hlx⟩ := F.key hx
  rcases F.law.find w hlx [] (by simp) with ⟨h1, _⟩ | ⟨j, e, _, h2, _⟩
  · simp [Instr.lookup, run_underlying ht, F.check w _ hx, h1, hz, Result.andThen]
  · simp at h2

/-- 'm[k] = v' at a key that is not there. -/
theorem MapK.put (F : KeyF P kt kv ok) (h : MapK kv ok w b l) {x : K} (hx : ok x) (hnew : x ∉ l.map Prod.fst) {t e : TypeId} (ht : P.underlying t = some (.map kt e)) (v : Value) :
    ∃ w', (Instr.mapUpdate t (.map (some b)) (kv x) v).run P w = .ok () w' ∧ MapK kv ok w' b (l ++ [(x, v)]) ∧ Fr (fun k => k = b) w w' ∧ w'.heap.size = w.heap.size := by
  have hk := h
  obtain ⟨es, clock, hb, he, ⟨h1, h2⟩ | ⟨j, v', h1, h2⟩⟩ := h.find F hx
  · refine ⟨setBlock w b (.map (es.push ⟨kv x, v, clock⟩) (clock + 1)), ?_, ⟨_, _, heap_setBlock_same hb _, ?_, ?_⟩, ⟨rfl, rfl, rfl, by simp [setBlock], fun i _ hi => heap_setBlock_other hb _ hi⟩, by simp [setBlock]⟩
    · simp [Instr.mapUpdate, run_underlying ht, MapKept.run_getObj_map hb, F.check w false hx, h1, MapKept.run_setObj_map _ hb, Result.andThen, setBlock]
    · simp [he]
    · obtain ⟨_, _, _, _, hok⟩ := hk
      intro p hp
      rcases List.mem_append.1 hp with hp | hp
      · exact hok p hp
      · simp at hp; subst hp; exact hx
  · exact absurd (List.mem_map.2 ⟨_, List.mem_of_getElem? h2, rfl⟩) hnew

/-- 'len(m)'. -/
theorem MapK.len (h : MapK kv ok w b l) {t e : TypeId} (ht : P.underlying t = some (.map kt e)) (ty : TypeId) : (Builtin.len_ #[t] ty #[.map (some b)]).run P w = .ok (.int .i64 l.length) w := by
  obtain ⟨es, clock, hb, he, _⟩ := h
  have hes : es.size = l.length := by have := congrArg List.length he; simpa using this
  simp [Builtin.len_, run_underlying ht, MapKept.run_getObj_map hb, goInt, Result.andThen, hes]
end

section
variable {K : Type} [DecidableEq K] {kv : K → Value} {ok : K → Prop}

/-- What is stored at a key. -/
def kget (l : List (K × Value)) (x : K) : Option Value := (l.find? (fun p => decide (p.1 = x))).map Prod.snd
def khas (l : List (K × Value)) (x : K) : Bool := decide (x ∈ l.map Prod.fst)

theorem kget_none {l : List (K × Value)} {x : K} (h : x ∉ l.map Prod.fst) : kget l x = none := by
  unfold kget
  rw [List.find?_eq_none.2 (fun p hp => by
    simp only [decide_eq_true_eq]
    intro e
    exact h (List.mem_map.2 ⟨p, hp, e⟩))]
  rfl
theorem kget_some {x : K} {v : Value} : ∀ {l : List (K × Value)}, (l.map Prod.fst).Nodup → (x, v) ∈ l → kget l x = some v
  | [], _, h => by simp at h
  | p :: l, hn, h => by
    unfold kget
    rw [List.map_cons, List.nodup_cons] at hn
    rcases List.mem_cons.1 h with rfl | h
    · simp
    · have hne : p.1 ≠ x := fun e => hn.1 (e ▸ List.mem_map.2 ⟨(x, v), h, rfl⟩)
      rw [List.find?_cons_of_neg (by simpa using hne)]
      exact kget_some hn.2 h

variable {P : Program} {kt : TypeId} {w : World} {b : Nat} {l : List (K × Value)}

/-- 'm[k]', and 'v, ok := m[k]'. -/
theorem MapK.look (F : KeyF P kt kv ok) (h : MapK kv ok w b l) (hn : (l.map Prod.fst).Nodup) {x : K} (hx : ok x) {t e : TypeId} (ht : P.underlying t = some (.map kt e)) {z : Value} (hz : (zeroValue e).run P w = .ok z w) (c : Bool) :
    (Instr.lookup t (.map (some b)) (kv x) c).run P w = .ok (if c then .tuple #[(kget l x).getD z, .bool (khas l x)] else (kget l x).getD z) w := by
  obtain ⟨es, clock, hb, he, ⟨h1, h2⟩ | ⟨j, v, h1, h2⟩⟩ := h.find F hx
  · rw [kget_none h2, show khas l x = false by simpa [khas] using h2]
    simp [Instr.lookup, run_underlying ht, MapKept.run_getObj_map hb, F.check w _ hx, h1, hz, Result.andThen]
  · have hm := List.mem_of_getElem? h2
    rw [kget_some hn hm, show khas l x = true by simpa [khas] using ⟨_, hm⟩]
    simp [Instr.lookup, run_underlying ht, MapKept.run_getObj_map hb, F.check w _ hx, h1, Result.andThen]

end
end
section
open Go.RowKit Go.MapKept
open Go.WideMaps (KeyLaw)
open Go.ChangeShapes Go.WideShapes
set_option maxRecDepth 100000

abbrev IdN := Int × Int
def kv (x : IdN) : Value := .agg #[.int .i64 x.1, .int .u32 x.2]
def IdOk (x : IdN) : Prop := (0 ≤ x.1 ∧ x.1 ≤ 15) ∧ (0 ≤ x.2 ∧ x.2 ≤ 4294967295)
def iv (n : Int) : Value := .int .i64 n
def NuOk (n : Int) : Prop := 0 ≤ n ∧ n ≤ 1000

theorem wf_i64 {n : Int} (h0 : 0 ≤ n) (h1 : n ≤ 1000) : (Lit.int .i64 n).wf = true := by
  have e1 : IntKind.i64.min = -9223372036854775808 := by decide
  have e2 : IntKind.i64.max = 9223372036854775807 := by decide
  simp only [Lit.wf, e1, e2, Bool.and_eq_true, decide_eq_true_eq]
  omega
theorem wf_u32 {n : Int} (h0 : 0 ≤ n) (h1 : n ≤ 4294967295) : (Lit.int .u32 n).wf = true := by
  have e1 : IntKind.u32.min = 0 := by decide
  have e2 : IntKind.u32.max = 4294967295 := by decide
  simp only [Lit.wf, e1, e2, Bool.and_eq_true, decide_eq_true_eq]
  omega

theorem Try.laidOut : laidOutB Try.prog = true := by kernel_rfl
theorem Try.rowId : (77 : TypeId) < Try.prog.types.size := of_decide_eq_true (by kernel_rfl)
theorem Try.cellsId : Try.prog.cellsOf 77 = 2 := by kernel_rfl
theorem Try.cellsI : Try.prog.cellsOf 3 = 1 := by kernel_rfl
theorem Try.cellsU32 : Try.prog.cellsOf 22 = 1 := by kernel_rfl
theorem Try.keyId : Try.prog.keyType 77 = true := by kernel_rfl
theorem Try.wideId : (match Try.prog.underlying 77 with | some (.array _ _) | some (.struct _) => true | _ => false) = true := by rw [Try.underlying77]
theorem Try.lawId : KeyLaw Try.prog 77 := deep_law_laid Try.laidOut (m := 2) (by omega) Try.rowId (by kernel_rfl) Try.wideId

theorem key_kv {x : IdN} (h : IdOk x) : ∃ l, keyOf Try.prog 77 (kv x) = some l := by
  obtain ⟨⟨h0, h1⟩, h2, h3⟩ := h
  have e1 := wf_i64 h0 (by omega)
  have e2 := wf_u32 h2 h3
  unfold keyOf
  rw [Try.underlying77, Try.keyId]
  have hf : (kv x).formed Try.prog 77 = true := by simp [kv, Value.formed, Try.underlying77, Try.cellsId]
  rw [hf]
  have hs : ∃ n, Try.prog.types.size + 1 = n + 2 := ⟨_, rfl⟩
  obtain ⟨n, hn⟩ := hs
  rw [hn]
  simp [Program.keyLits, kv, Value.cells, Try.underlying77, Try.cellsId, Try.cellsI, Try.cellsU32, Try.underlying3, Try.underlying22, e1, e2]

theorem idF : KeyF Try.prog 77 kv IdOk where
  inj := fun {x y} h => by
    unfold kv at h
    simp at h
    exact Prod.ext h.1 h.2
  key := key_kv
  law := Go.Maps.Keyed.of_law Try.lawId

theorem nuF : KeyF Try.prog 3 iv NuOk where
  inj := fun {x y} h => by
    unfold iv at h
    simpa using h
  key := fun {x} h => ⟨_, Go.Maps.keyOf_int_mk Try.underlying3 (wf_i64 h.1 h.2)⟩
  law := Go.Maps.int_keyed Try.underlying3

theorem zeroUnit : ∀ w, (zeroValue 96).run Try.prog w = .ok (.agg #[]) w := fun w => by kernel_rfl
theorem zeroBs : ∀ w, (zeroValue 23).run Try.prog w = .ok nilS w := fun w => by kernel_rfl

/-- A message that is not whole yet: its number, how many parts, and those that are there (number, slice, bytes). -/
structure MsgN where
  f : Int
  k : Int
  m : Int
  ps : List (Int × Value × List UInt8)
def MsgN.keys (x : MsgN) : List Int := x.ps.map Prod.fst
def MsgN.ents (x : MsgN) : List (Int × Value) := x.ps.map fun e => (e.1, e.2.1)
theorem MsgN.ents_keys (x : MsgN) : x.ents.map Prod.fst = x.keys := by simp [MsgN.ents, MsgN.keys]

abbrev oMsg (f k m : Int) (p : Nat) : Obj := Obj.cells #[.int .i64 f, .int .u32 k, .int .i64 m, .map (some p)] 85 (0, 0)
abbrev oTab (ov dv : Value) : Obj := Obj.cells #[ov, dv] 52 (0, 0)
abbrev ptr (g : Nat) : Value := .pointer (some ⟨g, 0, none⟩)

/-- The message x lies in block g, its parts in the map p; its bytes aren't in the row ov. -/
structure MsgAt (w : World) (B g p : Nat) (ov : Value) (x : MsgN) : Prop where
  here : w.heap[g]? = some (oMsg x.f x.k x.m p)
  map : MapK iv NuOk w p x.ents
  nodup : x.keys.Nodup
  sees : ∀ e ∈ x.ps, Sees w e.2.1 e.2.2
  off : ∀ e ∈ x.ps, ∀ k, e.2.1.ownBlock = some k → B ≤ k ∧ ov.ownBlock ≠ some k
  b0 : B ≤ g
  b1 : B ≤ p
  id : IdOk (x.f, x.k)
  many : 1 ≤ x.m ∧ x.m ≤ 100

structure TabN where
  o : Option MsgN
  d : List IdN

/-- The row of the messages that aren't whole. -/
def RowAt (w : World) (B : Nat) (ov : Value) : Option (MsgN × Nat × Nat) → Prop
  | none => w.ownsRow B 79 1 ov 0 []
  | some (x, g, p) => w.ownsRow B 79 1 ov 1 [ptr g] ∧ MsgAt w B g p ov x

/-- The map of those that were whole. -/
def DoneAt (w : World) (B : Nat) (dv : Value) (d : List IdN) : Prop :=
  (d = [] ∧ dv = .map none) ∨ ∃ n, dv = .map (some n) ∧ B ≤ n ∧ MapK kv IdOk w n (d.map fun x => (x, Value.agg #[])) ∧ d.Nodup

structure TabAt (w : World) (b B : Nat) (ov dv : Value) (o : Option (MsgN × Nat × Nat)) (d : List IdN) : Prop where
  here : w.heap[b]? = some (oTab ov dv)
  row : RowAt w B ov o
  done : DoneAt w B dv d
  ap : ∀ y g p, o = some (y, g, p) → dv ≠ .map (some p)
  bB : b < B
  Bw : B ≤ w.heap.size

theorem MsgAt.fr {S : Nat → Prop} {w w' : World} {B g p : Nat} {ov : Value} {x : MsgN} (h : MsgAt w B g p ov x) (f : Fr S w w') (hg : ¬ S g) (hp : ¬ S p) (he : ∀ e ∈ x.ps, ∀ k, e.2.1.ownBlock = some k → ¬ S k) : MsgAt w' B g p ov x :=
  ⟨crow_kept h.here f hg, h.map.fr f hp, h.nodup, fun e hm => (h.sees e hm).fr f (he e hm), h.off, h.b0, h.b1, h.id, h.many⟩

theorem row_kept {S : Nat → Prop} {w w' : World} {B : Nat} {e : TypeId} {n : Nat} {ov : Value} {xs : List Value} (h : w.ownsRow B e 1 ov n xs) (f : Fr S w w') (ho : ∀ k, ov.ownBlock = some k → ¬ S k) : w'.ownsRow B e 1 ov n xs := by
  refine ⟨h.1, ?_⟩
  rcases h.2 with hn | ⟨g, cap, cur, rfl, hb, hgg, rest⟩
  · exact .inl hn
  · refine .inr ⟨g, cap, cur, rfl, hb, ?_, rest⟩
    rw [f.block g (Array.getElem?_eq_some_iff.1 hgg).1 (ho g rfl)]
    exact hgg

theorem row_lt {w : World} {B : Nat} {e : TypeId} {n : Nat} {ov : Value} {xs : List Value} (h : w.ownsRow B e 1 ov n xs) : ∀ k, ov.ownBlock = some k → B ≤ k ∧ k < w.heap.size := fun k hk => World.ownsRow.lt h k hk

theorem RowAt.fr0 {w w' : World} {B : Nat} {ov : Value} {o : Option (MsgN × Nat × Nat)} (h : RowAt w B ov o) (f : Fr (fun _ => False) w w') : RowAt w' B ov o := by
  match o, h with
  | none, h => exact row_kept h f (fun _ _ h => h)
  | some (x, g, p), ⟨h1, h2⟩ => exact ⟨row_kept h1 f (fun _ _ h => h), h2.fr f (fun h => h) (fun h => h) (fun _ _ _ _ h => h)⟩

theorem DoneAt.fr {S : Nat → Prop} {w w' : World} {B : Nat} {dv : Value} {d : List IdN} (h : DoneAt w B dv d) (f : Fr S w w') (hd : ∀ n, dv = .map (some n) → ¬ S n) : DoneAt w' B dv d := by
  rcases h with h | ⟨n, e, h1, h2, h3⟩
  · exact .inl h
  · exact .inr ⟨n, e, h1, h2.fr f (hd n e), h3⟩

theorem TabAt.fr0 {w w' : World} {b B : Nat} {ov dv : Value} {o : Option (MsgN × Nat × Nat)} {d : List IdN} (h : TabAt w b B ov dv o d) (f : Fr (fun _ => False) w w') : TabAt w' b B ov dv o d :=
  ⟨crow_kept h.here f (fun h => h), h.row.fr0 f, h.done.fr f (fun _ _ h => h), h.ap, h.bB, Nat.le_trans h.Bw f.size⟩

theorem DoneAt.old {w : World} {B : Nat} {dv : Value} {d : List IdN} (h : DoneAt w B dv d) : ∀ n, dv = .map (some n) → B ≤ n ∧ n < w.heap.size := fun n hn => by
  rcases h with ⟨_, e⟩ | ⟨n', e, hn', hm, _⟩
  · rw [e] at hn; cases hn
  · rw [e] at hn
    cases hn
    exact ⟨hn', hm.lt⟩

theorem tab_cells {w : World} {b : Nat} {ov dv : Value} (h : w.heap[b]? = some (oTab ov dv)) :
    w.cell? ⟨b, 0, none⟩ = some ov ∧ w.cell? ⟨b, 1, none⟩ = some dv ∧ w.frozen? ⟨b, 0, none⟩ = false ∧ w.frozen? ⟨b, 1, none⟩ = false := by
  simp [World.cell?, World.frozen?, h]
theorem msg_cells {w : World} {g p : Nat} {f k m : Int} (h : w.heap[g]? = some (oMsg f k m p)) :
    w.cell? ⟨g, 0, none⟩ = some (.int .i64 f) ∧ w.cell? ⟨g, 1, none⟩ = some (.int .u32 k) ∧ w.cell? ⟨g, 2, none⟩ = some (.int .i64 m) ∧ w.cell? ⟨g, 3, none⟩ = some (.map (some p)) := by
  simp [World.cell?, h]

/-- A message's row isn't the block of the message, nor that of the table. -/
theorem row_ne {w : World} {B g : Nat} {n : Nat} {ov : Value} {xs : List Value} {cs : Array Value} {t : TypeId} (h : w.ownsRow B 79 1 ov n xs) (hg : w.heap[g]? = some (.cells cs t (0, 0))) (ht : t ≠ 79) : ov.ownBlock ≠ some g := by
  rcases h.2 with ⟨rfl, _⟩ | ⟨g', cap, cur, rfl, hb, hgg, rest⟩
  · intro e; cases e
  · intro e
    simp [Value.ownBlock] at e
    subst e
    rw [hg] at hgg
    simp at hgg
    exact ht hgg.2
theorem row_nm {K : Type} {kv : K → Value} {ok : K → Prop} {w : World} {B b : Nat} {n : Nat} {ov : Value} {xs : List Value} {l : List (K × Value)} (h : w.ownsRow B 79 1 ov n xs) (hm : MapK kv ok w b l) : ov.ownBlock ≠ some b := by
  rcases h.2 with ⟨rfl, _⟩ | ⟨g', cap, cur, rfl, hb, hgg, rest⟩
  · intro e; cases e
  · intro e
    simp [Value.ownBlock] at e
    subst e
    exact hm.no_cells hgg
end
section
open Go.RowKit Go.MapKept
set_option maxRecDepth 100000

theorem pid_any (f k p m : Int) (v : Value) (w : World) :
    Calls Try.prog 35 #[pv f k p m v] w fun e w' => e = .returned (kv (f, k)) ∧ Fr (fun _ => False) w w' := by
  have q1 := new_two w (oPv f k p m v) (Obj.cells #[.int .i64 0, .int .u32 0] 77 (0, 0))
  have f1 : Fr (fun _ => False) w ((w.alloc (oPv f k p m v)).alloc (Obj.cells #[.int .i64 0, .int .u32 0] 77 (0, 0))) := ((Fr.refl _ _).alloc _).alloc _
  have q0 : ((w.alloc (oPv f k p m v)).alloc (Obj.cells #[.int .i64 0, .int .u32 0] 77 (0, 0))).heap[w.heap.size]? = some (oPv f k p m v) := by
    rw [Below.heap_alloc _ _ _ (by simp)]; exact heap_alloc_new w _
  go_enter Try.func35, Try.ntmps35
  go_upto_region 1 with fail
  generalize (w.alloc (oPv f k p m v)).alloc (Obj.cells #[.int .i64 0, .int .u32 0] 77 (0, 0)) = w1 at *
  obtain ⟨g1, hg1⟩ : ∃ g, g = w.heap.size + 1 := ⟨_, rfl⟩
  rw [← hg1] at q1 ⊢
  obtain ⟨g0, hg0⟩ : ∃ g, g = w.heap.size := ⟨_, rfl⟩
  rw [← hg0] at q0 ⊢
  have F := Lib.hid f1
  have HG : Hid (w.heap.size ≤ g1) := Lib.hid (by omega)
  obtain ⟨c0, c1, c2, c3, c4⟩ := par_cells q0
  obtain ⟨d0, d1, d2, d3⟩ := cell_of_two q1
  have Q := Lib.hid q1
  clear q0 q1 f1 hg1 hg0
  go_wp2_with fail
  have hq : ((w1.setCell ⟨g1, 0, none⟩ (.int .i64 f)).setCell ⟨g1, 1, none⟩ (.int .u32 k)).heap[g1]? = some (Obj.cells #[.int .i64 f, .int .u32 k] 77 (0, 0)) := two_setCell1 (two_setCell0 Q.out _) _
  have hf : Fr (fun _ => False) w ((w1.setCell ⟨g1, 0, none⟩ (.int .i64 f)).setCell ⟨g1, 1, none⟩ (.int .u32 k)) := (F.out.setCell (p := ⟨g1, 0, none⟩) (fun h => absurd h (by have := HG.out; show ¬ g1 < _; omega)) _).setCell (p := ⟨g1, 1, none⟩) (fun h => absurd h (by have := HG.out; show ¬ g1 < _; omega)) _
  refine bodyPost_ret (results_cell_row rfl _ _ g1 77 _ _ _ rfl hq Try.underlying77 rfl (by kernel_rfl)) rfl ?_
  exact ⟨rfl, hf⟩

section
variable {b B : Nat} {ov dv : Value} {o : Option (MsgN × Nat × Nat)} {d : List IdN}

theorem kget_unit (d : List IdN) (x : IdN) : (kget (d.map fun x => (x, Value.agg #[])) x).getD (.agg #[]) = .agg #[] := by
  unfold kget
  induction d with
  | nil => rfl
  | cons p ps ih =>
    rw [List.map_cons, List.find?_cons]
    split
    · rfl
    · exact ih

theorem DoneAt.look {w : World} (h : DoneAt w B dv d) {x : IdN} (hx : IdOk x) :
    (Instr.lookup 50 dv (kv x) true).run Try.prog w = .ok (.tuple #[.agg #[], .bool (decide (x ∈ d))]) w := by
  rcases h with ⟨rfl, rfl⟩ | ⟨n, rfl, _, hm, hn⟩
  · have := look_nil (w := w) idF hx Try.underlying50 (zeroUnit w) true
    simpa using this
  · have hk : ((d.map fun x => (x, Value.agg #[])).map Prod.fst) = d := by rw [List.map_map]; exact List.map_id d
    have := hm.look idF (by rw [hk]; exact hn) hx Try.underlying50 (zeroUnit w) true
    rw [kget_unit] at this
    simpa [khas, hk] using this

theorem was_any (w : World) (h : TabAt w b B ov dv o d) (x : IdN) (hx : IdOk x) :
    Calls Try.prog 34 #[ptr b, kv x] w fun e w' => e = .returned (.bool (decide (x ∈ d))) ∧ Fr (fun _ => False) w w' := by
  have l1 := fun W (f : Fr (fun _ => False) w W) => (h.done.fr f (fun _ _ h => h)).look hx
  have l2 := l1 (w.alloc (Obj.cells #[.int .i64 x.1, .int .u32 x.2] 77 (0, 0))).drew ((Fr.refl _ _).alloc _).drew
  have l3 := fun oo => l1 ((w.alloc (Obj.cells #[.int .i64 x.1, .int .u32 x.2] 77 (0, 0))).alloc oo).drew (((Fr.refl _ _).alloc _).alloc _).drew
  obtain ⟨c0, c1, c2, c3⟩ := tab_cells h.here
  have hb := vt_lt h.here
  have hb' : b ≠ w.heap.size := by omega
  obtain ⟨R, hR⟩ : ∃ R, R = decide (x ∈ d) := ⟨_, rfl⟩
  rw [← hR] at l2 ⊢
  simp only [← hR] at l3
  clear hR h l1
  unfold kv at *
  go_enter Try.func34, Try.ntmps34
  go_wp2_with fail
  go_region
  all_goals
    go_wp2_with fail
    go_ret
    exact ⟨rfl, (((Fr.refl _ _).alloc _).alloc _).drew⟩

theorem tlen_any (w : World) (h : TabAt w b B ov dv o d) :
    Calls Try.prog 18 #[ptr b] w fun e w' => e = .returned (.int .i64 (if o.isSome then 1 else 0)) ∧ w = w' := by
  obtain ⟨c0, c1, c2, c3⟩ := tab_cells h.here
  have hr := h.row
  match o, hr with
  | none, hr =>
    obtain ⟨a, c, rfl⟩ := slice_of_own hr
    clear h hr
    go_enter Try.func18, Try.ntmps18
    go_wp2_with fail
    go_ret
    exact ⟨rfl, rfl⟩
  | some (x, g, p), ⟨hr, _⟩ =>
    obtain ⟨a, c, rfl⟩ := slice_of_own hr
    clear h hr
    go_enter Try.func18, Try.ntmps18
    go_wp2_with fail
    go_ret
    exact ⟨rfl, rfl⟩

theorem tlen_nil (w : World) : Calls Try.prog 18 #[.pointer none] w fun e w' => e = .returned (.int .i64 0) ∧ w = w' := by
  go_enter Try.func18, Try.ntmps18
  go_wp2_with fail
  go_ret
  exact ⟨rfl, rfl⟩
end
end
section
open Go.RowKit Go.MapKept
set_option maxRecDepth 100000

theorem row_cell {w : World} {B : Nat} {e : TypeId} {ov : Value} {x : Value} (h : w.ownsRow B e 1 ov 1 [x]) : ∃ g c, ov = .slice (some ⟨g, 0, none⟩) 1 c ∧ 1 ≤ c ∧ w.cell? ⟨g, 0, none⟩ = some x ∧ w.frozen? ⟨g, 0, none⟩ = false := by
  have hc := h
  rcases h.2 with ⟨_, h0⟩ | ⟨g, cap, cur, rfl, _, hg, hn, _, hs, ht⟩
  · cases h0
  · refine ⟨g, cap, rfl, hn, ?_, ?_⟩
    · have := hc.cells (g := g) rfl 0 x rfl
      simpa [Addr.add] using this
    · simp [World.frozen?, hg]

def idB (f k f' k' : Int) : Bool := f == f' && k == k'
theorem id_equal (d : Nat) (f k f' k' : Int) (w : World) : (Op.equalIn (d + 2) 77 (kv (f, k)) (kv (f', k'))).run Try.prog w = .ok (idB f k f' k') w := by
  unfold kv
  rw [Op.equalIn]
  simp only [Sem.run_bind, run_underlying Try.underlying77, Result.andThen_ok]
  have pe : ∀ a b : Int, (Op.equalIn (d + 1) 3 (.int .i64 a) (.int .i64 b)).run Try.prog w = .ok (a == b) w := fun a b => run_equalIn_int w d _ .i64 .i64 _ _ Try.underlying3
  have pf : ∀ a b : Int, (Op.equalIn (d + 1) 22 (.int .u32 a) (.int .u32 b)).run Try.prog w = .ok (a == b) w := fun a b => run_equalIn_int w d _ .u32 .u32 _ _ Try.underlying22
  simp [part, isAgg, run_underlying Try.underlying3, run_underlying Try.underlying22, pe, pf, Sem.run_bind, Result.andThen_ok, List.forIn_cons, idB]
  by_cases h : f = f' <;> by_cases h' : k = k' <;> simp [h, h']

theorem Try.infoPtr : (Try.prog.info? 79).map (fun i => (i.zero, i.size, i.bytes)) = some (some (.pointer none), 1, 8) := by kernel_rfl

section
variable {b B : Nat} {ov dv : Value} {d : List IdN}

theorem find_none (w : World) (h : TabAt w b B ov dv none d) (x : IdN) :
    Calls Try.prog 36 #[ptr b, kv x] w fun e w' => e = .returned (.pointer none) ∧ Fr (fun _ => False) w w' := by
  obtain ⟨c0, c1, c2, c3⟩ := tab_cells h.here
  have hb := vt_lt h.here
  have hb' : b ≠ w.heap.size := by omega
  obtain ⟨a, c, rfl⟩ := slice_of_own h.row
  clear h
  unfold kv
  go_enter Try.func36, Try.ntmps36
  go_wp2_with fail
  refine wp_loop_rounds 1 ?_
  rw [rounds_succ]
  go_wp2
  go_ret
  exact ⟨rfl, (Fr.refl _ _).alloc _⟩

theorem find_some (w : World) {y : MsgN} {g p : Nat} (h : TabAt w b B ov dv (some (y, g, p)) d) :
    Calls Try.prog 36 #[ptr b, kv (y.f, y.k)] w fun e w' => e = .returned (ptr g) ∧ Fr (fun _ => False) w w' := by
  have hq := crow_kept h.here ((Fr.refl (fun _ => False) w).alloc (Obj.cells #[.int .i64 y.f, .int .u32 y.k] 77 (0, 0))) (fun h => h)
  have hr := row_kept h.row.1 ((Fr.refl (fun _ => False) w).alloc (Obj.cells #[.int .i64 y.f, .int .u32 y.k] 77 (0, 0))) (fun _ _ h => h)
  have hm := crow_kept h.row.2.here ((Fr.refl (fun _ => False) w).alloc (Obj.cells #[.int .i64 y.f, .int .u32 y.k] 77 (0, 0))) (fun h => h)
  have hi := heap_alloc_new w (Obj.cells #[.int .i64 y.f, .int .u32 y.k] 77 (0, 0))
  have f1 : Fr (fun _ => False) w (w.alloc (Obj.cells #[.int .i64 y.f, .int .u32 y.k] 77 (0, 0))) := (Fr.refl _ _).alloc _
  clear h
  generalize y.f = f at *
  generalize y.k = k at *
  unfold kv
  go_enter Try.func36, Try.ntmps36
  go_upto_region 1 with fail
  generalize w.alloc (Obj.cells #[.int .i64 f, .int .u32 k] 77 (0, 0)) = w1 at *
  generalize w.heap.size = gi at *
  have F := Lib.hid f1
  obtain ⟨c0, c1, c2, c3⟩ := tab_cells hq
  obtain ⟨go, co, rfl, hco, cr, _⟩ := row_cell hr
  obtain ⟨m0, m1, m2, m3⟩ := msg_cells hm
  obtain ⟨i0, i1, _, _⟩ := cell_of_two hi
  have heq : ∀ W, (Op.equalIn 10000 77 (.agg #[.int .i64 f, .int .u32 k]) (.agg #[.int .i64 f, .int .u32 k])).run Try.prog W = .ok true W := fun W => by
    have := id_equal 9998 f k f k W
    rw [show idB f k f k = true by simp [idB]] at this
    exact this
  clear hq hr hm hi f1
  go_upto_region 2 with fail
  refine wp_loop_rounds 1 ?_
  rw [rounds_succ]
  go_wp2_with fail
  go_region
  all_goals
    go_wp2_with fail
    go_ret
    exact ⟨rfl, F.out.drew⟩

/-- A new message: what each operation gives. -/
def StV (w0 : World) (f k pp m : Int) (v : Value) (g3 : Nat) : List (Value → World → Prop) :=
  [fun u _ => u = pv f k pp m v, fun u _ => u = kv (f, k), fun u _ => u = .pointer (some ⟨g3, 3, none⟩), fun u _ => u = .int .i64 m,
   fun u wx => ∃ p, u = .map (some p) ∧ w0.heap.size ≤ p ∧ wx.heap[p]? = some (.map #[] 0),
   fun u wx => ∃ p, u = .agg #[.int .i64 f, .int .u32 k, .int .i64 m, .map (some p)] ∧ w0.heap.size ≤ p ∧ wx.heap[p]? = some (.map #[] 0),
   fun u wx => ∃ g p, u = ptr g ∧ w0.heap.size ≤ g ∧ w0.heap.size ≤ p ∧ wx.heap[g]? = some (oMsg f k m p) ∧ wx.heap[p]? = some (.map #[] 0),
   fun u wx => ∃ g p, u = ptr g ∧ w0.heap.size ≤ g ∧ w0.heap.size ≤ p ∧ wx.heap[g]? = some (oMsg f k m p) ∧ wx.heap[p]? = some (.map #[] 0)]

theorem StV_fr {w0 : World} {f k pp m : Int} {v : Value} {g3 : Nat} : ∀ (i : Nat) (u : Value) (wx wa : World), Fr (fun _ => False) wx wa → (StV w0 f k pp m v g3).getD i (fun _ _ => True) u wx → (StV w0 f k pp m v g3).getD i (fun _ _ => True) u wa := by
  intro i u wx wa fr
  match i with
  | 0 => exact id
  | 1 => exact id
  | 2 => exact id
  | 3 => exact id
  | 4 => rintro ⟨p, e, h1, h2⟩; exact ⟨p, e, h1, crow_kept h2 fr (fun h => h)⟩
  | 5 => rintro ⟨p, e, h1, h2⟩; exact ⟨p, e, h1, crow_kept h2 fr (fun h => h)⟩
  | 6 => rintro ⟨g, p, e, h1, h2, h3, h4⟩; exact ⟨g, p, e, h1, h2, crow_kept h3 fr (fun h => h), crow_kept h4 fr (fun h => h)⟩
  | 7 => rintro ⟨g, p, e, h1, h2, h3, h4⟩; exact ⟨g, p, e, h1, h2, crow_kept h3 fr (fun h => h), crow_kept h4 fr (fun h => h)⟩
  | n + 8 => exact fun _ => trivial

/-- A table's message is new. -/
structure Started (w w' : World) (b B : Nat) (ov dv ov' : Value) (y : MsgN) (g p : Nat) (d : List IdN) : Prop where
  tab : TabAt w' b B ov' dv (some (y, g, p)) d
  fr : Fr (fun k => k = b ∨ ov.ownBlock = some k) w w'

theorem start_any (w : World) (h : TabAt w b B ov dv none d) (x : Pc) (a : Option Addr) (c : Nat) (hx : IdOk (x.f, x.k)) (hm : 1 ≤ x.m ∧ x.m ≤ 100) :
    Calls Try.prog 37 #[ptr b, x.val (.slice a x.l.length c)] w fun e w' => ∃ g p ov', e = .returned (ptr g) ∧ Started w w' b B ov dv ov' ⟨x.f, x.k, x.m, []⟩ g p d := by
  obtain ⟨f, k, pp, m, l⟩ := x
  dsimp only at *
  have q0 := heap_alloc_new w (oPv f k pp m (.slice a l.length c))
  have f0 : Fr (fun _ => False) w (w.alloc (oPv f k pp m (.slice a l.length c))) := (Fr.refl _ _).alloc _
  have HX := Lib.hid hx
  have HM := Lib.hid hm
  have T0 := Lib.hid (h.fr0 f0)
  clear hx hm
  go_enter Try.func37, Try.ntmps37
  go_upto_region 1 with fail
  generalize w.alloc (oPv f k pp m (.slice a l.length c)) = w0 at *
  generalize w.heap.size = g3 at *
  have F0 := Lib.hid f0
  have Q0 := Lib.hid q0
  have hlt := vt_lt q0
  have hne : g3 ≠ w0.heap.size := by omega
  obtain ⟨c0, c1, c2, c3, c4⟩ := par_cells q0
  clear q0 f0 h
  go_cut [5] from 6 to 12 (fun z wx => ∃ g p, z = ptr g ∧ wx.heap[g]? = some (oMsg f k m p) ∧ wx.heap[p]? = some (.map #[] 0) ∧ w0.heap.size ≤ g ∧ w0.heap.size ≤ p ∧ Fr (fun _ => False) w0 wx)
  case first =>
    refine wp_region_told (by kernel_rfl) (fun a b => Fr (fun _ => False) a b) (fun w => Fr.refl _ w) (fun _ _ _ h k => h.trans k (fun _ _ h => h)) [6, 7, 8, 9, 10, 11, 12, 5] rfl (by decide) (by intro d hd; simp at hd ⊢; omega)
      (fun i v wx => (StV w0 f k pp m (.slice a l.length c) g3).getD i (fun _ _ => True) v wx)
      (fun i v wx wa fr h => StV_fr i v wx wa fr h) (by kernel_rfl) ?step ?fin
    case step =>
      intro vals
      simp only [frOf, fill, List.setIfInBounds_toArray, List.set_cons_succ, List.set_cons_zero]
      repeat' (first | exact AllOps.nil | refine AllOps.cons ?_ ?_)
      all_goals
        intro wx hle he K' hK
        simp only [Act.put, StV, List.setIfInBounds_toArray, List.set_cons_succ, List.set_cons_zero, List.getD_cons_zero, List.getD_cons_succ] at hK
        simp only [List.mem_cons, List.not_mem_nil, or_false, forall_eq_or_imp, forall_eq, Region.binds, forall_const, false_imp_iff, StV, List.getD_cons_zero, List.getD_cons_succ] at he
        have hl5 := Fr.trans (Fr.drew (Fr.refl (fun _ => False) w0)) hle (fun _ _ h => h)
        obtain ⟨c0, c1, c2, c3, c4⟩ := par_cells (crow_kept Q0.out hl5 (fun h => h))
        have hl8 := Lib.hid hl5
        clear hl5 hle
      · clear he
        go_simp
        exact hK _ _ (Fr.refl _ _) rfl
      · simp only [he] at hK ⊢
        clear he
        go_simp
        go_at_call 35
        refine (pid_any f k pp m (.slice a l.length c) _).mono ?_
        rintro er wa ⟨rfl, fa⟩
        exact hK _ _ fa rfl
      · clear he
        go_simp
        exact hK _ _ (Fr.refl _ _) rfl
      · simp only [he] at hK ⊢
        clear he
        go_simp
        exact hK _ _ (Fr.refl _ _) rfl
      · clear he
        have hmm := run_makeMap (P := Try.prog) 83 wx
        go_simp
        exact hK _ _ ((Fr.refl _ _).alloc _) ⟨_, rfl, hl8.out.size, heap_alloc_new wx _⟩
      · obtain ⟨h1, h3, p, h4, h5, h6⟩ := he
        unfold kv at h1
        simp only [h1, h3, h4] at hK ⊢
        clear h1 h3 h4
        go_simp
        exact hK _ _ (Fr.refl _ _) ⟨_, rfl, h5, h6⟩
      · obtain ⟨p, h4, h5, h6⟩ := he
        simp only [h4] at hK ⊢
        clear h4
        go_simp
        have fa : Fr (fun _ => False) wx (wx.alloc (oMsg f k m p)) := (Fr.refl _ _).alloc _
        exact hK _ _ fa ⟨_, p, rfl, hl8.out.size, h5, heap_alloc_new wx _, crow_kept h6 fa (fun h => h)⟩
      · obtain ⟨⟨g, p, h4, h5⟩, -⟩ := he
        simp only [h4] at hK ⊢
        clear h4
        go_simp
        exact hK _ _ (Fr.refl _ _) ⟨g, p, rfl, h5⟩
    case fin =>
      intro vals w' hle hV
      obtain ⟨g, p, h7, h8, h9, h10, h11⟩ : ∃ g p, vals 7 = ptr g ∧ w0.heap.size ≤ g ∧ w0.heap.size ≤ p ∧ w'.heap[g]? = some (oMsg f k m p) ∧ w'.heap[p]? = some (.map #[] 0) := hV 7 (by decide)
      clear hV
      have hfr := Fr.trans (Fr.drew (Fr.refl (fun _ => False) w0)) hle (fun _ _ h => h)
      simp only [frOf, fill, List.setIfInBounds_toArray, List.set_cons_succ, List.set_cons_zero, Nat.reduceAdd]
      simp only [h7]
      clear h7 hle
      have HR := Lib.hid (And.intro h8 (And.intro h9 (And.intro h10 (And.intro h11 hfr))))
      clear h8 h9 h10 h11 hfr
      go_wp2_with fail
      go_meet
      exact ⟨g, p, rfl, HR.out.2.2.1, HR.out.2.2.2.1, HR.out.1, HR.out.2.1, HR.out.2.2.2.2⟩
  case rest =>
    obtain ⟨g, p, rfl, hg, hp, hg0, hp0, fw⟩ := hcut
    have T1 := Lib.hid (T0.out.fr0 fw)
    have F1 := Lib.hid (F0.out.trans fw (fun _ _ h => h))
    have G1 := Lib.hid (And.intro hg hp)
    have N1 : Hid (B ≤ g ∧ B ≤ p ∧ ov.ownBlock ≠ some g ∧ ov.ownBlock ≠ some p ∧ g ≠ p ∧ w0.heap.size ≤ p) := Lib.hid (by
      have h1 := T0.out.Bw
      have h2 := fun k hk => (row_lt T0.out.row k hk).2
      refine ⟨by omega, by omega, fun e => ?_, fun e => ?_, ?_, hp0⟩
      · have := h2 _ e; omega
      · have := h2 _ e; omega
      · rintro rfl
        rw [hg] at hp
        simp at hp)
    clear hg hp hg0 hp0 fw c0 c1 c2 c3 c4 hlt hne
    obtain ⟨i0, hi, hz0, hz1, hz2⟩ := info_parts Try.infoPtr
    obtain ⟨a0, c0, hov⟩ := slice_of_own T1.out.row
    have HOV := Lib.hid hov
    obtain ⟨t0, t1, t2, t3⟩ := tab_cells T1.out.here
    have hb := vt_lt T1.out.here
    have hb' : b ≠ wc.heap.size := by omega
    rw [hov] at t0
    have fa : Fr (fun _ => False) wc (wc.alloc (.cells #[ptr g] 79 (0, 0))) := (Fr.refl _ _).alloc _
    have hrow : (wc.alloc (.cells #[ptr g] 79 (0, 0))).ownsRow B 79 1 (.slice a0 0 c0) 0 [] := by
      have := row_kept T1.out.row fa (fun _ _ h => h)
      rw [hov] at this
      exact this
    have hq : (wc.alloc (.cells #[ptr g] 79 (0, 0))).heap[wc.heap.size]? = some (.cells #[ptr g] 79 (0, 0)) := heap_alloc_new wc _
    have HR := Lib.hid (And.intro hrow hq)
    clear hrow hq hov
    go_wp2_with (at_builtin; refine wpList_append_sep rfl (.tmp 17) (.tmp 19) 49 49 rfl B 79 i0 (.pointer none) 1 8 Try.underlying49 _ Try.underlying49 (.inr ⟨_, rfl⟩) hi hz0 hz1 hz2 rfl (by decide) (.slice a0 0 c0) 0 [] rfl HR.out.1 _ 1 [ptr g] rfl (lenOf_slice _ _ _) rfl (first_row HR.out.2 1 _ rfl) (first_row (w := (wc.alloc (.cells #[ptr g] 79 (0, 0))).drew) HR.out.2 1 _ rfl) (by simp [Value.oneCell']) (by decide) (by decide) (by rw [World.size_alloc]; exact Nat.le_succ_of_le T1.out.Bw) ?grow)
    case grow =>
      intro v' w1 hown hgr hv
      obtain ⟨a1, c1, rfl⟩ := slice_of_own hown
      have f1 : Fr (fun k => ov.ownBlock = some k) wc w1 := (fa.mono (fun _ _ h => h.elim)).trans (Fr.of_grown hgr) (fun i _ e => by rw [HOV.out]; exact e.symm)
      have hbo : ¬ ov.ownBlock = some b := fun e => by have := (row_lt T1.out.row _ e).1; have := T1.out.bB; omega
      have q1 := crow_kept T1.out.here f1 hbo
      obtain ⟨d0, d1, d2, d3⟩ := tab_cells q1
      have hvb : (Value.slice a1 1 c1).ownBlock ≠ some b := fun e => by
        rcases hv with e1 | e1
        · rw [e1, ← HOV.out] at e; exact hbo e
        · rw [e1] at e; simp at e; omega
      have O1 := Lib.hid (And.intro hown (And.intro q1 (And.intro f1 hvb)))
      clear hgr hv hown q1 f1 hvb t0 t1 t2 t3 fa HR
      go_wp2_with fail
      have f2 : Fr (fun k => k = b) w1 (w1.setCell ⟨b, 0, none⟩ (.slice a1 1 c1)) := (Fr.refl (fun k => k = b) w1).set1 0 _
      have q2 := two_setCell0 O1.out.2.1 (.slice a1 1 c1)
      have r2 := row_kept O1.out.1 f2 (fun k hk e => O1.out.2.2.2 (by rw [hk, e]))
      generalize w1.setCell ⟨b, 0, none⟩ (.slice a1 1 c1) = w2 at *
      have fz : Fr (fun k => k = b ∨ ov.ownBlock = some k) wc w2 := (O1.out.2.2.1.mono (fun _ _ h => .inr h)).trans f2 (fun _ _ h => .inl h)
      have hbB := T1.out.bB
      have gk : ∀ k, B ≤ k → ov.ownBlock ≠ some k → ¬ (k = b ∨ ov.ownBlock = some k) := fun k hk ho e => by
        rcases e with e | e
        · omega
        · exact ho e
      go_ret
      refine ⟨g, p, .slice a1 1 c1, rfl, ⟨q2, ⟨r2, ?_⟩, ?_, ?_, hbB, ?_⟩, ?_⟩
      · exact ⟨crow_kept G1.out.1 fz (gk g N1.out.1 N1.out.2.2.1), ⟨#[], 0, crow_kept G1.out.2 fz (gk p N1.out.2.1 N1.out.2.2.2.1), rfl, fun _ h => by simp [MsgN.ents] at h⟩, List.nodup_nil, fun e he => (by cases he), fun e he => (by cases he), N1.out.1, N1.out.2.1, HX.out, HM.out⟩
      · exact T1.out.done.fr fz (fun n hn => by
          rcases T1.out.done with ⟨_, e⟩ | ⟨n', e, hn', hmm, _⟩
          · rw [e] at hn; cases hn
          · rw [e] at hn
            cases hn
            exact gk _ hn' (row_nm T1.out.row hmm))
      · intro y' g' p' e hd
        cases e
        have h1 := (T0.out.done.old p hd).2
        have := N1.out.2.2.2.2.2
        omega
      · exact Nat.le_trans T1.out.Bw fz.size
      · exact (F1.out.mono (fun _ _ h => h.elim)).trans fz (fun _ _ h => h)
end
end
section
open Go.RowKit Go.MapKept
set_option maxRecDepth 100000

/-- A message with one part more. -/
def MsgN.add (y : MsgN) (n : Int) (v : Value) (l : List UInt8) : MsgN := ⟨y.f, y.k, y.m, y.ps ++ [(n, v, l)]⟩
/-- Whether a part is stored. -/
def MsgN.takes (y : MsgN) (n m : Int) : Prop := n ∉ y.keys ∧ m = y.m

/-- The states of the region that stores. -/
def PsS (w0 : World) (p : Nat) (y : MsgN) (n : Int) (l : List UInt8) : List Value → World → Prop
  | [], wx => Fr (fun _ => False) w0 wx
  | [v], wx => Own wx v l ∧ Fr (fun _ => False) w0 wx ∧ ∀ k, v.ownBlock = some k → w0.heap.size ≤ k
  | [v, _], wx => Sees wx v l ∧ (∀ k, v.ownBlock = some k → w0.heap.size ≤ k) ∧ MapK iv NuOk wx p (y.ents ++ [(n, v)]) ∧ Fr (fun k => k = p) w0 wx
  | _, _ => False
theorem PsS.fr {w0 wx : World} {p : Nat} {y : MsgN} {n : Int} {l : List UInt8} : ∀ {c : List Value}, PsS w0 p y n l c wx → Fr (fun k => k = p) w0 wx
  | [], h => h.mono (fun _ _ h => h.elim)
  | [_], h => h.2.1.mono (fun _ _ h => h.elim)
  | [_, _], h => h.2.2.2
  | _ :: _ :: _ :: _, h => h.elim

section
variable {B g p : Nat} {ov : Value}

theorem store_any (w : World) (y : MsgN) (h : MsgAt w B g p ov y) (x : Pc) (a : Option Addr) (c : Nat) (hs : Sees w (.slice a x.l.length c) x.l) (hn : NuOk x.p) (hl : x.l.length ≤ 1000) (hB : B ≤ w.heap.size) (hov : ∀ k, ov.ownBlock = some k → k < w.heap.size) :
    Calls Try.prog 38 #[ptr g, x.val (.slice a x.l.length c)] w fun e w' => e = .returned (.tuple #[]) ∧
      ((y.takes x.p x.m ∧ ∃ v', MsgAt w' B g p ov (y.add x.p v' x.l) ∧ Fr (fun k => k = p) w w') ∨ (¬ y.takes x.p x.m ∧ MsgAt w' B g p ov y ∧ Fr (fun _ => False) w w')) := by
  obtain ⟨f, k, n, m, l⟩ := x
  dsimp only at *
  have q0 := heap_alloc_new w (oPv f k n m (.slice a l.length c))
  have f0 : Fr (fun _ => False) w (w.alloc (oPv f k n m (.slice a l.length c))) := (Fr.refl _ _).alloc _
  have HL := Lib.hid hl
  have HNU := Lib.hid hn
  have HOV := Lib.hid hov
  have HBW := Lib.hid hB
  have hp0 : p < w.heap.size := h.map.lt
  have M0 := Lib.hid (h.fr f0 (fun h => h) (fun h => h) (fun _ _ _ _ h => h))
  have S0 := Lib.hid (hs.fr f0 (fun _ _ h => h))
  clear h hs hn hl hov hB
  go_enter Try.func38, Try.ntmps38
  go_upto_region 1 with fail
  generalize w.alloc (oPv f k n m (.slice a l.length c)) = w0 at *
  obtain ⟨g3, hg3⟩ : ∃ g, g = w.heap.size := ⟨_, rfl⟩
  rw [← hg3] at q0 ⊢
  have HG3 := Lib.hid hg3
  have F0 := Lib.hid f0
  have Q0 := Lib.hid q0
  clear f0 hg3
  obtain ⟨c0, c1, c2, c3, c4⟩ := par_cells q0
  obtain ⟨m0, m1, m2, m3⟩ := msg_cells M0.out.here
  obtain ⟨V0, hV0⟩ : ∃ V0, V0 = (kget y.ents n).getD nilS := ⟨_, rfl⟩
  obtain ⟨R, hR⟩ : ∃ R, R = khas y.ents n := ⟨_, rfl⟩
  have hlk : (Instr.lookup 83 (.map (some p)) (.int .i64 n) true).run Try.prog w0.drew = .ok (.tuple #[V0, .bool R]) w0.drew := by
    have := (M0.out.map.fr ((Fr.refl (fun _ => False) w0).drew) (fun h => h)).look nuF (by rw [MsgN.ents_keys]; exact M0.out.nodup) HNU.out Try.underlying83 (zeroBs w0.drew) true
    rw [← hV0, ← hR] at this
    exact this
  have HR : Hid (R = decide (n ∈ y.keys)) := Lib.hid (by rw [hR]; unfold khas; rw [MsgN.ents_keys])
  clear q0 hV0 hR
  go_region
  have F1 := Lib.hid (F0.out.drew)
  have Q1 := Lib.hid (crow_kept Q0.out (Fr.refl (fun _ => False) w0).drew (fun h => h))
  have M1 := Lib.hid (M0.out.fr (Fr.refl (fun _ => False) w0).drew (fun h => h) (fun h => h) (fun _ _ _ _ h => h))
  have S1 := Lib.hid (S0.out.fr (Fr.refl (fun _ => False) w0).drew (fun _ _ h => h))
  clear hlk c0 c1 c2 c3 c4 m0 m1 m2 m3
  generalize w0.drew = w1 at *
  clear F0 Q0 M0 S0
  obtain ⟨c0, c1, c2, c3, c4⟩ := par_cells Q1.out
  obtain ⟨m0, m1, m2, m3⟩ := msg_cells M1.out.here
  have HY : Hid (y.m = y.m) := Lib.hid rfl
  obtain ⟨ym, hym⟩ : ∃ z, z = y.m := ⟨_, rfl⟩
  rw [← hym] at m2
  have HYM := Lib.hid hym
  clear hym HY
  cases R with
  | true =>
    have HT : Hid (¬ y.takes n m) := Lib.hid (fun h => h.1 (of_decide_eq_true HR.out.symm))
    go_upto_region 2 with fail
    go_region
    go_wp2_with fail
    go_returns
    exact ⟨rfl, .inr ⟨HT.out, M1.out.fr (Fr.refl (fun _ => False) w1).drew (fun h => h) (fun h => h) (fun _ _ _ _ h => h), F1.out.drew⟩⟩
  | false =>
    have hnk : n ∉ y.keys := of_decide_eq_false HR.out.symm
    have HNK := Lib.hid hnk
    clear hnk
    go_upto_region 2 with fail
    by_cases hm : m = ym
    case neg =>
      have HT : Hid (¬ y.takes n m) := Lib.hid (fun h => hm (by rw [HYM.out]; exact h.2))
      have hb : (m != ym) = true := by simpa using hm
      clear hm
      go_region
      go_wp2_with fail
      go_returns
      exact ⟨rfl, .inr ⟨HT.out, M1.out.fr (Fr.refl (fun _ => False) w1).drew (fun h => h) (fun h => h) (fun _ _ _ _ h => h), F1.out.drew⟩⟩
    have HT : Hid (y.takes n m) := Lib.hid ⟨HNK.out, by rw [← HYM.out]; exact hm⟩
    have hb : (m != ym) = false := by simp [hm]
    clear hm
    go_region
    have F2 := Lib.hid (F1.out.drew)
    have Q2 := Lib.hid (crow_kept Q1.out (Fr.refl (fun _ => False) w1).drew (fun h => h))
    have M2 := Lib.hid (M1.out.fr (Fr.refl (fun _ => False) w1).drew (fun h => h) (fun h => h) (fun _ _ _ _ h => h))
    have S2 := Lib.hid (S1.out.fr (Fr.refl (fun _ => False) w1).drew (fun _ _ h => h))
    clear c0 c1 c2 c3 c4 m0 m1 m2 m3 hb
    generalize w1.drew = w2 at *
    clear F1 Q1 M1 S1
    have HPG : Hid (p ≠ g ∧ p ≠ g3) := Lib.hid ⟨fun e => by subst e; exact M2.out.map.no_cells M2.out.here, fun e => by subst e; exact M2.out.map.no_cells Q2.out⟩
    go_upto_region 3 with fail
    refine wp_region_chain (by kernel_rfl) [some 26, some 27, some 28, some 29, some 30, some 31, some 32, some 33, some 34, none] rfl (by decide) (by intro d hd; simp at hd ⊢; omega)
      [8, 9] (fun cvs wx => (PsS w2 p y n l) cvs wx)
      [.free (ptr g), .free (ptr g), .free (.pointer (some ⟨g, 3, none⟩)), .free (.map (some p)), .free (.pointer (some ⟨g3, 2, none⟩)), .free (.int .i64 n), .free (.pointer (some ⟨g3, 4, none⟩)), .free (.slice a l.length c), .link none, .link none]
      (by kernel_rfl) (by kernel_rfl) ?hr3 ?stepr3 ?finr3
    case hr3 => exact (Fr.refl _ _).drew
    case stepr3 =>
      intro vals
      simp only [frOfU, fillU, List.setIfInBounds_toArray, List.set_cons_succ, List.set_cons_zero]
      repeat' (first | exact AllOps.nil | refine AllOps.cons ?_ ?_)
      all_goals
        intro cvs wx hS he hu hlim Kc hK
        simp only [Act.put, List.setIfInBounds_toArray, List.set_cons_succ, List.set_cons_zero, List.getD_cons_zero, List.getD_cons_succ] at hK
        simp only [List.mem_cons, List.not_mem_nil, or_false, forall_eq_or_imp, forall_eq, Region.binds, forall_const, qmode_gc, Bool.false_eq_true, false_imp_iff, List.getD_cons_zero, List.getD_cons_succ, OpSort.val, Option.some.injEq, forall_eq', reduceCtorEq, implies_true, true_and, and_true] at he
        have hfr := PsS.fr hS
        obtain ⟨c0, c1, c2, c3, c4⟩ := par_cells (crow_kept Q2.out hfr (fun e => HPG.out.2 e.symm))
        obtain ⟨m0, m1, m2, m3⟩ := msg_cells (crow_kept M2.out.here hfr (fun e => HPG.out.1 e.symm))
        clear hfr
        have HSX := Lib.hid hS
        clear hS
      all_goals first | (clear hlim hu; (try simp only [he] at hK ⊢); go_simp; exact hK) | skip
      · obtain rfl := hlim (0 : Nat) rfl
        have H1 : Hid (Fr (fun _ => False) w2 wx) := Lib.hid HSX.out
        clear hlim hu HSX
        simp only [he] at hK ⊢
        go_simp
        go_at_call 33
        refine (clone_any _ l wx (S2.out.fr H1.out (fun _ _ h => h)) (by have := HL.out; omega)).mono ?_
        rintro er wa ⟨v', rfl, ho, fa, hv⟩
        exact hK _ _ (fun _ h => by cases h) ⟨ho, H1.out.trans fa (fun _ _ h => h), fun k hk => Nat.le_trans H1.out.size (hv k hk)⟩
      · obtain rfl := hlim (1 : Nat) rfl
        obtain ⟨h1, h2, h3⟩ : Own wx (vals 8) l ∧ Fr (fun _ => False) w2 wx ∧ ∀ k, (vals 8).ownBlock = some k → w2.heap.size ≤ k := HSX.out
        obtain ⟨w', hr, hm', fr', hz⟩ := (M2.out.map.fr h2 (fun h => h)).put nuF HNU.out (by rw [MsgN.ents_keys]; exact HNK.out) Try.underlying83 (vals 8)
        have H1 := Lib.hid (And.intro h1 (And.intro h2 (And.intro h3 (And.intro hm' (And.intro fr' (M2.out.map.fr h2 (fun h => h)))))))
        clear hlim hu HSX h1 h2 h3 hm' fr' hz
        unfold iv at hr
        (try simp only [he] at hK ⊢)
        go_simp
        refine hK undef _ (fun _ h => by cases h) ⟨H1.out.1.sees.keepMap H1.out.2.2.2.2.2 H1.out.2.2.2.2.1, H1.out.2.2.1, H1.out.2.2.2.1, (H1.out.2.1.mono (fun _ _ h => h.elim)).trans H1.out.2.2.2.2.1 (fun _ _ h => h)⟩
    case finr3 =>
    intro vals w3 hS hV
    have v0 := hV 0 _ (by decide) rfl
    have v1 := hV 1 _ (by decide) rfl
    have v2 := hV 2 _ (by decide) rfl
    have v3 := hV 3 _ (by decide) rfl
    have v4 := hV 4 _ (by decide) rfl
    have v5 := hV 5 _ (by decide) rfl
    have v6 := hV 6 _ (by decide) rfl
    have v7 := hV 7 _ (by decide) rfl
    clear hV
    simp only [frOfU, fillU, List.setIfInBounds_toArray, List.set_cons_succ, List.set_cons_zero]
    simp only [Nat.reduceAdd, v0, v1, v2, v3, v4, v5, v6, v7]
    clear v0 v1 v2 v3 v4 v5 v6 v7
    obtain ⟨h1, h2, h3, h4⟩ : PsS w2 p y n l [vals 8, vals 9] w3 := hS
    generalize vals 8 = z8 at *
    have HR2 := Lib.hid (And.intro h1 (And.intro h2 (And.intro h3 h4)))
    have HV : Hid ((∀ k, z8.ownBlock = some k → B ≤ k ∧ ov.ownBlock ≠ some k)) := Lib.hid (fun k hk => by
      have e1 := h2 k hk
      have e2 := F2.out.size
      have e3 := HBW.out
      refine ⟨by omega, fun e => ?_⟩
      have := HOV.out k e
      omega)
    clear h1 h2 h3 h4
    go_wp2_with fail
    go_returns
    refine ⟨rfl, .inl ⟨HT.out, z8, ?_, (F2.out.mono (fun _ _ h => h.elim)).trans HR2.out.2.2.2 (fun _ _ h => h)⟩⟩
    have M := M2.out
    have f3 := HR2.out.2.2.2
    refine ⟨crow_kept M.here f3 (fun e => HPG.out.1 e.symm), ?_, ?_, ?_, ?_, M.b0, M.b1, M.id, M.many⟩
    · have := HR2.out.2.2.1
      unfold MsgN.ents MsgN.add
      rw [List.map_append]
      exact this
    · unfold MsgN.keys MsgN.add
      rw [List.map_append]
      refine List.nodup_append.2 ⟨M.nodup, by simp, fun z hz z' hz' => ?_⟩
      simp at hz'
      subst hz'
      rintro rfl
      exact HNK.out hz
    · intro e he
      rcases List.mem_append.1 he with he | he
      · exact (M.sees e he).keepMap M.map f3
      · simp at he
        subst he
        exact HR2.out.1
    · intro e he
      rcases List.mem_append.1 he with he | he
      · exact M.off e he
      · simp at he
        subst he
        exact HV.out
end
end
end Go.Proofs.Ytjegdbkkojaacaa
