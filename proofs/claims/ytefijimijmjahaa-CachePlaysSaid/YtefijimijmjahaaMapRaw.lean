/-
  Maps as lists of their entries, whose keys are calls' numbers (pairs of two small numbers): look up, store, delete, length.
-/
import Derived.Test.YtefijimijmjahaaGen
import Derived.Maps.Keyed
import Derived.DeepKeys4
import Derived.Carry
namespace Go.Proofs.Ytefijimijmjahaa
open Go.RowKit Go.MapKept
open Go.ChangeMaps (setBlock heap_setBlock_same heap_setBlock_other)
open Go.WideMaps (KeyLaw)
set_option maxRecDepth 100000

abbrev IdN := Int × Int
def kv (x : IdN) : Value := .agg #[.int .u16 x.1, .int .u16 x.2]
def IdOk (x : IdN) : Prop := (0 ≤ x.1 ∧ x.1 ≤ 65535) ∧ (0 ≤ x.2 ∧ x.2 ≤ 65535)

theorem kv_inj {x y : IdN} (h : kv x = kv y) : x = y := by
  unfold kv at h
  simp at h
  exact Prod.ext h.1 h.2
theorem kv_ne {x y : IdN} (h : x ≠ y) : kv x ≠ kv y := fun e => h (kv_inj e)

theorem Try.laidOut : laidOutB Try.prog = true := by kernel_rfl
theorem Try.rowId : (36 : TypeId) < Try.prog.types.size := of_decide_eq_true (by kernel_rfl)
theorem Try.cellsId : Try.prog.cellsOf 36 = 2 := by kernel_rfl
theorem Try.cellsU16 : Try.prog.cellsOf 29 = 1 := by kernel_rfl
theorem Try.keyId : Try.prog.keyType 36 = true := by kernel_rfl
theorem Try.wideId : (match Try.prog.underlying 36 with | some (.array _ _) | some (.struct _) => true | _ => false) = true := by rw [Try.underlying36]
theorem Try.lawId : KeyLaw Try.prog 36 := deep_law_laid Try.laidOut (m := 2) (by omega) Try.rowId (by kernel_rfl) Try.wideId

theorem wf_u16 {n : Int} (h0 : 0 ≤ n) (h1 : n ≤ 65535) : (Lit.int .u16 n).wf = true := by
  have e1 : IntKind.u16.min = 0 := by decide
  have e2 : IntKind.u16.max = 65535 := by decide
  simp only [Lit.wf, e1, e2, Bool.and_eq_true, decide_eq_true_eq]
  omega

theorem key_kv {x : IdN} (h : IdOk x) : ∃ l, keyOf Try.prog 36 (kv x) = some l := by
  obtain ⟨⟨h0, h1⟩, h2, h3⟩ := h
  have e1 := wf_u16 h0 h1
  have e2 := wf_u16 h2 h3
  unfold keyOf
  rw [Try.underlying36, Try.keyId]
  have hf : (kv x).formed Try.prog 36 = true := by simp [kv, Value.formed, Try.underlying36, Try.cellsId]
  rw [hf]
  have hs : ∃ n, Try.prog.types.size + 1 = n + 2 := ⟨_, rfl⟩
  obtain ⟨n, hn⟩ := hs
  rw [hn]
  simp [Program.keyLits, kv, Value.cells, Try.underlying36, Try.cellsId, Try.cellsU16, Try.underlying29, e1, e2]

/-- Block b of w is a map of these entries. -/
def MapAt (w : World) (b : Nat) (l : List (IdN × Value)) : Prop :=
  ∃ es clock, w.heap[b]? = some (.map es clock) ∧ es.toList.map (fun e => (e.key, e.val)) = l.map (fun p => (kv p.1, p.2)) ∧ ∀ p ∈ l, IdOk p.1

/-- What is stored at a key. -/
def mget (l : List (IdN × Value)) (x : IdN) : Option Value := (l.find? (fun p => decide (p.1 = x))).map Prod.snd
def mhas (l : List (IdN × Value)) (x : IdN) : Bool := decide (x ∈ l.map Prod.fst)

theorem mget_none {l : List (IdN × Value)} {x : IdN} (h : x ∉ l.map Prod.fst) : mget l x = none := by
  unfold mget
  rw [List.find?_eq_none.2 (fun p hp => by
    simp only [decide_eq_true_eq]
    intro e
    exact h (List.mem_map.2 ⟨p, hp, e⟩))]
  rfl
theorem mget_some {x : IdN} {v : Value} : ∀ {l : List (IdN × Value)}, (l.map Prod.fst).Nodup → (x, v) ∈ l → mget l x = some v
  | [], _, h => by simp at h
  | p :: l, hn, h => by
    unfold mget
    rw [List.map_cons, List.nodup_cons] at hn
    rcases List.mem_cons.1 h with rfl | h
    · simp
    · have hne : p.1 ≠ x := fun e => hn.1 (e ▸ List.mem_map.2 ⟨(x, v), h, rfl⟩)
      rw [List.find?_cons_of_neg (by simpa using hne)]
      exact mget_some hn.2 h

theorem strike_one {x : IdN} {v : Value} : ∀ {l : List (IdN × Value)} {j : Nat}, (l.map Prod.fst).Nodup → l[j]? = some (x, v) → l.filter (fun p => decide (p.1 ≠ x)) = l.eraseIdx j
  | [], j, _, h => by simp at h
  | p :: l, 0, hn, h => by
    rw [List.map_cons, List.nodup_cons] at hn
    simp at h
    subst h
    rw [List.filter_cons_of_neg (by simp), List.eraseIdx_cons_zero]
    exact List.filter_eq_self.2 (fun q hq => by
      simp only [decide_eq_true_eq]
      exact fun e => hn.1 (e ▸ List.mem_map.2 ⟨q, hq, rfl⟩))
  | p :: l, j + 1, hn, h => by
    rw [List.map_cons, List.nodup_cons] at hn
    simp at h
    have hp : p.1 ≠ x := fun e => hn.1 (e ▸ List.mem_map.2 ⟨_, List.mem_of_getElem? h, rfl⟩)
    rw [List.filter_cons_of_pos (by simpa using hp), List.eraseIdx_cons_succ, strike_one hn.2 h]

theorem MapAt.lt {w : World} {b : Nat} {l : List (IdN × Value)} (h : MapAt w b l) : b < w.heap.size := by
  obtain ⟨es, clock, hb, _⟩ := h
  exact (Array.getElem?_eq_some_iff.1 hb).1

theorem MapAt.fr {S : Nat → Prop} {w w' : World} {b : Nat} {l : List (IdN × Value)} (h : MapAt w b l) (f : Fr S w w') (hb : ¬ S b) : MapAt w' b l := by
  have hlt := h.lt
  obtain ⟨es, clock, h1, h2⟩ := h
  exact ⟨es, clock, (f.block b hlt hb).trans h1, h2⟩

theorem Sees.apartMap {w : World} {v : Value} {l : List UInt8} {b : Nat} {L : List (IdN × Value)} (h : Sees w v l) (m : MapAt w b L) : l = [] ∨ v.ownBlock ≠ some b := by
  rcases h with ⟨h, _⟩ | ⟨g, off, cap, rfl, hle, hc⟩
  · exact .inl h
  · cases l with
    | nil => exact .inl rfl
    | cons x l =>
      right
      intro e
      simp [Value.ownBlock] at e
      subst e
      obtain ⟨es, clock, hb, _⟩ := m
      have := hc 0 (by simp)
      simp [World.cell?, hb] at this

theorem Sees.frMap {w w' : World} {v : Value} {l : List UInt8} {b : Nat} {L : List (IdN × Value)} (h : Sees w v l) (m : MapAt w b L) (f : Fr (fun k => k = b) w w') : Sees w' v l := by
  rcases h.apartMap m with e | e
  · subst e
    rcases h with ⟨_, a, c, rfl⟩ | ⟨g, off, cap, rfl, _, _⟩
    · exact .inl ⟨rfl, _, _, rfl⟩
    · exact .inl ⟨rfl, _, _, rfl⟩
  · exact h.fr f (fun k hk e' => e (by rw [hk, e']))

theorem mapAt_new (w : World) : MapAt (w.alloc (.map #[] 0)) w.heap.size [] := ⟨#[], 0, heap_alloc_new w _, rfl, by simp⟩

section
variable {w : World} {b : Nat} {l : List (IdN × Value)}

theorem MapAt.find (h : MapAt w b l) {x : IdN} (hx : IdOk x) : ∃ es clock, w.heap[b]? = some (.map es clock) ∧ es.toList.map (fun e => (e.key, e.val)) = l.map (fun p => (kv p.1, p.2)) ∧
    (((Instr.findKey 36 (kv x) es.toList).run Try.prog w = .ok none w ∧ x ∉ l.map Prod.fst) ∨ ∃ j v, (Instr.findKey 36 (kv x) es.toList).run Try.prog w = .ok (some (j, v)) w ∧ l[j]? = some (x, v)) := by
  obtain ⟨es, clock, hb, he, hk⟩ := h
  refine ⟨es, clock, hb, he, ?_⟩
  obtain ⟨lx, hlx⟩ := key_kv hx
  have hkeys : ∀ e ∈ es.toList, ∃ l, keyOf Try.prog 36 e.key = some l := by
    intro e hm
    have h1 : (e.key, e.val) ∈ l.map (fun p => (kv p.1, p.2)) := by rw [← he]; exact List.mem_map.2 ⟨e, hm, rfl⟩
    obtain ⟨p, hp, e1⟩ := List.mem_map.1 h1
    simp at e1
    rw [← e1.1]
    exact key_kv (hk p hp)
  rcases Try.lawId.find w hlx es.toList hkeys with ⟨h1, h2⟩ | ⟨j, e, h1, h2, h3⟩
  · refine .inl ⟨h1, fun hm => ?_⟩
    obtain ⟨p, hp, e1⟩ := List.mem_map.1 hm
    have h4 : (kv p.1, p.2) ∈ es.toList.map (fun e => (e.key, e.val)) := by rw [he]; exact List.mem_map.2 ⟨p, hp, rfl⟩
    obtain ⟨e, hem, e2⟩ := List.mem_map.1 h4
    simp at e2
    exact h2 e hem (by rw [e2.1, e1])
  · refine .inr ⟨j, e.val, h1, ?_⟩
    have h4 : (l.map (fun p => (kv p.1, p.2)))[j]? = some (e.key, e.val) := by rw [← he, List.getElem?_map, h2]; rfl
    rw [List.getElem?_map] at h4
    obtain ⟨p, hp, e1⟩ := Option.map_eq_some_iff.1 h4
    simp at e1
    rw [hp]
    obtain ⟨p1, p2⟩ := p
    simp at e1
    rw [h3] at e1
    rw [kv_inj e1.1, e1.2]

theorem id_check (w : World) (em : Bool) {x : IdN} (hx : IdOk x) : (Instr.checkKey em 10000 36 (kv x)).run Try.prog w = .ok () w := by
  obtain ⟨lx, hlx⟩ := key_kv hx
  exact Try.lawId.check w em hlx

/-- 'm[k]', and 'v, ok := m[k]'. -/
theorem MapAt.look (h : MapAt w b l) (hn : (l.map Prod.fst).Nodup) {x : IdN} (hx : IdOk x) {t e : TypeId} (ht : Try.prog.underlying t = some (.map 36 e)) {z : Value} (hz : (zeroValue e).run Try.prog w = .ok z w) (c : Bool) :
    (Instr.lookup t (.map (some b)) (kv x) c).run Try.prog w = .ok (if c then .tuple #[(mget l x).getD z, .bool (mhas l x)] else (mget l x).getD z) w := by
  obtain ⟨es, clock, hb, he, ⟨h1, h2⟩ | ⟨j, v, h1, h2⟩⟩ := h.find hx
  · rw [mget_none h2, show mhas l x = false by simpa [mhas] using h2]
    simp [Instr.lookup, run_underlying ht, MapKept.run_getObj_map hb, id_check w _ hx, h1, hz, Result.andThen]
  · have hm := List.mem_of_getElem? h2
    rw [mget_some hn hm, show mhas l x = true by simpa [mhas] using ⟨_, hm⟩]
    simp [Instr.lookup, run_underlying ht, MapKept.run_getObj_map hb, id_check w _ hx, h1, Result.andThen]

/-- 'm[k] = v' at a key that is not there. -/
theorem MapAt.put (h : MapAt w b l) {x : IdN} (hx : IdOk x) (hnew : x ∉ l.map Prod.fst) {t e : TypeId} (ht : Try.prog.underlying t = some (.map 36 e)) (v : Value) :
    ∃ w', (Instr.mapUpdate t (.map (some b)) (kv x) v).run Try.prog w = .ok () w' ∧ MapAt w' b (l ++ [(x, v)]) ∧ Fr (fun k => k = b) w w' ∧ w'.heap.size = w.heap.size := by
  have hk := h
  obtain ⟨es, clock, hb, he, ⟨h1, h2⟩ | ⟨j, v', h1, h2⟩⟩ := h.find hx
  · refine ⟨setBlock w b (.map (es.push ⟨kv x, v, clock⟩) (clock + 1)), ?_, ⟨_, _, heap_setBlock_same hb _, ?_, ?_⟩, ⟨rfl, rfl, rfl, by simp [setBlock], fun i _ hi => heap_setBlock_other hb _ hi⟩, by simp [setBlock]⟩
    · simp [Instr.mapUpdate, run_underlying ht, MapKept.run_getObj_map hb, id_check w false hx, h1, MapKept.run_setObj_map _ hb, Result.andThen, setBlock]
    · simp [he]
    · obtain ⟨_, _, _, _, hok⟩ := hk
      intro p hp
      rcases List.mem_append.1 hp with hp | hp
      · exact hok p hp
      · simp at hp; subst hp; exact hx
  · exact absurd (List.mem_map.2 ⟨_, List.mem_of_getElem? h2, rfl⟩) hnew

/-- 'delete(m, k)'. -/
theorem MapAt.del (h : MapAt w b l) (hn : (l.map Prod.fst).Nodup) {x : IdN} (hx : IdOk x) {t e : TypeId} (ht : Try.prog.underlying t = some (.map 36 e)) (ty : TypeId) :
    ∃ w', (Builtin.delete_ #[t, 36] ty #[.map (some b), kv x]).run Try.prog w = .ok (.tuple #[]) w' ∧ MapAt w' b (l.filter (fun p => decide (p.1 ≠ x))) ∧ Fr (fun k => k = b) w w' ∧ w'.heap.size = w.heap.size := by
  have hk := h
  obtain ⟨_, _, _, _, hok⟩ := hk
  obtain ⟨es, clock, hb, he, ⟨h1, h2⟩ | ⟨j, v', h1, h2⟩⟩ := h.find hx
  · refine ⟨setBlock w b (.map es clock), ?_, ⟨_, _, heap_setBlock_same hb _, ?_, fun p hp => hok p (List.mem_filter.1 hp).1⟩, ⟨rfl, rfl, rfl, by simp [setBlock], fun i _ hi => heap_setBlock_other hb _ hi⟩, by simp [setBlock]⟩
    · simp [Builtin.delete_, run_underlying ht, MapKept.run_getObj_map hb, id_check w _ hx, h1, MapKept.run_setObj_map _ hb, Result.andThen, setBlock]
    · rw [List.filter_eq_self.2 (fun p hp => by
        simp only [decide_eq_true_eq]
        exact fun e => h2 (List.mem_map.2 ⟨p, hp, e⟩))]
      exact he
  · have hjl : j < l.length := (List.getElem?_eq_some_iff.1 h2).1
    have hes : es.size = l.length := by have := congrArg List.length he; simpa using this
    have hsub : (es.eraseIdxIfInBounds j).toList = es.toList.eraseIdx j := by
      unfold Array.eraseIdxIfInBounds
      rw [dif_pos (by omega)]
      simp
    have hflt := strike_one hn h2
    refine ⟨setBlock w b (.map (es.eraseIdxIfInBounds j) clock), ?_, ⟨_, _, heap_setBlock_same hb _, ?_, fun p hp => hok p (List.mem_filter.1 hp).1⟩, ⟨rfl, rfl, rfl, by simp [setBlock], fun i _ hi => heap_setBlock_other hb _ hi⟩, by simp [setBlock]⟩
    · simp [Builtin.delete_, run_underlying ht, MapKept.run_getObj_map hb, id_check w _ hx, h1, MapKept.run_setObj_map _ hb, Result.andThen, setBlock]
    · rw [hflt, hsub, ChangeMaps.map_eraseIdx, he, ChangeMaps.map_eraseIdx]

/-- 'len(m)'. -/
theorem MapAt.len (h : MapAt w b l) {t e : TypeId} (ht : Try.prog.underlying t = some (.map 36 e)) (ty : TypeId) : (Builtin.len_ #[t] ty #[.map (some b)]).run Try.prog w = .ok (.int .i64 l.length) w := by
  obtain ⟨es, clock, hb, he, _⟩ := h
  have hes : es.size = l.length := by have := congrArg List.length he; simpa using this
  simp [Builtin.len_, run_underlying ht, MapKept.run_getObj_map hb, goInt, Result.andThen, hes]
end
end Go.Proofs.Ytefijimijmjahaa
