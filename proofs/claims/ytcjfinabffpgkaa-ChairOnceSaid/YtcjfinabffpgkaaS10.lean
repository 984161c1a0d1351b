/-
  What ChOnce rests on, part 10: ChOnceOps, ChKinds, LoopMix, ChActs, ChOnceBase.
-/
import Derived.Test.YtcjfinabffpgkaaS09
import Derived.Test.YtcjfinabffpgkaaS04
import Derived.Test.YtcjfinabffpgkaaS01
import Derived.Deep.LoopGhost
import Derived.Test.YtcjfinabffpgkaaS06
import Derived.Deep.Cut
import Derived.Deep.CutRange
import Derived.Deep.CutBlock
set_option linter.unusedVariables false
set_option linter.unusedSimpArgs false
set_option maxHeartbeats 64000000
namespace Go.Proofs.Ytcjfinabffpgkaa
open Go.RowKit
open Go.Lib (hid)
section
set_option maxRecDepth 100000

/-- ChairOnce's own variables. -/
structure OnQ where
  gV : Nat
  gC : Nat
  gW : Nat
  g4 : Nat
  e : Nat → Sm
  ea : Nat → Option Addr
  ec : Nat → Nat

def arr6 (f : Nat → Value) : Array Value := #[f 0, f 1, f 2, f 3, f 4, f 5]
def ptrs (b : Int → Nat) : Nat → Value := fun i => .pointer (some ⟨b i, 0, none⟩)
def sm36 (q : OnQ) : Array Value := #[.int .u8 (q.e 0).kind, .int .u16 (q.e 0).c.t, .int .u16 (q.e 0).c.n, .int .u16 (q.e 0).c.p, (q.e 0).sl (q.ea 0) (q.ec 0), .int .u16 (q.e 0).mb, .int .u8 (q.e 1).kind, .int .u16 (q.e 1).c.t, .int .u16 (q.e 1).c.n, .int .u16 (q.e 1).c.p, (q.e 1).sl (q.ea 1) (q.ec 1), .int .u16 (q.e 1).mb, .int .u8 (q.e 2).kind, .int .u16 (q.e 2).c.t, .int .u16 (q.e 2).c.n, .int .u16 (q.e 2).c.p, (q.e 2).sl (q.ea 2) (q.ec 2), .int .u16 (q.e 2).mb, .int .u8 (q.e 3).kind, .int .u16 (q.e 3).c.t, .int .u16 (q.e 3).c.n, .int .u16 (q.e 3).c.p, (q.e 3).sl (q.ea 3) (q.ec 3), .int .u16 (q.e 3).mb, .int .u8 (q.e 4).kind, .int .u16 (q.e 4).c.t, .int .u16 (q.e 4).c.n, .int .u16 (q.e 4).c.p, (q.e 4).sl (q.ea 4) (q.ec 4), .int .u16 (q.e 4).mb, .int .u8 (q.e 5).kind, .int .u16 (q.e 5).c.t, .int .u16 (q.e 5).c.n, .int .u16 (q.e 5).c.p, (q.e 5).sl (q.ea 5) (q.ec 5), .int .u16 (q.e 5).mb]
abbrev oVs (f : Nat → Value) : Obj := Obj.cells (arr6 f) 36 (0, 0)
abbrev oCs (f : Nat → Value) : Obj := Obj.cells (arr6 f) 38 (0, 0)
abbrev oE6 (q : OnQ) : Obj := Obj.cells (sm36 q) 28 (0, 0)

theorem arr6_cell {w : World} {b : Nat} {f : Nat → Value} {T : TypeId} (h : w.heap[b]? = some (.cells (arr6 f) T (0, 0))) (i : Nat) (hi : i < 6) : w.cell? ⟨b, i, none⟩ = some (f i) := by
  rw [cell_of_row w b i _ _ _ h]
  match i, hi with
  | 0, _ => rfl
  | 1, _ => rfl
  | 2, _ => rfl
  | 3, _ => rfl
  | 4, _ => rfl
  | 5, _ => rfl

theorem arr6_set {w : World} {b : Nat} {f : Nat → Value} {T : TypeId} (h : w.heap[b]? = some (.cells (arr6 f) T (0, 0))) (i : Nat) (hi : i < 6) (v : Value) : (w.setCell ⟨b, i, none⟩ v).heap[b]? = some (.cells (arr6 (fun j => if j = i then v else f j)) T (0, 0)) := by
  rw [heap_setCell_same w b i _ T v h]
  match i, hi with
  | 0, _ => rfl
  | 1, _ => rfl
  | 2, _ => rfl
  | 3, _ => rfl
  | 4, _ => rfl
  | 5, _ => rfl

theorem e6_cells {w : World} {b : Nat} {q : OnQ} (h : w.heap[b]? = some (oE6 q)) (i : Nat) (hi : i < 6) :
    w.cell? ⟨b, i * 6, none⟩ = some (.int .u8 (q.e i).kind) ∧ w.cell? ⟨b, i * 6 + 1, none⟩ = some (.int .u16 (q.e i).c.t) ∧ w.cell? ⟨b, i * 6 + 2, none⟩ = some (.int .u16 (q.e i).c.n) ∧ w.cell? ⟨b, i * 6 + 3, none⟩ = some (.int .u16 (q.e i).c.p) ∧ w.cell? ⟨b, i * 6 + 4, none⟩ = some ((q.e i).sl (q.ea i) (q.ec i)) ∧ w.cell? ⟨b, i * 6 + 5, none⟩ = some (.int .u16 (q.e i).mb) := by
  simp only [cell_of_row w b _ _ _ _ h]
  match i, hi with
  | 0, _ => exact ⟨rfl, rfl, rfl, rfl, rfl, rfl⟩
  | 1, _ => exact ⟨rfl, rfl, rfl, rfl, rfl, rfl⟩
  | 2, _ => exact ⟨rfl, rfl, rfl, rfl, rfl, rfl⟩
  | 3, _ => exact ⟨rfl, rfl, rfl, rfl, rfl, rfl⟩
  | 4, _ => exact ⟨rfl, rfl, rfl, rfl, rfl, rfl⟩
  | 5, _ => exact ⟨rfl, rfl, rfl, rfl, rfl, rfl⟩

/-- Its variables in memory. -/
structure OnA (p : OnP) (q : OnQ) (w : World) : Prop where
  rv : w.heap[q.gV]? = some (oVs (ptrs p.vb))
  rc : w.heap[q.gC]? = some (oCs (ptrs p.cb))
  rw' : w.heap[q.gW]? = some (oVw 0 p.ma p.ms.length p.mc)
  re : w.heap[q.g4]? = some (oE6 q)

theorem OnA.keep {S : Nat → Prop} {p : OnP} {q : OnQ} {w w' : World} (h : OnA p q w) (f : Fr S w w') (h1 : ¬ S q.gV) (h2 : ¬ S q.gC) (h3 : ¬ S q.gW) (h4 : ¬ S q.g4) : OnA p q w' :=
  ⟨crow_kept h.rv f h1, crow_kept h.rc f h2, crow_kept h.rw' f h3, crow_kept h.re f h4⟩

section
variable {p : OnP} {q : OnQ} {w w' : World} {V : Int → VtN} {C : Int → ChN} {hv : Int → Value} {wv : Value} {way : List FlM} {cz : En}

/-- A block of another sort isn't among those that change. -/
theorem OnS.non (h : OnS p w V C hv wv way cz) {b : Nat} {cs : Array Value} {T : TypeId} {fr : Nat × Nat} (hb : w.heap[b]? = some (.cells cs T fr)) (h1 : T ≠ 49) (h2 : T ≠ 72) (h3 : T ≠ 3) (h4 : T ≠ 59 ∨ wv.ownBlock ≠ some b) (h5 : T ≠ 47 ∨ b ≠ p.gX) : ¬ OnM p hv wv b := by
  intro hm
  rcases hm with ⟨n, hn, e | e | e⟩ | e | e
  · obtain ⟨c, hc⟩ := h.vrow hn
    exact row_ne hb hc h1 e
  · obtain ⟨c, hc⟩ := h.crow hn
    exact row_ne hb hc h2 e
  · exact oi_ne (h.ch n hn).1.own hb h3 e
  · rcases h4 with h4 | h4
    · exact h.wo.ne hb h4 e
    · exact h4 e
  · rcases h5 with h5 | h5
    · obtain ⟨c, hc⟩ := h.xrow
      exact row_ne hb hc h5 e
    · exact h5 e

theorem OnA.step (a : OnA p q w) (h : OnS p w V C hv wv way cz) (f : Fr (OnM p hv wv) w w') : OnA p q w' :=
  a.keep f (h.non a.rv (by decide) (by decide) (by decide) (.inl (by decide)) (.inl (by decide))) (h.non a.rc (by decide) (by decide) (by decide) (.inl (by decide)) (.inl (by decide))) (h.non a.rw' (by decide) (by decide) (by decide) (.inl (by decide)) (.inl (by decide))) (h.non a.re (by decide) (by decide) (by decide) (.inl (by decide)) (.inl (by decide)))

/-- All that may change is newer than N. -/
structure OnN (p : OnP) (N : Nat) : Prop where
  b : N ≤ p.B
  v : ∀ n, In6 n → N ≤ p.vb n
  c : ∀ n, In6 n → N ≤ p.cb n
  x : N ≤ p.gX

theorem OnS.newer (h : OnS p w V C hv wv way cz) {N : Nat} (hN : OnN p N) : ∀ k, OnM p hv wv k → N ≤ k := by
  intro k hm
  rcases hm with ⟨n, hn, e | e | e⟩ | e | e
  · rw [e]; exact hN.v n hn
  · rw [e]; exact hN.c n hn
  · exact Nat.le_trans hN.b (oi_le (h.ch n hn).1.own k e)
  · exact Nat.le_trans hN.b (h.wo.lt k e).1
  · rw [e]; exact hN.x

theorem OnS.frame {w0 : World} (h : OnS p w V C hv wv way cz) (hN : OnN p w0.heap.size) (f0 : Fr (fun _ => False) w0 w) (f : Fr (OnM p hv wv) w w') : Fr (fun _ => False) w0 w' :=
  f0.trans f (fun k hk hm => by have := h.newer hN k hm; omega)

/-- All that ChairOnce keeps from move to move. -/
structure OnI (p : OnP) (q : OnQ) (w0 w : World) (V : Int → VtN) (C : Int → ChN) (hv : Int → Value) (wv : Value) (way : List FlM) (cz : En) (val : Vals) (acc : Accs) (sm : Bool) (rd k : Nat) : Prop where
  s : OnS p w V C hv wv way cz
  a : OnA p q w
  x : Pax p.ms V C ((rd / 2 + 1 : Nat) : Int) val acc
  f : ∀ y ∈ way, FlOk y.f V val acc ∧ y.f.f ∈ p.ms ∧ y.f.t ∈ p.ms
  c : sm = true → Cho p.ms val acc cz
  fr : Fr (fun _ => False) w0 w
  r : rd ≤ k
  n : way.length ≤ 16 * k

theorem OnI.new {w0 : World} {val : Vals} {acc : Accs} {sm : Bool} {rd k : Nat} (h : OnI p q w0 w V C hv wv way cz val acc sm rd k) (f : Fr (fun _ => False) w w') : OnI p q w0 w' V C hv wv way cz val acc sm rd k :=
  ⟨h.s.fr f, h.a.keep f (fun h => h) (fun h => h) (fun h => h) (fun h => h), h.x, h.f, h.c, h.fr.trans f (fun _ _ h => h), h.r, h.n⟩

theorem OnI.next {w0 : World} {val : Vals} {acc : Accs} {sm : Bool} {rd k : Nat} (h : OnI p q w0 w V C hv wv way cz val acc sm rd k) : OnI p q w0 w V C hv wv way cz val acc sm rd (k + 1) :=
  ⟨h.s, h.a, h.x, h.f, h.c, h.fr, by have := h.r; omega, by have := h.n; omega⟩

theorem small_zero : EnSmall En.zero := ⟨by decide, by decide⟩

theorem aways_of {M : Nat → Prop} {x : En} {v u : Value} (h : ∀ k, M k → Away k x v u) : AwayS M x v u := by
  constructor
  · by_cases h0 : x.l = []
    · exact .inl h0
    · exact .inr (fun k hk hm => (h k hm).1.elim h0 (fun h => h hk))
  · by_cases h0 : x.m = []
    · exact .inl h0
    · exact .inr (fun k hk hm => (h k hm).2.elim h0 (fun h => h hk))

/-- A letter more is under way. -/
theorem OnS.push (hf : OnF p) (h : OnS p w V C hv wv way cz) {wa w' : World} {t : FlM} {v' : Value} (fa : Fr (fun _ => False) w wa) (ho : WayOwn w' p.B v' (way ++ [t])) (hg : wa.grownBy w' wv.ownBlock) (hn : v'.ownBlock = wv.ownBlock ∨ v'.ownBlock = some wa.heap.size)
    (ht : ES w t.f.x t.v t.u ∧ AwayS (OnM p hv wv) t.f.x t.v t.u ∧ EnSmall t.f.x) : OnS p w' V C hv v' (way ++ [t]) cz ∧ Fr (OnM p hv wv) w w' := by
  have f : Fr (fun k => wv.ownBlock = some k) w w' := (fa.mono (fun _ _ h => h.elim)).trans (Fr.of_grown hg) (fun i _ e => e.symm)
  have hsz := fa.size
  refine ⟨h.way' hf f ho (fun k hk => ?_) (fun y hy => ?_), f.mono (fun k _ e => .inr (.inl e))⟩
  · rcases hn with e | e
    · exact .inl (by rw [← e]; exact hk)
    · rw [e] at hk; simp at hk; right; omega
  · rcases List.mem_append.1 hy with hy | hy
    · exact h.fl y hy
    · simp at hy; subst hy; exact ht

/-- The region 'chairs[n].Open(b, entries[n].Entry())': what has been done. -/
def OoS (p : OnP) (V : Int → VtN) (C : Int → ChN) (hv : Int → Value) (wv : Value) (way : List FlM) (cz : En) (n r : Int) (y : En) (w4 : World) : List Value → World → Prop
  | [], wx => Fr (fun _ => False) w4 wx
  | [z], wx => ∃ v' u', z = y.val v' u' ∧ ES wx y v' u' ∧ AwayS (OnM p hv wv) y v' u' ∧ EnSmall y ∧ Fr (fun _ => False) w4 wx
  | [_, _], wx => Fr (OnM p hv wv) w4 wx ∧ OnS p wx V (upd C n (.open r n y)) (upd hv n nilS) wv way cz
  | _, _ => False
theorem OoS.fr {n r : Int} {y : En} {w4 wx : World} : ∀ {c : List Value}, OoS p V C hv wv way cz n r y w4 c wx → Fr (OnM p hv wv) w4 wx
  | [], h => Fr.mono h (fun _ _ h => h.elim)
  | [_], ⟨_, _, _, _, _, _, h⟩ => h.mono (fun _ _ h => h.elim)
  | [_, _], ⟨h, _⟩ => h
  | _ :: _ :: _ :: _, h => h.elim

theorem opWp_append {P : Program} {w : World} {o : Oper} {a : Act} {K : Act → World → Prop} {Q : Exit → Act → World → Prop} (s x : Operand) (t u : TypeId)
    (ho : o.op = .call { callee := .builtin .append, args := #[s, x], argTypes := #[t, u] })
    (base : Nat) (e : TypeId) (i : TypeInfo) (z : Value) (size bytes : Nat) (ht : P.underlying t = some (.slice e)) (du : TypeDesc) (hu : P.underlying u = some du) (hud : du = .string ∨ ∃ e', du = .slice e')
    (hi : P.info? e = some i) (hz : i.zero = some z)
    (hsize : i.size = size) (hby : i.bytes = bytes) (hzs : z.cells.size = size) (hsz : 0 < size)
    (v : Value) (n : Nat) (xs : List Value) (hs : a.eval s = v) (hown : w.ownsRow base e size v n xs)
    (xv : Value) (m : Nat) (news : List Value) (hx : a.eval x = xv) (hlen : ∀ w, (Builtin.lenOf xv).run P w = .ok m w) (hl : news.length = m * size)
    (hc : (Builtin.firstCells size m xv).run P w = .ok news.toArray w) (hc' : (Builtin.firstCells size m xv).run P w.drew = .ok news.toArray w.drew) (h1 : ∀ u ∈ news, u.oneCell' = true)
    (h63 : n + m ≤ maxLen) (hbytes : (n + m) * bytes ≤ 140737488355328) (hbase : base ≤ w.heap.size)
    (h : ∀ v' w', w'.ownsRow base e size v' (n + m) (xs ++ news) → w.grownBy w' v.ownBlock → (v'.ownBlock = v.ownBlock ∨ v'.ownBlock = some w.heap.size) → K (a.put o.dst v') w') : o.wp P a w K Q := by
  obtain ⟨v', w', hr, h2, h3, h4⟩ := run_append_sep (P := P) w base t u o.type e i z size bytes ht du hu hud hi hz hsize hby hzs hsz v n xs hown xv m news hlen hl hc hc' h1 h63 hbytes hbase
  unfold Oper.wp execOp
  simp only [ho, resolve, invoke, builtin, Sem.run_bind, Sem.run_pure, Result.andThen_ok, List.map_toArray, List.map_cons, List.map_nil, hs, hx, hr]
  exact h v' w' h2 h3 h4

/-- Some flights of a row, as append takes them. -/
theorem first_way {P : Program} {w : World} {B g cap : Nat} {l : List FlM} (h : WayOwn w B (.slice (some ⟨g, 0, none⟩) l.length cap) l) (a b c : Nat) (hab : a + b ≤ l.length) :
    (Builtin.firstCells 14 b (.slice (some ⟨g, a * 14, none⟩) b c)).run P w = .ok (((l.drop a).take b).flatMap FlM.cells).toArray w := by
  refine run_firstCells_some (P := P) w 14 b ⟨g, a * 14, none⟩ b c _ ?_ ?_
  · rw [flat_len FlM.cells 14 FlM.len, List.length_take, List.length_drop]
    congr 1
    omega
  · intro j v hj
    have hlt : j < b * 14 := by
      have h1 := (List.getElem?_eq_some_iff.1 hj).1
      rw [flat_len FlM.cells 14 FlM.len, List.length_take, List.length_drop] at h1
      have : min b (l.length - a) = b := by omega
      rw [this] at h1
      exact h1
    have h2 : (l.flatMap FlM.cells)[14 * a + j]? = some v := by
      rw [← flat_take FlM.cells 14 FlM.len, ← flat_drop FlM.cells 14 FlM.len, List.getElem?_take_of_lt (by omega), List.getElem?_drop] at hj
      exact hj
    have h3 := World.ownsRow.cells (h := h) (g := g) rfl (14 * a + j) v h2
    have e1 : (⟨g, 0, none⟩ : Addr).add (14 * a + j) = ⟨g, a * 14 + j, none⟩ := by
      unfold Addr.add
      rw [Nat.mul_comm]
      split <;> simp_all
    have e2 : (⟨g, a * 14, none⟩ : Addr).add j = ⟨g, a * 14 + j, none⟩ := by unfold Addr.add; split <;> simp_all
    rw [e1] at h3
    rw [e2]
    exact h3

/-- Append of some flights onto a row of flights that is owned alone. -/
theorem opWp_fls {w : World} {o : Oper} {a : Act} {K : Act → World → Prop} {Q : Exit → Act → World → Prop} (s x : Operand)
    (ho : o.op = .call { callee := .builtin .append, args := #[s, x], argTypes := #[51, 51] })
    (B : Nat) (v : Value) (acc : List FlM) (hs : a.eval s = v) (hown : WayOwn w B v acc) (news : List FlM) (xv : Value) (hx : a.eval x = xv) (hlen : ∀ w, (Builtin.lenOf xv).run Try.prog w = .ok news.length w)
    (hc : (Builtin.firstCells 14 news.length xv).run Try.prog w = .ok (news.flatMap FlM.cells).toArray w) (hc' : (Builtin.firstCells 14 news.length xv).run Try.prog w.drew = .ok (news.flatMap FlM.cells).toArray w.drew)
    (h1 : ∀ y ∈ news, y.v.oneCell' = true ∧ y.u.oneCell' = true) (hl : acc.length + news.length ≤ 100000) (hB : B ≤ w.heap.size)
    (h : ∀ v' w', WayOwn w' B v' (acc ++ news) → w.grownBy w' v.ownBlock → (v'.ownBlock = v.ownBlock ∨ v'.ownBlock = some w.heap.size) → K (a.put o.dst v') w') : o.wp Try.prog a w K Q := by
  obtain ⟨i0, hi, hz0, hz1, hz2⟩ := info_parts Try.infoFl
  refine opWp_append s x 51 51 ho B 59 i0 _ 14 136 Try.underlying51 _ Try.underlying51 (.inr ⟨_, rfl⟩) hi hz0 hz1 hz2 rfl (by decide)
    v acc.length _ hs hown xv news.length _ hx hlen (flat_len FlM.cells 14 FlM.len news) hc hc' (fun u hu => ?_) (by unfold maxLen; omega) (by omega) hB ?_
  · obtain ⟨y, hy, hu⟩ := List.mem_flatMap.1 hu
    exact fl_one y (h1 y hy).1 (h1 y hy).2 u hu
  · intro v' w' k1 k2 k3
    refine h v' w' ?_ k2 k3
    unfold WayOwn
    rw [List.length_append, List.flatMap_append]
    exact k1

/-- The region that takes a letter out: what has been done. -/
def WyS (p : OnP) (way : List FlM) (i : Nat) (w4 : World) : List Value → World → Prop
  | [], wx => Fr (fun _ => False) w4 wx
  | [b], wx => WayOwn wx p.B b [] ∧ (∀ k, b.ownBlock = some k → w4.heap.size ≤ k) ∧ Fr (fun _ => False) w4 wx
  | [_, b], wx => WayOwn wx p.B b (way.take i) ∧ (∀ k, b.ownBlock = some k → w4.heap.size ≤ k) ∧ Fr (fun _ => False) w4 wx
  | [_, _, b], wx => WayOwn wx p.B b (way.take i ++ way.drop (i + 1)) ∧ (∀ k, b.ownBlock = some k → w4.heap.size ≤ k) ∧ Fr (fun _ => False) w4 wx
  | [_, _, b, c], wx => c = b ∧ WayOwn wx p.B b (way.take i ++ way.drop (i + 1)) ∧ (∀ k, b.ownBlock = some k → w4.heap.size ≤ k) ∧ Fr (fun _ => False) w4 wx
  | _, _ => False
theorem WyS.fr {i : Nat} {w4 wx : World} : ∀ {c : List Value}, WyS p way i w4 c wx → Fr (fun _ => False) w4 wx
  | [], h => h
  | [_], h => h.2.2
  | [_, _], h => h.2.2
  | [_, _, _], h => h.2.2
  | [_, _, _, _], h => h.2.2.2
  | _ :: _ :: _ :: _ :: _ :: _, h => h.elim

theorem on_promised0 (h : OnS p w V C hv wv way cz) {n : Int} (hn : In6 n) :
    Calls Try.prog 7 #[.pointer (some ⟨p.vb n, 0, none⟩)] w fun e w' => e = .returned (ball (V n).pr (V n).pn) ∧ Fr (fun _ => False) w w' := promisedM (p.vb n) _ (V n) w (h.vt n hn)

theorem on_ballot (h : OnS p w V C hv wv way cz) {n : Int} (hn : In6 n) :
    Calls Try.prog 9 #[.pointer (some ⟨p.cb n, 0, none⟩)] w fun e w' => e = .returned (ball (C n).br (C n).bn) ∧ Fr (fun _ => False) w w' := by
  obtain ⟨v, u, h1, _⟩ := (h.ch n hn).1.row
  exact chballot_any (p.cb n) _ (C n) v u (hv n) w h1

theorem on_open (hf : OnF p) (h : OnS p w V C hv wv way cz) {n : Int} (hn : In6 n) {r m : Int} {y : En} {v' u' : Value} (hy : ES w y v' u') (ha : AwayS (OnM p hv wv) y v' u') (hsm : EnSmall y) :
    Calls Try.prog 10 #[.pointer (some ⟨p.cb n, 0, none⟩), ball r m, y.val v' u'] w fun e w' =>
      e = .returned (.tuple #[]) ∧ Fr (OnM p hv wv) w w' ∧ OnS p w' V (upd C n (.open r m y)) (upd hv n nilS) wv way cz := by
  have hc := (h.ch n hn).1
  obtain ⟨v, u, h1, h2, h3⟩ := hc.row
  have hcb : OnM p hv wv (p.cb n) := .inl ⟨n, hn, .inr (.inl rfl)⟩
  have ha1 : AwayS (fun k => k = p.cb n) y v' u' := ha.mono (fun k e => by rw [e]; exact hcb)
  refine (chopen_any (p.cb n) p.ma p.ms.length p.mc (C n) v u (hv n) r m y v' u' w h1 hy).mono ?_
  rintro e w' ⟨rfl, f, hr⟩
  have hs : ChS w' (p.cb n) p.B p.ms p.ma p.mc (.open r m y) nilS := ⟨⟨v', u', hr, hy.keepS ha1 f, ha1.mono (fun k hk => by
      rcases hk with hk | hk
      · exact hk
      · cases hk)⟩, hsm, World.ownsRow_nil _ _ _ _, Nat.le_trans hc.base f.size, (by show (0 : Int) ≤ 1; decide), (by show (1 : Int) ≤ 3; decide), List.nodup_nil, (fun n h => by cases h), hc.view.keep f (.inr (fun k hk e => (hc.vb k hk).2 e)), hc.vb, hc.few⟩
  exact ⟨rfl, f.mono (fun k _ e => by rw [e]; exact hcb), h.chair hf hn (f.mono (fun k _ e => .inl e)) hs (fun k hk => by cases hk) ⟨v', u', hr, hy, ha⟩⟩

theorem on_promise (hf : OnF p) (h : OnS p w V C hv wv way cz) {n : Int} (hn : In6 n) {r m : Int} :
    Calls Try.prog 12 #[.pointer (some ⟨p.vb n, 0, none⟩), ball r m] w fun e w' =>
      PromRetF w.heap.size (p.vb n) (V n) r m e w' ∧ EnSmall (V n).x ∧ Fr (OnM p hv wv) w w' ∧ OnS p w' (upd V n ((V n).promise r m)) C hv wv way cz := by
  have hb : OnM p hv wv (p.vb n) := .inl ⟨n, hn, .inl rfl⟩
  have hsm : EnSmall (V n).x := by obtain ⟨_, _, _, _, _, h4⟩ := h.vt n hn; exact h4
  refine (promiseM (p.vb n) _ (V n) r m w (h.vt n hn) hb).mono ?_
  rintro e w' ⟨hr, f, hs⟩
  exact ⟨hr, hsm, f.mono (fun k _ e => by rw [e]; exact hb), h.voter hf hn f hs⟩

theorem on_accept (hf : OnF p) (h : OnS p w V C hv wv way cz) {n : Int} (hn : In6 n) {r m : Int} {y : En} {v' u' : Value} (hy : ES w y v' u') (ha : AwayS (OnM p hv wv) y v' u') (hsm : EnSmall y) :
    Calls Try.prog 15 #[.pointer (some ⟨p.vb n, 0, none⟩), ball r m, y.val v' u'] w fun e w' =>
      e = .returned (.bool (!blt r m (V n).pr (V n).pn)) ∧ Fr (OnM p hv wv) w w' ∧ OnS p w' (upd V n ((V n).accept r m y)) C hv wv way cz := by
  have hb : OnM p hv wv (p.vb n) := .inl ⟨n, hn, .inl rfl⟩
  refine (acceptM (p.vb n) _ (V n) r m y v' u' w (h.vt n hn) hb hy ha hsm).mono ?_
  rintro e w' ⟨rfl, f, hs⟩
  exact ⟨rfl, f.mono (fun k _ e => by rw [e]; exact hb), h.voter hf hn f hs⟩

theorem upd_self {α : Type} (f : Int → α) (i : Int) : upd f i (f i) = f := by
  funext j
  unfold upd
  split
  · next e => rw [e]
  · rfl

theorem ChF_M {n : Int} (hn : In6 n) : ∀ k, ChF (p.cb n) (hv n) k → OnM p hv wv k := fun k e => by
  rcases e with e | e
  · exact .inl ⟨n, hn, .inr (.inl e)⟩
  · exact .inl ⟨n, hn, .inr (.inr e)⟩

theorem on_accepted (hf : OnF p) (h : OnS p w V C hv wv way cz) {n : Int} (hn : In6 n) {f r m : Int} :
    Calls Try.prog 16 #[.pointer (some ⟨p.cb n, 0, none⟩), .int .i64 f, ball r m] w fun e w' =>
      e = .returned (.bool ((C n).acceptedB p.ms f r m)) ∧ Fr (OnM p hv wv) w w' ∧ ∃ hv', OnS p w' V (upd C n ((C n).accepted p.ms f r m)) hv' wv way cz := by
  obtain ⟨hc, hca⟩ := h.ch n hn
  unfold ChN.acceptedB ChN.accepted
  cases he : expB p.ms (C n) 2 f r m with
  | false =>
    rw [if_neg (by simp), Bool.false_and, upd_self]
    refine (chaccepted_no (p.cb n) p.B p.ms p.ma p.mc (C n) (hv n) f r m w hc he).mono ?_
    rintro e w' ⟨rfl, f⟩
    exact ⟨rfl, f.mono (fun _ _ h => h.elim), hv, h.fr f⟩
  | true =>
    rw [if_pos rfl, Bool.true_and]
    refine (chaccepted_yes (p.cb n) p.B p.ms p.ma p.mc (C n) (hv n) f r m w hc he).mono ?_
    rintro e w' ⟨rfl, f', hv', hs, hnew, hkeep⟩
    refine ⟨rfl, f'.mono (fun k _ e => ChF_M hn k e), upd hv n hv', ?_⟩
    obtain ⟨v, u, h1, h2, _⟩ := hc.row
    have hx : ((C n).hear p.ms f).x = (C n).x := by unfold ChN.hear; split <;> rfl
    exact h.chair hf hn f' hs hnew ⟨v, u, hkeep v u h1, by rw [hx]; exact h2, by rw [hx]; exact hca v u h1⟩

theorem on_promised (hf : OnF p) (h : OnS p w V C hv wv way cz) {n : Int} (hn : In6 n) {f r m wr wn : Int} {y : En} {v' u' : Value} {s : Bool} (hy : ES w y v' u') (ha : AwayS (OnM p hv wv) y v' u') (hsm : EnSmall y) :
    Calls Try.prog 13 #[.pointer (some ⟨p.cb n, 0, none⟩), .int .i64 f, ball r m, ball wr wn, y.val v' u', .bool s] w fun e w' =>
      e = .returned (.bool ((C n).promisedB p.ms f r m wr wn y s)) ∧ Fr (OnM p hv wv) w w' ∧ ∃ hv', OnS p w' V (upd C n ((C n).promised p.ms f r m wr wn y s)) hv' wv way cz := by
  obtain ⟨hc, hca⟩ := h.ch n hn
  unfold ChN.promisedB ChN.promised
  cases he : expB p.ms (C n) 1 f r m with
  | false =>
    rw [if_neg (by simp), Bool.false_and, upd_self]
    refine (chpromised_no (p.cb n) p.B p.ms p.ma p.mc (C n) (hv n) f r m wr wn y v' u' s w hc hy he).mono ?_
    rintro e w' ⟨rfl, f⟩
    exact ⟨rfl, f.mono (fun _ _ h => h.elim), hv, h.fr f⟩
  | true =>
    rw [if_pos rfl, Bool.true_and]
    refine (chpromised_yes (p.cb n) p.B p.ms p.ma p.mc (C n) (hv n) f r m wr wn y v' u' s w hc hy (ha.mono (ChF_M hn)) hsm he).mono ?_
    rintro e w' ⟨rfl, f', hv', hs, hnew, hkeep⟩
    refine ⟨rfl, f'.mono (fun k _ e => ChF_M hn k e), upd hv n hv', ?_⟩
    obtain ⟨v, u, h1, h2, _⟩ := hc.row
    have hx : (((C n).report wr wn y s).hear p.ms f).x = ((C n).report wr wn y s).x := by unfold ChN.hear; split <;> rfl
    have hk := hkeep v u h1
    refine h.chair hf hn f' hs hnew ⟨_, _, hk, ?_, ?_⟩
    · rw [hx]
      unfold ChN.report pickB
      split
      · exact hy
      · exact h2
    · rw [hx]
      unfold ChN.report pickB
      split
      · exact ha
      · exact hca v u h1

theorem on_entry (h : OnS p w V C hv wv way cz) {n : Int} (hn : In6 n) (hp : (C n).ph = 2 ∨ (C n).ph = 3) :
    Calls Try.prog 14 #[.pointer (some ⟨p.cb n, 0, none⟩)] w fun e w' => ∃ v' u', e = .returned (.tuple #[(C n).x.val v' u', .bool true]) ∧ ES w' (C n).x v' u' ∧ Fr (fun _ => False) w w' ∧ AwayS (OnM p hv wv) (C n).x v' u' ∧ EnSmall (C n).x := by
  obtain ⟨hc, _⟩ := h.ch n hn
  refine (chentry_any (p.cb n) p.B p.ms p.ma p.mc (C n) (hv n) w hc hp).mono ?_
  rintro e w' ⟨v', u', rfl, he, f, hfr⟩
  exact ⟨v', u', rfl, he, f, fresh_away hfr h.Mlt, hc.small⟩

end
end
section
set_option maxRecDepth 100000

section
variable {p : OnP} {q : OnQ} {w w' w4 wx wy : World} {V V' : Int → VtN} {C C' : Int → ChN} {hv : Int → Value} {wv : Value} {way : List FlM} {cz : En}

theorem onM_ext {wv' : Value} (hnew : ∀ k, wv'.ownBlock = some k → wv.ownBlock = some k ∨ w.heap.size ≤ k) : MExt w (OnM p hv wv) (OnM p hv wv') := by
  intro k hlt hk
  rcases hk with e | e | e
  · exact .inl e
  · rcases hnew k e with h | h
    · exact .inr (.inl h)
    · omega
  · exact .inr (.inr e)

/-- A region with one call that changes voters or chairs, and tells a bool. -/
def OaS (p : OnP) (V' : Int → VtN) (C' : Int → ChN) (hv : Int → Value) (wv : Value) (way : List FlM) (cz : En) (b : Bool) (w4 : World) : List Value → World → Prop
  | [], wx => Fr (fun _ => False) w4 wx
  | [z], wx => z = .bool b ∧ Fr (OnM p hv wv) w4 wx ∧ ∃ hv', OnS p wx V' C' hv' wv way cz
  | _, _ => False
theorem OaS.fr {b : Bool} : ∀ {c : List Value} {wx : World}, OaS p V' C' hv wv way cz b w4 c wx → Fr (OnM p hv wv) w4 wx
  | [], _, h => Fr.mono h (fun _ _ h => h.elim)
  | [_], _, h => h.2.1
  | _ :: _ :: _, _, h => h.elim

/-- What a promise tells. -/
def prA (st : VtN) (r n : Int) : Int := if blt st.pr st.pn r n = true then st.ar else 0
def prB (st : VtN) (r n : Int) : Int := if blt st.pr st.pn r n = true then st.an else 0
def prS (st : VtN) (r n : Int) : Bool := if blt st.pr st.pn r n = true then st.s else false
def prX (st : VtN) (r n : Int) : En := if blt st.pr st.pn r n = true then st.x else En.zero
abbrev oVt (st : VtN) (v u : Value) : Obj := oVr st.pr st.pn st.ar st.an st.x.k st.x.t st.x.n st.x.p v u st.s
def prV (st : VtN) (r n : Int) (v u : Value) : Value := .tuple #[ball (prA st r n) (prB st r n), (prX st r n).val v u, .bool (prS st r n), .bool (blt st.pr st.pn r n)]

theorem prx_small {st : VtN} {r n : Int} (h : EnSmall st.x) : EnSmall (prX st r n) := by
  unfold prX
  split
  · exact h
  · exact small_zero

theorem promise_k {b : Nat} {M : Nat → Prop} {st : VtN} (r n : Int) (w : World) {vo uo : Value} (h1 : w.heap[b]? = some (oVt st vo uo)) (h2 : ES w st.x vo uo) (h3 : AwayS M st.x vo uo) (h4 : EnSmall st.x) (hb : M b) :
    Calls Try.prog 12 #[.pointer (some ⟨b, 0, none⟩), ball r n] w fun e w' =>
      ∃ v' u', e = .returned (prV st r n v' u') ∧ ES w' (prX st r n) v' u' ∧ FreshE w v' u' ∧ Fr (fun k => k = b) w w' ∧ w'.heap[b]? = some (oVt (st.promise r n) vo uo) := by
  refine (promise_any b st.pr st.pn st.ar st.an st.x vo uo st.s r n w h1 h2 (aws_away h3 hb) h4.1 h4.2).mono ?_
  rintro e w' ⟨f, hno, hyes⟩
  unfold prV prA prB prS prX VtN.promise
  cases hbl : blt st.pr st.pn r n with
  | false =>
    obtain ⟨rfl, hv⟩ := hno hbl
    exact ⟨nilS, nilS, rfl, es_zero _, ⟨fun k hk => (by cases hk), fun k hk => (by cases hk)⟩, f, hv⟩
  | true =>
    obtain ⟨⟨v', u', rfl, he, -, hf1, hf2⟩, hv⟩ := hyes hbl
    exact ⟨v', u', rfl, he, ⟨hf1, hf2⟩, f, hv⟩

/-- The region 'was, x, is, ok := voters[f.to].Promise(f.ballot)': what has been done. -/
structure PmS (b : Nat) (st : VtN) (r n : Int) (vo uo : Value) (w4 : World) (v' u' : Value) (s : Nat → Option Value) (wx : World) : Prop where
  fr : Fr (fun k => k = b) w4 wx
  n6 : s 6 = none → Fr (fun _ => False) w4 wx
  y6 : s 6 ≠ none → wx.heap[b]? = some (oVt (st.promise r n) vo uo) ∧ ES wx (prX st r n) v' u' ∧ AwayS (fun k => k < w4.heap.size) (prX st r n) v' u'
  v6 : ∀ v, s 6 = some v → v = prV st r n v' u'
  v7 : ∀ v, s 7 = some v → v = prV st r n v' u'
  v9 : ∀ v, s 9 = some v → v = (prX st r n).val v' u'
  d9 : s 7 = none → s 9 = none
  d6 : s 9 ≠ none → s 6 ≠ none
  d7 : s 7 ≠ none → s 6 ≠ none
  a12 : ∀ v, s 12 = some v → ∃ g, v = .pointer (some ⟨g, 0, none⟩) ∧ w4.heap.size ≤ g ∧ wx.heap[g]? = some (if s 14 = none then oBa 0 0 else oBa (prA st r n) (prB st r n)) ∧ (s 6 ≠ none → AwayS (fun k => k = g) (prX st r n) v' u')
  a13 : ∀ v, s 13 = some v → ∃ g, v = .pointer (some ⟨g, 0, none⟩) ∧ w4.heap.size ≤ g ∧ wx.heap[g]? = some (if s 15 = none then oEn 0 0 0 0 nilS nilS else (prX st r n).obj v' u') ∧ (s 6 ≠ none → AwayS (fun k => k = g) (prX st r n) v' u')

abbrev pset (s : Nat → Option Value) (i : Nat) (v : Value) : Nat → Option Value := fun j => if j = i then some v else s j

variable {b : Nat} {st : VtN} {r n : Int} {vo uo v' u' : Value} {s : Nat → Option Value}

theorem PmS.new (hb : b < w4.heap.size) (hf : Fr (fun _ => False) w4 wx) : PmS b st r n vo uo w4 nilS nilS (fun _ => none) wx :=
  ⟨hf.mono (fun _ _ h => h.elim), fun _ => hf, fun h => absurd rfl h, fun _ h => (by cases h), fun _ h => (by cases h), fun _ h => (by cases h), fun _ => rfl, fun h => absurd rfl h, fun h => absurd rfl h, fun _ h => (by cases h), fun _ h => (by cases h)⟩

theorem es_away {M : Nat → Prop} {x : En} {v u : Value} (h : ES w x v u) (hM : ∀ k, M k → w.heap.size ≤ k) : AwayS M x v u := h.old.mono hM

theorem PmS.call (h : PmS b st r n vo uo w4 v' u' s wx) (hb : b < w4.heap.size) (h6 : s 6 = none) (h7 : s 7 = none) (h15 : s 15 = none) {v1 u1 : Value} (he : ES wy (prX st r n) v1 u1) (hf : FreshE wx v1 u1) (f : Fr (fun k => k = b) wx wy) (hr : wy.heap[b]? = some (oVt (st.promise r n) vo uo)) :
    PmS b st r n vo uo w4 v1 u1 (pset s 6 (prV st r n v1 u1)) wy := by
  have h9 := h.d9 h7
  have hsz := h.fr.size
  refine ⟨h.fr.trans f (fun i _ e => e), fun e => by simp [pset] at e, fun _ => ⟨hr, he, fresh_away hf (fun k hk => by omega)⟩, fun v e => ?_, fun v e => ?_, fun v e => ?_, h.d9, fun _ e => (by simp [pset] at e), fun _ e => (by simp [pset] at e), fun v e => ?_, fun v e => ?_⟩
  · simp [pset] at e; exact e.symm
  · have e' : s 7 = some v := e
    rw [h7] at e'; cases e'
  · have e' : s 9 = some v := e
    rw [h9] at e'; cases e'
  · obtain ⟨g, e1, e2, e3, -⟩ := h.a12 v e
    have hg := lt_of_block e3
    exact ⟨g, e1, e2, crow_kept e3 f (fun e => by omega), fun _ => fresh_away hf (fun k hk => by omega)⟩
  · obtain ⟨g, e1, e2, e3, -⟩ := h.a13 v e
    have hg := lt_of_block e3
    rw [if_pos h15] at e3
    exact ⟨g, e1, e2, by show _ = some (if s 15 = none then _ else _); rw [if_pos h15]; exact crow_kept e3 f (fun e => by omega), fun _ => fresh_away hf (fun k hk => by omega)⟩

theorem PmS.s7 (h : PmS b st r n vo uo w4 v' u' s wx) {v : Value} (h6 : s 6 = some v) : PmS b st r n vo uo w4 v' u' (pset s 7 (prV st r n v' u')) wx :=
  ⟨h.fr, h.n6, h.y6, h.v6, fun z e => (by simp [pset] at e; exact e.symm), h.v9, fun e => (by simp [pset] at e), h.d6, fun _ e => (by have e' : s 6 = none := e; rw [h6] at e'; cases e'), h.a12, h.a13⟩

theorem PmS.s9 (h : PmS b st r n vo uo w4 v' u' s wx) {v : Value} (h7 : s 7 = some v) : PmS b st r n vo uo w4 v' u' (pset s 9 ((prX st r n).val v' u')) wx :=
  ⟨h.fr, h.n6, h.y6, h.v6, h.v7, fun z e => (by simp [pset] at e; exact e.symm), fun e => (by have e' : s 7 = none := e; rw [h7] at e'; cases e'), fun _ e => h.d7 (by rw [h7]; exact Option.some_ne_none _) e, h.d7, h.a12, h.a13⟩

theorem PmS.alloc12 (h : PmS b st r n vo uo w4 v' u' s wx) (hb : b < w4.heap.size) (h14 : s 14 = none) : PmS b st r n vo uo w4 v' u' (pset s 12 (.pointer (some ⟨wx.heap.size, 0, none⟩))) (wx.alloc (oBa 0 0)) := by
  have f : Fr (fun _ => False) wx (wx.alloc (oBa 0 0)) := (Fr.refl _ _).alloc _
  have hsz := h.fr.size
  refine ⟨h.fr.trans f (fun _ _ h => h.elim), fun e => (h.n6 e).trans0 f, fun e => ⟨crow_kept (h.y6 e).1 f (fun h => h), (h.y6 e).2.1.fr f, (h.y6 e).2.2⟩, h.v6, h.v7, h.v9, h.d9, h.d6, h.d7, fun z e => ?_, fun z e => ?_⟩
  · have e1 : Value.pointer (some ⟨wx.heap.size, 0, none⟩) = z := by simpa [pset] using e
    refine ⟨_, e1.symm, hsz, ?_, fun e6 => es_away (h.y6 e6).2.1 (fun k hk => by omega)⟩
    show _ = some (if s 14 = none then _ else _)
    rw [if_pos h14]
    exact heap_alloc_new _ _
  · obtain ⟨g, e1, e2, e3, e4⟩ := h.a13 z e
    exact ⟨g, e1, e2, crow_kept e3 f (fun h => h), e4⟩

theorem PmS.alloc13 (h : PmS b st r n vo uo w4 v' u' s wx) (hb : b < w4.heap.size) (h15 : s 15 = none) : PmS b st r n vo uo w4 v' u' (pset s 13 (.pointer (some ⟨wx.heap.size, 0, none⟩))) (wx.alloc (oEn 0 0 0 0 nilS nilS)) := by
  have f : Fr (fun _ => False) wx (wx.alloc (oEn 0 0 0 0 nilS nilS)) := (Fr.refl _ _).alloc _
  have hsz := h.fr.size
  refine ⟨h.fr.trans f (fun _ _ h => h.elim), fun e => (h.n6 e).trans0 f, fun e => ⟨crow_kept (h.y6 e).1 f (fun h => h), (h.y6 e).2.1.fr f, (h.y6 e).2.2⟩, h.v6, h.v7, h.v9, h.d9, h.d6, h.d7, fun z e => ?_, fun z e => ?_⟩
  · obtain ⟨g, e1, e2, e3, e4⟩ := h.a12 z e
    exact ⟨g, e1, e2, crow_kept e3 f (fun h => h), e4⟩
  · have e1 : Value.pointer (some ⟨wx.heap.size, 0, none⟩) = z := by simpa [pset] using e
    refine ⟨_, e1.symm, hsz, ?_, fun e6 => es_away (h.y6 e6).2.1 (fun k hk => by omega)⟩
    show _ = some (if s 15 = none then _ else _)
    rw [if_pos h15]
    exact heap_alloc_new _ _

theorem PmS.store14 (h : PmS b st r n vo uo w4 v' u' s wx) (hb : b < w4.heap.size) {g : Nat} (h12 : s 12 = some (.pointer (some ⟨g, 0, none⟩))) (h6 : s 6 ≠ none) (h14 : s 14 = none) (h15 : s 15 = none) (z : Value)
    (q : wy.heap[g]? = some (oBa (prA st r n) (prB st r n))) (f : Fr (fun k => k = g) wx wy) : PmS b st r n vo uo w4 v' u' (pset s 14 z) wy := by
  obtain ⟨g', e1, e2, e3, e4⟩ := h.a12 _ h12
  rw [if_pos h14] at e3
  have eg : g' = g := by simpa using e1.symm
  rw [eg] at e2 e3 e4
  refine ⟨h.fr.trans f (fun i hi e => by omega), fun e => absurd e h6, fun _ => ⟨crow_kept (h.y6 h6).1 f (fun e => by omega), (h.y6 h6).2.1.keepS (e4 h6) f, (h.y6 h6).2.2⟩, h.v6, h.v7, h.v9, h.d9, h.d6, h.d7, fun v e => ?_, fun v e => ?_⟩
  · have e' : s 12 = some v := e
    rw [h12] at e'
    refine ⟨g, (Option.some.inj e').symm, e2, ?_, fun _ => e4 h6⟩
    have hz : pset s 14 z 14 ≠ none := by simp [pset]
    rw [if_neg hz]
    exact q
  · have e' : s 13 = some v := e
    obtain ⟨g2, k1, k2, k3, k4⟩ := h.a13 v e'
    rw [if_pos h15] at k3
    refine ⟨g2, k1, k2, ?_, k4⟩
    show _ = some (if s 15 = none then _ else _)
    rw [if_pos h15]
    exact crow_kept k3 f (row_ne k3 e3 (by decide))

theorem PmS.store15 (h : PmS b st r n vo uo w4 v' u' s wx) (hb : b < w4.heap.size) {g : Nat} (h13 : s 13 = some (.pointer (some ⟨g, 0, none⟩))) (h6 : s 6 ≠ none) (h15 : s 15 = none) (z : Value)
    (q : wy.heap[g]? = some ((prX st r n).obj v' u')) (f : Fr (fun k => k = g) wx wy) : PmS b st r n vo uo w4 v' u' (pset s 15 z) wy := by
  obtain ⟨g', e1, e2, e3, e4⟩ := h.a13 _ h13
  rw [if_pos h15] at e3
  have eg : g' = g := by simpa using e1.symm
  rw [eg] at e2 e3 e4
  refine ⟨h.fr.trans f (fun i hi e => by omega), fun e => absurd e h6, fun _ => ⟨crow_kept (h.y6 h6).1 f (fun e => by omega), (h.y6 h6).2.1.keepS (e4 h6) f, (h.y6 h6).2.2⟩, h.v6, h.v7, h.v9, h.d9, h.d6, h.d7, fun v e => ?_, fun v e => ?_⟩
  · have e' : s 12 = some v := e
    obtain ⟨g2, k1, k2, k3, k4⟩ := h.a12 v e'
    refine ⟨g2, k1, k2, ?_, k4⟩
    show _ = some (if s 14 = none then _ else _)
    by_cases h14 : s 14 = none
    · rw [if_pos h14] at k3 ⊢
      exact crow_kept k3 f (row_ne k3 e3 (by decide))
    · rw [if_neg h14] at k3 ⊢
      exact crow_kept k3 f (row_ne k3 e3 (by decide))
  · have e' : s 13 = some v := e
    rw [h13] at e'
    refine ⟨g, (Option.some.inj e').symm, e2, ?_, fun _ => e4 h6⟩
    have hz : pset s 15 z 15 ≠ none := by simp [pset]
    rw [if_neg hz]
    exact q

/-- All of it done. -/
theorem PmS.done (hf : OnF p) (h0 : OnS p w4 V C hv wv way cz) {m : Int} (hn : In6 m) (hst : st = V m) (hbm : b = p.vb m) (h1 : ES w4 st.x vo uo) (h2 : AwayS (OnM p hv wv) st.x vo uo) (h3 : EnSmall st.x)
    (h : PmS b st r n vo uo w4 v' u' s wx) (h6 : s 6 ≠ none) : OnS p wx (upd V m ((V m).promise r n)) C hv wv way cz ∧ ES wx (prX st r n) v' u' ∧ AwayS (OnM p hv wv) (prX st r n) v' u' ∧ Fr (OnM p hv wv) w4 wx := by
  subst hst hbm
  have hM : OnM p hv wv (p.vb m) := .inl ⟨m, hn, .inl rfl⟩
  obtain ⟨k1, k2, k3⟩ := h.y6 h6
  have hx : ((V m).promise r n).x = (V m).x := by unfold VtN.promise; split <;> rfl
  refine ⟨h0.voter hf hn h.fr ⟨vo, uo, k1, ?_, ?_, ?_⟩, k2, k3.mono (fun k hk => h0.Mlt k hk), h.fr.mono (fun k _ e => by rw [e]; exact hM)⟩
  · rw [hx]; exact h1.keepS (h2.mono (fun k e => by rw [e]; exact hM)) h.fr
  · rw [hx]; exact h2
  · rw [hx]; exact h3
end
end
section
def mixU (u : Nat → Value) : Nat → List Bool → List Value → List Value
  | i, true :: m, _ :: l => u i :: mixU u (i + 1) m l
  | i, false :: m, x :: l => x :: mixU u (i + 1) m l
  | _, _, l => l

theorem mixU_t (u : Nat → Value) (i : Nat) (m : List Bool) (x : Value) (l : List Value) : mixU u i (true :: m) (x :: l) = u i :: mixU u (i + 1) m l := rfl
theorem mixU_f (u : Nat → Value) (i : Nat) (m : List Bool) (x : Value) (l : List Value) : mixU u i (false :: m) (x :: l) = x :: mixU u (i + 1) m l := rfl
theorem mixU_n (u : Nat → Value) (i : Nat) : mixU u i [] [] = [] := rfl

def HandM {D : Type} (mk : List Value → D → Act) (J : Nat → List Value → World → Prop) (d : D) (n : Nat) (a : Act) (w : World) : Prop := ∃ k fr, k < n ∧ a = mk fr d ∧ J k fr w

theorem HandM.intro {D : Type} {mk : List Value → D → Act} {J : Nat → List Value → World → Prop} {d : D} {n : Nat} {w : World} {fr : List Value} (k : Nat) (h1 : k < n) (h2 : J k fr w) : HandM mk J d n (mk fr d) w := ⟨k, fr, h1, rfl, h2⟩

theorem loop_mix {P : Program} {Q : Exit → Act → World → Prop} {c : Code} (mask : List Bool) (R : Nat → (Nat → Value) → World → Prop) (n0 : Nat) {fr0 : List Value} {w : World}
    (hm : mixU (fun i => fr0.getD i undef) 0 mask fr0 = fr0) (h0 : R n0 (fun i => fr0.getD i undef) w)
    (round : ∀ n u w, R n u w → ∀ (J : Nat → List Value → World → Prop) (K : Act → World → Prop), (∀ k fr w', mixU (fun i => fr.getD i undef) 0 mask fr0 = fr → R k (fun i => fr.getD i undef) w' → J k fr w') →
      (∀ a' w', HandM (fun (fr : List Value) (_ : Unit) => (⟨fr.toArray, []⟩ : Act)) J () n a' w' → K a' w') → c.wp P (Exit.then K Q) ⟨(mixU u 0 mask fr0).toArray, []⟩ w) :
    (Code.loop c).wp P Q ⟨fr0.toArray, []⟩ w := by
  refine wp_loop_ghost (fun n a w => ∃ u, R n u w ∧ a = (⟨(mixU u 0 mask fr0).toArray, []⟩ : Act)) n0 ⟨_, h0, by rw [hm]⟩ ?_
  rintro n a w ⟨u, hR, rfl⟩
  refine round n u w hR (fun k fr w' => mixU (fun i => fr.getD i undef) 0 mask fr0 = fr ∧ R k (fun i => fr.getD i undef) w') _ (fun k fr w' h1 h2 => ⟨h1, h2⟩) ?_
  rintro a' w' ⟨k, fr, hk, rfl, h1, h2⟩
  exact ⟨k, hk, _, h2, by rw [h1]⟩
end
section
open Go.ChangeShapes Go.WideShapes Go.ChangeAt Go.RowKit
set_option maxRecDepth 100000

/-- An act: its numbers, the entry. -/
structure CaE where
  k : Int
  n : Int
  r : Int
  o : Int
  so : Bool
  s : Sm
  a : Option Addr
  c : Nat

abbrev CaE.sl (x : CaE) : Value := x.s.sl x.a x.c
abbrev CaE.arr (x : CaE) : Array Value := #[.int .u8 x.k, .int .u8 x.n, .int .u8 x.r, .int .u8 x.o, .bool x.so, .int .u8 x.s.kind, .int .u16 x.s.c.t, .int .u16 x.s.c.n, .int .u16 x.s.c.p, x.sl, .int .u16 x.s.mb]
def CaE.cells (x : CaE) : List Value := [.int .u8 x.k, .int .u8 x.n, .int .u8 x.r, .int .u8 x.o, .bool x.so, .int .u8 x.s.kind, .int .u16 x.s.c.t, .int .u16 x.s.c.n, .int .u16 x.s.c.p, x.sl, .int .u16 x.s.mb]

def CaOk (w : World) (x : CaE) : Prop := ((0 ≤ x.k ∧ x.k ≤ 255) ∧ (0 ≤ x.n ∧ x.n ≤ 255) ∧ (0 ≤ x.r ∧ x.r ≤ 255) ∧ (0 ≤ x.o ∧ x.o ≤ 255)) ∧ SeesO w x.sl x.s.c.l ∧ x.s.ok

/-- A move. -/
structure MvE where
  n : Int
  l : Int
  op : Bool
  ag : Bool
abbrev MvE.arr (x : MvE) : Array Value := #[.int .u8 x.n, .int .u8 x.l, .bool x.op, .bool x.ag]
def MvE.cells (x : MvE) : List Value := [.int .u8 x.n, .int .u8 x.l, .bool x.op, .bool x.ag]
def MvOk (_ : World) (x : MvE) : Prop := (0 ≤ x.n ∧ x.n ≤ 255) ∧ (0 ≤ x.l ∧ x.l ≤ 255)

theorem cellsOf_bool : Try.prog.cellsOf 4 = 1 := by kernel_rfl

def CaActs (w : World) (l : List CaE) (v : Value) : Prop :=
  (l = [] ∧ ∃ a c, v = .slice a 0 c) ∨
  ∃ g off cap, v = .slice (some ⟨g, off, none⟩) l.length cap ∧ l.length ≤ cap ∧ ∀ j x, l[j]? = some x → CaOk w x ∧ ∀ i v, x.cells[i]? = some v → w.cell? ⟨g, off + j * 11 + i, none⟩ = some v

section
variable {H : Type} (enc : TypeId × Value → H) (w : World)

end

def MvActs (w : World) (l : List MvE) (v : Value) : Prop :=
  (l = [] ∧ ∃ a c, v = .slice a 0 c) ∨
  ∃ g off cap, v = .slice (some ⟨g, off, none⟩) l.length cap ∧ l.length ≤ cap ∧ ∀ j x, l[j]? = some x → MvOk w x ∧ ∀ i v, x.cells[i]? = some v → w.cell? ⟨g, off + j * 4 + i, none⟩ = some v

theorem cellsOf_MvE : Try.prog.cellsOf 53 = 4 := by kernel_rfl

section
variable {H : Type} (enc : TypeId × Value → H) (w : World)

theorem mv_reads {fuel : Nat} {cs : List Value} {y : DataW H × List MemPlace} (h : DataW.trod enc Try.prog w 0 (fun _ => true) true fuel 53 cs = some y) : ∃ x : MvE, cs = x.cells ∧ MvOk w x := by
  obtain ⟨xs, n, rfl, hy0, hl, hlen, hf⟩ := DataW.trod_struct Try.underlying53 h
  rw [cellsOf_MvE] at hl
  match cs, hl with
  | [c0, c1, c2, c3], _ =>
  have f0 : DataW.trod enc Try.prog w 0 (fun _ => true) true n 5 (List.take (Try.prog.cellsOf 5) (List.drop 0 [c0, c1, c2, c3])) = xs[0]? := hf 0 _ rfl
  have f1 : DataW.trod enc Try.prog w 0 (fun _ => true) true n 5 (List.take (Try.prog.cellsOf 5) (List.drop 1 [c0, c1, c2, c3])) = xs[1]? := hf 1 _ rfl
  have f2 : DataW.trod enc Try.prog w 0 (fun _ => true) true n 4 (List.take (Try.prog.cellsOf 4) (List.drop 2 [c0, c1, c2, c3])) = xs[2]? := hf 2 _ rfl
  have f3 : DataW.trod enc Try.prog w 0 (fun _ => true) true n 4 (List.take (Try.prog.cellsOf 4) (List.drop 3 [c0, c1, c2, c3])) = xs[3]? := hf 3 _ rfl
  have hl5 : xs.length = 4 := hlen
  rw [List.getElem?_eq_getElem (by omega)] at f0 f1 f2 f3
  simp only [cellsOf_u8, cellsOf_bool, cellsOf_Sm, List.drop_zero, List.drop_succ_cons, List.take_succ_cons, List.take_zero] at f0 f1 f2 f3
  obtain ⟨k0, h0, e0⟩ := int_reads enc w Try.underlying5 f0
  obtain ⟨k1, h1, e1⟩ := int_reads enc w Try.underlying5 f1
  obtain ⟨k2, e2⟩ := bool_reads enc w Try.underlying4 f2
  obtain ⟨k3, e3⟩ := bool_reads enc w Try.underlying4 f3
  simp at e0 e1 e2 e3
  subst e0 e1 e2 e3
  exact ⟨⟨k0, k1, k2, k3⟩, rfl, bounds_u8 h0, bounds_u8 h1⟩

theorem mv_each {fuel : Nat} {cs : List Value} {x : DataW H × List MemPlace} (h : DataW.trod enc Try.prog w 0 (fun _ => true) true fuel 29 cs = some x) :
    (∃ a, cs = [.slice a 0 0]) ∨ ∃ a len cap, cs = [.slice a len cap] ∧ len ≤ cap ∧ (len = 0 ∨ ∃ b o, a = some ⟨b, o, none⟩ ∧ ∀ i, i < len → ∃ y : MvE, MvOk w y ∧ ∀ j v, y.cells[j]? = some v → w.cell? ⟨b, o + i * 4 + j, none⟩ = some v) := by
  rcases slice_each enc w Try.underlying29 cellsOf_MvE (by omega) h with ⟨a, rfl⟩ | ⟨a, len, cap, n', hn, rfl, hle, hc, rfl | ⟨b, o, rfl, each⟩⟩
  · exact .inl ⟨_, rfl⟩
  · exact .inr ⟨a, 0, cap, rfl, hle, .inl rfl⟩
  · refine .inr ⟨_, len, cap, rfl, hle, .inr ⟨b, o, rfl, fun i hi => ?_⟩⟩
    obtain ⟨cs', y, h3, hcell⟩ := each i hi
    obtain ⟨z, rfl, hok⟩ := mv_reads enc w h3
    exact ⟨z, hok, fun j v hv => hcell j v hv (by have := (List.getElem?_eq_some_iff.1 hv).1; simpa [MvE.cells] using this)⟩

theorem mv_any {v : Value} {d : DataW H} {p : List MemPlace} {base : Nat} (hval : Value.okWide Try.prog w .any base 29 v)
    (h : DataW.Trod enc Try.prog w 0 (fun _ => true) true 29 v d p) : ∃ l, MvActs w l v := by
  obtain ⟨a, len, cap, rfl⟩ := okWide_slice Try.underlying29 hval
  obtain ⟨fuel, hf⟩ := h
  rcases mv_each enc w hf with ⟨a', e⟩ | ⟨a', len', cap', e, hle, hc | ⟨b, o, rfl, each⟩⟩
  · simp [Value.cells] at e
    obtain ⟨rfl, rfl, rfl⟩ := e
    exact ⟨[], .inl ⟨rfl, _, _, rfl⟩⟩
  · simp [Value.cells] at e
    obtain ⟨rfl, rfl, rfl⟩ := e
    subst hc
    exact ⟨[], .inl ⟨rfl, _, _, rfl⟩⟩
  · simp [Value.cells] at e
    obtain ⟨rfl, rfl, rfl⟩ := e
    have ch : ∀ i, ∃ x : MvE, i < len → MvOk w x ∧ ∀ j v, x.cells[j]? = some v → w.cell? ⟨b, o + i * 4 + j, none⟩ = some v := by
      intro i
      by_cases hi : i < len
      · obtain ⟨x, hok, hcell⟩ := each i hi
        exact ⟨x, fun _ => ⟨hok, hcell⟩⟩
      · exact ⟨⟨0, 0, false, false⟩, fun h => absurd h hi⟩
    obtain ⟨of, hof⟩ := Classical.axiomOfChoice ch
    refine ⟨(List.range len).map of, .inr ⟨b, o, cap, by simp, by simpa using hle, fun j x hj => ?_⟩⟩
    rw [List.getElem?_map] at hj
    by_cases hlt : j < len
    · rw [List.getElem?_range hlt] at hj
      cases hj
      exact hof j hlt
    · rw [List.getElem?_eq_none (by simp; omega)] at hj
      cases hj
end
end
section
set_option maxRecDepth 100000

abbrev oSm6 (s : Sm) (v : Value) : Obj := Obj.cells #[.int .u8 s.kind, .int .u16 s.c.t, .int .u16 s.c.n, .int .u16 s.c.p, v, .int .u16 s.mb] 27 (0, 0)

abbrev oMv (x : MvE) : Obj := Obj.cells x.arr 53 (0, 0)
theorem mod_nat (a : Int) (b : Nat) (h : 0 ≤ a) : a % (b : Int) = ((a.toNat % b : Nat) : Int) := by
  obtain ⟨n, rfl⟩ : ∃ n : Nat, a = n := ⟨a.toNat, by omega⟩
  simp
theorem mv_cells {w : World} {g : Nat} {x : MvE} (h : w.heap[g]? = some (oMv x)) : w.cell? ⟨g, 0, none⟩ = some (.int .u8 x.n) ∧ w.cell? ⟨g, 1, none⟩ = some (.int .u8 x.l) ∧ w.cell? ⟨g, 2, none⟩ = some (.bool x.op) ∧ w.cell? ⟨g, 3, none⟩ = some (.bool x.ag) := by
  simp [World.cell?, h]

theorem arr6_ext (f g : Nat → Value) (h : ∀ i, i < 6 → f i = g i) : arr6 f = arr6 g := by
  unfold arr6
  rw [h 0 (by omega), h 1 (by omega), h 2 (by omega), h 3 (by omega), h 4 (by omega), h 5 (by omega)]

/-- How the boards of voters and chairs stand behind k rounds. -/
structure BdK (w : World) (gV gC N k : Nat) (ma : Option Addr) (mc : Nat) (ms : List Int) (vn cn : Nat → Nat) : Prop where
  rv : ∃ f, w.heap[gV]? = some (oVs f) ∧ ∀ i, i < k → f i = .pointer (some ⟨vn i, 0, none⟩)
  rc : ∃ f, w.heap[gC]? = some (oCs f) ∧ ∀ i, i < k → f i = .pointer (some ⟨cn i, 0, none⟩)
  v : ∀ i, i < k → N ≤ vn i ∧ w.heap[vn i]? = some (oVr 0 0 0 0 0 0 0 0 nilS nilS false)
  c : ∀ i, i < k → N ≤ cn i ∧ w.heap[cn i]? = some (oCh (.slice ma ms.length mc) 0 0 0 0 0 0 0 nilS nilS 0 0 false nilS)
  vi : ∀ i j, i < k → j < k → vn i = vn j → i = j
  ci : ∀ i j, i < k → j < k → cn i = cn j → i = j

/-- One round: what has been done of it. -/
def RdV (w0 : World) (gV gC k : Nat) (fV fC : Nat → Value) (ma : Option Addr) (mc : Nat) (ms : List Int) : List (Value → World → Prop) :=
  [fun v _ => v = .int .i64 k, fun v _ => v = .int .i64 k, fun v _ => v = .agg #[.int .i64 0, .int .i64 0, .int .i64 0, .int .i64 0, .int .u8 0, .int .u16 0, .int .u16 0, .int .i64 0, nilS, nilS, .bool false],
   fun v wx => ∃ b, v = .pointer (some ⟨b, 0, none⟩) ∧ w0.heap.size ≤ b ∧ wx.heap[b]? = some (oVr 0 0 0 0 0 0 0 0 nilS nilS false),
   fun v _ => v = .agg #[.int .i64 0, .slice ma ms.length mc],
   fun v wx => ∃ b, v = .pointer (some ⟨b, 0, none⟩) ∧ w0.heap.size ≤ b ∧ wx.heap[b]? = some (oCh (.slice ma ms.length mc) 0 0 0 0 0 0 0 nilS nilS 0 0 false nilS),
   fun v _ => v = .pointer (some ⟨gV, k, none⟩),
   fun _ wx => ∃ b, w0.heap.size ≤ b ∧ wx.heap[b]? = some (oVr 0 0 0 0 0 0 0 0 nilS nilS false) ∧ wx.heap[gV]? = some (oVs (fun j => if j = k then .pointer (some ⟨b, 0, none⟩) else fV j)),
   fun v _ => v = .pointer (some ⟨gC, k, none⟩),
   fun _ wx => ∃ b, w0.heap.size ≤ b ∧ wx.heap[b]? = some (oCh (.slice ma ms.length mc) 0 0 0 0 0 0 0 nilS nilS 0 0 false nilS) ∧ wx.heap[gC]? = some (oCs (fun j => if j = k then .pointer (some ⟨b, 0, none⟩) else fC j))]

theorem RdV_fr {w0 : World} {gV gC k : Nat} {fV fC : Nat → Value} {ma : Option Addr} {mc : Nat} {ms : List Int} {wx wa : World} (f : Fr (fun _ => False) wx wa) : ∀ j u, (RdV w0 gV gC k fV fC ma mc ms).getD j (fun _ _ => True) u wx → (RdV w0 gV gC k fV fC ma mc ms).getD j (fun _ _ => True) u wa := by
  intro j u
  have kp : ∀ (b : Nat) (cs : Array Value) (T : TypeId), wx.heap[b]? = some (Obj.cells cs T (0, 0)) → wa.heap[b]? = some (Obj.cells cs T (0, 0)) := fun b cs T h => crow_kept h f (fun h => h)
  match j with
  | 0 => exact id
  | 1 => exact id
  | 2 => exact id
  | 3 => rintro ⟨b, e, h1, h2⟩; exact ⟨b, e, h1, kp _ _ _ h2⟩
  | 4 => exact id
  | 5 => rintro ⟨b, e, h1, h2⟩; exact ⟨b, e, h1, kp _ _ _ h2⟩
  | 6 => exact id
  | 7 => rintro ⟨b, h1, h2, h3⟩; exact ⟨b, h1, kp _ _ _ h2, kp _ _ _ h3⟩
  | 8 => exact id
  | 9 => rintro ⟨b, h1, h2, h3⟩; exact ⟨b, h1, kp _ _ _ h2, kp _ _ _ h3⟩
  | n + 10 => exact fun _ => trivial

theorem wpList_load_row {P : Program} {w : World} {ops : Array Oper} {rest : List Oper} {o : Oper} {a : Act} {Q : Exit → Act → World → Prop} (hgd : o.guard = none) (t : TypeId) (x : Operand) (ho : o.op = .load t x)
    (b : Nat) (cs : Array Value) (T : TypeId) (fr : Nat × Nat) (hx : a.eval x = .pointer (some ⟨b, 0, none⟩)) (hg : w.heap[b]? = some (.cells cs T fr)) (d : TypeDesc) (hu : P.underlying t = some d)
    (hd : (match d with | .struct _ | .array _ _ => true | _ => false) = true) (hi : (P.info? t).map (·.size) = some cs.size)
    (h : wpList P ops Q rest (a.put o.dst (.agg cs)) w) : wpList P ops Q (o :: rest) a w := by
  have hr := run_loadVar_row w b T t cs fr d hg hu hd hi
  refine wpList_plain hgd fun _ hK => ?_
  unfold Oper.wp execOp
  simp only [ho, Instr.loadAt, Instr.sureAddr, hx, Sem.run_bind, Sem.run_pure, Result.andThen_ok, hr]
  exact hK _ _ h

theorem RdV_keep {S : Nat → Prop} {w0 : World} {gV gC k : Nat} {fV fC : Nat → Value} {ma : Option Addr} {mc : Nat} {ms : List Int} {wx wa : World} (f : Fr S wx wa) (hb : ∀ b, w0.heap.size ≤ b → ¬ S b) (x : Nat) (hV : x ≠ 7 → ¬ S gV) (hC : x ≠ 9 → ¬ S gC) : ∀ j u, j ≠ x → (RdV w0 gV gC k fV fC ma mc ms).getD j (fun _ _ => True) u wx → (RdV w0 gV gC k fV fC ma mc ms).getD j (fun _ _ => True) u wa := by
  intro j u hj
  match j with
  | 0 => exact id
  | 1 => exact id
  | 2 => exact id
  | 3 => rintro ⟨b, e, h1, h2⟩; exact ⟨b, e, h1, crow_kept h2 f (hb b h1)⟩
  | 4 => exact id
  | 5 => rintro ⟨b, e, h1, h2⟩; exact ⟨b, e, h1, crow_kept h2 f (hb b h1)⟩
  | 6 => exact id
  | 7 => rintro ⟨b, h1, h2, h3⟩; exact ⟨b, h1, crow_kept h2 f (hb b h1), crow_kept h3 f (hV (by omega))⟩
  | 8 => exact id
  | 9 => rintro ⟨b, h1, h2, h3⟩; exact ⟨b, h1, crow_kept h2 f (hb b h1), crow_kept h3 f (hC (by omega))⟩
  | n + 10 => exact fun _ => trivial

theorem once_ix0 (x0 x1 x2 x3 x4 x5 x6 x7 x8 x9 x10 x11 x12 x13 x14 x15 x16 x17 x18 x19 x20 x21 x22 x23 x24 x25 x26 x27 x28 x29 x30 x31 x32 x33 x34 x35 : Value) (w : World) : (Instr.index 28 (.agg #[x0, x1, x2, x3, x4, x5, x6, x7, x8, x9, x10, x11, x12, x13, x14, x15, x16, x17, x18, x19, x20, x21, x22, x23, x24, x25, x26, x27, x28, x29, x30, x31, x32, x33, x34, x35]) (.int .i64 0)).run Try.prog w = .ok (.agg #[x0, x1, x2, x3, x4, x5]) w := by kernel_rfl
theorem once_ix1 (x0 x1 x2 x3 x4 x5 x6 x7 x8 x9 x10 x11 x12 x13 x14 x15 x16 x17 x18 x19 x20 x21 x22 x23 x24 x25 x26 x27 x28 x29 x30 x31 x32 x33 x34 x35 : Value) (w : World) : (Instr.index 28 (.agg #[x0, x1, x2, x3, x4, x5, x6, x7, x8, x9, x10, x11, x12, x13, x14, x15, x16, x17, x18, x19, x20, x21, x22, x23, x24, x25, x26, x27, x28, x29, x30, x31, x32, x33, x34, x35]) (.int .i64 1)).run Try.prog w = .ok (.agg #[x6, x7, x8, x9, x10, x11]) w := by kernel_rfl
theorem once_ix2 (x0 x1 x2 x3 x4 x5 x6 x7 x8 x9 x10 x11 x12 x13 x14 x15 x16 x17 x18 x19 x20 x21 x22 x23 x24 x25 x26 x27 x28 x29 x30 x31 x32 x33 x34 x35 : Value) (w : World) : (Instr.index 28 (.agg #[x0, x1, x2, x3, x4, x5, x6, x7, x8, x9, x10, x11, x12, x13, x14, x15, x16, x17, x18, x19, x20, x21, x22, x23, x24, x25, x26, x27, x28, x29, x30, x31, x32, x33, x34, x35]) (.int .i64 2)).run Try.prog w = .ok (.agg #[x12, x13, x14, x15, x16, x17]) w := by kernel_rfl
theorem once_ix3 (x0 x1 x2 x3 x4 x5 x6 x7 x8 x9 x10 x11 x12 x13 x14 x15 x16 x17 x18 x19 x20 x21 x22 x23 x24 x25 x26 x27 x28 x29 x30 x31 x32 x33 x34 x35 : Value) (w : World) : (Instr.index 28 (.agg #[x0, x1, x2, x3, x4, x5, x6, x7, x8, x9, x10, x11, x12, x13, x14, x15, x16, x17, x18, x19, x20, x21, x22, x23, x24, x25, x26, x27, x28, x29, x30, x31, x32, x33, x34, x35]) (.int .i64 3)).run Try.prog w = .ok (.agg #[x18, x19, x20, x21, x22, x23]) w := by kernel_rfl
theorem once_ix4 (x0 x1 x2 x3 x4 x5 x6 x7 x8 x9 x10 x11 x12 x13 x14 x15 x16 x17 x18 x19 x20 x21 x22 x23 x24 x25 x26 x27 x28 x29 x30 x31 x32 x33 x34 x35 : Value) (w : World) : (Instr.index 28 (.agg #[x0, x1, x2, x3, x4, x5, x6, x7, x8, x9, x10, x11, x12, x13, x14, x15, x16, x17, x18, x19, x20, x21, x22, x23, x24, x25, x26, x27, x28, x29, x30, x31, x32, x33, x34, x35]) (.int .i64 4)).run Try.prog w = .ok (.agg #[x24, x25, x26, x27, x28, x29]) w := by kernel_rfl
theorem once_ix5 (x0 x1 x2 x3 x4 x5 x6 x7 x8 x9 x10 x11 x12 x13 x14 x15 x16 x17 x18 x19 x20 x21 x22 x23 x24 x25 x26 x27 x28 x29 x30 x31 x32 x33 x34 x35 : Value) (w : World) : (Instr.index 28 (.agg #[x0, x1, x2, x3, x4, x5, x6, x7, x8, x9, x10, x11, x12, x13, x14, x15, x16, x17, x18, x19, x20, x21, x22, x23, x24, x25, x26, x27, x28, x29, x30, x31, x32, x33, x34, x35]) (.int .i64 5)).run Try.prog w = .ok (.agg #[x30, x31, x32, x33, x34, x35]) w := by kernel_rfl

theorem once_ix (e : Nat → Sm) (ea : Nat → Option Addr) (ec : Nat → Nat) (k : Nat) (hk : k < 6) (w : World) : (Instr.index 28 (.agg #[.int .u8 (e 0).kind, .int .u16 (e 0).c.t, .int .u16 (e 0).c.n, .int .u16 (e 0).c.p, (e 0).sl (ea 0) (ec 0), .int .u16 (e 0).mb, .int .u8 (e 1).kind, .int .u16 (e 1).c.t, .int .u16 (e 1).c.n, .int .u16 (e 1).c.p, (e 1).sl (ea 1) (ec 1), .int .u16 (e 1).mb, .int .u8 (e 2).kind, .int .u16 (e 2).c.t, .int .u16 (e 2).c.n, .int .u16 (e 2).c.p, (e 2).sl (ea 2) (ec 2), .int .u16 (e 2).mb, .int .u8 (e 3).kind, .int .u16 (e 3).c.t, .int .u16 (e 3).c.n, .int .u16 (e 3).c.p, (e 3).sl (ea 3) (ec 3), .int .u16 (e 3).mb, .int .u8 (e 4).kind, .int .u16 (e 4).c.t, .int .u16 (e 4).c.n, .int .u16 (e 4).c.p, (e 4).sl (ea 4) (ec 4), .int .u16 (e 4).mb, .int .u8 (e 5).kind, .int .u16 (e 5).c.t, .int .u16 (e 5).c.n, .int .u16 (e 5).c.p, (e 5).sl (ea 5) (ec 5), .int .u16 (e 5).mb]) (.int .i64 k)).run Try.prog w = .ok (smV (e k) ((e k).sl (ea k) (ec k))) w := by
  obtain rfl | rfl | rfl | rfl | rfl | rfl : k = 0 ∨ k = 1 ∨ k = 2 ∨ k = 3 ∨ k = 4 ∨ k = 5 := by omega
  · exact once_ix0 _ _ _ _ _ _ _ _ _ _ _ _ _ _ _ _ _ _ _ _ _ _ _ _ _ _ _ _ _ _ _ _ _ _ _ _ w
  · exact once_ix1 _ _ _ _ _ _ _ _ _ _ _ _ _ _ _ _ _ _ _ _ _ _ _ _ _ _ _ _ _ _ _ _ _ _ _ _ w
  · exact once_ix2 _ _ _ _ _ _ _ _ _ _ _ _ _ _ _ _ _ _ _ _ _ _ _ _ _ _ _ _ _ _ _ _ _ _ _ _ w
  · exact once_ix3 _ _ _ _ _ _ _ _ _ _ _ _ _ _ _ _ _ _ _ _ _ _ _ _ _ _ _ _ _ _ _ _ _ _ _ _ w
  · exact once_ix4 _ _ _ _ _ _ _ _ _ _ _ _ _ _ _ _ _ _ _ _ _ _ _ _ _ _ _ _ _ _ _ _ _ _ _ _ w
  · exact once_ix5 _ _ _ _ _ _ _ _ _ _ _ _ _ _ _ _ _ _ _ _ _ _ _ _ _ _ _ _ _ _ _ _ _ _ _ _ w

theorem once_ix36 (q : OnQ) (k : Nat) (hk : k < 6) (w : World) : (Instr.index 28 (.agg (sm36 q)) (.int .i64 k)).run Try.prog w = .ok (smV (q.e k) ((q.e k).sl (q.ea k) (q.ec k))) w := once_ix q.e q.ea q.ec k hk w
end
end Go.Proofs.Ytcjfinabffpgkaa
