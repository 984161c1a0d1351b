/-
  What the loop of the law CachePlays keeps.
-/
import Derived.Test.YtefijimijmjahaaCacheAwake
import Derived.Test.YtefijimijmjahaaCacheActs
import Derived.Test.YtefijimijmjahaaIdWin
namespace Go.Proofs.Ytefijimijmjahaa
open Go.RowKit
set_option maxRecDepth 100000

structure PlayInv (w wr : World) (K b sm km : Nat) (es : List Ent) (F : Nat → Prop) (ov : Value) : Prop where
  cache : CacheAt wr b K (es.map Ent.an) F
  seen : MapAt wr sm (es.map fun p => (p.id, Value.bool true))
  kept : MapAt wr km ((keptE K es).map Ent.mk')
  order : OwnW wr ov ((keptE K es).map Ent.id)
  args : ∀ p ∈ es, SeesO w p.v p.l ∧ p.l.length ≤ 140737488351232
  base : ∀ k, F k → w.heap.size ≤ k ∧ k < wr.heap.size
  maps : w.heap.size ≤ sm ∧ w.heap.size ≤ km ∧ sm ≠ km ∧ ¬ F sm ∧ ¬ F km
  row : ∀ k, ov.ownBlock = some k → w.heap.size ≤ k ∧ k ≠ sm ∧ k ≠ km ∧ ¬ F k
  nodup : (es.map Ent.id).Nodup
  fr : Fr (fun _ => False) w wr

section
variable {w wr wx : World} {K b sm km : Nat} {es : List Ent} {F : Nat → Prop} {ov : Value}

theorem PlayInv.fr0 (h : PlayInv w wr K b sm km es F ov) (f : Fr (fun _ => False) wr wx) : PlayInv w wx K b sm km es F ov where
  cache := h.cache.fr0 f
  seen := h.seen.fr f (fun h => h)
  kept := h.kept.fr f (fun h => h)
  order := h.order.fr f (fun _ _ h => h)
  args := h.args
  base := fun k hk => ⟨(h.base k hk).1, Nat.lt_of_lt_of_le (h.base k hk).2 f.size⟩
  maps := h.maps
  row := h.row
  nodup := h.nodup
  fr := h.fr.trans f (fun _ _ h => h)

theorem seenB_keys (es : List Ent) : (es.map fun p => (p.id, Value.bool true)).map Prod.fst = es.map Ent.id := by simp

theorem zeroBool : ∀ w, (zeroValue 4).run Try.prog w = .ok (.bool false) w := fun w => by kernel_rfl

theorem mget_bool (x : IdN) : ∀ es : List Ent, (mget (es.map fun p => (p.id, Value.bool true)) x).getD (.bool false) = .bool (decide (x ∈ es.map Ent.id))
  | [] => rfl
  | p :: es => by
    have ih := mget_bool x es
    unfold mget at *
    rw [List.map_cons, List.find?_cons]
    by_cases h : p.id = x
    · subst h
      simp
    · have h' : x ≠ p.id := fun e => h e.symm
      simp only [h, decide_false]
      rw [ih]
      simp [h']

/-- 'seen[id]'. -/
theorem PlayInv.look_seen (h : PlayInv w wr K b sm km es F ov) {x : IdN} (hx : IdOk x) : (Instr.lookup 26 (.map (some sm)) (kv x) false).run Try.prog wr = .ok (.bool (decide (x ∈ es.map Ent.id))) wr := by
  have := h.seen.look (by rw [seenB_keys]; exact h.nodup) hx Try.underlying26 (zeroBool wr) false
  rw [mget_bool] at this
  exact this

theorem kept_nodup (K : Nat) {es : List Ent} (h : (es.map Ent.id).Nodup) : ((keptE K es).map Ent.id).Nodup := by
  unfold keptE
  rw [List.map_drop]
  exact h.sublist (List.drop_sublist _ _)

theorem lookA_an (K : Nat) (es : List Ent) (x : IdN) : lookA K (es.map Ent.an) x = (lookE (keptE K es) x).map (fun p => (p.e, p.r, p.l)) := by
  rw [find_an]
  unfold lookA keptE
  rw [List.map_drop, List.length_map]

/-- 'x, ok := kept[id]', and what the cache answers. -/
theorem PlayInv.look_kept (h : PlayInv w wr K b sm km es F ov) {x : IdN} (hx : IdOk x) : ∃ e r l v B, (Instr.lookup 27 (.map (some km)) (kv x) true).run Try.prog wr = .ok (.tuple #[av e r v, .bool B]) wr ∧ Sees wr v l ∧ ((∃ a c, v = .slice a l.length c) ∧
    (lookA K (es.map Ent.an) x).getD (0, 0, []) = (e, r, l) ∧ (lookA K (es.map Ent.an) x).isSome = B) := by
  have hl := h.kept.look (by rw [ans_keys]; exact kept_nodup K h.nodup) hx Try.underlying27 (zeroAns wr) true
  rw [mget_lookE] at hl
  have hh : mhas ((keptE K es).map Ent.mk') x = (lookE (keptE K es) x).isSome := by rw [lookE_isSome]; simp [mhas, Ent.mk']
  rw [hh] at hl
  rw [lookA_an]
  cases hk : lookE (keptE K es) x with
  | none =>
    rw [hk] at hl
    exact ⟨0, 0, [], .slice none 0 0, false, hl, .inl ⟨rfl, _, _, rfl⟩, ⟨_, _, rfl⟩, rfl, rfl⟩
  | some p =>
    rw [hk] at hl
    obtain ⟨hm, rfl⟩ := lookE_mem hk
    have ha := (h.args p (List.mem_of_mem_drop hm)).1.fr h.fr
    obtain ⟨a, c, e, _⟩ := ha.1.shape
    exact ⟨p.e, p.r, p.l, p.v, true, hl, ha.1, ⟨a, c, e⟩, rfl, rfl⟩
end

theorem seenB_look {w : World} {sm : Nat} {es : List Ent} (m : MapAt w sm (es.map fun p => (p.id, Value.bool true))) (hn : (es.map Ent.id).Nodup) {x : IdN} (hx : IdOk x) :
    (Instr.lookup 26 (.map (some sm)) (kv x) false).run Try.prog w = .ok (.bool (decide (x ∈ es.map Ent.id))) w := by
  have := m.look (by rw [seenB_keys]; exact hn) hx Try.underlying26 (zeroBool w) false
  rw [mget_bool] at this
  exact this

/-- What stands behind the cache's Put. -/
theorem PlayInv.after {w wr wx : World} {K b sm km : Nat} {es : List Ent} {F : Nat → Prop} {ov : Value} {qs : List (IdN × An)} (h : PlayInv w wr K b sm km es F ov) (hp : CPut wr b K qs F wx) :
    ∃ F', CacheAt wx b K qs F' ∧ (∀ k, F' k → w.heap.size ≤ k ∧ k < wx.heap.size) ∧ (∀ k, k < wr.heap.size → ¬ F k → ¬ F' k) ∧ MapAt wx sm (es.map fun p => (p.id, Value.bool true)) ∧ MapAt wx km ((keptE K es).map Ent.mk') ∧
      OwnW wx ov ((keptE K es).map Ent.id) ∧ Fr (fun _ => False) w wx ∧ Fr F wr wx := by
  obtain ⟨F0, hc, hsub, hf⟩ := hp
  refine ⟨_, hc.cap, fun k hk => ⟨?_, hk.2⟩, fun k hk hF hk' => ?_, h.seen.fr hf h.maps.2.2.2.1, h.kept.fr hf h.maps.2.2.2.2, h.order.fr hf (fun k hk => (h.row k hk).2.2.2), h.fr.trans hf (fun k hk h' => ?_), hf⟩
  · rcases hsub k hk.1 with h' | h'
    · exact (h.base k h').1
    · exact Nat.le_trans h.fr.size h'
  · rcases hsub k hk'.1 with h' | h'
    · exact hF h'
    · omega
  · have := (h.base k h').1
    omega

/-- A call that was there: nothing more. -/
theorem PlayInv.again {w wr wx : World} {K b sm km : Nat} {es : List Ent} {F : Nat → Prop} {ov : Value} (h : PlayInv w wr K b sm km es F ov) (hp : CPut wr b K (es.map Ent.an) F wx) : ∃ F', PlayInv w wx K b sm km es F' ov ∧ Fr F wr wx := by
  obtain ⟨F', h1, h2, h3, h4, h5, h6, h7, h8⟩ := h.after hp
  have hsm := h.seen.lt
  have hkm := h.kept.lt
  exact ⟨F', ⟨h1, h4, h5, h6, h.args, h2, ⟨h.maps.1, h.maps.2.1, h.maps.2.2.1, h3 _ hsm h.maps.2.2.2.1, h3 _ hkm h.maps.2.2.2.2⟩, fun k hk => ⟨(h.row k hk).1, (h.row k hk).2.1, (h.row k hk).2.2.1, h3 k (h.order.lt k hk) (h.row k hk).2.2.2⟩, h.nodup, h7⟩, h8⟩

/-- A new call's answer has been stored: what stands at the round's end. -/
theorem play_new {w w8 w9 wx : World} {K b sm km : Nat} {es : List Ent} {F F9 : Nat → Prop} {ov v : Value} {q : Ent} (hi : PlayInv w w8 K b sm km es F ov) (hc : CacheAt wx b K ((es ++ [q]).map Ent.an) F9) (hb : ∀ k, F9 k → w.heap.size ≤ k ∧ k < w9.heap.size)
    (hn : ∀ k, k < w8.heap.size → ¬ F k → ¬ F9 k) (hs : MapAt wx sm ((es ++ [q]).map fun p => (p.id, Value.bool true))) (hk : MapAt wx km ((keptE K (es ++ [q])).map Ent.mk')) (ho : OwnW wx v ((keptE K (es ++ [q])).map Ent.id)) (hq : SeesO w q.v q.l ∧ q.l.length ≤ 140737488351232)
    (hv : ∀ k, v.ownBlock = some k → ov.ownBlock = some k ∨ w9.heap.size ≤ k) (h89 : w8.heap.size ≤ w9.heap.size) (h9x : w9.heap.size ≤ wx.heap.size) (hnew : q.id ∉ es.map Ent.id) (f : Fr (fun _ => False) w wx) : PlayInv w wx K b sm km (es ++ [q]) F9 v := by
  have hsm := hi.seen.lt
  have hkm := hi.kept.lt
  have hw := hi.fr.size
  refine ⟨hc, hs, hk, ho, fun p hp => ?_, fun k h => ⟨(hb k h).1, by have := (hb k h).2; omega⟩, ⟨hi.maps.1, hi.maps.2.1, hi.maps.2.2.1, hn _ hsm hi.maps.2.2.2.1, hn _ hkm hi.maps.2.2.2.2⟩, fun k h => ?_, ?_, f⟩
  · rcases List.mem_append.1 hp with h | h
    · exact hi.args p h
    · simp at h
      subst h
      exact hq
  · rcases hv k h with h' | h'
    · have hr := hi.row k h'
      exact ⟨hr.1, hr.2.1, hr.2.2.1, hn k (hi.order.lt k h') hr.2.2.2⟩
    · exact ⟨by omega, by omega, by omega, fun h2 => by have := (hb k h2).2; omega⟩
  · rw [List.map_append, List.nodup_append]
    refine ⟨hi.nodup, by simp, ?_⟩
    intro a ha c hc' e
    simp at hc'
    subst hc'
    exact hnew (e ▸ ha)

/-- 'seen[id], kept[id] = true, a.Reply.Answer()' in a region that draws its order. -/
def P22 (w0 : World) (ans : Value) (sm km : Nat) (L1 L2 : List (IdN × Value)) (y : IdN) : List Value → World → Prop
  | [], wx => Fr (fun _ => False) w0 wx
  | [v1], wx => v1 = ans ∧ Fr (fun _ => False) w0 wx
  | [v1, _], wx => v1 = ans ∧ MapAt wx sm (L1 ++ [(y, .bool true)]) ∧ Fr (fun k => k = sm) w0 wx
  | [_, _, _], wx => MapAt wx sm (L1 ++ [(y, .bool true)]) ∧ MapAt wx km (L2 ++ [(y, ans)]) ∧ Fr (fun k => k = sm ∨ k = km) w0 wx
  | _, _ => False

theorem P22.fr {w0 wx : World} {ans : Value} {sm km : Nat} {L1 L2 : List (IdN × Value)} {y : IdN} : ∀ {c : List Value}, P22 w0 ans sm km L1 L2 y c wx → Fr (fun k => k = sm ∨ k = km) w0 wx
  | [], h => h.mono (fun _ _ h => h.elim)
  | [_], h => h.2.mono (fun _ _ h => h.elim)
  | [_, _], h => h.2.2.mono (fun _ _ h => .inl h)
  | [_, _, _], h => h.2.2
  | _ :: _ :: _ :: _ :: _, h => h.elim

theorem wpList_append_win {w : World} {ops : Array Oper} {rest : List Oper} {o : Oper} {a : Act} {Q : Exit → Act → World → Prop} (hgd : o.guard = none) (s x : Operand)
    (ho : o.op = .call { callee := .builtin .append, args := #[s, x], argTypes := #[28, 28] })
    (v : Value) (hs : a.eval s = v) (L : List IdN) (hown : OwnW w v L) (hn : L.length ≤ 100000) (g1 : Nat) (y : IdN) (hx : a.eval x = .slice (some ⟨g1, 0, none⟩) 1 1) (hrow : w.heap[g1]? = some (oId y))
    (h : ∀ v' w', OwnW w' v' (L ++ [y]) → w.grownBy w' v.ownBlock → (v'.ownBlock = v.ownBlock ∨ v'.ownBlock = some w.heap.size) → wpList Try.prog ops Q rest (a.put o.dst v') w') : wpList Try.prog ops Q (o :: rest) a w := by
  obtain ⟨v', w', hr, h2, h3, h4⟩ := run_append_win w o.type v L hown hn g1 y hrow
  refine wpList_plain hgd fun _ hK => ?_
  unfold Oper.wp execOp
  simp only [ho, resolve, invoke, builtin, Sem.run_bind, Sem.run_pure, Result.andThen_ok, List.map_toArray, List.map_cons, List.map_nil, hs, hx, hr]
  exact hK _ _ (h v' w' h2 h3 h4)
end Go.Proofs.Ytefijimijmjahaa
