/-
  Seen and Get of a cache.
-/
import Derived.Test.YtefijimijmjahaaCacheDef
import Derived.BigRegion
import Derived.Laws.ResultCell
namespace Go.Proofs.Ytefijimijmjahaa
open Go.RowKit
set_option maxRecDepth 100000

theorem results_row_tmp {P : Program} {fn : Func} {p u : Tmp} {ty : TypeId} (h : fn.results = #[.cell p ty, .tmp u]) (tmps : Array Value) (w : World) (g : Nat) (t : TypeId) (cs : Array Value) (fr : Nat × Nat) (d : TypeDesc)
    (hp : tmps.getD p undef = .pointer (some ⟨g, 0, none⟩)) (hg : w.heap[g]? = some (.cells cs t fr))
    (hu : P.underlying ty = some d) (hd : (match d with | .struct _ | .array _ _ => true | _ => false) = true) (hi : (P.info? ty).map (·.size) = some cs.size) :
    (results fn tmps).run P w = .ok (.tuple #[.agg cs, tmps.getD u undef]) w := by
  rw [results_cell_tmp h]
  have hp' : tmps[p]?.getD undef = .pointer (some ⟨g, 0, none⟩) := by simpa using hp
  simp [hp', asAddr, run_loadVar_row w g t ty cs fr d hg hu hd hi, Result.andThen]

section
variable {b most : Nat} {ps : List Ent} {F : Nat → Prop} {sb ab : Nat} {ov : Value}

theorem seen_keys (ps : List Ent) : (ps.map fun p => (p.id, Value.agg #[])).map Prod.fst = ps.map Ent.id := by simp
theorem ans_keys (ps : List Ent) : (ps.map Ent.mk').map Prod.fst = ps.map Ent.id := by simp [Ent.mk']

theorem zeroUnit : ∀ w, (zeroValue 56).run Try.prog w = .ok (.agg #[]) w := fun w => by kernel_rfl
theorem zeroAns : ∀ w, (zeroValue 39).run Try.prog w = .ok (.agg #[.int .i64 0, .int .i64 0, .slice none 0 0]) w := fun w => by kernel_rfl

theorem mget_unit (ps : List Ent) (x : IdN) : (mget (ps.map fun p => (p.id, Value.agg #[])) x).getD (.agg #[]) = .agg #[] := by
  unfold mget
  induction ps with
  | nil => rfl
  | cons p ps ih =>
    rw [List.map_cons, List.find?_cons]
    split
    · rfl
    · exact ih

theorem CacheIn.look_seen {w : World} (h : CacheIn w b most ps F sb ab ov) {x : IdN} (hx : IdOk x) :
    (Instr.lookup 51 (.map (some sb)) (kv x) true).run Try.prog w = .ok (.tuple #[.agg #[], .bool (decide (x ∈ ps.map Ent.id))]) w := by
  have := h.seen.look (by rw [seen_keys]; exact h.nodup) hx Try.underlying51 (zeroUnit w) true
  rw [mget_unit] at this
  simpa [mhas, seen_keys] using this

set_option maxHeartbeats 4000000 in
theorem seen_any (w : World) (h : CacheIn w b most ps F sb ab ov) (x : IdN) (hx : IdOk x) : Calls Try.prog 11 #[.pointer (some ⟨b, 0, none⟩), kv x] w fun e w' => e = .returned (.bool (decide (x ∈ ps.map Ent.id))) ∧ Fr (fun _ => False) w w' := by
  have h1 : CacheIn (w.alloc (oId x)).drew b most ps F sb ab ov := h.fr0 ((Fr.refl _ _).alloc _).drew
  have h2 : ∀ o, CacheIn ((w.alloc (oId x)).alloc o).drew b most ps F sb ab ov := fun o => h.fr0 (((Fr.refl _ _).alloc _).alloc o).drew
  have l1 := h1.look_seen hx
  have l2 := fun o => (h2 o).look_seen hx
  obtain ⟨c0, c1, c2, c3⟩ := h.cells
  have hb := h.blt
  have hb' : b ≠ w.heap.size := by omega
  obtain ⟨B, hB⟩ : ∃ B, B = decide (x ∈ ps.map Ent.id) := ⟨_, rfl⟩
  rw [← hB] at l1 ⊢
  simp only [← hB] at l2
  clear hB h h1 h2
  unfold kv at *
  go_enter Try.func11, Try.ntmps11
  go_wp2_with fail
  go_region
  go_wp2_with fail
  go_ret
  exact ⟨rfl, (((Fr.refl _ _).alloc _).alloc _).drew⟩

theorem seen_nil (w : World) (x : IdN) : Calls Try.prog 11 #[.pointer none, kv x] w fun e w' => e = .returned (.bool false) ∧ Fr (fun _ => False) w w' := by
  unfold kv at *
  go_enter Try.func11, Try.ntmps11
  go_wp2_with fail
  go_ret
  exact ⟨rfl, (Fr.refl _ _).alloc _⟩

/-- What is stored at a call's number. -/
def lookE (ps : List Ent) (x : IdN) : Option Ent := ps.find? (fun p => decide (p.id = x))

theorem mget_lookE (x : IdN) : ∀ ps : List Ent, mget (ps.map Ent.mk') x = (lookE ps x).map fun p => av p.e p.r p.v
  | [] => rfl
  | p :: ps => by
    have ih := mget_lookE x ps
    unfold mget lookE at *
    rw [List.map_cons, List.find?_cons, List.find?_cons]
    by_cases h : p.id = x
    · simp [Ent.mk', h]
    · simp only [Ent.mk', h, decide_false]
      exact ih

theorem lookE_mem {ps : List Ent} {x : IdN} {p : Ent} (h : lookE ps x = some p) : p ∈ ps ∧ p.id = x := by
  unfold lookE at h
  exact ⟨List.mem_of_find?_eq_some h, by simpa using List.find?_some h⟩

theorem lookE_isSome {ps : List Ent} {x : IdN} : (lookE ps x).isSome = decide (x ∈ ps.map Ent.id) := by
  unfold lookE
  rw [Bool.eq_iff_iff]
  simp

theorem CacheIn.look_ans {w : World} (h : CacheIn w b most ps F sb ab ov) {x : IdN} (hx : IdOk x) :
    ∃ e r l v B, (∀ w', Fr (fun _ => False) w w' → (Instr.lookup 27 (.map (some ab)) (kv x) true).run Try.prog w' = .ok (.tuple #[av e r v, .bool B]) w') ∧ Sees w v l ∧ l.length ≤ 140737488351232 ∧
      ((B = false ∧ lookE (keptE most ps) x = none ∧ e = 0 ∧ r = 0 ∧ l = [] ∧ v = .slice none 0 0) ∨ (B = true ∧ lookE (keptE most ps) x = some ⟨x, e, r, l, v⟩)) := by
  have hn : ((keptE most ps).map Ent.id).Nodup := by
    unfold keptE
    rw [List.map_drop]
    exact h.nodup.sublist (List.drop_sublist _ _)
  have hl : ∀ w', Fr (fun _ => False) w w' → _ := fun w' f => (h.answers.fr f (fun h => h)).look (by rw [ans_keys]; exact hn) hx Try.underlying27 (zeroAns w') true
  simp only [mget_lookE] at hl
  have hh : mhas ((keptE most ps).map Ent.mk') x = (lookE (keptE most ps) x).isSome := by rw [lookE_isSome]; simp [mhas, Ent.mk']
  simp only [hh] at hl
  cases hk : lookE (keptE most ps) x with
  | none =>
    simp only [hk] at hl
    exact ⟨0, 0, [], .slice none 0 0, false, hl, .inl ⟨rfl, _, _, rfl⟩, by simp, .inl ⟨rfl, rfl, rfl, rfl, rfl, rfl⟩⟩
  | some p =>
    simp only [hk] at hl
    obtain ⟨hm, rfl⟩ := lookE_mem hk
    obtain ⟨h1, h2, _⟩ := h.rows p hm
    exact ⟨p.e, p.r, p.l, p.v, true, hl, h1, h2, .inr ⟨rfl, rfl⟩⟩

set_option maxHeartbeats 4000000 in
theorem get_any (w : World) (h : CacheIn w b most ps F sb ab ov) (x : IdN) (hx : IdOk x) : Calls Try.prog 9 #[.pointer (some ⟨b, 0, none⟩), kv x] w fun y w' =>
    ∃ e r l v v' B, y = .returned (.tuple #[av e r v', .bool B]) ∧ Made v' l w w' ∧ l.length ≤ 140737488351232 ∧
      ((B = false ∧ lookE (keptE most ps) x = none ∧ e = 0 ∧ r = 0 ∧ l = []) ∨ (B = true ∧ lookE (keptE most ps) x = some ⟨x, e, r, l, v⟩)) := by
  obtain ⟨e, r, l, v, B, hl, hs, hle, hB⟩ := h.look_ans hx
  have l1 : ∀ o o', (Instr.lookup 27 (.map (some ab)) (kv x) true).run Try.prog ((w.alloc o).alloc o').drew = .ok (.tuple #[av e r v, .bool B]) ((w.alloc o).alloc o').drew := fun o o' => hl _ (((Fr.refl _ _).alloc o).alloc o').drew
  have l2 : ∀ o o' o'', (Instr.lookup 27 (.map (some ab)) (kv x) true).run Try.prog (((w.alloc o).alloc o').alloc o'').drew = .ok (.tuple #[av e r v, .bool B]) (((w.alloc o).alloc o').alloc o'').drew := fun o o' o'' => hl _ ((((Fr.refl _ _).alloc o).alloc o').alloc o'').drew
  obtain ⟨c0, c1, c2, c3⟩ := h.cells
  have hb := h.blt
  have hb' : b ≠ w.heap.size := by omega
  have hb'' : b ≠ w.heap.size + 1 := by omega
  have hb3 : b < w.heap.size + 1 := by omega
  obtain ⟨a, c, rfl, hn⟩ := hs.shape
  clear hn
  have HS := Lib.hid hs; clear hs
  have HB := Lib.hid hB; clear hB
  have HL := Lib.hid hle; clear hle
  clear h hl
  unfold kv av at *
  go_enter Try.func9, Try.ntmps9
  go_wp2_with fail
  go_region
  go_wp2_with fail
  have f0 : Fr (fun _ => False) w (((w.alloc (oId x)).alloc (oAns 0 0 (.slice none 0 0))).alloc (oAns e r (.slice a l.length c))).drew := ((((Fr.refl _ _).alloc _).alloc _).alloc _).drew
  have q1 : (((w.alloc (oId x)).alloc (oAns 0 0 (.slice none 0 0))).alloc (oAns e r (.slice a l.length c))).drew.heap[w.heap.size + 1]? = some (oAns 0 0 (.slice none 0 0)) := by
    have := new_two_fst (w.alloc (oId x)) (oAns 0 0 (.slice none 0 0)) (oAns e r (.slice a l.length c))
    rw [World.size_alloc] at this
    exact this
  have hsz : (((w.alloc (oId x)).alloc (oAns 0 0 (.slice none 0 0))).alloc (oAns e r (.slice a l.length c))).drew.heap.size = w.heap.size + 1 + 1 + 1 := by
    show (((w.alloc (oId x)).alloc (oAns 0 0 (.slice none 0 0))).alloc (oAns e r (.slice a l.length c))).heap.size = _
    rw [World.size_alloc, World.size_alloc, World.size_alloc]
  generalize (((w.alloc (oId x)).alloc (oAns 0 0 (.slice none 0 0))).alloc (oAns e r (.slice a l.length c))).drew = w0 at *
  clear l1 l2 c0 c1 c2 c3 hb hb' hb'' hb3
  generalize hg : w.heap.size = g at *
  have HG := Lib.hid hg; clear hg
  refine (apart_any e r (.slice a l.length c) l _ (HS.out.fr f0 (fun _ _ h => h)) HL.out).mono ?_
  rintro y w1 ⟨v', rfl, hm⟩
  obtain ⟨a', c', rfl⟩ := slice_of_own hm.1
  have p1 := crow_kept q1 hm.2.1 (fun h => h)
  obtain ⟨d0, d1, d2⟩ := cell3 p1
  have z1 : ∀ i, w1.frozen? ⟨g + 1, i, none⟩ = false := by intro i; simp [World.frozen?, p1]
  have F1 := Lib.hid (f0.trans hm.2.1 (fun _ _ h => h))
  have HM := Lib.hid hm
  have P1 := Lib.hid p1
  have HZ := Lib.hid hsz
  clear hm p1 q1 f0 hsz
  unfold av
  go_wp2_with fail
  refine bodyPost_ret (results_row_tmp rfl _ _ (g + 1) 39 #[.int .i64 e, .int .i64 r, .slice a' l.length c'] (0, 0) _ rfl ?hq Try.underlying39 rfl (by kernel_rfl)) rfl ?_
  case hq => exact cst3 P1.out
  have fY := cfr3 (w := w1) (b := g + 1) (.int .i64 e) (.int .i64 r) (.slice a' l.length c') (Fr.refl (fun k => k = g + 1) w1) (fun _ => rfl)
  refine ⟨e, r, l, .slice a l.length c, .slice a' l.length c', B, rfl, ⟨HM.out.1.fr fY (fun k hk => ?_), F1.out.trans fY (fun k hk e => ?_), fun k hk => ?_⟩, HL.out, ?_⟩
  · have := HM.out.2.2 k hk; have := HZ.out; omega
  · have := HG.out; omega
  · have := HM.out.2.2 k hk; have := HZ.out; have := HG.out; omega
  · rcases HB.out with ⟨h1, h2, h3, h4, h5, _⟩ | h
    · exact .inl ⟨h1, h2, h3, h4, h5⟩
    · exact .inr h
end

set_option maxHeartbeats 4000000 in
theorem get_nil (w : World) (x : IdN) : Calls Try.prog 9 #[.pointer none, kv x] w fun e w' => e = .returned (.tuple #[av 0 0 (.slice none 0 0), .bool false]) ∧ Fr (fun _ => False) w w' := by
  unfold kv av at *
  go_enter Try.func9, Try.ntmps9
  go_wp2_with fail
  refine bodyPost_ret (results_row_tmp rfl _ _ (w.heap.size + 1) 39 #[.int .i64 0, .int .i64 0, .slice none 0 0] (0, 0) _ rfl ?hq Try.underlying39 rfl (by kernel_rfl)) rfl ?_
  case hq => exact new_two w (oId x) (oAns 0 0 (.slice none 0 0))
  exact ⟨rfl, ((Fr.refl _ _).alloc _).alloc _⟩
end Go.Proofs.Ytefijimijmjahaa
