/-
  KindAlike: one cell of the second table's first procedure is turned.
-/
import Derived.Test.YtdaabgnfgdojhaaKindAlikeDefs
namespace Go.Proofs.Ytdaabgnfgdojhaa
open Go.RowKit
set_option linter.unusedVariables false

/-- The first procedure's cell m, in memory; and what holds when it is turned. -/
theorem mod_proc {w : World} {T : KTab} {g5 g6 N : Nat} {tv fv : Value} {va : Option Addr} {n vc : Nat} {w8 : World} (hU : UState w T g5 g6 N tv fv (.slice va n vc) w8) (p upd : KProc) (hp0 : T.procs[0]? = some p) (m : Nat) (y old : Value) (hm : m < 12)
    (hold : ∀ x0 x1 x2 x3 y0 y1 y2 y3, (procCells p x0 x1 x2 x3 y0 y1 y2 y3)[m]? = some old) (hupd : ∀ x0 x1 x2 x3 y0 y1 y2 y3, (procCells p x0 x1 x2 x3 y0 y1 y2 y3).set m y = procCells upd x0 x1 x2 x3 y0 y1 y2 y3)
    (ht : upd.takes = p.takes) (ha : upd.answers = p.answers) (hs : upd.name.length ≤ 1000 ∧ upd.collate ≤ 255) (hl1 : T.types.length ≤ 1000) (hl3 : T.procs.length ≤ 1000) :
    ∃ g, va = some ⟨g, 0, none⟩ ∧ n = T.procs.length ∧ N ≤ g ∧ g ≠ g5 ∧ g ≠ g6 ∧ w8.cell? ⟨g, m, none⟩ = some old ∧ w8.frozen? ⟨g, m, none⟩ = false ∧
      Tabled (fun k => k ≠ g6) (w8.setCell ⟨g, m, none⟩ y) { T with procs := T.procs.set 0 upd } (.agg #[sv T.name, .int .i64 T.number, .int .i64 T.version, tv, fv, .slice va n vc]) ∧
      (∀ v, Tabled (Low w g5 g6 N) w8 T v → Tabled (fun k => k ≠ g6) (w8.setCell ⟨g, m, none⟩ y) T v) := by
  obtain ⟨hf8, hne8, hg58, hg68, hg6N, ⟨cs, hc58, ht58, hg5N⟩, hc68, hct, hft, hpr, hnl8, hap8, hsh1, hsh2, hsh3⟩ := hU
  rcases hpr.cells with ⟨hnil, _⟩ | ⟨g, cap, cur, hgN, ev, hle, hgc, hit⟩
  · rw [hnil] at hp0; cases hp0
  simp only [Value.slice.injEq] at ev
  obtain ⟨rfl, rfl, rfl⟩ := ev
  obtain ⟨xs, hxl, hxs, x0', x1', x2', x3', y0', y1', y2', y3', rfl, hsx, hsy⟩ := hit 0 p hp0
  have hmm : cur[m]? = some old := by
    have := hxs m old (hold _ _ _ _ _ _ _ _)
    rw [Nat.zero_mul, Nat.zero_add] at this
    exact this
  have fw : Fr (fun k => k = g) w8 (w8.setCell ⟨g, m, none⟩ y) := Fr.set1 (Fr.refl _ _) m _
  have low : ∀ k, Low w g5 g6 N k → ¬ k = g := fun k hk e => by have := hk.2; omega
  have hset := set_items (D := prShown) (R := Low w g5 g6 N) (w := w8) (W := w8.setCell ⟨g, m, none⟩ y) (m := m) (y := y) (x' := upd) hm (Array.getElem?_eq_some_iff.1 hmm).1 hit (xs0 := procCells p x0' x1' x2' x3' y0' y1' y2' y3') rfl (fun j u hu => by
    have := hxs j u hu
    rw [Nat.zero_mul, Nat.zero_add] at this
    exact this) ⟨x0', x1', x2', x3', y0', y1', y2', y3', hupd _ _ _ _ _ _ _ _, by rw [ht]; exact Shows.fr fw low _ _ hsx, by rw [ha]; exact Shows.fr fw low _ _ hsy⟩ (fun x xs h => prShown.fr h fw low)
  have hp2 : Procs (fun k => k ≠ g6) (w8.setCell ⟨g, m, none⟩ y) (T.procs.set 0 upd) (.slice (some ⟨g, 0, none⟩) T.procs.length vc) := by
    have := procs_of_items (N := N) (cap := vc) (by rw [List.length_set]; exact hl3) (by
      intro q hq
      rcases List.mem_or_eq_of_mem_set hq with h | h
      · exact hsh2 q h
      · subst h; exact hs) (fun k => k ≠ g6) (fun k h => h.1.2.2) (by omega) (by rw [List.length_set]; exact hle) (setCell_row m y hgc) hset
    rw [List.length_set] at this
    exact this
  refine ⟨g, rfl, rfl, hgN, by omega, by omega, (cell_of_row w8 g m _ _ _ hgc).trans hmm, by simp [World.frozen?, hgc], ⟨_, _, _, rfl, by show T.name.length ≤ 1000; omega, ?_, (hft.fr fw low).mono (fun _ _ h => h.1.2.2), hp2⟩, fun v hv => (hv.fr fw low).mono (fun _ _ h => h.1.2.2)⟩
  exact (hct.fr fw low (fun k hk e => hap8 k hk (by rw [e]; rfl))).aliases hl1 hsh1 (fun k => k ≠ g6) (fun k h => h.1.2.2) (fun k h e => by omega)

/-- The first alias's greatest length is turned. -/
theorem mod_alias {w : World} {T : KTab} {g5 g6 N : Nat} {pv fv : Value} {ua : Option Addr} {n uc : Nat} {w8 : World} (hU : UState w T g5 g6 N (.slice ua n uc) fv pv w8) (x : Txt × KT) (k : Nat) (mo mo' : Int) (ns : List Txt) (c : Nat) (of : Nat → KT) (hx0 : T.types[0]? = some x) (hx : x.2 = .mk k mo ns c of) (hl1 : T.types.length ≤ 1000) (hl3 : T.procs.length ≤ 1000) :
    ∃ g, ua = some ⟨g, 0, none⟩ ∧ n = T.types.length ∧ N ≤ g ∧ g ≠ g5 ∧ g ≠ g6 ∧ w8.cell? ⟨g, 2, none⟩ = some (.int .i64 mo) ∧ w8.frozen? ⟨g, 2, none⟩ = false ∧
      Tabled (fun k => k ≠ g6) (w8.setCell ⟨g, 2, none⟩ (.int .i64 mo')) { T with types := T.types.set 0 (x.1, .mk k mo' ns c of) } (.agg #[sv T.name, .int .i64 T.number, .int .i64 T.version, .slice ua n uc, fv, pv]) ∧
      (∀ v, Tabled (Low w g5 g6 N) w8 T v → Tabled (fun k => k ≠ g6) (w8.setCell ⟨g, 2, none⟩ (.int .i64 mo')) T v) := by
  obtain ⟨hf8, hne8, hg58, hg68, hg6N, ⟨cs, hc58, ht58, hg5N⟩, hc68, hct, hft, hpr, hnl8, hap8, hsh1, hsh2, hsh3⟩ := hU
  rcases hct.cells with ⟨hnil, _⟩ | ⟨g, cap, cur, hgN, ev, hle, hgc, hit⟩
  · rw [hnil] at hx0; cases hx0
  simp only [Value.slice.injEq] at ev
  obtain ⟨rfl, rfl, rfl⟩ := ev
  obtain ⟨xs, hxl, hxs, x0', x1', x2', x3', rfl, hsx⟩ := hit 0 x hx0
  have fw : Fr (fun k => k = g) w8 (w8.setCell ⟨g, 2, none⟩ (.int .i64 mo')) := Fr.set1 (Fr.refl _ _) 2 _
  have low : ∀ k, Low w g5 g6 N k → ¬ k = g := fun k hk e => by have := hk.2; omega
  rw [hx] at hsx
  have hsx' := Shows.fr fw low _ _ hsx
  obtain ⟨vn, vo, e, q1, q2, q3, q4⟩ := hsx'
  simp at e
  obtain ⟨rfl, rfl, rfl, rfl⟩ := e
  have hmm : cur[2]? = some (.int .i64 mo) := by
    have := hxs 2 _ rfl
    rw [Nat.zero_mul, Nat.zero_add] at this
    exact this
  have hset := set_items (D := alShown) (R := Low w g5 g6 N) (w := w8) (W := w8.setCell ⟨g, 2, none⟩ (.int .i64 mo')) (m := 2) (y := .int .i64 mo') (x' := (x.1, .mk k mo' ns c of)) (by decide) (Array.getElem?_eq_some_iff.1 hmm).1 hit (xs0 := [sv x.1, .int .u8 k, .int .i64 mo, x2', x3']) rfl (fun j u hu => by
    have := hxs j u hu
    rw [Nat.zero_mul, Nat.zero_add] at this
    exact this) ⟨_, _, _, _, rfl, ⟨x2', x3', rfl, q1, q2, q3, q4⟩⟩ (fun x xs h => alShown.fr h fw low)
  have ha2 : Aliases (fun k => k ≠ g6) (w8.setCell ⟨g, 2, none⟩ (.int .i64 mo')) (T.types.set 0 (x.1, .mk k mo' ns c of)) (.slice (some ⟨g, 0, none⟩) T.types.length uc) := by
    have := aliases_of_items (N := N) (cap := uc) (by rw [List.length_set]; exact hl1) (by
      intro q hq
      rcases List.mem_or_eq_of_mem_set hq with h | h
      · exact hsh1 q h
      · subst h; exact hsh1 x (List.mem_of_getElem? hx0)) (fun k => k ≠ g6) (fun k h => h.1.2.2) (by omega) (by rw [List.length_set]; exact hle) (setCell_row 2 (.int .i64 mo') hgc) hset
    rw [List.length_set] at this
    exact this
  refine ⟨g, rfl, rfl, hgN, by omega, by omega, (cell_of_row w8 g 2 _ _ _ hgc).trans hmm, by simp [World.frozen?, hgc], ⟨_, _, _, rfl, by show T.name.length ≤ 1000; omega, ha2, (hft.fr fw low).mono (fun _ _ h => h.1.2.2), ?_⟩, fun v hv => (hv.fr fw low).mono (fun _ _ h => h.1.2.2)⟩
  exact (hpr.fr fw low (fun k hk e => hap8 k (by rw [e]; rfl) hk)).procs hl3 hsh2 (fun k => k ≠ g6) (fun k h => h.1.2.2) (fun k h e => by omega)

theorem turned_proc {T : KTab} {p upd : KProc} (hp0 : T.procs[0]? = some p) (h1 : sameP p upd = false) (h2 : sameP upd p = false) :
    alikeE T { T with procs := T.procs.set 0 upd } = false ∧ alikeE { T with procs := T.procs.set 0 upd } T = false := by
  have hl := (List.getElem?_eq_some_iff.1 hp0).1
  have g1 : T.procs.getD 0 noProc = p := by rw [List.getD_eq_getElem?_getD, hp0]; rfl
  have g2 : (T.procs.set 0 upd).getD 0 noProc = upd := by rw [List.getD_eq_getElem?_getD, List.getElem?_set_self hl]; rfl
  exact ⟨alikeE_procs (eqBy_stop _ _ _ _ 0 hl (by rw [g1]; show sameP p ((T.procs.set 0 upd).getD 0 noProc) = false; rw [g2]; exact h1)),
    alikeE_procs (eqBy_stop _ _ _ _ 0 (by rw [List.length_set]; exact hl) (by show sameP ((T.procs.set 0 upd).getD 0 noProc) (T.procs.getD 0 noProc) = false; rw [g1, g2]; exact h2))⟩

theorem turned_alias {T : KTab} {x upd : Txt × KT} (hp0 : T.types[0]? = some x) (h1 : sameA x upd = false) (h2 : sameA upd x = false) :
    alikeE T { T with types := T.types.set 0 upd } = false ∧ alikeE { T with types := T.types.set 0 upd } T = false := by
  have hl := (List.getElem?_eq_some_iff.1 hp0).1
  have g1 : T.types.getD 0 ([], .nil) = x := by rw [List.getD_eq_getElem?_getD, hp0]; rfl
  have g2 : (T.types.set 0 upd).getD 0 ([], .nil) = upd := by rw [List.getD_eq_getElem?_getD, List.getElem?_set_self hl]; rfl
  exact ⟨alikeE_types (eqBy_stop _ _ _ _ 0 hl (by rw [g1]; show sameA x ((T.types.set 0 upd).getD 0 ([], .nil)) = false; rw [g2]; exact h1)),
    alikeE_types (eqBy_stop _ _ _ _ 0 (by rw [List.length_set]; exact hl) (by show sameA ((T.types.set 0 upd).getD 0 ([], .nil)) (T.types.getD 0 ([], .nil)) = false; rw [g1, g2]; exact h2))⟩

theorem set_all {α : Type} {P : α → Prop} {l : List α} {x : α} (h : ∀ y ∈ l, P y) (hx : P x) : ∀ y ∈ l.set 0 x, P y := by
  intro q hq
  rcases List.mem_or_eq_of_mem_set hq with h' | h'
  · exact h q h'
  · subst h'; exact hx

theorem mkE_most (known : List Txt) (k n : Nat) (sub : Nat → KT) : ∃ (k' : Nat) (m : Int) (ns : List Txt) (c : Nat) (of : Nat → KT), mkE known k n sub = .mk k' m ns c of ∧ 0 ≤ m ∧ m ≤ 60 := by
  unfold mkE
  split
  · exact ⟨_, _, _, _, _, rfl, by omega, by omega⟩
  · split
    · exact ⟨_, _, _, _, _, rfl, by omega, by omega⟩
    · split
      · exact ⟨_, _, _, _, _, rfl, by omega, by omega⟩
      · split
        · exact ⟨_, _, _, _, _, rfl, by omega, by omega⟩
        · split <;> exact ⟨_, _, _, _, _, rfl, by omega, by omega⟩

theorem tableE_most {s : KS} (h : okS s) : ∀ x ∈ (tableE s).types, ∃ (k' : Nat) (m : Int) (ns : List Txt) (c : Nat) (of : Nat → KT), x.2 = .mk k' m ns c of ∧ 0 ≤ m ∧ m ≤ 60 := by
  intro x hx
  obtain ⟨i, hi, rfl⟩ := List.mem_map.1 hx
  have hi' : i < s.aliases.length := by have := List.mem_range.1 hi; omega
  have hm : s.aliases.getD i .nil ∈ s.aliases := by
    rw [List.getD_eq_getElem?_getD, List.getElem?_eq_getElem hi']
    exact List.getElem_mem hi'
  have hk := h.1 _ hm
  show ∃ (k' : Nat) (m : Int) (ns : List Txt) (c : Nat) (of : Nat → KT), typeE (knownE i) (s.aliases.getD i .nil) 3 = .mk k' m ns c of ∧ 0 ≤ m ∧ m ≤ 60
  cases ht : s.aliases.getD i .nil with
  | nil => rw [ht] at hk; exact hk.elim
  | mk kd n c of => rw [typeE_mk]; exact mkE_most _ _ _ _

theorem sameA_most (x : Txt × KT) (k : Nat) (m : Int) (ns : List Txt) (c : Nat) (of : Nat → KT) (hx : x.2 = .mk k m ns c of) : sameA x (x.1, .mk k (m + 1) ns c of) = false ∧ sameA (x.1, .mk k (m + 1) ns c of) x = false := by
  unfold sameA
  rw [hx]
  simp only [sameE]
  constructor
  · rw [decide_eq_false (show ¬ m = m + 1 by omega)]; simp
  · rw [decide_eq_false (show ¬ m + 1 = m by omega)]; simp

theorem sz_most (k : Nat) (m m' : Int) (ns : List Txt) (c : Nat) (of : Nat → KT) : sz (.mk k m ns c of) = sz (.mk k m' ns c of) := rfl

theorem sameP_time (p : KProc) : sameP p { p with timeout := p.timeout + 1 } = false ∧ sameP { p with timeout := p.timeout + 1 } p = false := by
  unfold sameP
  constructor
  · rw [decide_eq_false (show ¬ p.timeout = p.timeout + 1 by omega), Bool.and_false]
  · rw [decide_eq_false (show ¬ p.timeout + 1 = p.timeout by omega), Bool.and_false]

theorem sameP_collate (p : KProc) (c : Nat) (hc : c = p.collate + 1) : sameP p { p with collate := c } = false ∧ sameP { p with collate := c } p = false := by
  unfold sameP
  constructor
  · rw [decide_eq_false (show ¬ p.collate = c by omega), Bool.and_false, Bool.false_and]
  · rw [decide_eq_false (show ¬ c = p.collate by omega), Bool.and_false, Bool.false_and]

theorem wrap_col (c n : Nat) (hc : c = n + 1) (hn : n ≤ 2) : (n : Int) + 1 = (c : Int) ∧ (c : Int) % 256 = (c : Int) ∧ c ≤ 255 := by omega

theorem wrap_time (n : Int) (h0 : 0 ≤ n) (h1 : n ≤ 1000) : IntKind.i64.wrap (n + 1) = n + 1 ∧ wrap64 (n + 1) = n + 1 := ⟨IntWalk.i64_in _ (by omega), IntWalk.wrap64_in _ (by omega)⟩

end Go.Proofs.Ytdaabgnfgdojhaa
