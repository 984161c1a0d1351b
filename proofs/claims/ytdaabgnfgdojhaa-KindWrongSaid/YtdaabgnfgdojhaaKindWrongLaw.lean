/-
  KindWrong: the law walked.
-/
import Derived.Test.YtdaabgnfgdojhaaKindWrongFns
import Derived.Test.YtdaabgnfgdojhaaKindAwake
import Derived.Test.YtdaabgnfgdojhaaRegionL
namespace Go.Proofs.Ytdaabgnfgdojhaa
open Go.RowKit
set_option linter.unusedSimpArgs false
set_option linter.unusedVariables false

theorem MRow.cp {α : Type} {D : Shown α} {e : TypeId} {size b N : Nat} {X : Nat → Prop} {w : World} {v : Value} {l : List α} (h : MRow D e size b N X w v l) : CpRow D e size (b + 1) (fun k => Made b N k ∧ ¬ X k ∧ v.ownBlock ≠ some k) w v l ∧ ∀ k, v.ownBlock = some k → (b + 1 ≤ k ∧ k < N) ∧ ¬ X k := by
  obtain ⟨cs, h1, h2, h3⟩ := h
  exact ⟨⟨cs, h1, h3⟩, fun k hk => ⟨⟨(World.ownsRow.lt h1 k hk).1, (h2 k hk).1⟩, (h2 k hk).2⟩⟩

theorem ItRow.cp {α : Type} {D : Shown α} {e : TypeId} {size B : Nat} {X : Nat → Prop} {w : World} {v : Value} {l : List α} (h : ItRow D e size B X w v l) : CpRow D e size B (fun k => (B ≤ k ∧ ¬ X k ∧ v.ownBlock ≠ some k) ∧ k < w.heap.size) w v l := by
  obtain ⟨cs, h1, h2, h3⟩ := h
  refine ⟨cs, h1, fun i x hi => ?_⟩
  obtain ⟨xs, a, c, d⟩ := h3 i x hi
  exact ⟨xs, a, c, D.mono d (fun k hk h => ⟨h, hk⟩)⟩

theorem CpRow.monoS {α : Type} {D : Shown α} {e : TypeId} {size N : Nat} {R S : Nat → Prop} {w : World} {v : Value} {l : List α} (h : CpRow D e size N R w v l) (hS : ∀ k, R k → S k) : CpRow D e size N S w v l := by
  obtain ⟨cs, h1, h2⟩ := h
  refine ⟨cs, h1, fun i x hx => ?_⟩
  obtain ⟨xs, a, b, hd⟩ := h2 i x hx
  exact ⟨xs, a, b, D.mono hd (fun k _ h => hS k h)⟩

/-- What is known of the laws' table in memory, ahead of the turn. -/
structure WState (w : World) (T : KTab) (g1 g7 g8 b N : Nat) (n : Int) (tv fv pv : Value) (wx : World) : Prop where
  fr : Fr (fun _ => False) w wx
  num : wx.heap[g1]? = some (.cells #[.int .i64 n] 3 (0, 0))
  box : wx.heap[g7]? = some (.cells #[.string ⟨T.name.toArray⟩, .int .i64 T.number, .int .i64 T.version, tv, fv, pv] 32 (0, 0))
  zero : wx.heap[g8]? = some (.cells #[.int .u8 0, .int .i64 0, .slice none 0 0, .slice none 0 0] 38 (0, 0))
  tab : Tabled (fun k => k < g7) wx T (.agg #[.string ⟨T.name.toArray⟩, .int .i64 T.number, .int .i64 T.version, tv, fv, pv])
  ca : CpRow alShown 49 5 (b + 1) (fun k => k < N ∧ fv.ownBlock ≠ some k ∧ tv.ownBlock ≠ some k) wx tv T.types
  cf : CpRow ftShown 52 2 (b + 1) (fun k => k < N ∧ fv.ownBlock ≠ some k) wx fv T.faults
  cp : CpRow prShown 41 12 N (fun k => N ≤ k ∧ k < g7 ∧ pv.ownBlock ≠ some k) wx pv T.procs
  oa : ∀ k, tv.ownBlock = some k → k < N ∧ fv.ownBlock ≠ some k ∧ b + 1 ≤ k
  of : ∀ k, fv.ownBlock = some k → k < N ∧ b + 1 ≤ k
  op : ∀ k, pv.ownBlock = some k → N ≤ k ∧ k < g7
  o1 : w.heap.size < g1
  o2 : g1 ≤ b
  o3 : b < N
  o4 : N ≤ g7
  o5 : g7 < g8
  la : T.types.length ≤ 4 ∧ T.faults.length ≤ 3 ∧ T.procs.length ≤ 4
  sa : ∀ x ∈ T.types, x.1.length ≤ 1000
  sf : ∀ x ∈ T.faults, x.1.length ≤ 1000
  sp : ∀ p ∈ T.procs, p.name.length ≤ 1000 ∧ p.collate ≤ 255
  nl : T.name.length ≤ 1000

section
variable {w wx W : World} {T : KTab} {g1 g7 g8 b N : Nat} {n : Int} {tv fv pv : Value}

/-- The lists that are not turned, where one row is: off that row and off the table. -/
theorem WState.keepA (H : WState w T g1 g7 g8 b N n tv fv pv wx) (v : Value) (hv : v = fv ∨ v = pv) (f : Fr (fun k => k = g7 ∨ v.ownBlock = some k) wx W) : Aliases (fun k => k ≠ g7) W T.types tv := by
  have h := H.ca.aliasesO (by have := H.la.1; omega) H.sa (fun k => k ≠ g7 ∧ v.ownBlock ≠ some k) (fun k hk => ⟨by have := hk.1; have := H.o4; omega, fun e => by
    rcases hv with rfl | rfl
    · exact hk.2.1 e
    · have := (H.op k e).1; have := hk.1; omega⟩) (fun k hk => ⟨by have := (H.oa k hk).1; have := H.o4; omega, fun e => by
    rcases hv with rfl | rfl
    · exact (H.oa k hk).2.1 e
    · have := (H.op k e).1; have := (H.oa k hk).1; omega⟩)
  exact (h.fr f (fun k hk e => e.elim hk.1 hk.2)).mono (fun _ _ h => h.1)

theorem WState.keepF (H : WState w T g1 g7 g8 b N n tv fv pv wx) (v : Value) (hv : v = tv ∨ v = pv) (f : Fr (fun k => k = g7 ∨ v.ownBlock = some k) wx W) : Faults (fun k => k ≠ g7) W T.faults fv := by
  have h := H.cf.faultsO (by have := H.la.2.1; omega) H.sf (fun k => k ≠ g7 ∧ v.ownBlock ≠ some k) (fun k hk => ⟨by have := (H.of k hk).1; have := H.o4; omega, fun e => by
    rcases hv with rfl | rfl
    · exact (H.oa k e).2.1 hk
    · have := (H.op k e).1; have := (H.of k hk).1; omega⟩)
  exact (h.fr f (fun k hk e => e.elim hk.1 hk.2)).mono (fun _ _ h => h.1)

theorem WState.keepP (H : WState w T g1 g7 g8 b N n tv fv pv wx) (v : Value) (hv : v = tv ∨ v = fv) (f : Fr (fun k => k = g7 ∨ v.ownBlock = some k) wx W) : Procs (fun k => k ≠ g7) W T.procs pv := by
  have h := H.cp.procsO (by have := H.la.2.2; omega) H.sp (fun k => k ≠ g7 ∧ v.ownBlock ≠ some k) (fun k hk => ⟨by have := hk.2.1; omega, fun e => by
    rcases hv with rfl | rfl
    · have := (H.oa k e).1; have := hk.1; omega
    · have := (H.of k e).1; have := hk.1; omega⟩) (fun k hk => ⟨by have := (H.op k hk).2; omega, fun e => by
    rcases hv with rfl | rfl
    · have := (H.oa k e).1; have := (H.op k hk).1; omega
    · have := (H.of k e).1; have := (H.op k hk).1; omega⟩)
  exact (h.fr f (fun k hk e => e.elim hk.1 hk.2)).mono (fun _ _ h => h.1)

theorem WState.fr_out (H : WState w T g1 g7 g8 b N n tv fv pv wx) (v : Value) (hv : v = tv ∨ v = fv ∨ v = pv) (f : Fr (fun k => k = g7 ∨ v.ownBlock = some k) wx W) : Fr (fun _ => False) w W := by
  refine H.fr.trans f (fun i hi e => ?_)
  have h1 := H.o1; have h2 := H.o2; have h3 := H.o3; have h4 := H.o4
  rcases e with rfl | e
  · omega
  · rcases hv with rfl | rfl | rfl
    · have := (H.oa i e).2.2; omega
    · have := (H.of i e).2; omega
    · have := (H.op i e).1; omega

theorem WState.fr_box (H : WState w T g1 g7 g8 b N n tv fv pv wx) (f : Fr (fun k => k = g7) wx W) : Fr (fun _ => False) w W :=
  H.fr.trans f (fun i hi e => by have h1 := H.o1; have h2 := H.o2; have h3 := H.o3; have h4 := H.o4; omega)

/-- The lists, where only the table's own cells are turned. -/
theorem WState.lists (H : WState w T g1 g7 g8 b N n tv fv pv wx) (f : Fr (fun k => k = g7) wx W) : Aliases (fun k => k ≠ g7) W T.types tv ∧ Faults (fun k => k ≠ g7) W T.faults fv ∧ Procs (fun k => k ≠ g7) W T.procs pv := by
  obtain ⟨tv', fv', pv'', e, _, h1, h2, h3⟩ := H.tab
  simp at e
  obtain ⟨_, rfl, rfl, rfl⟩ := e
  have m : ∀ k, k < g7 → ¬ k = g7 := fun k hk e => by omega
  exact ⟨(h1.fr f m).mono (fun k _ hk => m k hk), (h2.fr f m).mono (fun k _ hk => m k hk), (h3.fr f m).mono (fun k _ hk => m k hk)⟩

theorem WState.later (H : WState w T g1 g7 g8 b N n tv fv pv wx) (f : Fr (fun _ => False) wx W) : WState w T g1 g7 g8 b N n tv fv pv W where
  fr := H.fr.trans f (fun _ _ h => h)
  num := box_kept H.num f (fun h => h)
  box := box_kept H.box f (fun h => h)
  zero := box_kept H.zero f (fun h => h)
  tab := H.tab.fr f (fun _ _ h => h)
  ca := H.ca.fr f (fun _ _ h => h) (fun _ _ h => h)
  cf := H.cf.fr f (fun _ _ h => h) (fun _ _ h => h)
  cp := H.cp.fr f (fun _ _ h => h) (fun _ _ h => h)
  oa := H.oa
  of := H.of
  op := H.op
  o1 := H.o1
  o2 := H.o2
  o3 := H.o3
  o4 := H.o4
  o5 := H.o5
  la := H.la
  sa := H.sa
  sf := H.sf
  sp := H.sp
  nl := H.nl
end

def zero85 : Array Value := madeCells (.agg #[.string ByteArray.empty, .int .u8 0, .int .i64 0, .slice none 0 0, .slice none 0 0] : Value).cells (17 * 5)

theorem make17 (W : World) : (Instr.makeSlice 28 (.int .i64 17) (.int .i64 17)).run Try.prog W = .ok (.slice (some ⟨W.heap.size, 0, none⟩) 17 17) (W.alloc (.cells zero85 49)) := by
  obtain ⟨i0, hi, hz0, hz1, hz2⟩ := info_parts Try.infoAlias
  have m := run_make (P := Try.prog) W 28 49 i0 _ Try.underlying28 hi hz0 .i64 .i64 17 17 (by decide) (Int.le_refl _) (by rw [hz2]; decide) (by decide)
  rw [hz1] at m
  exact m

theorem zero85_get (i j : Nat) (hi : i < 17) (hj : j < 5) : zero85[i * 5 + j]? = some ([.string ⟨#[]⟩, .int .u8 0, .int .i64 0, .slice none 0 0, .slice none 0 0].getD j undef) := by
  have h1 : i * 5 + j < 17 * 5 := by omega
  have h2 : (i * 5 + j) % 5 = j := by omega
  unfold zero85 madeCells
  rw [Array.getElem?_map, Array.getElem?_eq_getElem (by simpa using h1), Array.getElem_range]
  have e : ((.agg #[.string ByteArray.empty, .int .u8 0, .int .i64 0, .slice none 0 0, .slice none 0 0] : Value).cells).size = 5 := rfl
  rw [e, Option.map_some, h2]
  rcases (by omega : j = 0 ∨ j = 1 ∨ j = 2 ∨ j = 3 ∨ j = 4) with rfl | rfl | rfl | rfl | rfl <;> rfl

theorem aliases17 {P : Nat → Prop} (w : World) (g : Nat) (hP : P g) (h : w.heap[g]? = some (.cells zero85 49 (0, 0))) : Aliases P w (List.replicate 17 ([], zeroT)) (.slice (some ⟨g, 0, none⟩) 17 17) := by
  refine ⟨by simp, by simp, .inr ⟨g, 0, 17, hP, by rw [List.length_replicate], by simp, fun i x hi => ?_⟩⟩
  have h17 : i < 17 := by have := (List.getElem?_eq_some_iff.1 hi).1; simpa using this
  have hx : x = ([], zeroT) := by
    rw [List.getElem?_replicate, if_pos h17] at hi
    exact (Option.some.inj hi).symm
  subst hx
  have key : ∀ j, j < 5 → w.cell? ⟨g, 0 + i * 5 + j, none⟩ = some ([.string ⟨#[]⟩, .int .u8 0, .int .i64 0, .slice none 0 0, .slice none 0 0].getD j undef) := fun j hj => by
    rw [cell_of_row w g (0 + i * 5 + j) _ _ _ h, Nat.zero_add]
    exact zero85_get i j h17 hj
  exact ⟨_, _, _, _, key 0 (by decide), key 1 (by decide), key 2 (by decide), key 3 (by decide), key 4 (by decide), zero_shows _ _⟩

/-- What is wanted, the first j faults being looked at. -/
def wantZ (l : List (Txt × Int)) (n : Int) (j : Nat) : Int := if (l.take j).any (fun g => decide (g.2 = n)) then 9 else 0

theorem wantZ_succ (l : List (Txt × Int)) (n : Int) (j : Nat) (h : j < l.length) : wantZ l n (j + 1) = if l[j].2 = n then 9 else wantZ l n j := by
  unfold wantZ
  rw [List.take_add_one, List.getElem?_eq_getElem h]
  simp only [Option.toList_some, List.any_append, List.any_cons, List.any_nil, Bool.or_false, Bool.or_eq_true, decide_eq_true_eq]
  by_cases he : l[j].2 = n
  · rw [if_pos (Or.inr he), if_pos he]
  · rw [if_neg he]
    by_cases h2 : (List.take j l).any (fun g => decide (g.2 = n)) = true
    · rw [if_pos (Or.inl h2), if_pos h2]
    · rw [if_neg (fun a => a.elim h2 he), if_neg h2]

theorem wantZ_all (l : List (Txt × Int)) (n : Int) : wantZ l n l.length = if l.any (fun g => decide (g.2 = n)) then 9 else 0 := by
  unfold wantZ
  rw [List.take_length]

/-- Texts in a new block. -/
theorem texts_new (w : World) (l : List Txt) (P : Nat → Prop) (hP : P w.heap.size) (h1 : l.length ≤ 1000) (h2 : ∀ s ∈ l, s.length ≤ 1000) (cs : Array Value) (hc : cs = (l.map sv).toArray) (w' : World) (h : w'.heap[w.heap.size]? = some (.cells cs 9 (0, 0))) (n : Nat) (hn : n = l.length) :
    Texts P w' l (.slice (some ⟨w.heap.size, 0, none⟩) n n) := by
  subst hn hc
  refine ⟨h1, h2, .inr ⟨w.heap.size, 0, l.length, hP, rfl, Nat.le_refl _, fun j s hj => ?_⟩⟩
  refine (cell_of_row w' w.heap.size (0 + j) _ _ _ h).trans ?_
  rw [Nat.zero_add]
  simp [hj]

theorem first_two {P : Program} {w : World} {g size : Nat} {news : List Value} {t : TypeId} {fr : Nat × Nat} {c : Nat} (hn : news.length = 2 * size) (h : w.heap[g]? = some (.cells news.toArray t fr)) :
    (Builtin.firstCells size 2 (.slice (some ⟨g, 0, none⟩) 2 c)).run P w = .ok news.toArray w := by
  have := run_firstCells_some (P := P) w size 2 ⟨g, 0, none⟩ 2 c news hn (by
    intro j v hj
    rw [plain_add, cell_of_row w g j _ _ _ h]
    simpa using hj)
  exact this

/-- Two items more, behind an append. -/
theorem CpRow.push_two {α : Type} {D : Shown α} {e : TypeId} {size N : Nat} {R : Nat → Prop} {w w' : World} {v v' : Value} {l : List α} {x y : α} {cs n1 n2 : List Value} (hl : cs.length = l.length * size) (hS : ∀ k, R k → v.ownBlock ≠ some k)
    (hc : ∀ (i : Nat) (x : α), l[i]? = some x → ∃ xs : List Value, xs.length = size ∧ (∀ (j : Nat) (u : Value), xs[j]? = some u → cs[i * size + j]? = some u) ∧ D.sh R w x xs)
    (ho : w'.ownsRow N e size v' (l.length + 2) (cs ++ (n1 ++ n2))) (f : Fr (fun k => v.ownBlock = some k) w w') (hx : D.sh R w x n1) (hy : D.sh R w y n2) (hn1 : n1.length = size) (hn2 : n2.length = size) : CpRow D e size N R w' v' (l ++ [x, y]) := by
  refine ⟨cs ++ (n1 ++ n2), by rw [List.length_append]; exact ho, fun i z hi => ?_⟩
  by_cases hlt : i < l.length
  · rw [List.getElem?_append_left hlt] at hi
    obtain ⟨xs, a, b, hy⟩ := hc i z hi
    refine ⟨xs, a, fun j u hu => ?_, D.fr hy f hS⟩
    have := b j u hu
    rw [List.getElem?_append_left (List.getElem?_eq_some_iff.1 this).1]
    exact this
  · have hi' := (List.getElem?_eq_some_iff.1 hi).1
    simp at hi'
    by_cases e0 : i = l.length
    · subst e0
      rw [List.getElem?_append_right (Nat.le_refl _)] at hi
      simp at hi
      subst hi
      refine ⟨n1, hn1, fun j u hu => ?_, D.fr hx f hS⟩
      rw [List.getElem?_append_right (by omega), show l.length * size + j - cs.length = j by omega, List.getElem?_append_left (List.getElem?_eq_some_iff.1 hu).1]
      exact hu
    · obtain rfl : i = l.length + 1 := by omega
      rw [List.getElem?_append_right (by omega), show l.length + 1 - l.length = 1 by omega] at hi
      simp at hi
      subst hi
      refine ⟨n2, hn2, fun j u hu => ?_, D.fr hy f hS⟩
      have e1 : (l.length + 1) * size + j - cs.length = n1.length + j := by rw [Nat.succ_mul]; omega
      rw [List.getElem?_append_right (by rw [Nat.succ_mul]; omega), e1, List.getElem?_append_right (by omega), Nat.add_sub_cancel_left]
      exact hu

set_option maxRecDepth 100000 in
set_option maxHeartbeats 64000000 in
theorem wrong_all (s : KS) (v : Value) (w : World) (k n : Int) (k0 : 0 ≤ k) (k1 : k ≤ 255) (h : SShows w s v) :
    Calls Try.prog 4 #[v, .int .u8 k, .int .i64 n] w fun e w' => e = .returned (.bool true) ∧ Fr (fun _ => False) w w' := by
  have HSH := Lib.hid h
  obtain ⟨av, pv, rfl, hnu, _, hav, hpv⟩ := h
  have HNUM := Lib.hid hnu
  have hnum8 : (0 : Int) ≤ (s.number : Int) ∧ (s.number : Int) ≤ 65535 := ⟨by omega, by omega⟩
  have HNUM8 := Lib.hid hnum8
  clear hnum8 hnu
  obtain ⟨aa, ac, rfl, hx1⟩ := hav.shape
  obtain ⟨pa, pc, rfl, hx2⟩ := hpv.shape
  clear hav hpv hx1 hx2
  obtain ⟨w0, hw0⟩ : ∃ w0, w0 = (w.alloc (.cells #[.int .u16 s.number, .slice aa s.aliases.length ac, .int .u8 s.faults, .slice pa s.procs.length pc] 26)).alloc (.cells #[.int .i64 n] 3) := ⟨_, rfl⟩
  have H0 := Lib.hid (show Fr (fun _ => False) w w0 ∧ w0.heap[w.heap.size]? = some (.cells #[.int .u16 s.number, .slice aa s.aliases.length ac, .int .u8 s.faults, .slice pa s.procs.length pc] 26 (0, 0)) ∧ w0.heap[w.heap.size + 1]? = some (.cells #[.int .i64 n] 3 (0, 0)) from by
    rw [hw0]
    refine ⟨((Fr.refl _ _).alloc _).alloc _, box_kept (S := fun _ => False) (heap_alloc_new _ _) ((Fr.refl _ _).alloc _) (fun h => h), ?_⟩
    have := heap_alloc_new (w.alloc (.cells #[.int .u16 s.number, .slice aa s.aliases.length ac, .int .u8 s.faults, .slice pa s.procs.length pc] 26)) (.cells #[.int .i64 n] 3)
    simpa using this)
  have haw := awake_any w0
  rw [hw0] at haw
  go_enter Try.func4, Try.ntmps4
  go_wp2_with fail
  refine haw.mono ?_
  rintro e w1 ⟨rfl, f1⟩
  rw [← hw0] at f1
  have H1 := Lib.hid (And.intro (H0.out.1.trans f1 (fun _ _ h => h)) (And.intro (box_kept H0.out.2.1 f1 (fun h => h)) (box_kept H0.out.2.2 f1 (fun h => h))))
  clear haw f1 hw0
  generalize hg1 : w.heap.size + 1 = g1 at H1 ⊢
  have HG1 := Lib.hid hg1
  clear hg1
  have r0 := cells_row H1.out.2.1 0 _ rfl
  have r1 := cells_row H1.out.2.1 1 _ rfl
  have r2 := cells_row H1.out.2.1 2 _ rfl
  have r3 := cells_row H1.out.2.1 3 _ rfl
  simp only [List.getElem_toArray, List.getElem_cons_succ, List.getElem_cons_zero] at r0 r1 r2 r3
  have hli := smallLight_any s _ w1 (HSH.out.fr H1.out.1)
  cases hB : smallE s with
  | false =>
    rw [hB] at hli
    go_wp2_with fail
    refine hli.mono ?_
    rintro e w2 ⟨rfl, f2⟩
    have F2 := Lib.hid f2
    clear f2 hli r0 r1 r2 r3
    go_wp2
    go_ret
    exact ⟨rfl, H1.out.1.trans F2.out (fun _ _ h => h)⟩
  | true =>
    rw [hB] at hli
    have HB := Lib.hid hB
    clear hB
    go_wp2_with fail
    refine hli.mono ?_
    rintro e w2 ⟨rfl, f2⟩
    have H2 := Lib.hid (And.intro (H1.out.1.trans f2 (fun _ _ h => h)) (And.intro (box_kept H1.out.2.1 f2 (fun h => h)) (box_kept H1.out.2.2 f2 (fun h => h))))
    clear f2 hli r0 r1 r2 r3
    have r0 := cells_row H2.out.2.1 0 _ rfl
    have r1 := cells_row H2.out.2.1 1 _ rfl
    have r2 := cells_row H2.out.2.1 2 _ rfl
    have r3 := cells_row H2.out.2.1 3 _ rfl
    simp only [List.getElem_toArray, List.getElem_cons_succ, List.getElem_cons_zero] at r0 r1 r2 r3
    have htab := table_own s _ w2 (HSH.out.fr H2.out.1) HB.out
    go_wp2_with fail
    refine htab.mono ?_
    rintro e w3 ⟨v', rfl, ht0, f3⟩
    have ht := ht0.tabled.mono (S := fun k => k < w3.heap.size) (fun k hk _ => hk)
    have HLA := Lib.hid (show (tableE s).types.length ≤ 4 ∧ (tableE s).faults.length ≤ 3 ∧ (tableE s).procs.length ≤ 4 from ⟨by simp [tableE, aliasesE]; omega, by simp [tableE, faultsE]; omega, by simp [tableE, procsE]; omega⟩)
    have HSA := Lib.hid (And.intro (aliasesE_short s (min 4 s.aliases.length)) (And.intro (faultsE_short (s.faults % 4)) (procsE_short s (knownE (min 4 s.aliases.length)) (min 4 s.procs.length))))
    obtain ⟨T, hT⟩ : ∃ T, T = tableE s := ⟨_, rfl⟩
    rw [← hT] at ht ht0 HLA
    have HSA2 := Lib.hid (show (∀ x ∈ T.types, x.1.length ≤ 1000) ∧ (∀ x ∈ T.faults, x.1.length ≤ 1000) ∧ ∀ p ∈ T.procs, p.name.length ≤ 1000 ∧ p.collate ≤ 255 from by rw [hT]; exact HSA.out)
    have HTE := Lib.hid hT
    obtain ⟨tv, fv, pv', b, N, rfl, hnl, hb, hN, hN3, hal, hfl, hpl⟩ := ht0
    have hpcp := hpl.cp
    have hpo : ∀ k, pv'.ownBlock = some k → N ≤ k ∧ k < w3.heap.size := fun k hk => ⟨(hpl.own k hk).1, (hpl.own k hk).2.1⟩
    obtain ⟨ta, tc, rfl⟩ := hal.slice
    obtain ⟨fa, fc, rfl⟩ := hfl.slice
    obtain ⟨qa, qc, rfl⟩ := hpl.slice
    have HT := Lib.hid ht
    have HR := Lib.hid (And.intro hal.cp (And.intro hfl.cp (And.intro hpcp (And.intro hpo (And.intro hnl (And.intro hb (And.intro hN hN3)))))))
    have F3 := Lib.hid (And.intro (H2.out.1.trans f3 (fun _ _ h => h)) (box_kept H2.out.2.2 f3 (fun h => h)))
    clear hT hnl hal hfl hpl hpcp hpo hb hN hN3 f3 htab r0 r1 r2 r3 ht
    unfold sv
    go_upto_region 6 with fail
    obtain ⟨w4, hw4⟩ : ∃ w4, w4 = w3.alloc (.cells #[.string ⟨T.name.toArray⟩, .int .i64 T.number, .int .i64 T.version, .slice ta T.types.length tc, .slice fa T.faults.length fc, .slice qa T.procs.length qc] 32) := ⟨_, rfl⟩
    obtain ⟨g7, hg7⟩ : ∃ g7, g7 = w3.heap.size := ⟨_, rfl⟩
    rw [← hw4, ← hg7]
    have H4 := Lib.hid (show w4.heap[g7]? = some (.cells #[.string ⟨T.name.toArray⟩, .int .i64 T.number, .int .i64 T.version, .slice ta T.types.length tc, .slice fa T.faults.length fc, .slice qa T.procs.length qc] 32 (0, 0)) ∧ Fr (fun _ => False) w3 w4 from by rw [hw4, hg7]; exact ⟨heap_alloc_new _ _, (Fr.refl _ _).alloc _⟩)
    have HG7 := Lib.hid hg7
    have hck := check_any _ T _ w4 (HT.out.fr H4.out.2 (fun _ _ h => h))
    unfold sv at hck
    have hct := check_table s (SShows.ok HSH.out) HNUM.out
    rw [← HTE.out] at hct
    have HCT := Lib.hid hct
    have e0 := cells_row H4.out.1 0 _ rfl
    have e1 := cells_row H4.out.1 1 _ rfl
    have e2 := cells_row H4.out.1 2 _ rfl
    have e3 := cells_row H4.out.1 3 _ rfl
    have e4 := cells_row H4.out.1 4 _ rfl
    have e5 := cells_row H4.out.1 5 _ rfl
    simp only [List.getElem_toArray, List.getElem_cons_succ, List.getElem_cons_zero] at e0 e1 e2 e3 e4 e5
    clear hw4 hg7 hct
    by_cases hs : smallT T
    · rw [HCT.out.1 hs] at hck
      have HSM := Lib.hid hs
      clear hs
      go_wp2_with fail
      refine hck.mono ?_
      rintro e w5 ⟨rfl, f5⟩
      have F5 := Lib.hid f5
      clear f5 hck e0 e1 e2 e3 e4 e5
      go_upto_region 12 with fail
      obtain ⟨w8, hw8⟩ : ∃ w8, w8 = w5.alloc (.cells #[.int .u8 0, .int .i64 0, .slice none 0 0, .slice none 0 0] 38) := ⟨_, rfl⟩
      obtain ⟨g8, hg8⟩ : ∃ g8, g8 = w5.heap.size := ⟨_, rfl⟩
      rw [← hw8, ← hg8]
      have hz8 : w8.heap[g8]? = some (.cells #[.int .u8 0, .int .i64 0, .slice none 0 0, .slice none 0 0] 38 (0, 0)) := by rw [hw8, hg8]; exact heap_alloc_new _ _
      have f38 : Fr (fun _ => False) w3 w8 := by rw [hw8]; exact (H4.out.2.trans F5.out (fun _ _ h => h)).alloc _
      have f48 : Fr (fun _ => False) w4 w8 := by rw [hw8]; exact F5.out.alloc _
      have hB7 := box_kept H4.out.1 f48 (fun h => h)
      have h78 : g7 < g8 := by rw [hg8]; have := lt_of_block (box_kept H4.out.1 F5.out (fun h => h)); exact this
      have HW := Lib.hid (show WState w T g1 g7 g8 b N n (.slice ta T.types.length tc) (.slice fa T.faults.length fc) (.slice qa T.procs.length qc) w8 from
        { fr := F3.out.1.trans f38 (fun _ _ h => h)
          num := box_kept F3.out.2 f38 (fun h => h)
          box := hB7
          zero := hz8
          tab := (HG7.out ▸ HT.out).fr f38 (fun _ _ h => h)
          ca := (HR.out.1.1.fr f38 (fun _ _ h => h) (fun _ _ h => h)).monoS (fun k hk => ⟨hk.1.2, hk.2.1, hk.2.2⟩)
          cf := (HR.out.2.1.1.fr f38 (fun _ _ h => h) (fun _ _ h => h)).monoS (fun k hk => ⟨hk.1.2, hk.2.2⟩)
          cp := (HR.out.2.2.1.fr f38 (fun _ _ h => h) (fun _ _ h => h)).monoS (fun k hk => ⟨hk.1.1, by rw [HG7.out]; exact hk.2, hk.1.2.2⟩)
          oa := fun k hk => ⟨(HR.out.1.2 k hk).1.2, (HR.out.1.2 k hk).2, (HR.out.1.2 k hk).1.1⟩
          of := fun k hk => ⟨(HR.out.2.1.2 k hk).1.2, (HR.out.2.1.2 k hk).1.1⟩
          op := fun k hk => ⟨(HR.out.2.2.2.1 k hk).1, by rw [HG7.out]; exact (HR.out.2.2.2.1 k hk).2⟩
          o1 := by rw [← HG1.out]; omega
          o2 := by have := lt_of_block H2.out.2.2; have := HR.out.2.2.2.2.2.1; omega
          o3 := HR.out.2.2.2.2.2.2.1
          o4 := by rw [HG7.out]; exact HR.out.2.2.2.2.2.2.2
          o5 := h78
          la := HLA.out
          sa := HSA2.out.1
          sf := HSA2.out.2.1
          sp := HSA2.out.2.2
          nl := HR.out.2.2.2.2.1 })
      obtain ⟨mm, ff, qq, hP3⟩ := table_parts s (SShows.ok HSH.out) HNUM.out (HTE.out ▸ HSM.out)
      rw [← HTE.out] at hP3
      have HP3 := Lib.hid hP3
      clear hw8 hg8 hz8 f38 f48 hB7 h78 hP3
      have hg1l := lt_of_block HW.out.num
      have hg7l := lt_of_block HW.out.box
      have hg8l := lt_of_block HW.out.zero
      have hg78 : g7 ≠ g8 := by have := HW.out.o5; omega
      have hg87 : g8 ≠ g7 := by have := HW.out.o5; omega
      have hg17 : g1 ≠ g7 := by have := HW.out.o2; have := HW.out.o3; have := HW.out.o4; omega
      have hg71 : g7 ≠ g1 := by have := HW.out.o2; have := HW.out.o3; have := HW.out.o4; omega
      have hkk : 0 ≤ k % 16 ∧ k % 16 < 16 := by omega
      rcases (by omega : k % 16 = 0 ∨ k % 16 = 1 ∨ k % 16 = 2 ∨ k % 16 = 3 ∨ k % 16 = 4 ∨ k % 16 = 5 ∨ k % 16 = 6 ∨ k % 16 = 7 ∨ k % 16 = 8 ∨ k % 16 = 9 ∨ k % 16 = 10 ∨ k % 16 = 11 ∨ k % 16 = 12 ∨ k % 16 = 13 ∨ k % 16 = 14 ∨ k % 16 = 15) with h16 | h16 | h16 | h16 | h16 | h16 | h16 | h16 | h16 | h16 | h16 | h16 | h16 | h16 | h16 | h16
      · have y0 := cells_row HW.out.box 0 _ rfl
        have y1 := cells_row HW.out.box 1 _ rfl
        have y2 := cells_row HW.out.box 2 _ rfl
        have y3 := cells_row HW.out.box 3 _ rfl
        have y4 := cells_row HW.out.box 4 _ rfl
        have y5 := cells_row HW.out.box 5 _ rfl
        simp only [List.getElem_toArray, List.getElem_cons_succ, List.getElem_cons_zero] at y0 y1 y2 y3 y4 y5
        have z0 : w8.frozen? ⟨g7, 0, none⟩ = false := by simp [World.frozen?, HW.out.box]
        have z1 : w8.frozen? ⟨g7, 1, none⟩ = false := by simp [World.frozen?, HW.out.box]
        have z2 : w8.frozen? ⟨g7, 2, none⟩ = false := by simp [World.frozen?, HW.out.box]
        have z3 : w8.frozen? ⟨g7, 3, none⟩ = false := by simp [World.frozen?, HW.out.box]
        have z4 : w8.frozen? ⟨g7, 4, none⟩ = false := by simp [World.frozen?, HW.out.box]
        have z5 : w8.frozen? ⟨g7, 5, none⟩ = false := by simp [World.frozen?, HW.out.box]
        have fs : Fr (fun k => k = g7) w8 (w8.setCell ⟨g7, 0, none⟩ (.string ⟨#[114, 101, 99, 111, 114, 100]⟩)) := Fr.set1 (Fr.refl _ _) 0 _
        have HB7 := Lib.hid (show (w8.setCell ⟨g7, 0, none⟩ (.string ⟨#[114, 101, 99, 111, 114, 100]⟩)).heap[g7]? = some (.cells #[(.string ⟨#[114, 101, 99, 111, 114, 100]⟩), (.int .i64 T.number), (.int .i64 T.version), (.slice ta T.types.length tc), (.slice fa T.faults.length fc), (.slice qa T.procs.length qc)] 32 (0, 0)) from setCell_row 0 _ HW.out.box)
        have HTB := Lib.hid (show Tabled (fun k => k ≠ g7) (w8.setCell ⟨g7, 0, none⟩ (.string ⟨#[114, 101, 99, 111, 114, 100]⟩)) ({ T with name := recordT }) (.agg #[(.string ⟨#[114, 101, 99, 111, 114, 100]⟩), (.int .i64 T.number), (.int .i64 T.version), (.slice ta T.types.length tc), (.slice fa T.faults.length fc), (.slice qa T.procs.length qc)]) from ⟨_, _, _, rfl, by show recordT.length ≤ 1000; decide, (HW.out.lists fs).1, (HW.out.lists fs).2.1, (HW.out.lists fs).2.2⟩)
        have HCK := Lib.hid (wrong0 T)
        have HFW := Lib.hid (HW.out.fr_box fs)
        clear fs hkk
        have x0 := cells_row HB7.out 0 _ rfl
        have x1 := cells_row HB7.out 1 _ rfl
        have x2 := cells_row HB7.out 2 _ rfl
        have x3 := cells_row HB7.out 3 _ rfl
        have x4 := cells_row HB7.out 4 _ rfl
        have x5 := cells_row HB7.out 5 _ rfl
        simp only [List.getElem_toArray, List.getElem_cons_succ, List.getElem_cons_zero] at x0 x1 x2 x3 x4 x5
        have q := check_any _ _ _ _ HTB.out
        rw [HCK.out] at q
        go_wp2_with fail
        refine q.mono ?_
        rintro e w9 ⟨rfl, f9⟩
        have F9 := Lib.hid f9
        clear f9 q x0 x1 x2 x3 x4 x5
        go_wp2
        go_ret
        exact ⟨rfl, HFW.out.trans F9.out (fun _ _ h => h)⟩
      · go_upto_region 17 with fail
        clear h16 hkk
        refine wp_region_links (by kernel_rfl) [some 42, some 43, some 44, some 45, none, some 10] rfl (by decide) (by intro d hd; simp at hd ⊢; omega)
          (fun st wx => Fr (fun k => k = g7) w8 wx ∧ wx.heap[g1]? = some (.cells #[.int .i64 n] 3 (0, 0)) ∧ (st 4 = none → wx.heap[g7]? = some (.cells #[(.string ⟨T.name.toArray⟩), (.int .i64 T.number), (.int .i64 T.version), (.slice ta T.types.length tc), (.slice fa T.faults.length fc), (.slice qa T.procs.length qc)] 32 (0, 0))) ∧ (st 4 ≠ none → wx.heap[g7]? = some (.cells #[(.string ⟨T.name.toArray⟩), (.int .i64 n), (.int .i64 T.version), (.slice ta T.types.length tc), (.slice fa T.faults.length fc), (.slice qa T.procs.length qc)] 32 (0, 0))))
          [.free (.int .i64 n), .free (.func (.func 18) #[] #[.pointer (some ⟨g1, 0, none⟩)]), .free (.int .i64 (outE 0 65535 n)), .free (.pointer (some ⟨g7, 1, none⟩)), .link none, .free (.int .i64 (outE 0 65535 n))]
          (by kernel_rfl) ?h0 ?step ?fin
        case h0 => exact ⟨(Fr.refl _ _).drew, HW.out.num, fun _ => HW.out.box, fun h => absurd rfl h⟩
        case step =>
          intro vals
          simp only [frOfU, fillU, List.setIfInBounds_toArray, List.set_cons_succ, List.set_cons_zero]
          repeat' (first | exact AllOps.nil | refine AllOps.cons ?_ ?_)
          all_goals
            intro st wx hS he hu hn K hK
            simp only [Act.put, List.setIfInBounds_toArray, List.set_cons_succ, List.set_cons_zero, List.getD_cons_zero, List.getD_cons_succ] at hK
            simp only [List.mem_cons, List.not_mem_nil, or_false, forall_eq_or_imp, forall_eq, Region.binds, forall_const, mode_gc, Bool.false_eq_true, false_imp_iff, List.getD_cons_zero, List.getD_cons_succ, OpSort.val, OpSort.isLink, Option.some.injEq, forall_eq', reduceCtorEq, implies_true, true_and, and_true] at he
            (try simp only [Nat.reduceAdd] at hK ⊢)
            have c1 := cell_of_one hS.2.1
            have HSX := Lib.hid hS
            clear hS
          · clear hu hn; (try simp only [he] at hK ⊢); go_simp; exact hK
          · clear hu hn; (try simp only [he] at hK ⊢); go_simp; exact hK
          · clear hu hn
            simp only [he] at hK ⊢
            go_simp
            go_at_call 18
            refine (out_any 0 65535 n g1 wx HSX.out.2.1).mono ?_
            rintro q1 wa ⟨rfl, rfl⟩
            exact hK
          · clear hu hn; (try simp only [he] at hK ⊢); go_simp; exact hK
          · have hb7 := HSX.out.2.2.1 hn
            have HB7 := Lib.hid hb7
            have zz : wx.frozen? ⟨g7, 1, none⟩ = false := by simp [World.frozen?, hb7]
            have dd := cells_row hb7 1 _ rfl
            simp only [List.getElem_toArray, List.getElem_cons_succ, List.getElem_cons_zero] at dd
            clear hu hn hb7
            simp only [he] at hK ⊢
            go_simp
            have fs : Fr (fun k => k = g7) wx (wx.setCell ⟨g7, 1, none⟩ (.int .i64 n)) := Fr.set1 (Fr.refl _ _) 1 _
            exact hK undef _ (fun _ h => by cases h) ⟨HSX.out.1.trans fs (fun _ _ e => e), box_kept HSX.out.2.1 fs hg17, fun h => by simp at h, fun _ => setCell_row 1 _ HB7.out⟩
          · clear hu hn; (try simp only [he] at hK ⊢); go_simp; exact hK
        case fin =>
          intro vals W hS hV
          have h5 : vals 5 = .int .i64 (outE 0 65535 n) := hV 5 _ (by decide) rfl
          have HB7 := Lib.hid (show W.heap[g7]? = some (.cells #[(.string ⟨T.name.toArray⟩), (.int .i64 n), (.int .i64 T.version), (.slice ta T.types.length tc), (.slice fa T.faults.length fc), (.slice qa T.procs.length qc)] 32 (0, 0)) from hS.2.2.2 (fun h => by cases h))
          have fs : Fr (fun k => k = g7) w8 W := hS.1
          have HTB := Lib.hid (show Tabled (fun k => k ≠ g7) W ({ T with number := n }) (.agg #[(.string ⟨T.name.toArray⟩), (.int .i64 n), (.int .i64 T.version), (.slice ta T.types.length tc), (.slice fa T.faults.length fc), (.slice qa T.procs.length qc)]) from ⟨_, _, _, rfl, HW.out.nl, (HW.out.lists fs).1, (HW.out.lists fs).2.1, (HW.out.lists fs).2.2⟩)
          have HFW := Lib.hid (HW.out.fr_box fs)
          simp only [frOfU, fillU, List.setIfInBounds_toArray, List.set_cons_succ, List.set_cons_zero, Nat.reduceAdd, h5]
          clear hV hS fs h5
          by_cases hr : 0 ≤ n ∧ n ≤ 65535
          · have HCK := Lib.hid (show checkE ({ T with number := n }) = 0 from by rw [wrong1 HP3.out n, if_pos hr])
            have ho : outE 0 65535 n = 0 := if_pos hr
            rw [ho]
            clear hr ho
            have x0 := cells_row HB7.out 0 _ rfl
            have x1 := cells_row HB7.out 1 _ rfl
            have x2 := cells_row HB7.out 2 _ rfl
            have x3 := cells_row HB7.out 3 _ rfl
            have x4 := cells_row HB7.out 4 _ rfl
            have x5 := cells_row HB7.out 5 _ rfl
            simp only [List.getElem_toArray, List.getElem_cons_succ, List.getElem_cons_zero] at x0 x1 x2 x3 x4 x5
            have q := check_any _ _ _ _ HTB.out
            rw [HCK.out] at q
            go_wp2_with fail
            refine q.mono ?_
            rintro e w9 ⟨rfl, f9⟩
            have F9 := Lib.hid f9
            clear f9 q x0 x1 x2 x3 x4 x5
            go_wp2
            go_ret
            exact ⟨rfl, HFW.out.trans F9.out (fun _ _ h => h)⟩
          · have HCK := Lib.hid (show checkE ({ T with number := n }) = 2 from by rw [wrong1 HP3.out n, if_neg hr])
            have ho : outE 0 65535 n = 2 := if_neg hr
            rw [ho]
            clear hr ho
            have x0 := cells_row HB7.out 0 _ rfl
            have x1 := cells_row HB7.out 1 _ rfl
            have x2 := cells_row HB7.out 2 _ rfl
            have x3 := cells_row HB7.out 3 _ rfl
            have x4 := cells_row HB7.out 4 _ rfl
            have x5 := cells_row HB7.out 5 _ rfl
            simp only [List.getElem_toArray, List.getElem_cons_succ, List.getElem_cons_zero] at x0 x1 x2 x3 x4 x5
            have q := check_any _ _ _ _ HTB.out
            rw [HCK.out] at q
            go_wp2_with fail
            refine q.mono ?_
            rintro e w9 ⟨rfl, f9⟩
            have F9 := Lib.hid f9
            clear f9 q x0 x1 x2 x3 x4 x5
            go_wp2
            go_ret
            exact ⟨rfl, HFW.out.trans F9.out (fun _ _ h => h)⟩
      · go_upto_region 19 with fail
        clear h16 hkk
        refine wp_region_links (by kernel_rfl) [some 48, some 49, some 50, some 51, none, some 10] rfl (by decide) (by intro d hd; simp at hd ⊢; omega)
          (fun st wx => Fr (fun k => k = g7) w8 wx ∧ wx.heap[g1]? = some (.cells #[.int .i64 n] 3 (0, 0)) ∧ (st 4 = none → wx.heap[g7]? = some (.cells #[(.string ⟨T.name.toArray⟩), (.int .i64 T.number), (.int .i64 T.version), (.slice ta T.types.length tc), (.slice fa T.faults.length fc), (.slice qa T.procs.length qc)] 32 (0, 0))) ∧ (st 4 ≠ none → wx.heap[g7]? = some (.cells #[(.string ⟨T.name.toArray⟩), (.int .i64 T.number), (.int .i64 n), (.slice ta T.types.length tc), (.slice fa T.faults.length fc), (.slice qa T.procs.length qc)] 32 (0, 0))))
          [.free (.int .i64 n), .free (.func (.func 18) #[] #[.pointer (some ⟨g1, 0, none⟩)]), .free (.int .i64 (outE 0 65535 n)), .free (.pointer (some ⟨g7, 2, none⟩)), .link none, .free (.int .i64 (outE 0 65535 n))]
          (by kernel_rfl) ?h0 ?step ?fin
        case h0 => exact ⟨(Fr.refl _ _).drew, HW.out.num, fun _ => HW.out.box, fun h => absurd rfl h⟩
        case step =>
          intro vals
          simp only [frOfU, fillU, List.setIfInBounds_toArray, List.set_cons_succ, List.set_cons_zero]
          repeat' (first | exact AllOps.nil | refine AllOps.cons ?_ ?_)
          all_goals
            intro st wx hS he hu hn K hK
            simp only [Act.put, List.setIfInBounds_toArray, List.set_cons_succ, List.set_cons_zero, List.getD_cons_zero, List.getD_cons_succ] at hK
            simp only [List.mem_cons, List.not_mem_nil, or_false, forall_eq_or_imp, forall_eq, Region.binds, forall_const, mode_gc, Bool.false_eq_true, false_imp_iff, List.getD_cons_zero, List.getD_cons_succ, OpSort.val, OpSort.isLink, Option.some.injEq, forall_eq', reduceCtorEq, implies_true, true_and, and_true] at he
            (try simp only [Nat.reduceAdd] at hK ⊢)
            have c1 := cell_of_one hS.2.1
            have HSX := Lib.hid hS
            clear hS
          · clear hu hn; (try simp only [he] at hK ⊢); go_simp; exact hK
          · clear hu hn; (try simp only [he] at hK ⊢); go_simp; exact hK
          · clear hu hn
            simp only [he] at hK ⊢
            go_simp
            go_at_call 18
            refine (out_any 0 65535 n g1 wx HSX.out.2.1).mono ?_
            rintro q1 wa ⟨rfl, rfl⟩
            exact hK
          · clear hu hn; (try simp only [he] at hK ⊢); go_simp; exact hK
          · have hb7 := HSX.out.2.2.1 hn
            have HB7 := Lib.hid hb7
            have zz : wx.frozen? ⟨g7, 2, none⟩ = false := by simp [World.frozen?, hb7]
            have dd := cells_row hb7 2 _ rfl
            simp only [List.getElem_toArray, List.getElem_cons_succ, List.getElem_cons_zero] at dd
            clear hu hn hb7
            simp only [he] at hK ⊢
            go_simp
            have fs : Fr (fun k => k = g7) wx (wx.setCell ⟨g7, 2, none⟩ (.int .i64 n)) := Fr.set1 (Fr.refl _ _) 2 _
            exact hK undef _ (fun _ h => by cases h) ⟨HSX.out.1.trans fs (fun _ _ e => e), box_kept HSX.out.2.1 fs hg17, fun h => by simp at h, fun _ => setCell_row 2 _ HB7.out⟩
          · clear hu hn; (try simp only [he] at hK ⊢); go_simp; exact hK
        case fin =>
          intro vals W hS hV
          have h5 : vals 5 = .int .i64 (outE 0 65535 n) := hV 5 _ (by decide) rfl
          have HB7 := Lib.hid (show W.heap[g7]? = some (.cells #[(.string ⟨T.name.toArray⟩), (.int .i64 T.number), (.int .i64 n), (.slice ta T.types.length tc), (.slice fa T.faults.length fc), (.slice qa T.procs.length qc)] 32 (0, 0)) from hS.2.2.2 (fun h => by cases h))
          have fs : Fr (fun k => k = g7) w8 W := hS.1
          have HTB := Lib.hid (show Tabled (fun k => k ≠ g7) W ({ T with version := n }) (.agg #[(.string ⟨T.name.toArray⟩), (.int .i64 T.number), (.int .i64 n), (.slice ta T.types.length tc), (.slice fa T.faults.length fc), (.slice qa T.procs.length qc)]) from ⟨_, _, _, rfl, HW.out.nl, (HW.out.lists fs).1, (HW.out.lists fs).2.1, (HW.out.lists fs).2.2⟩)
          have HFW := Lib.hid (HW.out.fr_box fs)
          simp only [frOfU, fillU, List.setIfInBounds_toArray, List.set_cons_succ, List.set_cons_zero, Nat.reduceAdd, h5]
          clear hV hS fs h5
          by_cases hr : 0 ≤ n ∧ n ≤ 65535
          · have HCK := Lib.hid (show checkE ({ T with version := n }) = 0 from by rw [wrong2 HP3.out n, if_pos hr])
            have ho : outE 0 65535 n = 0 := if_pos hr
            rw [ho]
            clear hr ho
            have x0 := cells_row HB7.out 0 _ rfl
            have x1 := cells_row HB7.out 1 _ rfl
            have x2 := cells_row HB7.out 2 _ rfl
            have x3 := cells_row HB7.out 3 _ rfl
            have x4 := cells_row HB7.out 4 _ rfl
            have x5 := cells_row HB7.out 5 _ rfl
            simp only [List.getElem_toArray, List.getElem_cons_succ, List.getElem_cons_zero] at x0 x1 x2 x3 x4 x5
            have q := check_any _ _ _ _ HTB.out
            rw [HCK.out] at q
            go_wp2_with fail
            refine q.mono ?_
            rintro e w9 ⟨rfl, f9⟩
            have F9 := Lib.hid f9
            clear f9 q x0 x1 x2 x3 x4 x5
            go_wp2
            go_ret
            exact ⟨rfl, HFW.out.trans F9.out (fun _ _ h => h)⟩
          · have HCK := Lib.hid (show checkE ({ T with version := n }) = 2 from by rw [wrong2 HP3.out n, if_neg hr])
            have ho : outE 0 65535 n = 2 := if_neg hr
            rw [ho]
            clear hr ho
            have x0 := cells_row HB7.out 0 _ rfl
            have x1 := cells_row HB7.out 1 _ rfl
            have x2 := cells_row HB7.out 2 _ rfl
            have x3 := cells_row HB7.out 3 _ rfl
            have x4 := cells_row HB7.out 4 _ rfl
            have x5 := cells_row HB7.out 5 _ rfl
            simp only [List.getElem_toArray, List.getElem_cons_succ, List.getElem_cons_zero] at x0 x1 x2 x3 x4 x5
            have q := check_any _ _ _ _ HTB.out
            rw [HCK.out] at q
            go_wp2_with fail
            refine q.mono ?_
            rintro e w9 ⟨rfl, f9⟩
            have F9 := Lib.hid f9
            clear f9 q x0 x1 x2 x3 x4 x5
            go_wp2
            go_ret
            exact ⟨rfl, HFW.out.trans F9.out (fun _ _ h => h)⟩
      · have n78 : g7 ≠ w8.heap.size := by omega
        have n87 : w8.heap.size ≠ g7 := by omega
        have y3 := cells_row HW.out.box 3 _ rfl
        simp only [List.getElem_toArray, List.getElem_cons_succ, List.getElem_cons_zero] at y3
        have hmk : ∀ W : World, (Instr.makeSlice 28 (.int .i64 17) (.int .i64 17)).run Try.prog W = .ok (.slice (some ⟨W.heap.size, 0, none⟩) 17 17) (W.alloc (.cells zero85 49)) := make17
        have zz : w8.frozen? ⟨g7, 3, none⟩ = false := by simp [World.frozen?, HW.out.box]
        have fset : Fr (fun k => k = g7) w8 (w8.setCell ⟨g7, 3, none⟩ (.slice (some ⟨w8.heap.size, 0, none⟩) 17 17)) := Fr.set1 (Fr.refl _ _) 3 _
        have fs : Fr (fun k => k = g7) w8 ((w8.setCell ⟨g7, 3, none⟩ (.slice (some ⟨w8.heap.size, 0, none⟩) 17 17)).alloc (.cells zero85 49)) := fset.alloc _
        have hsz : (w8.setCell ⟨g7, 3, none⟩ (.slice (some ⟨w8.heap.size, 0, none⟩) 17 17)).heap.size = w8.heap.size := by simp
        have hrow : ((w8.setCell ⟨g7, 3, none⟩ (.slice (some ⟨w8.heap.size, 0, none⟩) 17 17)).alloc (.cells zero85 49)).heap[w8.heap.size]? = some (.cells zero85 49 (0, 0)) := by
          have := heap_alloc_new (w8.setCell ⟨g7, 3, none⟩ (.slice (some ⟨w8.heap.size, 0, none⟩) 17 17)) (.cells zero85 49)
          rw [hsz] at this
          exact this
        have HB7 := Lib.hid (show ((w8.setCell ⟨g7, 3, none⟩ (.slice (some ⟨w8.heap.size, 0, none⟩) 17 17)).alloc (.cells zero85 49)).heap[g7]? = some (.cells #[(.string ⟨T.name.toArray⟩), (.int .i64 T.number), (.int .i64 T.version), (.slice (some ⟨w8.heap.size, 0, none⟩) 17 17), (.slice fa T.faults.length fc), (.slice qa T.procs.length qc)] 32 (0, 0)) from box_kept (S := fun _ => False) (setCell_row 3 _ HW.out.box) ((Fr.refl _ _).alloc _) (fun h => h))
        have HTB := Lib.hid (show Tabled (fun k => k ≠ g7) ((w8.setCell ⟨g7, 3, none⟩ (.slice (some ⟨w8.heap.size, 0, none⟩) 17 17)).alloc (.cells zero85 49)) ({ T with types := List.replicate 17 ([], zeroT) }) (.agg #[(.string ⟨T.name.toArray⟩), (.int .i64 T.number), (.int .i64 T.version), (.slice (some ⟨w8.heap.size, 0, none⟩) 17 17), (.slice fa T.faults.length fc), (.slice qa T.procs.length qc)]) from ⟨_, _, _, rfl, HW.out.nl, aliases17 _ _ n87 hrow, (HW.out.lists fs).2.1, (HW.out.lists fs).2.2⟩)
        have HFW := Lib.hid (HW.out.fr_box fs)
        have HCK := Lib.hid (show checkE ({ T with types := List.replicate 17 ([], zeroT) }) = 7 from wrong3 HP3.out)
        clear fset fs hrow hsz hkk
        have x0 := cells_row HB7.out 0 _ rfl
        have x1 := cells_row HB7.out 1 _ rfl
        have x2 := cells_row HB7.out 2 _ rfl
        have x3 := cells_row HB7.out 3 _ rfl
        have x4 := cells_row HB7.out 4 _ rfl
        have x5 := cells_row HB7.out 5 _ rfl
        simp only [List.getElem_toArray, List.getElem_cons_succ, List.getElem_cons_zero] at x0 x1 x2 x3 x4 x5
        have q := check_any _ _ _ _ HTB.out
        rw [HCK.out] at q
        go_wp2_with fail
        refine q.mono ?_
        rintro e w9 ⟨rfl, f9⟩
        have F9 := Lib.hid f9
        clear f9 q x0 x1 x2 x3 x4 x5
        go_wp2
        go_ret
        exact ⟨rfl, HFW.out.trans F9.out (fun _ _ h => h)⟩
      · have c1 := cell_of_one HW.out.num
        have FP := Lib.hid (show Fr (fun k => k = g7 ∨ (.slice ta T.types.length tc : Value).ownBlock = some k) w8 w8 from ((Fr.refl _ _) : Fr (fun k => k = g7 ∨ (.slice ta T.types.length tc : Value).ownBlock = some k) w8 w8))
        have HCA := Lib.hid (show CpRow alShown 49 5 (b + 1) (fun k => k ≠ g7 ∧ (.slice ta T.types.length tc : Value).ownBlock ≠ some k) w8 (.slice ta T.types.length tc) T.types from (HW.out.ca.monoS (fun k hk => ⟨by have := HW.out.o4; omega, hk.2.2⟩)).fr (S := fun _ => False) (Fr.refl _ _) (fun _ _ h => h) (fun _ _ h => h))
        have HXS := Lib.hid (show Shows (fun k => k ≠ g7 ∧ (.slice ta T.types.length tc : Value).ownBlock ≠ some k) w8 (.mk 4 n [] 0 (fun _ => .nil)) (.agg #[.int .u8 4, .int .i64 n, .slice none 0 0, .slice none 0 0]) from ⟨_, _, rfl, by decide, by decide, ⟨by simp, by simp, .inl ⟨rfl, _, _, rfl⟩⟩, .inl ⟨rfl, _, _, rfl⟩⟩)
        have hl7 : T.types.length ≤ 100 := by have := HW.out.la.1; omega
        have hb1 : b + 1 ≤ (w8).heap.size := by have := HW.out.o3; have := HW.out.o4; have := FP.out.size; omega
        have ho7 : (.slice ta T.types.length tc : Value).ownBlock ≠ some g7 := fun e => by have := (HW.out.oa g7 e).1; have := HW.out.o4; omega
        have hlast := last_any T.types (.mk 4 n [] 0 (fun _ => .nil)) g7 (b + 1) _ _ _ _ _ _ (.agg #[.int .u8 4, .int .i64 n, .slice none 0 0, .slice none 0 0]) (w8) _ (fun _ h => h) HW.out.box HCA.out hl7 HXS.out hb1 ho7
        go_wp2_with fail
        refine hlast.mono ?_
        clear hlast hl7 hb1 ho7 c1
        rintro e w9 ⟨rfl, tv', hb9, hc9, ho9, f9⟩
        obtain ⟨ra, rn, rc, rfl⟩ : ∃ a n c, tv' = .slice a n c := by obtain ⟨a, c, e⟩ := hc9.slice; exact ⟨a, _, c, e⟩
        have f89 : Fr (fun k => k = g7 ∨ (.slice ta T.types.length tc : Value).ownBlock = some k) w8 w9 := FP.out.trans f9 (fun _ _ e => e)
        have HB7 := Lib.hid hb9
        have HN9 := Lib.hid (show w9.heap[g1]? = some (.cells #[.int .i64 n] 3 (0, 0)) from box_kept HW.out.num f89 (fun e => e.elim hg17 (fun e => by have := (HW.out.oa g1 e).2.2; have := HW.out.o2; omega)))
        have HTB := Lib.hid (show Tabled (fun k => k ≠ g7) w9 ({ T with types := T.types ++ [(lastT, .mk 4 n [] 0 (fun _ => .nil))] }) (.agg #[(.string ⟨T.name.toArray⟩), (.int .i64 T.number), (.int .i64 T.version), (.slice ra rn rc), (.slice fa T.faults.length fc), (.slice qa T.procs.length qc)]) from ⟨_, _, _, rfl, HW.out.nl, hc9.aliasesO (by have := HW.out.la.1; simp; omega) (fun x hx => by rcases List.mem_append.1 hx with h | h; exact HW.out.sa x h; simp at h; subst h; show lastT.length ≤ 1000; decide) _ (fun k h => h.1) (fun k hk e => by
          rcases ho9 with e' | ⟨q, e', hq⟩
          · rw [e'] at hk; have := (HW.out.oa k hk).1; have := HW.out.o4; omega
          · rw [e'] at hk; cases hk; have := FP.out.size; omega), HW.out.keepF _ (.inl rfl) f89, HW.out.keepP _ (.inl rfl) f89⟩)
        have HFW := Lib.hid (HW.out.fr_out _ (.inl rfl) f89)
        clear hb9 hc9 ho9 f89 f9 FP HCA HXS
        have c1 := cell_of_one HN9.out
        have hout := out_any 1 60 n g1 w9 HN9.out
        clear hkk
        by_cases hr : 1 ≤ n ∧ n ≤ 60
        · have HCK := Lib.hid (show checkE ({ T with types := T.types ++ [(lastT, .mk 4 n [] 0 (fun _ => .nil))] }) = 0 from by rw [wrongA HP3.out, right_text, if_pos hr])
          have ho : outE 1 60 n = 0 := if_pos hr
          rw [ho] at hout
          clear hr ho
          go_wp2_with fail
          refine hout.mono ?_
          rintro e wz ⟨rfl, rfl⟩
          clear hout c1
          have x0 := cells_row HB7.out 0 _ rfl
          have x1 := cells_row HB7.out 1 _ rfl
          have x2 := cells_row HB7.out 2 _ rfl
          have x3 := cells_row HB7.out 3 _ rfl
          have x4 := cells_row HB7.out 4 _ rfl
          have x5 := cells_row HB7.out 5 _ rfl
          simp only [List.getElem_toArray, List.getElem_cons_succ, List.getElem_cons_zero] at x0 x1 x2 x3 x4 x5
          have q := check_any _ _ _ _ HTB.out
          rw [HCK.out] at q
          go_wp2_with fail
          refine q.mono ?_
          rintro e w9 ⟨rfl, f9⟩
          have F9 := Lib.hid f9
          clear f9 q x0 x1 x2 x3 x4 x5
          go_wp2
          go_ret
          exact ⟨rfl, HFW.out.trans F9.out (fun _ _ h => h)⟩
        · have HCK := Lib.hid (show checkE ({ T with types := T.types ++ [(lastT, .mk 4 n [] 0 (fun _ => .nil))] }) = 2 from by rw [wrongA HP3.out, right_text, if_neg hr])
          have ho : outE 1 60 n = 2 := if_neg hr
          rw [ho] at hout
          clear hr ho
          go_wp2_with fail
          refine hout.mono ?_
          rintro e wz ⟨rfl, rfl⟩
          clear hout c1
          have x0 := cells_row HB7.out 0 _ rfl
          have x1 := cells_row HB7.out 1 _ rfl
          have x2 := cells_row HB7.out 2 _ rfl
          have x3 := cells_row HB7.out 3 _ rfl
          have x4 := cells_row HB7.out 4 _ rfl
          have x5 := cells_row HB7.out 5 _ rfl
          simp only [List.getElem_toArray, List.getElem_cons_succ, List.getElem_cons_zero] at x0 x1 x2 x3 x4 x5
          have q := check_any _ _ _ _ HTB.out
          rw [HCK.out] at q
          go_wp2_with fail
          refine q.mono ?_
          rintro e w9 ⟨rfl, f9⟩
          have F9 := Lib.hid f9
          clear f9 q x0 x1 x2 x3 x4 x5
          go_wp2
          go_ret
          exact ⟨rfl, HFW.out.trans F9.out (fun _ _ h => h)⟩
      · have c1 := cell_of_one HW.out.num
        have FP := Lib.hid (show Fr (fun k => k = g7 ∨ (.slice ta T.types.length tc : Value).ownBlock = some k) w8 w8 from ((Fr.refl _ _) : Fr (fun k => k = g7 ∨ (.slice ta T.types.length tc : Value).ownBlock = some k) w8 w8))
        have HCA := Lib.hid (show CpRow alShown 49 5 (b + 1) (fun k => k ≠ g7 ∧ (.slice ta T.types.length tc : Value).ownBlock ≠ some k) w8 (.slice ta T.types.length tc) T.types from (HW.out.ca.monoS (fun k hk => ⟨by have := HW.out.o4; omega, hk.2.2⟩)).fr (S := fun _ => False) (Fr.refl _ _) (fun _ _ h => h) (fun _ _ h => h))
        have HXS := Lib.hid (show Shows (fun k => k ≠ g7 ∧ (.slice ta T.types.length tc : Value).ownBlock ≠ some k) w8 (.mk 1 n [] 0 (fun _ => .nil)) (.agg #[.int .u8 1, .int .i64 n, .slice none 0 0, .slice none 0 0]) from ⟨_, _, rfl, by decide, by decide, ⟨by simp, by simp, .inl ⟨rfl, _, _, rfl⟩⟩, .inl ⟨rfl, _, _, rfl⟩⟩)
        have hl7 : T.types.length ≤ 100 := by have := HW.out.la.1; omega
        have hb1 : b + 1 ≤ (w8).heap.size := by have := HW.out.o3; have := HW.out.o4; have := FP.out.size; omega
        have ho7 : (.slice ta T.types.length tc : Value).ownBlock ≠ some g7 := fun e => by have := (HW.out.oa g7 e).1; have := HW.out.o4; omega
        have hlast := last_any T.types (.mk 1 n [] 0 (fun _ => .nil)) g7 (b + 1) _ _ _ _ _ _ (.agg #[.int .u8 1, .int .i64 n, .slice none 0 0, .slice none 0 0]) (w8) _ (fun _ h => h) HW.out.box HCA.out hl7 HXS.out hb1 ho7
        go_wp2_with fail
        refine hlast.mono ?_
        clear hlast hl7 hb1 ho7 c1
        rintro e w9 ⟨rfl, tv', hb9, hc9, ho9, f9⟩
        obtain ⟨ra, rn, rc, rfl⟩ : ∃ a n c, tv' = .slice a n c := by obtain ⟨a, c, e⟩ := hc9.slice; exact ⟨a, _, c, e⟩
        have f89 : Fr (fun k => k = g7 ∨ (.slice ta T.types.length tc : Value).ownBlock = some k) w8 w9 := FP.out.trans f9 (fun _ _ e => e)
        have HB7 := Lib.hid hb9
        have HN9 := Lib.hid (show w9.heap[g1]? = some (.cells #[.int .i64 n] 3 (0, 0)) from box_kept HW.out.num f89 (fun e => e.elim hg17 (fun e => by have := (HW.out.oa g1 e).2.2; have := HW.out.o2; omega)))
        have HTB := Lib.hid (show Tabled (fun k => k ≠ g7) w9 ({ T with types := T.types ++ [(lastT, .mk 1 n [] 0 (fun _ => .nil))] }) (.agg #[(.string ⟨T.name.toArray⟩), (.int .i64 T.number), (.int .i64 T.version), (.slice ra rn rc), (.slice fa T.faults.length fc), (.slice qa T.procs.length qc)]) from ⟨_, _, _, rfl, HW.out.nl, hc9.aliasesO (by have := HW.out.la.1; simp; omega) (fun x hx => by rcases List.mem_append.1 hx with h | h; exact HW.out.sa x h; simp at h; subst h; show lastT.length ≤ 1000; decide) _ (fun k h => h.1) (fun k hk e => by
          rcases ho9 with e' | ⟨q, e', hq⟩
          · rw [e'] at hk; have := (HW.out.oa k hk).1; have := HW.out.o4; omega
          · rw [e'] at hk; cases hk; have := FP.out.size; omega), HW.out.keepF _ (.inl rfl) f89, HW.out.keepP _ (.inl rfl) f89⟩)
        have HFW := Lib.hid (HW.out.fr_out _ (.inl rfl) f89)
        clear hb9 hc9 ho9 f89 f9 FP HCA HXS
        have c1 := cell_of_one HN9.out
        have hout := out_any 0 0 n g1 w9 HN9.out
        clear hkk
        by_cases hr : 0 ≤ n ∧ n ≤ 0
        · have HCK := Lib.hid (show checkE ({ T with types := T.types ++ [(lastT, .mk 1 n [] 0 (fun _ => .nil))] }) = 0 from by rw [wrongA HP3.out, right_card, if_pos hr])
          have ho : outE 0 0 n = 0 := if_pos hr
          rw [ho] at hout
          clear hr ho
          go_wp2_with fail
          refine hout.mono ?_
          rintro e wz ⟨rfl, rfl⟩
          clear hout c1
          have x0 := cells_row HB7.out 0 _ rfl
          have x1 := cells_row HB7.out 1 _ rfl
          have x2 := cells_row HB7.out 2 _ rfl
          have x3 := cells_row HB7.out 3 _ rfl
          have x4 := cells_row HB7.out 4 _ rfl
          have x5 := cells_row HB7.out 5 _ rfl
          simp only [List.getElem_toArray, List.getElem_cons_succ, List.getElem_cons_zero] at x0 x1 x2 x3 x4 x5
          have q := check_any _ _ _ _ HTB.out
          rw [HCK.out] at q
          go_wp2_with fail
          refine q.mono ?_
          rintro e w9 ⟨rfl, f9⟩
          have F9 := Lib.hid f9
          clear f9 q x0 x1 x2 x3 x4 x5
          go_wp2
          go_ret
          exact ⟨rfl, HFW.out.trans F9.out (fun _ _ h => h)⟩
        · have HCK := Lib.hid (show checkE ({ T with types := T.types ++ [(lastT, .mk 1 n [] 0 (fun _ => .nil))] }) = 2 from by rw [wrongA HP3.out, right_card, if_neg hr])
          have ho : outE 0 0 n = 2 := if_neg hr
          rw [ho] at hout
          clear hr ho
          go_wp2_with fail
          refine hout.mono ?_
          rintro e wz ⟨rfl, rfl⟩
          clear hout c1
          have x0 := cells_row HB7.out 0 _ rfl
          have x1 := cells_row HB7.out 1 _ rfl
          have x2 := cells_row HB7.out 2 _ rfl
          have x3 := cells_row HB7.out 3 _ rfl
          have x4 := cells_row HB7.out 4 _ rfl
          have x5 := cells_row HB7.out 5 _ rfl
          simp only [List.getElem_toArray, List.getElem_cons_succ, List.getElem_cons_zero] at x0 x1 x2 x3 x4 x5
          have q := check_any _ _ _ _ HTB.out
          rw [HCK.out] at q
          go_wp2_with fail
          refine q.mono ?_
          rintro e w9 ⟨rfl, f9⟩
          have F9 := Lib.hid f9
          clear f9 q x0 x1 x2 x3 x4 x5
          go_wp2
          go_ret
          exact ⟨rfl, HFW.out.trans F9.out (fun _ _ h => h)⟩
      · have n78 : g7 ≠ w8.heap.size := by omega
        have n87 : w8.heap.size ≠ g7 := by omega
        have FP := Lib.hid (show Fr (fun k => k = g7 ∨ (.slice ta T.types.length tc : Value).ownBlock = some k) w8 (w8.alloc (.cells #[.string ⟨#[108, 97, 115, 116]⟩] 9)) from (((Fr.refl _ _).alloc _) : Fr (fun k => k = g7 ∨ (.slice ta T.types.length tc : Value).ownBlock = some k) w8 (w8.alloc (.cells #[.string ⟨#[108, 97, 115, 116]⟩] 9))))
        have HCA := Lib.hid (show CpRow alShown 49 5 (b + 1) (fun k => k ≠ g7 ∧ (.slice ta T.types.length tc : Value).ownBlock ≠ some k) (w8.alloc (.cells #[.string ⟨#[108, 97, 115, 116]⟩] 9)) (.slice ta T.types.length tc) T.types from (HW.out.ca.monoS (fun k hk => ⟨by have := HW.out.o4; omega, hk.2.2⟩)).fr (S := fun _ => False) ((Fr.refl _ _).alloc _) (fun _ _ h => h) (fun _ _ h => h))
        have HXS := Lib.hid (show Shows (fun k => k ≠ g7 ∧ (.slice ta T.types.length tc : Value).ownBlock ≠ some k) (w8.alloc (.cells #[.string ⟨#[108, 97, 115, 116]⟩] 9)) (.mk 9 0 [lastT] 0 (fun _ => .nil)) (.agg #[.int .u8 9, .int .i64 0, .slice (some ⟨w8.heap.size, 0, none⟩) 1 1, .slice none 0 0]) from ⟨_, _, rfl, by decide, by decide, texts_new w8 _ _ ⟨by omega, fun e => by have := (HW.out.oa _ e).1; have := HW.out.o4; omega⟩ (by decide) (by decide) _ rfl _ (heap_alloc_new _ _) _ rfl, .inl ⟨rfl, _, _, rfl⟩⟩)
        have hl7 : T.types.length ≤ 100 := by have := HW.out.la.1; omega
        have hb1 : b + 1 ≤ ((w8.alloc (.cells #[.string ⟨#[108, 97, 115, 116]⟩] 9))).heap.size := by have := HW.out.o3; have := HW.out.o4; have := FP.out.size; omega
        have ho7 : (.slice ta T.types.length tc : Value).ownBlock ≠ some g7 := fun e => by have := (HW.out.oa g7 e).1; have := HW.out.o4; omega
        have hlast := last_any T.types (.mk 9 0 [lastT] 0 (fun _ => .nil)) g7 (b + 1) _ _ _ _ _ _ (.agg #[.int .u8 9, .int .i64 0, .slice (some ⟨w8.heap.size, 0, none⟩) 1 1, .slice none 0 0]) ((w8.alloc (.cells #[.string ⟨#[108, 97, 115, 116]⟩] 9))) _ (fun _ h => h) (box_kept HW.out.box (S := fun _ => False) ((Fr.refl _ _).alloc _) (fun h => h)) HCA.out hl7 HXS.out hb1 ho7
        go_wp2_with fail
        refine hlast.mono ?_
        clear hlast hl7 hb1 ho7
        rintro e w9 ⟨rfl, tv', hb9, hc9, ho9, f9⟩
        obtain ⟨ra, rn, rc, rfl⟩ : ∃ a n c, tv' = .slice a n c := by obtain ⟨a, c, e⟩ := hc9.slice; exact ⟨a, _, c, e⟩
        have f89 : Fr (fun k => k = g7 ∨ (.slice ta T.types.length tc : Value).ownBlock = some k) w8 w9 := FP.out.trans f9 (fun _ _ e => e)
        have HB7 := Lib.hid hb9
        have HN9 := Lib.hid (show w9.heap[g1]? = some (.cells #[.int .i64 n] 3 (0, 0)) from box_kept HW.out.num f89 (fun e => e.elim hg17 (fun e => by have := (HW.out.oa g1 e).2.2; have := HW.out.o2; omega)))
        have HTB := Lib.hid (show Tabled (fun k => k ≠ g7) w9 ({ T with types := T.types ++ [(lastT, .mk 9 0 [lastT] 0 (fun _ => .nil))] }) (.agg #[(.string ⟨T.name.toArray⟩), (.int .i64 T.number), (.int .i64 T.version), (.slice ra rn rc), (.slice fa T.faults.length fc), (.slice qa T.procs.length qc)]) from ⟨_, _, _, rfl, HW.out.nl, hc9.aliasesO (by have := HW.out.la.1; simp; omega) (fun x hx => by rcases List.mem_append.1 hx with h | h; exact HW.out.sa x h; simp at h; subst h; show lastT.length ≤ 1000; decide) _ (fun k h => h.1) (fun k hk e => by
          rcases ho9 with e' | ⟨q, e', hq⟩
          · rw [e'] at hk; have := (HW.out.oa k hk).1; have := HW.out.o4; omega
          · rw [e'] at hk; cases hk; have := FP.out.size; omega), HW.out.keepF _ (.inl rfl) f89, HW.out.keepP _ (.inl rfl) f89⟩)
        have HFW := Lib.hid (HW.out.fr_out _ (.inl rfl) f89)
        clear hb9 hc9 ho9 f89 f9 FP HCA HXS
        have c1 := cell_of_one HN9.out
        clear c1 hkk
        have HCK := Lib.hid (show checkE ({ T with types := T.types ++ [(lastT, .mk 9 0 [lastT] 0 (fun _ => .nil))] }) = 10 from by rw [wrongA HP3.out, right_ref HP3.out])
        have x0 := cells_row HB7.out 0 _ rfl
        have x1 := cells_row HB7.out 1 _ rfl
        have x2 := cells_row HB7.out 2 _ rfl
        have x3 := cells_row HB7.out 3 _ rfl
        have x4 := cells_row HB7.out 4 _ rfl
        have x5 := cells_row HB7.out 5 _ rfl
        simp only [List.getElem_toArray, List.getElem_cons_succ, List.getElem_cons_zero] at x0 x1 x2 x3 x4 x5
        have q := check_any _ _ _ _ HTB.out
        rw [HCK.out] at q
        go_wp2_with fail
        refine q.mono ?_
        rintro e w9 ⟨rfl, f9⟩
        have F9 := Lib.hid f9
        clear f9 q x0 x1 x2 x3 x4 x5
        go_wp2
        go_ret
        exact ⟨rfl, HFW.out.trans F9.out (fun _ _ h => h)⟩
      · have n78 : g7 ≠ w8.heap.size := by omega
        have n87 : w8.heap.size ≠ g7 := by omega
        have FP := Lib.hid (show Fr (fun k => k = g7 ∨ (.slice ta T.types.length tc : Value).ownBlock = some k) w8 (w8.alloc (.cells #[.string ⟨#[97]⟩, .string ⟨#[98]⟩, .string ⟨#[97]⟩] 9)) from (((Fr.refl _ _).alloc _) : Fr (fun k => k = g7 ∨ (.slice ta T.types.length tc : Value).ownBlock = some k) w8 (w8.alloc (.cells #[.string ⟨#[97]⟩, .string ⟨#[98]⟩, .string ⟨#[97]⟩] 9))))
        have HCA := Lib.hid (show CpRow alShown 49 5 (b + 1) (fun k => k ≠ g7 ∧ (.slice ta T.types.length tc : Value).ownBlock ≠ some k) (w8.alloc (.cells #[.string ⟨#[97]⟩, .string ⟨#[98]⟩, .string ⟨#[97]⟩] 9)) (.slice ta T.types.length tc) T.types from (HW.out.ca.monoS (fun k hk => ⟨by have := HW.out.o4; omega, hk.2.2⟩)).fr (S := fun _ => False) ((Fr.refl _ _).alloc _) (fun _ _ h => h) (fun _ _ h => h))
        have HXS := Lib.hid (show Shows (fun k => k ≠ g7 ∧ (.slice ta T.types.length tc : Value).ownBlock ≠ some k) (w8.alloc (.cells #[.string ⟨#[97]⟩, .string ⟨#[98]⟩, .string ⟨#[97]⟩] 9)) (.mk 7 0 [[97], [98], [97]] 0 (fun _ => .nil)) (.agg #[.int .u8 7, .int .i64 0, .slice (some ⟨w8.heap.size, 0, none⟩) 3 3, .slice none 0 0]) from ⟨_, _, rfl, by decide, by decide, texts_new w8 _ _ ⟨by omega, fun e => by have := (HW.out.oa _ e).1; have := HW.out.o4; omega⟩ (by decide) (by decide) _ rfl _ (heap_alloc_new _ _) _ rfl, .inl ⟨rfl, _, _, rfl⟩⟩)
        have hl7 : T.types.length ≤ 100 := by have := HW.out.la.1; omega
        have hb1 : b + 1 ≤ ((w8.alloc (.cells #[.string ⟨#[97]⟩, .string ⟨#[98]⟩, .string ⟨#[97]⟩] 9))).heap.size := by have := HW.out.o3; have := HW.out.o4; have := FP.out.size; omega
        have ho7 : (.slice ta T.types.length tc : Value).ownBlock ≠ some g7 := fun e => by have := (HW.out.oa g7 e).1; have := HW.out.o4; omega
        have hlast := last_any T.types (.mk 7 0 [[97], [98], [97]] 0 (fun _ => .nil)) g7 (b + 1) _ _ _ _ _ _ (.agg #[.int .u8 7, .int .i64 0, .slice (some ⟨w8.heap.size, 0, none⟩) 3 3, .slice none 0 0]) ((w8.alloc (.cells #[.string ⟨#[97]⟩, .string ⟨#[98]⟩, .string ⟨#[97]⟩] 9))) _ (fun _ h => h) (box_kept HW.out.box (S := fun _ => False) ((Fr.refl _ _).alloc _) (fun h => h)) HCA.out hl7 HXS.out hb1 ho7
        go_wp2_with fail
        refine hlast.mono ?_
        clear hlast hl7 hb1 ho7
        rintro e w9 ⟨rfl, tv', hb9, hc9, ho9, f9⟩
        obtain ⟨ra, rn, rc, rfl⟩ : ∃ a n c, tv' = .slice a n c := by obtain ⟨a, c, e⟩ := hc9.slice; exact ⟨a, _, c, e⟩
        have f89 : Fr (fun k => k = g7 ∨ (.slice ta T.types.length tc : Value).ownBlock = some k) w8 w9 := FP.out.trans f9 (fun _ _ e => e)
        have HB7 := Lib.hid hb9
        have HN9 := Lib.hid (show w9.heap[g1]? = some (.cells #[.int .i64 n] 3 (0, 0)) from box_kept HW.out.num f89 (fun e => e.elim hg17 (fun e => by have := (HW.out.oa g1 e).2.2; have := HW.out.o2; omega)))
        have HTB := Lib.hid (show Tabled (fun k => k ≠ g7) w9 ({ T with types := T.types ++ [(lastT, .mk 7 0 [[97], [98], [97]] 0 (fun _ => .nil))] }) (.agg #[(.string ⟨T.name.toArray⟩), (.int .i64 T.number), (.int .i64 T.version), (.slice ra rn rc), (.slice fa T.faults.length fc), (.slice qa T.procs.length qc)]) from ⟨_, _, _, rfl, HW.out.nl, hc9.aliasesO (by have := HW.out.la.1; simp; omega) (fun x hx => by rcases List.mem_append.1 hx with h | h; exact HW.out.sa x h; simp at h; subst h; show lastT.length ≤ 1000; decide) _ (fun k h => h.1) (fun k hk e => by
          rcases ho9 with e' | ⟨q, e', hq⟩
          · rw [e'] at hk; have := (HW.out.oa k hk).1; have := HW.out.o4; omega
          · rw [e'] at hk; cases hk; have := FP.out.size; omega), HW.out.keepF _ (.inl rfl) f89, HW.out.keepP _ (.inl rfl) f89⟩)
        have HFW := Lib.hid (HW.out.fr_out _ (.inl rfl) f89)
        clear hb9 hc9 ho9 f89 f9 FP HCA HXS
        have c1 := cell_of_one HN9.out
        clear c1 hkk
        have HCK := Lib.hid (show checkE ({ T with types := T.types ++ [(lastT, .mk 7 0 [[97], [98], [97]] 0 (fun _ => .nil))] }) = 9 from by rw [wrongA HP3.out, right_enum])
        have x0 := cells_row HB7.out 0 _ rfl
        have x1 := cells_row HB7.out 1 _ rfl
        have x2 := cells_row HB7.out 2 _ rfl
        have x3 := cells_row HB7.out 3 _ rfl
        have x4 := cells_row HB7.out 4 _ rfl
        have x5 := cells_row HB7.out 5 _ rfl
        simp only [List.getElem_toArray, List.getElem_cons_succ, List.getElem_cons_zero] at x0 x1 x2 x3 x4 x5
        have q := check_any _ _ _ _ HTB.out
        rw [HCK.out] at q
        go_wp2_with fail
        refine q.mono ?_
        rintro e w9 ⟨rfl, f9⟩
        have F9 := Lib.hid f9
        clear f9 q x0 x1 x2 x3 x4 x5
        go_wp2
        go_ret
        exact ⟨rfl, HFW.out.trans F9.out (fun _ _ h => h)⟩
      · have n78 : g7 ≠ w8.heap.size := by omega
        have n87 : w8.heap.size ≠ g7 := by omega
        have n88 : g8 ≠ w8.heap.size := by omega
        have n98 : w8.heap.size ≠ g8 := by omega
        obtain ⟨u0, u1, u2, u3⟩ := cell_of_four HW.out.zero
        have hnw : ((w8.alloc (.cells #[.string ⟨#[97]⟩, .string ⟨#[98]⟩] 9)).alloc (.cells #[.int .u8 0, .int .i64 0, .slice none 0 0, .slice none 0 0] 38)).heap[w8.heap.size + 1]? = some (.cells #[.int .u8 0, .int .i64 0, .slice none 0 0, .slice none 0 0] 38 (0, 0)) := by
          have := heap_alloc_new (w8.alloc (.cells #[.string ⟨#[97]⟩, .string ⟨#[98]⟩] 9)) (.cells #[.int .u8 0, .int .i64 0, .slice none 0 0, .slice none 0 0] 38)
          simpa using this
        have hnt : ((w8.alloc (.cells #[.string ⟨#[97]⟩, .string ⟨#[98]⟩] 9)).alloc (.cells #[.int .u8 0, .int .i64 0, .slice none 0 0, .slice none 0 0] 38)).heap[w8.heap.size]? = some (.cells #[.string ⟨#[97]⟩, .string ⟨#[98]⟩] 9 (0, 0)) := box_kept (S := fun _ => False) (heap_alloc_new _ _) ((Fr.refl _ _).alloc _) (fun h => h)
        have HNW := Lib.hid (And.intro hnw hnt)
        clear hnw hnt
        have FP := Lib.hid (show Fr (fun k => k = g7 ∨ (.slice ta T.types.length tc : Value).ownBlock = some k) w8 ((w8.alloc (.cells #[.string ⟨#[97]⟩, .string ⟨#[98]⟩] 9)).alloc (.cells #[.int .u8 0, .int .i64 0, .slice none 0 0, .slice none 0 0] 38)) from ((((Fr.refl _ _).alloc _).alloc _) : Fr (fun k => k = g7 ∨ (.slice ta T.types.length tc : Value).ownBlock = some k) w8 ((w8.alloc (.cells #[.string ⟨#[97]⟩, .string ⟨#[98]⟩] 9)).alloc (.cells #[.int .u8 0, .int .i64 0, .slice none 0 0, .slice none 0 0] 38))))
        have HCA := Lib.hid (show CpRow alShown 49 5 (b + 1) (fun k => k ≠ g7 ∧ (.slice ta T.types.length tc : Value).ownBlock ≠ some k) ((w8.alloc (.cells #[.string ⟨#[97]⟩, .string ⟨#[98]⟩] 9)).alloc (.cells #[.int .u8 0, .int .i64 0, .slice none 0 0, .slice none 0 0] 38)) (.slice ta T.types.length tc) T.types from (HW.out.ca.monoS (fun k hk => ⟨by have := HW.out.o4; omega, hk.2.2⟩)).fr (S := fun _ => False) (((Fr.refl _ _).alloc _).alloc _) (fun _ _ h => h) (fun _ _ h => h))
        have HXS := Lib.hid (show Shows (fun k => k ≠ g7 ∧ (.slice ta T.types.length tc : Value).ownBlock ≠ some k) ((w8.alloc (.cells #[.string ⟨#[97]⟩, .string ⟨#[98]⟩] 9)).alloc (.cells #[.int .u8 0, .int .i64 0, .slice none 0 0, .slice none 0 0] 38)) (.mk 6 0 [[97], [98]] 1 (fun _ => zeroT)) (.agg #[.int .u8 6, .int .i64 0, .slice (some ⟨w8.heap.size, 0, none⟩) 2 2, .slice (some ⟨w8.heap.size + 1, 0, none⟩) 1 1]) from ⟨_, _, rfl, by decide, by decide, texts_new w8 _ _ ⟨by omega, fun e => by have := (HW.out.oa _ e).1; have := HW.out.o4; omega⟩ (by decide) (by decide) _ rfl _ HNW.out.2 _ rfl, .inr ⟨w8.heap.size + 1, 0, 1, ⟨by omega, fun e => by have := (HW.out.oa _ e).1; have := HW.out.o4; omega⟩, rfl, Nat.le_refl _, fun i hi => (by have e : i = 0 := (by omega); subst e; exact ⟨_, _, _, _, (cell_of_four HNW.out.1).1, (cell_of_four HNW.out.1).2.1, (cell_of_four HNW.out.1).2.2.1, (cell_of_four HNW.out.1).2.2.2, zero_shows _ _⟩)⟩⟩)
        have hl7 : T.types.length ≤ 100 := by have := HW.out.la.1; omega
        have hb1 : b + 1 ≤ (((w8.alloc (.cells #[.string ⟨#[97]⟩, .string ⟨#[98]⟩] 9)).alloc (.cells #[.int .u8 0, .int .i64 0, .slice none 0 0, .slice none 0 0] 38))).heap.size := by have := HW.out.o3; have := HW.out.o4; have := FP.out.size; omega
        have ho7 : (.slice ta T.types.length tc : Value).ownBlock ≠ some g7 := fun e => by have := (HW.out.oa g7 e).1; have := HW.out.o4; omega
        have hlast := last_any T.types (.mk 6 0 [[97], [98]] 1 (fun _ => zeroT)) g7 (b + 1) _ _ _ _ _ _ (.agg #[.int .u8 6, .int .i64 0, .slice (some ⟨w8.heap.size, 0, none⟩) 2 2, .slice (some ⟨w8.heap.size + 1, 0, none⟩) 1 1]) (((w8.alloc (.cells #[.string ⟨#[97]⟩, .string ⟨#[98]⟩] 9)).alloc (.cells #[.int .u8 0, .int .i64 0, .slice none 0 0, .slice none 0 0] 38))) _ (fun _ h => h) (box_kept HW.out.box (S := fun _ => False) (((Fr.refl _ _).alloc _).alloc _) (fun h => h)) HCA.out hl7 HXS.out hb1 ho7
        go_wp2_with fail
        refine hlast.mono ?_
        clear hlast hl7 hb1 ho7
        rintro e w9 ⟨rfl, tv', hb9, hc9, ho9, f9⟩
        obtain ⟨ra, rn, rc, rfl⟩ : ∃ a n c, tv' = .slice a n c := by obtain ⟨a, c, e⟩ := hc9.slice; exact ⟨a, _, c, e⟩
        have f89 : Fr (fun k => k = g7 ∨ (.slice ta T.types.length tc : Value).ownBlock = some k) w8 w9 := FP.out.trans f9 (fun _ _ e => e)
        have HB7 := Lib.hid hb9
        have HN9 := Lib.hid (show w9.heap[g1]? = some (.cells #[.int .i64 n] 3 (0, 0)) from box_kept HW.out.num f89 (fun e => e.elim hg17 (fun e => by have := (HW.out.oa g1 e).2.2; have := HW.out.o2; omega)))
        have HTB := Lib.hid (show Tabled (fun k => k ≠ g7) w9 ({ T with types := T.types ++ [(lastT, .mk 6 0 [[97], [98]] 1 (fun _ => zeroT))] }) (.agg #[(.string ⟨T.name.toArray⟩), (.int .i64 T.number), (.int .i64 T.version), (.slice ra rn rc), (.slice fa T.faults.length fc), (.slice qa T.procs.length qc)]) from ⟨_, _, _, rfl, HW.out.nl, hc9.aliasesO (by have := HW.out.la.1; simp; omega) (fun x hx => by rcases List.mem_append.1 hx with h | h; exact HW.out.sa x h; simp at h; subst h; show lastT.length ≤ 1000; decide) _ (fun k h => h.1) (fun k hk e => by
          rcases ho9 with e' | ⟨q, e', hq⟩
          · rw [e'] at hk; have := (HW.out.oa k hk).1; have := HW.out.o4; omega
          · rw [e'] at hk; cases hk; have := FP.out.size; omega), HW.out.keepF _ (.inl rfl) f89, HW.out.keepP _ (.inl rfl) f89⟩)
        have HFW := Lib.hid (HW.out.fr_out _ (.inl rfl) f89)
        clear hb9 hc9 ho9 f89 f9 FP HCA HXS
        have c1 := cell_of_one HN9.out
        clear c1 hkk
        have HCK := Lib.hid (show checkE ({ T with types := T.types ++ [(lastT, .mk 6 0 [[97], [98]] 1 (fun _ => zeroT))] }) = 4 from by rw [wrongA HP3.out, right_record])
        have x0 := cells_row HB7.out 0 _ rfl
        have x1 := cells_row HB7.out 1 _ rfl
        have x2 := cells_row HB7.out 2 _ rfl
        have x3 := cells_row HB7.out 3 _ rfl
        have x4 := cells_row HB7.out 4 _ rfl
        have x5 := cells_row HB7.out 5 _ rfl
        simp only [List.getElem_toArray, List.getElem_cons_succ, List.getElem_cons_zero] at x0 x1 x2 x3 x4 x5
        have q := check_any _ _ _ _ HTB.out
        rw [HCK.out] at q
        go_wp2_with fail
        refine q.mono ?_
        rintro e w9 ⟨rfl, f9⟩
        have F9 := Lib.hid f9
        clear f9 q x0 x1 x2 x3 x4 x5
        go_wp2
        go_ret
        exact ⟨rfl, HFW.out.trans F9.out (fun _ _ h => h)⟩
      · have FP := Lib.hid (show Fr (fun k => k = g7 ∨ (.slice ta T.types.length tc : Value).ownBlock = some k) w8 w8 from ((Fr.refl _ _) : Fr (fun k => k = g7 ∨ (.slice ta T.types.length tc : Value).ownBlock = some k) w8 w8))
        have HCA := Lib.hid (show CpRow alShown 49 5 (b + 1) (fun k => k ≠ g7 ∧ (.slice ta T.types.length tc : Value).ownBlock ≠ some k) w8 (.slice ta T.types.length tc) T.types from (HW.out.ca.monoS (fun k hk => ⟨by have := HW.out.o4; omega, hk.2.2⟩)).fr (S := fun _ => False) (Fr.refl _ _) (fun _ _ h => h) (fun _ _ h => h))
        have HXS := Lib.hid (show Shows (fun k => k ≠ g7 ∧ (.slice ta T.types.length tc : Value).ownBlock ≠ some k) w8 (.mk 10 0 [] 0 (fun _ => .nil)) (.agg #[.int .u8 10, .int .i64 0, .slice none 0 0, .slice none 0 0]) from ⟨_, _, rfl, by decide, by decide, ⟨by simp, by simp, .inl ⟨rfl, _, _, rfl⟩⟩, .inl ⟨rfl, _, _, rfl⟩⟩)
        have hl7 : T.types.length ≤ 100 := by have := HW.out.la.1; omega
        have hb1 : b + 1 ≤ (w8).heap.size := by have := HW.out.o3; have := HW.out.o4; have := FP.out.size; omega
        have ho7 : (.slice ta T.types.length tc : Value).ownBlock ≠ some g7 := fun e => by have := (HW.out.oa g7 e).1; have := HW.out.o4; omega
        have hlast := last_any T.types (.mk 10 0 [] 0 (fun _ => .nil)) g7 (b + 1) _ _ _ _ _ _ (.agg #[.int .u8 10, .int .i64 0, .slice none 0 0, .slice none 0 0]) (w8) _ (fun _ h => h) HW.out.box HCA.out hl7 HXS.out hb1 ho7
        go_wp2_with fail
        refine hlast.mono ?_
        clear hlast hl7 hb1 ho7
        rintro e w9 ⟨rfl, tv', hb9, hc9, ho9, f9⟩
        obtain ⟨ra, rn, rc, rfl⟩ : ∃ a n c, tv' = .slice a n c := by obtain ⟨a, c, e⟩ := hc9.slice; exact ⟨a, _, c, e⟩
        have f89 : Fr (fun k => k = g7 ∨ (.slice ta T.types.length tc : Value).ownBlock = some k) w8 w9 := FP.out.trans f9 (fun _ _ e => e)
        have HB7 := Lib.hid hb9
        have HN9 := Lib.hid (show w9.heap[g1]? = some (.cells #[.int .i64 n] 3 (0, 0)) from box_kept HW.out.num f89 (fun e => e.elim hg17 (fun e => by have := (HW.out.oa g1 e).2.2; have := HW.out.o2; omega)))
        have HTB := Lib.hid (show Tabled (fun k => k ≠ g7) w9 ({ T with types := T.types ++ [(lastT, .mk 10 0 [] 0 (fun _ => .nil))] }) (.agg #[(.string ⟨T.name.toArray⟩), (.int .i64 T.number), (.int .i64 T.version), (.slice ra rn rc), (.slice fa T.faults.length fc), (.slice qa T.procs.length qc)]) from ⟨_, _, _, rfl, HW.out.nl, hc9.aliasesO (by have := HW.out.la.1; simp; omega) (fun x hx => by rcases List.mem_append.1 hx with h | h; exact HW.out.sa x h; simp at h; subst h; show lastT.length ≤ 1000; decide) _ (fun k h => h.1) (fun k hk e => by
          rcases ho9 with e' | ⟨q, e', hq⟩
          · rw [e'] at hk; have := (HW.out.oa k hk).1; have := HW.out.o4; omega
          · rw [e'] at hk; cases hk; have := FP.out.size; omega), HW.out.keepF _ (.inl rfl) f89, HW.out.keepP _ (.inl rfl) f89⟩)
        have HFW := Lib.hid (HW.out.fr_out _ (.inl rfl) f89)
        clear hb9 hc9 ho9 f89 f9 FP HCA HXS
        have c1 := cell_of_one HN9.out
        clear c1 hkk
        have HCK := Lib.hid (show checkE ({ T with types := T.types ++ [(lastT, .mk 10 0 [] 0 (fun _ => .nil))] }) = 5 from by rw [wrongA HP3.out, right_ten])
        have x0 := cells_row HB7.out 0 _ rfl
        have x1 := cells_row HB7.out 1 _ rfl
        have x2 := cells_row HB7.out 2 _ rfl
        have x3 := cells_row HB7.out 3 _ rfl
        have x4 := cells_row HB7.out 4 _ rfl
        have x5 := cells_row HB7.out 5 _ rfl
        simp only [List.getElem_toArray, List.getElem_cons_succ, List.getElem_cons_zero] at x0 x1 x2 x3 x4 x5
        have q := check_any _ _ _ _ HTB.out
        rw [HCK.out] at q
        go_wp2_with fail
        refine q.mono ?_
        rintro e w9 ⟨rfl, f9⟩
        have F9 := Lib.hid f9
        clear f9 q x0 x1 x2 x3 x4 x5
        go_wp2
        go_ret
        exact ⟨rfl, HFW.out.trans F9.out (fun _ _ h => h)⟩
      · obtain ⟨u0, u1, u2, u3⟩ := cell_of_four HW.out.zero
        go_upto_region 42 with fail
        obtain ⟨wb, hwb⟩ : ∃ wb, wb = w8.alloc (.cells #[.int .u8 0, .int .i64 0, .slice none 0 0, .slice none 0 0] 38) := ⟨_, rfl⟩
        have HBX := Lib.hid (show Fr (fun _ => False) w8 wb ∧ ∃ y0 y1 y2 y3, wb.heap[w8.heap.size]? = some (.cells #[y0, y1, y2, y3] 38 (0, 0)) ∧ Shows (fun k => w8.heap.size < k) wb (seqs 0) (.agg #[y0, y1, y2, y3]) from by
          rw [hwb]; exact ⟨(Fr.refl _ _).alloc _, _, _, _, _, heap_alloc_new _ _, zero_shows _ _⟩)
        rw [← hwb]
        clear hwb u0 u1 u2 u3 hkk
        go_wp2
        go_loopg [100] 5 (fun G u100 wr => ∃ j : Nat, j ≤ 5 ∧ G = 5 - j ∧ u100 = .int .i64 j ∧ Hid (Fr (fun _ => False) w8 wr ∧ ∃ y0 y1 y2 y3, wr.heap[w8.heap.size]? = some (.cells #[y0, y1, y2, y3] 38 (0, 0)) ∧ Shows (fun k => w8.heap.size < k) wr (seqs j) (.agg #[y0, y1, y2, y3])))
        case atStart => exact ⟨0, Nat.zero_le _, rfl, by go_num, HBX⟩
        case round =>
          obtain ⟨j, hj, rfl, rfl, HI⟩ := hrel
          obtain ⟨ff8, y0, y1, y2, y3, hbx, hsx⟩ := HI.out
          have HS := Lib.hid hsx
          have hgl := lt_of_block hbx
          have HBB := Lib.hid hbx
          obtain ⟨ek, em, ea, en, ec, ea', en', ec', rfl, rfl, rfl, rfl⟩ := hsx.cells
          obtain ⟨u0, u1, u2, u3⟩ := cell_of_four hbx
          have n89 : w8.heap.size ≠ wr.heap.size := by omega
          have n98 : wr.heap.size ≠ w8.heap.size := by omega
          by_cases hlt : j < 5
          · have hjz : (j : Int) < 5 := by omega
            have z0 : wr.frozen? ⟨w8.heap.size, 0, none⟩ = false := by simp [World.frozen?, hbx]
            have z1 : wr.frozen? ⟨w8.heap.size, 1, none⟩ = false := by simp [World.frozen?, hbx]
            have z2 : wr.frozen? ⟨w8.heap.size, 2, none⟩ = false := by simp [World.frozen?, hbx]
            have z3 : wr.frozen? ⟨w8.heap.size, 3, none⟩ = false := by simp [World.frozen?, hbx]
            have FF := Lib.hid ff8
            clear hbx ff8 hsx
            go_wp2
            obtain ⟨ws, hws⟩ : ∃ ws, ws = ((((wr.setCell ⟨w8.heap.size, 0, none⟩ (.int .u8 5)).setCell ⟨w8.heap.size, 1, none⟩ (.int .i64 1)).setCell ⟨w8.heap.size, 2, none⟩ (.slice none 0 0)).setCell ⟨w8.heap.size, 3, none⟩ (.slice (some ⟨wr.heap.size, 0, none⟩) 1 1)) := ⟨_, rfl⟩
            have f4 : Fr (fun k => k = w8.heap.size) wr ws := by rw [hws]; exact fr_four _ _ _ _ (Fr.refl _ _) (fun _ => rfl)
            have hsz : ws.heap.size = wr.heap.size := by rw [hws]; simp
            have hb4 : ws.heap[w8.heap.size]? = some (.cells #[.int .u8 5, .int .i64 1, .slice none 0 0, .slice (some ⟨wr.heap.size, 0, none⟩) 1 1] 38 (0, 0)) := by rw [hws]; exact store_four HBB.out
            have hna := heap_alloc_new ws (.cells #[.int .u8 ek, .int .i64 em, .slice ea en ec, .slice ea' en' ec'] 38)
            rw [hsz] at hna
            rw [← hws]
            have f5 : Fr (fun k => k = w8.heap.size) wr (ws.alloc (.cells #[.int .u8 ek, .int .i64 em, .slice ea en ec, .slice ea' en' ec'] 38)) := f4.alloc _
            have hb5 := box_kept (S := fun _ => False) hb4 ((Fr.refl _ ws).alloc (.cells #[.int .u8 ek, .int .i64 em, .slice ea en ec, .slice ea' en' ec'] 38)) (fun h => h)
            clear hws
            go_roundg (5 - (j + 1))
            case measure => omega
            case rel => exact ⟨j + 1, by omega, rfl, by go_num, Lib.hid ⟨FF.out.trans f5 (fun i hi e => by omega), _, _, _, _, hb5, ⟨_, _, rfl, by decide, by decide, ⟨by simp, by simp, .inl ⟨rfl, _, _, rfl⟩⟩, .inr ⟨wr.heap.size, 0, 1, by omega, rfl, Nat.le_refl _, fun i hi => (by
              have e : i = 0 := (by omega)
              subst e
              exact ⟨_, _, _, _, (cell_of_four hna).1, (cell_of_four hna).2.1, (cell_of_four hna).2.2.1, (cell_of_four hna).2.2.2, Shows.fr f5 (fun k hk e => by omega) _ _ HS.out⟩)⟩⟩⟩⟩
          · obtain rfl : j = 5 := by omega
            have HWR := Lib.hid (HW.out.later ff8)
            have h88 := ff8.size
            have FP := Lib.hid (show Fr (fun k => k = g7 ∨ (.slice ta T.types.length tc : Value).ownBlock = some k) w8 wr from ff8.mono (fun _ _ h => absurd h (fun h => h)))
            have HCA := Lib.hid (show CpRow alShown 49 5 (b + 1) (fun k => k ≠ g7 ∧ (.slice ta T.types.length tc : Value).ownBlock ≠ some k) wr (.slice ta T.types.length tc) T.types from HWR.out.ca.monoS (fun k hk => ⟨by have := HW.out.o4; omega, hk.2.2⟩))
            have HXS := Lib.hid (show Shows (fun k => k ≠ g7 ∧ (.slice ta T.types.length tc : Value).ownBlock ≠ some k) wr (seqs 5) (.agg #[.int .u8 ek, .int .i64 em, .slice ea en ec, .slice ea' en' ec']) from Shows.mono (fun k _ h => ⟨by omega, fun e => by have := (HW.out.oa _ e).1; have := HW.out.o4; omega⟩) _ _ HS.out)
            have hl7 : T.types.length ≤ 100 := by have := HW.out.la.1; omega
            have hb1 : b + 1 ≤ wr.heap.size := by have := HW.out.o3; have := HW.out.o4; omega
            have ho7 : (.slice ta T.types.length tc : Value).ownBlock ≠ some g7 := fun e => by have := (HW.out.oa g7 e).1; have := HW.out.o4; omega
            have hlast := last_any T.types (seqs 5) g7 (b + 1) _ _ _ _ _ _ (.agg #[.int .u8 ek, .int .i64 em, .slice ea en ec, .slice ea' en' ec']) wr _ (fun _ h => h) HWR.out.box HCA.out hl7 HXS.out hb1 ho7
            clear hbx ff8 hsx
            go_wp2_with fail
            refine hlast.mono ?_
            clear hlast hl7 hb1 ho7 u0 u1 u2 u3
            rintro e w9 ⟨rfl, tv', hb9, hc9, ho9, f9⟩
            obtain ⟨ra, rn, rc, rfl⟩ : ∃ a n c, tv' = .slice a n c := by obtain ⟨a, c, e⟩ := hc9.slice; exact ⟨a, _, c, e⟩
            have f89 : Fr (fun k => k = g7 ∨ (.slice ta T.types.length tc : Value).ownBlock = some k) w8 w9 := FP.out.trans f9 (fun _ _ e => e)
            have HB7 := Lib.hid hb9
            have HN9 := Lib.hid (show w9.heap[g1]? = some (.cells #[.int .i64 n] 3 (0, 0)) from box_kept HW.out.num f89 (fun e => e.elim hg17 (fun e => by have := (HW.out.oa g1 e).2.2; have := HW.out.o2; omega)))
            have HTB := Lib.hid (show Tabled (fun k => k ≠ g7) w9 ({ T with types := T.types ++ [(lastT, seqs 5)] }) (.agg #[(.string ⟨T.name.toArray⟩), (.int .i64 T.number), (.int .i64 T.version), (.slice ra rn rc), (.slice fa T.faults.length fc), (.slice qa T.procs.length qc)]) from ⟨_, _, _, rfl, HW.out.nl, hc9.aliasesO (by have := HW.out.la.1; simp; omega) (fun x hx => by rcases List.mem_append.1 hx with h | h; exact HW.out.sa x h; simp at h; subst h; show lastT.length ≤ 1000; decide) _ (fun k h => h.1) (fun k hk e => by
              rcases ho9 with e' | ⟨q, e', hq⟩
              · rw [e'] at hk; have := (HW.out.oa k hk).1; have := HW.out.o4; omega
              · rw [e'] at hk; cases hk; have := FP.out.size; omega), HW.out.keepF _ (.inl rfl) f89, HW.out.keepP _ (.inl rfl) f89⟩)
            have HFW := Lib.hid (HW.out.fr_out _ (.inl rfl) f89)
            clear hb9 hc9 ho9 f89 f9 FP HCA HXS
            have c1 := cell_of_one HN9.out
            clear c1
            have HCK := Lib.hid (show checkE ({ T with types := T.types ++ [(lastT, seqs 5)] }) = 5 from by rw [wrongA HP3.out, right_seqs])
            have x0 := cells_row HB7.out 0 _ rfl
            have x1 := cells_row HB7.out 1 _ rfl
            have x2 := cells_row HB7.out 2 _ rfl
            have x3 := cells_row HB7.out 3 _ rfl
            have x4 := cells_row HB7.out 4 _ rfl
            have x5 := cells_row HB7.out 5 _ rfl
            simp only [List.getElem_toArray, List.getElem_cons_succ, List.getElem_cons_zero] at x0 x1 x2 x3 x4 x5
            have q := check_any _ _ _ _ HTB.out
            rw [HCK.out] at q
            go_wp2_with fail
            refine q.mono ?_
            rintro e w9 ⟨rfl, f9⟩
            have F9 := Lib.hid f9
            clear f9 q x0 x1 x2 x3 x4 x5
            go_wp2
            go_ret
            exact ⟨rfl, HFW.out.trans F9.out (fun _ _ h => h)⟩
      · have n78 : g7 ≠ w8.heap.size := by omega
        have n87 : w8.heap.size ≠ g7 := by omega
        have n18 : g1 ≠ w8.heap.size := by omega
        have y4 := cells_row HW.out.box 4 _ rfl
        simp only [List.getElem_toArray, List.getElem_cons_succ, List.getElem_cons_zero] at y4
        have c1 := cell_of_one HW.out.num
        obtain ⟨cs, hown, hit⟩ := HW.out.cf.monoS (S := fun k => k ≠ g7 ∧ (.slice fa T.faults.length fc : Value).ownBlock ≠ some k) (fun k hk => ⟨by have := HW.out.o4; omega, hk.2⟩)
        have HOWN := Lib.hid hown
        have HIT := Lib.hid hit
        have hll := HW.out.la
        have hbase : b + 1 ≤ w8.heap.size := by have := HW.out.o3; have := HW.out.o4; omega
        obtain ⟨i8, hi8, hy0, hy1, hy2⟩ := info_parts Try.infoFault
        clear hown hit
        go_wp2_with (at_builtin; refine wpList_append_sep rfl (.tmp 112) (.tmp 115) 29 29 rfl (b + 1) 52 i8 (.agg #[.string ByteArray.empty, .int .i64 0]) 2 24 Try.underlying29 _ Try.underlying29 (.inr ⟨_, rfl⟩) hi8 hy0 hy1 hy2 rfl (by decide) (.slice fa T.faults.length fc) T.faults.length cs rfl ?own _ 1 [.string ⟨#[108, 97, 115, 116]⟩, .int .i64 n] rfl (lenOf_slice _ _ _) rfl (first_one 1 2 rfl (heap_alloc_new _ _)) (first_one 1 2 rfl (by exact heap_alloc_new _ _)) ?one ?b1 ?b2 ?base ?grow)
        case own => exact World.ownsRow.alloc HOWN.out _
        case one => intro u hu; simp only [List.mem_cons, List.not_mem_nil, or_false] at hu; rcases hu with rfl | rfl <;> rfl
        case b1 => unfold maxLen; omega
        case b2 => omega
        case base => simp; omega
        case grow =>
        intro v' w11 hown hg hv0
        have f11 : Fr (fun k => (.slice fa T.faults.length fc : Value).ownBlock = some k) w8 w11 := ((Fr.refl _ _).alloc _).trans ((Fr.of_grown hg).mono (fun _ _ e => e.symm)) (fun i hi e => e)
        have hc2 : CpRow ftShown 52 2 (b + 1) (fun k => k ≠ g7 ∧ (.slice fa T.faults.length fc : Value).ownBlock ≠ some k) w11 v' (T.faults ++ [(lastT, n)]) := CpRow.push2 HOWN.out.1 (fun k h => h.2) HIT.out hown f11 rfl rfl
        obtain ⟨ra, rn, rc, rfl⟩ : ∃ a n c, v' = .slice a n c := by obtain ⟨a, c, e⟩ := hc2.slice; exact ⟨a, _, c, e⟩
        have hb11 := box_kept HW.out.box f11 (fun e => by have := (HW.out.of _ e).1; have := HW.out.o4; omega)
        have HN11 := Lib.hid (box_kept HW.out.num f11 (fun e => by have := (HW.out.of _ e).2; have := HW.out.o2; omega))
        have ho9 : ¬ (.slice ra rn rc : Value).ownBlock = some g7 := fun e0 => by
          rcases hv0 with e' | e'
          · have e := e'.symm.trans e0
            exact (by have := (HW.out.of _ e).1; have := HW.out.o4; omega)
          · have e := e'.symm.trans e0
            simp at e
            omega
        have fset : Fr (fun k => k = g7) w11 (w11.setCell ⟨g7, 4, none⟩ (.slice ra rn rc)) := Fr.set1 (Fr.refl _ _) 4 _
        have f89 : Fr (fun k => k = g7 ∨ (.slice fa T.faults.length fc : Value).ownBlock = some k) w8 (w11.setCell ⟨g7, 4, none⟩ (.slice ra rn rc)) := (f11.mono (fun _ _ e => .inr e)).trans fset (fun _ _ e => .inl e)
        have hc9 := hc2.fr fset (fun k h => h.1) (fun k hk e => ho9 (e ▸ hk))
        have HB7 := Lib.hid (show (w11.setCell ⟨g7, 4, none⟩ (.slice ra rn rc)).heap[g7]? = some (.cells #[(.string ⟨T.name.toArray⟩), (.int .i64 T.number), (.int .i64 T.version), (.slice ta T.types.length tc), (.slice ra rn rc), (.slice qa T.procs.length qc)] 32 (0, 0)) from setCell_row 4 _ hb11)
        have HTB := Lib.hid (show Tabled (fun k => k ≠ g7) (w11.setCell ⟨g7, 4, none⟩ (.slice ra rn rc)) ({ T with faults := T.faults ++ [(lastT, n)] }) (.agg #[(.string ⟨T.name.toArray⟩), (.int .i64 T.number), (.int .i64 T.version), (.slice ta T.types.length tc), (.slice ra rn rc), (.slice qa T.procs.length qc)]) from ⟨_, _, _, rfl, HW.out.nl, HW.out.keepA _ (.inl rfl) f89, hc9.faultsO (by have := HW.out.la.2.1; simp; omega) (fun x hx => by rcases List.mem_append.1 hx with h | h; exact HW.out.sf x h; simp at h; subst h; simp [lastT, faceT]) _ (fun k hk e => ho9 (e ▸ hk)), HW.out.keepP _ (.inr rfl) f89⟩)
        have HFW := Lib.hid (HW.out.fr_out _ (.inr (.inl rfl)) f89)
        have HNW := Lib.hid (show (w11.setCell ⟨g7, 4, none⟩ (.slice ra rn rc)).heap[g1]? = some (.cells #[.int .i64 n] 3 (0, 0)) from box_kept HN11.out fset hg17)
        have zz : w11.frozen? ⟨g7, 4, none⟩ = false := by simp [World.frozen?, hb11]
        clear y4 c1
        have y4 := cells_row hb11 4 _ rfl
        simp only [List.getElem_toArray, List.getElem_cons_succ, List.getElem_cons_zero] at y4
        have c1 := cell_of_one HN11.out
        have hout := out_any 0 65535 n g1 (w11.setCell ⟨g7, 4, none⟩ (.slice ra rn rc)) HNW.out
        have HF9 := Lib.hid (show Faults (fun k => k ≠ g7) (w11.setCell ⟨g7, 4, none⟩ (.slice ra rn rc)) (T.faults ++ [(lastT, n)]) (.slice ra rn rc) from hc9.faultsO (by have := HW.out.la.2.1; simp; omega) (fun x hx => by rcases List.mem_append.1 hx with h | h; exact HW.out.sf x h; simp at h; subst h; simp [lastT]) _ (fun k hk e => ho9 (e ▸ hk)))
        clear hown hg hv0 f11 hc2 hb11 ho9 fset f89 hc9 n78 n87 n18 hbase
        have hnl : ∀ i < 4, nameE ((knownE mm ++ ((List.range ff).map fName ++ [lastT])) ++ (List.range i).map pName) (pName i) = 0 := fun i hi => (n_proc2 mm HP3.out.m4 ff HP3.out.f4 i hi).1
        have HWR := Lib.hid (wrong11 HP3.out lastT n (n_last2 mm HP3.out.m4 ff HP3.out.f4).1 hnl)
        clear hkk hnl c1
        generalize hW : w11.setCell ⟨g7, 4, none⟩ (.slice ra rn rc) = W at hout HF9 HB7 HTB HFW HNW
        by_cases hr : 0 ≤ n ∧ n ≤ 65535
        · have ho : outE 0 65535 n = 0 := if_pos hr
          rw [ho] at hout
          have hwr := HWR.out
          rw [if_pos hr] at hwr
          have HWC := Lib.hid hwr
          clear hr ho hwr
          go_wp2_with fail
          refine hout.mono ?_
          rintro e wz ⟨rfl, rfl⟩
          clear hout hW y4
          obtain ⟨fa2, fc2, e2, hsh⟩ := HF9.out.shape
          simp only [List.length_append, List.length_singleton] at e2 hsh
          simp at e2
          obtain ⟨rfl, rfl, rfl⟩ := e2
          rcases hsh with hz | ⟨hcap, gf, of', hgf, rfl, hcell⟩
          · omega
          have HCELL := Lib.hid hcell
          have hnf : T.faults.length ≤ 3 := HW.out.la.2.1
          have b4 := cells_row HB7.out 4 _ rfl
          simp only [List.getElem_toArray, List.getElem_cons_succ, List.getElem_cons_zero] at b4
          clear hcell hgf
          go_upto_region 53 with fail
          clear b4
          have hst0 : (0 : Int) = wantZ T.faults n 0 := rfl
          go_loopg [10, 14, 130] T.faults.length (fun G u10 u14 u130 wr => ∃ j : Nat, j ≤ T.faults.length ∧ G = T.faults.length - j ∧ u130 = .int .i64 j ∧ u10 = .int .i64 (wantZ T.faults n j) ∧ Hid (Fr (fun _ => False) W wr))
          case atStart => exact ⟨0, Nat.zero_le _, rfl, by go_num, rfl, Lib.hid (Fr.refl _ _)⟩
          case round =>
            obtain ⟨j, hj, rfl, rfl, rfl, HI⟩ := hrel
            clear hst0
            obtain ⟨zj, hzj⟩ : ∃ z, z = wantZ T.faults n j := ⟨_, rfl⟩
            rw [← hzj]
            have HZJ := Lib.hid hzj
            clear hzj
            have c1 := cell_of_one (box_kept HNW.out HI.out (fun h => h))
            by_cases hlt : j < T.faults.length
            · have hget : (T.faults ++ [(lastT, n)])[j]? = some T.faults[j] := by rw [List.getElem?_append_left hlt, List.getElem?_eq_getElem hlt]
              obtain ⟨q0, q1⟩ := HCELL.out j _ hget
              have q0 := cell_fr (R := fun _ => True) HI.out (fun _ _ h => h) trivial q0
              have q1 := cell_fr (R := fun _ => True) HI.out (fun _ _ h => h) trivial q1
              have hstep := wantZ_succ T.faults n j hlt
              obtain ⟨x, hx⟩ : ∃ x, x = T.faults[j] := ⟨_, rfl⟩
              rw [← hx] at q0 q1 hstep
              have HST := Lib.hid hstep
              have hg1r : g1 < wr.heap.size := lt_of_block (box_kept HNW.out HI.out (fun h => h))
              have hg1n : g1 ≠ wr.heap.size := by omega
              clear hget hstep hx
              unfold sv at q0
              by_cases he : x.2 = n
              · have hE := Lib.hid (show wantZ T.faults n (j + 1) = 9 from by rw [HST.out, if_pos he])
                have heb : (x.2 == n) = true := by simpa using he
                have HE := Lib.hid he
                clear he
                go_wp2
                go_roundg (T.faults.length - (j + 1))
                case measure => omega
                case rel => exact ⟨j + 1, by omega, rfl, by go_num, by rw [hE.out], Lib.hid (HI.out.alloc _)⟩
              · have hE := Lib.hid (show wantZ T.faults n (j + 1) = zj from by rw [HST.out, if_neg he, HZJ.out])
                have heb : (x.2 == n) = false := by simpa using he
                have HE := Lib.hid he
                clear he
                go_wp2
                go_roundg (T.faults.length - (j + 1))
                case measure => omega
                case rel => exact ⟨j + 1, by omega, rfl, by go_num, by rw [hE.out], Lib.hid (HI.out.alloc _)⟩
            · obtain rfl : j = T.faults.length := by omega
              have HB8 := Lib.hid (box_kept HB7.out HI.out (fun h => h))
              have HT8 := Lib.hid (HTB.out.fr HI.out (fun _ _ h => h))
              have HF8 := Lib.hid (HFW.out.trans HI.out (fun _ _ h => h))
              have hall := wantZ_all T.faults n
              rw [← HZJ.out] at hall
              clear c1
              by_cases hb : T.faults.any (fun g => decide (g.2 = n)) = true
              · rw [if_pos hb] at hall
                have HCK := Lib.hid (HWC.out.trans (if_pos hb))
                clear hb
                subst hall
                have x0 := cells_row HB8.out 0 _ rfl
                have x1 := cells_row HB8.out 1 _ rfl
                have x2 := cells_row HB8.out 2 _ rfl
                have x3 := cells_row HB8.out 3 _ rfl
                have x4 := cells_row HB8.out 4 _ rfl
                have x5 := cells_row HB8.out 5 _ rfl
                simp only [List.getElem_toArray, List.getElem_cons_succ, List.getElem_cons_zero] at x0 x1 x2 x3 x4 x5
                have q := check_any _ _ _ _ HT8.out
                rw [HCK.out] at q
                go_wp2_with fail
                refine q.mono ?_
                rintro e w9 ⟨rfl, f9⟩
                have F9 := Lib.hid f9
                clear f9 q x0 x1 x2 x3 x4 x5
                go_wp2
                go_ret
                exact ⟨rfl, HF8.out.trans F9.out (fun _ _ h => h)⟩
              · rw [if_neg hb] at hall
                have HCK := Lib.hid (HWC.out.trans (if_neg hb))
                clear hb
                subst hall
                have x0 := cells_row HB8.out 0 _ rfl
                have x1 := cells_row HB8.out 1 _ rfl
                have x2 := cells_row HB8.out 2 _ rfl
                have x3 := cells_row HB8.out 3 _ rfl
                have x4 := cells_row HB8.out 4 _ rfl
                have x5 := cells_row HB8.out 5 _ rfl
                simp only [List.getElem_toArray, List.getElem_cons_succ, List.getElem_cons_zero] at x0 x1 x2 x3 x4 x5
                have q := check_any _ _ _ _ HT8.out
                rw [HCK.out] at q
                go_wp2_with fail
                refine q.mono ?_
                rintro e w9 ⟨rfl, f9⟩
                have F9 := Lib.hid f9
                clear f9 q x0 x1 x2 x3 x4 x5
                go_wp2
                go_ret
                exact ⟨rfl, HF8.out.trans F9.out (fun _ _ h => h)⟩
        · have ho : outE 0 65535 n = 2 := if_neg hr
          rw [ho] at hout
          have HCK := Lib.hid (show checkE ({ T with faults := T.faults ++ [(lastT, n)] }) = 2 from by rw [HWR.out, if_neg hr])
          clear hr ho
          go_wp2_with fail
          refine hout.mono ?_
          rintro e wz ⟨rfl, rfl⟩
          clear hout hW y4
          have x0 := cells_row HB7.out 0 _ rfl
          have x1 := cells_row HB7.out 1 _ rfl
          have x2 := cells_row HB7.out 2 _ rfl
          have x3 := cells_row HB7.out 3 _ rfl
          have x4 := cells_row HB7.out 4 _ rfl
          have x5 := cells_row HB7.out 5 _ rfl
          simp only [List.getElem_toArray, List.getElem_cons_succ, List.getElem_cons_zero] at x0 x1 x2 x3 x4 x5
          have q := check_any _ _ _ _ HTB.out
          rw [HCK.out] at q
          go_wp2_with fail
          refine q.mono ?_
          rintro e w9 ⟨rfl, f9⟩
          have F9 := Lib.hid f9
          clear f9 q x0 x1 x2 x3 x4 x5
          go_wp2
          go_ret
          exact ⟨rfl, HFW.out.trans F9.out (fun _ _ h => h)⟩
      · have n78 : g7 ≠ w8.heap.size := by omega
        have n87 : w8.heap.size ≠ g7 := by omega
        have n18 : g1 ≠ w8.heap.size := by omega
        have y4 := cells_row HW.out.box 4 _ rfl
        simp only [List.getElem_toArray, List.getElem_cons_succ, List.getElem_cons_zero] at y4
        have c1 := cell_of_one HW.out.num
        obtain ⟨cs, hown, hit⟩ := HW.out.cf.monoS (S := fun k => k ≠ g7 ∧ (.slice fa T.faults.length fc : Value).ownBlock ≠ some k) (fun k hk => ⟨by have := HW.out.o4; omega, hk.2⟩)
        have HOWN := Lib.hid hown
        have HIT := Lib.hid hit
        have hll := HW.out.la
        have hbase : b + 1 ≤ w8.heap.size := by have := HW.out.o3; have := HW.out.o4; omega
        obtain ⟨i8, hi8, hy0, hy1, hy2⟩ := info_parts Try.infoFault
        clear hown hit
        go_wp2_with (at_builtin; refine wpList_append_sep rfl (.tmp 142) (.tmp 144) 29 29 rfl (b + 1) 52 i8 (.agg #[.string ByteArray.empty, .int .i64 0]) 2 24 Try.underlying29 _ Try.underlying29 (.inr ⟨_, rfl⟩) hi8 hy0 hy1 hy2 rfl (by decide) (.slice fa T.faults.length fc) T.faults.length cs rfl ?own _ 1 [.string ⟨#[102, 97, 99, 101]⟩, .int .i64 999] rfl (lenOf_slice _ _ _) rfl (first_one 1 2 rfl (heap_alloc_new _ _)) (first_one 1 2 rfl (by exact heap_alloc_new _ _)) ?one ?b1 ?b2 ?base ?grow)
        case own => exact World.ownsRow.alloc HOWN.out _
        case one => intro u hu; simp only [List.mem_cons, List.not_mem_nil, or_false] at hu; rcases hu with rfl | rfl <;> rfl
        case b1 => unfold maxLen; omega
        case b2 => omega
        case base => simp; omega
        case grow =>
        intro v' w11 hown hg hv0
        have f11 : Fr (fun k => (.slice fa T.faults.length fc : Value).ownBlock = some k) w8 w11 := ((Fr.refl _ _).alloc _).trans ((Fr.of_grown hg).mono (fun _ _ e => e.symm)) (fun i hi e => e)
        have hc2 : CpRow ftShown 52 2 (b + 1) (fun k => k ≠ g7 ∧ (.slice fa T.faults.length fc : Value).ownBlock ≠ some k) w11 v' (T.faults ++ [(faceT, 999)]) := CpRow.push2 HOWN.out.1 (fun k h => h.2) HIT.out hown f11 rfl rfl
        obtain ⟨ra, rn, rc, rfl⟩ : ∃ a n c, v' = .slice a n c := by obtain ⟨a, c, e⟩ := hc2.slice; exact ⟨a, _, c, e⟩
        have hb11 := box_kept HW.out.box f11 (fun e => by have := (HW.out.of _ e).1; have := HW.out.o4; omega)
        have HN11 := Lib.hid (box_kept HW.out.num f11 (fun e => by have := (HW.out.of _ e).2; have := HW.out.o2; omega))
        have ho9 : ¬ (.slice ra rn rc : Value).ownBlock = some g7 := fun e0 => by
          rcases hv0 with e' | e'
          · have e := e'.symm.trans e0
            exact (by have := (HW.out.of _ e).1; have := HW.out.o4; omega)
          · have e := e'.symm.trans e0
            simp at e
            omega
        have fset : Fr (fun k => k = g7) w11 (w11.setCell ⟨g7, 4, none⟩ (.slice ra rn rc)) := Fr.set1 (Fr.refl _ _) 4 _
        have f89 : Fr (fun k => k = g7 ∨ (.slice fa T.faults.length fc : Value).ownBlock = some k) w8 (w11.setCell ⟨g7, 4, none⟩ (.slice ra rn rc)) := (f11.mono (fun _ _ e => .inr e)).trans fset (fun _ _ e => .inl e)
        have hc9 := hc2.fr fset (fun k h => h.1) (fun k hk e => ho9 (e ▸ hk))
        have HB7 := Lib.hid (show (w11.setCell ⟨g7, 4, none⟩ (.slice ra rn rc)).heap[g7]? = some (.cells #[(.string ⟨T.name.toArray⟩), (.int .i64 T.number), (.int .i64 T.version), (.slice ta T.types.length tc), (.slice ra rn rc), (.slice qa T.procs.length qc)] 32 (0, 0)) from setCell_row 4 _ hb11)
        have HTB := Lib.hid (show Tabled (fun k => k ≠ g7) (w11.setCell ⟨g7, 4, none⟩ (.slice ra rn rc)) ({ T with faults := T.faults ++ [(faceT, 999)] }) (.agg #[(.string ⟨T.name.toArray⟩), (.int .i64 T.number), (.int .i64 T.version), (.slice ta T.types.length tc), (.slice ra rn rc), (.slice qa T.procs.length qc)]) from ⟨_, _, _, rfl, HW.out.nl, HW.out.keepA _ (.inl rfl) f89, hc9.faultsO (by have := HW.out.la.2.1; simp; omega) (fun x hx => by rcases List.mem_append.1 hx with h | h; exact HW.out.sf x h; simp at h; subst h; simp [lastT, faceT]) _ (fun k hk e => ho9 (e ▸ hk)), HW.out.keepP _ (.inr rfl) f89⟩)
        have HFW := Lib.hid (HW.out.fr_out _ (.inr (.inl rfl)) f89)
        have HNW := Lib.hid (show (w11.setCell ⟨g7, 4, none⟩ (.slice ra rn rc)).heap[g1]? = some (.cells #[.int .i64 n] 3 (0, 0)) from box_kept HN11.out fset hg17)
        have zz : w11.frozen? ⟨g7, 4, none⟩ = false := by simp [World.frozen?, hb11]
        clear y4 c1
        have y4 := cells_row hb11 4 _ rfl
        simp only [List.getElem_toArray, List.getElem_cons_succ, List.getElem_cons_zero] at y4
        have c1 := cell_of_one HN11.out
        clear hown hg hv0 f11 hc2 hb11 ho9 fset f89 hc9 n78 n87 n18 hbase
        have HCK := Lib.hid (show checkE ({ T with faults := T.faults ++ [(faceT, 999)] }) = 0 from by
          rw [wrong11 HP3.out faceT 999 (n_last2 mm HP3.out.m4 ff HP3.out.f4).2 (fun i hi => (n_proc2 mm HP3.out.m4 ff HP3.out.f4 i hi).2), if_pos (by decide), if_neg]
          rw [Bool.not_eq_true, List.any_eq_false]
          intro x hx
          have := HP3.out.fv x hx
          simp; omega)
        clear c1 hkk
        have x0 := cells_row HB7.out 0 _ rfl
        have x1 := cells_row HB7.out 1 _ rfl
        have x2 := cells_row HB7.out 2 _ rfl
        have x3 := cells_row HB7.out 3 _ rfl
        have x4 := cells_row HB7.out 4 _ rfl
        have x5 := cells_row HB7.out 5 _ rfl
        simp only [List.getElem_toArray, List.getElem_cons_succ, List.getElem_cons_zero] at x0 x1 x2 x3 x4 x5
        have q := check_any _ _ _ _ HTB.out
        rw [HCK.out] at q
        go_wp2_with fail
        refine q.mono ?_
        rintro e w9 ⟨rfl, f9⟩
        have F9 := Lib.hid f9
        clear f9 q x0 x1 x2 x3 x4 x5
        go_wp2
        go_ret
        exact ⟨rfl, HFW.out.trans F9.out (fun _ _ h => h)⟩
      · have n78 : g7 ≠ w8.heap.size := by omega
        have n87 : w8.heap.size ≠ g7 := by omega
        have n18 : g1 ≠ w8.heap.size := by omega
        have y5 := cells_row HW.out.box 5 _ rfl
        simp only [List.getElem_toArray, List.getElem_cons_succ, List.getElem_cons_zero] at y5
        have c1 := cell_of_one HW.out.num
        obtain ⟨cs, hown, hit⟩ := HW.out.cp.monoS (S := fun k => k ≠ g7 ∧ (.slice qa T.procs.length qc : Value).ownBlock ≠ some k) (fun k hk => ⟨by omega, hk.2.2⟩)
        have HOWN := Lib.hid hown
        have HIT := Lib.hid hit
        have hll := HW.out.la
        have hbase : N ≤ w8.heap.size := by have := HW.out.o3; have := HW.out.o4; omega
        obtain ⟨i8, hi8, hy0, hy1, hy2⟩ := info_parts Try.infoProc
        clear hown hit
        go_wp2_with (at_builtin; refine wpList_append_sep rfl (.tmp 150) (.tmp 153) 30 30 rfl (N) 41 i8 (.agg #[.string ByteArray.empty, .int .i64 0, .int .u8 0, .int .i64 0, .slice none 0 0, .slice none 0 0, .int .u8 0, .int .i64 0, .slice none 0 0, .slice none 0 0, .int .u8 0, .int .i64 0]) 12 168 Try.underlying30 _ Try.underlying30 (.inr ⟨_, rfl⟩) hi8 hy0 hy1 hy2 rfl (by decide) (.slice qa T.procs.length qc) T.procs.length cs rfl ?own _ 1 [.string ⟨#[108, 97, 115, 116]⟩, .int .i64 999, .int .u8 0, .int .i64 0, .slice none 0 0, .slice none 0 0, .int .u8 0, .int .i64 0, .slice none 0 0, .slice none 0 0, .int .u8 0, .int .i64 n] rfl (lenOf_slice _ _ _) rfl (first_one 1 12 rfl (heap_alloc_new _ _)) (first_one 1 12 rfl (by exact heap_alloc_new _ _)) ?one ?b1 ?b2 ?base ?grow)
        case own => exact World.ownsRow.alloc HOWN.out _
        case one => intro u hu; simp only [List.mem_cons, List.not_mem_nil, or_false] at hu; rcases hu with rfl | rfl | rfl | rfl | rfl | rfl | rfl | rfl | rfl | rfl | rfl | rfl <;> rfl
        case b1 => unfold maxLen; omega
        case b2 => omega
        case base => simp; omega
        case grow =>
        intro v' w11 hown hg hv0
        have f11 : Fr (fun k => (.slice qa T.procs.length qc : Value).ownBlock = some k) w8 w11 := ((Fr.refl _ _).alloc _).trans ((Fr.of_grown hg).mono (fun _ _ e => e.symm)) (fun i hi e => e)
        have hc2 : CpRow prShown 41 12 (N) (fun k => k ≠ g7 ∧ (.slice qa T.procs.length qc : Value).ownBlock ≠ some k) w11 v' (T.procs ++ [KProc.mk lastT 999 zeroT zeroT 0 n]) := CpRow.push2 HOWN.out.1 (fun k h => h.2) HIT.out hown f11 ⟨_, _, _, _, _, _, _, _, rfl, zero_shows _ _, zero_shows _ _⟩ rfl
        obtain ⟨ra, rn, rc, rfl⟩ : ∃ a n c, v' = .slice a n c := by obtain ⟨a, c, e⟩ := hc2.slice; exact ⟨a, _, c, e⟩
        have hb11 := box_kept HW.out.box f11 (fun e => by have := (HW.out.op _ e).2; omega)
        have HN11 := Lib.hid (box_kept HW.out.num f11 (fun e => by have := (HW.out.op _ e).1; have := HW.out.o2; have := HW.out.o3; omega))
        have ho9 : ¬ (.slice ra rn rc : Value).ownBlock = some g7 := fun e0 => by
          rcases hv0 with e' | e'
          · have e := e'.symm.trans e0
            exact (by have := (HW.out.op _ e).2; omega)
          · have e := e'.symm.trans e0
            simp at e
            omega
        have fset : Fr (fun k => k = g7) w11 (w11.setCell ⟨g7, 5, none⟩ (.slice ra rn rc)) := Fr.set1 (Fr.refl _ _) 5 _
        have f89 : Fr (fun k => k = g7 ∨ (.slice qa T.procs.length qc : Value).ownBlock = some k) w8 (w11.setCell ⟨g7, 5, none⟩ (.slice ra rn rc)) := (f11.mono (fun _ _ e => .inr e)).trans fset (fun _ _ e => .inl e)
        have hc9 := hc2.fr fset (fun k h => h.1) (fun k hk e => ho9 (e ▸ hk))
        have HB7 := Lib.hid (show (w11.setCell ⟨g7, 5, none⟩ (.slice ra rn rc)).heap[g7]? = some (.cells #[(.string ⟨T.name.toArray⟩), (.int .i64 T.number), (.int .i64 T.version), (.slice ta T.types.length tc), (.slice fa T.faults.length fc), (.slice ra rn rc)] 32 (0, 0)) from setCell_row 5 _ hb11)
        have HTB := Lib.hid (show Tabled (fun k => k ≠ g7) (w11.setCell ⟨g7, 5, none⟩ (.slice ra rn rc)) ({ T with procs := T.procs ++ [KProc.mk lastT 999 zeroT zeroT 0 n] }) (.agg #[(.string ⟨T.name.toArray⟩), (.int .i64 T.number), (.int .i64 T.version), (.slice ta T.types.length tc), (.slice fa T.faults.length fc), (.slice ra rn rc)]) from ⟨_, _, _, rfl, HW.out.nl, HW.out.keepA _ (.inr rfl) f89, HW.out.keepF _ (.inr rfl) f89, hc9.procsO (by have := HW.out.la.2.2; simp; omega) (fun x hx => by rcases List.mem_append.1 hx with h | h; exact HW.out.sp x h; simp at h; subst h; simp [lastT]) _ (fun k h => h.1) (fun k hk e => ho9 (e ▸ hk))⟩)
        have HFW := Lib.hid (HW.out.fr_out _ (.inr (.inr rfl)) f89)
        have HNW := Lib.hid (show (w11.setCell ⟨g7, 5, none⟩ (.slice ra rn rc)).heap[g1]? = some (.cells #[.int .i64 n] 3 (0, 0)) from box_kept HN11.out fset hg17)
        have zz : w11.frozen? ⟨g7, 5, none⟩ = false := by simp [World.frozen?, hb11]
        clear y5 c1
        have y5 := cells_row hb11 5 _ rfl
        simp only [List.getElem_toArray, List.getElem_cons_succ, List.getElem_cons_zero] at y5
        have c1 := cell_of_one HN11.out
        have hout := out_any 1 1000 n g1 w11 HN11.out
        clear hown hg hv0 f11 hc2 hb11 ho9 fset f89 hc9 n78 n87 n18 hbase
        clear hkk
        by_cases hr : 1 ≤ n ∧ n ≤ 1000
        · have HCK := Lib.hid (show checkE ({ T with procs := T.procs ++ [KProc.mk lastT 999 zeroT zeroT 0 n] }) = 0 from by rw [wrong13 HP3.out n, if_pos hr])
          have ho : outE 1 1000 n = 0 := if_pos hr
          rw [ho] at hout
          clear hr ho
          go_wp2_with fail
          refine hout.mono ?_
          rintro e wz ⟨rfl, rfl⟩
          clear hout
          have x0 := cells_row HB7.out 0 _ rfl
          have x1 := cells_row HB7.out 1 _ rfl
          have x2 := cells_row HB7.out 2 _ rfl
          have x3 := cells_row HB7.out 3 _ rfl
          have x4 := cells_row HB7.out 4 _ rfl
          have x5 := cells_row HB7.out 5 _ rfl
          simp only [List.getElem_toArray, List.getElem_cons_succ, List.getElem_cons_zero] at x0 x1 x2 x3 x4 x5
          have q := check_any _ _ _ _ HTB.out
          rw [HCK.out] at q
          go_wp2_with fail
          refine q.mono ?_
          rintro e w9 ⟨rfl, f9⟩
          have F9 := Lib.hid f9
          clear f9 q x0 x1 x2 x3 x4 x5
          go_wp2
          go_ret
          exact ⟨rfl, HFW.out.trans F9.out (fun _ _ h => h)⟩
        · have HCK := Lib.hid (show checkE ({ T with procs := T.procs ++ [KProc.mk lastT 999 zeroT zeroT 0 n] }) = 2 from by rw [wrong13 HP3.out n, if_neg hr])
          have ho : outE 1 1000 n = 2 := if_neg hr
          rw [ho] at hout
          clear hr ho
          go_wp2_with fail
          refine hout.mono ?_
          rintro e wz ⟨rfl, rfl⟩
          clear hout
          have x0 := cells_row HB7.out 0 _ rfl
          have x1 := cells_row HB7.out 1 _ rfl
          have x2 := cells_row HB7.out 2 _ rfl
          have x3 := cells_row HB7.out 3 _ rfl
          have x4 := cells_row HB7.out 4 _ rfl
          have x5 := cells_row HB7.out 5 _ rfl
          simp only [List.getElem_toArray, List.getElem_cons_succ, List.getElem_cons_zero] at x0 x1 x2 x3 x4 x5
          have q := check_any _ _ _ _ HTB.out
          rw [HCK.out] at q
          go_wp2_with fail
          refine q.mono ?_
          rintro e w9 ⟨rfl, f9⟩
          have F9 := Lib.hid f9
          clear f9 q x0 x1 x2 x3 x4 x5
          go_wp2
          go_ret
          exact ⟨rfl, HFW.out.trans F9.out (fun _ _ h => h)⟩
      · have n78 : g7 ≠ w8.heap.size := by omega
        have n87 : w8.heap.size ≠ g7 := by omega
        have n18 : g1 ≠ w8.heap.size := by omega
        have y5 := cells_row HW.out.box 5 _ rfl
        simp only [List.getElem_toArray, List.getElem_cons_succ, List.getElem_cons_zero] at y5
        have c1 := cell_of_one HW.out.num
        obtain ⟨cs, hown, hit⟩ := HW.out.cp.monoS (S := fun k => k ≠ g7 ∧ (.slice qa T.procs.length qc : Value).ownBlock ≠ some k) (fun k hk => ⟨by omega, hk.2.2⟩)
        have HOWN := Lib.hid hown
        have HIT := Lib.hid hit
        have hll := HW.out.la
        have hbase : N ≤ w8.heap.size := by have := HW.out.o3; have := HW.out.o4; omega
        obtain ⟨i8, hi8, hy0, hy1, hy2⟩ := info_parts Try.infoProc
        clear hown hit
        go_wp2_with (at_builtin; refine wpList_append_sep rfl (.tmp 161) (.tmp 163) 30 30 rfl (N) 41 i8 (.agg #[.string ByteArray.empty, .int .i64 0, .int .u8 0, .int .i64 0, .slice none 0 0, .slice none 0 0, .int .u8 0, .int .i64 0, .slice none 0 0, .slice none 0 0, .int .u8 0, .int .i64 0]) 12 168 Try.underlying30 _ Try.underlying30 (.inr ⟨_, rfl⟩) hi8 hy0 hy1 hy2 rfl (by decide) (.slice qa T.procs.length qc) T.procs.length cs rfl ?own _ 1 [.string ⟨#[108, 97, 115, 116]⟩, .int .i64 999, .int .u8 0, .int .i64 0, .slice none 0 0, .slice none 0 0, .int .u8 0, .int .i64 0, .slice none 0 0, .slice none 0 0, .int .u8 3, .int .i64 9] rfl (lenOf_slice _ _ _) rfl (first_one 1 12 rfl (heap_alloc_new _ _)) (first_one 1 12 rfl (by exact heap_alloc_new _ _)) ?one ?b1 ?b2 ?base ?grow)
        case own => exact World.ownsRow.alloc HOWN.out _
        case one => intro u hu; simp only [List.mem_cons, List.not_mem_nil, or_false] at hu; rcases hu with rfl | rfl | rfl | rfl | rfl | rfl | rfl | rfl | rfl | rfl | rfl | rfl <;> rfl
        case b1 => unfold maxLen; omega
        case b2 => omega
        case base => simp; omega
        case grow =>
        intro v' w11 hown hg hv0
        have f11 : Fr (fun k => (.slice qa T.procs.length qc : Value).ownBlock = some k) w8 w11 := ((Fr.refl _ _).alloc _).trans ((Fr.of_grown hg).mono (fun _ _ e => e.symm)) (fun i hi e => e)
        have hc2 : CpRow prShown 41 12 (N) (fun k => k ≠ g7 ∧ (.slice qa T.procs.length qc : Value).ownBlock ≠ some k) w11 v' (T.procs ++ [KProc.mk lastT 999 zeroT zeroT 3 9]) := CpRow.push2 HOWN.out.1 (fun k h => h.2) HIT.out hown f11 ⟨_, _, _, _, _, _, _, _, rfl, zero_shows _ _, zero_shows _ _⟩ rfl
        obtain ⟨ra, rn, rc, rfl⟩ : ∃ a n c, v' = .slice a n c := by obtain ⟨a, c, e⟩ := hc2.slice; exact ⟨a, _, c, e⟩
        have hb11 := box_kept HW.out.box f11 (fun e => by have := (HW.out.op _ e).2; omega)
        have HN11 := Lib.hid (box_kept HW.out.num f11 (fun e => by have := (HW.out.op _ e).1; have := HW.out.o2; have := HW.out.o3; omega))
        have ho9 : ¬ (.slice ra rn rc : Value).ownBlock = some g7 := fun e0 => by
          rcases hv0 with e' | e'
          · have e := e'.symm.trans e0
            exact (by have := (HW.out.op _ e).2; omega)
          · have e := e'.symm.trans e0
            simp at e
            omega
        have fset : Fr (fun k => k = g7) w11 (w11.setCell ⟨g7, 5, none⟩ (.slice ra rn rc)) := Fr.set1 (Fr.refl _ _) 5 _
        have f89 : Fr (fun k => k = g7 ∨ (.slice qa T.procs.length qc : Value).ownBlock = some k) w8 (w11.setCell ⟨g7, 5, none⟩ (.slice ra rn rc)) := (f11.mono (fun _ _ e => .inr e)).trans fset (fun _ _ e => .inl e)
        have hc9 := hc2.fr fset (fun k h => h.1) (fun k hk e => ho9 (e ▸ hk))
        have HB7 := Lib.hid (show (w11.setCell ⟨g7, 5, none⟩ (.slice ra rn rc)).heap[g7]? = some (.cells #[(.string ⟨T.name.toArray⟩), (.int .i64 T.number), (.int .i64 T.version), (.slice ta T.types.length tc), (.slice fa T.faults.length fc), (.slice ra rn rc)] 32 (0, 0)) from setCell_row 5 _ hb11)
        have HTB := Lib.hid (show Tabled (fun k => k ≠ g7) (w11.setCell ⟨g7, 5, none⟩ (.slice ra rn rc)) ({ T with procs := T.procs ++ [KProc.mk lastT 999 zeroT zeroT 3 9] }) (.agg #[(.string ⟨T.name.toArray⟩), (.int .i64 T.number), (.int .i64 T.version), (.slice ta T.types.length tc), (.slice fa T.faults.length fc), (.slice ra rn rc)]) from ⟨_, _, _, rfl, HW.out.nl, HW.out.keepA _ (.inr rfl) f89, HW.out.keepF _ (.inr rfl) f89, hc9.procsO (by have := HW.out.la.2.2; simp; omega) (fun x hx => by rcases List.mem_append.1 hx with h | h; exact HW.out.sp x h; simp at h; subst h; simp [lastT]) _ (fun k h => h.1) (fun k hk e => ho9 (e ▸ hk))⟩)
        have HFW := Lib.hid (HW.out.fr_out _ (.inr (.inr rfl)) f89)
        have HNW := Lib.hid (show (w11.setCell ⟨g7, 5, none⟩ (.slice ra rn rc)).heap[g1]? = some (.cells #[.int .i64 n] 3 (0, 0)) from box_kept HN11.out fset hg17)
        have zz : w11.frozen? ⟨g7, 5, none⟩ = false := by simp [World.frozen?, hb11]
        clear y5 c1
        have y5 := cells_row hb11 5 _ rfl
        simp only [List.getElem_toArray, List.getElem_cons_succ, List.getElem_cons_zero] at y5
        have c1 := cell_of_one HN11.out
        clear hown hg hv0 f11 hc2 hb11 ho9 fset f89 hc9 n78 n87 n18 hbase
        have HCK := Lib.hid (show checkE ({ T with procs := T.procs ++ [KProc.mk lastT 999 zeroT zeroT 3 9] }) = 2 from wrong14 HP3.out)
        clear c1 hkk
        have x0 := cells_row HB7.out 0 _ rfl
        have x1 := cells_row HB7.out 1 _ rfl
        have x2 := cells_row HB7.out 2 _ rfl
        have x3 := cells_row HB7.out 3 _ rfl
        have x4 := cells_row HB7.out 4 _ rfl
        have x5 := cells_row HB7.out 5 _ rfl
        simp only [List.getElem_toArray, List.getElem_cons_succ, List.getElem_cons_zero] at x0 x1 x2 x3 x4 x5
        have q := check_any _ _ _ _ HTB.out
        rw [HCK.out] at q
        go_wp2_with fail
        refine q.mono ?_
        rintro e w9 ⟨rfl, f9⟩
        have F9 := Lib.hid f9
        clear f9 q x0 x1 x2 x3 x4 x5
        go_wp2
        go_ret
        exact ⟨rfl, HFW.out.trans F9.out (fun _ _ h => h)⟩
      · have n78 : g7 ≠ w8.heap.size := by omega
        have n87 : w8.heap.size ≠ g7 := by omega
        have n18 : g1 ≠ w8.heap.size := by omega
        have y5 := cells_row HW.out.box 5 _ rfl
        simp only [List.getElem_toArray, List.getElem_cons_succ, List.getElem_cons_zero] at y5
        have c1 := cell_of_one HW.out.num
        obtain ⟨cs, hown, hit⟩ := HW.out.cp.monoS (S := fun k => k ≠ g7 ∧ (.slice qa T.procs.length qc : Value).ownBlock ≠ some k) (fun k hk => ⟨by omega, hk.2.2⟩)
        have HOWN := Lib.hid hown
        have HIT := Lib.hid hit
        have hll := HW.out.la
        have hbase : N ≤ w8.heap.size := by have := HW.out.o3; have := HW.out.o4; omega
        obtain ⟨i8, hi8, hy0, hy1, hy2⟩ := info_parts Try.infoProc
        clear hown hit
        go_wp2_with (at_builtin; refine wpList_append_sep rfl (.tmp 31) (.tmp 34) 30 30 rfl (N) 41 i8 (.agg #[.string ByteArray.empty, .int .i64 0, .int .u8 0, .int .i64 0, .slice none 0 0, .slice none 0 0, .int .u8 0, .int .i64 0, .slice none 0 0, .slice none 0 0, .int .u8 0, .int .i64 0]) 12 168 Try.underlying30 _ Try.underlying30 (.inr ⟨_, rfl⟩) hi8 hy0 hy1 hy2 rfl (by decide) (.slice qa T.procs.length qc) T.procs.length cs rfl ?own _ 2 [.string ⟨#[120]⟩, .int .i64 999, .int .u8 0, .int .i64 0, .slice none 0 0, .slice none 0 0, .int .u8 0, .int .i64 0, .slice none 0 0, .slice none 0 0, .int .u8 0, .int .i64 9, .string ⟨#[121]⟩, .int .i64 999, .int .u8 0, .int .i64 0, .slice none 0 0, .slice none 0 0, .int .u8 0, .int .i64 0, .slice none 0 0, .slice none 0 0, .int .u8 0, .int .i64 9] rfl (lenOf_slice _ _ _) rfl (first_two rfl (heap_alloc_new _ _)) (first_two rfl (by exact heap_alloc_new _ _)) ?one ?b1 ?b2 ?base ?grow)
        case own => exact World.ownsRow.alloc HOWN.out _
        case one => intro u hu; simp only [List.mem_cons, List.not_mem_nil, or_false] at hu; rcases hu with rfl | rfl | rfl | rfl | rfl | rfl | rfl | rfl | rfl | rfl | rfl | rfl | rfl | rfl | rfl | rfl | rfl | rfl | rfl | rfl | rfl | rfl | rfl | rfl <;> rfl
        case b1 => unfold maxLen; omega
        case b2 => omega
        case base => simp; omega
        case grow =>
        intro v' w11 hown hg hv0
        have f11 : Fr (fun k => (.slice qa T.procs.length qc : Value).ownBlock = some k) w8 w11 := ((Fr.refl _ _).alloc _).trans ((Fr.of_grown hg).mono (fun _ _ e => e.symm)) (fun i hi e => e)
        have hc2 : CpRow prShown 41 12 (N) (fun k => k ≠ g7 ∧ (.slice qa T.procs.length qc : Value).ownBlock ≠ some k) w11 v' (T.procs ++ [KProc.mk xT 999 zeroT zeroT 0 9, KProc.mk yT 999 zeroT zeroT 0 9]) := CpRow.push_two (n1 := [.string ⟨#[120]⟩, .int .i64 999, .int .u8 0, .int .i64 0, .slice none 0 0, .slice none 0 0, .int .u8 0, .int .i64 0, .slice none 0 0, .slice none 0 0, .int .u8 0, .int .i64 9]) (n2 := [.string ⟨#[121]⟩, .int .i64 999, .int .u8 0, .int .i64 0, .slice none 0 0, .slice none 0 0, .int .u8 0, .int .i64 0, .slice none 0 0, .slice none 0 0, .int .u8 0, .int .i64 9]) HOWN.out.1 (fun k h => h.2) HIT.out hown f11 ⟨_, _, _, _, _, _, _, _, rfl, zero_shows _ _, zero_shows _ _⟩ ⟨_, _, _, _, _, _, _, _, rfl, zero_shows _ _, zero_shows _ _⟩ rfl rfl
        obtain ⟨ra, rn, rc, rfl⟩ : ∃ a n c, v' = .slice a n c := by obtain ⟨a, c, e⟩ := hc2.slice; exact ⟨a, _, c, e⟩
        have hb11 := box_kept HW.out.box f11 (fun e => by have := (HW.out.op _ e).2; omega)
        have HN11 := Lib.hid (box_kept HW.out.num f11 (fun e => by have := (HW.out.op _ e).1; have := HW.out.o2; have := HW.out.o3; omega))
        have ho9 : ¬ (.slice ra rn rc : Value).ownBlock = some g7 := fun e0 => by
          rcases hv0 with e' | e'
          · have e := e'.symm.trans e0
            exact (by have := (HW.out.op _ e).2; omega)
          · have e := e'.symm.trans e0
            simp at e
            omega
        have fset : Fr (fun k => k = g7) w11 (w11.setCell ⟨g7, 5, none⟩ (.slice ra rn rc)) := Fr.set1 (Fr.refl _ _) 5 _
        have f89 : Fr (fun k => k = g7 ∨ (.slice qa T.procs.length qc : Value).ownBlock = some k) w8 (w11.setCell ⟨g7, 5, none⟩ (.slice ra rn rc)) := (f11.mono (fun _ _ e => .inr e)).trans fset (fun _ _ e => .inl e)
        have hc9 := hc2.fr fset (fun k h => h.1) (fun k hk e => ho9 (e ▸ hk))
        have HB7 := Lib.hid (show (w11.setCell ⟨g7, 5, none⟩ (.slice ra rn rc)).heap[g7]? = some (.cells #[(.string ⟨T.name.toArray⟩), (.int .i64 T.number), (.int .i64 T.version), (.slice ta T.types.length tc), (.slice fa T.faults.length fc), (.slice ra rn rc)] 32 (0, 0)) from setCell_row 5 _ hb11)
        have HTB := Lib.hid (show Tabled (fun k => k ≠ g7) (w11.setCell ⟨g7, 5, none⟩ (.slice ra rn rc)) ({ T with procs := T.procs ++ [KProc.mk xT 999 zeroT zeroT 0 9, KProc.mk yT 999 zeroT zeroT 0 9] }) (.agg #[(.string ⟨T.name.toArray⟩), (.int .i64 T.number), (.int .i64 T.version), (.slice ta T.types.length tc), (.slice fa T.faults.length fc), (.slice ra rn rc)]) from ⟨_, _, _, rfl, HW.out.nl, HW.out.keepA _ (.inr rfl) f89, HW.out.keepF _ (.inr rfl) f89, hc9.procsO (by have := HW.out.la.2.2; simp; omega) (fun x hx => by rcases List.mem_append.1 hx with h | h; exact HW.out.sp x h; simp at h; rcases h with rfl | rfl <;> simp [xT, yT]) _ (fun k h => h.1) (fun k hk e => ho9 (e ▸ hk))⟩)
        have HFW := Lib.hid (HW.out.fr_out _ (.inr (.inr rfl)) f89)
        have HNW := Lib.hid (show (w11.setCell ⟨g7, 5, none⟩ (.slice ra rn rc)).heap[g1]? = some (.cells #[.int .i64 n] 3 (0, 0)) from box_kept HN11.out fset hg17)
        have zz : w11.frozen? ⟨g7, 5, none⟩ = false := by simp [World.frozen?, hb11]
        clear y5 c1
        have y5 := cells_row hb11 5 _ rfl
        simp only [List.getElem_toArray, List.getElem_cons_succ, List.getElem_cons_zero] at y5
        have c1 := cell_of_one HN11.out
        clear hown hg hv0 f11 hc2 hb11 ho9 fset f89 hc9 n78 n87 n18 hbase
        have HCK := Lib.hid (show checkE ({ T with procs := T.procs ++ [KProc.mk xT 999 zeroT zeroT 0 9, KProc.mk yT 999 zeroT zeroT 0 9] }) = 9 from wrong15 HP3.out)
        clear c1 hkk
        have x0 := cells_row HB7.out 0 _ rfl
        have x1 := cells_row HB7.out 1 _ rfl
        have x2 := cells_row HB7.out 2 _ rfl
        have x3 := cells_row HB7.out 3 _ rfl
        have x4 := cells_row HB7.out 4 _ rfl
        have x5 := cells_row HB7.out 5 _ rfl
        simp only [List.getElem_toArray, List.getElem_cons_succ, List.getElem_cons_zero] at x0 x1 x2 x3 x4 x5
        have q := check_any _ _ _ _ HTB.out
        rw [HCK.out] at q
        go_wp2_with fail
        refine q.mono ?_
        rintro e w9 ⟨rfl, f9⟩
        have F9 := Lib.hid f9
        clear f9 q x0 x1 x2 x3 x4 x5
        go_wp2
        go_ret
        exact ⟨rfl, HFW.out.trans F9.out (fun _ _ h => h)⟩
    · rw [HCT.out.2 hs] at hck
      clear hs
      go_wp2_with fail
      refine hck.mono ?_
      rintro e w5 ⟨rfl, f5⟩
      have F5 := Lib.hid f5
      clear f5 hck e0 e1 e2 e3 e4 e5
      go_wp2
      go_ret
      exact ⟨rfl, (F3.out.1.trans H4.out.2 (fun _ _ h => h)).trans F5.out (fun _ _ h => h)⟩

end Go.Proofs.Ytdaabgnfgdojhaa
