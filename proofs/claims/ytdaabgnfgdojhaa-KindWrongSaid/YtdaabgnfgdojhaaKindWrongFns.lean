/-
  KindWrong: its two closures; rows with one item more.
-/
import Derived.Test.YtdaabgnfgdojhaaKindTable
import Derived.Test.YtdaabgnfgdojhaaKindCells
import Derived.Test.YtdaabgnfgdojhaaKindWrongMath2
namespace Go.Proofs.Ytdaabgnfgdojhaa
open Go.RowKit
set_option linter.unusedSimpArgs false
set_option linter.unusedVariables false

theorem CpRow.push2 {α : Type} {D : Shown α} {e : TypeId} {size N : Nat} {R : Nat → Prop} {w w' : World} {v v' : Value} {l : List α} {x : α} {cs news : List Value} (hl : cs.length = l.length * size) (hS : ∀ k, R k → v.ownBlock ≠ some k)
    (hc : ∀ (i : Nat) (x : α), l[i]? = some x → ∃ xs : List Value, xs.length = size ∧ (∀ (j : Nat) (u : Value), xs[j]? = some u → cs[i * size + j]? = some u) ∧ D.sh R w x xs)
    (ho : w'.ownsRow N e size v' (l.length + 1) (cs ++ news)) (f : Fr (fun k => v.ownBlock = some k) w w') (hx : D.sh R w x news) (hn : news.length = size) : CpRow D e size N R w' v' (l ++ [x]) := by
  refine ⟨cs ++ news, by rw [List.length_append]; exact ho, fun i y hi => ?_⟩
  by_cases hlt : i < l.length
  · rw [List.getElem?_append_left hlt] at hi
    obtain ⟨xs, a, b, hy⟩ := hc i y hi
    refine ⟨xs, a, fun j u hu => ?_, D.fr hy f hS⟩
    have := b j u hu
    rw [List.getElem?_append_left (List.getElem?_eq_some_iff.1 this).1]
    exact this
  · have hi' := (List.getElem?_eq_some_iff.1 hi).1
    obtain rfl : i = l.length := by simp at hi'; omega
    rw [List.getElem?_append_right (Nat.le_refl _)] at hi
    simp at hi
    subst hi
    refine ⟨news, hn, fun j u hu => ?_, D.fr hx f hS⟩
    rw [List.getElem?_append_right (by omega), show l.length * size + j - cs.length = j by omega]
    exact hu

theorem CpRow.aliasesO {N : Nat} {R : Nat → Prop} {w : World} {v : Value} {l : List (Txt × KT)} (h : CpRow alShown 49 5 N R w v l) (h1 : l.length ≤ 1000) (h2 : ∀ x ∈ l, x.1.length ≤ 1000) (P : Nat → Prop) (hP : ∀ k, R k → P k) (hN : ∀ k, v.ownBlock = some k → P k) : Aliases P w l v := by
  refine ⟨h1, h2, ?_⟩
  rcases h.cells with ⟨h3, a, c, h4⟩ | ⟨g, cap, cur, hgN, rfl, hle, hg, hc⟩
  · exact .inl ⟨h3, a, c, h4⟩
  · refine .inr ⟨g, 0, cap, hN g rfl, rfl, hle, fun i x hi => ?_⟩
    obtain ⟨xs, _, hc, x0, x1, x2, x3, rfl, hx⟩ := hc i x hi
    have key := fun (j : Nat) (u : Value) (hu : [sv x.1, x0, x1, x2, x3][j]? = some u) => (cell_of_row w g (i * 5 + j) _ _ _ hg).trans (hc j u hu)
    simp only [Nat.zero_add]
    exact ⟨x0, x1, x2, x3, key 0 _ rfl, key 1 _ rfl, key 2 _ rfl, key 3 _ rfl, key 4 _ rfl, Shows.mono (fun k _ h => hP k h) _ _ hx⟩

theorem CpRow.procsO {N : Nat} {R : Nat → Prop} {w : World} {v : Value} {l : List KProc} (h : CpRow prShown 41 12 N R w v l) (h1 : l.length ≤ 1000) (h2 : ∀ p ∈ l, p.name.length ≤ 1000 ∧ p.collate ≤ 255) (P : Nat → Prop) (hP : ∀ k, R k → P k) (hN : ∀ k, v.ownBlock = some k → P k) : Procs P w l v := by
  refine ⟨h1, h2, ?_⟩
  rcases h.cells with ⟨h3, a, c, h4⟩ | ⟨g, cap, cur, hgN, rfl, hle, hg, hc⟩
  · exact .inl ⟨h3, a, c, h4⟩
  · refine .inr ⟨g, 0, cap, hN g rfl, rfl, hle, fun i x hi => ?_⟩
    obtain ⟨xs, _, hc, x0, x1, x2, x3, y0, y1, y2, y3, rfl, hx, hy⟩ := hc i x hi
    refine ⟨x0, x1, x2, x3, y0, y1, y2, y3, fun j u hu => ?_, Shows.mono (fun k _ h => hP k h) _ _ hx, Shows.mono (fun k _ h => hP k h) _ _ hy⟩
    simp only [Nat.zero_add]
    exact (cell_of_row w g (i * 12 + j) _ _ _ hg).trans (hc j u hu)

theorem CpRow.faultsO {N : Nat} {R : Nat → Prop} {w : World} {v : Value} {l : List (Txt × Int)} (h : CpRow ftShown 52 2 N R w v l) (h1 : l.length ≤ 1000) (h2 : ∀ x ∈ l, x.1.length ≤ 1000) (P : Nat → Prop) (hN : ∀ k, v.ownBlock = some k → P k) : Faults P w l v := by
  refine ⟨h1, h2, ?_⟩
  rcases h.cells with ⟨h3, a, c, h4⟩ | ⟨g, cap, cur, hgN, rfl, hle, hg, hc⟩
  · exact .inl ⟨h3, a, c, h4⟩
  · refine .inr ⟨g, 0, cap, hN g rfl, rfl, hle, fun i x hi => ?_⟩
    obtain ⟨xs, _, hc, hx⟩ := hc i x hi
    have e : xs = [sv x.1, .int .i64 x.2] := hx
    subst e
    have key := fun (j : Nat) (u : Value) (hu : [sv x.1, .int .i64 x.2][j]? = some u) => (cell_of_row w g (i * 2 + j) _ _ _ hg).trans (hc j u hu)
    simp only [Nat.zero_add]
    exact ⟨key 0 _ rfl, key 1 _ rfl⟩

/-- The error of a number that is to lie between two. -/
def outE (lo hi n : Int) : Int := if lo ≤ n ∧ n ≤ hi then 0 else 2

set_option maxRecDepth 100000 in
set_option maxHeartbeats 4000000 in
theorem out_any (lo hi n : Int) (g : Nat) (w : World) (hg : w.heap[g]? = some (.cells #[.int .i64 n] 3 (0, 0))) :
    Calls Try.prog 18 #[.int .i64 lo, .int .i64 hi, .pointer (some ⟨g, 0, none⟩)] w fun e w' => e = .returned (.int .i64 (outE lo hi n)) ∧ w = w' := by
  have c0 := cell_of_one hg
  clear hg
  unfold outE
  by_cases h1 : n < lo
  · have h2 : ¬ (lo ≤ n ∧ n ≤ hi) := by omega
    rw [if_neg h2]
    clear h2
    go_enter Try.func18, Try.ntmps18
    go_wp2
    go_ret
    exact ⟨rfl, rfl⟩
  · by_cases h2 : hi < n
    · have h3 : ¬ (lo ≤ n ∧ n ≤ hi) := by omega
      rw [if_neg h3]
      clear h3
      go_enter Try.func18, Try.ntmps18
      go_wp2
      go_ret
      exact ⟨rfl, rfl⟩
    · have h3 : lo ≤ n ∧ n ≤ hi := by omega
      rw [if_pos h3]
      clear h3
      go_enter Try.func18, Try.ntmps18
      go_wp2
      go_ret
      exact ⟨rfl, rfl⟩

set_option maxRecDepth 100000 in
set_option maxHeartbeats 8000000 in
theorem last_any (l : List (Txt × KT)) (x : KT) (g7 B : Nat) (x0 x1 x2 tv fv pv xv : Value) (w : World) (R : Nat → Prop) (hR : ∀ k, R k → k ≠ g7 ∧ tv.ownBlock ≠ some k) (hb : w.heap[g7]? = some (.cells #[x0, x1, x2, tv, fv, pv] 32 (0, 0)))
    (hc : CpRow alShown 49 5 B R w tv l) (hl : l.length ≤ 100) (hx : Shows R w x xv) (hB : B ≤ w.heap.size) (hg : tv.ownBlock ≠ some g7) :
    Calls Try.prog 19 #[xv, .pointer (some ⟨g7, 0, none⟩)] w fun e w' => e = .returned (.tuple #[]) ∧ ∃ tv', w'.heap[g7]? = some (.cells #[x0, x1, x2, tv', fv, pv] 32 (0, 0)) ∧ CpRow alShown 49 5 B R w' tv' (l ++ [(lastT, x)]) ∧
      (tv'.ownBlock = tv.ownBlock ∨ ∃ k, tv'.ownBlock = some k ∧ w.heap.size ≤ k) ∧ Fr (fun k => k = g7 ∨ tv.ownBlock = some k) w w' := by
  have HC := Lib.hid hc
  have HX := Lib.hid hx
  obtain ⟨ta, tc, rfl⟩ := hc.slice
  obtain ⟨k, m, a, n, c, a', n', c', rfl⟩ := hx.four
  obtain ⟨cs, hown, hit⟩ := hc
  have HOWN := Lib.hid hown
  have HIT := Lib.hid hit
  have HB := Lib.hid hb
  have HR := Lib.hid hR
  have HG := Lib.hid hg
  have hgl := lt_of_block hb
  have m1 : g7 ≠ w.heap.size := by omega
  have m2 : w.heap.size ≠ g7 := by omega
  have m3 : g7 ≠ w.heap.size + 1 := by omega
  have m4 : w.heap.size + 1 ≠ g7 := by omega
  have r3 := cells_row hb 3 _ rfl
  simp only [List.getElem_toArray, List.getElem_cons_succ, List.getElem_cons_zero] at r3
  obtain ⟨i8, hi8, hy0, hy1, hy2⟩ := info_parts Try.infoAlias
  have hnew : ((w.alloc (.cells #[.int .u8 k, .int .i64 m, .slice a n c, .slice a' n' c'] 38)).alloc (.cells #[.string ⟨#[108, 97, 115, 116]⟩, .int .u8 k, .int .i64 m, .slice a n c, .slice a' n' c'] 49)).heap[w.heap.size + 1]? = some (.cells #[.string ⟨#[108, 97, 115, 116]⟩, .int .u8 k, .int .i64 m, .slice a n c, .slice a' n' c'] 49 (0, 0)) := by
    have := heap_alloc_new (w.alloc (.cells #[.int .u8 k, .int .i64 m, .slice a n c, .slice a' n' c'] 38)) (.cells #[.string ⟨#[108, 97, 115, 116]⟩, .int .u8 k, .int .i64 m, .slice a n c, .slice a' n' c'] 49)
    simpa using this
  have HNEW := Lib.hid hnew
  clear hown hit hx hb hR hg hnew
  go_enter Try.func19, Try.ntmps19
  go_wp2_with (at_builtin; refine wpList_append_sep rfl (.tmp 4) (.tmp 7) 28 28 rfl B 49 i8 (.agg #[.string ByteArray.empty, .int .u8 0, .int .i64 0, .slice none 0 0, .slice none 0 0]) 5 80 Try.underlying28 _ Try.underlying28 (.inr ⟨_, rfl⟩) hi8 hy0 hy1 hy2 rfl (by decide) (.slice ta l.length tc) l.length cs rfl ?own _ 1 [.string ⟨#[108, 97, 115, 116]⟩, .int .u8 k, .int .i64 m, .slice a n c, .slice a' n' c'] rfl (lenOf_slice _ _ _) rfl (first_one 1 5 rfl HNEW.out) (first_one 1 5 rfl (by exact HNEW.out)) ?one ?b1 ?b2 ?base ?grow)
  case own => exact World.ownsRow.alloc (World.ownsRow.alloc HOWN.out _) _
  case one => intro u hu; simp only [List.mem_cons, List.not_mem_nil, or_false] at hu; rcases hu with rfl | rfl | rfl | rfl | rfl <;> rfl
  case b1 => unfold maxLen; omega
  case b2 => omega
  case base => simp; omega
  case grow =>
    intro v' w11 hown hgr hv0
    have f11 : Fr (fun k => (.slice ta l.length tc : Value).ownBlock = some k) w w11 := (((Fr.refl _ _).alloc _).alloc _).trans ((Fr.of_grown hgr).mono (fun _ _ e => e.symm)) (fun i hi e => e)
    have hc2 : CpRow alShown 49 5 B R w11 v' (l ++ [(lastT, x)]) := CpRow.push2 HOWN.out.1 (fun k h => (HR.out k h).2) HIT.out hown f11 ⟨_, _, _, _, rfl, HX.out⟩ rfl
    obtain ⟨ra, rn, rc, rfl⟩ : ∃ a n c, v' = .slice a n c := by obtain ⟨a, c, e⟩ := hc2.slice; exact ⟨a, _, c, e⟩
    have hb11 := box_kept HB.out f11 HG.out
    have hv : (.slice ra rn rc : Value).ownBlock = (.slice ta l.length tc : Value).ownBlock ∨ ∃ k, (.slice ra rn rc : Value).ownBlock = some k ∧ w.heap.size ≤ k := by
      rcases hv0 with e | e
      · exact .inl e
      · exact .inr ⟨_, e, by first | omega | (simp; done) | (simp; omega)⟩
    have fset : Fr (fun k => k = g7) w11 (w11.setCell ⟨g7, 3, none⟩ (.slice ra rn rc)) := Fr.set1 (Fr.refl _ _) 3 _
    have FS := Lib.hid (And.intro (setCell_row 3 (.slice ra rn rc) hb11) (And.intro hv ((f11.mono (fun _ _ e => .inr e)).trans fset (fun _ _ e => Or.inl e))))
    have hown2 : ∀ k, (.slice ra rn rc : Value).ownBlock = some k → ¬ k = g7 := by
      intro k hk e
      rcases hv with e' | ⟨q, e', hq⟩
      · rw [e'] at hk; exact HG.out (e ▸ hk)
      · rw [e'] at hk; cases hk; omega
    have HC2 := Lib.hid (hc2.fr fset (fun k h => (HR.out k h).1) hown2)
    have z3 : w11.frozen? ⟨g7, 3, none⟩ = false := by simp [World.frozen?, hb11]
    have d3 := cells_row hb11 3 _ rfl
    simp only [List.getElem_toArray, List.getElem_cons_succ, List.getElem_cons_zero] at d3
    clear hown hgr hv0 f11 hc2 hb11 hv fset hown2
    go_wp2
    go_returns
    exact ⟨rfl, _, FS.out.1, HC2.out, FS.out.2.1, FS.out.2.2⟩

end Go.Proofs.Ytdaabgnfgdojhaa
