/-
  package value: the flattener: is it full, one number more (full, add); flatten, where a value is one number.
-/
import Derived.Test.YtedadjlmmnikaaaMH
import Derived.Test.YtedadjlmmnikaaaMA
import Derived.Test.YtedadjlmmnikaaaMB
import Derived.Deep.QuietTactic
import Derived.BigQuiet
import Derived.LoopN
set_option linter.unusedSimpArgs false
set_option linter.unusedVariables false
namespace Go.Proofs.Ytedadjlmmnikaaa
open Go.RowKit
attribute [local go_sem] run_store_float
set_option linter.unusedVariables false
set_option linter.unusedSimpArgs false

theorem Try.infoI64 : (Try.prog.info? 2).map (fun i => (i.zero, i.size, i.bytes)) = some (some (.int .i64 0), 1, 8) := by kernel_rfl

/-- One number more, if there are not so many. -/
def addE (m : Int) (acc : List Int) (x : Int) : List Int := if m ≤ (acc.length : Int) then acc else acc ++ [x]

/-- A VALUE'S NUMBERS. -/
def flE : KT → VT → List Int
  | .nil, _ => []
  | .mk _ _ _ _ _, .nil => []
  | .mk k m ns n of, .mk N f s c ov =>
    if k = 3 then [Fl.whole f]
    else if k = 4 then [(s.length : Int)]
    else (if k = 5 then [(c : Int)] else []) ++ (if k < 3 ∨ 6 < k then [N] else []) ++ ((List.range c).map (fun i => flE (of (if k = 6 then i else if k = 8 then N.toNat else 0)) (ov i))).flatten

/-- The flattener in block fb: its numbers, in a row of its own. -/
def FlSt (B fb : Nat) (w : World) (m : Int) (nv : Value) (acc : List Int) : Prop :=
  w.heap[fb]? = some (.cells #[nv, .int .i64 m] 113 (0, 0)) ∧ w.ownsRow B 2 1 nv acc.length (acc.map (Value.int .i64)) ∧ ∀ k, nv.ownBlock = some k → k ≠ fb

theorem FlSt.fr {S : Nat → Prop} {B fb : Nat} {w w' : World} {m : Int} {nv : Value} {acc : List Int} (h : FlSt B fb w m nv acc) (f : Fr S w w') (h1 : ¬ S fb) (h2 : ∀ k, nv.ownBlock = some k → ¬ S k) : FlSt B fb w' m nv acc :=
  ⟨box_kept h.1 f h1, ownsRow_fr h.2.1 f h2, h.2.2⟩

set_option maxHeartbeats 8000000 in
theorem full_any (B fb : Nat) (m : Int) (nv : Value) (acc : List Int) (w : World) (h : FlSt B fb w m nv acc) :
    Calls Try.prog 58 #[.pointer (some ⟨fb, 0, none⟩)] w fun e w' => e = .returned (.bool (decide (m ≤ (acc.length : Int)))) ∧ Fr (fun _ => False) w w' := by
  obtain ⟨a, c, rfl⟩ := slice_of_own h.2.1
  have r0 := cells_row h.1 0 _ rfl
  have r1 := cells_row h.1 1 _ rfl
  have hb1 : fb < w.heap.size := lt_of_block h.1
  clear h
  obtain ⟨n, hn⟩ : ∃ n, acc.length = n := ⟨_, rfl⟩
  rw [hn] at r0 ⊢
  clear hn
  go_enter Try.func58, Try.ntmps58
  go_wp2
  go_quiet (fail)
  go_wp2
  go_ret
  exact ⟨rfl, (Fr.refl _ _).drewN _⟩

set_option maxHeartbeats 8000000 in
theorem add_any (B fb : Nat) (m : Int) (nv : Value) (acc : List Int) (x : Int) (w : World) (h : FlSt B fb w m nv acc) (hl : acc.length ≤ 1000000) (hB : B ≤ w.heap.size) :
    Calls Try.prog 56 #[.pointer (some ⟨fb, 0, none⟩), .int .i64 x] w fun e w' => e = .returned (.tuple #[]) ∧ ∃ nv', FlSt B fb w' m nv' (addE m acc x) ∧ Fr (fun k => k = fb ∨ nv.ownBlock = some k) w w' ∧ (nv'.ownBlock = nv.ownBlock ∨ ∃ g, nv'.ownBlock = some g ∧ w.heap.size ≤ g) := by
  have hf := full_any B fb m nv acc w h
  have HF := Lib.hid h
  obtain ⟨a, c, rfl⟩ := slice_of_own h.2.1
  clear h
  by_cases hm : m ≤ (acc.length : Int)
  · rw [decide_eq_true hm] at hf
    have HE : Hid (addE m acc x = acc) := Lib.hid (by unfold addE; rw [if_pos hm])
    clear hm
    go_enter Try.func56, Try.ntmps56
    go_wp2_with fail
    refine hf.mono ?_
    rintro e w1 ⟨rfl, f1⟩
    have F1 := Lib.hid f1
    clear f1 hf
    go_wp2
    go_returns
    exact ⟨rfl, _, by rw [HE.out]; exact HF.out.fr F1.out (fun h => h) (fun _ _ h => h), F1.out.mono (fun _ _ h => h.elim), .inl rfl⟩
  · rw [decide_eq_false hm] at hf
    have HE : Hid (addE m acc x = acc ++ [x]) := Lib.hid (by unfold addE; rw [if_neg hm])
    clear hm
    obtain ⟨i0, hi, hz0, hz1, hz2⟩ := info_parts Try.infoI64
    obtain ⟨n, hn⟩ : ∃ n, acc.length = n := ⟨_, rfl⟩
    rw [hn] at HF hl ⊢
    have HN := Lib.hid hn
    clear hn
    go_enter Try.func56, Try.ntmps56
    go_wp2_with fail
    refine hf.mono ?_
    rintro e w1 ⟨rfl, f1⟩
    have h1 := HF.out.fr f1 (fun h => h) (fun _ _ h => h)
    have r0 := cells_row h1.1 0 _ rfl
    have hb1 : fb < w1.heap.size := lt_of_block h1.1
    have hb2 : fb ≠ w1.heap.size := by omega
    have H1 := Lib.hid (And.intro f1 h1)
    have q1 : (w1.alloc (.cells #[.int .i64 x] 2)).heap[w1.heap.size]? = some (.cells #[.int .i64 x] 2 (0, 0)) := heap_alloc_new _ _
    have Q1 := Lib.hid q1
    clear f1 hf h1 q1
    go_wp2_with (at_builtin; refine wpList_append_sep rfl (.tmp 11) (.tmp 13) 28 28 rfl B 2 i0 (.int .i64 0) 1 8 Try.underlying28 _ Try.underlying28 (.inr ⟨_, rfl⟩) hi hz0 hz1 hz2 rfl (by decide) (.slice a n c) n (acc.map (Value.int .i64)) rfl ?own (.slice (some ⟨w1.heap.size, 0, none⟩) 1 1) 1 [.int .i64 x] rfl (fun w => lenOf_slice _ _ _ _) rfl ?fc1 ?fc2 ?one ?b1 ?b2 ?base ?grow)
    case own =>
      have h := ownsRow_fr H1.out.2.2.1 ((Fr.refl (fun _ => False) w1).alloc (.cells #[.int .i64 x] 2)) (fun _ _ h => h)
      rw [HN.out] at h
      exact h
    case fc1 => exact first_one 1 1 rfl Q1.out
    case fc2 => exact first_one 1 1 rfl (w := World.drew _) Q1.out
    case one => intro u hu; simp at hu; subst hu; rfl
    case b1 => unfold maxLen; omega
    case b2 => omega
    case base => have := H1.out.1.size; have := ((Fr.refl (fun _ => False) w1).alloc (.cells #[.int .i64 x] 2)).size; omega
    case grow =>
      intro v2 w2 hown hg2 hv2
      have fa : Fr (fun _ => False) w (w1.alloc (.cells #[.int .i64 x] 2)) := H1.out.1.alloc _
      have f2 : Fr (fun k => (Value.slice a n c).ownBlock = some k) w w2 := (fa.mono (fun _ _ h => h.elim)).trans ((Fr.of_grown hg2).mono (fun _ _ e => e.symm)) (fun i hi e => e)
      have q2 := box_kept HF.out.1 f2 (fun e => HF.out.2.2 _ e rfl)
      have r2 := cells_row q2 0 _ rfl
      have z2 : w2.frozen? ⟨fb, 0, none⟩ = false := by simp [World.frozen?, q2]
      have hsz : w.heap.size ≤ (w1.alloc (.cells #[.int .i64 x] 2)).heap.size := fa.size
      have H2 := Lib.hid (And.intro f2 (And.intro q2 (And.intro hown (And.intro hv2 hsz))))
      obtain ⟨b2, d2, rfl⟩ := slice_of_own hown
      clear hown hg2 hv2 f2 fa q2 hsz
      go_wp2
      go_returns
      have hfb : fb < w.heap.size := lt_of_block HF.out.1
      have fs : Fr (fun k => k = fb) w2 (w2.setCell ⟨fb, 0, none⟩ (.slice b2 (n + 1) d2)) := Fr.set1 (Fr.refl _ _) _ _
      have hne : ∀ k, (Value.slice b2 (n + 1) d2).ownBlock = some k → k ≠ fb := by
        intro k hk
        rcases H2.out.2.2.2.1 with h | h <;> rw [h] at hk
        · exact HF.out.2.2 k hk
        · have := Option.some.inj hk; have := H2.out.2.2.2.2; omega
      refine ⟨rfl, .slice b2 (n + 1) d2, ⟨?_, ?_, hne⟩, ?_, ?_⟩
      · rw [setCell_row 0 _ H2.out.2.1]; simp
      · rw [HE.out]
        have h := ownsRow_fr H2.out.2.2.1 fs (fun k hk e => hne k hk e)
        simpa [HN.out] using h
      · exact (H2.out.1.mono (fun _ _ h => .inr h)).trans fs (fun i hi e => .inl e)
      · rcases H2.out.2.2.2.1 with h | h
        · exact .inl h
        · exact .inr ⟨_, h, by have := H2.out.2.2.2.2; simpa using this⟩

/-- What flatten does: of values of the type. -/
def FlatAt (t : KT) : Prop := ∀ (R : Nat → Prop) (v vv : Value) (w : World) (T : VT) (B fb : Nat) (m : Int) (nv : Value) (acc : List Int), Shows R w t v → VShows R w T vv → fitsE t T = true → FlSt B fb w m nv acc → (∀ k, R k → k ≠ fb ∧ nv.ownBlock ≠ some k) → acc.length + 2 * szV T ≤ 500000 → B ≤ w.heap.size →
  Calls Try.prog 42 #[.pointer (some ⟨fb, 0, none⟩), v, vv] w fun e w' => e = .returned (.tuple #[]) ∧ ∃ nv', FlSt B fb w' m nv' ((flE t T).foldl (addE m) acc) ∧ Fr (fun k => k = fb ∨ nv.ownBlock = some k) w w' ∧ (nv'.ownBlock = nv.ownBlock ∨ ∃ g, nv'.ownBlock = some g ∧ w.heap.size ≤ g)

set_option maxRecDepth 100000 in
set_option maxHeartbeats 16000000 in
theorem flat_k0 (k : Nat) (m' : Int) (ns : List Txt) (n : Nat) (of : Nat → KT) (hk0 : k = 0) : FlatAt (.mk k m' ns n of) := by
  intro R v vv w T B fb m nv acc hsh hvs hfit hst hR hlen hB
  obtain ⟨N, f, s, c, ov, va, cap, rfl, rfl, hVB, hVK⟩ := vshows_open hvs
  obtain ⟨vn, vo, rfl, hk, hn, ht, ho⟩ := hsh
  obtain ⟨na, nc, rfl, _⟩ := ht.shape
  obtain ⟨a', c', rfl⟩ : ∃ a' c', vo = .slice a' n c' := by
    rcases ho with ⟨rfl, a', c', rfl⟩ | ⟨g, off, cap, hg, rfl, hle, hc⟩
    · exact ⟨a', c', rfl⟩
    · exact ⟨_, cap, rfl⟩
  obtain ⟨hN0, hN1, hf64, hsl, hc5⟩ := hVB
  subst hk0
  have hc0 : c = 0 := by
    have h := hfit
    rw [fitsE, if_pos rfl] at h
    rw [Bool.and_eq_true] at h
    have h2 := h.2
    unfold zeroV at h2
    rw [sameV] at h2
    simp only [Bool.and_eq_true, decide_eq_true_eq] at h2
    exact h2.1.2
  have HE : Hid (flE (.mk 0 m' ns n of) (.mk N f s c ov) = [N]) := Lib.hid (by have := hc0; subst this; rw [flE, if_neg (by omega), if_neg (by omega), if_neg (by omega), if_pos (by omega)]; rfl)
  subst hc0
  have HST := Lib.hid hst
  have HLEN := Lib.hid hlen
  unfold sv
  obtain ⟨kz, hkz⟩ : ∃ kz : Int, ((0 : Nat) : Int) = kz := ⟨_, rfl⟩
  rw [hkz]
  have e0 : (kz == 0) = true := by simp; omega
  have e1 : (kz == 1) = false := by simp; omega
  have e2 : (kz == 2) = false := by simp; omega
  have e7 : (kz == 7) = false := by simp; omega
  have e3 : (kz == 3) = false := by simp; omega
  have e4 : (kz == 4) = false := by simp; omega
  have e5 : (kz == 5) = false := by simp; omega
  have e6 : (kz == 6) = false := by simp; omega
  have e8 : (kz == 8) = false := by simp; omega
  obtain ⟨w1, hw1⟩ : ∃ w1, w1 = (w.alloc (.cells #[.int .u8 kz, .int .i64 m', .slice na ns.length nc, .slice a' n c'] 36)).alloc (.cells #[.int .i64 N, .float .f64 f, .string ⟨s.toArray⟩, .slice va 0 cap] 44) := ⟨_, rfl⟩
  have f1 : Fr (fun _ => False) w w1 := by rw [hw1]; exact ((Fr.refl _ _).alloc _).alloc _
  have q1 : w1.heap[w.heap.size]? = some (.cells #[.int .u8 kz, .int .i64 m', .slice na ns.length nc, .slice a' n c'] 36 (0, 0)) := by rw [hw1]; exact heap_alloc_first _ _ _
  have v1 : w1.heap[w.heap.size + 1]? = some (.cells #[.int .i64 N, .float .f64 f, .string ⟨s.toArray⟩, .slice va 0 cap] 44 (0, 0)) := by rw [hw1]; exact heap_alloc_two _ _ _
  have H1 := Lib.hid f1
  have HADD := Lib.hid (add_any B fb m nv acc N w1 (hst.fr f1 (fun h => h) (fun _ _ h => h)) (by omega) (Nat.le_trans hB f1.size))
  clear hst hlen hB hvs hVK ho hk hn ht hfit hR f1 hkz
  go_enter Try.func42, Try.ntmps42
  go_upto_region 1 with fail
  rw [← hw1]
  clear hw1
  obtain ⟨vb, hvb⟩ : ∃ vb, w.heap.size + 1 = vb := ⟨_, rfl⟩
  rw [hvb] at v1 ⊢
  clear hvb
  obtain ⟨c0, c1, c2, c3⟩ := cell_of_four q1
  obtain ⟨d0, d1, d2, d3⟩ := cell_of_four v1
  clear q1 v1
  go_wp2_with fail
  refine HADD.out.mono ?_
  rintro e w2 ⟨rfl, nv', h2, f2, hv2⟩
  have H2 := Lib.hid (And.intro h2 (And.intro f2 hv2))
  clear h2 f2 hv2 c0 c1 c2 c3 d0 d1 d2 d3
  go_wp2
  go_returns
  refine ⟨rfl, nv', ?_, (H1.out.mono (fun _ _ h => h.elim)).trans H2.out.2.1 (fun _ _ h => h), ?_⟩
  · rw [HE.out]
    exact H2.out.1
  · rcases H2.out.2.2 with h | ⟨g, h, hg⟩
    · exact .inl h
    · exact .inr ⟨g, h, Nat.le_trans H1.out.size hg⟩

set_option maxRecDepth 100000 in
set_option maxHeartbeats 16000000 in
theorem flat_k1 (k : Nat) (m' : Int) (ns : List Txt) (n : Nat) (of : Nat → KT) (hk0 : k = 1) : FlatAt (.mk k m' ns n of) := by
  intro R v vv w T B fb m nv acc hsh hvs hfit hst hR hlen hB
  obtain ⟨N, f, s, c, ov, va, cap, rfl, rfl, hVB, hVK⟩ := vshows_open hvs
  obtain ⟨vn, vo, rfl, hk, hn, ht, ho⟩ := hsh
  obtain ⟨na, nc, rfl, _⟩ := ht.shape
  obtain ⟨a', c', rfl⟩ : ∃ a' c', vo = .slice a' n c' := by
    rcases ho with ⟨rfl, a', c', rfl⟩ | ⟨g, off, cap, hg, rfl, hle, hc⟩
    · exact ⟨a', c', rfl⟩
    · exact ⟨_, cap, rfl⟩
  obtain ⟨hN0, hN1, hf64, hsl, hc5⟩ := hVB
  subst hk0
  have hc0 : c = 0 := by
    have h := hfit
    rw [fitsE, if_neg (by omega), if_pos rfl] at h
    rw [Bool.and_eq_true] at h
    have h2 := h.2
    unfold zeroV at h2
    rw [sameV] at h2
    simp only [Bool.and_eq_true, decide_eq_true_eq] at h2
    exact h2.1.2
  have HE : Hid (flE (.mk 1 m' ns n of) (.mk N f s c ov) = [N]) := Lib.hid (by have := hc0; subst this; rw [flE, if_neg (by omega), if_neg (by omega), if_neg (by omega), if_pos (by omega)]; rfl)
  subst hc0
  have HST := Lib.hid hst
  have HLEN := Lib.hid hlen
  unfold sv
  obtain ⟨kz, hkz⟩ : ∃ kz : Int, ((1 : Nat) : Int) = kz := ⟨_, rfl⟩
  rw [hkz]
  have e0 : (kz == 0) = false := by simp; omega
  have e1 : (kz == 1) = true := by simp; omega
  have e2 : (kz == 2) = false := by simp; omega
  have e7 : (kz == 7) = false := by simp; omega
  have e3 : (kz == 3) = false := by simp; omega
  have e4 : (kz == 4) = false := by simp; omega
  have e5 : (kz == 5) = false := by simp; omega
  have e6 : (kz == 6) = false := by simp; omega
  have e8 : (kz == 8) = false := by simp; omega
  obtain ⟨w1, hw1⟩ : ∃ w1, w1 = (w.alloc (.cells #[.int .u8 kz, .int .i64 m', .slice na ns.length nc, .slice a' n c'] 36)).alloc (.cells #[.int .i64 N, .float .f64 f, .string ⟨s.toArray⟩, .slice va 0 cap] 44) := ⟨_, rfl⟩
  have f1 : Fr (fun _ => False) w w1 := by rw [hw1]; exact ((Fr.refl _ _).alloc _).alloc _
  have q1 : w1.heap[w.heap.size]? = some (.cells #[.int .u8 kz, .int .i64 m', .slice na ns.length nc, .slice a' n c'] 36 (0, 0)) := by rw [hw1]; exact heap_alloc_first _ _ _
  have v1 : w1.heap[w.heap.size + 1]? = some (.cells #[.int .i64 N, .float .f64 f, .string ⟨s.toArray⟩, .slice va 0 cap] 44 (0, 0)) := by rw [hw1]; exact heap_alloc_two _ _ _
  have H1 := Lib.hid f1
  have HADD := Lib.hid (add_any B fb m nv acc N w1 (hst.fr f1 (fun h => h) (fun _ _ h => h)) (by omega) (Nat.le_trans hB f1.size))
  clear hst hlen hB hvs hVK ho hk hn ht hfit hR f1 hkz
  go_enter Try.func42, Try.ntmps42
  go_upto_region 1 with fail
  rw [← hw1]
  clear hw1
  obtain ⟨vb, hvb⟩ : ∃ vb, w.heap.size + 1 = vb := ⟨_, rfl⟩
  rw [hvb] at v1 ⊢
  clear hvb
  obtain ⟨c0, c1, c2, c3⟩ := cell_of_four q1
  obtain ⟨d0, d1, d2, d3⟩ := cell_of_four v1
  clear q1 v1
  go_wp2_with fail
  refine HADD.out.mono ?_
  rintro e w2 ⟨rfl, nv', h2, f2, hv2⟩
  have H2 := Lib.hid (And.intro h2 (And.intro f2 hv2))
  clear h2 f2 hv2 c0 c1 c2 c3 d0 d1 d2 d3
  go_wp2
  go_returns
  refine ⟨rfl, nv', ?_, (H1.out.mono (fun _ _ h => h.elim)).trans H2.out.2.1 (fun _ _ h => h), ?_⟩
  · rw [HE.out]
    exact H2.out.1
  · rcases H2.out.2.2 with h | ⟨g, h, hg⟩
    · exact .inl h
    · exact .inr ⟨g, h, Nat.le_trans H1.out.size hg⟩

set_option maxRecDepth 100000 in
set_option maxHeartbeats 16000000 in
theorem flat_k2 (k : Nat) (m' : Int) (ns : List Txt) (n : Nat) (of : Nat → KT) (hk0 : k = 2) : FlatAt (.mk k m' ns n of) := by
  intro R v vv w T B fb m nv acc hsh hvs hfit hst hR hlen hB
  obtain ⟨N, f, s, c, ov, va, cap, rfl, rfl, hVB, hVK⟩ := vshows_open hvs
  obtain ⟨vn, vo, rfl, hk, hn, ht, ho⟩ := hsh
  obtain ⟨na, nc, rfl, _⟩ := ht.shape
  obtain ⟨a', c', rfl⟩ : ∃ a' c', vo = .slice a' n c' := by
    rcases ho with ⟨rfl, a', c', rfl⟩ | ⟨g, off, cap, hg, rfl, hle, hc⟩
    · exact ⟨a', c', rfl⟩
    · exact ⟨_, cap, rfl⟩
  obtain ⟨hN0, hN1, hf64, hsl, hc5⟩ := hVB
  subst hk0
  have hc0 : c = 0 := by
    have h := hfit
    rw [fitsE, if_neg (by omega), if_neg (by omega), if_pos rfl] at h
    rw [Bool.and_eq_true] at h
    have h2 := h.2
    unfold zeroV at h2
    rw [sameV] at h2
    simp only [Bool.and_eq_true, decide_eq_true_eq] at h2
    exact h2.1.2
  have HE : Hid (flE (.mk 2 m' ns n of) (.mk N f s c ov) = [N]) := Lib.hid (by have := hc0; subst this; rw [flE, if_neg (by omega), if_neg (by omega), if_neg (by omega), if_pos (by omega)]; rfl)
  subst hc0
  have HST := Lib.hid hst
  have HLEN := Lib.hid hlen
  unfold sv
  obtain ⟨kz, hkz⟩ : ∃ kz : Int, ((2 : Nat) : Int) = kz := ⟨_, rfl⟩
  rw [hkz]
  have e0 : (kz == 0) = false := by simp; omega
  have e1 : (kz == 1) = false := by simp; omega
  have e2 : (kz == 2) = true := by simp; omega
  have e7 : (kz == 7) = false := by simp; omega
  have e3 : (kz == 3) = false := by simp; omega
  have e4 : (kz == 4) = false := by simp; omega
  have e5 : (kz == 5) = false := by simp; omega
  have e6 : (kz == 6) = false := by simp; omega
  have e8 : (kz == 8) = false := by simp; omega
  obtain ⟨w1, hw1⟩ : ∃ w1, w1 = (w.alloc (.cells #[.int .u8 kz, .int .i64 m', .slice na ns.length nc, .slice a' n c'] 36)).alloc (.cells #[.int .i64 N, .float .f64 f, .string ⟨s.toArray⟩, .slice va 0 cap] 44) := ⟨_, rfl⟩
  have f1 : Fr (fun _ => False) w w1 := by rw [hw1]; exact ((Fr.refl _ _).alloc _).alloc _
  have q1 : w1.heap[w.heap.size]? = some (.cells #[.int .u8 kz, .int .i64 m', .slice na ns.length nc, .slice a' n c'] 36 (0, 0)) := by rw [hw1]; exact heap_alloc_first _ _ _
  have v1 : w1.heap[w.heap.size + 1]? = some (.cells #[.int .i64 N, .float .f64 f, .string ⟨s.toArray⟩, .slice va 0 cap] 44 (0, 0)) := by rw [hw1]; exact heap_alloc_two _ _ _
  have H1 := Lib.hid f1
  have HADD := Lib.hid (add_any B fb m nv acc N w1 (hst.fr f1 (fun h => h) (fun _ _ h => h)) (by omega) (Nat.le_trans hB f1.size))
  clear hst hlen hB hvs hVK ho hk hn ht hfit hR f1 hkz
  go_enter Try.func42, Try.ntmps42
  go_upto_region 1 with fail
  rw [← hw1]
  clear hw1
  obtain ⟨vb, hvb⟩ : ∃ vb, w.heap.size + 1 = vb := ⟨_, rfl⟩
  rw [hvb] at v1 ⊢
  clear hvb
  obtain ⟨c0, c1, c2, c3⟩ := cell_of_four q1
  obtain ⟨d0, d1, d2, d3⟩ := cell_of_four v1
  clear q1 v1
  go_wp2_with fail
  refine HADD.out.mono ?_
  rintro e w2 ⟨rfl, nv', h2, f2, hv2⟩
  have H2 := Lib.hid (And.intro h2 (And.intro f2 hv2))
  clear h2 f2 hv2 c0 c1 c2 c3 d0 d1 d2 d3
  go_wp2
  go_returns
  refine ⟨rfl, nv', ?_, (H1.out.mono (fun _ _ h => h.elim)).trans H2.out.2.1 (fun _ _ h => h), ?_⟩
  · rw [HE.out]
    exact H2.out.1
  · rcases H2.out.2.2 with h | ⟨g, h, hg⟩
    · exact .inl h
    · exact .inr ⟨g, h, Nat.le_trans H1.out.size hg⟩

set_option maxRecDepth 100000 in
set_option maxHeartbeats 16000000 in
theorem flat_k7 (k : Nat) (m' : Int) (ns : List Txt) (n : Nat) (of : Nat → KT) (hk0 : k = 7) : FlatAt (.mk k m' ns n of) := by
  intro R v vv w T B fb m nv acc hsh hvs hfit hst hR hlen hB
  obtain ⟨N, f, s, c, ov, va, cap, rfl, rfl, hVB, hVK⟩ := vshows_open hvs
  obtain ⟨vn, vo, rfl, hk, hn, ht, ho⟩ := hsh
  obtain ⟨na, nc, rfl, _⟩ := ht.shape
  obtain ⟨a', c', rfl⟩ : ∃ a' c', vo = .slice a' n c' := by
    rcases ho with ⟨rfl, a', c', rfl⟩ | ⟨g, off, cap, hg, rfl, hle, hc⟩
    · exact ⟨a', c', rfl⟩
    · exact ⟨_, cap, rfl⟩
  obtain ⟨hN0, hN1, hf64, hsl, hc5⟩ := hVB
  subst hk0
  have hc0 : c = 0 := by
    have h := hfit
    rw [fitsE, if_neg (by omega), if_neg (by omega), if_neg (by omega), if_neg (by omega), if_neg (by omega), if_pos rfl] at h
    rw [Bool.and_eq_true] at h
    have h2 := h.2
    unfold zeroV at h2
    rw [sameV] at h2
    simp only [Bool.and_eq_true, decide_eq_true_eq] at h2
    exact h2.1.2
  have HE : Hid (flE (.mk 7 m' ns n of) (.mk N f s c ov) = [N]) := Lib.hid (by have := hc0; subst this; rw [flE, if_neg (by omega), if_neg (by omega), if_neg (by omega), if_pos (by omega)]; rfl)
  subst hc0
  have HST := Lib.hid hst
  have HLEN := Lib.hid hlen
  unfold sv
  obtain ⟨kz, hkz⟩ : ∃ kz : Int, ((7 : Nat) : Int) = kz := ⟨_, rfl⟩
  rw [hkz]
  have e0 : (kz == 0) = false := by simp; omega
  have e1 : (kz == 1) = false := by simp; omega
  have e2 : (kz == 2) = false := by simp; omega
  have e7 : (kz == 7) = true := by simp; omega
  have e3 : (kz == 3) = false := by simp; omega
  have e4 : (kz == 4) = false := by simp; omega
  have e5 : (kz == 5) = false := by simp; omega
  have e6 : (kz == 6) = false := by simp; omega
  have e8 : (kz == 8) = false := by simp; omega
  obtain ⟨w1, hw1⟩ : ∃ w1, w1 = (w.alloc (.cells #[.int .u8 kz, .int .i64 m', .slice na ns.length nc, .slice a' n c'] 36)).alloc (.cells #[.int .i64 N, .float .f64 f, .string ⟨s.toArray⟩, .slice va 0 cap] 44) := ⟨_, rfl⟩
  have f1 : Fr (fun _ => False) w w1 := by rw [hw1]; exact ((Fr.refl _ _).alloc _).alloc _
  have q1 : w1.heap[w.heap.size]? = some (.cells #[.int .u8 kz, .int .i64 m', .slice na ns.length nc, .slice a' n c'] 36 (0, 0)) := by rw [hw1]; exact heap_alloc_first _ _ _
  have v1 : w1.heap[w.heap.size + 1]? = some (.cells #[.int .i64 N, .float .f64 f, .string ⟨s.toArray⟩, .slice va 0 cap] 44 (0, 0)) := by rw [hw1]; exact heap_alloc_two _ _ _
  have H1 := Lib.hid f1
  have HADD := Lib.hid (add_any B fb m nv acc N w1 (hst.fr f1 (fun h => h) (fun _ _ h => h)) (by omega) (Nat.le_trans hB f1.size))
  clear hst hlen hB hvs hVK ho hk hn ht hfit hR f1 hkz
  go_enter Try.func42, Try.ntmps42
  go_upto_region 1 with fail
  rw [← hw1]
  clear hw1
  obtain ⟨vb, hvb⟩ : ∃ vb, w.heap.size + 1 = vb := ⟨_, rfl⟩
  rw [hvb] at v1 ⊢
  clear hvb
  obtain ⟨c0, c1, c2, c3⟩ := cell_of_four q1
  obtain ⟨d0, d1, d2, d3⟩ := cell_of_four v1
  clear q1 v1
  go_wp2_with fail
  refine HADD.out.mono ?_
  rintro e w2 ⟨rfl, nv', h2, f2, hv2⟩
  have H2 := Lib.hid (And.intro h2 (And.intro f2 hv2))
  clear h2 f2 hv2 c0 c1 c2 c3 d0 d1 d2 d3
  go_wp2
  go_returns
  refine ⟨rfl, nv', ?_, (H1.out.mono (fun _ _ h => h.elim)).trans H2.out.2.1 (fun _ _ h => h), ?_⟩
  · rw [HE.out]
    exact H2.out.1
  · rcases H2.out.2.2 with h | ⟨g, h, hg⟩
    · exact .inl h
    · exact .inr ⟨g, h, Nat.le_trans H1.out.size hg⟩

set_option maxRecDepth 100000 in
set_option maxHeartbeats 16000000 in
theorem flat_k3 (k : Nat) (m' : Int) (ns : List Txt) (n : Nat) (of : Nat → KT) (hk0 : k = 3) : FlatAt (.mk k m' ns n of) := by
  intro R v vv w T B fb m nv acc hsh hvs hfit hst hR hlen hB
  obtain ⟨N, f, s, c, ov, va, cap, rfl, rfl, hVB, hVK⟩ := vshows_open hvs
  obtain ⟨vn, vo, rfl, hk, hn, ht, ho⟩ := hsh
  obtain ⟨na, nc, rfl, _⟩ := ht.shape
  obtain ⟨a', c', rfl⟩ : ∃ a' c', vo = .slice a' n c' := by
    rcases ho with ⟨rfl, a', c', rfl⟩ | ⟨g, off, cap, hg, rfl, hle, hc⟩
    · exact ⟨a', c', rfl⟩
    · exact ⟨_, cap, rfl⟩
  obtain ⟨hN0, hN1, hf64, hsl, hc5⟩ := hVB
  subst hk0
  have HE : Hid (flE (.mk 3 m' ns n of) (.mk N f s c ov) = [(Fl.whole f)]) := Lib.hid (by rw [flE, if_pos rfl])
  skip
  have HST := Lib.hid hst
  have HLEN := Lib.hid hlen
  unfold sv
  obtain ⟨kz, hkz⟩ : ∃ kz : Int, ((3 : Nat) : Int) = kz := ⟨_, rfl⟩
  rw [hkz]
  have e0 : (kz == 0) = false := by simp; omega
  have e1 : (kz == 1) = false := by simp; omega
  have e2 : (kz == 2) = false := by simp; omega
  have e7 : (kz == 7) = false := by simp; omega
  have e3 : (kz == 3) = true := by simp; omega
  have e4 : (kz == 4) = false := by simp; omega
  have e5 : (kz == 5) = false := by simp; omega
  have e6 : (kz == 6) = false := by simp; omega
  have e8 : (kz == 8) = false := by simp; omega
  obtain ⟨w1, hw1⟩ : ∃ w1, w1 = (w.alloc (.cells #[.int .u8 kz, .int .i64 m', .slice na ns.length nc, .slice a' n c'] 36)).alloc (.cells #[.int .i64 N, .float .f64 f, .string ⟨s.toArray⟩, .slice va c cap] 44) := ⟨_, rfl⟩
  have f1 : Fr (fun _ => False) w w1 := by rw [hw1]; exact ((Fr.refl _ _).alloc _).alloc _
  have q1 : w1.heap[w.heap.size]? = some (.cells #[.int .u8 kz, .int .i64 m', .slice na ns.length nc, .slice a' n c'] 36 (0, 0)) := by rw [hw1]; exact heap_alloc_first _ _ _
  have v1 : w1.heap[w.heap.size + 1]? = some (.cells #[.int .i64 N, .float .f64 f, .string ⟨s.toArray⟩, .slice va c cap] 44 (0, 0)) := by rw [hw1]; exact heap_alloc_two _ _ _
  have H1 := Lib.hid f1
  have HADD := Lib.hid (add_any B fb m nv acc (Fl.whole f) w1 (hst.fr f1 (fun h => h) (fun _ _ h => h)) (by omega) (Nat.le_trans hB f1.size))
  clear hst hlen hB hvs hVK ho hk hn ht hfit hR f1 hkz
  go_enter Try.func42, Try.ntmps42
  go_upto_region 1 with fail
  rw [← hw1]
  clear hw1
  obtain ⟨vb, hvb⟩ : ∃ vb, w.heap.size + 1 = vb := ⟨_, rfl⟩
  rw [hvb] at v1 ⊢
  clear hvb
  obtain ⟨c0, c1, c2, c3⟩ := cell_of_four q1
  obtain ⟨d0, d1, d2, d3⟩ := cell_of_four v1
  clear q1 v1
  go_wp2_with fail
  refine (rwhole_any f hf64 _).mono ?_
  rintro e wz ⟨rfl, rfl⟩
  go_wp2_with fail
  refine HADD.out.mono ?_
  rintro e w2 ⟨rfl, nv', h2, f2, hv2⟩
  have H2 := Lib.hid (And.intro h2 (And.intro f2 hv2))
  clear h2 f2 hv2 c0 c1 c2 c3 d0 d1 d2 d3
  go_wp2
  go_returns
  refine ⟨rfl, nv', ?_, (H1.out.mono (fun _ _ h => h.elim)).trans H2.out.2.1 (fun _ _ h => h), ?_⟩
  · rw [HE.out]
    exact H2.out.1
  · rcases H2.out.2.2 with h | ⟨g, h, hg⟩
    · exact .inl h
    · exact .inr ⟨g, h, Nat.le_trans H1.out.size hg⟩

set_option maxRecDepth 100000 in
set_option maxHeartbeats 16000000 in
theorem flat_k4 (k : Nat) (m' : Int) (ns : List Txt) (n : Nat) (of : Nat → KT) (hk0 : k = 4) : FlatAt (.mk k m' ns n of) := by
  intro R v vv w T B fb m nv acc hsh hvs hfit hst hR hlen hB
  obtain ⟨N, f, s, c, ov, va, cap, rfl, rfl, hVB, hVK⟩ := vshows_open hvs
  obtain ⟨vn, vo, rfl, hk, hn, ht, ho⟩ := hsh
  obtain ⟨na, nc, rfl, _⟩ := ht.shape
  obtain ⟨a', c', rfl⟩ : ∃ a' c', vo = .slice a' n c' := by
    rcases ho with ⟨rfl, a', c', rfl⟩ | ⟨g, off, cap, hg, rfl, hle, hc⟩
    · exact ⟨a', c', rfl⟩
    · exact ⟨_, cap, rfl⟩
  obtain ⟨hN0, hN1, hf64, hsl, hc5⟩ := hVB
  subst hk0
  have HE : Hid (flE (.mk 4 m' ns n of) (.mk N f s c ov) = [(s.length : Int)]) := Lib.hid (by rw [flE, if_neg (by omega), if_pos rfl])
  skip
  have HST := Lib.hid hst
  have HLEN := Lib.hid hlen
  unfold sv
  obtain ⟨kz, hkz⟩ : ∃ kz : Int, ((4 : Nat) : Int) = kz := ⟨_, rfl⟩
  rw [hkz]
  have e0 : (kz == 0) = false := by simp; omega
  have e1 : (kz == 1) = false := by simp; omega
  have e2 : (kz == 2) = false := by simp; omega
  have e7 : (kz == 7) = false := by simp; omega
  have e3 : (kz == 3) = false := by simp; omega
  have e4 : (kz == 4) = true := by simp; omega
  have e5 : (kz == 5) = false := by simp; omega
  have e6 : (kz == 6) = false := by simp; omega
  have e8 : (kz == 8) = false := by simp; omega
  obtain ⟨w1, hw1⟩ : ∃ w1, w1 = (w.alloc (.cells #[.int .u8 kz, .int .i64 m', .slice na ns.length nc, .slice a' n c'] 36)).alloc (.cells #[.int .i64 N, .float .f64 f, .string ⟨s.toArray⟩, .slice va c cap] 44) := ⟨_, rfl⟩
  have f1 : Fr (fun _ => False) w w1 := by rw [hw1]; exact ((Fr.refl _ _).alloc _).alloc _
  have q1 : w1.heap[w.heap.size]? = some (.cells #[.int .u8 kz, .int .i64 m', .slice na ns.length nc, .slice a' n c'] 36 (0, 0)) := by rw [hw1]; exact heap_alloc_first _ _ _
  have v1 : w1.heap[w.heap.size + 1]? = some (.cells #[.int .i64 N, .float .f64 f, .string ⟨s.toArray⟩, .slice va c cap] 44 (0, 0)) := by rw [hw1]; exact heap_alloc_two _ _ _
  have H1 := Lib.hid f1
  have HADD := Lib.hid (add_any B fb m nv acc (s.length : Int) w1 (hst.fr f1 (fun h => h) (fun _ _ h => h)) (by omega) (Nat.le_trans hB f1.size))
  clear hst hlen hB hvs hVK ho hk hn ht hfit hR f1 hkz
  go_enter Try.func42, Try.ntmps42
  go_upto_region 1 with fail
  rw [← hw1]
  clear hw1
  obtain ⟨vb, hvb⟩ : ∃ vb, w.heap.size + 1 = vb := ⟨_, rfl⟩
  rw [hvb] at v1 ⊢
  clear hvb
  obtain ⟨c0, c1, c2, c3⟩ := cell_of_four q1
  obtain ⟨d0, d1, d2, d3⟩ := cell_of_four v1
  clear q1 v1
  go_wp2_with fail
  refine HADD.out.mono ?_
  rintro e w2 ⟨rfl, nv', h2, f2, hv2⟩
  have H2 := Lib.hid (And.intro h2 (And.intro f2 hv2))
  clear h2 f2 hv2 c0 c1 c2 c3 d0 d1 d2 d3
  go_wp2
  go_returns
  refine ⟨rfl, nv', ?_, (H1.out.mono (fun _ _ h => h.elim)).trans H2.out.2.1 (fun _ _ h => h), ?_⟩
  · rw [HE.out]
    exact H2.out.1
  · rcases H2.out.2.2 with h | ⟨g, h, hg⟩
    · exact .inl h
    · exact .inr ⟨g, h, Nat.le_trans H1.out.size hg⟩

end Go.Proofs.Ytedadjlmmnikaaa

/-
  package value: flatten where a value has parts.
-/
namespace Go.Proofs.Ytedadjlmmnikaaa
open Go.RowKit
attribute [local go_sem] run_store_float
set_option linter.unusedVariables false
set_option linter.unusedSimpArgs false

/-- The numbers of the first j parts. -/
def partsF (g : Nat → List Int) (j : Nat) : List Int := ((List.range j).map g).flatten

theorem partsF_succ (g : Nat → List Int) (j : Nat) : partsF g (j + 1) = partsF g j ++ g j := by
  unfold partsF; rw [List.range_succ, List.map_append, List.flatten_append]; simp

theorem partsF_split (g : Nat → List Int) (j c : Nat) (h : j ≤ c) : ∃ r, partsF g c = partsF g j ++ r := by
  induction c with
  | zero => obtain rfl : j = 0 := by omega
            exact ⟨[], by simp⟩
  | succ c ih =>
    by_cases e : j = c + 1
    · subst e; exact ⟨[], by simp⟩
    · obtain ⟨r, hr⟩ := ih (by omega)
      exact ⟨r ++ g c, by rw [partsF_succ, hr, List.append_assoc]⟩

theorem partsF_len (g : Nat → List Int) (b : Nat → Nat) (h : ∀ i, (g i).length ≤ 2 * b i) (j : Nat) : (partsF g j).length ≤ 2 * ((List.range j).map b).sum := by
  induction j with
  | zero => simp [partsF]
  | succ j ih =>
    rw [partsF_succ, List.length_append, List.range_succ, List.map_append, List.sum_append]
    have := h j
    simp only [List.map_cons, List.map_nil, List.sum_cons, List.sum_nil, Nat.add_zero]
    omega

theorem fold_full (m : Int) (l : List Int) : ∀ acc, m ≤ (acc.length : Int) → l.foldl (addE m) acc = acc := by
  induction l with
  | nil => intro acc _; rfl
  | cons x l ih =>
    intro acc h
    rw [List.foldl_cons, show addE m acc x = acc by unfold addE; rw [if_pos h]]
    exact ih acc h

theorem addE_len (m : Int) (acc : List Int) (x : Int) : (addE m acc x).length ≤ acc.length + 1 := by
  unfold addE
  split
  · omega
  · simp

theorem fold_len (m : Int) (l : List Int) : ∀ acc, (l.foldl (addE m) acc).length ≤ acc.length + l.length := by
  induction l with
  | nil => intro acc; simp
  | cons x l ih =>
    intro acc
    rw [List.foldl_cons]
    have := ih (addE m acc x)
    have := addE_len m acc x
    simp only [List.length_cons]
    omega

theorem fl_len (t : KT) : ∀ T, (flE t T).length ≤ 2 * szV T := by
  induction t with
  | nil => intro T; simp [flE]
  | mk k m ns n of ih =>
    intro T
    cases T with
    | nil => simp [flE]
    | mk N f s c ov =>
      rw [flE, szV]
      split
      · simp; omega
      split
      · simp; omega
      rw [List.length_append, List.length_append]
      have h := partsF_len (fun i => flE (of (if k = 6 then i else if k = 8 then N.toNat else 0)) (ov i)) (fun i => szV (ov i)) (fun i => ih _ _) c
      unfold partsF at h
      have h1 : (if k = 5 then [(c : Int)] else []).length + (if k < 3 ∨ 6 < k then [N] else []).length ≤ 1 := by
        split <;> split <;> simp <;> omega
      omega

theorem own_lt {w : World} {B : Nat} {e : TypeId} {size : Nat} {v : Value} {n : Nat} {xs : List Value} (h : w.ownsRow B e size v n xs) : ∀ k, v.ownBlock = some k → k < w.heap.size := by
  intro k hk
  rcases h.2 with ⟨rfl, _⟩ | ⟨g, cap, cur, rfl, _, hg, _⟩
  · simp [Value.ownBlock] at hk
  · have e : g = k := by simpa [Value.ownBlock] using hk
    subst e
    exact (Array.getElem?_eq_some_iff.1 hg).1

/-- What goes on to hold while parts are flattened. -/
def FlIn (B fb : Nat) (w1 : World) (m : Int) (nv nv' : Value) (acc : List Int) (wx : World) : Prop :=
  FlSt B fb wx m nv' acc ∧ Fr (fun k => k = fb ∨ nv.ownBlock = some k) w1 wx ∧ (nv'.ownBlock = nv.ownBlock ∨ ∃ g, nv'.ownBlock = some g ∧ w1.heap.size ≤ g)

theorem FlIn.quiet {B fb : Nat} {w1 wx wy : World} {m : Int} {nv nv' : Value} {acc : List Int} (h : FlIn B fb w1 m nv nv' acc wx) (f : Fr (fun _ => False) wx wy) : FlIn B fb w1 m nv nv' acc wy :=
  ⟨h.1.fr f (fun h => h) (fun _ _ h => h), h.2.1.trans f (fun _ _ h => h.elim), h.2.2⟩

theorem FlIn.next {B fb : Nat} {w1 wx wy : World} {m : Int} {nv nv' nv'' : Value} {acc acc' : List Int} (h : FlIn B fb w1 m nv nv' acc wx) (h1 : FlSt B fb wy m nv'' acc') (f : Fr (fun k => k = fb ∨ nv'.ownBlock = some k) wx wy)
    (ho : nv''.ownBlock = nv'.ownBlock ∨ ∃ g, nv''.ownBlock = some g ∧ wx.heap.size ≤ g) : FlIn B fb w1 m nv nv'' acc' wy := by
  refine ⟨h1, h.2.1.trans f (fun i hi e => ?_), ?_⟩
  · rcases e with e | e
    · exact .inl e
    · rcases h.2.2 with h2 | ⟨g, h2, hg⟩
      · exact .inr (by rw [← h2]; exact e)
      · rw [h2] at e
        have := Option.some.inj e
        omega
  · rcases ho with h3 | ⟨g, h3, hg⟩
    · rw [h3]; exact h.2.2
    · exact .inr ⟨g, h3, Nat.le_trans h.2.1.size hg⟩

/-- Other memory than the flattener's. -/
theorem FlIn.off {B fb : Nat} {w1 wx : World} {m : Int} {nv nv' : Value} {acc : List Int} (h : FlIn B fb w1 m nv nv' acc wx) {k : Nat} (hk : k < w1.heap.size) (h1 : k ≠ fb) (h2 : nv.ownBlock ≠ some k) : nv'.ownBlock ≠ some k := by
  intro e
  rcases h.2.2 with h3 | ⟨g, h3, hg⟩
  · exact h2 (by rw [← h3]; exact e)
  · rw [h3] at e
    have := Option.some.inj e
    omega

/-- What holds while one part is flattened. -/
def FlS (B fb : Nat) (w1 : World) (m : Int) (nv nv' : Value) (acc acc2 : List Int) : List Value → World → Prop
  | [], wx => FlIn B fb w1 m nv nv' acc wx
  | _ :: _, wx => ∃ nv2, FlIn B fb w1 m nv nv2 acc2 wx

theorem FlS.fr {B fb : Nat} {w1 wx : World} {m : Int} {nv nv' : Value} {acc acc2 : List Int} {l : List Value} (h : FlS B fb w1 m nv nv' acc acc2 l wx) : Fr (fun k => k = fb ∨ nv.ownBlock = some k) w1 wx := by
  match l with
  | [] => exact h.2.1
  | _ :: _ => obtain ⟨_, h⟩ := h; exact h.2.1

theorem fits_seq {m : Int} {ns : List Txt} {n : Nat} {of : Nat → KT} {N : Int} {f : Nat} {s : Txt} {c : Nat} {ov : Nat → VT} (h : fitsE (.mk 5 m ns n of) (.mk N f s c ov) = true) : n = 1 ∧ ∀ i, i < c → fitsE (of 0) (ov i) = true := by
  rw [fitsE, if_neg (by omega), if_neg (by omega), if_neg (by omega), if_neg (by omega), if_neg (by omega), if_neg (by omega), if_pos rfl] at h
  simp only [Bool.and_eq_true, decide_eq_true_eq, List.all_eq_true, List.mem_range] at h
  exact ⟨h.1.2.1, h.1.2.2⟩

theorem fits_rec {m : Int} {ns : List Txt} {n : Nat} {of : Nat → KT} {N : Int} {f : Nat} {s : Txt} {c : Nat} {ov : Nat → VT} (h : fitsE (.mk 6 m ns n of) (.mk N f s c ov) = true) : c = n ∧ ∀ i, i < c → fitsE (of i) (ov i) = true := by
  rw [fitsE, if_neg (by omega), if_neg (by omega), if_neg (by omega), if_neg (by omega), if_neg (by omega), if_neg (by omega), if_neg (by omega), if_pos rfl] at h
  simp only [Bool.and_eq_true, decide_eq_true_eq, List.all_eq_true, List.mem_range] at h
  exact ⟨h.1.1, h.1.2⟩

theorem fits_cho {m : Int} {ns : List Txt} {n : Nat} {of : Nat → KT} {N : Int} {f : Nat} {s : Txt} {c : Nat} {ov : Nat → VT} (h : fitsE (.mk 8 m ns n of) (.mk N f s c ov) = true) : (0 ≤ N ∧ N ≤ (n : Int) - 1) ∧ c = 1 ∧ fitsE (of N.toNat) (ov 0) = true := by
  rw [fitsE, if_neg (by omega), if_neg (by omega), if_neg (by omega), if_neg (by omega), if_neg (by omega), if_neg (by omega), if_neg (by omega), if_neg (by omega), if_pos rfl] at h
  simp only [Bool.and_eq_true, decide_eq_true_eq] at h
  exact h.1

theorem sum_le_at (b : Nat → Nat) (j c : Nat) (h : j < c) : ((List.range j).map b).sum + b j ≤ ((List.range c).map b).sum := by
  induction c with
  | zero => omega
  | succ c ih =>
    rw [List.range_succ, List.map_append, List.sum_append]
    simp only [List.map_cons, List.map_nil, List.sum_cons, List.sum_nil, Nat.add_zero]
    by_cases e : j = c
    · subst e; exact Nat.le_refl _
    · have := ih (by omega)
      omega

set_option maxRecDepth 100000 in
set_option maxHeartbeats 32000000 in
theorem flat_k5 (k : Nat) (m' : Int) (ns : List Txt) (n : Nat) (of : Nat → KT) (ih : ∀ i, FlatAt (of i)) (hk0 : k = 5) : FlatAt (.mk k m' ns n of) := by
  intro R0 v vv w T B fb m nv acc hsh0 hvs0 hfit hst hR0 hlen hB
  obtain ⟨R, hRd⟩ : ∃ R : Nat → Prop, R = fun k => R0 k ∧ k < w.heap.size := ⟨_, rfl⟩
  have hR : ∀ k, R k → k ≠ fb ∧ nv.ownBlock ≠ some k := by rw [hRd]; exact fun k h => hR0 k h.1
  have hRw : ∀ k, R k → k < w.heap.size := by rw [hRd]; exact fun k h => h.2
  have hsh : Shows R w _ v := Shows.mono (fun k hk h => by rw [hRd]; exact ⟨h, hk⟩) _ _ hsh0
  have hvs : VShows R w T vv := VShows.mono (fun k hk h => by rw [hRd]; exact ⟨h, hk⟩) _ _ hvs0
  clear hsh0 hvs0 hR0 hRd
  obtain ⟨N, f, s, c, ov, va, cap, rfl, rfl, hVB, hVK⟩ := vshows_open hvs
  obtain ⟨vn, vo, rfl, hk, hn, ht, ho⟩ := hsh
  obtain ⟨na, nc, rfl, _⟩ := ht.shape
  obtain ⟨a', c', rfl, hs⟩ : ∃ a' c', vo = .slice a' n c' ∧ Kids R w of a' n c' := by
    rcases ho with ⟨rfl, a', c', rfl⟩ | ⟨g, off, cap, hg, rfl, hle, hc⟩
    · exact ⟨a', c', rfl, .inl rfl⟩
    · exact ⟨_, cap, rfl, .inr ⟨hle, g, off, hg, rfl, hc⟩⟩
  obtain ⟨hN0, hN1, hf64, hsl, hc5⟩ := hVB
  have hnl : n ≤ 1000 := hn
  subst hk0
  obtain ⟨hn1, hfk⟩ := fits_seq hfit
  have HE : Hid ((flE (.mk 5 m' ns n of) (.mk N f s c ov)).foldl (addE m) acc = (partsF (fun i => flE (of 0) (ov i)) c).foldl (addE m) (addE m acc (c : Int))) := Lib.hid (by rw [flE, if_neg (by omega), if_neg (by omega), if_pos rfl, if_neg (by omega)]; rfl)
  have HCN := Lib.hid hn1; clear hn1
  have HST := Lib.hid hst
  have hsum : ∀ j, j < c → 2 * ((List.range j).map fun i => szV (ov i)).sum + 2 * szV (ov j) + 2 ≤ 2 * szV (.mk N f s c ov) := by
    intro j hj
    have h := sum_le_at (fun i => szV (ov i)) j c hj
    rw [szV]
    omega
  have HLEN := Lib.hid (And.intro hlen hsum)
  have HFK := Lib.hid hfk
  have HS := Lib.hid hs
  have HVK := Lib.hid hVK
  have HR := Lib.hid (And.intro hR hRw)
  have HOWN := Lib.hid (own_lt hst.2.1)
  have HBW := Lib.hid hB
  have hfbl : fb < w.heap.size := lt_of_block hst.1
  unfold sv
  obtain ⟨kz, hkz⟩ : ∃ kz : Int, ((5 : Nat) : Int) = kz := ⟨_, rfl⟩
  rw [hkz]
  have e0 : (kz == 0) = false := by simp; omega
  have e1 : (kz == 1) = false := by simp; omega
  have e2 : (kz == 2) = false := by simp; omega
  have e7 : (kz == 7) = false := by simp; omega
  have e3 : (kz == 3) = false := by simp; omega
  have e4 : (kz == 4) = false := by simp; omega
  have e5 : (kz == 5) = true := by simp; omega
  have e6 : (kz == 6) = false := by simp; omega
  have e8 : (kz == 8) = false := by simp; omega
  obtain ⟨w1, hw1⟩ : ∃ w1, w1 = (w.alloc (.cells #[.int .u8 kz, .int .i64 m', .slice na ns.length nc, .slice a' n c'] 36)).alloc (.cells #[.int .i64 N, .float .f64 f, .string ⟨s.toArray⟩, .slice va c cap] 44) := ⟨_, rfl⟩
  have f1 : Fr (fun _ => False) w w1 := by rw [hw1]; exact ((Fr.refl _ _).alloc _).alloc _
  have q1 : w1.heap[w.heap.size]? = some (.cells #[.int .u8 kz, .int .i64 m', .slice na ns.length nc, .slice a' n c'] 36 (0, 0)) := by rw [hw1]; exact heap_alloc_first _ _ _
  have v1 : w1.heap[w.heap.size + 1]? = some (.cells #[.int .i64 N, .float .f64 f, .string ⟨s.toArray⟩, .slice va c cap] 44 (0, 0)) := by rw [hw1]; exact heap_alloc_two _ _ _
  have hst1 := hst.fr f1 (fun h => h) (fun _ _ h => h)
  have HSZ1 := Lib.hid f1.size
  clear hst hlen hB hvs hVK hs ho hk hn ht hfit hfk hR hRw hsum hkz
  go_enter Try.func42, Try.ntmps42
  go_upto_region 1 with fail
  rw [← hw1]
  clear hw1
  obtain ⟨vb, hvb⟩ : ∃ vb, w.heap.size + 1 = vb := ⟨_, rfl⟩
  rw [hvb] at v1 ⊢
  obtain ⟨tb, htb⟩ : ∃ tb, w.heap.size = tb := ⟨_, rfl⟩
  rw [htb] at q1 hfbl hvb ⊢
  have hvbl : vb < w1.heap.size := lt_of_block v1
  obtain ⟨c0, c1, c2, c3⟩ := cell_of_four q1
  obtain ⟨d0, d1, d2, d3⟩ := cell_of_four v1
  have H1 := Lib.hid (And.intro f1 (And.intro q1 (And.intro v1 (And.intro htb (And.intro hvb (And.intro hfbl hvbl))))))
  have HOFF : Hid (∀ k, k = tb ∨ k = vb → k ≠ fb ∧ nv.ownBlock ≠ some k) := Lib.hid (by
    intro k hk
    refine ⟨by omega, fun e => ?_⟩
    have := HOWN.out k e
    omega)
  clear f1 q1 v1 htb hvb hfbl hvbl
  have hadd := add_any B fb m nv acc (c : Int) w1 hst1 (by have := HLEN.out.1; omega) (Nat.le_trans HBW.out HSZ1.out)
  clear hst1
  go_wp2_with fail
  refine hadd.mono ?_
  rintro e w2 ⟨rfl, nv1, hst2, f2, hv2⟩
  have H2 : Hid (FlIn B fb w1 m nv nv1 (addE m acc (c : Int)) w2) := Lib.hid ⟨hst2, f2, hv2⟩
  clear hadd hst2 f2 hv2 c0 c1 c2 c3 d0 d1 d2 d3
  go_wp2
  go_loopg [6] c (fun G u6 wr => ∃ (j : Nat) (nv' : Value), j ≤ c ∧ G = c - j ∧ u6 = .int .i64 j ∧ Hid (FlIn B fb w1 m nv nv' ((partsF (fun i => flE (of (0)) (ov i)) j).foldl (addE m) (addE m acc (c : Int))) wr))
  case atStart => exact ⟨0, nv1, Nat.zero_le _, rfl, by go_num, H2⟩
  case round =>
    obtain ⟨j, nv', hj, rfl, rfl, HI⟩ := hrel
    have hoffv : ¬ (vb = fb ∨ nv.ownBlock = some vb) := fun h => by have hh := HOFF.out vb (.inr rfl); rcases h with h | h; exact hh.1 h; exact hh.2 h
    have d3 := cells_row (box_kept H1.out.2.2.1 HI.out.2.1 hoffv) 3 _ rfl
    have hend : ∀ (wz : World), FlIn B fb w1 m nv nv' ((partsF (fun i => flE (of (0)) (ov i)) j).foldl (addE m) (addE m acc (c : Int))) wz → ((partsF (fun i => flE (of (0)) (ov i)) j).foldl (addE m) (addE m acc (c : Int)) = (partsF (fun i => flE (of 0) (ov i)) c).foldl (addE m) (addE m acc (c : Int))) → ∃ nv2, FlSt B fb wz m nv2 ((flE (.mk 5 m' ns n of) (.mk N f s c ov)).foldl (addE m) acc) ∧ Fr (fun k => k = fb ∨ nv.ownBlock = some k) w wz ∧ (nv2.ownBlock = nv.ownBlock ∨ ∃ g, nv2.ownBlock = some g ∧ w.heap.size ≤ g) := by
      intro wz h e
      refine ⟨nv', ?_, (H1.out.1.mono (fun _ _ h => h.elim)).trans h.2.1 (fun _ _ h => h), ?_⟩
      · rw [HE.out, ← e]; exact h.1
      · rcases h.2.2 with h | ⟨g, h, hg⟩
        · exact .inl h
        · exact .inr ⟨g, h, Nat.le_trans HSZ1.out hg⟩
    have HEND := Lib.hid hend
    clear hend hoffv
    by_cases hlt : j < c
    · have hfull := full_any B fb m nv' _ wr HI.out.1
      have jc : (j : Int) < (c : Int) := by omega
      by_cases hm : m ≤ ((((partsF (fun i => flE (of (0)) (ov i)) j).foldl (addE m) (addE m acc (c : Int))).length : Nat) : Int)
      · rw [decide_eq_true hm] at hfull
        have HM := Lib.hid hm
        clear hm
        go_wp2_with fail
        refine hfull.mono ?_
        rintro e w3 ⟨rfl, f3⟩
        have F3 := Lib.hid f3
        clear f3 hfull d3
        go_wp2
        go_returns
        refine ⟨rfl, HEND.out _ (HI.out.quiet F3.out) ?_⟩
        obtain ⟨r, hr⟩ := partsF_split (fun i => flE (of (0)) (ov i)) j c hj
        rw [hr, List.foldl_append, fold_full m r _ HM.out]
      · rw [decide_eq_false hm] at hfull
        clear hm
        have HLT := Lib.hid hlt
        rcases HS.out with hz | ⟨hcap, g, off, hg, rfl, hcell⟩
        · (try have := HCN.out); omega
        rcases HVK.out with hz | ⟨hvcap, gv, ov', hgv, rfl, hvcell⟩
        · omega
        obtain ⟨x0, x1, x2, x3, y0, y1, y2, y3, hx⟩ := hcell 0 (by have := HCN.out; omega)
        obtain ⟨s0, s1, s2, s3, r0, r1, r2, r3, hsv⟩ := hvcell j (hlt)
        obtain ⟨xk, xm, xa, xn, xc, xa', xn', xc', rfl, rfl, rfl, rfl⟩ := hx.cells
        obtain ⟨zn, zf, zs, za, zc, zcap, es⟩ := hsv.lit
        simp only [Value.agg.injEq, Array.mk.injEq, List.cons.injEq, and_true] at es
        obtain ⟨rfl, rfl, rfl, rfl⟩ := es
        simp only [Nat.zero_mul, Nat.add_zero] at y0 y1 y2 y3
        have HY := Lib.hid (And.intro hg (And.intro y0 (And.intro y1 (And.intro y2 y3))))
        have HZ := Lib.hid (And.intro hgv (And.intro r0 (And.intro r1 (And.intro r2 r3))))
        have HX := Lib.hid (And.intro hx hsv)
        clear hcell hvcell hx hsv y0 y1 y2 y3 r0 r1 r2 r3
        have jn : 0 < n := by have := HCN.out; omega
        go_wp2_with fail
        refine hfull.mono ?_
        rintro e w3 ⟨rfl, f3⟩
        have H3 : Hid (FlIn B fb w1 m nv nv' ((partsF (fun i => flE (of (0)) (ov i)) j).foldl (addE m) (addE m acc (c : Int))) w3) := Lib.hid (HI.out.quiet f3)
        clear f3 hfull d3
        go_upto_region 16 with fail
        refine wp_region_chain (by kernel_rfl) [some 52, some 53, some 54, some 55, some 56, some 57, some 58, some 59, some 60, some 61, some 62] rfl (by decide) (by intro d hd; simp at hd ⊢; omega)
          [10] (FlS B fb w1 m nv nv' ((partsF (fun i => flE (of (0)) (ov i)) j).foldl (addE m) (addE m acc (c : Int))) ((flE (of 0) (ov j)).foldl (addE m) ((partsF (fun i => flE (of (0)) (ov i)) j).foldl (addE m) (addE m acc (c : Int)))))
          [.free (.pointer (some ⟨fb, 0, none⟩)), .free (.pointer (some ⟨tb, 3, none⟩)), .free (.slice (some ⟨g, off, none⟩) n c'), .free (.pointer (some ⟨g, off, none⟩)), .free (.agg #[.int .u8 xk, .int .i64 xm, .slice xa xn xc, .slice xa' xn' xc']), .free (.pointer (some ⟨vb, 3, none⟩)), .free (.slice (some ⟨gv, ov', none⟩) c cap), .free (.int .i64 j), .free (.pointer (some ⟨gv, ov' + j * 4, none⟩)), .free (.agg #[.int .i64 zn, .float .f64 zf, .string zs, .slice za zc zcap]), .link (some (.tuple #[]))]
          (by kernel_rfl) (by kernel_rfl) ?h0 ?step ?fin
        case h0 => exact H3.out.quiet (Fr.refl _ _).drew
        case step =>
          intro vals2
          simp only [frOfU, fillU, List.setIfInBounds_toArray, List.set_cons_succ, List.set_cons_zero]
          repeat' (first | exact AllOps.nil | refine AllOps.cons ?_ ?_)
          all_goals
            intro cvs wx hS he hu hlim K hK
            simp only [Act.put, List.setIfInBounds_toArray, List.set_cons_succ, List.set_cons_zero, List.getD_cons_zero, List.getD_cons_succ] at hK
            simp only [List.mem_cons, List.not_mem_nil, or_false, forall_eq_or_imp, forall_eq, Region.binds, forall_const, vmode_gc, Bool.false_eq_true, false_imp_iff, List.getD_cons_zero, List.getD_cons_succ, OpSort.val, Option.some.injEq, forall_eq', reduceCtorEq, implies_true, true_and, and_true] at he
          all_goals first | (clear hS hlim hu; (try simp only [he] at hK ⊢); go_simp; exact hK) | skip
          · have HSX := Lib.hid hS
            clear hS hlim hu
            have l3 := cells_row (box_kept H1.out.2.1 HSX.out.fr (fun h => by have hh := HOFF.out tb (.inl rfl); rcases h with h | h; exact hh.1 h; exact hh.2 h)) 3 _ rfl
            simp only [he] at hK ⊢
            go_simp
            exact hK
          · have HSX := Lib.hid hS
            clear hS hlim hu
            have r0 := cell_fr HSX.out.fr (fun k hk h => by rcases h with h | h; exact (HR.out.1 k hk).1 h; exact (HR.out.1 k hk).2 h) HY.out.1 (cell_fr H1.out.1 (fun _ _ h => h) HY.out.1 HY.out.2.1)
            have r1 := cell_fr HSX.out.fr (fun k hk h => by rcases h with h | h; exact (HR.out.1 k hk).1 h; exact (HR.out.1 k hk).2 h) HY.out.1 (cell_fr H1.out.1 (fun _ _ h => h) HY.out.1 HY.out.2.2.1)
            have r2 := cell_fr HSX.out.fr (fun k hk h => by rcases h with h | h; exact (HR.out.1 k hk).1 h; exact (HR.out.1 k hk).2 h) HY.out.1 (cell_fr H1.out.1 (fun _ _ h => h) HY.out.1 HY.out.2.2.2.1)
            have r3 := cell_fr HSX.out.fr (fun k hk h => by rcases h with h | h; exact (HR.out.1 k hk).1 h; exact (HR.out.1 k hk).2 h) HY.out.1 (cell_fr H1.out.1 (fun _ _ h => h) HY.out.1 HY.out.2.2.2.2)
            simp only [he] at hK ⊢
            go_simp
            exact hK
          · have HSX := Lib.hid hS
            clear hS hlim hu
            have l3 := cells_row (box_kept H1.out.2.2.1 HSX.out.fr (fun h => by have hh := HOFF.out vb (.inr rfl); rcases h with h | h; exact hh.1 h; exact hh.2 h)) 3 _ rfl
            simp only [he] at hK ⊢
            go_simp
            exact hK
          · have HSX := Lib.hid hS
            clear hS hlim hu
            have r0 := cell_fr HSX.out.fr (fun k hk h => by rcases h with h | h; exact (HR.out.1 k hk).1 h; exact (HR.out.1 k hk).2 h) HZ.out.1 (cell_fr H1.out.1 (fun _ _ h => h) HZ.out.1 HZ.out.2.1)
            have r1 := cell_fr HSX.out.fr (fun k hk h => by rcases h with h | h; exact (HR.out.1 k hk).1 h; exact (HR.out.1 k hk).2 h) HZ.out.1 (cell_fr H1.out.1 (fun _ _ h => h) HZ.out.1 HZ.out.2.2.1)
            have r2 := cell_fr HSX.out.fr (fun k hk h => by rcases h with h | h; exact (HR.out.1 k hk).1 h; exact (HR.out.1 k hk).2 h) HZ.out.1 (cell_fr H1.out.1 (fun _ _ h => h) HZ.out.1 HZ.out.2.2.2.1)
            have r3 := cell_fr HSX.out.fr (fun k hk h => by rcases h with h | h; exact (HR.out.1 k hk).1 h; exact (HR.out.1 k hk).2 h) HZ.out.1 (cell_fr H1.out.1 (fun _ _ h => h) HZ.out.1 HZ.out.2.2.2.2)
            simp only [he] at hK ⊢
            go_simp
            exact hK
          · obtain rfl := hlim (0 : Nat) rfl
            simp only [List.take_zero, List.map_nil] at hS
            have HSX : Hid (FlIn B fb w1 m nv nv' ((partsF (fun i => flE (of (0)) (ov i)) j).foldl (addE m) (addE m acc (c : Int))) wx) := Lib.hid hS
            clear hS hlim hu
            simp only [he] at hK ⊢
            go_simp
            go_at_call 42
            have hoff : ∀ k, R k → ¬ (k = fb ∨ nv.ownBlock = some k) := fun k hk h => by rcases h with h | h; exact (HR.out.1 k hk).1 h; exact (HR.out.1 k hk).2 h
            refine (ih 0 R _ _ wx (ov j) B fb m nv' ((partsF (fun i => flE (of (0)) (ov i)) j).foldl (addE m) (addE m acc (c : Int))) (Shows.fr HSX.out.2.1 hoff _ _ (Shows.fr H1.out.1 (fun _ _ h => h) _ _ HX.out.1)) (VShows.fr HSX.out.2.1 hoff _ _ (VShows.fr H1.out.1 (fun _ _ h => h) _ _ HX.out.2)) (HFK.out j HLT.out) HSX.out.1 (fun k hk => ⟨(HR.out.1 k hk).1, HSX.out.off (by have := HR.out.2 k hk; have := HSZ1.out; omega) (HR.out.1 k hk).1 (HR.out.1 k hk).2⟩) (by have h1 := HLEN.out.1; have h2 := HLEN.out.2 j HLT.out; have h3 := fold_len m (partsF (fun i => flE (of (0)) (ov i)) j) (addE m acc (c : Int)); have h4 := partsF_len (fun i => flE (of (0)) (ov i)) (fun i => szV (ov i)) (fun i => fl_len _ _) j; have h5 := addE_len m acc (c : Int); omega) (Nat.le_trans HBW.out (Nat.le_trans HSZ1.out HSX.out.2.1.size))).mono ?_
            rintro er wa ⟨rfl, nv2, hs2, fa, ho2⟩
            exact hK _ _ (fun _ h => by cases h; rfl) ⟨nv2, HSX.out.next hs2 fa ho2⟩

        case fin =>
          intro vals2 w4 hS hV
          clear hV
          obtain ⟨nv2, h4⟩ : ∃ nv2, FlIn B fb w1 m nv nv2 ((flE (of 0) (ov j)).foldl (addE m) ((partsF (fun i => flE (of (0)) (ov i)) j).foldl (addE m) (addE m acc (c : Int)))) w4 := hS
          have H4 : Hid (FlIn B fb w1 m nv nv2 ((partsF (fun i => flE (of (0)) (ov i)) (j + 1)).foldl (addE m) (addE m acc (c : Int))) w4) := Lib.hid (by rw [partsF_succ, List.foldl_append]; exact h4)
          clear h4
          simp only [frOfU, fillU, List.setIfInBounds_toArray, List.set_cons_succ, List.set_cons_zero]
          go_wp2
          go_roundg (c - (j + 1))
          case measure => have := HLT.out; omega
          case rel => exact ⟨j + 1, nv2, HLT.out, rfl, by go_num, H4⟩
    · obtain rfl : j = c := by omega
      have jc : ¬ (j : Int) < (j : Int) := by omega
      go_wp2
      go_returns
      first | exact ⟨rfl, HEND.out _ HI.out rfl⟩ | exact ⟨rfl, HEND.out _ HI.out trivial⟩

set_option maxRecDepth 100000 in
set_option maxHeartbeats 32000000 in
theorem flat_k6 (k : Nat) (m' : Int) (ns : List Txt) (n : Nat) (of : Nat → KT) (ih : ∀ i, FlatAt (of i)) (hk0 : k = 6) : FlatAt (.mk k m' ns n of) := by
  intro R0 v vv w T B fb m nv acc hsh0 hvs0 hfit hst hR0 hlen hB
  obtain ⟨R, hRd⟩ : ∃ R : Nat → Prop, R = fun k => R0 k ∧ k < w.heap.size := ⟨_, rfl⟩
  have hR : ∀ k, R k → k ≠ fb ∧ nv.ownBlock ≠ some k := by rw [hRd]; exact fun k h => hR0 k h.1
  have hRw : ∀ k, R k → k < w.heap.size := by rw [hRd]; exact fun k h => h.2
  have hsh : Shows R w _ v := Shows.mono (fun k hk h => by rw [hRd]; exact ⟨h, hk⟩) _ _ hsh0
  have hvs : VShows R w T vv := VShows.mono (fun k hk h => by rw [hRd]; exact ⟨h, hk⟩) _ _ hvs0
  clear hsh0 hvs0 hR0 hRd
  obtain ⟨N, f, s, c, ov, va, cap, rfl, rfl, hVB, hVK⟩ := vshows_open hvs
  obtain ⟨vn, vo, rfl, hk, hn, ht, ho⟩ := hsh
  obtain ⟨na, nc, rfl, _⟩ := ht.shape
  obtain ⟨a', c', rfl, hs⟩ : ∃ a' c', vo = .slice a' n c' ∧ Kids R w of a' n c' := by
    rcases ho with ⟨rfl, a', c', rfl⟩ | ⟨g, off, cap, hg, rfl, hle, hc⟩
    · exact ⟨a', c', rfl, .inl rfl⟩
    · exact ⟨_, cap, rfl, .inr ⟨hle, g, off, hg, rfl, hc⟩⟩
  obtain ⟨hN0, hN1, hf64, hsl, hc5⟩ := hVB
  have hnl : n ≤ 1000 := hn
  subst hk0
  obtain ⟨hcn, hfk⟩ := fits_rec hfit
  have HE : Hid ((flE (.mk 6 m' ns n of) (.mk N f s c ov)).foldl (addE m) acc = (partsF (fun i => flE (of i) (ov i)) c).foldl (addE m) acc) := Lib.hid (by rw [flE, if_neg (by omega), if_neg (by omega), if_neg (by omega), if_neg (by omega)]; rfl)
  have HCN := Lib.hid hcn; clear hcn
  have HST := Lib.hid hst
  have hsum : ∀ j, j < c → 2 * ((List.range j).map fun i => szV (ov i)).sum + 2 * szV (ov j) + 2 ≤ 2 * szV (.mk N f s c ov) := by
    intro j hj
    have h := sum_le_at (fun i => szV (ov i)) j c hj
    rw [szV]
    omega
  have HLEN := Lib.hid (And.intro hlen hsum)
  have HFK := Lib.hid hfk
  have HS := Lib.hid hs
  have HVK := Lib.hid hVK
  have HR := Lib.hid (And.intro hR hRw)
  have HOWN := Lib.hid (own_lt hst.2.1)
  have HBW := Lib.hid hB
  have hfbl : fb < w.heap.size := lt_of_block hst.1
  unfold sv
  obtain ⟨kz, hkz⟩ : ∃ kz : Int, ((6 : Nat) : Int) = kz := ⟨_, rfl⟩
  rw [hkz]
  have e0 : (kz == 0) = false := by simp; omega
  have e1 : (kz == 1) = false := by simp; omega
  have e2 : (kz == 2) = false := by simp; omega
  have e7 : (kz == 7) = false := by simp; omega
  have e3 : (kz == 3) = false := by simp; omega
  have e4 : (kz == 4) = false := by simp; omega
  have e5 : (kz == 5) = false := by simp; omega
  have e6 : (kz == 6) = true := by simp; omega
  have e8 : (kz == 8) = false := by simp; omega
  obtain ⟨w1, hw1⟩ : ∃ w1, w1 = (w.alloc (.cells #[.int .u8 kz, .int .i64 m', .slice na ns.length nc, .slice a' n c'] 36)).alloc (.cells #[.int .i64 N, .float .f64 f, .string ⟨s.toArray⟩, .slice va c cap] 44) := ⟨_, rfl⟩
  have f1 : Fr (fun _ => False) w w1 := by rw [hw1]; exact ((Fr.refl _ _).alloc _).alloc _
  have q1 : w1.heap[w.heap.size]? = some (.cells #[.int .u8 kz, .int .i64 m', .slice na ns.length nc, .slice a' n c'] 36 (0, 0)) := by rw [hw1]; exact heap_alloc_first _ _ _
  have v1 : w1.heap[w.heap.size + 1]? = some (.cells #[.int .i64 N, .float .f64 f, .string ⟨s.toArray⟩, .slice va c cap] 44 (0, 0)) := by rw [hw1]; exact heap_alloc_two _ _ _
  have hst1 := hst.fr f1 (fun h => h) (fun _ _ h => h)
  have HSZ1 := Lib.hid f1.size
  clear hst hlen hB hvs hVK hs ho hk hn ht hfit hfk hR hRw hsum hkz
  go_enter Try.func42, Try.ntmps42
  go_upto_region 1 with fail
  rw [← hw1]
  clear hw1
  obtain ⟨vb, hvb⟩ : ∃ vb, w.heap.size + 1 = vb := ⟨_, rfl⟩
  rw [hvb] at v1 ⊢
  obtain ⟨tb, htb⟩ : ∃ tb, w.heap.size = tb := ⟨_, rfl⟩
  rw [htb] at q1 hfbl hvb ⊢
  have hvbl : vb < w1.heap.size := lt_of_block v1
  obtain ⟨c0, c1, c2, c3⟩ := cell_of_four q1
  obtain ⟨d0, d1, d2, d3⟩ := cell_of_four v1
  have H1 := Lib.hid (And.intro f1 (And.intro q1 (And.intro v1 (And.intro htb (And.intro hvb (And.intro hfbl hvbl))))))
  have HOFF : Hid (∀ k, k = tb ∨ k = vb → k ≠ fb ∧ nv.ownBlock ≠ some k) := Lib.hid (by
    intro k hk
    refine ⟨by omega, fun e => ?_⟩
    have := HOWN.out k e
    omega)
  clear f1 q1 v1 htb hvb hfbl hvbl
  have H2 : Hid (FlIn B fb w1 m nv nv acc w1) := Lib.hid ⟨hst1, Fr.refl _ _, .inl rfl⟩
  obtain ⟨nv1, hnv1⟩ : ∃ nv1, nv1 = nv := ⟨_, rfl⟩
  obtain ⟨w2, hw2⟩ : ∃ w2, w2 = w1 := ⟨_, rfl⟩
  rw [← hw2]
  have H2 : Hid (FlIn B fb w1 m nv nv1 acc w2) := Lib.hid (by rw [hnv1, hw2]; exact H2.out)
  have c0 := c0
  rw [← hw2] at c0
  clear hst1 hnv1 c1 c2 c3 d0 d1 d2 d3 hw2
  go_wp2
  go_loopg [7] c (fun G u7 wr => ∃ (j : Nat) (nv' : Value), j ≤ c ∧ G = c - j ∧ u7 = .int .i64 j ∧ Hid (FlIn B fb w1 m nv nv' ((partsF (fun i => flE (of (i)) (ov i)) j).foldl (addE m) (acc)) wr))
  case atStart => exact ⟨0, nv1, Nat.zero_le _, rfl, by go_num, H2⟩
  case round =>
    obtain ⟨j, nv', hj, rfl, rfl, HI⟩ := hrel
    have hoffv : ¬ (vb = fb ∨ nv.ownBlock = some vb) := fun h => by have hh := HOFF.out vb (.inr rfl); rcases h with h | h; exact hh.1 h; exact hh.2 h
    have d3 := cells_row (box_kept H1.out.2.2.1 HI.out.2.1 hoffv) 3 _ rfl
    have hend : ∀ (wz : World), FlIn B fb w1 m nv nv' ((partsF (fun i => flE (of (i)) (ov i)) j).foldl (addE m) (acc)) wz → ((partsF (fun i => flE (of (i)) (ov i)) j).foldl (addE m) (acc) = (partsF (fun i => flE (of i) (ov i)) c).foldl (addE m) acc) → ∃ nv2, FlSt B fb wz m nv2 ((flE (.mk 6 m' ns n of) (.mk N f s c ov)).foldl (addE m) acc) ∧ Fr (fun k => k = fb ∨ nv.ownBlock = some k) w wz ∧ (nv2.ownBlock = nv.ownBlock ∨ ∃ g, nv2.ownBlock = some g ∧ w.heap.size ≤ g) := by
      intro wz h e
      refine ⟨nv', ?_, (H1.out.1.mono (fun _ _ h => h.elim)).trans h.2.1 (fun _ _ h => h), ?_⟩
      · rw [HE.out, ← e]; exact h.1
      · rcases h.2.2 with h | ⟨g, h, hg⟩
        · exact .inl h
        · exact .inr ⟨g, h, Nat.le_trans HSZ1.out hg⟩
    have HEND := Lib.hid hend
    clear hend hoffv
    by_cases hlt : j < c
    · have hfull := full_any B fb m nv' _ wr HI.out.1
      have jc : (j : Int) < (c : Int) := by omega
      by_cases hm : m ≤ ((((partsF (fun i => flE (of (i)) (ov i)) j).foldl (addE m) (acc)).length : Nat) : Int)
      · rw [decide_eq_true hm] at hfull
        have HM := Lib.hid hm
        clear hm
        go_wp2_with fail
        refine hfull.mono ?_
        rintro e w3 ⟨rfl, f3⟩
        have F3 := Lib.hid f3
        clear f3 hfull d3
        go_wp2
        go_returns
        refine ⟨rfl, HEND.out _ (HI.out.quiet F3.out) ?_⟩
        obtain ⟨r, hr⟩ := partsF_split (fun i => flE (of (i)) (ov i)) j c hj
        rw [hr, List.foldl_append, fold_full m r _ HM.out]
      · rw [decide_eq_false hm] at hfull
        clear hm
        have HLT := Lib.hid hlt
        rcases HS.out with hz | ⟨hcap, g, off, hg, rfl, hcell⟩
        · (try have := HCN.out); omega
        rcases HVK.out with hz | ⟨hvcap, gv, ov', hgv, rfl, hvcell⟩
        · omega
        obtain ⟨x0, x1, x2, x3, y0, y1, y2, y3, hx⟩ := hcell j (by have := HCN.out; omega)
        obtain ⟨s0, s1, s2, s3, r0, r1, r2, r3, hsv⟩ := hvcell j (hlt)
        obtain ⟨xk, xm, xa, xn, xc, xa', xn', xc', rfl, rfl, rfl, rfl⟩ := hx.cells
        obtain ⟨zn, zf, zs, za, zc, zcap, es⟩ := hsv.lit
        simp only [Value.agg.injEq, Array.mk.injEq, List.cons.injEq, and_true] at es
        obtain ⟨rfl, rfl, rfl, rfl⟩ := es
        have HY := Lib.hid (And.intro hg (And.intro y0 (And.intro y1 (And.intro y2 y3))))
        have HZ := Lib.hid (And.intro hgv (And.intro r0 (And.intro r1 (And.intro r2 r3))))
        have HX := Lib.hid (And.intro hx hsv)
        clear hcell hvcell hx hsv y0 y1 y2 y3 r0 r1 r2 r3
        have jn : (j : Int) < (n : Int) := by have := HCN.out; omega
        go_wp2_with fail
        refine hfull.mono ?_
        rintro e w3 ⟨rfl, f3⟩
        have H3 : Hid (FlIn B fb w1 m nv nv' ((partsF (fun i => flE (of (i)) (ov i)) j).foldl (addE m) (acc)) w3) := Lib.hid (HI.out.quiet f3)
        clear f3 hfull d3
        go_upto_region 21 with fail
        refine wp_region_chain (by kernel_rfl) [some 77, some 78, some 79, some 80, some 81, some 82, some 83, some 84, some 85, some 86, some 87, some 88] rfl (by decide) (by intro d hd; simp at hd ⊢; omega)
          [11] (FlS B fb w1 m nv nv' ((partsF (fun i => flE (of (i)) (ov i)) j).foldl (addE m) (acc)) ((flE (of j) (ov j)).foldl (addE m) ((partsF (fun i => flE (of (i)) (ov i)) j).foldl (addE m) (acc))))
          [.free (.pointer (some ⟨fb, 0, none⟩)), .free (.pointer (some ⟨tb, 3, none⟩)), .free (.slice (some ⟨g, off, none⟩) n c'), .free (.int .i64 j), .free (.pointer (some ⟨g, off + j * 4, none⟩)), .free (.agg #[.int .u8 xk, .int .i64 xm, .slice xa xn xc, .slice xa' xn' xc']), .free (.pointer (some ⟨vb, 3, none⟩)), .free (.slice (some ⟨gv, ov', none⟩) c cap), .free (.int .i64 j), .free (.pointer (some ⟨gv, ov' + j * 4, none⟩)), .free (.agg #[.int .i64 zn, .float .f64 zf, .string zs, .slice za zc zcap]), .link (some (.tuple #[]))]
          (by kernel_rfl) (by kernel_rfl) ?h0 ?step ?fin
        case h0 => exact H3.out.quiet (Fr.refl _ _).drew
        case step =>
          intro vals2
          simp only [frOfU, fillU, List.setIfInBounds_toArray, List.set_cons_succ, List.set_cons_zero]
          repeat' (first | exact AllOps.nil | refine AllOps.cons ?_ ?_)
          all_goals
            intro cvs wx hS he hu hlim K hK
            simp only [Act.put, List.setIfInBounds_toArray, List.set_cons_succ, List.set_cons_zero, List.getD_cons_zero, List.getD_cons_succ] at hK
            simp only [List.mem_cons, List.not_mem_nil, or_false, forall_eq_or_imp, forall_eq, Region.binds, forall_const, vmode_gc, Bool.false_eq_true, false_imp_iff, List.getD_cons_zero, List.getD_cons_succ, OpSort.val, Option.some.injEq, forall_eq', reduceCtorEq, implies_true, true_and, and_true] at he
          all_goals first | (clear hS hlim hu; (try simp only [he] at hK ⊢); go_simp; exact hK) | skip
          · have HSX := Lib.hid hS
            clear hS hlim hu
            have l3 := cells_row (box_kept H1.out.2.1 HSX.out.fr (fun h => by have hh := HOFF.out tb (.inl rfl); rcases h with h | h; exact hh.1 h; exact hh.2 h)) 3 _ rfl
            simp only [he] at hK ⊢
            go_simp
            exact hK
          · have HSX := Lib.hid hS
            clear hS hlim hu
            have r0 := cell_fr HSX.out.fr (fun k hk h => by rcases h with h | h; exact (HR.out.1 k hk).1 h; exact (HR.out.1 k hk).2 h) HY.out.1 (cell_fr H1.out.1 (fun _ _ h => h) HY.out.1 HY.out.2.1)
            have r1 := cell_fr HSX.out.fr (fun k hk h => by rcases h with h | h; exact (HR.out.1 k hk).1 h; exact (HR.out.1 k hk).2 h) HY.out.1 (cell_fr H1.out.1 (fun _ _ h => h) HY.out.1 HY.out.2.2.1)
            have r2 := cell_fr HSX.out.fr (fun k hk h => by rcases h with h | h; exact (HR.out.1 k hk).1 h; exact (HR.out.1 k hk).2 h) HY.out.1 (cell_fr H1.out.1 (fun _ _ h => h) HY.out.1 HY.out.2.2.2.1)
            have r3 := cell_fr HSX.out.fr (fun k hk h => by rcases h with h | h; exact (HR.out.1 k hk).1 h; exact (HR.out.1 k hk).2 h) HY.out.1 (cell_fr H1.out.1 (fun _ _ h => h) HY.out.1 HY.out.2.2.2.2)
            simp only [he] at hK ⊢
            go_simp
            exact hK
          · have HSX := Lib.hid hS
            clear hS hlim hu
            have l3 := cells_row (box_kept H1.out.2.2.1 HSX.out.fr (fun h => by have hh := HOFF.out vb (.inr rfl); rcases h with h | h; exact hh.1 h; exact hh.2 h)) 3 _ rfl
            simp only [he] at hK ⊢
            go_simp
            exact hK
          · have HSX := Lib.hid hS
            clear hS hlim hu
            have r0 := cell_fr HSX.out.fr (fun k hk h => by rcases h with h | h; exact (HR.out.1 k hk).1 h; exact (HR.out.1 k hk).2 h) HZ.out.1 (cell_fr H1.out.1 (fun _ _ h => h) HZ.out.1 HZ.out.2.1)
            have r1 := cell_fr HSX.out.fr (fun k hk h => by rcases h with h | h; exact (HR.out.1 k hk).1 h; exact (HR.out.1 k hk).2 h) HZ.out.1 (cell_fr H1.out.1 (fun _ _ h => h) HZ.out.1 HZ.out.2.2.1)
            have r2 := cell_fr HSX.out.fr (fun k hk h => by rcases h with h | h; exact (HR.out.1 k hk).1 h; exact (HR.out.1 k hk).2 h) HZ.out.1 (cell_fr H1.out.1 (fun _ _ h => h) HZ.out.1 HZ.out.2.2.2.1)
            have r3 := cell_fr HSX.out.fr (fun k hk h => by rcases h with h | h; exact (HR.out.1 k hk).1 h; exact (HR.out.1 k hk).2 h) HZ.out.1 (cell_fr H1.out.1 (fun _ _ h => h) HZ.out.1 HZ.out.2.2.2.2)
            simp only [he] at hK ⊢
            go_simp
            exact hK
          · obtain rfl := hlim (0 : Nat) rfl
            simp only [List.take_zero, List.map_nil] at hS
            have HSX : Hid (FlIn B fb w1 m nv nv' ((partsF (fun i => flE (of (i)) (ov i)) j).foldl (addE m) (acc)) wx) := Lib.hid hS
            clear hS hlim hu
            simp only [he] at hK ⊢
            go_simp
            go_at_call 42
            have hoff : ∀ k, R k → ¬ (k = fb ∨ nv.ownBlock = some k) := fun k hk h => by rcases h with h | h; exact (HR.out.1 k hk).1 h; exact (HR.out.1 k hk).2 h
            refine (ih j R _ _ wx (ov j) B fb m nv' ((partsF (fun i => flE (of (i)) (ov i)) j).foldl (addE m) (acc)) (Shows.fr HSX.out.2.1 hoff _ _ (Shows.fr H1.out.1 (fun _ _ h => h) _ _ HX.out.1)) (VShows.fr HSX.out.2.1 hoff _ _ (VShows.fr H1.out.1 (fun _ _ h => h) _ _ HX.out.2)) (HFK.out j HLT.out) HSX.out.1 (fun k hk => ⟨(HR.out.1 k hk).1, HSX.out.off (by have := HR.out.2 k hk; have := HSZ1.out; omega) (HR.out.1 k hk).1 (HR.out.1 k hk).2⟩) (by have h1 := HLEN.out.1; have h2 := HLEN.out.2 j HLT.out; have h3 := fold_len m (partsF (fun i => flE (of (i)) (ov i)) j) (acc); have h4 := partsF_len (fun i => flE (of (i)) (ov i)) (fun i => szV (ov i)) (fun i => fl_len _ _) j; omega) (Nat.le_trans HBW.out (Nat.le_trans HSZ1.out HSX.out.2.1.size))).mono ?_
            rintro er wa ⟨rfl, nv2, hs2, fa, ho2⟩
            exact hK _ _ (fun _ h => by cases h; rfl) ⟨nv2, HSX.out.next hs2 fa ho2⟩

        case fin =>
          intro vals2 w4 hS hV
          clear hV
          obtain ⟨nv2, h4⟩ : ∃ nv2, FlIn B fb w1 m nv nv2 ((flE (of j) (ov j)).foldl (addE m) ((partsF (fun i => flE (of (i)) (ov i)) j).foldl (addE m) (acc))) w4 := hS
          have H4 : Hid (FlIn B fb w1 m nv nv2 ((partsF (fun i => flE (of (i)) (ov i)) (j + 1)).foldl (addE m) (acc)) w4) := Lib.hid (by rw [partsF_succ, List.foldl_append]; exact h4)
          clear h4
          simp only [frOfU, fillU, List.setIfInBounds_toArray, List.set_cons_succ, List.set_cons_zero]
          go_wp2
          go_roundg (c - (j + 1))
          case measure => have := HLT.out; omega
          case rel => exact ⟨j + 1, nv2, HLT.out, rfl, by go_num, H4⟩
    · obtain rfl : j = c := by omega
      have jc : ¬ (j : Int) < (j : Int) := by omega
      go_wp2
      go_returns
      first | exact ⟨rfl, HEND.out _ HI.out rfl⟩ | exact ⟨rfl, HEND.out _ HI.out trivial⟩

set_option maxRecDepth 100000 in
set_option maxHeartbeats 32000000 in
theorem flat_k8 (k : Nat) (m' : Int) (ns : List Txt) (n : Nat) (of : Nat → KT) (ih : ∀ i, FlatAt (of i)) (hk0 : k = 8) : FlatAt (.mk k m' ns n of) := by
  intro R0 v vv w T B fb m nv acc hsh0 hvs0 hfit hst hR0 hlen hB
  obtain ⟨R, hRd⟩ : ∃ R : Nat → Prop, R = fun k => R0 k ∧ k < w.heap.size := ⟨_, rfl⟩
  have hR : ∀ k, R k → k ≠ fb ∧ nv.ownBlock ≠ some k := by rw [hRd]; exact fun k h => hR0 k h.1
  have hRw : ∀ k, R k → k < w.heap.size := by rw [hRd]; exact fun k h => h.2
  have hsh : Shows R w _ v := Shows.mono (fun k hk h => by rw [hRd]; exact ⟨h, hk⟩) _ _ hsh0
  have hvs : VShows R w T vv := VShows.mono (fun k hk h => by rw [hRd]; exact ⟨h, hk⟩) _ _ hvs0
  clear hsh0 hvs0 hR0 hRd
  obtain ⟨N, f, s, c, ov, va, cap, rfl, rfl, hVB, hVK⟩ := vshows_open hvs
  obtain ⟨vn, vo, rfl, hk, hn, ht, ho⟩ := hsh
  obtain ⟨na, nc, rfl, _⟩ := ht.shape
  obtain ⟨a', c', rfl, hs⟩ : ∃ a' c', vo = .slice a' n c' ∧ Kids R w of a' n c' := by
    rcases ho with ⟨rfl, a', c', rfl⟩ | ⟨g, off, cap, hg, rfl, hle, hc⟩
    · exact ⟨a', c', rfl, .inl rfl⟩
    · exact ⟨_, cap, rfl, .inr ⟨hle, g, off, hg, rfl, hc⟩⟩
  obtain ⟨hN0, hN1, hf64, hsl, hc5⟩ := hVB
  have hnl : n ≤ 1000 := hn
  subst hk0
  obtain ⟨⟨hx0, hxn⟩, hc1, hfk⟩ := fits_cho hfit
  have HE : Hid ((flE (.mk 8 m' ns n of) (.mk N f s c ov)).foldl (addE m) acc = (flE (of N.toNat) (ov 0)).foldl (addE m) (addE m acc N)) := Lib.hid (by rw [hc1, flE, if_neg (by omega), if_neg (by omega), if_neg (by omega), if_pos (by omega)]; simp)
  subst hc1
  have HST := Lib.hid hst
  have hsum : ∀ j, j < 1 → 2 * ((List.range j).map fun i => szV (ov i)).sum + 2 * szV (ov j) + 2 ≤ 2 * szV (.mk N f s 1 ov) := by
    intro j hj
    have h := sum_le_at (fun i => szV (ov i)) j 1 hj
    rw [szV]
    omega
  have HLEN := Lib.hid (And.intro hlen hsum)
  have HFK := Lib.hid hfk
  have HS := Lib.hid hs
  have HVK := Lib.hid hVK
  have HR := Lib.hid (And.intro hR hRw)
  have HOWN := Lib.hid (own_lt hst.2.1)
  have HBW := Lib.hid hB
  have hfbl : fb < w.heap.size := lt_of_block hst.1
  unfold sv
  obtain ⟨kz, hkz⟩ : ∃ kz : Int, ((8 : Nat) : Int) = kz := ⟨_, rfl⟩
  rw [hkz]
  have e0 : (kz == 0) = false := by simp; omega
  have e1 : (kz == 1) = false := by simp; omega
  have e2 : (kz == 2) = false := by simp; omega
  have e7 : (kz == 7) = false := by simp; omega
  have e3 : (kz == 3) = false := by simp; omega
  have e4 : (kz == 4) = false := by simp; omega
  have e5 : (kz == 5) = false := by simp; omega
  have e6 : (kz == 6) = false := by simp; omega
  have e8 : (kz == 8) = true := by simp; omega
  obtain ⟨w1, hw1⟩ : ∃ w1, w1 = (w.alloc (.cells #[.int .u8 kz, .int .i64 m', .slice na ns.length nc, .slice a' n c'] 36)).alloc (.cells #[.int .i64 N, .float .f64 f, .string ⟨s.toArray⟩, .slice va 1 cap] 44) := ⟨_, rfl⟩
  have f1 : Fr (fun _ => False) w w1 := by rw [hw1]; exact ((Fr.refl _ _).alloc _).alloc _
  have q1 : w1.heap[w.heap.size]? = some (.cells #[.int .u8 kz, .int .i64 m', .slice na ns.length nc, .slice a' n c'] 36 (0, 0)) := by rw [hw1]; exact heap_alloc_first _ _ _
  have v1 : w1.heap[w.heap.size + 1]? = some (.cells #[.int .i64 N, .float .f64 f, .string ⟨s.toArray⟩, .slice va 1 cap] 44 (0, 0)) := by rw [hw1]; exact heap_alloc_two _ _ _
  have hst1 := hst.fr f1 (fun h => h) (fun _ _ h => h)
  have HSZ1 := Lib.hid f1.size
  clear hst hlen hB hvs hVK hs ho hk hn ht hfit hfk hR hRw hsum hkz
  go_enter Try.func42, Try.ntmps42
  go_upto_region 1 with fail
  rw [← hw1]
  clear hw1
  obtain ⟨vb, hvb⟩ : ∃ vb, w.heap.size + 1 = vb := ⟨_, rfl⟩
  rw [hvb] at v1 ⊢
  obtain ⟨tb, htb⟩ : ∃ tb, w.heap.size = tb := ⟨_, rfl⟩
  rw [htb] at q1 hfbl hvb ⊢
  have hvbl : vb < w1.heap.size := lt_of_block v1
  obtain ⟨c0, c1, c2, c3⟩ := cell_of_four q1
  obtain ⟨d0, d1, d2, d3⟩ := cell_of_four v1
  have H1 := Lib.hid (And.intro f1 (And.intro q1 (And.intro v1 (And.intro htb (And.intro hvb (And.intro hfbl hvbl))))))
  have HOFF : Hid (∀ k, k = tb ∨ k = vb → k ≠ fb ∧ nv.ownBlock ≠ some k) := Lib.hid (by
    intro k hk
    refine ⟨by omega, fun e => ?_⟩
    have := HOWN.out k e
    omega)
  clear f1 q1 v1 htb hvb hfbl hvbl
  have hadd := add_any B fb m nv acc N w1 hst1 (by have := HLEN.out.1; omega) (Nat.le_trans HBW.out HSZ1.out)
  clear hst1
  go_wp2_with fail
  refine hadd.mono ?_
  rintro e w2 ⟨rfl, nv1, hst2, f2, hv2⟩
  have H2 : Hid (FlIn B fb w1 m nv nv1 (addE m acc N) w2) := Lib.hid ⟨hst2, f2, hv2⟩
  clear hadd hst2 f2 hv2 c0 c1 c2 c3 d0 d1 d2 d3
  obtain ⟨x, rfl⟩ : ∃ x : Nat, N = (x : Int) := ⟨N.toNat, by omega⟩
  simp only [Int.toNat_natCast] at HE HFK
  have xn0 : (x : Int) < (n : Int) := by omega
  have x00 : (0 : Int) ≤ (x : Int) := by omega
  have hxl : x < n := by omega
  rcases HS.out with hz | ⟨hcap, g, off, hg, rfl, hcell⟩
  · (try have := HCN.out); omega
  rcases HVK.out with hz | ⟨hvcap, gv, ov', hgv, rfl, hvcell⟩
  · omega
  obtain ⟨x0, x1, x2, x3, y0, y1, y2, y3, hx⟩ := hcell x (hxl)
  obtain ⟨s0, s1, s2, s3, r0, r1, r2, r3, hsv⟩ := hvcell 0 (by omega)
  obtain ⟨xk, xm, xa, xn, xc, xa', xn', xc', rfl, rfl, rfl, rfl⟩ := hx.cells
  obtain ⟨zn, zf, zs, za, zc, zcap, es⟩ := hsv.lit
  simp only [Value.agg.injEq, Array.mk.injEq, List.cons.injEq, and_true] at es
  obtain ⟨rfl, rfl, rfl, rfl⟩ := es
  simp only [Nat.zero_mul, Nat.add_zero] at r0 r1 r2 r3
  have HY := Lib.hid (And.intro hg (And.intro y0 (And.intro y1 (And.intro y2 y3))))
  have HZ := Lib.hid (And.intro hgv (And.intro r0 (And.intro r1 (And.intro r2 r3))))
  have HX := Lib.hid (And.intro hx hsv)
  clear hcell hvcell hx hsv y0 y1 y2 y3 r0 r1 r2 r3
  go_upto_region 24 with fail
  refine wp_region_chain (by kernel_rfl) [some 95, some 96, some 97, some 98, some 99, some 100, some 101, some 102, some 103, some 104, some 105, some 106] rfl (by decide) (by intro d hd; simp at hd ⊢; omega)
    [11] (FlS B fb w1 m nv nv1 (addE m acc (x : Int)) ((flE (of x) (ov 0)).foldl (addE m) (addE m acc (x : Int))))
    [.free (.pointer (some ⟨fb, 0, none⟩)), .free (.pointer (some ⟨tb, 3, none⟩)), .free (.slice (some ⟨g, off, none⟩) n c'), .free (.pointer (some ⟨vb, 0, none⟩)), .free (.int .i64 x), .free (.pointer (some ⟨g, off + x * 4, none⟩)), .free (.agg #[.int .u8 xk, .int .i64 xm, .slice xa xn xc, .slice xa' xn' xc']), .free (.pointer (some ⟨vb, 3, none⟩)), .free (.slice (some ⟨gv, ov', none⟩) 1 cap), .free (.pointer (some ⟨gv, ov', none⟩)), .free (.agg #[.int .i64 zn, .float .f64 zf, .string zs, .slice za zc zcap]), .link (some (.tuple #[]))]
    (by kernel_rfl) (by kernel_rfl) ?h0 ?step ?fin
  case h0 => exact H2.out.quiet (Fr.refl _ _).drew
  case step =>
    intro vals2
    simp only [frOfU, fillU, List.setIfInBounds_toArray, List.set_cons_succ, List.set_cons_zero]
    repeat' (first | exact AllOps.nil | refine AllOps.cons ?_ ?_)
    all_goals
      intro cvs wx hS he hu hlim K hK
      simp only [Act.put, List.setIfInBounds_toArray, List.set_cons_succ, List.set_cons_zero, List.getD_cons_zero, List.getD_cons_succ] at hK
      simp only [List.mem_cons, List.not_mem_nil, or_false, forall_eq_or_imp, forall_eq, Region.binds, forall_const, vmode_gc, Bool.false_eq_true, false_imp_iff, List.getD_cons_zero, List.getD_cons_succ, OpSort.val, Option.some.injEq, forall_eq', reduceCtorEq, implies_true, true_and, and_true] at he
    all_goals first | (clear hS hlim hu; (try simp only [he] at hK ⊢); go_simp; exact hK) | skip
    · have HSX := Lib.hid hS
      clear hS hlim hu
      have l3 := cells_row (box_kept H1.out.2.1 HSX.out.fr (fun h => by have hh := HOFF.out tb (.inl rfl); rcases h with h | h; exact hh.1 h; exact hh.2 h)) 3 _ rfl
      simp only [he] at hK ⊢
      go_simp
      exact hK
    · have HSX := Lib.hid hS
      clear hS hlim hu
      have l0 := cells_row (box_kept H1.out.2.2.1 HSX.out.fr (fun h => by have hh := HOFF.out vb (.inr rfl); rcases h with h | h; exact hh.1 h; exact hh.2 h)) 0 _ rfl
      simp only [he] at hK ⊢
      go_simp
      exact hK
    · have HSX := Lib.hid hS
      clear hS hlim hu
      have r0 := cell_fr HSX.out.fr (fun k hk h => by rcases h with h | h; exact (HR.out.1 k hk).1 h; exact (HR.out.1 k hk).2 h) HY.out.1 (cell_fr H1.out.1 (fun _ _ h => h) HY.out.1 HY.out.2.1)
      have r1 := cell_fr HSX.out.fr (fun k hk h => by rcases h with h | h; exact (HR.out.1 k hk).1 h; exact (HR.out.1 k hk).2 h) HY.out.1 (cell_fr H1.out.1 (fun _ _ h => h) HY.out.1 HY.out.2.2.1)
      have r2 := cell_fr HSX.out.fr (fun k hk h => by rcases h with h | h; exact (HR.out.1 k hk).1 h; exact (HR.out.1 k hk).2 h) HY.out.1 (cell_fr H1.out.1 (fun _ _ h => h) HY.out.1 HY.out.2.2.2.1)
      have r3 := cell_fr HSX.out.fr (fun k hk h => by rcases h with h | h; exact (HR.out.1 k hk).1 h; exact (HR.out.1 k hk).2 h) HY.out.1 (cell_fr H1.out.1 (fun _ _ h => h) HY.out.1 HY.out.2.2.2.2)
      simp only [he] at hK ⊢
      go_simp
      exact hK
    · have HSX := Lib.hid hS
      clear hS hlim hu
      have l3 := cells_row (box_kept H1.out.2.2.1 HSX.out.fr (fun h => by have hh := HOFF.out vb (.inr rfl); rcases h with h | h; exact hh.1 h; exact hh.2 h)) 3 _ rfl
      simp only [he] at hK ⊢
      go_simp
      exact hK
    · have HSX := Lib.hid hS
      clear hS hlim hu
      have r0 := cell_fr HSX.out.fr (fun k hk h => by rcases h with h | h; exact (HR.out.1 k hk).1 h; exact (HR.out.1 k hk).2 h) HZ.out.1 (cell_fr H1.out.1 (fun _ _ h => h) HZ.out.1 HZ.out.2.1)
      have r1 := cell_fr HSX.out.fr (fun k hk h => by rcases h with h | h; exact (HR.out.1 k hk).1 h; exact (HR.out.1 k hk).2 h) HZ.out.1 (cell_fr H1.out.1 (fun _ _ h => h) HZ.out.1 HZ.out.2.2.1)
      have r2 := cell_fr HSX.out.fr (fun k hk h => by rcases h with h | h; exact (HR.out.1 k hk).1 h; exact (HR.out.1 k hk).2 h) HZ.out.1 (cell_fr H1.out.1 (fun _ _ h => h) HZ.out.1 HZ.out.2.2.2.1)
      have r3 := cell_fr HSX.out.fr (fun k hk h => by rcases h with h | h; exact (HR.out.1 k hk).1 h; exact (HR.out.1 k hk).2 h) HZ.out.1 (cell_fr H1.out.1 (fun _ _ h => h) HZ.out.1 HZ.out.2.2.2.2)
      simp only [he] at hK ⊢
      go_simp
      exact hK
    · obtain rfl := hlim (0 : Nat) rfl
      simp only [List.take_zero, List.map_nil] at hS
      have HSX : Hid (FlIn B fb w1 m nv nv1 (addE m acc (x : Int)) wx) := Lib.hid hS
      clear hS hlim hu
      simp only [he] at hK ⊢
      go_simp
      go_at_call 42
      have hoff : ∀ k, R k → ¬ (k = fb ∨ nv.ownBlock = some k) := fun k hk h => by rcases h with h | h; exact (HR.out.1 k hk).1 h; exact (HR.out.1 k hk).2 h
      refine (ih x R _ _ wx (ov 0) B fb m nv1 (addE m acc (x : Int)) (Shows.fr HSX.out.2.1 hoff _ _ (Shows.fr H1.out.1 (fun _ _ h => h) _ _ HX.out.1)) (VShows.fr HSX.out.2.1 hoff _ _ (VShows.fr H1.out.1 (fun _ _ h => h) _ _ HX.out.2)) (HFK.out) HSX.out.1 (fun k hk => ⟨(HR.out.1 k hk).1, HSX.out.off (by have := HR.out.2 k hk; have := HSZ1.out; omega) (HR.out.1 k hk).1 (HR.out.1 k hk).2⟩) (by have h1 := HLEN.out.1; have h2 := HLEN.out.2 0 (by omega); have := addE_len m acc (x : Int); omega) (Nat.le_trans HBW.out (Nat.le_trans HSZ1.out HSX.out.2.1.size))).mono ?_
      rintro er wa ⟨rfl, nv2, hs2, fa, ho2⟩
      exact hK _ _ (fun _ h => by cases h; rfl) ⟨nv2, HSX.out.next hs2 fa ho2⟩

  case fin =>
    intro vals2 w3 hS hV
    clear hV
    obtain ⟨nv2, h3⟩ : ∃ nv2, FlIn B fb w1 m nv nv2 ((flE (of x) (ov 0)).foldl (addE m) (addE m acc (x : Int))) w3 := hS
    have H3 := Lib.hid h3
    clear h3
    simp only [frOfU, fillU, List.setIfInBounds_toArray, List.set_cons_succ, List.set_cons_zero]
    go_wp2
    go_returns
    refine ⟨rfl, nv2, ?_, (H1.out.1.mono (fun _ _ h => h.elim)).trans H3.out.2.1 (fun _ _ h => h), ?_⟩
    · rw [HE.out]
      exact H3.out.1
    · rcases H3.out.2.2 with h | ⟨g, h, hg⟩
      · exact .inl h
      · exact .inr ⟨g, h, Nat.le_trans HSZ1.out hg⟩

theorem flat_any (t : KT) : FlatAt t := by
  induction t with
  | nil => exact fun _ _ _ _ _ _ _ _ _ _ h => h.elim
  | mk k m ns n of ih =>
    by_cases h9 : 9 ≤ k
    · intro R v vv w T B fb mm nv acc hsh hvs hfit
      obtain ⟨N, f, s, c, ov, va, cap, rfl, rfl, hVB, hVK⟩ := vshows_open hvs
      rw [fitsE, if_neg (by omega), if_neg (by omega), if_neg (by omega), if_neg (by omega), if_neg (by omega), if_neg (by omega), if_neg (by omega), if_neg (by omega), if_neg (by omega)] at hfit
      cases hfit
    · rcases (by omega : k = 0 ∨ k = 1 ∨ k = 2 ∨ k = 3 ∨ k = 4 ∨ k = 5 ∨ k = 6 ∨ k = 7 ∨ k = 8) with h | h | h | h | h | h | h | h | h
      · exact flat_k0 k m ns n of h
      · exact flat_k1 k m ns n of h
      · exact flat_k2 k m ns n of h
      · exact flat_k3 k m ns n of h
      · exact flat_k4 k m ns n of h
      · exact flat_k5 k m ns n of ih h
      · exact flat_k6 k m ns n of ih h
      · exact flat_k7 k m ns n of h
      · exact flat_k8 k m ns n of ih h

/-- THE FIRST NUMBERS OF A VALUE. -/
def flatE (t : KT) (T : VT) (m : Int) : List Int := (flE t T).foldl (addE m) []

set_option maxRecDepth 100000 in
set_option maxHeartbeats 16000000 in
theorem Flat_any (R : Nat → Prop) (t : KT) (T : VT) (v vv : Value) (w : World) (mz : Int) (hsh0 : Shows R w t v) (hvs0 : VShows R w T vv) (hsz : szV T ≤ 100000) (h0 : isVal t T = true) :
    Calls Try.prog 26 #[v, vv, .int .i64 mz] w fun e w' => ∃ nv, e = .returned nv ∧ w'.ownsRow w.heap.size 2 1 nv (flatE t T mz).length ((flatE t T mz).map (Value.int .i64)) ∧ Fr (fun _ => False) w w' := by
  have hsh : Shows (fun k => k < w.heap.size) w t v := Shows.mono (fun k hk _ => hk) _ _ hsh0
  have hvs : VShows (fun k => k < w.heap.size) w T vv := VShows.mono (fun k hk _ => hk) _ _ hvs0
  obtain ⟨k, m, a, n, c, a', n', c', rfl⟩ := hsh.four
  obtain ⟨N, f, s, va, vc, cap, rfl⟩ := hvs.lit
  obtain ⟨w1, hw1⟩ : ∃ w1, w1 = (w.alloc (.cells #[.int .u8 k, .int .i64 m, .slice a n c, .slice a' n' c'] 36)).alloc (.cells #[.int .i64 N, .float .f64 f, .string s, .slice va vc cap] 44) := ⟨_, rfl⟩
  have f1 : Fr (fun _ => False) w w1 := by rw [hw1]; exact ((Fr.refl _ _).alloc _).alloc _
  have q1 : w1.heap[w.heap.size]? = some (.cells #[.int .u8 k, .int .i64 m, .slice a n c, .slice a' n' c'] 36 (0, 0)) := by rw [hw1]; exact heap_alloc_first _ _ _
  have v1 : w1.heap[w.heap.size + 1]? = some (.cells #[.int .i64 N, .float .f64 f, .string s, .slice va vc cap] 44 (0, 0)) := by rw [hw1]; exact heap_alloc_two _ _ _
  have hchk := vcheck_any _ t T _ _ w1 (Shows.fr f1 (fun _ _ h => h) _ _ hsh) (VShows.fr f1 (fun _ _ h => h) _ _ hvs) hsz
  have hval : valE t T = 0 := by unfold valE; rw [h0]; rfl
  rw [hval] at hchk
  have hfit : fitsE t T = true := by unfold isVal at h0; rw [Bool.and_eq_true] at h0; exact h0.2
  have H1 := Lib.hid (And.intro f1 (And.intro q1 v1))
  have H0 := Lib.hid (And.intro hsh (And.intro hvs (And.intro hsz hfit)))
  clear hsh hvs hsz h0 f1 hsh0 hvs0 hval hfit
  obtain ⟨c0, c1, c2, c3⟩ := cell_of_four q1
  obtain ⟨d0, d1, d2, d3⟩ := cell_of_four v1
  clear q1 v1
  go_enter Try.func26, Try.ntmps26
  go_upto_region 1 with fail
  rw [← hw1]
  clear hw1
  go_wp2_with fail
  refine hchk.mono ?_
  rintro e w2 ⟨rfl, f2⟩
  obtain ⟨w3, hw3⟩ : ∃ w3, w3 = w2.alloc (.cells #[.slice none 0 0, .int .i64 mz] 113) := ⟨_, rfl⟩
  have f3 : Fr (fun _ => False) w2 w3 := by rw [hw3]; exact (Fr.refl _ _).alloc _
  have q3 : w3.heap[w2.heap.size]? = some (.cells #[.slice none 0 0, .int .i64 mz] 113 (0, 0)) := by rw [hw3]; exact heap_alloc_new _ _
  have f03 := (H1.out.1.trans f2 (fun _ _ h => h)).trans f3 (fun _ _ h => h)
  have hsz2 := (H1.out.1.trans f2 (fun _ _ h => h)).size
  have hst : FlSt w.heap.size w2.heap.size w3 mz (.slice none 0 0) [] := ⟨q3, ⟨rfl, .inl ⟨rfl, rfl⟩⟩, fun k hk => by simp [Value.ownBlock] at hk⟩
  have hfl := flat_any t (fun k => k < w.heap.size) _ _ w3 T w.heap.size w2.heap.size mz (.slice none 0 0) [] (Shows.fr f03 (fun _ _ h => h) _ _ H0.out.1) (VShows.fr f03 (fun _ _ h => h) _ _ H0.out.2.1) H0.out.2.2.2 hst (fun k hk => ⟨by omega, by simp [Value.ownBlock]⟩) (by have := H0.out.2.2.1; simp; omega) f03.size
  have t3 := box_kept (box_kept H1.out.2.1 f2 (fun h => h)) f3 (fun h => h)
  have u3 := box_kept (box_kept H1.out.2.2 f2 (fun h => h)) f3 (fun h => h)
  have H3 := Lib.hid (And.intro f03 hsz2)
  clear f2 hchk c0 c1 c2 c3 d0 d1 d2 d3 f3 q3 hst f03 hsz2
  obtain ⟨c0, c1, c2, c3⟩ := cell_of_four t3
  obtain ⟨d0, d1, d2, d3⟩ := cell_of_four u3
  clear t3 u3
  go_upto_region 4 with fail
  rw [← hw3]
  clear hw3
  obtain ⟨fb, hfb⟩ : ∃ fb, w2.heap.size = fb := ⟨_, rfl⟩
  rw [hfb] at hfl H3 ⊢
  clear hfb
  go_wp2_with fail
  refine hfl.mono ?_
  rintro e w4 ⟨rfl, nv, hs4, f4, ho4⟩
  obtain ⟨na, nc, rfl⟩ := slice_of_own hs4.2.1
  have r0 := cells_row hs4.1 0 _ rfl
  have H4 := Lib.hid (And.intro hs4.2.1 (H3.out.1.trans f4 (fun i hi e => by
    have := H3.out.2
    rcases e with e | e
    · omega
    · simp [Value.ownBlock] at e)))
  clear hfl hs4 f4 ho4 c0 c1 c2 c3 d0 d1 d2 d3
  go_wp2
  go_ret
  exact ⟨_, rfl, H4.out.1, H4.out.2⟩

end Go.Proofs.Ytedadjlmmnikaaa

/-
  Pure: a survey of a type of the laws goes through; what is built is a value of the type; what is built of no numbers, or of noughts, has noughts only; the first numbers.
-/
namespace Go.Proofs.Ytedadjlmmnikaaa
open Go.RowKit
set_option linter.unusedVariables false
set_option linter.unusedSimpArgs false

theorem fold_all (m : Int) (l : List Int) : ∀ acc, ((acc.length + l.length : Nat) : Int) ≤ m → l.foldl (addE m) acc = acc ++ l := by
  induction l with
  | nil => intro acc _; simp
  | cons x l ih =>
    intro acc h
    simp only [List.length_cons] at h
    rw [List.foldl_cons, show addE m acc x = acc ++ [x] by unfold addE; rw [if_neg (by omega)], ih _ (by simp; omega)]
    simp

theorem fold_lt (m : Int) (l : List Int) : ∀ acc, (((l.foldl (addE m) acc).length : Nat) : Int) < m → l.foldl (addE m) acc = acc ++ l := by
  induction l with
  | nil => intro acc _; simp
  | cons x l ih =>
    intro acc h
    by_cases hm : m ≤ (acc.length : Int)
    · rw [fold_full m (x :: l) acc hm] at h
      omega
    · rw [List.foldl_cons] at h ⊢
      rw [ih _ h, show addE m acc x = acc ++ [x] by unfold addE; rw [if_neg hm]]
      simp

theorem fold_mem (m : Int) (l : List Int) : ∀ acc x, x ∈ l.foldl (addE m) acc → x ∈ acc ∨ x ∈ l := by
  induction l with
  | nil => intro acc x h; exact .inl h
  | cons y l ih =>
    intro acc x h
    rw [List.foldl_cons] at h
    rcases ih _ _ h with h | h
    · unfold addE at h
      split at h
      · exact .inl h
      · simp at h
        rcases h with h | h
        · exact .inl h
        · exact .inr (by simp [h])
    · exact .inr (by simp [h])

/-- How many types there are in one. -/
def szK : KT → Nat
  | .nil => 1
  | .mk _ _ _ n of => 1 + ((List.range n).map fun i => szK (of i)).sum

theorem szK_cost (t : KT) : goodE t → szK t ≤ costE t := by
  induction t with
  | nil => exact fun h => h.elim
  | mk k m ns n of ih =>
    rintro ⟨⟨hn12, hown⟩, hkids⟩
    obtain ⟨hk8, hmost, hone, hparts, hnames, hnone⟩ := own_facts hown
    rw [szK, costE]
    by_cases h5 : k = 5
    · rw [if_pos h5]
      have h1 := hone h5
      subst h1
      have := ih 0 (hkids 0 (by omega))
      simp [List.range_succ]
      omega
    · rw [if_neg h5]
      have : ∀ j, j ≤ n → ((List.range j).map fun i => szK (of i)).sum ≤ ((List.range j).map fun i => costE (of i)).sum := by
        intro j
        induction j with
        | zero => simp
        | succ j ihj =>
          intro hj
          rw [List.range_succ, List.map_append, List.map_append, List.sum_append, List.sum_append]
          have h1 := ihj (by omega)
          have h2 := ih j (hkids j (by omega))
          simp
          omega
      have := this n (Nat.le_refl _)
      omega

theorem survey_ok (t : KT) : goodE t → ∀ lv p, hasE t lv = true → p + szK t ≤ 1048576 → surveyE t lv p = (true, p + szK t) := by
  induction t with
  | nil => exact fun h => h.elim
  | mk k m ns n of ih =>
    rintro ⟨⟨hn12, hown⟩, hkids⟩ lv p hh hp
    rw [hasE] at hh
    split at hh
    · cases hh
    rename_i hlv
    rw [List.all_eq_true] at hh
    have ha : aloneE (.mk k m ns n of) = true := by rw [alone_own, hown, decide_eq_true hn12]; rfl
    rw [surveyE, if_neg (by
      rw [szK] at hp
      rintro (h | h | h)
      · omega
      · exact hlv (.inr h)
      · rw [ha] at h; cases h)]
    have key : ∀ j, j ≤ n → surveyL (fun i => surveyE (of i) (lv - 1)) j (p + 1) = (true, p + 1 + ((List.range j).map fun i => szK (of i)).sum) := by
      intro j
      induction j with
      | zero => intro _; simp [surveyL]
      | succ j ihj =>
        intro hj
        rw [surveyL, ihj (by omega), if_pos rfl]
        have hs : ((List.range (j + 1)).map fun i => szK (of i)).sum ≤ ((List.range n).map fun i => szK (of i)).sum := sum_shrink (fun i => szK (of i)) (j + 1) n hj
        rw [List.range_succ, List.map_append, List.sum_append] at hs ⊢
        rw [szK] at hp
        simp only [List.map_cons, List.map_nil, List.sum_cons, List.sum_nil, Nat.add_zero] at hs ⊢
        rw [ih j (hkids j (by omega)) (lv - 1) _ (hh j (List.mem_range.2 (by omega))) (by omega)]
        simp
        omega
    rw [key n (Nat.le_refl _), szK]
    simp
    omega

theorem partsL_getD (f : Nat → Nat × Nat → VT × (Nat × Nat)) (j : Nat) (s : Nat × Nat) : ∀ i, i < j → ∃ q, (partsL f j s).1.getD i .nil = (f i q).1 := by
  induction j with
  | zero => intro i hi; omega
  | succ j ih =>
    intro i hi
    rw [partsL]
    by_cases h : i < j
    · obtain ⟨q, hq⟩ := ih i h
      refine ⟨q, ?_⟩
      rw [← hq]
      simp only [List.getD_eq_getElem?_getD]
      rw [List.getElem?_append_left (by rw [partsL_length]; exact h)]
    · obtain rfl : i = j := by omega
      refine ⟨(partsL f i s).2, ?_⟩
      simp only [List.getD_eq_getElem?_getD]
      rw [List.getElem?_append_right (by rw [partsL_length]; exact Nat.le_refl _), partsL_length]
      simp

theorem emod_in (a b : Int) (h : 0 < b) : 0 ≤ a % b ∧ a % b < b := ⟨Int.emod_nonneg a (by omega), Int.emod_lt_of_pos a h⟩

/-- WHAT IS BUILT IS A VALUE OF THE TYPE. -/
theorem build_fits (l : List Int) (t : KT) : goodE t → ∀ s, isE t (buildE l t s).1 = true := by
  induction t with
  | nil => exact fun h => h.elim
  | mk k m ns n of ih =>
    rintro ⟨⟨hn12, hown⟩, hkids⟩ s
    obtain ⟨hk8, hmost, hone, hparts, hnames, hnone⟩ := own_facts hown
    have h2 := emod_in (numE l s.1) 2 (by omega)
    have h16 := emod_in (numE l s.1) 65536 (by omega)
    have h32 := emod_in (numE l s.1) 4294967296 (by omega)
    rcases (by omega : k = 0 ∨ k = 1 ∨ k = 2 ∨ k = 3 ∨ k = 4 ∨ k = 5 ∨ k = 6 ∨ k = 7 ∨ k = 8) with h | h | h | h | h | h | h | h | h <;> subst h
    · rw [buildE, if_pos rfl]
      unfold vnum
      rw [isE_iff]
      simp [lowE, highE, canon0]
      omega
    · rw [buildE, if_neg (by omega), if_pos rfl]
      unfold vnum
      rw [isE_iff]
      simp [lowE, highE, canon0]
      omega
    · rw [buildE, if_neg (by omega), if_neg (by omega), if_pos rfl]
      unfold vnum long32
      rw [isE_iff]
      simp [lowE, highE, canon0]
      split <;> omega
    · rw [buildE, if_neg (by omega), if_neg (by omega), if_neg (by omega), if_pos rfl]
      rw [isE_iff]
      simp [lowE, highE]
    · rw [buildE, if_neg (by omega), if_neg (by omega), if_neg (by omega), if_neg (by omega), if_pos rfl]
      have hm := hmost (by omega)
      have h4 := emod_in (numE l s.1) (m + 1) (by omega)
      rw [isE_iff]
      simp [lowE, highE, canon0, lettersE]
      omega
    · have hm := hmost (by omega)
      have h4 := emod_in (numE l s.1) 4 (by omega)
      have h1 := hone rfl
      by_cases hb : 100 < s.2 + 1
      · rw [buildE_none _ _ _ _ _ _ hb]
        unfold listV
        rw [isE_iff]
        simp [lowE, highE, canon0]
        omega
      · rw [buildE_seq _ _ _ _ _ _ hb]
        unfold listV
        rw [isE_iff]
        rw [partsL_length]
        refine ⟨fun _ => canon0, fun _ => rfl, fun h => by omega, by simp [lowE], by simp [highE], fun h => by omega, fun _ => by omega, fun h => by omega, fun h => by omega, fun i hi => ?_⟩
        obtain ⟨q, hq⟩ := partsL_getD (fun _ q => buildE l (of 0) q) _ (nextE l s.1, s.2 + 1) i hi
        rw [if_neg (by omega), if_neg (by omega), hq]
        exact ih 0 (hkids 0 (by omega)) q
    · rw [buildE_record]
      unfold listV
      rw [isE_iff]
      rw [partsL_length]
      refine ⟨fun _ => canon0, fun _ => rfl, fun h => by omega, by simp [lowE], by simp [highE], fun h => by omega, fun h => by omega, fun h => rfl, fun h => by omega, fun i hi => ?_⟩
      obtain ⟨q, hq⟩ := partsL_getD (fun i q => buildE l (of i) q) n (s.1, s.2 + 1) i hi
      rw [if_pos rfl, hq]
      exact ih i (hkids i hi) q
    · have hns := hnames (by omega)
      have h4 := emod_in (numE l s.1) (ns.length : Int) (by omega)
      rw [buildE, if_neg (by omega), if_neg (by omega), if_neg (by omega), if_neg (by omega), if_neg (by omega), if_neg (by omega), if_neg (by omega), if_pos rfl]
      unfold vnum
      rw [isE_iff]
      simp [lowE, highE, canon0]
      omega
    · have hns := hnames (by omega)
      have hnn := hparts (by omega)
      have h4 := emod_in (numE l s.1) (n : Int) (by omega)
      rw [buildE_choice, isE_iff]
      refine ⟨fun _ => canon0, fun _ => rfl, fun h => by omega, by simp [lowE]; omega, by simp [highE]; omega, fun h => by omega, fun h => by omega, fun h => by omega, fun h => rfl, fun i hi => ?_⟩
      rw [if_neg (by omega), if_pos rfl]
      exact ih _ (hkids _ (by omega)) _

/-- A type of the laws is built, and what is built is a value of it. -/
theorem build_type (l : List Int) (t : KN) (d : Nat) (hd : 1 ≤ d) (hd4 : d ≤ 4) (h : vokN t) : BuildE l (typeE [] t d) = (buildE l (typeE [] t d) (0, 0)).1 ∧ isVal (typeE [] t d) (BuildE l (typeE [] t d)) = true := by
  obtain ⟨hg, hh⟩ := good_type t d hd h
  have hs : (surveyE (typeE [] t d) 1000 0).1 = true := by
    rw [survey_ok _ hg 1000 0 (hh 1000 (by omega)) (by
      have h1 := szK_cost _ hg
      have h2 := cost_typeE [] t d
      have h3 : 4 ^ d ≤ 4 ^ 4 := Nat.pow_le_pow_right (by omega) hd4
      omega)]
  have e : BuildE l (typeE [] t d) = (buildE l (typeE [] t d) (0, 0)).1 := by unfold BuildE; rw [if_pos hs]
  refine ⟨e, ?_⟩
  unfold isVal
  rw [hh 20 (by omega), fits_is _ hg, e, build_fits l _ hg]
  rfl

theorem num_none (tk : Nat) : numE [] tk = 0 := by simp [numE]

theorem num_noughts (tk : Nat) : numE [0, 0] tk = 0 := by
  unfold numE
  rw [if_neg (by simp)]
  have h : tk % ([0, 0] : List Int).length < 2 := Nat.mod_lt _ (by decide)
  rcases (by omega : tk % ([0, 0] : List Int).length = 0 ∨ tk % ([0, 0] : List Int).length = 1) with e | e <;> rw [e] <;> rfl

theorem whole_nought : Fl.whole (floatOfInt .f64 0) = 0 := by decide +kernel

/-- What is built of noughts has noughts only. -/
theorem zero_build (l : List Int) (hl : ∀ tk, numE l tk = 0) (t : KT) : goodE t → ∀ s x, x ∈ flE t (buildE l t s).1 → x = 0 := by
  induction t with
  | nil => exact fun h => h.elim
  | mk k m ns n of ih =>
    rintro ⟨⟨hn12, hown⟩, hkids⟩ s x
    obtain ⟨hk8, hmost, hone, hparts, hnames, hnone⟩ := own_facts hown
    have hz := hl s.1
    rcases (by omega : k = 0 ∨ k = 1 ∨ k = 2 ∨ k = 3 ∨ k = 4 ∨ k = 5 ∨ k = 6 ∨ k = 7 ∨ k = 8) with h | h | h | h | h | h | h | h | h <;> subst h
    · rw [buildE, if_pos rfl, hz]
      unfold vnum
      rw [flE]
      simp
    · rw [buildE, if_neg (by omega), if_pos rfl, hz]
      unfold vnum
      rw [flE]
      simp
    · rw [buildE, if_neg (by omega), if_neg (by omega), if_pos rfl, hz]
      unfold vnum long32
      rw [flE]
      simp
    · rw [buildE, if_neg (by omega), if_neg (by omega), if_neg (by omega), if_pos rfl, hz]
      rw [flE, if_pos rfl, whole_nought]
      simp
    · rw [buildE, if_neg (by omega), if_neg (by omega), if_neg (by omega), if_neg (by omega), if_pos rfl, hz]
      rw [flE, if_neg (by omega), if_pos rfl]
      simp [lettersE]
    · have hm := hmost (by omega)
      by_cases hb : 100 < s.2 + 1
      · rw [buildE_none _ _ _ _ _ _ hb]
        unfold listV
        rw [flE]
        simp
      · rw [buildE_seq _ _ _ _ _ _ hb, hz]
        rw [show (min ((0 : Int) % 4) m).toNat = 0 by omega]
        unfold listV partsL
        rw [flE]
        simp
    · rw [buildE_record]
      unfold listV
      rw [flE, if_neg (by omega), if_neg (by omega), if_neg (by omega), if_neg (by omega)]
      rw [partsL_length]
      simp only [List.nil_append, List.mem_flatten, List.mem_map, List.mem_range]
      rintro ⟨_, ⟨i, hi, rfl⟩, hx⟩
      obtain ⟨q, hq⟩ := partsL_getD (fun i q => buildE l (of i) q) n (s.1, s.2 + 1) i hi
      rw [hq] at hx
      exact ih i (hkids i hi) q x hx
    · rw [buildE, if_neg (by omega), if_neg (by omega), if_neg (by omega), if_neg (by omega), if_neg (by omega), if_neg (by omega), if_neg (by omega), if_pos rfl, hz]
      unfold vnum
      rw [flE]
      simp
    · have hns := hnames (by omega)
      have hnn := hparts (by omega)
      rw [buildE_choice, hz]
      rw [flE, if_neg (by omega), if_neg (by omega), if_neg (by omega), if_pos (by omega)]
      simp
      rintro (h | h)
      · exact h
      · exact ih 0 (hkids 0 (by omega)) _ x h

theorem parts_same (f g : Nat → Nat × Nat → VT × (Nat × Nat)) (n : Nat) (h : ∀ i, i < n → ∀ s s', s.2 = s'.2 → (f i s).1 = (g i s').1 ∧ (f i s).2.2 = (g i s').2.2) (j : Nat) (hj : j ≤ n) : ∀ s s', s.2 = s'.2 → (partsL f j s).1 = (partsL g j s').1 ∧ (partsL f j s).2.2 = (partsL g j s').2.2 := by
  induction j with
  | zero => intro s s' e; exact ⟨rfl, e⟩
  | succ j ih =>
    intro s s' e
    obtain ⟨h1, h2⟩ := ih (by omega) s s' e
    obtain ⟨h3, h4⟩ := h j (by omega) _ _ h2
    rw [partsL, partsL, h1, h3]
    exact ⟨rfl, h4⟩

/-- Of no numbers and of noughts the same is built. -/
theorem same_build (l l' : List Int) (hl : ∀ tk, numE l tk = 0) (hl' : ∀ tk, numE l' tk = 0) (t : KT) : goodE t → ∀ s s', s.2 = s'.2 → (buildE l t s).1 = (buildE l' t s').1 ∧ (buildE l t s).2.2 = (buildE l' t s').2.2 := by
  induction t with
  | nil => exact fun h => h.elim
  | mk k m ns n of ih =>
    rintro ⟨⟨hn12, hown⟩, hkids⟩ s s' e
    obtain ⟨hk8, hmost, hone, hparts, hnames, hnone⟩ := own_facts hown
    have hz := hl s.1
    have hz' := hl' s'.1
    rcases (by omega : k = 0 ∨ k = 1 ∨ k = 2 ∨ k = 3 ∨ k = 4 ∨ k = 5 ∨ k = 6 ∨ k = 7 ∨ k = 8) with h | h | h | h | h | h | h | h | h <;> subst h
    · rw [buildE, buildE, if_pos rfl, if_pos rfl, hz, hz']; exact ⟨rfl, by simp [e]⟩
    · simp only [buildE, hz, hz', e]; exact ⟨rfl, rfl⟩
    · simp only [buildE, hz, hz', e]; exact ⟨rfl, rfl⟩
    · simp only [buildE, hz, hz', e]; exact ⟨rfl, rfl⟩
    · simp only [buildE, hz, hz', e]; exact ⟨rfl, rfl⟩
    · by_cases hb : 100 < s.2 + 1
      · rw [buildE_none _ _ _ _ _ _ hb, buildE_none _ _ _ _ _ _ (by omega), e]
        exact ⟨rfl, rfl⟩
      · rw [buildE_seq _ _ _ _ _ _ hb, buildE_seq _ _ _ _ _ _ (by omega), hz, hz']
        have h1 := hone rfl
        obtain ⟨h2, h3⟩ := parts_same (fun _ q => buildE l (of 0) q) (fun _ q => buildE l' (of 0) q) ((min ((0 : Int) % 4) m).toNat) (fun i _ a b hab => ih 0 (hkids 0 (by omega)) a b hab) _ (Nat.le_refl _) (nextE l s.1, s.2 + 1) (nextE l' s'.1, s'.2 + 1) (by simp [e])
        exact ⟨by simp only [h2], h3⟩
    · rw [buildE_record, buildE_record]
      obtain ⟨h2, h3⟩ := parts_same (fun i q => buildE l (of i) q) (fun i q => buildE l' (of i) q) n (fun i hi a b hab => ih i (hkids i hi) a b hab) n (Nat.le_refl _) (s.1, s.2 + 1) (s'.1, s'.2 + 1) (by simp [e])
      exact ⟨by simp only [h2], h3⟩
    · simp only [buildE, hz, hz', e]; exact ⟨rfl, rfl⟩
    · have hns := hnames (by omega)
      have hnn := hparts (by omega)
      rw [buildE_choice, buildE_choice, hz, hz']
      have h0 : ((0 : Int) % (n : Int)).toNat = 0 := by simp
      rw [h0]
      obtain ⟨h2, h3⟩ := ih 0 (hkids 0 (by omega)) (nextE l s.1, s.2 + 1) (nextE l' s'.1, s'.2 + 1) (by simp [e])
      rw [h2]
      exact ⟨rfl, h3⟩

end Go.Proofs.Ytedadjlmmnikaaa

/-
  Two things made side by side by calls, each laid in a block of its own ('x, y := f(), g()'): what holds while this goes on, whatever the order. i1, i2: the calls; i3: a third link that makes memory (a row handed to a call); a1, a2: the new blocks; s1, s2: the stores.
-/
namespace Go.Proofs.Ytedadjlmmnikaaa
open Go.RowKit
set_option linter.unusedVariables false

/-- What a value shows, in memory of R. -/
structure Seen where
  sh : (Nat → Prop) → World → Value → Prop
  fr : ∀ {R S : Nat → Prop} {w w' : World} {v : Value}, Fr S w w' → (∀ k, R k → ¬ S k) → sh R w v → sh R w' v
  mono : ∀ {R S : Nat → Prop} {w : World} {v : Value}, (∀ k, k < w.heap.size → R k → S k) → sh R w v → sh S w v

def pptr (g : Nat) : Value := .pointer (some ⟨g, 0, none⟩)

theorem pptr_inj {g g' : Nat} (h : pptr g = pptr g') : g = g' := by unfold pptr at h; simpa using h

def pupd (st : Nat → Option Value) (i : Nat) (v : Value) : Nat → Option Value := fun j => if j = i then some v else st j

theorem pupd_at (st : Nat → Option Value) (i : Nat) (v : Value) : pupd st i v i = some v := by unfold pupd; rw [if_pos rfl]

theorem pupd_ne (st : Nat → Option Value) (i j : Nat) (v : Value) (h : j ≠ i) : pupd st i v j = st j := by unfold pupd; rw [if_neg h]

def POff (a1 a2 : Nat) (st : Nat → Option Value) : Nat → Prop := fun k => st a1 ≠ some (pptr k) ∧ st a2 ≠ some (pptr k)

structure PDif (i1 i2 i3 a1 a2 : Nat) : Prop where
  d12 : i1 ≠ i2
  d13 : i1 ≠ i3
  d23 : i2 ≠ i3
  d1a : i1 ≠ a1
  d1b : i1 ≠ a2
  d2a : i2 ≠ a1
  d2b : i2 ≠ a2
  d3a : i3 ≠ a1
  d3b : i3 ≠ a2
  dab : a1 ≠ a2

/-- Ahead of the stores. -/
structure PA (X Y Z : Seen) (tx ty : TypeId) (zx zy : Array Value) (i1 i2 i3 a1 a2 : Nat) (w : World) (st : Nat → Option Value) (wx : World) : Prop where
  fr : Fr (fun _ => False) w wx
  c1 : ∀ v, st i1 = some v → X.sh (POff a1 a2 st) wx v
  c2 : ∀ v, st i2 = some v → Y.sh (POff a1 a2 st) wx v
  c3 : ∀ v, st i3 = some v → Z.sh (POff a1 a2 st) wx v
  p1 : ∀ v, st a1 = some v → ∃ g, v = pptr g ∧ w.heap.size ≤ g ∧ wx.heap[g]? = some (.cells zx tx (0, 0))
  p2 : ∀ v, st a2 = some v → ∃ g, v = pptr g ∧ w.heap.size ≤ g ∧ wx.heap[g]? = some (.cells zy ty (0, 0))
  ne : ∀ v, st a1 = some v → st a2 ≠ some v

/-- Two things in two blocks, all else off them. -/
def PIn (X Y : Seen) (tx ty : TypeId) (w : World) (g1 g2 : Nat) (wx : World) : Prop :=
  Fr (fun _ => False) w wx ∧ g1 ≠ g2 ∧ w.heap.size ≤ g1 ∧ w.heap.size ≤ g2 ∧
  (∃ cs, wx.heap[g1]? = some (.cells cs tx (0, 0)) ∧ X.sh (fun k => k ≠ g1 ∧ k ≠ g2) wx (.agg cs)) ∧
  (∃ cs, wx.heap[g2]? = some (.cells cs ty (0, 0)) ∧ Y.sh (fun k => k ≠ g1 ∧ k ≠ g2) wx (.agg cs))

/-- Between the stores. -/
def PB (X Y : Seen) (tx ty : TypeId) (zy : Array Value) (i2 a1 a2 : Nat) (w : World) (st : Nat → Option Value) (wx : World) : Prop :=
  ∃ g1 g2 v2, st a1 = some (pptr g1) ∧ st a2 = some (pptr g2) ∧ st i2 = some v2 ∧ Fr (fun _ => False) w wx ∧ g1 ≠ g2 ∧ w.heap.size ≤ g1 ∧ w.heap.size ≤ g2 ∧
  (∃ cs, wx.heap[g1]? = some (.cells cs tx (0, 0)) ∧ X.sh (fun k => k ≠ g1 ∧ k ≠ g2) wx (.agg cs)) ∧
  wx.heap[g2]? = some (.cells zy ty (0, 0)) ∧ Y.sh (fun k => k ≠ g1 ∧ k ≠ g2) wx v2

def PS (X Y Z : Seen) (tx ty : TypeId) (zx zy : Array Value) (i1 i2 i3 a1 a2 s1 s2 : Nat) (w : World) (st : Nat → Option Value) (wx : World) : Prop := match st s1, st s2 with
  | none, none => PA X Y Z tx ty zx zy i1 i2 i3 a1 a2 w st wx
  | some _, none => PB X Y tx ty zy i2 a1 a2 w st wx
  | _, some _ => ∃ g1 g2 v2, st a1 = some (pptr g1) ∧ st a2 = some (pptr g2) ∧ st i2 = some v2 ∧ PIn X Y tx ty w g1 g2 wx

section
variable {X Y Z : Seen} {tx ty : TypeId} {zx zy : Array Value} {i1 i2 i3 a1 a2 s1 s2 : Nat} {w wx wy : World} {st : Nat → Option Value}

theorem PS.a (h : PS X Y Z tx ty zx zy i1 i2 i3 a1 a2 s1 s2 w st wx) (h1 : st s1 = none) (h2 : st s2 = none) : PA X Y Z tx ty zx zy i1 i2 i3 a1 a2 w st wx := by
  unfold PS at h; rw [h1, h2] at h; exact h

theorem PS.b {u : Value} (h : PS X Y Z tx ty zx zy i1 i2 i3 a1 a2 s1 s2 w st wx) (h1 : st s1 = some u) (h2 : st s2 = none) : PB X Y tx ty zy i2 a1 a2 w st wx := by
  unfold PS at h; rw [h1, h2] at h; exact h

theorem PA.ps (h : PA X Y Z tx ty zx zy i1 i2 i3 a1 a2 w st wx) (h1 : st s1 = none) (h2 : st s2 = none) : PS X Y Z tx ty zx zy i1 i2 i3 a1 a2 s1 s2 w st wx := by
  unfold PS; rw [h1, h2]; exact h

theorem PS.fr (h : PS X Y Z tx ty zx zy i1 i2 i3 a1 a2 s1 s2 w st wx) : Fr (fun _ => False) w wx := by
  unfold PS at h
  split at h
  · exact h.fr
  · obtain ⟨_, _, _, _, _, _, hf, _⟩ := h; exact hf
  · obtain ⟨_, _, _, _, _, _, hf, _⟩ := h; exact hf

/-- Ahead of the second call nothing is stored. -/
theorem PS.early (h : PS X Y Z tx ty zx zy i1 i2 i3 a1 a2 s1 s2 w st wx) (h2 : st i2 = none) : st s1 = none ∧ st s2 = none := by
  unfold PS at h
  split at h
  · rename_i e1 e2
    exact ⟨e1, e2⟩
  · obtain ⟨_, _, _, _, _, e, _⟩ := h
    rw [h2] at e
    cases e
  · obtain ⟨_, _, _, _, _, e, _⟩ := h
    rw [h2] at e
    cases e

theorem PA.later (h : PA X Y Z tx ty zx zy i1 i2 i3 a1 a2 w st wx) (f : Fr (fun _ => False) wx wy) : PA X Y Z tx ty zx zy i1 i2 i3 a1 a2 w st wy where
  fr := h.fr.trans f (fun _ _ h => h)
  c1 v hv := X.fr f (fun _ _ h => h) (h.c1 v hv)
  c2 v hv := Y.fr f (fun _ _ h => h) (h.c2 v hv)
  c3 v hv := Z.fr f (fun _ _ h => h) (h.c3 v hv)
  p1 v hv := by obtain ⟨g, e, hg, hc⟩ := h.p1 v hv; exact ⟨g, e, hg, box_kept hc f (fun h => h)⟩
  p2 v hv := by obtain ⟨g, e, hg, hc⟩ := h.p2 v hv; exact ⟨g, e, hg, box_kept hc f (fun h => h)⟩
  ne := h.ne

theorem PA.new {S : Seen} (h : PA X Y Z tx ty zx zy i1 i2 i3 a1 a2 w st wx) {v : Value} (ht : S.sh (fun k => k < w.heap.size ∨ wx.heap.size ≤ k) wy v) : S.sh (POff a1 a2 st) wy v := by
  refine S.mono (fun k _ hk => ⟨fun e => ?_, fun e => ?_⟩) ht
  · obtain ⟨g, eg, hg, hc⟩ := h.p1 _ e
    have := pptr_inj eg
    have := lt_of_block hc
    omega
  · obtain ⟨g, eg, hg, hc⟩ := h.p2 _ e
    have := pptr_inj eg
    have := lt_of_block hc
    omega

theorem poff_upd (i : Nat) (v : Value) (h1 : i ≠ a1) (h2 : i ≠ a2) : POff a1 a2 (pupd st i v) = POff a1 a2 st := by
  unfold POff
  rw [pupd_ne _ _ _ _ h1.symm, pupd_ne _ _ _ _ h2.symm]

theorem PA.call1 (h : PA X Y Z tx ty zx zy i1 i2 i3 a1 a2 w st wx) (d : PDif i1 i2 i3 a1 a2) (f : Fr (fun _ => False) wx wy) {v : Value} (ht : X.sh (fun k => k < w.heap.size ∨ wx.heap.size ≤ k) wy v) : PA X Y Z tx ty zx zy i1 i2 i3 a1 a2 w (pupd st i1 v) wy := by
  have hl := h.later f
  refine ⟨hl.fr, fun u hu => ?_, fun u hu => ?_, fun u hu => ?_, fun u hu => ?_, fun u hu => ?_, fun u hu => ?_⟩
  · rw [pupd_at] at hu; cases hu; rw [poff_upd _ _ d.d1a d.d1b]; exact h.new ht
  · rw [pupd_ne _ _ _ _ d.d12.symm] at hu; rw [poff_upd _ _ d.d1a d.d1b]; exact hl.c2 u hu
  · rw [pupd_ne _ _ _ _ d.d13.symm] at hu; rw [poff_upd _ _ d.d1a d.d1b]; exact hl.c3 u hu
  · rw [pupd_ne _ _ _ _ d.d1a.symm] at hu; exact hl.p1 u hu
  · rw [pupd_ne _ _ _ _ d.d1b.symm] at hu; exact hl.p2 u hu
  · rw [pupd_ne _ _ _ _ d.d1a.symm] at hu; rw [pupd_ne _ _ _ _ d.d1b.symm]; exact hl.ne u hu

theorem PA.call2 (h : PA X Y Z tx ty zx zy i1 i2 i3 a1 a2 w st wx) (d : PDif i1 i2 i3 a1 a2) (f : Fr (fun _ => False) wx wy) {v : Value} (ht : Y.sh (fun k => k < w.heap.size ∨ wx.heap.size ≤ k) wy v) : PA X Y Z tx ty zx zy i1 i2 i3 a1 a2 w (pupd st i2 v) wy := by
  have hl := h.later f
  refine ⟨hl.fr, fun u hu => ?_, fun u hu => ?_, fun u hu => ?_, fun u hu => ?_, fun u hu => ?_, fun u hu => ?_⟩
  · rw [pupd_ne _ _ _ _ d.d12] at hu; rw [poff_upd _ _ d.d2a d.d2b]; exact hl.c1 u hu
  · rw [pupd_at] at hu; cases hu; rw [poff_upd _ _ d.d2a d.d2b]; exact h.new ht
  · rw [pupd_ne _ _ _ _ d.d23.symm] at hu; rw [poff_upd _ _ d.d2a d.d2b]; exact hl.c3 u hu
  · rw [pupd_ne _ _ _ _ d.d2a.symm] at hu; exact hl.p1 u hu
  · rw [pupd_ne _ _ _ _ d.d2b.symm] at hu; exact hl.p2 u hu
  · rw [pupd_ne _ _ _ _ d.d2a.symm] at hu; rw [pupd_ne _ _ _ _ d.d2b.symm]; exact hl.ne u hu

theorem PA.call3 (h : PA X Y Z tx ty zx zy i1 i2 i3 a1 a2 w st wx) (d : PDif i1 i2 i3 a1 a2) (f : Fr (fun _ => False) wx wy) {v : Value} (ht : Z.sh (fun k => k < w.heap.size ∨ wx.heap.size ≤ k) wy v) : PA X Y Z tx ty zx zy i1 i2 i3 a1 a2 w (pupd st i3 v) wy := by
  have hl := h.later f
  refine ⟨hl.fr, fun u hu => ?_, fun u hu => ?_, fun u hu => ?_, fun u hu => ?_, fun u hu => ?_, fun u hu => ?_⟩
  · rw [pupd_ne _ _ _ _ d.d13] at hu; rw [poff_upd _ _ d.d3a d.d3b]; exact hl.c1 u hu
  · rw [pupd_ne _ _ _ _ d.d23] at hu; rw [poff_upd _ _ d.d3a d.d3b]; exact hl.c2 u hu
  · rw [pupd_at] at hu; cases hu; rw [poff_upd _ _ d.d3a d.d3b]; exact h.new ht
  · rw [pupd_ne _ _ _ _ d.d3a.symm] at hu; exact hl.p1 u hu
  · rw [pupd_ne _ _ _ _ d.d3b.symm] at hu; exact hl.p2 u hu
  · rw [pupd_ne _ _ _ _ d.d3a.symm] at hu; rw [pupd_ne _ _ _ _ d.d3b.symm]; exact hl.ne u hu

theorem poff_new (S : Seen) {v : Value} (i : Nat) (cs : Array Value) (t : TypeId) (h : S.sh (POff a1 a2 st) wx v) : S.sh (POff a1 a2 (pupd st i (pptr wx.heap.size))) (wx.alloc (.cells cs t)) v := by
  have h1 := S.fr ((Fr.refl (fun _ => False) wx).alloc (.cells cs t)) (fun _ _ h => h) (S.mono (S := fun k => POff a1 a2 st k ∧ k < wx.heap.size) (fun k hk h => ⟨h, hk⟩) h)
  refine S.mono (fun k _ hk => ⟨fun e => ?_, fun e => ?_⟩) h1
  · unfold pupd at e
    split at e
    · have := pptr_inj (Option.some.inj e); omega
    · exact hk.1.1 e
  · unfold pupd at e
    split at e
    · have := pptr_inj (Option.some.inj e); omega
    · exact hk.1.2 e

theorem PA.alloc1 (h : PA X Y Z tx ty zx zy i1 i2 i3 a1 a2 w st wx) (d : PDif i1 i2 i3 a1 a2) : PA X Y Z tx ty zx zy i1 i2 i3 a1 a2 w (pupd st a1 (pptr wx.heap.size)) (wx.alloc (.cells zx tx)) := by
  have hl := h.later ((Fr.refl (fun _ => False) wx).alloc (.cells zx tx))
  refine ⟨hl.fr, fun u hu => ?_, fun u hu => ?_, fun u hu => ?_, fun u hu => ?_, fun u hu => ?_, fun u hu => ?_⟩
  · rw [pupd_ne _ _ _ _ d.d1a] at hu; exact poff_new X a1 _ _ (h.c1 u hu)
  · rw [pupd_ne _ _ _ _ d.d2a] at hu; exact poff_new Y a1 _ _ (h.c2 u hu)
  · rw [pupd_ne _ _ _ _ d.d3a] at hu; exact poff_new Z a1 _ _ (h.c3 u hu)
  · rw [pupd_at] at hu; cases hu; exact ⟨_, rfl, h.fr.size, heap_alloc_new _ _⟩
  · rw [pupd_ne _ _ _ _ d.dab.symm] at hu; exact hl.p2 u hu
  · rw [pupd_at] at hu; cases hu
    rw [pupd_ne _ _ _ _ d.dab.symm]
    intro e
    obtain ⟨g, eg, _, hc⟩ := h.p2 _ e
    have := pptr_inj eg
    have := lt_of_block hc
    omega

theorem PA.alloc2 (h : PA X Y Z tx ty zx zy i1 i2 i3 a1 a2 w st wx) (d : PDif i1 i2 i3 a1 a2) : PA X Y Z tx ty zx zy i1 i2 i3 a1 a2 w (pupd st a2 (pptr wx.heap.size)) (wx.alloc (.cells zy ty)) := by
  have hl := h.later ((Fr.refl (fun _ => False) wx).alloc (.cells zy ty))
  refine ⟨hl.fr, fun u hu => ?_, fun u hu => ?_, fun u hu => ?_, fun u hu => ?_, fun u hu => ?_, fun u hu => ?_⟩
  · rw [pupd_ne _ _ _ _ d.d1b] at hu; exact poff_new X a2 _ _ (h.c1 u hu)
  · rw [pupd_ne _ _ _ _ d.d2b] at hu; exact poff_new Y a2 _ _ (h.c2 u hu)
  · rw [pupd_ne _ _ _ _ d.d3b] at hu; exact poff_new Z a2 _ _ (h.c3 u hu)
  · rw [pupd_ne _ _ _ _ d.dab] at hu; exact hl.p1 u hu
  · rw [pupd_at] at hu; cases hu; exact ⟨_, rfl, h.fr.size, heap_alloc_new _ _⟩
  · rw [pupd_ne _ _ _ _ d.dab] at hu
    rw [pupd_at]
    intro e
    cases e
    obtain ⟨g, eg, _, hc⟩ := h.p1 _ hu
    have := pptr_inj eg
    have := lt_of_block hc
    omega

theorem PA.store1 (h : PA X Y Z tx ty zx zy i1 i2 i3 a1 a2 w st wx) {v1 v2 u : Value} {g1 g2 : Nat} {cs : Array Value} (h1 : st i1 = some v1) (h2 : st i2 = some v2) (ha : st a1 = some (pptr g1)) (hb : st a2 = some (pptr g2)) (hs : s2 ≠ s1) (hs2 : st s2 = none)
    (n1 : a1 ≠ s1) (n2 : a2 ≠ s1) (n3 : i2 ≠ s1) (hv : v1 = .agg cs)
    (hy : wy.heap[g1]? = some (.cells cs tx (0, 0))) (f : Fr (fun k => k = g1) wx wy) : PS X Y Z tx ty zx zy i1 i2 i3 a1 a2 s1 s2 w (pupd st s1 u) wy := by
  unfold PS
  rw [pupd_at, pupd_ne _ _ _ _ hs, hs2]
  obtain ⟨g, e, hg1, hc1⟩ := h.p1 _ ha
  obtain rfl := pptr_inj e
  obtain ⟨g', e', hg2, hc2⟩ := h.p2 _ hb
  obtain rfl := pptr_inj e'
  have hne : g1 ≠ g2 := fun e => h.ne _ ha (by rw [hb, e])
  have key : ∀ (S : Seen) v, S.sh (POff a1 a2 st) wx v → S.sh (fun k => k ≠ g1 ∧ k ≠ g2) wy v := fun S v hv =>
    S.fr f (fun k hk e => hk.1 e) (S.mono (S := fun k => k ≠ g1 ∧ k ≠ g2) (fun k _ hk => ⟨fun e => hk.1 (by rw [e]; exact ha), fun e => hk.2 (by rw [e]; exact hb)⟩) hv)
  exact ⟨g1, g2, v2, by rw [pupd_ne _ _ _ _ n1]; exact ha, by rw [pupd_ne _ _ _ _ n2]; exact hb, by rw [pupd_ne _ _ _ _ n3]; exact h2, h.fr.trans f (fun i hi e => by omega), hne, hg1, hg2, ⟨cs, hy, hv ▸ key X _ (h.c1 _ h1)⟩, box_kept hc2 f (fun e => hne e.symm), key Y _ (h.c2 _ h2)⟩

theorem PB.store2 (h : PB X Y tx ty zy i2 a1 a2 w st wx) {v2 u : Value} {g2 : Nat} {cs : Array Value} (h2 : st i2 = some v2) (hb : st a2 = some (pptr g2)) (n1 : a1 ≠ s2) (n2 : a2 ≠ s2) (n3 : i2 ≠ s2) (hv : v2 = .agg cs)
    (hy : wy.heap[g2]? = some (.cells cs ty (0, 0))) (f : Fr (fun k => k = g2) wx wy) : PS X Y Z tx ty zx zy i1 i2 i3 a1 a2 s1 s2 w (pupd st s2 u) wy := by
  obtain ⟨g1, g, v, ha', hb', h2', hf, hne, hg1, hg2, ⟨cs1, hc1, ht1⟩, hc2, ht2⟩ := h
  obtain rfl := pptr_inj (Option.some.inj (hb'.symm.trans hb))
  obtain rfl := Option.some.inj (h2'.symm.trans h2)
  have e : PS X Y Z tx ty zx zy i1 i2 i3 a1 a2 s1 s2 w (pupd st s2 u) wy = ∃ g1 g2 v2, pupd st s2 u a1 = some (pptr g1) ∧ pupd st s2 u a2 = some (pptr g2) ∧ pupd st s2 u i2 = some v2 ∧ PIn X Y tx ty w g1 g2 wy := by
    unfold PS
    rw [pupd_at]
    split <;> simp_all
  rw [e]
  exact ⟨g1, g, _, by rw [pupd_ne _ _ _ _ n1]; exact ha', by rw [pupd_ne _ _ _ _ n2]; exact hb', by rw [pupd_ne _ _ _ _ n3]; exact h2', hf.trans f (fun i hi e => by omega), hne, hg1, hg2, ⟨cs1, box_kept hc1 f hne, X.fr f (fun k hk e => hk.2 e) ht1⟩, ⟨cs, hy, hv ▸ Y.fr f (fun k hk e => hk.2 e) ht2⟩⟩

end

end Go.Proofs.Ytedadjlmmnikaaa
