/-
  What ParAny, ParChk, ParBack, ParOnce rests on, part 12: ParTabMath, ParOnceLaw, ParOnceArg.
-/
import Derived.Test.YtjegdbkkojaacaaS10
set_option linter.unusedVariables false
set_option linter.unusedSimpArgs false
set_option maxHeartbeats 64000000
namespace Go.Proofs.Ytjegdbkkojaacaa
open Go.RowKit
open Go.Lib (hid)
section
/-- Part j of a message. -/
def part (f k : Int) (l : List UInt8) (j : Nat) : Pc := ⟨f, k, j, numP l, chunk l j⟩
/-- The table when the parts of s are there. -/
def stM (f k : Int) (l : List UInt8) (s : List Nat) : PM := ⟨f, k, numP l, s.map fun (j : Nat) => ((j : Int), chunk l j)⟩
def stT (f k : Int) (l : List UInt8) (d : List IdN) (s : List Nat) : TabS :=
  if s = [] then ⟨none, d⟩ else if s.length < numP l then ⟨some (stM f k l s), d⟩ else ⟨none, d ++ [(f, k)]⟩

theorem stT_zero (f k : Int) (l : List UInt8) (d : List IdN) : stT f k l d [] = ⟨none, d⟩ := by unfold stT; rw [if_pos rfl]
theorem stT_all (f k : Int) (l : List UInt8) (d : List IdN) (s : List Nat) (h : s.length = numP l) : stT f k l d s = ⟨none, d ++ [(f, k)]⟩ := by
  unfold stT
  have h1 : 1 ≤ numP l := by unfold numP; omega
  rw [if_neg (fun e => by rw [e] at h; simp at h; omega), if_neg (by omega)]
theorem stT_some (f k : Int) (l : List UInt8) (d : List IdN) (s : List Nat) (h0 : s ≠ []) (h : s.length < numP l) : stT f k l d s = ⟨some (stM f k l s), d⟩ := by
  unfold stT
  rw [if_neg h0, if_pos h]
theorem stT_len (f k : Int) (l : List UInt8) (d : List IdN) (s : List Nat) (h0 : s ≠ []) (h : s.length ≤ numP l) : (stT f k l d s).o.isSome = decide (s.length < numP l) := by
  by_cases h1 : s.length < numP l
  · rw [stT_some f k l d s h0 h1]; simp [h1]
  · rw [stT_all f k l d s (by omega)]; simp [h1]
theorem stT_id {f k : Int} {l : List UInt8} {d : List IdN} {s : List Nat} : ∀ m, (stT f k l d s).o = some m → m.f = f ∧ m.k = k := by
  intro m hm
  unfold stT at hm
  by_cases h0 : s = []
  · rw [if_pos h0] at hm; cases hm
  · rw [if_neg h0] at hm
    by_cases h1 : s.length < numP l
    · rw [if_pos h1] at hm; cases hm; exact ⟨rfl, rfl⟩
    · rw [if_neg h1] at hm; cases hm

theorem part_chk {f k : Int} {l : List UInt8} (hf : 0 ≤ f ∧ f < 16) (hl : l.length ≤ 4800) {j : Nat} (hj : j < numP l) : (part f k l j).chk = 0 := chunk_chk hf hl hj

theorem stM_keys (f k : Int) (l : List UInt8) (s : List Nat) : (stM f k l s).keys = s.map (fun (j : Nat) => (j : Int)) := by
  unfold PM.keys stM; simp

theorem mem_cast {s : List Nat} {j : Nat} : (j : Int) ∈ s.map (fun (j : Nat) => (j : Int)) ↔ j ∈ s := by
  constructor
  · intro h
    obtain ⟨i, hi, e⟩ := List.mem_map.1 h
    have : i = j := by omega
    exact this ▸ hi
  · intro h
    exact List.mem_map.2 ⟨j, h, rfl⟩

theorem stM_at {f k : Int} {l : List UInt8} {s : List Nat} {i : Nat} (h : i ∈ s) : (stM f k l s).at (i : Int) = chunk l i := by
  unfold PM.at stM
  dsimp only
  rw [List.find?_map]
  cases hf : s.find? ((fun e => decide (e.1 = (i : Int))) ∘ fun (j : Nat) => ((j : Int), chunk l j)) with
  | none =>
    have := List.find?_eq_none.1 hf i h
    simp at this
  | some j =>
    have h1 := List.find?_some hf
    simp at h1
    have : j = i := by omega
    subst this
    rfl

theorem stM_bytes {f k : Int} {l : List UInt8} {s : List Nat} (h : ∀ i, i < numP l → i ∈ s) : (stM f k l s).bytes (numP l) = l := by
  unfold PM.bytes
  have : (List.range (numP l)).map (fun (i : Nat) => (stM f k l s).at (i : Int)) = (List.range (numP l)).map (chunk l) := by
    apply List.map_congr_left
    intro i hi
    exact stM_at (h i (List.mem_range.1 hi))
  rw [this, chunks_all]

/-- A part that is new. -/
theorem put_new {f k : Int} {l : List UInt8} {d : List IdN} {s : List Nat} {j : Nat} (hf : 0 ≤ f ∧ f < 16) (hl : l.length ≤ 4800) (hd : (f, k) ∉ d) (hj : j < numP l) (hs : s.length < numP l) (hn : j ∉ s)
    (hall : s.length + 1 = numP l → ∀ i, i < numP l → i ∈ s ++ [j]) :
    putS (stT f k l d s) (part f k l j) = (stT f k l d (s ++ [j]), if s.length + 1 = numP l then some l else none) := by
  have hc := part_chk (k := k) hf hl hj
  have hbase : ∀ T : TabS, T.d = d → T.o.getD ⟨f, k, numP l, []⟩ = stM f k l s → putS T (part f k l j) = putM (stM f k l (s ++ [j])) d := by
    intro T hTd hTo
    unfold putS
    rw [if_neg (fun h => by
      rcases h with h | h
      · exact h hc
      · rw [hTd] at h; exact hd h), hTd]
    have e1 : T.o.getD ⟨(part f k l j).f, (part f k l j).k, (part f k l j).m, []⟩ = stM f k l s := hTo
    rw [e1]
    congr 1
    unfold PM.put
    rw [if_pos ⟨by rw [stM_keys]; exact fun h => hn (mem_cast.1 h), rfl⟩]
    unfold stM
    rw [List.map_append]
    rfl
  have hT : putS (stT f k l d s) (part f k l j) = putM (stM f k l (s ++ [j])) d := by
    by_cases h0 : s = []
    · subst h0
      rw [stT_zero]
      exact hbase _ rfl rfl
    · rw [stT_some f k l d s h0 hs]
      exact hbase _ rfl rfl
  rw [hT]
  have hlen : (stM f k l (s ++ [j])).ps.length = s.length + 1 := by unfold stM; simp
  have hm : (stM f k l (s ++ [j])).m = (numP l : Int) := rfl
  unfold putM
  rw [hlen, hm]
  by_cases h1 : s.length + 1 = numP l
  · rw [if_neg (by omega), if_pos h1, stT_all f k l d _ (by simp; omega), Int.toNat_natCast, stM_bytes (hall h1)]
    rfl
  · rw [if_pos (by omega), if_neg h1, stT_some f k l d _ (by simp) (by simp; omega)]

/-- A part that is there. -/
theorem put_again {f k : Int} {l : List UInt8} {d : List IdN} {s : List Nat} {j : Nat} (hf : 0 ≤ f ∧ f < 16) (hl : l.length ≤ 4800) (hd : (f, k) ∉ d) (hj : j < numP l) (hs : s.length ≤ numP l) (hn : j ∈ s) :
    putS (stT f k l d s) (part f k l j) = (stT f k l d s, none) := by
  have hc := part_chk (k := k) hf hl hj
  have h0 : s ≠ [] := fun e => by rw [e] at hn; simp at hn
  by_cases h1 : s.length < numP l
  · rw [stT_some f k l d s h0 h1]
    unfold putS
    rw [if_neg (fun h => by
      rcases h with h | h
      · exact h hc
      · exact hd h)]
    have e1 : (some (stM f k l s)).getD ⟨(part f k l j).f, (part f k l j).k, (part f k l j).m, []⟩ = stM f k l s := rfl
    rw [e1]
    unfold PM.put
    rw [if_neg (fun h => h.1 (by rw [stM_keys]; exact mem_cast.2 hn))]
    have hlen : (stM f k l s).ps.length = s.length := by unfold stM; simp
    have hm : (stM f k l s).m = (numP l : Int) := rfl
    unfold putM
    rw [hlen, hm, if_pos (by omega)]
  · rw [stT_all f k l d s (by omega)]
    unfold putS
    rw [if_pos (.inr (by simp [part]))]

/-- A message that was whole. -/
theorem put_done {T : TabS} {x : Pc} (h : (x.f, x.k) ∈ T.d) : putS T x = (T, none) := by
  unfold putS
  rw [if_pos (.inr h)]
end
section
set_option maxRecDepth 100000

/-- What a table's Put may change. -/
def TS (b B : Nat) : Nat → Prop := fun k => k = b ∨ B ≤ k

/-- A row of a message's parts, that no table's Put changes. -/
structure RowOk (w : World) (b B : Nat) (f k : Int) (l : List UInt8) (g : Nat) (vs : Nat → Value) : Prop where
  row : PRow w g (numP l) f k (numP l) vs
  part_ : ∀ j, j < numP l → ∃ a c, vs j = .slice a (chunk l j).length c ∧ Sees w (.slice a (chunk l j).length c) (chunk l j) ∧ (chunk l j = [] ∨ ∀ z, (Value.slice a (chunk l j).length c).ownBlock = some z → z ≠ b ∧ z < B)
  gb : g ≠ b ∧ g < B

theorem sees_old9 {w : World} {v : Value} {l : List UInt8} (h : Sees w v l) : l = [] ∨ ∀ z, v.ownBlock = some z → z < w.heap.size := by
  rcases h with ⟨h, _⟩ | ⟨g, off, cap, rfl, hle, hc⟩
  · exact .inl h
  · cases l with
    | nil => exact .inl rfl
    | cons x l =>
      right
      intro z hz
      simp [Value.ownBlock] at hz
      subst hz
      exact World.block_lt_of_cell? w _ (hc 0 (by simp))

theorem CutOk.rowOk {f k : Int} {l : List UInt8} {g : Nat} {vs : Nat → Value} {w0 w1 w2 : World} {b : Nat} (h : CutOk f k l g vs w0 w1) (hb : b < w0.heap.size) (f2 : Fr (fun _ => False) w1 w2) : RowOk w2 b w2.heap.size f k l g vs := by
  have hn : 0 < numP l := by unfold numP; omega
  have hr := h.row.fr f2 (fun h => h)
  refine ⟨hr, fun j hj => ?_, by have := h.g0; omega, hr.lt hn⟩
  have hs := (h.sees j hj).fr f2 (fun _ _ h => h)
  obtain ⟨a, c, e, _⟩ := hs.shape
  rw [e] at hs
  refine ⟨a, c, e, hs, (sees_old9 hs).imp id (fun ho z hz => ⟨?_, ho z hz⟩)⟩
  have := h.new_ j hj z (by rw [e]; exact hz)
  have := h.g0
  omega

theorem RowOk.fr {w w' : World} {b B : Nat} {f k : Int} {l : List UInt8} {g : Nat} {vs : Nat → Value} (h : RowOk w b B f k l g vs) (hf : Fr (TS b B) w w') : RowOk w' b B f k l g vs := by
  refine ⟨h.row.fr hf (fun e => ?_), fun j hj => ?_, h.gb⟩
  · have := h.gb
    rcases e with e | e <;> omega
  · obtain ⟨a, c, e, hs, ho⟩ := h.part_ j hj
    refine ⟨a, c, e, ?_, ho⟩
    rcases ho with ho | ho
    · rw [ho] at hs ⊢
      rcases hs with ⟨_, a1, c1, e1⟩ | ⟨g1, o1, c1, e1, _, _⟩
      · rw [e1]; exact .inl ⟨rfl, _, _, rfl⟩
      · rw [e1]; exact .inl ⟨rfl, _, _, rfl⟩
    · exact hs.fr hf (fun z hz hz' => by
        have := ho z hz
        rcases hz' with e' | e' <;> omega)

/-- One part put into a table. -/
theorem step_put {w : World} {b B : Nat} {f k : Int} {l : List UInt8} {g : Nat} {vs : Nat → Value} (T : TabS) (hT : TabV w b B T) (hR : RowOk w b B f k l g vs) (hk : 0 ≤ k ∧ k ≤ 4294967295) {j : Nat} (hj : j < numP l) (a : Option Addr) (c : Nat) (ha : vs j = .slice a (chunk l j).length c) (hr : ∀ m, T.o = some m → m.f = f ∧ m.k = k) :
    Calls Try.prog 17 #[ptr b, pv f k j (numP l) (.slice a (chunk l j).length c)] w fun e w' => ∃ ar n cr, e = .returned (.tuple #[.slice ar n cr, .bool (putS T (part f k l j)).2.isSome]) ∧ TabV w' b B (putS T (part f k l j)).1 ∧ Fr (TS b B) w w' ∧
      ((putS T (part f k l j)).2 = none → n = 0) ∧ ∀ s, (putS T (part f k l j)).2 = some s → n = s.length ∧ Sees w' (.slice ar n cr) s := by
  obtain ⟨a', c', e, hs, ho⟩ := hR.part_ j hj
  rw [ha] at e
  cases e
  refine (tput_any w T (part f k l j) a c hT hk hs ho hr).mono ?_
  rintro e w1 ⟨r, rfl, h1, h2, h3, h4⟩
  cases hO : (putS T (part f k l j)).2 with
  | none =>
    obtain rfl := h3 hO
    exact ⟨none, 0, 0, rfl, h1, h2, fun _ => rfl, fun s h => (by cases h)⟩
  | some s =>
    have hs := h4 s hO
    obtain ⟨ar, cr, rfl, _⟩ := hs.shape
    exact ⟨ar, _, cr, rfl, h1, h2, fun h => (by cases h), fun s' h => by cases h; exact ⟨rfl, hs⟩⟩

/-- The table in round r, i parts put; how many were told. -/
def onS (f k : Int) (l : List UInt8) (r i : Nat) : TabS := if r = 0 then stT f k l [] (List.range i) else ⟨none, [(f, k)]⟩
def onT (l : List UInt8) (r i : Nat) : Nat := if r = 0 then (if i = numP l then 1 else 0) else 1

def onU (l : List UInt8) (i : Nat) : Nat := 1 + (if i = numP l then 1 else 0)

theorem numP_pos (l : List UInt8) : 1 ≤ numP l := by unfold numP; omega

theorem onU_zero (l : List UInt8) : onU l 0 = 1 := by
  have := numP_pos l
  unfold onU; rw [if_neg (by omega)]
theorem onU_all (l : List UInt8) : onU l (numP l) = 2 := by unfold onU; rw [if_pos rfl]
theorem onU_le (l : List UInt8) (i : Nat) : onU l i ≤ 2 := by unfold onU; split <;> omega
theorem onT_le (l : List UInt8) (r i : Nat) : onT l r i ≤ 2 := by unfold onT; split <;> (try split) <;> omega
theorem onU_step {l : List UInt8} {i : Nat} (hi : i < numP l) : onU l (i + 1) = onU l i + (if i + 1 = numP l then 1 else 0) := by
  unfold onU
  rw [if_neg (show ¬ i = numP l by omega)]

theorem onS_zero (f k : Int) (l : List UInt8) : onS f k l 0 0 = ⟨none, []⟩ := by unfold onS; rw [if_pos rfl, List.range_zero, stT_zero]
theorem onS_next (f k : Int) (l : List UInt8) (r : Nat) : onS f k l r (numP l) = onS f k l (r + 1) 0 := by
  unfold onS
  rw [if_neg (show ¬ r + 1 = 0 by omega)]
  by_cases h : r = 0
  · rw [if_pos h, stT_all _ _ _ _ _ List.length_range]; rfl
  · rw [if_neg h]
theorem onT_zero (l : List UInt8) : onT l 0 0 = 0 := by
  have := numP_pos l
  unfold onT; rw [if_pos rfl, if_neg (by omega)]
theorem onT_next (l : List UInt8) (r : Nat) : onT l r (numP l) = onT l (r + 1) 0 := by
  unfold onT
  rw [if_neg (show ¬ r + 1 = 0 by omega), if_pos rfl]
  by_cases h : r = 0
  · rw [if_pos h]
  · rw [if_neg h]
theorem onS_id {f k : Int} {l : List UInt8} {r i : Nat} : ∀ m, (onS f k l r i).o = some m → m.f = f ∧ m.k = k := by
  intro m hm
  unfold onS at hm
  by_cases h : r = 0
  · rw [if_pos h] at hm; exact stT_id m hm
  · rw [if_neg h] at hm; cases hm
theorem stT_step {f k : Int} {l : List UInt8} {d : List IdN} (hf : 0 ≤ f ∧ f < 16) (hl : l.length ≤ 4800) (hd : (f, k) ∉ d) {i : Nat} (hi : i < numP l) :
    putS (stT f k l d (List.range i)) (part f k l i) = (stT f k l d (List.range (i + 1)), if i + 1 = numP l then some l else none) := by
  have := put_new (d := d) (k := k) hf hl hd hi (s := List.range i) (by rw [List.length_range]; exact hi) (by simp) (by
    intro h j hj
    rw [List.length_range] at h
    rw [← List.range_succ]
    exact List.mem_range.2 (by omega))
  rw [← List.range_succ, List.length_range] at this
  exact this
theorem onS_step {f k : Int} {l : List UInt8} (hf : 0 ≤ f ∧ f < 16) (hl : l.length ≤ 4800) {r i : Nat} (hi : i < numP l) :
    putS (onS f k l r i) (part f k l i) = (onS f k l r (i + 1), if r = 0 ∧ i + 1 = numP l then some l else none) := by
  unfold onS
  by_cases h : r = 0
  · rw [if_pos h, if_pos h, stT_step hf hl (by simp) hi]
    congr 1
    by_cases h1 : i + 1 = numP l
    · rw [if_pos h1, if_pos ⟨h, h1⟩]
    · rw [if_neg h1, if_neg (fun e => h1 e.2)]
  · rw [if_neg h, if_neg h, if_neg (fun e => h e.1)]
    exact put_done (by simp [part])
theorem onT_step {l : List UInt8} {r i : Nat} (hi : i < numP l) : onT l r (i + 1) = onT l r i + (if r = 0 ∧ i + 1 = numP l then 1 else 0) := by
  unfold onT
  by_cases h : r = 0
  · rw [if_pos h, if_pos h, if_neg (show ¬ i = numP l by omega)]
    by_cases h1 : i + 1 = numP l
    · rw [if_pos h1, if_pos ⟨h, h1⟩]
    · rw [if_neg h1, if_neg (fun e => h1 e.2)]
  · rw [if_neg h, if_neg h, if_neg (fun e => h e.1)]

theorem once_law (vb : Value) (l : List UInt8) (fr k rd : Int) (w : World) (hb : Sees w vb l) (hf0 : 0 ≤ fr) (hf1 : fr ≤ 255) (hk0 : 0 ≤ k) (hk1 : k ≤ 4294967295) (hr0 : 0 ≤ rd) (hr1 : rd ≤ 255) :
    Calls Try.prog 7 #[vb, .int .u8 fr, .int .u32 k, .int .u8 rd] w fun e w' => e = .returned (.bool true) ∧ Fr (fun _ => False) w w' := by
  obtain ⟨a, c, rfl, _⟩ := hb.shape
  have HB := Lib.hid hb
  clear hb
  go_enter Try.func7, Try.ntmps7
  go_wp2_with fail
  refine (pawake_any w).mono ?_
  rintro e w1 ⟨rfl, f1⟩
  have F1 := Lib.hid f1
  clear f1
  dsimp only
  by_cases hl : l.length ≤ 600
  case neg =>
    have hl' : (600 : Int) < (l.length : Int) := by omega
    clear hl
    go_wp2_with fail
    go_ret
    exact ⟨rfl, F1.out⟩
  have hl' : ¬ (600 : Int) < (l.length : Int) := by omega
  have HL := Lib.hid hl
  clear hl
  go_upto_region 6 with fail
  have q2 := heap_alloc_new w1 (oTab nilS (.map none))
  have f2 : Fr (fun _ => False) w1 (w1.alloc (oTab nilS (.map none))) := (Fr.refl _ _).alloc _
  generalize w1.alloc (oTab nilS (.map none)) = w2 at *
  obtain ⟨b, hbd⟩ : ∃ b, b = w1.heap.size := ⟨_, rfl⟩
  rw [← hbd] at q2 ⊢
  have Q2 := Lib.hid q2
  have F2 := Lib.hid (F1.out.trans f2 (fun _ _ h => h))
  have HBD : Hid (w.heap.size ≤ b) := Lib.hid (by have := F1.out.size; omega)
  clear q2 f2 hbd hl'
  obtain ⟨f, hfd⟩ : ∃ f, f = fr % 16 := ⟨_, rfl⟩
  have hfb : 0 ≤ f ∧ f < 16 := by omega
  have wf : IntKind.u8.wrap (fr % 16) = fr % 16 := by rw [IntKind.wrap_u8]; omega
  have HFB := Lib.hid hfb
  go_wp2_with fail
  try rw [← hfd]
  refine (pcut_ok f k _ l w2 hfb (HB.out.fr F2.out (fun _ _ h => h)) (by have := HL.out; omega)).mono ?_
  rintro e w3 ⟨g1, vs1, rfl, hc1⟩
  have C1 := Lib.hid hc1
  have F3 := Lib.hid (F2.out.trans hc1.fr (fun _ _ h => h))
  clear hc1
  obtain ⟨k2, hk2⟩ : ∃ k2, k2 = (k + 1) % 4294967296 := ⟨_, rfl⟩
  have hk2b : 0 ≤ k2 ∧ k2 ≤ 4294967295 ∧ k2 ≠ k := by
    rw [hk2]
    omega
  have HK := Lib.hid (And.intro (And.intro hk0 hk1) hk2b)
  clear hk2b
  dsimp only
  -- two rows
  go_wp2_with fail
  rw [← hk2]
  try rw [← hfd]
  refine (pcut_ok f k2 _ l w3 hfb (HB.out.fr F3.out (fun _ _ h => h)) (by have := HL.out; omega)).mono ?_
  rintro e w7 ⟨g2, vs2, rfl, hc2⟩
  have F7 := Lib.hid (F3.out.trans hc2.fr (fun _ _ h => h))
  obtain ⟨B, hBd⟩ : ∃ B, B = w7.heap.size := ⟨_, rfl⟩
  have hb2 : b < w2.heap.size := vt_lt Q2.out
  have hbB : b < B := by have := C1.out.fr.size; have := hc2.fr.size; omega
  have RK1 : Hid (RowOk w7 b B f k l g1 vs1) := Lib.hid (by rw [hBd]; exact C1.out.rowOk hb2 hc2.fr)
  have RK2 : Hid (RowOk w7 b B f k2 l g2 vs2) := Lib.hid (by
    have := hc2.rowOk (b := b) (by have := C1.out.fr.size; omega) (Fr.refl _ w7)
    rw [← hBd] at this
    exact this)
  have T7 : Hid (TabV w7 b B ⟨none, []⟩) := Lib.hid (tab_new (crow_kept (crow_kept Q2.out C1.out.fr (fun h => h)) hc2.fr (fun h => h)) hbB (by omega))
  have HND : Hid ((f, k2) ∉ [(f, k)]) := Lib.hid (by
    simp
    exact HK.out.2.2.2)
  have HSB : Hid (∀ wx, Fr (TS b B) w7 wx → Sees wx (.slice a l.length c) l) := Lib.hid (fun wx fx => by
    have hs := HB.out.fr F7.out (fun _ _ h => h)
    rcases sees_old9 HB.out with e | e
    · subst e
      rcases hs with ⟨_, a1, c1, e1⟩ | ⟨g1, o1, c1, e1, _, _⟩
      · rw [e1]; exact .inl ⟨rfl, _, _, rfl⟩
      · rw [e1]; exact .inl ⟨rfl, _, _, rfl⟩
    · exact hs.fr fx (fun z hz hz' => by
        have h1 := e z hz
        have h2 := HBD.out
        rcases hz' with e' | e' <;> omega))
  have HBB : Hid (w.heap.size ≤ b ∧ b < B) := Lib.hid ⟨HBD.out, hbB⟩
  obtain ⟨n, hn⟩ : ∃ n, n = numP l := ⟨_, rfl⟩
  have hn1 := numP_pos l
  have hn13 : numP l ≤ 13 := by have := HL.out; unfold numP; omega
  clear hn hc2 hBd hb2 hbB wf hfd hfb hk2 C1 Q2 F2 F3
  obtain ⟨NR, hNR⟩ : ∃ NR : Nat, 1 + rd % 4 = NR := ⟨(1 + rd % 4).toNat, by omega⟩
  have hNR4 : 1 ≤ NR ∧ NR ≤ 4 := by omega
  have wrd : IntKind.u8.wrap (rd % 4) = rd % 4 := by rw [IntKind.wrap_u8]; omega
  dsimp only
  go_upto_region 10 with fail
  try rw [hNR]
  clear wrd hNR
  go_loopg [14, 53] NR (fun gh u14 u53 wr => ∃ r : Nat, r ≤ NR ∧ gh = NR - r ∧ u53 = .int .i64 r ∧ u14 = .int .i64 (onT l r 0 : Nat) ∧ Hid (TabV wr b B (onS f k l r 0)) ∧ Hid (Fr (TS b B) w7 wr))
  case atStart => exact ⟨0, Nat.zero_le _, rfl, rfl, by rw [onT_zero]; rfl, by rw [onS_zero]; exact T7, Lib.hid (Fr.refl _ _)⟩
  case round =>
    obtain ⟨r, hr, rfl, rfl, rfl, HT0, HW0⟩ := hrel
    by_cases hlr : r < NR
    case neg =>
      obtain rfl : r = NR := by omega
      have e1 : onT l r 0 = 1 := by unfold onT; rw [if_neg (by omega)]
      have HS0 : Hid (TabV wr b B (stT f k2 l [(f, k)] (List.range 0))) := Lib.hid (by
        have h := HT0.out
        unfold onS at h
        rw [if_neg (by omega)] at h
        rw [List.range_zero, stT_zero]
        exact h)
      rw [e1]
      clear e1 HT0
      go_wp2_with fail
      obtain ⟨wo, rfl⟩ : ∃ wo : World, wo = wr := ⟨_, rfl⟩
      go_loopg [14, 79] (numP l) (fun gh u14 u79 wr => ∃ i : Nat, i ≤ numP l ∧ gh = numP l - i ∧ u79 = .int .i64 i ∧ u14 = .int .i64 (onU l i : Nat) ∧ Hid (TabV wr b B (stT f k2 l [(f, k)] (List.range i))) ∧ Hid (Fr (TS b B) w7 wr))
      case atStart => exact ⟨0, Nat.zero_le _, rfl, rfl, by rw [onU_zero], HS0, HW0⟩
      case round =>
        obtain ⟨i, hi, rfl, rfl, rfl, HT, HW⟩ := hrel
        by_cases hlt : i < numP l
        case neg =>
          obtain ei : i = numP l := by omega
          have TZ : Hid (TabV wr b B ⟨none, [(f, k)] ++ [(f, k2)]⟩) := Lib.hid (by
            have h := HT.out
            rw [stT_all _ _ _ _ _ (by rw [List.length_range]; exact ei)] at h
            exact h)
          have e2 : onU l i = 2 := by rw [ei, onU_all]
          rw [e2]
          clear HT
          go_wp2_with fail
          refine (tlenV wr TZ.out).mono ?_
          rintro e we ⟨rfl, rfl⟩
          dsimp only
          go_wp2_with fail
          go_ret
          exact ⟨by first | rfl | simp, F7.out.trans HW.out (fun z hz h => by
            have := HBB.out
            have := F7.out.size
            rcases h with h | h <;> omega)⟩
        have hltz : (i : Int) < ((numP l : Nat) : Int) := by omega
        have RX := RK2.out.fr HW.out
        obtain ⟨aa, ca, hva, hsa, hoa⟩ := RX.part_ i hlt
        obtain ⟨c0, c1, c2, c3, c4⟩ := RX.row.cells hlt
        rw [hva] at c4
        have HVA := Lib.hid hva
        clear hva hsa hoa
        go_upto_region 24 with fail
        clear c0 c1 c2 c3 c4
        have qy := heap_alloc_new wr (oPv f k2 i (numP l) (.slice aa (chunk l i).length ca))
        have fy : Fr (fun _ => False) wr (wr.alloc (oPv f k2 i (numP l) (.slice aa (chunk l i).length ca))) := (Fr.refl _ _).alloc _
        generalize wr.alloc (oPv f k2 i (numP l) (.slice aa (chunk l i).length ca)) = wy at *
        generalize wr.heap.size = gy at *
        have TY := Lib.hid (HT.out.fr0 fy)
        have WY : Hid (Fr (TS b B) w7 wy) := Lib.hid (HW.out.trans fy (fun _ _ h => h.elim))
        have RY := Lib.hid (RK2.out.fr WY.out)
        clear RX fy
        obtain ⟨c0, c1, c2, c3, c4⟩ := par_cells qy
        go_wp2_with fail
        refine (step_put (stT f k2 l [(f, k)] (List.range i)) TY.out RY.out ⟨HK.out.2.1, HK.out.2.2.1⟩ hlt aa ca HVA.out stT_id).mono ?_
        clear c0 c1 c2 c3 c4 qy
        rintro e wz ⟨ar, nr, cr, rfl, hz1, hz2, hz3, hz4⟩
        obtain ⟨P, hP⟩ : ∃ P, P = putS (stT f k2 l [(f, k)] (List.range i)) (part f k2 l i) := ⟨_, rfl⟩
        have hP2 := hP.trans (stT_step HFB.out (by have := HL.out; omega) HND.out hlt)
        rw [← hP] at hz1 hz3 hz4 ⊢
        clear hP
        have WZ : Hid (Fr (TS b B) w7 wz) := Lib.hid (WY.out.trans hz2 (fun _ _ h => h))
        have TS2 : Hid (onU l (i + 1) = onU l i + (if i + 1 = numP l then 1 else 0)) := Lib.hid (onU_step hlt)
        obtain ⟨t, ht⟩ : ∃ t : Nat, t = onU l i := ⟨_, rfl⟩
        obtain ⟨tn, htn⟩ : ∃ t : Nat, t = onU l (i + 1) := ⟨_, rfl⟩
        have HTN := Lib.hid htn
        rw [← ht, ← htn] at TS2
        rw [← ht]
        have ht3 : t ≤ 3 := by
          rw [ht]
          first | (have := onT_le l r i; omega) | (have := onU_le l i; omega)
        clear ht htn hz2
        by_cases hlast : i + 1 = numP l
        · have e1 : P = (stT f k2 l [(f, k)] (List.range (i + 1)), some l) := by rw [hP2, if_pos hlast]
          have e2 : tn = t + 1 := by rw [TS2.out, if_pos hlast]
          subst e1 e2
          dsimp only at hz1 hz3 hz4
          obtain ⟨hnr, hsz⟩ := hz4 l rfl
          subst hnr
          have TZ := Lib.hid hz1
          obtain ⟨S, hS⟩ : ∃ S : ByteArray, S = ⟨l.toArray⟩ := ⟨_, rfl⟩
          have hcv1 : (convert 23 9 (.slice ar l.length cr)).run Try.prog wz = .ok (.string S) wz := by rw [hS]; exact hsz.string _ _ _ Try.underlying23 Try.underlying5 Try.underlying9
          have hcv2 : (convert 23 9 (.slice a l.length c)).run Try.prog wz = .ok (.string S) wz := by
            rw [hS]
            have hsb : Sees wz (.slice a l.length c) l := HSB.out wz WZ.out
            exact hsb.string _ _ _ Try.underlying23 Try.underlying5 Try.underlying9
          have HLA := Lib.hid hlast
          have HTT := Lib.hid HTN.out
          clear hS hsz hz1 hz3 hz4 hP2 hlast TS2 HTN
          dsimp only
          go_wp2_with fail
          go_roundg (numP l - (i + 1))
          case measure => omega
          case rel => exact ⟨i + 1, by omega, rfl, by congr 1, (by rw [← HTT.out]; simp), TZ, WZ⟩
        · have e1 : P = (stT f k2 l [(f, k)] (List.range (i + 1)), none) := by rw [hP2, if_neg hlast]
          have e2 : tn = t := by rw [TS2.out, if_neg hlast]; omega
          subst e1 e2
          dsimp only at hz1 hz3 hz4
          obtain rfl := hz3 rfl
          have TZ := Lib.hid hz1
          have HLA := Lib.hid hlast
          have HTT := Lib.hid HTN.out
          clear hz1 hz3 hz4 hP2 hlast TS2 HTN
          dsimp only
          go_wp2_with fail
          go_roundg (numP l - (i + 1))
          case measure => omega
          case rel => exact ⟨i + 1, by omega, rfl, by congr 1, (by rw [← HTT.out]), TZ, WZ⟩

    have hlrz : (r : Int) < (NR : Int) := by omega
    go_wp2_with fail
    obtain ⟨wo, rfl⟩ : ∃ wo : World, wo = wr := ⟨_, rfl⟩
    go_loopg [14, 57] (numP l) (fun gh u14 u57 wr => ∃ i : Nat, i ≤ numP l ∧ gh = numP l - i ∧ u57 = .int .i64 i ∧ u14 = .int .i64 (onT l r i : Nat) ∧ Hid (TabV wr b B (onS f k l r i)) ∧ Hid (Fr (TS b B) w7 wr))
    case atStart => exact ⟨0, Nat.zero_le _, rfl, rfl, rfl, HT0, HW0⟩
    case round =>
      obtain ⟨i, hi, rfl, rfl, rfl, HT, HW⟩ := hrel
      by_cases hlt : i < numP l
      case neg =>
        obtain ei : i = numP l := by omega
        have TZ : Hid (TabV wr b B (onS f k l (r + 1) 0)) := Lib.hid (by
          have h := HT.out
          rw [ei, onS_next] at h
          exact h)
        have e2 : onT l r i = onT l (r + 1) 0 := by rw [ei, onT_next]
        rw [e2]
        clear HT HT0 HW0
        go_wp2_with fail
        go_roundg (NR - (r + 1))
        case measure => omega
        case rel => exact ⟨r + 1, by omega, rfl, by congr 1, rfl, TZ, HW⟩
      have hltz : (i : Int) < ((numP l : Nat) : Int) := by omega
      have RX := RK1.out.fr HW.out
      obtain ⟨aa, ca, hva, hsa, hoa⟩ := RX.part_ i hlt
      obtain ⟨c0, c1, c2, c3, c4⟩ := RX.row.cells hlt
      rw [hva] at c4
      have HVA := Lib.hid hva
      clear hva hsa hoa
      go_upto_region 14 with fail
      clear c0 c1 c2 c3 c4
      have qy := heap_alloc_new wr (oPv f k i (numP l) (.slice aa (chunk l i).length ca))
      have fy : Fr (fun _ => False) wr (wr.alloc (oPv f k i (numP l) (.slice aa (chunk l i).length ca))) := (Fr.refl _ _).alloc _
      generalize wr.alloc (oPv f k i (numP l) (.slice aa (chunk l i).length ca)) = wy at *
      generalize wr.heap.size = gy at *
      have TY := Lib.hid (HT.out.fr0 fy)
      have WY : Hid (Fr (TS b B) w7 wy) := Lib.hid (HW.out.trans fy (fun _ _ h => h.elim))
      have RY := Lib.hid (RK1.out.fr WY.out)
      clear RX fy
      obtain ⟨c0, c1, c2, c3, c4⟩ := par_cells qy
      go_wp2_with fail
      refine (step_put (onS f k l r i) TY.out RY.out HK.out.1 hlt aa ca HVA.out onS_id).mono ?_
      clear c0 c1 c2 c3 c4 qy
      rintro e wz ⟨ar, nr, cr, rfl, hz1, hz2, hz3, hz4⟩
      obtain ⟨P, hP⟩ : ∃ P, P = putS (onS f k l r i) (part f k l i) := ⟨_, rfl⟩
      have hP2 := hP.trans (onS_step HFB.out (by have := HL.out; omega) hlt)
      rw [← hP] at hz1 hz3 hz4 ⊢
      clear hP
      have WZ : Hid (Fr (TS b B) w7 wz) := Lib.hid (WY.out.trans hz2 (fun _ _ h => h))
      have TS2 : Hid (onT l r (i + 1) = onT l r i + (if r = 0 ∧ i + 1 = numP l then 1 else 0)) := Lib.hid (onT_step hlt)
      obtain ⟨t, ht⟩ : ∃ t : Nat, t = onT l r i := ⟨_, rfl⟩
      obtain ⟨tn, htn⟩ : ∃ t : Nat, t = onT l r (i + 1) := ⟨_, rfl⟩
      have HTN := Lib.hid htn
      rw [← ht, ← htn] at TS2
      rw [← ht]
      have ht3 : t ≤ 3 := by
        rw [ht]
        first | (have := onT_le l r i; omega) | (have := onU_le l i; omega)
      clear ht htn hz2
      by_cases hlast : r = 0 ∧ i + 1 = numP l
      · have e1 : P = (onS f k l r (i + 1), some l) := by rw [hP2, if_pos hlast]
        have e2 : tn = t + 1 := by rw [TS2.out, if_pos hlast]
        subst e1 e2
        dsimp only at hz1 hz3 hz4
        obtain ⟨hnr, hsz⟩ := hz4 l rfl
        subst hnr
        have TZ := Lib.hid hz1
        obtain ⟨S, hS⟩ : ∃ S : ByteArray, S = ⟨l.toArray⟩ := ⟨_, rfl⟩
        have hcv1 : (convert 23 9 (.slice ar l.length cr)).run Try.prog wz = .ok (.string S) wz := by rw [hS]; exact hsz.string _ _ _ Try.underlying23 Try.underlying5 Try.underlying9
        have hcv2 : (convert 23 9 (.slice a l.length c)).run Try.prog wz = .ok (.string S) wz := by
          rw [hS]
          have hsb : Sees wz (.slice a l.length c) l := HSB.out wz WZ.out
          exact hsb.string _ _ _ Try.underlying23 Try.underlying5 Try.underlying9
        have HLA := Lib.hid hlast
        have HTT := Lib.hid HTN.out
        clear hS hsz hz1 hz3 hz4 hP2 hlast TS2 HTN
        dsimp only
        go_wp2_with fail
        go_roundg (numP l - (i + 1))
        case measure => omega
        case rel => exact ⟨i + 1, by omega, rfl, by congr 1, (by rw [← HTT.out]; simp), TZ, WZ⟩
      · have e1 : P = (onS f k l r (i + 1), none) := by rw [hP2, if_neg hlast]
        have e2 : tn = t := by rw [TS2.out, if_neg hlast]; omega
        subst e1 e2
        dsimp only at hz1 hz3 hz4
        obtain rfl := hz3 rfl
        have TZ := Lib.hid hz1
        have HLA := Lib.hid hlast
        have HTT := Lib.hid HTN.out
        clear hz1 hz3 hz4 hP2 hlast TS2 HTN
        dsimp only
        go_wp2_with fail
        go_roundg (numP l - (i + 1))
        case measure => omega
        case rel => exact ⟨i + 1, by omega, rfl, by congr 1, (by rw [← HTT.out]), TZ, WZ⟩
end
section
theorem once_all {w : World} (va : Value) (la : List Int) (ha : SeesL w va (la.map (Value.int .u8))) (fa : ∀ n ∈ la, (Lit.int .u8 n).wf = true) (fr : Int) (h0 : 0 ≤ fr) (h1 : fr ≤ 255) (k : Int) (k0 : 0 ≤ k) (k1 : k ≤ 4294967295) (rd : Int) (r0 : 0 ≤ rd) (r1 : rd ≤ 255) :
    Calls Try.prog 7 #[va, .int .u8 fr, .int .u32 k, .int .u8 rd] w fun e w' => e = .returned (.bool true) ∧ Fr (fun _ => False) w w' :=
  once_law va _ fr k rd w (sees_u8 ha fa) h0 h1 k0 k1 r0 r1
end
end Go.Proofs.Ytjegdbkkojaacaa
