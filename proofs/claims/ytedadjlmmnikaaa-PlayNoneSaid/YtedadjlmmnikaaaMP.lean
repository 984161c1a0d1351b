/-
  The laws' Small: a body, a state, arguments, by small numbers. What Body makes.
-/
import Derived.Test.YtedadjlmmnikaaaML
import Derived.Test.YtedadjlmmnikaaaMN
import Derived.Test.YtedadjlmmnikaaaMI
import Derived.Test.YtedadjlmmnikaaaMC
set_option linter.unusedSimpArgs false
set_option linter.unusedVariables false
namespace Go.Proofs.Ytedadjlmmnikaaa
open Go.RowKit
set_option linter.unusedVariables false
set_option linter.unusedSimpArgs false

structure S11 where
  takes : KN
  answers : KN
  prog : List Sm
  st : Nat → Int
  args : List Int

/-- The numbers in a slice. -/
def ArgsAt (w : World) (l : List Int) (v : Value) : Prop := SeesL w v (l.map (Value.int .i64)) ∧ ∀ n ∈ l, -9223372036854775808 ≤ n ∧ n ≤ 9223372036854775807

theorem ArgsAt.fr {w w' : World} {l : List Int} {v : Value} (h : ArgsAt w l v) (f : Fr (fun _ => False) w w') : ArgsAt w' l v := by
  refine ⟨?_, h.2⟩
  rcases h.1 with h1 | ⟨g, o, cap, e, hle, hc⟩
  · exact .inl h1
  · exact .inr ⟨g, o, cap, e, hle, fun j x hj => cell_fr0 f (hc j x hj)⟩

theorem ArgsAt.nums {w : World} {l : List Int} {v : Value} (h : ArgsAt w l v) (hl : l.length ≤ 1000) : Nums (fun _ => True) w l v := by
  refine ⟨hl, h.2, ?_⟩
  rcases h.1 with ⟨h0, a, c, rfl⟩ | ⟨g, o, cap, e, hle, hc⟩
  · exact .inl ⟨List.map_eq_nil_iff.1 h0, a, c, rfl⟩
  · refine .inr ⟨g, o, cap, trivial, by rw [e, List.length_map], by rw [List.length_map] at hle; exact hle, fun j x hj => hc j (.int .i64 x) (by simp [hj])⟩

structure S11Shows (w : World) (x : S11) (a0 a1 a2 b0 b1 b2 pv av : Value) : Prop where
  t : NShows w x.takes (.agg #[a0, a1, a2])
  a : NShows w x.answers (.agg #[b0, b1, b2])
  p : SmSees w pv x.prog
  s : ∀ k, k < 8 → -9223372036854775808 ≤ x.st k ∧ x.st k ≤ 9223372036854775807
  v : ArgsAt w x.args av

theorem S11Shows.fr {w w' : World} {x : S11} {a0 a1 a2 b0 b1 b2 pv av : Value} (h : S11Shows w x a0 a1 a2 b0 b1 b2 pv av) (f : Fr (fun _ => False) w w') : S11Shows w' x a0 a1 a2 b0 b1 b2 pv av :=
  ⟨NShows.fr f _ _ h.t, NShows.fr f _ _ h.a, h.p.fr0 f, h.s, h.v.fr f⟩

def s11C (s : Nat → Int) (a0 a1 a2 b0 b1 b2 pv av : Value) : Array Value :=
  #[a0, a1, a2, b0, b1, b2, pv, .int .i64 (s 0), .int .i64 (s 1), .int .i64 (s 2), .int .i64 (s 3), .int .i64 (s 4), .int .i64 (s 5), .int .i64 (s 6), .int .i64 (s 7), av]

/-- A program of the laws. -/
def PG (l : List Ins) : Prop := l.length ≤ 16 ∧ (∀ x ∈ l, x.Fits) ∧ pcheckE l = 0

def body0 : Array Value := #[.int .u8 0, .int .i64 0, .slice none 0 0, .slice none 0 0, .int .u8 0, .int .i64 0, .slice none 0 0, .slice none 0 0, .slice none 0 0]

/-- Ahead of the store: what is made lies apart from the body's block. -/
def BOff (w : World) (st : Nat → Option Value) (k : Nat) : Prop := st 10 ≠ some (pptr k) ∧ w.heap.size ≤ k

structure BdA (w : World) (T A : KT) (st : Nat → Option Value) (wx : World) : Prop where
  fr : Fr (fun _ => False) w wx
  t2 : ∀ v, st 2 = some v → Shows (BOff w st) wx T v
  t5 : ∀ v, st 5 = some v → Shows (BOff w st) wx A v
  t8 : ∀ v, st 8 = some v → ∃ l, PG l ∧ PSees wx v l ∧ ∀ k, v.ownBlock = some k → BOff w st k ∧ k < wx.heap.size
  t9 : ∀ v, st 9 = some v → ∃ x0 x1 x2 x3 y0 y1 y2 y3 p, st 2 = some (.agg #[x0, x1, x2, x3]) ∧ st 5 = some (.agg #[y0, y1, y2, y3]) ∧ st 8 = some p ∧ v = .agg #[x0, x1, x2, x3, y0, y1, y2, y3, p]
  t10 : ∀ v, st 10 = some v → ∃ g, v = pptr g ∧ w.heap.size ≤ g ∧ wx.heap[g]? = some (.cells body0 40 (0, 0))

def BdIn (w : World) (T A : KT) (g : Nat) (wx : World) : Prop :=
  Fr (fun _ => False) w wx ∧ w.heap.size ≤ g ∧ ∃ x0 x1 x2 x3 y0 y1 y2 y3 p l, wx.heap[g]? = some (.cells #[x0, x1, x2, x3, y0, y1, y2, y3, p] 40 (0, 0)) ∧
    Shows (fun k => k ≠ g ∧ w.heap.size ≤ k) wx T (.agg #[x0, x1, x2, x3]) ∧ Shows (fun k => k ≠ g ∧ w.heap.size ≤ k) wx A (.agg #[y0, y1, y2, y3]) ∧ PG l ∧ PSees wx p l ∧ ∀ k, p.ownBlock = some k → k ≠ g ∧ w.heap.size ≤ k

def BdS (w : World) (T A : KT) (st : Nat → Option Value) (wx : World) : Prop := match st 11 with
  | none => BdA w T A st wx
  | some _ => ∃ g, st 10 = some (pptr g) ∧ BdIn w T A g wx

section
variable {w wx wy : World} {T A : KT} {st : Nat → Option Value}

theorem BdS.a (h : BdS w T A st wx) (h11 : st 11 = none) : BdA w T A st wx := by
  unfold BdS at h; rw [h11] at h; exact h

theorem BdA.toS (h : BdA w T A st wx) (h11 : st 11 = none) : BdS w T A st wx := by
  unfold BdS; rw [h11]; exact h

theorem BdS.fr (h : BdS w T A st wx) : Fr (fun _ => False) w wx := by
  unfold BdS at h
  split at h
  · exact h.fr
  · obtain ⟨g, _, h1, _⟩ := h; exact h1

theorem BdA.later (h : BdA w T A st wx) (f : Fr (fun _ => False) wx wy) : BdA w T A st wy where
  fr := h.fr.trans f (fun _ _ h => h)
  t2 := fun v hv => Shows.fr f (fun _ _ h => h) _ _ (h.t2 v hv)
  t5 := fun v hv => Shows.fr f (fun _ _ h => h) _ _ (h.t5 v hv)
  t8 := fun v hv => by
    obtain ⟨l, h1, h2, h3⟩ := h.t8 v hv
    exact ⟨l, h1, h2.fr f (fun _ _ h => h), fun k hk => ⟨(h3 k hk).1, Nat.lt_of_lt_of_le (h3 k hk).2 f.size⟩⟩
  t9 := h.t9
  t10 := fun v hv => by
    obtain ⟨g, e, hg, hc⟩ := h.t10 v hv
    exact ⟨g, e, hg, pbox_kept hc f (fun h => h)⟩

theorem BdA.new (h : BdA w T A st wx) {k : Nat} (hk : wx.heap.size ≤ k) : BOff w st k := by
  refine ⟨fun e => ?_, Nat.le_trans h.fr.size hk⟩
  obtain ⟨g, eg, hg, hc⟩ := h.t10 _ e
  have := pptr_inj eg
  have := lt_of_block hc
  omega

theorem boff_upd (i : Nat) (v : Value) (hi : i ≠ 10) (k : Nat) : BOff w (pupd st i v) k ↔ BOff w st k := by
  unfold BOff
  rw [pupd_ne _ _ _ _ (fun e => hi e.symm)]

theorem boff_fun (i : Nat) (v : Value) (hi : i ≠ 10) : BOff w (pupd st i v) = BOff w st := funext fun k => propext (boff_upd i v hi k)

theorem BdA.call2 (h : BdA w T A st wx) (f : Fr (fun _ => False) wx wy) (h9 : st 9 = none) {v : Value} (hv : Shows (fun k => wx.heap.size ≤ k) wy T v) : BdA w T A (pupd st 2 v) wy :=
  have hl := h.later f
  { fr := hl.fr
    t2 := fun u hu => by
      have e : v = u := by simpa [pupd] using hu
      subst e
      rw [boff_fun 2 _ (by decide)]
      exact Shows.mono (fun k _ hk => h.new hk) _ _ hv
    t5 := fun u hu => by rw [boff_fun 2 _ (by decide)]; exact hl.t5 u (by simpa [pupd] using hu)
    t8 := fun u hu => by rw [boff_fun 2 _ (by decide)]; exact hl.t8 u (by simpa [pupd] using hu)
    t9 := fun u hu => by
      have e : st 9 = some u := by simpa [pupd] using hu
      rw [h9] at e; cases e
    t10 := fun u hu => hl.t10 u (by simpa [pupd] using hu) }

theorem BdA.call5 (h : BdA w T A st wx) (f : Fr (fun _ => False) wx wy) (h9 : st 9 = none) {v : Value} (hv : Shows (fun k => wx.heap.size ≤ k) wy A v) : BdA w T A (pupd st 5 v) wy :=
  have hl := h.later f
  { fr := hl.fr
    t2 := fun u hu => by rw [boff_fun 5 _ (by decide)]; exact hl.t2 u (by simpa [pupd] using hu)
    t5 := fun u hu => by
      have e : v = u := by simpa [pupd] using hu
      subst e
      rw [boff_fun 5 _ (by decide)]
      exact Shows.mono (fun k _ hk => h.new hk) _ _ hv
    t8 := fun u hu => by rw [boff_fun 5 _ (by decide)]; exact hl.t8 u (by simpa [pupd] using hu)
    t9 := fun u hu => by
      have e : st 9 = some u := by simpa [pupd] using hu
      rw [h9] at e; cases e
    t10 := fun u hu => hl.t10 u (by simpa [pupd] using hu) }

theorem BdA.call8 (h : BdA w T A st wx) (h9 : st 9 = none) {v : Value} {l : List Ins} (hg : PG l) (ht : PTold wx wy v l) : BdA w T A (pupd st 8 v) wy :=
  have hl := h.later ht.2.1
  { fr := hl.fr
    t2 := fun u hu => by rw [boff_fun 8 _ (by decide)]; exact hl.t2 u (by simpa [pupd] using hu)
    t5 := fun u hu => by rw [boff_fun 8 _ (by decide)]; exact hl.t5 u (by simpa [pupd] using hu)
    t8 := fun u hu => by
      have e : v = u := by simpa [pupd] using hu
      subst e
      rw [boff_fun 8 _ (by decide)]
      exact ⟨l, hg, ht.1.sees hg.2.1, fun k hk => ⟨h.new (ht.2.2 k hk), ht.1.lt k hk⟩⟩
    t9 := fun u hu => by
      have e : st 9 = some u := by simpa [pupd] using hu
      rw [h9] at e; cases e
    t10 := fun u hu => hl.t10 u (by simpa [pupd] using hu) }

theorem BdA.build9 (h : BdA w T A st wx) {x0 x1 x2 x3 y0 y1 y2 y3 p : Value} (h2 : st 2 = some (.agg #[x0, x1, x2, x3])) (h5 : st 5 = some (.agg #[y0, y1, y2, y3])) (h8 : st 8 = some p) : BdA w T A (pupd st 9 (.agg #[x0, x1, x2, x3, y0, y1, y2, y3, p])) wx :=
  { fr := h.fr
    t2 := fun u hu => by rw [boff_fun 9 _ (by decide)]; exact h.t2 u (by simpa [pupd] using hu)
    t5 := fun u hu => by rw [boff_fun 9 _ (by decide)]; exact h.t5 u (by simpa [pupd] using hu)
    t8 := fun u hu => by rw [boff_fun 9 _ (by decide)]; exact h.t8 u (by simpa [pupd] using hu)
    t9 := fun u hu => by
      have e : Value.agg #[x0, x1, x2, x3, y0, y1, y2, y3, p] = u := by simpa [pupd] using hu
      subst e
      exact ⟨x0, x1, x2, x3, y0, y1, y2, y3, p, by simpa [pupd] using h2, by simpa [pupd] using h5, by simpa [pupd] using h8, rfl⟩
    t10 := fun u hu => h.t10 u (by simpa [pupd] using hu) }

theorem boff_new {k : Nat} (h : BOff w st k) (hk : k < wx.heap.size) : BOff w (pupd st 10 (pptr wx.heap.size)) k := by
  refine ⟨fun e => ?_, h.2⟩
  have e' : pptr wx.heap.size = pptr k := by simpa [pupd] using e
  have := pptr_inj e'
  omega

theorem BdA.alloc10 (h : BdA w T A st wx) : BdA w T A (pupd st 10 (pptr wx.heap.size)) (wx.alloc (.cells body0 40)) :=
  have f : Fr (fun _ => False) wx (wx.alloc (.cells body0 40)) := (Fr.refl _ _).alloc _
  have hl := h.later f
  { fr := hl.fr
    t2 := fun u hu => Shows.fr f (fun _ _ h => h) _ _ (Shows.mono (fun k hk h1 => boff_new h1 hk) _ _ (h.t2 u (by simpa [pupd] using hu)))
    t5 := fun u hu => Shows.fr f (fun _ _ h => h) _ _ (Shows.mono (fun k hk h1 => boff_new h1 hk) _ _ (h.t5 u (by simpa [pupd] using hu)))
    t8 := fun u hu => by
      obtain ⟨l, h1, h2, h3⟩ := h.t8 u (by simpa [pupd] using hu)
      exact ⟨l, h1, h2.fr f (fun _ _ h => h), fun k hk => ⟨boff_new (h3 k hk).1 (h3 k hk).2, Nat.lt_of_lt_of_le (h3 k hk).2 f.size⟩⟩
    t9 := fun u hu => by
      obtain ⟨x0, x1, x2, x3, y0, y1, y2, y3, p, e2, e5, e8, e⟩ := h.t9 u (by simpa [pupd] using hu)
      exact ⟨x0, x1, x2, x3, y0, y1, y2, y3, p, by simpa [pupd] using e2, by simpa [pupd] using e5, by simpa [pupd] using e8, e⟩
    t10 := fun u hu => by
      have e : pptr wx.heap.size = u := by simpa [pupd] using hu
      subst e
      exact ⟨_, rfl, h.fr.size, heap_alloc_new _ _⟩ }

theorem BdA.store11 (h : BdA w T A st wx) {g : Nat} {x0 x1 x2 x3 y0 y1 y2 y3 p u : Value} (h2 : st 2 = some (.agg #[x0, x1, x2, x3])) (h5 : st 5 = some (.agg #[y0, y1, y2, y3])) (h8 : st 8 = some p) (h10 : st 10 = some (pptr g)) :
    BdS w T A (pupd st 11 u) (wx.setRow g #[x0, x1, x2, x3, y0, y1, y2, y3, p]) := by
  unfold BdS
  rw [pupd_at]
  obtain ⟨g', eg, hg, hc⟩ := h.t10 _ h10
  obtain rfl := pptr_inj eg
  have fs : Fr (fun k => k = g) wx (wx.setRow g #[x0, x1, x2, x3, y0, y1, y2, y3, p]) := Fr.setRow (S := fun k => k = g) (Fr.refl _ _) (fun _ => rfl) _
  obtain ⟨l, hl, hp, hk⟩ := h.t8 _ h8
  have off : ∀ k, BOff w st k → k ≠ g ∧ w.heap.size ≤ k := fun k hb => ⟨fun e => hb.1 (by rw [e]; exact h10), hb.2⟩
  refine ⟨g, by simpa [pupd] using h10, Fr.new h.fr (fun k hk => by omega) fs, hg, x0, x1, x2, x3, y0, y1, y2, y3, p, l, setRow_heap _ _ _ _ _ _ hc, ?_, ?_, hl, hp.fr fs (fun k hk' e => (off k (hk k hk').1).1 e), fun k hk' => off k (hk k hk').1⟩
  · exact Shows.fr fs (fun k hk e => hk.1 e) _ _ (Shows.mono (fun k _ hb => off k hb) _ _ (h.t2 _ h2))
  · exact Shows.fr fs (fun k hk e => hk.1 e) _ _ (Shows.mono (fun k _ hb => off k hb) _ _ (h.t5 _ h5))
end

end Go.Proofs.Ytedadjlmmnikaaa

/-
  The laws' Body, walked.
-/
namespace Go.Proofs.Ytedadjlmmnikaaa
open Go.RowKit
set_option linter.unusedVariables false
set_option linter.unusedSimpArgs false

/-- What Body hands back. -/
def BRet (w w' : World) (x : S11) (e : Ending) : Prop :=
  ∃ x0 x1 x2 x3 y0 y1 y2 y3 p l v0 v1 v2 v3, e = .returned (.tuple #[.agg #[x0, x1, x2, x3, y0, y1, y2, y3, p], .agg #[v0, v1, v2, v3]]) ∧
    Shows (fun k => w.heap.size ≤ k) w' (typeE [] x.takes 4) (.agg #[x0, x1, x2, x3]) ∧ Shows (fun k => w.heap.size ≤ k) w' (typeE [] x.answers 4) (.agg #[y0, y1, y2, y3]) ∧ PG l ∧ PSees w' p l ∧
    (∀ k, p.ownBlock = some k → w.heap.size ≤ k) ∧ VShows (fun k => w.heap.size ≤ k) w' (BuildE x.args (typeE [] x.takes 4)) (.agg #[v0, v1, v2, v3])

theorem Try.sizeBody : (Try.prog.info? 40).map (·.size) = some 9 := by kernel_rfl
theorem Try.sizeValue : (Try.prog.info? 44).map (·.size) = some 4 := by kernel_rfl

/-- The region that hands back. -/
def ReS (w0 : World) (ob vb : Nat) (cs : Array Value) (BV : VT) : List Value → World → Prop
  | [], wx => Fr (fun _ => False) w0 wx
  | [v'], wx => Fr (fun _ => False) w0 wx ∧ VShows (fun k => w0.heap.size ≤ k) wx BV v'
  | [v', _], wx => Fr (fun k => k = ob) w0 wx ∧ wx.heap[ob]? = some (.cells cs 40 (0, 0)) ∧ VShows (fun k => w0.heap.size ≤ k) wx BV v'
  | _, wx => Fr (fun k => k = ob ∨ k = vb) w0 wx ∧ wx.heap[ob]? = some (.cells cs 40 (0, 0)) ∧ ∃ z0 z1 z2 z3, wx.heap[vb]? = some (.cells #[z0, z1, z2, z3] 44 (0, 0)) ∧ VShows (fun k => w0.heap.size ≤ k) wx BV (.agg #[z0, z1, z2, z3])

theorem ReS.fr {w0 : World} {ob vb : Nat} {cs : Array Value} {BV : VT} {l : List Value} {wx : World} (h : ReS w0 ob vb cs BV l wx) : Fr (fun k => k = ob ∨ k = vb) w0 wx := by
  match l, h with
  | [], h => exact h.mono (fun _ _ h => h.elim)
  | [_], h => exact h.1.mono (fun _ _ h => h.elim)
  | [_, _], h => exact h.1.mono (fun _ _ h => .inl h)
  | _ :: _ :: _ :: _, h => exact h.1

def val0 : Array Value := #[.int .i64 0, .float .f64 0, .string ⟨#[]⟩, .slice none 0 0]

theorem type_cost (t : KN) : costE (typeE [] t 4) ≤ 100000 := by have := cost_typeE [] t 4; omega

attribute [local go_sem] run_store_float

set_option maxRecDepth 100000 in
set_option maxHeartbeats 8000000 in
theorem body_make (x : S11) (a0 a1 a2 b0 b1 b2 pv av : Value) (w : World) (h : S11Shows w x a0 a1 a2 b0 b1 b2 pv av) (hl : x.args.length ≤ 40) :
    Calls Try.prog 11 #[.agg (s11C x.st a0 a1 a2 b0 b1 b2 pv av)] w fun e w' => BRet w w' x e ∧ Fr (fun _ => False) w w' := by
  obtain ⟨w1, hw1⟩ : ∃ w1, w1 = ((w.alloc (.cells (s11C x.st a0 a1 a2 b0 b1 b2 pv av) 30)).alloc (.cells body0 40)).alloc (.cells val0 44) := ⟨_, rfl⟩
  have F1 : Hid (Fr (fun _ => False) w w1 ∧ w1.heap[w.heap.size]? = some (.cells (s11C x.st a0 a1 a2 b0 b1 b2 pv av) 30 (0, 0)) ∧ w1.heap[w.heap.size + 1]? = some (.cells body0 40 (0, 0)) ∧ w1.heap[w.heap.size + 1 + 1]? = some (.cells val0 44 (0, 0))) := Lib.hid (by
    have f : ∀ (w : World) (o : Obj), Fr (fun _ => False) w (w.alloc o) := fun w o => (Fr.refl _ _).alloc _
    rw [hw1]
    exact ⟨((f _ _).alloc _).alloc _, pbox_kept (pbox_kept (heap_alloc_new _ _) (f _ _) (fun h => h)) (f _ _) (fun h => h), pbox_kept (new_two _ _ _) (f _ _) (fun h => h), new_three _ _ _ _⟩)
  have HSZ : Hid (w1.heap.size = w.heap.size + 1 + 1 + 1) := Lib.hid (by rw [hw1]; simp)
  have HS := Lib.hid h
  have HL := Lib.hid hl
  clear h hl
  simp only [s11C, body0, val0] at hw1
  simp only [s11C]
  go_enter Try.func11, Try.ntmps11
  go_wp2_with fail
  rw [← hw1]
  clear hw1
  generalize hn : w.heap.size = n0 at *
  have N0 := Lib.hid hn
  clear hn
  refine wp_region_links (by kernel_rfl) [some 5, some 6, some 7, some 8, some 9, some 10, some 11, some 12, some 13, some 14, some 4, none] rfl (by decide) (by intro d hd; simp at hd ⊢; omega)
    (fun st wx => BdS w1 (typeE [] x.takes 4) (typeE [] x.answers 4) st wx)
    [.free (.pointer (some ⟨n0, 0, none⟩)), .free (.agg #[a0, a1, a2]), .link none, .free (.pointer (some ⟨n0, 3, none⟩)), .free (.agg #[b0, b1, b2]), .link none, .free (.pointer (some ⟨n0, 6, none⟩)), .free pv, .link none, .link none, .link none, .link none]
    (by kernel_rfl) ?h0 ?step ?fin
  case h0 => exact BdA.toS ⟨(Fr.refl _ _).drew, fun v h => (by cases h), fun v h => (by cases h), fun v h => (by cases h), fun v h => (by cases h), fun v h => (by cases h)⟩ rfl
  case step =>
    intro vals
    simp only [frOfU, fillU, List.setIfInBounds_toArray, List.set_cons_succ, List.set_cons_zero]
    repeat' (first | exact AllOps.nil | refine AllOps.cons ?_ ?_)
    all_goals
      intro st wx hS he hu hn K hK
      simp only [Act.put, List.setIfInBounds_toArray, List.set_cons_succ, List.set_cons_zero, List.getD_cons_zero, List.getD_cons_succ] at hK
      simp only [List.mem_cons, List.not_mem_nil, or_false, forall_eq_or_imp, forall_eq, Region.binds, forall_const, vmode_gc, Bool.false_eq_true, false_imp_iff, List.getD_cons_zero, List.getD_cons_succ, OpSort.val, OpSort.isLink, Option.some.injEq, forall_eq', reduceCtorEq, implies_true, true_and, and_true] at he
      have qb := pbox_kept F1.out.2.1 hS.fr (fun h => h)
      have c0 := pcells_row qb 0 _ rfl
      have c1 := pcells_row qb 1 _ rfl
      have c2 := pcells_row qb 2 _ rfl
      have c3 := pcells_row qb 3 _ rfl
      have c4 := pcells_row qb 4 _ rfl
      have c5 := pcells_row qb 5 _ rfl
      have c6 := pcells_row qb 6 _ rfl
      clear qb
      have HSX := Lib.hid hS
      clear hS
    all_goals first | (clear hu hn; (try simp only [he] at hK ⊢); go_simp; exact hK) | skip
    · have h9 := (hu 9 (by simp) (by kernel_rfl)).2
      have h11 := (hu 11 (by simp) (by kernel_rfl)).2
      have ha := Lib.hid (HSX.out.a h11)
      clear hu hn
      simp only [he] at hK ⊢
      go_simp
      go_at_call 30
      refine (vtype_any x.takes _ wx (NShows.fr (F1.out.1.trans ha.out.fr (fun _ _ h => h)) _ _ HS.out.t)).mono ?_
      rintro q1 wa ⟨v', rfl, hs, fa⟩
      exact hK _ _ (fun _ h => by cases h) (BdA.toS (ha.out.call2 fa h9 hs) h11)
    · have h9 := (hu 9 (by simp) (by kernel_rfl)).2
      have h11 := (hu 11 (by simp) (by kernel_rfl)).2
      have ha := Lib.hid (HSX.out.a h11)
      have he1 := he.1
      clear hu hn he
      simp only [he1] at hK ⊢
      go_simp
      go_at_call 30
      refine (vtype_any x.answers _ wx (NShows.fr (F1.out.1.trans ha.out.fr (fun _ _ h => h)) _ _ HS.out.a)).mono ?_
      rintro q1 wa ⟨v', rfl, hs, fa⟩
      exact hK _ _ (fun _ h => by cases h) (BdA.toS (ha.out.call5 fa h9 hs) h11)
    · have h9 := (hu 9 (by simp) (by kernel_rfl)).2
      have h11 := (hu 11 (by simp) (by kernel_rfl)).2
      have ha := Lib.hid (HSX.out.a h11)
      have he1 := he.1
      clear hu hn he
      simp only [he1] at hK ⊢
      go_simp
      go_at_call 25
      refine (program_any x.prog _ wx (HS.out.p.fr0 (F1.out.1.trans ha.out.fr (fun _ _ h => h)))).mono ?_
      rintro q1 wa ⟨v', l, rfl, ht, hl16, _, hfi, hck⟩
      exact hK _ _ (fun _ h => by cases h) (BdA.toS (ha.out.call8 h9 ⟨hl16, hfi, hck⟩ ht) h11)
    · have h11 := (hu 11 (by simp) (by kernel_rfl)).2
      have ha := Lib.hid (HSX.out.a h11)
      obtain ⟨k2, k5, k8⟩ := he
      obtain ⟨r0, r1, r2, r3, r4, r5, r6, r7, e2⟩ := (ha.out.t2 _ k2).four
      obtain ⟨s0, s1, s2, s3, s4, s5, s6, s7, e5⟩ := (ha.out.t5 _ k5).four
      obtain ⟨l, hl, hp, hk⟩ := ha.out.t8 _ k8
      obtain ⟨ua, uc, e8, _⟩ := hp.shape
      rw [e2] at k2
      rw [e5] at k5
      rw [e8] at k8
      have KK := Lib.hid (And.intro k2 (And.intro k5 (And.intro k8 h11)))
      clear hu hn k2 k5 k8 h11 hp hk hl
      simp only [e2, e5, e8] at hK ⊢
      go_simp
      exact hK _ _ (fun _ h => by cases h) (BdA.toS (ha.out.build9 KK.out.1 KK.out.2.1 KK.out.2.2.1) KK.out.2.2.2)
    · have h11 := (hu 11 (by simp) (by kernel_rfl)).2
      have ha := Lib.hid (HSX.out.a h11)
      clear hu hn
      go_simp
      exact hK _ _ (fun _ h => by cases h) (BdA.toS ha.out.alloc10 h11)
    · have ha := Lib.hid (HSX.out.a hn)
      obtain ⟨k10, k9, -⟩ := he
      obtain ⟨x0, x1, x2, x3, y0, y1, y2, y3, p, k2, k5, k8, e9⟩ := ha.out.t9 _ k9
      obtain ⟨g, e10, hg, hc⟩ := ha.out.t10 _ k10
      obtain ⟨l, hl, hp, hk⟩ := ha.out.t8 _ k8
      obtain ⟨ua, uc, e8, _⟩ := hp.shape
      obtain ⟨r0, r1, r2, r3, r4, r5, r6, r7, e2⟩ := (ha.out.t2 _ k2).four
      obtain ⟨s0, s1, s2, s3, s4, s5, s6, s7, e5⟩ := (ha.out.t5 _ k5).four
      simp at e2 e5
      obtain ⟨rfl, rfl, rfl, rfl⟩ := e2
      obtain ⟨rfl, rfl, rfl, rfl⟩ := e5
      subst e8
      have k10' : st 10 = some (pptr g) := by rw [k10, e10]
      clear hu hn hl hp hk
      unfold pptr at e10
      simp only [e9, e10] at hK ⊢
      simp only [Region.wanted, if_true]
      refine wp_store_row 40 (.tmp 4) (.tmp 14) rfl g _ rfl rfl 40 body0 hc (by rw [Try.sizeBody]; rfl) rfl (by simp [Value.oneCell']) ?_
      exact hK undef _ (fun _ h => by cases h) (ha.out.store11 k2 k5 k8 k10')
  case fin =>
    intro vals w2 hS hV
    have key : ∃ g, vals 10 = .pointer (some ⟨g, 0, none⟩) ∧ BdIn w1 (typeE [] x.takes 4) (typeE [] x.answers 4) g w2 := by
      obtain ⟨g, e6, hin⟩ := hS
      exact ⟨g, by simpa [pptr, OpSort.isLink] using e6, hin⟩
    obtain ⟨g, e6, hin⟩ := key
    obtain ⟨f2, hg, x0, x1, x2, x3, y0, y1, y2, y3, p, l, qg, hT, hA, hl, hp, hk⟩ := hin
    obtain ⟨ua, uc, e8, _⟩ := hp.shape
    obtain ⟨r0, r1, r2, r3, r4, r5, r6, r7, e2⟩ := hT.four
    obtain ⟨s0, s1, s2, s3, s4, s5, s6, s7, e5⟩ := hA.four
    simp at e2 e5
    obtain ⟨rfl, rfl, rfl, rfl⟩ := e2
    obtain ⟨rfl, rfl, rfl, rfl⟩ := e5
    subst e8
    have H2 := Lib.hid (And.intro f2 (And.intro hg (And.intro qg (And.intro hT (And.intro hA (And.intro hl (And.intro hp hk)))))))
    clear hS hV f2 hg qg hT hA hl hp hk
    simp only [frOfU, fillU, List.setIfInBounds_toArray, List.set_cons_succ, List.set_cons_zero, e6]
    clear e6
    have f02 := F1.out.1.trans H2.out.1 (fun _ _ h => h)
    have F02 := Lib.hid f02
    have HB := Lib.hid (fun wx (fx : Fr (fun _ => False) w2 wx) => Build_any (fun _ => True) x.args (typeE [] x.takes 4) _ av wx (Shows.fr fx (fun _ _ h => h) _ _ (Shows.mono (fun _ _ _ => trivial) _ _ H2.out.2.2.2.1)) ((HS.out.v.fr (f02.trans fx (fun _ _ h => h))).nums (by have := HL.out; omega)) (type_cost x.takes))
    have hz : n0 + 1 + 1 < w2.heap.size ∧ w2.heap.size ≥ w1.heap.size := by have := HSZ.out; have := H2.out.1.size; omega
    have HZ := Lib.hid hz
    have hgz : n0 + 1 + 1 < g := by have := HSZ.out; have := H2.out.2.1; omega
    have HGZ := Lib.hid hgz
    generalize hBV : BuildE x.args (typeE [] x.takes 4) = BV at *
    have HBV := Lib.hid hBV
    clear f02 hz hBV hgz
    go_wp2_with fail
    refine wp_region_chain (by kernel_rfl) [some 15, some 16, some 17, some 18, some 19, some 20, none, none] rfl (by decide) (by intro d hd; simp at hd ⊢; omega)
      [5, 6, 7] (ReS w2 (n0 + 1) (n0 + 1 + 1) #[.int .u8 r0, .int .i64 r1, .slice r2 r3 r4, .slice r5 r6 r7, .int .u8 s0, .int .i64 s1, .slice s2 s3 s4, .slice s5 s6 s7, .slice ua l.length uc] BV)
      [.free (.agg #[.int .u8 r0, .int .i64 r1, .slice r2 r3 r4, .slice r5 r6 r7, .int .u8 s0, .int .i64 s1, .slice s2 s3 s4, .slice s5 s6 s7, .slice ua l.length uc]), .free (.pointer (some ⟨g, 0, none⟩)), .free (.agg #[.int .u8 r0, .int .i64 r1, .slice r2 r3 r4, .slice r5 r6 r7]), .free (.pointer (some ⟨n0, 15, none⟩)), .free av, .link none, .link none, .link none]
      (by kernel_rfl) (by kernel_rfl) ?h0 ?step ?fin
    case h0 => exact (Fr.refl _ _).drew
    case step =>
      intro vals2
      simp only [frOfU, fillU, List.setIfInBounds_toArray, List.set_cons_succ, List.set_cons_zero]
      repeat' (first | exact AllOps.nil | refine AllOps.cons ?_ ?_)
      all_goals
        intro cvs wx hS he hu hlim K hK
        clear hu
        simp only [Act.put, List.setIfInBounds_toArray, List.set_cons_succ, List.set_cons_zero, List.getD_cons_zero, List.getD_cons_succ] at hK
        simp only [List.mem_cons, List.not_mem_nil, or_false, forall_eq_or_imp, forall_eq, Region.binds, forall_const, vmode_gc, Bool.false_eq_true, false_imp_iff, List.getD_cons_zero, List.getD_cons_succ, OpSort.val, Option.some.injEq, forall_eq', reduceCtorEq, implies_true, true_and, and_true] at he
        have qg := pbox_kept H2.out.2.2.1 hS.fr (fun h => by have := HGZ.out; omega)
        have d0 := pcells_row qg 0 _ rfl
        have d1 := pcells_row qg 1 _ rfl
        have d2 := pcells_row qg 2 _ rfl
        have d3 := pcells_row qg 3 _ rfl
        have d4 := pcells_row qg 4 _ rfl
        have d5 := pcells_row qg 5 _ rfl
        have d6 := pcells_row qg 6 _ rfl
        have d7 := pcells_row qg 7 _ rfl
        have d8 := pcells_row qg 8 _ rfl
        have qs := pcells_row (pbox_kept (pbox_kept F1.out.2.1 H2.out.1 (fun h => h)) hS.fr (fun h => by omega)) 15 _ rfl
        clear qg
        have HSX := Lib.hid hS
        clear hS
      all_goals first | (clear hlim; (try simp only [he] at hK ⊢); go_simp; exact hK) | skip
      · obtain rfl := hlim (0 : Nat) rfl
        have h1 : Fr (fun _ => False) w2 wx := HSX.out
        have H1 := Lib.hid h1
        clear h1 hlim HSX
        simp only [he] at hK ⊢
        go_simp
        go_at_call 28
        refine (HB.out wx H1.out).mono ?_
        rintro q1 wa ⟨v', rfl, hv, fa⟩
        exact hK _ _ (fun _ h => by cases h) ⟨H1.out.trans fa (fun _ _ h => h), VShows.mono (fun k _ hk => Nat.le_trans H1.out.size hk) _ _ hv⟩
      · obtain rfl := hlim (1 : Nat) rfl
        have h1 : Fr (fun _ => False) w2 wx ∧ VShows (fun k => w2.heap.size ≤ k) wx BV (vals2 5) := HSX.out
        have qo : wx.heap[n0 + 1]? = some (.cells body0 40 (0, 0)) := pbox_kept (pbox_kept F1.out.2.2.1 H2.out.1 (fun h => h)) h1.1 (fun h => h)
        clear hlim HSX d0 d1 d2 d3 d4 d5 d6 d7 d8 qs
        simp only [he] at hK ⊢
        simp only [Region.wanted, if_true]
        refine wp_store_row 40 (.tmp 2) (.tmp 15) rfl (n0 + 1) _ rfl rfl 40 body0 qo (by rw [Try.sizeBody]; rfl) rfl (by simp [Value.oneCell']) ?_
        have fs : Fr (fun k => k = n0 + 1) wx (wx.setRow (n0 + 1) #[.int .u8 r0, .int .i64 r1, .slice r2 r3 r4, .slice r5 r6 r7, .int .u8 s0, .int .i64 s1, .slice s2 s3 s4, .slice s5 s6 s7, .slice ua l.length uc]) := Fr.setRow (S := fun k => k = n0 + 1) (Fr.refl _ _) (fun _ => rfl) _
        exact hK undef _ (fun _ h => by cases h) ⟨(h1.1.mono (fun _ _ h => h.elim)).trans fs (fun _ _ h => h), setRow_heap _ _ _ _ _ _ qo, VShows.fr fs (fun k hk h => by have := HZ.out; omega) _ _ h1.2⟩
      · obtain rfl := hlim (2 : Nat) rfl
        have h1 : Fr (fun k => k = n0 + 1) w2 wx ∧ wx.heap[n0 + 1]? = some (.cells #[.int .u8 r0, .int .i64 r1, .slice r2 r3 r4, .slice r5 r6 r7, .int .u8 s0, .int .i64 s1, .slice s2 s3 s4, .slice s5 s6 s7, .slice ua l.length uc] 40 (0, 0)) ∧ VShows (fun k => w2.heap.size ≤ k) wx BV (vals2 5) := HSX.out
        obtain ⟨hf1, ho1, hv1⟩ := h1
        obtain ⟨zn, zf, zs, za, zc, zcap, e4⟩ := hv1.lit
        rw [e4] at hv1
        have qv : wx.heap[n0 + 1 + 1]? = some (.cells val0 44 (0, 0)) := pbox_kept (pbox_kept F1.out.2.2.2 H2.out.1 (fun h => h)) hf1 (fun h => by omega)
        clear hlim HSX d0 d1 d2 d3 d4 d5 d6 d7 d8 qs
        simp only [he, e4] at hK ⊢
        simp only [Region.wanted, if_true]
        refine wp_store_row 44 (.tmp 3) (.tmp 20) rfl (n0 + 1 + 1) #[.int .i64 zn, .float .f64 zf, .string zs, .slice za zc zcap] rfl rfl 44 val0 qv (by rw [Try.sizeValue]; rfl) rfl (by simp [Value.oneCell']) ?_
        have fs : Fr (fun k => k = n0 + 1 + 1) wx (wx.setRow (n0 + 1 + 1) #[.int .i64 zn, .float .f64 zf, .string zs, .slice za zc zcap]) := Fr.setRow (S := fun k => k = n0 + 1 + 1) (Fr.refl _ _) (fun _ => rfl) _
        exact hK undef _ (fun _ h => by cases h) ⟨(hf1.mono (fun _ _ h => .inl h)).trans fs (fun _ _ h => .inr h), (setRow_other _ _ _ _ (by omega)).trans ho1, _, _, _, _, setRow_heap _ _ _ _ _ _ qv, VShows.fr fs (fun k hk h => by have := HZ.out; omega) _ _ hv1⟩
    case fin =>
      intro vals2 w3 hS hV
      clear hV
      simp only [List.map_cons, List.map_nil] at hS
      obtain ⟨f3, q3, z0, z1, z2, z3, v3, hv3⟩ := hS
      have H3 := Lib.hid (And.intro f3 (And.intro q3 (And.intro v3 hv3)))
      clear f3 q3 v3 hv3
      simp only [frOfU, fillU, List.setIfInBounds_toArray, List.set_cons_succ, List.set_cons_zero]
      go_wp2_with fail
      have hz := HZ.out
      have hsz := HSZ.out
      have hn0 := N0.out
      refine bodyPost_ret (results_two_rows (P := Try.prog) Try.results11 _ w3 (n0 + 1) (n0 + 1 + 1) _ _ _ _ _ _ rfl H3.out.2.1 Try.underlying40 rfl (by rw [Try.sizeBody]; rfl) rfl H3.out.2.2.1 Try.underlying44 rfl (by rw [Try.sizeValue]; rfl)) rfl ?_
      have fr23 : Fr (fun k => k = n0 + 1 ∨ k = n0 + 1 + 1) w2 w3 := H3.out.1
      refine ⟨⟨_, _, _, _, _, _, _, _, _, l, _, _, _, _, rfl, ?_, ?_, H2.out.2.2.2.2.2.1, H2.out.2.2.2.2.2.2.1.fr fr23 (fun k hk h => by have := (H2.out.2.2.2.2.2.2.2 k hk).2; omega), fun k hk => by have := (H2.out.2.2.2.2.2.2.2 k hk).2; omega, ?_⟩, ?_⟩
      · exact Shows.mono (fun k _ hk => by have := hk.2; omega) _ _ (Shows.fr fr23 (fun k hk h => by have := hk.2; omega) _ _ H2.out.2.2.2.1)
      · exact Shows.mono (fun k _ hk => by have := hk.2; omega) _ _ (Shows.fr fr23 (fun k hk h => by have := hk.2; omega) _ _ H2.out.2.2.2.2.1)
      · rw [HBV.out]
        exact VShows.mono (fun k _ hk => by have := hk; omega) _ _ H3.out.2.2.2
      · exact Fr.new F02.out (fun k hk => by omega) fr23

end Go.Proofs.Ytedadjlmmnikaaa

/-
  The laws' Light, walked.
-/
namespace Go.Proofs.Ytedadjlmmnikaaa
open Go.RowKit
set_option linter.unusedVariables false
set_option linter.unusedSimpArgs false

def lightS (x : S11) : Bool := lightE x.takes 4 && (lightE x.answers 4 && (decide (x.prog.length ≤ 30) && decide (x.args.length ≤ 40)))

set_option maxRecDepth 100000 in
set_option maxHeartbeats 8000000 in
theorem slight_any (x : S11) (a0 a1 a2 b0 b1 b2 pv av : Value) (w : World) (h : S11Shows w x a0 a1 a2 b0 b1 b2 pv av) :
    Calls Try.prog 10 #[.agg (s11C x.st a0 a1 a2 b0 b1 b2 pv av)] w fun e w' => e = .returned (.bool (lightS x)) ∧ Fr (fun _ => False) w w' := by
  obtain ⟨pa, pc, rfl, _⟩ := h.p.shape
  obtain ⟨va, vc, rfl⟩ : ∃ a c, av = .slice a x.args.length c := by
    rcases h.v.1 with ⟨h0, a, c, rfl⟩ | ⟨g, o, cap, e, _, _⟩
    · exact ⟨a, c, by rw [List.map_eq_nil_iff.1 h0]; rfl⟩
    · exact ⟨_, cap, by rw [e, List.length_map]⟩
  obtain ⟨w1, hw1⟩ : ∃ w1, w1 = w.alloc (.cells (s11C x.st a0 a1 a2 b0 b1 b2 (.slice pa x.prog.length pc) (.slice va x.args.length vc)) 30) := ⟨_, rfl⟩
  have F1 : Hid (Fr (fun _ => False) w w1 ∧ w1.heap[w.heap.size]? = some (.cells (s11C x.st a0 a1 a2 b0 b1 b2 (.slice pa x.prog.length pc) (.slice va x.args.length vc)) 30 (0, 0))) := Lib.hid (by rw [hw1]; exact ⟨(Fr.refl _ _).alloc _, heap_alloc_new _ _⟩)
  have HT := Lib.hid (fun wx (f : Fr (fun _ => False) w1 wx) => light_any x.takes _ wx 4 4 rfl (by omega) (NShows.fr (F1.out.1.trans f (fun _ _ h => h)) _ _ h.t))
  have HA := Lib.hid (fun wx (f : Fr (fun _ => False) w1 wx) => light_any x.answers _ wx 4 4 rfl (by omega) (NShows.fr (F1.out.1.trans f (fun _ _ h => h)) _ _ h.a))
  have hpl := h.p.1
  generalize hE : lightS x = E
  have HE := Lib.hid hE.symm
  clear h hE
  unfold lightS at HE
  generalize lightE x.takes 4 = lt at *
  generalize lightE x.answers 4 = la at *
  generalize hpn : x.prog.length = pn at *
  generalize han : x.args.length = an at *
  clear hpn han
  have q := F1.out.2
  have c0 : w1.cell? ⟨w.heap.size, 0, none⟩ = some a0 := pcells_row q 0 _ rfl
  have c1 : w1.cell? ⟨w.heap.size, 1, none⟩ = some a1 := pcells_row q 1 _ rfl
  have c2 : w1.cell? ⟨w.heap.size, 2, none⟩ = some a2 := pcells_row q 2 _ rfl
  clear q
  simp only [s11C] at hw1
  simp only [s11C]
  go_enter Try.func10, Try.ntmps10
  go_upto_region 1 with fail
  rw [← hw1]
  clear hw1
  generalize hn : w.heap.size = n0 at *
  go_wp2_with fail
  refine (HT.out w1 (Fr.refl _ _)).mono ?_
  rintro e w2 ⟨rfl, f2⟩
  cases lt with
  | false =>
    go_wp2_with fail
    go_ret
    rw [HE.out]
    exact ⟨rfl, F1.out.1.trans f2 (fun _ _ h => h)⟩
  | true =>
    have q2 := pbox_kept F1.out.2 f2 (fun h => h)
    have e3 : w2.cell? ⟨n0, 3, none⟩ = some b0 := pcells_row (q2) 3 _ rfl
    have e4 : w2.cell? ⟨n0, 4, none⟩ = some b1 := pcells_row (q2) 4 _ rfl
    have e5 : w2.cell? ⟨n0, 5, none⟩ = some b2 := pcells_row (q2) 5 _ rfl
    have F2 := Lib.hid f2
    clear f2 q2 c0 c1 c2
    go_wp2_with fail
    refine (HA.out w2 F2.out).mono ?_
    rintro e w3 ⟨rfl, f3⟩
    cases la with
    | false =>
      go_wp2_with fail
      go_ret
      rw [HE.out]
      exact ⟨rfl, (F1.out.1.trans F2.out (fun _ _ h => h)).trans f3 (fun _ _ h => h)⟩
    | true =>
      have q3 := pbox_kept F1.out.2 (F2.out.trans f3 (fun _ _ h => h)) (fun h => h)
      have e6 : w3.cell? ⟨n0, 6, none⟩ = some (.slice pa pn pc) := pcells_row (q3) 6 _ rfl
      have e15 : w3.cell? ⟨n0, 15, none⟩ = some (.slice va an vc) := pcells_row (q3) 15 _ rfl
      have FF := Lib.hid ((F1.out.1.trans F2.out (fun _ _ h => h)).trans f3 (fun _ _ h => h))
      clear q3 f3 e3 e4 e5
      by_cases h30 : pn ≤ 30
      · have d30 : decide ((pn : Int) ≤ 30) = true := by simp; omega
        by_cases h40 : an ≤ 40
        · have d40 : decide ((an : Int) ≤ 40) = true := by simp; omega
          have HE2 := Lib.hid (show E = true by rw [HE.out]; simp [h30, h40])
          clear h30 h40
          go_wp2_with fail
          go_ret
          rw [HE2.out]
          exact ⟨rfl, FF.out⟩
        · have d40 : decide ((an : Int) ≤ 40) = false := by simp; omega
          have HE2 := Lib.hid (show E = false by rw [HE.out]; simp [h30, h40])
          clear h30 h40
          go_wp2_with fail
          go_ret
          rw [HE2.out]
          exact ⟨rfl, FF.out⟩
      · have d30 : decide ((pn : Int) ≤ 30) = false := by simp; omega
        have HE2 := Lib.hid (show E = false by rw [HE.out]; simp [h30])
        clear h30
        go_wp2_with fail
        go_ret
        rw [HE2.out]
        exact ⟨rfl, FF.out⟩

end Go.Proofs.Ytedadjlmmnikaaa

/-
  PlayLoops, pure: a loop is its body, so many times.
-/
namespace Go.Proofs.Ytedadjlmmnikaaa
open Go.RowKit
set_option linter.unusedVariables false

/-- An instruction that may be anywhere: it neither jumps nor loops. -/
def PlainI (x : Ins) : Prop := x.Fits ∧ (x.op < 12 ∧ x.op ≠ 8 ∧ x.op ≠ 9) ∧ regsE x = true ∧ (x.op = 10 → 0 ≤ x.n)

theorem plain_of {l : List Ins} {i : Nat} {x : Ins} (h : insE l i x = 0) (hf : x.Fits) (h8 : x.op ≠ 8) (h9 : x.op ≠ 9) : PlainI x := by
  unfold insE at h
  split at h
  · cases h
  · split at h
    · cases h
    · rename_i c2
      split at h
      · cases h
      · split at h
        · cases h
        · rename_i c4
          refine ⟨hf, ⟨by omega, h8, h9⟩, by simpa using c2, fun h10 => ?_⟩
          by_cases hn : x.n < 0
          · exact absurd ⟨h10, hn⟩ c4
          · omega

theorem plain_ins {x : Ins} (h : PlainI x) (l : List Ins) (i : Nat) : insE l i x = 0 := by
  obtain ⟨_, ⟨h1, h8, h9⟩, hr, hn⟩ := h
  unfold insE
  rw [if_neg (by omega), if_neg (by simp [hr]), if_neg (by rintro (⟨a, _⟩ | ⟨a, _⟩) <;> omega), if_neg (by rintro ⟨a, b⟩; have := hn a; omega)]

theorem plain_turns {l : List Ins} (h : ∀ x ∈ l, PlainI x) : (l.map Ins.turns).sum = 0 := by
  induction l with
  | nil => rfl
  | cons x l ih =>
    rw [List.map_cons, List.sum_cons, ih (fun y hy => h y (List.mem_cons_of_mem _ hy))]
    unfold Ins.turns
    rw [if_neg (h x List.mem_cons_self).2.1.2.2]
    rfl

theorem plain_check {l : List Ins} (h : ∀ x ∈ l, PlainI x) (hl : l.length ≤ 24) : pcheckE l = 0 := by
  rw [checkE_zero]
  refine ⟨hl, fun i x hx => plain_ins (h x (List.mem_of_getElem? hx)) l i, ?_⟩
  unfold fuelE
  rw [plain_turns h]
  omega

theorem plain_inside {l : List Ins} (h : ∀ x ∈ l, PlainI x) : Inside l := by
  intro i x hx
  have := (h x (List.mem_of_getElem? hx)).2.1
  exact ⟨fun e => absurd e this.2.1, fun e => absurd e this.2.2⟩

/-- The loop. -/
def loopI (b : Nat) (n : Int) : Ins := ⟨9, 0, 0, b, n⟩

theorem loop_check {l : List Ins} (h : ∀ x ∈ l, PlainI x) (h0 : 0 < l.length) (hl : l.length ≤ 4) (n : Int) (hn : 1 ≤ n ∧ n ≤ 5) : pcheckE (loopI l.length n :: l) = 0 := by
  rw [checkE_zero]
  refine ⟨by simp; omega, fun i x hx => ?_, ?_⟩
  · cases i with
    | zero =>
      cases hx
      have hb : bodyE (loopI l.length n :: l) 0 = none := rfl
      have hlo : loopE (loopI l.length n :: l) 0 (loopI l.length n) = true := by
        unfold loopE
        rw [hb]
        have e1 : decide (0 < (loopI l.length n).b) = true := decide_eq_true (show 0 < l.length from h0)
        have e2 : decide (0 + (loopI l.length n).b < (loopI l.length n :: l).length) = true := by simp [loopI]
        have e3 : decide (1 ≤ (loopI l.length n).n) = true := decide_eq_true (show 1 ≤ n from hn.1)
        have e4 : decide ((loopI l.length n).n ≤ 8) = true := decide_eq_true (show n ≤ 8 by omega)
        rw [e1, e2, e3, e4]
        rfl
      unfold insE
      rw [if_neg (by simp [loopI]), if_neg (by simp [regsE, loopI]), if_neg ?_, if_neg ?_]
      · rintro ⟨a, _⟩
        simp [loopI] at a
      · rintro (⟨_, a⟩ | ⟨a, _⟩)
        · rw [hlo] at a; cases a
        · simp [loopI] at a
    | succ i =>
      have hx' : l[i]? = some x := by simpa using hx
      exact plain_ins (h x (List.mem_of_getElem? hx')) _ _
  · unfold fuelE
    rw [List.map_cons, List.sum_cons, plain_turns h]
    have ht : (loopI l.length n).turns = (l.length : Int) * (max n 1 - 1) := by unfold Ins.turns loopI; rfl
    rw [ht, List.length_cons]
    have h1 : (l.length : Int) * (max n 1 - 1) ≤ 4 * 4 := by
      have h3 : (l.length : Int) ≤ 4 := by omega
      have h4 : max n 1 - 1 ≤ 4 := by omega
      have h5 : 0 ≤ max n 1 - 1 := by omega
      exact Int.mul_le_mul h3 h4 h5 (by omega)
    omega

theorem steps_plain (rep rep' : List Ins → Nat → (Nat → Int) → Out) (s : Int) : ∀ (l : List Ins) (k : Nat) (r : Nat → Int), (∀ x ∈ l, PlainI x) → stepsE rep s l k r = stepsE rep' s l k r
  | [], k, r, _ => by simp [stepsE]
  | x :: l, k + 1, r, h => by rw [stepsE, stepsE]; exact steps_plain rep rep' s l k r (fun y hy => h y (List.mem_cons_of_mem _ hy))
  | x :: l, 0, r, h => by
    have ih := fun k r => steps_plain rep rep' s l k r (fun y hy => h y (List.mem_cons_of_mem _ hy))
    have hx := (h x List.mem_cons_self).2.1
    rw [stepsE, stepsE, if_neg hx.2.1, if_neg hx.2.1, if_neg hx.2.2, if_neg hx.2.2]
    simp only [ih]

def flatN (l : List Ins) (n : Nat) : List Ins := (List.replicate n l).flatten

theorem flatN_zero (l : List Ins) : flatN l 0 = [] := rfl

theorem flatN_succ (l : List Ins) (n : Nat) : flatN l (n + 1) = flatN l n ++ l := by
  unfold flatN
  rw [List.replicate_succ', List.flatten_append]
  simp

theorem flatN_cons (l : List Ins) (n : Nat) : flatN l (n + 1) = l ++ flatN l n := by
  unfold flatN
  rw [List.replicate_succ, List.flatten_cons]

theorem flatN_mem {l : List Ins} {n : Nat} {x : Ins} (h : x ∈ flatN l n) : x ∈ l := by
  unfold flatN at h
  obtain ⟨y, hy, hx⟩ := List.mem_flatten.1 h
  rw [(List.mem_replicate.1 hy).2] at hx
  exact hx

theorem flatN_length (l : List Ins) (n : Nat) : (flatN l n).length = n * l.length := by
  induction n with
  | zero => simp [flatN]
  | succ n ih => rw [flatN_succ, List.length_append, ih, Nat.succ_mul]

theorem run_flat (s : Int) (l : List Ins) (h : ∀ x ∈ l, PlainI x) : ∀ (n : Nat) (r : Nat → Int), runE s 1 (flatN l n) r = repE (runE s 0 l) n r
  | 0, r => rfl
  | n + 1, r => by
    rw [flatN_cons, run_append s l (flatN l n) r (plain_inside h)]
    have e : runE s 1 l r = runE s 0 l r := by rw [runE_steps, runE_steps]; exact steps_plain _ _ s l 0 r h
    rw [e, repE]
    cases runE s 0 l r with
    | bad e m => rfl
    | ok b r' =>
      cases b with
      | true => rfl
      | false => exact run_flat s l h n r'

theorem run_loop (s : Int) (l : List Ins) (n : Int) (r : Nat → Int) : runE s 1 (loopI l.length n :: l) r = repE (runE s 0 l) n.toNat r := by
  rw [runE_steps, stepsE]
  rw [if_neg (by simp [loopI]), if_neg (by simp [loopI]), if_pos (by rfl)]
  have e : (l.take (loopI l.length n).b) = l := by show l.take l.length = l; exact List.take_length
  rw [e]
  show (match repE (runE s 0 l) n.toNat r with
      | .ok true r' => Out.ok true r'
      | .ok false r' => stepsE (repD s 1) s l l.length r'
      | .bad e n => .bad e n) = _
  cases repE (runE s 0 l) n.toNat r with
  | bad e m => rfl
  | ok b r' =>
    cases b with
    | true => rfl
    | false =>
      show stepsE (repD s 1) s l l.length r' = .ok false r'
      rw [steps_skip, List.drop_length]
      rfl

/-- What the law says: whatever the state, the arguments. -/
theorem loops_same (t a : KT) (T : VT) (st : Nat → Int) (l : List Ins) (h : ∀ x ∈ l, PlainI x) (h0 : 0 < l.length) (hl : l.length ≤ 4) (n : Int) (hn : 1 ≤ n ∧ n ≤ 5) : playE t a (loopI l.length n :: l) T st = playE t a (flatN l n.toNat) T st := by
  have c1 := loop_check h h0 hl n hn
  have c2 : pcheckE (flatN l n.toNat) = 0 := plain_check (fun x hx => h x (flatN_mem hx)) (by
    rw [flatN_length]
    have h1 : n.toNat ≤ 5 := by omega
    have := Nat.mul_le_mul h1 hl
    omega)
  unfold playE
  simp only [c1, c2, ne_eq, not_true, if_false, run_loop, run_flat _ l h]

end Go.Proofs.Ytedadjlmmnikaaa

/-
  PlayLoops, walked.
-/
namespace Go.Proofs.Ytedadjlmmnikaaa
open Go.RowKit
set_option linter.unusedVariables false
set_option linter.unusedSimpArgs false

/-- What the law's body may be. -/
def BodyOK (l : List Ins) : Prop := l.length ≤ 4 ∧ ∀ x ∈ l, PlainI x

theorem play_sz (t a : KT) (p : List Ins) (T : VT) (s : Nat → Int) (hc : costE a ≤ 100000) : szV (playE t a p T s).2.v ≤ 100000 := by
  have h0 : szV zeroV ≤ 100000 := by simp [zeroV, szV]
  unfold playE
  split
  · exact h0
  · split
    · exact h0
    · split
      · exact h0
      · exact build_sz _ _ hc

theorem same_refl {R : Nat → Prop} {w : World} {o : OC} {v : Value} (h : VShows R w o.v v) : sameO o o = true := by
  unfold sameO
  simp [sameV_refl R w o.v v h]

theorem own_one (w : World) (x : Ins) : POwn (w.alloc (.cells (insC x).toArray 84)) (.slice (some ⟨w.heap.size, 0, none⟩) 1 1) [x] :=
  ⟨rfl, .inr ⟨w.heap.size, 1, (insC x).toArray, rfl, Nat.zero_le _, heap_alloc_new w _, Nat.le_refl _, by unfold maxLen; omega, rfl, rfl⟩⟩

attribute [local go_sem] run_store_float

set_option maxRecDepth 100000 in
set_option maxHeartbeats 8000000 in
theorem loops_walk (sm : List Sm) (vl : Value) (m : Nat) (x : S11) (a0 a1 a2 b0 b1 b2 pv av : Value) (w : World) (hsm : SmSees w vl sm) (hl20 : sm.length ≤ 20) (hm : m ≤ 255) (hx : S11Shows w x a0 a1 a2 b0 b1 b2 pv av) (hli : lightS x = true) :
    Calls Try.prog 6 #[vl, .int .u8 m, .agg (s11C x.st a0 a1 a2 b0 b1 b2 pv av)] w fun e w' => e = .returned (.bool true) ∧ Fr (fun _ => False) w w' := by
  obtain ⟨sa, sc, rfl, hz⟩ := hsm.shape
  clear hz
  have HX := Lib.hid hx
  have HSM := Lib.hid hsm
  have HLI := Lib.hid hli
  have hargs : x.args.length ≤ 40 := by
    unfold lightS at hli
    simp at hli
    exact hli.2.2.2
  have HARG := Lib.hid hargs
  clear hx hsm hli hargs
  simp only [s11C]
  go_enter Try.func6, Try.ntmps6
  go_wp2_with fail
  refine (pawake_any _).mono ?_
  rintro e w1 ⟨rfl, f1⟩
  have F1 : Hid (Fr (fun _ => False) w w1 ∧ w1.heap[w.heap.size]? = some (.cells (s11C x.st a0 a1 a2 b0 b1 b2 pv av) 30 (0, 0))) := Lib.hid ⟨((Fr.refl (fun _ => False) _).alloc _).trans f1 (fun _ _ h => h), pbox_kept (heap_alloc_new w _) f1 (fun h => h)⟩
  generalize hn : w.heap.size = n0 at *
  have N0 := Lib.hid hn
  clear f1 hn
  have d20 : decide ((20 : Int) < (sm.length : Int)) = false := by simp; omega
  have HCELLS := Lib.hid (fun wx (f : Fr (fun _ => False) w1 wx) => pbox_kept F1.out.2 f (fun h => h))
  go_upto_region 3 with fail
  have qq := HCELLS.out w1 (Fr.refl _ _)
  have c0 : w1.cell? ⟨n0, 0, none⟩ = some a0 := pcells_row qq 0 _ rfl
  have c1 : w1.cell? ⟨n0, 1, none⟩ = some a1 := pcells_row qq 1 _ rfl
  have c2 : w1.cell? ⟨n0, 2, none⟩ = some a2 := pcells_row qq 2 _ rfl
  have c3 : w1.cell? ⟨n0, 3, none⟩ = some b0 := pcells_row qq 3 _ rfl
  have c4 : w1.cell? ⟨n0, 4, none⟩ = some b1 := pcells_row qq 4 _ rfl
  have c5 : w1.cell? ⟨n0, 5, none⟩ = some b2 := pcells_row qq 5 _ rfl
  have c6 : w1.cell? ⟨n0, 6, none⟩ = some pv := pcells_row qq 6 _ rfl
  have c7 : w1.cell? ⟨n0, 7, none⟩ = some (.int .i64 (x.st 0)) := pcells_row qq 7 _ rfl
  have c8 : w1.cell? ⟨n0, 8, none⟩ = some (.int .i64 (x.st 1)) := pcells_row qq 8 _ rfl
  have c9 : w1.cell? ⟨n0, 9, none⟩ = some (.int .i64 (x.st 2)) := pcells_row qq 9 _ rfl
  have c10 : w1.cell? ⟨n0, 10, none⟩ = some (.int .i64 (x.st 3)) := pcells_row qq 10 _ rfl
  have c11 : w1.cell? ⟨n0, 11, none⟩ = some (.int .i64 (x.st 4)) := pcells_row qq 11 _ rfl
  have c12 : w1.cell? ⟨n0, 12, none⟩ = some (.int .i64 (x.st 5)) := pcells_row qq 12 _ rfl
  have c13 : w1.cell? ⟨n0, 13, none⟩ = some (.int .i64 (x.st 6)) := pcells_row qq 13 _ rfl
  have c14 : w1.cell? ⟨n0, 14, none⟩ = some (.int .i64 (x.st 7)) := pcells_row qq 14 _ rfl
  have c15 : w1.cell? ⟨n0, 15, none⟩ = some av := pcells_row qq 15 _ rfl
  clear qq
  go_wp2_with fail
  refine (slight_any x a0 a1 a2 b0 b1 b2 pv av w1 (HX.out.fr F1.out.1)).mono ?_
  rintro e w2 ⟨rfl, f2⟩
  rw [HLI.out]
  have F2 := Lib.hid f2
  clear f2 c0 c1 c2 c3 c4 c5 c6 c7 c8 c9 c10 c11 c12 c13 c14 c15
  go_wp2_with fail
  refine (program_any sm _ w2 (HSM.out.fr0 (F1.out.1.trans F2.out (fun _ _ h => h)))).mono ?_
  rintro e w3 ⟨v1, l, rfl, t1, ln16, lnm, hf, hc⟩
  obtain ⟨la, lc, rfl, hat⟩ := t1.shape
  have hsees := t1.1.sees hf
  have T1 := Lib.hid (And.intro t1 (And.intro hsees (And.intro hf hc)))
  have HAT := Lib.hid hat
  clear t1 hat hf hc lnm hsees
  go_wp2_with fail
  go_loopg [7, 32] l.length (fun G u7 u32 wr => ∃ (j : Nat) (acc : List Ins), j ≤ l.length ∧ G = l.length - j ∧ u32 = .int .i64 j ∧ Hid (PTold w3 wr u7 acc ∧ BodyOK acc))
  case atStart => exact ⟨0, [], by omega, rfl, rfl, Lib.hid ⟨⟨POwn.nil _, Fr.refl _ _, by simp [Value.ownBlock]⟩, by simp, by simp⟩⟩
  case round =>
    obtain ⟨j, acc, hj, rfl, rfl, HI⟩ := hrel
    obtain ⟨ua, uc, e7, hz7⟩ := HI.out.1.shape
    clear hz7
    subst e7
    by_cases hlt : j < l.length
    · obtain ⟨y, hy⟩ : ∃ y, l[j]? = some y := ⟨_, List.getElem?_eq_getElem hlt⟩
      rcases HAT.out with h00 | ⟨g, rfl, hcap, hgw⟩
      · omega
      have hat : PAt w3 g l := by
        rcases T1.out.2.1 with ⟨h00, _⟩ | ⟨g', cap', e, _, hat⟩
        · subst h00; simp at hlt
        · simp at e
          obtain ⟨rfl, _⟩ := e
          exact hat
      obtain ⟨hfx, c0, c1, c2, c3, c4⟩ := hat j y hy
      have c0 := cell_fr0 HI.out.1.2.1 c0
      have c1 := cell_fr0 HI.out.1.2.1 c1
      have c2 := cell_fr0 HI.out.1.2.1 c2
      have c3 := cell_fr0 HI.out.1.2.1 c3
      have c4 := cell_fr0 HI.out.1.2.1 c4
      have HPL := Lib.hid (fun h8 h9 => plain_of (((checkE_zero l).1 T1.out.2.2.2).2.1 j y hy) hfx h8 h9)
      have HFY := Lib.hid hfx
      have hop := hfx.op
      clear hy hat hfx
      obtain ⟨op, dst, aa, b, n⟩ := y
      dsimp only at *
      have hrel2 : ∀ wy : World, Fr (fun _ => False) wr wy → PTold w3 wy (.slice ua acc.length uc) acc := fun wy f => HI.out.1.fr f
      have HR2 := Lib.hid hrel2
      clear hrel2
      by_cases h9 : op = 9
      · have n9 : ((op : Int) != 9) = false := by simp; omega
        clear h9
        go_wp2_with fail
        go_roundg (l.length - (j + 1))
        case measure => omega
        case rel => exact ⟨j + 1, acc, by omega, rfl, by go_num, Lib.hid ⟨HR2.out _ ((Fr.refl _ _).alloc _), HI.out.2⟩⟩
      · have n9 : ((op : Int) != 9) = true := by simp; omega
        by_cases h8 : op = 8
        · have n8 : ((op : Int) != 8) = false := by simp; omega
          clear h9 h8
          go_wp2_with fail
          go_roundg (l.length - (j + 1))
          case measure => omega
          case rel => exact ⟨j + 1, acc, by omega, rfl, by go_num, Lib.hid ⟨HR2.out _ ((Fr.refl _ _).alloc _), HI.out.2⟩⟩
        · have n8 : ((op : Int) != 8) = true := by simp; omega
          have HY := Lib.hid (HPL.out h8 h9)
          by_cases h4 : acc.length < 4
          · have d4 : decide ((acc.length : Int) < 4) = true := by simp; omega
            clear h9 h8
            go_wp2_with (at_builtin; refine wpList_append_ins rfl (.tmp 49) (.tmp 51) rfl (.slice ua acc.length uc) acc rfl ?own _ [⟨op, dst, aa, b, n⟩] rfl ?src ?len ?grow)
            case own => exact HI.out.1.1.fr (S := fun _ => False) (((Fr.refl _ _).alloc _).alloc _) (fun _ _ h => h)
            case src => exact sees_one (new_two wr _ _) _ HFY.out rfl
            case len => simp; omega
            case grow =>
              intro v' w4 hown' hgrow hcase
              have HO := Lib.hid (HI.out.1.append (((Fr.refl _ _).alloc _).alloc _) hown' hgrow hcase (by omega))
              clear hown' hgrow hcase
              have HB : Hid (BodyOK (acc ++ [⟨op, dst, aa, b, n⟩])) := Lib.hid ⟨by simp; omega, fun z hz => by
                rcases List.mem_append.1 hz with h1 | h1
                · exact HI.out.2.2 z h1
                · rw [List.mem_singleton.1 h1]; exact HY.out⟩
              go_wp2
              go_roundg (l.length - (j + 1))
              case measure => omega
              case rel => exact ⟨j + 1, acc ++ [⟨op, dst, aa, b, n⟩], by omega, rfl, by go_num, Lib.hid ⟨HO.out, HB.out⟩⟩
          · have d4 : decide ((acc.length : Int) < 4) = false := by simp; omega
            clear h9 h8
            go_wp2_with fail
            go_roundg (l.length - (j + 1))
            case measure => omega
            case rel => exact ⟨j + 1, acc, by omega, rfl, by go_num, Lib.hid ⟨HR2.out _ ((Fr.refl _ _).alloc _), HI.out.2⟩⟩
    · obtain rfl : j = l.length := by omega
      by_cases h0 : acc.length = 0
      · have d0 : ((acc.length : Int) == 0) = true := by rw [beq_iff_eq]; omega
        go_wp2_with fail
        go_ret
        exact ⟨rfl, (((F1.out.1.trans F2.out (fun _ _ h => h)).trans T1.out.1.2.1 (fun _ _ h => h)).trans HI.out.1.2.1 (fun _ _ h => h))⟩
      · have d0 : ((acc.length : Int) == 0) = false := beq_eq_false_iff_ne.2 (by omega)
        obtain ⟨k, hk, hk5⟩ : ∃ o : Nat, (m : Int) % 5 = o ∧ o < 5 := ⟨m % 5, by omega, by omega⟩
        have hac : acc.length ≤ 4 := HI.out.2.1
        have wk1 : wrap64 (k : Int) = k := IntWalk.wrap64_in _ (by omega)
        have wk2 : wrap64 (1 + (k : Int)) = 1 + k := IntWalk.wrap64_in _ (by omega)
        have wk3 : IntKind.i16.wrap (1 + (k : Int)) = 1 + k := by simp [IntKind.wrap, IntKind.bits, IntKind.signed]; omega
        have wk4 : IntKind.u8.wrap (acc.length : Int) = acc.length := by simp [IntKind.wrap, IntKind.bits, IntKind.signed]; omega
        have wk5 : IntKind.i64.wrap (k : Int) = k := IntWalk.i64_in _ (by omega)
        have wk6 : IntKind.i64.wrap (1 + (k : Int)) = 1 + k := IntWalk.i64_in _ (by omega)
        have FA := Lib.hid (((F1.out.1.trans F2.out (fun _ _ h => h)).trans T1.out.1.2.1 (fun _ _ h => h)))
        have FA1 := Lib.hid ((F2.out.trans T1.out.1.2.1 (fun _ _ h => h)).trans HI.out.1.2.1 (fun _ _ h => h))
        have SA := Lib.hid (fun wx (f : Fr (fun _ => False) wr wx) => (HI.out.1.1.sees (fun z hz => (HI.out.2.2 z hz).1)).fr f (fun _ _ h => h))
        go_wp2_with (at_builtin; refine wpList_append_ins rfl (.tmp 67) (.tmp 68) rfl (.slice (some ⟨wr.heap.size, 0, none⟩) 1 1) [loopI acc.length (1 + k)] rfl (own_one wr _) (.slice ua acc.length uc) acc rfl ?src ?len ?grow)
        case src => exact SA.out _ ((Fr.refl _ _).alloc _)
        case len => simp; omega
        case grow =>
          intro v2 w4 hown hgrow hcase
          obtain ⟨xa, xc, e2⟩ := slice_of_own hown
          subst e2
          have f4 : Fr (fun _ => False) wr w4 := fr_append hgrow
          have hfl : ∀ z ∈ loopI acc.length (1 + k) :: acc, z.Fits := fun z hz => by
            rcases List.mem_cons.1 hz with rfl | h1
            · exact ⟨by simp [loopI], by simp [loopI], by simp [loopI], by simp [loopI]; omega, by simp [loopI]; omega, by simp [loopI]; omega⟩
            · exact (HI.out.2.2 z h1).1
          have hsl := (hown.sees hfl)
          have hll : (loopI acc.length (1 + k) :: acc).length ≤ 5 := by simp; omega
          have HLS := Lib.hid (fun (t a : KT) (T : VT) (st : Nat → Int) => loops_same t a T st acc HI.out.2.2 (by omega) hac (1 + (k : Int)) (by omega))
          have hts : (1 + (k : Int)).toNat = k + 1 := by omega
          rw [hts] at HLS
          have F4 := Lib.hid f4
          have HFL := Lib.hid hfl
          generalize hlp : (loopI acc.length (1 + k) :: acc) = lp at *
          have HSL := Lib.hid (And.intro hsl hll)
          clear hown hgrow hcase f4 hfl hsl hll hts hlp wk1 wk2 wk3 wk4 wk5 wk6
          go_wp2_with fail
          obtain ⟨wo, rfl⟩ : ∃ wo : World, wo = wr := ⟨_, rfl⟩
          go_loopg [12, 71] (k + 1) (fun G u12 u71 wr2 => ∃ (i : Nat), i ≤ k + 1 ∧ G = k + 1 - i ∧ u71 = .int .i64 i ∧ Hid (PTold w4 wr2 u12 (flatN acc i)))
          case atStart => exact ⟨0, by omega, rfl, rfl, Lib.hid ⟨POwn.nil _, Fr.refl _ _, by simp [Value.ownBlock]⟩⟩
          case round =>
            obtain ⟨i, hi, rfl, rfl, HJ⟩ := hrel
            by_cases hlt2 : i < k + 1
            · have dl : decide ((i : Int) < 1 + (k : Int)) = true := by simp; omega
              have HLN := Lib.hid (show (flatN acc i).length + acc.length ≤ 4000 by
                rw [flatN_length]
                have : i * acc.length ≤ 5 * 4 := Nat.mul_le_mul (by omega) hac
                omega)
              have HFS := Lib.hid (flatN_succ acc i)
              generalize flatN acc i = fi at *
              go_wp2_with (at_builtin; refine wpList_append_ins rfl (.tmp 73) (.tmp 74) rfl u12 fi rfl ?own _ acc rfl ?src2 ?len2 ?grow2)
              case own => exact HJ.out.1
              case src2 => exact SA.out _ (F4.out.trans HJ.out.2.1 (fun _ _ h => h))
              case len2 => exact HLN.out
              case grow2 =>
                intro v' w5 hown' hgrow hcase
                have HO := Lib.hid (HJ.out.append (Fr.refl _ _) hown' hgrow hcase (by omega))
                clear hown' hgrow hcase
                go_wp2
                go_roundg (k + 1 - (i + 1))
                case measure => omega
                case rel => exact ⟨i + 1, by omega, rfl, by go_num, Lib.hid (by rw [HFS.out]; exact HO.out)⟩
            · obtain rfl : i = k + 1 := by omega
              have dl : decide (((k + 1 : Nat) : Int) < 1 + (k : Int)) = false := by simp; omega
              obtain ⟨fa, fc, e12, hz12⟩ := HJ.out.shape
              clear hz12
              have hflat := HJ.out.1.sees (fun z hz => (HI.out.2.2 z (flatN_mem hz)).1)
              have hfll : (flatN acc (k + 1)).length ≤ 20 := by
                rw [flatN_length]
                have : (k + 1) * acc.length ≤ 5 * 4 := Nat.mul_le_mul (by omega) hac
                omega
              have hflf : ∀ z ∈ flatN acc (k + 1), z.Fits := fun z hz => (HI.out.2.2 z (flatN_mem hz)).1
              have FJ := Lib.hid HJ.out.2.1
              rw [e12] at hflat
              subst e12
              generalize hfn : (flatN acc (k + 1)).length = fn at *
              have HFLAT := Lib.hid (And.intro hflat (And.intro hfll (And.intro hflf hfn)))
              generalize flatN acc (k + 1) = flat at *
              clear hflat hfll hflf hfn HJ
              have FX1 : Hid (Fr (fun _ => False) w1 wr) := Lib.hid ((FA1.out.trans F4.out (fun _ _ h => h)).trans FJ.out (fun _ _ h => h))
              have FX0 : Hid (Fr (fun _ => False) w wr) := Lib.hid (F1.out.1.trans FX1.out (fun _ _ h => h))
              have qq := HCELLS.out wr FX1.out
              have c0 : wr.cell? ⟨n0, 0, none⟩ = some a0 := pcells_row qq 0 _ rfl
              have c1 : wr.cell? ⟨n0, 1, none⟩ = some a1 := pcells_row qq 1 _ rfl
              have c2 : wr.cell? ⟨n0, 2, none⟩ = some a2 := pcells_row qq 2 _ rfl
              have c3 : wr.cell? ⟨n0, 3, none⟩ = some b0 := pcells_row qq 3 _ rfl
              have c4 : wr.cell? ⟨n0, 4, none⟩ = some b1 := pcells_row qq 4 _ rfl
              have c5 : wr.cell? ⟨n0, 5, none⟩ = some b2 := pcells_row qq 5 _ rfl
              have c6 : wr.cell? ⟨n0, 6, none⟩ = some pv := pcells_row qq 6 _ rfl
              have c7 : wr.cell? ⟨n0, 7, none⟩ = some (.int .i64 (x.st 0)) := pcells_row qq 7 _ rfl
              have c8 : wr.cell? ⟨n0, 8, none⟩ = some (.int .i64 (x.st 1)) := pcells_row qq 8 _ rfl
              have c9 : wr.cell? ⟨n0, 9, none⟩ = some (.int .i64 (x.st 2)) := pcells_row qq 9 _ rfl
              have c10 : wr.cell? ⟨n0, 10, none⟩ = some (.int .i64 (x.st 3)) := pcells_row qq 10 _ rfl
              have c11 : wr.cell? ⟨n0, 11, none⟩ = some (.int .i64 (x.st 4)) := pcells_row qq 11 _ rfl
              have c12 : wr.cell? ⟨n0, 12, none⟩ = some (.int .i64 (x.st 5)) := pcells_row qq 12 _ rfl
              have c13 : wr.cell? ⟨n0, 13, none⟩ = some (.int .i64 (x.st 6)) := pcells_row qq 13 _ rfl
              have c14 : wr.cell? ⟨n0, 14, none⟩ = some (.int .i64 (x.st 7)) := pcells_row qq 14 _ rfl
              have c15 : wr.cell? ⟨n0, 15, none⟩ = some av := pcells_row qq 15 _ rfl
              clear qq
              go_wp2_with fail
              refine (body_make x a0 a1 a2 b0 b1 b2 pv av wr (HX.out.fr FX0.out) HARG.out).mono ?_
              rintro e w6 ⟨⟨x0, x1, x2, x3, y0, y1, y2, y3, pb, lb, v0, v1, v2, v3, rfl, hT, hA, hlb, hpb, hkb, hV⟩, f6⟩
              obtain ⟨r0, r1, r2, r3, r4, r5, r6, r7, eT⟩ := hT.four
              obtain ⟨s0, s1, s2, s3, s4, s5, s6, s7, eA⟩ := hA.four
              obtain ⟨zn, zf, zs, za, zc, zcap, eV⟩ := hV.lit
              obtain ⟨ua', uc', eP, hzP⟩ := hpb.shape
              clear hzP
              simp at eT eA eV
              obtain ⟨rfl, rfl, rfl, rfl⟩ := eT
              obtain ⟨rfl, rfl, rfl, rfl⟩ := eA
              obtain ⟨rfl, rfl, rfl, rfl⟩ := eV
              subst eP
              have F6 := Lib.hid f6
              have HTAV := Lib.hid (And.intro hT (And.intro hA hV))
              clear hT hA hlb hpb hkb hV f6 c0 c1 c2 c3 c4 c5 c6 c7 c8 c9 c10 c11 c12 c13 c14 c15
              obtain ⟨w7, hw7⟩ : ∃ w7, w7 = (w6.alloc (.cells #[.int .u8 r0, .int .i64 r1, .slice r2 r3 r4, .slice r5 r6 r7, .int .u8 s0, .int .i64 s1, .slice s2 s3 s4, .slice s5 s6 s7, .slice ua' lb.length uc'] 40)).alloc (.cells #[.int .i64 zn, .float .f64 zf, .string zs, .slice za zc zcap] 44) := ⟨_, rfl⟩
              have F7 : Hid (Fr (fun _ => False) w6 w7 ∧ w7.heap[w6.heap.size]? = some (.cells #[.int .u8 r0, .int .i64 r1, .slice r2 r3 r4, .slice r5 r6 r7, .int .u8 s0, .int .i64 s1, .slice s2 s3 s4, .slice s5 s6 s7, .slice ua' lb.length uc'] 40 (0, 0)) ∧ w7.heap[w6.heap.size + 1]? = some (.cells #[.int .i64 zn, .float .f64 zf, .string zs, .slice za zc zcap] 44 (0, 0))) := Lib.hid (by
                have f : ∀ (w : World) (o : Obj), Fr (fun _ => False) w (w.alloc o) := fun w o => (Fr.refl _ _).alloc _
                rw [hw7]
                exact ⟨(f _ _).alloc _, pbox_kept (heap_alloc_new _ _) (f _ _) (fun h => h), new_two _ _ _⟩)
              go_upto_region 22 with fail
              rw [← hw7]
              clear hw7
              generalize hgb : w6.heap.size = gb at *
              have GB := Lib.hid hgb
              clear hgb
              have qd := pcells_row F7.out.2.1 8 _ rfl
              have zd : w7.frozen? ⟨gb, 8, none⟩ = false := by have := F7.out.2.1; simp [World.frozen?, this]
              obtain ⟨w8, hw8⟩ : ∃ w8, w8 = w7.setCell ⟨gb, 8, none⟩ (.slice xa lp.length xc) := ⟨_, rfl⟩
              have F8 : Hid (Fr (fun k => k = gb) w7 w8 ∧ w8.heap[gb]? = some (.cells #[.int .u8 r0, .int .i64 r1, .slice r2 r3 r4, .slice r5 r6 r7, .int .u8 s0, .int .i64 s1, .slice s2 s3 s4, .slice s5 s6 s7, .slice xa lp.length xc] 40 (0, 0)) ∧ w8.heap[gb + 1]? = some (.cells #[.int .i64 zn, .float .f64 zf, .string zs, .slice za zc zcap] 44 (0, 0))) := Lib.hid (by
                have fs : Fr (fun k => k = gb) w7 w8 := by rw [hw8]; exact Fr.setCell (S := fun k => k = gb) (p := ⟨gb, 8, none⟩) (Fr.refl _ _) (fun _ => rfl) _
                refine ⟨fs, ?_, pbox_kept F7.out.2.2 fs (fun h => by omega)⟩
                rw [hw8]; exact psetCell_row 8 _ F7.out.2.1)
              go_upto_region 23 with fail
              rw [← hw8]
              clear hw8 qd zd
              have hgbw : w1.heap.size ≤ gb ∧ wr.heap.size ≤ gb ∧ w4.heap.size ≤ gb := by have := FX1.out.size; have := F6.out.size; have := GB.out; have := FJ.out.size; omega
              have GBW := Lib.hid hgbw
              have F68 : Hid (Fr (fun k => k = gb) w6 w8) := Lib.hid ((F7.out.1.mono (fun _ _ h => h.elim)).trans F8.out.1 (fun _ _ h => h))
              have FX8 : Hid (Fr (fun _ => False) wr w8) := Lib.hid (Fr.new F6.out (fun k hk => by have := GB.out; omega) F68.out)
              have hn1 : n0 < w1.heap.size := lt_of_block F1.out.2
              have HN1 := Lib.hid hn1
              clear hgbw hn1
              have qq := HCELLS.out w8 (FX1.out.trans FX8.out (fun _ _ h => h))
              have c7 : w8.cell? ⟨n0, 7, none⟩ = some (.int .i64 (x.st 0)) := pcells_row qq 7 _ rfl
              have c8 : w8.cell? ⟨n0, 8, none⟩ = some (.int .i64 (x.st 1)) := pcells_row qq 8 _ rfl
              have c9 : w8.cell? ⟨n0, 9, none⟩ = some (.int .i64 (x.st 2)) := pcells_row qq 9 _ rfl
              have c10 : w8.cell? ⟨n0, 10, none⟩ = some (.int .i64 (x.st 3)) := pcells_row qq 10 _ rfl
              have c11 : w8.cell? ⟨n0, 11, none⟩ = some (.int .i64 (x.st 4)) := pcells_row qq 11 _ rfl
              have c12 : w8.cell? ⟨n0, 12, none⟩ = some (.int .i64 (x.st 5)) := pcells_row qq 12 _ rfl
              have c13 : w8.cell? ⟨n0, 13, none⟩ = some (.int .i64 (x.st 6)) := pcells_row qq 13 _ rfl
              have c14 : w8.cell? ⟨n0, 14, none⟩ = some (.int .i64 (x.st 7)) := pcells_row qq 14 _ rfl
              clear qq
              have qq := F8.out.2.1
              have d0 : w8.cell? ⟨gb, 0, none⟩ = some (.int .u8 r0) := pcells_row qq 0 _ rfl
              have d1 : w8.cell? ⟨gb, 1, none⟩ = some (.int .i64 r1) := pcells_row qq 1 _ rfl
              have d2 : w8.cell? ⟨gb, 2, none⟩ = some (.slice r2 r3 r4) := pcells_row qq 2 _ rfl
              have d3 : w8.cell? ⟨gb, 3, none⟩ = some (.slice r5 r6 r7) := pcells_row qq 3 _ rfl
              have d4 : w8.cell? ⟨gb, 4, none⟩ = some (.int .u8 s0) := pcells_row qq 4 _ rfl
              have d5 : w8.cell? ⟨gb, 5, none⟩ = some (.int .i64 s1) := pcells_row qq 5 _ rfl
              have d6 : w8.cell? ⟨gb, 6, none⟩ = some (.slice s2 s3 s4) := pcells_row qq 6 _ rfl
              have d7 : w8.cell? ⟨gb, 7, none⟩ = some (.slice s5 s6 s7) := pcells_row qq 7 _ rfl
              have d8 : w8.cell? ⟨gb, 8, none⟩ = some (.slice xa lp.length xc) := pcells_row qq 8 _ rfl
              clear qq
              have qq := F8.out.2.2
              have e0 : w8.cell? ⟨gb + 1, 0, none⟩ = some (.int .i64 zn) := pcells_row qq 0 _ rfl
              have e1 : w8.cell? ⟨gb + 1, 1, none⟩ = some (.float .f64 zf) := pcells_row qq 1 _ rfl
              have e2 : w8.cell? ⟨gb + 1, 2, none⟩ = some (.string zs) := pcells_row qq 2 _ rfl
              have e3 : w8.cell? ⟨gb + 1, 3, none⟩ = some (.slice za zc zcap) := pcells_row qq 3 _ rfl
              clear qq
              have P1 := Lib.hid (Play_any (fun k => k ≠ gb) (typeE [] x.takes 4) (typeE [] x.answers 4) lp (BuildE x.args (typeE [] x.takes 4)) x.st _ _ _ _ _ _ _ _ _ _ _ _ _ w8 (HSL.out.1.fr (FJ.out.trans FX8.out (fun _ _ h => h)) (fun _ _ h => h)) HFL.out (by have := HSL.out.2; omega)
                (Shows.fr F68.out (fun k hk h => hk.1 h) _ _ (Shows.mono (S := fun k => k ≠ gb ∧ True) (fun k hk1 hk => ⟨by have := GB.out; omega, trivial⟩) _ _ HTAV.out.1) |> Shows.mono (fun k _ hk => hk.1) _ _)
                (Shows.fr F68.out (fun k hk h => hk.1 h) _ _ (Shows.mono (S := fun k => k ≠ gb ∧ True) (fun k hk1 hk => ⟨by have := GB.out; omega, trivial⟩) _ _ HTAV.out.2.1) |> Shows.mono (fun k _ hk => hk.1) _ _)
                (VShows.fr F68.out (fun k hk h => hk.1 h) _ _ (VShows.mono (S := fun k => k ≠ gb ∧ True) (fun k hk1 hk => ⟨by have := GB.out; omega, trivial⟩) _ _ HTAV.out.2.2) |> VShows.mono (fun k _ hk => hk.1) _ _)
                (build_sz _ _ (type_cost _)) (type_cost _) (fun l => (build_type l x.answers 4 (by omega) (by omega) (NShows.vok _ _ HX.out.a)).2) HX.out.s)
              rw [HLS.out] at P1
              generalize hX : playE (typeE [] x.takes 4) (typeE [] x.answers 4) flat (BuildE x.args (typeE [] x.takes 4)) x.st = X at P1
              have HXX := Lib.hid hX
              clear hX
              obtain ⟨sx, ox⟩ := X
              simp only [stC] at P1
              go_wp2_with fail
              refine P1.out.mono ?_
              rintro e w9 ⟨⟨ov1, rfl, ho1⟩, f9⟩
              obtain ⟨t0, t1, t2, t3, rfl, hv1⟩ := ho1
              obtain ⟨pn, pf, ps, pa, pc, pp, e4⟩ := hv1.lit
              simp at e4
              obtain ⟨rfl, rfl, rfl, rfl⟩ := e4
              have F9 := Lib.hid (And.intro f9 hv1)
              clear f9 hv1 c7 c8 c9 c10 c11 c12 c13 c14 d0 d1 d2 d3 d4 d5 d6 d7 d8 e0 e1 e2 e3
              simp only [stC]
              obtain ⟨w10, hw10⟩ : ∃ w10, w10 = (w9.alloc (.cells #[.int .i64 (sx 0), .int .i64 (sx 1), .int .i64 (sx 2), .int .i64 (sx 3), .int .i64 (sx 4), .int .i64 (sx 5), .int .i64 (sx 6), .int .i64 (sx 7)] 27)).alloc (.cells #[.int .i64 ox.e, .int .i64 ox.n, .int .i64 pn, .float .f64 pf, .string ps, .slice pa pc pp] 65) := ⟨_, rfl⟩
              have F10 : Hid (Fr (fun _ => False) w9 w10 ∧ w10.heap[w9.heap.size]? = some (.cells #[.int .i64 (sx 0), .int .i64 (sx 1), .int .i64 (sx 2), .int .i64 (sx 3), .int .i64 (sx 4), .int .i64 (sx 5), .int .i64 (sx 6), .int .i64 (sx 7)] 27 (0, 0)) ∧ w10.heap[w9.heap.size + 1]? = some (.cells #[.int .i64 ox.e, .int .i64 ox.n, .int .i64 pn, .float .f64 pf, .string ps, .slice pa pc pp] 65 (0, 0))) := Lib.hid (by
                have f : ∀ (w : World) (o : Obj), Fr (fun _ => False) w (w.alloc o) := fun w o => (Fr.refl _ _).alloc _
                rw [hw10]
                exact ⟨(f _ _).alloc _, pbox_kept (heap_alloc_new _ _) (f _ _) (fun h => h), new_two _ _ _⟩)
              go_upto_region 24 with fail
              rw [← hw10]
              clear hw10
              generalize hg9 : w9.heap.size = g9 at *
              have G9 := Lib.hid hg9
              clear hg9
              have F810 := Lib.hid (F9.out.1.trans F10.out.1 (fun _ _ h => h))
              have q10 := pbox_kept F8.out.2.1 F810.out (fun h => h)
              have qd := pcells_row q10 8 _ rfl
              have zd : w10.frozen? ⟨gb, 8, none⟩ = false := by simp [World.frozen?, q10]
              obtain ⟨w11, hw11⟩ : ∃ w11, w11 = w10.setCell ⟨gb, 8, none⟩ (.slice fa fn fc) := ⟨_, rfl⟩
              have F11 : Hid (Fr (fun k => k = gb) w10 w11 ∧ w11.heap[gb]? = some (.cells #[.int .u8 r0, .int .i64 r1, .slice r2 r3 r4, .slice r5 r6 r7, .int .u8 s0, .int .i64 s1, .slice s2 s3 s4, .slice s5 s6 s7, .slice fa fn fc] 40 (0, 0)) ∧ w11.heap[gb + 1]? = some (.cells #[.int .i64 zn, .float .f64 zf, .string zs, .slice za zc zcap] 44 (0, 0))) := Lib.hid (by
                have fs : Fr (fun k => k = gb) w10 w11 := by rw [hw11]; exact Fr.setCell (S := fun k => k = gb) (p := ⟨gb, 8, none⟩) (Fr.refl _ _) (fun _ => rfl) _
                refine ⟨fs, ?_, pbox_kept (pbox_kept F8.out.2.2 F810.out (fun h => h)) fs (fun h => by omega)⟩
                rw [hw11]; exact psetCell_row 8 _ q10)
              clear q10
              go_upto_region 25 with fail
              rw [← hw11]
              clear hw11 qd zd
              have F611 : Hid (Fr (fun k => k = gb) w6 w11) := Lib.hid ((F68.out.trans F810.out (fun _ _ h => h.elim)).trans F11.out.1 (fun _ _ h => h))
              have FX11 : Hid (Fr (fun _ => False) wr w11) := Lib.hid (Fr.new (FX8.out.trans F810.out (fun _ _ h => h)) (fun k hk => by have := GBW.out; omega) F11.out.1)
              have qq := HCELLS.out w11 (FX1.out.trans FX11.out (fun _ _ h => h))
              have c7 : w11.cell? ⟨n0, 7, none⟩ = some (.int .i64 (x.st 0)) := pcells_row qq 7 _ rfl
              have c8 : w11.cell? ⟨n0, 8, none⟩ = some (.int .i64 (x.st 1)) := pcells_row qq 8 _ rfl
              have c9 : w11.cell? ⟨n0, 9, none⟩ = some (.int .i64 (x.st 2)) := pcells_row qq 9 _ rfl
              have c10 : w11.cell? ⟨n0, 10, none⟩ = some (.int .i64 (x.st 3)) := pcells_row qq 10 _ rfl
              have c11 : w11.cell? ⟨n0, 11, none⟩ = some (.int .i64 (x.st 4)) := pcells_row qq 11 _ rfl
              have c12 : w11.cell? ⟨n0, 12, none⟩ = some (.int .i64 (x.st 5)) := pcells_row qq 12 _ rfl
              have c13 : w11.cell? ⟨n0, 13, none⟩ = some (.int .i64 (x.st 6)) := pcells_row qq 13 _ rfl
              have c14 : w11.cell? ⟨n0, 14, none⟩ = some (.int .i64 (x.st 7)) := pcells_row qq 14 _ rfl
              clear qq
              have qq := F11.out.2.1
              have d0 : w11.cell? ⟨gb, 0, none⟩ = some (.int .u8 r0) := pcells_row qq 0 _ rfl
              have d1 : w11.cell? ⟨gb, 1, none⟩ = some (.int .i64 r1) := pcells_row qq 1 _ rfl
              have d2 : w11.cell? ⟨gb, 2, none⟩ = some (.slice r2 r3 r4) := pcells_row qq 2 _ rfl
              have d3 : w11.cell? ⟨gb, 3, none⟩ = some (.slice r5 r6 r7) := pcells_row qq 3 _ rfl
              have d4 : w11.cell? ⟨gb, 4, none⟩ = some (.int .u8 s0) := pcells_row qq 4 _ rfl
              have d5 : w11.cell? ⟨gb, 5, none⟩ = some (.int .i64 s1) := pcells_row qq 5 _ rfl
              have d6 : w11.cell? ⟨gb, 6, none⟩ = some (.slice s2 s3 s4) := pcells_row qq 6 _ rfl
              have d7 : w11.cell? ⟨gb, 7, none⟩ = some (.slice s5 s6 s7) := pcells_row qq 7 _ rfl
              have d8 : w11.cell? ⟨gb, 8, none⟩ = some (.slice fa fn fc) := pcells_row qq 8 _ rfl
              clear qq
              have qq := F11.out.2.2
              have e0 : w11.cell? ⟨gb + 1, 0, none⟩ = some (.int .i64 zn) := pcells_row qq 0 _ rfl
              have e1 : w11.cell? ⟨gb + 1, 1, none⟩ = some (.float .f64 zf) := pcells_row qq 1 _ rfl
              have e2 : w11.cell? ⟨gb + 1, 2, none⟩ = some (.string zs) := pcells_row qq 2 _ rfl
              have e3 : w11.cell? ⟨gb + 1, 3, none⟩ = some (.slice za zc zcap) := pcells_row qq 3 _ rfl
              clear qq
              have P2 := Lib.hid (Play_any (fun k => k ≠ gb) (typeE [] x.takes 4) (typeE [] x.answers 4) flat (BuildE x.args (typeE [] x.takes 4)) x.st _ _ _ _ _ _ _ _ _ _ _ _ _ w11 (HFLAT.out.1.fr FX11.out (fun _ _ h => h)) HFLAT.out.2.2.1 (by have h1 := HFLAT.out.2.1; have h2 := HFLAT.out.2.2.2; omega)
                (Shows.fr F611.out (fun k hk h => hk.1 h) _ _ (Shows.mono (S := fun k => k ≠ gb ∧ True) (fun k hk1 hk => ⟨by have := GB.out; omega, trivial⟩) _ _ HTAV.out.1) |> Shows.mono (fun k _ hk => hk.1) _ _)
                (Shows.fr F611.out (fun k hk h => hk.1 h) _ _ (Shows.mono (S := fun k => k ≠ gb ∧ True) (fun k hk1 hk => ⟨by have := GB.out; omega, trivial⟩) _ _ HTAV.out.2.1) |> Shows.mono (fun k _ hk => hk.1) _ _)
                (VShows.fr F611.out (fun k hk h => hk.1 h) _ _ (VShows.mono (S := fun k => k ≠ gb ∧ True) (fun k hk1 hk => ⟨by have := GB.out; omega, trivial⟩) _ _ HTAV.out.2.2) |> VShows.mono (fun k _ hk => hk.1) _ _)
                (build_sz _ _ (type_cost _)) (type_cost _) (fun l => (build_type l x.answers 4 (by omega) (by omega) (NShows.vok _ _ HX.out.a)).2) HX.out.s)
              rw [HXX.out] at P2
              simp only [stC] at P2
              go_wp2_with fail
              refine P2.out.mono ?_
              rintro e w12 ⟨⟨ov2, rfl, ho2⟩, f12⟩
              obtain ⟨t0, t1, t2, t3, rfl, hv2⟩ := ho2
              obtain ⟨qn, qf, qs, qa, qc, qp, e4⟩ := hv2.lit
              simp at e4
              obtain ⟨rfl, rfl, rfl, rfl⟩ := e4
              have F12 := Lib.hid (And.intro f12 hv2)
              clear f12 hv2 c7 c8 c9 c10 c11 c12 c13 c14 d0 d1 d2 d3 d4 d5 d6 d7 d8 e0 e1 e2 e3
              simp only [stC]
              obtain ⟨w13, hw13⟩ : ∃ w13, w13 = (w12.alloc (.cells #[.int .i64 (sx 0), .int .i64 (sx 1), .int .i64 (sx 2), .int .i64 (sx 3), .int .i64 (sx 4), .int .i64 (sx 5), .int .i64 (sx 6), .int .i64 (sx 7)] 27)).alloc (.cells #[.int .i64 ox.e, .int .i64 ox.n, .int .i64 qn, .float .f64 qf, .string qs, .slice qa qc qp] 65) := ⟨_, rfl⟩
              have F13 : Hid (Fr (fun _ => False) w12 w13 ∧ w13.heap[w12.heap.size]? = some (.cells #[.int .i64 (sx 0), .int .i64 (sx 1), .int .i64 (sx 2), .int .i64 (sx 3), .int .i64 (sx 4), .int .i64 (sx 5), .int .i64 (sx 6), .int .i64 (sx 7)] 27 (0, 0)) ∧ w13.heap[w12.heap.size + 1]? = some (.cells #[.int .i64 ox.e, .int .i64 ox.n, .int .i64 qn, .float .f64 qf, .string qs, .slice qa qc qp] 65 (0, 0))) := Lib.hid (by
                have f : ∀ (w : World) (o : Obj), Fr (fun _ => False) w (w.alloc o) := fun w o => (Fr.refl _ _).alloc _
                rw [hw13]
                exact ⟨(f _ _).alloc _, pbox_kept (heap_alloc_new _ _) (f _ _) (fun h => h), new_two _ _ _⟩)
              go_upto_region 26 with fail
              rw [← hw13]
              clear hw13
              generalize hg12 : w12.heap.size = g12 at *
              have G12 := Lib.hid hg12
              clear hg12
              have F1113 := Lib.hid (F12.out.1.trans F13.out.1 (fun _ _ h => h))
              have hgne : g9 ≠ gb ∧ g9 + 1 ≠ gb := by have := G9.out; have := lt_of_block F8.out.2.1; have := F9.out.1.size; omega
              have GNE := Lib.hid hgne
              clear hgne
              have qq := pbox_kept (pbox_kept F10.out.2.1 F11.out.1 (fun h => GNE.out.1 h)) F1113.out (fun h => h)
              have c0 : w13.cell? ⟨g9, 0, none⟩ = some (.int .i64 (sx 0)) := pcells_row qq 0 _ rfl
              have c1 : w13.cell? ⟨g9, 1, none⟩ = some (.int .i64 (sx 1)) := pcells_row qq 1 _ rfl
              have c2 : w13.cell? ⟨g9, 2, none⟩ = some (.int .i64 (sx 2)) := pcells_row qq 2 _ rfl
              have c3 : w13.cell? ⟨g9, 3, none⟩ = some (.int .i64 (sx 3)) := pcells_row qq 3 _ rfl
              have c4 : w13.cell? ⟨g9, 4, none⟩ = some (.int .i64 (sx 4)) := pcells_row qq 4 _ rfl
              have c5 : w13.cell? ⟨g9, 5, none⟩ = some (.int .i64 (sx 5)) := pcells_row qq 5 _ rfl
              have c6 : w13.cell? ⟨g9, 6, none⟩ = some (.int .i64 (sx 6)) := pcells_row qq 6 _ rfl
              have c7 : w13.cell? ⟨g9, 7, none⟩ = some (.int .i64 (sx 7)) := pcells_row qq 7 _ rfl
              clear qq
              have qq := pbox_kept (pbox_kept F10.out.2.2 F11.out.1 (fun h => GNE.out.2 h)) F1113.out (fun h => h)
              have d0 : w13.cell? ⟨g9 + 1, 0, none⟩ = some (.int .i64 ox.e) := pcells_row qq 0 _ rfl
              have d1 : w13.cell? ⟨g9 + 1, 1, none⟩ = some (.int .i64 ox.n) := pcells_row qq 1 _ rfl
              have d2 : w13.cell? ⟨g9 + 1, 2, none⟩ = some (.int .i64 pn) := pcells_row qq 2 _ rfl
              have d3 : w13.cell? ⟨g9 + 1, 3, none⟩ = some (.float .f64 pf) := pcells_row qq 3 _ rfl
              have d4 : w13.cell? ⟨g9 + 1, 4, none⟩ = some (.string ps) := pcells_row qq 4 _ rfl
              have d5 : w13.cell? ⟨g9 + 1, 5, none⟩ = some (.slice pa pc pp) := pcells_row qq 5 _ rfl
              clear qq
              have qq := F13.out.2.1
              have e0 : w13.cell? ⟨g12, 0, none⟩ = some (.int .i64 (sx 0)) := pcells_row qq 0 _ rfl
              have e1 : w13.cell? ⟨g12, 1, none⟩ = some (.int .i64 (sx 1)) := pcells_row qq 1 _ rfl
              have e2 : w13.cell? ⟨g12, 2, none⟩ = some (.int .i64 (sx 2)) := pcells_row qq 2 _ rfl
              have e3 : w13.cell? ⟨g12, 3, none⟩ = some (.int .i64 (sx 3)) := pcells_row qq 3 _ rfl
              have e4 : w13.cell? ⟨g12, 4, none⟩ = some (.int .i64 (sx 4)) := pcells_row qq 4 _ rfl
              have e5 : w13.cell? ⟨g12, 5, none⟩ = some (.int .i64 (sx 5)) := pcells_row qq 5 _ rfl
              have e6 : w13.cell? ⟨g12, 6, none⟩ = some (.int .i64 (sx 6)) := pcells_row qq 6 _ rfl
              have e7 : w13.cell? ⟨g12, 7, none⟩ = some (.int .i64 (sx 7)) := pcells_row qq 7 _ rfl
              clear qq
              have qq := F13.out.2.2
              have k0 : w13.cell? ⟨g12 + 1, 0, none⟩ = some (.int .i64 ox.e) := pcells_row qq 0 _ rfl
              have k1 : w13.cell? ⟨g12 + 1, 1, none⟩ = some (.int .i64 ox.n) := pcells_row qq 1 _ rfl
              have k2 : w13.cell? ⟨g12 + 1, 2, none⟩ = some (.int .i64 qn) := pcells_row qq 2 _ rfl
              have k3 : w13.cell? ⟨g12 + 1, 3, none⟩ = some (.float .f64 qf) := pcells_row qq 3 _ rfl
              have k4 : w13.cell? ⟨g12 + 1, 4, none⟩ = some (.string qs) := pcells_row qq 4 _ rfl
              have k5 : w13.cell? ⟨g12 + 1, 5, none⟩ = some (.slice qa qc qp) := pcells_row qq 5 _ rfl
              clear qq
              have heq : ∀ w, (Op.equalIn 10000 27 (.agg #[.int .i64 (sx 0), .int .i64 (sx 1), .int .i64 (sx 2), .int .i64 (sx 3), .int .i64 (sx 4), .int .i64 (sx 5), .int .i64 (sx 6), .int .i64 (sx 7)]) (.agg #[.int .i64 (sx 0), .int .i64 (sx 1), .int .i64 (sx 2), .int .i64 (sx 3), .int .i64 (sx 4), .int .i64 (sx 5), .int .i64 (sx 6), .int .i64 (sx 7)])).run Try.prog w = .ok true w := fun w => by
                have := equal_states 9998 sx sx w
                rw [(stEq_iff sx sx).2 (fun _ _ => rfl)] at this
                exact this
              have hs1 : VShows (fun _ => True) w13 ox.v (.agg #[.int .i64 pn, .float .f64 pf, .string ps, .slice pa pc pp]) := VShows.mono (fun _ _ _ => trivial) _ _ (VShows.fr F1113.out (fun _ _ h => h) _ _ (VShows.fr F11.out.1 (fun k hk h => by have := hk; have := lt_of_block F8.out.2.1; omega) _ _ (VShows.fr F10.out.1 (fun _ _ h => h) _ _ F9.out.2)))
              have hs2 : VShows (fun _ => True) w13 ox.v (.agg #[.int .i64 qn, .float .f64 qf, .string qs, .slice qa qc qp]) := VShows.mono (fun _ _ _ => trivial) _ _ (VShows.fr F13.out.1 (fun _ _ h => h) _ _ F12.out.2)
              have hsz : szV ox.v ≤ 100000 := by
                have := play_sz (typeE [] x.takes 4) (typeE [] x.answers 4) flat (BuildE x.args (typeE [] x.takes 4)) x.st (type_cost _)
                rw [HXX.out] at this
                exact this
              have hsame := psame_any (fun _ => True) ox ox _ _ w13 ⟨_, _, _, _, rfl, hs1⟩ ⟨_, _, _, _, rfl, hs2⟩ hsz
              rw [same_refl hs1] at hsame
              have HSM2 := Lib.hid hsame
              clear hsame hs1 hs2 hsz
              go_wp2_with fail
              refine HSM2.out.mono ?_
              rintro e w14 ⟨rfl, f14⟩
              go_wp2_with fail
              go_ret
              exact ⟨rfl, ((FX0.out.trans FX11.out (fun _ _ h => h)).trans F1113.out (fun _ _ h => h)).trans f14 (fun _ _ h => h)⟩

end Go.Proofs.Ytedadjlmmnikaaa

/-
  The laws' arguments opened: a Small.
-/
namespace Go.Proofs.Ytedadjlmmnikaaa
open Go.ChangeShapes Go.WideShapes Go.ChangeAt Go.RowKit
set_option maxRecDepth 100000

/-- The value shows a Small. -/
def S11V (w : World) (x : S11) (v : Value) : Prop := ∃ a0 a1 a2 b0 b1 b2 pv av, v = .agg (s11C x.st a0 a1 a2 b0 b1 b2 pv av) ∧ S11Shows w x a0 a1 a2 b0 b1 b2 pv av

theorem cellsOf_s11 : Try.prog.cellsOf 30 = 16 := by kernel_rfl
theorem cellsOf_sms : Try.prog.cellsOf 25 = 1 := by kernel_rfl
theorem cellsOf_i64s : Try.prog.cellsOf 28 = 1 := by kernel_rfl

theorem args_reads {H : Type} (enc : TypeId × Value → H) (w : World) {fuel : Nat} {cs : List Value} {x : DataW H × List MemPlace} (h : DataW.trod enc Try.prog w 0 (fun _ => true) true fuel 28 cs = some x) : ∃ l v, cs = [v] ∧ ArgsAt w l v := by
  rcases slice_each enc w Try.underlying28 cellsOf_int64 (by omega) h with ⟨a, rfl⟩ | ⟨a, len, cap, n', hn, rfl, hle, hc, rfl | ⟨b, o, rfl, each⟩⟩
  · exact ⟨[], _, rfl, .inl ⟨rfl, _, _, rfl⟩, by simp⟩
  · exact ⟨[], _, rfl, .inl ⟨rfl, _, _, rfl⟩, by simp⟩
  · have ch : ∀ i, ∃ n : Int, i < len → (-9223372036854775808 ≤ n ∧ n ≤ 9223372036854775807) ∧ w.cell? ⟨b, o + i, none⟩ = some (.int .i64 n) := by
      intro i
      by_cases hi : i < len
      · obtain ⟨cs', y, h3, hcell⟩ := each i hi
        obtain ⟨n, hw, rfl⟩ := pint_reads enc w Try.underlying2 h3
        have hb := bounds_i64 hw
        refine ⟨n, fun _ => ⟨⟨hb.1, hb.2⟩, ?_⟩⟩
        have := hcell 0 _ rfl (by omega)
        rwa [Nat.mul_one, Nat.add_zero] at this
      · exact ⟨0, fun h => absurd h hi⟩
    obtain ⟨of, hof⟩ := Classical.axiomOfChoice ch
    have el : ((List.range len).map of).length = len := by simp
    refine ⟨(List.range len).map of, _, rfl, .inr ⟨b, o, cap, by rw [List.length_map, el], by rw [List.length_map, el]; exact hle, fun i t hi => ?_⟩, fun n hn => ?_⟩
    · rw [List.getElem?_map, List.getElem?_map] at hi
      by_cases hlt : i < len
      · rw [List.getElem?_range hlt] at hi
        cases hi
        exact (hof i hlt).2
      · rw [List.getElem?_eq_none (by simp; omega)] at hi
        cases hi
    · obtain ⟨i, hi, rfl⟩ := List.mem_map.1 hn
      exact (hof i (List.mem_range.1 hi)).1

theorem s11_any {H : Type} (enc : TypeId × Value → H) (w : World) {v : Value} {d : DataW H} {p : List MemPlace} {base : Nat} (hval : Value.okWide Try.prog w .any base 30 v)
    (h : DataW.Trod enc Try.prog w 0 (fun _ => true) true 30 v d p) : ∃ x, S11V w x v := by
  obtain ⟨cs, rfl, _⟩ := okWide_struct Try.underlying30 hval
  obtain ⟨fuel, hf⟩ := h
  obtain ⟨xs, n, rfl, _, hl, hlen, hf⟩ := DataW.trod_struct Try.underlying30 hf
  rw [cellsOf_s11] at hl
  have hcs : (Value.agg cs).cells.toList = cs.toList := rfl
  rw [hcs] at hl hf
  obtain ⟨cs⟩ := cs
  match cs, hl with
  | [c0, c1, c2, c3, c4, c5, c6, c7, c8, c9, c10, c11, c12, c13, c14, c15], _ =>
  have f0 : DataW.trod enc Try.prog w 0 (fun _ => true) true n 24 (List.take (Try.prog.cellsOf 24) (List.drop 0 [c0, c1, c2, c3, c4, c5, c6, c7, c8, c9, c10, c11, c12, c13, c14, c15])) = xs[0]? := hf 0 _ rfl
  have f1 : DataW.trod enc Try.prog w 0 (fun _ => true) true n 24 (List.take (Try.prog.cellsOf 24) (List.drop 3 [c0, c1, c2, c3, c4, c5, c6, c7, c8, c9, c10, c11, c12, c13, c14, c15])) = xs[1]? := hf 1 _ rfl
  have f2 : DataW.trod enc Try.prog w 0 (fun _ => true) true n 25 (List.take (Try.prog.cellsOf 25) (List.drop 6 [c0, c1, c2, c3, c4, c5, c6, c7, c8, c9, c10, c11, c12, c13, c14, c15])) = xs[2]? := hf 2 _ rfl
  have f3 : DataW.trod enc Try.prog w 0 (fun _ => true) true n 27 (List.take (Try.prog.cellsOf 27) (List.drop 7 [c0, c1, c2, c3, c4, c5, c6, c7, c8, c9, c10, c11, c12, c13, c14, c15])) = xs[3]? := hf 3 _ rfl
  have f4 : DataW.trod enc Try.prog w 0 (fun _ => true) true n 28 (List.take (Try.prog.cellsOf 28) (List.drop 15 [c0, c1, c2, c3, c4, c5, c6, c7, c8, c9, c10, c11, c12, c13, c14, c15])) = xs[4]? := hf 4 _ rfl
  have hl5 : xs.length = 5 := hlen
  rw [List.getElem?_eq_getElem (by omega)] at f0 f1 f2 f3 f4
  simp only [cellsOf_node, cellsOf_sms, cellsOf_state, cellsOf_i64s, List.drop_zero, List.drop_succ_cons, List.take_succ_cons, List.take_zero] at f0 f1 f2 f3 f4
  obtain ⟨tk, x0, x1, x2, e0, ht⟩ := node_shows enc w n _ _ f0
  obtain ⟨an, y0, y1, y2, e1, ha⟩ := node_shows enc w n _ _ f1
  obtain ⟨pl, pv, e2, hp⟩ := smalls_shows enc w f2
  obtain ⟨st, hst, e3⟩ := state_reads enc w f3
  obtain ⟨al, av, e4, hal⟩ := args_reads enc w f4
  simp [stC] at e0 e1 e2 e3 e4
  obtain ⟨rfl, rfl, rfl⟩ := e0
  obtain ⟨rfl, rfl, rfl⟩ := e1
  subst e2 e4
  obtain ⟨rfl, rfl, rfl, rfl, rfl, rfl, rfl, rfl⟩ := e3
  exact ⟨⟨tk, an, pl, st, al⟩, _, _, _, _, _, _, _, _, rfl, ht, ha, hp, hst, hal⟩

end Go.Proofs.Ytedadjlmmnikaaa

/-
  PlayLoops: whatever is handed in.
-/
namespace Go.Proofs.Ytedadjlmmnikaaa
open Go.RowKit
set_option linter.unusedVariables false
set_option linter.unusedSimpArgs false

set_option maxRecDepth 100000 in
set_option maxHeartbeats 4000000 in
theorem loops_off (sm : List Sm) (vl : Value) (m : Nat) (x : S11) (a0 a1 a2 b0 b1 b2 pv av : Value) (w : World) (hsm : SmSees w vl sm) (hx : S11Shows w x a0 a1 a2 b0 b1 b2 pv av) (hoff : 20 < sm.length ∨ lightS x = false) :
    Calls Try.prog 6 #[vl, .int .u8 m, .agg (s11C x.st a0 a1 a2 b0 b1 b2 pv av)] w fun e w' => e = .returned (.bool true) ∧ Fr (fun _ => False) w w' := by
  obtain ⟨sa, sc, rfl, hz⟩ := hsm.shape
  clear hz hsm
  by_cases h20 : 20 < sm.length
  · have d20 : decide ((20 : Int) < (sm.length : Int)) = true := by simp; omega
    simp only [s11C]
    clear hoff h20
    go_enter Try.func6, Try.ntmps6
    go_wp2_with fail
    refine (pawake_any _).mono ?_
    rintro e w1 ⟨rfl, f1⟩
    have F1 := Lib.hid (((Fr.refl (fun _ => False) _).alloc _).trans f1 (fun _ _ h => h))
    clear f1
    go_wp2_with fail
    go_ret
    exact ⟨rfl, F1.out⟩
  · have d20 : decide ((20 : Int) < (sm.length : Int)) = false := by simp; omega
    have HLI := Lib.hid (hoff.resolve_left h20)
    have HX := Lib.hid hx
    clear hoff h20 hx
    simp only [s11C]
    go_enter Try.func6, Try.ntmps6
    go_wp2_with fail
    refine (pawake_any _).mono ?_
    rintro e w1 ⟨rfl, f1⟩
    have F1 : Hid (Fr (fun _ => False) w w1 ∧ w1.heap[w.heap.size]? = some (.cells (s11C x.st a0 a1 a2 b0 b1 b2 pv av) 30 (0, 0))) := Lib.hid ⟨((Fr.refl (fun _ => False) _).alloc _).trans f1 (fun _ _ h => h), pbox_kept (heap_alloc_new w _) f1 (fun h => h)⟩
    generalize hn : w.heap.size = n0 at *
    clear f1 hn
    go_upto_region 3 with fail
    have qq := F1.out.2
    have c0 : w1.cell? ⟨n0, 0, none⟩ = some a0 := pcells_row qq 0 _ rfl
    have c1 : w1.cell? ⟨n0, 1, none⟩ = some a1 := pcells_row qq 1 _ rfl
    have c2 : w1.cell? ⟨n0, 2, none⟩ = some a2 := pcells_row qq 2 _ rfl
    have c3 : w1.cell? ⟨n0, 3, none⟩ = some b0 := pcells_row qq 3 _ rfl
    have c4 : w1.cell? ⟨n0, 4, none⟩ = some b1 := pcells_row qq 4 _ rfl
    have c5 : w1.cell? ⟨n0, 5, none⟩ = some b2 := pcells_row qq 5 _ rfl
    have c6 : w1.cell? ⟨n0, 6, none⟩ = some pv := pcells_row qq 6 _ rfl
    have c7 : w1.cell? ⟨n0, 7, none⟩ = some (.int .i64 (x.st 0)) := pcells_row qq 7 _ rfl
    have c8 : w1.cell? ⟨n0, 8, none⟩ = some (.int .i64 (x.st 1)) := pcells_row qq 8 _ rfl
    have c9 : w1.cell? ⟨n0, 9, none⟩ = some (.int .i64 (x.st 2)) := pcells_row qq 9 _ rfl
    have c10 : w1.cell? ⟨n0, 10, none⟩ = some (.int .i64 (x.st 3)) := pcells_row qq 10 _ rfl
    have c11 : w1.cell? ⟨n0, 11, none⟩ = some (.int .i64 (x.st 4)) := pcells_row qq 11 _ rfl
    have c12 : w1.cell? ⟨n0, 12, none⟩ = some (.int .i64 (x.st 5)) := pcells_row qq 12 _ rfl
    have c13 : w1.cell? ⟨n0, 13, none⟩ = some (.int .i64 (x.st 6)) := pcells_row qq 13 _ rfl
    have c14 : w1.cell? ⟨n0, 14, none⟩ = some (.int .i64 (x.st 7)) := pcells_row qq 14 _ rfl
    have c15 : w1.cell? ⟨n0, 15, none⟩ = some av := pcells_row qq 15 _ rfl
    clear qq
    go_wp2_with fail
    refine (slight_any x a0 a1 a2 b0 b1 b2 pv av w1 (HX.out.fr F1.out.1)).mono ?_
    rintro e w2 ⟨rfl, f2⟩
    rw [HLI.out]
    go_wp2_with fail
    go_ret
    exact ⟨rfl, F1.out.1.trans f2 (fun _ _ h => h)⟩

theorem loops_all {W : World} (sm : List Sm) (vl : Value) (hsm : SmSees W vl sm) (m : Int) (hm0 : 0 ≤ m) (hm1 : m ≤ 255) (x : S11) (vx : Value) (hx : S11V W x vx) :
    Calls Try.prog 6 #[vl, .int .u8 m, vx] W fun e w' => e = .returned (.bool true) ∧ Fr (fun _ => False) W w' := by
  obtain ⟨a0, a1, a2, b0, b1, b2, pv, av, rfl, hs⟩ := hx
  obtain ⟨k, rfl⟩ : ∃ k : Nat, (k : Int) = m := ⟨m.toNat, Int.toNat_of_nonneg hm0⟩
  by_cases h : 20 < sm.length ∨ lightS x = false
  · exact loops_off sm vl k x a0 a1 a2 b0 b1 b2 pv av W hsm hs h
  · exact loops_walk sm vl k x a0 a1 a2 b0 b1 b2 pv av W hsm (by omega) (by omega) hs (by cases hl : lightS x; exact absurd (.inr hl) h; rfl)

end Go.Proofs.Ytedadjlmmnikaaa
