/-
  CouBack, part 46 of what it rests on: Take1.
-/
import Derived.Test.YtplipjijaaejlaaGreatS45
import Derived.Test.YtplipjijaaejlaaGreatS37
set_option linter.unusedVariables false
set_option linter.unusedSimpArgs false
set_option maxHeartbeats 64000000
namespace Go.Proofs.YtplipjijaaejlaaGreat
open Go.RowKit
open Go.Lib (hid)
section
attribute [local go_sem] run_store_float
set_option maxRecDepth 100000

/-- What is left, the error, how many values. -/
abbrev TS := (List UInt8 × Int) × Nat

/-- The first j of the values that g takes, one behind the other, as long as there is no error. -/
def eachN (g : Nat → TS → VT × TS) : Nat → TS → List VT × TS
  | 0, s => ([], s)
  | j + 1, s => if (eachN g j s).2.1.2 ≠ 0 then eachN g j s else ((eachN g j s).1 ++ [(g j (eachN g j s).2).1], (g j (eachN g j s).2).2)

/-- A value of the parts L. -/
def partsV (L : List VT) : VT := .mk 0 0 [] L.length (fun i => L.getD i zeroV)

/-- What take takes. -/
def takeE : KT → Nat → TS → VT × TS
  | .nil, _, s => (zeroV, s)
  | .mk k m ns n of, lv, s =>
    if lv = 0 ∨ 1048576 < s.2 + 1 then (zeroV, (failS s.1 6, s.2 + 1))
    else if k = 0 then (vnum (withinS s.1 1).1, ((withinS s.1 1).2, s.2 + 1))
    else if k = 1 then (vnum (numS s.1 2).1, ((numS s.1 2).2, s.2 + 1))
    else if k = 2 then (vnum (long32 (numS s.1 4).1), ((numS s.1 4).2, s.2 + 1))
    else if k = 3 then (.mk 0 (Fl.canon (numS s.1 8).1) [] 0 (fun _ => .nil), ((if Fl.canon (numS s.1 8).1 = (numS s.1 8).1 then (numS s.1 8).2 else failS (numS s.1 8).2 4), s.2 + 1))
    else if k = 4 then (.mk 0 0 (textS s.1 m).1 0 (fun _ => .nil), ((textS s.1 m).2, s.2 + 1))
    else if k = 5 then (if n ≠ 1 then (zeroV, (failS s.1 4, s.2 + 1)) else
      (partsV (eachN (fun _ s' => takeE (of 0) (lv - 1) s') (withinS s.1 m).1 ((withinS s.1 m).2, s.2 + 1)).1, (eachN (fun _ s' => takeE (of 0) (lv - 1) s') (withinS s.1 m).1 ((withinS s.1 m).2, s.2 + 1)).2))
    else if k = 6 then (partsV (eachN (fun i s' => takeE (of i) (lv - 1) s') n (s.1, s.2 + 1)).1, (eachN (fun i s' => takeE (of i) (lv - 1) s') n (s.1, s.2 + 1)).2)
    else if k = 7 then (vnum (withinS s.1 ((ns.length : Int) - 1)).1, ((withinS s.1 ((ns.length : Int) - 1)).2, s.2 + 1))
    else if k = 8 then (if (withinS s.1 ((n : Int) - 1)).2.2 ≠ 0 then (zeroV, ((withinS s.1 ((n : Int) - 1)).2, s.2 + 1)) else
      (.mk (withinS s.1 ((n : Int) - 1)).1 0 [] 1 (fun _ => (takeE (of (withinS s.1 ((n : Int) - 1)).1) (lv - 1) ((withinS s.1 ((n : Int) - 1)).2, s.2 + 1)).1), (takeE (of (withinS s.1 ((n : Int) - 1)).1) (lv - 1) ((withinS s.1 ((n : Int) - 1)).2, s.2 + 1)).2))
    else (zeroV, (failS s.1 5, s.2 + 1))

/-- How many values at most. -/
def Cnt (s : TS) : Prop := s.2 ≤ 1048577 ∧ (s.1.2 = 0 → s.2 ≤ 1048576)

theorem each_cnt (g : Nat → TS → VT × TS) (hg : ∀ i s, s.1.2 = 0 → Cnt s → Cnt (g i s).2) (j : Nat) (s : TS) (hc : Cnt s) : Cnt (eachN g j s).2 := by
  induction j with
  | zero => exact hc
  | succ j ih =>
    unfold eachN
    by_cases h : (eachN g j s).2.1.2 ≠ 0
    · rw [if_pos h]; exact ih
    · rw [if_neg h]
      exact hg _ _ (by simpa using h) ih

theorem fail_ne (st : List UInt8 × Int) (x : Int) (hx : x ≠ 0) : (failS st x).2 ≠ 0 := by
  unfold failS
  split
  · rename_i h
    rcases h with h | h
    · exact absurd h hx
    · exact h
  · exact hx

theorem take_cnt (t : KT) : ∀ (lv : Nat) (s : TS), s.1.2 = 0 → Cnt s → Cnt (takeE t lv s).2 := by
  induction t with
  | nil => exact fun _ _ _ h => h
  | mk k m ns n of ih =>
    intro lv s h0 hc
    have h1 := hc.2 h0
    unfold takeE
    by_cases hb : lv = 0 ∨ 1048576 < s.2 + 1
    · rw [if_pos hb]
      exact ⟨by show s.2 + 1 ≤ _; omega, fun h => absurd h (fail_ne _ _ (by omega))⟩
    rw [if_neg hb]
    have hp : ∀ x : List UInt8 × Int, Cnt (x, s.2 + 1) := fun x => ⟨by show s.2 + 1 ≤ _; omega, fun _ => by show s.2 + 1 ≤ _; omega⟩
    by_cases k0 : k = 0
    · rw [if_pos k0]; exact hp _
    rw [if_neg k0]
    by_cases k1 : k = 1
    · rw [if_pos k1]; exact hp _
    rw [if_neg k1]
    by_cases k2 : k = 2
    · rw [if_pos k2]; exact hp _
    rw [if_neg k2]
    by_cases k3 : k = 3
    · rw [if_pos k3]; exact hp _
    rw [if_neg k3]
    by_cases k4 : k = 4
    · rw [if_pos k4]; exact hp _
    rw [if_neg k4]
    by_cases k5 : k = 5
    · rw [if_pos k5]
      by_cases hn : n ≠ 1
      · rw [if_pos hn]; exact hp _
      · rw [if_neg hn]; exact each_cnt _ (fun i s' h h' => ih _ _ _ h h') _ _ (hp _)
    rw [if_neg k5]
    by_cases k6 : k = 6
    · rw [if_pos k6]; exact each_cnt _ (fun i s' h h' => ih _ _ _ h h') _ _ (hp _)
    rw [if_neg k6]
    by_cases k7 : k = 7
    · rw [if_pos k7]; exact hp _
    rw [if_neg k7]
    by_cases k8 : k = 8
    · rw [if_pos k8]
      by_cases hn : (withinS s.1 ((n : Int) - 1)).2.2 ≠ 0
      · rw [if_pos hn]; exact hp _
      · rw [if_neg hn]; exact ih _ _ _ (by simpa using hn) (hp _)
    rw [if_neg k8]
    exact hp _

theorem textS_len (st : List UInt8 × Int) (m : Int) : (textS st m).1.length ≤ 65536 := by
  have h := withinS_small st m
  unfold textS
  simp only
  split
  · simp
  · split
    · simp
    · simp only [List.length_take]
      omega

/-- The unpacker in block fb, its Reader in block rb, all of it below B. -/
structure UnSt (fb rb B : Nat) (w : World) (s : TS) : Prop where
  here : w.heap[fb]? = some (.cells #[.pointer (some ⟨rb, 0, none⟩), .int .i64 (s.2 : Nat)] 86 (0, 0))
  rd : ∃ v, Rd w rb v s.1.1 s.1.2 ∧ v.ownBlock ≠ some fb ∧ ∀ k, v.ownBlock = some k → k < B
  ne : rb ≠ fb
  lt : fb < B ∧ rb < B

/-- What take may change. -/
def TDirt (fb rb : Nat) (k : Nat) : Prop := k = fb ∨ k = rb

theorem UnSt.fr {fb rb B : Nat} {w w' : World} {s : TS} {S : Nat → Prop} (h : UnSt fb rb B w s) (f : Fr S w w') (hS : ∀ k, k < B → ¬ S k) : UnSt fb rb B w' s := by
  obtain ⟨v, hr, hv, hb⟩ := h.rd
  exact ⟨box_kept h.here f (hS _ h.lt.1), ⟨v, hr.fr f (hS _ h.lt.2) (fun k e => hS k (hb k e)), hv, hb⟩, h.ne, h.lt⟩

theorem reads_own {fb rb B : Nat} {w w' : World} {s : TS} {v : Value} {l : List UInt8} {x : Int} (h : UnSt fb rb B w s) (hv : v.ownBlock ≠ some fb) (hb : ∀ k, v.ownBlock = some k → k < B) (f : Reads rb v l x w w') : UnSt fb rb B w' ((l, x), s.2) ∧ Fr (TDirt fb rb) w w' := by
  obtain ⟨v', hr, hf, ho⟩ := f
  refine ⟨⟨box_kept h.here hf (fun e => h.ne e.symm), ⟨v', hr, ?_, ?_⟩, h.ne, h.lt⟩, hf.mono (fun _ _ e => .inr e)⟩
  · rcases ho with e | e
    · rw [e]; exact hv
    · rw [e]; simp
  · rcases ho with e | e
    · rw [e]; exact hb
    · rw [e]; intro k h; simp at h

theorem UnSt.count {fb rb B : Nat} {w : World} {s : TS} (h : UnSt fb rb B w s) : UnSt fb rb B (w.setCell ⟨fb, 1, none⟩ (.int .i64 ((s.2 : Int) + 1))) (s.1, s.2 + 1) ∧ Fr (TDirt fb rb) w (w.setCell ⟨fb, 1, none⟩ (.int .i64 ((s.2 : Int) + 1))) := by
  obtain ⟨v, hr, hv, hb⟩ := h.rd
  have f : Fr (fun k => k = fb) w (w.setCell ⟨fb, 1, none⟩ (.int .i64 ((s.2 : Int) + 1))) := Fr.set1 (Fr.refl _ _) 1 _
  exact ⟨⟨two_setCell1 h.here _, ⟨v, hr.fr f h.ne (fun k hk e => hv (by rw [hk, e])), hv, hb⟩, h.ne, h.lt⟩, f.mono (fun _ _ e => .inl e)⟩

/-- What holds when take has begun: the two boxes, the count. -/
structure TakeHead (fb rb B : Nat) (s : TS) (w w2 : World) (tb vb : Nat) (tcs : Array Value) : Prop where
  st : UnSt fb rb B w2 (s.1, s.2 + 1)
  fr : Fr (TDirt fb rb) w w2
  tbox : w2.heap[tb]? = some (.cells tcs 34 (0, 0))
  vbox : w2.heap[vb]? = some (.cells #[.int .i64 0, .float .f64 0, .string ⟨#[]⟩, .slice none 0 0] 39 (0, 0))
  toff : ¬ TDirt fb rb tb
  voff : ¬ TDirt fb rb vb ∧ w.heap.size ≤ vb ∧ B ≤ vb
  two : tb ≠ vb

theorem take_head (fb rb B : Nat) (s : TS) (w : World) (tcs : Array Value) (h : UnSt fb rb B w s) (hB : B ≤ w.heap.size) :
    TakeHead fb rb B s w (((w.alloc (.cells tcs 34)).alloc (.cells #[.int .i64 0, .float .f64 0, .string ⟨#[]⟩, .slice none 0 0] 39)).setCell ⟨fb, 1, none⟩ (.int .i64 ((s.2 : Int) + 1))) w.heap.size (w.heap.size + 1) tcs := by
  obtain ⟨W, hW⟩ : ∃ W, W = (w.alloc (.cells tcs 34)).alloc (.cells #[.int .i64 0, .float .f64 0, .string ⟨#[]⟩, .slice none 0 0] 39) := ⟨_, rfl⟩
  have f1 : Fr (fun _ => False) w W := by rw [hW]; exact ((Fr.refl _ _).alloc _).alloc _
  have q1 := heap_alloc_first w (.cells tcs 34) (.cells #[.int .i64 0, .float .f64 0, .string ⟨#[]⟩, .slice none 0 0] 39)
  have q2 := heap_alloc_two w (.cells tcs 34) (.cells #[.int .i64 0, .float .f64 0, .string ⟨#[]⟩, .slice none 0 0] 39)
  rw [← hW] at q1 q2 ⊢
  obtain ⟨h2, f2⟩ := (h.fr f1 (fun _ _ h => h)).count
  have hfb := h.lt.1
  have hrb := h.lt.2
  have hn : ∀ k, B ≤ k → ¬ TDirt fb rb k := fun k hk e => by rcases e with e | e <;> omega
  exact ⟨h2, (f1.mono (fun _ _ h => h.elim)).trans f2 (fun _ _ h => h), box_kept q1 f2 (hn _ hB), box_kept q2 f2 (hn _ (by omega)), hn _ hB, ⟨hn _ (by omega), by omega, by omega⟩, by omega⟩

theorem un_cells {fb rb B : Nat} {w : World} {s : TS} (h : UnSt fb rb B w s) : w.cell? ⟨fb, 0, none⟩ = some (.pointer (some ⟨rb, 0, none⟩)) ∧ w.cell? ⟨fb, 1, none⟩ = some (.int .i64 (s.2 : Nat)) ∧ w.frozen? ⟨fb, 1, none⟩ = false :=
  ⟨cells_row h.here 0 _ rfl, cells_row h.here 1 _ rfl, by simp [World.frozen?, h.here]⟩

/-- What take says of a type. -/
def TakeAt (t : KT) : Prop := ∀ (R0 : Nat → Prop) (v : Value) (w : World) (fb rb B : Nat) (s : TS) (lv : Nat) (lz : Int), lz = lv → lv ≤ 100 → Shows R0 w t v → UnSt fb rb B w s → B ≤ w.heap.size → (∀ k, R0 k → ¬ TDirt fb rb k) → s.1.2 = 0 → s.2 ≤ 1048576 →
  Calls Tryz.prog 34 #[.pointer (some ⟨fb, 0, none⟩), v, .int .i64 lz] w fun e w' => ∃ v', e = .returned v' ∧ VShows (fun k => w.heap.size ≤ k) w' (takeE t lv s).1 v' ∧ UnSt fb rb B w' (takeE t lv s).2 ∧ Fr (TDirt fb rb) w w'

/-- The value stored, and returned. -/
theorem take_done {fb rb B vb : Nat} {w w3 : World} {s' : TS} {T : VT} {x0 x1 x2 x3 y0 y1 y2 y3 : Value} (hb : w3.heap[vb]? = some (.cells #[x0, x1, x2, x3] 39 (0, 0))) (hs : UnSt fb rb B w3 s') (hf : Fr (TDirt fb rb) w w3) (hv : w.heap.size ≤ vb) (hB : B ≤ vb)
    (hT : VShows (fun k => w.heap.size ≤ k ∧ k ≠ vb) w3 T (.agg #[y0, y1, y2, y3])) {r : VT × TS} (hr : r = (T, s')) :
    ∃ v', Ending.returned (.agg #[y0, y1, y2, y3]) = .returned v' ∧ VShows (fun k => w.heap.size ≤ k) ((((w3.setCell ⟨vb, 0, none⟩ y0).setCell ⟨vb, 1, none⟩ y1).setCell ⟨vb, 2, none⟩ y2).setCell ⟨vb, 3, none⟩ y3) r.1 v' ∧
      UnSt fb rb B ((((w3.setCell ⟨vb, 0, none⟩ y0).setCell ⟨vb, 1, none⟩ y1).setCell ⟨vb, 2, none⟩ y2).setCell ⟨vb, 3, none⟩ y3) r.2 ∧ Fr (TDirt fb rb) w ((((w3.setCell ⟨vb, 0, none⟩ y0).setCell ⟨vb, 1, none⟩ y1).setCell ⟨vb, 2, none⟩ y2).setCell ⟨vb, 3, none⟩ y3) := by
  subst hr
  have f : Fr (fun k => k = vb) w3 ((((w3.setCell ⟨vb, 0, none⟩ y0).setCell ⟨vb, 1, none⟩ y1).setCell ⟨vb, 2, none⟩ y2).setCell ⟨vb, 3, none⟩ y3) := fr_four _ _ _ _ (Fr.refl _ _) (fun _ => rfl)
  refine ⟨_, rfl, VShows.mono (fun k _ h => h.1) _ _ (VShows.fr f (fun k h e => h.2 e) _ _ hT), hs.fr f (fun k hk e => by omega), fr_four _ _ _ _ hf (fun h => by omega)⟩

/-- A drawn region of take: ahead of the call, behind it, behind the store. -/
def TkS (fb rb B vb : Nat) (w2 : World) (s2 : TS) (ys : Array Value) : List Value → World → Prop
  | [], wx => Fr (fun _ => False) w2 wx
  | [_], wx => UnSt fb rb B wx s2 ∧ Fr (TDirt fb rb) w2 wx
  | _ :: _ :: _, wx => UnSt fb rb B wx s2 ∧ Fr (fun k => TDirt fb rb k ∨ k = vb) w2 wx ∧ wx.heap[vb]? = some (.cells ys 39 (0, 0))

theorem TkS.fr {fb rb B vb : Nat} {w2 wx : World} {s2 : TS} {ys : Array Value} {L : List Value} (h : TkS fb rb B vb w2 s2 ys L wx) : Fr (fun k => TDirt fb rb k ∨ k = vb) w2 wx := by
  match L with
  | [] => exact Fr.mono h (fun _ _ h => h.elim)
  | [_] => exact h.2.mono (fun _ _ h => .inl h)
  | _ :: _ :: _ => exact h.2.1

theorem TkS.ptr {fb rb B vb : Nat} {w2 wx : World} {s1 s2 : TS} {ys : Array Value} {L : List Value} (h : TkS fb rb B vb w2 s2 ys L wx) (hp : UnSt fb rb B w2 s1) : wx.cell? ⟨fb, 0, none⟩ = some (.pointer (some ⟨rb, 0, none⟩)) := by
  match L with
  | [] => exact (un_cells (hp.fr (S := fun _ => False) h (fun _ _ h => h))).1
  | [_] => exact (un_cells h.1).1
  | _ :: _ :: _ => exact (un_cells h.1).1

/-- The value lies there, and is returned. -/
theorem take_done2 {fb rb B vb : Nat} {w w2 w3 : World} {s' : TS} {T : VT} {y0 y1 y2 y3 : Value} (hs : UnSt fb rb B w3 s') (hf : Fr (TDirt fb rb) w w2) (hf2 : Fr (fun k => TDirt fb rb k ∨ k = vb) w2 w3) (hv : w.heap.size ≤ vb)
    (hT : VShows (fun k => w.heap.size ≤ k) w3 T (.agg #[y0, y1, y2, y3])) {r : VT × TS} (hr : r = (T, s')) :
    ∃ v', Ending.returned (.agg #[y0, y1, y2, y3]) = .returned v' ∧ VShows (fun k => w.heap.size ≤ k) w3 r.1 v' ∧ UnSt fb rb B w3 r.2 ∧ Fr (TDirt fb rb) w w3 := by
  subst hr
  exact ⟨_, rfl, hT, hs, hf.trans hf2 (fun k hk e => by rcases e with e | e; exact e; omega)⟩

/-- A value without parts. -/
theorem leaf_shows {R : Nat → Prop} {w : World} (n : Int) (f : Nat) (s : Txt) (hb : VB n f s 0) : VShows R w (.mk n f s 0 (fun _ => .nil)) (.agg #[.int .i64 n, .float .f64 f, .string ⟨s.toArray⟩, .slice none 0 0]) :=
  ⟨_, rfl, hb, .inl ⟨rfl, _, _, rfl⟩⟩
end
end Go.Proofs.YtplipjijaaejlaaGreat
