/-
  CouAny, part 10 of what it rests on: Take1, Take2, Take3.
-/
import Derived.Test.YtplipjijaaejlaaSi
set_option linter.unusedVariables false
set_option linter.unusedSimpArgs false
set_option maxHeartbeats 32000000
namespace Go.Proofs.Ytplipjijaaejlaa
open Go.RowKit
open Go.Lib (hid)
section
attribute [local go_sem] run_store_float
set_option maxRecDepth 100000

/-- What is left, the error, how many values. -/
abbrev TS := (List UInt8 × Int) × Nat

/-- The first j of the values that g takes, one behind the other, as long as there is no error. -/
def eachN (g : Nat → TS → VT × TS) : Nat → TS → List VT × TS
  | 0, s => ([], s)
  | j + 1, s => if (eachN g j s).2.1.2 ≠ 0 then eachN g j s else ((eachN g j s).1 ++ [(g j (eachN g j s).2).1], (g j (eachN g j s).2).2)

/-- A value of the parts L. -/
def partsV (L : List VT) : VT := .mk 0 0 [] L.length (fun i => L.getD i zeroV)

/-- What take takes. -/
def takeE : KT → Nat → TS → VT × TS
  | .nil, _, s => (zeroV, s)
  | .mk k m ns n of, lv, s =>
    if lv = 0 ∨ 1048576 < s.2 + 1 then (zeroV, (failS s.1 6, s.2 + 1))
    else if k = 0 then (vnum (withinS s.1 1).1, ((withinS s.1 1).2, s.2 + 1))
    else if k = 1 then (vnum (numS s.1 2).1, ((numS s.1 2).2, s.2 + 1))
    else if k = 2 then (vnum (long32 (numS s.1 4).1), ((numS s.1 4).2, s.2 + 1))
    else if k = 3 then (.mk 0 (Fl.canon (numS s.1 8).1) [] 0 (fun _ => .nil), ((if Fl.canon (numS s.1 8).1 = (numS s.1 8).1 then (numS s.1 8).2 else failS (numS s.1 8).2 4), s.2 + 1))
    else if k = 4 then (.mk 0 0 (textS s.1 m).1 0 (fun _ => .nil), ((textS s.1 m).2, s.2 + 1))
    else if k = 5 then (if n ≠ 1 then (zeroV, (failS s.1 4, s.2 + 1)) else
      (partsV (eachN (fun _ s' => takeE (of 0) (lv - 1) s') (withinS s.1 m).1 ((withinS s.1 m).2, s.2 + 1)).1, (eachN (fun _ s' => takeE (of 0) (lv - 1) s') (withinS s.1 m).1 ((withinS s.1 m).2, s.2 + 1)).2))
    else if k = 6 then (partsV (eachN (fun i s' => takeE (of i) (lv - 1) s') n (s.1, s.2 + 1)).1, (eachN (fun i s' => takeE (of i) (lv - 1) s') n (s.1, s.2 + 1)).2)
    else if k = 7 then (vnum (withinS s.1 ((ns.length : Int) - 1)).1, ((withinS s.1 ((ns.length : Int) - 1)).2, s.2 + 1))
    else if k = 8 then (if (withinS s.1 ((n : Int) - 1)).2.2 ≠ 0 then (zeroV, ((withinS s.1 ((n : Int) - 1)).2, s.2 + 1)) else
      (.mk (withinS s.1 ((n : Int) - 1)).1 0 [] 1 (fun _ => (takeE (of (withinS s.1 ((n : Int) - 1)).1) (lv - 1) ((withinS s.1 ((n : Int) - 1)).2, s.2 + 1)).1), (takeE (of (withinS s.1 ((n : Int) - 1)).1) (lv - 1) ((withinS s.1 ((n : Int) - 1)).2, s.2 + 1)).2))
    else (zeroV, (failS s.1 5, s.2 + 1))

/-- How many values at most. -/
def Cnt (s : TS) : Prop := s.2 ≤ 1048577 ∧ (s.1.2 = 0 → s.2 ≤ 1048576)

theorem each_cnt (g : Nat → TS → VT × TS) (hg : ∀ i s, s.1.2 = 0 → Cnt s → Cnt (g i s).2) (j : Nat) (s : TS) (hc : Cnt s) : Cnt (eachN g j s).2 := by
  induction j with
  | zero => exact hc
  | succ j ih =>
    unfold eachN
    by_cases h : (eachN g j s).2.1.2 ≠ 0
    · rw [if_pos h]; exact ih
    · rw [if_neg h]
      exact hg _ _ (by simpa using h) ih

theorem fail_ne (st : List UInt8 × Int) (x : Int) (hx : x ≠ 0) : (failS st x).2 ≠ 0 := by
  unfold failS
  split
  · rename_i h
    rcases h with h | h
    · exact absurd h hx
    · exact h
  · exact hx

theorem take_cnt (t : KT) : ∀ (lv : Nat) (s : TS), s.1.2 = 0 → Cnt s → Cnt (takeE t lv s).2 := by
  induction t with
  | nil => exact fun _ _ _ h => h
  | mk k m ns n of ih =>
    intro lv s h0 hc
    have h1 := hc.2 h0
    unfold takeE
    by_cases hb : lv = 0 ∨ 1048576 < s.2 + 1
    · rw [if_pos hb]
      exact ⟨by show s.2 + 1 ≤ _; omega, fun h => absurd h (fail_ne _ _ (by omega))⟩
    rw [if_neg hb]
    have hp : ∀ x : List UInt8 × Int, Cnt (x, s.2 + 1) := fun x => ⟨by show s.2 + 1 ≤ _; omega, fun _ => by show s.2 + 1 ≤ _; omega⟩
    by_cases k0 : k = 0
    · rw [if_pos k0]; exact hp _
    rw [if_neg k0]
    by_cases k1 : k = 1
    · rw [if_pos k1]; exact hp _
    rw [if_neg k1]
    by_cases k2 : k = 2
    · rw [if_pos k2]; exact hp _
    rw [if_neg k2]
    by_cases k3 : k = 3
    · rw [if_pos k3]; exact hp _
    rw [if_neg k3]
    by_cases k4 : k = 4
    · rw [if_pos k4]; exact hp _
    rw [if_neg k4]
    by_cases k5 : k = 5
    · rw [if_pos k5]
      by_cases hn : n ≠ 1
      · rw [if_pos hn]; exact hp _
      · rw [if_neg hn]; exact each_cnt _ (fun i s' h h' => ih _ _ _ h h') _ _ (hp _)
    rw [if_neg k5]
    by_cases k6 : k = 6
    · rw [if_pos k6]; exact each_cnt _ (fun i s' h h' => ih _ _ _ h h') _ _ (hp _)
    rw [if_neg k6]
    by_cases k7 : k = 7
    · rw [if_pos k7]; exact hp _
    rw [if_neg k7]
    by_cases k8 : k = 8
    · rw [if_pos k8]
      by_cases hn : (withinS s.1 ((n : Int) - 1)).2.2 ≠ 0
      · rw [if_pos hn]; exact hp _
      · rw [if_neg hn]; exact ih _ _ _ (by simpa using hn) (hp _)
    rw [if_neg k8]
    exact hp _

theorem textS_len (st : List UInt8 × Int) (m : Int) : (textS st m).1.length ≤ 65536 := by
  have h := withinS_small st m
  unfold textS
  simp only
  split
  · simp
  · split
    · simp
    · simp only [List.length_take]
      omega

/-- The unpacker in block fb, its Reader in block rb, all of it below B. -/
structure UnSt (fb rb B : Nat) (w : World) (s : TS) : Prop where
  here : w.heap[fb]? = some (.cells #[.pointer (some ⟨rb, 0, none⟩), .int .i64 (s.2 : Nat)] 69 (0, 0))
  rd : ∃ v, Rd w rb v s.1.1 s.1.2 ∧ v.ownBlock ≠ some fb ∧ ∀ k, v.ownBlock = some k → k < B
  ne : rb ≠ fb
  lt : fb < B ∧ rb < B

/-- What take may change. -/
def TDirt (fb rb : Nat) (k : Nat) : Prop := k = fb ∨ k = rb

theorem UnSt.fr {fb rb B : Nat} {w w' : World} {s : TS} {S : Nat → Prop} (h : UnSt fb rb B w s) (f : Fr S w w') (hS : ∀ k, k < B → ¬ S k) : UnSt fb rb B w' s := by
  obtain ⟨v, hr, hv, hb⟩ := h.rd
  exact ⟨box_kept h.here f (hS _ h.lt.1), ⟨v, hr.fr f (hS _ h.lt.2) (fun k e => hS k (hb k e)), hv, hb⟩, h.ne, h.lt⟩

theorem reads_own {fb rb B : Nat} {w w' : World} {s : TS} {v : Value} {l : List UInt8} {x : Int} (h : UnSt fb rb B w s) (hv : v.ownBlock ≠ some fb) (hb : ∀ k, v.ownBlock = some k → k < B) (f : Reads rb v l x w w') : UnSt fb rb B w' ((l, x), s.2) ∧ Fr (TDirt fb rb) w w' := by
  obtain ⟨v', hr, hf, ho⟩ := f
  refine ⟨⟨box_kept h.here hf (fun e => h.ne e.symm), ⟨v', hr, ?_, ?_⟩, h.ne, h.lt⟩, hf.mono (fun _ _ e => .inr e)⟩
  · rcases ho with e | e
    · rw [e]; exact hv
    · rw [e]; simp
  · rcases ho with e | e
    · rw [e]; exact hb
    · rw [e]; intro k h; simp at h

theorem UnSt.count {fb rb B : Nat} {w : World} {s : TS} (h : UnSt fb rb B w s) : UnSt fb rb B (w.setCell ⟨fb, 1, none⟩ (.int .i64 ((s.2 : Int) + 1))) (s.1, s.2 + 1) ∧ Fr (TDirt fb rb) w (w.setCell ⟨fb, 1, none⟩ (.int .i64 ((s.2 : Int) + 1))) := by
  obtain ⟨v, hr, hv, hb⟩ := h.rd
  have f : Fr (fun k => k = fb) w (w.setCell ⟨fb, 1, none⟩ (.int .i64 ((s.2 : Int) + 1))) := Fr.set1 (Fr.refl _ _) 1 _
  exact ⟨⟨two_setCell1 h.here _, ⟨v, hr.fr f h.ne (fun k hk e => hv (by rw [hk, e])), hv, hb⟩, h.ne, h.lt⟩, f.mono (fun _ _ e => .inl e)⟩

/-- What holds when take has begun: the two boxes, the count. -/
structure TakeHead (fb rb B : Nat) (s : TS) (w w2 : World) (tb vb : Nat) (tcs : Array Value) : Prop where
  st : UnSt fb rb B w2 (s.1, s.2 + 1)
  fr : Fr (TDirt fb rb) w w2
  tbox : w2.heap[tb]? = some (.cells tcs 34 (0, 0))
  vbox : w2.heap[vb]? = some (.cells #[.int .i64 0, .float .f64 0, .string ⟨#[]⟩, .slice none 0 0] 42 (0, 0))
  toff : ¬ TDirt fb rb tb
  voff : ¬ TDirt fb rb vb ∧ w.heap.size ≤ vb ∧ B ≤ vb
  two : tb ≠ vb

theorem take_head (fb rb B : Nat) (s : TS) (w : World) (tcs : Array Value) (h : UnSt fb rb B w s) (hB : B ≤ w.heap.size) :
    TakeHead fb rb B s w (((w.alloc (.cells tcs 34)).alloc (.cells #[.int .i64 0, .float .f64 0, .string ⟨#[]⟩, .slice none 0 0] 42)).setCell ⟨fb, 1, none⟩ (.int .i64 ((s.2 : Int) + 1))) w.heap.size (w.heap.size + 1) tcs := by
  obtain ⟨W, hW⟩ : ∃ W, W = (w.alloc (.cells tcs 34)).alloc (.cells #[.int .i64 0, .float .f64 0, .string ⟨#[]⟩, .slice none 0 0] 42) := ⟨_, rfl⟩
  have f1 : Fr (fun _ => False) w W := by rw [hW]; exact ((Fr.refl _ _).alloc _).alloc _
  have q1 := heap_alloc_first w (.cells tcs 34) (.cells #[.int .i64 0, .float .f64 0, .string ⟨#[]⟩, .slice none 0 0] 42)
  have q2 := heap_alloc_two w (.cells tcs 34) (.cells #[.int .i64 0, .float .f64 0, .string ⟨#[]⟩, .slice none 0 0] 42)
  rw [← hW] at q1 q2 ⊢
  obtain ⟨h2, f2⟩ := (h.fr f1 (fun _ _ h => h)).count
  have hfb := h.lt.1
  have hrb := h.lt.2
  have hn : ∀ k, B ≤ k → ¬ TDirt fb rb k := fun k hk e => by rcases e with e | e <;> omega
  exact ⟨h2, (f1.mono (fun _ _ h => h.elim)).trans f2 (fun _ _ h => h), box_kept q1 f2 (hn _ hB), box_kept q2 f2 (hn _ (by omega)), hn _ hB, ⟨hn _ (by omega), by omega, by omega⟩, by omega⟩

theorem un_cells {fb rb B : Nat} {w : World} {s : TS} (h : UnSt fb rb B w s) : w.cell? ⟨fb, 0, none⟩ = some (.pointer (some ⟨rb, 0, none⟩)) ∧ w.cell? ⟨fb, 1, none⟩ = some (.int .i64 (s.2 : Nat)) ∧ w.frozen? ⟨fb, 1, none⟩ = false :=
  ⟨cells_row h.here 0 _ rfl, cells_row h.here 1 _ rfl, by simp [World.frozen?, h.here]⟩

/-- What take says of a type. -/
def TakeAt (t : KT) : Prop := ∀ (R0 : Nat → Prop) (v : Value) (w : World) (fb rb B : Nat) (s : TS) (lv : Nat) (lz : Int), lz = lv → lv ≤ 100 → Shows R0 w t v → UnSt fb rb B w s → B ≤ w.heap.size → (∀ k, R0 k → ¬ TDirt fb rb k) → s.1.2 = 0 → s.2 ≤ 1048576 →
  Calls Try.prog 21 #[.pointer (some ⟨fb, 0, none⟩), v, .int .i64 lz] w fun e w' => ∃ v', e = .returned v' ∧ VShows (fun k => w.heap.size ≤ k) w' (takeE t lv s).1 v' ∧ UnSt fb rb B w' (takeE t lv s).2 ∧ Fr (TDirt fb rb) w w'

/-- The value stored, and returned. -/
theorem take_done {fb rb B vb : Nat} {w w3 : World} {s' : TS} {T : VT} {x0 x1 x2 x3 y0 y1 y2 y3 : Value} (hb : w3.heap[vb]? = some (.cells #[x0, x1, x2, x3] 42 (0, 0))) (hs : UnSt fb rb B w3 s') (hf : Fr (TDirt fb rb) w w3) (hv : w.heap.size ≤ vb) (hB : B ≤ vb)
    (hT : VShows (fun k => w.heap.size ≤ k ∧ k ≠ vb) w3 T (.agg #[y0, y1, y2, y3])) {r : VT × TS} (hr : r = (T, s')) :
    ∃ v', Ending.returned (.agg #[y0, y1, y2, y3]) = .returned v' ∧ VShows (fun k => w.heap.size ≤ k) ((((w3.setCell ⟨vb, 0, none⟩ y0).setCell ⟨vb, 1, none⟩ y1).setCell ⟨vb, 2, none⟩ y2).setCell ⟨vb, 3, none⟩ y3) r.1 v' ∧
      UnSt fb rb B ((((w3.setCell ⟨vb, 0, none⟩ y0).setCell ⟨vb, 1, none⟩ y1).setCell ⟨vb, 2, none⟩ y2).setCell ⟨vb, 3, none⟩ y3) r.2 ∧ Fr (TDirt fb rb) w ((((w3.setCell ⟨vb, 0, none⟩ y0).setCell ⟨vb, 1, none⟩ y1).setCell ⟨vb, 2, none⟩ y2).setCell ⟨vb, 3, none⟩ y3) := by
  subst hr
  have f : Fr (fun k => k = vb) w3 ((((w3.setCell ⟨vb, 0, none⟩ y0).setCell ⟨vb, 1, none⟩ y1).setCell ⟨vb, 2, none⟩ y2).setCell ⟨vb, 3, none⟩ y3) := fr_four _ _ _ _ (Fr.refl _ _) (fun _ => rfl)
  refine ⟨_, rfl, VShows.mono (fun k _ h => h.1) _ _ (VShows.fr f (fun k h e => h.2 e) _ _ hT), hs.fr f (fun k hk e => by omega), fr_four _ _ _ _ hf (fun h => by omega)⟩

/-- A drawn region of take: ahead of the call, behind it, behind the store. -/
def TkS (fb rb B vb : Nat) (w2 : World) (s2 : TS) (ys : Array Value) : List Value → World → Prop
  | [], wx => Fr (fun _ => False) w2 wx
  | [_], wx => UnSt fb rb B wx s2 ∧ Fr (TDirt fb rb) w2 wx
  | _ :: _ :: _, wx => UnSt fb rb B wx s2 ∧ Fr (fun k => TDirt fb rb k ∨ k = vb) w2 wx ∧ wx.heap[vb]? = some (.cells ys 42 (0, 0))

theorem TkS.fr {fb rb B vb : Nat} {w2 wx : World} {s2 : TS} {ys : Array Value} {L : List Value} (h : TkS fb rb B vb w2 s2 ys L wx) : Fr (fun k => TDirt fb rb k ∨ k = vb) w2 wx := by
  match L with
  | [] => exact Fr.mono h (fun _ _ h => h.elim)
  | [_] => exact h.2.mono (fun _ _ h => .inl h)
  | _ :: _ :: _ => exact h.2.1

theorem TkS.ptr {fb rb B vb : Nat} {w2 wx : World} {s1 s2 : TS} {ys : Array Value} {L : List Value} (h : TkS fb rb B vb w2 s2 ys L wx) (hp : UnSt fb rb B w2 s1) : wx.cell? ⟨fb, 0, none⟩ = some (.pointer (some ⟨rb, 0, none⟩)) := by
  match L with
  | [] => exact (un_cells (hp.fr (S := fun _ => False) h (fun _ _ h => h))).1
  | [_] => exact (un_cells h.1).1
  | _ :: _ :: _ => exact (un_cells h.1).1

/-- The value lies there, and is returned. -/
theorem take_done2 {fb rb B vb : Nat} {w w2 w3 : World} {s' : TS} {T : VT} {y0 y1 y2 y3 : Value} (hs : UnSt fb rb B w3 s') (hf : Fr (TDirt fb rb) w w2) (hf2 : Fr (fun k => TDirt fb rb k ∨ k = vb) w2 w3) (hv : w.heap.size ≤ vb)
    (hT : VShows (fun k => w.heap.size ≤ k) w3 T (.agg #[y0, y1, y2, y3])) {r : VT × TS} (hr : r = (T, s')) :
    ∃ v', Ending.returned (.agg #[y0, y1, y2, y3]) = .returned v' ∧ VShows (fun k => w.heap.size ≤ k) w3 r.1 v' ∧ UnSt fb rb B w3 r.2 ∧ Fr (TDirt fb rb) w w3 := by
  subst hr
  exact ⟨_, rfl, hT, hs, hf.trans hf2 (fun k hk e => by rcases e with e | e; exact e; omega)⟩

/-- A value without parts. -/
theorem leaf_shows {R : Nat → Prop} {w : World} (n : Int) (f : Nat) (s : Txt) (hb : VB n f s 0) : VShows R w (.mk n f s 0 (fun _ => .nil)) (.agg #[.int .i64 n, .float .f64 f, .string ⟨s.toArray⟩, .slice none 0 0]) :=
  ⟨_, rfl, hb, .inl ⟨rfl, _, _, rfl⟩⟩
end
section
attribute [local go_sem] run_store_float
set_option maxRecDepth 100000

/-- What take says, where it doesn't stop at once. -/
def TakeGo (t : KT) : Prop := ∀ (R0 : Nat → Prop) (v : Value) (w : World) (fb rb B : Nat) (l : List UInt8) (q : Nat) (lv : Nat) (lz : Int), lz = lv → lv ≤ 100 → Shows R0 w t v → UnSt fb rb B w ((l, 0), q) → B ≤ w.heap.size → (∀ k, R0 k → ¬ TDirt fb rb k) → q ≤ 1048575 → lv ≠ 0 →
  Calls Try.prog 21 #[.pointer (some ⟨fb, 0, none⟩), v, .int .i64 lz] w fun e w' => ∃ v', e = .returned v' ∧ VShows (fun k => w.heap.size ≤ k) w' (takeE t lv ((l, 0), q)).1 v' ∧ UnSt fb rb B w' (takeE t lv ((l, 0), q)).2 ∧ Fr (TDirt fb rb) w w'

theorem take_k0 (k : Nat) (m : Int) (ns : List Txt) (n : Nat) (of : Nat → KT) (hk0 : k = 0) : TakeGo (.mk k m ns n of) := by
  intro R0 v w fb rb B l q lv lz hlz hlv hsh hst hB hR hq hlv0
  have HE : Hid (takeE (.mk k m ns n of) lv ((l, 0), q) = (vnum (withinS (l, 0) 1).1, ((withinS (l, 0) 1).2, q + 1))) := Lib.hid (by
    subst hk0
    unfold takeE
    rw [if_neg (by show ¬ (lv = 0 ∨ 1048576 < q + 1); omega)]
    rfl)
  obtain ⟨na, nc, a', c', rfl, hs⟩ := shows_lit hsh
  have hph := take_head fb rb B ((l, 0), q) w #[.int .u8 k, .int .i64 m, .slice na ns.length nc, .slice a' n c'] hst hB
  have f1 : Fr (fun _ => False) w ((w.alloc (.cells #[.int .u8 k, .int .i64 m, .slice na ns.length nc, .slice a' n c'] 34)).alloc (.cells #[.int .i64 0, .float .f64 0, .string ⟨#[]⟩, .slice none 0 0] 42)) := ((Fr.refl _ _).alloc _).alloc _
  obtain ⟨p0, p1, z1⟩ := un_cells (hst.fr f1 (fun _ _ h => h))
  have hfb1 : fb ≠ w.heap.size := by have := hst.lt; omega
  have hfb2 : fb ≠ w.heap.size + 1 := by have := hst.lt; omega
  have HSH := Lib.hid (And.intro hsh (And.intro hs hR))
  have HST := Lib.hid hst
  clear hsh hst hs hR
  simp only at p0 p1 z1 hph
  have hqw : IntKind.i64.wrap ((q : Int) + 1) = (q : Int) + 1 := by rw [IntKind.wrap_i64]; omega
  obtain ⟨qz, hqz⟩ : ∃ qz : Int, (q : Int) + 1 = qz := ⟨_, rfl⟩
  have hbig : ¬ (1048576 : Int) < qz := by omega
  have hz0 : (lz == 0) = false := by simp; omega
  rw [hqz] at hph hqw
  have HQZ := Lib.hid hqz
  have HQ := Lib.hid hq
  have HLZ := Lib.hid (And.intro hlz hlv)
  clear hlz hlv hq
  obtain ⟨kz, hkz⟩ : ∃ kz : Int, ((k : Nat) : Int) = kz := ⟨_, rfl⟩
  rw [hkz] at hph f1 p0 p1 z1 ⊢
  have e0 : (kz == 0) = true := by simp; omega
  have e1 : (kz == 1) = false := by simp; omega
  have e2 : (kz == 2) = false := by simp; omega
  have e3 : (kz == 3) = false := by simp; omega
  have e4 : (kz == 4) = false := by simp; omega
  have e5 : (kz == 5) = false := by simp; omega
  have e6 : (kz == 6) = false := by simp; omega
  have e7 : (kz == 7) = false := by simp; omega
  have e8 : (kz == 8) = false := by simp; omega
  have HKZ := Lib.hid hkz
  clear hkz hk0
  go_enter Try.func21, Try.ntmps21
  go_upto_region 1 with fail
  obtain ⟨w1, hw1⟩ : ∃ w1, (w.alloc (.cells #[.int .u8 kz, .int .i64 m, .slice na ns.length nc, .slice a' n c'] 34)).alloc (.cells #[.int .i64 0, .float .f64 0, .string ⟨#[]⟩, .slice none 0 0] 42) = w1 := ⟨_, rfl⟩
  rw [hw1] at hph f1 p0 p1 z1 ⊢
  clear hw1
  obtain ⟨vb, hvb⟩ : ∃ vb, w.heap.size + 1 = vb := ⟨_, rfl⟩
  rw [hvb] at hph hfb2 ⊢
  obtain ⟨tb, htb⟩ : ∃ tb, w.heap.size = tb := ⟨_, rfl⟩
  rw [htb] at hph hfb1 ⊢
  have HTB := Lib.hid htb
  clear hvb htb f1
  go_upto_region 2 with fail
  try rw [hqz]
  clear p0 p1 z1 hqz hqw hfb1 hfb2
  generalize w1.setCell ⟨fb, 1, none⟩ (.int .i64 qz) = w2 at *
  obtain ⟨p0, p1, z1⟩ := un_cells hph.st
  simp only at p1
  rw [show (((q + 1 : Nat) : Nat) : Int) = qz from by rw [← HQZ.out]; omega] at p1
  obtain ⟨c0, c1, c2, c3⟩ := cell_of_four hph.tbox
  have HPH := Lib.hid hph
  clear hph
  obtain ⟨rv, hrd, hrv, hrB⟩ := HPH.out.st.rd
  simp only at hrd
  have HRV := Lib.hid (And.intro hrd (And.intro hrv hrB))
  clear hrd hrv hrB
  obtain ⟨x, hx⟩ : ∃ x, (withinS (l, 0) 1).1 = x := ⟨_, rfl⟩
  obtain ⟨sx, hsx⟩ : ∃ sx, (withinS (l, 0) 1).2 = sx := ⟨_, rfl⟩
  have hcall := rdwithin_any rb rv l 0 1 w2 HRV.out.1
  have hxb := withinS_small (l, 0) 1
  rw [hx] at hxb
  rw [hx, hsx] at HE hcall
  have HX := Lib.hid hxb
  clear hx hsx hxb
  go_wp2_with fail
  refine hcall.mono ?_
  clear hcall
  rintro er w3 ⟨rfl, hrd3⟩
  obtain ⟨hu, hf3⟩ := reads_own HPH.out.st HRV.out.2.1 HRV.out.2.2 hrd3
  have HU := Lib.hid (And.intro hu (HPH.out.fr.trans hf3 (fun _ _ h => h)))
  have hvb3 := box_kept HPH.out.vbox hf3 HPH.out.voff.1
  clear hu hf3 hrd3 c0 c1 c2 c3 p0 p1 z1
  obtain ⟨d0, d1, d2, d3⟩ := cell_of_four hvb3
  have u0 : w3.frozen? ⟨vb, 0, none⟩ = false := by simp [World.frozen?, hvb3]
  have u1 : w3.frozen? ⟨vb, 1, none⟩ = false := by simp [World.frozen?, hvb3]
  have u2 : w3.frozen? ⟨vb, 2, none⟩ = false := by simp [World.frozen?, hvb3]
  have u3 : w3.frozen? ⟨vb, 3, none⟩ = false := by simp [World.frozen?, hvb3]
  have HV3 := Lib.hid hvb3
  clear hvb3
  go_wp2
  refine bodyPost_ret (results_cell_row rfl _ _ vb 42 _ _ _ rfl (store_four HV3.out) Try.underlying42 rfl (by kernel_rfl)) rfl ?_
  exact take_done HV3.out HU.out.1 HU.out.2 HPH.out.voff.2.1 HPH.out.voff.2.2 (leaf_shows x 0 [] (by have := HX.out; unfold VB maxLen; simp; omega)) HE.out

theorem take_k1 (k : Nat) (m : Int) (ns : List Txt) (n : Nat) (of : Nat → KT) (hk0 : k = 1) : TakeGo (.mk k m ns n of) := by
  intro R0 v w fb rb B l q lv lz hlz hlv hsh hst hB hR hq hlv0
  have HE : Hid (takeE (.mk k m ns n of) lv ((l, 0), q) = (vnum (numS (l, 0) 2).1, ((numS (l, 0) 2).2, q + 1))) := Lib.hid (by
    subst hk0
    unfold takeE
    rw [if_neg (by show ¬ (lv = 0 ∨ 1048576 < q + 1); omega)]
    rfl)
  obtain ⟨na, nc, a', c', rfl, hs⟩ := shows_lit hsh
  have hph := take_head fb rb B ((l, 0), q) w #[.int .u8 k, .int .i64 m, .slice na ns.length nc, .slice a' n c'] hst hB
  have f1 : Fr (fun _ => False) w ((w.alloc (.cells #[.int .u8 k, .int .i64 m, .slice na ns.length nc, .slice a' n c'] 34)).alloc (.cells #[.int .i64 0, .float .f64 0, .string ⟨#[]⟩, .slice none 0 0] 42)) := ((Fr.refl _ _).alloc _).alloc _
  obtain ⟨p0, p1, z1⟩ := un_cells (hst.fr f1 (fun _ _ h => h))
  have hfb1 : fb ≠ w.heap.size := by have := hst.lt; omega
  have hfb2 : fb ≠ w.heap.size + 1 := by have := hst.lt; omega
  have HSH := Lib.hid (And.intro hsh (And.intro hs hR))
  have HST := Lib.hid hst
  clear hsh hst hs hR
  simp only at p0 p1 z1 hph
  have hqw : IntKind.i64.wrap ((q : Int) + 1) = (q : Int) + 1 := by rw [IntKind.wrap_i64]; omega
  obtain ⟨qz, hqz⟩ : ∃ qz : Int, (q : Int) + 1 = qz := ⟨_, rfl⟩
  have hbig : ¬ (1048576 : Int) < qz := by omega
  have hz0 : (lz == 0) = false := by simp; omega
  rw [hqz] at hph hqw
  have HQZ := Lib.hid hqz
  have HQ := Lib.hid hq
  have HLZ := Lib.hid (And.intro hlz hlv)
  clear hlz hlv hq
  obtain ⟨kz, hkz⟩ : ∃ kz : Int, ((k : Nat) : Int) = kz := ⟨_, rfl⟩
  rw [hkz] at hph f1 p0 p1 z1 ⊢
  have e0 : (kz == 0) = false := by simp; omega
  have e1 : (kz == 1) = true := by simp; omega
  have e2 : (kz == 2) = false := by simp; omega
  have e3 : (kz == 3) = false := by simp; omega
  have e4 : (kz == 4) = false := by simp; omega
  have e5 : (kz == 5) = false := by simp; omega
  have e6 : (kz == 6) = false := by simp; omega
  have e7 : (kz == 7) = false := by simp; omega
  have e8 : (kz == 8) = false := by simp; omega
  have HKZ := Lib.hid hkz
  clear hkz hk0
  go_enter Try.func21, Try.ntmps21
  go_upto_region 1 with fail
  obtain ⟨w1, hw1⟩ : ∃ w1, (w.alloc (.cells #[.int .u8 kz, .int .i64 m, .slice na ns.length nc, .slice a' n c'] 34)).alloc (.cells #[.int .i64 0, .float .f64 0, .string ⟨#[]⟩, .slice none 0 0] 42) = w1 := ⟨_, rfl⟩
  rw [hw1] at hph f1 p0 p1 z1 ⊢
  clear hw1
  obtain ⟨vb, hvb⟩ : ∃ vb, w.heap.size + 1 = vb := ⟨_, rfl⟩
  rw [hvb] at hph hfb2 ⊢
  obtain ⟨tb, htb⟩ : ∃ tb, w.heap.size = tb := ⟨_, rfl⟩
  rw [htb] at hph hfb1 ⊢
  have HTB := Lib.hid htb
  clear hvb htb f1
  go_upto_region 2 with fail
  try rw [hqz]
  clear p0 p1 z1 hqz hqw hfb1 hfb2
  generalize w1.setCell ⟨fb, 1, none⟩ (.int .i64 qz) = w2 at *
  obtain ⟨p0, p1, z1⟩ := un_cells hph.st
  simp only at p1
  rw [show (((q + 1 : Nat) : Nat) : Int) = qz from by rw [← HQZ.out]; omega] at p1
  obtain ⟨c0, c1, c2, c3⟩ := cell_of_four hph.tbox
  have HPH := Lib.hid hph
  clear hph
  obtain ⟨rv, hrd, hrv, hrB⟩ := HPH.out.st.rd
  simp only at hrd
  have HRV := Lib.hid (And.intro hrd (And.intro hrv hrB))
  clear hrd hrv hrB
  obtain ⟨x, hx⟩ : ∃ x, (numS (l, 0) 2).1 = x := ⟨_, rfl⟩
  obtain ⟨sx, hsx⟩ : ∃ sx, (numS (l, 0) 2).2 = sx := ⟨_, rfl⟩
  have hcall := rword_any rb rv l 0 w2 HRV.out.1
  have hxb : (numS (l, 0) 2).1 < 256 ^ 2 := numS_small (l, 0) 2
  rw [hx] at hxb
  rw [hx, hsx] at HE hcall
  have hxw : IntKind.i64.wrap (x : Int) = (x : Int) := by rw [IntKind.wrap_i64]; omega
  have HX := Lib.hid hxb
  clear hx hsx hxb
  go_wp2_with fail
  refine hcall.mono ?_
  clear hcall
  rintro er w3 ⟨rfl, hrd3⟩
  obtain ⟨hu, hf3⟩ := reads_own HPH.out.st HRV.out.2.1 HRV.out.2.2 hrd3
  have HU := Lib.hid (And.intro hu (HPH.out.fr.trans hf3 (fun _ _ h => h)))
  have hvb3 := box_kept HPH.out.vbox hf3 HPH.out.voff.1
  clear hu hf3 hrd3 c0 c1 c2 c3 p0 p1 z1
  obtain ⟨d0, d1, d2, d3⟩ := cell_of_four hvb3
  have u0 : w3.frozen? ⟨vb, 0, none⟩ = false := by simp [World.frozen?, hvb3]
  have u1 : w3.frozen? ⟨vb, 1, none⟩ = false := by simp [World.frozen?, hvb3]
  have u2 : w3.frozen? ⟨vb, 2, none⟩ = false := by simp [World.frozen?, hvb3]
  have u3 : w3.frozen? ⟨vb, 3, none⟩ = false := by simp [World.frozen?, hvb3]
  have HV3 := Lib.hid hvb3
  clear hvb3
  go_wp2
  refine bodyPost_ret (results_cell_row rfl _ _ vb 42 _ _ _ rfl (store_four HV3.out) Try.underlying42 rfl (by kernel_rfl)) rfl ?_
  clear hxw
  exact take_done HV3.out HU.out.1 HU.out.2 HPH.out.voff.2.1 HPH.out.voff.2.2 (leaf_shows x 0 [] (by have := HX.out; unfold VB maxLen; simp; omega)) HE.out

theorem take_k2 (k : Nat) (m : Int) (ns : List Txt) (n : Nat) (of : Nat → KT) (hk0 : k = 2) : TakeGo (.mk k m ns n of) := by
  intro R0 v w fb rb B l q lv lz hlz hlv hsh hst hB hR hq hlv0
  have HE : Hid (takeE (.mk k m ns n of) lv ((l, 0), q) = (vnum (long32 (numS (l, 0) 4).1), ((numS (l, 0) 4).2, q + 1))) := Lib.hid (by
    subst hk0
    unfold takeE
    rw [if_neg (by show ¬ (lv = 0 ∨ 1048576 < q + 1); omega)]
    rfl)
  obtain ⟨na, nc, a', c', rfl, hs⟩ := shows_lit hsh
  have hph := take_head fb rb B ((l, 0), q) w #[.int .u8 k, .int .i64 m, .slice na ns.length nc, .slice a' n c'] hst hB
  have f1 : Fr (fun _ => False) w ((w.alloc (.cells #[.int .u8 k, .int .i64 m, .slice na ns.length nc, .slice a' n c'] 34)).alloc (.cells #[.int .i64 0, .float .f64 0, .string ⟨#[]⟩, .slice none 0 0] 42)) := ((Fr.refl _ _).alloc _).alloc _
  obtain ⟨p0, p1, z1⟩ := un_cells (hst.fr f1 (fun _ _ h => h))
  have hfb1 : fb ≠ w.heap.size := by have := hst.lt; omega
  have hfb2 : fb ≠ w.heap.size + 1 := by have := hst.lt; omega
  have HSH := Lib.hid (And.intro hsh (And.intro hs hR))
  have HST := Lib.hid hst
  clear hsh hst hs hR
  simp only at p0 p1 z1 hph
  have hqw : IntKind.i64.wrap ((q : Int) + 1) = (q : Int) + 1 := by rw [IntKind.wrap_i64]; omega
  obtain ⟨qz, hqz⟩ : ∃ qz : Int, (q : Int) + 1 = qz := ⟨_, rfl⟩
  have hbig : ¬ (1048576 : Int) < qz := by omega
  have hz0 : (lz == 0) = false := by simp; omega
  rw [hqz] at hph hqw
  have HQZ := Lib.hid hqz
  have HQ := Lib.hid hq
  have HLZ := Lib.hid (And.intro hlz hlv)
  clear hlz hlv hq
  obtain ⟨kz, hkz⟩ : ∃ kz : Int, ((k : Nat) : Int) = kz := ⟨_, rfl⟩
  rw [hkz] at hph f1 p0 p1 z1 ⊢
  have e0 : (kz == 0) = false := by simp; omega
  have e1 : (kz == 1) = false := by simp; omega
  have e2 : (kz == 2) = true := by simp; omega
  have e3 : (kz == 3) = false := by simp; omega
  have e4 : (kz == 4) = false := by simp; omega
  have e5 : (kz == 5) = false := by simp; omega
  have e6 : (kz == 6) = false := by simp; omega
  have e7 : (kz == 7) = false := by simp; omega
  have e8 : (kz == 8) = false := by simp; omega
  have HKZ := Lib.hid hkz
  clear hkz hk0
  go_enter Try.func21, Try.ntmps21
  go_upto_region 1 with fail
  obtain ⟨w1, hw1⟩ : ∃ w1, (w.alloc (.cells #[.int .u8 kz, .int .i64 m, .slice na ns.length nc, .slice a' n c'] 34)).alloc (.cells #[.int .i64 0, .float .f64 0, .string ⟨#[]⟩, .slice none 0 0] 42) = w1 := ⟨_, rfl⟩
  rw [hw1] at hph f1 p0 p1 z1 ⊢
  clear hw1
  obtain ⟨vb, hvb⟩ : ∃ vb, w.heap.size + 1 = vb := ⟨_, rfl⟩
  rw [hvb] at hph hfb2 ⊢
  obtain ⟨tb, htb⟩ : ∃ tb, w.heap.size = tb := ⟨_, rfl⟩
  rw [htb] at hph hfb1 ⊢
  have HTB := Lib.hid htb
  clear hvb htb f1
  go_upto_region 2 with fail
  try rw [hqz]
  clear p0 p1 z1 hqz hqw hfb1 hfb2
  generalize w1.setCell ⟨fb, 1, none⟩ (.int .i64 qz) = w2 at *
  obtain ⟨p0, p1, z1⟩ := un_cells hph.st
  simp only at p1
  rw [show (((q + 1 : Nat) : Nat) : Int) = qz from by rw [← HQZ.out]; omega] at p1
  obtain ⟨c0, c1, c2, c3⟩ := cell_of_four hph.tbox
  have HPH := Lib.hid hph
  clear hph
  obtain ⟨rv, hrd, hrv, hrB⟩ := HPH.out.st.rd
  simp only at hrd
  have HRV := Lib.hid (And.intro hrd (And.intro hrv hrB))
  clear hrd hrv hrB
  obtain ⟨x, hx⟩ : ∃ x, (numS (l, 0) 4).1 = x := ⟨_, rfl⟩
  obtain ⟨sx, hsx⟩ : ∃ sx, (numS (l, 0) 4).2 = sx := ⟨_, rfl⟩
  have hcall := rlong_any rb rv l 0 w2 HRV.out.1
  have hxb : (numS (l, 0) 4).1 < 256 ^ 4 := numS_small (l, 0) 4
  rw [hx] at hxb
  rw [hx, hsx] at HE hcall
  obtain ⟨y, hy⟩ : ∃ y, long32 x = y := ⟨_, rfl⟩
  have hxw : IntKind.i32.wrap (x : Int) = y := by rw [wrap32_long _ (by omega) (by omega), hy]
  have hyb : -2147483648 ≤ y ∧ y ≤ 2147483647 := by rw [← hy]; unfold long32; constructor <;> split <;> omega
  have hyw : IntKind.i64.wrap y = y := by rw [IntKind.wrap_i64]; omega
  rw [hy] at HE
  have HX := Lib.hid hyb
  clear hx hsx hxb hy hyb
  go_wp2_with fail
  refine hcall.mono ?_
  clear hcall
  rintro er w3 ⟨rfl, hrd3⟩
  obtain ⟨hu, hf3⟩ := reads_own HPH.out.st HRV.out.2.1 HRV.out.2.2 hrd3
  have HU := Lib.hid (And.intro hu (HPH.out.fr.trans hf3 (fun _ _ h => h)))
  have hvb3 := box_kept HPH.out.vbox hf3 HPH.out.voff.1
  clear hu hf3 hrd3 c0 c1 c2 c3 p0 p1 z1
  obtain ⟨d0, d1, d2, d3⟩ := cell_of_four hvb3
  have u0 : w3.frozen? ⟨vb, 0, none⟩ = false := by simp [World.frozen?, hvb3]
  have u1 : w3.frozen? ⟨vb, 1, none⟩ = false := by simp [World.frozen?, hvb3]
  have u2 : w3.frozen? ⟨vb, 2, none⟩ = false := by simp [World.frozen?, hvb3]
  have u3 : w3.frozen? ⟨vb, 3, none⟩ = false := by simp [World.frozen?, hvb3]
  have HV3 := Lib.hid hvb3
  clear hvb3
  go_wp2
  refine bodyPost_ret (results_cell_row rfl _ _ vb 42 _ _ _ rfl (store_four HV3.out) Try.underlying42 rfl (by kernel_rfl)) rfl ?_
  clear hxw hyw
  exact take_done HV3.out HU.out.1 HU.out.2 HPH.out.voff.2.1 HPH.out.voff.2.2 (leaf_shows y 0 [] (by have := HX.out; unfold VB maxLen; simp; omega)) HE.out

theorem tfloat_any (fb rb B : Nat) (l : List UInt8) (q : Nat) (w : World) (h : UnSt fb rb B w ((l, 0), q)) :
    Calls Try.prog 45 #[.pointer (some ⟨fb, 0, none⟩)] w fun e w' => e = .returned (.float .f64 (Fl.canon (numS (l, 0) 8).1)) ∧ UnSt fb rb B w' ((if Fl.canon (numS (l, 0) 8).1 = (numS (l, 0) 8).1 then (numS (l, 0) 8).2 else failS (numS (l, 0) 8).2 4), q) ∧ Fr (TDirt fb rb) w w' := by
  obtain ⟨rv, hrd, hrv, hrB⟩ := h.rd
  simp only at hrd
  obtain ⟨p0, p1, z1⟩ := un_cells h
  have H := Lib.hid h
  have HRV := Lib.hid (And.intro hrd (And.intro hrv hrB))
  clear h hrd hrv hrB
  obtain ⟨x, hx⟩ : ∃ x, (numS (l, 0) 8).1 = x := ⟨_, rfl⟩
  obtain ⟨l2, x2, hsx⟩ : ∃ l2 x2, (numS (l, 0) 8).2 = (l2, x2) := ⟨_, _, rfl⟩
  have hcall := rquad_any rb rv l 0 w HRV.out.1
  rw [hx, hsx] at hcall ⊢
  clear hx hsx
  obtain ⟨sz, hsz⟩ : ∃ sz, (if Fl.canon x = x then (l2, x2) else failS (l2, x2) 4) = sz := ⟨_, rfl⟩
  rw [hsz]
  have HSZ := Lib.hid hsz
  clear hsz
  go_enter Try.func45, Try.ntmps45
  go_wp2_with fail
  refine hcall.mono ?_
  clear hcall
  rintro er w1 ⟨rfl, hrd1⟩
  obtain ⟨hu, hf1⟩ := reads_own H.out HRV.out.2.1 HRV.out.2.2 hrd1
  have HU := Lib.hid (And.intro hu hf1)
  clear hu hf1 hrd1 p0 p1 z1
  obtain ⟨p0, p1, z1⟩ := un_cells HU.out.1
  go_wp2_with fail
  refine (of_any x w1).mono ?_
  rintro er w2 ⟨rfl, rfl⟩
  by_cases hc : Fl.canon x = x
  · have hcb : ((Fl.canon x : Int) == x) = true := by simp [hc]
    obtain rfl : (l2, x2) = sz := by have := HSZ.out; rw [if_pos hc] at this; exact this
    rw [hcb]
    clear hcb hc
    go_wp2
    go_ret
    exact ⟨rfl, HU.out.1, HU.out.2⟩
  · have hcb : ((Fl.canon x : Int) == x) = false := by simp; omega
    obtain rfl : failS (l2, x2) 4 = sz := by have := HSZ.out; rw [if_neg hc] at this; exact this
    rw [hcb]
    clear hcb hc
    obtain ⟨rv2, hrd2, hrv2, hrB2⟩ := HU.out.1.rd
    simp only at hrd2
    have HR2 := Lib.hid (And.intro hrv2 hrB2)
    have hfail := rdfail_any rb rv2 l2 x2 4 w1 hrd2
    clear hrd2 hrv2 hrB2
    go_wp2_with fail
    refine hfail.mono ?_
    clear hfail
    rintro er w3 ⟨rfl, hrd3⟩
    obtain ⟨hu, hf3⟩ := reads_own HU.out.1 HR2.out.1 HR2.out.2 hrd3
    have HU3 := Lib.hid (And.intro hu (HU.out.2.trans hf3 (fun _ _ h => h)))
    clear hu hf3 hrd3 p0 p1 z1
    go_wp2
    go_ret
    exact ⟨rfl, HU3.out.1, HU3.out.2⟩

theorem take_k3 (k : Nat) (m : Int) (ns : List Txt) (n : Nat) (of : Nat → KT) (hk0 : k = 3) : TakeGo (.mk k m ns n of) := by
  intro R0 v w fb rb B l q lv lz hlz hlv hsh hst hB hR hq hlv0
  have HE : Hid (takeE (.mk k m ns n of) lv ((l, 0), q) = (.mk 0 (Fl.canon (numS (l, 0) 8).1) [] 0 (fun _ => .nil), ((if Fl.canon (numS (l, 0) 8).1 = (numS (l, 0) 8).1 then (numS (l, 0) 8).2 else failS (numS (l, 0) 8).2 4), q + 1))) := Lib.hid (by
    subst hk0
    unfold takeE
    rw [if_neg (by show ¬ (lv = 0 ∨ 1048576 < q + 1); omega)]
    rfl)
  obtain ⟨na, nc, a', c', rfl, hs⟩ := shows_lit hsh
  have hph := take_head fb rb B ((l, 0), q) w #[.int .u8 k, .int .i64 m, .slice na ns.length nc, .slice a' n c'] hst hB
  have f1 : Fr (fun _ => False) w ((w.alloc (.cells #[.int .u8 k, .int .i64 m, .slice na ns.length nc, .slice a' n c'] 34)).alloc (.cells #[.int .i64 0, .float .f64 0, .string ⟨#[]⟩, .slice none 0 0] 42)) := ((Fr.refl _ _).alloc _).alloc _
  obtain ⟨p0, p1, z1⟩ := un_cells (hst.fr f1 (fun _ _ h => h))
  have hfb1 : fb ≠ w.heap.size := by have := hst.lt; omega
  have hfb2 : fb ≠ w.heap.size + 1 := by have := hst.lt; omega
  have HSH := Lib.hid (And.intro hsh (And.intro hs hR))
  have HST := Lib.hid hst
  clear hsh hst hs hR
  simp only at p0 p1 z1 hph
  have hqw : IntKind.i64.wrap ((q : Int) + 1) = (q : Int) + 1 := by rw [IntKind.wrap_i64]; omega
  obtain ⟨qz, hqz⟩ : ∃ qz : Int, (q : Int) + 1 = qz := ⟨_, rfl⟩
  have hbig : ¬ (1048576 : Int) < qz := by omega
  have hz0 : (lz == 0) = false := by simp; omega
  rw [hqz] at hph hqw
  have HQZ := Lib.hid hqz
  have HQ := Lib.hid hq
  have HLZ := Lib.hid (And.intro hlz hlv)
  clear hlz hlv hq
  obtain ⟨kz, hkz⟩ : ∃ kz : Int, ((k : Nat) : Int) = kz := ⟨_, rfl⟩
  rw [hkz] at hph f1 p0 p1 z1 ⊢
  have e0 : (kz == 0) = false := by simp; omega
  have e1 : (kz == 1) = false := by simp; omega
  have e2 : (kz == 2) = false := by simp; omega
  have e3 : (kz == 3) = true := by simp; omega
  have e4 : (kz == 4) = false := by simp; omega
  have e5 : (kz == 5) = false := by simp; omega
  have e6 : (kz == 6) = false := by simp; omega
  have e7 : (kz == 7) = false := by simp; omega
  have e8 : (kz == 8) = false := by simp; omega
  have HKZ := Lib.hid hkz
  clear hkz hk0
  go_enter Try.func21, Try.ntmps21
  go_upto_region 1 with fail
  obtain ⟨w1, hw1⟩ : ∃ w1, (w.alloc (.cells #[.int .u8 kz, .int .i64 m, .slice na ns.length nc, .slice a' n c'] 34)).alloc (.cells #[.int .i64 0, .float .f64 0, .string ⟨#[]⟩, .slice none 0 0] 42) = w1 := ⟨_, rfl⟩
  rw [hw1] at hph f1 p0 p1 z1 ⊢
  clear hw1
  obtain ⟨vb, hvb⟩ : ∃ vb, w.heap.size + 1 = vb := ⟨_, rfl⟩
  rw [hvb] at hph hfb2 ⊢
  obtain ⟨tb, htb⟩ : ∃ tb, w.heap.size = tb := ⟨_, rfl⟩
  rw [htb] at hph hfb1 ⊢
  have HTB := Lib.hid htb
  clear hvb htb f1
  go_upto_region 2 with fail
  try rw [hqz]
  clear p0 p1 z1 hqz hqw hfb1 hfb2
  generalize w1.setCell ⟨fb, 1, none⟩ (.int .i64 qz) = w2 at *
  obtain ⟨p0, p1, z1⟩ := un_cells hph.st
  simp only at p1
  rw [show (((q + 1 : Nat) : Nat) : Int) = qz from by rw [← HQZ.out]; omega] at p1
  obtain ⟨c0, c1, c2, c3⟩ := cell_of_four hph.tbox
  have HPH := Lib.hid hph
  clear hph
  obtain ⟨rv, hrd, hrv, hrB⟩ := HPH.out.st.rd
  simp only at hrd
  have HRV := Lib.hid (And.intro hrd (And.intro hrv hrB))
  clear hrd hrv hrB
  obtain ⟨sx, hsx⟩ : ∃ sx, (if Fl.canon (numS (l, 0) 8).1 = (numS (l, 0) 8).1 then (numS (l, 0) 8).2 else failS (numS (l, 0) 8).2 4) = sx := ⟨_, rfl⟩
  obtain ⟨x, hx⟩ : ∃ x, Fl.canon (numS (l, 0) 8).1 = x := ⟨_, rfl⟩
  have hcall := tfloat_any fb rb B l (q + 1) w2 HPH.out.st
  have hxb : x < 18446744073709551616 := by rw [← hx]; exact Fl.canon_lt (numS_small (l, 0) 8)
  rw [hsx] at HE hcall
  rw [hx] at HE hcall
  have HX := Lib.hid hxb
  clear hx hsx hxb
  go_wp2_with fail
  refine hcall.mono ?_
  clear hcall
  rintro er w3 ⟨rfl, hu, hf3⟩
  have HU := Lib.hid (And.intro hu (HPH.out.fr.trans hf3 (fun _ _ h => h)))
  have hvb3 := box_kept HPH.out.vbox hf3 HPH.out.voff.1
  clear hu hf3 c0 c1 c2 c3 p0 p1 z1
  obtain ⟨d0, d1, d2, d3⟩ := cell_of_four hvb3
  have u0 : w3.frozen? ⟨vb, 0, none⟩ = false := by simp [World.frozen?, hvb3]
  have u1 : w3.frozen? ⟨vb, 1, none⟩ = false := by simp [World.frozen?, hvb3]
  have u2 : w3.frozen? ⟨vb, 2, none⟩ = false := by simp [World.frozen?, hvb3]
  have u3 : w3.frozen? ⟨vb, 3, none⟩ = false := by simp [World.frozen?, hvb3]
  have HV3 := Lib.hid hvb3
  clear hvb3
  go_wp2
  refine bodyPost_ret (results_cell_row rfl _ _ vb 42 _ _ _ rfl (store_four HV3.out) Try.underlying42 rfl (by kernel_rfl)) rfl ?_
  exact take_done HV3.out HU.out.1 HU.out.2 HPH.out.voff.2.1 HPH.out.voff.2.2 (leaf_shows 0 x [] (by have := HX.out; unfold VB maxLen; simp; omega)) HE.out

theorem take_kd (k : Nat) (m : Int) (ns : List Txt) (n : Nat) (of : Nat → KT) (hk0 : 9 ≤ k) : TakeGo (.mk k m ns n of) := by
  intro R0 v w fb rb B l q lv lz hlz hlv hsh hst hB hR hq hlv0
  have HE : Hid (takeE (.mk k m ns n of) lv ((l, 0), q) = (zeroV, (failS (l, 0) 5, q + 1))) := Lib.hid (by
    unfold takeE
    rw [if_neg (by show ¬ (lv = 0 ∨ 1048576 < q + 1); omega), if_neg (by omega), if_neg (by omega), if_neg (by omega), if_neg (by omega), if_neg (by omega), if_neg (by omega), if_neg (by omega), if_neg (by omega), if_neg (by omega)])
  obtain ⟨na, nc, a', c', rfl, hs⟩ := shows_lit hsh
  have hph := take_head fb rb B ((l, 0), q) w #[.int .u8 k, .int .i64 m, .slice na ns.length nc, .slice a' n c'] hst hB
  have f1 : Fr (fun _ => False) w ((w.alloc (.cells #[.int .u8 k, .int .i64 m, .slice na ns.length nc, .slice a' n c'] 34)).alloc (.cells #[.int .i64 0, .float .f64 0, .string ⟨#[]⟩, .slice none 0 0] 42)) := ((Fr.refl _ _).alloc _).alloc _
  obtain ⟨p0, p1, z1⟩ := un_cells (hst.fr f1 (fun _ _ h => h))
  have hfb1 : fb ≠ w.heap.size := by have := hst.lt; omega
  have hfb2 : fb ≠ w.heap.size + 1 := by have := hst.lt; omega
  have HSH := Lib.hid (And.intro hsh (And.intro hs hR))
  have HST := Lib.hid hst
  clear hsh hst hs hR
  simp only at p0 p1 z1 hph
  have hqw : IntKind.i64.wrap ((q : Int) + 1) = (q : Int) + 1 := by rw [IntKind.wrap_i64]; omega
  obtain ⟨qz, hqz⟩ : ∃ qz : Int, (q : Int) + 1 = qz := ⟨_, rfl⟩
  have hbig : ¬ (1048576 : Int) < qz := by omega
  have hz0 : (lz == 0) = false := by simp; omega
  rw [hqz] at hph hqw
  have HQZ := Lib.hid hqz
  have HQ := Lib.hid hq
  have HLZ := Lib.hid (And.intro hlz hlv)
  clear hlz hlv hq
  obtain ⟨kz, hkz⟩ : ∃ kz : Int, ((k : Nat) : Int) = kz := ⟨_, rfl⟩
  rw [hkz] at hph f1 p0 p1 z1 ⊢
  have e0 : (kz == 0) = false := by simp; omega
  have e1 : (kz == 1) = false := by simp; omega
  have e2 : (kz == 2) = false := by simp; omega
  have e3 : (kz == 3) = false := by simp; omega
  have e4 : (kz == 4) = false := by simp; omega
  have e5 : (kz == 5) = false := by simp; omega
  have e6 : (kz == 6) = false := by simp; omega
  have e7 : (kz == 7) = false := by simp; omega
  have e8 : (kz == 8) = false := by simp; omega
  have HKZ := Lib.hid hkz
  clear hkz hk0
  go_enter Try.func21, Try.ntmps21
  go_upto_region 1 with fail
  obtain ⟨w1, hw1⟩ : ∃ w1, (w.alloc (.cells #[.int .u8 kz, .int .i64 m, .slice na ns.length nc, .slice a' n c'] 34)).alloc (.cells #[.int .i64 0, .float .f64 0, .string ⟨#[]⟩, .slice none 0 0] 42) = w1 := ⟨_, rfl⟩
  rw [hw1] at hph f1 p0 p1 z1 ⊢
  clear hw1
  obtain ⟨vb, hvb⟩ : ∃ vb, w.heap.size + 1 = vb := ⟨_, rfl⟩
  rw [hvb] at hph hfb2 ⊢
  obtain ⟨tb, htb⟩ : ∃ tb, w.heap.size = tb := ⟨_, rfl⟩
  rw [htb] at hph hfb1 ⊢
  have HTB := Lib.hid htb
  clear hvb htb f1
  go_upto_region 2 with fail
  try rw [hqz]
  clear p0 p1 z1 hqz hqw hfb1 hfb2
  generalize w1.setCell ⟨fb, 1, none⟩ (.int .i64 qz) = w2 at *
  obtain ⟨p0, p1, z1⟩ := un_cells hph.st
  simp only at p1
  rw [show (((q + 1 : Nat) : Nat) : Int) = qz from by rw [← HQZ.out]; omega] at p1
  obtain ⟨c0, c1, c2, c3⟩ := cell_of_four hph.tbox
  have HPH := Lib.hid hph
  clear hph
  obtain ⟨rv, hrd, hrv, hrB⟩ := HPH.out.st.rd
  simp only at hrd
  have HRV := Lib.hid (And.intro hrd (And.intro hrv hrB))
  clear hrd hrv hrB
  have hcall := rdfail_any rb rv l 0 5 w2 HRV.out.1
  obtain ⟨sx, hsx⟩ : ∃ sx, failS (l, 0) 5 = sx := ⟨_, rfl⟩
  rw [hsx] at HE hcall
  clear hsx
  go_wp2_with fail
  refine hcall.mono ?_
  clear hcall
  rintro er w3 ⟨rfl, hrd3⟩
  obtain ⟨hu, hf3⟩ := reads_own HPH.out.st HRV.out.2.1 HRV.out.2.2 hrd3
  have HU := Lib.hid (And.intro hu (HPH.out.fr.trans hf3 (fun _ _ h => h)))
  have hvb3 := box_kept HPH.out.vbox hf3 HPH.out.voff.1
  clear hu hf3 hrd3 c0 c1 c2 c3 p0 p1 z1
  obtain ⟨d0, d1, d2, d3⟩ := cell_of_four hvb3
  have u0 : w3.frozen? ⟨vb, 0, none⟩ = false := by simp [World.frozen?, hvb3]
  have u1 : w3.frozen? ⟨vb, 1, none⟩ = false := by simp [World.frozen?, hvb3]
  have u2 : w3.frozen? ⟨vb, 2, none⟩ = false := by simp [World.frozen?, hvb3]
  have u3 : w3.frozen? ⟨vb, 3, none⟩ = false := by simp [World.frozen?, hvb3]
  have HV3 := Lib.hid hvb3
  clear hvb3
  go_wp2
  refine bodyPost_ret (results_cell_row rfl _ _ vb 42 _ _ _ rfl (store_four HV3.out) Try.underlying42 rfl (by kernel_rfl)) rfl ?_
  exact take_done HV3.out HU.out.1 HU.out.2 HPH.out.voff.2.1 HPH.out.voff.2.2 (leaf_shows 0 0 [] (by unfold VB maxLen; simp)) HE.out

theorem take_stop (k : Nat) (m : Int) (ns : List Txt) (n : Nat) (of : Nat → KT) (R0 : Nat → Prop) (v : Value) (w : World) (fb rb B : Nat) (l : List UInt8) (q : Nat) (lv : Nat) (lz : Int) (hlz : lz = lv) (hlv : lv ≤ 100) (hsh : Shows R0 w (.mk k m ns n of) v) (hst : UnSt fb rb B w ((l, 0), q)) (hB : B ≤ w.heap.size) (hR : ∀ k, R0 k → ¬ TDirt fb rb k) (hq : q ≤ 1048576) (hb : lv = 0 ∨ 1048576 < q + 1) :
    Calls Try.prog 21 #[.pointer (some ⟨fb, 0, none⟩), v, .int .i64 lz] w fun e w' => ∃ v', e = .returned v' ∧ VShows (fun k => w.heap.size ≤ k) w' (takeE (.mk k m ns n of) lv ((l, 0), q)).1 v' ∧ UnSt fb rb B w' (takeE (.mk k m ns n of) lv ((l, 0), q)).2 ∧ Fr (TDirt fb rb) w w' := by
  have HE : Hid (takeE (.mk k m ns n of) lv ((l, 0), q) = (zeroV, (failS (l, 0) 6, q + 1))) := Lib.hid (by
    unfold takeE
    rw [if_pos (by show lv = 0 ∨ 1048576 < q + 1; exact hb)])
  have HB := Lib.hid hb
  clear hb
  obtain ⟨na, nc, a', c', rfl, hs⟩ := shows_lit hsh
  have hph := take_head fb rb B ((l, 0), q) w #[.int .u8 k, .int .i64 m, .slice na ns.length nc, .slice a' n c'] hst hB
  have f1 : Fr (fun _ => False) w ((w.alloc (.cells #[.int .u8 k, .int .i64 m, .slice na ns.length nc, .slice a' n c'] 34)).alloc (.cells #[.int .i64 0, .float .f64 0, .string ⟨#[]⟩, .slice none 0 0] 42)) := ((Fr.refl _ _).alloc _).alloc _
  obtain ⟨p0, p1, z1⟩ := un_cells (hst.fr f1 (fun _ _ h => h))
  have hfb1 : fb ≠ w.heap.size := by have := hst.lt; omega
  have hfb2 : fb ≠ w.heap.size + 1 := by have := hst.lt; omega
  have HSH := Lib.hid (And.intro hsh (And.intro hs hR))
  have HST := Lib.hid hst
  clear hsh hst hs hR
  simp only at p0 p1 z1 hph
  have hqw : IntKind.i64.wrap ((q : Int) + 1) = (q : Int) + 1 := by rw [IntKind.wrap_i64]; omega
  obtain ⟨qz, hqz⟩ : ∃ qz : Int, (q : Int) + 1 = qz := ⟨_, rfl⟩
  rw [hqz] at hph hqw
  have HQZ := Lib.hid hqz
  have HQ := Lib.hid hq
  have HLZ := Lib.hid (And.intro hlz hlv)
  clear hlz hlv hq
  obtain ⟨kz, hkz⟩ : ∃ kz : Int, ((k : Nat) : Int) = kz := ⟨_, rfl⟩
  rw [hkz] at hph f1 p0 p1 z1 ⊢
  have HKZ := Lib.hid hkz
  clear hkz
  go_enter Try.func21, Try.ntmps21
  go_upto_region 1 with fail
  obtain ⟨w1, hw1⟩ : ∃ w1, (w.alloc (.cells #[.int .u8 kz, .int .i64 m, .slice na ns.length nc, .slice a' n c'] 34)).alloc (.cells #[.int .i64 0, .float .f64 0, .string ⟨#[]⟩, .slice none 0 0] 42) = w1 := ⟨_, rfl⟩
  rw [hw1] at hph f1 p0 p1 z1 ⊢
  clear hw1
  obtain ⟨vb, hvb⟩ : ∃ vb, w.heap.size + 1 = vb := ⟨_, rfl⟩
  rw [hvb] at hph hfb2 ⊢
  obtain ⟨tb, htb⟩ : ∃ tb, w.heap.size = tb := ⟨_, rfl⟩
  rw [htb] at hph hfb1 ⊢
  have HTB := Lib.hid htb
  clear hvb htb f1
  go_upto_region 2 with fail
  try rw [hqz]
  clear p0 p1 z1 hqz hqw hfb1 hfb2
  generalize w1.setCell ⟨fb, 1, none⟩ (.int .i64 qz) = w2 at *
  obtain ⟨p0, p1, z1⟩ := un_cells hph.st
  simp only at p1
  rw [show (((q + 1 : Nat) : Nat) : Int) = qz from by rw [← HQZ.out]; omega] at p1
  obtain ⟨c0, c1, c2, c3⟩ := cell_of_four hph.tbox
  have HPH := Lib.hid hph
  clear hph
  obtain ⟨rv, hrd, hrv, hrB⟩ := HPH.out.st.rd
  simp only at hrd
  have HRV := Lib.hid (And.intro hrd (And.intro hrv hrB))
  clear hrd hrv hrB
  have hcall := rdfail_any rb rv l 0 6 w2 HRV.out.1
  obtain ⟨sx, hsx⟩ : ∃ sx, failS (l, 0) 6 = sx := ⟨_, rfl⟩
  rw [hsx] at HE hcall
  clear hsx
  by_cases h0 : lv = 0
  · have hz0 : (lz == 0) = true := by have := HLZ.out.1; simp; omega
    clear h0
    go_wp2_with fail
    refine hcall.mono ?_
    clear hcall
    rintro er w3 ⟨rfl, hrd3⟩
    obtain ⟨hu, hf3⟩ := reads_own HPH.out.st HRV.out.2.1 HRV.out.2.2 hrd3
    have HU := Lib.hid (And.intro hu (HPH.out.fr.trans hf3 (fun _ _ h => h)))
    have hvb3 := box_kept HPH.out.vbox hf3 HPH.out.voff.1
    clear hu hf3 hrd3 c0 c1 c2 c3 p0 p1 z1
    obtain ⟨d0, d1, d2, d3⟩ := cell_of_four hvb3
    have u0 : w3.frozen? ⟨vb, 0, none⟩ = false := by simp [World.frozen?, hvb3]
    have u1 : w3.frozen? ⟨vb, 1, none⟩ = false := by simp [World.frozen?, hvb3]
    have u2 : w3.frozen? ⟨vb, 2, none⟩ = false := by simp [World.frozen?, hvb3]
    have u3 : w3.frozen? ⟨vb, 3, none⟩ = false := by simp [World.frozen?, hvb3]
    have HV3 := Lib.hid hvb3
    clear hvb3
    go_wp2
    refine bodyPost_ret (results_cell_row rfl _ _ vb 42 _ _ _ rfl (store_four HV3.out) Try.underlying42 rfl (by kernel_rfl)) rfl ?_
    exact take_done HV3.out HU.out.1 HU.out.2 HPH.out.voff.2.1 HPH.out.voff.2.2 (leaf_shows 0 0 [] (by unfold VB maxLen; simp)) HE.out
  · have hz0 : (lz == 0) = false := by have := HLZ.out.1; simp; omega
    have hbig : (1048576 : Int) < qz := by have := HB.out; have := HQZ.out; omega
    clear h0
    go_wp2_with fail
    refine hcall.mono ?_
    clear hcall
    rintro er w3 ⟨rfl, hrd3⟩
    obtain ⟨hu, hf3⟩ := reads_own HPH.out.st HRV.out.2.1 HRV.out.2.2 hrd3
    have HU := Lib.hid (And.intro hu (HPH.out.fr.trans hf3 (fun _ _ h => h)))
    have hvb3 := box_kept HPH.out.vbox hf3 HPH.out.voff.1
    clear hu hf3 hrd3 c0 c1 c2 c3 p0 p1 z1
    obtain ⟨d0, d1, d2, d3⟩ := cell_of_four hvb3
    have u0 : w3.frozen? ⟨vb, 0, none⟩ = false := by simp [World.frozen?, hvb3]
    have u1 : w3.frozen? ⟨vb, 1, none⟩ = false := by simp [World.frozen?, hvb3]
    have u2 : w3.frozen? ⟨vb, 2, none⟩ = false := by simp [World.frozen?, hvb3]
    have u3 : w3.frozen? ⟨vb, 3, none⟩ = false := by simp [World.frozen?, hvb3]
    have HV3 := Lib.hid hvb3
    clear hvb3
    go_wp2
    refine bodyPost_ret (results_cell_row rfl _ _ vb 42 _ _ _ rfl (store_four HV3.out) Try.underlying42 rfl (by kernel_rfl)) rfl ?_
    exact take_done HV3.out HU.out.1 HU.out.2 HPH.out.voff.2.1 HPH.out.voff.2.2 (leaf_shows 0 0 [] (by unfold VB maxLen; simp)) HE.out

theorem take_k4 (k : Nat) (m : Int) (ns : List Txt) (n : Nat) (of : Nat → KT) (hk0 : k = 4) : TakeGo (.mk k m ns n of) := by
  intro R0 v w fb rb B l q lv lz hlz hlv hsh hst hB hR hq hlv0
  have HE : Hid (takeE (.mk k m ns n of) lv ((l, 0), q) = (.mk 0 0 (textS (l, 0) m).1 0 (fun _ => .nil), ((textS (l, 0) m).2, q + 1))) := Lib.hid (by
    subst hk0
    unfold takeE
    rw [if_neg (by show ¬ (lv = 0 ∨ 1048576 < q + 1); omega)]
    rfl)
  obtain ⟨na, nc, a', c', rfl, hs⟩ := shows_lit hsh
  have hph := take_head fb rb B ((l, 0), q) w #[.int .u8 k, .int .i64 m, .slice na ns.length nc, .slice a' n c'] hst hB
  have f1 : Fr (fun _ => False) w ((w.alloc (.cells #[.int .u8 k, .int .i64 m, .slice na ns.length nc, .slice a' n c'] 34)).alloc (.cells #[.int .i64 0, .float .f64 0, .string ⟨#[]⟩, .slice none 0 0] 42)) := ((Fr.refl _ _).alloc _).alloc _
  obtain ⟨p0, p1, z1⟩ := un_cells (hst.fr f1 (fun _ _ h => h))
  have hfb1 : fb ≠ w.heap.size := by have := hst.lt; omega
  have hfb2 : fb ≠ w.heap.size + 1 := by have := hst.lt; omega
  have HSH := Lib.hid (And.intro hsh (And.intro hs hR))
  have HST := Lib.hid hst
  clear hsh hst hs hR
  simp only at p0 p1 z1 hph
  have hqw : IntKind.i64.wrap ((q : Int) + 1) = (q : Int) + 1 := by rw [IntKind.wrap_i64]; omega
  obtain ⟨qz, hqz⟩ : ∃ qz : Int, (q : Int) + 1 = qz := ⟨_, rfl⟩
  have hbig : ¬ (1048576 : Int) < qz := by omega
  have hz0 : (lz == 0) = false := by simp; omega
  rw [hqz] at hph hqw
  have HQZ := Lib.hid hqz
  have HQ := Lib.hid hq
  have HLZ := Lib.hid (And.intro hlz hlv)
  clear hlz hlv hq
  obtain ⟨kz, hkz⟩ : ∃ kz : Int, ((k : Nat) : Int) = kz := ⟨_, rfl⟩
  rw [hkz] at hph f1 p0 p1 z1 ⊢
  have e0 : (kz == 0) = false := by simp; omega
  have e1 : (kz == 1) = false := by simp; omega
  have e2 : (kz == 2) = false := by simp; omega
  have e3 : (kz == 3) = false := by simp; omega
  have e4 : (kz == 4) = true := by simp; omega
  have e5 : (kz == 5) = false := by simp; omega
  have e6 : (kz == 6) = false := by simp; omega
  have e7 : (kz == 7) = false := by simp; omega
  have e8 : (kz == 8) = false := by simp; omega
  have HKZ := Lib.hid hkz
  clear hkz hk0
  go_enter Try.func21, Try.ntmps21
  go_upto_region 1 with fail
  obtain ⟨w1, hw1⟩ : ∃ w1, (w.alloc (.cells #[.int .u8 kz, .int .i64 m, .slice na ns.length nc, .slice a' n c'] 34)).alloc (.cells #[.int .i64 0, .float .f64 0, .string ⟨#[]⟩, .slice none 0 0] 42) = w1 := ⟨_, rfl⟩
  rw [hw1] at hph f1 p0 p1 z1 ⊢
  clear hw1
  obtain ⟨vb, hvb⟩ : ∃ vb, w.heap.size + 1 = vb := ⟨_, rfl⟩
  rw [hvb] at hph hfb2 ⊢
  obtain ⟨tb, htb⟩ : ∃ tb, w.heap.size = tb := ⟨_, rfl⟩
  rw [htb] at hph hfb1 ⊢
  have HTB := Lib.hid htb
  clear hvb htb f1
  go_upto_region 2 with fail
  try rw [hqz]
  clear p0 p1 z1 hqz hqw hfb1 hfb2
  generalize w1.setCell ⟨fb, 1, none⟩ (.int .i64 qz) = w2 at *
  obtain ⟨p0, p1, z1⟩ := un_cells hph.st
  simp only at p1
  rw [show (((q + 1 : Nat) : Nat) : Int) = qz from by rw [← HQZ.out]; omega] at p1
  obtain ⟨c0, c1, c2, c3⟩ := cell_of_four hph.tbox
  have HPH := Lib.hid hph
  clear hph
  obtain ⟨rv, hrd, hrv, hrB⟩ := HPH.out.st.rd
  simp only at hrd
  have HRV := Lib.hid (And.intro hrd (And.intro hrv hrB))
  clear hrd hrv hrB
  have HTO := Lib.hid (show ¬ (TDirt fb rb tb ∨ tb = vb) from fun h => h.elim HPH.out.toff HPH.out.two)
  obtain ⟨x, hx⟩ : ∃ x, (textS (l, 0) m).1 = x := ⟨_, rfl⟩
  obtain ⟨sx, hsx⟩ : ∃ sx, (textS (l, 0) m).2 = sx := ⟨_, rfl⟩
  have hcall := fun W h => rtext_any rb rv l 0 m W h
  have hxb : (textS (l, 0) m).1.length ≤ 65536 := textS_len (l, 0) m
  rw [hx] at hxb
  simp only [hx, hsx] at HE hcall
  have HX := Lib.hid hxb
  obtain ⟨X, hX⟩ : ∃ X : ByteArray, ⟨x.toArray⟩ = X := ⟨_, rfl⟩
  simp only [hX] at hcall
  have HXX := Lib.hid hX
  clear hx hsx hxb hX
  go_upto_region 15 with fail
  clear c0 c1 c2 c3 p0 p1 z1
  refine wp_region_chain (by kernel_rfl) [some 65, some 66, some 67, some 68, some 69, some 70, some 71, some 72, none] rfl (by decide) (by intro d hd; simp at hd ⊢; omega)
    [6, 8] (fun cvs wx => TkS fb rb B vb w2 (sx, q + 1) #[.int .i64 0, .float .f64 0, .string X, .slice none 0 0] cvs wx)
    [.free (.pointer (some ⟨fb, 0, none⟩)), .free (.pointer (some ⟨fb, 0, none⟩)), .free (.pointer (some ⟨fb, 0, none⟩)), .free (.pointer (some ⟨rb, 0, none⟩)), .free (.pointer (some ⟨tb, 1, none⟩)), .free (.int .i64 m), .link (some (.string X)), .free (.agg #[.int .i64 0, .float .f64 0, .string X, .slice none 0 0]), .link none]
    (by kernel_rfl) (by kernel_rfl) ?h15 ?step15 ?fin15
  case h15 => exact (Fr.refl _ _).drew
  case step15 =>
    intro vals
    simp only [frOfU, fillU, List.setIfInBounds_toArray, List.set_cons_succ, List.set_cons_zero]
    repeat' (first | exact AllOps.nil | refine AllOps.cons ?_ ?_)
    all_goals
      intro cvs wx hS he hu hlim Kc hK
      simp only [Act.put, List.setIfInBounds_toArray, List.set_cons_succ, List.set_cons_zero, List.getD_cons_zero, List.getD_cons_succ] at hK
      simp only [List.mem_cons, List.not_mem_nil, or_false, forall_eq_or_imp, forall_eq, Region.binds, forall_const, pmode_gc, Bool.false_eq_true, false_imp_iff, List.getD_cons_zero, List.getD_cons_succ, OpSort.val, Option.some.injEq, forall_eq', reduceCtorEq, implies_true, true_and, and_true] at he
      have hp0 := hS.ptr HPH.out.st
      obtain ⟨c0, c1, c2, c3⟩ := cell_of_four (box_kept HPH.out.tbox hS.fr HTO.out)
      have HSX := Lib.hid hS
      clear hS
    all_goals first | (clear hlim hu; (try simp only [he] at hK ⊢); go_simp; exact hK) | skip
    · obtain rfl := hlim (0 : Nat) rfl
      have h1 : Fr (fun _ => False) w2 wx := HSX.out
      clear HSX hlim hu
      simp only [he] at hK ⊢
      go_simp
      go_at_call 46
      refine (hcall wx (HRV.out.1.fr h1 (fun h => h) (fun _ _ h => h))).mono ?_
      rintro er wa ⟨rfl, hrd3⟩
      obtain ⟨hu, hf3⟩ := reads_own (HPH.out.st.fr h1 (fun _ _ h => h)) HRV.out.2.1 HRV.out.2.2 hrd3
      exact hK _ _ (fun _ h => by cases h; rfl) ⟨hu, (h1.mono (fun _ _ h => h.elim)).trans hf3 (fun _ _ h => h)⟩
    · obtain rfl := hlim (1 : Nat) rfl
      have h1 := HSX.out
      simp only [List.take_succ_cons, List.take_zero, List.map_cons, List.map_nil] at h1 hK
      have hx1 : UnSt fb rb B wx (sx, q + 1) := h1.1
      have hx2 : Fr (TDirt fb rb) w2 wx := h1.2
      have hvb3 := box_kept HPH.out.vbox hx2 HPH.out.voff.1
      obtain ⟨d0, d1, d2, d3⟩ := cell_of_four hvb3
      have u0 : wx.frozen? ⟨vb, 0, none⟩ = false := by simp [World.frozen?, hvb3]
      have u1 : wx.frozen? ⟨vb, 1, none⟩ = false := by simp [World.frozen?, hvb3]
      have u2 : wx.frozen? ⟨vb, 2, none⟩ = false := by simp [World.frozen?, hvb3]
      have u3 : wx.frozen? ⟨vb, 3, none⟩ = false := by simp [World.frozen?, hvb3]
      have HV3 := Lib.hid hvb3
      have HU3 := Lib.hid (And.intro hx1 hx2)
      clear HSX h1 hlim hu hx1 hx2 hvb3
      simp only [he] at hK ⊢
      go_simp
      refine hK undef _ (fun _ h => by cases h) ?_
      have hfs : Fr (fun k => k = vb) wx _ := fr_four (.int .i64 0) (.float .f64 0) (.string X) (.slice none 0 0) (Fr.refl _ _) (fun _ => rfl)
      exact ⟨HU3.out.1.fr hfs (fun k hk e => by have := HPH.out.voff.2.2; omega), (HU3.out.2.mono (fun _ _ h => .inl h)).trans (hfs.mono (fun _ _ h => .inr h)) (fun _ _ h => h), store_four HV3.out⟩
  case fin15 =>
  intro vals w3 hS hV
  have v0 := hV 0 _ (by decide) rfl
  have v1 := hV 1 _ (by decide) rfl
  have v2 := hV 2 _ (by decide) rfl
  have v3 := hV 3 _ (by decide) rfl
  have v4 := hV 4 _ (by decide) rfl
  have v5 := hV 5 _ (by decide) rfl
  have v6 := hV 6 _ (by decide) rfl
  have v7 := hV 7 _ (by decide) rfl
  clear hV
  simp only [frOfU, fillU, List.setIfInBounds_toArray, List.set_cons_succ, List.set_cons_zero]
  simp only [Nat.reduceAdd, v0, v1, v2, v3, v4, v5, v6, v7]
  clear v0 v1 v2 v3 v4 v5 v6 v7
  have h3 : UnSt fb rb B w3 (sx, q + 1) ∧ Fr (fun k => TDirt fb rb k ∨ k = vb) w2 w3 ∧ w3.heap[vb]? = some (.cells #[.int .i64 0, .float .f64 0, .string X, .slice none 0 0] 42 (0, 0)) := hS
  clear hS
  have H3 := Lib.hid h3
  clear h3
  go_wp2
  refine bodyPost_ret (results_cell_row rfl _ _ vb 42 _ _ _ rfl H3.out.2.2 Try.underlying42 rfl (by kernel_rfl)) rfl ?_
  exact take_done2 H3.out.1 HPH.out.fr H3.out.2.1 HPH.out.voff.2.1 (HXX.out ▸ leaf_shows 0 0 x (by have := HX.out; unfold VB maxLen; simp; omega)) HE.out

theorem take_k7 (k : Nat) (m : Int) (ns : List Txt) (n : Nat) (of : Nat → KT) (hk0 : k = 7) : TakeGo (.mk k m ns n of) := by
  intro R0 v w fb rb B l q lv lz hlz hlv hsh hst hB hR hq hlv0
  have HE : Hid (takeE (.mk k m ns n of) lv ((l, 0), q) = (vnum (withinS (l, 0) ((ns.length : Int) - 1)).1, ((withinS (l, 0) ((ns.length : Int) - 1)).2, q + 1))) := Lib.hid (by
    subst hk0
    unfold takeE
    rw [if_neg (by show ¬ (lv = 0 ∨ 1048576 < q + 1); omega)]
    rfl)
  have hns : ns.length ≤ 1000 := by obtain ⟨_, _, _, _, _, ht, _⟩ := hsh; exact ht.1
  have HNS := Lib.hid hns
  clear hns
  obtain ⟨na, nc, a', c', rfl, hs⟩ := shows_lit hsh
  have hph := take_head fb rb B ((l, 0), q) w #[.int .u8 k, .int .i64 m, .slice na ns.length nc, .slice a' n c'] hst hB
  have f1 : Fr (fun _ => False) w ((w.alloc (.cells #[.int .u8 k, .int .i64 m, .slice na ns.length nc, .slice a' n c'] 34)).alloc (.cells #[.int .i64 0, .float .f64 0, .string ⟨#[]⟩, .slice none 0 0] 42)) := ((Fr.refl _ _).alloc _).alloc _
  obtain ⟨p0, p1, z1⟩ := un_cells (hst.fr f1 (fun _ _ h => h))
  have hfb1 : fb ≠ w.heap.size := by have := hst.lt; omega
  have hfb2 : fb ≠ w.heap.size + 1 := by have := hst.lt; omega
  have HSH := Lib.hid (And.intro hsh (And.intro hs hR))
  have HST := Lib.hid hst
  clear hsh hst hs hR
  simp only at p0 p1 z1 hph
  have hqw : IntKind.i64.wrap ((q : Int) + 1) = (q : Int) + 1 := by rw [IntKind.wrap_i64]; omega
  obtain ⟨qz, hqz⟩ : ∃ qz : Int, (q : Int) + 1 = qz := ⟨_, rfl⟩
  have hbig : ¬ (1048576 : Int) < qz := by omega
  have hz0 : (lz == 0) = false := by simp; omega
  rw [hqz] at hph hqw
  have HQZ := Lib.hid hqz
  have HQ := Lib.hid hq
  have HLZ := Lib.hid (And.intro hlz hlv)
  clear hlz hlv hq
  obtain ⟨kz, hkz⟩ : ∃ kz : Int, ((k : Nat) : Int) = kz := ⟨_, rfl⟩
  rw [hkz] at hph f1 p0 p1 z1 ⊢
  have e0 : (kz == 0) = false := by simp; omega
  have e1 : (kz == 1) = false := by simp; omega
  have e2 : (kz == 2) = false := by simp; omega
  have e3 : (kz == 3) = false := by simp; omega
  have e4 : (kz == 4) = false := by simp; omega
  have e5 : (kz == 5) = false := by simp; omega
  have e6 : (kz == 6) = false := by simp; omega
  have e7 : (kz == 7) = true := by simp; omega
  have e8 : (kz == 8) = false := by simp; omega
  have HKZ := Lib.hid hkz
  clear hkz hk0
  go_enter Try.func21, Try.ntmps21
  go_upto_region 1 with fail
  obtain ⟨w1, hw1⟩ : ∃ w1, (w.alloc (.cells #[.int .u8 kz, .int .i64 m, .slice na ns.length nc, .slice a' n c'] 34)).alloc (.cells #[.int .i64 0, .float .f64 0, .string ⟨#[]⟩, .slice none 0 0] 42) = w1 := ⟨_, rfl⟩
  rw [hw1] at hph f1 p0 p1 z1 ⊢
  clear hw1
  obtain ⟨vb, hvb⟩ : ∃ vb, w.heap.size + 1 = vb := ⟨_, rfl⟩
  rw [hvb] at hph hfb2 ⊢
  obtain ⟨tb, htb⟩ : ∃ tb, w.heap.size = tb := ⟨_, rfl⟩
  rw [htb] at hph hfb1 ⊢
  have HTB := Lib.hid htb
  clear hvb htb f1
  go_upto_region 2 with fail
  try rw [hqz]
  clear p0 p1 z1 hqz hqw hfb1 hfb2
  generalize w1.setCell ⟨fb, 1, none⟩ (.int .i64 qz) = w2 at *
  obtain ⟨p0, p1, z1⟩ := un_cells hph.st
  simp only at p1
  rw [show (((q + 1 : Nat) : Nat) : Int) = qz from by rw [← HQZ.out]; omega] at p1
  obtain ⟨c0, c1, c2, c3⟩ := cell_of_four hph.tbox
  have HPH := Lib.hid hph
  clear hph
  obtain ⟨rv, hrd, hrv, hrB⟩ := HPH.out.st.rd
  simp only at hrd
  have HRV := Lib.hid (And.intro hrd (And.intro hrv hrB))
  clear hrd hrv hrB
  have HTO := Lib.hid (show ¬ (TDirt fb rb tb ∨ tb = vb) from fun h => h.elim HPH.out.toff HPH.out.two)
  obtain ⟨nz, hnz⟩ : ∃ nz, ns.length = nz := ⟨_, rfl⟩
  rw [hnz] at HE HNS ⊢
  have HPH2 : Hid (w2.heap[tb]? = some (.cells #[.int .u8 kz, .int .i64 m, .slice na nz nc, .slice a' n c'] 34 (0, 0))) := Lib.hid (by rw [← hnz]; exact HPH.out.tbox)
  obtain ⟨yz, hyz⟩ : ∃ yz : Int, (nz : Int) - 1 = yz := ⟨_, rfl⟩
  have hyw : IntKind.i64.wrap yz = yz := by have := HNS.out; rw [IntKind.wrap_i64]; omega
  rw [hyz] at HE
  obtain ⟨x, hx⟩ : ∃ x, (withinS (l, 0) yz).1 = x := ⟨_, rfl⟩
  obtain ⟨sx, hsx⟩ : ∃ sx, (withinS (l, 0) yz).2 = sx := ⟨_, rfl⟩
  have hcall := fun W h => rdwithin_any rb rv l 0 yz W h
  have hxb := withinS_small (l, 0) yz
  rw [hx] at hxb
  simp only [hx, hsx] at HE hcall
  have HX := Lib.hid hxb
  have HYZ := Lib.hid hyz
  have HYW := Lib.hid hyw
  clear hx hsx hxb hnz hyz hyw
  go_upto_region 21 with fail
  clear c0 c1 c2 c3 p0 p1 z1
  refine wp_region_chain (by kernel_rfl) [some 92, some 93, some 94, some 95, some 96, some 97, some 98, some 99, some 100, some 101, none] rfl (by decide) (by intro d hd; simp at hd ⊢; omega)
    [8, 10] (fun cvs wx => TkS fb rb B vb w2 (sx, q + 1) #[.int .i64 x, .float .f64 0, .string ⟨#[]⟩, .slice none 0 0] cvs wx)
    [.free (.pointer (some ⟨fb, 0, none⟩)), .free (.pointer (some ⟨fb, 0, none⟩)), .free (.pointer (some ⟨fb, 0, none⟩)), .free (.pointer (some ⟨rb, 0, none⟩)), .free (.pointer (some ⟨tb, 2, none⟩)), .free (.slice na nz nc), .free (.int .i64 nz), .free (.int .i64 yz), .link (some (.int .i64 x)), .free (.agg #[.int .i64 x, .float .f64 0, .string ⟨#[]⟩, .slice none 0 0]), .link none]
    (by kernel_rfl) (by kernel_rfl) ?h21 ?step21 ?fin21
  case h21 => exact (Fr.refl _ _).drew
  case step21 =>
    intro vals
    simp only [frOfU, fillU, List.setIfInBounds_toArray, List.set_cons_succ, List.set_cons_zero]
    repeat' (first | exact AllOps.nil | refine AllOps.cons ?_ ?_)
    all_goals
      intro cvs wx hS he hu hlim Kc hK
      simp only [Act.put, List.setIfInBounds_toArray, List.set_cons_succ, List.set_cons_zero, List.getD_cons_zero, List.getD_cons_succ] at hK
      simp only [List.mem_cons, List.not_mem_nil, or_false, forall_eq_or_imp, forall_eq, Region.binds, forall_const, pmode_gc, Bool.false_eq_true, false_imp_iff, List.getD_cons_zero, List.getD_cons_succ, OpSort.val, Option.some.injEq, forall_eq', reduceCtorEq, implies_true, true_and, and_true] at he
      have hp0 := hS.ptr HPH.out.st
      obtain ⟨c0, c1, c2, c3⟩ := cell_of_four (box_kept HPH2.out hS.fr HTO.out)
      have hyz := HYZ.out
      have hyw := HYW.out
      have HSX := Lib.hid hS
      clear hS
    all_goals first | (clear hlim hu; (try simp only [he] at hK ⊢); go_simp; exact hK) | skip
    · obtain rfl := hlim (0 : Nat) rfl
      have h1 : Fr (fun _ => False) w2 wx := HSX.out
      clear hyz hyw
      clear HSX hlim hu
      simp only [he] at hK ⊢
      go_simp
      go_at_call 42
      refine (hcall wx (HRV.out.1.fr h1 (fun h => h) (fun _ _ h => h))).mono ?_
      rintro er wa ⟨rfl, hrd3⟩
      obtain ⟨hu, hf3⟩ := reads_own (HPH.out.st.fr h1 (fun _ _ h => h)) HRV.out.2.1 HRV.out.2.2 hrd3
      exact hK _ _ (fun _ h => by cases h; rfl) ⟨hu, (h1.mono (fun _ _ h => h.elim)).trans hf3 (fun _ _ h => h)⟩
    · obtain rfl := hlim (1 : Nat) rfl
      have h1 := HSX.out
      clear hyz hyw
      simp only [List.take_succ_cons, List.take_zero, List.map_cons, List.map_nil] at h1 hK
      have hx1 : UnSt fb rb B wx (sx, q + 1) := h1.1
      have hx2 : Fr (TDirt fb rb) w2 wx := h1.2
      have hvb3 := box_kept HPH.out.vbox hx2 HPH.out.voff.1
      obtain ⟨d0, d1, d2, d3⟩ := cell_of_four hvb3
      have u0 : wx.frozen? ⟨vb, 0, none⟩ = false := by simp [World.frozen?, hvb3]
      have u1 : wx.frozen? ⟨vb, 1, none⟩ = false := by simp [World.frozen?, hvb3]
      have u2 : wx.frozen? ⟨vb, 2, none⟩ = false := by simp [World.frozen?, hvb3]
      have u3 : wx.frozen? ⟨vb, 3, none⟩ = false := by simp [World.frozen?, hvb3]
      have HV3 := Lib.hid hvb3
      have HU3 := Lib.hid (And.intro hx1 hx2)
      clear HSX h1 hlim hu hx1 hx2 hvb3
      simp only [he] at hK ⊢
      go_simp
      refine hK undef _ (fun _ h => by cases h) ?_
      have hfs : Fr (fun k => k = vb) wx _ := fr_four (.int .i64 x) (.float .f64 0) (.string ⟨#[]⟩) (.slice none 0 0) (Fr.refl _ _) (fun _ => rfl)
      exact ⟨HU3.out.1.fr hfs (fun k hk e => by have := HPH.out.voff.2.2; omega), (HU3.out.2.mono (fun _ _ h => .inl h)).trans (hfs.mono (fun _ _ h => .inr h)) (fun _ _ h => h), store_four HV3.out⟩
  case fin21 =>
  intro vals w3 hS hV
  have v0 := hV 0 _ (by decide) rfl
  have v1 := hV 1 _ (by decide) rfl
  have v2 := hV 2 _ (by decide) rfl
  have v3 := hV 3 _ (by decide) rfl
  have v4 := hV 4 _ (by decide) rfl
  have v5 := hV 5 _ (by decide) rfl
  have v6 := hV 6 _ (by decide) rfl
  have v7 := hV 7 _ (by decide) rfl
  have v8 := hV 8 _ (by decide) rfl
  have v9 := hV 9 _ (by decide) rfl
  clear hV
  simp only [frOfU, fillU, List.setIfInBounds_toArray, List.set_cons_succ, List.set_cons_zero]
  simp only [Nat.reduceAdd, v0, v1, v2, v3, v4, v5, v6, v7, v8, v9]
  clear v0 v1 v2 v3 v4 v5 v6 v7 v8 v9
  have h3 : UnSt fb rb B w3 (sx, q + 1) ∧ Fr (fun k => TDirt fb rb k ∨ k = vb) w2 w3 ∧ w3.heap[vb]? = some (.cells #[.int .i64 x, .float .f64 0, .string ⟨#[]⟩, .slice none 0 0] 42 (0, 0)) := hS
  clear hS
  have H3 := Lib.hid h3
  clear h3
  go_wp2
  refine bodyPost_ret (results_cell_row rfl _ _ vb 42 _ _ _ rfl H3.out.2.2 Try.underlying42 rfl (by kernel_rfl)) rfl ?_
  exact take_done2 H3.out.1 HPH.out.fr H3.out.2.1 HPH.out.voff.2.1 (leaf_shows x 0 [] (by have := HX.out; unfold VB maxLen; simp; omega)) HE.out
end
section
attribute [local go_sem] run_store_float
set_option maxRecDepth 100000

section
variable {α : Type} {D : Shown α} {e : TypeId} {size B : Nat} {X : Nat → Prop} {w : World} {pv : Value} {l : List α}
/-- The append of one item, in a walk. -/
theorem wpList_push {P : Program} {ops : Array Oper} {rest : List Oper} {o : Oper} {a : Act} {Q : Exit → Act → World → Prop} (hgd : o.guard = none) (s x : Operand) (t u : TypeId)
    (ho : o.op = .call { callee := .builtin .append, args := #[s, x], argTypes := #[t, u] })
    {z : Value} {bytes : Nat} (ht : P.underlying t = some (.slice e)) (hu : P.underlying u = some (.slice e))
    (hi : (P.info? e).map (fun i => (i.zero, i.size, i.bytes)) = some (some z, size, bytes)) (hzs : z.cells.size = size) (hsz : 0 < size)
    (hs : a.eval s = pv) (h : ItRow D e size B X w pv l) (gg : Nat) (hx : a.eval x = .slice (some ⟨gg, 0, none⟩) 1 1) {news : List Value} {tt : TypeId} {ff : Nat × Nat} (hgg : w.heap[gg]? = some (.cells news.toArray tt ff)) (hn : news.length = size) (h1 : ∀ u ∈ news, u.oneCell' = true)
    (hl : l.length ≤ 100000) (hb : bytes ≤ 1000) (hB : B ≤ w.heap.size) (hX : ∀ k, X k → k < w.heap.size) (y : α) (hy : D.sh (fun k => B ≤ k ∧ ¬ X k ∧ pv.ownBlock ≠ some k) w y news)
    (hK : ∀ v' w', ItRow D e size B X w' v' (l ++ [y]) → Fr (fun k => pv.ownBlock = some k) w w' → (v'.ownBlock = pv.ownBlock ∨ v'.ownBlock = some w.heap.size) → wpList P ops Q rest (a.put o.dst v') w') : wpList P ops Q (o :: rest) a w := by
  obtain ⟨i0, hi0, hz0, hz1, hz2⟩ := info_parts hi
  have hr := h
  obtain ⟨cs, hown, _⟩ := hr
  refine wpList_append_sep (P := P) hgd s x t u ho B e i0 z size bytes ht _ hu (.inr ⟨_, rfl⟩) hi0 hz0 hz1 hz2 hzs hsz pv l.length cs hs hown (.slice (some ⟨gg, 0, none⟩) 1 1) 1 news hx (lenOf_slice _ _ _) (by omega) (first_one 1 size hn hgg) (first_one 1 size hn hgg) h1 (by unfold maxLen; omega) ?_ hB ?_
  · have : (l.length + 1) * bytes ≤ 100001 * 1000 := Nat.mul_le_mul (by omega) hb
    omega
  · intro v' w' ho' hg hv
    exact hK v' w' (h.push hy hn hown ho' hg hv hX) ((Fr.of_grown hg).mono (fun _ _ e => e.symm)) hv
end

theorem each_stop (g : Nat → TS → VT × TS) (s : TS) (j : Nat) (h : (eachN g j s).2.1.2 ≠ 0) (i : Nat) : eachN g (j + i) s = eachN g j s := by
  induction i with
  | zero => rfl
  | succ i ih =>
    rw [show j + (i + 1) = (j + i) + 1 from rfl, eachN, ih, if_pos h]

theorem each_go (g : Nat → TS → VT × TS) (s : TS) (j : Nat) (h : (eachN g j s).2.1.2 = 0) : eachN g (j + 1) s = ((eachN g j s).1 ++ [(g j (eachN g j s).2).1], (g j (eachN g j s).2).2) := by
  rw [eachN, if_neg (by simp [h])]

theorem each_len (g : Nat → TS → VT × TS) (s : TS) (j : Nat) : (eachN g j s).1.length ≤ j := by
  induction j with
  | zero => simp [eachN]
  | succ j ih =>
    rw [eachN]
    split
    · omega
    · simp; omega

/-- The parts lie there. -/
def PartsAt (B : Nat) (w : World) (po : Value) (L : List VT) : Prop := ∃ a cap, po = .slice a L.length cap ∧ VKids (fun k => B ≤ k) w (fun i => L.getD i zeroV) a L.length cap

theorem parts_at {B : Nat} {w : World} {po : Value} {L : List VT} (h : ItRow vShown 42 4 B (fun _ => False) w po L) : PartsAt B w po L := by
  obtain ⟨a, c, rfl⟩ := h.slice
  refine ⟨a, c, rfl, h.vkids _ (fun i x hi => ?_)⟩
  simp [List.getD, hi]

theorem parts_mono {B B' : Nat} {w : World} {po : Value} {L : List VT} (h : PartsAt B w po L) (hB : B' ≤ B) : PartsAt B' w po L := by
  obtain ⟨a, cap, rfl, hk⟩ := h
  refine ⟨a, cap, rfl, ?_⟩
  rcases hk with h | ⟨h1, g, off, hg, rfl, hc⟩
  · exact .inl h
  · refine .inr ⟨h1, g, off, Nat.le_trans hB hg, rfl, fun i hi => ?_⟩
    obtain ⟨x0, x1, x2, x3, c0, c1, c2, c3, hx⟩ := hc i hi
    exact ⟨x0, x1, x2, x3, c0, c1, c2, c3, VShows.mono (fun k _ h => Nat.le_trans hB h) _ _ hx⟩

theorem teach_any (k : Nat) (m : Int) (ns : List Txt) (n : Nat) (of : Nat → KT) (c lv : Nat) (lz : Int) (hlz : lz = lv) (hlv : 1 ≤ lv ∧ lv ≤ 100) (ih : ∀ i, i < c → TakeAt (of (if k = 5 then 0 else i))) (hin : ∀ i, i < c → (if k = 5 then 0 else i) < n) (hc : c ≤ 65536)
    (R0 : Nat → Prop) (tv : Value) (w : World) (fb rb B : Nat) (s : TS) (hsh : Shows R0 w (.mk k m ns n of) tv) (hst : UnSt fb rb B w s) (hB : B ≤ w.heap.size) (hR : ∀ k, R0 k → ¬ TDirt fb rb k) (hcn : Cnt s) :
    Calls Try.prog 48 #[.pointer (some ⟨fb, 0, none⟩), tv, .int .i64 c, .int .i64 lz] w fun e w' => ∃ po, e = .returned po ∧ PartsAt w.heap.size w' po (eachN (fun i s' => takeE (of (if k = 5 then 0 else i)) (lv - 1) s') c s).1 ∧
      UnSt fb rb B w' (eachN (fun i s' => takeE (of (if k = 5 then 0 else i)) (lv - 1) s') c s).2 ∧ Fr (TDirt fb rb) w w' := by
  obtain ⟨g, hg⟩ : ∃ g : Nat → TS → VT × TS, g = fun i s' => takeE (of (if k = 5 then 0 else i)) (lv - 1) s' := ⟨_, rfl⟩
  rw [← hg]
  have HGC : Hid (∀ i s, s.1.2 = 0 → Cnt s → Cnt (g i s).2) := Lib.hid (fun i s h h' => by rw [hg]; exact take_cnt _ _ _ h h')
  obtain ⟨tk, tm, ta, tn, tc, ta', tn', tc', rfl⟩ := hsh.four
  obtain ⟨w1, hw1⟩ : ∃ w1, w1 = w.alloc (.cells #[.int .u8 tk, .int .i64 tm, .slice ta tn tc, .slice ta' tn' tc'] 34) := ⟨_, rfl⟩
  have f1 : Fr (fun _ => False) w w1 := by rw [hw1]; exact (Fr.refl _ _).alloc _
  have q1 : w1.heap[w.heap.size]? = some (.cells #[.int .u8 tk, .int .i64 tm, .slice ta tn tc, .slice ta' tn' tc'] 34 (0, 0)) := by rw [hw1]; exact heap_alloc_new _ _
  have z1 : w1.heap.size = w.heap.size + 1 := by rw [hw1]; simp
  have HG := Lib.hid hg
  have HSH := Lib.hid (Shows.fr f1 (fun _ _ h => h) _ _ hsh)
  have HIN := Lib.hid hin
  have HIH := Lib.hid ih
  have HR := Lib.hid hR
  have HST := Lib.hid (hst.fr f1 (fun _ _ h => h))
  have HB1 := Lib.hid (And.intro hB hst.lt)
  have F1 := Lib.hid f1
  have HCN := Lib.hid hcn
  have HLV := Lib.hid (And.intro hlz hlv)
  have HC := Lib.hid hc
  obtain ⟨yz, hyz⟩ : ∃ yz : Int, lz - 1 = yz := ⟨_, rfl⟩
  have hyw : IntKind.i64.wrap yz = yz := by rw [IntKind.wrap_i64]; omega
  have HYZ := Lib.hid hyz
  have HYW := Lib.hid hyw
  clear hsh hin ih hR hst hB f1 hg hcn hlz hlv hc hyz hyw
  go_enter Try.func48, Try.ntmps48
  go_upto_region 1 with fail
  rw [← hw1]
  clear hw1
  obtain ⟨tb, htb⟩ : ∃ tb, w.heap.size = tb := ⟨_, rfl⟩
  rw [htb] at q1 z1 ⊢
  have H1 := Lib.hid (And.intro q1 (And.intro z1 htb))
  clear q1 z1 htb
  go_wp2_with fail
  go_loopg [9, 10] c (fun G u9 u10 wr => ∃ j : Nat, j ≤ c ∧ G = c - j ∧ u10 = .int .i64 j ∧ Hid (ItRow vShown 42 4 (tb + 1) (fun _ => False) wr u9 (eachN g j s).1) ∧ Hid (UnSt fb rb B wr (eachN g j s).2 ∧ Fr (TDirt fb rb) w1 wr) ∧ Hid (Cnt (eachN g j s).2))
  case atStart => exact ⟨0, Nat.zero_le _, rfl, by go_num, Lib.hid (ItRow.nil _ _ _ _ _ _), Lib.hid ⟨HST.out, Fr.refl _ _⟩, HCN⟩
  case round =>
    obtain ⟨j, hj, rfl, rfl, HROW, HI, HCJ⟩ := hrel
    obtain ⟨p0, p1, zz⟩ := un_cells HI.out.1
    obtain ⟨rv, hrd, hrv, hrB⟩ := HI.out.1.rd
    have HRV := Lib.hid (And.intro hrd (And.intro hrv hrB))
    clear hrd hrv hrB
    obtain ⟨xj, hxj⟩ : ∃ xj, (eachN g j s).2.1.2 = xj := ⟨_, rfl⟩
    have herr := rderr_any rb rv _ _ wr HRV.out.1
    rw [hxj] at herr
    have HXJ := Lib.hid hxj
    clear hxj
    by_cases hlt : j < c
    case neg =>
      obtain rfl : j = c := by omega
      have jc : ¬ (j : Int) < (j : Int) := by omega
      clear hlt herr p0 p1 zz
      go_wp2_with fail
      go_ret
      exact ⟨_, rfl, parts_mono (parts_at HROW.out) (by have := H1.out.2.2; omega), HI.out.1, (F1.out.mono (fun _ _ h => h.elim)).trans HI.out.2 (fun _ _ h => h)⟩
    case pos =>
      have jc : (j : Int) < (c : Int) := by omega
      have HLT := Lib.hid hlt
      clear hlt
      by_cases hx0 : xj = 0
      case neg =>
        have hxe : (xj == 0) = false := by simp; omega
        have HES : Hid (eachN g c s = eachN g j s) := Lib.hid (by
          rw [show c = j + (c - j) by omega]
          exact each_stop g s j (by rw [HXJ.out]; exact hx0) _)
        clear hx0
        go_wp2_with fail
        refine herr.mono ?_
        clear herr
        rintro e1 w2 ⟨rfl, rfl⟩
        go_wp2_with fail
        go_ret
        exact ⟨_, rfl, by rw [HES.out]; exact parts_mono (parts_at HROW.out) (by have := H1.out.2.2; omega), by rw [HES.out]; exact HI.out.1, (F1.out.mono (fun _ _ h => h.elim)).trans HI.out.2 (fun _ _ h => h)⟩
      case pos =>
        subst hx0
        have HOFF : Hid (¬ TDirt fb rb tb) := Lib.hid (fun h => by have := HB1.out; have := H1.out.2.2; rcases h with h | h <;> omega)
        obtain ⟨t0, t1, t2, t3⟩ := cell_of_four (box_kept H1.out.1 HI.out.2 HOFF.out)
        have hpart := part_any R0 k m ns n of _ j wr (Shows.fr HI.out.2 (fun x hx => HR.out x hx) _ _ HSH.out) (HIN.out j HLT.out)
        go_wp2_with fail
        refine herr.mono ?_
        clear herr
        rintro e1 w2 ⟨rfl, rfl⟩
        go_wp2_with fail
        refine hpart.mono ?_
        clear hpart
        rintro e2 wa ⟨v', rfl, hsv, fa⟩
        have htake := HIH.out j HLT.out R0 v' wa fb rb B (eachN g j s).2 (lv - 1) yz (by have := HYZ.out; have := HLV.out; omega) (by have := HLV.out; omega) hsv (HI.out.1.fr fa (fun _ _ h => h)) (by have := fa.size; have := HI.out.2.size; have := HB1.out; have := H1.out.2; omega) HR.out HXJ.out (HCJ.out.2 HXJ.out)
        have hgj : takeE (of (if k = 5 then 0 else j)) (lv - 1) (eachN g j s).2 = g j (eachN g j s).2 := by rw [HG.out]
        rw [hgj] at htake
        have HFA := Lib.hid fa
        have hyz := HYZ.out
        have hyw := HYW.out
        clear hsv fa hgj t0 t1 t2 t3 p0 p1 zz
        go_wp2_with fail
        refine htake.mono ?_
        clear htake
        rintro e3 wb ⟨v2, rfl, hv2, hu2, f2⟩
        obtain ⟨zn, zf, zs, za, zc, zcap, rfl⟩ := hv2.lit
        have HW := Lib.hid (And.intro hv2 (And.intro hu2 f2))
        have f3 : Fr (fun _ => False) wb (wb.alloc (.cells #[.int .i64 zn, .float .f64 zf, .string zs, .slice za zc zcap] 42)) := (Fr.refl _ _).alloc _
        have HF3 := Lib.hid f3
        clear hv2 hu2 f2 f3 hyz hyw
        have HDB : Hid (∀ x, tb + 1 ≤ x → ¬ TDirt fb rb x) := Lib.hid (fun x hx h => by have := HB1.out; have := H1.out.2.2; rcases h with h | h <;> omega)
        go_wp2_with (at_builtin; refine wpList_push (e := 42) (size := 4) (pv := u9) (l := (eachN g j s).1) (B := tb + 1) (X := fun _ => False) (D := vShown) rfl (.tmp 24) (.tmp 32) 40 40 rfl Try.underlying40 Try.underlying40 Try.infoValue rfl (by decide) rfl ?row wb.heap.size rfl (news := [.int .i64 zn, .float .f64 zf, .string zs, .slice za zc zcap]) (tt := 42) (ff := (0, 0)) ?hgg rfl ?one ?len (by omega) ?hB (fun k hk => hk.elim) (g j (eachN g j s).2).1 ?shy ?grow)
        case row => exact ((HROW.out.fr HFA.out (fun _ _ h => h.elim)).fr HW.out.2.2 (fun x hx h => HDB.out x hx h)).fr HF3.out (fun _ _ h => h.elim)
        case hgg => exact heap_alloc_new wb _
        case one => exact vshows_one HW.out.1
        case len => have := each_len g s j; have := HLT.out; have := HC.out; omega
        case hB => have := HF3.out.size; have := HW.out.2.2.size; have := HFA.out.size; have := HI.out.2.size; have := H1.out.2.1; omega
        case shy =>
          exact ⟨_, _, _, _, rfl, VShows.mono (fun x _ hx => ⟨by have := HFA.out.size; have := HI.out.2.size; have := H1.out.2.1; omega, fun h => h, fun h => by have := (HROW.out.own x h).2.1; have := HFA.out.size; omega⟩) _ _ (VShows.fr HF3.out (fun _ _ h => h) _ _ HW.out.1)⟩
        case grow =>
          intro v' w8 hrow f6 hv
          have HEQ : Hid (eachN g (j + 1) s = ((eachN g j s).1 ++ [(g j (eachN g j s).2).1], (g j (eachN g j s).2).2)) := Lib.hid (each_go g s j HXJ.out)
          have HR8 : Hid (ItRow vShown 42 4 (tb + 1) (fun _ => False) w8 v' (eachN g (j + 1) s).1) := Lib.hid (by rw [HEQ.out]; exact hrow)
          have HU8 : Hid (UnSt fb rb B w8 (eachN g (j + 1) s).2 ∧ Fr (TDirt fb rb) w1 w8) := Lib.hid (by
            rw [HEQ.out]
            refine ⟨(HW.out.2.1.fr HF3.out (fun _ _ h => h)).fr f6 (fun x hx h => by have := (HROW.out.own x h).1; have := HB1.out.1; have := H1.out.2.2; omega), ?_⟩
            refine (((HI.out.2.trans HFA.out (fun _ _ h => h.elim)).trans HW.out.2.2 (fun _ _ h => h)).trans HF3.out (fun _ _ h => h.elim)).trans f6 (fun x hx h => ?_)
            have := (HROW.out.own x h).1
            have := H1.out.2.1
            omega)
          have HC8 : Hid (Cnt (eachN g (j + 1) s).2) := Lib.hid (by rw [HEQ.out]; exact HGC.out _ _ HXJ.out HCJ.out)
          clear hrow f6 hv
          have hj1 : (j : Int) + 1 ≤ 65536 := by have := HLT.out; have := HC.out; omega
          have hj2 : 0 ≤ (j : Int) := by omega
          go_wp2
          go_roundg (c - (j + 1))
          case measure => have := HLT.out; omega
          case rel => exact ⟨j + 1, HLT.out, rfl, by go_num, HR8, HU8, HC8⟩
end
end Go.Proofs.Ytplipjijaaejlaa
