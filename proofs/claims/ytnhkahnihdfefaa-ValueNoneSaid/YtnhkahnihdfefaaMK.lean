/-
  The laws' Ref, RefValue and Of: types and values as the document's answer has them, and back.
-/
import Derived.Test.YtnhkahnihdfefaaMH
import Derived.Test.YtnhkahnihdfefaaMA
import Derived.LoopN
namespace Go.Proofs.Ytnhkahnihdfefaa
open Go.RowKit
attribute [local go_sem] run_store_float
set_option linter.unusedVariables false
set_option linter.unusedSimpArgs false

/-- The value v shows the type t as the answer has it, in memory of R. -/
def RShows (R : Nat → Prop) (w : World) : KT → Value → Prop
  | .nil, _ => False
  | .mk k m ns n of, v => ∃ vo, v = .agg #[.int .i64 k, .int .i64 m, .int .i64 (ns.length : Nat), vo] ∧ (k ≤ 255 ∧ ns.length ≤ 1000 ∧ n ≤ 1000) ∧
    ((n = 0 ∧ ∃ a c, vo = .slice a 0 c) ∨
     ∃ g off cap, R g ∧ vo = .slice (some ⟨g, off, none⟩) n cap ∧ n ≤ cap ∧ ∀ i, i < n → ∃ x0 x1 x2 x3,
      w.cell? ⟨g, off + i * 4, none⟩ = some x0 ∧ w.cell? ⟨g, off + i * 4 + 1, none⟩ = some x1 ∧ w.cell? ⟨g, off + i * 4 + 2, none⟩ = some x2 ∧ w.cell? ⟨g, off + i * 4 + 3, none⟩ = some x3 ∧
      RShows R w (of i) (.agg #[x0, x1, x2, x3]))

/-- The parts of such a type. -/
def RKids (R : Nat → Prop) (w : World) (of : Nat → KT) (a : Option Addr) (c cap : Nat) : Prop :=
  c = 0 ∨ c ≤ cap ∧ ∃ g off, R g ∧ a = some ⟨g, off, none⟩ ∧ ∀ i, i < c → ∃ x0 x1 x2 x3,
      w.cell? ⟨g, off + i * 4, none⟩ = some x0 ∧ w.cell? ⟨g, off + i * 4 + 1, none⟩ = some x1 ∧ w.cell? ⟨g, off + i * 4 + 2, none⟩ = some x2 ∧ w.cell? ⟨g, off + i * 4 + 3, none⟩ = some x3 ∧
      RShows R w (of i) (.agg #[x0, x1, x2, x3])

theorem RShows.fr {R S : Nat → Prop} {w w' : World} (hf : Fr S w w') (hS : ∀ k, R k → ¬ S k) (t : KT) : ∀ v, RShows R w t v → RShows R w' t v := by
  induction t with
  | nil => exact fun _ h => h.elim
  | mk k m ns n of ih =>
    rintro v ⟨vo, rfl, hb, ho⟩
    refine ⟨vo, rfl, hb, ?_⟩
    rcases ho with h | ⟨g, off, cap, hg, rfl, hle, hc⟩
    · exact .inl h
    · refine .inr ⟨g, off, cap, hg, rfl, hle, fun i hi => ?_⟩
      obtain ⟨x0, x1, x2, x3, c0, c1, c2, c3, hx⟩ := hc i hi
      exact ⟨x0, x1, x2, x3, cell_fr hf hS hg c0, cell_fr hf hS hg c1, cell_fr hf hS hg c2, cell_fr hf hS hg c3, ih i _ hx⟩

theorem RShows.mono {R S : Nat → Prop} {w : World} (hS : ∀ k, k < w.heap.size → R k → S k) (t : KT) : ∀ v, RShows R w t v → RShows S w t v := by
  induction t with
  | nil => exact fun _ h => h.elim
  | mk k m ns n of ih =>
    rintro v ⟨vo, rfl, hb, ho⟩
    refine ⟨vo, rfl, hb, ?_⟩
    rcases ho with h | ⟨g, off, cap, hg, rfl, hle, hc⟩
    · exact .inl h
    · cases n with
      | zero => exact .inl ⟨rfl, _, _, rfl⟩
      | succ n =>
        refine .inr ⟨g, off, cap, ?_, rfl, hle, fun i hi => ?_⟩
        · obtain ⟨x0, x1, x2, x3, c0, _⟩ := hc 0 (by omega)
          exact hS g (World.block_lt_of_cell? w _ c0) hg
        · obtain ⟨x0, x1, x2, x3, c0, c1, c2, c3, hx⟩ := hc i hi
          exact ⟨x0, x1, x2, x3, c0, c1, c2, c3, ih i _ hx⟩

theorem rshows_open {R : Nat → Prop} {w : World} {t : KT} {v : Value} (h : RShows R w t v) :
    ∃ (k : Nat) (m : Int) (ns : List Txt) (n : Nat) (of : Nat → KT) (a : Option Addr) (cap : Nat), t = .mk k m ns n of ∧ v = .agg #[.int .i64 k, .int .i64 m, .int .i64 (ns.length : Nat), .slice a n cap] ∧ (k ≤ 255 ∧ ns.length ≤ 1000 ∧ n ≤ 1000) ∧ RKids R w of a n cap := by
  cases t with
  | nil => exact h.elim
  | mk k m ns n of =>
    obtain ⟨vo, rfl, hb, ho⟩ := h
    rcases ho with ⟨rfl, a, cap, rfl⟩ | ⟨g, off, cap, hg, rfl, hle, hc⟩
    · exact ⟨k, m, ns, 0, of, a, cap, rfl, rfl, hb, .inl rfl⟩
    · exact ⟨k, m, ns, n, of, _, cap, rfl, rfl, hb, .inr ⟨hle, g, off, hg, rfl, hc⟩⟩

theorem rshows_mk {R : Nat → Prop} {w : World} {k : Nat} {m : Int} {ns : List Txt} {n : Nat} {of : Nat → KT} {a : Option Addr} {cap : Nat} (hb : k ≤ 255 ∧ ns.length ≤ 1000 ∧ n ≤ 1000) (hk : RKids R w of a n cap) : RShows R w (.mk k m ns n of) (.agg #[.int .i64 k, .int .i64 m, .int .i64 (ns.length : Nat), .slice a n cap]) := by
  refine ⟨_, rfl, hb, ?_⟩
  rcases hk with rfl | ⟨hle, g, off, hg, rfl, hc⟩
  · exact .inl ⟨rfl, a, cap, rfl⟩
  · exact .inr ⟨g, off, cap, hg, rfl, hle, hc⟩

theorem RKids.fr {R S : Nat → Prop} {w w' : World} {of : Nat → KT} {a' : Option Addr} {n c' : Nat} (h : RKids R w of a' n c') (hf : Fr S w w') (hS : ∀ k, R k → ¬ S k) : RKids R w' of a' n c' := by
  rcases h with h | ⟨h1, g, off, hg, rfl, hc⟩
  · exact .inl h
  · refine .inr ⟨h1, g, off, hg, rfl, fun i hi => ?_⟩
    obtain ⟨x0, x1, x2, x3, c0, c1, c2, c3, hx⟩ := hc i hi
    exact ⟨x0, x1, x2, x3, cell_fr hf hS hg c0, cell_fr hf hS hg c1, cell_fr hf hS hg c2, cell_fr hf hS hg c3, RShows.fr hf hS _ _ hx⟩

def rShown : Shown KT where
  sh R w t xs := ∃ x0 x1 x2 x3, xs = [x0, x1, x2, x3] ∧ RShows R w t (.agg #[x0, x1, x2, x3])
  fr := by
    rintro R S w w' x xs ⟨x0, x1, x2, x3, rfl, h⟩ f hS
    exact ⟨x0, x1, x2, x3, rfl, RShows.fr f hS _ _ h⟩
  mono := by
    rintro R S w x xs ⟨x0, x1, x2, x3, rfl, h⟩ hS
    exact ⟨x0, x1, x2, x3, rfl, RShows.mono hS _ _ h⟩

theorem RShows.lit {R : Nat → Prop} {w : World} {t : KT} {v : Value} (h : RShows R w t v) :
    ∃ (k m n : Int) (a : Option Addr) (c cap : Nat), v = .agg #[.int .i64 k, .int .i64 m, .int .i64 n, .slice a c cap] := by
  obtain ⟨k, m, ns, n, of, a, cap, _, rfl, _⟩ := rshows_open h
  exact ⟨_, _, _, a, n, cap, rfl⟩

theorem rshows_one {R : Nat → Prop} {w : World} {t : KT} {y0 y1 y2 y3 : Value} (h : RShows R w t (.agg #[y0, y1, y2, y3])) : ∀ u ∈ [y0, y1, y2, y3], u.oneCell' = true := by
  obtain ⟨k, m, n, a, c, cap, e⟩ := h.lit
  simp only [Value.agg.injEq, Array.mk.injEq, List.cons.injEq, and_true] at e
  obtain ⟨rfl, rfl, rfl, rfl⟩ := e
  intro u hu
  simp at hu
  rcases hu with rfl | rfl | rfl | rfl <;> rfl

theorem ItRow.rkids {e : TypeId} {B : Nat} {X : Nat → Prop} {w : World} {a : Option Addr} {n cap : Nat} {ts : List KT} (h : ItRow rShown e 4 B X w (.slice a n cap) ts) (of : Nat → KT) (hof : ∀ i x, ts[i]? = some x → of i = x) :
    RKids (fun k => B ≤ k) w of a n cap := by
  rcases h.cells with ⟨rfl, a', c, h4⟩ | ⟨g, cap', hg, e, hle, hc⟩
  · cases h4; exact .inl rfl
  · cases e
    refine .inr ⟨hle, g, 0, hg.1, rfl, fun i hi => ?_⟩
    obtain ⟨xs, _, hc, x0, x1, x2, x3, rfl, hx⟩ := hc i ts[i] (List.getElem?_eq_getElem hi)
    refine ⟨x0, x1, x2, x3, hc 0 _ rfl, hc 1 _ rfl, hc 2 _ rfl, hc 3 _ rfl, ?_⟩
    rw [hof i _ (List.getElem?_eq_getElem hi)]
    exact RShows.mono (fun k _ h => h.1) _ _ hx

theorem ItRow.vkids' {e : TypeId} {B : Nat} {X : Nat → Prop} {w : World} {a : Option Addr} {n cap : Nat} {ts : List VT} (h : ItRow vShown e 4 B X w (.slice a n cap) ts) (of : Nat → VT) (hof : ∀ i x, ts[i]? = some x → of i = x) :
    VKids (fun k => B ≤ k) w of a n cap := by
  rcases h.cells with ⟨rfl, a', c, h4⟩ | ⟨g, cap', hg, e, hle, hc⟩
  · cases h4; exact .inl rfl
  · cases e
    refine .inr ⟨hle, g, 0, hg.1, rfl, fun i hi => ?_⟩
    obtain ⟨xs, _, hc, x0, x1, x2, x3, rfl, hx⟩ := hc i ts[i] (List.getElem?_eq_getElem hi)
    refine ⟨x0, x1, x2, x3, hc 0 _ rfl, hc 1 _ rfl, hc 2 _ rfl, hc 3 _ rfl, ?_⟩
    rw [hof i _ (List.getElem?_eq_getElem hi)]
    exact VShows.mono (fun k _ h => h.1) _ _ hx

/-- The local struct while its parts are gathered: its cells but the last, and the parts' row. -/
def CLoc (e : TypeId) (x0 x1 x2 : Value) (wx : World) (lb : Nat) (po : Value) : Prop := wx.heap[lb]? = some (.cells #[x0, x1, x2, po] e (0, 0))

def CDirt (lb : Nat) (po : Value) (k : Nat) : Prop := k = lb ∨ po.ownBlock = some k

/-- Ahead of the call, behind it, behind the row of one, behind the append, behind the store. -/
def CopyS {α : Type} (D : Shown α) (e : TypeId) (x0 x1 x2 : Value) (wr : World) (lb : Nat) (po : Value) (L : List α) (T : α) : List Value → World → Prop
  | [], wx => Fr (CDirt lb po) wr wx ∧ CLoc e x0 x1 x2 wx lb po ∧ ItRow D e 4 (lb + 1) (fun _ => False) wx po L
  | [v], wx => Fr (CDirt lb po) wr wx ∧ CLoc e x0 x1 x2 wx lb po ∧ ItRow D e 4 (lb + 1) (fun _ => False) wx po L ∧ ∃ y0 y1 y2 y3, v = .agg #[y0, y1, y2, y3] ∧ D.sh (fun k => wr.heap.size ≤ k) wx T [y0, y1, y2, y3]
  | [_, u], wx => Fr (CDirt lb po) wr wx ∧ CLoc e x0 x1 x2 wx lb po ∧ ItRow D e 4 (lb + 1) (fun _ => False) wx po L ∧ ∃ gg y0 y1 y2 y3, u = .slice (some ⟨gg, 0, none⟩) 1 1 ∧ wx.heap[gg]? = some (.cells #[y0, y1, y2, y3] e (0, 0)) ∧ D.sh (fun k => wr.heap.size ≤ k) wx T [y0, y1, y2, y3]
  | [_, _, x], wx => Fr (CDirt lb po) wr wx ∧ CLoc e x0 x1 x2 wx lb po ∧ ItRow D e 4 (lb + 1) (fun _ => False) wx x (L ++ [T])
  | _ :: _ :: x :: _ :: _, wx => Fr (CDirt lb po) wr wx ∧ CLoc e x0 x1 x2 wx lb x ∧ ItRow D e 4 (lb + 1) (fun _ => False) wx x (L ++ [T])

theorem CopyS.f {α : Type} {D : Shown α} {e : TypeId} {x0 x1 x2 : Value} {wr : World} {lb : Nat} {po : Value} {L : List α} {T : α} {cvs : List Value} {wx : World} (h : CopyS D e x0 x1 x2 wr lb po L T cvs wx) : Fr (CDirt lb po) wr wx := by
  match cvs with
  | [] => exact h.1
  | [_] => exact h.1
  | [_, _] => exact h.1
  | [_, _, _] => exact h.1
  | _ :: _ :: _ :: _ :: _ => exact h.1

theorem CopyS.loc {α : Type} {D : Shown α} {e : TypeId} {x0 x1 x2 : Value} {wr : World} {lb : Nat} {po : Value} {L : List α} {T : α} {cvs : List Value} {wx : World} (h : CopyS D e x0 x1 x2 wr lb po L T cvs wx) (hc : cvs.length ≤ 3) : CLoc e x0 x1 x2 wx lb po := by
  match cvs with
  | [] => exact h.2.1
  | [_] => exact h.2.1
  | [_, _] => exact h.2.1
  | [_, _, _] => exact h.2.1
  | _ :: _ :: _ :: _ :: _ => simp at hc

theorem Try.infoRV : (Try.prog.info? 42).map (fun i => (i.zero, i.size, i.bytes)) = some (some (.agg #[.int .i64 0, .float .f64 0, .string ⟨#[]⟩, .slice none 0 0]), 4, 56) := by kernel_rfl
theorem Try.infoRT : (Try.prog.info? 49).map (fun i => (i.zero, i.size, i.bytes)) = some (some (.agg #[.int .i64 0, .int .i64 0, .int .i64 0, .slice none 0 0]), 4, 48) := by kernel_rfl

theorem map_range_of {α : Type} {f : Nat → α} {n i : Nat} {x : α} (h : ((List.range n).map f)[i]? = some x) : f i = x := by
  rw [List.getElem?_map] at h
  by_cases hlt : i < n
  · rw [List.getElem?_range hlt] at h
    simpa using h
  · rw [List.getElem?_eq_none (by simp; omega)] at h
    cases h

def refAt (t : KT) : Prop := ∀ (R : Nat → Prop) (v : Value) (w : World), Shows R w t v → goodE t →
  Calls Try.prog 13 #[v] w fun e w' => ∃ v', e = .returned v' ∧ RShows (fun k => w.heap.size ≤ k) w' t v' ∧ Fr (fun _ => False) w w'

set_option maxRecDepth 100000 in
set_option maxHeartbeats 16000000 in
theorem ref_any (t : KT) : refAt t := by
  induction t with
  | nil => exact fun _ _ _ h => h.elim
  | mk k m ns n of ih =>
  intro R v w hsh hgood
  obtain ⟨⟨hn12, hown⟩, hkids⟩ := hgood
  obtain ⟨vn, vo, rfl, hk, hn, ht, ho⟩ := hsh
  obtain ⟨na, nc, rfl, _⟩ := ht.shape
  have hnl : ns.length ≤ 1000 := ht.1
  obtain ⟨a', c', rfl, hs⟩ : ∃ a' c', vo = .slice a' n c' ∧ Kids R w of a' n c' := by
    rcases ho with ⟨rfl, a', c', rfl⟩ | ⟨g, off, cap, hg, rfl, hle, hc⟩
    · exact ⟨a', c', rfl, .inl rfl⟩
    · exact ⟨_, cap, rfl, .inr ⟨hle, g, off, hg, rfl, hc⟩⟩
  have HS := Lib.hid hs
  have HGD := Lib.hid hkids
  have hn1 : n ≤ 1000 := by omega
  clear ho hs ht hkids hown
  obtain ⟨w1, hw1⟩ : ∃ w1, w1 = ((w.alloc (.cells #[.int .u8 k, .int .i64 m, .slice na ns.length nc, .slice a' n c'] 32)).alloc (.cells #[.int .i64 0, .int .i64 0, .int .i64 0, .slice none 0 0] 49)).alloc (.cells #[.int .i64 k, .int .i64 m, .int .i64 (ns.length : Nat), .slice none 0 0] 49) := ⟨_, rfl⟩
  have f1 : Fr (fun _ => False) w w1 := by rw [hw1]; exact (((Fr.refl _ _).alloc _).alloc _).alloc _
  have q1 : w1.heap[w.heap.size]? = some (.cells #[.int .u8 k, .int .i64 m, .slice na ns.length nc, .slice a' n c'] 32 (0, 0)) := by
    rw [hw1, Below.heap_alloc _ _ _ (by simp; omega)]; exact heap_alloc_first _ _ _
  have p1 : w1.heap[w.heap.size + 1]? = some (.cells #[.int .i64 0, .int .i64 0, .int .i64 0, .slice none 0 0] 49 (0, 0)) := by
    rw [hw1, Below.heap_alloc _ _ _ (by simp)]; exact heap_alloc_two _ _ _
  have l1 : CLoc 49 (.int .i64 k) (.int .i64 m) (.int .i64 (ns.length : Nat)) w1 (w.heap.size + 1 + 1) (.slice none 0 0) := by
    have h := heap_alloc_new ((w.alloc (.cells #[.int .u8 k, .int .i64 m, .slice na ns.length nc, .slice a' n c'] 32)).alloc (.cells #[.int .i64 0, .int .i64 0, .int .i64 0, .slice none 0 0] 49)) (.cells #[.int .i64 k, .int .i64 m, .int .i64 (ns.length : Nat), .slice none 0 0] 49)
    rw [show ((w.alloc (.cells #[.int .u8 k, .int .i64 m, .slice na ns.length nc, .slice a' n c'] 32)).alloc (.cells #[.int .i64 0, .int .i64 0, .int .i64 0, .slice none 0 0] 49)).heap.size = w.heap.size + 1 + 1 by simp] at h
    rw [hw1]
    exact h
  have w0n : w.heap.size ≠ w.heap.size + 1 := by omega
  obtain ⟨w0, hw0⟩ : ∃ w0, w0 = (w.alloc (.cells #[.int .u8 k, .int .i64 m, .slice na ns.length nc, .slice a' n c'] 32)).alloc (.cells #[.int .i64 0, .int .i64 0, .int .i64 0, .slice none 0 0] 49) := ⟨_, rfl⟩
  have q0 : w0.heap[w.heap.size]? = some (.cells #[.int .u8 k, .int .i64 m, .slice na ns.length nc, .slice a' n c'] 32 (0, 0)) := by rw [hw0]; exact heap_alloc_first _ _ _
  obtain ⟨c0, c1, c2, c3⟩ := cell_of_four q0
  have sz0 : w0.heap.size = w.heap.size + 1 + 1 := by rw [hw0]; simp
  go_enter Try.func13, Try.ntmps13
  go_upto_region 1 with fail
  rw [← hw0]
  have HW1 := Lib.hid (show w1 = w0.alloc (.cells #[.int .i64 k, .int .i64 m, .int .i64 (ns.length : Nat), .slice none 0 0] 49) from by rw [hw1, hw0])
  clear hw0 hw1 q0 w0n
  go_upto_region 2 with fail
  rw [← HW1.out]
  try rw [sz0]
  clear c0 c1 c2 c3 sz0
  obtain ⟨lb, hlb⟩ : ∃ lb, w.heap.size + 1 + 1 = lb := ⟨_, rfl⟩
  obtain ⟨rb, hrb⟩ : ∃ rb, w.heap.size + 1 = rb := ⟨_, rfl⟩
  rw [hlb] at l1 ⊢
  rw [hrb] at p1 ⊢
  have o1 : w.heap.size < rb := by omega
  have o2 : rb < lb := by omega
  have c3 := cells_row q1 3 _ rfl
  have H1 := Lib.hid (And.intro f1 (And.intro p1 l1))
  clear f1 q1 p1 l1 hlb hrb
  go_wp2
  clear c3
  go_loopg [5, 18] n (fun G u5 uc wr => ∃ (j : Nat) (po : Value), j ≤ n ∧ G = n - j ∧ uc = .int .i64 j ∧ Hid (Fr (fun _ => False) w wr ∧ CLoc 49 (.int .i64 k) (.int .i64 m) (.int .i64 (ns.length : Nat)) wr lb po ∧ ItRow rShown 49 4 (lb + 1) (fun _ => False) wr po ((List.range j).map of) ∧ wr.heap[rb]? = some (.cells #[.int .i64 0, .int .i64 0, .int .i64 0, .slice none 0 0] 49 (0, 0))))
  case atStart => exact ⟨0, .slice none 0 0, Nat.zero_le _, rfl, by go_num, Lib.hid ⟨H1.out.1, H1.out.2.2, ItRow.nil _ _ _ _ _ _, H1.out.2.1⟩⟩
  case round =>
    obtain ⟨j, po, hj, rfl, rfl, HI⟩ := hrel
    obtain ⟨qa, qc, hpo⟩ : ∃ qa qc, po = .slice qa j qc := by
      obtain ⟨qa, qc, e⟩ := HI.out.2.2.1.slice
      rw [show ((List.range j).map of).length = j by simp] at e
      exact ⟨qa, qc, e⟩
    subst hpo
    have hlbr : lb < wr.heap.size := lt_of_block HI.out.2.1
    by_cases hlt : j < n
    · rcases HS.out with hz | ⟨hcap, g, off, hg, rfl, hcell⟩
      · omega
      obtain ⟨x0, x1, x2, x3, y0, y1, y2, y3, hx⟩ := hcell j hlt
      have y0 := cell_fr HI.out.1 (fun _ _ h => h) hg y0
      have y1 := cell_fr HI.out.1 (fun _ _ h => h) hg y1
      have y2 := cell_fr HI.out.1 (fun _ _ h => h) hg y2
      have y3 := cell_fr HI.out.1 (fun _ _ h => h) hg y3
      obtain ⟨xk, xm, xa, xn, xc, xa', xn', xc', rfl, rfl, rfl, rfl⟩ := hx.cells
      have HX := Lib.hid (Shows.fr HI.out.1 (fun _ _ h => h) _ _ (Shows.mono (S := fun k => R k ∧ k < w.heap.size) (fun k hk h => ⟨h, hk⟩) _ _ hx))
      have HLT := Lib.hid hlt
      have jn : (j : Int) < (n : Int) := by omega
      have j0 : (0 : Int) ≤ (j : Int) := by omega
      clear hcell hx
      go_wp2_with fail
      obtain ⟨wp, hwp⟩ : ∃ wp, wp = wr.alloc (.cells #[.int .u8 xk, .int .i64 xm, .slice xa xn xc, .slice xa' xn' xc'] 32) := ⟨_, rfl⟩
      rw [← hwp]
      obtain ⟨pb, hpb⟩ : ∃ pb, wr.heap.size = pb := ⟨_, rfl⟩
      have fp : Fr (fun _ => False) wr wp := by rw [hwp]; exact (Fr.refl _ _).alloc _
      have qp : wp.heap[pb]? = some (.cells #[.int .u8 xk, .int .i64 xm, .slice xa xn xc, .slice xa' xn' xc'] 32 (0, 0)) := by rw [hwp, ← hpb]; exact heap_alloc_new _ _
      have hown : ∀ k, (Value.slice qa j qc).ownBlock = some k → lb + 1 ≤ k ∧ k < pb := fun k hk => by
        have := HI.out.2.2.1.own k hk
        omega
      have hpbw : pb < wp.heap.size := lt_of_block qp
      have hpbv : lb < pb := by omega
      rw [hpb]
      have HP := Lib.hid (And.intro fp (And.intro qp hown))
      have HB0 := Lib.hid (And.intro hpbv (And.intro o1 o2))
      clear hwp hpb fp qp hown y0 y1 y2 y3 hlt jn j0
      have hacc : CopyS rShown 49 (.int .i64 k) (.int .i64 m) (.int .i64 (ns.length : Nat)) wp lb (.slice qa j qc) ((List.range j).map of) (of j) [] wp.drew :=
        ⟨(Fr.refl _ _).drew, box_kept HI.out.2.1 (HP.out.1.drew) (fun h => h), HI.out.2.2.1.fr (HP.out.1.drew) (fun _ _ h => h)⟩
      have HACC := Lib.hid hacc
      clear hacc
      refine wp_region_chain (by kernel_rfl) [some 22, some 23, some 24, some 25, some 26, some 27, some 28, none] rfl (by decide) (by intro d hd; simp at hd ⊢; omega)
        [3, 4, 5, 7] (CopyS rShown 49 (.int .i64 k) (.int .i64 m) (.int .i64 (ns.length : Nat)) wp lb (.slice qa j qc) ((List.range j).map of) (of j))
        [.free (.pointer (some ⟨lb, 3, none⟩)), .free (.slice qa j qc), .free (.agg #[.int .u8 xk, .int .i64 xm, .slice xa xn xc, .slice xa' xn' xc']), .link none, .link none, .link none, .free (.pointer (some ⟨lb, 3, none⟩)), .link none]
        (by kernel_rfl) (by kernel_rfl) ?h0 ?step ?fin
      case h0 => exact HACC.out
      case step =>
        intro vals2
        simp only [frOfU, fillU, List.setIfInBounds_toArray, List.set_cons_succ, List.set_cons_zero]
        repeat' (first | exact AllOps.nil | refine AllOps.cons ?_ ?_)
        all_goals
          intro cvs wx hS he hu hlim K hK
          simp only [Act.put, List.setIfInBounds_toArray, List.set_cons_succ, List.set_cons_zero, List.getD_cons_zero, List.getD_cons_succ] at hK
          simp only [List.mem_cons, List.not_mem_nil, or_false, forall_eq_or_imp, forall_eq, Region.binds, forall_const, vmode_gc, Bool.false_eq_true, false_imp_iff, List.getD_cons_zero, List.getD_cons_succ, OpSort.val, Option.some.injEq, forall_eq', reduceCtorEq, implies_true, true_and, and_true] at he
          have HSX := Lib.hid hS
          clear hS
        all_goals first | (clear hlim hu; (try simp only [he] at hK ⊢); go_simp; exact hK) | skip
        · have hl := HSX.out.loc (Nat.le_trans (hlim 2 5 rfl (by kernel_rfl)) (by omega))
          have e3 := cells_row hl 3 _ rfl
          clear hlim hu hl
          simp only [he] at hK ⊢
          go_simp
          exact hK
        · have hq := box_kept HP.out.2.1 HSX.out.f (fun h => by
            rcases h with h | h
            · have := HB0.out; omega
            · have := (HP.out.2.2 _ h).2; omega)
          obtain ⟨e0, e1, e2, e3⟩ := cell_of_four hq
          clear hlim hu hq
          simp only [he] at hK ⊢
          go_simp
          exact hK
        · obtain rfl := hlim (0 : Nat) rfl
          have h1 := HSX.out
          simp only [List.take_zero, List.map_nil] at h1
          simp only [he] at hK ⊢
          go_simp
          go_at_call 13
          have hR : ∀ k, (R k ∧ k < w.heap.size) → ¬ CDirt lb (.slice qa j qc) k := fun k hk h => by
            rcases h with h | h
            · have := HB0.out; omega
            · have := (HP.out.2.2 _ h).1; have := HB0.out; omega
          refine (ih j (fun k => R k ∧ k < w.heap.size) _ wx (Shows.fr h1.1 hR _ _ (Shows.fr HP.out.1 (fun _ _ h => h) _ _ HX.out)) (HGD.out j HLT.out)).mono ?_
          rintro e1 wa ⟨v', rfl, hsv, fa⟩
          have hx1 := hsv
          obtain ⟨zk, zm, zn, za, zc, zcap, e4⟩ := hx1.lit
          subst e4
          exact hK _ _ (fun _ h => by cases h) ⟨h1.1.trans fa (fun i _ h => h.elim), box_kept h1.2.1 fa (fun h => h), h1.2.2.fr fa (fun _ _ h => h), _, _, _, _, rfl, _, _, _, _, rfl, RShows.mono (fun k _ hk => Nat.le_trans h1.1.size hk) _ _ hsv⟩
        · obtain rfl := hlim (1 : Nat) rfl
          have h1 := HSX.out
          clear HSX hlim hu
          simp only [List.take_succ_cons, List.take_zero, List.map_cons, List.map_nil] at h1 hK
          obtain ⟨hf, hl, hr, z0, z1, z2, z3, e5, hs⟩ := h1
          simp only [he, e5] at hK ⊢
          go_simp
          have fa : Fr (fun _ => False) wx (wx.alloc (.cells #[z0, z1, z2, z3] 49)) := (Fr.refl _ _).alloc _
          exact hK _ _ (fun _ h => by cases h) ⟨hf.trans fa (fun _ _ h => h.elim), box_kept hl fa (fun h => h), hr.fr fa (fun _ _ h => h), _, _, _, _, _, rfl, heap_alloc_new _ _, rShown.fr hs fa (fun _ _ h => h)⟩
        · obtain rfl := hlim (2 : Nat) rfl
          have h1 := HSX.out
          clear HSX hlim hu
          simp only [List.take_succ_cons, List.take_zero, List.map_cons, List.map_nil] at h1 hK
          obtain ⟨hf, hl, hr, gg, z0, z1, z2, z3, e6, hgg, hss⟩ := h1
          rw [if_pos (by rfl)]
          have hsz := lt_of_block hl
          have hfs := hf.size
          have hb0 := HB0.out
          refine opWp_push (pv := (.slice qa j qc)) (l := (List.range j).map of) (B := lb + 1) (X := fun _ => False) (D := rShown) (.tmp 23) (.tmp 26) 47 47 rfl Try.underlying47 Try.underlying47 Try.infoRT rfl (by decide) he hr gg e6 (news := [z0, z1, z2, z3]) hgg rfl (by obtain ⟨_, _, _, _, e, h⟩ := hss; cases e; exact rshows_one h) (by simp; omega) (by omega) (by omega) (fun k hk => hk.elim) (of j) (rShown.mono hss (fun k _ hk => ⟨by omega, fun h => h, fun h => by have := (HP.out.2.2 _ h).2; omega⟩)) ?_
          intro v' w8 hrow f6 hv
          refine hK _ _ (fun _ h => by cases h) ⟨hf.trans f6 (fun i _ h => .inr h), box_kept hl f6 (fun h => by have := (HP.out.2.2 _ h).1; omega), hrow⟩
        · obtain rfl := hlim (3 : Nat) rfl
          have h1 := HSX.out
          clear HSX hlim hu
          simp only [List.take_succ_cons, List.take_zero, List.map_cons, List.map_nil] at h1 hK
          obtain ⟨hf, hl, hr⟩ := h1
          obtain ⟨xa2, xn2, xc2, e7⟩ : ∃ xa xn xc, vals2 5 = .slice xa xn xc := by obtain ⟨a, c, e⟩ := hr.slice; exact ⟨a, _, c, e⟩
          have z2 : wx.frozen? ⟨lb, 3, none⟩ = false := by unfold CLoc at hl; simp [World.frozen?, hl]
          obtain ⟨e0, e1, e2, e3⟩ := cell_of_four hl
          have fs : Fr (fun k => k = lb) wx (wx.setCell ⟨lb, 3, none⟩ (vals2 5)) := Fr.set1 (Fr.refl _ _) 3 _
          have HG := Lib.hid (show CopyS rShown 49 (.int .i64 k) (.int .i64 m) (.int .i64 (ns.length : Nat)) wp lb (.slice qa j qc) ((List.range j).map of) (of j) [vals2 3, vals2 4, vals2 5, undef] (wx.setCell ⟨lb, 3, none⟩ (vals2 5)) from
            ⟨hf.trans fs (fun i _ h => .inl h), setCell_row 3 _ hl, hr.fr fs (fun k hk h => by omega)⟩)
          clear hf hl hr fs
          rw [e7] at HG
          simp only [he, e7] at hK ⊢
          go_simp
          exact hK undef _ (fun _ h => by cases h) HG.out
      case fin =>
        intro vals2 w7 hS hV
        clear hV
        simp only [List.map_cons, List.map_nil] at hS
        obtain ⟨hf, hl, hr⟩ := hS
        have hd : ∀ i, i < w.heap.size → ¬ CDirt lb (.slice qa j qc) i := fun i hi h => by
          rcases h with h | h
          · have := HB0.out; omega
          · have := (HP.out.2.2 _ h).1; have := HB0.out; omega
        have f0 := HI.out.1.trans HP.out.1 (fun _ _ h => h)
        have fw : Fr (fun _ => False) w w7 := ⟨hf.os.trans f0.os, hf.tape.trans f0.tape, hf.output.trans f0.output, Nat.le_trans f0.size hf.size, fun i hi hs => by
          rw [hf.block i (Nat.lt_of_lt_of_le hi f0.size) (hd i hi), f0.block i hi hs]⟩
        have hrbk := box_kept (box_kept HI.out.2.2.2 HP.out.1 (fun h => h)) hf (fun h => by
          rcases h with h | h
          · omega
          · have := (HP.out.2.2 _ h).1; omega)
        have HS2 := Lib.hid (show Fr (fun _ => False) w w7 ∧ CLoc 49 (.int .i64 k) (.int .i64 m) (.int .i64 (ns.length : Nat)) w7 lb (vals2 5) ∧ ItRow rShown 49 4 (lb + 1) (fun _ => False) w7 (vals2 5) ((List.range (j + 1)).map of) ∧ w7.heap[rb]? = some (.cells #[.int .i64 0, .int .i64 0, .int .i64 0, .slice none 0 0] 49 (0, 0)) from by
          rw [List.range_succ, List.map_append]; exact ⟨fw, hl, hr, hrbk⟩)
        clear hf hl hr fw hrbk hd f0
        simp only [frOfU, fillU, List.setIfInBounds_toArray, List.set_cons_succ, List.set_cons_zero]
        go_wp2
        go_roundg (n - (j + 1))
        case measure => have := HLT.out; omega
        case rel => exact ⟨j + 1, vals2 5, HLT.out, rfl, by go_num, HS2⟩
    · obtain rfl : j = n := by omega
      obtain ⟨d0, d1, d2, d3⟩ := cell_of_four HI.out.2.1
      have p2 := HI.out.2.2.2
      have t0 := cells_row p2 0 _ rfl
      have t1 := cells_row p2 1 _ rfl
      have t2 := cells_row p2 2 _ rfl
      have t3 := cells_row p2 3 _ rfl
      have u0 : wr.frozen? ⟨rb, 0, none⟩ = false := by simp [World.frozen?, p2]
      have u1 : wr.frozen? ⟨rb, 1, none⟩ = false := by simp [World.frozen?, p2]
      have u2 : wr.frozen? ⟨rb, 2, none⟩ = false := by simp [World.frozen?, p2]
      have u3 : wr.frozen? ⟨rb, 3, none⟩ = false := by simp [World.frozen?, p2]
      clear p2
      go_wp2
      refine bodyPost_ret (results_cell_row rfl _ _ rb 49 _ _ _ rfl (store_four HI.out.2.2.2) Try.underlying49 rfl (by kernel_rfl)) rfl ?_
      have fs : Fr (fun k => k = rb) wr ((((wr.setCell ⟨rb, 0, none⟩ (.int .i64 k)).setCell ⟨rb, 1, none⟩ (.int .i64 m)).setCell ⟨rb, 2, none⟩ (.int .i64 (ns.length : Nat))).setCell ⟨rb, 3, none⟩ (.slice qa j qc)) := fr_four _ _ _ _ (Fr.refl _ _) (fun _ => rfl)
      refine ⟨_, rfl, ?_, HI.out.1.trans fs (fun i hi h => by omega)⟩
      have hk0 := ItRow.rkids HI.out.2.2.1 of (fun i x hi => map_range_of hi)
      exact RShows.mono (fun k _ (h : lb + 1 ≤ k) => by omega) _ _ (rshows_mk (ns := ns) ⟨hk, hnl, by omega⟩ (hk0.fr fs (fun k (hk : lb + 1 ≤ k) e => by omega)))


def refvAt (t : VT) : Prop := ∀ (R : Nat → Prop) (v : Value) (w : World), VShows R w t v → szV t ≤ 1000 →
  Calls Try.prog 15 #[v] w fun e w' => ∃ v', e = .returned v' ∧ VShows (fun k => w.heap.size ≤ k) w' t v' ∧ Fr (fun _ => False) w w'

set_option maxRecDepth 100000 in
set_option maxHeartbeats 16000000 in
theorem refv_any (t : VT) : refvAt t := by
  induction t with
  | nil => exact fun _ _ _ h => h.elim
  | mk N f sx n of ih =>
  intro R v w hsh hszv
  obtain ⟨_, _, _, _, _, a', c', e1, rfl, hVB, hs⟩ := vshows_open hsh
  cases e1
  have HB := Lib.hid hVB
  have HS := Lib.hid hs
  have hn1 : n ≤ 1000 := by
    have h := hszv
    rw [szV] at h
    have hall : ∀ j, j ≤ ((List.range j).map fun i => szV (of i)).sum := fun j => by
      induction j with
      | zero => simp
      | succ j ih => rw [List.range_succ, List.map_append, List.sum_append]; have := szV_pos (of j); simp; omega
    have := hall n
    omega
  have HSZ := Lib.hid (show ∀ j, j < n → szV (of j) ≤ 1000 from fun j hj => by
    have h := hszv
    rw [szV] at h
    have h2 := sumTo_le (fun i => szV (of i)) j n hj
    unfold sumTo at h2
    omega)
  unfold sv
  clear hsh hVB hs hszv
  obtain ⟨w1, hw1⟩ : ∃ w1, w1 = ((w.alloc (.cells #[.int .i64 N, .float .f64 f, .string ⟨sx.toArray⟩, .slice a' n c'] 37)).alloc (.cells #[.int .i64 0, .float .f64 0, .string ⟨#[]⟩, .slice none 0 0] 42)).alloc (.cells #[.int .i64 N, .float .f64 f, .string ⟨sx.toArray⟩, .slice none 0 0] 42) := ⟨_, rfl⟩
  have f1 : Fr (fun _ => False) w w1 := by rw [hw1]; exact (((Fr.refl _ _).alloc _).alloc _).alloc _
  have q1 : w1.heap[w.heap.size]? = some (.cells #[.int .i64 N, .float .f64 f, .string ⟨sx.toArray⟩, .slice a' n c'] 37 (0, 0)) := by
    rw [hw1, Below.heap_alloc _ _ _ (by simp; omega)]; exact heap_alloc_first _ _ _
  have p1 : w1.heap[w.heap.size + 1]? = some (.cells #[.int .i64 0, .float .f64 0, .string ⟨#[]⟩, .slice none 0 0] 42 (0, 0)) := by
    rw [hw1, Below.heap_alloc _ _ _ (by simp)]; exact heap_alloc_two _ _ _
  have l1 : CLoc 42 (.int .i64 N) (.float .f64 f) (.string ⟨sx.toArray⟩) w1 (w.heap.size + 1 + 1) (.slice none 0 0) := by
    have h := heap_alloc_new ((w.alloc (.cells #[.int .i64 N, .float .f64 f, .string ⟨sx.toArray⟩, .slice a' n c'] 37)).alloc (.cells #[.int .i64 0, .float .f64 0, .string ⟨#[]⟩, .slice none 0 0] 42)) (.cells #[.int .i64 N, .float .f64 f, .string ⟨sx.toArray⟩, .slice none 0 0] 42)
    rw [show ((w.alloc (.cells #[.int .i64 N, .float .f64 f, .string ⟨sx.toArray⟩, .slice a' n c'] 37)).alloc (.cells #[.int .i64 0, .float .f64 0, .string ⟨#[]⟩, .slice none 0 0] 42)).heap.size = w.heap.size + 1 + 1 by simp] at h
    rw [hw1]
    exact h
  have w0n : w.heap.size ≠ w.heap.size + 1 := by omega
  obtain ⟨w0, hw0⟩ : ∃ w0, w0 = (w.alloc (.cells #[.int .i64 N, .float .f64 f, .string ⟨sx.toArray⟩, .slice a' n c'] 37)).alloc (.cells #[.int .i64 0, .float .f64 0, .string ⟨#[]⟩, .slice none 0 0] 42) := ⟨_, rfl⟩
  have q0 : w0.heap[w.heap.size]? = some (.cells #[.int .i64 N, .float .f64 f, .string ⟨sx.toArray⟩, .slice a' n c'] 37 (0, 0)) := by rw [hw0]; exact heap_alloc_first _ _ _
  obtain ⟨c0, c1, c2, c3⟩ := cell_of_four q0
  have sz0 : w0.heap.size = w.heap.size + 1 + 1 := by rw [hw0]; simp
  go_enter Try.func15, Try.ntmps15
  go_upto_region 1 with fail
  rw [← hw0]
  have HW1 := Lib.hid (show w1 = w0.alloc (.cells #[.int .i64 N, .float .f64 f, .string ⟨sx.toArray⟩, .slice none 0 0] 42) from by rw [hw1, hw0])
  clear hw0 hw1 q0 w0n
  go_upto_region 2 with fail
  rw [← HW1.out]
  try rw [sz0]
  clear c0 c1 c2 c3 sz0
  obtain ⟨lb, hlb⟩ : ∃ lb, w.heap.size + 1 + 1 = lb := ⟨_, rfl⟩
  obtain ⟨rb, hrb⟩ : ∃ rb, w.heap.size + 1 = rb := ⟨_, rfl⟩
  rw [hlb] at l1 ⊢
  rw [hrb] at p1 ⊢
  have o1 : w.heap.size < rb := by omega
  have o2 : rb < lb := by omega
  have c3 := cells_row q1 3 _ rfl
  have H1 := Lib.hid (And.intro f1 (And.intro p1 l1))
  clear f1 q1 p1 l1 hlb hrb
  go_wp2
  clear c3
  go_loopg [5, 16] n (fun G u5 uc wr => ∃ (j : Nat) (po : Value), j ≤ n ∧ G = n - j ∧ uc = .int .i64 j ∧ Hid (Fr (fun _ => False) w wr ∧ CLoc 42 (.int .i64 N) (.float .f64 f) (.string ⟨sx.toArray⟩) wr lb po ∧ ItRow vShown 42 4 (lb + 1) (fun _ => False) wr po ((List.range j).map of) ∧ wr.heap[rb]? = some (.cells #[.int .i64 0, .float .f64 0, .string ⟨#[]⟩, .slice none 0 0] 42 (0, 0))))
  case atStart => exact ⟨0, .slice none 0 0, Nat.zero_le _, rfl, by go_num, Lib.hid ⟨H1.out.1, H1.out.2.2, ItRow.nil _ _ _ _ _ _, H1.out.2.1⟩⟩
  case round =>
    obtain ⟨j, po, hj, rfl, rfl, HI⟩ := hrel
    obtain ⟨qa, qc, hpo⟩ : ∃ qa qc, po = .slice qa j qc := by
      obtain ⟨qa, qc, e⟩ := HI.out.2.2.1.slice
      rw [show ((List.range j).map of).length = j by simp] at e
      exact ⟨qa, qc, e⟩
    subst hpo
    have hlbr : lb < wr.heap.size := lt_of_block HI.out.2.1
    by_cases hlt : j < n
    · rcases HS.out with hz | ⟨hcap, g, off, hg, rfl, hcell⟩
      · omega
      obtain ⟨x0, x1, x2, x3, y0, y1, y2, y3, hx⟩ := hcell j hlt
      have y0 := cell_fr HI.out.1 (fun _ _ h => h) hg y0
      have y1 := cell_fr HI.out.1 (fun _ _ h => h) hg y1
      have y2 := cell_fr HI.out.1 (fun _ _ h => h) hg y2
      have y3 := cell_fr HI.out.1 (fun _ _ h => h) hg y3
      obtain ⟨xn, xf, xs, xa, xc, xcap, ex⟩ := hx.lit
      simp only [Value.agg.injEq, Array.mk.injEq, List.cons.injEq, and_true] at ex
      obtain ⟨rfl, rfl, rfl, rfl⟩ := ex
      have HX := Lib.hid (VShows.fr HI.out.1 (fun _ _ h => h) _ _ (VShows.mono (S := fun k => R k ∧ k < w.heap.size) (fun k hk h => ⟨h, hk⟩) _ _ hx))
      have HLT := Lib.hid hlt
      have jn : (j : Int) < (n : Int) := by omega
      have j0 : (0 : Int) ≤ (j : Int) := by omega
      clear hcell hx
      go_wp2_with fail
      obtain ⟨wp, hwp⟩ : ∃ wp, wp = wr.alloc (.cells #[.int .i64 xn, .float .f64 xf, .string xs, .slice xa xc xcap] 37) := ⟨_, rfl⟩
      rw [← hwp]
      obtain ⟨pb, hpb⟩ : ∃ pb, wr.heap.size = pb := ⟨_, rfl⟩
      have fp : Fr (fun _ => False) wr wp := by rw [hwp]; exact (Fr.refl _ _).alloc _
      have qp : wp.heap[pb]? = some (.cells #[.int .i64 xn, .float .f64 xf, .string xs, .slice xa xc xcap] 37 (0, 0)) := by rw [hwp, ← hpb]; exact heap_alloc_new _ _
      have hown : ∀ k, (Value.slice qa j qc).ownBlock = some k → lb + 1 ≤ k ∧ k < pb := fun k hk => by
        have := HI.out.2.2.1.own k hk
        omega
      have hpbw : pb < wp.heap.size := lt_of_block qp
      have hpbv : lb < pb := by omega
      rw [hpb]
      have HP := Lib.hid (And.intro fp (And.intro qp hown))
      have HB0 := Lib.hid (And.intro hpbv (And.intro o1 o2))
      clear hwp hpb fp qp hown y0 y1 y2 y3 hlt jn j0
      have hacc : CopyS vShown 42 (.int .i64 N) (.float .f64 f) (.string ⟨sx.toArray⟩) wp lb (.slice qa j qc) ((List.range j).map of) (of j) [] wp.drew :=
        ⟨(Fr.refl _ _).drew, box_kept HI.out.2.1 (HP.out.1.drew) (fun h => h), HI.out.2.2.1.fr (HP.out.1.drew) (fun _ _ h => h)⟩
      have HACC := Lib.hid hacc
      clear hacc
      refine wp_region_chain (by kernel_rfl) [some 20, some 21, some 22, some 23, some 24, some 25, some 26, none] rfl (by decide) (by intro d hd; simp at hd ⊢; omega)
        [3, 4, 5, 7] (CopyS vShown 42 (.int .i64 N) (.float .f64 f) (.string ⟨sx.toArray⟩) wp lb (.slice qa j qc) ((List.range j).map of) (of j))
        [.free (.pointer (some ⟨lb, 3, none⟩)), .free (.slice qa j qc), .free (.agg #[.int .i64 xn, .float .f64 xf, .string xs, .slice xa xc xcap]), .link none, .link none, .link none, .free (.pointer (some ⟨lb, 3, none⟩)), .link none]
        (by kernel_rfl) (by kernel_rfl) ?h0 ?step ?fin
      case h0 => exact HACC.out
      case step =>
        intro vals2
        simp only [frOfU, fillU, List.setIfInBounds_toArray, List.set_cons_succ, List.set_cons_zero]
        repeat' (first | exact AllOps.nil | refine AllOps.cons ?_ ?_)
        all_goals
          intro cvs wx hS he hu hlim K hK
          simp only [Act.put, List.setIfInBounds_toArray, List.set_cons_succ, List.set_cons_zero, List.getD_cons_zero, List.getD_cons_succ] at hK
          simp only [List.mem_cons, List.not_mem_nil, or_false, forall_eq_or_imp, forall_eq, Region.binds, forall_const, vmode_gc, Bool.false_eq_true, false_imp_iff, List.getD_cons_zero, List.getD_cons_succ, OpSort.val, Option.some.injEq, forall_eq', reduceCtorEq, implies_true, true_and, and_true] at he
          have HSX := Lib.hid hS
          clear hS
        all_goals first | (clear hlim hu; (try simp only [he] at hK ⊢); go_simp; exact hK) | skip
        · have hl := HSX.out.loc (Nat.le_trans (hlim 2 5 rfl (by kernel_rfl)) (by omega))
          have e3 := cells_row hl 3 _ rfl
          clear hlim hu hl
          simp only [he] at hK ⊢
          go_simp
          exact hK
        · have hq := box_kept HP.out.2.1 HSX.out.f (fun h => by
            rcases h with h | h
            · have := HB0.out; omega
            · have := (HP.out.2.2 _ h).2; omega)
          obtain ⟨e0, e1, e2, e3⟩ := cell_of_four hq
          clear hlim hu hq
          simp only [he] at hK ⊢
          go_simp
          exact hK
        · obtain rfl := hlim (0 : Nat) rfl
          have h1 := HSX.out
          simp only [List.take_zero, List.map_nil] at h1
          simp only [he] at hK ⊢
          go_simp
          go_at_call 15
          have hR : ∀ k, (R k ∧ k < w.heap.size) → ¬ CDirt lb (.slice qa j qc) k := fun k hk h => by
            rcases h with h | h
            · have := HB0.out; omega
            · have := (HP.out.2.2 _ h).1; have := HB0.out; omega
          refine (ih j (fun k => R k ∧ k < w.heap.size) _ wx (VShows.fr h1.1 hR _ _ (VShows.fr HP.out.1 (fun _ _ h => h) _ _ HX.out)) (HSZ.out j HLT.out)).mono ?_
          rintro e1 wa ⟨v', rfl, hsv, fa⟩
          have hx1 := hsv
          obtain ⟨zn, zf, zs, za, zc, zcap, e4⟩ := hx1.lit
          subst e4
          exact hK _ _ (fun _ h => by cases h) ⟨h1.1.trans fa (fun i _ h => h.elim), box_kept h1.2.1 fa (fun h => h), h1.2.2.fr fa (fun _ _ h => h), _, _, _, _, rfl, _, _, _, _, rfl, VShows.mono (fun k _ hk => Nat.le_trans h1.1.size hk) _ _ hsv⟩
        · obtain rfl := hlim (1 : Nat) rfl
          have h1 := HSX.out
          clear HSX hlim hu
          simp only [List.take_succ_cons, List.take_zero, List.map_cons, List.map_nil] at h1 hK
          obtain ⟨hf, hl, hr, z0, z1, z2, z3, e5, hs⟩ := h1
          simp only [he, e5] at hK ⊢
          go_simp
          have fa : Fr (fun _ => False) wx (wx.alloc (.cells #[z0, z1, z2, z3] 42)) := (Fr.refl _ _).alloc _
          exact hK _ _ (fun _ h => by cases h) ⟨hf.trans fa (fun _ _ h => h.elim), box_kept hl fa (fun h => h), hr.fr fa (fun _ _ h => h), _, _, _, _, _, rfl, heap_alloc_new _ _, vShown.fr hs fa (fun _ _ h => h)⟩
        · obtain rfl := hlim (2 : Nat) rfl
          have h1 := HSX.out
          clear HSX hlim hu
          simp only [List.take_succ_cons, List.take_zero, List.map_cons, List.map_nil] at h1 hK
          obtain ⟨hf, hl, hr, gg, z0, z1, z2, z3, e6, hgg, hss⟩ := h1
          rw [if_pos (by rfl)]
          have hsz := lt_of_block hl
          have hfs := hf.size
          have hb0 := HB0.out
          refine opWp_push (pv := (.slice qa j qc)) (l := (List.range j).map of) (B := lb + 1) (X := fun _ => False) (D := vShown) (.tmp 21) (.tmp 24) 40 40 rfl Try.underlying40 Try.underlying40 Try.infoRV rfl (by decide) he hr gg e6 (news := [z0, z1, z2, z3]) hgg rfl (by obtain ⟨_, _, _, _, e, h⟩ := hss; cases e; exact vshows_one h) (by simp; omega) (by omega) (by omega) (fun k hk => hk.elim) (of j) (vShown.mono hss (fun k _ hk => ⟨by omega, fun h => h, fun h => by have := (HP.out.2.2 _ h).2; omega⟩)) ?_
          intro v' w8 hrow f6 hv
          refine hK _ _ (fun _ h => by cases h) ⟨hf.trans f6 (fun i _ h => .inr h), box_kept hl f6 (fun h => by have := (HP.out.2.2 _ h).1; omega), hrow⟩
        · obtain rfl := hlim (3 : Nat) rfl
          have h1 := HSX.out
          clear HSX hlim hu
          simp only [List.take_succ_cons, List.take_zero, List.map_cons, List.map_nil] at h1 hK
          obtain ⟨hf, hl, hr⟩ := h1
          obtain ⟨xa2, xn2, xc2, e7⟩ : ∃ xa xn xc, vals2 5 = .slice xa xn xc := by obtain ⟨a, c, e⟩ := hr.slice; exact ⟨a, _, c, e⟩
          have z2 : wx.frozen? ⟨lb, 3, none⟩ = false := by unfold CLoc at hl; simp [World.frozen?, hl]
          obtain ⟨e0, e1, e2, e3⟩ := cell_of_four hl
          have fs : Fr (fun k => k = lb) wx (wx.setCell ⟨lb, 3, none⟩ (vals2 5)) := Fr.set1 (Fr.refl _ _) 3 _
          have HG := Lib.hid (show CopyS vShown 42 (.int .i64 N) (.float .f64 f) (.string ⟨sx.toArray⟩) wp lb (.slice qa j qc) ((List.range j).map of) (of j) [vals2 3, vals2 4, vals2 5, undef] (wx.setCell ⟨lb, 3, none⟩ (vals2 5)) from
            ⟨hf.trans fs (fun i _ h => .inl h), setCell_row 3 _ hl, hr.fr fs (fun k hk h => by omega)⟩)
          clear hf hl hr fs
          rw [e7] at HG
          simp only [he, e7] at hK ⊢
          go_simp
          exact hK undef _ (fun _ h => by cases h) HG.out
      case fin =>
        intro vals2 w7 hS hV
        clear hV
        simp only [List.map_cons, List.map_nil] at hS
        obtain ⟨hf, hl, hr⟩ := hS
        have hd : ∀ i, i < w.heap.size → ¬ CDirt lb (.slice qa j qc) i := fun i hi h => by
          rcases h with h | h
          · have := HB0.out; omega
          · have := (HP.out.2.2 _ h).1; have := HB0.out; omega
        have f0 := HI.out.1.trans HP.out.1 (fun _ _ h => h)
        have fw : Fr (fun _ => False) w w7 := ⟨hf.os.trans f0.os, hf.tape.trans f0.tape, hf.output.trans f0.output, Nat.le_trans f0.size hf.size, fun i hi hs => by
          rw [hf.block i (Nat.lt_of_lt_of_le hi f0.size) (hd i hi), f0.block i hi hs]⟩
        have hrbk := box_kept (box_kept HI.out.2.2.2 HP.out.1 (fun h => h)) hf (fun h => by
          rcases h with h | h
          · omega
          · have := (HP.out.2.2 _ h).1; omega)
        have HS2 := Lib.hid (show Fr (fun _ => False) w w7 ∧ CLoc 42 (.int .i64 N) (.float .f64 f) (.string ⟨sx.toArray⟩) w7 lb (vals2 5) ∧ ItRow vShown 42 4 (lb + 1) (fun _ => False) w7 (vals2 5) ((List.range (j + 1)).map of) ∧ w7.heap[rb]? = some (.cells #[.int .i64 0, .float .f64 0, .string ⟨#[]⟩, .slice none 0 0] 42 (0, 0)) from by
          rw [List.range_succ, List.map_append]; exact ⟨fw, hl, hr, hrbk⟩)
        clear hf hl hr fw hrbk hd f0
        simp only [frOfU, fillU, List.setIfInBounds_toArray, List.set_cons_succ, List.set_cons_zero]
        go_wp2
        go_roundg (n - (j + 1))
        case measure => have := HLT.out; omega
        case rel => exact ⟨j + 1, vals2 5, HLT.out, rfl, by go_num, HS2⟩
    · obtain rfl : j = n := by omega
      obtain ⟨d0, d1, d2, d3⟩ := cell_of_four HI.out.2.1
      have p2 := HI.out.2.2.2
      have t0 := cells_row p2 0 _ rfl
      have t1 := cells_row p2 1 _ rfl
      have t2 := cells_row p2 2 _ rfl
      have t3 := cells_row p2 3 _ rfl
      have u0 : wr.frozen? ⟨rb, 0, none⟩ = false := by simp [World.frozen?, p2]
      have u1 : wr.frozen? ⟨rb, 1, none⟩ = false := by simp [World.frozen?, p2]
      have u2 : wr.frozen? ⟨rb, 2, none⟩ = false := by simp [World.frozen?, p2]
      have u3 : wr.frozen? ⟨rb, 3, none⟩ = false := by simp [World.frozen?, p2]
      clear p2
      go_wp2
      refine bodyPost_ret (results_cell_row rfl _ _ rb 42 _ _ _ rfl (store_four HI.out.2.2.2) Try.underlying42 rfl (by kernel_rfl)) rfl ?_
      have fs : Fr (fun k => k = rb) wr ((((wr.setCell ⟨rb, 0, none⟩ (.int .i64 N)).setCell ⟨rb, 1, none⟩ (.float .f64 f)).setCell ⟨rb, 2, none⟩ (.string ⟨sx.toArray⟩)).setCell ⟨rb, 3, none⟩ (.slice qa j qc)) := fr_four _ _ _ _ (Fr.refl _ _) (fun _ => rfl)
      refine ⟨_, rfl, ?_, HI.out.1.trans fs (fun i hi h => by omega)⟩
      have hk0 := ItRow.vkids' HI.out.2.2.1 of (fun i x hi => map_range_of hi)
      exact VShows.mono (fun k _ (h : lb + 1 ≤ k) => by omega) _ _ (vshows_mk (s := sx) HB.out (hk0.fr fs (fun k (hk : lb + 1 ≤ k) e => by omega)))


end Go.Proofs.Ytnhkahnihdfefaa

/-
  The answer's Is: whether a value is one of a type.
-/
namespace Go.Proofs.Ytnhkahnihdfefaa
open Go.RowKit
attribute [local go_sem] run_store_float
set_option linter.unusedVariables false
set_option linter.unusedSimpArgs false

def lowE (k : Nat) : Int := if k = 2 then -2147483648 else 0

def highE (k nn n : Nat) : Int := if k = 0 then 1 else if k = 1 then 65535 else if k = 2 then 2147483647 else if k = 7 then (nn : Int) - 1 else if k = 8 then (n : Int) - 1 else 0

/-- IS A VALUE ONE OF A TYPE, as the answer has it? -/
def isE : KT → VT → Bool
  | .nil, _ => false
  | .mk _ _ _ _ _, .nil => false
  | .mk k m ns n of, .mk N f s c ov =>
    if k ≠ 3 ∧ Fl.canon f ≠ 0 ∨ k ≠ 4 ∧ s ≠ [] then false
    else if (k < 5 ∨ k = 7) ∧ 0 < c then false
    else if N < lowE k ∨ highE k ns.length n < N ∨ k = 4 ∧ m < s.length ∨ k = 5 ∧ m < c then false
    else if k = 6 ∧ c ≠ n ∨ k = 8 ∧ c ≠ 1 then false
    else (List.range c).all (fun i => isE (of (if k = 6 then i else if k = 8 then N.toNat else 0)) (ov i))

theorem isE_has {k : Nat} {m : Int} {ns : List Txt} {n : Nat} {of : Nat → KT} {N : Int} {f : Nat} {s : Txt} {c : Nat} {ov : Nat → VT} (h : (k < 5 ∨ k = 7) ∧ 0 < c) : isE (.mk k m ns n of) (.mk N f s c ov) = false := by
  rw [isE]
  split
  · rfl
  · first | rw [if_pos h] | rfl

theorem isE_range {k : Nat} {m : Int} {ns : List Txt} {n : Nat} {of : Nat → KT} {N : Int} {f : Nat} {s : Txt} {c : Nat} {ov : Nat → VT} (h : N < lowE k ∨ highE k ns.length n < N ∨ k = 4 ∧ m < s.length ∨ k = 5 ∧ m < c) : isE (.mk k m ns n of) (.mk N f s c ov) = false := by
  rw [isE]
  split
  · rfl
  · split
    · rfl
    · first | rw [if_pos h] | rfl

theorem isE_count {k : Nat} {m : Int} {ns : List Txt} {n : Nat} {of : Nat → KT} {N : Int} {f : Nat} {s : Txt} {c : Nat} {ov : Nat → VT} (h : k = 6 ∧ c ≠ n ∨ k = 8 ∧ c ≠ 1) : isE (.mk k m ns n of) (.mk N f s c ov) = false := by
  rw [isE]
  split
  · rfl
  · split
    · rfl
    · split
      · rfl
      · first | rw [if_pos h] | rfl

def IsAt (t : KT) : Prop := ∀ (R : Nat → Prop) (v vv : Value) (w : World) (T : VT), goodE t → RShows R w t v → VShows R w T vv →
  Calls Try.prog 21 #[v, vv] w fun e w' => e = .returned (.bool (isE t T)) ∧ Fr (fun _ => False) w w'

theorem refbits_is (f cf : Nat) (h : Fl.canon f = cf) (w : World) : Calls Try.prog 35 #[.float .f64 f] w fun e w' => e = .returned (.int .u64 cf) ∧ w = w' := by
  rw [← h]; exact refbits_any f w

theorem text_empty (s : Txt) (h : s ≠ []) : (s == []) = false ∧ (s != []) = true ∧ s.isEmpty = false := by
  cases s with
  | nil => exact absurd rfl h
  | cons a l => exact ⟨rfl, rfl, rfl⟩

set_option maxRecDepth 100000 in
set_option maxHeartbeats 32000000 in
theorem is_k0 (k : Nat) (m : Int) (ns : List Txt) (n : Nat) (of : Nat → KT) (ih : ∀ i, IsAt (of i)) (hk0 : k = 0) : IsAt (.mk k m ns n of) := by
  intro R v vv w T hgood hrs hvs
  obtain ⟨⟨hn12, hown⟩, hkids⟩ := hgood
  obtain ⟨hk8, hmost, hone, hparts, hnames, hnone⟩ := own_facts hown
  obtain ⟨_, _, _, _, _, a', c', e1, rfl, hrb, hrk⟩ := rshows_open hrs
  cases e1
  obtain ⟨N, f, s, c, ov, va, cap, rfl, rfl, hVB, hVK⟩ := vshows_open hvs
  obtain ⟨hN0, hN1, hf64, hsl, hc5⟩ := hVB
  obtain ⟨nn, hnn⟩ : ∃ nn, ns.length = nn := ⟨_, rfl⟩
  rw [hnn] at hrb ⊢
  have HK0 := Lib.hid (And.intro hk0 (And.intro hmost (And.intro hone (And.intro hparts (And.intro hnames (And.intro hnone hnn))))))
  have HKIDS := Lib.hid hkids
  have HRK := Lib.hid hrk
  have HVK := Lib.hid hVK
  have hnn1 : nn ≤ 1000 := hrb.2.1
  obtain ⟨cf, hcf⟩ : ∃ cf, Fl.canon f = cf := ⟨_, rfl⟩
  have HBITS := Lib.hid (fun (wx : World) => refbits_is f cf hcf wx)
  have HCF := Lib.hid hcf
  have hlen : ((⟨s.toArray⟩ : ByteArray).size : Int) = (s.length : Int) := by simp [ByteArray.size]
  obtain ⟨sl, hsl'⟩ : ∃ sl, s.length = sl := ⟨_, rfl⟩
  have HSL := Lib.hid hsl'
  rw [hsl'] at hlen hsl
  unfold sv
  obtain ⟨kz, hkz⟩ : ∃ kz : Int, (k : Int) = kz := ⟨_, rfl⟩
  rw [hkz]
  have e0 : (kz == 0) = true := by simp; omega
  have n0 : (kz != 0) = false := by unfold bne; rw [e0]; rfl
  have e1 : (kz == 1) = false := by simp; omega
  have n1 : (kz != 1) = true := by unfold bne; rw [e1]; rfl
  have e2 : (kz == 2) = false := by simp; omega
  have n2 : (kz != 2) = true := by unfold bne; rw [e2]; rfl
  have e3 : (kz == 3) = false := by simp; omega
  have n3 : (kz != 3) = true := by unfold bne; rw [e3]; rfl
  have e4 : (kz == 4) = false := by simp; omega
  have n4 : (kz != 4) = true := by unfold bne; rw [e4]; rfl
  have e5 : (kz == 5) = false := by simp; omega
  have n5 : (kz != 5) = true := by unfold bne; rw [e5]; rfl
  have e6 : (kz == 6) = false := by simp; omega
  have n6 : (kz != 6) = true := by unfold bne; rw [e6]; rfl
  have e7 : (kz == 7) = false := by simp; omega
  have n7 : (kz != 7) = true := by unfold bne; rw [e7]; rfl
  have e8 : (kz == 8) = false := by simp; omega
  have n8 : (kz != 8) = true := by unfold bne; rw [e8]; rfl
  have k5 : decide (kz < 5) = true := by simp; omega
  obtain ⟨w1, hw1⟩ : ∃ w1, w1 = (w.alloc (.cells #[.int .i64 kz, .int .i64 m, .int .i64 (nn : Nat), .slice a' n c'] 49)).alloc (.cells #[.int .i64 N, .float .f64 f, .string ⟨s.toArray⟩, .slice va c cap] 42) := ⟨_, rfl⟩
  have f1 : Fr (fun _ => False) w w1 := by rw [hw1]; exact ((Fr.refl _ _).alloc _).alloc _
  have q1 : w1.heap[w.heap.size]? = some (.cells #[.int .i64 kz, .int .i64 m, .int .i64 (nn : Nat), .slice a' n c'] 49 (0, 0)) := by rw [hw1]; exact heap_alloc_first _ _ _
  have v1 : w1.heap[w.heap.size + 1]? = some (.cells #[.int .i64 N, .float .f64 f, .string ⟨s.toArray⟩, .slice va c cap] 42 (0, 0)) := by rw [hw1]; exact heap_alloc_two _ _ _
  clear hrs hvs hk0 hmost hone hparts hnames hnone hkids hrk hVK hcf hsl' hrb hown hnn hkz
  go_enter Try.func21, Try.ntmps21
  go_upto_region 1 with fail
  rw [← hw1]
  obtain ⟨vb, hvb⟩ : ∃ vb, w.heap.size + 1 = vb := ⟨_, rfl⟩
  rw [hvb] at v1 ⊢
  obtain ⟨tb, htb⟩ : ∃ tb, w.heap.size = tb := ⟨_, rfl⟩
  rw [htb] at q1 ⊢
  obtain ⟨c0, c1, c2, c3⟩ := cell_of_four q1
  obtain ⟨d0, d1, d2, d3⟩ := cell_of_four v1
  have H1 := Lib.hid (And.intro f1 (And.intro q1 v1))
  clear hw1 f1 q1 v1 hvb htb
  by_cases hc : cf ≠ 0
  · have HE : Hid (isE (.mk k m ns n of) (.mk N f s c ov) = false) := Lib.hid (by have hk := HK0.out.1; rw [isE, if_pos (.inl ⟨by omega, by rw [HCF.out]; exact hc⟩)])
    have z1 : ((cf : Int) == 0) = false := by simp; omega
    have z2 : ((cf : Int) != 0) = true := by unfold bne; rw [z1]; rfl
    clear hc
    go_wp2_with fail
    refine (HBITS.out _).mono ?_
    rintro er wb ⟨rfl, rfl⟩
    go_wp2
    go_ret
    rw [HE.out]
    exact ⟨rfl, H1.out.1⟩
  have z1 : ((cf : Int) == 0) = true := by simp; omega
  have z2 : ((cf : Int) != 0) = false := by unfold bne; rw [z1]; rfl
  have HOK1 := Lib.hid hc
  clear hc
  by_cases hc : s ≠ []
  · have HE : Hid (isE (.mk k m ns n of) (.mk N f s c ov) = false) := Lib.hid (by have hk := HK0.out.1; rw [isE, if_pos (.inr ⟨by omega, hc⟩)])
    obtain ⟨y1, y2, y3⟩ := text_empty s hc
    have y4 := hc
    clear hc
    go_wp2_with fail
    refine (HBITS.out _).mono ?_
    rintro er wb ⟨rfl, rfl⟩
    go_wp2
    go_ret
    rw [HE.out]
    exact ⟨rfl, H1.out.1⟩
  have y0 : s = [] := by simpa using hc
  have HOK2 := Lib.hid hc
  clear hc
  subst y0
  by_cases hc : 0 < c
  · have HE : Hid (isE (.mk k m ns n of) (.mk N f [] c ov) = false) := Lib.hid (by have hk := HK0.out.1; exact isE_has ⟨by omega, hc⟩)
    have x1 : (0 : Int) < (c : Int) := by omega
    clear hc
    go_wp2_with fail
    refine (HBITS.out _).mono ?_
    rintro er wb ⟨rfl, rfl⟩
    go_wp2
    go_ret
    rw [HE.out]
    exact ⟨rfl, H1.out.1⟩
  have x1 : ¬ (0 : Int) < (c : Int) := by omega
  have HOK3 := Lib.hid hc
  clear hc
  by_cases hc : N < 0
  · have HE : Hid (isE (.mk k m ns n of) (.mk N f [] c ov) = false) := Lib.hid (by have hk := HK0.out.1; have hlow : lowE k = 0 := (by unfold lowE; rw [if_neg (by omega)]); exact isE_range (.inl (by rw [hlow]; exact hc)))
    have l1 : N < 0 := hc
    clear hc
    go_wp2_with fail
    refine (HBITS.out _).mono ?_
    rintro er wb ⟨rfl, rfl⟩
    go_wp2
    go_ret
    rw [HE.out]
    exact ⟨rfl, H1.out.1⟩
  have l1 : ¬ N < 0 := hc
  have HOK4 := Lib.hid hc
  clear hc
  by_cases hc : 1 < N
  · have HE : Hid (isE (.mk k m ns n of) (.mk N f [] c ov) = false) := Lib.hid (by have hk := HK0.out.1; have hhigh : highE k ns.length n = 1 := (by unfold highE; rw [if_pos hk]); exact isE_range (.inr (.inl (by rw [hhigh]; exact hc))))
    have h1 : 1 < N := hc
    clear hc
    go_wp2_with fail
    refine (HBITS.out _).mono ?_
    rintro er wb ⟨rfl, rfl⟩
    go_wp2
    go_ret
    rw [HE.out]
    exact ⟨rfl, H1.out.1⟩
  have h1 : ¬ 1 < N := hc
  have HOK5 := Lib.hid hc
  clear hc
  have HE : Hid (isE (.mk k m ns n of) (.mk N f [] c ov) = (List.range c).all (fun i => isE (of (0)) (ov i))) := Lib.hid (by
    have hk := HK0.out.1
    have o1 := HOK1.out
    have o2 := HOK2.out
    have o3 := HOK3.out
    have o4 := HOK4.out
    have o5 := HOK5.out
    have hlow : lowE k = 0 := (by unfold lowE; rw [if_neg (by omega)])
    have hhigh : highE k ns.length n = 1 := (by unfold highE; rw [if_pos hk])
    rw [isE, if_neg (by
      rintro (⟨h, h'⟩ | ⟨h, h'⟩)
      · exact HOK1.out (by rw [← HCF.out]; exact h')
      · exact h' rfl), if_neg (by omega), if_neg (by
      rw [hlow, hhigh]
      omega), if_neg (by omega)]
    congr 1; funext i; rw [if_neg (by omega), if_neg (by omega)])
  obtain rfl : c = 0 := by omega
  go_wp2_with fail
  refine (HBITS.out _).mono ?_
  rintro er wb ⟨rfl, rfl⟩
  go_wp2
  refine wp_loop_rounds 1 ?_
  rw [rounds_succ]
  go_wp2
  go_ret
  rw [HE.out]
  exact ⟨rfl, H1.out.1⟩

set_option maxRecDepth 100000 in
set_option maxHeartbeats 32000000 in
theorem is_k1 (k : Nat) (m : Int) (ns : List Txt) (n : Nat) (of : Nat → KT) (ih : ∀ i, IsAt (of i)) (hk0 : k = 1) : IsAt (.mk k m ns n of) := by
  intro R v vv w T hgood hrs hvs
  obtain ⟨⟨hn12, hown⟩, hkids⟩ := hgood
  obtain ⟨hk8, hmost, hone, hparts, hnames, hnone⟩ := own_facts hown
  obtain ⟨_, _, _, _, _, a', c', e1, rfl, hrb, hrk⟩ := rshows_open hrs
  cases e1
  obtain ⟨N, f, s, c, ov, va, cap, rfl, rfl, hVB, hVK⟩ := vshows_open hvs
  obtain ⟨hN0, hN1, hf64, hsl, hc5⟩ := hVB
  obtain ⟨nn, hnn⟩ : ∃ nn, ns.length = nn := ⟨_, rfl⟩
  rw [hnn] at hrb ⊢
  have HK0 := Lib.hid (And.intro hk0 (And.intro hmost (And.intro hone (And.intro hparts (And.intro hnames (And.intro hnone hnn))))))
  have HKIDS := Lib.hid hkids
  have HRK := Lib.hid hrk
  have HVK := Lib.hid hVK
  have hnn1 : nn ≤ 1000 := hrb.2.1
  obtain ⟨cf, hcf⟩ : ∃ cf, Fl.canon f = cf := ⟨_, rfl⟩
  have HBITS := Lib.hid (fun (wx : World) => refbits_is f cf hcf wx)
  have HCF := Lib.hid hcf
  have hlen : ((⟨s.toArray⟩ : ByteArray).size : Int) = (s.length : Int) := by simp [ByteArray.size]
  obtain ⟨sl, hsl'⟩ : ∃ sl, s.length = sl := ⟨_, rfl⟩
  have HSL := Lib.hid hsl'
  rw [hsl'] at hlen hsl
  unfold sv
  obtain ⟨kz, hkz⟩ : ∃ kz : Int, (k : Int) = kz := ⟨_, rfl⟩
  rw [hkz]
  have e0 : (kz == 0) = false := by simp; omega
  have n0 : (kz != 0) = true := by unfold bne; rw [e0]; rfl
  have e1 : (kz == 1) = true := by simp; omega
  have n1 : (kz != 1) = false := by unfold bne; rw [e1]; rfl
  have e2 : (kz == 2) = false := by simp; omega
  have n2 : (kz != 2) = true := by unfold bne; rw [e2]; rfl
  have e3 : (kz == 3) = false := by simp; omega
  have n3 : (kz != 3) = true := by unfold bne; rw [e3]; rfl
  have e4 : (kz == 4) = false := by simp; omega
  have n4 : (kz != 4) = true := by unfold bne; rw [e4]; rfl
  have e5 : (kz == 5) = false := by simp; omega
  have n5 : (kz != 5) = true := by unfold bne; rw [e5]; rfl
  have e6 : (kz == 6) = false := by simp; omega
  have n6 : (kz != 6) = true := by unfold bne; rw [e6]; rfl
  have e7 : (kz == 7) = false := by simp; omega
  have n7 : (kz != 7) = true := by unfold bne; rw [e7]; rfl
  have e8 : (kz == 8) = false := by simp; omega
  have n8 : (kz != 8) = true := by unfold bne; rw [e8]; rfl
  have k5 : decide (kz < 5) = true := by simp; omega
  obtain ⟨w1, hw1⟩ : ∃ w1, w1 = (w.alloc (.cells #[.int .i64 kz, .int .i64 m, .int .i64 (nn : Nat), .slice a' n c'] 49)).alloc (.cells #[.int .i64 N, .float .f64 f, .string ⟨s.toArray⟩, .slice va c cap] 42) := ⟨_, rfl⟩
  have f1 : Fr (fun _ => False) w w1 := by rw [hw1]; exact ((Fr.refl _ _).alloc _).alloc _
  have q1 : w1.heap[w.heap.size]? = some (.cells #[.int .i64 kz, .int .i64 m, .int .i64 (nn : Nat), .slice a' n c'] 49 (0, 0)) := by rw [hw1]; exact heap_alloc_first _ _ _
  have v1 : w1.heap[w.heap.size + 1]? = some (.cells #[.int .i64 N, .float .f64 f, .string ⟨s.toArray⟩, .slice va c cap] 42 (0, 0)) := by rw [hw1]; exact heap_alloc_two _ _ _
  clear hrs hvs hk0 hmost hone hparts hnames hnone hkids hrk hVK hcf hsl' hrb hown hnn hkz
  go_enter Try.func21, Try.ntmps21
  go_upto_region 1 with fail
  rw [← hw1]
  obtain ⟨vb, hvb⟩ : ∃ vb, w.heap.size + 1 = vb := ⟨_, rfl⟩
  rw [hvb] at v1 ⊢
  obtain ⟨tb, htb⟩ : ∃ tb, w.heap.size = tb := ⟨_, rfl⟩
  rw [htb] at q1 ⊢
  obtain ⟨c0, c1, c2, c3⟩ := cell_of_four q1
  obtain ⟨d0, d1, d2, d3⟩ := cell_of_four v1
  have H1 := Lib.hid (And.intro f1 (And.intro q1 v1))
  clear hw1 f1 q1 v1 hvb htb
  by_cases hc : cf ≠ 0
  · have HE : Hid (isE (.mk k m ns n of) (.mk N f s c ov) = false) := Lib.hid (by have hk := HK0.out.1; rw [isE, if_pos (.inl ⟨by omega, by rw [HCF.out]; exact hc⟩)])
    have z1 : ((cf : Int) == 0) = false := by simp; omega
    have z2 : ((cf : Int) != 0) = true := by unfold bne; rw [z1]; rfl
    clear hc
    go_wp2_with fail
    refine (HBITS.out _).mono ?_
    rintro er wb ⟨rfl, rfl⟩
    go_wp2
    go_ret
    rw [HE.out]
    exact ⟨rfl, H1.out.1⟩
  have z1 : ((cf : Int) == 0) = true := by simp; omega
  have z2 : ((cf : Int) != 0) = false := by unfold bne; rw [z1]; rfl
  have HOK1 := Lib.hid hc
  clear hc
  by_cases hc : s ≠ []
  · have HE : Hid (isE (.mk k m ns n of) (.mk N f s c ov) = false) := Lib.hid (by have hk := HK0.out.1; rw [isE, if_pos (.inr ⟨by omega, hc⟩)])
    obtain ⟨y1, y2, y3⟩ := text_empty s hc
    have y4 := hc
    clear hc
    go_wp2_with fail
    refine (HBITS.out _).mono ?_
    rintro er wb ⟨rfl, rfl⟩
    go_wp2
    go_ret
    rw [HE.out]
    exact ⟨rfl, H1.out.1⟩
  have y0 : s = [] := by simpa using hc
  have HOK2 := Lib.hid hc
  clear hc
  subst y0
  by_cases hc : 0 < c
  · have HE : Hid (isE (.mk k m ns n of) (.mk N f [] c ov) = false) := Lib.hid (by have hk := HK0.out.1; exact isE_has ⟨by omega, hc⟩)
    have x1 : (0 : Int) < (c : Int) := by omega
    clear hc
    go_wp2_with fail
    refine (HBITS.out _).mono ?_
    rintro er wb ⟨rfl, rfl⟩
    go_wp2
    go_ret
    rw [HE.out]
    exact ⟨rfl, H1.out.1⟩
  have x1 : ¬ (0 : Int) < (c : Int) := by omega
  have HOK3 := Lib.hid hc
  clear hc
  by_cases hc : N < 0
  · have HE : Hid (isE (.mk k m ns n of) (.mk N f [] c ov) = false) := Lib.hid (by have hk := HK0.out.1; have hlow : lowE k = 0 := (by unfold lowE; rw [if_neg (by omega)]); exact isE_range (.inl (by rw [hlow]; exact hc)))
    have l1 : N < 0 := hc
    clear hc
    go_wp2_with fail
    refine (HBITS.out _).mono ?_
    rintro er wb ⟨rfl, rfl⟩
    go_wp2
    go_ret
    rw [HE.out]
    exact ⟨rfl, H1.out.1⟩
  have l1 : ¬ N < 0 := hc
  have HOK4 := Lib.hid hc
  clear hc
  by_cases hc : 65535 < N
  · have HE : Hid (isE (.mk k m ns n of) (.mk N f [] c ov) = false) := Lib.hid (by have hk := HK0.out.1; have hhigh : highE k ns.length n = 65535 := (by unfold highE; rw [if_neg (by omega)]; rw [if_pos hk]); exact isE_range (.inr (.inl (by rw [hhigh]; exact hc))))
    have h1 : 65535 < N := hc
    clear hc
    go_wp2_with fail
    refine (HBITS.out _).mono ?_
    rintro er wb ⟨rfl, rfl⟩
    go_wp2
    go_ret
    rw [HE.out]
    exact ⟨rfl, H1.out.1⟩
  have h1 : ¬ 65535 < N := hc
  have HOK5 := Lib.hid hc
  clear hc
  have HE : Hid (isE (.mk k m ns n of) (.mk N f [] c ov) = (List.range c).all (fun i => isE (of (0)) (ov i))) := Lib.hid (by
    have hk := HK0.out.1
    have o1 := HOK1.out
    have o2 := HOK2.out
    have o3 := HOK3.out
    have o4 := HOK4.out
    have o5 := HOK5.out
    have hlow : lowE k = 0 := (by unfold lowE; rw [if_neg (by omega)])
    have hhigh : highE k ns.length n = 65535 := (by unfold highE; rw [if_neg (by omega)]; rw [if_pos hk])
    rw [isE, if_neg (by
      rintro (⟨h, h'⟩ | ⟨h, h'⟩)
      · exact HOK1.out (by rw [← HCF.out]; exact h')
      · exact h' rfl), if_neg (by omega), if_neg (by
      rw [hlow, hhigh]
      omega), if_neg (by omega)]
    congr 1; funext i; rw [if_neg (by omega), if_neg (by omega)])
  obtain rfl : c = 0 := by omega
  go_wp2_with fail
  refine (HBITS.out _).mono ?_
  rintro er wb ⟨rfl, rfl⟩
  go_wp2
  refine wp_loop_rounds 1 ?_
  rw [rounds_succ]
  go_wp2
  go_ret
  rw [HE.out]
  exact ⟨rfl, H1.out.1⟩

set_option maxRecDepth 100000 in
set_option maxHeartbeats 32000000 in
theorem is_k2 (k : Nat) (m : Int) (ns : List Txt) (n : Nat) (of : Nat → KT) (ih : ∀ i, IsAt (of i)) (hk0 : k = 2) : IsAt (.mk k m ns n of) := by
  intro R v vv w T hgood hrs hvs
  obtain ⟨⟨hn12, hown⟩, hkids⟩ := hgood
  obtain ⟨hk8, hmost, hone, hparts, hnames, hnone⟩ := own_facts hown
  obtain ⟨_, _, _, _, _, a', c', e1, rfl, hrb, hrk⟩ := rshows_open hrs
  cases e1
  obtain ⟨N, f, s, c, ov, va, cap, rfl, rfl, hVB, hVK⟩ := vshows_open hvs
  obtain ⟨hN0, hN1, hf64, hsl, hc5⟩ := hVB
  obtain ⟨nn, hnn⟩ : ∃ nn, ns.length = nn := ⟨_, rfl⟩
  rw [hnn] at hrb ⊢
  have HK0 := Lib.hid (And.intro hk0 (And.intro hmost (And.intro hone (And.intro hparts (And.intro hnames (And.intro hnone hnn))))))
  have HKIDS := Lib.hid hkids
  have HRK := Lib.hid hrk
  have HVK := Lib.hid hVK
  have hnn1 : nn ≤ 1000 := hrb.2.1
  obtain ⟨cf, hcf⟩ : ∃ cf, Fl.canon f = cf := ⟨_, rfl⟩
  have HBITS := Lib.hid (fun (wx : World) => refbits_is f cf hcf wx)
  have HCF := Lib.hid hcf
  have hlen : ((⟨s.toArray⟩ : ByteArray).size : Int) = (s.length : Int) := by simp [ByteArray.size]
  obtain ⟨sl, hsl'⟩ : ∃ sl, s.length = sl := ⟨_, rfl⟩
  have HSL := Lib.hid hsl'
  rw [hsl'] at hlen hsl
  unfold sv
  obtain ⟨kz, hkz⟩ : ∃ kz : Int, (k : Int) = kz := ⟨_, rfl⟩
  rw [hkz]
  have e0 : (kz == 0) = false := by simp; omega
  have n0 : (kz != 0) = true := by unfold bne; rw [e0]; rfl
  have e1 : (kz == 1) = false := by simp; omega
  have n1 : (kz != 1) = true := by unfold bne; rw [e1]; rfl
  have e2 : (kz == 2) = true := by simp; omega
  have n2 : (kz != 2) = false := by unfold bne; rw [e2]; rfl
  have e3 : (kz == 3) = false := by simp; omega
  have n3 : (kz != 3) = true := by unfold bne; rw [e3]; rfl
  have e4 : (kz == 4) = false := by simp; omega
  have n4 : (kz != 4) = true := by unfold bne; rw [e4]; rfl
  have e5 : (kz == 5) = false := by simp; omega
  have n5 : (kz != 5) = true := by unfold bne; rw [e5]; rfl
  have e6 : (kz == 6) = false := by simp; omega
  have n6 : (kz != 6) = true := by unfold bne; rw [e6]; rfl
  have e7 : (kz == 7) = false := by simp; omega
  have n7 : (kz != 7) = true := by unfold bne; rw [e7]; rfl
  have e8 : (kz == 8) = false := by simp; omega
  have n8 : (kz != 8) = true := by unfold bne; rw [e8]; rfl
  have k5 : decide (kz < 5) = true := by simp; omega
  obtain ⟨w1, hw1⟩ : ∃ w1, w1 = (w.alloc (.cells #[.int .i64 kz, .int .i64 m, .int .i64 (nn : Nat), .slice a' n c'] 49)).alloc (.cells #[.int .i64 N, .float .f64 f, .string ⟨s.toArray⟩, .slice va c cap] 42) := ⟨_, rfl⟩
  have f1 : Fr (fun _ => False) w w1 := by rw [hw1]; exact ((Fr.refl _ _).alloc _).alloc _
  have q1 : w1.heap[w.heap.size]? = some (.cells #[.int .i64 kz, .int .i64 m, .int .i64 (nn : Nat), .slice a' n c'] 49 (0, 0)) := by rw [hw1]; exact heap_alloc_first _ _ _
  have v1 : w1.heap[w.heap.size + 1]? = some (.cells #[.int .i64 N, .float .f64 f, .string ⟨s.toArray⟩, .slice va c cap] 42 (0, 0)) := by rw [hw1]; exact heap_alloc_two _ _ _
  clear hrs hvs hk0 hmost hone hparts hnames hnone hkids hrk hVK hcf hsl' hrb hown hnn hkz
  go_enter Try.func21, Try.ntmps21
  go_upto_region 1 with fail
  rw [← hw1]
  obtain ⟨vb, hvb⟩ : ∃ vb, w.heap.size + 1 = vb := ⟨_, rfl⟩
  rw [hvb] at v1 ⊢
  obtain ⟨tb, htb⟩ : ∃ tb, w.heap.size = tb := ⟨_, rfl⟩
  rw [htb] at q1 ⊢
  obtain ⟨c0, c1, c2, c3⟩ := cell_of_four q1
  obtain ⟨d0, d1, d2, d3⟩ := cell_of_four v1
  have H1 := Lib.hid (And.intro f1 (And.intro q1 v1))
  clear hw1 f1 q1 v1 hvb htb
  by_cases hc : cf ≠ 0
  · have HE : Hid (isE (.mk k m ns n of) (.mk N f s c ov) = false) := Lib.hid (by have hk := HK0.out.1; rw [isE, if_pos (.inl ⟨by omega, by rw [HCF.out]; exact hc⟩)])
    have z1 : ((cf : Int) == 0) = false := by simp; omega
    have z2 : ((cf : Int) != 0) = true := by unfold bne; rw [z1]; rfl
    clear hc
    go_wp2_with fail
    refine (HBITS.out _).mono ?_
    rintro er wb ⟨rfl, rfl⟩
    go_wp2
    go_ret
    rw [HE.out]
    exact ⟨rfl, H1.out.1⟩
  have z1 : ((cf : Int) == 0) = true := by simp; omega
  have z2 : ((cf : Int) != 0) = false := by unfold bne; rw [z1]; rfl
  have HOK1 := Lib.hid hc
  clear hc
  by_cases hc : s ≠ []
  · have HE : Hid (isE (.mk k m ns n of) (.mk N f s c ov) = false) := Lib.hid (by have hk := HK0.out.1; rw [isE, if_pos (.inr ⟨by omega, hc⟩)])
    obtain ⟨y1, y2, y3⟩ := text_empty s hc
    have y4 := hc
    clear hc
    go_wp2_with fail
    refine (HBITS.out _).mono ?_
    rintro er wb ⟨rfl, rfl⟩
    go_wp2
    go_ret
    rw [HE.out]
    exact ⟨rfl, H1.out.1⟩
  have y0 : s = [] := by simpa using hc
  have HOK2 := Lib.hid hc
  clear hc
  subst y0
  by_cases hc : 0 < c
  · have HE : Hid (isE (.mk k m ns n of) (.mk N f [] c ov) = false) := Lib.hid (by have hk := HK0.out.1; exact isE_has ⟨by omega, hc⟩)
    have x1 : (0 : Int) < (c : Int) := by omega
    clear hc
    go_wp2_with fail
    refine (HBITS.out _).mono ?_
    rintro er wb ⟨rfl, rfl⟩
    go_wp2
    go_ret
    rw [HE.out]
    exact ⟨rfl, H1.out.1⟩
  have x1 : ¬ (0 : Int) < (c : Int) := by omega
  have HOK3 := Lib.hid hc
  clear hc
  by_cases hc : N < (-2147483648)
  · have HE : Hid (isE (.mk k m ns n of) (.mk N f [] c ov) = false) := Lib.hid (by have hk := HK0.out.1; have hlow : lowE k = (-2147483648) := (by unfold lowE; rw [if_pos hk]); exact isE_range (.inl (by rw [hlow]; exact hc)))
    have l1 : N < (-2147483648) := hc
    clear hc
    go_wp2_with fail
    refine (HBITS.out _).mono ?_
    rintro er wb ⟨rfl, rfl⟩
    go_wp2
    go_ret
    rw [HE.out]
    exact ⟨rfl, H1.out.1⟩
  have l1 : ¬ N < (-2147483648) := hc
  have HOK4 := Lib.hid hc
  clear hc
  by_cases hc : 2147483647 < N
  · have HE : Hid (isE (.mk k m ns n of) (.mk N f [] c ov) = false) := Lib.hid (by have hk := HK0.out.1; have hhigh : highE k ns.length n = 2147483647 := (by unfold highE; rw [if_neg (by omega)]; rw [if_neg (by omega)]; rw [if_pos hk]); exact isE_range (.inr (.inl (by rw [hhigh]; exact hc))))
    have h1 : 2147483647 < N := hc
    clear hc
    go_wp2_with fail
    refine (HBITS.out _).mono ?_
    rintro er wb ⟨rfl, rfl⟩
    go_wp2
    go_ret
    rw [HE.out]
    exact ⟨rfl, H1.out.1⟩
  have h1 : ¬ 2147483647 < N := hc
  have HOK5 := Lib.hid hc
  clear hc
  have HE : Hid (isE (.mk k m ns n of) (.mk N f [] c ov) = (List.range c).all (fun i => isE (of (0)) (ov i))) := Lib.hid (by
    have hk := HK0.out.1
    have o1 := HOK1.out
    have o2 := HOK2.out
    have o3 := HOK3.out
    have o4 := HOK4.out
    have o5 := HOK5.out
    have hlow : lowE k = (-2147483648) := (by unfold lowE; rw [if_pos hk])
    have hhigh : highE k ns.length n = 2147483647 := (by unfold highE; rw [if_neg (by omega)]; rw [if_neg (by omega)]; rw [if_pos hk])
    rw [isE, if_neg (by
      rintro (⟨h, h'⟩ | ⟨h, h'⟩)
      · exact HOK1.out (by rw [← HCF.out]; exact h')
      · exact h' rfl), if_neg (by omega), if_neg (by
      rw [hlow, hhigh]
      omega), if_neg (by omega)]
    congr 1; funext i; rw [if_neg (by omega), if_neg (by omega)])
  obtain rfl : c = 0 := by omega
  go_wp2_with fail
  refine (HBITS.out _).mono ?_
  rintro er wb ⟨rfl, rfl⟩
  go_wp2
  refine wp_loop_rounds 1 ?_
  rw [rounds_succ]
  go_wp2
  go_ret
  rw [HE.out]
  exact ⟨rfl, H1.out.1⟩

set_option maxRecDepth 100000 in
set_option maxHeartbeats 32000000 in
theorem is_k3 (k : Nat) (m : Int) (ns : List Txt) (n : Nat) (of : Nat → KT) (ih : ∀ i, IsAt (of i)) (hk0 : k = 3) : IsAt (.mk k m ns n of) := by
  intro R v vv w T hgood hrs hvs
  obtain ⟨⟨hn12, hown⟩, hkids⟩ := hgood
  obtain ⟨hk8, hmost, hone, hparts, hnames, hnone⟩ := own_facts hown
  obtain ⟨_, _, _, _, _, a', c', e1, rfl, hrb, hrk⟩ := rshows_open hrs
  cases e1
  obtain ⟨N, f, s, c, ov, va, cap, rfl, rfl, hVB, hVK⟩ := vshows_open hvs
  obtain ⟨hN0, hN1, hf64, hsl, hc5⟩ := hVB
  obtain ⟨nn, hnn⟩ : ∃ nn, ns.length = nn := ⟨_, rfl⟩
  rw [hnn] at hrb ⊢
  have HK0 := Lib.hid (And.intro hk0 (And.intro hmost (And.intro hone (And.intro hparts (And.intro hnames (And.intro hnone hnn))))))
  have HKIDS := Lib.hid hkids
  have HRK := Lib.hid hrk
  have HVK := Lib.hid hVK
  have hnn1 : nn ≤ 1000 := hrb.2.1
  obtain ⟨cf, hcf⟩ : ∃ cf, Fl.canon f = cf := ⟨_, rfl⟩
  have HBITS := Lib.hid (fun (wx : World) => refbits_is f cf hcf wx)
  have HCF := Lib.hid hcf
  have hlen : ((⟨s.toArray⟩ : ByteArray).size : Int) = (s.length : Int) := by simp [ByteArray.size]
  obtain ⟨sl, hsl'⟩ : ∃ sl, s.length = sl := ⟨_, rfl⟩
  have HSL := Lib.hid hsl'
  rw [hsl'] at hlen hsl
  unfold sv
  obtain ⟨kz, hkz⟩ : ∃ kz : Int, (k : Int) = kz := ⟨_, rfl⟩
  rw [hkz]
  have e0 : (kz == 0) = false := by simp; omega
  have n0 : (kz != 0) = true := by unfold bne; rw [e0]; rfl
  have e1 : (kz == 1) = false := by simp; omega
  have n1 : (kz != 1) = true := by unfold bne; rw [e1]; rfl
  have e2 : (kz == 2) = false := by simp; omega
  have n2 : (kz != 2) = true := by unfold bne; rw [e2]; rfl
  have e3 : (kz == 3) = true := by simp; omega
  have n3 : (kz != 3) = false := by unfold bne; rw [e3]; rfl
  have e4 : (kz == 4) = false := by simp; omega
  have n4 : (kz != 4) = true := by unfold bne; rw [e4]; rfl
  have e5 : (kz == 5) = false := by simp; omega
  have n5 : (kz != 5) = true := by unfold bne; rw [e5]; rfl
  have e6 : (kz == 6) = false := by simp; omega
  have n6 : (kz != 6) = true := by unfold bne; rw [e6]; rfl
  have e7 : (kz == 7) = false := by simp; omega
  have n7 : (kz != 7) = true := by unfold bne; rw [e7]; rfl
  have e8 : (kz == 8) = false := by simp; omega
  have n8 : (kz != 8) = true := by unfold bne; rw [e8]; rfl
  have k5 : decide (kz < 5) = true := by simp; omega
  obtain ⟨w1, hw1⟩ : ∃ w1, w1 = (w.alloc (.cells #[.int .i64 kz, .int .i64 m, .int .i64 (nn : Nat), .slice a' n c'] 49)).alloc (.cells #[.int .i64 N, .float .f64 f, .string ⟨s.toArray⟩, .slice va c cap] 42) := ⟨_, rfl⟩
  have f1 : Fr (fun _ => False) w w1 := by rw [hw1]; exact ((Fr.refl _ _).alloc _).alloc _
  have q1 : w1.heap[w.heap.size]? = some (.cells #[.int .i64 kz, .int .i64 m, .int .i64 (nn : Nat), .slice a' n c'] 49 (0, 0)) := by rw [hw1]; exact heap_alloc_first _ _ _
  have v1 : w1.heap[w.heap.size + 1]? = some (.cells #[.int .i64 N, .float .f64 f, .string ⟨s.toArray⟩, .slice va c cap] 42 (0, 0)) := by rw [hw1]; exact heap_alloc_two _ _ _
  clear hrs hvs hk0 hmost hone hparts hnames hnone hkids hrk hVK hcf hsl' hrb hown hnn hkz
  go_enter Try.func21, Try.ntmps21
  go_upto_region 1 with fail
  rw [← hw1]
  obtain ⟨vb, hvb⟩ : ∃ vb, w.heap.size + 1 = vb := ⟨_, rfl⟩
  rw [hvb] at v1 ⊢
  obtain ⟨tb, htb⟩ : ∃ tb, w.heap.size = tb := ⟨_, rfl⟩
  rw [htb] at q1 ⊢
  obtain ⟨c0, c1, c2, c3⟩ := cell_of_four q1
  obtain ⟨d0, d1, d2, d3⟩ := cell_of_four v1
  have H1 := Lib.hid (And.intro f1 (And.intro q1 v1))
  clear hw1 f1 q1 v1 hvb htb
  by_cases hc : s ≠ []
  · have HE : Hid (isE (.mk k m ns n of) (.mk N f s c ov) = false) := Lib.hid (by have hk := HK0.out.1; rw [isE, if_pos (.inr ⟨by omega, hc⟩)])
    obtain ⟨y1, y2, y3⟩ := text_empty s hc
    have y4 := hc
    clear hc
    go_wp2
    go_ret
    rw [HE.out]
    exact ⟨rfl, H1.out.1⟩
  have y0 : s = [] := by simpa using hc
  have HOK1 := Lib.hid hc
  clear hc
  subst y0
  by_cases hc : 0 < c
  · have HE : Hid (isE (.mk k m ns n of) (.mk N f [] c ov) = false) := Lib.hid (by have hk := HK0.out.1; exact isE_has ⟨by omega, hc⟩)
    have x1 : (0 : Int) < (c : Int) := by omega
    clear hc
    go_wp2
    go_ret
    rw [HE.out]
    exact ⟨rfl, H1.out.1⟩
  have x1 : ¬ (0 : Int) < (c : Int) := by omega
  have HOK2 := Lib.hid hc
  clear hc
  by_cases hc : N < 0
  · have HE : Hid (isE (.mk k m ns n of) (.mk N f [] c ov) = false) := Lib.hid (by have hk := HK0.out.1; have hlow : lowE k = 0 := (by unfold lowE; rw [if_neg (by omega)]); exact isE_range (.inl (by rw [hlow]; exact hc)))
    have l1 : N < 0 := hc
    clear hc
    go_wp2
    go_ret
    rw [HE.out]
    exact ⟨rfl, H1.out.1⟩
  have l1 : ¬ N < 0 := hc
  have HOK3 := Lib.hid hc
  clear hc
  by_cases hc : 0 < N
  · have HE : Hid (isE (.mk k m ns n of) (.mk N f [] c ov) = false) := Lib.hid (by have hk := HK0.out.1; have hhigh : highE k ns.length n = 0 := (by unfold highE; rw [if_neg (by omega)]; rw [if_neg (by omega)]; rw [if_neg (by omega)]; rw [if_neg (by omega)]; rw [if_neg (by omega)]); exact isE_range (.inr (.inl (by rw [hhigh]; exact hc))))
    have h1 : 0 < N := hc
    clear hc
    go_wp2
    go_ret
    rw [HE.out]
    exact ⟨rfl, H1.out.1⟩
  have h1 : ¬ 0 < N := hc
  have HOK4 := Lib.hid hc
  clear hc
  have HE : Hid (isE (.mk k m ns n of) (.mk N f [] c ov) = (List.range c).all (fun i => isE (of (0)) (ov i))) := Lib.hid (by
    have hk := HK0.out.1
    have o1 := HOK1.out
    have o2 := HOK2.out
    have o3 := HOK3.out
    have o4 := HOK4.out
    have hlow : lowE k = 0 := (by unfold lowE; rw [if_neg (by omega)])
    have hhigh : highE k ns.length n = 0 := (by unfold highE; rw [if_neg (by omega)]; rw [if_neg (by omega)]; rw [if_neg (by omega)]; rw [if_neg (by omega)]; rw [if_neg (by omega)])
    rw [isE, if_neg (by
      rintro (⟨h, h'⟩ | ⟨h, h'⟩)
      · exact h hk
      · exact h' rfl), if_neg (by omega), if_neg (by
      rw [hlow, hhigh]
      omega), if_neg (by omega)]
    congr 1; funext i; rw [if_neg (by omega), if_neg (by omega)])
  obtain rfl : c = 0 := by omega
  go_wp2
  refine wp_loop_rounds 1 ?_
  rw [rounds_succ]
  go_wp2
  go_ret
  rw [HE.out]
  exact ⟨rfl, H1.out.1⟩

set_option maxRecDepth 100000 in
set_option maxHeartbeats 32000000 in
theorem is_k4 (k : Nat) (m : Int) (ns : List Txt) (n : Nat) (of : Nat → KT) (ih : ∀ i, IsAt (of i)) (hk0 : k = 4) : IsAt (.mk k m ns n of) := by
  intro R v vv w T hgood hrs hvs
  obtain ⟨⟨hn12, hown⟩, hkids⟩ := hgood
  obtain ⟨hk8, hmost, hone, hparts, hnames, hnone⟩ := own_facts hown
  obtain ⟨_, _, _, _, _, a', c', e1, rfl, hrb, hrk⟩ := rshows_open hrs
  cases e1
  obtain ⟨N, f, s, c, ov, va, cap, rfl, rfl, hVB, hVK⟩ := vshows_open hvs
  obtain ⟨hN0, hN1, hf64, hsl, hc5⟩ := hVB
  obtain ⟨nn, hnn⟩ : ∃ nn, ns.length = nn := ⟨_, rfl⟩
  rw [hnn] at hrb ⊢
  have HK0 := Lib.hid (And.intro hk0 (And.intro hmost (And.intro hone (And.intro hparts (And.intro hnames (And.intro hnone hnn))))))
  have HKIDS := Lib.hid hkids
  have HRK := Lib.hid hrk
  have HVK := Lib.hid hVK
  have hnn1 : nn ≤ 1000 := hrb.2.1
  obtain ⟨cf, hcf⟩ : ∃ cf, Fl.canon f = cf := ⟨_, rfl⟩
  have HBITS := Lib.hid (fun (wx : World) => refbits_is f cf hcf wx)
  have HCF := Lib.hid hcf
  have hlen : ((⟨s.toArray⟩ : ByteArray).size : Int) = (s.length : Int) := by simp [ByteArray.size]
  obtain ⟨sl, hsl'⟩ : ∃ sl, s.length = sl := ⟨_, rfl⟩
  have HSL := Lib.hid hsl'
  rw [hsl'] at hlen hsl
  unfold sv
  obtain ⟨kz, hkz⟩ : ∃ kz : Int, (k : Int) = kz := ⟨_, rfl⟩
  rw [hkz]
  have e0 : (kz == 0) = false := by simp; omega
  have n0 : (kz != 0) = true := by unfold bne; rw [e0]; rfl
  have e1 : (kz == 1) = false := by simp; omega
  have n1 : (kz != 1) = true := by unfold bne; rw [e1]; rfl
  have e2 : (kz == 2) = false := by simp; omega
  have n2 : (kz != 2) = true := by unfold bne; rw [e2]; rfl
  have e3 : (kz == 3) = false := by simp; omega
  have n3 : (kz != 3) = true := by unfold bne; rw [e3]; rfl
  have e4 : (kz == 4) = true := by simp; omega
  have n4 : (kz != 4) = false := by unfold bne; rw [e4]; rfl
  have e5 : (kz == 5) = false := by simp; omega
  have n5 : (kz != 5) = true := by unfold bne; rw [e5]; rfl
  have e6 : (kz == 6) = false := by simp; omega
  have n6 : (kz != 6) = true := by unfold bne; rw [e6]; rfl
  have e7 : (kz == 7) = false := by simp; omega
  have n7 : (kz != 7) = true := by unfold bne; rw [e7]; rfl
  have e8 : (kz == 8) = false := by simp; omega
  have n8 : (kz != 8) = true := by unfold bne; rw [e8]; rfl
  have k5 : decide (kz < 5) = true := by simp; omega
  obtain ⟨w1, hw1⟩ : ∃ w1, w1 = (w.alloc (.cells #[.int .i64 kz, .int .i64 m, .int .i64 (nn : Nat), .slice a' n c'] 49)).alloc (.cells #[.int .i64 N, .float .f64 f, .string ⟨s.toArray⟩, .slice va c cap] 42) := ⟨_, rfl⟩
  have f1 : Fr (fun _ => False) w w1 := by rw [hw1]; exact ((Fr.refl _ _).alloc _).alloc _
  have q1 : w1.heap[w.heap.size]? = some (.cells #[.int .i64 kz, .int .i64 m, .int .i64 (nn : Nat), .slice a' n c'] 49 (0, 0)) := by rw [hw1]; exact heap_alloc_first _ _ _
  have v1 : w1.heap[w.heap.size + 1]? = some (.cells #[.int .i64 N, .float .f64 f, .string ⟨s.toArray⟩, .slice va c cap] 42 (0, 0)) := by rw [hw1]; exact heap_alloc_two _ _ _
  clear hrs hvs hk0 hmost hone hparts hnames hnone hkids hrk hVK hcf hsl' hrb hown hnn hkz
  go_enter Try.func21, Try.ntmps21
  go_upto_region 1 with fail
  rw [← hw1]
  obtain ⟨vb, hvb⟩ : ∃ vb, w.heap.size + 1 = vb := ⟨_, rfl⟩
  rw [hvb] at v1 ⊢
  obtain ⟨tb, htb⟩ : ∃ tb, w.heap.size = tb := ⟨_, rfl⟩
  rw [htb] at q1 ⊢
  obtain ⟨c0, c1, c2, c3⟩ := cell_of_four q1
  obtain ⟨d0, d1, d2, d3⟩ := cell_of_four v1
  have H1 := Lib.hid (And.intro f1 (And.intro q1 v1))
  clear hw1 f1 q1 v1 hvb htb
  by_cases hc : cf ≠ 0
  · have HE : Hid (isE (.mk k m ns n of) (.mk N f s c ov) = false) := Lib.hid (by have hk := HK0.out.1; rw [isE, if_pos (.inl ⟨by omega, by rw [HCF.out]; exact hc⟩)])
    have z1 : ((cf : Int) == 0) = false := by simp; omega
    have z2 : ((cf : Int) != 0) = true := by unfold bne; rw [z1]; rfl
    clear hc
    go_wp2_with fail
    refine (HBITS.out _).mono ?_
    rintro er wb ⟨rfl, rfl⟩
    go_wp2
    go_ret
    rw [HE.out]
    exact ⟨rfl, H1.out.1⟩
  have z1 : ((cf : Int) == 0) = true := by simp; omega
  have z2 : ((cf : Int) != 0) = false := by unfold bne; rw [z1]; rfl
  have HOK1 := Lib.hid hc
  clear hc
  by_cases hc : 0 < c
  · have HE : Hid (isE (.mk k m ns n of) (.mk N f s c ov) = false) := Lib.hid (by have hk := HK0.out.1; exact isE_has ⟨by omega, hc⟩)
    have x1 : (0 : Int) < (c : Int) := by omega
    clear hc
    go_wp2_with fail
    refine (HBITS.out _).mono ?_
    rintro er wb ⟨rfl, rfl⟩
    go_wp2
    go_ret
    rw [HE.out]
    exact ⟨rfl, H1.out.1⟩
  have x1 : ¬ (0 : Int) < (c : Int) := by omega
  have HOK2 := Lib.hid hc
  clear hc
  by_cases hc : N < 0
  · have HE : Hid (isE (.mk k m ns n of) (.mk N f s c ov) = false) := Lib.hid (by have hk := HK0.out.1; have hlow : lowE k = 0 := (by unfold lowE; rw [if_neg (by omega)]); exact isE_range (.inl (by rw [hlow]; exact hc)))
    have l1 : N < 0 := hc
    clear hc
    go_wp2_with fail
    refine (HBITS.out _).mono ?_
    rintro er wb ⟨rfl, rfl⟩
    go_wp2
    go_ret
    rw [HE.out]
    exact ⟨rfl, H1.out.1⟩
  have l1 : ¬ N < 0 := hc
  have HOK3 := Lib.hid hc
  clear hc
  by_cases hc : 0 < N
  · have HE : Hid (isE (.mk k m ns n of) (.mk N f s c ov) = false) := Lib.hid (by have hk := HK0.out.1; have hhigh : highE k ns.length n = 0 := (by unfold highE; rw [if_neg (by omega)]; rw [if_neg (by omega)]; rw [if_neg (by omega)]; rw [if_neg (by omega)]; rw [if_neg (by omega)]); exact isE_range (.inr (.inl (by rw [hhigh]; exact hc))))
    have h1 : 0 < N := hc
    clear hc
    go_wp2_with fail
    refine (HBITS.out _).mono ?_
    rintro er wb ⟨rfl, rfl⟩
    go_wp2
    go_ret
    rw [HE.out]
    exact ⟨rfl, H1.out.1⟩
  have h1 : ¬ 0 < N := hc
  have HOK4 := Lib.hid hc
  clear hc
  by_cases hc : m < (s.length : Int)
  · have HE : Hid (isE (.mk k m ns n of) (.mk N f s c ov) = false) := Lib.hid (by have hk := HK0.out.1; exact isE_range (.inr (.inr (.inl ⟨hk, hc⟩))))
    have m1 : m < (s.length : Int) := hc
    clear hc
    go_wp2_with fail
    refine (HBITS.out _).mono ?_
    rintro er wb ⟨rfl, rfl⟩
    go_wp2
    go_ret
    rw [HE.out]
    exact ⟨rfl, H1.out.1⟩
  have m1 : ¬ m < (s.length : Int) := hc
  have HOK5 := Lib.hid hc
  clear hc
  have HE : Hid (isE (.mk k m ns n of) (.mk N f s c ov) = (List.range c).all (fun i => isE (of (0)) (ov i))) := Lib.hid (by
    have hk := HK0.out.1
    have o1 := HOK1.out
    have o2 := HOK2.out
    have o3 := HOK3.out
    have o4 := HOK4.out
    have o5 := HOK5.out
    have hlow : lowE k = 0 := (by unfold lowE; rw [if_neg (by omega)])
    have hhigh : highE k ns.length n = 0 := (by unfold highE; rw [if_neg (by omega)]; rw [if_neg (by omega)]; rw [if_neg (by omega)]; rw [if_neg (by omega)]; rw [if_neg (by omega)])
    rw [isE, if_neg (by
      rintro (⟨h, h'⟩ | ⟨h, h'⟩)
      · exact HOK1.out (by rw [← HCF.out]; exact h')
      · exact h hk), if_neg (by omega), if_neg (by
      rw [hlow, hhigh]
      omega), if_neg (by omega)]
    congr 1; funext i; rw [if_neg (by omega), if_neg (by omega)])
  obtain rfl : c = 0 := by omega
  go_wp2_with fail
  refine (HBITS.out _).mono ?_
  rintro er wb ⟨rfl, rfl⟩
  go_wp2
  refine wp_loop_rounds 1 ?_
  rw [rounds_succ]
  go_wp2
  go_ret
  rw [HE.out]
  exact ⟨rfl, H1.out.1⟩

set_option maxRecDepth 100000 in
set_option maxHeartbeats 32000000 in
theorem is_k5 (k : Nat) (m : Int) (ns : List Txt) (n : Nat) (of : Nat → KT) (ih : ∀ i, IsAt (of i)) (hk0 : k = 5) : IsAt (.mk k m ns n of) := by
  intro R v vv w T hgood hrs hvs
  obtain ⟨⟨hn12, hown⟩, hkids⟩ := hgood
  obtain ⟨hk8, hmost, hone, hparts, hnames, hnone⟩ := own_facts hown
  obtain ⟨_, _, _, _, _, a', c', e1, rfl, hrb, hrk⟩ := rshows_open hrs
  cases e1
  obtain ⟨N, f, s, c, ov, va, cap, rfl, rfl, hVB, hVK⟩ := vshows_open hvs
  obtain ⟨hN0, hN1, hf64, hsl, hc5⟩ := hVB
  obtain ⟨nn, hnn⟩ : ∃ nn, ns.length = nn := ⟨_, rfl⟩
  rw [hnn] at hrb ⊢
  have HK0 := Lib.hid (And.intro hk0 (And.intro hmost (And.intro hone (And.intro hparts (And.intro hnames (And.intro hnone hnn))))))
  have HKIDS := Lib.hid hkids
  have HRK := Lib.hid hrk
  have HVK := Lib.hid hVK
  have hnn1 : nn ≤ 1000 := hrb.2.1
  obtain ⟨cf, hcf⟩ : ∃ cf, Fl.canon f = cf := ⟨_, rfl⟩
  have HBITS := Lib.hid (fun (wx : World) => refbits_is f cf hcf wx)
  have HCF := Lib.hid hcf
  have hlen : ((⟨s.toArray⟩ : ByteArray).size : Int) = (s.length : Int) := by simp [ByteArray.size]
  obtain ⟨sl, hsl'⟩ : ∃ sl, s.length = sl := ⟨_, rfl⟩
  have HSL := Lib.hid hsl'
  rw [hsl'] at hlen hsl
  unfold sv
  obtain ⟨kz, hkz⟩ : ∃ kz : Int, (k : Int) = kz := ⟨_, rfl⟩
  rw [hkz]
  have e0 : (kz == 0) = false := by simp; omega
  have n0 : (kz != 0) = true := by unfold bne; rw [e0]; rfl
  have e1 : (kz == 1) = false := by simp; omega
  have n1 : (kz != 1) = true := by unfold bne; rw [e1]; rfl
  have e2 : (kz == 2) = false := by simp; omega
  have n2 : (kz != 2) = true := by unfold bne; rw [e2]; rfl
  have e3 : (kz == 3) = false := by simp; omega
  have n3 : (kz != 3) = true := by unfold bne; rw [e3]; rfl
  have e4 : (kz == 4) = false := by simp; omega
  have n4 : (kz != 4) = true := by unfold bne; rw [e4]; rfl
  have e5 : (kz == 5) = true := by simp; omega
  have n5 : (kz != 5) = false := by unfold bne; rw [e5]; rfl
  have e6 : (kz == 6) = false := by simp; omega
  have n6 : (kz != 6) = true := by unfold bne; rw [e6]; rfl
  have e7 : (kz == 7) = false := by simp; omega
  have n7 : (kz != 7) = true := by unfold bne; rw [e7]; rfl
  have e8 : (kz == 8) = false := by simp; omega
  have n8 : (kz != 8) = true := by unfold bne; rw [e8]; rfl
  have k5 : decide (kz < 5) = false := by simp; omega
  obtain ⟨w1, hw1⟩ : ∃ w1, w1 = (w.alloc (.cells #[.int .i64 kz, .int .i64 m, .int .i64 (nn : Nat), .slice a' n c'] 49)).alloc (.cells #[.int .i64 N, .float .f64 f, .string ⟨s.toArray⟩, .slice va c cap] 42) := ⟨_, rfl⟩
  have f1 : Fr (fun _ => False) w w1 := by rw [hw1]; exact ((Fr.refl _ _).alloc _).alloc _
  have q1 : w1.heap[w.heap.size]? = some (.cells #[.int .i64 kz, .int .i64 m, .int .i64 (nn : Nat), .slice a' n c'] 49 (0, 0)) := by rw [hw1]; exact heap_alloc_first _ _ _
  have v1 : w1.heap[w.heap.size + 1]? = some (.cells #[.int .i64 N, .float .f64 f, .string ⟨s.toArray⟩, .slice va c cap] 42 (0, 0)) := by rw [hw1]; exact heap_alloc_two _ _ _
  clear hrs hvs hk0 hmost hone hparts hnames hnone hkids hrk hVK hcf hsl' hrb hown hnn hkz
  go_enter Try.func21, Try.ntmps21
  go_upto_region 1 with fail
  rw [← hw1]
  obtain ⟨vb, hvb⟩ : ∃ vb, w.heap.size + 1 = vb := ⟨_, rfl⟩
  rw [hvb] at v1 ⊢
  obtain ⟨tb, htb⟩ : ∃ tb, w.heap.size = tb := ⟨_, rfl⟩
  rw [htb] at q1 ⊢
  obtain ⟨c0, c1, c2, c3⟩ := cell_of_four q1
  obtain ⟨d0, d1, d2, d3⟩ := cell_of_four v1
  have H1 := Lib.hid (And.intro f1 (And.intro q1 v1))
  clear hw1 f1 q1 v1 hvb htb
  by_cases hc : cf ≠ 0
  · have HE : Hid (isE (.mk k m ns n of) (.mk N f s c ov) = false) := Lib.hid (by have hk := HK0.out.1; rw [isE, if_pos (.inl ⟨by omega, by rw [HCF.out]; exact hc⟩)])
    have z1 : ((cf : Int) == 0) = false := by simp; omega
    have z2 : ((cf : Int) != 0) = true := by unfold bne; rw [z1]; rfl
    clear hc
    go_wp2_with fail
    refine (HBITS.out _).mono ?_
    rintro er wb ⟨rfl, rfl⟩
    go_wp2
    go_ret
    rw [HE.out]
    exact ⟨rfl, H1.out.1⟩
  have z1 : ((cf : Int) == 0) = true := by simp; omega
  have z2 : ((cf : Int) != 0) = false := by unfold bne; rw [z1]; rfl
  have HOK1 := Lib.hid hc
  clear hc
  by_cases hc : s ≠ []
  · have HE : Hid (isE (.mk k m ns n of) (.mk N f s c ov) = false) := Lib.hid (by have hk := HK0.out.1; rw [isE, if_pos (.inr ⟨by omega, hc⟩)])
    obtain ⟨y1, y2, y3⟩ := text_empty s hc
    have y4 := hc
    clear hc
    go_wp2_with fail
    refine (HBITS.out _).mono ?_
    rintro er wb ⟨rfl, rfl⟩
    go_wp2
    go_ret
    rw [HE.out]
    exact ⟨rfl, H1.out.1⟩
  have y0 : s = [] := by simpa using hc
  have HOK2 := Lib.hid hc
  clear hc
  subst y0
  by_cases hc : N < 0
  · have HE : Hid (isE (.mk k m ns n of) (.mk N f [] c ov) = false) := Lib.hid (by have hk := HK0.out.1; have hlow : lowE k = 0 := (by unfold lowE; rw [if_neg (by omega)]); exact isE_range (.inl (by rw [hlow]; exact hc)))
    have l1 : N < 0 := hc
    clear hc
    go_wp2_with fail
    refine (HBITS.out _).mono ?_
    rintro er wb ⟨rfl, rfl⟩
    go_wp2
    go_ret
    rw [HE.out]
    exact ⟨rfl, H1.out.1⟩
  have l1 : ¬ N < 0 := hc
  have HOK3 := Lib.hid hc
  clear hc
  by_cases hc : 0 < N
  · have HE : Hid (isE (.mk k m ns n of) (.mk N f [] c ov) = false) := Lib.hid (by have hk := HK0.out.1; have hhigh : highE k ns.length n = 0 := (by unfold highE; rw [if_neg (by omega)]; rw [if_neg (by omega)]; rw [if_neg (by omega)]; rw [if_neg (by omega)]; rw [if_neg (by omega)]); exact isE_range (.inr (.inl (by rw [hhigh]; exact hc))))
    have h1 : 0 < N := hc
    clear hc
    go_wp2_with fail
    refine (HBITS.out _).mono ?_
    rintro er wb ⟨rfl, rfl⟩
    go_wp2
    go_ret
    rw [HE.out]
    exact ⟨rfl, H1.out.1⟩
  have h1 : ¬ 0 < N := hc
  have HOK4 := Lib.hid hc
  clear hc
  by_cases hc : m < (c : Int)
  · have HE : Hid (isE (.mk k m ns n of) (.mk N f [] c ov) = false) := Lib.hid (by have hk := HK0.out.1; exact isE_range (.inr (.inr (.inr ⟨hk, hc⟩))))
    have m1 : m < (c : Int) := hc
    clear hc
    go_wp2_with fail
    refine (HBITS.out _).mono ?_
    rintro er wb ⟨rfl, rfl⟩
    go_wp2
    go_ret
    rw [HE.out]
    exact ⟨rfl, H1.out.1⟩
  have m1 : ¬ m < (c : Int) := hc
  have HOK5 := Lib.hid hc
  clear hc
  have HE : Hid (isE (.mk k m ns n of) (.mk N f [] c ov) = (List.range c).all (fun i => isE (of (0)) (ov i))) := Lib.hid (by
    have hk := HK0.out.1
    have o1 := HOK1.out
    have o2 := HOK2.out
    have o3 := HOK3.out
    have o4 := HOK4.out
    have o5 := HOK5.out
    have hlow : lowE k = 0 := (by unfold lowE; rw [if_neg (by omega)])
    have hhigh : highE k ns.length n = 0 := (by unfold highE; rw [if_neg (by omega)]; rw [if_neg (by omega)]; rw [if_neg (by omega)]; rw [if_neg (by omega)]; rw [if_neg (by omega)])
    rw [isE, if_neg (by
      rintro (⟨h, h'⟩ | ⟨h, h'⟩)
      · exact HOK1.out (by rw [← HCF.out]; exact h')
      · exact h' rfl), if_neg (by omega), if_neg (by
      rw [hlow, hhigh]
      omega), if_neg (by omega)]
    congr 1; funext i; rw [if_neg (by omega), if_neg (by omega)])
  go_wp2_with fail
  refine (HBITS.out _).mono ?_
  rintro er wb ⟨rfl, rfl⟩
  go_wp2
  clear c0 c1 c2 c3 d0 d1 d2 d3
  go_loopg [7, 8] c (fun G u7 u8 wr => ∃ j : Nat, j ≤ c ∧ G = c - j ∧ u7 = .int .i64 j ∧ Hid (Fr (fun _ => False) w1 wr ∧ ∀ i, i < j → isE (of (0)) (ov i) = true))
  case atStart => exact ⟨0, Nat.zero_le _, rfl, by go_num, Lib.hid ⟨Fr.refl _ _, fun i hi => by omega⟩⟩
  case round =>
    obtain ⟨j, hj, rfl, rfl, HI⟩ := hrel
    have qr := box_kept H1.out.2.1 HI.out.1 (fun h => h)
    have vr := box_kept H1.out.2.2 HI.out.1 (fun h => h)
    obtain ⟨c0, c1, c2, c3⟩ := cell_of_four qr
    obtain ⟨d0, d1, d2, d3⟩ := cell_of_four vr
    have HQR := Lib.hid (And.intro qr vr)
    clear qr vr
    by_cases hlt : j < c
    · rcases HRK.out with hz | ⟨hcap, g, off, hg, rfl, hcell⟩
      · have := HK0.out.2.2.1 HK0.out.1; omega
      rcases HVK.out with hz | ⟨hvcap, gv, ov', hgv, rfl, hvcell⟩
      · omega
      obtain ⟨x0', x1, x2, x3, y0, y1, y2, y3, hx⟩ := hcell 0 (by have := HK0.out.2.2.1 HK0.out.1; omega)
      obtain ⟨s0, s1, s2, s3, r0, r1, r2, r3, hs⟩ := hvcell j hlt
      obtain ⟨ak, am, an, aa, ac, acap, ex⟩ := hx.lit
      simp only [Value.agg.injEq, Array.mk.injEq, List.cons.injEq, and_true] at ex
      obtain ⟨rfl, rfl, rfl, rfl⟩ := ex
      obtain ⟨zn, zf, zs, za, zc, zcap, es⟩ := hs.lit
      simp only [Value.agg.injEq, Array.mk.injEq, List.cons.injEq, and_true] at es
      obtain ⟨rfl, rfl, rfl, rfl⟩ := es
      simp only [Nat.zero_mul, Nat.add_zero] at y0 y1 y2 y3
      have HY := Lib.hid (And.intro hg (And.intro y0 (And.intro y1 (And.intro y2 y3))))
      have HR := Lib.hid (And.intro hgv (And.intro r0 (And.intro r1 (And.intro r2 r3))))
      have HX := Lib.hid (And.intro hx hs)
      have HLT := Lib.hid hlt
      have jc : (j : Int) < (c : Int) := by omega
      have n0 : 0 < n := by have := HK0.out.2.2.1 HK0.out.1; omega
      clear hcell hvcell hx hs y0 y1 y2 y3 r0 r1 r2 r3
      go_upto_region 29 with fail
      clear c0 c1 c2 c3 d0 d1 d2 d3
      obtain ⟨BB, hBB⟩ : ∃ BB, isE (of 0) (ov j) = BB := ⟨_, rfl⟩
      have HBB := Lib.hid hBB
      clear hBB
      refine wp_region_chain (by kernel_rfl) [some 137, some 138, some 139, some 140, some 141, some 142, some 143, some 144, some 145, some 146, some 147, some 148] rfl (by decide) (by intro d hd; simp at hd ⊢; omega)
        [10] (fun _ wx => Fr (fun _ => False) wr wx)
        [.free (.pointer (some ⟨tb, 3, none⟩)), .free (.slice (some ⟨g, off, none⟩) n c'), .free (.int .i64 0), .free (.pointer (some ⟨g, off, none⟩)), .free (.agg #[.int .i64 ak, .int .i64 am, .int .i64 an, .slice aa ac acap]),
         .free (.pointer (some ⟨vb, 3, none⟩)), .free (.slice (some ⟨gv, ov', none⟩) c cap), .free (.int .i64 j), .free (.pointer (some ⟨gv, ov' + j * 4, none⟩)), .free (.agg #[.int .i64 zn, .float .f64 zf, .string zs, .slice za zc zcap]), .link (some (.bool BB)), .free (.bool (!BB))]
        (by kernel_rfl) (by kernel_rfl) ?h0 ?step ?fin
      case h0 => exact (Fr.refl _ _).drew
      case step =>
        intro vals2
        simp only [frOfU, fillU, List.setIfInBounds_toArray, List.set_cons_succ, List.set_cons_zero]
        repeat' (first | exact AllOps.nil | refine AllOps.cons ?_ ?_)
        all_goals
          intro cvs wx hS he hu hlim K hK
          simp only [Act.put, List.setIfInBounds_toArray, List.set_cons_succ, List.set_cons_zero, List.getD_cons_zero, List.getD_cons_succ] at hK
          simp only [List.mem_cons, List.not_mem_nil, or_false, forall_eq_or_imp, forall_eq, Region.binds, forall_const, vmode_gc, Bool.false_eq_true, false_imp_iff, List.getD_cons_zero, List.getD_cons_succ, OpSort.val, Option.some.injEq, forall_eq', reduceCtorEq, implies_true, true_and, and_true] at he
          have HSX := Lib.hid hS
          clear hS hlim hu
        all_goals first | ((try simp only [he] at hK ⊢); go_simp; exact hK) | skip
        · have l3 := cells_row (box_kept HQR.out.1 HSX.out (fun h => h)) 3 _ rfl
          simp only [he] at hK ⊢
          go_simp
          exact hK
        · have e0 := cell_fr HSX.out (fun _ _ h => h) HY.out.1 (cell_fr (H1.out.1.trans HI.out.1 (fun _ _ h => h)) (fun _ _ h => h) HY.out.1 HY.out.2.1)
          have e1 := cell_fr HSX.out (fun _ _ h => h) HY.out.1 (cell_fr (H1.out.1.trans HI.out.1 (fun _ _ h => h)) (fun _ _ h => h) HY.out.1 HY.out.2.2.1)
          have e2 := cell_fr HSX.out (fun _ _ h => h) HY.out.1 (cell_fr (H1.out.1.trans HI.out.1 (fun _ _ h => h)) (fun _ _ h => h) HY.out.1 HY.out.2.2.2.1)
          have e3 := cell_fr HSX.out (fun _ _ h => h) HY.out.1 (cell_fr (H1.out.1.trans HI.out.1 (fun _ _ h => h)) (fun _ _ h => h) HY.out.1 HY.out.2.2.2.2)
          simp only [he] at hK ⊢
          go_simp
          exact hK
        · have l3 := cells_row (box_kept HQR.out.2 HSX.out (fun h => h)) 3 _ rfl
          simp only [he] at hK ⊢
          go_simp
          exact hK
        · have e0 := cell_fr HSX.out (fun _ _ h => h) HR.out.1 (cell_fr (H1.out.1.trans HI.out.1 (fun _ _ h => h)) (fun _ _ h => h) HR.out.1 HR.out.2.1)
          have e1 := cell_fr HSX.out (fun _ _ h => h) HR.out.1 (cell_fr (H1.out.1.trans HI.out.1 (fun _ _ h => h)) (fun _ _ h => h) HR.out.1 HR.out.2.2.1)
          have e2 := cell_fr HSX.out (fun _ _ h => h) HR.out.1 (cell_fr (H1.out.1.trans HI.out.1 (fun _ _ h => h)) (fun _ _ h => h) HR.out.1 HR.out.2.2.2.1)
          have e3 := cell_fr HSX.out (fun _ _ h => h) HR.out.1 (cell_fr (H1.out.1.trans HI.out.1 (fun _ _ h => h)) (fun _ _ h => h) HR.out.1 HR.out.2.2.2.2)
          simp only [he] at hK ⊢
          go_simp
          exact hK
        · simp only [he] at hK ⊢
          go_simp
          go_at_call 21
          have f0 := (H1.out.1.trans HI.out.1 (fun _ _ h => h)).trans HSX.out (fun _ _ h => h)
          refine (ih 0 R _ _ wx (ov j) (HKIDS.out 0 (by have := HK0.out.2.2.1 HK0.out.1; omega)) (RShows.fr f0 (fun _ _ h => h) _ _ HX.out.1) (VShows.fr f0 (fun _ _ h => h) _ _ HX.out.2)).mono ?_
          rintro er wa ⟨rfl, fa⟩
          exact hK _ _ (fun _ h => by cases h; rw [HBB.out]) (HSX.out.trans fa (fun _ _ h => h))
      case fin =>
        intro vals2 w7 hS hV
        have v11 := hV 11 _ (by decide) rfl
        clear hV
        have H7 := Lib.hid (HI.out.1.trans hS (fun _ _ h => h))
        clear hS
        simp only [frOfU, fillU, List.setIfInBounds_toArray, List.set_cons_succ, List.set_cons_zero]
        simp only [Nat.reduceAdd, v11]
        clear v11
        cases BB with
        | true =>
          go_wp2
          go_roundg (c - (j + 1))
          case measure => have := HLT.out; omega
          case rel => exact ⟨j + 1, HLT.out, rfl, by go_num, Lib.hid ⟨H7.out, fun i hi => by
            by_cases h : i < j
            · exact HI.out.2 i h
            · obtain rfl : i = j := by omega
              exact HBB.out⟩⟩
        | false =>
          have EF : Hid ((List.range c).all (fun i => isE (of (0)) (ov i)) = false) := Lib.hid (by
            rw [List.all_eq_false]
            exact ⟨j, List.mem_range.2 HLT.out, by simp [HBB.out]⟩)
          go_wp2
          go_ret
          rw [HE.out, EF.out]
          exact ⟨rfl, H1.out.1.trans H7.out (fun _ _ h => h)⟩
    · obtain rfl : j = c := by omega
      have ET : Hid ((List.range j).all (fun i => isE (of (0)) (ov i)) = true) := Lib.hid (by
        rw [List.all_eq_true]
        exact fun i hi => HI.out.2 i (List.mem_range.1 hi))
      go_wp2
      go_ret
      rw [HE.out, ET.out]
      exact ⟨rfl, H1.out.1.trans HI.out.1 (fun _ _ h => h)⟩

set_option maxRecDepth 100000 in
set_option maxHeartbeats 32000000 in
theorem is_k6 (k : Nat) (m : Int) (ns : List Txt) (n : Nat) (of : Nat → KT) (ih : ∀ i, IsAt (of i)) (hk0 : k = 6) : IsAt (.mk k m ns n of) := by
  intro R v vv w T hgood hrs hvs
  obtain ⟨⟨hn12, hown⟩, hkids⟩ := hgood
  obtain ⟨hk8, hmost, hone, hparts, hnames, hnone⟩ := own_facts hown
  obtain ⟨_, _, _, _, _, a', c', e1, rfl, hrb, hrk⟩ := rshows_open hrs
  cases e1
  obtain ⟨N, f, s, c, ov, va, cap, rfl, rfl, hVB, hVK⟩ := vshows_open hvs
  obtain ⟨hN0, hN1, hf64, hsl, hc5⟩ := hVB
  obtain ⟨nn, hnn⟩ : ∃ nn, ns.length = nn := ⟨_, rfl⟩
  rw [hnn] at hrb ⊢
  have HK0 := Lib.hid (And.intro hk0 (And.intro hmost (And.intro hone (And.intro hparts (And.intro hnames (And.intro hnone hnn))))))
  have HKIDS := Lib.hid hkids
  have HRK := Lib.hid hrk
  have HVK := Lib.hid hVK
  have hnn1 : nn ≤ 1000 := hrb.2.1
  obtain ⟨cf, hcf⟩ : ∃ cf, Fl.canon f = cf := ⟨_, rfl⟩
  have HBITS := Lib.hid (fun (wx : World) => refbits_is f cf hcf wx)
  have HCF := Lib.hid hcf
  have hlen : ((⟨s.toArray⟩ : ByteArray).size : Int) = (s.length : Int) := by simp [ByteArray.size]
  obtain ⟨sl, hsl'⟩ : ∃ sl, s.length = sl := ⟨_, rfl⟩
  have HSL := Lib.hid hsl'
  rw [hsl'] at hlen hsl
  unfold sv
  obtain ⟨kz, hkz⟩ : ∃ kz : Int, (k : Int) = kz := ⟨_, rfl⟩
  rw [hkz]
  have e0 : (kz == 0) = false := by simp; omega
  have n0 : (kz != 0) = true := by unfold bne; rw [e0]; rfl
  have e1 : (kz == 1) = false := by simp; omega
  have n1 : (kz != 1) = true := by unfold bne; rw [e1]; rfl
  have e2 : (kz == 2) = false := by simp; omega
  have n2 : (kz != 2) = true := by unfold bne; rw [e2]; rfl
  have e3 : (kz == 3) = false := by simp; omega
  have n3 : (kz != 3) = true := by unfold bne; rw [e3]; rfl
  have e4 : (kz == 4) = false := by simp; omega
  have n4 : (kz != 4) = true := by unfold bne; rw [e4]; rfl
  have e5 : (kz == 5) = false := by simp; omega
  have n5 : (kz != 5) = true := by unfold bne; rw [e5]; rfl
  have e6 : (kz == 6) = true := by simp; omega
  have n6 : (kz != 6) = false := by unfold bne; rw [e6]; rfl
  have e7 : (kz == 7) = false := by simp; omega
  have n7 : (kz != 7) = true := by unfold bne; rw [e7]; rfl
  have e8 : (kz == 8) = false := by simp; omega
  have n8 : (kz != 8) = true := by unfold bne; rw [e8]; rfl
  have k5 : decide (kz < 5) = false := by simp; omega
  obtain ⟨w1, hw1⟩ : ∃ w1, w1 = (w.alloc (.cells #[.int .i64 kz, .int .i64 m, .int .i64 (nn : Nat), .slice a' n c'] 49)).alloc (.cells #[.int .i64 N, .float .f64 f, .string ⟨s.toArray⟩, .slice va c cap] 42) := ⟨_, rfl⟩
  have f1 : Fr (fun _ => False) w w1 := by rw [hw1]; exact ((Fr.refl _ _).alloc _).alloc _
  have q1 : w1.heap[w.heap.size]? = some (.cells #[.int .i64 kz, .int .i64 m, .int .i64 (nn : Nat), .slice a' n c'] 49 (0, 0)) := by rw [hw1]; exact heap_alloc_first _ _ _
  have v1 : w1.heap[w.heap.size + 1]? = some (.cells #[.int .i64 N, .float .f64 f, .string ⟨s.toArray⟩, .slice va c cap] 42 (0, 0)) := by rw [hw1]; exact heap_alloc_two _ _ _
  clear hrs hvs hk0 hmost hone hparts hnames hnone hkids hrk hVK hcf hsl' hrb hown hnn hkz
  go_enter Try.func21, Try.ntmps21
  go_upto_region 1 with fail
  rw [← hw1]
  obtain ⟨vb, hvb⟩ : ∃ vb, w.heap.size + 1 = vb := ⟨_, rfl⟩
  rw [hvb] at v1 ⊢
  obtain ⟨tb, htb⟩ : ∃ tb, w.heap.size = tb := ⟨_, rfl⟩
  rw [htb] at q1 ⊢
  obtain ⟨c0, c1, c2, c3⟩ := cell_of_four q1
  obtain ⟨d0, d1, d2, d3⟩ := cell_of_four v1
  have H1 := Lib.hid (And.intro f1 (And.intro q1 v1))
  clear hw1 f1 q1 v1 hvb htb
  by_cases hc : cf ≠ 0
  · have HE : Hid (isE (.mk k m ns n of) (.mk N f s c ov) = false) := Lib.hid (by have hk := HK0.out.1; rw [isE, if_pos (.inl ⟨by omega, by rw [HCF.out]; exact hc⟩)])
    have z1 : ((cf : Int) == 0) = false := by simp; omega
    have z2 : ((cf : Int) != 0) = true := by unfold bne; rw [z1]; rfl
    clear hc
    go_wp2_with fail
    refine (HBITS.out _).mono ?_
    rintro er wb ⟨rfl, rfl⟩
    go_wp2
    go_ret
    rw [HE.out]
    exact ⟨rfl, H1.out.1⟩
  have z1 : ((cf : Int) == 0) = true := by simp; omega
  have z2 : ((cf : Int) != 0) = false := by unfold bne; rw [z1]; rfl
  have HOK1 := Lib.hid hc
  clear hc
  by_cases hc : s ≠ []
  · have HE : Hid (isE (.mk k m ns n of) (.mk N f s c ov) = false) := Lib.hid (by have hk := HK0.out.1; rw [isE, if_pos (.inr ⟨by omega, hc⟩)])
    obtain ⟨y1, y2, y3⟩ := text_empty s hc
    have y4 := hc
    clear hc
    go_wp2_with fail
    refine (HBITS.out _).mono ?_
    rintro er wb ⟨rfl, rfl⟩
    go_wp2
    go_ret
    rw [HE.out]
    exact ⟨rfl, H1.out.1⟩
  have y0 : s = [] := by simpa using hc
  have HOK2 := Lib.hid hc
  clear hc
  subst y0
  by_cases hc : N < 0
  · have HE : Hid (isE (.mk k m ns n of) (.mk N f [] c ov) = false) := Lib.hid (by have hk := HK0.out.1; have hlow : lowE k = 0 := (by unfold lowE; rw [if_neg (by omega)]); exact isE_range (.inl (by rw [hlow]; exact hc)))
    have l1 : N < 0 := hc
    clear hc
    go_wp2_with fail
    refine (HBITS.out _).mono ?_
    rintro er wb ⟨rfl, rfl⟩
    go_wp2
    go_ret
    rw [HE.out]
    exact ⟨rfl, H1.out.1⟩
  have l1 : ¬ N < 0 := hc
  have HOK3 := Lib.hid hc
  clear hc
  by_cases hc : 0 < N
  · have HE : Hid (isE (.mk k m ns n of) (.mk N f [] c ov) = false) := Lib.hid (by have hk := HK0.out.1; have hhigh : highE k ns.length n = 0 := (by unfold highE; rw [if_neg (by omega)]; rw [if_neg (by omega)]; rw [if_neg (by omega)]; rw [if_neg (by omega)]; rw [if_neg (by omega)]); exact isE_range (.inr (.inl (by rw [hhigh]; exact hc))))
    have h1 : 0 < N := hc
    clear hc
    go_wp2_with fail
    refine (HBITS.out _).mono ?_
    rintro er wb ⟨rfl, rfl⟩
    go_wp2
    go_ret
    rw [HE.out]
    exact ⟨rfl, H1.out.1⟩
  have h1 : ¬ 0 < N := hc
  have HOK4 := Lib.hid hc
  clear hc
  by_cases hc : c ≠ n
  · have HE : Hid (isE (.mk k m ns n of) (.mk N f [] c ov) = false) := Lib.hid (by have hk := HK0.out.1; exact isE_count (.inl ⟨hk, hc⟩))
    have m1 : ((c : Int) == (n : Int)) = false := by simp; omega
    have m2 : ((c : Int) != (n : Int)) = true := by unfold bne; rw [m1]; rfl
    clear hc
    go_wp2_with fail
    refine (HBITS.out _).mono ?_
    rintro er wb ⟨rfl, rfl⟩
    go_wp2
    go_ret
    rw [HE.out]
    exact ⟨rfl, H1.out.1⟩
  have m1 : ((c : Int) == (n : Int)) = true := by simp; omega
  have m2 : ((c : Int) != (n : Int)) = false := by unfold bne; rw [m1]; rfl
  have HOK5 := Lib.hid hc
  clear hc
  have HE : Hid (isE (.mk k m ns n of) (.mk N f [] c ov) = (List.range c).all (fun i => isE (of (i)) (ov i))) := Lib.hid (by
    have hk := HK0.out.1
    have o1 := HOK1.out
    have o2 := HOK2.out
    have o3 := HOK3.out
    have o4 := HOK4.out
    have o5 := HOK5.out
    have hlow : lowE k = 0 := (by unfold lowE; rw [if_neg (by omega)])
    have hhigh : highE k ns.length n = 0 := (by unfold highE; rw [if_neg (by omega)]; rw [if_neg (by omega)]; rw [if_neg (by omega)]; rw [if_neg (by omega)]; rw [if_neg (by omega)])
    rw [isE, if_neg (by
      rintro (⟨h, h'⟩ | ⟨h, h'⟩)
      · exact HOK1.out (by rw [← HCF.out]; exact h')
      · exact h' rfl), if_neg (by omega), if_neg (by
      rw [hlow, hhigh]
      omega), if_neg (by omega)]
    congr 1; funext i; rw [if_pos hk])
  go_wp2_with fail
  refine (HBITS.out _).mono ?_
  rintro er wb ⟨rfl, rfl⟩
  go_wp2
  clear c0 c1 c2 c3 d0 d1 d2 d3
  go_loopg [7, 8] c (fun G u7 u8 wr => ∃ j : Nat, j ≤ c ∧ G = c - j ∧ u7 = .int .i64 j ∧ Hid (Fr (fun _ => False) w1 wr ∧ ∀ i, i < j → isE (of (i)) (ov i) = true))
  case atStart => exact ⟨0, Nat.zero_le _, rfl, by go_num, Lib.hid ⟨Fr.refl _ _, fun i hi => by omega⟩⟩
  case round =>
    obtain ⟨j, hj, rfl, rfl, HI⟩ := hrel
    have qr := box_kept H1.out.2.1 HI.out.1 (fun h => h)
    have vr := box_kept H1.out.2.2 HI.out.1 (fun h => h)
    obtain ⟨c0, c1, c2, c3⟩ := cell_of_four qr
    obtain ⟨d0, d1, d2, d3⟩ := cell_of_four vr
    have HQR := Lib.hid (And.intro qr vr)
    clear qr vr
    by_cases hlt : j < c
    · rcases HRK.out with hz | ⟨hcap, g, off, hg, rfl, hcell⟩
      · have := HOK5.out; omega
      rcases HVK.out with hz | ⟨hvcap, gv, ov', hgv, rfl, hvcell⟩
      · omega
      obtain ⟨x0', x1, x2, x3, y0, y1, y2, y3, hx⟩ := hcell j (by have := HOK5.out; omega)
      obtain ⟨s0, s1, s2, s3, r0, r1, r2, r3, hs⟩ := hvcell j hlt
      obtain ⟨ak, am, an, aa, ac, acap, ex⟩ := hx.lit
      simp only [Value.agg.injEq, Array.mk.injEq, List.cons.injEq, and_true] at ex
      obtain ⟨rfl, rfl, rfl, rfl⟩ := ex
      obtain ⟨zn, zf, zs, za, zc, zcap, es⟩ := hs.lit
      simp only [Value.agg.injEq, Array.mk.injEq, List.cons.injEq, and_true] at es
      obtain ⟨rfl, rfl, rfl, rfl⟩ := es
      skip
      have HY := Lib.hid (And.intro hg (And.intro y0 (And.intro y1 (And.intro y2 y3))))
      have HR := Lib.hid (And.intro hgv (And.intro r0 (And.intro r1 (And.intro r2 r3))))
      have HX := Lib.hid (And.intro hx hs)
      have HLT := Lib.hid hlt
      have jc : (j : Int) < (c : Int) := by omega
      have jn : (j : Int) < (n : Int) := by have := HOK5.out; omega
      clear hcell hvcell hx hs y0 y1 y2 y3 r0 r1 r2 r3
      go_upto_region 29 with fail
      clear c0 c1 c2 c3 d0 d1 d2 d3
      obtain ⟨BB, hBB⟩ : ∃ BB, isE (of j) (ov j) = BB := ⟨_, rfl⟩
      have HBB := Lib.hid hBB
      clear hBB
      refine wp_region_chain (by kernel_rfl) [some 137, some 138, some 139, some 140, some 141, some 142, some 143, some 144, some 145, some 146, some 147, some 148] rfl (by decide) (by intro d hd; simp at hd ⊢; omega)
        [10] (fun _ wx => Fr (fun _ => False) wr wx)
        [.free (.pointer (some ⟨tb, 3, none⟩)), .free (.slice (some ⟨g, off, none⟩) n c'), .free (.int .i64 j), .free (.pointer (some ⟨g, off + j * 4, none⟩)), .free (.agg #[.int .i64 ak, .int .i64 am, .int .i64 an, .slice aa ac acap]),
         .free (.pointer (some ⟨vb, 3, none⟩)), .free (.slice (some ⟨gv, ov', none⟩) c cap), .free (.int .i64 j), .free (.pointer (some ⟨gv, ov' + j * 4, none⟩)), .free (.agg #[.int .i64 zn, .float .f64 zf, .string zs, .slice za zc zcap]), .link (some (.bool BB)), .free (.bool (!BB))]
        (by kernel_rfl) (by kernel_rfl) ?h0 ?step ?fin
      case h0 => exact (Fr.refl _ _).drew
      case step =>
        intro vals2
        simp only [frOfU, fillU, List.setIfInBounds_toArray, List.set_cons_succ, List.set_cons_zero]
        repeat' (first | exact AllOps.nil | refine AllOps.cons ?_ ?_)
        all_goals
          intro cvs wx hS he hu hlim K hK
          simp only [Act.put, List.setIfInBounds_toArray, List.set_cons_succ, List.set_cons_zero, List.getD_cons_zero, List.getD_cons_succ] at hK
          simp only [List.mem_cons, List.not_mem_nil, or_false, forall_eq_or_imp, forall_eq, Region.binds, forall_const, vmode_gc, Bool.false_eq_true, false_imp_iff, List.getD_cons_zero, List.getD_cons_succ, OpSort.val, Option.some.injEq, forall_eq', reduceCtorEq, implies_true, true_and, and_true] at he
          have HSX := Lib.hid hS
          clear hS hlim hu
        all_goals first | ((try simp only [he] at hK ⊢); go_simp; exact hK) | skip
        · have l3 := cells_row (box_kept HQR.out.1 HSX.out (fun h => h)) 3 _ rfl
          simp only [he] at hK ⊢
          go_simp
          exact hK
        · have e0 := cell_fr HSX.out (fun _ _ h => h) HY.out.1 (cell_fr (H1.out.1.trans HI.out.1 (fun _ _ h => h)) (fun _ _ h => h) HY.out.1 HY.out.2.1)
          have e1 := cell_fr HSX.out (fun _ _ h => h) HY.out.1 (cell_fr (H1.out.1.trans HI.out.1 (fun _ _ h => h)) (fun _ _ h => h) HY.out.1 HY.out.2.2.1)
          have e2 := cell_fr HSX.out (fun _ _ h => h) HY.out.1 (cell_fr (H1.out.1.trans HI.out.1 (fun _ _ h => h)) (fun _ _ h => h) HY.out.1 HY.out.2.2.2.1)
          have e3 := cell_fr HSX.out (fun _ _ h => h) HY.out.1 (cell_fr (H1.out.1.trans HI.out.1 (fun _ _ h => h)) (fun _ _ h => h) HY.out.1 HY.out.2.2.2.2)
          simp only [he] at hK ⊢
          go_simp
          exact hK
        · have l3 := cells_row (box_kept HQR.out.2 HSX.out (fun h => h)) 3 _ rfl
          simp only [he] at hK ⊢
          go_simp
          exact hK
        · have e0 := cell_fr HSX.out (fun _ _ h => h) HR.out.1 (cell_fr (H1.out.1.trans HI.out.1 (fun _ _ h => h)) (fun _ _ h => h) HR.out.1 HR.out.2.1)
          have e1 := cell_fr HSX.out (fun _ _ h => h) HR.out.1 (cell_fr (H1.out.1.trans HI.out.1 (fun _ _ h => h)) (fun _ _ h => h) HR.out.1 HR.out.2.2.1)
          have e2 := cell_fr HSX.out (fun _ _ h => h) HR.out.1 (cell_fr (H1.out.1.trans HI.out.1 (fun _ _ h => h)) (fun _ _ h => h) HR.out.1 HR.out.2.2.2.1)
          have e3 := cell_fr HSX.out (fun _ _ h => h) HR.out.1 (cell_fr (H1.out.1.trans HI.out.1 (fun _ _ h => h)) (fun _ _ h => h) HR.out.1 HR.out.2.2.2.2)
          simp only [he] at hK ⊢
          go_simp
          exact hK
        · simp only [he] at hK ⊢
          go_simp
          go_at_call 21
          have f0 := (H1.out.1.trans HI.out.1 (fun _ _ h => h)).trans HSX.out (fun _ _ h => h)
          refine (ih j R _ _ wx (ov j) (HKIDS.out j (by have := HOK5.out; omega)) (RShows.fr f0 (fun _ _ h => h) _ _ HX.out.1) (VShows.fr f0 (fun _ _ h => h) _ _ HX.out.2)).mono ?_
          rintro er wa ⟨rfl, fa⟩
          exact hK _ _ (fun _ h => by cases h; rw [HBB.out]) (HSX.out.trans fa (fun _ _ h => h))
      case fin =>
        intro vals2 w7 hS hV
        have v11 := hV 11 _ (by decide) rfl
        clear hV
        have H7 := Lib.hid (HI.out.1.trans hS (fun _ _ h => h))
        clear hS
        simp only [frOfU, fillU, List.setIfInBounds_toArray, List.set_cons_succ, List.set_cons_zero]
        simp only [Nat.reduceAdd, v11]
        clear v11
        cases BB with
        | true =>
          go_wp2
          go_roundg (c - (j + 1))
          case measure => have := HLT.out; omega
          case rel => exact ⟨j + 1, HLT.out, rfl, by go_num, Lib.hid ⟨H7.out, fun i hi => by
            by_cases h : i < j
            · exact HI.out.2 i h
            · obtain rfl : i = j := by omega
              exact HBB.out⟩⟩
        | false =>
          have EF : Hid ((List.range c).all (fun i => isE (of (i)) (ov i)) = false) := Lib.hid (by
            rw [List.all_eq_false]
            exact ⟨j, List.mem_range.2 HLT.out, by simp [HBB.out]⟩)
          go_wp2
          go_ret
          rw [HE.out, EF.out]
          exact ⟨rfl, H1.out.1.trans H7.out (fun _ _ h => h)⟩
    · obtain rfl : j = c := by omega
      have ET : Hid ((List.range j).all (fun i => isE (of (i)) (ov i)) = true) := Lib.hid (by
        rw [List.all_eq_true]
        exact fun i hi => HI.out.2 i (List.mem_range.1 hi))
      go_wp2
      go_ret
      rw [HE.out, ET.out]
      exact ⟨rfl, H1.out.1.trans HI.out.1 (fun _ _ h => h)⟩

set_option maxRecDepth 100000 in
set_option maxHeartbeats 32000000 in
theorem is_k7 (k : Nat) (m : Int) (ns : List Txt) (n : Nat) (of : Nat → KT) (ih : ∀ i, IsAt (of i)) (hk0 : k = 7) : IsAt (.mk k m ns n of) := by
  intro R v vv w T hgood hrs hvs
  obtain ⟨⟨hn12, hown⟩, hkids⟩ := hgood
  obtain ⟨hk8, hmost, hone, hparts, hnames, hnone⟩ := own_facts hown
  obtain ⟨_, _, _, _, _, a', c', e1, rfl, hrb, hrk⟩ := rshows_open hrs
  cases e1
  obtain ⟨N, f, s, c, ov, va, cap, rfl, rfl, hVB, hVK⟩ := vshows_open hvs
  obtain ⟨hN0, hN1, hf64, hsl, hc5⟩ := hVB
  obtain ⟨nn, hnn⟩ : ∃ nn, ns.length = nn := ⟨_, rfl⟩
  rw [hnn] at hrb ⊢
  have HK0 := Lib.hid (And.intro hk0 (And.intro hmost (And.intro hone (And.intro hparts (And.intro hnames (And.intro hnone hnn))))))
  have HKIDS := Lib.hid hkids
  have HRK := Lib.hid hrk
  have HVK := Lib.hid hVK
  have hnn1 : nn ≤ 1000 := hrb.2.1
  obtain ⟨cf, hcf⟩ : ∃ cf, Fl.canon f = cf := ⟨_, rfl⟩
  have HBITS := Lib.hid (fun (wx : World) => refbits_is f cf hcf wx)
  have HCF := Lib.hid hcf
  have hlen : ((⟨s.toArray⟩ : ByteArray).size : Int) = (s.length : Int) := by simp [ByteArray.size]
  obtain ⟨sl, hsl'⟩ : ∃ sl, s.length = sl := ⟨_, rfl⟩
  have HSL := Lib.hid hsl'
  rw [hsl'] at hlen hsl
  unfold sv
  obtain ⟨kz, hkz⟩ : ∃ kz : Int, (k : Int) = kz := ⟨_, rfl⟩
  rw [hkz]
  have e0 : (kz == 0) = false := by simp; omega
  have n0 : (kz != 0) = true := by unfold bne; rw [e0]; rfl
  have e1 : (kz == 1) = false := by simp; omega
  have n1 : (kz != 1) = true := by unfold bne; rw [e1]; rfl
  have e2 : (kz == 2) = false := by simp; omega
  have n2 : (kz != 2) = true := by unfold bne; rw [e2]; rfl
  have e3 : (kz == 3) = false := by simp; omega
  have n3 : (kz != 3) = true := by unfold bne; rw [e3]; rfl
  have e4 : (kz == 4) = false := by simp; omega
  have n4 : (kz != 4) = true := by unfold bne; rw [e4]; rfl
  have e5 : (kz == 5) = false := by simp; omega
  have n5 : (kz != 5) = true := by unfold bne; rw [e5]; rfl
  have e6 : (kz == 6) = false := by simp; omega
  have n6 : (kz != 6) = true := by unfold bne; rw [e6]; rfl
  have e7 : (kz == 7) = true := by simp; omega
  have n7 : (kz != 7) = false := by unfold bne; rw [e7]; rfl
  have e8 : (kz == 8) = false := by simp; omega
  have n8 : (kz != 8) = true := by unfold bne; rw [e8]; rfl
  have k5 : decide (kz < 5) = false := by simp; omega
  obtain ⟨w1, hw1⟩ : ∃ w1, w1 = (w.alloc (.cells #[.int .i64 kz, .int .i64 m, .int .i64 (nn : Nat), .slice a' n c'] 49)).alloc (.cells #[.int .i64 N, .float .f64 f, .string ⟨s.toArray⟩, .slice va c cap] 42) := ⟨_, rfl⟩
  have f1 : Fr (fun _ => False) w w1 := by rw [hw1]; exact ((Fr.refl _ _).alloc _).alloc _
  have q1 : w1.heap[w.heap.size]? = some (.cells #[.int .i64 kz, .int .i64 m, .int .i64 (nn : Nat), .slice a' n c'] 49 (0, 0)) := by rw [hw1]; exact heap_alloc_first _ _ _
  have v1 : w1.heap[w.heap.size + 1]? = some (.cells #[.int .i64 N, .float .f64 f, .string ⟨s.toArray⟩, .slice va c cap] 42 (0, 0)) := by rw [hw1]; exact heap_alloc_two _ _ _
  clear hrs hvs hk0 hmost hone hparts hnames hnone hkids hrk hVK hcf hsl' hrb hown hnn hkz
  go_enter Try.func21, Try.ntmps21
  go_upto_region 1 with fail
  rw [← hw1]
  obtain ⟨vb, hvb⟩ : ∃ vb, w.heap.size + 1 = vb := ⟨_, rfl⟩
  rw [hvb] at v1 ⊢
  obtain ⟨tb, htb⟩ : ∃ tb, w.heap.size = tb := ⟨_, rfl⟩
  rw [htb] at q1 ⊢
  obtain ⟨c0, c1, c2, c3⟩ := cell_of_four q1
  obtain ⟨d0, d1, d2, d3⟩ := cell_of_four v1
  have H1 := Lib.hid (And.intro f1 (And.intro q1 v1))
  clear hw1 f1 q1 v1 hvb htb
  by_cases hc : cf ≠ 0
  · have HE : Hid (isE (.mk k m ns n of) (.mk N f s c ov) = false) := Lib.hid (by have hk := HK0.out.1; rw [isE, if_pos (.inl ⟨by omega, by rw [HCF.out]; exact hc⟩)])
    have z1 : ((cf : Int) == 0) = false := by simp; omega
    have z2 : ((cf : Int) != 0) = true := by unfold bne; rw [z1]; rfl
    clear hc
    go_wp2_with fail
    refine (HBITS.out _).mono ?_
    rintro er wb ⟨rfl, rfl⟩
    go_wp2
    go_ret
    rw [HE.out]
    exact ⟨rfl, H1.out.1⟩
  have z1 : ((cf : Int) == 0) = true := by simp; omega
  have z2 : ((cf : Int) != 0) = false := by unfold bne; rw [z1]; rfl
  have HOK1 := Lib.hid hc
  clear hc
  by_cases hc : s ≠ []
  · have HE : Hid (isE (.mk k m ns n of) (.mk N f s c ov) = false) := Lib.hid (by have hk := HK0.out.1; rw [isE, if_pos (.inr ⟨by omega, hc⟩)])
    obtain ⟨y1, y2, y3⟩ := text_empty s hc
    have y4 := hc
    clear hc
    go_wp2_with fail
    refine (HBITS.out _).mono ?_
    rintro er wb ⟨rfl, rfl⟩
    go_wp2
    go_ret
    rw [HE.out]
    exact ⟨rfl, H1.out.1⟩
  have y0 : s = [] := by simpa using hc
  have HOK2 := Lib.hid hc
  clear hc
  subst y0
  by_cases hc : 0 < c
  · have HE : Hid (isE (.mk k m ns n of) (.mk N f [] c ov) = false) := Lib.hid (by have hk := HK0.out.1; exact isE_has ⟨by omega, hc⟩)
    have x1 : (0 : Int) < (c : Int) := by omega
    clear hc
    go_wp2_with fail
    refine (HBITS.out _).mono ?_
    rintro er wb ⟨rfl, rfl⟩
    go_wp2
    go_ret
    rw [HE.out]
    exact ⟨rfl, H1.out.1⟩
  have x1 : ¬ (0 : Int) < (c : Int) := by omega
  have HOK3 := Lib.hid hc
  clear hc
  by_cases hc : N < 0
  · have HE : Hid (isE (.mk k m ns n of) (.mk N f [] c ov) = false) := Lib.hid (by have hk := HK0.out.1; have hlow : lowE k = 0 := (by unfold lowE; rw [if_neg (by omega)]); exact isE_range (.inl (by rw [hlow]; exact hc)))
    have l1 : N < 0 := hc
    clear hc
    go_wp2_with fail
    refine (HBITS.out _).mono ?_
    rintro er wb ⟨rfl, rfl⟩
    go_wp2
    go_ret
    rw [HE.out]
    exact ⟨rfl, H1.out.1⟩
  have l1 : ¬ N < 0 := hc
  have HOK4 := Lib.hid hc
  clear hc
  by_cases hc : ((nn : Int) - 1) < N
  · have HE : Hid (isE (.mk k m ns n of) (.mk N f [] c ov) = false) := Lib.hid (by have hk := HK0.out.1; have hhigh : highE k ns.length n = ((nn : Int) - 1) := (by unfold highE; rw [if_neg (by omega)]; rw [if_neg (by omega)]; rw [if_neg (by omega)]; rw [if_pos hk]; rw [HK0.out.2.2.2.2.2.2]); exact isE_range (.inr (.inl (by rw [hhigh]; exact hc))))
    have h1 : ((nn : Int) - 1) < N := hc
    clear hc
    go_wp2_with fail
    refine (HBITS.out _).mono ?_
    rintro er wb ⟨rfl, rfl⟩
    go_wp2
    go_ret
    rw [HE.out]
    exact ⟨rfl, H1.out.1⟩
  have h1 : ¬ ((nn : Int) - 1) < N := hc
  have HOK5 := Lib.hid hc
  clear hc
  have HE : Hid (isE (.mk k m ns n of) (.mk N f [] c ov) = (List.range c).all (fun i => isE (of (0)) (ov i))) := Lib.hid (by
    have hk := HK0.out.1
    have o1 := HOK1.out
    have o2 := HOK2.out
    have o3 := HOK3.out
    have o4 := HOK4.out
    have o5 := HOK5.out
    have hlow : lowE k = 0 := (by unfold lowE; rw [if_neg (by omega)])
    have hhigh : highE k ns.length n = ((nn : Int) - 1) := (by unfold highE; rw [if_neg (by omega)]; rw [if_neg (by omega)]; rw [if_neg (by omega)]; rw [if_pos hk]; rw [HK0.out.2.2.2.2.2.2])
    rw [isE, if_neg (by
      rintro (⟨h, h'⟩ | ⟨h, h'⟩)
      · exact HOK1.out (by rw [← HCF.out]; exact h')
      · exact h' rfl), if_neg (by omega), if_neg (by
      rw [hlow, hhigh]
      omega), if_neg (by omega)]
    congr 1; funext i; rw [if_neg (by omega), if_neg (by omega)])
  obtain rfl : c = 0 := by omega
  go_wp2_with fail
  refine (HBITS.out _).mono ?_
  rintro er wb ⟨rfl, rfl⟩
  go_wp2
  refine wp_loop_rounds 1 ?_
  rw [rounds_succ]
  go_wp2
  go_ret
  rw [HE.out]
  exact ⟨rfl, H1.out.1⟩

set_option maxRecDepth 100000 in
set_option maxHeartbeats 32000000 in
theorem is_k8 (k : Nat) (m : Int) (ns : List Txt) (n : Nat) (of : Nat → KT) (ih : ∀ i, IsAt (of i)) (hk0 : k = 8) : IsAt (.mk k m ns n of) := by
  intro R v vv w T hgood hrs hvs
  obtain ⟨⟨hn12, hown⟩, hkids⟩ := hgood
  obtain ⟨hk8, hmost, hone, hparts, hnames, hnone⟩ := own_facts hown
  obtain ⟨_, _, _, _, _, a', c', e1, rfl, hrb, hrk⟩ := rshows_open hrs
  cases e1
  obtain ⟨N, f, s, c, ov, va, cap, rfl, rfl, hVB, hVK⟩ := vshows_open hvs
  obtain ⟨hN0, hN1, hf64, hsl, hc5⟩ := hVB
  obtain ⟨nn, hnn⟩ : ∃ nn, ns.length = nn := ⟨_, rfl⟩
  rw [hnn] at hrb ⊢
  have HK0 := Lib.hid (And.intro hk0 (And.intro hmost (And.intro hone (And.intro hparts (And.intro hnames (And.intro hnone hnn))))))
  have HKIDS := Lib.hid hkids
  have HRK := Lib.hid hrk
  have HVK := Lib.hid hVK
  have hnn1 : nn ≤ 1000 := hrb.2.1
  obtain ⟨cf, hcf⟩ : ∃ cf, Fl.canon f = cf := ⟨_, rfl⟩
  have HBITS := Lib.hid (fun (wx : World) => refbits_is f cf hcf wx)
  have HCF := Lib.hid hcf
  have hlen : ((⟨s.toArray⟩ : ByteArray).size : Int) = (s.length : Int) := by simp [ByteArray.size]
  obtain ⟨sl, hsl'⟩ : ∃ sl, s.length = sl := ⟨_, rfl⟩
  have HSL := Lib.hid hsl'
  rw [hsl'] at hlen hsl
  unfold sv
  obtain ⟨kz, hkz⟩ : ∃ kz : Int, (k : Int) = kz := ⟨_, rfl⟩
  rw [hkz]
  have e0 : (kz == 0) = false := by simp; omega
  have n0 : (kz != 0) = true := by unfold bne; rw [e0]; rfl
  have e1 : (kz == 1) = false := by simp; omega
  have n1 : (kz != 1) = true := by unfold bne; rw [e1]; rfl
  have e2 : (kz == 2) = false := by simp; omega
  have n2 : (kz != 2) = true := by unfold bne; rw [e2]; rfl
  have e3 : (kz == 3) = false := by simp; omega
  have n3 : (kz != 3) = true := by unfold bne; rw [e3]; rfl
  have e4 : (kz == 4) = false := by simp; omega
  have n4 : (kz != 4) = true := by unfold bne; rw [e4]; rfl
  have e5 : (kz == 5) = false := by simp; omega
  have n5 : (kz != 5) = true := by unfold bne; rw [e5]; rfl
  have e6 : (kz == 6) = false := by simp; omega
  have n6 : (kz != 6) = true := by unfold bne; rw [e6]; rfl
  have e7 : (kz == 7) = false := by simp; omega
  have n7 : (kz != 7) = true := by unfold bne; rw [e7]; rfl
  have e8 : (kz == 8) = true := by simp; omega
  have n8 : (kz != 8) = false := by unfold bne; rw [e8]; rfl
  have k5 : decide (kz < 5) = false := by simp; omega
  obtain ⟨w1, hw1⟩ : ∃ w1, w1 = (w.alloc (.cells #[.int .i64 kz, .int .i64 m, .int .i64 (nn : Nat), .slice a' n c'] 49)).alloc (.cells #[.int .i64 N, .float .f64 f, .string ⟨s.toArray⟩, .slice va c cap] 42) := ⟨_, rfl⟩
  have f1 : Fr (fun _ => False) w w1 := by rw [hw1]; exact ((Fr.refl _ _).alloc _).alloc _
  have q1 : w1.heap[w.heap.size]? = some (.cells #[.int .i64 kz, .int .i64 m, .int .i64 (nn : Nat), .slice a' n c'] 49 (0, 0)) := by rw [hw1]; exact heap_alloc_first _ _ _
  have v1 : w1.heap[w.heap.size + 1]? = some (.cells #[.int .i64 N, .float .f64 f, .string ⟨s.toArray⟩, .slice va c cap] 42 (0, 0)) := by rw [hw1]; exact heap_alloc_two _ _ _
  clear hrs hvs hk0 hmost hone hparts hnames hnone hkids hrk hVK hcf hsl' hrb hown hnn hkz
  go_enter Try.func21, Try.ntmps21
  go_upto_region 1 with fail
  rw [← hw1]
  obtain ⟨vb, hvb⟩ : ∃ vb, w.heap.size + 1 = vb := ⟨_, rfl⟩
  rw [hvb] at v1 ⊢
  obtain ⟨tb, htb⟩ : ∃ tb, w.heap.size = tb := ⟨_, rfl⟩
  rw [htb] at q1 ⊢
  obtain ⟨c0, c1, c2, c3⟩ := cell_of_four q1
  obtain ⟨d0, d1, d2, d3⟩ := cell_of_four v1
  have H1 := Lib.hid (And.intro f1 (And.intro q1 v1))
  clear hw1 f1 q1 v1 hvb htb
  by_cases hc : cf ≠ 0
  · have HE : Hid (isE (.mk k m ns n of) (.mk N f s c ov) = false) := Lib.hid (by have hk := HK0.out.1; rw [isE, if_pos (.inl ⟨by omega, by rw [HCF.out]; exact hc⟩)])
    have z1 : ((cf : Int) == 0) = false := by simp; omega
    have z2 : ((cf : Int) != 0) = true := by unfold bne; rw [z1]; rfl
    clear hc
    go_wp2_with fail
    refine (HBITS.out _).mono ?_
    rintro er wb ⟨rfl, rfl⟩
    go_wp2
    go_ret
    rw [HE.out]
    exact ⟨rfl, H1.out.1⟩
  have z1 : ((cf : Int) == 0) = true := by simp; omega
  have z2 : ((cf : Int) != 0) = false := by unfold bne; rw [z1]; rfl
  have HOK1 := Lib.hid hc
  clear hc
  by_cases hc : s ≠ []
  · have HE : Hid (isE (.mk k m ns n of) (.mk N f s c ov) = false) := Lib.hid (by have hk := HK0.out.1; rw [isE, if_pos (.inr ⟨by omega, hc⟩)])
    obtain ⟨y1, y2, y3⟩ := text_empty s hc
    have y4 := hc
    clear hc
    go_wp2_with fail
    refine (HBITS.out _).mono ?_
    rintro er wb ⟨rfl, rfl⟩
    go_wp2
    go_ret
    rw [HE.out]
    exact ⟨rfl, H1.out.1⟩
  have y0 : s = [] := by simpa using hc
  have HOK2 := Lib.hid hc
  clear hc
  subst y0
  by_cases hc : N < 0
  · have HE : Hid (isE (.mk k m ns n of) (.mk N f [] c ov) = false) := Lib.hid (by have hk := HK0.out.1; have hlow : lowE k = 0 := (by unfold lowE; rw [if_neg (by omega)]); exact isE_range (.inl (by rw [hlow]; exact hc)))
    have l1 : N < 0 := hc
    clear hc
    go_wp2_with fail
    refine (HBITS.out _).mono ?_
    rintro er wb ⟨rfl, rfl⟩
    go_wp2
    go_ret
    rw [HE.out]
    exact ⟨rfl, H1.out.1⟩
  have l1 : ¬ N < 0 := hc
  have HOK3 := Lib.hid hc
  clear hc
  by_cases hc : ((n : Int) - 1) < N
  · have HE : Hid (isE (.mk k m ns n of) (.mk N f [] c ov) = false) := Lib.hid (by have hk := HK0.out.1; have hhigh : highE k ns.length n = ((n : Int) - 1) := (by unfold highE; rw [if_neg (by omega)]; rw [if_neg (by omega)]; rw [if_neg (by omega)]; rw [if_neg (by omega)]; rw [if_pos hk]); exact isE_range (.inr (.inl (by rw [hhigh]; exact hc))))
    have h1 : ((n : Int) - 1) < N := hc
    clear hc
    go_wp2_with fail
    refine (HBITS.out _).mono ?_
    rintro er wb ⟨rfl, rfl⟩
    go_wp2
    go_ret
    rw [HE.out]
    exact ⟨rfl, H1.out.1⟩
  have h1 : ¬ ((n : Int) - 1) < N := hc
  have HOK4 := Lib.hid hc
  clear hc
  by_cases hc : c ≠ 1
  · have HE : Hid (isE (.mk k m ns n of) (.mk N f [] c ov) = false) := Lib.hid (by have hk := HK0.out.1; exact isE_count (.inr ⟨hk, hc⟩))
    have m1 : ((c : Int) == 1) = false := by simp; omega
    have m2 : ((c : Int) != 1) = true := by unfold bne; rw [m1]; rfl
    clear hc
    go_wp2_with fail
    refine (HBITS.out _).mono ?_
    rintro er wb ⟨rfl, rfl⟩
    go_wp2
    go_ret
    rw [HE.out]
    exact ⟨rfl, H1.out.1⟩
  have m1 : ((c : Int) == 1) = true := by simp; omega
  have m2 : ((c : Int) != 1) = false := by unfold bne; rw [m1]; rfl
  have HOK5 := Lib.hid hc
  clear hc
  have HE : Hid (isE (.mk k m ns n of) (.mk N f [] c ov) = (List.range c).all (fun i => isE (of (N.toNat)) (ov i))) := Lib.hid (by
    have hk := HK0.out.1
    have o1 := HOK1.out
    have o2 := HOK2.out
    have o3 := HOK3.out
    have o4 := HOK4.out
    have o5 := HOK5.out
    have hlow : lowE k = 0 := (by unfold lowE; rw [if_neg (by omega)])
    have hhigh : highE k ns.length n = ((n : Int) - 1) := (by unfold highE; rw [if_neg (by omega)]; rw [if_neg (by omega)]; rw [if_neg (by omega)]; rw [if_neg (by omega)]; rw [if_pos hk])
    rw [isE, if_neg (by
      rintro (⟨h, h'⟩ | ⟨h, h'⟩)
      · exact HOK1.out (by rw [← HCF.out]; exact h')
      · exact h' rfl), if_neg (by omega), if_neg (by
      rw [hlow, hhigh]
      omega), if_neg (by omega)]
    congr 1; funext i; rw [if_neg (by omega), if_pos hk])
  obtain ⟨x, hx⟩ : ∃ x : Nat, N = (x : Int) := ⟨N.toNat, by omega⟩
  subst hx
  have xn : (x : Int) < (n : Int) := by omega
  have x0 : (0 : Int) ≤ (x : Int) := by omega
  have hxn : x < n := by omega
  simp only [Int.toNat_natCast] at HE
  obtain rfl : c = 1 := by have := HOK5.out; omega
  go_wp2_with fail
  refine (HBITS.out _).mono ?_
  rintro er wb ⟨rfl, rfl⟩
  go_wp2
  clear c0 c1 c2 c3 d0 d1 d2 d3
  go_loopg [7, 8] 1 (fun G u7 u8 wr => ∃ j : Nat, j ≤ 1 ∧ G = 1 - j ∧ u7 = .int .i64 j ∧ Hid (Fr (fun _ => False) w1 wr ∧ ∀ i, i < j → isE (of (x)) (ov i) = true))
  case atStart => exact ⟨0, Nat.zero_le _, rfl, by go_num, Lib.hid ⟨Fr.refl _ _, fun i hi => by omega⟩⟩
  case round =>
    obtain ⟨j, hj, rfl, rfl, HI⟩ := hrel
    have qr := box_kept H1.out.2.1 HI.out.1 (fun h => h)
    have vr := box_kept H1.out.2.2 HI.out.1 (fun h => h)
    obtain ⟨c0, c1, c2, c3⟩ := cell_of_four qr
    obtain ⟨d0, d1, d2, d3⟩ := cell_of_four vr
    have HQR := Lib.hid (And.intro qr vr)
    clear qr vr
    by_cases hlt : j < 1
    · rcases HRK.out with hz | ⟨hcap, g, off, hg, rfl, hcell⟩
      · omega
      rcases HVK.out with hz | ⟨hvcap, gv, ov', hgv, rfl, hvcell⟩
      · omega
      obtain ⟨x0', x1, x2, x3, y0, y1, y2, y3, hx⟩ := hcell x (by exact hxn)
      obtain ⟨s0, s1, s2, s3, r0, r1, r2, r3, hs⟩ := hvcell j hlt
      obtain ⟨ak, am, an, aa, ac, acap, ex⟩ := hx.lit
      simp only [Value.agg.injEq, Array.mk.injEq, List.cons.injEq, and_true] at ex
      obtain ⟨rfl, rfl, rfl, rfl⟩ := ex
      obtain ⟨zn, zf, zs, za, zc, zcap, es⟩ := hs.lit
      simp only [Value.agg.injEq, Array.mk.injEq, List.cons.injEq, and_true] at es
      obtain ⟨rfl, rfl, rfl, rfl⟩ := es
      skip
      have HY := Lib.hid (And.intro hg (And.intro y0 (And.intro y1 (And.intro y2 y3))))
      have HR := Lib.hid (And.intro hgv (And.intro r0 (And.intro r1 (And.intro r2 r3))))
      have HX := Lib.hid (And.intro hx hs)
      have HLT := Lib.hid hlt
      have jc : (j : Int) < (1 : Int) := by omega
      skip
      clear hcell hvcell hx hs y0 y1 y2 y3 r0 r1 r2 r3
      go_upto_region 29 with fail
      clear c0 c1 c2 c3 d0 d1 d2 d3
      obtain ⟨BB, hBB⟩ : ∃ BB, isE (of x) (ov j) = BB := ⟨_, rfl⟩
      have HBB := Lib.hid hBB
      clear hBB
      refine wp_region_chain (by kernel_rfl) [some 137, some 138, some 139, some 140, some 141, some 142, some 143, some 144, some 145, some 146, some 147, some 148] rfl (by decide) (by intro d hd; simp at hd ⊢; omega)
        [10] (fun _ wx => Fr (fun _ => False) wr wx)
        [.free (.pointer (some ⟨tb, 3, none⟩)), .free (.slice (some ⟨g, off, none⟩) n c'), .free (.int .i64 x), .free (.pointer (some ⟨g, off + x * 4, none⟩)), .free (.agg #[.int .i64 ak, .int .i64 am, .int .i64 an, .slice aa ac acap]),
         .free (.pointer (some ⟨vb, 3, none⟩)), .free (.slice (some ⟨gv, ov', none⟩) 1 cap), .free (.int .i64 j), .free (.pointer (some ⟨gv, ov' + j * 4, none⟩)), .free (.agg #[.int .i64 zn, .float .f64 zf, .string zs, .slice za zc zcap]), .link (some (.bool BB)), .free (.bool (!BB))]
        (by kernel_rfl) (by kernel_rfl) ?h0 ?step ?fin
      case h0 => exact (Fr.refl _ _).drew
      case step =>
        intro vals2
        simp only [frOfU, fillU, List.setIfInBounds_toArray, List.set_cons_succ, List.set_cons_zero]
        repeat' (first | exact AllOps.nil | refine AllOps.cons ?_ ?_)
        all_goals
          intro cvs wx hS he hu hlim K hK
          simp only [Act.put, List.setIfInBounds_toArray, List.set_cons_succ, List.set_cons_zero, List.getD_cons_zero, List.getD_cons_succ] at hK
          simp only [List.mem_cons, List.not_mem_nil, or_false, forall_eq_or_imp, forall_eq, Region.binds, forall_const, vmode_gc, Bool.false_eq_true, false_imp_iff, List.getD_cons_zero, List.getD_cons_succ, OpSort.val, Option.some.injEq, forall_eq', reduceCtorEq, implies_true, true_and, and_true] at he
          have HSX := Lib.hid hS
          clear hS hlim hu
        all_goals first | ((try simp only [he] at hK ⊢); go_simp; exact hK) | skip
        · have l3 := cells_row (box_kept HQR.out.1 HSX.out (fun h => h)) 3 _ rfl
          simp only [he] at hK ⊢
          go_simp
          exact hK
        · have e0 := cell_fr HSX.out (fun _ _ h => h) HY.out.1 (cell_fr (H1.out.1.trans HI.out.1 (fun _ _ h => h)) (fun _ _ h => h) HY.out.1 HY.out.2.1)
          have e1 := cell_fr HSX.out (fun _ _ h => h) HY.out.1 (cell_fr (H1.out.1.trans HI.out.1 (fun _ _ h => h)) (fun _ _ h => h) HY.out.1 HY.out.2.2.1)
          have e2 := cell_fr HSX.out (fun _ _ h => h) HY.out.1 (cell_fr (H1.out.1.trans HI.out.1 (fun _ _ h => h)) (fun _ _ h => h) HY.out.1 HY.out.2.2.2.1)
          have e3 := cell_fr HSX.out (fun _ _ h => h) HY.out.1 (cell_fr (H1.out.1.trans HI.out.1 (fun _ _ h => h)) (fun _ _ h => h) HY.out.1 HY.out.2.2.2.2)
          simp only [he] at hK ⊢
          go_simp
          exact hK
        · have l3 := cells_row (box_kept HQR.out.2 HSX.out (fun h => h)) 3 _ rfl
          simp only [he] at hK ⊢
          go_simp
          exact hK
        · have e0 := cell_fr HSX.out (fun _ _ h => h) HR.out.1 (cell_fr (H1.out.1.trans HI.out.1 (fun _ _ h => h)) (fun _ _ h => h) HR.out.1 HR.out.2.1)
          have e1 := cell_fr HSX.out (fun _ _ h => h) HR.out.1 (cell_fr (H1.out.1.trans HI.out.1 (fun _ _ h => h)) (fun _ _ h => h) HR.out.1 HR.out.2.2.1)
          have e2 := cell_fr HSX.out (fun _ _ h => h) HR.out.1 (cell_fr (H1.out.1.trans HI.out.1 (fun _ _ h => h)) (fun _ _ h => h) HR.out.1 HR.out.2.2.2.1)
          have e3 := cell_fr HSX.out (fun _ _ h => h) HR.out.1 (cell_fr (H1.out.1.trans HI.out.1 (fun _ _ h => h)) (fun _ _ h => h) HR.out.1 HR.out.2.2.2.2)
          simp only [he] at hK ⊢
          go_simp
          exact hK
        · simp only [he] at hK ⊢
          go_simp
          go_at_call 21
          have f0 := (H1.out.1.trans HI.out.1 (fun _ _ h => h)).trans HSX.out (fun _ _ h => h)
          refine (ih x R _ _ wx (ov j) (HKIDS.out x (by exact hxn)) (RShows.fr f0 (fun _ _ h => h) _ _ HX.out.1) (VShows.fr f0 (fun _ _ h => h) _ _ HX.out.2)).mono ?_
          rintro er wa ⟨rfl, fa⟩
          exact hK _ _ (fun _ h => by cases h; rw [HBB.out]) (HSX.out.trans fa (fun _ _ h => h))
      case fin =>
        intro vals2 w7 hS hV
        have v11 := hV 11 _ (by decide) rfl
        clear hV
        have H7 := Lib.hid (HI.out.1.trans hS (fun _ _ h => h))
        clear hS
        simp only [frOfU, fillU, List.setIfInBounds_toArray, List.set_cons_succ, List.set_cons_zero]
        simp only [Nat.reduceAdd, v11]
        clear v11
        cases BB with
        | true =>
          go_wp2
          go_roundg (1 - (j + 1))
          case measure => have := HLT.out; omega
          case rel => exact ⟨j + 1, HLT.out, rfl, by go_num, Lib.hid ⟨H7.out, fun i hi => by
            by_cases h : i < j
            · exact HI.out.2 i h
            · obtain rfl : i = j := by omega
              exact HBB.out⟩⟩
        | false =>
          have EF : Hid ((List.range 1).all (fun i => isE (of (x)) (ov i)) = false) := Lib.hid (by
            rw [List.all_eq_false]
            exact ⟨j, List.mem_range.2 HLT.out, by simp [HBB.out]⟩)
          go_wp2
          go_ret
          rw [HE.out, EF.out]
          exact ⟨rfl, H1.out.1.trans H7.out (fun _ _ h => h)⟩
    · obtain rfl : j = 1 := by omega
      have ET : Hid ((List.range 1).all (fun i => isE (of (x)) (ov i)) = true) := Lib.hid (by
        rw [List.all_eq_true]
        exact fun i hi => HI.out.2 i (List.mem_range.1 hi))
      go_wp2
      go_ret
      rw [HE.out, ET.out]
      exact ⟨rfl, H1.out.1.trans HI.out.1 (fun _ _ h => h)⟩

theorem is_any (t : KT) : IsAt t := by
  induction t with
  | nil => exact fun _ _ _ _ _ h => h.elim
  | mk k m ns n of ih =>
    intro R v vv w T hg
    have hk := (own_facts hg.1.2).1
    have key : IsAt (.mk k m ns n of) := by
      rcases (by omega : k = 0 ∨ k = 1 ∨ k = 2 ∨ k = 3 ∨ k = 4 ∨ k = 5 ∨ k = 6 ∨ k = 7 ∨ k = 8) with h | h | h | h | h | h | h | h | h
      · exact is_k0 k m ns n of ih h
      · exact is_k1 k m ns n of ih h
      · exact is_k2 k m ns n of ih h
      · exact is_k3 k m ns n of ih h
      · exact is_k4 k m ns n of ih h
      · exact is_k5 k m ns n of ih h
      · exact is_k6 k m ns n of ih h
      · exact is_k7 k m ns n of ih h
      · exact is_k8 k m ns n of ih h
    exact key R v vv w T hg

end Go.Proofs.Ytnhkahnihdfefaa
