/-
  The laws' Ref, RefValue and Of: types and values as the document's answer has them, and back.
-/
import Derived.Test.YthokfmmbiilllaaMH
import Derived.Test.YthokfmmbiilllaaMA
import Derived.Deep.QuietTactic
import Derived.BigQuiet
import Derived.LoopN
set_option linter.unusedSimpArgs false
set_option linter.unusedVariables false
namespace Go.Proofs.Ythokfmmbiilllaa
open Go.RowKit
attribute [local go_sem] run_store_float
set_option linter.unusedVariables false
set_option linter.unusedSimpArgs false

/-- The value v shows the type t as the answer has it, in memory of R. -/
def RShows (R : Nat → Prop) (w : World) : KT → Value → Prop
  | .nil, _ => False
  | .mk k m ns n of, v => ∃ vo, v = .agg #[.int .i64 k, .int .i64 m, .int .i64 (ns.length : Nat), vo] ∧ (k ≤ 255 ∧ ns.length ≤ 1000 ∧ n ≤ 1000) ∧
    ((n = 0 ∧ ∃ a c, vo = .slice a 0 c) ∨
     ∃ g off cap, R g ∧ vo = .slice (some ⟨g, off, none⟩) n cap ∧ n ≤ cap ∧ ∀ i, i < n → ∃ x0 x1 x2 x3,
      w.cell? ⟨g, off + i * 4, none⟩ = some x0 ∧ w.cell? ⟨g, off + i * 4 + 1, none⟩ = some x1 ∧ w.cell? ⟨g, off + i * 4 + 2, none⟩ = some x2 ∧ w.cell? ⟨g, off + i * 4 + 3, none⟩ = some x3 ∧
      RShows R w (of i) (.agg #[x0, x1, x2, x3]))

/-- The parts of such a type. -/
def RKids (R : Nat → Prop) (w : World) (of : Nat → KT) (a : Option Addr) (c cap : Nat) : Prop :=
  c = 0 ∨ c ≤ cap ∧ ∃ g off, R g ∧ a = some ⟨g, off, none⟩ ∧ ∀ i, i < c → ∃ x0 x1 x2 x3,
      w.cell? ⟨g, off + i * 4, none⟩ = some x0 ∧ w.cell? ⟨g, off + i * 4 + 1, none⟩ = some x1 ∧ w.cell? ⟨g, off + i * 4 + 2, none⟩ = some x2 ∧ w.cell? ⟨g, off + i * 4 + 3, none⟩ = some x3 ∧
      RShows R w (of i) (.agg #[x0, x1, x2, x3])

theorem RShows.fr {R S : Nat → Prop} {w w' : World} (hf : Fr S w w') (hS : ∀ k, R k → ¬ S k) (t : KT) : ∀ v, RShows R w t v → RShows R w' t v := by
  induction t with
  | nil => exact fun _ h => h.elim
  | mk k m ns n of ih =>
    rintro v ⟨vo, rfl, hb, ho⟩
    refine ⟨vo, rfl, hb, ?_⟩
    rcases ho with h | ⟨g, off, cap, hg, rfl, hle, hc⟩
    · exact .inl h
    · refine .inr ⟨g, off, cap, hg, rfl, hle, fun i hi => ?_⟩
      obtain ⟨x0, x1, x2, x3, c0, c1, c2, c3, hx⟩ := hc i hi
      exact ⟨x0, x1, x2, x3, cell_fr hf hS hg c0, cell_fr hf hS hg c1, cell_fr hf hS hg c2, cell_fr hf hS hg c3, ih i _ hx⟩

theorem RShows.mono {R S : Nat → Prop} {w : World} (hS : ∀ k, k < w.heap.size → R k → S k) (t : KT) : ∀ v, RShows R w t v → RShows S w t v := by
  induction t with
  | nil => exact fun _ h => h.elim
  | mk k m ns n of ih =>
    rintro v ⟨vo, rfl, hb, ho⟩
    refine ⟨vo, rfl, hb, ?_⟩
    rcases ho with h | ⟨g, off, cap, hg, rfl, hle, hc⟩
    · exact .inl h
    · cases n with
      | zero => exact .inl ⟨rfl, _, _, rfl⟩
      | succ n =>
        refine .inr ⟨g, off, cap, ?_, rfl, hle, fun i hi => ?_⟩
        · obtain ⟨x0, x1, x2, x3, c0, _⟩ := hc 0 (by omega)
          exact hS g (World.block_lt_of_cell? w _ c0) hg
        · obtain ⟨x0, x1, x2, x3, c0, c1, c2, c3, hx⟩ := hc i hi
          exact ⟨x0, x1, x2, x3, c0, c1, c2, c3, ih i _ hx⟩

theorem rshows_open {R : Nat → Prop} {w : World} {t : KT} {v : Value} (h : RShows R w t v) :
    ∃ (k : Nat) (m : Int) (ns : List Txt) (n : Nat) (of : Nat → KT) (a : Option Addr) (cap : Nat), t = .mk k m ns n of ∧ v = .agg #[.int .i64 k, .int .i64 m, .int .i64 (ns.length : Nat), .slice a n cap] ∧ (k ≤ 255 ∧ ns.length ≤ 1000 ∧ n ≤ 1000) ∧ RKids R w of a n cap := by
  cases t with
  | nil => exact h.elim
  | mk k m ns n of =>
    obtain ⟨vo, rfl, hb, ho⟩ := h
    rcases ho with ⟨rfl, a, cap, rfl⟩ | ⟨g, off, cap, hg, rfl, hle, hc⟩
    · exact ⟨k, m, ns, 0, of, a, cap, rfl, rfl, hb, .inl rfl⟩
    · exact ⟨k, m, ns, n, of, _, cap, rfl, rfl, hb, .inr ⟨hle, g, off, hg, rfl, hc⟩⟩

theorem rshows_mk {R : Nat → Prop} {w : World} {k : Nat} {m : Int} {ns : List Txt} {n : Nat} {of : Nat → KT} {a : Option Addr} {cap : Nat} (hb : k ≤ 255 ∧ ns.length ≤ 1000 ∧ n ≤ 1000) (hk : RKids R w of a n cap) : RShows R w (.mk k m ns n of) (.agg #[.int .i64 k, .int .i64 m, .int .i64 (ns.length : Nat), .slice a n cap]) := by
  refine ⟨_, rfl, hb, ?_⟩
  rcases hk with rfl | ⟨hle, g, off, hg, rfl, hc⟩
  · exact .inl ⟨rfl, a, cap, rfl⟩
  · exact .inr ⟨g, off, cap, hg, rfl, hle, hc⟩

theorem RKids.fr {R S : Nat → Prop} {w w' : World} {of : Nat → KT} {a' : Option Addr} {n c' : Nat} (h : RKids R w of a' n c') (hf : Fr S w w') (hS : ∀ k, R k → ¬ S k) : RKids R w' of a' n c' := by
  rcases h with h | ⟨h1, g, off, hg, rfl, hc⟩
  · exact .inl h
  · refine .inr ⟨h1, g, off, hg, rfl, fun i hi => ?_⟩
    obtain ⟨x0, x1, x2, x3, c0, c1, c2, c3, hx⟩ := hc i hi
    exact ⟨x0, x1, x2, x3, cell_fr hf hS hg c0, cell_fr hf hS hg c1, cell_fr hf hS hg c2, cell_fr hf hS hg c3, RShows.fr hf hS _ _ hx⟩

def rShown : Shown KT where
  sh R w t xs := ∃ x0 x1 x2 x3, xs = [x0, x1, x2, x3] ∧ RShows R w t (.agg #[x0, x1, x2, x3])
  fr := by
    rintro R S w w' x xs ⟨x0, x1, x2, x3, rfl, h⟩ f hS
    exact ⟨x0, x1, x2, x3, rfl, RShows.fr f hS _ _ h⟩
  mono := by
    rintro R S w x xs ⟨x0, x1, x2, x3, rfl, h⟩ hS
    exact ⟨x0, x1, x2, x3, rfl, RShows.mono hS _ _ h⟩

theorem RShows.lit {R : Nat → Prop} {w : World} {t : KT} {v : Value} (h : RShows R w t v) :
    ∃ (k m n : Int) (a : Option Addr) (c cap : Nat), v = .agg #[.int .i64 k, .int .i64 m, .int .i64 n, .slice a c cap] := by
  obtain ⟨k, m, ns, n, of, a, cap, _, rfl, _⟩ := rshows_open h
  exact ⟨_, _, _, a, n, cap, rfl⟩

theorem rshows_one {R : Nat → Prop} {w : World} {t : KT} {y0 y1 y2 y3 : Value} (h : RShows R w t (.agg #[y0, y1, y2, y3])) : ∀ u ∈ [y0, y1, y2, y3], u.oneCell' = true := by
  obtain ⟨k, m, n, a, c, cap, e⟩ := h.lit
  simp only [Value.agg.injEq, Array.mk.injEq, List.cons.injEq, and_true] at e
  obtain ⟨rfl, rfl, rfl, rfl⟩ := e
  intro u hu
  simp at hu
  rcases hu with rfl | rfl | rfl | rfl <;> rfl

theorem ItRow.rkids {e : TypeId} {B : Nat} {X : Nat → Prop} {w : World} {a : Option Addr} {n cap : Nat} {ts : List KT} (h : ItRow rShown e 4 B X w (.slice a n cap) ts) (of : Nat → KT) (hof : ∀ i x, ts[i]? = some x → of i = x) :
    RKids (fun k => B ≤ k) w of a n cap := by
  rcases h.cells with ⟨rfl, a', c, h4⟩ | ⟨g, cap', hg, e, hle, hc⟩
  · cases h4; exact .inl rfl
  · cases e
    refine .inr ⟨hle, g, 0, hg.1, rfl, fun i hi => ?_⟩
    obtain ⟨xs, _, hc, x0, x1, x2, x3, rfl, hx⟩ := hc i ts[i] (List.getElem?_eq_getElem hi)
    refine ⟨x0, x1, x2, x3, hc 0 _ rfl, hc 1 _ rfl, hc 2 _ rfl, hc 3 _ rfl, ?_⟩
    rw [hof i _ (List.getElem?_eq_getElem hi)]
    exact RShows.mono (fun k _ h => h.1) _ _ hx

theorem ItRow.vkids' {e : TypeId} {B : Nat} {X : Nat → Prop} {w : World} {a : Option Addr} {n cap : Nat} {ts : List VT} (h : ItRow vShown e 4 B X w (.slice a n cap) ts) (of : Nat → VT) (hof : ∀ i x, ts[i]? = some x → of i = x) :
    VKids (fun k => B ≤ k) w of a n cap := by
  rcases h.cells with ⟨rfl, a', c, h4⟩ | ⟨g, cap', hg, e, hle, hc⟩
  · cases h4; exact .inl rfl
  · cases e
    refine .inr ⟨hle, g, 0, hg.1, rfl, fun i hi => ?_⟩
    obtain ⟨xs, _, hc, x0, x1, x2, x3, rfl, hx⟩ := hc i ts[i] (List.getElem?_eq_getElem hi)
    refine ⟨x0, x1, x2, x3, hc 0 _ rfl, hc 1 _ rfl, hc 2 _ rfl, hc 3 _ rfl, ?_⟩
    rw [hof i _ (List.getElem?_eq_getElem hi)]
    exact VShows.mono (fun k _ h => h.1) _ _ hx

/-- The local struct while its parts are gathered: its cells but the last, and the parts' row. -/
def CLoc (e : TypeId) (x0 x1 x2 : Value) (wx : World) (lb : Nat) (po : Value) : Prop := wx.heap[lb]? = some (.cells #[x0, x1, x2, po] e (0, 0))

def CDirt (lb : Nat) (po : Value) (k : Nat) : Prop := k = lb ∨ po.ownBlock = some k

/-- Ahead of the call, behind it, behind the row of one, behind the append, behind the store. -/
def CopyS {α : Type} (D : Shown α) (e : TypeId) (x0 x1 x2 : Value) (wr : World) (lb : Nat) (po : Value) (L : List α) (T : α) : List Value → World → Prop
  | [], wx => Fr (CDirt lb po) wr wx ∧ CLoc e x0 x1 x2 wx lb po ∧ ItRow D e 4 (lb + 1) (fun _ => False) wx po L
  | [v], wx => Fr (CDirt lb po) wr wx ∧ CLoc e x0 x1 x2 wx lb po ∧ ItRow D e 4 (lb + 1) (fun _ => False) wx po L ∧ ∃ y0 y1 y2 y3, v = .agg #[y0, y1, y2, y3] ∧ D.sh (fun k => wr.heap.size ≤ k) wx T [y0, y1, y2, y3]
  | [_, u], wx => Fr (CDirt lb po) wr wx ∧ CLoc e x0 x1 x2 wx lb po ∧ ItRow D e 4 (lb + 1) (fun _ => False) wx po L ∧ ∃ gg y0 y1 y2 y3, u = .slice (some ⟨gg, 0, none⟩) 1 1 ∧ wx.heap[gg]? = some (.cells #[y0, y1, y2, y3] e (0, 0)) ∧ D.sh (fun k => wr.heap.size ≤ k) wx T [y0, y1, y2, y3]
  | [_, _, x], wx => Fr (CDirt lb po) wr wx ∧ CLoc e x0 x1 x2 wx lb po ∧ ItRow D e 4 (lb + 1) (fun _ => False) wx x (L ++ [T])
  | _ :: _ :: x :: _ :: _, wx => Fr (CDirt lb po) wr wx ∧ CLoc e x0 x1 x2 wx lb x ∧ ItRow D e 4 (lb + 1) (fun _ => False) wx x (L ++ [T])

theorem CopyS.f {α : Type} {D : Shown α} {e : TypeId} {x0 x1 x2 : Value} {wr : World} {lb : Nat} {po : Value} {L : List α} {T : α} {cvs : List Value} {wx : World} (h : CopyS D e x0 x1 x2 wr lb po L T cvs wx) : Fr (CDirt lb po) wr wx := by
  match cvs with
  | [] => exact h.1
  | [_] => exact h.1
  | [_, _] => exact h.1
  | [_, _, _] => exact h.1
  | _ :: _ :: _ :: _ :: _ => exact h.1

theorem CopyS.loc {α : Type} {D : Shown α} {e : TypeId} {x0 x1 x2 : Value} {wr : World} {lb : Nat} {po : Value} {L : List α} {T : α} {cvs : List Value} {wx : World} (h : CopyS D e x0 x1 x2 wr lb po L T cvs wx) (hc : cvs.length ≤ 3) : CLoc e x0 x1 x2 wx lb po := by
  match cvs with
  | [] => exact h.2.1
  | [_] => exact h.2.1
  | [_, _] => exact h.2.1
  | [_, _, _] => exact h.2.1
  | _ :: _ :: _ :: _ :: _ => simp at hc

theorem Try.infoRV : (Try.prog.info? 42).map (fun i => (i.zero, i.size, i.bytes)) = some (some (.agg #[.int .i64 0, .float .f64 0, .string ⟨#[]⟩, .slice none 0 0]), 4, 56) := by kernel_rfl
theorem Try.infoRT : (Try.prog.info? 49).map (fun i => (i.zero, i.size, i.bytes)) = some (some (.agg #[.int .i64 0, .int .i64 0, .int .i64 0, .slice none 0 0]), 4, 48) := by kernel_rfl

theorem map_range_of {α : Type} {f : Nat → α} {n i : Nat} {x : α} (h : ((List.range n).map f)[i]? = some x) : f i = x := by
  rw [List.getElem?_map] at h
  by_cases hlt : i < n
  · rw [List.getElem?_range hlt] at h
    simpa using h
  · rw [List.getElem?_eq_none (by simp; omega)] at h
    cases h

def refAt (t : KT) : Prop := ∀ (R : Nat → Prop) (v : Value) (w : World), Shows R w t v → goodE t →
  Calls Try.prog 10 #[v] w fun e w' => ∃ v', e = .returned v' ∧ RShows (fun k => w.heap.size ≤ k) w' t v' ∧ Fr (fun _ => False) w w'

set_option maxRecDepth 100000 in
set_option maxHeartbeats 16000000 in
theorem ref_any (t : KT) : refAt t := by
  induction t with
  | nil => exact fun _ _ _ h => h.elim
  | mk k m ns n of ih =>
  intro R v w hsh hgood
  obtain ⟨⟨hn12, hown⟩, hkids⟩ := hgood
  obtain ⟨vn, vo, rfl, hk, hn, ht, ho⟩ := hsh
  obtain ⟨na, nc, rfl, _⟩ := ht.shape
  have hnl : ns.length ≤ 1000 := ht.1
  obtain ⟨a', c', rfl, hs⟩ : ∃ a' c', vo = .slice a' n c' ∧ Kids R w of a' n c' := by
    rcases ho with ⟨rfl, a', c', rfl⟩ | ⟨g, off, cap, hg, rfl, hle, hc⟩
    · exact ⟨a', c', rfl, .inl rfl⟩
    · exact ⟨_, cap, rfl, .inr ⟨hle, g, off, hg, rfl, hc⟩⟩
  have HS := Lib.hid hs
  have HGD := Lib.hid hkids
  have hn1 : n ≤ 1000 := by omega
  clear ho hs ht hkids hown
  obtain ⟨w1, hw1⟩ : ∃ w1, w1 = ((w.alloc (.cells #[.int .u8 k, .int .i64 m, .slice na ns.length nc, .slice a' n c'] 32)).alloc (.cells #[.int .i64 0, .int .i64 0, .int .i64 0, .slice none 0 0] 49)).alloc (.cells #[.int .i64 k, .int .i64 m, .int .i64 (ns.length : Nat), .slice none 0 0] 49) := ⟨_, rfl⟩
  have f1 : Fr (fun _ => False) w w1 := by rw [hw1]; exact (((Fr.refl _ _).alloc _).alloc _).alloc _
  have q1 : w1.heap[w.heap.size]? = some (.cells #[.int .u8 k, .int .i64 m, .slice na ns.length nc, .slice a' n c'] 32 (0, 0)) := by
    rw [hw1, Below.heap_alloc _ _ _ (by simp; omega)]; exact heap_alloc_first _ _ _
  have p1 : w1.heap[w.heap.size + 1]? = some (.cells #[.int .i64 0, .int .i64 0, .int .i64 0, .slice none 0 0] 49 (0, 0)) := by
    rw [hw1, Below.heap_alloc _ _ _ (by simp)]; exact heap_alloc_two _ _ _
  have l1 : CLoc 49 (.int .i64 k) (.int .i64 m) (.int .i64 (ns.length : Nat)) w1 (w.heap.size + 1 + 1) (.slice none 0 0) := by
    have h := heap_alloc_new ((w.alloc (.cells #[.int .u8 k, .int .i64 m, .slice na ns.length nc, .slice a' n c'] 32)).alloc (.cells #[.int .i64 0, .int .i64 0, .int .i64 0, .slice none 0 0] 49)) (.cells #[.int .i64 k, .int .i64 m, .int .i64 (ns.length : Nat), .slice none 0 0] 49)
    rw [show ((w.alloc (.cells #[.int .u8 k, .int .i64 m, .slice na ns.length nc, .slice a' n c'] 32)).alloc (.cells #[.int .i64 0, .int .i64 0, .int .i64 0, .slice none 0 0] 49)).heap.size = w.heap.size + 1 + 1 by simp] at h
    rw [hw1]
    exact h
  have w0n : w.heap.size ≠ w.heap.size + 1 := by omega
  obtain ⟨w0, hw0⟩ : ∃ w0, w0 = (w.alloc (.cells #[.int .u8 k, .int .i64 m, .slice na ns.length nc, .slice a' n c'] 32)).alloc (.cells #[.int .i64 0, .int .i64 0, .int .i64 0, .slice none 0 0] 49) := ⟨_, rfl⟩
  have q0 : w0.heap[w.heap.size]? = some (.cells #[.int .u8 k, .int .i64 m, .slice na ns.length nc, .slice a' n c'] 32 (0, 0)) := by rw [hw0]; exact heap_alloc_first _ _ _
  obtain ⟨c0, c1, c2, c3⟩ := cell_of_four q0
  have sz0 : w0.heap.size = w.heap.size + 1 + 1 := by rw [hw0]; simp
  go_enter Try.func10, Try.ntmps10
  go_upto_region 1 with fail
  rw [← hw0]
  have HW1 := Lib.hid (show w1 = w0.alloc (.cells #[.int .i64 k, .int .i64 m, .int .i64 (ns.length : Nat), .slice none 0 0] 49) from by rw [hw1, hw0])
  clear hw0 hw1 q0 w0n
  go_upto_region 2 with fail
  rw [← HW1.out]
  try rw [sz0]
  clear c0 c1 c2 c3 sz0
  obtain ⟨lb, hlb⟩ : ∃ lb, w.heap.size + 1 + 1 = lb := ⟨_, rfl⟩
  obtain ⟨rb, hrb⟩ : ∃ rb, w.heap.size + 1 = rb := ⟨_, rfl⟩
  rw [hlb] at l1 ⊢
  rw [hrb] at p1 ⊢
  have o1 : w.heap.size < rb := by omega
  have o2 : rb < lb := by omega
  have c3 := cells_row q1 3 _ rfl
  have H1 := Lib.hid (And.intro f1 (And.intro p1 l1))
  clear f1 q1 p1 l1 hlb hrb
  go_wp2
  clear c3
  go_loopg [5, 18] n (fun G u5 uc wr => ∃ (j : Nat) (po : Value), j ≤ n ∧ G = n - j ∧ uc = .int .i64 j ∧ Hid (Fr (fun _ => False) w wr ∧ CLoc 49 (.int .i64 k) (.int .i64 m) (.int .i64 (ns.length : Nat)) wr lb po ∧ ItRow rShown 49 4 (lb + 1) (fun _ => False) wr po ((List.range j).map of) ∧ wr.heap[rb]? = some (.cells #[.int .i64 0, .int .i64 0, .int .i64 0, .slice none 0 0] 49 (0, 0))))
  case atStart => exact ⟨0, .slice none 0 0, Nat.zero_le _, rfl, by go_num, Lib.hid ⟨H1.out.1, H1.out.2.2, ItRow.nil _ _ _ _ _ _, H1.out.2.1⟩⟩
  case round =>
    obtain ⟨j, po, hj, rfl, rfl, HI⟩ := hrel
    obtain ⟨qa, qc, hpo⟩ : ∃ qa qc, po = .slice qa j qc := by
      obtain ⟨qa, qc, e⟩ := HI.out.2.2.1.slice
      rw [show ((List.range j).map of).length = j by simp] at e
      exact ⟨qa, qc, e⟩
    subst hpo
    have hlbr : lb < wr.heap.size := lt_of_block HI.out.2.1
    by_cases hlt : j < n
    · rcases HS.out with hz | ⟨hcap, g, off, hg, rfl, hcell⟩
      · omega
      obtain ⟨x0, x1, x2, x3, y0, y1, y2, y3, hx⟩ := hcell j hlt
      have y0 := cell_fr HI.out.1 (fun _ _ h => h) hg y0
      have y1 := cell_fr HI.out.1 (fun _ _ h => h) hg y1
      have y2 := cell_fr HI.out.1 (fun _ _ h => h) hg y2
      have y3 := cell_fr HI.out.1 (fun _ _ h => h) hg y3
      obtain ⟨xk, xm, xa, xn, xc, xa', xn', xc', rfl, rfl, rfl, rfl⟩ := hx.cells
      have HX := Lib.hid (Shows.fr HI.out.1 (fun _ _ h => h) _ _ (Shows.mono (S := fun k => R k ∧ k < w.heap.size) (fun k hk h => ⟨h, hk⟩) _ _ hx))
      have HLT := Lib.hid hlt
      have jn : (j : Int) < (n : Int) := by omega
      have j0 : (0 : Int) ≤ (j : Int) := by omega
      clear hcell hx
      go_wp2_with fail
      obtain ⟨wp, hwp⟩ : ∃ wp, wp = wr.alloc (.cells #[.int .u8 xk, .int .i64 xm, .slice xa xn xc, .slice xa' xn' xc'] 32) := ⟨_, rfl⟩
      rw [← hwp]
      obtain ⟨pb, hpb⟩ : ∃ pb, wr.heap.size = pb := ⟨_, rfl⟩
      have fp : Fr (fun _ => False) wr wp := by rw [hwp]; exact (Fr.refl _ _).alloc _
      have qp : wp.heap[pb]? = some (.cells #[.int .u8 xk, .int .i64 xm, .slice xa xn xc, .slice xa' xn' xc'] 32 (0, 0)) := by rw [hwp, ← hpb]; exact heap_alloc_new _ _
      have hown : ∀ k, (Value.slice qa j qc).ownBlock = some k → lb + 1 ≤ k ∧ k < pb := fun k hk => by
        have := HI.out.2.2.1.own k hk
        omega
      have hpbw : pb < wp.heap.size := lt_of_block qp
      have hpbv : lb < pb := by omega
      rw [hpb]
      have HP := Lib.hid (And.intro fp (And.intro qp hown))
      have HB0 := Lib.hid (And.intro hpbv (And.intro o1 o2))
      clear hwp hpb fp qp hown y0 y1 y2 y3 hlt jn j0
      have hacc : CopyS rShown 49 (.int .i64 k) (.int .i64 m) (.int .i64 (ns.length : Nat)) wp lb (.slice qa j qc) ((List.range j).map of) (of j) [] wp.drew :=
        ⟨(Fr.refl _ _).drew, box_kept HI.out.2.1 (HP.out.1.drew) (fun h => h), HI.out.2.2.1.fr (HP.out.1.drew) (fun _ _ h => h)⟩
      have HACC := Lib.hid hacc
      clear hacc
      refine wp_region_chain (by kernel_rfl) [some 22, some 23, some 24, some 25, some 26, some 27, some 28, none] rfl (by decide) (by intro d hd; simp at hd ⊢; omega)
        [3, 4, 5, 7] (CopyS rShown 49 (.int .i64 k) (.int .i64 m) (.int .i64 (ns.length : Nat)) wp lb (.slice qa j qc) ((List.range j).map of) (of j))
        [.free (.pointer (some ⟨lb, 3, none⟩)), .free (.slice qa j qc), .free (.agg #[.int .u8 xk, .int .i64 xm, .slice xa xn xc, .slice xa' xn' xc']), .link none, .link none, .link none, .free (.pointer (some ⟨lb, 3, none⟩)), .link none]
        (by kernel_rfl) (by kernel_rfl) ?h0 ?step ?fin
      case h0 => exact HACC.out
      case step =>
        intro vals2
        simp only [frOfU, fillU, List.setIfInBounds_toArray, List.set_cons_succ, List.set_cons_zero]
        repeat' (first | exact AllOps.nil | refine AllOps.cons ?_ ?_)
        all_goals
          intro cvs wx hS he hu hlim K hK
          simp only [Act.put, List.setIfInBounds_toArray, List.set_cons_succ, List.set_cons_zero, List.getD_cons_zero, List.getD_cons_succ] at hK
          simp only [List.mem_cons, List.not_mem_nil, or_false, forall_eq_or_imp, forall_eq, Region.binds, forall_const, vmode_gc, Bool.false_eq_true, false_imp_iff, List.getD_cons_zero, List.getD_cons_succ, OpSort.val, Option.some.injEq, forall_eq', reduceCtorEq, implies_true, true_and, and_true] at he
          have HSX := Lib.hid hS
          clear hS
        all_goals first | (clear hlim hu; (try simp only [he] at hK ⊢); go_simp; exact hK) | skip
        · have hl := HSX.out.loc (Nat.le_trans (hlim 2 5 rfl (by kernel_rfl)) (by omega))
          have e3 := cells_row hl 3 _ rfl
          clear hlim hu hl
          simp only [he] at hK ⊢
          go_simp
          exact hK
        · have hq := box_kept HP.out.2.1 HSX.out.f (fun h => by
            rcases h with h | h
            · have := HB0.out; omega
            · have := (HP.out.2.2 _ h).2; omega)
          obtain ⟨e0, e1, e2, e3⟩ := cell_of_four hq
          clear hlim hu hq
          simp only [he] at hK ⊢
          go_simp
          exact hK
        · obtain rfl := hlim (0 : Nat) rfl
          have h1 := HSX.out
          simp only [List.take_zero, List.map_nil] at h1
          simp only [he] at hK ⊢
          go_simp
          go_at_call 10
          have hR : ∀ k, (R k ∧ k < w.heap.size) → ¬ CDirt lb (.slice qa j qc) k := fun k hk h => by
            rcases h with h | h
            · have := HB0.out; omega
            · have := (HP.out.2.2 _ h).1; have := HB0.out; omega
          refine (ih j (fun k => R k ∧ k < w.heap.size) _ wx (Shows.fr h1.1 hR _ _ (Shows.fr HP.out.1 (fun _ _ h => h) _ _ HX.out)) (HGD.out j HLT.out)).mono ?_
          rintro e1 wa ⟨v', rfl, hsv, fa⟩
          have hx1 := hsv
          obtain ⟨zk, zm, zn, za, zc, zcap, e4⟩ := hx1.lit
          subst e4
          exact hK _ _ (fun _ h => by cases h) ⟨h1.1.trans fa (fun i _ h => h.elim), box_kept h1.2.1 fa (fun h => h), h1.2.2.fr fa (fun _ _ h => h), _, _, _, _, rfl, _, _, _, _, rfl, RShows.mono (fun k _ hk => Nat.le_trans h1.1.size hk) _ _ hsv⟩
        · obtain rfl := hlim (1 : Nat) rfl
          have h1 := HSX.out
          clear HSX hlim hu
          simp only [List.take_succ_cons, List.take_zero, List.map_cons, List.map_nil] at h1 hK
          obtain ⟨hf, hl, hr, z0, z1, z2, z3, e5, hs⟩ := h1
          simp only [he, e5] at hK ⊢
          go_simp
          have fa : Fr (fun _ => False) wx (wx.alloc (.cells #[z0, z1, z2, z3] 49)) := (Fr.refl _ _).alloc _
          exact hK _ _ (fun _ h => by cases h) ⟨hf.trans fa (fun _ _ h => h.elim), box_kept hl fa (fun h => h), hr.fr fa (fun _ _ h => h), _, _, _, _, _, rfl, heap_alloc_new _ _, rShown.fr hs fa (fun _ _ h => h)⟩
        · obtain rfl := hlim (2 : Nat) rfl
          have h1 := HSX.out
          clear HSX hlim hu
          simp only [List.take_succ_cons, List.take_zero, List.map_cons, List.map_nil] at h1 hK
          obtain ⟨hf, hl, hr, gg, z0, z1, z2, z3, e6, hgg, hss⟩ := h1
          rw [if_pos (by rfl)]
          have hsz := lt_of_block hl
          have hfs := hf.size
          have hb0 := HB0.out
          refine opWp_push (pv := (.slice qa j qc)) (l := (List.range j).map of) (B := lb + 1) (X := fun _ => False) (D := rShown) (.tmp 23) (.tmp 26) 47 47 rfl Try.underlying47 Try.underlying47 Try.infoRT rfl (by decide) he hr gg e6 (news := [z0, z1, z2, z3]) hgg rfl (by obtain ⟨_, _, _, _, e, h⟩ := hss; cases e; exact rshows_one h) (by simp; omega) (by omega) (by omega) (fun k hk => hk.elim) (of j) (rShown.mono hss (fun k _ hk => ⟨by omega, fun h => h, fun h => by have := (HP.out.2.2 _ h).2; omega⟩)) ?_
          intro v' w8 hrow f6 hv
          refine hK _ _ (fun _ h => by cases h) ⟨hf.trans f6 (fun i _ h => .inr h), box_kept hl f6 (fun h => by have := (HP.out.2.2 _ h).1; omega), hrow⟩
        · obtain rfl := hlim (3 : Nat) rfl
          have h1 := HSX.out
          clear HSX hlim hu
          simp only [List.take_succ_cons, List.take_zero, List.map_cons, List.map_nil] at h1 hK
          obtain ⟨hf, hl, hr⟩ := h1
          obtain ⟨xa2, xn2, xc2, e7⟩ : ∃ xa xn xc, vals2 5 = .slice xa xn xc := by obtain ⟨a, c, e⟩ := hr.slice; exact ⟨a, _, c, e⟩
          have z2 : wx.frozen? ⟨lb, 3, none⟩ = false := by unfold CLoc at hl; simp [World.frozen?, hl]
          obtain ⟨e0, e1, e2, e3⟩ := cell_of_four hl
          have fs : Fr (fun k => k = lb) wx (wx.setCell ⟨lb, 3, none⟩ (vals2 5)) := Fr.set1 (Fr.refl _ _) 3 _
          have HG := Lib.hid (show CopyS rShown 49 (.int .i64 k) (.int .i64 m) (.int .i64 (ns.length : Nat)) wp lb (.slice qa j qc) ((List.range j).map of) (of j) [vals2 3, vals2 4, vals2 5, undef] (wx.setCell ⟨lb, 3, none⟩ (vals2 5)) from
            ⟨hf.trans fs (fun i _ h => .inl h), setCell_row 3 _ hl, hr.fr fs (fun k hk h => by omega)⟩)
          clear hf hl hr fs
          rw [e7] at HG
          simp only [he, e7] at hK ⊢
          go_simp
          exact hK undef _ (fun _ h => by cases h) HG.out
      case fin =>
        intro vals2 w7 hS hV
        clear hV
        simp only [List.map_cons, List.map_nil] at hS
        obtain ⟨hf, hl, hr⟩ := hS
        have hd : ∀ i, i < w.heap.size → ¬ CDirt lb (.slice qa j qc) i := fun i hi h => by
          rcases h with h | h
          · have := HB0.out; omega
          · have := (HP.out.2.2 _ h).1; have := HB0.out; omega
        have f0 := HI.out.1.trans HP.out.1 (fun _ _ h => h)
        have fw : Fr (fun _ => False) w w7 := ⟨hf.os.trans f0.os, hf.tape.trans f0.tape, hf.output.trans f0.output, Nat.le_trans f0.size hf.size, fun i hi hs => by
          rw [hf.block i (Nat.lt_of_lt_of_le hi f0.size) (hd i hi), f0.block i hi hs]⟩
        have hrbk := box_kept (box_kept HI.out.2.2.2 HP.out.1 (fun h => h)) hf (fun h => by
          rcases h with h | h
          · omega
          · have := (HP.out.2.2 _ h).1; omega)
        have HS2 := Lib.hid (show Fr (fun _ => False) w w7 ∧ CLoc 49 (.int .i64 k) (.int .i64 m) (.int .i64 (ns.length : Nat)) w7 lb (vals2 5) ∧ ItRow rShown 49 4 (lb + 1) (fun _ => False) w7 (vals2 5) ((List.range (j + 1)).map of) ∧ w7.heap[rb]? = some (.cells #[.int .i64 0, .int .i64 0, .int .i64 0, .slice none 0 0] 49 (0, 0)) from by
          rw [List.range_succ, List.map_append]; exact ⟨fw, hl, hr, hrbk⟩)
        clear hf hl hr fw hrbk hd f0
        simp only [frOfU, fillU, List.setIfInBounds_toArray, List.set_cons_succ, List.set_cons_zero]
        go_wp2
        go_roundg (n - (j + 1))
        case measure => have := HLT.out; omega
        case rel => exact ⟨j + 1, vals2 5, HLT.out, rfl, by go_num, HS2⟩
    · obtain rfl : j = n := by omega
      obtain ⟨d0, d1, d2, d3⟩ := cell_of_four HI.out.2.1
      have p2 := HI.out.2.2.2
      have t0 := cells_row p2 0 _ rfl
      have t1 := cells_row p2 1 _ rfl
      have t2 := cells_row p2 2 _ rfl
      have t3 := cells_row p2 3 _ rfl
      have u0 : wr.frozen? ⟨rb, 0, none⟩ = false := by simp [World.frozen?, p2]
      have u1 : wr.frozen? ⟨rb, 1, none⟩ = false := by simp [World.frozen?, p2]
      have u2 : wr.frozen? ⟨rb, 2, none⟩ = false := by simp [World.frozen?, p2]
      have u3 : wr.frozen? ⟨rb, 3, none⟩ = false := by simp [World.frozen?, p2]
      clear p2
      go_wp2
      refine bodyPost_ret (results_cell_row rfl _ _ rb 49 _ _ _ rfl (store_four HI.out.2.2.2) Try.underlying49 rfl (by kernel_rfl)) rfl ?_
      have fs : Fr (fun k => k = rb) wr ((((wr.setCell ⟨rb, 0, none⟩ (.int .i64 k)).setCell ⟨rb, 1, none⟩ (.int .i64 m)).setCell ⟨rb, 2, none⟩ (.int .i64 (ns.length : Nat))).setCell ⟨rb, 3, none⟩ (.slice qa j qc)) := fr_four _ _ _ _ (Fr.refl _ _) (fun _ => rfl)
      refine ⟨_, rfl, ?_, HI.out.1.trans fs (fun i hi h => by omega)⟩
      have hk0 := ItRow.rkids HI.out.2.2.1 of (fun i x hi => map_range_of hi)
      exact RShows.mono (fun k _ (h : lb + 1 ≤ k) => by omega) _ _ (rshows_mk (ns := ns) ⟨hk, hnl, by omega⟩ (hk0.fr fs (fun k (hk : lb + 1 ≤ k) e => by omega)))


def refvAt (t : VT) : Prop := ∀ (R : Nat → Prop) (v : Value) (w : World), VShows R w t v → szV t ≤ 1000 →
  Calls Try.prog 12 #[v] w fun e w' => ∃ v', e = .returned v' ∧ VShows (fun k => w.heap.size ≤ k) w' t v' ∧ Fr (fun _ => False) w w'

set_option maxRecDepth 100000 in
set_option maxHeartbeats 16000000 in
theorem refv_any (t : VT) : refvAt t := by
  induction t with
  | nil => exact fun _ _ _ h => h.elim
  | mk N f sx n of ih =>
  intro R v w hsh hszv
  obtain ⟨_, _, _, _, _, a', c', e1, rfl, hVB, hs⟩ := vshows_open hsh
  cases e1
  have HB := Lib.hid hVB
  have HS := Lib.hid hs
  have hn1 : n ≤ 1000 := by
    have h := hszv
    rw [szV] at h
    have hall : ∀ j, j ≤ ((List.range j).map fun i => szV (of i)).sum := fun j => by
      induction j with
      | zero => simp
      | succ j ih => rw [List.range_succ, List.map_append, List.sum_append]; have := szV_pos (of j); simp; omega
    have := hall n
    omega
  have HSZ := Lib.hid (show ∀ j, j < n → szV (of j) ≤ 1000 from fun j hj => by
    have h := hszv
    rw [szV] at h
    have h2 := sumTo_le (fun i => szV (of i)) j n hj
    unfold sumTo at h2
    omega)
  unfold sv
  clear hsh hVB hs hszv
  obtain ⟨w1, hw1⟩ : ∃ w1, w1 = ((w.alloc (.cells #[.int .i64 N, .float .f64 f, .string ⟨sx.toArray⟩, .slice a' n c'] 37)).alloc (.cells #[.int .i64 0, .float .f64 0, .string ⟨#[]⟩, .slice none 0 0] 42)).alloc (.cells #[.int .i64 N, .float .f64 f, .string ⟨sx.toArray⟩, .slice none 0 0] 42) := ⟨_, rfl⟩
  have f1 : Fr (fun _ => False) w w1 := by rw [hw1]; exact (((Fr.refl _ _).alloc _).alloc _).alloc _
  have q1 : w1.heap[w.heap.size]? = some (.cells #[.int .i64 N, .float .f64 f, .string ⟨sx.toArray⟩, .slice a' n c'] 37 (0, 0)) := by
    rw [hw1, Below.heap_alloc _ _ _ (by simp; omega)]; exact heap_alloc_first _ _ _
  have p1 : w1.heap[w.heap.size + 1]? = some (.cells #[.int .i64 0, .float .f64 0, .string ⟨#[]⟩, .slice none 0 0] 42 (0, 0)) := by
    rw [hw1, Below.heap_alloc _ _ _ (by simp)]; exact heap_alloc_two _ _ _
  have l1 : CLoc 42 (.int .i64 N) (.float .f64 f) (.string ⟨sx.toArray⟩) w1 (w.heap.size + 1 + 1) (.slice none 0 0) := by
    have h := heap_alloc_new ((w.alloc (.cells #[.int .i64 N, .float .f64 f, .string ⟨sx.toArray⟩, .slice a' n c'] 37)).alloc (.cells #[.int .i64 0, .float .f64 0, .string ⟨#[]⟩, .slice none 0 0] 42)) (.cells #[.int .i64 N, .float .f64 f, .string ⟨sx.toArray⟩, .slice none 0 0] 42)
    rw [show ((w.alloc (.cells #[.int .i64 N, .float .f64 f, .string ⟨sx.toArray⟩, .slice a' n c'] 37)).alloc (.cells #[.int .i64 0, .float .f64 0, .string ⟨#[]⟩, .slice none 0 0] 42)).heap.size = w.heap.size + 1 + 1 by simp] at h
    rw [hw1]
    exact h
  have w0n : w.heap.size ≠ w.heap.size + 1 := by omega
  obtain ⟨w0, hw0⟩ : ∃ w0, w0 = (w.alloc (.cells #[.int .i64 N, .float .f64 f, .string ⟨sx.toArray⟩, .slice a' n c'] 37)).alloc (.cells #[.int .i64 0, .float .f64 0, .string ⟨#[]⟩, .slice none 0 0] 42) := ⟨_, rfl⟩
  have q0 : w0.heap[w.heap.size]? = some (.cells #[.int .i64 N, .float .f64 f, .string ⟨sx.toArray⟩, .slice a' n c'] 37 (0, 0)) := by rw [hw0]; exact heap_alloc_first _ _ _
  obtain ⟨c0, c1, c2, c3⟩ := cell_of_four q0
  have sz0 : w0.heap.size = w.heap.size + 1 + 1 := by rw [hw0]; simp
  go_enter Try.func12, Try.ntmps12
  go_upto_region 1 with fail
  rw [← hw0]
  have HW1 := Lib.hid (show w1 = w0.alloc (.cells #[.int .i64 N, .float .f64 f, .string ⟨sx.toArray⟩, .slice none 0 0] 42) from by rw [hw1, hw0])
  clear hw0 hw1 q0 w0n
  go_upto_region 2 with fail
  rw [← HW1.out]
  try rw [sz0]
  clear c0 c1 c2 c3 sz0
  obtain ⟨lb, hlb⟩ : ∃ lb, w.heap.size + 1 + 1 = lb := ⟨_, rfl⟩
  obtain ⟨rb, hrb⟩ : ∃ rb, w.heap.size + 1 = rb := ⟨_, rfl⟩
  rw [hlb] at l1 ⊢
  rw [hrb] at p1 ⊢
  have o1 : w.heap.size < rb := by omega
  have o2 : rb < lb := by omega
  have c3 := cells_row q1 3 _ rfl
  have H1 := Lib.hid (And.intro f1 (And.intro p1 l1))
  clear f1 q1 p1 l1 hlb hrb
  go_wp2
  clear c3
  go_loopg [5, 16] n (fun G u5 uc wr => ∃ (j : Nat) (po : Value), j ≤ n ∧ G = n - j ∧ uc = .int .i64 j ∧ Hid (Fr (fun _ => False) w wr ∧ CLoc 42 (.int .i64 N) (.float .f64 f) (.string ⟨sx.toArray⟩) wr lb po ∧ ItRow vShown 42 4 (lb + 1) (fun _ => False) wr po ((List.range j).map of) ∧ wr.heap[rb]? = some (.cells #[.int .i64 0, .float .f64 0, .string ⟨#[]⟩, .slice none 0 0] 42 (0, 0))))
  case atStart => exact ⟨0, .slice none 0 0, Nat.zero_le _, rfl, by go_num, Lib.hid ⟨H1.out.1, H1.out.2.2, ItRow.nil _ _ _ _ _ _, H1.out.2.1⟩⟩
  case round =>
    obtain ⟨j, po, hj, rfl, rfl, HI⟩ := hrel
    obtain ⟨qa, qc, hpo⟩ : ∃ qa qc, po = .slice qa j qc := by
      obtain ⟨qa, qc, e⟩ := HI.out.2.2.1.slice
      rw [show ((List.range j).map of).length = j by simp] at e
      exact ⟨qa, qc, e⟩
    subst hpo
    have hlbr : lb < wr.heap.size := lt_of_block HI.out.2.1
    by_cases hlt : j < n
    · rcases HS.out with hz | ⟨hcap, g, off, hg, rfl, hcell⟩
      · omega
      obtain ⟨x0, x1, x2, x3, y0, y1, y2, y3, hx⟩ := hcell j hlt
      have y0 := cell_fr HI.out.1 (fun _ _ h => h) hg y0
      have y1 := cell_fr HI.out.1 (fun _ _ h => h) hg y1
      have y2 := cell_fr HI.out.1 (fun _ _ h => h) hg y2
      have y3 := cell_fr HI.out.1 (fun _ _ h => h) hg y3
      obtain ⟨xn, xf, xs, xa, xc, xcap, ex⟩ := hx.lit
      simp only [Value.agg.injEq, Array.mk.injEq, List.cons.injEq, and_true] at ex
      obtain ⟨rfl, rfl, rfl, rfl⟩ := ex
      have HX := Lib.hid (VShows.fr HI.out.1 (fun _ _ h => h) _ _ (VShows.mono (S := fun k => R k ∧ k < w.heap.size) (fun k hk h => ⟨h, hk⟩) _ _ hx))
      have HLT := Lib.hid hlt
      have jn : (j : Int) < (n : Int) := by omega
      have j0 : (0 : Int) ≤ (j : Int) := by omega
      clear hcell hx
      go_wp2_with fail
      obtain ⟨wp, hwp⟩ : ∃ wp, wp = wr.alloc (.cells #[.int .i64 xn, .float .f64 xf, .string xs, .slice xa xc xcap] 37) := ⟨_, rfl⟩
      rw [← hwp]
      obtain ⟨pb, hpb⟩ : ∃ pb, wr.heap.size = pb := ⟨_, rfl⟩
      have fp : Fr (fun _ => False) wr wp := by rw [hwp]; exact (Fr.refl _ _).alloc _
      have qp : wp.heap[pb]? = some (.cells #[.int .i64 xn, .float .f64 xf, .string xs, .slice xa xc xcap] 37 (0, 0)) := by rw [hwp, ← hpb]; exact heap_alloc_new _ _
      have hown : ∀ k, (Value.slice qa j qc).ownBlock = some k → lb + 1 ≤ k ∧ k < pb := fun k hk => by
        have := HI.out.2.2.1.own k hk
        omega
      have hpbw : pb < wp.heap.size := lt_of_block qp
      have hpbv : lb < pb := by omega
      rw [hpb]
      have HP := Lib.hid (And.intro fp (And.intro qp hown))
      have HB0 := Lib.hid (And.intro hpbv (And.intro o1 o2))
      clear hwp hpb fp qp hown y0 y1 y2 y3 hlt jn j0
      have hacc : CopyS vShown 42 (.int .i64 N) (.float .f64 f) (.string ⟨sx.toArray⟩) wp lb (.slice qa j qc) ((List.range j).map of) (of j) [] wp.drew :=
        ⟨(Fr.refl _ _).drew, box_kept HI.out.2.1 (HP.out.1.drew) (fun h => h), HI.out.2.2.1.fr (HP.out.1.drew) (fun _ _ h => h)⟩
      have HACC := Lib.hid hacc
      clear hacc
      refine wp_region_chain (by kernel_rfl) [some 20, some 21, some 22, some 23, some 24, some 25, some 26, none] rfl (by decide) (by intro d hd; simp at hd ⊢; omega)
        [3, 4, 5, 7] (CopyS vShown 42 (.int .i64 N) (.float .f64 f) (.string ⟨sx.toArray⟩) wp lb (.slice qa j qc) ((List.range j).map of) (of j))
        [.free (.pointer (some ⟨lb, 3, none⟩)), .free (.slice qa j qc), .free (.agg #[.int .i64 xn, .float .f64 xf, .string xs, .slice xa xc xcap]), .link none, .link none, .link none, .free (.pointer (some ⟨lb, 3, none⟩)), .link none]
        (by kernel_rfl) (by kernel_rfl) ?h0 ?step ?fin
      case h0 => exact HACC.out
      case step =>
        intro vals2
        simp only [frOfU, fillU, List.setIfInBounds_toArray, List.set_cons_succ, List.set_cons_zero]
        repeat' (first | exact AllOps.nil | refine AllOps.cons ?_ ?_)
        all_goals
          intro cvs wx hS he hu hlim K hK
          simp only [Act.put, List.setIfInBounds_toArray, List.set_cons_succ, List.set_cons_zero, List.getD_cons_zero, List.getD_cons_succ] at hK
          simp only [List.mem_cons, List.not_mem_nil, or_false, forall_eq_or_imp, forall_eq, Region.binds, forall_const, vmode_gc, Bool.false_eq_true, false_imp_iff, List.getD_cons_zero, List.getD_cons_succ, OpSort.val, Option.some.injEq, forall_eq', reduceCtorEq, implies_true, true_and, and_true] at he
          have HSX := Lib.hid hS
          clear hS
        all_goals first | (clear hlim hu; (try simp only [he] at hK ⊢); go_simp; exact hK) | skip
        · have hl := HSX.out.loc (Nat.le_trans (hlim 2 5 rfl (by kernel_rfl)) (by omega))
          have e3 := cells_row hl 3 _ rfl
          clear hlim hu hl
          simp only [he] at hK ⊢
          go_simp
          exact hK
        · have hq := box_kept HP.out.2.1 HSX.out.f (fun h => by
            rcases h with h | h
            · have := HB0.out; omega
            · have := (HP.out.2.2 _ h).2; omega)
          obtain ⟨e0, e1, e2, e3⟩ := cell_of_four hq
          clear hlim hu hq
          simp only [he] at hK ⊢
          go_simp
          exact hK
        · obtain rfl := hlim (0 : Nat) rfl
          have h1 := HSX.out
          simp only [List.take_zero, List.map_nil] at h1
          simp only [he] at hK ⊢
          go_simp
          go_at_call 12
          have hR : ∀ k, (R k ∧ k < w.heap.size) → ¬ CDirt lb (.slice qa j qc) k := fun k hk h => by
            rcases h with h | h
            · have := HB0.out; omega
            · have := (HP.out.2.2 _ h).1; have := HB0.out; omega
          refine (ih j (fun k => R k ∧ k < w.heap.size) _ wx (VShows.fr h1.1 hR _ _ (VShows.fr HP.out.1 (fun _ _ h => h) _ _ HX.out)) (HSZ.out j HLT.out)).mono ?_
          rintro e1 wa ⟨v', rfl, hsv, fa⟩
          have hx1 := hsv
          obtain ⟨zn, zf, zs, za, zc, zcap, e4⟩ := hx1.lit
          subst e4
          exact hK _ _ (fun _ h => by cases h) ⟨h1.1.trans fa (fun i _ h => h.elim), box_kept h1.2.1 fa (fun h => h), h1.2.2.fr fa (fun _ _ h => h), _, _, _, _, rfl, _, _, _, _, rfl, VShows.mono (fun k _ hk => Nat.le_trans h1.1.size hk) _ _ hsv⟩
        · obtain rfl := hlim (1 : Nat) rfl
          have h1 := HSX.out
          clear HSX hlim hu
          simp only [List.take_succ_cons, List.take_zero, List.map_cons, List.map_nil] at h1 hK
          obtain ⟨hf, hl, hr, z0, z1, z2, z3, e5, hs⟩ := h1
          simp only [he, e5] at hK ⊢
          go_simp
          have fa : Fr (fun _ => False) wx (wx.alloc (.cells #[z0, z1, z2, z3] 42)) := (Fr.refl _ _).alloc _
          exact hK _ _ (fun _ h => by cases h) ⟨hf.trans fa (fun _ _ h => h.elim), box_kept hl fa (fun h => h), hr.fr fa (fun _ _ h => h), _, _, _, _, _, rfl, heap_alloc_new _ _, vShown.fr hs fa (fun _ _ h => h)⟩
        · obtain rfl := hlim (2 : Nat) rfl
          have h1 := HSX.out
          clear HSX hlim hu
          simp only [List.take_succ_cons, List.take_zero, List.map_cons, List.map_nil] at h1 hK
          obtain ⟨hf, hl, hr, gg, z0, z1, z2, z3, e6, hgg, hss⟩ := h1
          rw [if_pos (by rfl)]
          have hsz := lt_of_block hl
          have hfs := hf.size
          have hb0 := HB0.out
          refine opWp_push (pv := (.slice qa j qc)) (l := (List.range j).map of) (B := lb + 1) (X := fun _ => False) (D := vShown) (.tmp 21) (.tmp 24) 40 40 rfl Try.underlying40 Try.underlying40 Try.infoRV rfl (by decide) he hr gg e6 (news := [z0, z1, z2, z3]) hgg rfl (by obtain ⟨_, _, _, _, e, h⟩ := hss; cases e; exact vshows_one h) (by simp; omega) (by omega) (by omega) (fun k hk => hk.elim) (of j) (vShown.mono hss (fun k _ hk => ⟨by omega, fun h => h, fun h => by have := (HP.out.2.2 _ h).2; omega⟩)) ?_
          intro v' w8 hrow f6 hv
          refine hK _ _ (fun _ h => by cases h) ⟨hf.trans f6 (fun i _ h => .inr h), box_kept hl f6 (fun h => by have := (HP.out.2.2 _ h).1; omega), hrow⟩
        · obtain rfl := hlim (3 : Nat) rfl
          have h1 := HSX.out
          clear HSX hlim hu
          simp only [List.take_succ_cons, List.take_zero, List.map_cons, List.map_nil] at h1 hK
          obtain ⟨hf, hl, hr⟩ := h1
          obtain ⟨xa2, xn2, xc2, e7⟩ : ∃ xa xn xc, vals2 5 = .slice xa xn xc := by obtain ⟨a, c, e⟩ := hr.slice; exact ⟨a, _, c, e⟩
          have z2 : wx.frozen? ⟨lb, 3, none⟩ = false := by unfold CLoc at hl; simp [World.frozen?, hl]
          obtain ⟨e0, e1, e2, e3⟩ := cell_of_four hl
          have fs : Fr (fun k => k = lb) wx (wx.setCell ⟨lb, 3, none⟩ (vals2 5)) := Fr.set1 (Fr.refl _ _) 3 _
          have HG := Lib.hid (show CopyS vShown 42 (.int .i64 N) (.float .f64 f) (.string ⟨sx.toArray⟩) wp lb (.slice qa j qc) ((List.range j).map of) (of j) [vals2 3, vals2 4, vals2 5, undef] (wx.setCell ⟨lb, 3, none⟩ (vals2 5)) from
            ⟨hf.trans fs (fun i _ h => .inl h), setCell_row 3 _ hl, hr.fr fs (fun k hk h => by omega)⟩)
          clear hf hl hr fs
          rw [e7] at HG
          simp only [he, e7] at hK ⊢
          go_simp
          exact hK undef _ (fun _ h => by cases h) HG.out
      case fin =>
        intro vals2 w7 hS hV
        clear hV
        simp only [List.map_cons, List.map_nil] at hS
        obtain ⟨hf, hl, hr⟩ := hS
        have hd : ∀ i, i < w.heap.size → ¬ CDirt lb (.slice qa j qc) i := fun i hi h => by
          rcases h with h | h
          · have := HB0.out; omega
          · have := (HP.out.2.2 _ h).1; have := HB0.out; omega
        have f0 := HI.out.1.trans HP.out.1 (fun _ _ h => h)
        have fw : Fr (fun _ => False) w w7 := ⟨hf.os.trans f0.os, hf.tape.trans f0.tape, hf.output.trans f0.output, Nat.le_trans f0.size hf.size, fun i hi hs => by
          rw [hf.block i (Nat.lt_of_lt_of_le hi f0.size) (hd i hi), f0.block i hi hs]⟩
        have hrbk := box_kept (box_kept HI.out.2.2.2 HP.out.1 (fun h => h)) hf (fun h => by
          rcases h with h | h
          · omega
          · have := (HP.out.2.2 _ h).1; omega)
        have HS2 := Lib.hid (show Fr (fun _ => False) w w7 ∧ CLoc 42 (.int .i64 N) (.float .f64 f) (.string ⟨sx.toArray⟩) w7 lb (vals2 5) ∧ ItRow vShown 42 4 (lb + 1) (fun _ => False) w7 (vals2 5) ((List.range (j + 1)).map of) ∧ w7.heap[rb]? = some (.cells #[.int .i64 0, .float .f64 0, .string ⟨#[]⟩, .slice none 0 0] 42 (0, 0)) from by
          rw [List.range_succ, List.map_append]; exact ⟨fw, hl, hr, hrbk⟩)
        clear hf hl hr fw hrbk hd f0
        simp only [frOfU, fillU, List.setIfInBounds_toArray, List.set_cons_succ, List.set_cons_zero]
        go_wp2
        go_roundg (n - (j + 1))
        case measure => have := HLT.out; omega
        case rel => exact ⟨j + 1, vals2 5, HLT.out, rfl, by go_num, HS2⟩
    · obtain rfl : j = n := by omega
      obtain ⟨d0, d1, d2, d3⟩ := cell_of_four HI.out.2.1
      have p2 := HI.out.2.2.2
      have t0 := cells_row p2 0 _ rfl
      have t1 := cells_row p2 1 _ rfl
      have t2 := cells_row p2 2 _ rfl
      have t3 := cells_row p2 3 _ rfl
      have u0 : wr.frozen? ⟨rb, 0, none⟩ = false := by simp [World.frozen?, p2]
      have u1 : wr.frozen? ⟨rb, 1, none⟩ = false := by simp [World.frozen?, p2]
      have u2 : wr.frozen? ⟨rb, 2, none⟩ = false := by simp [World.frozen?, p2]
      have u3 : wr.frozen? ⟨rb, 3, none⟩ = false := by simp [World.frozen?, p2]
      clear p2
      go_wp2
      refine bodyPost_ret (results_cell_row rfl _ _ rb 42 _ _ _ rfl (store_four HI.out.2.2.2) Try.underlying42 rfl (by kernel_rfl)) rfl ?_
      have fs : Fr (fun k => k = rb) wr ((((wr.setCell ⟨rb, 0, none⟩ (.int .i64 N)).setCell ⟨rb, 1, none⟩ (.float .f64 f)).setCell ⟨rb, 2, none⟩ (.string ⟨sx.toArray⟩)).setCell ⟨rb, 3, none⟩ (.slice qa j qc)) := fr_four _ _ _ _ (Fr.refl _ _) (fun _ => rfl)
      refine ⟨_, rfl, ?_, HI.out.1.trans fs (fun i hi h => by omega)⟩
      have hk0 := ItRow.vkids' HI.out.2.2.1 of (fun i x hi => map_range_of hi)
      exact VShows.mono (fun k _ (h : lb + 1 ≤ k) => by omega) _ _ (vshows_mk (s := sx) HB.out (hk0.fr fs (fun k (hk : lb + 1 ≤ k) e => by omega)))


end Go.Proofs.Ythokfmmbiilllaa

/-
  package value: the flattener: is it full, one number more (full, add); flatten, where a value is one number.
-/
namespace Go.Proofs.Ythokfmmbiilllaa
open Go.RowKit
attribute [local go_sem] run_store_float
set_option linter.unusedVariables false
set_option linter.unusedSimpArgs false

theorem Try.infoI64 : (Try.prog.info? 2).map (fun i => (i.zero, i.size, i.bytes)) = some (some (.int .i64 0), 1, 8) := by kernel_rfl

/-- One number more, if there are not so many. -/
def addE (m : Int) (acc : List Int) (x : Int) : List Int := if m ≤ (acc.length : Int) then acc else acc ++ [x]

/-- A VALUE'S NUMBERS. -/
def flE : KT → VT → List Int
  | .nil, _ => []
  | .mk _ _ _ _ _, .nil => []
  | .mk k m ns n of, .mk N f s c ov =>
    if k = 3 then [Fl.whole f]
    else if k = 4 then [(s.length : Int)]
    else (if k = 5 then [(c : Int)] else []) ++ (if k < 3 ∨ 6 < k then [N] else []) ++ ((List.range c).map (fun i => flE (of (if k = 6 then i else if k = 8 then N.toNat else 0)) (ov i))).flatten

/-- The flattener in block fb: its numbers, in a row of its own. -/
def FlSt (B fb : Nat) (w : World) (m : Int) (nv : Value) (acc : List Int) : Prop :=
  w.heap[fb]? = some (.cells #[nv, .int .i64 m] 69 (0, 0)) ∧ w.ownsRow B 2 1 nv acc.length (acc.map (Value.int .i64)) ∧ ∀ k, nv.ownBlock = some k → k ≠ fb

theorem FlSt.fr {S : Nat → Prop} {B fb : Nat} {w w' : World} {m : Int} {nv : Value} {acc : List Int} (h : FlSt B fb w m nv acc) (f : Fr S w w') (h1 : ¬ S fb) (h2 : ∀ k, nv.ownBlock = some k → ¬ S k) : FlSt B fb w' m nv acc :=
  ⟨box_kept h.1 f h1, ownsRow_fr h.2.1 f h2, h.2.2⟩

set_option maxHeartbeats 8000000 in
theorem full_any (B fb : Nat) (m : Int) (nv : Value) (acc : List Int) (w : World) (h : FlSt B fb w m nv acc) :
    Calls Try.prog 34 #[.pointer (some ⟨fb, 0, none⟩)] w fun e w' => e = .returned (.bool (decide (m ≤ (acc.length : Int)))) ∧ Fr (fun _ => False) w w' := by
  obtain ⟨a, c, rfl⟩ := slice_of_own h.2.1
  have r0 := cells_row h.1 0 _ rfl
  have r1 := cells_row h.1 1 _ rfl
  have hb1 : fb < w.heap.size := lt_of_block h.1
  clear h
  obtain ⟨n, hn⟩ : ∃ n, acc.length = n := ⟨_, rfl⟩
  rw [hn] at r0 ⊢
  clear hn
  go_enter Try.func34, Try.ntmps34
  go_wp2
  go_quiet (fail)
  go_wp2
  go_ret
  exact ⟨rfl, (Fr.refl _ _).drewN _⟩

set_option maxHeartbeats 8000000 in
theorem add_any (B fb : Nat) (m : Int) (nv : Value) (acc : List Int) (x : Int) (w : World) (h : FlSt B fb w m nv acc) (hl : acc.length ≤ 1000000) (hB : B ≤ w.heap.size) :
    Calls Try.prog 32 #[.pointer (some ⟨fb, 0, none⟩), .int .i64 x] w fun e w' => e = .returned (.tuple #[]) ∧ ∃ nv', FlSt B fb w' m nv' (addE m acc x) ∧ Fr (fun k => k = fb ∨ nv.ownBlock = some k) w w' ∧ (nv'.ownBlock = nv.ownBlock ∨ ∃ g, nv'.ownBlock = some g ∧ w.heap.size ≤ g) := by
  have hf := full_any B fb m nv acc w h
  have HF := Lib.hid h
  obtain ⟨a, c, rfl⟩ := slice_of_own h.2.1
  clear h
  by_cases hm : m ≤ (acc.length : Int)
  · rw [decide_eq_true hm] at hf
    have HE : Hid (addE m acc x = acc) := Lib.hid (by unfold addE; rw [if_pos hm])
    clear hm
    go_enter Try.func32, Try.ntmps32
    go_wp2_with fail
    refine hf.mono ?_
    rintro e w1 ⟨rfl, f1⟩
    have F1 := Lib.hid f1
    clear f1 hf
    go_wp2
    go_returns
    exact ⟨rfl, _, by rw [HE.out]; exact HF.out.fr F1.out (fun h => h) (fun _ _ h => h), F1.out.mono (fun _ _ h => h.elim), .inl rfl⟩
  · rw [decide_eq_false hm] at hf
    have HE : Hid (addE m acc x = acc ++ [x]) := Lib.hid (by unfold addE; rw [if_neg hm])
    clear hm
    obtain ⟨i0, hi, hz0, hz1, hz2⟩ := info_parts Try.infoI64
    obtain ⟨n, hn⟩ : ∃ n, acc.length = n := ⟨_, rfl⟩
    rw [hn] at HF hl ⊢
    have HN := Lib.hid hn
    clear hn
    go_enter Try.func32, Try.ntmps32
    go_wp2_with fail
    refine hf.mono ?_
    rintro e w1 ⟨rfl, f1⟩
    have h1 := HF.out.fr f1 (fun h => h) (fun _ _ h => h)
    have r0 := cells_row h1.1 0 _ rfl
    have hb1 : fb < w1.heap.size := lt_of_block h1.1
    have hb2 : fb ≠ w1.heap.size := by omega
    have H1 := Lib.hid (And.intro f1 h1)
    have q1 : (w1.alloc (.cells #[.int .i64 x] 2)).heap[w1.heap.size]? = some (.cells #[.int .i64 x] 2 (0, 0)) := heap_alloc_new _ _
    have Q1 := Lib.hid q1
    clear f1 hf h1 q1
    go_wp2_with (at_builtin; refine wpList_append_sep rfl (.tmp 11) (.tmp 13) 25 25 rfl B 2 i0 (.int .i64 0) 1 8 Try.underlying25 _ Try.underlying25 (.inr ⟨_, rfl⟩) hi hz0 hz1 hz2 rfl (by decide) (.slice a n c) n (acc.map (Value.int .i64)) rfl ?own (.slice (some ⟨w1.heap.size, 0, none⟩) 1 1) 1 [.int .i64 x] rfl (fun w => lenOf_slice _ _ _ _) rfl ?fc1 ?fc2 ?one ?b1 ?b2 ?base ?grow)
    case own =>
      have h := ownsRow_fr H1.out.2.2.1 ((Fr.refl (fun _ => False) w1).alloc (.cells #[.int .i64 x] 2)) (fun _ _ h => h)
      rw [HN.out] at h
      exact h
    case fc1 => exact first_one 1 1 rfl Q1.out
    case fc2 => exact first_one 1 1 rfl (w := World.drew _) Q1.out
    case one => intro u hu; simp at hu; subst hu; rfl
    case b1 => unfold maxLen; omega
    case b2 => omega
    case base => have := H1.out.1.size; have := ((Fr.refl (fun _ => False) w1).alloc (.cells #[.int .i64 x] 2)).size; omega
    case grow =>
      intro v2 w2 hown hg2 hv2
      have fa : Fr (fun _ => False) w (w1.alloc (.cells #[.int .i64 x] 2)) := H1.out.1.alloc _
      have f2 : Fr (fun k => (Value.slice a n c).ownBlock = some k) w w2 := (fa.mono (fun _ _ h => h.elim)).trans ((Fr.of_grown hg2).mono (fun _ _ e => e.symm)) (fun i hi e => e)
      have q2 := box_kept HF.out.1 f2 (fun e => HF.out.2.2 _ e rfl)
      have r2 := cells_row q2 0 _ rfl
      have z2 : w2.frozen? ⟨fb, 0, none⟩ = false := by simp [World.frozen?, q2]
      have hsz : w.heap.size ≤ (w1.alloc (.cells #[.int .i64 x] 2)).heap.size := fa.size
      have H2 := Lib.hid (And.intro f2 (And.intro q2 (And.intro hown (And.intro hv2 hsz))))
      obtain ⟨b2, d2, rfl⟩ := slice_of_own hown
      clear hown hg2 hv2 f2 fa q2 hsz
      go_wp2
      go_returns
      have hfb : fb < w.heap.size := lt_of_block HF.out.1
      have fs : Fr (fun k => k = fb) w2 (w2.setCell ⟨fb, 0, none⟩ (.slice b2 (n + 1) d2)) := Fr.set1 (Fr.refl _ _) _ _
      have hne : ∀ k, (Value.slice b2 (n + 1) d2).ownBlock = some k → k ≠ fb := by
        intro k hk
        rcases H2.out.2.2.2.1 with h | h <;> rw [h] at hk
        · exact HF.out.2.2 k hk
        · have := Option.some.inj hk; have := H2.out.2.2.2.2; omega
      refine ⟨rfl, .slice b2 (n + 1) d2, ⟨?_, ?_, hne⟩, ?_, ?_⟩
      · rw [setCell_row 0 _ H2.out.2.1]; simp
      · rw [HE.out]
        have h := ownsRow_fr H2.out.2.2.1 fs (fun k hk e => hne k hk e)
        simpa [HN.out] using h
      · exact (H2.out.1.mono (fun _ _ h => .inr h)).trans fs (fun i hi e => .inl e)
      · rcases H2.out.2.2.2.1 with h | h
        · exact .inl h
        · exact .inr ⟨_, h, by have := H2.out.2.2.2.2; simpa using this⟩

/-- What flatten does: of values of the type. -/
def FlatAt (t : KT) : Prop := ∀ (R : Nat → Prop) (v vv : Value) (w : World) (T : VT) (B fb : Nat) (m : Int) (nv : Value) (acc : List Int), Shows R w t v → VShows R w T vv → fitsE t T = true → FlSt B fb w m nv acc → (∀ k, R k → k ≠ fb ∧ nv.ownBlock ≠ some k) → acc.length + 2 * szV T ≤ 500000 → B ≤ w.heap.size →
  Calls Try.prog 21 #[.pointer (some ⟨fb, 0, none⟩), v, vv] w fun e w' => e = .returned (.tuple #[]) ∧ ∃ nv', FlSt B fb w' m nv' ((flE t T).foldl (addE m) acc) ∧ Fr (fun k => k = fb ∨ nv.ownBlock = some k) w w' ∧ (nv'.ownBlock = nv.ownBlock ∨ ∃ g, nv'.ownBlock = some g ∧ w.heap.size ≤ g)

set_option maxRecDepth 100000 in
set_option maxHeartbeats 16000000 in
theorem flat_k0 (k : Nat) (m' : Int) (ns : List Txt) (n : Nat) (of : Nat → KT) (hk0 : k = 0) : FlatAt (.mk k m' ns n of) := by
  intro R v vv w T B fb m nv acc hsh hvs hfit hst hR hlen hB
  obtain ⟨N, f, s, c, ov, va, cap, rfl, rfl, hVB, hVK⟩ := vshows_open hvs
  obtain ⟨vn, vo, rfl, hk, hn, ht, ho⟩ := hsh
  obtain ⟨na, nc, rfl, _⟩ := ht.shape
  obtain ⟨a', c', rfl⟩ : ∃ a' c', vo = .slice a' n c' := by
    rcases ho with ⟨rfl, a', c', rfl⟩ | ⟨g, off, cap, hg, rfl, hle, hc⟩
    · exact ⟨a', c', rfl⟩
    · exact ⟨_, cap, rfl⟩
  obtain ⟨hN0, hN1, hf64, hsl, hc5⟩ := hVB
  subst hk0
  have hc0 : c = 0 := by
    have h := hfit
    rw [fitsE, if_pos rfl] at h
    rw [Bool.and_eq_true] at h
    have h2 := h.2
    unfold zeroV at h2
    rw [sameV] at h2
    simp only [Bool.and_eq_true, decide_eq_true_eq] at h2
    exact h2.1.2
  have HE : Hid (flE (.mk 0 m' ns n of) (.mk N f s c ov) = [N]) := Lib.hid (by have := hc0; subst this; rw [flE, if_neg (by omega), if_neg (by omega), if_neg (by omega), if_pos (by omega)]; rfl)
  subst hc0
  have HST := Lib.hid hst
  have HLEN := Lib.hid hlen
  unfold sv
  obtain ⟨kz, hkz⟩ : ∃ kz : Int, ((0 : Nat) : Int) = kz := ⟨_, rfl⟩
  rw [hkz]
  have e0 : (kz == 0) = true := by simp; omega
  have e1 : (kz == 1) = false := by simp; omega
  have e2 : (kz == 2) = false := by simp; omega
  have e7 : (kz == 7) = false := by simp; omega
  have e3 : (kz == 3) = false := by simp; omega
  have e4 : (kz == 4) = false := by simp; omega
  have e5 : (kz == 5) = false := by simp; omega
  have e6 : (kz == 6) = false := by simp; omega
  have e8 : (kz == 8) = false := by simp; omega
  obtain ⟨w1, hw1⟩ : ∃ w1, w1 = (w.alloc (.cells #[.int .u8 kz, .int .i64 m', .slice na ns.length nc, .slice a' n c'] 32)).alloc (.cells #[.int .i64 N, .float .f64 f, .string ⟨s.toArray⟩, .slice va 0 cap] 37) := ⟨_, rfl⟩
  have f1 : Fr (fun _ => False) w w1 := by rw [hw1]; exact ((Fr.refl _ _).alloc _).alloc _
  have q1 : w1.heap[w.heap.size]? = some (.cells #[.int .u8 kz, .int .i64 m', .slice na ns.length nc, .slice a' n c'] 32 (0, 0)) := by rw [hw1]; exact heap_alloc_first _ _ _
  have v1 : w1.heap[w.heap.size + 1]? = some (.cells #[.int .i64 N, .float .f64 f, .string ⟨s.toArray⟩, .slice va 0 cap] 37 (0, 0)) := by rw [hw1]; exact heap_alloc_two _ _ _
  have H1 := Lib.hid f1
  have HADD := Lib.hid (add_any B fb m nv acc N w1 (hst.fr f1 (fun h => h) (fun _ _ h => h)) (by omega) (Nat.le_trans hB f1.size))
  clear hst hlen hB hvs hVK ho hk hn ht hfit hR f1 hkz
  go_enter Try.func21, Try.ntmps21
  go_upto_region 1 with fail
  rw [← hw1]
  clear hw1
  obtain ⟨vb, hvb⟩ : ∃ vb, w.heap.size + 1 = vb := ⟨_, rfl⟩
  rw [hvb] at v1 ⊢
  clear hvb
  obtain ⟨c0, c1, c2, c3⟩ := cell_of_four q1
  obtain ⟨d0, d1, d2, d3⟩ := cell_of_four v1
  clear q1 v1
  go_wp2_with fail
  refine HADD.out.mono ?_
  rintro e w2 ⟨rfl, nv', h2, f2, hv2⟩
  have H2 := Lib.hid (And.intro h2 (And.intro f2 hv2))
  clear h2 f2 hv2 c0 c1 c2 c3 d0 d1 d2 d3
  go_wp2
  go_returns
  refine ⟨rfl, nv', ?_, (H1.out.mono (fun _ _ h => h.elim)).trans H2.out.2.1 (fun _ _ h => h), ?_⟩
  · rw [HE.out]
    exact H2.out.1
  · rcases H2.out.2.2 with h | ⟨g, h, hg⟩
    · exact .inl h
    · exact .inr ⟨g, h, Nat.le_trans H1.out.size hg⟩

set_option maxRecDepth 100000 in
set_option maxHeartbeats 16000000 in
theorem flat_k1 (k : Nat) (m' : Int) (ns : List Txt) (n : Nat) (of : Nat → KT) (hk0 : k = 1) : FlatAt (.mk k m' ns n of) := by
  intro R v vv w T B fb m nv acc hsh hvs hfit hst hR hlen hB
  obtain ⟨N, f, s, c, ov, va, cap, rfl, rfl, hVB, hVK⟩ := vshows_open hvs
  obtain ⟨vn, vo, rfl, hk, hn, ht, ho⟩ := hsh
  obtain ⟨na, nc, rfl, _⟩ := ht.shape
  obtain ⟨a', c', rfl⟩ : ∃ a' c', vo = .slice a' n c' := by
    rcases ho with ⟨rfl, a', c', rfl⟩ | ⟨g, off, cap, hg, rfl, hle, hc⟩
    · exact ⟨a', c', rfl⟩
    · exact ⟨_, cap, rfl⟩
  obtain ⟨hN0, hN1, hf64, hsl, hc5⟩ := hVB
  subst hk0
  have hc0 : c = 0 := by
    have h := hfit
    rw [fitsE, if_neg (by omega), if_pos rfl] at h
    rw [Bool.and_eq_true] at h
    have h2 := h.2
    unfold zeroV at h2
    rw [sameV] at h2
    simp only [Bool.and_eq_true, decide_eq_true_eq] at h2
    exact h2.1.2
  have HE : Hid (flE (.mk 1 m' ns n of) (.mk N f s c ov) = [N]) := Lib.hid (by have := hc0; subst this; rw [flE, if_neg (by omega), if_neg (by omega), if_neg (by omega), if_pos (by omega)]; rfl)
  subst hc0
  have HST := Lib.hid hst
  have HLEN := Lib.hid hlen
  unfold sv
  obtain ⟨kz, hkz⟩ : ∃ kz : Int, ((1 : Nat) : Int) = kz := ⟨_, rfl⟩
  rw [hkz]
  have e0 : (kz == 0) = false := by simp; omega
  have e1 : (kz == 1) = true := by simp; omega
  have e2 : (kz == 2) = false := by simp; omega
  have e7 : (kz == 7) = false := by simp; omega
  have e3 : (kz == 3) = false := by simp; omega
  have e4 : (kz == 4) = false := by simp; omega
  have e5 : (kz == 5) = false := by simp; omega
  have e6 : (kz == 6) = false := by simp; omega
  have e8 : (kz == 8) = false := by simp; omega
  obtain ⟨w1, hw1⟩ : ∃ w1, w1 = (w.alloc (.cells #[.int .u8 kz, .int .i64 m', .slice na ns.length nc, .slice a' n c'] 32)).alloc (.cells #[.int .i64 N, .float .f64 f, .string ⟨s.toArray⟩, .slice va 0 cap] 37) := ⟨_, rfl⟩
  have f1 : Fr (fun _ => False) w w1 := by rw [hw1]; exact ((Fr.refl _ _).alloc _).alloc _
  have q1 : w1.heap[w.heap.size]? = some (.cells #[.int .u8 kz, .int .i64 m', .slice na ns.length nc, .slice a' n c'] 32 (0, 0)) := by rw [hw1]; exact heap_alloc_first _ _ _
  have v1 : w1.heap[w.heap.size + 1]? = some (.cells #[.int .i64 N, .float .f64 f, .string ⟨s.toArray⟩, .slice va 0 cap] 37 (0, 0)) := by rw [hw1]; exact heap_alloc_two _ _ _
  have H1 := Lib.hid f1
  have HADD := Lib.hid (add_any B fb m nv acc N w1 (hst.fr f1 (fun h => h) (fun _ _ h => h)) (by omega) (Nat.le_trans hB f1.size))
  clear hst hlen hB hvs hVK ho hk hn ht hfit hR f1 hkz
  go_enter Try.func21, Try.ntmps21
  go_upto_region 1 with fail
  rw [← hw1]
  clear hw1
  obtain ⟨vb, hvb⟩ : ∃ vb, w.heap.size + 1 = vb := ⟨_, rfl⟩
  rw [hvb] at v1 ⊢
  clear hvb
  obtain ⟨c0, c1, c2, c3⟩ := cell_of_four q1
  obtain ⟨d0, d1, d2, d3⟩ := cell_of_four v1
  clear q1 v1
  go_wp2_with fail
  refine HADD.out.mono ?_
  rintro e w2 ⟨rfl, nv', h2, f2, hv2⟩
  have H2 := Lib.hid (And.intro h2 (And.intro f2 hv2))
  clear h2 f2 hv2 c0 c1 c2 c3 d0 d1 d2 d3
  go_wp2
  go_returns
  refine ⟨rfl, nv', ?_, (H1.out.mono (fun _ _ h => h.elim)).trans H2.out.2.1 (fun _ _ h => h), ?_⟩
  · rw [HE.out]
    exact H2.out.1
  · rcases H2.out.2.2 with h | ⟨g, h, hg⟩
    · exact .inl h
    · exact .inr ⟨g, h, Nat.le_trans H1.out.size hg⟩

set_option maxRecDepth 100000 in
set_option maxHeartbeats 16000000 in
theorem flat_k2 (k : Nat) (m' : Int) (ns : List Txt) (n : Nat) (of : Nat → KT) (hk0 : k = 2) : FlatAt (.mk k m' ns n of) := by
  intro R v vv w T B fb m nv acc hsh hvs hfit hst hR hlen hB
  obtain ⟨N, f, s, c, ov, va, cap, rfl, rfl, hVB, hVK⟩ := vshows_open hvs
  obtain ⟨vn, vo, rfl, hk, hn, ht, ho⟩ := hsh
  obtain ⟨na, nc, rfl, _⟩ := ht.shape
  obtain ⟨a', c', rfl⟩ : ∃ a' c', vo = .slice a' n c' := by
    rcases ho with ⟨rfl, a', c', rfl⟩ | ⟨g, off, cap, hg, rfl, hle, hc⟩
    · exact ⟨a', c', rfl⟩
    · exact ⟨_, cap, rfl⟩
  obtain ⟨hN0, hN1, hf64, hsl, hc5⟩ := hVB
  subst hk0
  have hc0 : c = 0 := by
    have h := hfit
    rw [fitsE, if_neg (by omega), if_neg (by omega), if_pos rfl] at h
    rw [Bool.and_eq_true] at h
    have h2 := h.2
    unfold zeroV at h2
    rw [sameV] at h2
    simp only [Bool.and_eq_true, decide_eq_true_eq] at h2
    exact h2.1.2
  have HE : Hid (flE (.mk 2 m' ns n of) (.mk N f s c ov) = [N]) := Lib.hid (by have := hc0; subst this; rw [flE, if_neg (by omega), if_neg (by omega), if_neg (by omega), if_pos (by omega)]; rfl)
  subst hc0
  have HST := Lib.hid hst
  have HLEN := Lib.hid hlen
  unfold sv
  obtain ⟨kz, hkz⟩ : ∃ kz : Int, ((2 : Nat) : Int) = kz := ⟨_, rfl⟩
  rw [hkz]
  have e0 : (kz == 0) = false := by simp; omega
  have e1 : (kz == 1) = false := by simp; omega
  have e2 : (kz == 2) = true := by simp; omega
  have e7 : (kz == 7) = false := by simp; omega
  have e3 : (kz == 3) = false := by simp; omega
  have e4 : (kz == 4) = false := by simp; omega
  have e5 : (kz == 5) = false := by simp; omega
  have e6 : (kz == 6) = false := by simp; omega
  have e8 : (kz == 8) = false := by simp; omega
  obtain ⟨w1, hw1⟩ : ∃ w1, w1 = (w.alloc (.cells #[.int .u8 kz, .int .i64 m', .slice na ns.length nc, .slice a' n c'] 32)).alloc (.cells #[.int .i64 N, .float .f64 f, .string ⟨s.toArray⟩, .slice va 0 cap] 37) := ⟨_, rfl⟩
  have f1 : Fr (fun _ => False) w w1 := by rw [hw1]; exact ((Fr.refl _ _).alloc _).alloc _
  have q1 : w1.heap[w.heap.size]? = some (.cells #[.int .u8 kz, .int .i64 m', .slice na ns.length nc, .slice a' n c'] 32 (0, 0)) := by rw [hw1]; exact heap_alloc_first _ _ _
  have v1 : w1.heap[w.heap.size + 1]? = some (.cells #[.int .i64 N, .float .f64 f, .string ⟨s.toArray⟩, .slice va 0 cap] 37 (0, 0)) := by rw [hw1]; exact heap_alloc_two _ _ _
  have H1 := Lib.hid f1
  have HADD := Lib.hid (add_any B fb m nv acc N w1 (hst.fr f1 (fun h => h) (fun _ _ h => h)) (by omega) (Nat.le_trans hB f1.size))
  clear hst hlen hB hvs hVK ho hk hn ht hfit hR f1 hkz
  go_enter Try.func21, Try.ntmps21
  go_upto_region 1 with fail
  rw [← hw1]
  clear hw1
  obtain ⟨vb, hvb⟩ : ∃ vb, w.heap.size + 1 = vb := ⟨_, rfl⟩
  rw [hvb] at v1 ⊢
  clear hvb
  obtain ⟨c0, c1, c2, c3⟩ := cell_of_four q1
  obtain ⟨d0, d1, d2, d3⟩ := cell_of_four v1
  clear q1 v1
  go_wp2_with fail
  refine HADD.out.mono ?_
  rintro e w2 ⟨rfl, nv', h2, f2, hv2⟩
  have H2 := Lib.hid (And.intro h2 (And.intro f2 hv2))
  clear h2 f2 hv2 c0 c1 c2 c3 d0 d1 d2 d3
  go_wp2
  go_returns
  refine ⟨rfl, nv', ?_, (H1.out.mono (fun _ _ h => h.elim)).trans H2.out.2.1 (fun _ _ h => h), ?_⟩
  · rw [HE.out]
    exact H2.out.1
  · rcases H2.out.2.2 with h | ⟨g, h, hg⟩
    · exact .inl h
    · exact .inr ⟨g, h, Nat.le_trans H1.out.size hg⟩

set_option maxRecDepth 100000 in
set_option maxHeartbeats 16000000 in
theorem flat_k7 (k : Nat) (m' : Int) (ns : List Txt) (n : Nat) (of : Nat → KT) (hk0 : k = 7) : FlatAt (.mk k m' ns n of) := by
  intro R v vv w T B fb m nv acc hsh hvs hfit hst hR hlen hB
  obtain ⟨N, f, s, c, ov, va, cap, rfl, rfl, hVB, hVK⟩ := vshows_open hvs
  obtain ⟨vn, vo, rfl, hk, hn, ht, ho⟩ := hsh
  obtain ⟨na, nc, rfl, _⟩ := ht.shape
  obtain ⟨a', c', rfl⟩ : ∃ a' c', vo = .slice a' n c' := by
    rcases ho with ⟨rfl, a', c', rfl⟩ | ⟨g, off, cap, hg, rfl, hle, hc⟩
    · exact ⟨a', c', rfl⟩
    · exact ⟨_, cap, rfl⟩
  obtain ⟨hN0, hN1, hf64, hsl, hc5⟩ := hVB
  subst hk0
  have hc0 : c = 0 := by
    have h := hfit
    rw [fitsE, if_neg (by omega), if_neg (by omega), if_neg (by omega), if_neg (by omega), if_neg (by omega), if_pos rfl] at h
    rw [Bool.and_eq_true] at h
    have h2 := h.2
    unfold zeroV at h2
    rw [sameV] at h2
    simp only [Bool.and_eq_true, decide_eq_true_eq] at h2
    exact h2.1.2
  have HE : Hid (flE (.mk 7 m' ns n of) (.mk N f s c ov) = [N]) := Lib.hid (by have := hc0; subst this; rw [flE, if_neg (by omega), if_neg (by omega), if_neg (by omega), if_pos (by omega)]; rfl)
  subst hc0
  have HST := Lib.hid hst
  have HLEN := Lib.hid hlen
  unfold sv
  obtain ⟨kz, hkz⟩ : ∃ kz : Int, ((7 : Nat) : Int) = kz := ⟨_, rfl⟩
  rw [hkz]
  have e0 : (kz == 0) = false := by simp; omega
  have e1 : (kz == 1) = false := by simp; omega
  have e2 : (kz == 2) = false := by simp; omega
  have e7 : (kz == 7) = true := by simp; omega
  have e3 : (kz == 3) = false := by simp; omega
  have e4 : (kz == 4) = false := by simp; omega
  have e5 : (kz == 5) = false := by simp; omega
  have e6 : (kz == 6) = false := by simp; omega
  have e8 : (kz == 8) = false := by simp; omega
  obtain ⟨w1, hw1⟩ : ∃ w1, w1 = (w.alloc (.cells #[.int .u8 kz, .int .i64 m', .slice na ns.length nc, .slice a' n c'] 32)).alloc (.cells #[.int .i64 N, .float .f64 f, .string ⟨s.toArray⟩, .slice va 0 cap] 37) := ⟨_, rfl⟩
  have f1 : Fr (fun _ => False) w w1 := by rw [hw1]; exact ((Fr.refl _ _).alloc _).alloc _
  have q1 : w1.heap[w.heap.size]? = some (.cells #[.int .u8 kz, .int .i64 m', .slice na ns.length nc, .slice a' n c'] 32 (0, 0)) := by rw [hw1]; exact heap_alloc_first _ _ _
  have v1 : w1.heap[w.heap.size + 1]? = some (.cells #[.int .i64 N, .float .f64 f, .string ⟨s.toArray⟩, .slice va 0 cap] 37 (0, 0)) := by rw [hw1]; exact heap_alloc_two _ _ _
  have H1 := Lib.hid f1
  have HADD := Lib.hid (add_any B fb m nv acc N w1 (hst.fr f1 (fun h => h) (fun _ _ h => h)) (by omega) (Nat.le_trans hB f1.size))
  clear hst hlen hB hvs hVK ho hk hn ht hfit hR f1 hkz
  go_enter Try.func21, Try.ntmps21
  go_upto_region 1 with fail
  rw [← hw1]
  clear hw1
  obtain ⟨vb, hvb⟩ : ∃ vb, w.heap.size + 1 = vb := ⟨_, rfl⟩
  rw [hvb] at v1 ⊢
  clear hvb
  obtain ⟨c0, c1, c2, c3⟩ := cell_of_four q1
  obtain ⟨d0, d1, d2, d3⟩ := cell_of_four v1
  clear q1 v1
  go_wp2_with fail
  refine HADD.out.mono ?_
  rintro e w2 ⟨rfl, nv', h2, f2, hv2⟩
  have H2 := Lib.hid (And.intro h2 (And.intro f2 hv2))
  clear h2 f2 hv2 c0 c1 c2 c3 d0 d1 d2 d3
  go_wp2
  go_returns
  refine ⟨rfl, nv', ?_, (H1.out.mono (fun _ _ h => h.elim)).trans H2.out.2.1 (fun _ _ h => h), ?_⟩
  · rw [HE.out]
    exact H2.out.1
  · rcases H2.out.2.2 with h | ⟨g, h, hg⟩
    · exact .inl h
    · exact .inr ⟨g, h, Nat.le_trans H1.out.size hg⟩

set_option maxRecDepth 100000 in
set_option maxHeartbeats 16000000 in
theorem flat_k3 (k : Nat) (m' : Int) (ns : List Txt) (n : Nat) (of : Nat → KT) (hk0 : k = 3) : FlatAt (.mk k m' ns n of) := by
  intro R v vv w T B fb m nv acc hsh hvs hfit hst hR hlen hB
  obtain ⟨N, f, s, c, ov, va, cap, rfl, rfl, hVB, hVK⟩ := vshows_open hvs
  obtain ⟨vn, vo, rfl, hk, hn, ht, ho⟩ := hsh
  obtain ⟨na, nc, rfl, _⟩ := ht.shape
  obtain ⟨a', c', rfl⟩ : ∃ a' c', vo = .slice a' n c' := by
    rcases ho with ⟨rfl, a', c', rfl⟩ | ⟨g, off, cap, hg, rfl, hle, hc⟩
    · exact ⟨a', c', rfl⟩
    · exact ⟨_, cap, rfl⟩
  obtain ⟨hN0, hN1, hf64, hsl, hc5⟩ := hVB
  subst hk0
  have HE : Hid (flE (.mk 3 m' ns n of) (.mk N f s c ov) = [(Fl.whole f)]) := Lib.hid (by rw [flE, if_pos rfl])
  skip
  have HST := Lib.hid hst
  have HLEN := Lib.hid hlen
  unfold sv
  obtain ⟨kz, hkz⟩ : ∃ kz : Int, ((3 : Nat) : Int) = kz := ⟨_, rfl⟩
  rw [hkz]
  have e0 : (kz == 0) = false := by simp; omega
  have e1 : (kz == 1) = false := by simp; omega
  have e2 : (kz == 2) = false := by simp; omega
  have e7 : (kz == 7) = false := by simp; omega
  have e3 : (kz == 3) = true := by simp; omega
  have e4 : (kz == 4) = false := by simp; omega
  have e5 : (kz == 5) = false := by simp; omega
  have e6 : (kz == 6) = false := by simp; omega
  have e8 : (kz == 8) = false := by simp; omega
  obtain ⟨w1, hw1⟩ : ∃ w1, w1 = (w.alloc (.cells #[.int .u8 kz, .int .i64 m', .slice na ns.length nc, .slice a' n c'] 32)).alloc (.cells #[.int .i64 N, .float .f64 f, .string ⟨s.toArray⟩, .slice va c cap] 37) := ⟨_, rfl⟩
  have f1 : Fr (fun _ => False) w w1 := by rw [hw1]; exact ((Fr.refl _ _).alloc _).alloc _
  have q1 : w1.heap[w.heap.size]? = some (.cells #[.int .u8 kz, .int .i64 m', .slice na ns.length nc, .slice a' n c'] 32 (0, 0)) := by rw [hw1]; exact heap_alloc_first _ _ _
  have v1 : w1.heap[w.heap.size + 1]? = some (.cells #[.int .i64 N, .float .f64 f, .string ⟨s.toArray⟩, .slice va c cap] 37 (0, 0)) := by rw [hw1]; exact heap_alloc_two _ _ _
  have H1 := Lib.hid f1
  have HADD := Lib.hid (add_any B fb m nv acc (Fl.whole f) w1 (hst.fr f1 (fun h => h) (fun _ _ h => h)) (by omega) (Nat.le_trans hB f1.size))
  clear hst hlen hB hvs hVK ho hk hn ht hfit hR f1 hkz
  go_enter Try.func21, Try.ntmps21
  go_upto_region 1 with fail
  rw [← hw1]
  clear hw1
  obtain ⟨vb, hvb⟩ : ∃ vb, w.heap.size + 1 = vb := ⟨_, rfl⟩
  rw [hvb] at v1 ⊢
  clear hvb
  obtain ⟨c0, c1, c2, c3⟩ := cell_of_four q1
  obtain ⟨d0, d1, d2, d3⟩ := cell_of_four v1
  clear q1 v1
  go_wp2_with fail
  refine (rwhole_any f hf64 _).mono ?_
  rintro e wz ⟨rfl, rfl⟩
  go_wp2_with fail
  refine HADD.out.mono ?_
  rintro e w2 ⟨rfl, nv', h2, f2, hv2⟩
  have H2 := Lib.hid (And.intro h2 (And.intro f2 hv2))
  clear h2 f2 hv2 c0 c1 c2 c3 d0 d1 d2 d3
  go_wp2
  go_returns
  refine ⟨rfl, nv', ?_, (H1.out.mono (fun _ _ h => h.elim)).trans H2.out.2.1 (fun _ _ h => h), ?_⟩
  · rw [HE.out]
    exact H2.out.1
  · rcases H2.out.2.2 with h | ⟨g, h, hg⟩
    · exact .inl h
    · exact .inr ⟨g, h, Nat.le_trans H1.out.size hg⟩

set_option maxRecDepth 100000 in
set_option maxHeartbeats 16000000 in
theorem flat_k4 (k : Nat) (m' : Int) (ns : List Txt) (n : Nat) (of : Nat → KT) (hk0 : k = 4) : FlatAt (.mk k m' ns n of) := by
  intro R v vv w T B fb m nv acc hsh hvs hfit hst hR hlen hB
  obtain ⟨N, f, s, c, ov, va, cap, rfl, rfl, hVB, hVK⟩ := vshows_open hvs
  obtain ⟨vn, vo, rfl, hk, hn, ht, ho⟩ := hsh
  obtain ⟨na, nc, rfl, _⟩ := ht.shape
  obtain ⟨a', c', rfl⟩ : ∃ a' c', vo = .slice a' n c' := by
    rcases ho with ⟨rfl, a', c', rfl⟩ | ⟨g, off, cap, hg, rfl, hle, hc⟩
    · exact ⟨a', c', rfl⟩
    · exact ⟨_, cap, rfl⟩
  obtain ⟨hN0, hN1, hf64, hsl, hc5⟩ := hVB
  subst hk0
  have HE : Hid (flE (.mk 4 m' ns n of) (.mk N f s c ov) = [(s.length : Int)]) := Lib.hid (by rw [flE, if_neg (by omega), if_pos rfl])
  skip
  have HST := Lib.hid hst
  have HLEN := Lib.hid hlen
  unfold sv
  obtain ⟨kz, hkz⟩ : ∃ kz : Int, ((4 : Nat) : Int) = kz := ⟨_, rfl⟩
  rw [hkz]
  have e0 : (kz == 0) = false := by simp; omega
  have e1 : (kz == 1) = false := by simp; omega
  have e2 : (kz == 2) = false := by simp; omega
  have e7 : (kz == 7) = false := by simp; omega
  have e3 : (kz == 3) = false := by simp; omega
  have e4 : (kz == 4) = true := by simp; omega
  have e5 : (kz == 5) = false := by simp; omega
  have e6 : (kz == 6) = false := by simp; omega
  have e8 : (kz == 8) = false := by simp; omega
  obtain ⟨w1, hw1⟩ : ∃ w1, w1 = (w.alloc (.cells #[.int .u8 kz, .int .i64 m', .slice na ns.length nc, .slice a' n c'] 32)).alloc (.cells #[.int .i64 N, .float .f64 f, .string ⟨s.toArray⟩, .slice va c cap] 37) := ⟨_, rfl⟩
  have f1 : Fr (fun _ => False) w w1 := by rw [hw1]; exact ((Fr.refl _ _).alloc _).alloc _
  have q1 : w1.heap[w.heap.size]? = some (.cells #[.int .u8 kz, .int .i64 m', .slice na ns.length nc, .slice a' n c'] 32 (0, 0)) := by rw [hw1]; exact heap_alloc_first _ _ _
  have v1 : w1.heap[w.heap.size + 1]? = some (.cells #[.int .i64 N, .float .f64 f, .string ⟨s.toArray⟩, .slice va c cap] 37 (0, 0)) := by rw [hw1]; exact heap_alloc_two _ _ _
  have H1 := Lib.hid f1
  have HADD := Lib.hid (add_any B fb m nv acc (s.length : Int) w1 (hst.fr f1 (fun h => h) (fun _ _ h => h)) (by omega) (Nat.le_trans hB f1.size))
  clear hst hlen hB hvs hVK ho hk hn ht hfit hR f1 hkz
  go_enter Try.func21, Try.ntmps21
  go_upto_region 1 with fail
  rw [← hw1]
  clear hw1
  obtain ⟨vb, hvb⟩ : ∃ vb, w.heap.size + 1 = vb := ⟨_, rfl⟩
  rw [hvb] at v1 ⊢
  clear hvb
  obtain ⟨c0, c1, c2, c3⟩ := cell_of_four q1
  obtain ⟨d0, d1, d2, d3⟩ := cell_of_four v1
  clear q1 v1
  go_wp2_with fail
  refine HADD.out.mono ?_
  rintro e w2 ⟨rfl, nv', h2, f2, hv2⟩
  have H2 := Lib.hid (And.intro h2 (And.intro f2 hv2))
  clear h2 f2 hv2 c0 c1 c2 c3 d0 d1 d2 d3
  go_wp2
  go_returns
  refine ⟨rfl, nv', ?_, (H1.out.mono (fun _ _ h => h.elim)).trans H2.out.2.1 (fun _ _ h => h), ?_⟩
  · rw [HE.out]
    exact H2.out.1
  · rcases H2.out.2.2 with h | ⟨g, h, hg⟩
    · exact .inl h
    · exact .inr ⟨g, h, Nat.le_trans H1.out.size hg⟩

end Go.Proofs.Ythokfmmbiilllaa

/-
  package value: flatten where a value has parts.
-/
namespace Go.Proofs.Ythokfmmbiilllaa
open Go.RowKit
attribute [local go_sem] run_store_float
set_option linter.unusedVariables false
set_option linter.unusedSimpArgs false

/-- The numbers of the first j parts. -/
def partsF (g : Nat → List Int) (j : Nat) : List Int := ((List.range j).map g).flatten

theorem partsF_succ (g : Nat → List Int) (j : Nat) : partsF g (j + 1) = partsF g j ++ g j := by
  unfold partsF; rw [List.range_succ, List.map_append, List.flatten_append]; simp

theorem partsF_split (g : Nat → List Int) (j c : Nat) (h : j ≤ c) : ∃ r, partsF g c = partsF g j ++ r := by
  induction c with
  | zero => obtain rfl : j = 0 := by omega
            exact ⟨[], by simp⟩
  | succ c ih =>
    by_cases e : j = c + 1
    · subst e; exact ⟨[], by simp⟩
    · obtain ⟨r, hr⟩ := ih (by omega)
      exact ⟨r ++ g c, by rw [partsF_succ, hr, List.append_assoc]⟩

theorem partsF_len (g : Nat → List Int) (b : Nat → Nat) (h : ∀ i, (g i).length ≤ 2 * b i) (j : Nat) : (partsF g j).length ≤ 2 * ((List.range j).map b).sum := by
  induction j with
  | zero => simp [partsF]
  | succ j ih =>
    rw [partsF_succ, List.length_append, List.range_succ, List.map_append, List.sum_append]
    have := h j
    simp only [List.map_cons, List.map_nil, List.sum_cons, List.sum_nil, Nat.add_zero]
    omega

theorem fold_full (m : Int) (l : List Int) : ∀ acc, m ≤ (acc.length : Int) → l.foldl (addE m) acc = acc := by
  induction l with
  | nil => intro acc _; rfl
  | cons x l ih =>
    intro acc h
    rw [List.foldl_cons, show addE m acc x = acc by unfold addE; rw [if_pos h]]
    exact ih acc h

theorem addE_len (m : Int) (acc : List Int) (x : Int) : (addE m acc x).length ≤ acc.length + 1 := by
  unfold addE
  split
  · omega
  · simp

theorem fold_len (m : Int) (l : List Int) : ∀ acc, (l.foldl (addE m) acc).length ≤ acc.length + l.length := by
  induction l with
  | nil => intro acc; simp
  | cons x l ih =>
    intro acc
    rw [List.foldl_cons]
    have := ih (addE m acc x)
    have := addE_len m acc x
    simp only [List.length_cons]
    omega

theorem fl_len (t : KT) : ∀ T, (flE t T).length ≤ 2 * szV T := by
  induction t with
  | nil => intro T; simp [flE]
  | mk k m ns n of ih =>
    intro T
    cases T with
    | nil => simp [flE]
    | mk N f s c ov =>
      rw [flE, szV]
      split
      · simp; omega
      split
      · simp; omega
      rw [List.length_append, List.length_append]
      have h := partsF_len (fun i => flE (of (if k = 6 then i else if k = 8 then N.toNat else 0)) (ov i)) (fun i => szV (ov i)) (fun i => ih _ _) c
      unfold partsF at h
      have h1 : (if k = 5 then [(c : Int)] else []).length + (if k < 3 ∨ 6 < k then [N] else []).length ≤ 1 := by
        split <;> split <;> simp <;> omega
      omega

theorem own_lt {w : World} {B : Nat} {e : TypeId} {size : Nat} {v : Value} {n : Nat} {xs : List Value} (h : w.ownsRow B e size v n xs) : ∀ k, v.ownBlock = some k → k < w.heap.size := by
  intro k hk
  rcases h.2 with ⟨rfl, _⟩ | ⟨g, cap, cur, rfl, _, hg, _⟩
  · simp [Value.ownBlock] at hk
  · have e : g = k := by simpa [Value.ownBlock] using hk
    subst e
    exact (Array.getElem?_eq_some_iff.1 hg).1

/-- What goes on to hold while parts are flattened. -/
def FlIn (B fb : Nat) (w1 : World) (m : Int) (nv nv' : Value) (acc : List Int) (wx : World) : Prop :=
  FlSt B fb wx m nv' acc ∧ Fr (fun k => k = fb ∨ nv.ownBlock = some k) w1 wx ∧ (nv'.ownBlock = nv.ownBlock ∨ ∃ g, nv'.ownBlock = some g ∧ w1.heap.size ≤ g)

theorem FlIn.quiet {B fb : Nat} {w1 wx wy : World} {m : Int} {nv nv' : Value} {acc : List Int} (h : FlIn B fb w1 m nv nv' acc wx) (f : Fr (fun _ => False) wx wy) : FlIn B fb w1 m nv nv' acc wy :=
  ⟨h.1.fr f (fun h => h) (fun _ _ h => h), h.2.1.trans f (fun _ _ h => h.elim), h.2.2⟩

theorem FlIn.next {B fb : Nat} {w1 wx wy : World} {m : Int} {nv nv' nv'' : Value} {acc acc' : List Int} (h : FlIn B fb w1 m nv nv' acc wx) (h1 : FlSt B fb wy m nv'' acc') (f : Fr (fun k => k = fb ∨ nv'.ownBlock = some k) wx wy)
    (ho : nv''.ownBlock = nv'.ownBlock ∨ ∃ g, nv''.ownBlock = some g ∧ wx.heap.size ≤ g) : FlIn B fb w1 m nv nv'' acc' wy := by
  refine ⟨h1, h.2.1.trans f (fun i hi e => ?_), ?_⟩
  · rcases e with e | e
    · exact .inl e
    · rcases h.2.2 with h2 | ⟨g, h2, hg⟩
      · exact .inr (by rw [← h2]; exact e)
      · rw [h2] at e
        have := Option.some.inj e
        omega
  · rcases ho with h3 | ⟨g, h3, hg⟩
    · rw [h3]; exact h.2.2
    · exact .inr ⟨g, h3, Nat.le_trans h.2.1.size hg⟩

/-- Other memory than the flattener's. -/
theorem FlIn.off {B fb : Nat} {w1 wx : World} {m : Int} {nv nv' : Value} {acc : List Int} (h : FlIn B fb w1 m nv nv' acc wx) {k : Nat} (hk : k < w1.heap.size) (h1 : k ≠ fb) (h2 : nv.ownBlock ≠ some k) : nv'.ownBlock ≠ some k := by
  intro e
  rcases h.2.2 with h3 | ⟨g, h3, hg⟩
  · exact h2 (by rw [← h3]; exact e)
  · rw [h3] at e
    have := Option.some.inj e
    omega

/-- What holds while one part is flattened. -/
def FlS (B fb : Nat) (w1 : World) (m : Int) (nv nv' : Value) (acc acc2 : List Int) : List Value → World → Prop
  | [], wx => FlIn B fb w1 m nv nv' acc wx
  | _ :: _, wx => ∃ nv2, FlIn B fb w1 m nv nv2 acc2 wx

theorem FlS.fr {B fb : Nat} {w1 wx : World} {m : Int} {nv nv' : Value} {acc acc2 : List Int} {l : List Value} (h : FlS B fb w1 m nv nv' acc acc2 l wx) : Fr (fun k => k = fb ∨ nv.ownBlock = some k) w1 wx := by
  match l with
  | [] => exact h.2.1
  | _ :: _ => obtain ⟨_, h⟩ := h; exact h.2.1

theorem fits_seq {m : Int} {ns : List Txt} {n : Nat} {of : Nat → KT} {N : Int} {f : Nat} {s : Txt} {c : Nat} {ov : Nat → VT} (h : fitsE (.mk 5 m ns n of) (.mk N f s c ov) = true) : n = 1 ∧ ∀ i, i < c → fitsE (of 0) (ov i) = true := by
  rw [fitsE, if_neg (by omega), if_neg (by omega), if_neg (by omega), if_neg (by omega), if_neg (by omega), if_neg (by omega), if_pos rfl] at h
  simp only [Bool.and_eq_true, decide_eq_true_eq, List.all_eq_true, List.mem_range] at h
  exact ⟨h.1.2.1, h.1.2.2⟩

theorem fits_rec {m : Int} {ns : List Txt} {n : Nat} {of : Nat → KT} {N : Int} {f : Nat} {s : Txt} {c : Nat} {ov : Nat → VT} (h : fitsE (.mk 6 m ns n of) (.mk N f s c ov) = true) : c = n ∧ ∀ i, i < c → fitsE (of i) (ov i) = true := by
  rw [fitsE, if_neg (by omega), if_neg (by omega), if_neg (by omega), if_neg (by omega), if_neg (by omega), if_neg (by omega), if_neg (by omega), if_pos rfl] at h
  simp only [Bool.and_eq_true, decide_eq_true_eq, List.all_eq_true, List.mem_range] at h
  exact ⟨h.1.1, h.1.2⟩

theorem fits_cho {m : Int} {ns : List Txt} {n : Nat} {of : Nat → KT} {N : Int} {f : Nat} {s : Txt} {c : Nat} {ov : Nat → VT} (h : fitsE (.mk 8 m ns n of) (.mk N f s c ov) = true) : (0 ≤ N ∧ N ≤ (n : Int) - 1) ∧ c = 1 ∧ fitsE (of N.toNat) (ov 0) = true := by
  rw [fitsE, if_neg (by omega), if_neg (by omega), if_neg (by omega), if_neg (by omega), if_neg (by omega), if_neg (by omega), if_neg (by omega), if_neg (by omega), if_pos rfl] at h
  simp only [Bool.and_eq_true, decide_eq_true_eq] at h
  exact h.1

theorem sum_le_at (b : Nat → Nat) (j c : Nat) (h : j < c) : ((List.range j).map b).sum + b j ≤ ((List.range c).map b).sum := by
  induction c with
  | zero => omega
  | succ c ih =>
    rw [List.range_succ, List.map_append, List.sum_append]
    simp only [List.map_cons, List.map_nil, List.sum_cons, List.sum_nil, Nat.add_zero]
    by_cases e : j = c
    · subst e; exact Nat.le_refl _
    · have := ih (by omega)
      omega

set_option maxRecDepth 100000 in
set_option maxHeartbeats 32000000 in
theorem flat_k5 (k : Nat) (m' : Int) (ns : List Txt) (n : Nat) (of : Nat → KT) (ih : ∀ i, FlatAt (of i)) (hk0 : k = 5) : FlatAt (.mk k m' ns n of) := by
  intro R0 v vv w T B fb m nv acc hsh0 hvs0 hfit hst hR0 hlen hB
  obtain ⟨R, hRd⟩ : ∃ R : Nat → Prop, R = fun k => R0 k ∧ k < w.heap.size := ⟨_, rfl⟩
  have hR : ∀ k, R k → k ≠ fb ∧ nv.ownBlock ≠ some k := by rw [hRd]; exact fun k h => hR0 k h.1
  have hRw : ∀ k, R k → k < w.heap.size := by rw [hRd]; exact fun k h => h.2
  have hsh : Shows R w _ v := Shows.mono (fun k hk h => by rw [hRd]; exact ⟨h, hk⟩) _ _ hsh0
  have hvs : VShows R w T vv := VShows.mono (fun k hk h => by rw [hRd]; exact ⟨h, hk⟩) _ _ hvs0
  clear hsh0 hvs0 hR0 hRd
  obtain ⟨N, f, s, c, ov, va, cap, rfl, rfl, hVB, hVK⟩ := vshows_open hvs
  obtain ⟨vn, vo, rfl, hk, hn, ht, ho⟩ := hsh
  obtain ⟨na, nc, rfl, _⟩ := ht.shape
  obtain ⟨a', c', rfl, hs⟩ : ∃ a' c', vo = .slice a' n c' ∧ Kids R w of a' n c' := by
    rcases ho with ⟨rfl, a', c', rfl⟩ | ⟨g, off, cap, hg, rfl, hle, hc⟩
    · exact ⟨a', c', rfl, .inl rfl⟩
    · exact ⟨_, cap, rfl, .inr ⟨hle, g, off, hg, rfl, hc⟩⟩
  obtain ⟨hN0, hN1, hf64, hsl, hc5⟩ := hVB
  have hnl : n ≤ 1000 := hn
  subst hk0
  obtain ⟨hn1, hfk⟩ := fits_seq hfit
  have HE : Hid ((flE (.mk 5 m' ns n of) (.mk N f s c ov)).foldl (addE m) acc = (partsF (fun i => flE (of 0) (ov i)) c).foldl (addE m) (addE m acc (c : Int))) := Lib.hid (by rw [flE, if_neg (by omega), if_neg (by omega), if_pos rfl, if_neg (by omega)]; rfl)
  have HCN := Lib.hid hn1; clear hn1
  have HST := Lib.hid hst
  have hsum : ∀ j, j < c → 2 * ((List.range j).map fun i => szV (ov i)).sum + 2 * szV (ov j) + 2 ≤ 2 * szV (.mk N f s c ov) := by
    intro j hj
    have h := sum_le_at (fun i => szV (ov i)) j c hj
    rw [szV]
    omega
  have HLEN := Lib.hid (And.intro hlen hsum)
  have HFK := Lib.hid hfk
  have HS := Lib.hid hs
  have HVK := Lib.hid hVK
  have HR := Lib.hid (And.intro hR hRw)
  have HOWN := Lib.hid (own_lt hst.2.1)
  have HBW := Lib.hid hB
  have hfbl : fb < w.heap.size := lt_of_block hst.1
  unfold sv
  obtain ⟨kz, hkz⟩ : ∃ kz : Int, ((5 : Nat) : Int) = kz := ⟨_, rfl⟩
  rw [hkz]
  have e0 : (kz == 0) = false := by simp; omega
  have e1 : (kz == 1) = false := by simp; omega
  have e2 : (kz == 2) = false := by simp; omega
  have e7 : (kz == 7) = false := by simp; omega
  have e3 : (kz == 3) = false := by simp; omega
  have e4 : (kz == 4) = false := by simp; omega
  have e5 : (kz == 5) = true := by simp; omega
  have e6 : (kz == 6) = false := by simp; omega
  have e8 : (kz == 8) = false := by simp; omega
  obtain ⟨w1, hw1⟩ : ∃ w1, w1 = (w.alloc (.cells #[.int .u8 kz, .int .i64 m', .slice na ns.length nc, .slice a' n c'] 32)).alloc (.cells #[.int .i64 N, .float .f64 f, .string ⟨s.toArray⟩, .slice va c cap] 37) := ⟨_, rfl⟩
  have f1 : Fr (fun _ => False) w w1 := by rw [hw1]; exact ((Fr.refl _ _).alloc _).alloc _
  have q1 : w1.heap[w.heap.size]? = some (.cells #[.int .u8 kz, .int .i64 m', .slice na ns.length nc, .slice a' n c'] 32 (0, 0)) := by rw [hw1]; exact heap_alloc_first _ _ _
  have v1 : w1.heap[w.heap.size + 1]? = some (.cells #[.int .i64 N, .float .f64 f, .string ⟨s.toArray⟩, .slice va c cap] 37 (0, 0)) := by rw [hw1]; exact heap_alloc_two _ _ _
  have hst1 := hst.fr f1 (fun h => h) (fun _ _ h => h)
  have HSZ1 := Lib.hid f1.size
  clear hst hlen hB hvs hVK hs ho hk hn ht hfit hfk hR hRw hsum hkz
  go_enter Try.func21, Try.ntmps21
  go_upto_region 1 with fail
  rw [← hw1]
  clear hw1
  obtain ⟨vb, hvb⟩ : ∃ vb, w.heap.size + 1 = vb := ⟨_, rfl⟩
  rw [hvb] at v1 ⊢
  obtain ⟨tb, htb⟩ : ∃ tb, w.heap.size = tb := ⟨_, rfl⟩
  rw [htb] at q1 hfbl hvb ⊢
  have hvbl : vb < w1.heap.size := lt_of_block v1
  obtain ⟨c0, c1, c2, c3⟩ := cell_of_four q1
  obtain ⟨d0, d1, d2, d3⟩ := cell_of_four v1
  have H1 := Lib.hid (And.intro f1 (And.intro q1 (And.intro v1 (And.intro htb (And.intro hvb (And.intro hfbl hvbl))))))
  have HOFF : Hid (∀ k, k = tb ∨ k = vb → k ≠ fb ∧ nv.ownBlock ≠ some k) := Lib.hid (by
    intro k hk
    refine ⟨by omega, fun e => ?_⟩
    have := HOWN.out k e
    omega)
  clear f1 q1 v1 htb hvb hfbl hvbl
  have hadd := add_any B fb m nv acc (c : Int) w1 hst1 (by have := HLEN.out.1; omega) (Nat.le_trans HBW.out HSZ1.out)
  clear hst1
  go_wp2_with fail
  refine hadd.mono ?_
  rintro e w2 ⟨rfl, nv1, hst2, f2, hv2⟩
  have H2 : Hid (FlIn B fb w1 m nv nv1 (addE m acc (c : Int)) w2) := Lib.hid ⟨hst2, f2, hv2⟩
  clear hadd hst2 f2 hv2 c0 c1 c2 c3 d0 d1 d2 d3
  go_wp2
  go_loopg [6] c (fun G u6 wr => ∃ (j : Nat) (nv' : Value), j ≤ c ∧ G = c - j ∧ u6 = .int .i64 j ∧ Hid (FlIn B fb w1 m nv nv' ((partsF (fun i => flE (of (0)) (ov i)) j).foldl (addE m) (addE m acc (c : Int))) wr))
  case atStart => exact ⟨0, nv1, Nat.zero_le _, rfl, by go_num, H2⟩
  case round =>
    obtain ⟨j, nv', hj, rfl, rfl, HI⟩ := hrel
    have hoffv : ¬ (vb = fb ∨ nv.ownBlock = some vb) := fun h => by have hh := HOFF.out vb (.inr rfl); rcases h with h | h; exact hh.1 h; exact hh.2 h
    have d3 := cells_row (box_kept H1.out.2.2.1 HI.out.2.1 hoffv) 3 _ rfl
    have hend : ∀ (wz : World), FlIn B fb w1 m nv nv' ((partsF (fun i => flE (of (0)) (ov i)) j).foldl (addE m) (addE m acc (c : Int))) wz → ((partsF (fun i => flE (of (0)) (ov i)) j).foldl (addE m) (addE m acc (c : Int)) = (partsF (fun i => flE (of 0) (ov i)) c).foldl (addE m) (addE m acc (c : Int))) → ∃ nv2, FlSt B fb wz m nv2 ((flE (.mk 5 m' ns n of) (.mk N f s c ov)).foldl (addE m) acc) ∧ Fr (fun k => k = fb ∨ nv.ownBlock = some k) w wz ∧ (nv2.ownBlock = nv.ownBlock ∨ ∃ g, nv2.ownBlock = some g ∧ w.heap.size ≤ g) := by
      intro wz h e
      refine ⟨nv', ?_, (H1.out.1.mono (fun _ _ h => h.elim)).trans h.2.1 (fun _ _ h => h), ?_⟩
      · rw [HE.out, ← e]; exact h.1
      · rcases h.2.2 with h | ⟨g, h, hg⟩
        · exact .inl h
        · exact .inr ⟨g, h, Nat.le_trans HSZ1.out hg⟩
    have HEND := Lib.hid hend
    clear hend hoffv
    by_cases hlt : j < c
    · have hfull := full_any B fb m nv' _ wr HI.out.1
      have jc : (j : Int) < (c : Int) := by omega
      by_cases hm : m ≤ ((((partsF (fun i => flE (of (0)) (ov i)) j).foldl (addE m) (addE m acc (c : Int))).length : Nat) : Int)
      · rw [decide_eq_true hm] at hfull
        have HM := Lib.hid hm
        clear hm
        go_wp2_with fail
        refine hfull.mono ?_
        rintro e w3 ⟨rfl, f3⟩
        have F3 := Lib.hid f3
        clear f3 hfull d3
        go_wp2
        go_returns
        refine ⟨rfl, HEND.out _ (HI.out.quiet F3.out) ?_⟩
        obtain ⟨r, hr⟩ := partsF_split (fun i => flE (of (0)) (ov i)) j c hj
        rw [hr, List.foldl_append, fold_full m r _ HM.out]
      · rw [decide_eq_false hm] at hfull
        clear hm
        have HLT := Lib.hid hlt
        rcases HS.out with hz | ⟨hcap, g, off, hg, rfl, hcell⟩
        · (try have := HCN.out); omega
        rcases HVK.out with hz | ⟨hvcap, gv, ov', hgv, rfl, hvcell⟩
        · omega
        obtain ⟨x0, x1, x2, x3, y0, y1, y2, y3, hx⟩ := hcell 0 (by have := HCN.out; omega)
        obtain ⟨s0, s1, s2, s3, r0, r1, r2, r3, hsv⟩ := hvcell j (hlt)
        obtain ⟨xk, xm, xa, xn, xc, xa', xn', xc', rfl, rfl, rfl, rfl⟩ := hx.cells
        obtain ⟨zn, zf, zs, za, zc, zcap, es⟩ := hsv.lit
        simp only [Value.agg.injEq, Array.mk.injEq, List.cons.injEq, and_true] at es
        obtain ⟨rfl, rfl, rfl, rfl⟩ := es
        simp only [Nat.zero_mul, Nat.add_zero] at y0 y1 y2 y3
        have HY := Lib.hid (And.intro hg (And.intro y0 (And.intro y1 (And.intro y2 y3))))
        have HZ := Lib.hid (And.intro hgv (And.intro r0 (And.intro r1 (And.intro r2 r3))))
        have HX := Lib.hid (And.intro hx hsv)
        clear hcell hvcell hx hsv y0 y1 y2 y3 r0 r1 r2 r3
        have jn : 0 < n := by have := HCN.out; omega
        go_wp2_with fail
        refine hfull.mono ?_
        rintro e w3 ⟨rfl, f3⟩
        have H3 : Hid (FlIn B fb w1 m nv nv' ((partsF (fun i => flE (of (0)) (ov i)) j).foldl (addE m) (addE m acc (c : Int))) w3) := Lib.hid (HI.out.quiet f3)
        clear f3 hfull d3
        go_upto_region 16 with fail
        refine wp_region_chain (by kernel_rfl) [some 52, some 53, some 54, some 55, some 56, some 57, some 58, some 59, some 60, some 61, some 62] rfl (by decide) (by intro d hd; simp at hd ⊢; omega)
          [10] (FlS B fb w1 m nv nv' ((partsF (fun i => flE (of (0)) (ov i)) j).foldl (addE m) (addE m acc (c : Int))) ((flE (of 0) (ov j)).foldl (addE m) ((partsF (fun i => flE (of (0)) (ov i)) j).foldl (addE m) (addE m acc (c : Int)))))
          [.free (.pointer (some ⟨fb, 0, none⟩)), .free (.pointer (some ⟨tb, 3, none⟩)), .free (.slice (some ⟨g, off, none⟩) n c'), .free (.pointer (some ⟨g, off, none⟩)), .free (.agg #[.int .u8 xk, .int .i64 xm, .slice xa xn xc, .slice xa' xn' xc']), .free (.pointer (some ⟨vb, 3, none⟩)), .free (.slice (some ⟨gv, ov', none⟩) c cap), .free (.int .i64 j), .free (.pointer (some ⟨gv, ov' + j * 4, none⟩)), .free (.agg #[.int .i64 zn, .float .f64 zf, .string zs, .slice za zc zcap]), .link (some (.tuple #[]))]
          (by kernel_rfl) (by kernel_rfl) ?h0 ?step ?fin
        case h0 => exact H3.out.quiet (Fr.refl _ _).drew
        case step =>
          intro vals2
          simp only [frOfU, fillU, List.setIfInBounds_toArray, List.set_cons_succ, List.set_cons_zero]
          repeat' (first | exact AllOps.nil | refine AllOps.cons ?_ ?_)
          all_goals
            intro cvs wx hS he hu hlim K hK
            simp only [Act.put, List.setIfInBounds_toArray, List.set_cons_succ, List.set_cons_zero, List.getD_cons_zero, List.getD_cons_succ] at hK
            simp only [List.mem_cons, List.not_mem_nil, or_false, forall_eq_or_imp, forall_eq, Region.binds, forall_const, vmode_gc, Bool.false_eq_true, false_imp_iff, List.getD_cons_zero, List.getD_cons_succ, OpSort.val, Option.some.injEq, forall_eq', reduceCtorEq, implies_true, true_and, and_true] at he
          all_goals first | (clear hS hlim hu; (try simp only [he] at hK ⊢); go_simp; exact hK) | skip
          · have HSX := Lib.hid hS
            clear hS hlim hu
            have l3 := cells_row (box_kept H1.out.2.1 HSX.out.fr (fun h => by have hh := HOFF.out tb (.inl rfl); rcases h with h | h; exact hh.1 h; exact hh.2 h)) 3 _ rfl
            simp only [he] at hK ⊢
            go_simp
            exact hK
          · have HSX := Lib.hid hS
            clear hS hlim hu
            have r0 := cell_fr HSX.out.fr (fun k hk h => by rcases h with h | h; exact (HR.out.1 k hk).1 h; exact (HR.out.1 k hk).2 h) HY.out.1 (cell_fr H1.out.1 (fun _ _ h => h) HY.out.1 HY.out.2.1)
            have r1 := cell_fr HSX.out.fr (fun k hk h => by rcases h with h | h; exact (HR.out.1 k hk).1 h; exact (HR.out.1 k hk).2 h) HY.out.1 (cell_fr H1.out.1 (fun _ _ h => h) HY.out.1 HY.out.2.2.1)
            have r2 := cell_fr HSX.out.fr (fun k hk h => by rcases h with h | h; exact (HR.out.1 k hk).1 h; exact (HR.out.1 k hk).2 h) HY.out.1 (cell_fr H1.out.1 (fun _ _ h => h) HY.out.1 HY.out.2.2.2.1)
            have r3 := cell_fr HSX.out.fr (fun k hk h => by rcases h with h | h; exact (HR.out.1 k hk).1 h; exact (HR.out.1 k hk).2 h) HY.out.1 (cell_fr H1.out.1 (fun _ _ h => h) HY.out.1 HY.out.2.2.2.2)
            simp only [he] at hK ⊢
            go_simp
            exact hK
          · have HSX := Lib.hid hS
            clear hS hlim hu
            have l3 := cells_row (box_kept H1.out.2.2.1 HSX.out.fr (fun h => by have hh := HOFF.out vb (.inr rfl); rcases h with h | h; exact hh.1 h; exact hh.2 h)) 3 _ rfl
            simp only [he] at hK ⊢
            go_simp
            exact hK
          · have HSX := Lib.hid hS
            clear hS hlim hu
            have r0 := cell_fr HSX.out.fr (fun k hk h => by rcases h with h | h; exact (HR.out.1 k hk).1 h; exact (HR.out.1 k hk).2 h) HZ.out.1 (cell_fr H1.out.1 (fun _ _ h => h) HZ.out.1 HZ.out.2.1)
            have r1 := cell_fr HSX.out.fr (fun k hk h => by rcases h with h | h; exact (HR.out.1 k hk).1 h; exact (HR.out.1 k hk).2 h) HZ.out.1 (cell_fr H1.out.1 (fun _ _ h => h) HZ.out.1 HZ.out.2.2.1)
            have r2 := cell_fr HSX.out.fr (fun k hk h => by rcases h with h | h; exact (HR.out.1 k hk).1 h; exact (HR.out.1 k hk).2 h) HZ.out.1 (cell_fr H1.out.1 (fun _ _ h => h) HZ.out.1 HZ.out.2.2.2.1)
            have r3 := cell_fr HSX.out.fr (fun k hk h => by rcases h with h | h; exact (HR.out.1 k hk).1 h; exact (HR.out.1 k hk).2 h) HZ.out.1 (cell_fr H1.out.1 (fun _ _ h => h) HZ.out.1 HZ.out.2.2.2.2)
            simp only [he] at hK ⊢
            go_simp
            exact hK
          · obtain rfl := hlim (0 : Nat) rfl
            simp only [List.take_zero, List.map_nil] at hS
            have HSX : Hid (FlIn B fb w1 m nv nv' ((partsF (fun i => flE (of (0)) (ov i)) j).foldl (addE m) (addE m acc (c : Int))) wx) := Lib.hid hS
            clear hS hlim hu
            simp only [he] at hK ⊢
            go_simp
            go_at_call 21
            have hoff : ∀ k, R k → ¬ (k = fb ∨ nv.ownBlock = some k) := fun k hk h => by rcases h with h | h; exact (HR.out.1 k hk).1 h; exact (HR.out.1 k hk).2 h
            refine (ih 0 R _ _ wx (ov j) B fb m nv' ((partsF (fun i => flE (of (0)) (ov i)) j).foldl (addE m) (addE m acc (c : Int))) (Shows.fr HSX.out.2.1 hoff _ _ (Shows.fr H1.out.1 (fun _ _ h => h) _ _ HX.out.1)) (VShows.fr HSX.out.2.1 hoff _ _ (VShows.fr H1.out.1 (fun _ _ h => h) _ _ HX.out.2)) (HFK.out j HLT.out) HSX.out.1 (fun k hk => ⟨(HR.out.1 k hk).1, HSX.out.off (by have := HR.out.2 k hk; have := HSZ1.out; omega) (HR.out.1 k hk).1 (HR.out.1 k hk).2⟩) (by have h1 := HLEN.out.1; have h2 := HLEN.out.2 j HLT.out; have h3 := fold_len m (partsF (fun i => flE (of (0)) (ov i)) j) (addE m acc (c : Int)); have h4 := partsF_len (fun i => flE (of (0)) (ov i)) (fun i => szV (ov i)) (fun i => fl_len _ _) j; have h5 := addE_len m acc (c : Int); omega) (Nat.le_trans HBW.out (Nat.le_trans HSZ1.out HSX.out.2.1.size))).mono ?_
            rintro er wa ⟨rfl, nv2, hs2, fa, ho2⟩
            exact hK _ _ (fun _ h => by cases h; rfl) ⟨nv2, HSX.out.next hs2 fa ho2⟩

        case fin =>
          intro vals2 w4 hS hV
          clear hV
          obtain ⟨nv2, h4⟩ : ∃ nv2, FlIn B fb w1 m nv nv2 ((flE (of 0) (ov j)).foldl (addE m) ((partsF (fun i => flE (of (0)) (ov i)) j).foldl (addE m) (addE m acc (c : Int)))) w4 := hS
          have H4 : Hid (FlIn B fb w1 m nv nv2 ((partsF (fun i => flE (of (0)) (ov i)) (j + 1)).foldl (addE m) (addE m acc (c : Int))) w4) := Lib.hid (by rw [partsF_succ, List.foldl_append]; exact h4)
          clear h4
          simp only [frOfU, fillU, List.setIfInBounds_toArray, List.set_cons_succ, List.set_cons_zero]
          go_wp2
          go_roundg (c - (j + 1))
          case measure => have := HLT.out; omega
          case rel => exact ⟨j + 1, nv2, HLT.out, rfl, by go_num, H4⟩
    · obtain rfl : j = c := by omega
      have jc : ¬ (j : Int) < (j : Int) := by omega
      go_wp2
      go_returns
      first | exact ⟨rfl, HEND.out _ HI.out rfl⟩ | exact ⟨rfl, HEND.out _ HI.out trivial⟩

set_option maxRecDepth 100000 in
set_option maxHeartbeats 32000000 in
theorem flat_k6 (k : Nat) (m' : Int) (ns : List Txt) (n : Nat) (of : Nat → KT) (ih : ∀ i, FlatAt (of i)) (hk0 : k = 6) : FlatAt (.mk k m' ns n of) := by
  intro R0 v vv w T B fb m nv acc hsh0 hvs0 hfit hst hR0 hlen hB
  obtain ⟨R, hRd⟩ : ∃ R : Nat → Prop, R = fun k => R0 k ∧ k < w.heap.size := ⟨_, rfl⟩
  have hR : ∀ k, R k → k ≠ fb ∧ nv.ownBlock ≠ some k := by rw [hRd]; exact fun k h => hR0 k h.1
  have hRw : ∀ k, R k → k < w.heap.size := by rw [hRd]; exact fun k h => h.2
  have hsh : Shows R w _ v := Shows.mono (fun k hk h => by rw [hRd]; exact ⟨h, hk⟩) _ _ hsh0
  have hvs : VShows R w T vv := VShows.mono (fun k hk h => by rw [hRd]; exact ⟨h, hk⟩) _ _ hvs0
  clear hsh0 hvs0 hR0 hRd
  obtain ⟨N, f, s, c, ov, va, cap, rfl, rfl, hVB, hVK⟩ := vshows_open hvs
  obtain ⟨vn, vo, rfl, hk, hn, ht, ho⟩ := hsh
  obtain ⟨na, nc, rfl, _⟩ := ht.shape
  obtain ⟨a', c', rfl, hs⟩ : ∃ a' c', vo = .slice a' n c' ∧ Kids R w of a' n c' := by
    rcases ho with ⟨rfl, a', c', rfl⟩ | ⟨g, off, cap, hg, rfl, hle, hc⟩
    · exact ⟨a', c', rfl, .inl rfl⟩
    · exact ⟨_, cap, rfl, .inr ⟨hle, g, off, hg, rfl, hc⟩⟩
  obtain ⟨hN0, hN1, hf64, hsl, hc5⟩ := hVB
  have hnl : n ≤ 1000 := hn
  subst hk0
  obtain ⟨hcn, hfk⟩ := fits_rec hfit
  have HE : Hid ((flE (.mk 6 m' ns n of) (.mk N f s c ov)).foldl (addE m) acc = (partsF (fun i => flE (of i) (ov i)) c).foldl (addE m) acc) := Lib.hid (by rw [flE, if_neg (by omega), if_neg (by omega), if_neg (by omega), if_neg (by omega)]; rfl)
  have HCN := Lib.hid hcn; clear hcn
  have HST := Lib.hid hst
  have hsum : ∀ j, j < c → 2 * ((List.range j).map fun i => szV (ov i)).sum + 2 * szV (ov j) + 2 ≤ 2 * szV (.mk N f s c ov) := by
    intro j hj
    have h := sum_le_at (fun i => szV (ov i)) j c hj
    rw [szV]
    omega
  have HLEN := Lib.hid (And.intro hlen hsum)
  have HFK := Lib.hid hfk
  have HS := Lib.hid hs
  have HVK := Lib.hid hVK
  have HR := Lib.hid (And.intro hR hRw)
  have HOWN := Lib.hid (own_lt hst.2.1)
  have HBW := Lib.hid hB
  have hfbl : fb < w.heap.size := lt_of_block hst.1
  unfold sv
  obtain ⟨kz, hkz⟩ : ∃ kz : Int, ((6 : Nat) : Int) = kz := ⟨_, rfl⟩
  rw [hkz]
  have e0 : (kz == 0) = false := by simp; omega
  have e1 : (kz == 1) = false := by simp; omega
  have e2 : (kz == 2) = false := by simp; omega
  have e7 : (kz == 7) = false := by simp; omega
  have e3 : (kz == 3) = false := by simp; omega
  have e4 : (kz == 4) = false := by simp; omega
  have e5 : (kz == 5) = false := by simp; omega
  have e6 : (kz == 6) = true := by simp; omega
  have e8 : (kz == 8) = false := by simp; omega
  obtain ⟨w1, hw1⟩ : ∃ w1, w1 = (w.alloc (.cells #[.int .u8 kz, .int .i64 m', .slice na ns.length nc, .slice a' n c'] 32)).alloc (.cells #[.int .i64 N, .float .f64 f, .string ⟨s.toArray⟩, .slice va c cap] 37) := ⟨_, rfl⟩
  have f1 : Fr (fun _ => False) w w1 := by rw [hw1]; exact ((Fr.refl _ _).alloc _).alloc _
  have q1 : w1.heap[w.heap.size]? = some (.cells #[.int .u8 kz, .int .i64 m', .slice na ns.length nc, .slice a' n c'] 32 (0, 0)) := by rw [hw1]; exact heap_alloc_first _ _ _
  have v1 : w1.heap[w.heap.size + 1]? = some (.cells #[.int .i64 N, .float .f64 f, .string ⟨s.toArray⟩, .slice va c cap] 37 (0, 0)) := by rw [hw1]; exact heap_alloc_two _ _ _
  have hst1 := hst.fr f1 (fun h => h) (fun _ _ h => h)
  have HSZ1 := Lib.hid f1.size
  clear hst hlen hB hvs hVK hs ho hk hn ht hfit hfk hR hRw hsum hkz
  go_enter Try.func21, Try.ntmps21
  go_upto_region 1 with fail
  rw [← hw1]
  clear hw1
  obtain ⟨vb, hvb⟩ : ∃ vb, w.heap.size + 1 = vb := ⟨_, rfl⟩
  rw [hvb] at v1 ⊢
  obtain ⟨tb, htb⟩ : ∃ tb, w.heap.size = tb := ⟨_, rfl⟩
  rw [htb] at q1 hfbl hvb ⊢
  have hvbl : vb < w1.heap.size := lt_of_block v1
  obtain ⟨c0, c1, c2, c3⟩ := cell_of_four q1
  obtain ⟨d0, d1, d2, d3⟩ := cell_of_four v1
  have H1 := Lib.hid (And.intro f1 (And.intro q1 (And.intro v1 (And.intro htb (And.intro hvb (And.intro hfbl hvbl))))))
  have HOFF : Hid (∀ k, k = tb ∨ k = vb → k ≠ fb ∧ nv.ownBlock ≠ some k) := Lib.hid (by
    intro k hk
    refine ⟨by omega, fun e => ?_⟩
    have := HOWN.out k e
    omega)
  clear f1 q1 v1 htb hvb hfbl hvbl
  have H2 : Hid (FlIn B fb w1 m nv nv acc w1) := Lib.hid ⟨hst1, Fr.refl _ _, .inl rfl⟩
  obtain ⟨nv1, hnv1⟩ : ∃ nv1, nv1 = nv := ⟨_, rfl⟩
  obtain ⟨w2, hw2⟩ : ∃ w2, w2 = w1 := ⟨_, rfl⟩
  rw [← hw2]
  have H2 : Hid (FlIn B fb w1 m nv nv1 acc w2) := Lib.hid (by rw [hnv1, hw2]; exact H2.out)
  have c0 := c0
  rw [← hw2] at c0
  clear hst1 hnv1 c1 c2 c3 d0 d1 d2 d3 hw2
  go_wp2
  go_loopg [7] c (fun G u7 wr => ∃ (j : Nat) (nv' : Value), j ≤ c ∧ G = c - j ∧ u7 = .int .i64 j ∧ Hid (FlIn B fb w1 m nv nv' ((partsF (fun i => flE (of (i)) (ov i)) j).foldl (addE m) (acc)) wr))
  case atStart => exact ⟨0, nv1, Nat.zero_le _, rfl, by go_num, H2⟩
  case round =>
    obtain ⟨j, nv', hj, rfl, rfl, HI⟩ := hrel
    have hoffv : ¬ (vb = fb ∨ nv.ownBlock = some vb) := fun h => by have hh := HOFF.out vb (.inr rfl); rcases h with h | h; exact hh.1 h; exact hh.2 h
    have d3 := cells_row (box_kept H1.out.2.2.1 HI.out.2.1 hoffv) 3 _ rfl
    have hend : ∀ (wz : World), FlIn B fb w1 m nv nv' ((partsF (fun i => flE (of (i)) (ov i)) j).foldl (addE m) (acc)) wz → ((partsF (fun i => flE (of (i)) (ov i)) j).foldl (addE m) (acc) = (partsF (fun i => flE (of i) (ov i)) c).foldl (addE m) acc) → ∃ nv2, FlSt B fb wz m nv2 ((flE (.mk 6 m' ns n of) (.mk N f s c ov)).foldl (addE m) acc) ∧ Fr (fun k => k = fb ∨ nv.ownBlock = some k) w wz ∧ (nv2.ownBlock = nv.ownBlock ∨ ∃ g, nv2.ownBlock = some g ∧ w.heap.size ≤ g) := by
      intro wz h e
      refine ⟨nv', ?_, (H1.out.1.mono (fun _ _ h => h.elim)).trans h.2.1 (fun _ _ h => h), ?_⟩
      · rw [HE.out, ← e]; exact h.1
      · rcases h.2.2 with h | ⟨g, h, hg⟩
        · exact .inl h
        · exact .inr ⟨g, h, Nat.le_trans HSZ1.out hg⟩
    have HEND := Lib.hid hend
    clear hend hoffv
    by_cases hlt : j < c
    · have hfull := full_any B fb m nv' _ wr HI.out.1
      have jc : (j : Int) < (c : Int) := by omega
      by_cases hm : m ≤ ((((partsF (fun i => flE (of (i)) (ov i)) j).foldl (addE m) (acc)).length : Nat) : Int)
      · rw [decide_eq_true hm] at hfull
        have HM := Lib.hid hm
        clear hm
        go_wp2_with fail
        refine hfull.mono ?_
        rintro e w3 ⟨rfl, f3⟩
        have F3 := Lib.hid f3
        clear f3 hfull d3
        go_wp2
        go_returns
        refine ⟨rfl, HEND.out _ (HI.out.quiet F3.out) ?_⟩
        obtain ⟨r, hr⟩ := partsF_split (fun i => flE (of (i)) (ov i)) j c hj
        rw [hr, List.foldl_append, fold_full m r _ HM.out]
      · rw [decide_eq_false hm] at hfull
        clear hm
        have HLT := Lib.hid hlt
        rcases HS.out with hz | ⟨hcap, g, off, hg, rfl, hcell⟩
        · (try have := HCN.out); omega
        rcases HVK.out with hz | ⟨hvcap, gv, ov', hgv, rfl, hvcell⟩
        · omega
        obtain ⟨x0, x1, x2, x3, y0, y1, y2, y3, hx⟩ := hcell j (by have := HCN.out; omega)
        obtain ⟨s0, s1, s2, s3, r0, r1, r2, r3, hsv⟩ := hvcell j (hlt)
        obtain ⟨xk, xm, xa, xn, xc, xa', xn', xc', rfl, rfl, rfl, rfl⟩ := hx.cells
        obtain ⟨zn, zf, zs, za, zc, zcap, es⟩ := hsv.lit
        simp only [Value.agg.injEq, Array.mk.injEq, List.cons.injEq, and_true] at es
        obtain ⟨rfl, rfl, rfl, rfl⟩ := es
        have HY := Lib.hid (And.intro hg (And.intro y0 (And.intro y1 (And.intro y2 y3))))
        have HZ := Lib.hid (And.intro hgv (And.intro r0 (And.intro r1 (And.intro r2 r3))))
        have HX := Lib.hid (And.intro hx hsv)
        clear hcell hvcell hx hsv y0 y1 y2 y3 r0 r1 r2 r3
        have jn : (j : Int) < (n : Int) := by have := HCN.out; omega
        go_wp2_with fail
        refine hfull.mono ?_
        rintro e w3 ⟨rfl, f3⟩
        have H3 : Hid (FlIn B fb w1 m nv nv' ((partsF (fun i => flE (of (i)) (ov i)) j).foldl (addE m) (acc)) w3) := Lib.hid (HI.out.quiet f3)
        clear f3 hfull d3
        go_upto_region 21 with fail
        refine wp_region_chain (by kernel_rfl) [some 77, some 78, some 79, some 80, some 81, some 82, some 83, some 84, some 85, some 86, some 87, some 88] rfl (by decide) (by intro d hd; simp at hd ⊢; omega)
          [11] (FlS B fb w1 m nv nv' ((partsF (fun i => flE (of (i)) (ov i)) j).foldl (addE m) (acc)) ((flE (of j) (ov j)).foldl (addE m) ((partsF (fun i => flE (of (i)) (ov i)) j).foldl (addE m) (acc))))
          [.free (.pointer (some ⟨fb, 0, none⟩)), .free (.pointer (some ⟨tb, 3, none⟩)), .free (.slice (some ⟨g, off, none⟩) n c'), .free (.int .i64 j), .free (.pointer (some ⟨g, off + j * 4, none⟩)), .free (.agg #[.int .u8 xk, .int .i64 xm, .slice xa xn xc, .slice xa' xn' xc']), .free (.pointer (some ⟨vb, 3, none⟩)), .free (.slice (some ⟨gv, ov', none⟩) c cap), .free (.int .i64 j), .free (.pointer (some ⟨gv, ov' + j * 4, none⟩)), .free (.agg #[.int .i64 zn, .float .f64 zf, .string zs, .slice za zc zcap]), .link (some (.tuple #[]))]
          (by kernel_rfl) (by kernel_rfl) ?h0 ?step ?fin
        case h0 => exact H3.out.quiet (Fr.refl _ _).drew
        case step =>
          intro vals2
          simp only [frOfU, fillU, List.setIfInBounds_toArray, List.set_cons_succ, List.set_cons_zero]
          repeat' (first | exact AllOps.nil | refine AllOps.cons ?_ ?_)
          all_goals
            intro cvs wx hS he hu hlim K hK
            simp only [Act.put, List.setIfInBounds_toArray, List.set_cons_succ, List.set_cons_zero, List.getD_cons_zero, List.getD_cons_succ] at hK
            simp only [List.mem_cons, List.not_mem_nil, or_false, forall_eq_or_imp, forall_eq, Region.binds, forall_const, vmode_gc, Bool.false_eq_true, false_imp_iff, List.getD_cons_zero, List.getD_cons_succ, OpSort.val, Option.some.injEq, forall_eq', reduceCtorEq, implies_true, true_and, and_true] at he
          all_goals first | (clear hS hlim hu; (try simp only [he] at hK ⊢); go_simp; exact hK) | skip
          · have HSX := Lib.hid hS
            clear hS hlim hu
            have l3 := cells_row (box_kept H1.out.2.1 HSX.out.fr (fun h => by have hh := HOFF.out tb (.inl rfl); rcases h with h | h; exact hh.1 h; exact hh.2 h)) 3 _ rfl
            simp only [he] at hK ⊢
            go_simp
            exact hK
          · have HSX := Lib.hid hS
            clear hS hlim hu
            have r0 := cell_fr HSX.out.fr (fun k hk h => by rcases h with h | h; exact (HR.out.1 k hk).1 h; exact (HR.out.1 k hk).2 h) HY.out.1 (cell_fr H1.out.1 (fun _ _ h => h) HY.out.1 HY.out.2.1)
            have r1 := cell_fr HSX.out.fr (fun k hk h => by rcases h with h | h; exact (HR.out.1 k hk).1 h; exact (HR.out.1 k hk).2 h) HY.out.1 (cell_fr H1.out.1 (fun _ _ h => h) HY.out.1 HY.out.2.2.1)
            have r2 := cell_fr HSX.out.fr (fun k hk h => by rcases h with h | h; exact (HR.out.1 k hk).1 h; exact (HR.out.1 k hk).2 h) HY.out.1 (cell_fr H1.out.1 (fun _ _ h => h) HY.out.1 HY.out.2.2.2.1)
            have r3 := cell_fr HSX.out.fr (fun k hk h => by rcases h with h | h; exact (HR.out.1 k hk).1 h; exact (HR.out.1 k hk).2 h) HY.out.1 (cell_fr H1.out.1 (fun _ _ h => h) HY.out.1 HY.out.2.2.2.2)
            simp only [he] at hK ⊢
            go_simp
            exact hK
          · have HSX := Lib.hid hS
            clear hS hlim hu
            have l3 := cells_row (box_kept H1.out.2.2.1 HSX.out.fr (fun h => by have hh := HOFF.out vb (.inr rfl); rcases h with h | h; exact hh.1 h; exact hh.2 h)) 3 _ rfl
            simp only [he] at hK ⊢
            go_simp
            exact hK
          · have HSX := Lib.hid hS
            clear hS hlim hu
            have r0 := cell_fr HSX.out.fr (fun k hk h => by rcases h with h | h; exact (HR.out.1 k hk).1 h; exact (HR.out.1 k hk).2 h) HZ.out.1 (cell_fr H1.out.1 (fun _ _ h => h) HZ.out.1 HZ.out.2.1)
            have r1 := cell_fr HSX.out.fr (fun k hk h => by rcases h with h | h; exact (HR.out.1 k hk).1 h; exact (HR.out.1 k hk).2 h) HZ.out.1 (cell_fr H1.out.1 (fun _ _ h => h) HZ.out.1 HZ.out.2.2.1)
            have r2 := cell_fr HSX.out.fr (fun k hk h => by rcases h with h | h; exact (HR.out.1 k hk).1 h; exact (HR.out.1 k hk).2 h) HZ.out.1 (cell_fr H1.out.1 (fun _ _ h => h) HZ.out.1 HZ.out.2.2.2.1)
            have r3 := cell_fr HSX.out.fr (fun k hk h => by rcases h with h | h; exact (HR.out.1 k hk).1 h; exact (HR.out.1 k hk).2 h) HZ.out.1 (cell_fr H1.out.1 (fun _ _ h => h) HZ.out.1 HZ.out.2.2.2.2)
            simp only [he] at hK ⊢
            go_simp
            exact hK
          · obtain rfl := hlim (0 : Nat) rfl
            simp only [List.take_zero, List.map_nil] at hS
            have HSX : Hid (FlIn B fb w1 m nv nv' ((partsF (fun i => flE (of (i)) (ov i)) j).foldl (addE m) (acc)) wx) := Lib.hid hS
            clear hS hlim hu
            simp only [he] at hK ⊢
            go_simp
            go_at_call 21
            have hoff : ∀ k, R k → ¬ (k = fb ∨ nv.ownBlock = some k) := fun k hk h => by rcases h with h | h; exact (HR.out.1 k hk).1 h; exact (HR.out.1 k hk).2 h
            refine (ih j R _ _ wx (ov j) B fb m nv' ((partsF (fun i => flE (of (i)) (ov i)) j).foldl (addE m) (acc)) (Shows.fr HSX.out.2.1 hoff _ _ (Shows.fr H1.out.1 (fun _ _ h => h) _ _ HX.out.1)) (VShows.fr HSX.out.2.1 hoff _ _ (VShows.fr H1.out.1 (fun _ _ h => h) _ _ HX.out.2)) (HFK.out j HLT.out) HSX.out.1 (fun k hk => ⟨(HR.out.1 k hk).1, HSX.out.off (by have := HR.out.2 k hk; have := HSZ1.out; omega) (HR.out.1 k hk).1 (HR.out.1 k hk).2⟩) (by have h1 := HLEN.out.1; have h2 := HLEN.out.2 j HLT.out; have h3 := fold_len m (partsF (fun i => flE (of (i)) (ov i)) j) (acc); have h4 := partsF_len (fun i => flE (of (i)) (ov i)) (fun i => szV (ov i)) (fun i => fl_len _ _) j; omega) (Nat.le_trans HBW.out (Nat.le_trans HSZ1.out HSX.out.2.1.size))).mono ?_
            rintro er wa ⟨rfl, nv2, hs2, fa, ho2⟩
            exact hK _ _ (fun _ h => by cases h; rfl) ⟨nv2, HSX.out.next hs2 fa ho2⟩

        case fin =>
          intro vals2 w4 hS hV
          clear hV
          obtain ⟨nv2, h4⟩ : ∃ nv2, FlIn B fb w1 m nv nv2 ((flE (of j) (ov j)).foldl (addE m) ((partsF (fun i => flE (of (i)) (ov i)) j).foldl (addE m) (acc))) w4 := hS
          have H4 : Hid (FlIn B fb w1 m nv nv2 ((partsF (fun i => flE (of (i)) (ov i)) (j + 1)).foldl (addE m) (acc)) w4) := Lib.hid (by rw [partsF_succ, List.foldl_append]; exact h4)
          clear h4
          simp only [frOfU, fillU, List.setIfInBounds_toArray, List.set_cons_succ, List.set_cons_zero]
          go_wp2
          go_roundg (c - (j + 1))
          case measure => have := HLT.out; omega
          case rel => exact ⟨j + 1, nv2, HLT.out, rfl, by go_num, H4⟩
    · obtain rfl : j = c := by omega
      have jc : ¬ (j : Int) < (j : Int) := by omega
      go_wp2
      go_returns
      first | exact ⟨rfl, HEND.out _ HI.out rfl⟩ | exact ⟨rfl, HEND.out _ HI.out trivial⟩

set_option maxRecDepth 100000 in
set_option maxHeartbeats 32000000 in
theorem flat_k8 (k : Nat) (m' : Int) (ns : List Txt) (n : Nat) (of : Nat → KT) (ih : ∀ i, FlatAt (of i)) (hk0 : k = 8) : FlatAt (.mk k m' ns n of) := by
  intro R0 v vv w T B fb m nv acc hsh0 hvs0 hfit hst hR0 hlen hB
  obtain ⟨R, hRd⟩ : ∃ R : Nat → Prop, R = fun k => R0 k ∧ k < w.heap.size := ⟨_, rfl⟩
  have hR : ∀ k, R k → k ≠ fb ∧ nv.ownBlock ≠ some k := by rw [hRd]; exact fun k h => hR0 k h.1
  have hRw : ∀ k, R k → k < w.heap.size := by rw [hRd]; exact fun k h => h.2
  have hsh : Shows R w _ v := Shows.mono (fun k hk h => by rw [hRd]; exact ⟨h, hk⟩) _ _ hsh0
  have hvs : VShows R w T vv := VShows.mono (fun k hk h => by rw [hRd]; exact ⟨h, hk⟩) _ _ hvs0
  clear hsh0 hvs0 hR0 hRd
  obtain ⟨N, f, s, c, ov, va, cap, rfl, rfl, hVB, hVK⟩ := vshows_open hvs
  obtain ⟨vn, vo, rfl, hk, hn, ht, ho⟩ := hsh
  obtain ⟨na, nc, rfl, _⟩ := ht.shape
  obtain ⟨a', c', rfl, hs⟩ : ∃ a' c', vo = .slice a' n c' ∧ Kids R w of a' n c' := by
    rcases ho with ⟨rfl, a', c', rfl⟩ | ⟨g, off, cap, hg, rfl, hle, hc⟩
    · exact ⟨a', c', rfl, .inl rfl⟩
    · exact ⟨_, cap, rfl, .inr ⟨hle, g, off, hg, rfl, hc⟩⟩
  obtain ⟨hN0, hN1, hf64, hsl, hc5⟩ := hVB
  have hnl : n ≤ 1000 := hn
  subst hk0
  obtain ⟨⟨hx0, hxn⟩, hc1, hfk⟩ := fits_cho hfit
  have HE : Hid ((flE (.mk 8 m' ns n of) (.mk N f s c ov)).foldl (addE m) acc = (flE (of N.toNat) (ov 0)).foldl (addE m) (addE m acc N)) := Lib.hid (by rw [hc1, flE, if_neg (by omega), if_neg (by omega), if_neg (by omega), if_pos (by omega)]; simp)
  subst hc1
  have HST := Lib.hid hst
  have hsum : ∀ j, j < 1 → 2 * ((List.range j).map fun i => szV (ov i)).sum + 2 * szV (ov j) + 2 ≤ 2 * szV (.mk N f s 1 ov) := by
    intro j hj
    have h := sum_le_at (fun i => szV (ov i)) j 1 hj
    rw [szV]
    omega
  have HLEN := Lib.hid (And.intro hlen hsum)
  have HFK := Lib.hid hfk
  have HS := Lib.hid hs
  have HVK := Lib.hid hVK
  have HR := Lib.hid (And.intro hR hRw)
  have HOWN := Lib.hid (own_lt hst.2.1)
  have HBW := Lib.hid hB
  have hfbl : fb < w.heap.size := lt_of_block hst.1
  unfold sv
  obtain ⟨kz, hkz⟩ : ∃ kz : Int, ((8 : Nat) : Int) = kz := ⟨_, rfl⟩
  rw [hkz]
  have e0 : (kz == 0) = false := by simp; omega
  have e1 : (kz == 1) = false := by simp; omega
  have e2 : (kz == 2) = false := by simp; omega
  have e7 : (kz == 7) = false := by simp; omega
  have e3 : (kz == 3) = false := by simp; omega
  have e4 : (kz == 4) = false := by simp; omega
  have e5 : (kz == 5) = false := by simp; omega
  have e6 : (kz == 6) = false := by simp; omega
  have e8 : (kz == 8) = true := by simp; omega
  obtain ⟨w1, hw1⟩ : ∃ w1, w1 = (w.alloc (.cells #[.int .u8 kz, .int .i64 m', .slice na ns.length nc, .slice a' n c'] 32)).alloc (.cells #[.int .i64 N, .float .f64 f, .string ⟨s.toArray⟩, .slice va 1 cap] 37) := ⟨_, rfl⟩
  have f1 : Fr (fun _ => False) w w1 := by rw [hw1]; exact ((Fr.refl _ _).alloc _).alloc _
  have q1 : w1.heap[w.heap.size]? = some (.cells #[.int .u8 kz, .int .i64 m', .slice na ns.length nc, .slice a' n c'] 32 (0, 0)) := by rw [hw1]; exact heap_alloc_first _ _ _
  have v1 : w1.heap[w.heap.size + 1]? = some (.cells #[.int .i64 N, .float .f64 f, .string ⟨s.toArray⟩, .slice va 1 cap] 37 (0, 0)) := by rw [hw1]; exact heap_alloc_two _ _ _
  have hst1 := hst.fr f1 (fun h => h) (fun _ _ h => h)
  have HSZ1 := Lib.hid f1.size
  clear hst hlen hB hvs hVK hs ho hk hn ht hfit hfk hR hRw hsum hkz
  go_enter Try.func21, Try.ntmps21
  go_upto_region 1 with fail
  rw [← hw1]
  clear hw1
  obtain ⟨vb, hvb⟩ : ∃ vb, w.heap.size + 1 = vb := ⟨_, rfl⟩
  rw [hvb] at v1 ⊢
  obtain ⟨tb, htb⟩ : ∃ tb, w.heap.size = tb := ⟨_, rfl⟩
  rw [htb] at q1 hfbl hvb ⊢
  have hvbl : vb < w1.heap.size := lt_of_block v1
  obtain ⟨c0, c1, c2, c3⟩ := cell_of_four q1
  obtain ⟨d0, d1, d2, d3⟩ := cell_of_four v1
  have H1 := Lib.hid (And.intro f1 (And.intro q1 (And.intro v1 (And.intro htb (And.intro hvb (And.intro hfbl hvbl))))))
  have HOFF : Hid (∀ k, k = tb ∨ k = vb → k ≠ fb ∧ nv.ownBlock ≠ some k) := Lib.hid (by
    intro k hk
    refine ⟨by omega, fun e => ?_⟩
    have := HOWN.out k e
    omega)
  clear f1 q1 v1 htb hvb hfbl hvbl
  have hadd := add_any B fb m nv acc N w1 hst1 (by have := HLEN.out.1; omega) (Nat.le_trans HBW.out HSZ1.out)
  clear hst1
  go_wp2_with fail
  refine hadd.mono ?_
  rintro e w2 ⟨rfl, nv1, hst2, f2, hv2⟩
  have H2 : Hid (FlIn B fb w1 m nv nv1 (addE m acc N) w2) := Lib.hid ⟨hst2, f2, hv2⟩
  clear hadd hst2 f2 hv2 c0 c1 c2 c3 d0 d1 d2 d3
  obtain ⟨x, rfl⟩ : ∃ x : Nat, N = (x : Int) := ⟨N.toNat, by omega⟩
  simp only [Int.toNat_natCast] at HE HFK
  have xn0 : (x : Int) < (n : Int) := by omega
  have x00 : (0 : Int) ≤ (x : Int) := by omega
  have hxl : x < n := by omega
  rcases HS.out with hz | ⟨hcap, g, off, hg, rfl, hcell⟩
  · (try have := HCN.out); omega
  rcases HVK.out with hz | ⟨hvcap, gv, ov', hgv, rfl, hvcell⟩
  · omega
  obtain ⟨x0, x1, x2, x3, y0, y1, y2, y3, hx⟩ := hcell x (hxl)
  obtain ⟨s0, s1, s2, s3, r0, r1, r2, r3, hsv⟩ := hvcell 0 (by omega)
  obtain ⟨xk, xm, xa, xn, xc, xa', xn', xc', rfl, rfl, rfl, rfl⟩ := hx.cells
  obtain ⟨zn, zf, zs, za, zc, zcap, es⟩ := hsv.lit
  simp only [Value.agg.injEq, Array.mk.injEq, List.cons.injEq, and_true] at es
  obtain ⟨rfl, rfl, rfl, rfl⟩ := es
  simp only [Nat.zero_mul, Nat.add_zero] at r0 r1 r2 r3
  have HY := Lib.hid (And.intro hg (And.intro y0 (And.intro y1 (And.intro y2 y3))))
  have HZ := Lib.hid (And.intro hgv (And.intro r0 (And.intro r1 (And.intro r2 r3))))
  have HX := Lib.hid (And.intro hx hsv)
  clear hcell hvcell hx hsv y0 y1 y2 y3 r0 r1 r2 r3
  go_upto_region 24 with fail
  refine wp_region_chain (by kernel_rfl) [some 95, some 96, some 97, some 98, some 99, some 100, some 101, some 102, some 103, some 104, some 105, some 106] rfl (by decide) (by intro d hd; simp at hd ⊢; omega)
    [11] (FlS B fb w1 m nv nv1 (addE m acc (x : Int)) ((flE (of x) (ov 0)).foldl (addE m) (addE m acc (x : Int))))
    [.free (.pointer (some ⟨fb, 0, none⟩)), .free (.pointer (some ⟨tb, 3, none⟩)), .free (.slice (some ⟨g, off, none⟩) n c'), .free (.pointer (some ⟨vb, 0, none⟩)), .free (.int .i64 x), .free (.pointer (some ⟨g, off + x * 4, none⟩)), .free (.agg #[.int .u8 xk, .int .i64 xm, .slice xa xn xc, .slice xa' xn' xc']), .free (.pointer (some ⟨vb, 3, none⟩)), .free (.slice (some ⟨gv, ov', none⟩) 1 cap), .free (.pointer (some ⟨gv, ov', none⟩)), .free (.agg #[.int .i64 zn, .float .f64 zf, .string zs, .slice za zc zcap]), .link (some (.tuple #[]))]
    (by kernel_rfl) (by kernel_rfl) ?h0 ?step ?fin
  case h0 => exact H2.out.quiet (Fr.refl _ _).drew
  case step =>
    intro vals2
    simp only [frOfU, fillU, List.setIfInBounds_toArray, List.set_cons_succ, List.set_cons_zero]
    repeat' (first | exact AllOps.nil | refine AllOps.cons ?_ ?_)
    all_goals
      intro cvs wx hS he hu hlim K hK
      simp only [Act.put, List.setIfInBounds_toArray, List.set_cons_succ, List.set_cons_zero, List.getD_cons_zero, List.getD_cons_succ] at hK
      simp only [List.mem_cons, List.not_mem_nil, or_false, forall_eq_or_imp, forall_eq, Region.binds, forall_const, vmode_gc, Bool.false_eq_true, false_imp_iff, List.getD_cons_zero, List.getD_cons_succ, OpSort.val, Option.some.injEq, forall_eq', reduceCtorEq, implies_true, true_and, and_true] at he
    all_goals first | (clear hS hlim hu; (try simp only [he] at hK ⊢); go_simp; exact hK) | skip
    · have HSX := Lib.hid hS
      clear hS hlim hu
      have l3 := cells_row (box_kept H1.out.2.1 HSX.out.fr (fun h => by have hh := HOFF.out tb (.inl rfl); rcases h with h | h; exact hh.1 h; exact hh.2 h)) 3 _ rfl
      simp only [he] at hK ⊢
      go_simp
      exact hK
    · have HSX := Lib.hid hS
      clear hS hlim hu
      have l0 := cells_row (box_kept H1.out.2.2.1 HSX.out.fr (fun h => by have hh := HOFF.out vb (.inr rfl); rcases h with h | h; exact hh.1 h; exact hh.2 h)) 0 _ rfl
      simp only [he] at hK ⊢
      go_simp
      exact hK
    · have HSX := Lib.hid hS
      clear hS hlim hu
      have r0 := cell_fr HSX.out.fr (fun k hk h => by rcases h with h | h; exact (HR.out.1 k hk).1 h; exact (HR.out.1 k hk).2 h) HY.out.1 (cell_fr H1.out.1 (fun _ _ h => h) HY.out.1 HY.out.2.1)
      have r1 := cell_fr HSX.out.fr (fun k hk h => by rcases h with h | h; exact (HR.out.1 k hk).1 h; exact (HR.out.1 k hk).2 h) HY.out.1 (cell_fr H1.out.1 (fun _ _ h => h) HY.out.1 HY.out.2.2.1)
      have r2 := cell_fr HSX.out.fr (fun k hk h => by rcases h with h | h; exact (HR.out.1 k hk).1 h; exact (HR.out.1 k hk).2 h) HY.out.1 (cell_fr H1.out.1 (fun _ _ h => h) HY.out.1 HY.out.2.2.2.1)
      have r3 := cell_fr HSX.out.fr (fun k hk h => by rcases h with h | h; exact (HR.out.1 k hk).1 h; exact (HR.out.1 k hk).2 h) HY.out.1 (cell_fr H1.out.1 (fun _ _ h => h) HY.out.1 HY.out.2.2.2.2)
      simp only [he] at hK ⊢
      go_simp
      exact hK
    · have HSX := Lib.hid hS
      clear hS hlim hu
      have l3 := cells_row (box_kept H1.out.2.2.1 HSX.out.fr (fun h => by have hh := HOFF.out vb (.inr rfl); rcases h with h | h; exact hh.1 h; exact hh.2 h)) 3 _ rfl
      simp only [he] at hK ⊢
      go_simp
      exact hK
    · have HSX := Lib.hid hS
      clear hS hlim hu
      have r0 := cell_fr HSX.out.fr (fun k hk h => by rcases h with h | h; exact (HR.out.1 k hk).1 h; exact (HR.out.1 k hk).2 h) HZ.out.1 (cell_fr H1.out.1 (fun _ _ h => h) HZ.out.1 HZ.out.2.1)
      have r1 := cell_fr HSX.out.fr (fun k hk h => by rcases h with h | h; exact (HR.out.1 k hk).1 h; exact (HR.out.1 k hk).2 h) HZ.out.1 (cell_fr H1.out.1 (fun _ _ h => h) HZ.out.1 HZ.out.2.2.1)
      have r2 := cell_fr HSX.out.fr (fun k hk h => by rcases h with h | h; exact (HR.out.1 k hk).1 h; exact (HR.out.1 k hk).2 h) HZ.out.1 (cell_fr H1.out.1 (fun _ _ h => h) HZ.out.1 HZ.out.2.2.2.1)
      have r3 := cell_fr HSX.out.fr (fun k hk h => by rcases h with h | h; exact (HR.out.1 k hk).1 h; exact (HR.out.1 k hk).2 h) HZ.out.1 (cell_fr H1.out.1 (fun _ _ h => h) HZ.out.1 HZ.out.2.2.2.2)
      simp only [he] at hK ⊢
      go_simp
      exact hK
    · obtain rfl := hlim (0 : Nat) rfl
      simp only [List.take_zero, List.map_nil] at hS
      have HSX : Hid (FlIn B fb w1 m nv nv1 (addE m acc (x : Int)) wx) := Lib.hid hS
      clear hS hlim hu
      simp only [he] at hK ⊢
      go_simp
      go_at_call 21
      have hoff : ∀ k, R k → ¬ (k = fb ∨ nv.ownBlock = some k) := fun k hk h => by rcases h with h | h; exact (HR.out.1 k hk).1 h; exact (HR.out.1 k hk).2 h
      refine (ih x R _ _ wx (ov 0) B fb m nv1 (addE m acc (x : Int)) (Shows.fr HSX.out.2.1 hoff _ _ (Shows.fr H1.out.1 (fun _ _ h => h) _ _ HX.out.1)) (VShows.fr HSX.out.2.1 hoff _ _ (VShows.fr H1.out.1 (fun _ _ h => h) _ _ HX.out.2)) (HFK.out) HSX.out.1 (fun k hk => ⟨(HR.out.1 k hk).1, HSX.out.off (by have := HR.out.2 k hk; have := HSZ1.out; omega) (HR.out.1 k hk).1 (HR.out.1 k hk).2⟩) (by have h1 := HLEN.out.1; have h2 := HLEN.out.2 0 (by omega); have := addE_len m acc (x : Int); omega) (Nat.le_trans HBW.out (Nat.le_trans HSZ1.out HSX.out.2.1.size))).mono ?_
      rintro er wa ⟨rfl, nv2, hs2, fa, ho2⟩
      exact hK _ _ (fun _ h => by cases h; rfl) ⟨nv2, HSX.out.next hs2 fa ho2⟩

  case fin =>
    intro vals2 w3 hS hV
    clear hV
    obtain ⟨nv2, h3⟩ : ∃ nv2, FlIn B fb w1 m nv nv2 ((flE (of x) (ov 0)).foldl (addE m) (addE m acc (x : Int))) w3 := hS
    have H3 := Lib.hid h3
    clear h3
    simp only [frOfU, fillU, List.setIfInBounds_toArray, List.set_cons_succ, List.set_cons_zero]
    go_wp2
    go_returns
    refine ⟨rfl, nv2, ?_, (H1.out.1.mono (fun _ _ h => h.elim)).trans H3.out.2.1 (fun _ _ h => h), ?_⟩
    · rw [HE.out]
      exact H3.out.1
    · rcases H3.out.2.2 with h | ⟨g, h, hg⟩
      · exact .inl h
      · exact .inr ⟨g, h, Nat.le_trans HSZ1.out hg⟩

theorem flat_any (t : KT) : FlatAt t := by
  induction t with
  | nil => exact fun _ _ _ _ _ _ _ _ _ _ h => h.elim
  | mk k m ns n of ih =>
    by_cases h9 : 9 ≤ k
    · intro R v vv w T B fb mm nv acc hsh hvs hfit
      obtain ⟨N, f, s, c, ov, va, cap, rfl, rfl, hVB, hVK⟩ := vshows_open hvs
      rw [fitsE, if_neg (by omega), if_neg (by omega), if_neg (by omega), if_neg (by omega), if_neg (by omega), if_neg (by omega), if_neg (by omega), if_neg (by omega), if_neg (by omega)] at hfit
      cases hfit
    · rcases (by omega : k = 0 ∨ k = 1 ∨ k = 2 ∨ k = 3 ∨ k = 4 ∨ k = 5 ∨ k = 6 ∨ k = 7 ∨ k = 8) with h | h | h | h | h | h | h | h | h
      · exact flat_k0 k m ns n of h
      · exact flat_k1 k m ns n of h
      · exact flat_k2 k m ns n of h
      · exact flat_k3 k m ns n of h
      · exact flat_k4 k m ns n of h
      · exact flat_k5 k m ns n of ih h
      · exact flat_k6 k m ns n of ih h
      · exact flat_k7 k m ns n of h
      · exact flat_k8 k m ns n of ih h

/-- THE FIRST NUMBERS OF A VALUE. -/
def flatE (t : KT) (T : VT) (m : Int) : List Int := (flE t T).foldl (addE m) []

set_option maxRecDepth 100000 in
set_option maxHeartbeats 16000000 in
theorem Flat_any (R : Nat → Prop) (t : KT) (T : VT) (v vv : Value) (w : World) (mz : Int) (hsh0 : Shows R w t v) (hvs0 : VShows R w T vv) (hsz : szV T ≤ 100000) (h0 : isVal t T = true) :
    Calls Try.prog 13 #[v, vv, .int .i64 mz] w fun e w' => ∃ nv, e = .returned nv ∧ w'.ownsRow w.heap.size 2 1 nv (flatE t T mz).length ((flatE t T mz).map (Value.int .i64)) ∧ Fr (fun _ => False) w w' := by
  have hsh : Shows (fun k => k < w.heap.size) w t v := Shows.mono (fun k hk _ => hk) _ _ hsh0
  have hvs : VShows (fun k => k < w.heap.size) w T vv := VShows.mono (fun k hk _ => hk) _ _ hvs0
  obtain ⟨k, m, a, n, c, a', n', c', rfl⟩ := hsh.four
  obtain ⟨N, f, s, va, vc, cap, rfl⟩ := hvs.lit
  obtain ⟨w1, hw1⟩ : ∃ w1, w1 = (w.alloc (.cells #[.int .u8 k, .int .i64 m, .slice a n c, .slice a' n' c'] 32)).alloc (.cells #[.int .i64 N, .float .f64 f, .string s, .slice va vc cap] 37) := ⟨_, rfl⟩
  have f1 : Fr (fun _ => False) w w1 := by rw [hw1]; exact ((Fr.refl _ _).alloc _).alloc _
  have q1 : w1.heap[w.heap.size]? = some (.cells #[.int .u8 k, .int .i64 m, .slice a n c, .slice a' n' c'] 32 (0, 0)) := by rw [hw1]; exact heap_alloc_first _ _ _
  have v1 : w1.heap[w.heap.size + 1]? = some (.cells #[.int .i64 N, .float .f64 f, .string s, .slice va vc cap] 37 (0, 0)) := by rw [hw1]; exact heap_alloc_two _ _ _
  have hchk := vcheck_any _ t T _ _ w1 (Shows.fr f1 (fun _ _ h => h) _ _ hsh) (VShows.fr f1 (fun _ _ h => h) _ _ hvs) hsz
  have hval : valE t T = 0 := by unfold valE; rw [h0]; rfl
  rw [hval] at hchk
  have hfit : fitsE t T = true := by unfold isVal at h0; rw [Bool.and_eq_true] at h0; exact h0.2
  have H1 := Lib.hid (And.intro f1 (And.intro q1 v1))
  have H0 := Lib.hid (And.intro hsh (And.intro hvs (And.intro hsz hfit)))
  clear hsh hvs hsz h0 f1 hsh0 hvs0 hval hfit
  obtain ⟨c0, c1, c2, c3⟩ := cell_of_four q1
  obtain ⟨d0, d1, d2, d3⟩ := cell_of_four v1
  clear q1 v1
  go_enter Try.func13, Try.ntmps13
  go_upto_region 1 with fail
  rw [← hw1]
  clear hw1
  go_wp2_with fail
  refine hchk.mono ?_
  rintro e w2 ⟨rfl, f2⟩
  obtain ⟨w3, hw3⟩ : ∃ w3, w3 = w2.alloc (.cells #[.slice none 0 0, .int .i64 mz] 69) := ⟨_, rfl⟩
  have f3 : Fr (fun _ => False) w2 w3 := by rw [hw3]; exact (Fr.refl _ _).alloc _
  have q3 : w3.heap[w2.heap.size]? = some (.cells #[.slice none 0 0, .int .i64 mz] 69 (0, 0)) := by rw [hw3]; exact heap_alloc_new _ _
  have f03 := (H1.out.1.trans f2 (fun _ _ h => h)).trans f3 (fun _ _ h => h)
  have hsz2 := (H1.out.1.trans f2 (fun _ _ h => h)).size
  have hst : FlSt w.heap.size w2.heap.size w3 mz (.slice none 0 0) [] := ⟨q3, ⟨rfl, .inl ⟨rfl, rfl⟩⟩, fun k hk => by simp [Value.ownBlock] at hk⟩
  have hfl := flat_any t (fun k => k < w.heap.size) _ _ w3 T w.heap.size w2.heap.size mz (.slice none 0 0) [] (Shows.fr f03 (fun _ _ h => h) _ _ H0.out.1) (VShows.fr f03 (fun _ _ h => h) _ _ H0.out.2.1) H0.out.2.2.2 hst (fun k hk => ⟨by omega, by simp [Value.ownBlock]⟩) (by have := H0.out.2.2.1; simp; omega) f03.size
  have t3 := box_kept (box_kept H1.out.2.1 f2 (fun h => h)) f3 (fun h => h)
  have u3 := box_kept (box_kept H1.out.2.2 f2 (fun h => h)) f3 (fun h => h)
  have H3 := Lib.hid (And.intro f03 hsz2)
  clear f2 hchk c0 c1 c2 c3 d0 d1 d2 d3 f3 q3 hst f03 hsz2
  obtain ⟨c0, c1, c2, c3⟩ := cell_of_four t3
  obtain ⟨d0, d1, d2, d3⟩ := cell_of_four u3
  clear t3 u3
  go_upto_region 4 with fail
  rw [← hw3]
  clear hw3
  obtain ⟨fb, hfb⟩ : ∃ fb, w2.heap.size = fb := ⟨_, rfl⟩
  rw [hfb] at hfl H3 ⊢
  clear hfb
  go_wp2_with fail
  refine hfl.mono ?_
  rintro e w4 ⟨rfl, nv, hs4, f4, ho4⟩
  obtain ⟨na, nc, rfl⟩ := slice_of_own hs4.2.1
  have r0 := cells_row hs4.1 0 _ rfl
  have H4 := Lib.hid (And.intro hs4.2.1 (H3.out.1.trans f4 (fun i hi e => by
    have := H3.out.2
    rcases e with e | e
    · omega
    · simp [Value.ownBlock] at e)))
  clear hfl hs4 f4 ho4 c0 c1 c2 c3 d0 d1 d2 d3
  go_wp2
  go_ret
  exact ⟨_, rfl, H4.out.1, H4.out.2⟩

end Go.Proofs.Ythokfmmbiilllaa

/-
  Pure: a survey of a type of the laws goes through; what is built is a value of the type; what is built of no numbers, or of noughts, has noughts only; the first numbers.
-/
namespace Go.Proofs.Ythokfmmbiilllaa
open Go.RowKit
set_option linter.unusedVariables false
set_option linter.unusedSimpArgs false

theorem fold_all (m : Int) (l : List Int) : ∀ acc, ((acc.length + l.length : Nat) : Int) ≤ m → l.foldl (addE m) acc = acc ++ l := by
  induction l with
  | nil => intro acc _; simp
  | cons x l ih =>
    intro acc h
    simp only [List.length_cons] at h
    rw [List.foldl_cons, show addE m acc x = acc ++ [x] by unfold addE; rw [if_neg (by omega)], ih _ (by simp; omega)]
    simp

theorem fold_lt (m : Int) (l : List Int) : ∀ acc, (((l.foldl (addE m) acc).length : Nat) : Int) < m → l.foldl (addE m) acc = acc ++ l := by
  induction l with
  | nil => intro acc _; simp
  | cons x l ih =>
    intro acc h
    by_cases hm : m ≤ (acc.length : Int)
    · rw [fold_full m (x :: l) acc hm] at h
      omega
    · rw [List.foldl_cons] at h ⊢
      rw [ih _ h, show addE m acc x = acc ++ [x] by unfold addE; rw [if_neg hm]]
      simp

theorem fold_mem (m : Int) (l : List Int) : ∀ acc x, x ∈ l.foldl (addE m) acc → x ∈ acc ∨ x ∈ l := by
  induction l with
  | nil => intro acc x h; exact .inl h
  | cons y l ih =>
    intro acc x h
    rw [List.foldl_cons] at h
    rcases ih _ _ h with h | h
    · unfold addE at h
      split at h
      · exact .inl h
      · simp at h
        rcases h with h | h
        · exact .inl h
        · exact .inr (by simp [h])
    · exact .inr (by simp [h])

/-- How many types there are in one. -/
def szK : KT → Nat
  | .nil => 1
  | .mk _ _ _ n of => 1 + ((List.range n).map fun i => szK (of i)).sum

theorem szK_cost (t : KT) : goodE t → szK t ≤ costE t := by
  induction t with
  | nil => exact fun h => h.elim
  | mk k m ns n of ih =>
    rintro ⟨⟨hn12, hown⟩, hkids⟩
    obtain ⟨hk8, hmost, hone, hparts, hnames, hnone⟩ := own_facts hown
    rw [szK, costE]
    by_cases h5 : k = 5
    · rw [if_pos h5]
      have h1 := hone h5
      subst h1
      have := ih 0 (hkids 0 (by omega))
      simp [List.range_succ]
      omega
    · rw [if_neg h5]
      have : ∀ j, j ≤ n → ((List.range j).map fun i => szK (of i)).sum ≤ ((List.range j).map fun i => costE (of i)).sum := by
        intro j
        induction j with
        | zero => simp
        | succ j ihj =>
          intro hj
          rw [List.range_succ, List.map_append, List.map_append, List.sum_append, List.sum_append]
          have h1 := ihj (by omega)
          have h2 := ih j (hkids j (by omega))
          simp
          omega
      have := this n (Nat.le_refl _)
      omega

theorem survey_ok (t : KT) : goodE t → ∀ lv p, hasE t lv = true → p + szK t ≤ 1048576 → surveyE t lv p = (true, p + szK t) := by
  induction t with
  | nil => exact fun h => h.elim
  | mk k m ns n of ih =>
    rintro ⟨⟨hn12, hown⟩, hkids⟩ lv p hh hp
    rw [hasE] at hh
    split at hh
    · cases hh
    rename_i hlv
    rw [List.all_eq_true] at hh
    have ha : aloneE (.mk k m ns n of) = true := by rw [alone_own, hown, decide_eq_true hn12]; rfl
    rw [surveyE, if_neg (by
      rw [szK] at hp
      rintro (h | h | h)
      · omega
      · exact hlv (.inr h)
      · rw [ha] at h; cases h)]
    have key : ∀ j, j ≤ n → surveyL (fun i => surveyE (of i) (lv - 1)) j (p + 1) = (true, p + 1 + ((List.range j).map fun i => szK (of i)).sum) := by
      intro j
      induction j with
      | zero => intro _; simp [surveyL]
      | succ j ihj =>
        intro hj
        rw [surveyL, ihj (by omega), if_pos rfl]
        have hs : ((List.range (j + 1)).map fun i => szK (of i)).sum ≤ ((List.range n).map fun i => szK (of i)).sum := sum_shrink (fun i => szK (of i)) (j + 1) n hj
        rw [List.range_succ, List.map_append, List.sum_append] at hs ⊢
        rw [szK] at hp
        simp only [List.map_cons, List.map_nil, List.sum_cons, List.sum_nil, Nat.add_zero] at hs ⊢
        rw [ih j (hkids j (by omega)) (lv - 1) _ (hh j (List.mem_range.2 (by omega))) (by omega)]
        simp
        omega
    rw [key n (Nat.le_refl _), szK]
    simp
    omega

theorem partsL_getD (f : Nat → Nat × Nat → VT × (Nat × Nat)) (j : Nat) (s : Nat × Nat) : ∀ i, i < j → ∃ q, (partsL f j s).1.getD i .nil = (f i q).1 := by
  induction j with
  | zero => intro i hi; omega
  | succ j ih =>
    intro i hi
    rw [partsL]
    by_cases h : i < j
    · obtain ⟨q, hq⟩ := ih i h
      refine ⟨q, ?_⟩
      rw [← hq]
      simp only [List.getD_eq_getElem?_getD]
      rw [List.getElem?_append_left (by rw [partsL_length]; exact h)]
    · obtain rfl : i = j := by omega
      refine ⟨(partsL f i s).2, ?_⟩
      simp only [List.getD_eq_getElem?_getD]
      rw [List.getElem?_append_right (by rw [partsL_length]; exact Nat.le_refl _), partsL_length]
      simp

theorem emod_in (a b : Int) (h : 0 < b) : 0 ≤ a % b ∧ a % b < b := ⟨Int.emod_nonneg a (by omega), Int.emod_lt_of_pos a h⟩

/-- WHAT IS BUILT IS A VALUE OF THE TYPE. -/
theorem build_fits (l : List Int) (t : KT) : goodE t → ∀ s, isE t (buildE l t s).1 = true := by
  induction t with
  | nil => exact fun h => h.elim
  | mk k m ns n of ih =>
    rintro ⟨⟨hn12, hown⟩, hkids⟩ s
    obtain ⟨hk8, hmost, hone, hparts, hnames, hnone⟩ := own_facts hown
    have h2 := emod_in (numE l s.1) 2 (by omega)
    have h16 := emod_in (numE l s.1) 65536 (by omega)
    have h32 := emod_in (numE l s.1) 4294967296 (by omega)
    rcases (by omega : k = 0 ∨ k = 1 ∨ k = 2 ∨ k = 3 ∨ k = 4 ∨ k = 5 ∨ k = 6 ∨ k = 7 ∨ k = 8) with h | h | h | h | h | h | h | h | h <;> subst h
    · rw [buildE, if_pos rfl]
      unfold vnum
      rw [isE_iff]
      simp [lowE, highE, canon0]
      omega
    · rw [buildE, if_neg (by omega), if_pos rfl]
      unfold vnum
      rw [isE_iff]
      simp [lowE, highE, canon0]
      omega
    · rw [buildE, if_neg (by omega), if_neg (by omega), if_pos rfl]
      unfold vnum long32
      rw [isE_iff]
      simp [lowE, highE, canon0]
      split <;> omega
    · rw [buildE, if_neg (by omega), if_neg (by omega), if_neg (by omega), if_pos rfl]
      rw [isE_iff]
      simp [lowE, highE]
    · rw [buildE, if_neg (by omega), if_neg (by omega), if_neg (by omega), if_neg (by omega), if_pos rfl]
      have hm := hmost (by omega)
      have h4 := emod_in (numE l s.1) (m + 1) (by omega)
      rw [isE_iff]
      simp [lowE, highE, canon0, lettersE]
      omega
    · have hm := hmost (by omega)
      have h4 := emod_in (numE l s.1) 4 (by omega)
      have h1 := hone rfl
      by_cases hb : 100 < s.2 + 1
      · rw [buildE_none _ _ _ _ _ _ hb]
        unfold listV
        rw [isE_iff]
        simp [lowE, highE, canon0]
        omega
      · rw [buildE_seq _ _ _ _ _ _ hb]
        unfold listV
        rw [isE_iff]
        rw [partsL_length]
        refine ⟨fun _ => canon0, fun _ => rfl, fun h => by omega, by simp [lowE], by simp [highE], fun h => by omega, fun _ => by omega, fun h => by omega, fun h => by omega, fun i hi => ?_⟩
        obtain ⟨q, hq⟩ := partsL_getD (fun _ q => buildE l (of 0) q) _ (nextE l s.1, s.2 + 1) i hi
        rw [if_neg (by omega), if_neg (by omega), hq]
        exact ih 0 (hkids 0 (by omega)) q
    · rw [buildE_record]
      unfold listV
      rw [isE_iff]
      rw [partsL_length]
      refine ⟨fun _ => canon0, fun _ => rfl, fun h => by omega, by simp [lowE], by simp [highE], fun h => by omega, fun h => by omega, fun h => rfl, fun h => by omega, fun i hi => ?_⟩
      obtain ⟨q, hq⟩ := partsL_getD (fun i q => buildE l (of i) q) n (s.1, s.2 + 1) i hi
      rw [if_pos rfl, hq]
      exact ih i (hkids i hi) q
    · have hns := hnames (by omega)
      have h4 := emod_in (numE l s.1) (ns.length : Int) (by omega)
      rw [buildE, if_neg (by omega), if_neg (by omega), if_neg (by omega), if_neg (by omega), if_neg (by omega), if_neg (by omega), if_neg (by omega), if_pos rfl]
      unfold vnum
      rw [isE_iff]
      simp [lowE, highE, canon0]
      omega
    · have hns := hnames (by omega)
      have hnn := hparts (by omega)
      have h4 := emod_in (numE l s.1) (n : Int) (by omega)
      rw [buildE_choice, isE_iff]
      refine ⟨fun _ => canon0, fun _ => rfl, fun h => by omega, by simp [lowE]; omega, by simp [highE]; omega, fun h => by omega, fun h => by omega, fun h => by omega, fun h => rfl, fun i hi => ?_⟩
      rw [if_neg (by omega), if_pos rfl]
      exact ih _ (hkids _ (by omega)) _

/-- A type of the laws is built, and what is built is a value of it. -/
theorem build_type (l : List Int) (t : KN) (d : Nat) (hd : 1 ≤ d) (hd4 : d ≤ 4) (h : vokN t) : BuildE l (typeE [] t d) = (buildE l (typeE [] t d) (0, 0)).1 ∧ isVal (typeE [] t d) (BuildE l (typeE [] t d)) = true := by
  obtain ⟨hg, hh⟩ := good_type t d hd h
  have hs : (surveyE (typeE [] t d) 1000 0).1 = true := by
    rw [survey_ok _ hg 1000 0 (hh 1000 (by omega)) (by
      have h1 := szK_cost _ hg
      have h2 := cost_typeE [] t d
      have h3 : 4 ^ d ≤ 4 ^ 4 := Nat.pow_le_pow_right (by omega) hd4
      omega)]
  have e : BuildE l (typeE [] t d) = (buildE l (typeE [] t d) (0, 0)).1 := by unfold BuildE; rw [if_pos hs]
  refine ⟨e, ?_⟩
  unfold isVal
  rw [hh 20 (by omega), fits_is _ hg, e, build_fits l _ hg]
  rfl

theorem num_none (tk : Nat) : numE [] tk = 0 := by simp [numE]

theorem num_noughts (tk : Nat) : numE [0, 0] tk = 0 := by
  unfold numE
  rw [if_neg (by simp)]
  have h : tk % ([0, 0] : List Int).length < 2 := Nat.mod_lt _ (by decide)
  rcases (by omega : tk % ([0, 0] : List Int).length = 0 ∨ tk % ([0, 0] : List Int).length = 1) with e | e <;> rw [e] <;> rfl

theorem whole_nought : Fl.whole (floatOfInt .f64 0) = 0 := by decide +kernel

/-- What is built of noughts has noughts only. -/
theorem zero_build (l : List Int) (hl : ∀ tk, numE l tk = 0) (t : KT) : goodE t → ∀ s x, x ∈ flE t (buildE l t s).1 → x = 0 := by
  induction t with
  | nil => exact fun h => h.elim
  | mk k m ns n of ih =>
    rintro ⟨⟨hn12, hown⟩, hkids⟩ s x
    obtain ⟨hk8, hmost, hone, hparts, hnames, hnone⟩ := own_facts hown
    have hz := hl s.1
    rcases (by omega : k = 0 ∨ k = 1 ∨ k = 2 ∨ k = 3 ∨ k = 4 ∨ k = 5 ∨ k = 6 ∨ k = 7 ∨ k = 8) with h | h | h | h | h | h | h | h | h <;> subst h
    · rw [buildE, if_pos rfl, hz]
      unfold vnum
      rw [flE]
      simp
    · rw [buildE, if_neg (by omega), if_pos rfl, hz]
      unfold vnum
      rw [flE]
      simp
    · rw [buildE, if_neg (by omega), if_neg (by omega), if_pos rfl, hz]
      unfold vnum long32
      rw [flE]
      simp
    · rw [buildE, if_neg (by omega), if_neg (by omega), if_neg (by omega), if_pos rfl, hz]
      rw [flE, if_pos rfl, whole_nought]
      simp
    · rw [buildE, if_neg (by omega), if_neg (by omega), if_neg (by omega), if_neg (by omega), if_pos rfl, hz]
      rw [flE, if_neg (by omega), if_pos rfl]
      simp [lettersE]
    · have hm := hmost (by omega)
      by_cases hb : 100 < s.2 + 1
      · rw [buildE_none _ _ _ _ _ _ hb]
        unfold listV
        rw [flE]
        simp
      · rw [buildE_seq _ _ _ _ _ _ hb, hz]
        rw [show (min ((0 : Int) % 4) m).toNat = 0 by omega]
        unfold listV partsL
        rw [flE]
        simp
    · rw [buildE_record]
      unfold listV
      rw [flE, if_neg (by omega), if_neg (by omega), if_neg (by omega), if_neg (by omega)]
      rw [partsL_length]
      simp only [List.nil_append, List.mem_flatten, List.mem_map, List.mem_range]
      rintro ⟨_, ⟨i, hi, rfl⟩, hx⟩
      obtain ⟨q, hq⟩ := partsL_getD (fun i q => buildE l (of i) q) n (s.1, s.2 + 1) i hi
      rw [hq] at hx
      exact ih i (hkids i hi) q x hx
    · rw [buildE, if_neg (by omega), if_neg (by omega), if_neg (by omega), if_neg (by omega), if_neg (by omega), if_neg (by omega), if_neg (by omega), if_pos rfl, hz]
      unfold vnum
      rw [flE]
      simp
    · have hns := hnames (by omega)
      have hnn := hparts (by omega)
      rw [buildE_choice, hz]
      rw [flE, if_neg (by omega), if_neg (by omega), if_neg (by omega), if_pos (by omega)]
      simp
      rintro (h | h)
      · exact h
      · exact ih 0 (hkids 0 (by omega)) _ x h

theorem parts_same (f g : Nat → Nat × Nat → VT × (Nat × Nat)) (n : Nat) (h : ∀ i, i < n → ∀ s s', s.2 = s'.2 → (f i s).1 = (g i s').1 ∧ (f i s).2.2 = (g i s').2.2) (j : Nat) (hj : j ≤ n) : ∀ s s', s.2 = s'.2 → (partsL f j s).1 = (partsL g j s').1 ∧ (partsL f j s).2.2 = (partsL g j s').2.2 := by
  induction j with
  | zero => intro s s' e; exact ⟨rfl, e⟩
  | succ j ih =>
    intro s s' e
    obtain ⟨h1, h2⟩ := ih (by omega) s s' e
    obtain ⟨h3, h4⟩ := h j (by omega) _ _ h2
    rw [partsL, partsL, h1, h3]
    exact ⟨rfl, h4⟩

/-- Of no numbers and of noughts the same is built. -/
theorem same_build (l l' : List Int) (hl : ∀ tk, numE l tk = 0) (hl' : ∀ tk, numE l' tk = 0) (t : KT) : goodE t → ∀ s s', s.2 = s'.2 → (buildE l t s).1 = (buildE l' t s').1 ∧ (buildE l t s).2.2 = (buildE l' t s').2.2 := by
  induction t with
  | nil => exact fun h => h.elim
  | mk k m ns n of ih =>
    rintro ⟨⟨hn12, hown⟩, hkids⟩ s s' e
    obtain ⟨hk8, hmost, hone, hparts, hnames, hnone⟩ := own_facts hown
    have hz := hl s.1
    have hz' := hl' s'.1
    rcases (by omega : k = 0 ∨ k = 1 ∨ k = 2 ∨ k = 3 ∨ k = 4 ∨ k = 5 ∨ k = 6 ∨ k = 7 ∨ k = 8) with h | h | h | h | h | h | h | h | h <;> subst h
    · rw [buildE, buildE, if_pos rfl, if_pos rfl, hz, hz']; exact ⟨rfl, by simp [e]⟩
    · simp only [buildE, hz, hz', e]; exact ⟨rfl, rfl⟩
    · simp only [buildE, hz, hz', e]; exact ⟨rfl, rfl⟩
    · simp only [buildE, hz, hz', e]; exact ⟨rfl, rfl⟩
    · simp only [buildE, hz, hz', e]; exact ⟨rfl, rfl⟩
    · by_cases hb : 100 < s.2 + 1
      · rw [buildE_none _ _ _ _ _ _ hb, buildE_none _ _ _ _ _ _ (by omega), e]
        exact ⟨rfl, rfl⟩
      · rw [buildE_seq _ _ _ _ _ _ hb, buildE_seq _ _ _ _ _ _ (by omega), hz, hz']
        have h1 := hone rfl
        obtain ⟨h2, h3⟩ := parts_same (fun _ q => buildE l (of 0) q) (fun _ q => buildE l' (of 0) q) ((min ((0 : Int) % 4) m).toNat) (fun i _ a b hab => ih 0 (hkids 0 (by omega)) a b hab) _ (Nat.le_refl _) (nextE l s.1, s.2 + 1) (nextE l' s'.1, s'.2 + 1) (by simp [e])
        exact ⟨by simp only [h2], h3⟩
    · rw [buildE_record, buildE_record]
      obtain ⟨h2, h3⟩ := parts_same (fun i q => buildE l (of i) q) (fun i q => buildE l' (of i) q) n (fun i hi a b hab => ih i (hkids i hi) a b hab) n (Nat.le_refl _) (s.1, s.2 + 1) (s'.1, s'.2 + 1) (by simp [e])
      exact ⟨by simp only [h2], h3⟩
    · simp only [buildE, hz, hz', e]; exact ⟨rfl, rfl⟩
    · have hns := hnames (by omega)
      have hnn := hparts (by omega)
      rw [buildE_choice, buildE_choice, hz, hz']
      have h0 : ((0 : Int) % (n : Int)).toNat = 0 := by simp
      rw [h0]
      obtain ⟨h2, h3⟩ := ih 0 (hkids 0 (by omega)) (nextE l s.1, s.2 + 1) (nextE l' s'.1, s'.2 + 1) (by simp [e])
      rw [h2]
      exact ⟨rfl, h3⟩

end Go.Proofs.Ythokfmmbiilllaa

/-
  What Flat of so many numbers is: the first of them.
-/
namespace Go.Proofs.Ythokfmmbiilllaa
open Go.RowKit

theorem bfold_take (m : Int) (l : List Int) : ∀ acc : List Int, l.foldl (addE m) acc = acc ++ l.take (m.toNat - acc.length) := by
  induction l with
  | nil => intro acc; simp
  | cons x l ih =>
    intro acc
    rw [List.foldl_cons]
    by_cases h : m ≤ (acc.length : Int)
    · have e : addE m acc x = acc := by unfold addE; rw [if_pos h]
      rw [e, ih, show m.toNat - acc.length = 0 by omega]
      simp
    · have e : addE m acc x = acc ++ [x] := by unfold addE; rw [if_neg h]
      obtain ⟨d, hd⟩ : ∃ d, m.toNat - acc.length = d + 1 := ⟨m.toNat - acc.length - 1, by omega⟩
      rw [e, ih, hd, show m.toNat - (acc ++ [x]).length = d by simp; omega]
      simp

theorem flat_takeZ (t : KT) (T : VT) (m : Int) : flatE t T m = (flE t T).take m.toNat := by
  unfold flatE
  rw [bfold_take m _ []]
  simp
theorem bown_cells {w : World} {B : Nat} {e : TypeId} {v : Value} {n : Nat} {xs : List Value} (h : w.ownsRow B e 1 v n xs) :
    (n = 0 ∧ v = .slice none 0 0) ∨ ∃ g cap, v = .slice (some ⟨g, 0, none⟩) n cap ∧ n ≤ cap ∧ B ≤ g ∧ g < w.heap.size ∧ ∀ j u, xs[j]? = some u → w.cell? ⟨g, j, none⟩ = some u := by
  have h0 := h
  rcases h.2 with ⟨rfl, rfl⟩ | ⟨g, cap, cur, rfl, hb, hg, hle, _⟩
  · exact .inl ⟨rfl, rfl⟩
  · refine .inr ⟨g, cap, rfl, hle, hb, (Array.getElem?_eq_some_iff.1 hg).1, fun j u hj => ?_⟩
    have h2 := World.ownsRow.cells (g := g) h0 rfl j u hj
    rw [plain_add] at h2
    first | exact h2 | (rw [Nat.zero_add] at h2; exact h2) | simpa using h2

theorem own_base {w : World} {B B' : Nat} {e : TypeId} {size : Nat} {v : Value} {n : Nat} {xs : List Value} (h : w.ownsRow B e size v n xs) (hB : B' ≤ B) : w.ownsRow B' e size v n xs := by
  refine ⟨h.1, ?_⟩
  rcases h.2 with h | ⟨g, cap, cur, e, hb, rest⟩
  · exact .inl h
  · exact .inr ⟨g, cap, cur, e, Nat.le_trans hB hb, rest⟩

theorem own_ge {w : World} {B : Nat} {e : TypeId} {size : Nat} {v : Value} {n : Nat} {xs : List Value} (h : w.ownsRow B e size v n xs) : ∀ k, v.ownBlock = some k → B ≤ k := by
  intro k hk
  rcases h.2 with ⟨rfl, _⟩ | ⟨g, cap, cur, rfl, hb, _⟩
  · simp [Value.ownBlock] at hk
  · have e : g = k := by simpa [Value.ownBlock] using hk
    subst e
    exact hb

end Go.Proofs.Ythokfmmbiilllaa
