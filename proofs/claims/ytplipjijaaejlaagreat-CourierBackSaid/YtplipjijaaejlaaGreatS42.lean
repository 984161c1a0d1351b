/-
  CouBack, part 42 of what it rests on: ValRef.
-/
import Derived.Test.YtplipjijaaejlaaGreatS39
import Derived.Test.YtplipjijaaejlaaGreatS12
set_option linter.unusedVariables false
set_option linter.unusedSimpArgs false
set_option maxHeartbeats 64000000
namespace Go.Proofs.YtplipjijaaejlaaGreat
open Go.RowKit
open Go.Lib (hid)
section
attribute [local go_sem] run_store_float

/-- The value v shows the type t as the answer has it, in memory of R. -/
def RShows (R : Nat → Prop) (w : World) : KT → Value → Prop
  | .nil, _ => False
  | .mk k m ns n of, v => ∃ vo, v = .agg #[.int .i64 k, .int .i64 m, .int .i64 (ns.length : Nat), vo] ∧ (k ≤ 255 ∧ ns.length ≤ 1000 ∧ n ≤ 1000) ∧
    ((n = 0 ∧ ∃ a c, vo = .slice a 0 c) ∨
     ∃ g off cap, R g ∧ vo = .slice (some ⟨g, off, none⟩) n cap ∧ n ≤ cap ∧ ∀ i, i < n → ∃ x0 x1 x2 x3,
      w.cell? ⟨g, off + i * 4, none⟩ = some x0 ∧ w.cell? ⟨g, off + i * 4 + 1, none⟩ = some x1 ∧ w.cell? ⟨g, off + i * 4 + 2, none⟩ = some x2 ∧ w.cell? ⟨g, off + i * 4 + 3, none⟩ = some x3 ∧
      RShows R w (of i) (.agg #[x0, x1, x2, x3]))

/-- The parts of such a type. -/
def RKids (R : Nat → Prop) (w : World) (of : Nat → KT) (a : Option Addr) (c cap : Nat) : Prop :=
  c = 0 ∨ c ≤ cap ∧ ∃ g off, R g ∧ a = some ⟨g, off, none⟩ ∧ ∀ i, i < c → ∃ x0 x1 x2 x3,
      w.cell? ⟨g, off + i * 4, none⟩ = some x0 ∧ w.cell? ⟨g, off + i * 4 + 1, none⟩ = some x1 ∧ w.cell? ⟨g, off + i * 4 + 2, none⟩ = some x2 ∧ w.cell? ⟨g, off + i * 4 + 3, none⟩ = some x3 ∧
      RShows R w (of i) (.agg #[x0, x1, x2, x3])

theorem RShows.fr {R S : Nat → Prop} {w w' : World} (hf : Fr S w w') (hS : ∀ k, R k → ¬ S k) (t : KT) : ∀ v, RShows R w t v → RShows R w' t v := by
  induction t with
  | nil => exact fun _ h => h.elim
  | mk k m ns n of ih =>
    rintro v ⟨vo, rfl, hb, ho⟩
    refine ⟨vo, rfl, hb, ?_⟩
    rcases ho with h | ⟨g, off, cap, hg, rfl, hle, hc⟩
    · exact .inl h
    · refine .inr ⟨g, off, cap, hg, rfl, hle, fun i hi => ?_⟩
      obtain ⟨x0, x1, x2, x3, c0, c1, c2, c3, hx⟩ := hc i hi
      exact ⟨x0, x1, x2, x3, cell_fr hf hS hg c0, cell_fr hf hS hg c1, cell_fr hf hS hg c2, cell_fr hf hS hg c3, ih i _ hx⟩

theorem RShows.mono {R S : Nat → Prop} {w : World} (hS : ∀ k, k < w.heap.size → R k → S k) (t : KT) : ∀ v, RShows R w t v → RShows S w t v := by
  induction t with
  | nil => exact fun _ h => h.elim
  | mk k m ns n of ih =>
    rintro v ⟨vo, rfl, hb, ho⟩
    refine ⟨vo, rfl, hb, ?_⟩
    rcases ho with h | ⟨g, off, cap, hg, rfl, hle, hc⟩
    · exact .inl h
    · cases n with
      | zero => exact .inl ⟨rfl, _, _, rfl⟩
      | succ n =>
        refine .inr ⟨g, off, cap, ?_, rfl, hle, fun i hi => ?_⟩
        · obtain ⟨x0, x1, x2, x3, c0, _⟩ := hc 0 (by omega)
          exact hS g (World.block_lt_of_cell? w _ c0) hg
        · obtain ⟨x0, x1, x2, x3, c0, c1, c2, c3, hx⟩ := hc i hi
          exact ⟨x0, x1, x2, x3, c0, c1, c2, c3, ih i _ hx⟩

theorem rshows_open {R : Nat → Prop} {w : World} {t : KT} {v : Value} (h : RShows R w t v) :
    ∃ (k : Nat) (m : Int) (ns : List Txt) (n : Nat) (of : Nat → KT) (a : Option Addr) (cap : Nat), t = .mk k m ns n of ∧ v = .agg #[.int .i64 k, .int .i64 m, .int .i64 (ns.length : Nat), .slice a n cap] ∧ (k ≤ 255 ∧ ns.length ≤ 1000 ∧ n ≤ 1000) ∧ RKids R w of a n cap := by
  cases t with
  | nil => exact h.elim
  | mk k m ns n of =>
    obtain ⟨vo, rfl, hb, ho⟩ := h
    rcases ho with ⟨rfl, a, cap, rfl⟩ | ⟨g, off, cap, hg, rfl, hle, hc⟩
    · exact ⟨k, m, ns, 0, of, a, cap, rfl, rfl, hb, .inl rfl⟩
    · exact ⟨k, m, ns, n, of, _, cap, rfl, rfl, hb, .inr ⟨hle, g, off, hg, rfl, hc⟩⟩

theorem rshows_mk {R : Nat → Prop} {w : World} {k : Nat} {m : Int} {ns : List Txt} {n : Nat} {of : Nat → KT} {a : Option Addr} {cap : Nat} (hb : k ≤ 255 ∧ ns.length ≤ 1000 ∧ n ≤ 1000) (hk : RKids R w of a n cap) : RShows R w (.mk k m ns n of) (.agg #[.int .i64 k, .int .i64 m, .int .i64 (ns.length : Nat), .slice a n cap]) := by
  refine ⟨_, rfl, hb, ?_⟩
  rcases hk with rfl | ⟨hle, g, off, hg, rfl, hc⟩
  · exact .inl ⟨rfl, a, cap, rfl⟩
  · exact .inr ⟨g, off, cap, hg, rfl, hle, hc⟩

theorem RKids.fr {R S : Nat → Prop} {w w' : World} {of : Nat → KT} {a' : Option Addr} {n c' : Nat} (h : RKids R w of a' n c') (hf : Fr S w w') (hS : ∀ k, R k → ¬ S k) : RKids R w' of a' n c' := by
  rcases h with h | ⟨h1, g, off, hg, rfl, hc⟩
  · exact .inl h
  · refine .inr ⟨h1, g, off, hg, rfl, fun i hi => ?_⟩
    obtain ⟨x0, x1, x2, x3, c0, c1, c2, c3, hx⟩ := hc i hi
    exact ⟨x0, x1, x2, x3, cell_fr hf hS hg c0, cell_fr hf hS hg c1, cell_fr hf hS hg c2, cell_fr hf hS hg c3, RShows.fr hf hS _ _ hx⟩

def rShown : Shown KT where
  sh R w t xs := ∃ x0 x1 x2 x3, xs = [x0, x1, x2, x3] ∧ RShows R w t (.agg #[x0, x1, x2, x3])
  fr := by
    rintro R S w w' x xs ⟨x0, x1, x2, x3, rfl, h⟩ f hS
    exact ⟨x0, x1, x2, x3, rfl, RShows.fr f hS _ _ h⟩
  mono := by
    rintro R S w x xs ⟨x0, x1, x2, x3, rfl, h⟩ hS
    exact ⟨x0, x1, x2, x3, rfl, RShows.mono hS _ _ h⟩

theorem RShows.lit {R : Nat → Prop} {w : World} {t : KT} {v : Value} (h : RShows R w t v) :
    ∃ (k m n : Int) (a : Option Addr) (c cap : Nat), v = .agg #[.int .i64 k, .int .i64 m, .int .i64 n, .slice a c cap] := by
  obtain ⟨k, m, ns, n, of, a, cap, _, rfl, _⟩ := rshows_open h
  exact ⟨_, _, _, a, n, cap, rfl⟩

theorem rshows_one {R : Nat → Prop} {w : World} {t : KT} {y0 y1 y2 y3 : Value} (h : RShows R w t (.agg #[y0, y1, y2, y3])) : ∀ u ∈ [y0, y1, y2, y3], u.oneCell' = true := by
  obtain ⟨k, m, n, a, c, cap, e⟩ := h.lit
  simp only [Value.agg.injEq, Array.mk.injEq, List.cons.injEq, and_true] at e
  obtain ⟨rfl, rfl, rfl, rfl⟩ := e
  intro u hu
  simp at hu
  rcases hu with rfl | rfl | rfl | rfl <;> rfl

theorem ItRow.rkids {e : TypeId} {B : Nat} {X : Nat → Prop} {w : World} {a : Option Addr} {n cap : Nat} {ts : List KT} (h : ItRow rShown e 4 B X w (.slice a n cap) ts) (of : Nat → KT) (hof : ∀ i x, ts[i]? = some x → of i = x) :
    RKids (fun k => B ≤ k) w of a n cap := by
  rcases h.cells with ⟨rfl, a', c, h4⟩ | ⟨g, cap', hg, e, hle, hc⟩
  · cases h4; exact .inl rfl
  · cases e
    refine .inr ⟨hle, g, 0, hg.1, rfl, fun i hi => ?_⟩
    obtain ⟨xs, _, hc, x0, x1, x2, x3, rfl, hx⟩ := hc i ts[i] (List.getElem?_eq_getElem hi)
    refine ⟨x0, x1, x2, x3, hc 0 _ rfl, hc 1 _ rfl, hc 2 _ rfl, hc 3 _ rfl, ?_⟩
    rw [hof i _ (List.getElem?_eq_getElem hi)]
    exact RShows.mono (fun k _ h => h.1) _ _ hx

theorem ItRow.vkids' {e : TypeId} {B : Nat} {X : Nat → Prop} {w : World} {a : Option Addr} {n cap : Nat} {ts : List VT} (h : ItRow vShown e 4 B X w (.slice a n cap) ts) (of : Nat → VT) (hof : ∀ i x, ts[i]? = some x → of i = x) :
    VKids (fun k => B ≤ k) w of a n cap := by
  rcases h.cells with ⟨rfl, a', c, h4⟩ | ⟨g, cap', hg, e, hle, hc⟩
  · cases h4; exact .inl rfl
  · cases e
    refine .inr ⟨hle, g, 0, hg.1, rfl, fun i hi => ?_⟩
    obtain ⟨xs, _, hc, x0, x1, x2, x3, rfl, hx⟩ := hc i ts[i] (List.getElem?_eq_getElem hi)
    refine ⟨x0, x1, x2, x3, hc 0 _ rfl, hc 1 _ rfl, hc 2 _ rfl, hc 3 _ rfl, ?_⟩
    rw [hof i _ (List.getElem?_eq_getElem hi)]
    exact VShows.mono (fun k _ h => h.1) _ _ hx

/-- The local struct while its parts are gathered: its cells but the last, and the parts' row. -/
def CLoc (e : TypeId) (x0 x1 x2 : Value) (wx : World) (lb : Nat) (po : Value) : Prop := wx.heap[lb]? = some (.cells #[x0, x1, x2, po] e (0, 0))

def CDirt (lb : Nat) (po : Value) (k : Nat) : Prop := k = lb ∨ po.ownBlock = some k

/-- Ahead of the call, behind it, behind the row of one, behind the append, behind the store. -/
def CopyS {α : Type} (D : Shown α) (e : TypeId) (x0 x1 x2 : Value) (wr : World) (lb : Nat) (po : Value) (L : List α) (T : α) : List Value → World → Prop
  | [], wx => Fr (CDirt lb po) wr wx ∧ CLoc e x0 x1 x2 wx lb po ∧ ItRow D e 4 (lb + 1) (fun _ => False) wx po L
  | [v], wx => Fr (CDirt lb po) wr wx ∧ CLoc e x0 x1 x2 wx lb po ∧ ItRow D e 4 (lb + 1) (fun _ => False) wx po L ∧ ∃ y0 y1 y2 y3, v = .agg #[y0, y1, y2, y3] ∧ D.sh (fun k => wr.heap.size ≤ k) wx T [y0, y1, y2, y3]
  | [_, u], wx => Fr (CDirt lb po) wr wx ∧ CLoc e x0 x1 x2 wx lb po ∧ ItRow D e 4 (lb + 1) (fun _ => False) wx po L ∧ ∃ gg y0 y1 y2 y3, u = .slice (some ⟨gg, 0, none⟩) 1 1 ∧ wx.heap[gg]? = some (.cells #[y0, y1, y2, y3] e (0, 0)) ∧ D.sh (fun k => wr.heap.size ≤ k) wx T [y0, y1, y2, y3]
  | [_, _, x], wx => Fr (CDirt lb po) wr wx ∧ CLoc e x0 x1 x2 wx lb po ∧ ItRow D e 4 (lb + 1) (fun _ => False) wx x (L ++ [T])
  | _ :: _ :: x :: _ :: _, wx => Fr (CDirt lb po) wr wx ∧ CLoc e x0 x1 x2 wx lb x ∧ ItRow D e 4 (lb + 1) (fun _ => False) wx x (L ++ [T])

theorem CopyS.f {α : Type} {D : Shown α} {e : TypeId} {x0 x1 x2 : Value} {wr : World} {lb : Nat} {po : Value} {L : List α} {T : α} {cvs : List Value} {wx : World} (h : CopyS D e x0 x1 x2 wr lb po L T cvs wx) : Fr (CDirt lb po) wr wx := by
  match cvs with
  | [] => exact h.1
  | [_] => exact h.1
  | [_, _] => exact h.1
  | [_, _, _] => exact h.1
  | _ :: _ :: _ :: _ :: _ => exact h.1

theorem CopyS.loc {α : Type} {D : Shown α} {e : TypeId} {x0 x1 x2 : Value} {wr : World} {lb : Nat} {po : Value} {L : List α} {T : α} {cvs : List Value} {wx : World} (h : CopyS D e x0 x1 x2 wr lb po L T cvs wx) (hc : cvs.length ≤ 3) : CLoc e x0 x1 x2 wx lb po := by
  match cvs with
  | [] => exact h.2.1
  | [_] => exact h.2.1
  | [_, _] => exact h.2.1
  | [_, _, _] => exact h.2.1
  | _ :: _ :: _ :: _ :: _ => simp at hc

theorem Tryz.infoRV : (Tryz.prog.info? 52).map (fun i => (i.zero, i.size, i.bytes)) = some (some (.agg #[.int .i64 0, .float .f64 0, .string ⟨#[]⟩, .slice none 0 0]), 4, 56) := by kernel_rfl
theorem Tryz.infoRT : (Tryz.prog.info? 48).map (fun i => (i.zero, i.size, i.bytes)) = some (some (.agg #[.int .i64 0, .int .i64 0, .int .i64 0, .slice none 0 0]), 4, 48) := by kernel_rfl

theorem map_range_of {α : Type} {f : Nat → α} {n i : Nat} {x : α} (h : ((List.range n).map f)[i]? = some x) : f i = x := by
  rw [List.getElem?_map] at h
  by_cases hlt : i < n
  · rw [List.getElem?_range hlt] at h
    simpa using h
  · rw [List.getElem?_eq_none (by simp; omega)] at h
    cases h

def refAt (t : KT) : Prop := ∀ (R : Nat → Prop) (v : Value) (w : World), Shows R w t v → goodE t →
  Calls Tryz.prog 12 #[v] w fun e w' => ∃ v', e = .returned v' ∧ RShows (fun k => w.heap.size ≤ k) w' t v' ∧ Fr (fun _ => False) w w'

set_option maxRecDepth 100000 in
theorem ref_any (t : KT) : refAt t := by
  induction t with
  | nil => exact fun _ _ _ h => h.elim
  | mk k m ns n of ih =>
  intro R v w hsh hgood
  obtain ⟨⟨hn12, hown⟩, hkids⟩ := hgood
  obtain ⟨vn, vo, rfl, hk, hn, ht, ho⟩ := hsh
  obtain ⟨na, nc, rfl, _⟩ := ht.shape
  have hnl : ns.length ≤ 1000 := ht.1
  obtain ⟨a', c', rfl, hs⟩ : ∃ a' c', vo = .slice a' n c' ∧ Kids R w of a' n c' := by
    rcases ho with ⟨rfl, a', c', rfl⟩ | ⟨g, off, cap, hg, rfl, hle, hc⟩
    · exact ⟨a', c', rfl, .inl rfl⟩
    · exact ⟨_, cap, rfl, .inr ⟨hle, g, off, hg, rfl, hc⟩⟩
  have HS := Lib.hid hs
  have HGD := Lib.hid hkids
  have hn1 : n ≤ 1000 := by omega
  clear ho hs ht hkids hown
  obtain ⟨w1, hw1⟩ : ∃ w1, w1 = ((w.alloc (.cells #[.int .u8 k, .int .i64 m, .slice na ns.length nc, .slice a' n c'] 34)).alloc (.cells #[.int .i64 0, .int .i64 0, .int .i64 0, .slice none 0 0] 48)).alloc (.cells #[.int .i64 k, .int .i64 m, .int .i64 (ns.length : Nat), .slice none 0 0] 48) := ⟨_, rfl⟩
  have f1 : Fr (fun _ => False) w w1 := by rw [hw1]; exact (((Fr.refl _ _).alloc _).alloc _).alloc _
  have q1 : w1.heap[w.heap.size]? = some (.cells #[.int .u8 k, .int .i64 m, .slice na ns.length nc, .slice a' n c'] 34 (0, 0)) := by
    rw [hw1, Below.heap_alloc _ _ _ (by simp; omega)]; exact heap_alloc_first _ _ _
  have p1 : w1.heap[w.heap.size + 1]? = some (.cells #[.int .i64 0, .int .i64 0, .int .i64 0, .slice none 0 0] 48 (0, 0)) := by
    rw [hw1, Below.heap_alloc _ _ _ (by simp)]; exact heap_alloc_two _ _ _
  have l1 : CLoc 48 (.int .i64 k) (.int .i64 m) (.int .i64 (ns.length : Nat)) w1 (w.heap.size + 1 + 1) (.slice none 0 0) := by
    have h := heap_alloc_new ((w.alloc (.cells #[.int .u8 k, .int .i64 m, .slice na ns.length nc, .slice a' n c'] 34)).alloc (.cells #[.int .i64 0, .int .i64 0, .int .i64 0, .slice none 0 0] 48)) (.cells #[.int .i64 k, .int .i64 m, .int .i64 (ns.length : Nat), .slice none 0 0] 48)
    rw [show ((w.alloc (.cells #[.int .u8 k, .int .i64 m, .slice na ns.length nc, .slice a' n c'] 34)).alloc (.cells #[.int .i64 0, .int .i64 0, .int .i64 0, .slice none 0 0] 48)).heap.size = w.heap.size + 1 + 1 by simp] at h
    rw [hw1]
    exact h
  have w0n : w.heap.size ≠ w.heap.size + 1 := by omega
  obtain ⟨w0, hw0⟩ : ∃ w0, w0 = (w.alloc (.cells #[.int .u8 k, .int .i64 m, .slice na ns.length nc, .slice a' n c'] 34)).alloc (.cells #[.int .i64 0, .int .i64 0, .int .i64 0, .slice none 0 0] 48) := ⟨_, rfl⟩
  have q0 : w0.heap[w.heap.size]? = some (.cells #[.int .u8 k, .int .i64 m, .slice na ns.length nc, .slice a' n c'] 34 (0, 0)) := by rw [hw0]; exact heap_alloc_first _ _ _
  obtain ⟨c0, c1, c2, c3⟩ := cell_of_four q0
  have sz0 : w0.heap.size = w.heap.size + 1 + 1 := by rw [hw0]; simp
  go_enter Tryz.func12, Tryz.ntmps12
  go_upto_region 1 with fail
  rw [← hw0]
  have HW1 := Lib.hid (show w1 = w0.alloc (.cells #[.int .i64 k, .int .i64 m, .int .i64 (ns.length : Nat), .slice none 0 0] 48) from by rw [hw1, hw0])
  clear hw0 hw1 q0 w0n
  go_upto_region 2 with fail
  rw [← HW1.out]
  try rw [sz0]
  clear c0 c1 c2 c3 sz0
  obtain ⟨lb, hlb⟩ : ∃ lb, w.heap.size + 1 + 1 = lb := ⟨_, rfl⟩
  obtain ⟨rb, hrb⟩ : ∃ rb, w.heap.size + 1 = rb := ⟨_, rfl⟩
  rw [hlb] at l1 ⊢
  rw [hrb] at p1 ⊢
  have o1 : w.heap.size < rb := by omega
  have o2 : rb < lb := by omega
  have c3 := cells_row q1 3 _ rfl
  have H1 := Lib.hid (And.intro f1 (And.intro p1 l1))
  clear f1 q1 p1 l1 hlb hrb
  go_wp2
  clear c3
  go_loopg [5, 18] n (fun G u5 uc wr => ∃ (j : Nat) (po : Value), j ≤ n ∧ G = n - j ∧ uc = .int .i64 j ∧ Hid (Fr (fun _ => False) w wr ∧ CLoc 48 (.int .i64 k) (.int .i64 m) (.int .i64 (ns.length : Nat)) wr lb po ∧ ItRow rShown 48 4 (lb + 1) (fun _ => False) wr po ((List.range j).map of) ∧ wr.heap[rb]? = some (.cells #[.int .i64 0, .int .i64 0, .int .i64 0, .slice none 0 0] 48 (0, 0))))
  case atStart => exact ⟨0, .slice none 0 0, Nat.zero_le _, rfl, by go_num, Lib.hid ⟨H1.out.1, H1.out.2.2, ItRow.nil _ _ _ _ _ _, H1.out.2.1⟩⟩
  case round =>
    obtain ⟨j, po, hj, rfl, rfl, HI⟩ := hrel
    obtain ⟨qa, qc, hpo⟩ : ∃ qa qc, po = .slice qa j qc := by
      obtain ⟨qa, qc, e⟩ := HI.out.2.2.1.slice
      rw [show ((List.range j).map of).length = j by simp] at e
      exact ⟨qa, qc, e⟩
    subst hpo
    have hlbr : lb < wr.heap.size := lt_of_block HI.out.2.1
    by_cases hlt : j < n
    · rcases HS.out with hz | ⟨hcap, g, off, hg, rfl, hcell⟩
      · omega
      obtain ⟨x0, x1, x2, x3, y0, y1, y2, y3, hx⟩ := hcell j hlt
      have y0 := cell_fr HI.out.1 (fun _ _ h => h) hg y0
      have y1 := cell_fr HI.out.1 (fun _ _ h => h) hg y1
      have y2 := cell_fr HI.out.1 (fun _ _ h => h) hg y2
      have y3 := cell_fr HI.out.1 (fun _ _ h => h) hg y3
      obtain ⟨xk, xm, xa, xn, xc, xa', xn', xc', rfl, rfl, rfl, rfl⟩ := hx.cells
      have HX := Lib.hid (Shows.fr HI.out.1 (fun _ _ h => h) _ _ (Shows.mono (S := fun k => R k ∧ k < w.heap.size) (fun k hk h => ⟨h, hk⟩) _ _ hx))
      have HLT := Lib.hid hlt
      have jn : (j : Int) < (n : Int) := by omega
      have j0 : (0 : Int) ≤ (j : Int) := by omega
      clear hcell hx
      go_wp2_with fail
      obtain ⟨wp, hwp⟩ : ∃ wp, wp = wr.alloc (.cells #[.int .u8 xk, .int .i64 xm, .slice xa xn xc, .slice xa' xn' xc'] 34) := ⟨_, rfl⟩
      rw [← hwp]
      obtain ⟨pb, hpb⟩ : ∃ pb, wr.heap.size = pb := ⟨_, rfl⟩
      have fp : Fr (fun _ => False) wr wp := by rw [hwp]; exact (Fr.refl _ _).alloc _
      have qp : wp.heap[pb]? = some (.cells #[.int .u8 xk, .int .i64 xm, .slice xa xn xc, .slice xa' xn' xc'] 34 (0, 0)) := by rw [hwp, ← hpb]; exact heap_alloc_new _ _
      have hown : ∀ k, (Value.slice qa j qc).ownBlock = some k → lb + 1 ≤ k ∧ k < pb := fun k hk => by
        have := HI.out.2.2.1.own k hk
        omega
      have hpbw : pb < wp.heap.size := lt_of_block qp
      have hpbv : lb < pb := by omega
      rw [hpb]
      have HP := Lib.hid (And.intro fp (And.intro qp hown))
      have HB0 := Lib.hid (And.intro hpbv (And.intro o1 o2))
      clear hwp hpb fp qp hown y0 y1 y2 y3 hlt jn j0
      have hacc : CopyS rShown 48 (.int .i64 k) (.int .i64 m) (.int .i64 (ns.length : Nat)) wp lb (.slice qa j qc) ((List.range j).map of) (of j) [] wp.drew :=
        ⟨(Fr.refl _ _).drew, box_kept HI.out.2.1 (HP.out.1.drew) (fun h => h), HI.out.2.2.1.fr (HP.out.1.drew) (fun _ _ h => h)⟩
      have HACC := Lib.hid hacc
      clear hacc
      refine wp_region_chain (by kernel_rfl) [some 22, some 23, some 24, some 25, some 26, some 27, some 28, none] rfl (by decide) (by intro d hd; simp at hd ⊢; omega)
        [3, 4, 5, 7] (CopyS rShown 48 (.int .i64 k) (.int .i64 m) (.int .i64 (ns.length : Nat)) wp lb (.slice qa j qc) ((List.range j).map of) (of j))
        [.free (.pointer (some ⟨lb, 3, none⟩)), .free (.slice qa j qc), .free (.agg #[.int .u8 xk, .int .i64 xm, .slice xa xn xc, .slice xa' xn' xc']), .link none, .link none, .link none, .free (.pointer (some ⟨lb, 3, none⟩)), .link none]
        (by kernel_rfl) (by kernel_rfl) ?h0 ?step ?fin
      case h0 => exact HACC.out
      case step =>
        intro vals2
        simp only [frOfU, fillU, List.setIfInBounds_toArray, List.set_cons_succ, List.set_cons_zero]
        repeat' (first | exact AllOps.nil | refine AllOps.cons ?_ ?_)
        all_goals
          intro cvs wx hS he hu hlim K hK
          simp only [Act.put, List.setIfInBounds_toArray, List.set_cons_succ, List.set_cons_zero, List.getD_cons_zero, List.getD_cons_succ] at hK
          simp only [List.mem_cons, List.not_mem_nil, or_false, forall_eq_or_imp, forall_eq, Region.binds, forall_const, vmode_gc, Bool.false_eq_true, false_imp_iff, List.getD_cons_zero, List.getD_cons_succ, OpSort.val, Option.some.injEq, forall_eq', reduceCtorEq, implies_true, true_and, and_true] at he
          have HSX := Lib.hid hS
          clear hS
        all_goals first | (clear hlim hu; (try simp only [he] at hK ⊢); go_simp; exact hK) | skip
        · have hl := HSX.out.loc (Nat.le_trans (hlim 2 5 rfl (by kernel_rfl)) (by omega))
          have e3 := cells_row hl 3 _ rfl
          clear hlim hu hl
          simp only [he] at hK ⊢
          go_simp
          exact hK
        · have hq := box_kept HP.out.2.1 HSX.out.f (fun h => by
            rcases h with h | h
            · have := HB0.out; omega
            · have := (HP.out.2.2 _ h).2; omega)
          obtain ⟨e0, e1, e2, e3⟩ := cell_of_four hq
          clear hlim hu hq
          simp only [he] at hK ⊢
          go_simp
          exact hK
        · obtain rfl := hlim (0 : Nat) rfl
          have h1 := HSX.out
          simp only [List.take_zero, List.map_nil] at h1
          simp only [he] at hK ⊢
          go_simp
          go_at_call 12
          have hR : ∀ k, (R k ∧ k < w.heap.size) → ¬ CDirt lb (.slice qa j qc) k := fun k hk h => by
            rcases h with h | h
            · have := HB0.out; omega
            · have := (HP.out.2.2 _ h).1; have := HB0.out; omega
          refine (ih j (fun k => R k ∧ k < w.heap.size) _ wx (Shows.fr h1.1 hR _ _ (Shows.fr HP.out.1 (fun _ _ h => h) _ _ HX.out)) (HGD.out j HLT.out)).mono ?_
          rintro e1 wa ⟨v', rfl, hsv, fa⟩
          have hx1 := hsv
          obtain ⟨zk, zm, zn, za, zc, zcap, e4⟩ := hx1.lit
          subst e4
          exact hK _ _ (fun _ h => by cases h) ⟨h1.1.trans fa (fun i _ h => h.elim), box_kept h1.2.1 fa (fun h => h), h1.2.2.fr fa (fun _ _ h => h), _, _, _, _, rfl, _, _, _, _, rfl, RShows.mono (fun k _ hk => Nat.le_trans h1.1.size hk) _ _ hsv⟩
        · obtain rfl := hlim (1 : Nat) rfl
          have h1 := HSX.out
          clear HSX hlim hu
          simp only [List.take_succ_cons, List.take_zero, List.map_cons, List.map_nil] at h1 hK
          obtain ⟨hf, hl, hr, z0, z1, z2, z3, e5, hs⟩ := h1
          simp only [he, e5] at hK ⊢
          go_simp
          have fa : Fr (fun _ => False) wx (wx.alloc (.cells #[z0, z1, z2, z3] 48)) := (Fr.refl _ _).alloc _
          exact hK _ _ (fun _ h => by cases h) ⟨hf.trans fa (fun _ _ h => h.elim), box_kept hl fa (fun h => h), hr.fr fa (fun _ _ h => h), _, _, _, _, _, rfl, heap_alloc_new _ _, rShown.fr hs fa (fun _ _ h => h)⟩
        · obtain rfl := hlim (2 : Nat) rfl
          have h1 := HSX.out
          clear HSX hlim hu
          simp only [List.take_succ_cons, List.take_zero, List.map_cons, List.map_nil] at h1 hK
          obtain ⟨hf, hl, hr, gg, z0, z1, z2, z3, e6, hgg, hss⟩ := h1
          rw [if_pos (by rfl)]
          have hsz := lt_of_block hl
          have hfs := hf.size
          have hb0 := HB0.out
          refine opWp_push (pv := (.slice qa j qc)) (l := (List.range j).map of) (B := lb + 1) (X := fun _ => False) (D := rShown) (.tmp 23) (.tmp 26) 46 46 rfl Tryz.underlying46 Tryz.underlying46 Tryz.infoRT rfl (by decide) he hr gg e6 (news := [z0, z1, z2, z3]) hgg rfl (by obtain ⟨_, _, _, _, e, h⟩ := hss; cases e; exact rshows_one h) (by simp; omega) (by omega) (by omega) (fun k hk => hk.elim) (of j) (rShown.mono hss (fun k _ hk => ⟨by omega, fun h => h, fun h => by have := (HP.out.2.2 _ h).2; omega⟩)) ?_
          intro v' w8 hrow f6 hv
          refine hK _ _ (fun _ h => by cases h) ⟨hf.trans f6 (fun i _ h => .inr h), box_kept hl f6 (fun h => by have := (HP.out.2.2 _ h).1; omega), hrow⟩
        · obtain rfl := hlim (3 : Nat) rfl
          have h1 := HSX.out
          clear HSX hlim hu
          simp only [List.take_succ_cons, List.take_zero, List.map_cons, List.map_nil] at h1 hK
          obtain ⟨hf, hl, hr⟩ := h1
          obtain ⟨xa2, xn2, xc2, e7⟩ : ∃ xa xn xc, vals2 5 = .slice xa xn xc := by obtain ⟨a, c, e⟩ := hr.slice; exact ⟨a, _, c, e⟩
          have z2 : wx.frozen? ⟨lb, 3, none⟩ = false := by unfold CLoc at hl; simp [World.frozen?, hl]
          obtain ⟨e0, e1, e2, e3⟩ := cell_of_four hl
          have fs : Fr (fun k => k = lb) wx (wx.setCell ⟨lb, 3, none⟩ (vals2 5)) := Fr.set1 (Fr.refl _ _) 3 _
          have HG := Lib.hid (show CopyS rShown 48 (.int .i64 k) (.int .i64 m) (.int .i64 (ns.length : Nat)) wp lb (.slice qa j qc) ((List.range j).map of) (of j) [vals2 3, vals2 4, vals2 5, undef] (wx.setCell ⟨lb, 3, none⟩ (vals2 5)) from
            ⟨hf.trans fs (fun i _ h => .inl h), setCell_row 3 _ hl, hr.fr fs (fun k hk h => by omega)⟩)
          clear hf hl hr fs
          rw [e7] at HG
          simp only [he, e7] at hK ⊢
          go_simp
          exact hK undef _ (fun _ h => by cases h) HG.out
      case fin =>
        intro vals2 w7 hS hV
        clear hV
        simp only [List.map_cons, List.map_nil] at hS
        obtain ⟨hf, hl, hr⟩ := hS
        have hd : ∀ i, i < w.heap.size → ¬ CDirt lb (.slice qa j qc) i := fun i hi h => by
          rcases h with h | h
          · have := HB0.out; omega
          · have := (HP.out.2.2 _ h).1; have := HB0.out; omega
        have f0 := HI.out.1.trans HP.out.1 (fun _ _ h => h)
        have fw : Fr (fun _ => False) w w7 := ⟨hf.os.trans f0.os, hf.tape.trans f0.tape, hf.output.trans f0.output, Nat.le_trans f0.size hf.size, fun i hi hs => by
          rw [hf.block i (Nat.lt_of_lt_of_le hi f0.size) (hd i hi), f0.block i hi hs]⟩
        have hrbk := box_kept (box_kept HI.out.2.2.2 HP.out.1 (fun h => h)) hf (fun h => by
          rcases h with h | h
          · omega
          · have := (HP.out.2.2 _ h).1; omega)
        have HS2 := Lib.hid (show Fr (fun _ => False) w w7 ∧ CLoc 48 (.int .i64 k) (.int .i64 m) (.int .i64 (ns.length : Nat)) w7 lb (vals2 5) ∧ ItRow rShown 48 4 (lb + 1) (fun _ => False) w7 (vals2 5) ((List.range (j + 1)).map of) ∧ w7.heap[rb]? = some (.cells #[.int .i64 0, .int .i64 0, .int .i64 0, .slice none 0 0] 48 (0, 0)) from by
          rw [List.range_succ, List.map_append]; exact ⟨fw, hl, hr, hrbk⟩)
        clear hf hl hr fw hrbk hd f0
        simp only [frOfU, fillU, List.setIfInBounds_toArray, List.set_cons_succ, List.set_cons_zero]
        go_wp2
        go_roundg (n - (j + 1))
        case measure => have := HLT.out; omega
        case rel => exact ⟨j + 1, vals2 5, HLT.out, rfl, by go_num, HS2⟩
    · obtain rfl : j = n := by omega
      obtain ⟨d0, d1, d2, d3⟩ := cell_of_four HI.out.2.1
      have p2 := HI.out.2.2.2
      have t0 := cells_row p2 0 _ rfl
      have t1 := cells_row p2 1 _ rfl
      have t2 := cells_row p2 2 _ rfl
      have t3 := cells_row p2 3 _ rfl
      have u0 : wr.frozen? ⟨rb, 0, none⟩ = false := by simp [World.frozen?, p2]
      have u1 : wr.frozen? ⟨rb, 1, none⟩ = false := by simp [World.frozen?, p2]
      have u2 : wr.frozen? ⟨rb, 2, none⟩ = false := by simp [World.frozen?, p2]
      have u3 : wr.frozen? ⟨rb, 3, none⟩ = false := by simp [World.frozen?, p2]
      clear p2
      go_wp2
      refine bodyPost_ret (results_cell_row rfl _ _ rb 48 _ _ _ rfl (store_four HI.out.2.2.2) Tryz.underlying48 rfl (by kernel_rfl)) rfl ?_
      have fs : Fr (fun k => k = rb) wr ((((wr.setCell ⟨rb, 0, none⟩ (.int .i64 k)).setCell ⟨rb, 1, none⟩ (.int .i64 m)).setCell ⟨rb, 2, none⟩ (.int .i64 (ns.length : Nat))).setCell ⟨rb, 3, none⟩ (.slice qa j qc)) := fr_four _ _ _ _ (Fr.refl _ _) (fun _ => rfl)
      refine ⟨_, rfl, ?_, HI.out.1.trans fs (fun i hi h => by omega)⟩
      have hk0 := ItRow.rkids HI.out.2.2.1 of (fun i x hi => map_range_of hi)
      exact RShows.mono (fun k _ (h : lb + 1 ≤ k) => by omega) _ _ (rshows_mk (ns := ns) ⟨hk, hnl, by omega⟩ (hk0.fr fs (fun k (hk : lb + 1 ≤ k) e => by omega)))


def refvAt (t : VT) : Prop := ∀ (R : Nat → Prop) (v : Value) (w : World), VShows R w t v → szV t ≤ 1000 →
  Calls Tryz.prog 13 #[v] w fun e w' => ∃ v', e = .returned v' ∧ VShows (fun k => w.heap.size ≤ k) w' t v' ∧ Fr (fun _ => False) w w'

set_option maxRecDepth 100000 in
theorem refv_any (t : VT) : refvAt t := by
  induction t with
  | nil => exact fun _ _ _ h => h.elim
  | mk N f sx n of ih =>
  intro R v w hsh hszv
  obtain ⟨_, _, _, _, _, a', c', e1, rfl, hVB, hs⟩ := vshows_open hsh
  cases e1
  have HB := Lib.hid hVB
  have HS := Lib.hid hs
  have hn1 : n ≤ 1000 := by
    have h := hszv
    rw [szV] at h
    have hall : ∀ j, j ≤ ((List.range j).map fun i => szV (of i)).sum := fun j => by
      induction j with
      | zero => simp
      | succ j ih => rw [List.range_succ, List.map_append, List.sum_append]; have := szV_pos (of j); simp; omega
    have := hall n
    omega
  have HSZ := Lib.hid (show ∀ j, j < n → szV (of j) ≤ 1000 from fun j hj => by
    have h := hszv
    rw [szV] at h
    have h2 := sumTo_le (fun i => szV (of i)) j n hj
    unfold sumTo at h2
    omega)
  unfold sv
  clear hsh hVB hs hszv
  obtain ⟨w1, hw1⟩ : ∃ w1, w1 = ((w.alloc (.cells #[.int .i64 N, .float .f64 f, .string ⟨sx.toArray⟩, .slice a' n c'] 39)).alloc (.cells #[.int .i64 0, .float .f64 0, .string ⟨#[]⟩, .slice none 0 0] 52)).alloc (.cells #[.int .i64 N, .float .f64 f, .string ⟨sx.toArray⟩, .slice none 0 0] 52) := ⟨_, rfl⟩
  have f1 : Fr (fun _ => False) w w1 := by rw [hw1]; exact (((Fr.refl _ _).alloc _).alloc _).alloc _
  have q1 : w1.heap[w.heap.size]? = some (.cells #[.int .i64 N, .float .f64 f, .string ⟨sx.toArray⟩, .slice a' n c'] 39 (0, 0)) := by
    rw [hw1, Below.heap_alloc _ _ _ (by simp; omega)]; exact heap_alloc_first _ _ _
  have p1 : w1.heap[w.heap.size + 1]? = some (.cells #[.int .i64 0, .float .f64 0, .string ⟨#[]⟩, .slice none 0 0] 52 (0, 0)) := by
    rw [hw1, Below.heap_alloc _ _ _ (by simp)]; exact heap_alloc_two _ _ _
  have l1 : CLoc 52 (.int .i64 N) (.float .f64 f) (.string ⟨sx.toArray⟩) w1 (w.heap.size + 1 + 1) (.slice none 0 0) := by
    have h := heap_alloc_new ((w.alloc (.cells #[.int .i64 N, .float .f64 f, .string ⟨sx.toArray⟩, .slice a' n c'] 39)).alloc (.cells #[.int .i64 0, .float .f64 0, .string ⟨#[]⟩, .slice none 0 0] 52)) (.cells #[.int .i64 N, .float .f64 f, .string ⟨sx.toArray⟩, .slice none 0 0] 52)
    rw [show ((w.alloc (.cells #[.int .i64 N, .float .f64 f, .string ⟨sx.toArray⟩, .slice a' n c'] 39)).alloc (.cells #[.int .i64 0, .float .f64 0, .string ⟨#[]⟩, .slice none 0 0] 52)).heap.size = w.heap.size + 1 + 1 by simp] at h
    rw [hw1]
    exact h
  have w0n : w.heap.size ≠ w.heap.size + 1 := by omega
  obtain ⟨w0, hw0⟩ : ∃ w0, w0 = (w.alloc (.cells #[.int .i64 N, .float .f64 f, .string ⟨sx.toArray⟩, .slice a' n c'] 39)).alloc (.cells #[.int .i64 0, .float .f64 0, .string ⟨#[]⟩, .slice none 0 0] 52) := ⟨_, rfl⟩
  have q0 : w0.heap[w.heap.size]? = some (.cells #[.int .i64 N, .float .f64 f, .string ⟨sx.toArray⟩, .slice a' n c'] 39 (0, 0)) := by rw [hw0]; exact heap_alloc_first _ _ _
  obtain ⟨c0, c1, c2, c3⟩ := cell_of_four q0
  have sz0 : w0.heap.size = w.heap.size + 1 + 1 := by rw [hw0]; simp
  go_enter Tryz.func13, Tryz.ntmps13
  go_upto_region 1 with fail
  rw [← hw0]
  have HW1 := Lib.hid (show w1 = w0.alloc (.cells #[.int .i64 N, .float .f64 f, .string ⟨sx.toArray⟩, .slice none 0 0] 52) from by rw [hw1, hw0])
  clear hw0 hw1 q0 w0n
  go_upto_region 2 with fail
  rw [← HW1.out]
  try rw [sz0]
  clear c0 c1 c2 c3 sz0
  obtain ⟨lb, hlb⟩ : ∃ lb, w.heap.size + 1 + 1 = lb := ⟨_, rfl⟩
  obtain ⟨rb, hrb⟩ : ∃ rb, w.heap.size + 1 = rb := ⟨_, rfl⟩
  rw [hlb] at l1 ⊢
  rw [hrb] at p1 ⊢
  have o1 : w.heap.size < rb := by omega
  have o2 : rb < lb := by omega
  have c3 := cells_row q1 3 _ rfl
  have H1 := Lib.hid (And.intro f1 (And.intro p1 l1))
  clear f1 q1 p1 l1 hlb hrb
  go_wp2
  clear c3
  go_loopg [5, 16] n (fun G u5 uc wr => ∃ (j : Nat) (po : Value), j ≤ n ∧ G = n - j ∧ uc = .int .i64 j ∧ Hid (Fr (fun _ => False) w wr ∧ CLoc 52 (.int .i64 N) (.float .f64 f) (.string ⟨sx.toArray⟩) wr lb po ∧ ItRow vShown 52 4 (lb + 1) (fun _ => False) wr po ((List.range j).map of) ∧ wr.heap[rb]? = some (.cells #[.int .i64 0, .float .f64 0, .string ⟨#[]⟩, .slice none 0 0] 52 (0, 0))))
  case atStart => exact ⟨0, .slice none 0 0, Nat.zero_le _, rfl, by go_num, Lib.hid ⟨H1.out.1, H1.out.2.2, ItRow.nil _ _ _ _ _ _, H1.out.2.1⟩⟩
  case round =>
    obtain ⟨j, po, hj, rfl, rfl, HI⟩ := hrel
    obtain ⟨qa, qc, hpo⟩ : ∃ qa qc, po = .slice qa j qc := by
      obtain ⟨qa, qc, e⟩ := HI.out.2.2.1.slice
      rw [show ((List.range j).map of).length = j by simp] at e
      exact ⟨qa, qc, e⟩
    subst hpo
    have hlbr : lb < wr.heap.size := lt_of_block HI.out.2.1
    by_cases hlt : j < n
    · rcases HS.out with hz | ⟨hcap, g, off, hg, rfl, hcell⟩
      · omega
      obtain ⟨x0, x1, x2, x3, y0, y1, y2, y3, hx⟩ := hcell j hlt
      have y0 := cell_fr HI.out.1 (fun _ _ h => h) hg y0
      have y1 := cell_fr HI.out.1 (fun _ _ h => h) hg y1
      have y2 := cell_fr HI.out.1 (fun _ _ h => h) hg y2
      have y3 := cell_fr HI.out.1 (fun _ _ h => h) hg y3
      obtain ⟨xn, xf, xs, xa, xc, xcap, ex⟩ := hx.lit
      simp only [Value.agg.injEq, Array.mk.injEq, List.cons.injEq, and_true] at ex
      obtain ⟨rfl, rfl, rfl, rfl⟩ := ex
      have HX := Lib.hid (VShows.fr HI.out.1 (fun _ _ h => h) _ _ (VShows.mono (S := fun k => R k ∧ k < w.heap.size) (fun k hk h => ⟨h, hk⟩) _ _ hx))
      have HLT := Lib.hid hlt
      have jn : (j : Int) < (n : Int) := by omega
      have j0 : (0 : Int) ≤ (j : Int) := by omega
      clear hcell hx
      go_wp2_with fail
      obtain ⟨wp, hwp⟩ : ∃ wp, wp = wr.alloc (.cells #[.int .i64 xn, .float .f64 xf, .string xs, .slice xa xc xcap] 39) := ⟨_, rfl⟩
      rw [← hwp]
      obtain ⟨pb, hpb⟩ : ∃ pb, wr.heap.size = pb := ⟨_, rfl⟩
      have fp : Fr (fun _ => False) wr wp := by rw [hwp]; exact (Fr.refl _ _).alloc _
      have qp : wp.heap[pb]? = some (.cells #[.int .i64 xn, .float .f64 xf, .string xs, .slice xa xc xcap] 39 (0, 0)) := by rw [hwp, ← hpb]; exact heap_alloc_new _ _
      have hown : ∀ k, (Value.slice qa j qc).ownBlock = some k → lb + 1 ≤ k ∧ k < pb := fun k hk => by
        have := HI.out.2.2.1.own k hk
        omega
      have hpbw : pb < wp.heap.size := lt_of_block qp
      have hpbv : lb < pb := by omega
      rw [hpb]
      have HP := Lib.hid (And.intro fp (And.intro qp hown))
      have HB0 := Lib.hid (And.intro hpbv (And.intro o1 o2))
      clear hwp hpb fp qp hown y0 y1 y2 y3 hlt jn j0
      have hacc : CopyS vShown 52 (.int .i64 N) (.float .f64 f) (.string ⟨sx.toArray⟩) wp lb (.slice qa j qc) ((List.range j).map of) (of j) [] wp.drew :=
        ⟨(Fr.refl _ _).drew, box_kept HI.out.2.1 (HP.out.1.drew) (fun h => h), HI.out.2.2.1.fr (HP.out.1.drew) (fun _ _ h => h)⟩
      have HACC := Lib.hid hacc
      clear hacc
      refine wp_region_chain (by kernel_rfl) [some 20, some 21, some 22, some 23, some 24, some 25, some 26, none] rfl (by decide) (by intro d hd; simp at hd ⊢; omega)
        [3, 4, 5, 7] (CopyS vShown 52 (.int .i64 N) (.float .f64 f) (.string ⟨sx.toArray⟩) wp lb (.slice qa j qc) ((List.range j).map of) (of j))
        [.free (.pointer (some ⟨lb, 3, none⟩)), .free (.slice qa j qc), .free (.agg #[.int .i64 xn, .float .f64 xf, .string xs, .slice xa xc xcap]), .link none, .link none, .link none, .free (.pointer (some ⟨lb, 3, none⟩)), .link none]
        (by kernel_rfl) (by kernel_rfl) ?h0 ?step ?fin
      case h0 => exact HACC.out
      case step =>
        intro vals2
        simp only [frOfU, fillU, List.setIfInBounds_toArray, List.set_cons_succ, List.set_cons_zero]
        repeat' (first | exact AllOps.nil | refine AllOps.cons ?_ ?_)
        all_goals
          intro cvs wx hS he hu hlim K hK
          simp only [Act.put, List.setIfInBounds_toArray, List.set_cons_succ, List.set_cons_zero, List.getD_cons_zero, List.getD_cons_succ] at hK
          simp only [List.mem_cons, List.not_mem_nil, or_false, forall_eq_or_imp, forall_eq, Region.binds, forall_const, vmode_gc, Bool.false_eq_true, false_imp_iff, List.getD_cons_zero, List.getD_cons_succ, OpSort.val, Option.some.injEq, forall_eq', reduceCtorEq, implies_true, true_and, and_true] at he
          have HSX := Lib.hid hS
          clear hS
        all_goals first | (clear hlim hu; (try simp only [he] at hK ⊢); go_simp; exact hK) | skip
        · have hl := HSX.out.loc (Nat.le_trans (hlim 2 5 rfl (by kernel_rfl)) (by omega))
          have e3 := cells_row hl 3 _ rfl
          clear hlim hu hl
          simp only [he] at hK ⊢
          go_simp
          exact hK
        · have hq := box_kept HP.out.2.1 HSX.out.f (fun h => by
            rcases h with h | h
            · have := HB0.out; omega
            · have := (HP.out.2.2 _ h).2; omega)
          obtain ⟨e0, e1, e2, e3⟩ := cell_of_four hq
          clear hlim hu hq
          simp only [he] at hK ⊢
          go_simp
          exact hK
        · obtain rfl := hlim (0 : Nat) rfl
          have h1 := HSX.out
          simp only [List.take_zero, List.map_nil] at h1
          simp only [he] at hK ⊢
          go_simp
          go_at_call 13
          have hR : ∀ k, (R k ∧ k < w.heap.size) → ¬ CDirt lb (.slice qa j qc) k := fun k hk h => by
            rcases h with h | h
            · have := HB0.out; omega
            · have := (HP.out.2.2 _ h).1; have := HB0.out; omega
          refine (ih j (fun k => R k ∧ k < w.heap.size) _ wx (VShows.fr h1.1 hR _ _ (VShows.fr HP.out.1 (fun _ _ h => h) _ _ HX.out)) (HSZ.out j HLT.out)).mono ?_
          rintro e1 wa ⟨v', rfl, hsv, fa⟩
          have hx1 := hsv
          obtain ⟨zn, zf, zs, za, zc, zcap, e4⟩ := hx1.lit
          subst e4
          exact hK _ _ (fun _ h => by cases h) ⟨h1.1.trans fa (fun i _ h => h.elim), box_kept h1.2.1 fa (fun h => h), h1.2.2.fr fa (fun _ _ h => h), _, _, _, _, rfl, _, _, _, _, rfl, VShows.mono (fun k _ hk => Nat.le_trans h1.1.size hk) _ _ hsv⟩
        · obtain rfl := hlim (1 : Nat) rfl
          have h1 := HSX.out
          clear HSX hlim hu
          simp only [List.take_succ_cons, List.take_zero, List.map_cons, List.map_nil] at h1 hK
          obtain ⟨hf, hl, hr, z0, z1, z2, z3, e5, hs⟩ := h1
          simp only [he, e5] at hK ⊢
          go_simp
          have fa : Fr (fun _ => False) wx (wx.alloc (.cells #[z0, z1, z2, z3] 52)) := (Fr.refl _ _).alloc _
          exact hK _ _ (fun _ h => by cases h) ⟨hf.trans fa (fun _ _ h => h.elim), box_kept hl fa (fun h => h), hr.fr fa (fun _ _ h => h), _, _, _, _, _, rfl, heap_alloc_new _ _, vShown.fr hs fa (fun _ _ h => h)⟩
        · obtain rfl := hlim (2 : Nat) rfl
          have h1 := HSX.out
          clear HSX hlim hu
          simp only [List.take_succ_cons, List.take_zero, List.map_cons, List.map_nil] at h1 hK
          obtain ⟨hf, hl, hr, gg, z0, z1, z2, z3, e6, hgg, hss⟩ := h1
          rw [if_pos (by rfl)]
          have hsz := lt_of_block hl
          have hfs := hf.size
          have hb0 := HB0.out
          refine opWp_push (pv := (.slice qa j qc)) (l := (List.range j).map of) (B := lb + 1) (X := fun _ => False) (D := vShown) (.tmp 21) (.tmp 24) 50 50 rfl Tryz.underlying50 Tryz.underlying50 Tryz.infoRV rfl (by decide) he hr gg e6 (news := [z0, z1, z2, z3]) hgg rfl (by obtain ⟨_, _, _, _, e, h⟩ := hss; cases e; exact vshows_one h) (by simp; omega) (by omega) (by omega) (fun k hk => hk.elim) (of j) (vShown.mono hss (fun k _ hk => ⟨by omega, fun h => h, fun h => by have := (HP.out.2.2 _ h).2; omega⟩)) ?_
          intro v' w8 hrow f6 hv
          refine hK _ _ (fun _ h => by cases h) ⟨hf.trans f6 (fun i _ h => .inr h), box_kept hl f6 (fun h => by have := (HP.out.2.2 _ h).1; omega), hrow⟩
        · obtain rfl := hlim (3 : Nat) rfl
          have h1 := HSX.out
          clear HSX hlim hu
          simp only [List.take_succ_cons, List.take_zero, List.map_cons, List.map_nil] at h1 hK
          obtain ⟨hf, hl, hr⟩ := h1
          obtain ⟨xa2, xn2, xc2, e7⟩ : ∃ xa xn xc, vals2 5 = .slice xa xn xc := by obtain ⟨a, c, e⟩ := hr.slice; exact ⟨a, _, c, e⟩
          have z2 : wx.frozen? ⟨lb, 3, none⟩ = false := by unfold CLoc at hl; simp [World.frozen?, hl]
          obtain ⟨e0, e1, e2, e3⟩ := cell_of_four hl
          have fs : Fr (fun k => k = lb) wx (wx.setCell ⟨lb, 3, none⟩ (vals2 5)) := Fr.set1 (Fr.refl _ _) 3 _
          have HG := Lib.hid (show CopyS vShown 52 (.int .i64 N) (.float .f64 f) (.string ⟨sx.toArray⟩) wp lb (.slice qa j qc) ((List.range j).map of) (of j) [vals2 3, vals2 4, vals2 5, undef] (wx.setCell ⟨lb, 3, none⟩ (vals2 5)) from
            ⟨hf.trans fs (fun i _ h => .inl h), setCell_row 3 _ hl, hr.fr fs (fun k hk h => by omega)⟩)
          clear hf hl hr fs
          rw [e7] at HG
          simp only [he, e7] at hK ⊢
          go_simp
          exact hK undef _ (fun _ h => by cases h) HG.out
      case fin =>
        intro vals2 w7 hS hV
        clear hV
        simp only [List.map_cons, List.map_nil] at hS
        obtain ⟨hf, hl, hr⟩ := hS
        have hd : ∀ i, i < w.heap.size → ¬ CDirt lb (.slice qa j qc) i := fun i hi h => by
          rcases h with h | h
          · have := HB0.out; omega
          · have := (HP.out.2.2 _ h).1; have := HB0.out; omega
        have f0 := HI.out.1.trans HP.out.1 (fun _ _ h => h)
        have fw : Fr (fun _ => False) w w7 := ⟨hf.os.trans f0.os, hf.tape.trans f0.tape, hf.output.trans f0.output, Nat.le_trans f0.size hf.size, fun i hi hs => by
          rw [hf.block i (Nat.lt_of_lt_of_le hi f0.size) (hd i hi), f0.block i hi hs]⟩
        have hrbk := box_kept (box_kept HI.out.2.2.2 HP.out.1 (fun h => h)) hf (fun h => by
          rcases h with h | h
          · omega
          · have := (HP.out.2.2 _ h).1; omega)
        have HS2 := Lib.hid (show Fr (fun _ => False) w w7 ∧ CLoc 52 (.int .i64 N) (.float .f64 f) (.string ⟨sx.toArray⟩) w7 lb (vals2 5) ∧ ItRow vShown 52 4 (lb + 1) (fun _ => False) w7 (vals2 5) ((List.range (j + 1)).map of) ∧ w7.heap[rb]? = some (.cells #[.int .i64 0, .float .f64 0, .string ⟨#[]⟩, .slice none 0 0] 52 (0, 0)) from by
          rw [List.range_succ, List.map_append]; exact ⟨fw, hl, hr, hrbk⟩)
        clear hf hl hr fw hrbk hd f0
        simp only [frOfU, fillU, List.setIfInBounds_toArray, List.set_cons_succ, List.set_cons_zero]
        go_wp2
        go_roundg (n - (j + 1))
        case measure => have := HLT.out; omega
        case rel => exact ⟨j + 1, vals2 5, HLT.out, rfl, by go_num, HS2⟩
    · obtain rfl : j = n := by omega
      obtain ⟨d0, d1, d2, d3⟩ := cell_of_four HI.out.2.1
      have p2 := HI.out.2.2.2
      have t0 := cells_row p2 0 _ rfl
      have t1 := cells_row p2 1 _ rfl
      have t2 := cells_row p2 2 _ rfl
      have t3 := cells_row p2 3 _ rfl
      have u0 : wr.frozen? ⟨rb, 0, none⟩ = false := by simp [World.frozen?, p2]
      have u1 : wr.frozen? ⟨rb, 1, none⟩ = false := by simp [World.frozen?, p2]
      have u2 : wr.frozen? ⟨rb, 2, none⟩ = false := by simp [World.frozen?, p2]
      have u3 : wr.frozen? ⟨rb, 3, none⟩ = false := by simp [World.frozen?, p2]
      clear p2
      go_wp2
      refine bodyPost_ret (results_cell_row rfl _ _ rb 52 _ _ _ rfl (store_four HI.out.2.2.2) Tryz.underlying52 rfl (by kernel_rfl)) rfl ?_
      have fs : Fr (fun k => k = rb) wr ((((wr.setCell ⟨rb, 0, none⟩ (.int .i64 N)).setCell ⟨rb, 1, none⟩ (.float .f64 f)).setCell ⟨rb, 2, none⟩ (.string ⟨sx.toArray⟩)).setCell ⟨rb, 3, none⟩ (.slice qa j qc)) := fr_four _ _ _ _ (Fr.refl _ _) (fun _ => rfl)
      refine ⟨_, rfl, ?_, HI.out.1.trans fs (fun i hi h => by omega)⟩
      have hk0 := ItRow.vkids' HI.out.2.2.1 of (fun i x hi => map_range_of hi)
      exact VShows.mono (fun k _ (h : lb + 1 ≤ k) => by omega) _ _ (vshows_mk (s := sx) HB.out (hk0.fr fs (fun k (hk : lb + 1 ≤ k) e => by omega)))
end
end Go.Proofs.YtplipjijaaejlaaGreat
