/-
  CouBack, part 29 of what it rests on: KindNode, KindName, KindTyped.
-/
import Derived.Test.YtplipjijaaejlaaGreatS12
import Derived.Test.YtplipjijaaejlaaGreatS01
import Derived.Test.YtplipjijaaejlaaGreatS10
import Derived.IntWalk
import Derived.Deep.Cut
import Derived.Deep.CutRange
set_option linter.unusedVariables false
set_option linter.unusedSimpArgs false
set_option maxHeartbeats 64000000
namespace Go.Proofs.YtplipjijaaejlaaGreat
open Go.RowKit
open Go.Lib (hid)
section
/-- A node: its two numbers, how many it has below it, and which ('nil' stands for those that there aren't). -/
inductive KN where
  | nil
  | mk (k n : Nat) (c : Nat) (of : Nat → KN)

/-- The value v shows the node t. -/
def NShows (w : World) : KN → Value → Prop
  | .nil, _ => False
  | .mk k n c of, v => ∃ vo, v = .agg #[.int .u8 k, .int .u8 n, vo] ∧ k ≤ 255 ∧ n ≤ 255 ∧ c ≤ maxLen ∧
    ((c = 0 ∧ ∃ a cap, vo = .slice a 0 cap) ∨
     ∃ g off cap, vo = .slice (some ⟨g, off, none⟩) c cap ∧ c ≤ cap ∧ ∀ i, i < c → ∃ x0 x1 x2,
      w.cell? ⟨g, off + i * 3, none⟩ = some x0 ∧ w.cell? ⟨g, off + i * 3 + 1, none⟩ = some x1 ∧ w.cell? ⟨g, off + i * 3 + 2, none⟩ = some x2 ∧ NShows w (of i) (.agg #[x0, x1, x2]))

theorem NShows.fr {w w' : World} (hf : Fr (fun _ => False) w w') (t : KN) : ∀ v, NShows w t v → NShows w' t v := by
  induction t with
  | nil => exact fun _ h => h.elim
  | mk k n c of ih =>
    rintro v ⟨vo, rfl, hk, hn, hc, ho⟩
    refine ⟨vo, rfl, hk, hn, hc, ?_⟩
    rcases ho with h | ⟨g, off, cap, rfl, hle, hcell⟩
    · exact .inl h
    · refine .inr ⟨g, off, cap, rfl, hle, fun i hi => ?_⟩
      obtain ⟨x0, x1, x2, c0, c1, c2, hx⟩ := hcell i hi
      exact ⟨x0, x1, x2, cell_fr (R := fun _ => True) hf (fun _ _ h => h) trivial c0, cell_fr (R := fun _ => True) hf (fun _ _ h => h) trivial c1, cell_fr (R := fun _ => True) hf (fun _ _ h => h) trivial c2, ih i _ hx⟩

theorem NShows.cells {w : World} {t : KN} {v : Value} (h : NShows w t v) : ∃ (k n : Nat) (a : Option Addr) (c cap : Nat), v = .agg #[.int .u8 k, .int .u8 n, .slice a c cap] := by
  cases t with
  | nil => exact h.elim
  | mk k n c of =>
    obtain ⟨vo, rfl, _, _, _, ⟨_, a, cap, rfl⟩ | ⟨g, off, cap, rfl, _⟩⟩ := h
    · exact ⟨k, n, a, 0, cap, rfl⟩
    · exact ⟨k, n, _, c, cap, rfl⟩

/-- Is it small? -/
def lightE : KN → Nat → Bool
  | .nil, _ => true
  | .mk _ _ c of, d => (List.range c).all (fun i => decide (1 ≤ d) && lightE (of i) (d - 1)) && decide (c ≤ 3)

set_option maxRecDepth 100000 in
theorem light_any (t : KN) : ∀ (v : Value) (w : World) (d : Nat) (dz : Int), dz = d → d ≤ 100 → NShows w t v →
    Calls Tryz.prog 5 #[v, .int .i64 dz] w fun e w' => e = .returned (.bool (lightE t d)) ∧ Fr (fun _ => False) w w' := by
  induction t with
  | nil => exact fun _ _ _ _ _ _ h => h.elim
  | mk k n c of ih =>
  intro v w d dz hdz hd hsh
  obtain ⟨vo, rfl, hk, hn, hc, ho⟩ := hsh
  obtain ⟨a, cap, rfl, hs⟩ : ∃ a cap, vo = .slice a c cap ∧ (c = 0 ∨ c ≤ cap ∧ ∃ g off, a = some ⟨g, off, none⟩ ∧ ∀ i, i < c → ∃ x0 x1 x2,
      w.cell? ⟨g, off + i * 3, none⟩ = some x0 ∧ w.cell? ⟨g, off + i * 3 + 1, none⟩ = some x1 ∧ w.cell? ⟨g, off + i * 3 + 2, none⟩ = some x2 ∧ NShows w (of i) (.agg #[x0, x1, x2])) := by
    rcases ho with ⟨rfl, a, cap, rfl⟩ | ⟨g, off, cap, rfl, hle, hcell⟩
    · exact ⟨a, cap, rfl, .inl rfl⟩
    · exact ⟨_, cap, rfl, .inr ⟨hle, g, off, rfl, hcell⟩⟩
  have Hs := Lib.hid hs
  have Hdz := Lib.hid hdz
  unfold maxLen at hc
  have hd0 : 0 ≤ dz := by omega
  have hd1 : dz ≤ 100 := by omega
  clear ho hs hdz
  obtain ⟨w0, hw0⟩ : ∃ w0, w0 = w.alloc (.cells #[.int .u8 k, .int .u8 n, .slice a c cap] 24) := ⟨_, rfl⟩
  have f0 : Hid (Fr (fun _ => False) w w0) := Lib.hid (by rw [hw0]; exact (Fr.refl _ _).alloc _)
  have q0 : Hid (w0.heap[w.heap.size]? = some (.cells #[.int .u8 k, .int .u8 n, .slice a c cap] 24 (0, 0))) := Lib.hid (by rw [hw0]; exact heap_alloc_new _ _)
  go_enter Tryz.func5, Tryz.ntmps5
  go_wp2
  rw [← hw0]
  clear hw0
  go_loopg [6, 10] c (fun G u6 u10 wr => ∃ j : Nat, j ≤ c ∧ G = c - j ∧ u10 = .int .i64 j ∧ Hid (Fr (fun _ => False) w wr ∧ (wr.heap[w.heap.size]? = some (.cells #[.int .u8 k, .int .u8 n, .slice a c cap] 24 (0, 0))) ∧ ∀ i, i < j → (decide (1 ≤ d) && lightE (of i) (d - 1)) = true))
  case atStart => exact ⟨0, Nat.zero_le _, rfl, by go_num, Lib.hid ⟨f0.out, q0.out, fun i hi => by omega⟩⟩
  case round =>
    obtain ⟨j, hj, rfl, rfl, HI⟩ := hrel
    by_cases hlt : j < c
    · rcases Hs.out with hz | ⟨hcap, g, off, rfl, hcell⟩
      · omega
      obtain ⟨x0, x1, x2, y0, y1, y2, hx⟩ := hcell j hlt
      have y0 := cell_fr (R := fun _ => True) HI.out.1 (fun _ _ h => h) trivial y0
      have y1 := cell_fr (R := fun _ => True) HI.out.1 (fun _ _ h => h) trivial y1
      have y2 := cell_fr (R := fun _ => True) HI.out.1 (fun _ _ h => h) trivial y2
      obtain ⟨pk, pn, pa, pc, pcap, e⟩ := hx.cells
      simp at e
      obtain ⟨rfl, rfl, rfl⟩ := e
      have HFalse := Lib.hid (show (decide (1 ≤ d) && lightE (of j) (d - 1)) = false → lightE (.mk k n c of) d = false from fun h => by
        unfold lightE
        have : (List.range c).all (fun i => decide (1 ≤ d) && lightE (of i) (d - 1)) = false := by
          rw [List.all_eq_false]
          exact ⟨j, List.mem_range.2 hlt, by simpa using h⟩
        rw [this]; rfl)
      by_cases hd2 : d = 0
      · have b1 : dz < 1 := by have := Hdz.out; omega
        have E := Lib.hid (HFalse.out (by rw [hd2]; rfl))
        clear hcell hx hd2
        go_wp2
        go_ret
        rw [E.out]
        exact ⟨rfl, HI.out.1.alloc _⟩
      · have b1 : ¬ dz < 1 := by have := Hdz.out; omega
        have fb : Fr (fun _ => False) w (wr.alloc (.cells #[.int .u8 pk, .int .u8 pn, .slice pa pc pcap] 24)) := HI.out.1.alloc _
        have hrec := ih j _ _ (d - 1) (dz - 1) (by have := Hdz.out; omega) (by omega) (NShows.fr fb _ _ hx)
        have FB := Lib.hid fb
        have HD := Lib.hid (show 1 ≤ d by omega)
        clear hcell hx fb hd2
        cases hB : lightE (of j) (d - 1) with
        | true =>
          rw [hB] at hrec
          have HB := Lib.hid hB
          clear hB
          go_wp2_with fail
          refine hrec.mono ?_
          rintro e w5 ⟨rfl, f5⟩
          have F5 := Lib.hid f5
          clear f5 hrec
          go_wp2
          go_roundg (c - (j + 1))
          case measure => omega
          case rel => exact ⟨j + 1, by omega, rfl, by go_num, Lib.hid ⟨FB.out.trans F5.out (fun _ _ h => h), box_kept (box_kept HI.out.2.1 ((Fr.refl (fun _ => False) _).alloc _) (fun h => h)) F5.out (fun h => h), fun i hi => by
            by_cases h : i < j
            · exact HI.out.2.2 i h
            · obtain rfl : i = j := by omega
              rw [HB.out, decide_eq_true HD.out]; rfl⟩⟩
        | false =>
          rw [hB] at hrec
          have E := Lib.hid (HFalse.out (by rw [hB]; simp))
          clear hB
          go_wp2_with fail
          refine hrec.mono ?_
          rintro e w5 ⟨rfl, f5⟩
          have F5 := Lib.hid f5
          clear f5 hrec
          go_wp2
          go_ret
          rw [E.out]
          exact ⟨rfl, FB.out.trans F5.out (fun _ _ h => h)⟩
    · obtain rfl : j = c := by omega
      have y2 := cells_row HI.out.2.1 2 _ rfl
      have E : Hid (lightE (.mk k n j of) d = decide ((j : Int) ≤ 3)) := Lib.hid (by
        unfold lightE
        rw [List.all_eq_true.2 (fun i hi => HI.out.2.2 i (List.mem_range.1 hi)), Bool.true_and, Bool.eq_iff_iff]
        simp
        omega)
      go_wp2
      go_ret
      rw [E.out]
      exact ⟨rfl, HI.out.1⟩
end
section
/-- The name of number i, by a small number. -/
def nameT (i : Nat) (n : Int) : Txt := [UInt8.ofNat (97 + i), UInt8.ofNat (65 + n % 26).toNat, 48]

set_option maxRecDepth 100000 in
theorem nameOf_any (i : Nat) (hi : i ≤ 3) (n : Int) (h0 : 0 ≤ n) (h1 : n ≤ 255) (w : World) :
    Calls Tryz.prog 38 #[.int .i64 i, .int .u8 n] w fun e w' => e = .returned (sv (nameT i n)) ∧ Fr (fun _ => False) w w' := by
  have hconv : ∀ c0 : Int, 0 ≤ c0 → c0 ≤ 255 → (convert 26 9 (.slice (some ⟨w.heap.size, 0, none⟩) 3 3)).run Tryz.prog (w.alloc (.cells #[.int .u8 c0, .int .u8 (65 + n % 26), .int .u8 48] 5)) = .ok (.string ⟨[UInt8.ofNat c0.toNat, UInt8.ofNat (65 + n % 26).toNat, 48].toArray⟩) (w.alloc (.cells #[.int .u8 c0, .int .u8 (65 + n % 26), .int .u8 48] 5)) := by
    intro c0 a0 a1
    have e0 := bv_of c0 a0 a1
    have e1 := bv_of (65 + n % 26) (by omega) (by omega)
    refine Sees.string (P := Tryz.prog) (sees_new w.heap.size (heap_alloc_new w _) (c := 3) (l := [UInt8.ofNat c0.toNat, UInt8.ofNat (65 + n % 26).toNat, 48]) (fun j hj => ?_) (by simp)) 26 5 9 Tryz.underlying26 Tryz.underlying5 Tryz.underlying9
    simp at hj
    rcases (by omega : j = 0 ∨ j = 1 ∨ j = 2) with rfl | rfl | rfl
    · simp [← e0]
    · simp [← e1]
    · rfl
  have q0 := hconv 97 (by omega) (by omega)
  have q1 := hconv 98 (by omega) (by omega)
  have q2 := hconv 99 (by omega) (by omega)
  have q3 := hconv 100 (by omega) (by omega)
  clear hconv
  rcases (by omega : i = 0 ∨ i = 1 ∨ i = 2 ∨ i = 3) with rfl | rfl | rfl | rfl <;>
  (go_enter Tryz.func38, Tryz.ntmps38
   go_wp2
   go_ret
   exact ⟨rfl, (Fr.refl _ _).alloc _⟩)
end
section
/-- The kind that a node's type has. -/
def kindE (kd d : Nat) (known : List Txt) : Nat :=
  if kd % 10 = 9 ∧ known.length = 0 ∨ d ≤ 1 ∧ (kd % 10 = 5 ∨ kd % 10 = 6 ∨ kd % 10 = 8) then 1 else kd % 10

/-- The type of kind k by small numbers, its parts by 'sub'. -/
def mkE (known : List Txt) (k n : Nat) (sub : Nat → KT) : KT :=
  if k = 4 then .mk 4 (1 + (n % 60 : Nat)) [] 0 (fun _ => .nil)
  else if k = 5 then .mk 5 (1 + (n % 60 : Nat)) [] 1 (fun _ => sub 0)
  else if k = 6 ∨ k = 8 then .mk k 0 ((List.range (1 + n % 3)).map (fun i => nameT i n)) (1 + n % 3) sub
  else if k = 7 then .mk 7 0 ((List.range (1 + n % 3)).map (fun i => nameT i n)) 0 (fun _ => .nil)
  else if k = 9 then .mk 9 0 [known.getD (n % known.length) []] 0 (fun _ => .nil)
  else .mk k 0 [] 0 (fun _ => .nil)

/-- A node's type, so deep at most. -/
def typeE (known : List Txt) : KN → Nat → KT
  | .nil, _ => .nil
  | .mk kd n c of, d => mkE known (kindE kd d known) n (fun i => if c = 0 then .mk (i % 4) 0 [] 0 (fun _ => .nil) else typeE known (of (i % c)) (d - 1))

def subE (known : List Txt) (c : Nat) (of : Nat → KN) (d i : Nat) : KT := if c = 0 then .mk (i % 4) 0 [] 0 (fun _ => .nil) else typeE known (of (i % c)) (d - 1)

theorem typeE_mk (known : List Txt) (kd n c : Nat) (of : Nat → KN) (d : Nat) : typeE known (.mk kd n c of) d = mkE known (kindE kd d known) n (subE known c of d) := rfl

def TypeAt (known : List Txt) (t : KN) : Prop := ∀ (R : Nat → Prop) (v vk : Value) (w : World) (d : Nat) (dz : Int), dz = d → 1 ≤ d → d ≤ 100 → NShows w t v → Texts R w known vk →
  Calls Tryz.prog 17 #[v, .int .i64 dz, vk] w fun e w' => ∃ v', e = .returned v' ∧ Shows (fun k => w.heap.size ≤ k) w' (typeE known t d) v' ∧ Fr (fun _ => False) w w'

theorem texts_none (R : Nat → Prop) (w : World) (a : Option Addr) (c : Nat) : Texts R w [] (.slice a 0 c) := ⟨by simp, by simp, .inl ⟨rfl, _, _, rfl⟩⟩

/-- A type in a new block of its own: ahead of the call, behind it, behind the store. -/
def OneS (w : World) (T : KT) : List Value → World → Prop
  | [], wx => Fr (fun _ => False) w wx ∧ wx.heap[w.heap.size]? = some (.cells #[.int .u8 0, .int .i64 0, .slice none 0 0, .slice none 0 0] 34 (0, 0))
  | [v], wx => Fr (fun _ => False) w wx ∧ wx.heap[w.heap.size]? = some (.cells #[.int .u8 0, .int .i64 0, .slice none 0 0, .slice none 0 0] 34 (0, 0)) ∧ Shows (fun k => w.heap.size + 1 ≤ k) wx T v
  | _ :: _ :: _, wx => Fr (fun _ => False) w wx ∧ ∃ y0 y1 y2 y3, wx.heap[w.heap.size]? = some (.cells #[y0, y1, y2, y3] 34 (0, 0)) ∧ Shows (fun k => w.heap.size + 1 ≤ k) wx T (.agg #[y0, y1, y2, y3])

theorem OneS.fr {w : World} {T : KT} {cvs : List Value} {wx : World} (h : OneS w T cvs wx) : Fr (fun _ => False) w wx := by
  match cvs with
  | [] => exact h.1
  | [_] => exact h.1
  | _ :: _ :: _ => exact h.1

set_option maxRecDepth 100000 in
theorem sub_any (known : List Txt) (kd n c : Nat) (of : Nat → KN) (ih : ∀ i, TypeAt known (of i)) (R : Nat → Prop) (a vk : Value) (w : World) (d : Nat) (dz : Int) (bn bd bk i : Nat) (hi : i ≤ 100) (hdz : dz = d) (hd1 : 2 ≤ d) (hd : d ≤ 100)
    (hn : w.heap[bn]? = some (.cells #[.int .u8 kd, .int .u8 n, a] 24 (0, 0))) (hbd : w.heap[bd]? = some (.cells #[.int .i64 dz] 3 (0, 0))) (hbk : w.heap[bk]? = some (.cells #[vk] 31 (0, 0)))
    (hsh : NShows w (.mk kd n c of) (.agg #[.int .u8 kd, .int .u8 n, a])) (hk : Texts R w known vk) :
    Calls Tryz.prog 37 #[.int .i64 i, .pointer (some ⟨bn, 0, none⟩), .pointer (some ⟨bd, 0, none⟩), .pointer (some ⟨bk, 0, none⟩)] w fun e w' => ∃ v', e = .returned v' ∧ Shows (fun k => w.heap.size ≤ k) w' (subE known c of d i) v' ∧ Fr (fun _ => False) w w' := by
  obtain ⟨vo, e, _, _, hc, ho⟩ := hsh
  simp at e
  subst e
  have hln := lt_of_block hn
  have hlbd := lt_of_block hbd
  have hlbk := lt_of_block hbk
  by_cases hc0 : c = 0
  · subst hc0
    obtain ⟨aa, cap, rfl⟩ : ∃ aa cap, a = .slice aa 0 cap := by
      rcases ho with ⟨_, aa, cap, rfl⟩ | ⟨g, off, cap, rfl, _⟩
      · exact ⟨aa, cap, rfl⟩
      · exact ⟨_, cap, rfl⟩
    have y2 := cells_row hn 2 _ rfl
    have i0 : (0 : Int) ≤ (i : Int) := by omega
    have i1 : (i : Int) ≤ 100 := by omega
    have z : ((w.alloc (.cells #[.int .u8 0, .int .i64 0, .slice none 0 0, .slice none 0 0] 34)).heap[w.heap.size]?) = some (.cells #[.int .u8 0, .int .i64 0, .slice none 0 0, .slice none 0 0] 34 (0, 0)) := heap_alloc_new _ _
    have Hz := Lib.hid z
    clear hdz hbd hbk hk ho hn z hc hd1 hd ih
    go_enter Tryz.func37, Tryz.ntmps37
    go_wp2
    refine bodyPost_ret (results_cell_row rfl _ _ w.heap.size 34 _ _ _ rfl (heap_alloc_new _ _) Tryz.underlying34 rfl (by kernel_rfl)) rfl ?_
    refine ⟨_, rfl, ?_, (Fr.refl _ _).alloc _⟩
    unfold subE
    rw [if_pos rfl]
    exact ⟨.slice none 0 0, .slice none 0 0, by simp, by omega, by omega, texts_none _ _ _ _, .inl ⟨rfl, _, _, rfl⟩⟩
  · obtain ⟨g, off, cap, rfl, hle, hcell⟩ : ∃ g off cap, a = .slice (some ⟨g, off, none⟩) c cap ∧ c ≤ cap ∧ ∀ i, i < c → ∃ x0 x1 x2,
      w.cell? ⟨g, off + i * 3, none⟩ = some x0 ∧ w.cell? ⟨g, off + i * 3 + 1, none⟩ = some x1 ∧ w.cell? ⟨g, off + i * 3 + 2, none⟩ = some x2 ∧ NShows w (of i) (.agg #[x0, x1, x2]) := by
      rcases ho with ⟨h, _⟩ | h
      · exact absurd h hc0
      · exact h
    obtain ⟨q, hq⟩ : ∃ q, q = i % c := ⟨_, rfl⟩
    have hq1 : q ≤ 100 := by rw [hq]; exact Nat.le_trans (Nat.mod_le _ _) hi
    have hqc : q < c := by rw [hq]; exact Nat.mod_lt _ (by omega)
    have hqz : (i : Int) % (c : Int) = (q : Int) := by rw [hq]; rfl
    obtain ⟨x0, x1, x2, c0, c1, c2, hx⟩ := hcell q hqc
    obtain ⟨pk, pn, pa, pc, pcap, e⟩ := hx.cells
    simp at e
    obtain ⟨rfl, rfl, rfl⟩ := e
    have HS : Hid (subE known c of d i = typeE known (of q) (d - 1)) := Lib.hid (by unfold subE; rw [if_neg hc0, hq])
    have HC := Lib.hid (fun (wx : World) (f : Fr (fun _ => False) w wx) => ih q R _ vk wx (d - 1) (dz - 1) (by omega) (by omega) (by omega) (NShows.fr f _ _ hx) (hk.fr f (fun _ _ h => h)))
    have HQ := Lib.hid (fun (wx : World) (f : Fr (fun _ => False) w wx) =>
      have up : ∀ {gg o : Nat} {u : Value}, w.cell? ⟨gg, o, none⟩ = some u → wx.cell? ⟨gg, o, none⟩ = some u := fun h => cell_fr (R := fun _ => True) f (fun _ _ h => h) trivial h
      And.intro (up (cells_row hn 2 _ rfl)) (And.intro (up (cell_of_one hbd)) (And.intro (up (cell_of_one hbk)) (And.intro (up c0) (And.intro (up c1) (up c2))))))
    have i0 : (0 : Int) ≤ (i : Int) := by omega
    have i1 : (i : Int) ≤ 100 := by omega
    have i2 : (0 : Int) ≤ (q : Int) := by omega
    have i3 : (q : Int) < (c : Int) := by omega
    have i4 : ¬ (c : Int) = 0 := by omega
    have i5 : 1 ≤ dz := by omega
    have d1 : IntKind.i64.wrap (dz - 1) = dz - 1 := IntWalk.i64_in _ (by omega)
    have d2 : wrap64 (dz - 1) = dz - 1 := IntWalk.wrap64_in _ (by omega)
    have d3 : Int.tmod (i : Int) (c : Int) = (q : Int) := by rw [Int.tmod_eq_emod_of_nonneg (by omega)]; exact hqz
    have d4 : IntKind.i64.wrap (q : Int) = (q : Int) := IntWalk.i64_in _ (by omega)
    have i6 : dz ≤ 100 := by omega
    have i7 : ((c : Int) == 0) = false := by simpa using hc0
    have hcm : (c : Int) ≤ 9223372036854775807 := by unfold maxLen at hc; omega
    have y2 := cells_row hn 2 _ rfl
    clear hdz hbd hbk hk ho hn hd1 hd ih hq hcell c0 c1 c2 hx hc
    obtain ⟨w0, hw0⟩ : ∃ w0, w0 = w.alloc (.cells #[.int .u8 0, .int .i64 0, .slice none 0 0, .slice none 0 0] 34) := ⟨_, rfl⟩
    have F0 : Hid (Fr (fun _ => False) w w0 ∧ w0.heap[w.heap.size]? = some (.cells #[.int .u8 0, .int .i64 0, .slice none 0 0, .slice none 0 0] 34 (0, 0))) := Lib.hid (by rw [hw0]; exact ⟨(Fr.refl _ _).alloc _, heap_alloc_new _ _⟩)
    go_enter Tryz.func37, Tryz.ntmps37
    go_wp2_with fail
    rw [← hw0]
    clear hw0 y2
    refine wp_region_chain (by kernel_rfl) [some 14, some 15, some 16, some 17, some 18, some 19, some 20, some 21, some 22, some 23, some 24, some 25, some 26, none] rfl (by decide) (by intro d hd; simp at hd ⊢; omega)
      [12, 13] (OneS w (typeE known (of q) (d - 1)))
      [.free (.pointer (some ⟨bn, 2, none⟩)), .free (.slice (some ⟨g, off, none⟩) c cap), .free (.int .i64 i), .free (.pointer (some ⟨bn, 2, none⟩)), .free (.slice (some ⟨g, off, none⟩) c cap), .free (.int .i64 c), .free (.int .i64 q), .free (.pointer (some ⟨g, off + q * 3, none⟩)),
       .free (.agg #[.int .u8 pk, .int .u8 pn, .slice pa pc pcap]), .free (.int .i64 dz), .free (.int .i64 (dz - 1)), .free vk, .link none, .link none]
      (by kernel_rfl) (by kernel_rfl) ?h0 ?step ?fin
    case h0 => exact ⟨F0.out.1.drew, F0.out.2⟩
    case step =>
      intro vals
      simp only [frOfU, fillU, List.setIfInBounds_toArray, List.set_cons_succ, List.set_cons_zero]
      repeat' (first | exact AllOps.nil | refine AllOps.cons ?_ ?_)
      all_goals
        intro cvs wx hS he hu hlim K hK
        clear hu
        simp only [Act.put, List.setIfInBounds_toArray, List.set_cons_succ, List.set_cons_zero, List.getD_cons_zero, List.getD_cons_succ] at hK
        simp only [List.mem_cons, List.not_mem_nil, or_false, forall_eq_or_imp, forall_eq, Region.binds, forall_const, false_imp_iff, List.getD_cons_zero, List.getD_cons_succ, OpSort.val, Option.some.injEq, forall_eq', reduceCtorEq, implies_true, true_and, and_true] at he
        have FX := Lib.hid hS.fr
        obtain ⟨r0, r1, r2, r3, r4, r5⟩ := HQ.out wx hS.fr
        simp only [List.getElem_toArray, List.getElem_cons_succ, List.getElem_cons_zero] at r0
        have HSX := Lib.hid hS
        clear hS
      all_goals first | (clear hlim; (try simp only [he] at hK ⊢); go_simp; exact hK) | skip
      · obtain rfl := hlim (0 : Nat) rfl
        have h1 := HSX.out
        simp only [List.take_zero, List.map_nil] at h1
        simp only [he] at hK ⊢
        go_simp
        go_at_call 17
        refine (HC.out wx FX.out).mono ?_
        rintro e1 wa ⟨v', rfl, hsv, fa⟩
        refine hK _ _ (fun _ h => by cases h) ⟨FX.out.trans fa (fun _ _ h => h), box_kept h1.2 fa (fun h => h), Shows.mono (fun k _ hk => ?_) _ _ hsv⟩
        have := lt_of_block h1.2
        omega
      · obtain rfl := hlim (1 : Nat) rfl
        have h1 := HSX.out
        clear HSX hlim
        simp only [List.take_succ_cons, List.take_zero, List.map_cons, List.map_nil] at h1 hK
        obtain ⟨_, hb, hs⟩ := h1
        obtain ⟨tk, tm, ta, tn, tc, ta', tn', tc', e12⟩ := hs.four
        have z0 : wx.frozen? ⟨w.heap.size, 0, none⟩ = false := by simp [World.frozen?, hb]
        have z1 : wx.frozen? ⟨w.heap.size, 1, none⟩ = false := by simp [World.frozen?, hb]
        have z2 : wx.frozen? ⟨w.heap.size, 2, none⟩ = false := by simp [World.frozen?, hb]
        have z3 : wx.frozen? ⟨w.heap.size, 3, none⟩ = false := by simp [World.frozen?, hb]
        obtain ⟨b0, b1, b2, b3⟩ := cell_of_four hb
        rw [e12] at hs
        have HB := Lib.hid (And.intro hb hs)
        clear hb hs
        simp only [he, e12] at hK ⊢
        go_simp
        refine hK undef _ (fun _ h => by cases h) ⟨fr_four _ _ _ _ FX.out (fun h => absurd h (Nat.lt_irrefl _)), _, _, _, _, store_four HB.out.1, Shows.fr (S := fun k => k = w.heap.size) (fr_four _ _ _ _ (Fr.refl _ _) (fun _ => rfl)) (fun k hk h => by omega) _ _ HB.out.2⟩
    case fin =>
      intro vals w' hS hV
      clear hV
      simp only [List.map_cons, List.map_nil] at hS
      obtain ⟨hf, y0, y1, y2, y3, hb, hs⟩ := hS
      have HF := Lib.hid (And.intro hf (And.intro hb hs))
      clear hf hb hs
      simp only [frOfU, fillU, List.setIfInBounds_toArray, List.set_cons_succ, List.set_cons_zero]
      go_wp2
      refine bodyPost_ret (results_cell_row rfl _ _ w.heap.size 34 _ _ _ rfl HF.out.2.1 Tryz.underlying34 rfl (by kernel_rfl)) rfl ?_
      rw [HS.out]
      exact ⟨_, rfl, Shows.mono (fun k _ h => Nat.le_trans (Nat.le_succ _) h) _ _ HF.out.2.2, HF.out.1⟩
end
end Go.Proofs.YtplipjijaaejlaaGreat
