/-
  CouBack, part 31 of what it rests on: KindTypeL.
-/
import Derived.Test.YtplipjijaaejlaaGreatS30
set_option linter.unusedVariables false
set_option linter.unusedSimpArgs false
set_option maxHeartbeats 64000000
namespace Go.Proofs.YtplipjijaaejlaaGreat
open Go.RowKit
open Go.Lib (hid)
section
/-- The local type while its names and parts are gathered. -/
def LBase (w : World) (nv : Array Value) (dz : Int) (kv : Value) (b k : Nat) (pv po : Value) (l : List Txt) (ts : List KT) (wx : World) : Prop :=
  Boxes w nv dz kv wx ∧ wx.heap[b]? = some (.cells #[.int .u8 k, .int .i64 0, pv, po] 34 (0, 0)) ∧
  ItRow txShown 9 1 (b + 1) (fun k => po.ownBlock = some k) wx pv l ∧ ItRow tyShown 34 4 (b + 1) (fun k => pv.ownBlock = some k) wx po ts

theorem LBase.fr {w wx wy : World} {nv : Array Value} {dz : Int} {kv : Value} {b k : Nat} {pv po : Value} {l : List Txt} {ts : List KT} (h : LBase w nv dz kv b k pv po l ts wx) (hb : b = w.heap.size + 1 + 1 + 1 + 1) (f : Fr (fun _ => False) wx wy) : LBase w nv dz kv b k pv po l ts wy :=
  ⟨h.1.fr f (fun _ h => absurd h (fun h => h)), box_kept h.2.1 f (fun h => h), h.2.2.1.fr f (fun _ _ h => absurd h (fun h => h)), h.2.2.2.fr f (fun _ _ h => absurd h (fun h => h))⟩

theorem LBase.drew {w wx : World} {nv : Array Value} {dz : Int} {kv : Value} {b k : Nat} {pv po : Value} {l : List Txt} {ts : List KT} (h : LBase w nv dz kv b k pv po l ts wx) : LBase w nv dz kv b k pv po l ts wx.drew :=
  ⟨h.1.drew, h.2.1, h.2.2.1.fr ((Fr.refl (fun _ => False) _).drew) (fun _ _ h => absurd h (fun h => h)), h.2.2.2.fr ((Fr.refl (fun _ => False) _).drew) (fun _ _ h => absurd h (fun h => h))⟩

theorem map_range_at {α : Type} {f : Nat → α} {n i : Nat} {x : α} (h : ((List.range n).map f)[i]? = some x) : f i = x := by
  rw [List.getElem?_map] at h
  by_cases hlt : i < n
  · rw [List.getElem?_range hlt] at h
    simpa using h
  · rw [List.getElem?_eq_none (by simp; omega)] at h
    cases h

/-- Rows apart: the one goes on where an item is appended to the other. -/
theorem ItRow.apart {α : Type} {D : Shown α} {e : TypeId} {size B : Nat} {w w' : World} {pv v v' : Value} {l : List α} (h : ItRow D e size B (fun k => v.ownBlock = some k) w pv l) (f : Fr (fun k => v.ownBlock = some k) w w') (hv : v'.ownBlock = v.ownBlock ∨ v'.ownBlock = some w.heap.size) :
    ItRow D e size B (fun k => v'.ownBlock = some k) w' pv l := by
  have h1 := h.off (Y := fun k => v.ownBlock = some k ∨ v'.ownBlock = some k) (fun k hk hy => by
    rcases hy with hy | hy
    · exact hy
    · rcases hv with e | e
      · rw [← e]; exact hy
      · rw [e] at hy; cases hy; exact absurd hk (Nat.lt_irrefl _))
  exact (h1.fr f (fun k _ hs => .inl hs)).off (fun k _ hy => .inr hy)

/-- Behind the append to the names; to the parts; ahead of the store. -/
def NameS (w : World) (nv : Array Value) (dz : Int) (kv : Value) (b k : Nat) (pv po : Value) (l : List Txt) (ts : List KT) (nm : Txt) : List Value → World → Prop
  | [], wx => LBase w nv dz kv b k pv po l ts wx
  | [_], wx => LBase w nv dz kv b k pv po l ts wx
  | [_, u], wx => LBase w nv dz kv b k pv po l ts wx ∧ ∃ gg, u = .slice (some ⟨gg, 0, none⟩) 1 1 ∧ wx.heap[gg]? = some (.cells #[sv nm] 9 (0, 0))
  | [_, _, x], wx => Boxes w nv dz kv wx ∧ wx.heap[b]? = some (.cells #[.int .u8 k, .int .i64 0, pv, po] 34 (0, 0)) ∧
      ItRow txShown 9 1 (b + 1) (fun k => po.ownBlock = some k) wx x (l ++ [nm]) ∧ ItRow tyShown 34 4 (b + 1) (fun k => x.ownBlock = some k) wx po ts
  | _ :: _ :: x :: _ :: _, wx => LBase w nv dz kv b k x po (l ++ [nm]) ts wx

theorem NameS.box {w : World} {nv : Array Value} {dz : Int} {kv : Value} {b k : Nat} {pv po : Value} {l : List Txt} {ts : List KT} {nm : Txt} {cvs : List Value} {wx : World} (h : NameS w nv dz kv b k pv po l ts nm cvs wx) : Boxes w nv dz kv wx := by
  match cvs with
  | [] => exact h.1
  | [_] => exact h.1
  | [_, _] => exact h.1.1
  | [_, _, _] => exact h.1
  | _ :: _ :: _ :: _ :: _ => exact h.1

theorem NameS.loc {w : World} {nv : Array Value} {dz : Int} {kv : Value} {b k : Nat} {pv po : Value} {l : List Txt} {ts : List KT} {nm : Txt} {cvs : List Value} {wx : World} (h : NameS w nv dz kv b k pv po l ts nm cvs wx) (hc : cvs.length ≤ 3) : wx.heap[b]? = some (.cells #[.int .u8 k, .int .i64 0, pv, po] 34 (0, 0)) := by
  match cvs with
  | [] => exact h.2.1
  | [_] => exact h.2.1
  | [_, _] => exact h.1.2.1
  | [_, _, _] => exact h.2.1
  | _ :: _ :: _ :: _ :: _ => simp at hc

def PartS (w : World) (nv : Array Value) (dz : Int) (kv : Value) (b k : Nat) (pv po : Value) (l : List Txt) (ts : List KT) (T : KT) : List Value → World → Prop
  | [], wx => LBase w nv dz kv b k pv po l ts wx
  | [v], wx => LBase w nv dz kv b k pv po l ts wx ∧ Shows (fun k => b + 1 ≤ k ∧ ¬ pv.ownBlock = some k ∧ po.ownBlock ≠ some k) wx T v
  | [_, u], wx => LBase w nv dz kv b k pv po l ts wx ∧ ∃ gg y0 y1 y2 y3, u = .slice (some ⟨gg, 0, none⟩) 1 1 ∧ wx.heap[gg]? = some (.cells #[y0, y1, y2, y3] 34 (0, 0)) ∧ Shows (fun k => b + 1 ≤ k ∧ ¬ pv.ownBlock = some k ∧ po.ownBlock ≠ some k) wx T (.agg #[y0, y1, y2, y3])
  | [_, _, x], wx => Boxes w nv dz kv wx ∧ wx.heap[b]? = some (.cells #[.int .u8 k, .int .i64 0, pv, po] 34 (0, 0)) ∧
      ItRow txShown 9 1 (b + 1) (fun k => x.ownBlock = some k) wx pv l ∧ ItRow tyShown 34 4 (b + 1) (fun k => pv.ownBlock = some k) wx x (ts ++ [T])
  | _ :: _ :: x :: _ :: _, wx => LBase w nv dz kv b k pv x l (ts ++ [T]) wx

theorem PartS.box {w : World} {nv : Array Value} {dz : Int} {kv : Value} {b k : Nat} {pv po : Value} {l : List Txt} {ts : List KT} {T : KT} {cvs : List Value} {wx : World} (h : PartS w nv dz kv b k pv po l ts T cvs wx) : Boxes w nv dz kv wx := by
  match cvs with
  | [] => exact h.1
  | [_] => exact h.1.1
  | [_, _] => exact h.1.1
  | [_, _, _] => exact h.1
  | _ :: _ :: _ :: _ :: _ => exact h.1

theorem PartS.loc {w : World} {nv : Array Value} {dz : Int} {kv : Value} {b k : Nat} {pv po : Value} {l : List Txt} {ts : List KT} {T : KT} {cvs : List Value} {wx : World} (h : PartS w nv dz kv b k pv po l ts T cvs wx) (hc : cvs.length ≤ 3) : wx.heap[b]? = some (.cells #[.int .u8 k, .int .i64 0, pv, po] 34 (0, 0)) := by
  match cvs with
  | [] => exact h.2.1
  | [_] => exact h.1.2.1
  | [_, _] => exact h.1.2.1
  | [_, _, _] => exact h.2.1
  | _ :: _ :: _ :: _ :: _ => simp at hc

/-- A cell is stored: the local type's names, its parts. -/
theorem LBase.setNames {w wx : World} {nv : Array Value} {dz : Int} {kv : Value} {b k : Nat} {pv po x : Value} {l : List Txt} {ts : List KT} (hb : b = w.heap.size + 1 + 1 + 1 + 1) (h0 : Boxes w nv dz kv wx) (h1 : wx.heap[b]? = some (.cells #[.int .u8 k, .int .i64 0, pv, po] 34 (0, 0)))
    (h2 : ItRow txShown 9 1 (b + 1) (fun k => po.ownBlock = some k) wx x l) (h3 : ItRow tyShown 34 4 (b + 1) (fun k => x.ownBlock = some k) wx po ts) : LBase w nv dz kv b k x po l ts (wx.setCell ⟨b, 2, none⟩ x) := by
  have f : Fr (fun k => k = b) wx (wx.setCell ⟨b, 2, none⟩ x) := Fr.set1 (Fr.refl _ _) 2 _
  exact ⟨h0.fr f (fun k hk => by omega), setCell_row 2 x h1, h2.fr f (fun k hk e => by omega), h3.fr f (fun k hk e => by omega)⟩

theorem LBase.setParts {w wx : World} {nv : Array Value} {dz : Int} {kv : Value} {b k : Nat} {pv po x : Value} {l : List Txt} {ts : List KT} (hb : b = w.heap.size + 1 + 1 + 1 + 1) (h0 : Boxes w nv dz kv wx) (h1 : wx.heap[b]? = some (.cells #[.int .u8 k, .int .i64 0, pv, po] 34 (0, 0)))
    (h2 : ItRow txShown 9 1 (b + 1) (fun k => x.ownBlock = some k) wx pv l) (h3 : ItRow tyShown 34 4 (b + 1) (fun k => pv.ownBlock = some k) wx x ts) : LBase w nv dz kv b k pv x l ts (wx.setCell ⟨b, 3, none⟩ x) := by
  have f : Fr (fun k => k = b) wx (wx.setCell ⟨b, 3, none⟩ x) := Fr.set1 (Fr.refl _ _) 3 _
  exact ⟨h0.fr f (fun k hk => by omega), setCell_row 3 x h1, h2.fr f (fun k hk e => by omega), h3.fr f (fun k hk e => by omega)⟩

theorem Tryz.infoTxt : (Tryz.prog.info? 9).map (fun i => (i.zero, i.size, i.bytes)) = some (some (.string ByteArray.empty), 1, 16) := by kernel_rfl

set_option maxRecDepth 100000 in
theorem type_n6 (known : List Txt) (kd n c : Nat) (of : Nat → KN) (d : Nat) (ih : ∀ i, TypeAt known (of i)) (hd2 : 2 ≤ d) (hkk : kd % 10 = 6) : TypeOne known (.mk kd n c of) d := by
  intro R v vk w dz hdz hd1 hd hsh hk
  have hsh0 := hsh
  obtain ⟨vo, rfl, hkd, hn, hc, ho⟩ := hsh
  obtain ⟨oa, on, oc, rfl⟩ : ∃ oa on oc, vo = .slice oa on oc := by
    rcases ho with ⟨_, aa, cap, rfl⟩ | ⟨g, off, cap, rfl, _⟩
    · exact ⟨aa, 0, cap, rfl⟩
    · exact ⟨_, c, cap, rfl⟩
  obtain ⟨ka, kc, rfl, hks⟩ := hk.shape
  have hl1 := hk.1
  have h10 : (kd : Int) % 10 = 6 := by omega
  have n0 : (0 : Int) ≤ (n : Int) := by omega
  have n1 : (n : Int) ≤ 255 := by omega
  have HSUB := Lib.hid (fun (wx : World) (hb : Boxes w #[.int .u8 kd, .int .u8 n, .slice oa on oc] dz (.slice ka known.length kc) wx) (i : Nat) (hi : i ≤ 100) => sub_any known kd n c of ih R (.slice oa on oc) (.slice ka known.length kc) wx d dz w.heap.size (w.heap.size + 1) (w.heap.size + 1 + 1) i hi hdz hd2 hd hb.2.1 hb.2.2.1 hb.2.2.2.1 (NShows.fr hb.1 _ _ hsh0) (hk.fr hb.1 (fun _ _ h => h)))
  have z1 : ¬ dz ≤ 1 := by omega
  obtain ⟨q, hq⟩ : ∃ q : Int, (n : Int) % 3 = q := ⟨_, rfl⟩
  have q0 : 0 ≤ q := by omega
  have q1 : q ≤ 2 := by omega
  have g1 : IntKind.i64.wrap q = q := IntWalk.i64_in _ (by omega)
  have g2 : wrap64 q = q := IntWalk.wrap64_in _ (by omega)
  have g3 : IntKind.i64.wrap (1 + q) = 1 + q := IntWalk.i64_in _ (by omega)
  have g4 : wrap64 (1 + q) = 1 + q := IntWalk.wrap64_in _ (by omega)
  have g5 : q % 256 = q := by omega
  have g6 : Int.tmod (n : Int) 3 = q := by rw [Int.tmod_eq_emod_of_nonneg n0]; exact hq
  obtain ⟨N, hN⟩ : ∃ N : Nat, N = 1 + n % 3 := ⟨_, rfl⟩
  have hqN : 1 + q = (N : Int) := by omega
  have hN3 : N ≤ 3 := by omega
  have HN := Lib.hid hN
  have HT : Hid (typeE known (.mk kd n c of) d = .mk 6 0 ((List.range N).map (fun i => nameT i n)) N (subE known c of d)) := Lib.hid (by
    rw [typeE_mk]
    have e : kindE kd d known = 6 := by unfold kindE; rw [hkk]; simp; omega
    rw [e, hN]
    rfl)
  clear hN
  clear ho hk hks hkk hdz hsh0 hd1 hd ih hd2 hq
  go_enter Tryz.func17, Tryz.ntmps17
  go_wp2_with fail
  obtain ⟨hB, hL⟩ := boxes_new w #[.int .u8 kd, .int .u8 n, .slice oa on oc] dz (.slice ka known.length kc) #[.int .u8 6, .int .i64 0, .slice none 0 0, .slice none 0 0]
  obtain ⟨w5, hw5⟩ : ∃ w5, w5 = (((((w.alloc (.cells #[.int .u8 kd, .int .u8 n, .slice oa on oc] 24)).alloc (.cells #[.int .i64 dz] 3)).alloc (.cells #[(.slice ka known.length kc)] 31)).alloc (.cells #[.int .u8 0, .int .i64 0, .slice none 0 0, .slice none 0 0] 34)).alloc (.cells #[.int .u8 6, .int .i64 0, .slice none 0 0, .slice none 0 0] 34)) := ⟨_, rfl⟩
  rw [← hw5] at hB hL ⊢
  have HB := Lib.hid (And.intro hB hL)
  clear hB hL
  obtain ⟨b4, hb4⟩ : ∃ b4, b4 = w.heap.size + 1 + 1 + 1 + 1 := ⟨_, rfl⟩
  rw [← hb4] at HB ⊢
  have HB4 := Lib.hid hb4
  have HLB := Lib.hid (show LBase w #[.int .u8 kd, .int .u8 n, .slice oa on oc] dz (.slice ka known.length kc) b4 6 (.slice none 0 0) (.slice none 0 0) [] [] w5 from ⟨HB.out.1, HB.out.2, ItRow.nil _ _ _ _ _ _, ItRow.nil _ _ _ _ _ _⟩)
  clear hb4 hw5
  go_loopg [10, 70] N (fun G u10 u70 wr => ∃ (j : Nat) (pv po : Value), j ≤ N ∧ G = N - j ∧ u70 = .int .i64 j ∧ Hid (LBase w #[.int .u8 kd, .int .u8 n, .slice oa on oc] dz (.slice ka known.length kc) b4 6 pv po ((List.range j).map (fun i => nameT i n)) ((List.range j).map (subE known c of d)) wr))
  case atStart => exact ⟨0, _, _, Nat.zero_le _, rfl, by go_num, HLB⟩
  case round =>
    obtain ⟨j, pv, po, hj, rfl, rfl, HI⟩ := hrel
    obtain ⟨pa, pn, pc, rfl⟩ : ∃ pa pn pc, pv = .slice pa pn pc := by obtain ⟨a, c, e⟩ := HI.out.2.2.1.slice; exact ⟨a, _, c, e⟩
    obtain ⟨qa, qn, qc, rfl⟩ : ∃ qa qn qc, po = .slice qa qn qc := by obtain ⟨a, c, e⟩ := HI.out.2.2.2.slice; exact ⟨a, _, c, e⟩
    by_cases hlt : j < N
    · have hlen : ((List.range j).map (fun i => nameT i n)).length ≤ 3 := by simp; omega
      have HLEN := Lib.hid hlen
      clear hlen
      have hcall := Lib.hid (fun (wx : World) => nameOf_any j (by omega) n n0 n1 wx)
      go_wp2_with fail
      refine wp_region_chain (by kernel_rfl) [some 73, some 74, some 75, some 76, some 77, some 78, some 79, some 80, some 81, none] rfl (by decide) (by intro d hd; simp at hd ⊢; omega)
        [5, 6, 7, 9] (NameS w #[.int .u8 kd, .int .u8 n, .slice oa on oc] dz (.slice ka known.length kc) b4 6 (.slice pa pn pc) (.slice qa qn qc) ((List.range j).map (fun i => nameT i n)) ((List.range j).map (subE known c of d)) (nameT j n))
        [.free (.pointer (some ⟨b4, 2, none⟩)), .free (.slice pa pn pc), .free (.int .i64 j), .free (.pointer (some ⟨w.heap.size, 1, none⟩)), .free (.int .u8 n), .link (some (sv (nameT j n))), .link none, .link none, .free (.pointer (some ⟨b4, 2, none⟩)), .link none]
        (by kernel_rfl) (by kernel_rfl) ?h0 ?step ?fin
      case h0 => exact LBase.drew HI.out
      case step =>
        intro vals
        simp only [frOfU, fillU, List.setIfInBounds_toArray, List.set_cons_succ, List.set_cons_zero]
        repeat' (first | exact AllOps.nil | refine AllOps.cons ?_ ?_)
        all_goals
          intro cvs wx hS he hu hlim K hK
          simp only [Act.put, List.setIfInBounds_toArray, List.set_cons_succ, List.set_cons_zero, List.getD_cons_zero, List.getD_cons_succ] at hK
          simp only [List.mem_cons, List.not_mem_nil, or_false, forall_eq_or_imp, forall_eq, Region.binds, forall_const, mode_gc, Bool.false_eq_true, false_imp_iff, List.getD_cons_zero, List.getD_cons_succ, OpSort.val, Option.some.injEq, forall_eq', reduceCtorEq, implies_true, true_and, and_true] at he
          have hbx := hS.box
          have r1 := cells_row hbx.2.1 1 _ rfl
          simp only [List.getElem_toArray, List.getElem_cons_succ, List.getElem_cons_zero] at r1
          clear hbx
          have HSX := Lib.hid hS
          clear hS
        all_goals first | (clear hlim hu; (try simp only [he] at hK ⊢); go_simp; exact hK) | skip
        · have hl := HSX.out.loc (Nat.le_trans (hlim 2 7 rfl (by kernel_rfl)) (by omega))
          obtain ⟨e0, e1, e2, e3⟩ := cell_of_four hl
          clear hlim hu hl
          simp only [he] at hK ⊢
          go_simp
          exact hK
        · obtain rfl := hlim (0 : Nat) rfl
          have h1 := HSX.out
          simp only [List.take_zero, List.map_nil] at h1
          simp only [he] at hK ⊢
          go_simp
          go_at_call 38
          refine (hcall.out wx).mono ?_
          rintro e1 wa ⟨rfl, fa⟩
          exact hK _ _ (fun _ h => by cases h; rfl) (LBase.fr h1 HB4.out fa)
        · obtain rfl := hlim (1 : Nat) rfl
          have h1 := HSX.out
          clear HSX hlim hu
          simp only [List.take_succ_cons, List.take_zero, List.map_cons, List.map_nil] at h1 hK
          unfold sv at he
          simp only [he] at hK ⊢
          go_simp
          have fa : Fr (fun _ => False) wx (wx.alloc (.cells #[.string ⟨(nameT j n).toArray⟩] 9)) := (Fr.refl _ _).alloc _
          exact hK _ _ (fun _ h => by cases h) ⟨LBase.fr h1 HB4.out fa, _, rfl, heap_alloc_new _ _⟩
        · obtain rfl := hlim (2 : Nat) rfl
          have h1 := HSX.out
          clear HSX hlim hu
          simp only [List.take_succ_cons, List.take_zero, List.map_cons, List.map_nil] at h1 hK
          obtain ⟨hb, gg, e6, hgg⟩ := h1
          rw [if_pos (by rfl)]
          have hsz := lt_of_block hb.2.1
          refine opWp_push (pv := (.slice pa pn pc)) (l := (List.range j).map (fun i => nameT i n)) (B := b4 + 1) (X := fun k => (Value.slice qa qn qc).ownBlock = some k) (D := txShown) (.tmp 74) (.tmp 79) 31 31 rfl Tryz.underlying31 Tryz.underlying31 Tryz.infoTxt rfl (by decide) he.1 hb.2.2.1 gg e6 (news := [sv (nameT j n)]) hgg rfl (by intro u hu; simp at hu; subst hu; rfl) (by have := HLEN.out; omega) (by omega) (by omega) (fun k hk => (hb.2.2.2.own k hk).2.1) (nameT j n) rfl ?_
          intro v' w6 hrow f6 hv
          refine hK _ _ (fun _ h => by cases h) ⟨hb.1.fr f6 (fun k hk => by have := (hb.2.2.1.own k hk).1; have := HB4.out; omega), box_kept hb.2.1 f6 (fun hk => by have := (hb.2.2.1.own _ hk).1; omega), hrow, hb.2.2.2.apart f6 hv⟩
        · obtain rfl := hlim (3 : Nat) rfl
          have h1 := HSX.out
          clear HSX hlim hu
          simp only [List.take_succ_cons, List.take_zero, List.map_cons, List.map_nil] at h1 hK
          obtain ⟨hb, hl, hr, ho⟩ := h1
          obtain ⟨xa, xn, xc, e7⟩ : ∃ xa xn xc, vals 7 = .slice xa xn xc := by obtain ⟨a, c, e⟩ := hr.slice; exact ⟨a, _, c, e⟩
          have z2 : wx.frozen? ⟨b4, 2, none⟩ = false := by simp [World.frozen?, hl]
          obtain ⟨e0, e1, e2, e3⟩ := cell_of_four hl
          have HG := Lib.hid (LBase.setNames HB4.out hb hl hr ho)
          clear hb hl hr ho
          rw [e7] at HG
          simp only [he, e7] at hK ⊢
          go_simp
          exact hK undef _ (fun _ h => by cases h) HG.out
      case fin =>
        intro vals w6 hS hV
        clear hV
        simp only [List.map_cons, List.map_nil] at hS
        obtain ⟨pa2, pn2, pc2, e7⟩ : ∃ xa xn xc, vals 7 = .slice xa xn xc := by obtain ⟨a, c, e⟩ := hS.2.2.1.slice; exact ⟨a, _, c, e⟩
        rw [show NameS w #[.int .u8 kd, .int .u8 n, .slice oa on oc] dz (.slice ka known.length kc) b4 6 (.slice pa pn pc) (.slice qa qn qc) ((List.range j).map (fun i => nameT i n)) ((List.range j).map (subE known c of d)) (nameT j n) [vals 5, vals 6, vals 7, vals 9] w6 = LBase w #[.int .u8 kd, .int .u8 n, .slice oa on oc] dz (.slice ka known.length kc) b4 6 (vals 7) (.slice qa qn qc) ((List.range j).map (fun i => nameT i n) ++ [nameT j n]) ((List.range j).map (subE known c of d)) w6 from rfl, e7] at hS
        have HS := Lib.hid hS
        clear hS e7
        simp only [frOfU, fillU, List.setIfInBounds_toArray, List.set_cons_succ, List.set_cons_zero]
        go_wp2_with fail
        refine wp_region_chain (by kernel_rfl) [some 84, some 85, some 86, some 87, some 88, some 89, some 90, some 91, none] rfl (by decide) (by intro d hd; simp at hd ⊢; omega)
          [4, 5, 6, 8] (PartS w #[.int .u8 kd, .int .u8 n, .slice oa on oc] dz (.slice ka known.length kc) b4 6 (.slice pa2 pn2 pc2) (.slice qa qn qc) ((List.range j).map (fun i => nameT i n) ++ [nameT j n]) ((List.range j).map (subE known c of d)) (subE known c of d j))
          [.free (.pointer (some ⟨b4, 3, none⟩)), .free (.slice qa qn qc), .free (.func (.func 37) #[] #[.pointer (some ⟨w.heap.size, 0, none⟩), .pointer (some ⟨w.heap.size + 1, 0, none⟩), .pointer (some ⟨w.heap.size + 1 + 1, 0, none⟩)]), .free (.int .i64 j),
           .link none, .link none, .link none, .free (.pointer (some ⟨b4, 3, none⟩)), .link none]
          (by kernel_rfl) (by kernel_rfl) ?h0 ?step ?fin
        case h0 => exact LBase.drew HS.out
        case step =>
          intro vals2
          simp only [frOfU, fillU, List.setIfInBounds_toArray, List.set_cons_succ, List.set_cons_zero]
          repeat' (first | exact AllOps.nil | refine AllOps.cons ?_ ?_)
          all_goals
            intro cvs wx hS he hu hlim K hK
            simp only [Act.put, List.setIfInBounds_toArray, List.set_cons_succ, List.set_cons_zero, List.getD_cons_zero, List.getD_cons_succ] at hK
            simp only [List.mem_cons, List.not_mem_nil, or_false, forall_eq_or_imp, forall_eq, Region.binds, forall_const, mode_gc, Bool.false_eq_true, false_imp_iff, List.getD_cons_zero, List.getD_cons_succ, OpSort.val, Option.some.injEq, forall_eq', reduceCtorEq, implies_true, true_and, and_true] at he
            have hbx := hS.box
            have HBX := Lib.hid hbx
            clear hbx
            have HSX := Lib.hid hS
            clear hS
          all_goals first | (clear hlim hu; (try simp only [he] at hK ⊢); go_simp; exact hK) | skip
          · have hl := HSX.out.loc (Nat.le_trans (hlim 2 6 rfl (by kernel_rfl)) (by omega))
            obtain ⟨e0, e1, e2, e3⟩ := cell_of_four hl
            clear hlim hu hl
            simp only [he] at hK ⊢
            go_simp
            exact hK
          · obtain rfl := hlim (0 : Nat) rfl
            have h1 := HSX.out
            simp only [List.take_zero, List.map_nil] at h1
            simp only [he] at hK ⊢
            go_simp
            go_at_call 37
            refine (HSUB.out wx HBX.out j (by omega)).mono ?_
            rintro e1 wa ⟨v', rfl, hsv, fa⟩
            refine hK _ _ (fun _ h => by cases h) ⟨LBase.fr h1 HB4.out fa, Shows.mono (fun k _ hk => ⟨by have := lt_of_block h1.2.1; omega, fun e => ?_, fun e => ?_⟩) _ _ hsv⟩
            · have := (h1.2.2.1.own k e).2.1; omega
            · have := (h1.2.2.2.own k e).2.1; omega
          · obtain rfl := hlim (1 : Nat) rfl
            have h1 := HSX.out
            clear HSX hlim hu
            simp only [List.take_succ_cons, List.take_zero, List.map_cons, List.map_nil] at h1 hK
            obtain ⟨hb, hs⟩ := h1
            obtain ⟨tk, tm, ta, tn, tc, ta', tn', tc', e4⟩ := hs.four
            rw [e4] at hs
            simp only [he, e4] at hK ⊢
            go_simp
            have fa : Fr (fun _ => False) wx (wx.alloc (.cells #[.int .u8 tk, .int .i64 tm, .slice ta tn tc, .slice ta' tn' tc'] 34)) := (Fr.refl _ _).alloc _
            exact hK _ _ (fun _ h => by cases h) ⟨LBase.fr hb HB4.out fa, _, _, _, _, _, rfl, heap_alloc_new _ _, Shows.fr fa (fun _ _ h => h) _ _ hs⟩
          · obtain rfl := hlim (2 : Nat) rfl
            have h1 := HSX.out
            clear HSX hlim hu
            simp only [List.take_succ_cons, List.take_zero, List.map_cons, List.map_nil] at h1 hK
            obtain ⟨hb, gg, y0, y1, y2, y3, e6, hgg, hss⟩ := h1
            rw [if_pos (by rfl)]
            have hsz := lt_of_block hb.2.1
            obtain ⟨yk, ym, ya, yn, yc, ya2, yn2, yc2, ey0, ey1, ey2, ey3⟩ := hss.cells
            refine opWp_push (pv := (.slice qa qn qc)) (l := (List.range j).map (subE known c of d)) (B := b4 + 1) (X := fun k => (Value.slice pa2 pn2 pc2).ownBlock = some k) (D := tyShown) (.tmp 85) (.tmp 89) 32 32 rfl Tryz.underlying32 Tryz.underlying32 Tryz.infoType rfl (by decide) he hb.2.2.2 gg e6 (news := [y0, y1, y2, y3]) hgg rfl (by intro u hu; simp at hu; rcases hu with rfl | rfl | rfl | rfl; exact ey0 ▸ rfl; exact ey1 ▸ rfl; exact ey2 ▸ rfl; exact ey3 ▸ rfl) (by simp; omega) (by omega) (by omega) (fun k hk => (hb.2.2.1.own k hk).2.1) (subE known c of d j) ⟨_, _, _, _, rfl, hss⟩ ?_
            intro v' w8 hrow f6 hv
            refine hK _ _ (fun _ h => by cases h) ⟨hb.1.fr f6 (fun k hk => by have := (hb.2.2.2.own k hk).1; have := HB4.out; omega), box_kept hb.2.1 f6 (fun hk => by have := (hb.2.2.2.own _ hk).1; omega), hb.2.2.1.apart f6 hv, hrow⟩
          · obtain rfl := hlim (3 : Nat) rfl
            have h1 := HSX.out
            clear HSX hlim hu
            simp only [List.take_succ_cons, List.take_zero, List.map_cons, List.map_nil] at h1 hK
            obtain ⟨hb, hl, hr, ho⟩ := h1
            obtain ⟨xa, xn, xc, e7⟩ : ∃ xa xn xc, vals2 6 = .slice xa xn xc := by obtain ⟨a, c, e⟩ := ho.slice; exact ⟨a, _, c, e⟩
            have z2 : wx.frozen? ⟨b4, 3, none⟩ = false := by simp [World.frozen?, hl]
            obtain ⟨e0, e1, e2, e3⟩ := cell_of_four hl
            have HG := Lib.hid (LBase.setParts HB4.out hb hl hr ho)
            clear hb hl hr ho
            rw [e7] at HG
            simp only [he, e7] at hK ⊢
            go_simp
            exact hK undef _ (fun _ h => by cases h) HG.out
        case fin =>
          intro vals2 w7 hS hV
          clear hV
          simp only [List.map_cons, List.map_nil] at hS
          have hS2 : LBase w #[.int .u8 kd, .int .u8 n, .slice oa on oc] dz (.slice ka known.length kc) b4 6 (.slice pa2 pn2 pc2) (vals2 6) ((List.range (j + 1)).map (fun i => nameT i n)) ((List.range (j + 1)).map (subE known c of d)) w7 := by
            rw [List.range_succ, List.map_append, List.map_append]
            exact hS
          have HS2 := Lib.hid hS2
          clear hS hS2
          simp only [frOfU, fillU, List.setIfInBounds_toArray, List.set_cons_succ, List.set_cons_zero]
          go_wp2
          go_roundg (N - (j + 1))
          case measure => omega
          case rel => exact ⟨j + 1, _, _, by omega, rfl, by go_num, HS2⟩
    · obtain rfl : j = N := by omega
      have HF := HI
      have hl := HF.out.2.1
      obtain ⟨e0, e1, e2, e3⟩ := cell_of_four hl
      have q3 := HF.out.1.2.2.2.2
      have z0 : wr.frozen? ⟨w.heap.size + 1 + 1 + 1, 0, none⟩ = false := by simp [World.frozen?, q3]
      have z1' : wr.frozen? ⟨w.heap.size + 1 + 1 + 1, 1, none⟩ = false := by simp [World.frozen?, q3]
      have z2' : wr.frozen? ⟨w.heap.size + 1 + 1 + 1, 2, none⟩ = false := by simp [World.frozen?, q3]
      have z3' : wr.frozen? ⟨w.heap.size + 1 + 1 + 1, 3, none⟩ = false := by simp [World.frozen?, q3]
      obtain ⟨i0, i1, i2, i3⟩ := cell_of_four q3
      clear hl q3
      go_wp2
      refine bodyPost_ret (results_cell_row rfl _ _ (w.heap.size + 1 + 1 + 1) 34 _ _ _ rfl (store_four HF.out.1.2.2.2.2) Tryz.underlying34 rfl (by kernel_rfl)) rfl ?_
      rw [HT.out]
      have hb4 := HB4.out
      refine ⟨_, rfl, ?_, fr_four _ _ _ _ HF.out.1.1 (fun h => by omega)⟩
      refine Shows.mono (fun k _ (h : b4 + 1 ≤ k) => (by omega : w.heap.size ≤ k)) _ _ (Shows.fr (S := fun k => k = w.heap.size + 1 + 1 + 1) (fr_four (w := wr) _ _ _ _ (Fr.refl _ _) (fun _ => rfl)) (fun k (hk : b4 + 1 ≤ k) e => by omega) _ _ ?_)
      exact ItRow.parts HF.out.2.2.2 (n := j) (by simp) (by omega) (by omega) ((HF.out.2.2.1.texts (by simp; omega) (by intro s hs; obtain ⟨i, _, rfl⟩ := List.mem_map.1 hs; simp [nameT])).mono (fun k _ h => h.1)) _ (fun i x hi => map_range_at hi)

set_option maxRecDepth 100000 in
theorem type_n8 (known : List Txt) (kd n c : Nat) (of : Nat → KN) (d : Nat) (ih : ∀ i, TypeAt known (of i)) (hd2 : 2 ≤ d) (hkk : kd % 10 = 8) : TypeOne known (.mk kd n c of) d := by
  intro R v vk w dz hdz hd1 hd hsh hk
  have hsh0 := hsh
  obtain ⟨vo, rfl, hkd, hn, hc, ho⟩ := hsh
  obtain ⟨oa, on, oc, rfl⟩ : ∃ oa on oc, vo = .slice oa on oc := by
    rcases ho with ⟨_, aa, cap, rfl⟩ | ⟨g, off, cap, rfl, _⟩
    · exact ⟨aa, 0, cap, rfl⟩
    · exact ⟨_, c, cap, rfl⟩
  obtain ⟨ka, kc, rfl, hks⟩ := hk.shape
  have hl1 := hk.1
  have h10 : (kd : Int) % 10 = 8 := by omega
  have n0 : (0 : Int) ≤ (n : Int) := by omega
  have n1 : (n : Int) ≤ 255 := by omega
  have HSUB := Lib.hid (fun (wx : World) (hb : Boxes w #[.int .u8 kd, .int .u8 n, .slice oa on oc] dz (.slice ka known.length kc) wx) (i : Nat) (hi : i ≤ 100) => sub_any known kd n c of ih R (.slice oa on oc) (.slice ka known.length kc) wx d dz w.heap.size (w.heap.size + 1) (w.heap.size + 1 + 1) i hi hdz hd2 hd hb.2.1 hb.2.2.1 hb.2.2.2.1 (NShows.fr hb.1 _ _ hsh0) (hk.fr hb.1 (fun _ _ h => h)))
  have z1 : ¬ dz ≤ 1 := by omega
  obtain ⟨q, hq⟩ : ∃ q : Int, (n : Int) % 3 = q := ⟨_, rfl⟩
  have q0 : 0 ≤ q := by omega
  have q1 : q ≤ 2 := by omega
  have g1 : IntKind.i64.wrap q = q := IntWalk.i64_in _ (by omega)
  have g2 : wrap64 q = q := IntWalk.wrap64_in _ (by omega)
  have g3 : IntKind.i64.wrap (1 + q) = 1 + q := IntWalk.i64_in _ (by omega)
  have g4 : wrap64 (1 + q) = 1 + q := IntWalk.wrap64_in _ (by omega)
  have g5 : q % 256 = q := by omega
  have g6 : Int.tmod (n : Int) 3 = q := by rw [Int.tmod_eq_emod_of_nonneg n0]; exact hq
  obtain ⟨N, hN⟩ : ∃ N : Nat, N = 1 + n % 3 := ⟨_, rfl⟩
  have hqN : 1 + q = (N : Int) := by omega
  have hN3 : N ≤ 3 := by omega
  have HN := Lib.hid hN
  have HT : Hid (typeE known (.mk kd n c of) d = .mk 8 0 ((List.range N).map (fun i => nameT i n)) N (subE known c of d)) := Lib.hid (by
    rw [typeE_mk]
    have e : kindE kd d known = 8 := by unfold kindE; rw [hkk]; simp; omega
    rw [e, hN]
    rfl)
  clear hN
  clear ho hk hks hkk hdz hsh0 hd1 hd ih hd2 hq
  go_enter Tryz.func17, Tryz.ntmps17
  go_wp2_with fail
  obtain ⟨hB, hL⟩ := boxes_new w #[.int .u8 kd, .int .u8 n, .slice oa on oc] dz (.slice ka known.length kc) #[.int .u8 8, .int .i64 0, .slice none 0 0, .slice none 0 0]
  obtain ⟨w5, hw5⟩ : ∃ w5, w5 = (((((w.alloc (.cells #[.int .u8 kd, .int .u8 n, .slice oa on oc] 24)).alloc (.cells #[.int .i64 dz] 3)).alloc (.cells #[(.slice ka known.length kc)] 31)).alloc (.cells #[.int .u8 0, .int .i64 0, .slice none 0 0, .slice none 0 0] 34)).alloc (.cells #[.int .u8 8, .int .i64 0, .slice none 0 0, .slice none 0 0] 34)) := ⟨_, rfl⟩
  rw [← hw5] at hB hL ⊢
  have HB := Lib.hid (And.intro hB hL)
  clear hB hL
  obtain ⟨b4, hb4⟩ : ∃ b4, b4 = w.heap.size + 1 + 1 + 1 + 1 := ⟨_, rfl⟩
  rw [← hb4] at HB ⊢
  have HB4 := Lib.hid hb4
  have HLB := Lib.hid (show LBase w #[.int .u8 kd, .int .u8 n, .slice oa on oc] dz (.slice ka known.length kc) b4 8 (.slice none 0 0) (.slice none 0 0) [] [] w5 from ⟨HB.out.1, HB.out.2, ItRow.nil _ _ _ _ _ _, ItRow.nil _ _ _ _ _ _⟩)
  clear hb4 hw5
  go_loopg [10, 70] N (fun G u10 u70 wr => ∃ (j : Nat) (pv po : Value), j ≤ N ∧ G = N - j ∧ u70 = .int .i64 j ∧ Hid (LBase w #[.int .u8 kd, .int .u8 n, .slice oa on oc] dz (.slice ka known.length kc) b4 8 pv po ((List.range j).map (fun i => nameT i n)) ((List.range j).map (subE known c of d)) wr))
  case atStart => exact ⟨0, _, _, Nat.zero_le _, rfl, by go_num, HLB⟩
  case round =>
    obtain ⟨j, pv, po, hj, rfl, rfl, HI⟩ := hrel
    obtain ⟨pa, pn, pc, rfl⟩ : ∃ pa pn pc, pv = .slice pa pn pc := by obtain ⟨a, c, e⟩ := HI.out.2.2.1.slice; exact ⟨a, _, c, e⟩
    obtain ⟨qa, qn, qc, rfl⟩ : ∃ qa qn qc, po = .slice qa qn qc := by obtain ⟨a, c, e⟩ := HI.out.2.2.2.slice; exact ⟨a, _, c, e⟩
    by_cases hlt : j < N
    · have hlen : ((List.range j).map (fun i => nameT i n)).length ≤ 3 := by simp; omega
      have HLEN := Lib.hid hlen
      clear hlen
      have hcall := Lib.hid (fun (wx : World) => nameOf_any j (by omega) n n0 n1 wx)
      go_wp2_with fail
      refine wp_region_chain (by kernel_rfl) [some 73, some 74, some 75, some 76, some 77, some 78, some 79, some 80, some 81, none] rfl (by decide) (by intro d hd; simp at hd ⊢; omega)
        [5, 6, 7, 9] (NameS w #[.int .u8 kd, .int .u8 n, .slice oa on oc] dz (.slice ka known.length kc) b4 8 (.slice pa pn pc) (.slice qa qn qc) ((List.range j).map (fun i => nameT i n)) ((List.range j).map (subE known c of d)) (nameT j n))
        [.free (.pointer (some ⟨b4, 2, none⟩)), .free (.slice pa pn pc), .free (.int .i64 j), .free (.pointer (some ⟨w.heap.size, 1, none⟩)), .free (.int .u8 n), .link (some (sv (nameT j n))), .link none, .link none, .free (.pointer (some ⟨b4, 2, none⟩)), .link none]
        (by kernel_rfl) (by kernel_rfl) ?h0 ?step ?fin
      case h0 => exact LBase.drew HI.out
      case step =>
        intro vals
        simp only [frOfU, fillU, List.setIfInBounds_toArray, List.set_cons_succ, List.set_cons_zero]
        repeat' (first | exact AllOps.nil | refine AllOps.cons ?_ ?_)
        all_goals
          intro cvs wx hS he hu hlim K hK
          simp only [Act.put, List.setIfInBounds_toArray, List.set_cons_succ, List.set_cons_zero, List.getD_cons_zero, List.getD_cons_succ] at hK
          simp only [List.mem_cons, List.not_mem_nil, or_false, forall_eq_or_imp, forall_eq, Region.binds, forall_const, mode_gc, Bool.false_eq_true, false_imp_iff, List.getD_cons_zero, List.getD_cons_succ, OpSort.val, Option.some.injEq, forall_eq', reduceCtorEq, implies_true, true_and, and_true] at he
          have hbx := hS.box
          have r1 := cells_row hbx.2.1 1 _ rfl
          simp only [List.getElem_toArray, List.getElem_cons_succ, List.getElem_cons_zero] at r1
          clear hbx
          have HSX := Lib.hid hS
          clear hS
        all_goals first | (clear hlim hu; (try simp only [he] at hK ⊢); go_simp; exact hK) | skip
        · have hl := HSX.out.loc (Nat.le_trans (hlim 2 7 rfl (by kernel_rfl)) (by omega))
          obtain ⟨e0, e1, e2, e3⟩ := cell_of_four hl
          clear hlim hu hl
          simp only [he] at hK ⊢
          go_simp
          exact hK
        · obtain rfl := hlim (0 : Nat) rfl
          have h1 := HSX.out
          simp only [List.take_zero, List.map_nil] at h1
          simp only [he] at hK ⊢
          go_simp
          go_at_call 38
          refine (hcall.out wx).mono ?_
          rintro e1 wa ⟨rfl, fa⟩
          exact hK _ _ (fun _ h => by cases h; rfl) (LBase.fr h1 HB4.out fa)
        · obtain rfl := hlim (1 : Nat) rfl
          have h1 := HSX.out
          clear HSX hlim hu
          simp only [List.take_succ_cons, List.take_zero, List.map_cons, List.map_nil] at h1 hK
          unfold sv at he
          simp only [he] at hK ⊢
          go_simp
          have fa : Fr (fun _ => False) wx (wx.alloc (.cells #[.string ⟨(nameT j n).toArray⟩] 9)) := (Fr.refl _ _).alloc _
          exact hK _ _ (fun _ h => by cases h) ⟨LBase.fr h1 HB4.out fa, _, rfl, heap_alloc_new _ _⟩
        · obtain rfl := hlim (2 : Nat) rfl
          have h1 := HSX.out
          clear HSX hlim hu
          simp only [List.take_succ_cons, List.take_zero, List.map_cons, List.map_nil] at h1 hK
          obtain ⟨hb, gg, e6, hgg⟩ := h1
          rw [if_pos (by rfl)]
          have hsz := lt_of_block hb.2.1
          refine opWp_push (pv := (.slice pa pn pc)) (l := (List.range j).map (fun i => nameT i n)) (B := b4 + 1) (X := fun k => (Value.slice qa qn qc).ownBlock = some k) (D := txShown) (.tmp 74) (.tmp 79) 31 31 rfl Tryz.underlying31 Tryz.underlying31 Tryz.infoTxt rfl (by decide) he.1 hb.2.2.1 gg e6 (news := [sv (nameT j n)]) hgg rfl (by intro u hu; simp at hu; subst hu; rfl) (by have := HLEN.out; omega) (by omega) (by omega) (fun k hk => (hb.2.2.2.own k hk).2.1) (nameT j n) rfl ?_
          intro v' w6 hrow f6 hv
          refine hK _ _ (fun _ h => by cases h) ⟨hb.1.fr f6 (fun k hk => by have := (hb.2.2.1.own k hk).1; have := HB4.out; omega), box_kept hb.2.1 f6 (fun hk => by have := (hb.2.2.1.own _ hk).1; omega), hrow, hb.2.2.2.apart f6 hv⟩
        · obtain rfl := hlim (3 : Nat) rfl
          have h1 := HSX.out
          clear HSX hlim hu
          simp only [List.take_succ_cons, List.take_zero, List.map_cons, List.map_nil] at h1 hK
          obtain ⟨hb, hl, hr, ho⟩ := h1
          obtain ⟨xa, xn, xc, e7⟩ : ∃ xa xn xc, vals 7 = .slice xa xn xc := by obtain ⟨a, c, e⟩ := hr.slice; exact ⟨a, _, c, e⟩
          have z2 : wx.frozen? ⟨b4, 2, none⟩ = false := by simp [World.frozen?, hl]
          obtain ⟨e0, e1, e2, e3⟩ := cell_of_four hl
          have HG := Lib.hid (LBase.setNames HB4.out hb hl hr ho)
          clear hb hl hr ho
          rw [e7] at HG
          simp only [he, e7] at hK ⊢
          go_simp
          exact hK undef _ (fun _ h => by cases h) HG.out
      case fin =>
        intro vals w6 hS hV
        clear hV
        simp only [List.map_cons, List.map_nil] at hS
        obtain ⟨pa2, pn2, pc2, e7⟩ : ∃ xa xn xc, vals 7 = .slice xa xn xc := by obtain ⟨a, c, e⟩ := hS.2.2.1.slice; exact ⟨a, _, c, e⟩
        rw [show NameS w #[.int .u8 kd, .int .u8 n, .slice oa on oc] dz (.slice ka known.length kc) b4 8 (.slice pa pn pc) (.slice qa qn qc) ((List.range j).map (fun i => nameT i n)) ((List.range j).map (subE known c of d)) (nameT j n) [vals 5, vals 6, vals 7, vals 9] w6 = LBase w #[.int .u8 kd, .int .u8 n, .slice oa on oc] dz (.slice ka known.length kc) b4 8 (vals 7) (.slice qa qn qc) ((List.range j).map (fun i => nameT i n) ++ [nameT j n]) ((List.range j).map (subE known c of d)) w6 from rfl, e7] at hS
        have HS := Lib.hid hS
        clear hS e7
        simp only [frOfU, fillU, List.setIfInBounds_toArray, List.set_cons_succ, List.set_cons_zero]
        go_wp2_with fail
        refine wp_region_chain (by kernel_rfl) [some 84, some 85, some 86, some 87, some 88, some 89, some 90, some 91, none] rfl (by decide) (by intro d hd; simp at hd ⊢; omega)
          [4, 5, 6, 8] (PartS w #[.int .u8 kd, .int .u8 n, .slice oa on oc] dz (.slice ka known.length kc) b4 8 (.slice pa2 pn2 pc2) (.slice qa qn qc) ((List.range j).map (fun i => nameT i n) ++ [nameT j n]) ((List.range j).map (subE known c of d)) (subE known c of d j))
          [.free (.pointer (some ⟨b4, 3, none⟩)), .free (.slice qa qn qc), .free (.func (.func 37) #[] #[.pointer (some ⟨w.heap.size, 0, none⟩), .pointer (some ⟨w.heap.size + 1, 0, none⟩), .pointer (some ⟨w.heap.size + 1 + 1, 0, none⟩)]), .free (.int .i64 j),
           .link none, .link none, .link none, .free (.pointer (some ⟨b4, 3, none⟩)), .link none]
          (by kernel_rfl) (by kernel_rfl) ?h0 ?step ?fin
        case h0 => exact LBase.drew HS.out
        case step =>
          intro vals2
          simp only [frOfU, fillU, List.setIfInBounds_toArray, List.set_cons_succ, List.set_cons_zero]
          repeat' (first | exact AllOps.nil | refine AllOps.cons ?_ ?_)
          all_goals
            intro cvs wx hS he hu hlim K hK
            simp only [Act.put, List.setIfInBounds_toArray, List.set_cons_succ, List.set_cons_zero, List.getD_cons_zero, List.getD_cons_succ] at hK
            simp only [List.mem_cons, List.not_mem_nil, or_false, forall_eq_or_imp, forall_eq, Region.binds, forall_const, mode_gc, Bool.false_eq_true, false_imp_iff, List.getD_cons_zero, List.getD_cons_succ, OpSort.val, Option.some.injEq, forall_eq', reduceCtorEq, implies_true, true_and, and_true] at he
            have hbx := hS.box
            have HBX := Lib.hid hbx
            clear hbx
            have HSX := Lib.hid hS
            clear hS
          all_goals first | (clear hlim hu; (try simp only [he] at hK ⊢); go_simp; exact hK) | skip
          · have hl := HSX.out.loc (Nat.le_trans (hlim 2 6 rfl (by kernel_rfl)) (by omega))
            obtain ⟨e0, e1, e2, e3⟩ := cell_of_four hl
            clear hlim hu hl
            simp only [he] at hK ⊢
            go_simp
            exact hK
          · obtain rfl := hlim (0 : Nat) rfl
            have h1 := HSX.out
            simp only [List.take_zero, List.map_nil] at h1
            simp only [he] at hK ⊢
            go_simp
            go_at_call 37
            refine (HSUB.out wx HBX.out j (by omega)).mono ?_
            rintro e1 wa ⟨v', rfl, hsv, fa⟩
            refine hK _ _ (fun _ h => by cases h) ⟨LBase.fr h1 HB4.out fa, Shows.mono (fun k _ hk => ⟨by have := lt_of_block h1.2.1; omega, fun e => ?_, fun e => ?_⟩) _ _ hsv⟩
            · have := (h1.2.2.1.own k e).2.1; omega
            · have := (h1.2.2.2.own k e).2.1; omega
          · obtain rfl := hlim (1 : Nat) rfl
            have h1 := HSX.out
            clear HSX hlim hu
            simp only [List.take_succ_cons, List.take_zero, List.map_cons, List.map_nil] at h1 hK
            obtain ⟨hb, hs⟩ := h1
            obtain ⟨tk, tm, ta, tn, tc, ta', tn', tc', e4⟩ := hs.four
            rw [e4] at hs
            simp only [he, e4] at hK ⊢
            go_simp
            have fa : Fr (fun _ => False) wx (wx.alloc (.cells #[.int .u8 tk, .int .i64 tm, .slice ta tn tc, .slice ta' tn' tc'] 34)) := (Fr.refl _ _).alloc _
            exact hK _ _ (fun _ h => by cases h) ⟨LBase.fr hb HB4.out fa, _, _, _, _, _, rfl, heap_alloc_new _ _, Shows.fr fa (fun _ _ h => h) _ _ hs⟩
          · obtain rfl := hlim (2 : Nat) rfl
            have h1 := HSX.out
            clear HSX hlim hu
            simp only [List.take_succ_cons, List.take_zero, List.map_cons, List.map_nil] at h1 hK
            obtain ⟨hb, gg, y0, y1, y2, y3, e6, hgg, hss⟩ := h1
            rw [if_pos (by rfl)]
            have hsz := lt_of_block hb.2.1
            obtain ⟨yk, ym, ya, yn, yc, ya2, yn2, yc2, ey0, ey1, ey2, ey3⟩ := hss.cells
            refine opWp_push (pv := (.slice qa qn qc)) (l := (List.range j).map (subE known c of d)) (B := b4 + 1) (X := fun k => (Value.slice pa2 pn2 pc2).ownBlock = some k) (D := tyShown) (.tmp 85) (.tmp 89) 32 32 rfl Tryz.underlying32 Tryz.underlying32 Tryz.infoType rfl (by decide) he hb.2.2.2 gg e6 (news := [y0, y1, y2, y3]) hgg rfl (by intro u hu; simp at hu; rcases hu with rfl | rfl | rfl | rfl; exact ey0 ▸ rfl; exact ey1 ▸ rfl; exact ey2 ▸ rfl; exact ey3 ▸ rfl) (by simp; omega) (by omega) (by omega) (fun k hk => (hb.2.2.1.own k hk).2.1) (subE known c of d j) ⟨_, _, _, _, rfl, hss⟩ ?_
            intro v' w8 hrow f6 hv
            refine hK _ _ (fun _ h => by cases h) ⟨hb.1.fr f6 (fun k hk => by have := (hb.2.2.2.own k hk).1; have := HB4.out; omega), box_kept hb.2.1 f6 (fun hk => by have := (hb.2.2.2.own _ hk).1; omega), hb.2.2.1.apart f6 hv, hrow⟩
          · obtain rfl := hlim (3 : Nat) rfl
            have h1 := HSX.out
            clear HSX hlim hu
            simp only [List.take_succ_cons, List.take_zero, List.map_cons, List.map_nil] at h1 hK
            obtain ⟨hb, hl, hr, ho⟩ := h1
            obtain ⟨xa, xn, xc, e7⟩ : ∃ xa xn xc, vals2 6 = .slice xa xn xc := by obtain ⟨a, c, e⟩ := ho.slice; exact ⟨a, _, c, e⟩
            have z2 : wx.frozen? ⟨b4, 3, none⟩ = false := by simp [World.frozen?, hl]
            obtain ⟨e0, e1, e2, e3⟩ := cell_of_four hl
            have HG := Lib.hid (LBase.setParts HB4.out hb hl hr ho)
            clear hb hl hr ho
            rw [e7] at HG
            simp only [he, e7] at hK ⊢
            go_simp
            exact hK undef _ (fun _ h => by cases h) HG.out
        case fin =>
          intro vals2 w7 hS hV
          clear hV
          simp only [List.map_cons, List.map_nil] at hS
          have hS2 : LBase w #[.int .u8 kd, .int .u8 n, .slice oa on oc] dz (.slice ka known.length kc) b4 8 (.slice pa2 pn2 pc2) (vals2 6) ((List.range (j + 1)).map (fun i => nameT i n)) ((List.range (j + 1)).map (subE known c of d)) w7 := by
            rw [List.range_succ, List.map_append, List.map_append]
            exact hS
          have HS2 := Lib.hid hS2
          clear hS hS2
          simp only [frOfU, fillU, List.setIfInBounds_toArray, List.set_cons_succ, List.set_cons_zero]
          go_wp2
          go_roundg (N - (j + 1))
          case measure => omega
          case rel => exact ⟨j + 1, _, _, by omega, rfl, by go_num, HS2⟩
    · obtain rfl : j = N := by omega
      have HF := HI
      have hl := HF.out.2.1
      obtain ⟨e0, e1, e2, e3⟩ := cell_of_four hl
      have q3 := HF.out.1.2.2.2.2
      have z0 : wr.frozen? ⟨w.heap.size + 1 + 1 + 1, 0, none⟩ = false := by simp [World.frozen?, q3]
      have z1' : wr.frozen? ⟨w.heap.size + 1 + 1 + 1, 1, none⟩ = false := by simp [World.frozen?, q3]
      have z2' : wr.frozen? ⟨w.heap.size + 1 + 1 + 1, 2, none⟩ = false := by simp [World.frozen?, q3]
      have z3' : wr.frozen? ⟨w.heap.size + 1 + 1 + 1, 3, none⟩ = false := by simp [World.frozen?, q3]
      obtain ⟨i0, i1, i2, i3⟩ := cell_of_four q3
      clear hl q3
      go_wp2
      refine bodyPost_ret (results_cell_row rfl _ _ (w.heap.size + 1 + 1 + 1) 34 _ _ _ rfl (store_four HF.out.1.2.2.2.2) Tryz.underlying34 rfl (by kernel_rfl)) rfl ?_
      rw [HT.out]
      have hb4 := HB4.out
      refine ⟨_, rfl, ?_, fr_four _ _ _ _ HF.out.1.1 (fun h => by omega)⟩
      refine Shows.mono (fun k _ (h : b4 + 1 ≤ k) => (by omega : w.heap.size ≤ k)) _ _ (Shows.fr (S := fun k => k = w.heap.size + 1 + 1 + 1) (fr_four (w := wr) _ _ _ _ (Fr.refl _ _) (fun _ => rfl)) (fun k (hk : b4 + 1 ≤ k) e => by omega) _ _ ?_)
      exact ItRow.parts HF.out.2.2.2 (n := j) (by simp) (by omega) (by omega) ((HF.out.2.2.1.texts (by simp; omega) (by intro s hs; obtain ⟨i, _, rfl⟩ := List.mem_map.1 hs; simp [nameT])).mono (fun k _ h => h.1)) _ (fun i x hi => map_range_at hi)

set_option maxRecDepth 100000 in
theorem type_n7a (known : List Txt) (kd n c : Nat) (of : Nat → KN) (d : Nat) (hd2 : d = 1) (hkk : kd % 10 = 7) : TypeOne known (.mk kd n c of) d := by
  intro R v vk w dz hdz hd1 hd hsh hk
  have hsh0 := hsh
  obtain ⟨vo, rfl, hkd, hn, hc, ho⟩ := hsh
  obtain ⟨oa, on, oc, rfl⟩ : ∃ oa on oc, vo = .slice oa on oc := by
    rcases ho with ⟨_, aa, cap, rfl⟩ | ⟨g, off, cap, rfl, _⟩
    · exact ⟨aa, 0, cap, rfl⟩
    · exact ⟨_, c, cap, rfl⟩
  obtain ⟨ka, kc, rfl, hks⟩ := hk.shape
  have hl1 := hk.1
  have h10 : (kd : Int) % 10 = 7 := by omega
  have n0 : (0 : Int) ≤ (n : Int) := by omega
  have n1 : (n : Int) ≤ 255 := by omega
  have z1 : dz ≤ 1 := by omega
  obtain ⟨q, hq⟩ : ∃ q : Int, (n : Int) % 3 = q := ⟨_, rfl⟩
  have q0 : 0 ≤ q := by omega
  have q1 : q ≤ 2 := by omega
  have g1 : IntKind.i64.wrap q = q := IntWalk.i64_in _ (by omega)
  have g2 : wrap64 q = q := IntWalk.wrap64_in _ (by omega)
  have g3 : IntKind.i64.wrap (1 + q) = 1 + q := IntWalk.i64_in _ (by omega)
  have g4 : wrap64 (1 + q) = 1 + q := IntWalk.wrap64_in _ (by omega)
  have g5 : q % 256 = q := by omega
  have g6 : Int.tmod (n : Int) 3 = q := by rw [Int.tmod_eq_emod_of_nonneg n0]; exact hq
  obtain ⟨N, hN⟩ : ∃ N : Nat, N = 1 + n % 3 := ⟨_, rfl⟩
  have hqN : 1 + q = (N : Int) := by omega
  have hN3 : N ≤ 3 := by omega
  have HN := Lib.hid hN
  have HT : Hid (typeE known (.mk kd n c of) d = .mk 7 0 ((List.range N).map (fun i => nameT i n)) 0 (fun _ => .nil)) := Lib.hid (by
    rw [typeE_mk]
    have e : kindE kd d known = 7 := by unfold kindE; rw [hkk]; simp
    rw [e, hN]
    rfl)
  clear hN
  clear ho hk hks hkk hdz hsh0 hd1 hd hd2 hq
  go_enter Tryz.func17, Tryz.ntmps17
  go_wp2_with fail
  obtain ⟨hB, hL⟩ := boxes_new w #[.int .u8 kd, .int .u8 n, .slice oa on oc] dz (.slice ka known.length kc) #[.int .u8 7, .int .i64 0, .slice none 0 0, .slice none 0 0]
  obtain ⟨w5, hw5⟩ : ∃ w5, w5 = (((((w.alloc (.cells #[.int .u8 kd, .int .u8 n, .slice oa on oc] 24)).alloc (.cells #[.int .i64 dz] 3)).alloc (.cells #[(.slice ka known.length kc)] 31)).alloc (.cells #[.int .u8 0, .int .i64 0, .slice none 0 0, .slice none 0 0] 34)).alloc (.cells #[.int .u8 7, .int .i64 0, .slice none 0 0, .slice none 0 0] 34)) := ⟨_, rfl⟩
  rw [← hw5] at hB hL ⊢
  have HB := Lib.hid (And.intro hB hL)
  clear hB hL
  obtain ⟨b4, hb4⟩ : ∃ b4, b4 = w.heap.size + 1 + 1 + 1 + 1 := ⟨_, rfl⟩
  rw [← hb4] at HB ⊢
  have HB4 := Lib.hid hb4
  have HLB := Lib.hid (show LBase w #[.int .u8 kd, .int .u8 n, .slice oa on oc] dz (.slice ka known.length kc) b4 7 (.slice none 0 0) (.slice none 0 0) [] [] w5 from ⟨HB.out.1, HB.out.2, ItRow.nil _ _ _ _ _ _, ItRow.nil _ _ _ _ _ _⟩)
  clear hb4 hw5
  go_loopg [10, 70] N (fun G u10 u70 wr => ∃ (j : Nat) (pv po : Value), j ≤ N ∧ G = N - j ∧ u70 = .int .i64 j ∧ Hid (LBase w #[.int .u8 kd, .int .u8 n, .slice oa on oc] dz (.slice ka known.length kc) b4 7 pv po ((List.range j).map (fun i => nameT i n)) ([]) wr))
  case atStart => exact ⟨0, _, _, Nat.zero_le _, rfl, by go_num, HLB⟩
  case round =>
    obtain ⟨j, pv, po, hj, rfl, rfl, HI⟩ := hrel
    obtain ⟨pa, pn, pc, rfl⟩ : ∃ pa pn pc, pv = .slice pa pn pc := by obtain ⟨a, c, e⟩ := HI.out.2.2.1.slice; exact ⟨a, _, c, e⟩
    obtain ⟨qa, qn, qc, rfl⟩ : ∃ qa qn qc, po = .slice qa qn qc := by obtain ⟨a, c, e⟩ := HI.out.2.2.2.slice; exact ⟨a, _, c, e⟩
    by_cases hlt : j < N
    · have hlen : ((List.range j).map (fun i => nameT i n)).length ≤ 3 := by simp; omega
      have HLEN := Lib.hid hlen
      clear hlen
      have hcall := Lib.hid (fun (wx : World) => nameOf_any j (by omega) n n0 n1 wx)
      go_wp2_with fail
      refine wp_region_chain (by kernel_rfl) [some 73, some 74, some 75, some 76, some 77, some 78, some 79, some 80, some 81, none] rfl (by decide) (by intro d hd; simp at hd ⊢; omega)
        [5, 6, 7, 9] (NameS w #[.int .u8 kd, .int .u8 n, .slice oa on oc] dz (.slice ka known.length kc) b4 7 (.slice pa pn pc) (.slice qa qn qc) ((List.range j).map (fun i => nameT i n)) ([]) (nameT j n))
        [.free (.pointer (some ⟨b4, 2, none⟩)), .free (.slice pa pn pc), .free (.int .i64 j), .free (.pointer (some ⟨w.heap.size, 1, none⟩)), .free (.int .u8 n), .link (some (sv (nameT j n))), .link none, .link none, .free (.pointer (some ⟨b4, 2, none⟩)), .link none]
        (by kernel_rfl) (by kernel_rfl) ?h0 ?step ?fin
      case h0 => exact LBase.drew HI.out
      case step =>
        intro vals
        simp only [frOfU, fillU, List.setIfInBounds_toArray, List.set_cons_succ, List.set_cons_zero]
        repeat' (first | exact AllOps.nil | refine AllOps.cons ?_ ?_)
        all_goals
          intro cvs wx hS he hu hlim K hK
          simp only [Act.put, List.setIfInBounds_toArray, List.set_cons_succ, List.set_cons_zero, List.getD_cons_zero, List.getD_cons_succ] at hK
          simp only [List.mem_cons, List.not_mem_nil, or_false, forall_eq_or_imp, forall_eq, Region.binds, forall_const, mode_gc, Bool.false_eq_true, false_imp_iff, List.getD_cons_zero, List.getD_cons_succ, OpSort.val, Option.some.injEq, forall_eq', reduceCtorEq, implies_true, true_and, and_true] at he
          have hbx := hS.box
          have r1 := cells_row hbx.2.1 1 _ rfl
          simp only [List.getElem_toArray, List.getElem_cons_succ, List.getElem_cons_zero] at r1
          clear hbx
          try simp only [h10] at hK
          have HSX := Lib.hid hS
          clear hS
        all_goals first | (clear hlim hu; (try simp only [he] at hK ⊢); go_simp; exact hK) | skip
        · have hl := HSX.out.loc (Nat.le_trans (hlim 2 7 rfl (by kernel_rfl)) (by omega))
          obtain ⟨e0, e1, e2, e3⟩ := cell_of_four hl
          clear hlim hu hl
          simp only [he] at hK ⊢
          go_simp
          exact hK
        · obtain rfl := hlim (0 : Nat) rfl
          have h1 := HSX.out
          simp only [List.take_zero, List.map_nil] at h1
          simp only [he] at hK ⊢
          go_simp
          go_at_call 38
          refine (hcall.out wx).mono ?_
          rintro e1 wa ⟨rfl, fa⟩
          exact hK _ _ (fun _ h => by cases h; rfl) (LBase.fr h1 HB4.out fa)
        · obtain rfl := hlim (1 : Nat) rfl
          have h1 := HSX.out
          clear HSX hlim hu
          simp only [List.take_succ_cons, List.take_zero, List.map_cons, List.map_nil] at h1 hK
          unfold sv at he
          simp only [he] at hK ⊢
          go_simp
          have fa : Fr (fun _ => False) wx (wx.alloc (.cells #[.string ⟨(nameT j n).toArray⟩] 9)) := (Fr.refl _ _).alloc _
          exact hK _ _ (fun _ h => by cases h) ⟨LBase.fr h1 HB4.out fa, _, rfl, heap_alloc_new _ _⟩
        · obtain rfl := hlim (2 : Nat) rfl
          have h1 := HSX.out
          clear HSX hlim hu
          simp only [List.take_succ_cons, List.take_zero, List.map_cons, List.map_nil] at h1 hK
          obtain ⟨hb, gg, e6, hgg⟩ := h1
          rw [if_pos (by rfl)]
          have hsz := lt_of_block hb.2.1
          refine opWp_push (pv := (.slice pa pn pc)) (l := (List.range j).map (fun i => nameT i n)) (B := b4 + 1) (X := fun k => (Value.slice qa qn qc).ownBlock = some k) (D := txShown) (.tmp 74) (.tmp 79) 31 31 rfl Tryz.underlying31 Tryz.underlying31 Tryz.infoTxt rfl (by decide) he.1 hb.2.2.1 gg e6 (news := [sv (nameT j n)]) hgg rfl (by intro u hu; simp at hu; subst hu; rfl) (by have := HLEN.out; omega) (by omega) (by omega) (fun k hk => (hb.2.2.2.own k hk).2.1) (nameT j n) rfl ?_
          intro v' w6 hrow f6 hv
          simp only [h10]
          refine hK _ _ (fun _ h => by cases h) ⟨hb.1.fr f6 (fun k hk => by have := (hb.2.2.1.own k hk).1; have := HB4.out; omega), box_kept hb.2.1 f6 (fun hk => by have := (hb.2.2.1.own _ hk).1; omega), hrow, hb.2.2.2.apart f6 hv⟩
        · obtain rfl := hlim (3 : Nat) rfl
          have h1 := HSX.out
          clear HSX hlim hu
          simp only [List.take_succ_cons, List.take_zero, List.map_cons, List.map_nil] at h1 hK
          obtain ⟨hb, hl, hr, ho⟩ := h1
          obtain ⟨xa, xn, xc, e7⟩ : ∃ xa xn xc, vals 7 = .slice xa xn xc := by obtain ⟨a, c, e⟩ := hr.slice; exact ⟨a, _, c, e⟩
          have z2 : wx.frozen? ⟨b4, 2, none⟩ = false := by simp [World.frozen?, hl]
          obtain ⟨e0, e1, e2, e3⟩ := cell_of_four hl
          have HG := Lib.hid (LBase.setNames HB4.out hb hl hr ho)
          clear hb hl hr ho
          rw [e7] at HG
          simp only [he, e7] at hK ⊢
          go_simp
          exact hK undef _ (fun _ h => by cases h) HG.out
      case fin =>
        intro vals w6 hS hV
        clear hV
        simp only [List.map_cons, List.map_nil] at hS
        obtain ⟨pa2, pn2, pc2, e7⟩ : ∃ xa xn xc, vals 7 = .slice xa xn xc := by obtain ⟨a, c, e⟩ := hS.2.2.1.slice; exact ⟨a, _, c, e⟩
        rw [show NameS w #[.int .u8 kd, .int .u8 n, .slice oa on oc] dz (.slice ka known.length kc) b4 7 (.slice pa pn pc) (.slice qa qn qc) ((List.range j).map (fun i => nameT i n)) ([]) (nameT j n) [vals 5, vals 6, vals 7, vals 9] w6 = LBase w #[.int .u8 kd, .int .u8 n, .slice oa on oc] dz (.slice ka known.length kc) b4 7 (vals 7) (.slice qa qn qc) ((List.range j).map (fun i => nameT i n) ++ [nameT j n]) ([]) w6 from rfl, e7] at hS
        have HS := Lib.hid hS
        clear hS e7
        simp only [frOfU, fillU, List.setIfInBounds_toArray, List.set_cons_succ, List.set_cons_zero]
        go_wp2
        go_roundg (N - (j + 1))
        case measure => omega
        case rel => exact ⟨j + 1, _, _, by omega, rfl, by go_num, Lib.hid (by rw [List.range_succ, List.map_append]; exact HS.out)⟩
    · obtain rfl : j = N := by omega
      have HF := HI
      have hl := HF.out.2.1
      obtain ⟨e0, e1, e2, e3⟩ := cell_of_four hl
      have q3 := HF.out.1.2.2.2.2
      have z0 : wr.frozen? ⟨w.heap.size + 1 + 1 + 1, 0, none⟩ = false := by simp [World.frozen?, q3]
      have z1' : wr.frozen? ⟨w.heap.size + 1 + 1 + 1, 1, none⟩ = false := by simp [World.frozen?, q3]
      have z2' : wr.frozen? ⟨w.heap.size + 1 + 1 + 1, 2, none⟩ = false := by simp [World.frozen?, q3]
      have z3' : wr.frozen? ⟨w.heap.size + 1 + 1 + 1, 3, none⟩ = false := by simp [World.frozen?, q3]
      obtain ⟨i0, i1, i2, i3⟩ := cell_of_four q3
      clear hl q3
      go_wp2
      refine bodyPost_ret (results_cell_row rfl _ _ (w.heap.size + 1 + 1 + 1) 34 _ _ _ rfl (store_four HF.out.1.2.2.2.2) Tryz.underlying34 rfl (by kernel_rfl)) rfl ?_
      rw [HT.out]
      have hb4 := HB4.out
      refine ⟨_, rfl, ?_, fr_four _ _ _ _ HF.out.1.1 (fun h => by omega)⟩
      refine Shows.mono (fun k _ (h : b4 + 1 ≤ k) => (by omega : w.heap.size ≤ k)) _ _ (Shows.fr (S := fun k => k = w.heap.size + 1 + 1 + 1) (fr_four (w := wr) _ _ _ _ (Fr.refl _ _) (fun _ => rfl)) (fun k (hk : b4 + 1 ≤ k) e => by omega) _ _ ?_)
      exact ItRow.parts HF.out.2.2.2 (n := 0) rfl (by omega) (by omega) ((HF.out.2.2.1.texts (by simp; omega) (by intro s hs; obtain ⟨i, _, rfl⟩ := List.mem_map.1 hs; simp [nameT])).mono (fun k _ h => h.1)) _ (by simp)

set_option maxRecDepth 100000 in
theorem type_n7b (known : List Txt) (kd n c : Nat) (of : Nat → KN) (d : Nat) (hd2 : 2 ≤ d) (hkk : kd % 10 = 7) : TypeOne known (.mk kd n c of) d := by
  intro R v vk w dz hdz hd1 hd hsh hk
  have hsh0 := hsh
  obtain ⟨vo, rfl, hkd, hn, hc, ho⟩ := hsh
  obtain ⟨oa, on, oc, rfl⟩ : ∃ oa on oc, vo = .slice oa on oc := by
    rcases ho with ⟨_, aa, cap, rfl⟩ | ⟨g, off, cap, rfl, _⟩
    · exact ⟨aa, 0, cap, rfl⟩
    · exact ⟨_, c, cap, rfl⟩
  obtain ⟨ka, kc, rfl, hks⟩ := hk.shape
  have hl1 := hk.1
  have h10 : (kd : Int) % 10 = 7 := by omega
  have n0 : (0 : Int) ≤ (n : Int) := by omega
  have n1 : (n : Int) ≤ 255 := by omega
  have z1 : ¬ dz ≤ 1 := by omega
  obtain ⟨q, hq⟩ : ∃ q : Int, (n : Int) % 3 = q := ⟨_, rfl⟩
  have q0 : 0 ≤ q := by omega
  have q1 : q ≤ 2 := by omega
  have g1 : IntKind.i64.wrap q = q := IntWalk.i64_in _ (by omega)
  have g2 : wrap64 q = q := IntWalk.wrap64_in _ (by omega)
  have g3 : IntKind.i64.wrap (1 + q) = 1 + q := IntWalk.i64_in _ (by omega)
  have g4 : wrap64 (1 + q) = 1 + q := IntWalk.wrap64_in _ (by omega)
  have g5 : q % 256 = q := by omega
  have g6 : Int.tmod (n : Int) 3 = q := by rw [Int.tmod_eq_emod_of_nonneg n0]; exact hq
  obtain ⟨N, hN⟩ : ∃ N : Nat, N = 1 + n % 3 := ⟨_, rfl⟩
  have hqN : 1 + q = (N : Int) := by omega
  have hN3 : N ≤ 3 := by omega
  have HN := Lib.hid hN
  have HT : Hid (typeE known (.mk kd n c of) d = .mk 7 0 ((List.range N).map (fun i => nameT i n)) 0 (fun _ => .nil)) := Lib.hid (by
    rw [typeE_mk]
    have e : kindE kd d known = 7 := by unfold kindE; rw [hkk]; simp
    rw [e, hN]
    rfl)
  clear hN
  clear ho hk hks hkk hdz hsh0 hd1 hd hd2 hq
  go_enter Tryz.func17, Tryz.ntmps17
  go_wp2_with fail
  obtain ⟨hB, hL⟩ := boxes_new w #[.int .u8 kd, .int .u8 n, .slice oa on oc] dz (.slice ka known.length kc) #[.int .u8 7, .int .i64 0, .slice none 0 0, .slice none 0 0]
  obtain ⟨w5, hw5⟩ : ∃ w5, w5 = (((((w.alloc (.cells #[.int .u8 kd, .int .u8 n, .slice oa on oc] 24)).alloc (.cells #[.int .i64 dz] 3)).alloc (.cells #[(.slice ka known.length kc)] 31)).alloc (.cells #[.int .u8 0, .int .i64 0, .slice none 0 0, .slice none 0 0] 34)).alloc (.cells #[.int .u8 7, .int .i64 0, .slice none 0 0, .slice none 0 0] 34)) := ⟨_, rfl⟩
  rw [← hw5] at hB hL ⊢
  have HB := Lib.hid (And.intro hB hL)
  clear hB hL
  obtain ⟨b4, hb4⟩ : ∃ b4, b4 = w.heap.size + 1 + 1 + 1 + 1 := ⟨_, rfl⟩
  rw [← hb4] at HB ⊢
  have HB4 := Lib.hid hb4
  have HLB := Lib.hid (show LBase w #[.int .u8 kd, .int .u8 n, .slice oa on oc] dz (.slice ka known.length kc) b4 7 (.slice none 0 0) (.slice none 0 0) [] [] w5 from ⟨HB.out.1, HB.out.2, ItRow.nil _ _ _ _ _ _, ItRow.nil _ _ _ _ _ _⟩)
  clear hb4 hw5
  go_loopg [10, 70] N (fun G u10 u70 wr => ∃ (j : Nat) (pv po : Value), j ≤ N ∧ G = N - j ∧ u70 = .int .i64 j ∧ Hid (LBase w #[.int .u8 kd, .int .u8 n, .slice oa on oc] dz (.slice ka known.length kc) b4 7 pv po ((List.range j).map (fun i => nameT i n)) ([]) wr))
  case atStart => exact ⟨0, _, _, Nat.zero_le _, rfl, by go_num, HLB⟩
  case round =>
    obtain ⟨j, pv, po, hj, rfl, rfl, HI⟩ := hrel
    obtain ⟨pa, pn, pc, rfl⟩ : ∃ pa pn pc, pv = .slice pa pn pc := by obtain ⟨a, c, e⟩ := HI.out.2.2.1.slice; exact ⟨a, _, c, e⟩
    obtain ⟨qa, qn, qc, rfl⟩ : ∃ qa qn qc, po = .slice qa qn qc := by obtain ⟨a, c, e⟩ := HI.out.2.2.2.slice; exact ⟨a, _, c, e⟩
    by_cases hlt : j < N
    · have hlen : ((List.range j).map (fun i => nameT i n)).length ≤ 3 := by simp; omega
      have HLEN := Lib.hid hlen
      clear hlen
      have hcall := Lib.hid (fun (wx : World) => nameOf_any j (by omega) n n0 n1 wx)
      go_wp2_with fail
      refine wp_region_chain (by kernel_rfl) [some 73, some 74, some 75, some 76, some 77, some 78, some 79, some 80, some 81, none] rfl (by decide) (by intro d hd; simp at hd ⊢; omega)
        [5, 6, 7, 9] (NameS w #[.int .u8 kd, .int .u8 n, .slice oa on oc] dz (.slice ka known.length kc) b4 7 (.slice pa pn pc) (.slice qa qn qc) ((List.range j).map (fun i => nameT i n)) ([]) (nameT j n))
        [.free (.pointer (some ⟨b4, 2, none⟩)), .free (.slice pa pn pc), .free (.int .i64 j), .free (.pointer (some ⟨w.heap.size, 1, none⟩)), .free (.int .u8 n), .link (some (sv (nameT j n))), .link none, .link none, .free (.pointer (some ⟨b4, 2, none⟩)), .link none]
        (by kernel_rfl) (by kernel_rfl) ?h0 ?step ?fin
      case h0 => exact LBase.drew HI.out
      case step =>
        intro vals
        simp only [frOfU, fillU, List.setIfInBounds_toArray, List.set_cons_succ, List.set_cons_zero]
        repeat' (first | exact AllOps.nil | refine AllOps.cons ?_ ?_)
        all_goals
          intro cvs wx hS he hu hlim K hK
          simp only [Act.put, List.setIfInBounds_toArray, List.set_cons_succ, List.set_cons_zero, List.getD_cons_zero, List.getD_cons_succ] at hK
          simp only [List.mem_cons, List.not_mem_nil, or_false, forall_eq_or_imp, forall_eq, Region.binds, forall_const, mode_gc, Bool.false_eq_true, false_imp_iff, List.getD_cons_zero, List.getD_cons_succ, OpSort.val, Option.some.injEq, forall_eq', reduceCtorEq, implies_true, true_and, and_true] at he
          have hbx := hS.box
          have r1 := cells_row hbx.2.1 1 _ rfl
          simp only [List.getElem_toArray, List.getElem_cons_succ, List.getElem_cons_zero] at r1
          clear hbx
          try simp only [h10] at hK
          have HSX := Lib.hid hS
          clear hS
        all_goals first | (clear hlim hu; (try simp only [he] at hK ⊢); go_simp; exact hK) | skip
        · have hl := HSX.out.loc (Nat.le_trans (hlim 2 7 rfl (by kernel_rfl)) (by omega))
          obtain ⟨e0, e1, e2, e3⟩ := cell_of_four hl
          clear hlim hu hl
          simp only [he] at hK ⊢
          go_simp
          exact hK
        · obtain rfl := hlim (0 : Nat) rfl
          have h1 := HSX.out
          simp only [List.take_zero, List.map_nil] at h1
          simp only [he] at hK ⊢
          go_simp
          go_at_call 38
          refine (hcall.out wx).mono ?_
          rintro e1 wa ⟨rfl, fa⟩
          exact hK _ _ (fun _ h => by cases h; rfl) (LBase.fr h1 HB4.out fa)
        · obtain rfl := hlim (1 : Nat) rfl
          have h1 := HSX.out
          clear HSX hlim hu
          simp only [List.take_succ_cons, List.take_zero, List.map_cons, List.map_nil] at h1 hK
          unfold sv at he
          simp only [he] at hK ⊢
          go_simp
          have fa : Fr (fun _ => False) wx (wx.alloc (.cells #[.string ⟨(nameT j n).toArray⟩] 9)) := (Fr.refl _ _).alloc _
          exact hK _ _ (fun _ h => by cases h) ⟨LBase.fr h1 HB4.out fa, _, rfl, heap_alloc_new _ _⟩
        · obtain rfl := hlim (2 : Nat) rfl
          have h1 := HSX.out
          clear HSX hlim hu
          simp only [List.take_succ_cons, List.take_zero, List.map_cons, List.map_nil] at h1 hK
          obtain ⟨hb, gg, e6, hgg⟩ := h1
          rw [if_pos (by rfl)]
          have hsz := lt_of_block hb.2.1
          refine opWp_push (pv := (.slice pa pn pc)) (l := (List.range j).map (fun i => nameT i n)) (B := b4 + 1) (X := fun k => (Value.slice qa qn qc).ownBlock = some k) (D := txShown) (.tmp 74) (.tmp 79) 31 31 rfl Tryz.underlying31 Tryz.underlying31 Tryz.infoTxt rfl (by decide) he.1 hb.2.2.1 gg e6 (news := [sv (nameT j n)]) hgg rfl (by intro u hu; simp at hu; subst hu; rfl) (by have := HLEN.out; omega) (by omega) (by omega) (fun k hk => (hb.2.2.2.own k hk).2.1) (nameT j n) rfl ?_
          intro v' w6 hrow f6 hv
          simp only [h10]
          refine hK _ _ (fun _ h => by cases h) ⟨hb.1.fr f6 (fun k hk => by have := (hb.2.2.1.own k hk).1; have := HB4.out; omega), box_kept hb.2.1 f6 (fun hk => by have := (hb.2.2.1.own _ hk).1; omega), hrow, hb.2.2.2.apart f6 hv⟩
        · obtain rfl := hlim (3 : Nat) rfl
          have h1 := HSX.out
          clear HSX hlim hu
          simp only [List.take_succ_cons, List.take_zero, List.map_cons, List.map_nil] at h1 hK
          obtain ⟨hb, hl, hr, ho⟩ := h1
          obtain ⟨xa, xn, xc, e7⟩ : ∃ xa xn xc, vals 7 = .slice xa xn xc := by obtain ⟨a, c, e⟩ := hr.slice; exact ⟨a, _, c, e⟩
          have z2 : wx.frozen? ⟨b4, 2, none⟩ = false := by simp [World.frozen?, hl]
          obtain ⟨e0, e1, e2, e3⟩ := cell_of_four hl
          have HG := Lib.hid (LBase.setNames HB4.out hb hl hr ho)
          clear hb hl hr ho
          rw [e7] at HG
          simp only [he, e7] at hK ⊢
          go_simp
          exact hK undef _ (fun _ h => by cases h) HG.out
      case fin =>
        intro vals w6 hS hV
        clear hV
        simp only [List.map_cons, List.map_nil] at hS
        obtain ⟨pa2, pn2, pc2, e7⟩ : ∃ xa xn xc, vals 7 = .slice xa xn xc := by obtain ⟨a, c, e⟩ := hS.2.2.1.slice; exact ⟨a, _, c, e⟩
        rw [show NameS w #[.int .u8 kd, .int .u8 n, .slice oa on oc] dz (.slice ka known.length kc) b4 7 (.slice pa pn pc) (.slice qa qn qc) ((List.range j).map (fun i => nameT i n)) ([]) (nameT j n) [vals 5, vals 6, vals 7, vals 9] w6 = LBase w #[.int .u8 kd, .int .u8 n, .slice oa on oc] dz (.slice ka known.length kc) b4 7 (vals 7) (.slice qa qn qc) ((List.range j).map (fun i => nameT i n) ++ [nameT j n]) ([]) w6 from rfl, e7] at hS
        have HS := Lib.hid hS
        clear hS e7
        simp only [frOfU, fillU, List.setIfInBounds_toArray, List.set_cons_succ, List.set_cons_zero]
        go_wp2
        go_roundg (N - (j + 1))
        case measure => omega
        case rel => exact ⟨j + 1, _, _, by omega, rfl, by go_num, Lib.hid (by rw [List.range_succ, List.map_append]; exact HS.out)⟩
    · obtain rfl : j = N := by omega
      have HF := HI
      have hl := HF.out.2.1
      obtain ⟨e0, e1, e2, e3⟩ := cell_of_four hl
      have q3 := HF.out.1.2.2.2.2
      have z0 : wr.frozen? ⟨w.heap.size + 1 + 1 + 1, 0, none⟩ = false := by simp [World.frozen?, q3]
      have z1' : wr.frozen? ⟨w.heap.size + 1 + 1 + 1, 1, none⟩ = false := by simp [World.frozen?, q3]
      have z2' : wr.frozen? ⟨w.heap.size + 1 + 1 + 1, 2, none⟩ = false := by simp [World.frozen?, q3]
      have z3' : wr.frozen? ⟨w.heap.size + 1 + 1 + 1, 3, none⟩ = false := by simp [World.frozen?, q3]
      obtain ⟨i0, i1, i2, i3⟩ := cell_of_four q3
      clear hl q3
      go_wp2
      refine bodyPost_ret (results_cell_row rfl _ _ (w.heap.size + 1 + 1 + 1) 34 _ _ _ rfl (store_four HF.out.1.2.2.2.2) Tryz.underlying34 rfl (by kernel_rfl)) rfl ?_
      rw [HT.out]
      have hb4 := HB4.out
      refine ⟨_, rfl, ?_, fr_four _ _ _ _ HF.out.1.1 (fun h => by omega)⟩
      refine Shows.mono (fun k _ (h : b4 + 1 ≤ k) => (by omega : w.heap.size ≤ k)) _ _ (Shows.fr (S := fun k => k = w.heap.size + 1 + 1 + 1) (fr_four (w := wr) _ _ _ _ (Fr.refl _ _) (fun _ => rfl)) (fun k (hk : b4 + 1 ≤ k) e => by omega) _ _ ?_)
      exact ItRow.parts HF.out.2.2.2 (n := 0) rfl (by omega) (by omega) ((HF.out.2.2.1.texts (by simp; omega) (by intro s hs; obtain ⟨i, _, rfl⟩ := List.mem_map.1 hs; simp [nameT])).mono (fun k _ h => h.1)) _ (by simp)

theorem type_n7 (known : List Txt) (kd n c : Nat) (of : Nat → KN) (d : Nat) (hkk : kd % 10 = 7) : TypeOne known (.mk kd n c of) d := by
  by_cases h : d = 1
  · exact type_n7a known kd n c of d h hkk
  · intro R v vk w dz h1 h2
    exact type_n7b known kd n c of d (by omega) hkk R v vk w dz h1 h2
end
end Go.Proofs.YtplipjijaaejlaaGreat
