/-
  CouBack, part 5 of what it rests on: KindTab, KindRight, KindStands.
-/
import Derived.Test.YtplipjijaaejlaaGreatS04
import Derived.Test.YtplipjijaaejlaaGreatS03
import Derived.Deep.QuietTactic
import Derived.BigQuiet
set_option linter.unusedVariables false
set_option linter.unusedSimpArgs false
set_option maxHeartbeats 64000000
namespace Go.Proofs.YtplipjijaaejlaaGreat
open Go.RowKit
open Go.Lib (hid)
section
structure KProc where
  name : Txt
  number : Int
  takes : KT
  answers : KT
  collate : Nat
  timeout : Int

structure KTab where
  name : Txt
  number : Int
  version : Int
  types : List (Txt × KT)
  faults : List (Txt × Int)
  procs : List KProc

/-- The slice v shows these faults. -/
def Faults (R : Nat → Prop) (w : World) (l : List (Txt × Int)) (v : Value) : Prop :=
  l.length ≤ 1000 ∧ (∀ x ∈ l, x.1.length ≤ 1000) ∧
  ((l = [] ∧ ∃ a c, v = .slice a 0 c) ∨
   ∃ g off cap, R g ∧ v = .slice (some ⟨g, off, none⟩) l.length cap ∧ l.length ≤ cap ∧ ∀ i x, l[i]? = some x →
    w.cell? ⟨g, off + i * 2, none⟩ = some (sv x.1) ∧ w.cell? ⟨g, off + i * 2 + 1, none⟩ = some (.int .i64 x.2))

/-- The cells of a procedure, its types' cells being x0 to x3 and y0 to y3. -/
def procCells (p : KProc) (x0 x1 x2 x3 y0 y1 y2 y3 : Value) : List Value := [sv p.name, .int .i64 p.number, x0, x1, x2, x3, y0, y1, y2, y3, .int .u8 p.collate, .int .i64 p.timeout]

/-- The slice v shows these procedures. -/
def Procs (R : Nat → Prop) (w : World) (l : List KProc) (v : Value) : Prop :=
  l.length ≤ 1000 ∧ (∀ p ∈ l, p.name.length ≤ 1000 ∧ p.collate ≤ 255) ∧
  ((l = [] ∧ ∃ a c, v = .slice a 0 c) ∨
   ∃ g off cap, R g ∧ v = .slice (some ⟨g, off, none⟩) l.length cap ∧ l.length ≤ cap ∧ ∀ i p, l[i]? = some p → ∃ x0 x1 x2 x3 y0 y1 y2 y3,
    (∀ j u, (procCells p x0 x1 x2 x3 y0 y1 y2 y3)[j]? = some u → w.cell? ⟨g, off + i * 12 + j, none⟩ = some u) ∧
    Shows R w p.takes (.agg #[x0, x1, x2, x3]) ∧ Shows R w p.answers (.agg #[y0, y1, y2, y3]))

/-- The value v shows the interface t. -/
def Tabled (R : Nat → Prop) (w : World) (t : KTab) (v : Value) : Prop :=
  ∃ tv fv pv, v = .agg #[sv t.name, .int .i64 t.number, .int .i64 t.version, tv, fv, pv] ∧ t.name.length ≤ 1000 ∧ Aliases R w t.types tv ∧ Faults R w t.faults fv ∧ Procs R w t.procs pv

theorem Faults.fr {R S : Nat → Prop} {w w' : World} {l : List (Txt × Int)} {v : Value} (h : Faults R w l v) (hf : Fr S w w') (hS : ∀ k, R k → ¬ S k) : Faults R w' l v := by
  obtain ⟨h1, h2, h3 | ⟨g, off, cap, hg, rfl, hle, hc⟩⟩ := h
  · exact ⟨h1, h2, .inl h3⟩
  · exact ⟨h1, h2, .inr ⟨g, off, cap, hg, rfl, hle, fun i x hi => ⟨cell_fr hf hS hg (hc i x hi).1, cell_fr hf hS hg (hc i x hi).2⟩⟩⟩

theorem Faults.mono {R S : Nat → Prop} {w : World} {l : List (Txt × Int)} {v : Value} (h : Faults R w l v) (hS : ∀ k, k < w.heap.size → R k → S k) : Faults S w l v := by
  obtain ⟨h1, h2, h3 | ⟨g, off, cap, hg, rfl, hle, hc⟩⟩ := h
  · exact ⟨h1, h2, .inl h3⟩
  · cases l with
    | nil => exact ⟨h1, h2, .inl ⟨rfl, _, _, rfl⟩⟩
    | cons x l => exact ⟨h1, h2, .inr ⟨g, off, cap, hS g (World.block_lt_of_cell? w _ (hc 0 x rfl).1) hg, rfl, hle, hc⟩⟩

theorem Procs.fr {R S : Nat → Prop} {w w' : World} {l : List KProc} {v : Value} (h : Procs R w l v) (hf : Fr S w w') (hS : ∀ k, R k → ¬ S k) : Procs R w' l v := by
  obtain ⟨h1, h2, h3 | ⟨g, off, cap, hg, rfl, hle, hc⟩⟩ := h
  · exact ⟨h1, h2, .inl h3⟩
  · refine ⟨h1, h2, .inr ⟨g, off, cap, hg, rfl, hle, fun i p hi => ?_⟩⟩
    obtain ⟨x0, x1, x2, x3, y0, y1, y2, y3, c, hx, hy⟩ := hc i p hi
    exact ⟨x0, x1, x2, x3, y0, y1, y2, y3, fun j u hj => cell_fr hf hS hg (c j u hj), Shows.fr hf hS _ _ hx, Shows.fr hf hS _ _ hy⟩

theorem Procs.mono {R S : Nat → Prop} {w : World} {l : List KProc} {v : Value} (h : Procs R w l v) (hS : ∀ k, k < w.heap.size → R k → S k) : Procs S w l v := by
  obtain ⟨h1, h2, h3 | ⟨g, off, cap, hg, rfl, hle, hc⟩⟩ := h
  · exact ⟨h1, h2, .inl h3⟩
  · cases l with
    | nil => exact ⟨h1, h2, .inl ⟨rfl, _, _, rfl⟩⟩
    | cons q l =>
      refine ⟨h1, h2, .inr ⟨g, off, cap, ?_, rfl, hle, fun i p hi => ?_⟩⟩
      · obtain ⟨x0, x1, x2, x3, y0, y1, y2, y3, c, _⟩ := hc 0 q rfl
        exact hS g (World.block_lt_of_cell? w _ (c 0 _ rfl)) hg
      · obtain ⟨x0, x1, x2, x3, y0, y1, y2, y3, c, hx, hy⟩ := hc i p hi
        exact ⟨x0, x1, x2, x3, y0, y1, y2, y3, c, Shows.mono hS _ _ hx, Shows.mono hS _ _ hy⟩

theorem Tabled.fr {R S : Nat → Prop} {w w' : World} {t : KTab} {v : Value} (h : Tabled R w t v) (hf : Fr S w w') (hS : ∀ k, R k → ¬ S k) : Tabled R w' t v := by
  obtain ⟨tv, fv, pv, e, hn, h1, h2, h3⟩ := h
  exact ⟨tv, fv, pv, e, hn, h1.fr hf hS, h2.fr hf hS, h3.fr hf hS⟩

theorem Tabled.mono {R S : Nat → Prop} {w : World} {t : KTab} {v : Value} (h : Tabled R w t v) (hS : ∀ k, k < w.heap.size → R k → S k) : Tabled S w t v := by
  obtain ⟨tv, fv, pv, e, hn, h1, h2, h3⟩ := h
  exact ⟨tv, fv, pv, e, hn, h1.mono hS, h2.mono hS, h3.mono hS⟩

theorem Faults.shape {R : Nat → Prop} {w : World} {l : List (Txt × Int)} {v : Value} (h : Faults R w l v) : ∃ a c, v = .slice a l.length c ∧ (l.length = 0 ∨ l.length ≤ c ∧ ∃ g off, R g ∧ a = some ⟨g, off, none⟩ ∧ ∀ i x, l[i]? = some x →
    w.cell? ⟨g, off + i * 2, none⟩ = some (sv x.1) ∧ w.cell? ⟨g, off + i * 2 + 1, none⟩ = some (.int .i64 x.2)) := by
  obtain ⟨h1, h2, ⟨rfl, a, c, rfl⟩ | ⟨g, off, cap, hg, rfl, hle, hc⟩⟩ := h
  · exact ⟨a, c, rfl, .inl rfl⟩
  · exact ⟨_, cap, rfl, .inr ⟨hle, g, off, hg, rfl, hc⟩⟩

theorem Procs.shape {R : Nat → Prop} {w : World} {l : List KProc} {v : Value} (h : Procs R w l v) : ∃ a c, v = .slice a l.length c ∧ (l.length = 0 ∨ l.length ≤ c ∧ ∃ g off, R g ∧ a = some ⟨g, off, none⟩ ∧ ∀ i p, l[i]? = some p → ∃ x0 x1 x2 x3 y0 y1 y2 y3,
    (∀ j u, (procCells p x0 x1 x2 x3 y0 y1 y2 y3)[j]? = some u → w.cell? ⟨g, off + i * 12 + j, none⟩ = some u) ∧
    Shows R w p.takes (.agg #[x0, x1, x2, x3]) ∧ Shows R w p.answers (.agg #[y0, y1, y2, y3])) := by
  obtain ⟨h1, h2, ⟨rfl, a, c, rfl⟩ | ⟨g, off, cap, hg, rfl, hle, hc⟩⟩ := h
  · exact ⟨a, c, rfl, .inl rfl⟩
  · exact ⟨_, cap, rfl, .inr ⟨hle, g, off, hg, rfl, hc⟩⟩

theorem Faults.take {R : Nat → Prop} {w : World} {l : List (Txt × Int)} {a : Option Addr} {n c : Nat} (h : Faults R w l (.slice a n c)) (i : Nat) (hi : i ≤ l.length) : Faults R w (l.take i) (.slice a i c) := by
  obtain ⟨h1, h2, h3⟩ := h
  refine ⟨by rw [List.length_take]; omega, fun x hx => h2 x (List.mem_of_mem_take hx), ?_⟩
  rcases h3 with ⟨rfl, a', c', e⟩ | ⟨g, off, cap, hg, e, hle, hc⟩
  · cases e
    simp at hi
    subst hi
    exact .inl ⟨rfl, _, _, rfl⟩
  · cases e
    have e1 : (l.take i).length = i := by rw [List.length_take]; omega
    refine .inr ⟨g, off, _, hg, by rw [e1], by omega, fun j x hj => hc j x ?_⟩
    rw [List.getElem?_take] at hj
    split at hj
    · exact hj
    · cases hj

theorem Procs.take {R : Nat → Prop} {w : World} {l : List KProc} {a : Option Addr} {n c : Nat} (h : Procs R w l (.slice a n c)) (i : Nat) (hi : i ≤ l.length) : Procs R w (l.take i) (.slice a i c) := by
  obtain ⟨h1, h2, h3⟩ := h
  refine ⟨by rw [List.length_take]; omega, fun x hx => h2 x (List.mem_of_mem_take hx), ?_⟩
  rcases h3 with ⟨rfl, a', c', e⟩ | ⟨g, off, cap, hg, e, hle, hc⟩
  · cases e
    simp at hi
    subst hi
    exact .inl ⟨rfl, _, _, rfl⟩
  · cases e
    have e1 : (l.take i).length = i := by rw [List.length_take]; omega
    refine .inr ⟨g, off, _, hg, by rw [e1], by omega, fun j x hj => hc j x ?_⟩
    rw [List.getElem?_take] at hj
    split at hj
    · exact hj
    · cases hj

/-- May it number something? -/
def validN (n : Int) : Bool := decide (0 ≤ n ∧ n ≤ 65535)

def noProc : KProc := ⟨[], 0, .nil, .nil, 0, 0⟩

/-- The error of the alias at place i. -/
def aliasE (ts : List (Txt × KT)) (i : Nat) : Nat :=
  if nameE ((ts.take i).map (·.1)) (ts.getD i ([], .nil)).1 = 0 then rightE (ts.take i) (ts.getD i ([], .nil)).2 5 else nameE ((ts.take i).map (·.1)) (ts.getD i ([], .nil)).1

/-- The error of the fault at place i, behind the names bef. -/
def faultE (bef : List Txt) (fs : List (Txt × Int)) (i : Nat) : Nat :=
  if nameE (bef ++ (fs.take i).map (·.1)) (fs.getD i ([], 0)).1 = 0 then
    if !validN (fs.getD i ([], 0)).2 then 2 else if (fs.take i).any (fun g => decide (g.2 = (fs.getD i ([], 0)).2)) then 9 else 0
  else nameE (bef ++ (fs.take i).map (·.1)) (fs.getD i ([], 0)).1

/-- The error of a type that a procedure takes or answers. -/
def usedE (ts : List (Txt × KT)) (x : KT) : Nat := if rightE ts x 5 = 0 then (wholeE 20 ts x 200).e else rightE ts x 5

/-- The error of a procedure, but for its name. -/
def procE1 (ts : List (Txt × KT)) (ps : List KProc) (p : KProc) : Nat :=
  if !validN p.number || decide (p.timeout < 1) || decide (1000 < p.timeout) || decide (3 ≤ p.collate) then 2
  else if ps.any (fun q => decide (q.number = p.number)) then 9
  else if usedE ts p.takes = 0 then usedE ts p.answers else usedE ts p.takes

/-- The error of the procedure at place i, behind the names bef. -/
def procE (bef : List Txt) (ts : List (Txt × KT)) (ps : List KProc) (i : Nat) : Nat :=
  if nameE (bef ++ (ps.take i).map (·.name)) (ps.getD i noProc).name = 0 then procE1 ts (ps.take i) (ps.getD i noProc)
  else nameE (bef ++ (ps.take i).map (·.name)) (ps.getD i noProc).name

/-- THE CHECK OF AN INTERFACE. -/
def checkE (t : KTab) : Nat :=
  if !named t.name then 8
  else if !validN t.number || !validN t.version then 2
  else if 16 < t.types.length ∨ 16 < t.faults.length ∨ 16 < t.procs.length then 7
  else if firstE (aliasE t.types) t.types.length ≠ 0 then firstE (aliasE t.types) t.types.length
  else if firstE (faultE (t.types.map (·.1)) t.faults) t.faults.length ≠ 0 then firstE (faultE (t.types.map (·.1)) t.faults) t.faults.length
  else firstE (procE (t.types.map (·.1) ++ t.faults.map (·.1)) t.types t.procs) t.procs.length
end
section
theorem k10 {k : Nat} (h : k < 10) : k = 0 ∨ k = 1 ∨ k = 2 ∨ k = 3 ∨ k = 4 ∨ k = 5 ∨ k = 6 ∨ k = 7 ∨ k = 8 ∨ k = 9 := by omega

theorem sized_any (k : Nat) (m : Int) (hk : k < 10) (vn vo : Value) (w : World) :
    Calls Tryz.prog 97 #[.agg #[.int .u8 k, .int .i64 m, vn, vo]] w fun e w' => e = .returned (.bool (sizedB k m)) ∧ Fr (fun _ => False) w w' := by
  rcases k10 hk with rfl | rfl | rfl | rfl | rfl | rfl | rfl | rfl | rfl | rfl <;>
    (go_enter Tryz.func97, Tryz.ntmps97
     go_wp2
     all_goals go_ret
     all_goals refine ⟨ret_bool ?_, (Fr.refl _ _).alloc _⟩
     all_goals (rw [Bool.eq_iff_iff]; simp_all [sizedB]; try omega))

theorem formed_any (k nn n : Nat) (m : Int) (hk : k < 10) (a a' : Option Addr) (c c' : Nat) (w : World) :
    Calls Tryz.prog 98 #[.agg #[.int .u8 k, .int .i64 m, .slice a nn c, .slice a' n c']] w fun e w' => e = .returned (.bool (formedB k nn n)) ∧ Fr (fun _ => False) w w' := by
  rcases k10 hk with rfl | rfl | rfl | rfl | rfl | rfl | rfl | rfl | rfl | rfl <;>
    (go_enter Tryz.func98, Tryz.ntmps98
     go_wp2
     all_goals go_ret
     all_goals refine ⟨ret_bool ?_, (Fr.refl _ _).alloc _⟩
     all_goals (rw [Bool.eq_iff_iff]; simp_all [formedB]; try omega))

theorem namesE_step (bef : List Txt) (s : Txt) (r : List Txt) (h : nameE bef s = 0) : namesE bef (s :: r) = namesE (bef ++ [s]) r := by
  rw [namesE, if_pos h]

theorem namesE_stop (bef : List Txt) (s : Txt) (r : List Txt) (h : nameE bef s ≠ 0) : namesE bef (s :: r) = nameE bef s := by
  rw [namesE, if_neg h]

theorem ret_nat {a b : Nat} (h : a = b) : Ending.returned (.int .i64 (a : Int)) = .returned (.int .i64 (b : Int)) := by rw [h]

theorem nameE_small (l : List Txt) (s : Txt) : nameE l s = 0 ∨ nameE l s = 8 ∨ nameE l s = 9 := by
  unfold nameE; split
  · exact .inr (.inl rfl)
  · split
    · exact .inr (.inr rfl)
    · exact .inl rfl

theorem checkNames_any (R : Nat → Prop) (ns : List Txt) (v : Value) (w : World) (h : Texts R w ns v) :
    Calls Tryz.prog 99 #[v] w fun e w' => e = .returned (.int .i64 (checkNamesE ns)) ∧ Fr (fun _ => False) w w' := by
  have hl := Lib.hid h.1
  have hs := Lib.hid h.2.1
  obtain ⟨a, c, rfl, hc⟩ := h.shape
  have hl0 : ns.length ≤ 1000 := hl.out
  by_cases h1 : ns.length < 1
  · have h1' : (ns.length : Int) < 1 := by omega
    go_enter Tryz.func99, Tryz.ntmps99
    go_wp2
    go_ret
    exact ⟨ret_nat (a := 7) (by unfold checkNamesE; rw [if_pos (.inl h1)]), Fr.refl _ _⟩
  have h1' : ¬ (ns.length : Int) < 1 := by omega
  by_cases h2 : 12 < ns.length
  · have h2' : 12 < (ns.length : Int) := by omega
    go_enter Tryz.func99, Tryz.ntmps99
    go_wp2
    go_ret
    exact ⟨ret_nat (a := 7) (by unfold checkNamesE; rw [if_pos (.inr h2)]), Fr.refl _ _⟩
  have h2' : ¬ 12 < (ns.length : Int) := by omega
  have hce : checkNamesE ns = namesE [] ns := by unfold checkNamesE; rw [if_neg (by omega)]
  have HCE := Lib.hid hce
  clear hce
  rcases hc with hc | ⟨hcap, g, off, hg, rfl, hcell⟩
  · omega
  have Hcell := Lib.hid hcell
  have H := Lib.hid h
  clear hcell h
  go_enter Tryz.func99, Tryz.ntmps99
  go_wp2_with fail
  refine (naming_any _).mono ?_
  rintro e w1 ⟨rfl, f1, N1⟩
  unfold namer
  go_wp2
  go_loopg [5, 6, 18] ns.length (fun G u5 u6 u18 wr => ∃ k : Nat, k ≤ ns.length ∧ G = ns.length - k ∧ u18 = .int .i64 k ∧ Hid (Fr (fun _ => False) w wr ∧ Nm (fun k => k < w.heap.size) wr w.heap.size (ns.take k) ∧ namesE [] ns = namesE (ns.take k) (ns.drop k)))
  case atStart => exact ⟨0, Nat.zero_le _, rfl, by go_num, Lib.hid ⟨f1, N1, rfl⟩⟩
  case round =>
    obtain ⟨k, hk, rfl, rfl, HI⟩ := hrel
    by_cases hlt : k < ns.length
    · obtain ⟨d, hd⟩ : ∃ d, d = ns[k] := ⟨_, rfl⟩
      have hck0 := Hcell.out k d (by rw [List.getElem?_eq_getElem hlt, hd])
      have hck := cell_fr (R := fun k => k < w.heap.size) HI.out.1 (fun _ _ h => h) (World.block_lt_of_cell? w _ hck0) hck0
      unfold sv at hck
      clear hck0
      have hdl : d.length ≤ 1000 := hs.out d (by rw [hd]; exact List.getElem_mem hlt)
      have hdrop : ns.drop k = d :: ns.drop (k + 1) := by rw [hd]; exact List.drop_eq_getElem_cons hlt
      have htake : ns.take (k + 1) = ns.take k ++ [d] := by rw [hd]; exact List.take_succ_eq_append_getElem hlt
      have HT := Lib.hid htake
      have HD := Lib.hid hdrop
      clear hd hdrop htake
      have hnx := name_next (fun k => k < w.heap.size) w.heap.size (ns.take k) d wr HI.out.2.1 (fun k hk => Nat.lt_of_lt_of_le hk HI.out.1.size) (by rw [List.length_take]; omega) (by unfold maxLen; omega)
      unfold sv at hnx
      obtain ⟨E, hE⟩ : ∃ E, E = nameE (ns.take k) d := ⟨_, rfl⟩
      rw [← hE] at hnx
      have HE := Lib.hid hE
      clear hE
      by_cases he : E = 0
      · subst he
        go_wp2_with fail
        refine hnx.mono ?_
        rintro e w2 ⟨rfl, f2, N2⟩
        have N2 := Lib.hid (N2 (by first | trivial | rfl))
        have f2 := Lib.hid f2
        go_wp2
        go_roundg (ns.length - (k + 1))
        case measure => omega
        case rel => exact ⟨k + 1, by omega, rfl, by go_num, Lib.hid ⟨HI.out.1.trans f2.out (fun i hi hn => hn hi), by rw [HT.out]; exact N2.out, by rw [HI.out.2.2, HD.out, HT.out, namesE_step _ _ _ HE.out.symm]⟩⟩
      · have he' : ¬ (E : Int) = 0 := by omega
        go_wp2_with fail
        refine hnx.mono ?_
        rintro e w2 ⟨rfl, f2, _⟩
        have f2 := Lib.hid f2
        go_wp2
        go_ret
        refine ⟨ret_nat ?_, HI.out.1.trans f2.out (fun i hi hn => hn hi)⟩
        rw [HCE.out, HI.out.2.2, HD.out, namesE_stop _ _ _ (by rw [← HE.out]; exact he)]
        exact HE.out
    · obtain rfl : k = ns.length := by omega
      go_wp2
      go_ret
      refine ⟨ret_nat (a := 0) ?_, HI.out.1⟩
      rw [HCE.out, HI.out.2.2, List.drop_length]
      rfl
end
section
/-- The index of the alias for which a type stands, or -1. -/
def standsE (known : List (Txt × KT)) : KT → Int
  | .nil => -1
  | .mk _ _ ns _ _ => standsN known ns

theorem cell_of_four {w : World} {b : Nat} {x0 x1 x2 x3 : Value} {t : TypeId} (h : w.heap[b]? = some (.cells #[x0, x1, x2, x3] t (0, 0))) :
    w.cell? ⟨b, 0, none⟩ = some x0 ∧ w.cell? ⟨b, 1, none⟩ = some x1 ∧ w.cell? ⟨b, 2, none⟩ = some x2 ∧ w.cell? ⟨b, 3, none⟩ = some x3 := by
  simp [World.cell?, h]

theorem Fr.drewN {S : Nat → Prop} {a b : World} (h : Fr S a b) (n : Nat) : Fr S a (b.drewN n) := ⟨h.os, h.tape, h.output, h.size, h.block⟩

theorem stands_fn (b : Nat) (x0 x1 x3 y0 y1 y2 y3 : Value) (c g off : Nat) (s d : Txt) (w : World) (hb : w.heap[b]? = some (.cells #[x0, x1, .slice (some ⟨g, off, none⟩) 1 c, x3] 34 (0, 0))) (hc : w.cell? ⟨g, off, none⟩ = some (sv s)) :
    Calls Tryz.prog 105 #[.agg #[sv d, y0, y1, y2, y3], .pointer (some ⟨b, 0, none⟩)] w fun e w' => e = .returned (.bool (decide (d = s))) ∧ Fr (fun _ => False) w w' := by
  obtain ⟨_, _, c2, _⟩ := cell_of_four hb
  have hlt := lt_of_block hb
  have hlg := World.block_lt_of_cell? w _ hc
  have hlg' : g < w.heap.size := hlg
  have n1 : b ≠ w.heap.size := by omega
  have n2 : g ≠ w.heap.size := by omega
  clear hb
  unfold sv at *
  have hbs : (d == s) = decide (d = s) := by by_cases h : d = s <;> simp [h]
  go_enter Tryz.func105, Tryz.ntmps105
  go_wp2
  go_quiet (fail)
  go_wp2
  go_ret
  exact ⟨rfl, ((Fr.refl _ _).alloc _).drewN _⟩

theorem index_alias (R : Nat → Prop) (l : List (Txt × KT)) (v : Value) (b : Nat) (x0 x1 x3 : Value) (c g off : Nat) (s : Txt) (w : World) (h : Aliases R w l v) (hb : w.heap[b]? = some (.cells #[x0, x1, .slice (some ⟨g, off, none⟩) 1 c, x3] 34 (0, 0))) (hc : w.cell? ⟨g, off, none⟩ = some (sv s)) :
    Calls Tryz.prog 104 #[v, .func (.func 105) #[] #[.pointer (some ⟨b, 0, none⟩)]] w fun e w' => e = .returned (.int .i64 (firstAt (fun x => decide (x.1 = s)) l)) ∧ Fr (fun _ => False) w w' := by
  have hl0 : l.length ≤ 1000 := h.1
  obtain ⟨a, cap, rfl, hs⟩ := h.shape
  have Hs := Lib.hid hs
  have Hb := Lib.hid hb
  have Hc := Lib.hid hc
  clear hs h hb hc
  go_enter Tryz.func104, Tryz.ntmps104
  go_wp2
  go_loopg [5, 8] l.length (fun G u5 u8 wr => ∃ k : Nat, k ≤ l.length ∧ G = l.length - k ∧ u8 = .int .i64 k ∧ Hid ((∀ j, (hj : j < l.length) → j < k → l[j].1 ≠ s) ∧ Fr (fun _ => False) w wr))
  case atStart => exact ⟨0, Nat.zero_le _, rfl, by go_num, Lib.hid ⟨fun j _ hj => by omega, Fr.refl _ _⟩⟩
  case round =>
    obtain ⟨k, hk, rfl, rfl, HI⟩ := hrel
    by_cases hlt : k < l.length
    · rcases Hs.out with hz | ⟨hcap, ga, oa, hg, rfl, hcell⟩
      · omega
      obtain ⟨d, hd⟩ : ∃ d, d = l[k] := ⟨_, rfl⟩
      obtain ⟨y0, y1, y2, y3, q, q0, q1, q2, q3, _⟩ := hcell k d (by rw [List.getElem?_eq_getElem hlt, hd])
      have up : ∀ {o : Nat} {u : Value}, w.cell? ⟨ga, o, none⟩ = some u → wr.cell? ⟨ga, o, none⟩ = some u := fun {o u} hq => cell_fr (R := fun _ => True) HI.out.2 (fun _ _ h => h) trivial hq
      have q' := up q
      have q0' := up q0
      have q1' := up q1
      have q2' := up q2
      have q3' := up q3
      clear up q q0 q1 q2 q3 hcell
      have hbr : wr.heap[b]? = some (.cells #[x0, x1, .slice (some ⟨g, off, none⟩) 1 c, x3] 34 (0, 0)) := by
        rw [HI.out.2.block b (lt_of_block Hb.out) (fun h => h)]; exact Hb.out
      have hcr : wr.cell? ⟨g, off, none⟩ = some (sv s) := cell_fr (R := fun _ => True) HI.out.2 (fun _ _ h => h) trivial Hc.out
      have hfn := stands_fn b x0 x1 x3 y0 y1 y2 y3 c g off s d.1 wr hbr hcr
      have Hd := Lib.hid hd
      clear hd hbr hcr
      unfold sv at *
      by_cases he : d.1 = s
      · have hb1 : decide (d.1 = s) = true := by simpa using he
        rw [hb1] at hfn
        have He := Lib.hid he
        clear he hb1
        go_wp2_with fail
        refine hfn.mono ?_
        rintro e w1 ⟨rfl, f1⟩
        have f1 := Lib.hid f1
        go_wp2
        go_ret
        refine ⟨ret_int ?_, HI.out.2.trans f1.out (fun _ _ h => h)⟩
        exact (firstAt_found _ l k hlt (fun j hj hjk => by simpa using HI.out.1 j hj hjk) (by rw [← Hd.out]; simpa using He.out)).symm
      · have hb1 : decide (d.1 = s) = false := by simpa using he
        rw [hb1] at hfn
        have He := Lib.hid he
        clear he hb1
        go_wp2_with fail
        refine hfn.mono ?_
        rintro e w1 ⟨rfl, f1⟩
        have f1 := Lib.hid f1
        go_wp2
        go_roundg (l.length - (k + 1))
        case measure => omega
        case rel => exact ⟨k + 1, by omega, rfl, by go_num, Lib.hid ⟨fun j hj' hj => by
          by_cases h : j < k
          · exact HI.out.1 j hj' h
          · obtain rfl : j = k := by omega
            rw [← Hd.out]; exact He.out, HI.out.2.trans f1.out (fun _ _ h => h)⟩⟩
    · obtain rfl : k = l.length := by omega
      go_wp2
      go_ret
      refine ⟨ret_int ?_, HI.out.2⟩
      exact (firstAt_none _ l (fun j hj => by simpa using HI.out.1 j hj hj)).symm

theorem stands_any (R : Nat → Prop) (known : List (Txt × KT)) (t : KT) (v kv : Value) (w : World) (h : Shows R w t v) (hk : Aliases R w known kv) :
    Calls Tryz.prog 100 #[v, kv] w fun e w' => e = .returned (.int .i64 (standsE known t)) ∧ Fr (fun _ => False) w w' := by
  cases t with
  | nil => exact h.elim
  | mk k m ns n of =>
  obtain ⟨vn, vo, rfl, _, _, ht, _⟩ := h
  have hl0 : ns.length ≤ 1000 := ht.1
  obtain ⟨a, cap, rfl, hs⟩ := ht.shape
  have Hs := Lib.hid hs
  have Hk := Lib.hid hk
  clear hs hk ht
  by_cases h1 : ns.length = 1
  · obtain ⟨s, rfl⟩ : ∃ s, ns = [s] := List.length_eq_one_iff.1 h1
    rcases Hs.out with hz | ⟨hcap, g, off, hg, rfl, hcell⟩
    · simp at hz
    have hc := hcell 0 s rfl
    rw [Nat.add_zero] at hc
    clear hcell
    have Hc := Lib.hid hc
    clear hc
    have hlg : g < w.heap.size := World.block_lt_of_cell? w _ Hc.out
    have e1 : standsE known (.mk k m [s] n of) = firstAt (fun x => decide (x.1 = s)) known := rfl
    have E1 := Lib.hid e1
    clear e1
    go_enter Tryz.func100, Tryz.ntmps100
    go_wp2_with fail
    have f0 : Fr (fun _ => False) w (w.alloc (.cells #[.int .u8 k, .int .i64 m, .slice (some ⟨g, off, none⟩) 1 cap, vo] 34)) := (Fr.refl _ _).alloc _
    refine (index_alias R known kv w.heap.size _ _ _ cap g off s _ (Hk.out.fr f0 (fun _ _ h => h)) (heap_alloc_new w _) (cell_fr (R := fun _ => True) f0 (fun _ _ h => h) trivial Hc.out)).mono ?_
    rintro e w1 ⟨rfl, f1⟩
    have f1 := Lib.hid f1
    have f0 := Lib.hid f0
    go_wp2
    go_ret
    exact ⟨by rw [E1.out]; rfl, f0.out.trans f1.out (fun _ _ h => h)⟩
  · have e1 : standsE known (.mk k m ns n of) = -1 := by
      match ns, h1 with
      | [], _ => rfl
      | [s], h => exact absurd rfl h
      | _ :: _ :: _, _ => rfl
    have E1 := Lib.hid e1
    clear e1
    have h1' : ¬ (ns.length : Int) = 1 := by omega
    go_enter Tryz.func100, Tryz.ntmps100
    go_wp2
    go_ret
    exact ⟨by rw [E1.out]; rfl, (Fr.refl _ _).alloc _⟩
end
end Go.Proofs.YtplipjijaaejlaaGreat
