/-
  Interfaces as plain data; an interface's value in memory; what its check answers, as a plain function.
-/
import Derived.Test.YtdaabgnfgdojhaaKindWholeDef
namespace Go.Proofs.Ytdaabgnfgdojhaa
open Go.RowKit

structure KProc where
  name : Txt
  number : Int
  takes : KT
  answers : KT
  collate : Nat
  timeout : Int

structure KTab where
  name : Txt
  number : Int
  version : Int
  types : List (Txt × KT)
  faults : List (Txt × Int)
  procs : List KProc

/-- The slice v shows these faults. -/
def Faults (R : Nat → Prop) (w : World) (l : List (Txt × Int)) (v : Value) : Prop :=
  l.length ≤ 1000 ∧ (∀ x ∈ l, x.1.length ≤ 1000) ∧
  ((l = [] ∧ ∃ a c, v = .slice a 0 c) ∨
   ∃ g off cap, R g ∧ v = .slice (some ⟨g, off, none⟩) l.length cap ∧ l.length ≤ cap ∧ ∀ i x, l[i]? = some x →
    w.cell? ⟨g, off + i * 2, none⟩ = some (sv x.1) ∧ w.cell? ⟨g, off + i * 2 + 1, none⟩ = some (.int .i64 x.2))

/-- The cells of a procedure, its types' cells being x0 to x3 and y0 to y3. -/
def procCells (p : KProc) (x0 x1 x2 x3 y0 y1 y2 y3 : Value) : List Value := [sv p.name, .int .i64 p.number, x0, x1, x2, x3, y0, y1, y2, y3, .int .u8 p.collate, .int .i64 p.timeout]

/-- The slice v shows these procedures. -/
def Procs (R : Nat → Prop) (w : World) (l : List KProc) (v : Value) : Prop :=
  l.length ≤ 1000 ∧ (∀ p ∈ l, p.name.length ≤ 1000 ∧ p.collate ≤ 255) ∧
  ((l = [] ∧ ∃ a c, v = .slice a 0 c) ∨
   ∃ g off cap, R g ∧ v = .slice (some ⟨g, off, none⟩) l.length cap ∧ l.length ≤ cap ∧ ∀ i p, l[i]? = some p → ∃ x0 x1 x2 x3 y0 y1 y2 y3,
    (∀ j u, (procCells p x0 x1 x2 x3 y0 y1 y2 y3)[j]? = some u → w.cell? ⟨g, off + i * 12 + j, none⟩ = some u) ∧
    Shows R w p.takes (.agg #[x0, x1, x2, x3]) ∧ Shows R w p.answers (.agg #[y0, y1, y2, y3]))

/-- The value v shows the interface t. -/
def Tabled (R : Nat → Prop) (w : World) (t : KTab) (v : Value) : Prop :=
  ∃ tv fv pv, v = .agg #[sv t.name, .int .i64 t.number, .int .i64 t.version, tv, fv, pv] ∧ t.name.length ≤ 1000 ∧ Aliases R w t.types tv ∧ Faults R w t.faults fv ∧ Procs R w t.procs pv

theorem Faults.fr {R S : Nat → Prop} {w w' : World} {l : List (Txt × Int)} {v : Value} (h : Faults R w l v) (hf : Fr S w w') (hS : ∀ k, R k → ¬ S k) : Faults R w' l v := by
  obtain ⟨h1, h2, h3 | ⟨g, off, cap, hg, rfl, hle, hc⟩⟩ := h
  · exact ⟨h1, h2, .inl h3⟩
  · exact ⟨h1, h2, .inr ⟨g, off, cap, hg, rfl, hle, fun i x hi => ⟨cell_fr hf hS hg (hc i x hi).1, cell_fr hf hS hg (hc i x hi).2⟩⟩⟩

theorem Faults.mono {R S : Nat → Prop} {w : World} {l : List (Txt × Int)} {v : Value} (h : Faults R w l v) (hS : ∀ k, k < w.heap.size → R k → S k) : Faults S w l v := by
  obtain ⟨h1, h2, h3 | ⟨g, off, cap, hg, rfl, hle, hc⟩⟩ := h
  · exact ⟨h1, h2, .inl h3⟩
  · cases l with
    | nil => exact ⟨h1, h2, .inl ⟨rfl, _, _, rfl⟩⟩
    | cons x l => exact ⟨h1, h2, .inr ⟨g, off, cap, hS g (World.block_lt_of_cell? w _ (hc 0 x rfl).1) hg, rfl, hle, hc⟩⟩

theorem Procs.fr {R S : Nat → Prop} {w w' : World} {l : List KProc} {v : Value} (h : Procs R w l v) (hf : Fr S w w') (hS : ∀ k, R k → ¬ S k) : Procs R w' l v := by
  obtain ⟨h1, h2, h3 | ⟨g, off, cap, hg, rfl, hle, hc⟩⟩ := h
  · exact ⟨h1, h2, .inl h3⟩
  · refine ⟨h1, h2, .inr ⟨g, off, cap, hg, rfl, hle, fun i p hi => ?_⟩⟩
    obtain ⟨x0, x1, x2, x3, y0, y1, y2, y3, c, hx, hy⟩ := hc i p hi
    exact ⟨x0, x1, x2, x3, y0, y1, y2, y3, fun j u hj => cell_fr hf hS hg (c j u hj), Shows.fr hf hS _ _ hx, Shows.fr hf hS _ _ hy⟩

theorem Procs.mono {R S : Nat → Prop} {w : World} {l : List KProc} {v : Value} (h : Procs R w l v) (hS : ∀ k, k < w.heap.size → R k → S k) : Procs S w l v := by
  obtain ⟨h1, h2, h3 | ⟨g, off, cap, hg, rfl, hle, hc⟩⟩ := h
  · exact ⟨h1, h2, .inl h3⟩
  · cases l with
    | nil => exact ⟨h1, h2, .inl ⟨rfl, _, _, rfl⟩⟩
    | cons q l =>
      refine ⟨h1, h2, .inr ⟨g, off, cap, ?_, rfl, hle, fun i p hi => ?_⟩⟩
      · obtain ⟨x0, x1, x2, x3, y0, y1, y2, y3, c, _⟩ := hc 0 q rfl
        exact hS g (World.block_lt_of_cell? w _ (c 0 _ rfl)) hg
      · obtain ⟨x0, x1, x2, x3, y0, y1, y2, y3, c, hx, hy⟩ := hc i p hi
        exact ⟨x0, x1, x2, x3, y0, y1, y2, y3, c, Shows.mono hS _ _ hx, Shows.mono hS _ _ hy⟩

theorem Tabled.fr {R S : Nat → Prop} {w w' : World} {t : KTab} {v : Value} (h : Tabled R w t v) (hf : Fr S w w') (hS : ∀ k, R k → ¬ S k) : Tabled R w' t v := by
  obtain ⟨tv, fv, pv, e, hn, h1, h2, h3⟩ := h
  exact ⟨tv, fv, pv, e, hn, h1.fr hf hS, h2.fr hf hS, h3.fr hf hS⟩

theorem Tabled.mono {R S : Nat → Prop} {w : World} {t : KTab} {v : Value} (h : Tabled R w t v) (hS : ∀ k, k < w.heap.size → R k → S k) : Tabled S w t v := by
  obtain ⟨tv, fv, pv, e, hn, h1, h2, h3⟩ := h
  exact ⟨tv, fv, pv, e, hn, h1.mono hS, h2.mono hS, h3.mono hS⟩

theorem Faults.shape {R : Nat → Prop} {w : World} {l : List (Txt × Int)} {v : Value} (h : Faults R w l v) : ∃ a c, v = .slice a l.length c ∧ (l.length = 0 ∨ l.length ≤ c ∧ ∃ g off, R g ∧ a = some ⟨g, off, none⟩ ∧ ∀ i x, l[i]? = some x →
    w.cell? ⟨g, off + i * 2, none⟩ = some (sv x.1) ∧ w.cell? ⟨g, off + i * 2 + 1, none⟩ = some (.int .i64 x.2)) := by
  obtain ⟨h1, h2, ⟨rfl, a, c, rfl⟩ | ⟨g, off, cap, hg, rfl, hle, hc⟩⟩ := h
  · exact ⟨a, c, rfl, .inl rfl⟩
  · exact ⟨_, cap, rfl, .inr ⟨hle, g, off, hg, rfl, hc⟩⟩

theorem Procs.shape {R : Nat → Prop} {w : World} {l : List KProc} {v : Value} (h : Procs R w l v) : ∃ a c, v = .slice a l.length c ∧ (l.length = 0 ∨ l.length ≤ c ∧ ∃ g off, R g ∧ a = some ⟨g, off, none⟩ ∧ ∀ i p, l[i]? = some p → ∃ x0 x1 x2 x3 y0 y1 y2 y3,
    (∀ j u, (procCells p x0 x1 x2 x3 y0 y1 y2 y3)[j]? = some u → w.cell? ⟨g, off + i * 12 + j, none⟩ = some u) ∧
    Shows R w p.takes (.agg #[x0, x1, x2, x3]) ∧ Shows R w p.answers (.agg #[y0, y1, y2, y3])) := by
  obtain ⟨h1, h2, ⟨rfl, a, c, rfl⟩ | ⟨g, off, cap, hg, rfl, hle, hc⟩⟩ := h
  · exact ⟨a, c, rfl, .inl rfl⟩
  · exact ⟨_, cap, rfl, .inr ⟨hle, g, off, hg, rfl, hc⟩⟩

theorem Faults.take {R : Nat → Prop} {w : World} {l : List (Txt × Int)} {a : Option Addr} {n c : Nat} (h : Faults R w l (.slice a n c)) (i : Nat) (hi : i ≤ l.length) : Faults R w (l.take i) (.slice a i c) := by
  obtain ⟨h1, h2, h3⟩ := h
  refine ⟨by rw [List.length_take]; omega, fun x hx => h2 x (List.mem_of_mem_take hx), ?_⟩
  rcases h3 with ⟨rfl, a', c', e⟩ | ⟨g, off, cap, hg, e, hle, hc⟩
  · cases e
    simp at hi
    subst hi
    exact .inl ⟨rfl, _, _, rfl⟩
  · cases e
    have e1 : (l.take i).length = i := by rw [List.length_take]; omega
    refine .inr ⟨g, off, _, hg, by rw [e1], by omega, fun j x hj => hc j x ?_⟩
    rw [List.getElem?_take] at hj
    split at hj
    · exact hj
    · cases hj

theorem Procs.take {R : Nat → Prop} {w : World} {l : List KProc} {a : Option Addr} {n c : Nat} (h : Procs R w l (.slice a n c)) (i : Nat) (hi : i ≤ l.length) : Procs R w (l.take i) (.slice a i c) := by
  obtain ⟨h1, h2, h3⟩ := h
  refine ⟨by rw [List.length_take]; omega, fun x hx => h2 x (List.mem_of_mem_take hx), ?_⟩
  rcases h3 with ⟨rfl, a', c', e⟩ | ⟨g, off, cap, hg, e, hle, hc⟩
  · cases e
    simp at hi
    subst hi
    exact .inl ⟨rfl, _, _, rfl⟩
  · cases e
    have e1 : (l.take i).length = i := by rw [List.length_take]; omega
    refine .inr ⟨g, off, _, hg, by rw [e1], by omega, fun j x hj => hc j x ?_⟩
    rw [List.getElem?_take] at hj
    split at hj
    · exact hj
    · cases hj

/-- May it number something? -/
def validN (n : Int) : Bool := decide (0 ≤ n ∧ n ≤ 65535)

def noProc : KProc := ⟨[], 0, .nil, .nil, 0, 0⟩

/-- The error of the alias at place i. -/
def aliasE (ts : List (Txt × KT)) (i : Nat) : Nat :=
  if nameE ((ts.take i).map (·.1)) (ts.getD i ([], .nil)).1 = 0 then rightE (ts.take i) (ts.getD i ([], .nil)).2 5 else nameE ((ts.take i).map (·.1)) (ts.getD i ([], .nil)).1

/-- The error of the fault at place i, behind the names bef. -/
def faultE (bef : List Txt) (fs : List (Txt × Int)) (i : Nat) : Nat :=
  if nameE (bef ++ (fs.take i).map (·.1)) (fs.getD i ([], 0)).1 = 0 then
    if !validN (fs.getD i ([], 0)).2 then 2 else if (fs.take i).any (fun g => decide (g.2 = (fs.getD i ([], 0)).2)) then 9 else 0
  else nameE (bef ++ (fs.take i).map (·.1)) (fs.getD i ([], 0)).1

/-- The error of a type that a procedure takes or answers. -/
def usedE (ts : List (Txt × KT)) (x : KT) : Nat := if rightE ts x 5 = 0 then (wholeE 20 ts x 200).e else rightE ts x 5

/-- The error of a procedure, but for its name. -/
def procE1 (ts : List (Txt × KT)) (ps : List KProc) (p : KProc) : Nat :=
  if !validN p.number || decide (p.timeout < 1) || decide (1000 < p.timeout) || decide (3 ≤ p.collate) then 2
  else if ps.any (fun q => decide (q.number = p.number)) then 9
  else if usedE ts p.takes = 0 then usedE ts p.answers else usedE ts p.takes

/-- The error of the procedure at place i, behind the names bef. -/
def procE (bef : List Txt) (ts : List (Txt × KT)) (ps : List KProc) (i : Nat) : Nat :=
  if nameE (bef ++ (ps.take i).map (·.name)) (ps.getD i noProc).name = 0 then procE1 ts (ps.take i) (ps.getD i noProc)
  else nameE (bef ++ (ps.take i).map (·.name)) (ps.getD i noProc).name

/-- THE CHECK OF AN INTERFACE. -/
def checkE (t : KTab) : Nat :=
  if !named t.name then 8
  else if !validN t.number || !validN t.version then 2
  else if 16 < t.types.length ∨ 16 < t.faults.length ∨ 16 < t.procs.length then 7
  else if firstE (aliasE t.types) t.types.length ≠ 0 then firstE (aliasE t.types) t.types.length
  else if firstE (faultE (t.types.map (·.1)) t.faults) t.faults.length ≠ 0 then firstE (faultE (t.types.map (·.1)) t.faults) t.faults.length
  else firstE (procE (t.types.map (·.1) ++ t.faults.map (·.1)) t.types t.procs) t.procs.length

end Go.Proofs.Ytdaabgnfgdojhaa
