/-
  The laws' table as a plain function of their argument; rows of aliases, of faults, of procedures.
-/
import Derived.Test.YtdaabgnfgdojhaaKindTypeR
import Derived.Test.YtdaabgnfgdojhaaKindArg
import Derived.Test.YtdaabgnfgdojhaaKindCheckAll
namespace Go.Proofs.Ytdaabgnfgdojhaa
open Go.RowKit
set_option linter.unusedVariables false

def aName (i : Nat) : Txt := 84 :: nameT i 3
def fName (i : Nat) : Txt := 69 :: nameT i 5
def pName (i : Nat) : Txt := 80 :: nameT i 7

/-- The names of the first m aliases. -/
def knownE (m : Nat) : List Txt := (List.range m).map aName

/-- The first m aliases. -/
def aliasesE (s : KS) (m : Nat) : List (Txt × KT) := (List.range m).map (fun i => (aName i, typeE (knownE i) (s.aliases.getD i .nil) 3))

def faultsE (m : Nat) : List (Txt × Int) := (List.range m).map (fun i => (fName i, (10 * i : Nat)))

/-- The procedure of number i. -/
def procOfE (s : KS) (known : List Txt) (i : Nat) : KProc :=
  ⟨pName i, (i + s.number % 9 : Nat), typeE known (s.procs.getD i ⟨.nil, .nil, 0, 0⟩).takes 3, typeE known (s.procs.getD i ⟨.nil, .nil, 0, 0⟩).answers 3, (s.procs.getD i ⟨.nil, .nil, 0, 0⟩).collate % 3, (1 + (s.procs.getD i ⟨.nil, .nil, 0, 0⟩).timeout % 1000 : Nat)⟩

def procsE (s : KS) (known : List Txt) (m : Nat) : List KProc := (List.range m).map (procOfE s known)

def faceT : Txt := [102, 97, 99, 101]

/-- THE LAWS' TABLE. -/
def tableE (s : KS) : KTab :=
  ⟨faceT, s.number, (s.number % 7 : Nat), aliasesE s (min 4 s.aliases.length), faultsE (s.faults % 4), procsE s (knownE (min 4 s.aliases.length)) (min 4 s.procs.length)⟩

def alShown : Shown (Txt × KT) where
  sh R w t xs := ∃ x0 x1 x2 x3, xs = [sv t.1, x0, x1, x2, x3] ∧ Shows R w t.2 (.agg #[x0, x1, x2, x3])
  fr := by
    rintro R S w w' x xs ⟨x0, x1, x2, x3, rfl, h⟩ f hS
    exact ⟨x0, x1, x2, x3, rfl, Shows.fr f hS _ _ h⟩
  mono := by
    rintro R S w x xs ⟨x0, x1, x2, x3, rfl, h⟩ hS
    exact ⟨x0, x1, x2, x3, rfl, Shows.mono hS _ _ h⟩

def ftShown : Shown (Txt × Int) where
  sh _ _ t xs := xs = [sv t.1, .int .i64 t.2]
  fr := fun h _ _ => h
  mono := fun h _ => h

def prShown : Shown KProc where
  sh R w p xs := ∃ x0 x1 x2 x3 y0 y1 y2 y3, xs = procCells p x0 x1 x2 x3 y0 y1 y2 y3 ∧ Shows R w p.takes (.agg #[x0, x1, x2, x3]) ∧ Shows R w p.answers (.agg #[y0, y1, y2, y3])
  fr := by
    rintro R S w w' x xs ⟨x0, x1, x2, x3, y0, y1, y2, y3, rfl, h, h'⟩ f hS
    exact ⟨x0, x1, x2, x3, y0, y1, y2, y3, rfl, Shows.fr f hS _ _ h, Shows.fr f hS _ _ h'⟩
  mono := by
    rintro R S w x xs ⟨x0, x1, x2, x3, y0, y1, y2, y3, rfl, h, h'⟩ hS
    exact ⟨x0, x1, x2, x3, y0, y1, y2, y3, rfl, Shows.mono hS _ _ h, Shows.mono hS _ _ h'⟩

section
variable {e : TypeId} {B : Nat} {X : Nat → Prop} {w : World} {pv : Value}

theorem ItRow.aliases {l : List (Txt × KT)} (h : ItRow alShown e 5 B X w pv l) (h1 : l.length ≤ 1000) (h2 : ∀ x ∈ l, x.1.length ≤ 1000) : Aliases (fun k => B ≤ k ∧ ¬ X k ∧ k < w.heap.size) w l pv := by
  refine ⟨h1, h2, ?_⟩
  rcases h.cells with ⟨h3, a, c, h4⟩ | ⟨g, cap, hg, rfl, hle, hc⟩
  · exact .inl ⟨h3, a, c, h4⟩
  · refine .inr ⟨g, 0, cap, hg, rfl, hle, fun i x hi => ?_⟩
    obtain ⟨xs, _, hc, x0, x1, x2, x3, rfl, hx⟩ := hc i x hi
    exact ⟨x0, x1, x2, x3, hc 0 _ rfl, hc 1 _ rfl, hc 2 _ rfl, hc 3 _ rfl, hc 4 _ rfl, hx⟩

theorem ItRow.faults {l : List (Txt × Int)} (h : ItRow ftShown e 2 B X w pv l) (h1 : l.length ≤ 1000) (h2 : ∀ x ∈ l, x.1.length ≤ 1000) : Faults (fun k => B ≤ k ∧ ¬ X k ∧ k < w.heap.size) w l pv := by
  refine ⟨h1, h2, ?_⟩
  rcases h.cells with ⟨h3, a, c, h4⟩ | ⟨g, cap, hg, rfl, hle, hc⟩
  · exact .inl ⟨h3, a, c, h4⟩
  · refine .inr ⟨g, 0, cap, hg, rfl, hle, fun i x hi => ?_⟩
    obtain ⟨xs, _, hc, rfl⟩ := hc i x hi
    exact ⟨hc 0 _ rfl, hc 1 _ rfl⟩

theorem ItRow.procs {l : List KProc} (h : ItRow prShown e 12 B X w pv l) (h1 : l.length ≤ 1000) (h2 : ∀ p ∈ l, p.name.length ≤ 1000 ∧ p.collate ≤ 255) : Procs (fun k => B ≤ k ∧ ¬ X k ∧ k < w.heap.size) w l pv := by
  refine ⟨h1, h2, ?_⟩
  rcases h.cells with ⟨h3, a, c, h4⟩ | ⟨g, cap, hg, rfl, hle, hc⟩
  · exact .inl ⟨h3, a, c, h4⟩
  · refine .inr ⟨g, 0, cap, hg, rfl, hle, fun i x hi => ?_⟩
    obtain ⟨xs, _, hc, x0, x1, x2, x3, y0, y1, y2, y3, rfl, hx, hy⟩ := hc i x hi
    exact ⟨x0, x1, x2, x3, y0, y1, y2, y3, fun j u hu => hc j u hu, hx, hy⟩
end

theorem aliasesE_succ (s : KS) (m : Nat) (x : KN) (hx : s.aliases[m]? = some x) : aliasesE s (m + 1) = aliasesE s m ++ [(aName m, typeE (knownE m) x 3)] := by
  unfold aliasesE
  rw [List.range_succ, List.map_append, List.map_singleton, List.getD_eq_getElem?_getD, hx]
  rfl

theorem knownE_succ (m : Nat) : knownE (m + 1) = knownE m ++ [aName m] := by
  unfold knownE
  rw [List.range_succ, List.map_append, List.map_singleton]

theorem faultsE_succ (m : Nat) : faultsE (m + 1) = faultsE m ++ [(fName m, ((10 * m : Nat) : Int))] := by
  unfold faultsE
  rw [List.range_succ, List.map_append, List.map_singleton]

theorem procsE_succ (s : KS) (known : List Txt) (m : Nat) : procsE s known (m + 1) = procsE s known m ++ [procOfE s known m] := by
  unfold procsE
  rw [List.range_succ, List.map_append, List.map_singleton]

theorem knownE_short (m : Nat) : ∀ x ∈ knownE m, x.length ≤ 1000 := by
  intro x hx
  obtain ⟨i, _, rfl⟩ := List.mem_map.1 hx
  simp [aName, nameT]

theorem aliasesE_short (s : KS) (m : Nat) : ∀ x ∈ aliasesE s m, x.1.length ≤ 1000 := by
  intro x hx
  obtain ⟨i, _, rfl⟩ := List.mem_map.1 hx
  simp [aName, nameT]

theorem faultsE_short (m : Nat) : ∀ x ∈ faultsE m, x.1.length ≤ 1000 := by
  intro x hx
  obtain ⟨i, _, rfl⟩ := List.mem_map.1 hx
  simp [fName, nameT]

theorem procsE_short (s : KS) (known : List Txt) (m : Nat) : ∀ p ∈ procsE s known m, p.name.length ≤ 1000 ∧ p.collate ≤ 255 := by
  intro x hx
  obtain ⟨i, _, rfl⟩ := List.mem_map.1 hx
  refine ⟨by simp [procOfE, pName, nameT], ?_⟩
  show (s.procs.getD i ⟨.nil, .nil, 0, 0⟩).collate % 3 ≤ 255
  omega

theorem Try.infoAlias : (Try.prog.info? 49).map (fun i => (i.zero, i.size, i.bytes)) = some (some (.agg #[.string ByteArray.empty, .int .u8 0, .int .i64 0, .slice none 0 0, .slice none 0 0]), 5, 80) := by kernel_rfl
theorem Try.infoFault : (Try.prog.info? 52).map (fun i => (i.zero, i.size, i.bytes)) = some (some (.agg #[.string ByteArray.empty, .int .i64 0]), 2, 24) := by kernel_rfl
theorem Try.infoProc : (Try.prog.info? 41).map (fun i => (i.zero, i.size, i.bytes)) = some (some (.agg #[.string ByteArray.empty, .int .i64 0, .int .u8 0, .int .i64 0, .slice none 0 0, .slice none 0 0, .int .u8 0, .int .i64 0, .slice none 0 0, .slice none 0 0, .int .u8 0, .int .i64 0]), 12, 168) := by kernel_rfl

end Go.Proofs.Ytdaabgnfgdojhaa
