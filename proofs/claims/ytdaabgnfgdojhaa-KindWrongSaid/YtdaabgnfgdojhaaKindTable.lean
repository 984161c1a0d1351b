/-
  The laws' table: the function walked.
-/
import Derived.Test.YtdaabgnfgdojhaaKindTabE
namespace Go.Proofs.Ytdaabgnfgdojhaa
open Go.RowKit
set_option linter.unusedSimpArgs false
set_option linter.unusedVariables false

/-- The function's own blocks: the argument, the result, the table. -/
def TBox (w : World) (arg : Array Value) (b : Nat) (num ver : Int) (tv fv pv : Value) (wx : World) : Prop :=
  Fr (fun _ => False) w wx ∧ wx.heap[w.heap.size]? = some (.cells arg 26 (0, 0)) ∧
  wx.heap[w.heap.size + 1]? = some (.cells #[.string ⟨#[]⟩, .int .i64 0, .int .i64 0, .slice none 0 0, .slice none 0 0, .slice none 0 0] 32 (0, 0)) ∧
  wx.heap[b]? = some (.cells #[sv faceT, .int .i64 num, .int .i64 ver, tv, fv, pv] 32 (0, 0)) ∧ b = w.heap.size + 1 + 1

theorem TBox.fr {w wx wy : World} {arg : Array Value} {b : Nat} {num ver : Int} {tv fv pv : Value} {S : Nat → Prop} (h : TBox w arg b num ver tv fv pv wx) (f : Fr S wx wy) (hS : ∀ k, S k → b < k) : TBox w arg b num ver tv fv pv wy := by
  obtain ⟨h0, h1, h2, h3, h4⟩ := h
  exact ⟨h0.trans f (fun i hi s => by have := hS i s; omega), box_kept h1 f (fun s => by have := hS _ s; omega), box_kept h2 f (fun s => by have := hS _ s; omega), box_kept h3 f (fun s => by have := hS _ s; omega), h4⟩

theorem TBox.drew {w wx : World} {arg : Array Value} {b : Nat} {num ver : Int} {tv fv pv : Value} (h : TBox w arg b num ver tv fv pv wx) : TBox w arg b num ver tv fv pv wx.drew := ⟨h.1.drew, h.2⟩

theorem TBox.set {w wx : World} {arg : Array Value} {b : Nat} {num ver : Int} {tv fv pv x : Value} (h : TBox w arg b num ver tv fv pv wx) :
    TBox w arg b num ver x fv pv (wx.setCell ⟨b, 3, none⟩ x) ∧ TBox w arg b num ver tv x pv (wx.setCell ⟨b, 4, none⟩ x) ∧ TBox w arg b num ver tv fv x (wx.setCell ⟨b, 5, none⟩ x) := by
  obtain ⟨h0, h1, h2, h3, h4⟩ := h
  have key : ∀ i x, Fr (fun k => k = b) wx (wx.setCell ⟨b, i, none⟩ x) := fun i x => Fr.set1 (Fr.refl _ _) i x
  refine ⟨⟨h0.trans (key 3 x) (fun i hi s => by omega), box_kept h1 (key 3 x) (by omega), box_kept h2 (key 3 x) (by omega), setCell_row 3 x h3, h4⟩,
    ⟨h0.trans (key 4 x) (fun i hi s => by omega), box_kept h1 (key 4 x) (by omega), box_kept h2 (key 4 x) (by omega), setCell_row 4 x h3, h4⟩,
    ⟨h0.trans (key 5 x) (fun i hi s => by omega), box_kept h1 (key 5 x) (by omega), box_kept h2 (key 5 x) (by omega), setCell_row 5 x h3, h4⟩⟩

/-- While the aliases are gathered. -/
def ABase (w : World) (arg : Array Value) (b : Nat) (num ver : Int) (tv kv : Value) (al : List (Txt × KT)) (kn : List Txt) (wx : World) : Prop :=
  TBox w arg b num ver tv (.slice none 0 0) (.slice none 0 0) wx ∧ ItRow alShown 49 5 (b + 1) (fun k => kv.ownBlock = some k) wx tv al ∧ ItRow txShown 9 1 (b + 1) (fun k => tv.ownBlock = some k) wx kv kn

theorem ABase.fr {w wx wy : World} {arg : Array Value} {b : Nat} {num ver : Int} {tv kv : Value} {al : List (Txt × KT)} {kn : List Txt} (h : ABase w arg b num ver tv kv al kn wx) (f : Fr (fun _ => False) wx wy) : ABase w arg b num ver tv kv al kn wy :=
  ⟨h.1.fr f (fun _ h => absurd h (fun h => h)), h.2.1.fr f (fun _ _ h => absurd h (fun h => h)), h.2.2.fr f (fun _ _ h => absurd h (fun h => h))⟩

theorem ABase.drew {w wx : World} {arg : Array Value} {b : Nat} {num ver : Int} {tv kv : Value} {al : List (Txt × KT)} {kn : List Txt} (h : ABase w arg b num ver tv kv al kn wx) : ABase w arg b num ver tv kv al kn wx.drew :=
  ⟨h.1.drew, h.2.1.fr ((Fr.refl (fun _ => False) _).drew) (fun _ _ h => absurd h (fun h => h)), h.2.2.fr ((Fr.refl (fun _ => False) _).drew) (fun _ _ h => absurd h (fun h => h))⟩

/-- Where a new type lies: off the rows. -/
def Off (b : Nat) (tv kv : Value) : Nat → Prop := fun k => b + 1 ≤ k ∧ ¬ kv.ownBlock = some k ∧ tv.ownBlock ≠ some k

theorem procOf_eq (s : KS) (known : List Txt) (i : Nat) (p : KSP) (hp : s.procs[i]? = some p) : procOfE s known i = ⟨pName i, (i : Int) + ((s.number % 9 : Nat) : Int), typeE known p.takes 3, typeE known p.answers 3, p.collate % 3, 1 + ((p.timeout % 1000 : Nat) : Int)⟩ := by
  unfold procOfE
  rw [List.getD_eq_getElem?_getD, hp]
  simp

theorem tmod_nat (a b : Nat) : Int.tmod (a : Int) (b : Int) = ((a % b : Nat) : Int) := (Int.ofNat_tmod a b).symm
theorem wrap_small (n : Nat) (h : n ≤ 1000) : IntKind.i64.wrap (n : Int) = n ∧ wrap64 (n : Int) = n := ⟨IntWalk.i64_in _ (by omega), IntWalk.wrap64_in _ (by omega)⟩
theorem wrap_one (n : Nat) (h : n ≤ 1000) : IntKind.i64.wrap (1 + (n : Int)) = 1 + (n : Int) ∧ wrap64 (1 + (n : Int)) = 1 + (n : Int) := ⟨IntWalk.i64_in _ (by omega), IntWalk.wrap64_in _ (by omega)⟩
theorem wrap_two (n m : Nat) (h : n ≤ 1000) (h' : m ≤ 1000) : IntKind.i64.wrap ((n : Int) + (m : Int)) = (n : Int) + (m : Int) ∧ wrap64 ((n : Int) + (m : Int)) = (n : Int) + (m : Int) := ⟨IntWalk.i64_in _ (by omega), IntWalk.wrap64_in _ (by omega)⟩

theorem add_name (c : UInt8) (i : Nat) (n : Int) (w : World) : (Op.stringOp .add ⟨#[c]⟩ ⟨(nameT i n).toArray⟩).run Try.prog w = .ok (.string ⟨(c :: nameT i n).toArray⟩) w := by
  have e : (⟨#[c]⟩ : ByteArray) ++ ⟨(nameT i n).toArray⟩ = ⟨(c :: nameT i n).toArray⟩ := ByteArray.ext (by simp)
  rw [← e]
  exact run_string_add_sum w _ _ (by simp [nameT, ByteArray.size])

def AliasS (w : World) (arg : Array Value) (b : Nat) (num ver : Int) (tv kv : Value) (al : List (Txt × KT)) (kn : List Txt) (nm : Txt) (T : KT) (g6 : Nat) (nd : Array Value) : List Value → World → Prop
  | [], wx => ABase w arg b num ver tv kv al kn wx ∧ wx.heap[g6]? = some (.cells nd 77 (0, 0))
  | [v], wx => ABase w arg b num ver tv kv al kn wx ∧ wx.heap[g6]? = some (.cells nd 77 (0, 0)) ∧ Shows (Off b tv kv) wx T v
  | [_, g], wx => ABase w arg b num ver tv kv al kn wx ∧ wx.heap[g6]? = some (.cells nd 77 (0, 0)) ∧ ∃ y0 y1 y2 y3, g = .agg #[sv nm, y0, y1, y2, y3] ∧ Shows (Off b tv kv) wx T (.agg #[y0, y1, y2, y3])
  | [_, _, u], wx => ABase w arg b num ver tv kv al kn wx ∧ wx.heap[g6]? = some (.cells nd 77 (0, 0)) ∧ ∃ gg y0 y1 y2 y3, u = .slice (some ⟨gg, 0, none⟩) 1 1 ∧ wx.heap[gg]? = some (.cells #[sv nm, y0, y1, y2, y3] 49 (0, 0)) ∧ Shows (Off b tv kv) wx T (.agg #[y0, y1, y2, y3])
  | [_, _, _, x], wx => TBox w arg b num ver tv (.slice none 0 0) (.slice none 0 0) wx ∧ wx.heap[g6]? = some (.cells nd 77 (0, 0)) ∧ ItRow alShown 49 5 (b + 1) (fun k => kv.ownBlock = some k) wx x (al ++ [(nm, T)]) ∧ ItRow txShown 9 1 (b + 1) (fun k => x.ownBlock = some k) wx kv kn
  | _ :: _ :: _ :: x :: _ :: _, wx => ABase w arg b num ver x kv (al ++ [(nm, T)]) kn wx

theorem AliasS.box {w : World} {arg : Array Value} {b : Nat} {num ver : Int} {tv kv : Value} {al : List (Txt × KT)} {kn : List Txt} {nm : Txt} {T : KT} {g6 : Nat} {nd : Array Value} {cvs : List Value} {wx : World} (h : AliasS w arg b num ver tv kv al kn nm T g6 nd cvs wx) (hc : cvs.length ≤ 4) :
    TBox w arg b num ver tv (.slice none 0 0) (.slice none 0 0) wx ∧ wx.heap[g6]? = some (.cells nd 77 (0, 0)) := by
  match cvs with
  | [] => exact ⟨h.1.1, h.2⟩
  | [_] => exact ⟨h.1.1, h.2.1⟩
  | [_, _] => exact ⟨h.1.1, h.2.1⟩
  | [_, _, _] => exact ⟨h.1.1, h.2.1⟩
  | [_, _, _, _] => exact ⟨h.1, h.2.1⟩
  | _ :: _ :: _ :: _ :: _ :: _ => simp at hc

/-- Where what was made before lies. -/
def Made (b N : Nat) : Nat → Prop := fun k => b + 1 ≤ k ∧ k < N

/-- A row made before, owned alone: its memory lies from b on and below N, off X. -/
def MRow {α : Type} (D : Shown α) (e : TypeId) (size b N : Nat) (X : Nat → Prop) (w : World) (v : Value) (l : List α) : Prop :=
  ∃ cs : List Value, w.ownsRow (b + 1) e size v l.length cs ∧ (∀ k, v.ownBlock = some k → k < N ∧ ¬ X k) ∧ ∀ (i : Nat) (x : α), l[i]? = some x → ∃ xs : List Value, xs.length = size ∧ (∀ (j : Nat) (u : Value), xs[j]? = some u → cs[i * size + j]? = some u) ∧
    D.sh (fun k => Made b N k ∧ ¬ X k ∧ v.ownBlock ≠ some k) w x xs

theorem ownsRow_base {w : World} {B B' : Nat} {e : TypeId} {size : Nat} {v : Value} {n : Nat} {xs : List Value} (h : w.ownsRow B e size v n xs) (hB : B' ≤ B) : w.ownsRow B' e size v n xs := by
  refine ⟨h.1, ?_⟩
  rcases h.2 with hn | ⟨g, cap, cur, rfl, hb, rest⟩
  · exact .inl hn
  · exact .inr ⟨g, cap, cur, rfl, by omega, rest⟩

section
variable {α : Type} {D : Shown α} {e : TypeId} {size b N : Nat} {X : Nat → Prop} {w w' : World} {v : Value} {l : List α}

theorem MRow.fr {S : Nat → Prop} (h : MRow D e size b N X w v l) (f : Fr S w w') (hS : ∀ k, Made b N k → ¬ S k) : MRow D e size b N X w' v l := by
  obtain ⟨cs, h1, h2, h3⟩ := h
  refine ⟨cs, ownsRow_fr h1 f (fun k hk => hS k ⟨(World.ownsRow.lt h1 k hk).1, (h2 k hk).1⟩), h2, fun i x hi => ?_⟩
  obtain ⟨xs, a, c, d⟩ := h3 i x hi
  exact ⟨xs, a, c, D.fr d f (fun k hk => hS k hk.1)⟩

theorem MRow.of_it {B : Nat} {Y : Nat → Prop} (h : ItRow D e size B Y w v l) (hB : b + 1 ≤ B) (hN : N = w.heap.size) : MRow D e size b N (fun _ => False) w v l := by
  obtain ⟨cs, h1, h2, h3⟩ := h
  refine ⟨cs, ownsRow_base h1 hB, fun k hk => ⟨by rw [hN]; exact (World.ownsRow.lt h1 k hk).2, fun h => h⟩, fun i x hi => ?_⟩
  obtain ⟨xs, a, c, d⟩ := h3 i x hi
  exact ⟨xs, a, c, D.mono d (fun k hk h => ⟨⟨by omega, by rw [hN]; exact hk⟩, fun h => h, h.2.2⟩)⟩

theorem MRow.grow {N' : Nat} {Y : Nat → Prop} (h : MRow D e size b N X w v l) (hN : N ≤ N') (hY : ∀ k, k < N → Y k → X k) : MRow D e size b N' Y w v l := by
  obtain ⟨cs, h1, h2, h3⟩ := h
  refine ⟨cs, h1, fun k hk => ⟨by have := (h2 k hk).1; omega, fun y => (h2 k hk).2 (hY k (h2 k hk).1 y)⟩, fun i x hi => ?_⟩
  obtain ⟨xs, a, c, d⟩ := h3 i x hi
  exact ⟨xs, a, c, D.mono d (fun k _ h => ⟨⟨h.1.1, by have := h.1.2; omega⟩, fun y => h.2.1 (hY k h.1.2 y), h.2.2⟩)⟩

theorem MRow.it (h : MRow D e size b N X w v l) : ItRow D e size (b + 1) X w v l := by
  obtain ⟨cs, h1, h2, h3⟩ := h
  refine ⟨cs, h1, fun k hk => (h2 k hk).2, fun i x hi => ?_⟩
  obtain ⟨xs, a, c, d⟩ := h3 i x hi
  exact ⟨xs, a, c, D.mono d (fun k _ h => ⟨h.1.1, h.2⟩)⟩

theorem MRow.slice (h : MRow D e size b N X w v l) : ∃ a c, v = .slice a l.length c := h.it.slice
end

/-- While the faults are gathered. -/
def FBase (w : World) (arg : Array Value) (b N : Nat) (num ver : Int) (tv kv fv : Value) (al : List (Txt × KT)) (kn : List Txt) (fl : List (Txt × Int)) (wx : World) : Prop :=
  TBox w arg b num ver tv fv (.slice none 0 0) wx ∧ MRow alShown 49 5 b N (fun _ => False) wx tv al ∧ Texts (Made b N) wx kn kv ∧ ItRow ftShown 52 2 N (fun _ => False) wx fv fl ∧ b < N ∧ N ≤ wx.heap.size

theorem FBase.fr {w wx wy : World} {arg : Array Value} {b N : Nat} {num ver : Int} {tv kv fv : Value} {al : List (Txt × KT)} {kn : List Txt} {fl : List (Txt × Int)} (h : FBase w arg b N num ver tv kv fv al kn fl wx) (f : Fr (fun _ => False) wx wy) : FBase w arg b N num ver tv kv fv al kn fl wy :=
  ⟨h.1.fr f (fun _ h => absurd h (fun h => h)), h.2.1.fr f (fun _ _ h => h), h.2.2.1.fr f (fun _ _ h => h), h.2.2.2.1.fr f (fun _ _ h => h), h.2.2.2.2.1, Nat.le_trans h.2.2.2.2.2 f.size⟩

theorem FBase.drew {w wx : World} {arg : Array Value} {b N : Nat} {num ver : Int} {tv kv fv : Value} {al : List (Txt × KT)} {kn : List Txt} {fl : List (Txt × Int)} (h : FBase w arg b N num ver tv kv fv al kn fl wx) : FBase w arg b N num ver tv kv fv al kn fl wx.drew :=
  ⟨h.1.drew, h.2.1.fr ((Fr.refl (fun _ => False) _).drew) (fun _ _ h => h), h.2.2.1.fr ((Fr.refl (fun _ => False) _).drew) (fun _ _ h => h), h.2.2.2.1.fr ((Fr.refl (fun _ => False) _).drew) (fun _ _ h => h), h.2.2.2.2⟩

def FaultS (w : World) (arg : Array Value) (b N : Nat) (num ver : Int) (tv kv fv : Value) (al : List (Txt × KT)) (kn : List Txt) (fl : List (Txt × Int)) (nm : Txt) (n : Int) : List Value → World → Prop
  | [], wx => FBase w arg b N num ver tv kv fv al kn fl wx
  | [_], wx => FBase w arg b N num ver tv kv fv al kn fl wx
  | [_, _], wx => FBase w arg b N num ver tv kv fv al kn fl wx
  | [_, _, _], wx => FBase w arg b N num ver tv kv fv al kn fl wx
  | [_, _, _, u], wx => FBase w arg b N num ver tv kv fv al kn fl wx ∧ ∃ gg, u = .slice (some ⟨gg, 0, none⟩) 1 1 ∧ wx.heap[gg]? = some (.cells #[sv nm, .int .i64 n] 52 (0, 0))
  | [_, _, _, _, x], wx => TBox w arg b num ver tv fv (.slice none 0 0) wx ∧ MRow alShown 49 5 b N (fun _ => False) wx tv al ∧ Texts (Made b N) wx kn kv ∧ ItRow ftShown 52 2 N (fun _ => False) wx x (fl ++ [(nm, n)]) ∧ b < N ∧ N ≤ wx.heap.size
  | _ :: _ :: _ :: _ :: x :: _ :: _, wx => FBase w arg b N num ver tv kv x al kn (fl ++ [(nm, n)]) wx

theorem FaultS.box {w : World} {arg : Array Value} {b N : Nat} {num ver : Int} {tv kv fv : Value} {al : List (Txt × KT)} {kn : List Txt} {fl : List (Txt × Int)} {nm : Txt} {n : Int} {cvs : List Value} {wx : World} (h : FaultS w arg b N num ver tv kv fv al kn fl nm n cvs wx) (hc : cvs.length ≤ 5) : TBox w arg b num ver tv fv (.slice none 0 0) wx := by
  match cvs with
  | [] => exact h.1
  | [_] => exact h.1
  | [_, _] => exact h.1
  | [_, _, _] => exact h.1
  | [_, _, _, _] => exact h.1.1
  | [_, _, _, _, _] => exact h.1
  | _ :: _ :: _ :: _ :: _ :: _ :: _ => simp at hc

/-- While the procedures are gathered. -/
def PBase (w : World) (arg : Array Value) (b N : Nat) (num ver : Int) (tv kv fv pv : Value) (al : List (Txt × KT)) (kn : List Txt) (fl : List (Txt × Int)) (pl : List KProc) (wx : World) : Prop :=
  TBox w arg b num ver tv fv pv wx ∧ MRow alShown 49 5 b N (fun k => fv.ownBlock = some k) wx tv al ∧ Texts (Made b N) wx kn kv ∧ MRow ftShown 52 2 b N (fun _ => False) wx fv fl ∧ ItRow prShown 41 12 N (fun _ => False) wx pv pl ∧ b < N ∧ N ≤ wx.heap.size

theorem PBase.fr {w wx wy : World} {arg : Array Value} {b N : Nat} {num ver : Int} {tv kv fv pv : Value} {al : List (Txt × KT)} {kn : List Txt} {fl : List (Txt × Int)} {pl : List KProc} (h : PBase w arg b N num ver tv kv fv pv al kn fl pl wx) (f : Fr (fun _ => False) wx wy) : PBase w arg b N num ver tv kv fv pv al kn fl pl wy :=
  ⟨h.1.fr f (fun _ h => absurd h (fun h => h)), h.2.1.fr f (fun _ _ h => h), h.2.2.1.fr f (fun _ _ h => h), h.2.2.2.1.fr f (fun _ _ h => h), h.2.2.2.2.1.fr f (fun _ _ h => h), h.2.2.2.2.2.1, Nat.le_trans h.2.2.2.2.2.2 f.size⟩

theorem PBase.drew {w wx : World} {arg : Array Value} {b N : Nat} {num ver : Int} {tv kv fv pv : Value} {al : List (Txt × KT)} {kn : List Txt} {fl : List (Txt × Int)} {pl : List KProc} (h : PBase w arg b N num ver tv kv fv pv al kn fl pl wx) : PBase w arg b N num ver tv kv fv pv al kn fl pl wx.drew :=
  ⟨h.1.drew, h.2.1.fr ((Fr.refl (fun _ => False) _).drew) (fun _ _ h => h), h.2.2.1.fr ((Fr.refl (fun _ => False) _).drew) (fun _ _ h => h), h.2.2.2.1.fr ((Fr.refl (fun _ => False) _).drew) (fun _ _ h => h), h.2.2.2.2.1.fr ((Fr.refl (fun _ => False) _).drew) (fun _ _ h => h), h.2.2.2.2.2⟩

def OffP (N : Nat) (pv : Value) : Nat → Prop := fun k => N ≤ k ∧ ¬ False ∧ pv.ownBlock ≠ some k

def ProcS (w : World) (arg : Array Value) (b N : Nat) (num ver : Int) (tv kv fv pv : Value) (al : List (Txt × KT)) (kn : List Txt) (fl : List (Txt × Int)) (pl : List KProc) (p : KProc) (g6 : Nat) (nd : Array Value) : List Value → World → Prop
  | [], wx => PBase w arg b N num ver tv kv fv pv al kn fl pl wx ∧ wx.heap[g6]? = some (.cells nd 80 (0, 0))
  | [_], wx => PBase w arg b N num ver tv kv fv pv al kn fl pl wx ∧ wx.heap[g6]? = some (.cells nd 80 (0, 0))
  | [_, x], wx => PBase w arg b N num ver tv kv fv pv al kn fl pl wx ∧ wx.heap[g6]? = some (.cells nd 80 (0, 0)) ∧ Shows (OffP N pv) wx p.takes x
  | [_, x, y], wx => PBase w arg b N num ver tv kv fv pv al kn fl pl wx ∧ wx.heap[g6]? = some (.cells nd 80 (0, 0)) ∧ Shows (OffP N pv) wx p.takes x ∧ Shows (OffP N pv) wx p.answers y
  | [_, _, _, g], wx => PBase w arg b N num ver tv kv fv pv al kn fl pl wx ∧ wx.heap[g6]? = some (.cells nd 80 (0, 0)) ∧ ∃ x0 x1 x2 x3 y0 y1 y2 y3, g = .agg (procCells p x0 x1 x2 x3 y0 y1 y2 y3).toArray ∧ Shows (OffP N pv) wx p.takes (.agg #[x0, x1, x2, x3]) ∧ Shows (OffP N pv) wx p.answers (.agg #[y0, y1, y2, y3])
  | [_, _, _, _, u], wx => PBase w arg b N num ver tv kv fv pv al kn fl pl wx ∧ wx.heap[g6]? = some (.cells nd 80 (0, 0)) ∧ ∃ gg x0 x1 x2 x3 y0 y1 y2 y3, u = .slice (some ⟨gg, 0, none⟩) 1 1 ∧ wx.heap[gg]? = some (.cells (procCells p x0 x1 x2 x3 y0 y1 y2 y3).toArray 41 (0, 0)) ∧ Shows (OffP N pv) wx p.takes (.agg #[x0, x1, x2, x3]) ∧ Shows (OffP N pv) wx p.answers (.agg #[y0, y1, y2, y3])
  | [_, _, _, _, _, x], wx => TBox w arg b num ver tv fv pv wx ∧ wx.heap[g6]? = some (.cells nd 80 (0, 0)) ∧ MRow alShown 49 5 b N (fun k => fv.ownBlock = some k) wx tv al ∧ Texts (Made b N) wx kn kv ∧ MRow ftShown 52 2 b N (fun _ => False) wx fv fl ∧ ItRow prShown 41 12 N (fun _ => False) wx x (pl ++ [p]) ∧ b < N ∧ N ≤ wx.heap.size
  | _ :: _ :: _ :: _ :: _ :: x :: _ :: _, wx => PBase w arg b N num ver tv kv fv x al kn fl (pl ++ [p]) wx

theorem ProcS.box {w : World} {arg : Array Value} {b N : Nat} {num ver : Int} {tv kv fv pv : Value} {al : List (Txt × KT)} {kn : List Txt} {fl : List (Txt × Int)} {pl : List KProc} {p : KProc} {g6 : Nat} {nd : Array Value} {cvs : List Value} {wx : World} (h : ProcS w arg b N num ver tv kv fv pv al kn fl pl p g6 nd cvs wx) (hc : cvs.length ≤ 6) :
    TBox w arg b num ver tv fv pv wx ∧ wx.heap[g6]? = some (.cells nd 80 (0, 0)) := by
  match cvs with
  | [] => exact ⟨h.1.1, h.2⟩
  | [_] => exact ⟨h.1.1, h.2⟩
  | [_, _] => exact ⟨h.1.1, h.2.1⟩
  | [_, _, _] => exact ⟨h.1.1, h.2.1⟩
  | [_, _, _, _] => exact ⟨h.1.1, h.2.1⟩
  | [_, _, _, _, _] => exact ⟨h.1.1, h.2.1⟩
  | [_, _, _, _, _, _] => exact ⟨h.1, h.2.1⟩
  | _ :: _ :: _ :: _ :: _ :: _ :: _ :: _ => simp at hc

theorem store_six {w : World} {b : Nat} {x0 x1 x2 x3 x4 x5 y0 y1 y2 y3 y4 y5 : Value} {t : TypeId} {f : Nat × Nat} (h : w.heap[b]? = some (.cells #[x0, x1, x2, x3, x4, x5] t f)) :
    ((((((w.setCell ⟨b, 0, none⟩ y0).setCell ⟨b, 1, none⟩ y1).setCell ⟨b, 2, none⟩ y2).setCell ⟨b, 3, none⟩ y3).setCell ⟨b, 4, none⟩ y4).setCell ⟨b, 5, none⟩ y5).heap[b]? = some (.cells #[y0, y1, y2, y3, y4, y5] t f) :=
  setCell_row 5 _ (setCell_row 4 _ (setCell_row 3 _ (setCell_row 2 _ (setCell_row 1 _ (setCell_row 0 _ h)))))

theorem fr_six (w : World) (b : Nat) (y0 y1 y2 y3 y4 y5 : Value) :
    Fr (fun k => k = b) w ((((((w.setCell ⟨b, 0, none⟩ y0).setCell ⟨b, 1, none⟩ y1).setCell ⟨b, 2, none⟩ y2).setCell ⟨b, 3, none⟩ y3).setCell ⟨b, 4, none⟩ y4).setCell ⟨b, 5, none⟩ y5) :=
  Fr.set1 (Fr.set1 (Fr.set1 (Fr.set1 (Fr.set1 (Fr.set1 (Fr.refl _ _) 0 _) 1 _) 2 _) 3 _) 4 _) 5 _

/-- A table's value in new memory: each list a row that is owned alone. -/
def OwnTab (w w' : World) (T : KTab) (v : Value) : Prop :=
  ∃ (tv fv pv : Value) (b N : Nat), v = .agg #[sv T.name, .int .i64 T.number, .int .i64 T.version, tv, fv, pv] ∧ T.name.length ≤ 1000 ∧ w.heap.size ≤ b ∧ b < N ∧ N ≤ w'.heap.size ∧
    MRow alShown 49 5 b N (fun k => fv.ownBlock = some k) w' tv T.types ∧ MRow ftShown 52 2 b N (fun _ => False) w' fv T.faults ∧ ItRow prShown 41 12 N (fun _ => False) w' pv T.procs

set_option maxRecDepth 100000 in
set_option maxHeartbeats 64000000 in
/-- THE LAWS' TABLE, for every argument that is small. -/
theorem table_own (s : KS) (v : Value) (w : World) (h : SShows w s v) (hs : smallE s = true) :
    Calls Try.prog 14 #[v] w fun e w' => ∃ v', e = .returned v' ∧ OwnTab w w' (tableE s) v' ∧ Fr (fun _ => False) w w' := by
  obtain ⟨av, pv, rfl, hnum, hfau, hav, hpv⟩ := h
  have hls : s.aliases.length ≤ 10 ∧ s.procs.length ≤ 10 := by
    unfold smallE at hs
    simp at hs
    omega
  obtain ⟨hla, hlp⟩ := hls
  have HPL := Lib.hid hpv.2.1
  obtain ⟨aa, ac, rfl, has⟩ := hav.shape
  obtain ⟨pa, pc, rfl, hps⟩ := hpv.shape
  have HAS := Lib.hid has
  have HPS := Lib.hid hps
  have nu0 : (0 : Int) ≤ (s.number : Int) := by omega
  have nu1 : (s.number : Int) ≤ 65535 := by omega
  have nf0 : (0 : Int) ≤ (s.faults : Int) := by omega
  have nf1 : (s.faults : Int) ≤ 255 := by omega
  clear has hps hav hpv hs hnum hfau
  obtain ⟨ver, hver⟩ : ∃ ver : Int, (s.number : Int) % 7 = ver := ⟨_, rfl⟩
  obtain ⟨w3, hw3⟩ : ∃ w3, w3 = ((w.alloc (.cells #[.int .u16 s.number, .slice aa s.aliases.length ac, .int .u8 s.faults, .slice pa s.procs.length pc] 26)).alloc (.cells #[.string ⟨#[]⟩, .int .i64 0, .int .i64 0, .slice none 0 0, .slice none 0 0, .slice none 0 0] 32)).alloc (.cells #[.string ⟨#[102, 97, 99, 101]⟩, .int .i64 s.number, .int .i64 ver, .slice none 0 0, .slice none 0 0, .slice none 0 0] 32) := ⟨_, rfl⟩
  obtain ⟨b2, hb2⟩ : ∃ b2, b2 = w.heap.size + 1 + 1 := ⟨_, rfl⟩
  have hT : TBox w #[.int .u16 s.number, .slice aa s.aliases.length ac, .int .u8 s.faults, .slice pa s.procs.length pc] b2 s.number ver (.slice none 0 0) (.slice none 0 0) (.slice none 0 0) w3 := by
    rw [hw3, hb2]
    refine ⟨(((Fr.refl _ _).alloc _).alloc _).alloc _, ?_, ?_, ?_, rfl⟩
    · rw [Below.heap_alloc _ _ _ (by simp <;> omega), Below.heap_alloc _ _ _ (by simp)]
      exact heap_alloc_new _ _
    · rw [Below.heap_alloc _ _ _ (by simp)]
      exact heap_alloc_two _ _ _
    · have := heap_alloc_new ((w.alloc (.cells #[.int .u16 s.number, .slice aa s.aliases.length ac, .int .u8 s.faults, .slice pa s.procs.length pc] 26)).alloc (.cells #[.string ⟨#[]⟩, .int .i64 0, .int .i64 0, .slice none 0 0, .slice none 0 0, .slice none 0 0] 32)) (.cells #[.string ⟨#[102, 97, 99, 101]⟩, .int .i64 s.number, .int .i64 ver, .slice none 0 0, .slice none 0 0, .slice none 0 0] 32)
      rw [show ((w.alloc (.cells #[.int .u16 s.number, .slice aa s.aliases.length ac, .int .u8 s.faults, .slice pa s.procs.length pc] 26)).alloc (.cells #[.string ⟨#[]⟩, .int .i64 0, .int .i64 0, .slice none 0 0, .slice none 0 0, .slice none 0 0] 32)).heap.size = w.heap.size + 1 + 1 from by simp] at this
      exact this
  have HA0 := Lib.hid (show ABase w #[.int .u16 s.number, .slice aa s.aliases.length ac, .int .u8 s.faults, .slice pa s.procs.length pc] b2 s.number ver (.slice none 0 0) (.slice none 0 0) (aliasesE s 0) (knownE 0) w3 from ⟨hT, ItRow.nil _ _ _ _ _ _, ItRow.nil _ _ _ _ _ _⟩)
  have HB2 := Lib.hid hb2
  have HVER := Lib.hid hver
  have vt : Int.tmod (s.number : Int) 7 = ver := by rw [Int.tmod_eq_emod_of_nonneg nu0]; exact hver
  clear hT
  go_enter Try.func14, Try.ntmps14
  go_wp2
  rw [← hw3, ← hb2]
  clear hw3 hb2
  go_loopg [4, 5, 6, 7, 22] s.aliases.length (fun G u4 u5 u6 u7 u22 wr => ∃ (j : Nat) (ka : Option Addr) (kn kc : Nat) (ta : Option Addr) (tn tc : Nat), j ≤ s.aliases.length ∧ G = s.aliases.length - j ∧ u22 = .int .i64 (j : Nat) ∧ u4 = .slice ka kn kc ∧ Hid (ABase w #[.int .u16 s.number, .slice aa s.aliases.length ac, .int .u8 s.faults, .slice pa s.procs.length pc] b2 s.number ver (.slice ta tn tc) (.slice ka kn kc) (aliasesE s (min 4 j)) (knownE (min 4 j)) wr))
  case atStart => exact ⟨0, _, _, _, _, _, _, Nat.zero_le _, rfl, by go_num, rfl, HA0⟩
  case round =>
    obtain ⟨j, ka, kn, kc, ta, tn, tc, hj, rfl, rfl, rfl, HI⟩ := hrel
    by_cases hlt : j < s.aliases.length
    · rcases HAS.out with hz | ⟨hcap, g, off, rfl, hcell⟩
      · omega
      obtain ⟨x, hx0⟩ : ∃ x, s.aliases[j]? = some x := ⟨_, List.getElem?_eq_getElem hlt⟩
      obtain ⟨x0, x1, x2, y0, y1, y2, hx⟩ := hcell j x hx0
      have y0 := cell_fr (R := fun _ => True) HI.out.1.1 (fun _ _ h => h) trivial y0
      have y1 := cell_fr (R := fun _ => True) HI.out.1.1 (fun _ _ h => h) trivial y1
      have y2 := cell_fr (R := fun _ => True) HI.out.1.1 (fun _ _ h => h) trivial y2
      obtain ⟨pk, pn, na, nc, ncap, e⟩ := hx.cells
      simp at e
      obtain ⟨rfl, rfl, rfl⟩ := e
      have HX := Lib.hid (And.intro hx0 hx)
      have jc : (j : Int) < (s.aliases.length : Int) := by omega
      have j0 : (0 : Int) ≤ (j : Int) := by omega
      clear hcell hx hx0 hcap
      obtain ⟨wb, hwb⟩ : ∃ wb, wb = wr.alloc (.cells #[.int .u8 pk, .int .u8 pn, .slice na nc ncap] 77) := ⟨_, rfl⟩
      have HWB := Lib.hid (show Fr (fun _ => False) wr wb ∧ wb.heap[wr.heap.size]? = some (.cells #[.int .u8 pk, .int .u8 pn, .slice na nc ncap] 77 (0, 0)) from by rw [hwb]; exact ⟨(Fr.refl _ _).alloc _, heap_alloc_new _ _⟩)
      by_cases h4 : j < 4
      · have e4 : min 4 j = j := by omega
        rw [e4] at HI
        have hname := nameOf_any j (by omega) 3 (by omega) (by omega) wb
        have hadd : ∀ w, (Op.stringOp .add ⟨#[84]⟩ ⟨(nameT j 3).toArray⟩).run Try.prog w = .ok (.string ⟨(aName j).toArray⟩) w := fun w => add_name 84 j 3 w
        have jz : (j : Int) < 4 := by omega
        clear e4
        rw [hwb] at hname
        go_wp2_with fail
        refine hname.mono ?_
        rintro e w4 ⟨rfl, f4⟩
        rw [← hwb] at f4
        have H4 := Lib.hid (And.intro (ABase.fr HI.out (HWB.out.1.trans f4 (fun _ _ h => h))) (box_kept HWB.out.2 f4 (fun h => h)))
        clear hname f4 hwb y0 y1 y2
        unfold sv
        go_wp2_with fail
        clear hadd
        refine wp_region_chain (by kernel_rfl) [some 32, some 33, some 34, some 35, some 36, some 37, some 38, some 39, some 40, some 41, none] rfl (by decide) (by intro d hd; simp at hd ⊢; omega)
          [5, 6, 7, 8, 10] (AliasS w #[.int .u16 s.number, .slice (some ⟨g, off, none⟩) s.aliases.length ac, .int .u8 s.faults, .slice pa s.procs.length pc] b2 s.number ver (.slice ta tn tc) (.slice ka kn kc) (aliasesE s j) (knownE j) (aName j) (typeE (knownE j) x 3) wr.heap.size #[.int .u8 pk, .int .u8 pn, .slice na nc ncap])
          [.free (.pointer (some ⟨b2, 3, none⟩)), .free (.slice ta tn tc), .free (.string ⟨(aName j).toArray⟩), .free (.agg #[.int .u8 pk, .int .u8 pn, .slice na nc ncap]), .free (.slice ka kn kc), .link none, .link none, .link none, .link none, .free (.pointer (some ⟨b2, 3, none⟩)), .link none]
          (by kernel_rfl) (by kernel_rfl) ?h0 ?step ?fin
        case h0 => exact ⟨H4.out.1.drew, H4.out.2⟩
        case step =>
          intro vals
          simp only [frOfU, fillU, List.setIfInBounds_toArray, List.set_cons_succ, List.set_cons_zero]
          repeat' (first | exact AllOps.nil | refine AllOps.cons ?_ ?_)
          all_goals
            intro cvs wx hS he hu hlim K hK
            simp only [Act.put, List.setIfInBounds_toArray, List.set_cons_succ, List.set_cons_zero, List.getD_cons_zero, List.getD_cons_succ] at hK
            simp only [List.mem_cons, List.not_mem_nil, or_false, forall_eq_or_imp, forall_eq, Region.binds, forall_const, mode_gc, Bool.false_eq_true, false_imp_iff, List.getD_cons_zero, List.getD_cons_succ, OpSort.val, Option.some.injEq, forall_eq', reduceCtorEq, implies_true, true_and, and_true] at he
            try
              have hbx := hS.box (hlim 4 10 rfl (by kernel_rfl))
              have r1 := cells_row hbx.1.2.2.2.1 3 _ rfl
              have r2 := cells_row hbx.2 0 _ rfl
              have r3 := cells_row hbx.2 1 _ rfl
              have r4 := cells_row hbx.2 2 _ rfl
              simp only [List.getElem_toArray, List.getElem_cons_succ, List.getElem_cons_zero] at r1 r2 r3 r4
              clear hbx
            have HSX := Lib.hid hS
            clear hS
          all_goals first | (clear hlim hu; (try simp only [he] at hK ⊢); go_simp; exact hK) | skip
          · obtain rfl := hlim (0 : Nat) rfl
            have h1 := HSX.out
            clear HSX hlim hu
            simp only [List.take_zero, List.map_nil] at h1 hK
            simp only [he] at hK ⊢
            go_simp
            go_at_call 32
            refine (type_any (knownE j) x _ _ _ wx 3 3 rfl (by omega) (by omega) (NShows.fr h1.1.1.1 _ _ HX.out.2) (h1.1.2.2.texts (by simp [knownE]; omega) (knownE_short j))).mono ?_
            rintro q1 wa ⟨v', rfl, hsv, fa⟩
            have hlb := lt_of_block h1.1.1.2.2.2.1
            refine hK _ _ (fun _ h => by cases h) ⟨ABase.fr h1.1 fa, box_kept h1.2 fa (fun h => h), Shows.mono (fun k _ hk => ⟨by omega, fun e => ?_, fun e => ?_⟩) _ _ hsv⟩
            · have := (h1.1.2.2.own k e).2.1; omega
            · have := (h1.1.2.1.own k e).2.1; omega
          · obtain rfl := hlim (1 : Nat) rfl
            have h1 := HSX.out
            clear HSX hlim hu
            simp only [List.take_succ_cons, List.take_zero, List.map_cons, List.map_nil] at h1 hK
            obtain ⟨tk, tm, xa, xn, xc, xa', xn', xc', e5⟩ := h1.2.2.four
            have h3 := h1.2.2
            rw [e5] at h3
            simp only [he, e5] at hK ⊢
            go_simp
            exact hK _ _ (fun _ h => by cases h) ⟨h1.1, h1.2.1, _, _, _, _, rfl, h3⟩
          · obtain rfl := hlim (2 : Nat) rfl
            have h1 := HSX.out
            clear HSX hlim hu
            simp only [List.take_succ_cons, List.take_zero, List.map_cons, List.map_nil] at h1 hK
            obtain ⟨ha, hg, y0, y1, y2, y3, e6, hs⟩ := h1
            obtain ⟨zk, zm, za, zn, zc, za2, zn2, zc2, rfl, rfl, rfl, rfl⟩ := hs.cells
            unfold sv at e6
            simp only [he, e6] at hK ⊢
            go_simp
            have fa : Fr (fun _ => False) wx (wx.alloc (.cells #[.string ⟨(aName j).toArray⟩, .int .u8 zk, .int .i64 zm, .slice za zn zc, .slice za2 zn2 zc2] 49)) := (Fr.refl _ _).alloc _
            exact hK _ _ (fun _ h => by cases h) ⟨ABase.fr ha fa, box_kept hg fa (fun h => h), _, _, _, _, _, rfl, heap_alloc_new _ _, Shows.fr fa (fun _ _ h => h) _ _ hs⟩
          · obtain rfl := hlim (3 : Nat) rfl
            have h1 := HSX.out
            clear HSX hlim hu
            simp only [List.take_succ_cons, List.take_zero, List.map_cons, List.map_nil] at h1 hK
            obtain ⟨ha, hg, gg, y0, y1, y2, y3, e7, hgg, hs⟩ := h1
            rw [if_pos (by rfl)]
            have hsz := lt_of_block ha.1.2.2.2.1
            have hb2 := ha.1.2.2.2.2
            obtain ⟨yk, ym, ya, yn, yc, ya2, yn2, yc2, ey0, ey1, ey2, ey3⟩ := hs.cells
            refine opWp_push (pv := .slice ta tn tc) (l := aliasesE s j) (B := b2 + 1) (X := fun k => (Value.slice ka kn kc).ownBlock = some k) (D := alShown) (.tmp 33) (.tmp 39) 28 28 rfl Try.underlying28 Try.underlying28 Try.infoAlias rfl (by decide) he ha.2.1 gg e7 (news := [sv (aName j), y0, y1, y2, y3]) hgg rfl (by intro u hu; simp at hu; rcases hu with rfl | rfl | rfl | rfl | rfl; rfl; exact ey0 ▸ rfl; exact ey1 ▸ rfl; exact ey2 ▸ rfl; exact ey3 ▸ rfl) (by simp [aliasesE]; omega) (by omega) (by omega) (fun k hk => (ha.2.2.own k hk).2.1) (aName j, typeE (knownE j) x 3) ⟨_, _, _, _, rfl, hs⟩ ?_
            intro v' w8 hrow f6 hv
            refine hK _ _ (fun _ h => by cases h) ⟨ha.1.fr f6 (fun k hk => by have := (ha.2.1.own k hk).1; omega), box_kept hg f6 (fun hk => absurd (HI.out.2.1.own _ hk).2.1 (Nat.lt_irrefl _)), hrow, ha.2.2.apart f6 hv⟩
          · obtain rfl := hlim (4 : Nat) rfl
            have h1 := HSX.out
            clear HSX hlim hu
            simp only [List.take_succ_cons, List.take_zero, List.map_cons, List.map_nil] at h1 hK
            obtain ⟨hb, hg, hr, ho⟩ := h1
            obtain ⟨xa, xn, xc, e8⟩ : ∃ xa xn xc, vals 8 = .slice xa xn xc := by obtain ⟨a, c, e⟩ := hr.slice; exact ⟨a, _, c, e⟩
            have hl := hb.2.2.2.1
            have z3 : wx.frozen? ⟨b2, 3, none⟩ = false := by simp [World.frozen?, hl]
            have e3 := cells_row hl 3 _ rfl
            have f : Fr (fun k => k = b2) wx (wx.setCell ⟨b2, 3, none⟩ (vals 8)) := Fr.set1 (Fr.refl _ _) 3 _
            have HG := Lib.hid (show ABase w #[.int .u16 s.number, .slice (some ⟨g, off, none⟩) s.aliases.length ac, .int .u8 s.faults, .slice pa s.procs.length pc] b2 s.number ver (vals 8) (.slice ka kn kc) (aliasesE s j ++ [(aName j, typeE (knownE j) x 3)]) (knownE j) (wx.setCell ⟨b2, 3, none⟩ (vals 8)) from ⟨hb.set.1, hr.fr f (fun k hk e => by omega), ho.fr f (fun k hk e => by omega)⟩)
            clear hb hl hr ho f
            rw [e8] at HG
            simp only [he, e8] at hK ⊢
            go_simp
            exact hK undef _ (fun _ h => by cases h) HG.out
        case fin =>
          intro vals w5 hS hV
          clear hV
          simp only [List.map_cons, List.map_nil] at hS
          have hS2 : ABase w #[.int .u16 s.number, .slice (some ⟨g, off, none⟩) s.aliases.length ac, .int .u8 s.faults, .slice pa s.procs.length pc] b2 s.number ver (vals 8) (.slice ka kn kc) (aliasesE s (j + 1)) (knownE j) w5 := by
            rw [aliasesE_succ s j x HX.out.1]
            exact hS
          obtain ⟨ta2, tn2, tc2, e8⟩ : ∃ xa xn xc, vals 8 = .slice xa xn xc := by obtain ⟨a, c, e⟩ := hS2.2.1.slice; exact ⟨a, _, c, e⟩
          rw [e8] at hS2
          have fa : Fr (fun _ => False) w5 (w5.alloc (.cells #[.string ⟨(aName j).toArray⟩] 9)) := (Fr.refl _ _).alloc _
          have HS := Lib.hid (ABase.fr hS2 fa)
          obtain ⟨cs, hown, _⟩ := HS.out.2.2
          have hknl : (knownE j).length = j := by simp [knownE]
          rw [hknl] at hown
          have ekn : kn = j := by obtain ⟨a, c, e⟩ := HS.out.2.2.slice; rw [hknl] at e; cases e; rfl
          have hb2s : b2 + 1 ≤ (w5.alloc (.cells #[.string ⟨(aName j).toArray⟩] 9)).heap.size := by have := lt_of_block HS.out.1.2.2.2.1; omega
          have HOWN := Lib.hid hown
          have HEK := Lib.hid (And.intro hknl ekn)
          obtain ⟨i0, hi, hz0, hz1, hz2⟩ := info_parts Try.infoTxt
          clear hS hS2 e8 fa hown hknl ekn
          simp only [frOfU, fillU, List.setIfInBounds_toArray, List.set_cons_succ, List.set_cons_zero]
          go_wp2_with (at_builtin; refine wpList_append_sep rfl (.tmp 42) (.tmp 44) 35 35 rfl (b2 + 1) 9 i0 (.string ByteArray.empty) 1 16 Try.underlying35 _ Try.underlying35 (.inr ⟨_, rfl⟩) hi hz0 hz1 hz2 rfl (by decide) (.slice ka kn kc) j cs rfl ?own _ 1 [.string ⟨(aName j).toArray⟩] rfl (lenOf_slice _ _ _) rfl ?c1 ?c2 ?one ?b1 ?b2 ?base ?grow)
          case own => exact HOWN.out
          case one => first | rfl | simp
          case b1 => unfold maxLen; omega
          case b2 => omega
          case base => have := hb2s; simp at this; omega
          case grow =>
            intro v' w6 hown hg hv0
            have hv : v'.ownBlock = (Value.slice ka kn kc).ownBlock ∨ v'.ownBlock = some (w5.alloc (.cells #[.string ⟨(aName j).toArray⟩] 9)).heap.size := by simpa using hv0
            have hkr : ItRow txShown 9 1 (b2 + 1) (fun k => (Value.slice ta2 tn2 tc2).ownBlock = some k) w6 v' (knownE j ++ [aName j]) := by
              refine ItRow.push HS.out.2.2 (x := aName j) (news := [sv (aName j)]) rfl rfl (cs := cs) (by rw [HEK.out.1]; exact HOWN.out) (by rw [HEK.out.1]; exact hown) hg hv (fun k hk => (HS.out.2.1.own k hk).2.1)
            have f6 : Fr (fun k => (Value.slice ka kn kc).ownBlock = some k) (w5.alloc (.cells #[.string ⟨(aName j).toArray⟩] 9)) w6 := (Fr.of_grown hg).mono (fun _ _ e => e.symm)
            have hb6 : ABase w #[.int .u16 s.number, .slice (some ⟨g, off, none⟩) s.aliases.length ac, .int .u8 s.faults, .slice pa s.procs.length pc] b2 s.number ver (.slice ta2 tn2 tc2) v' (aliasesE s (j + 1)) (knownE (j + 1)) w6 := by
              rw [knownE_succ]
              exact ⟨HS.out.1.fr f6 (fun k hk => by have := (HS.out.2.2.own k hk).1; omega), HS.out.2.1.apart f6 hv, hkr⟩
            obtain ⟨ka2, kn2, kc2, rfl⟩ : ∃ xa xn xc, v' = .slice xa xn xc := by obtain ⟨a, c, e⟩ := hkr.slice; exact ⟨a, _, c, e⟩
            have HB6 := Lib.hid hb6
            clear hown hg hv0 hv hkr f6 hb6
            go_wp2
            go_roundg (s.aliases.length - (j + 1))
            case measure => omega
            case rel => exact ⟨j + 1, _, _, _, _, _, _, by omega, rfl, by go_num, rfl, by rw [show min 4 (j + 1) = j + 1 by omega]; exact HB6⟩
      · have e4 : min 4 j = 4 := by omega
        rw [e4] at HI
        have jz : ¬ (j : Int) < 4 := by omega
        have HB6 := Lib.hid (ABase.fr HI.out HWB.out.1)
        rw [hwb] at HB6
        clear e4 hwb
        go_wp2
        go_roundg (s.aliases.length - (j + 1))
        case measure => omega
        case rel => exact ⟨j + 1, _, _, _, _, _, _, by omega, rfl, by go_num, rfl, by rw [show min 4 (j + 1) = 4 by omega]; exact HB6⟩
    · obtain rfl : j = s.aliases.length := by omega
      obtain ⟨wo, rfl⟩ : ∃ wo : World, wo = wr := ⟨_, rfl⟩
      obtain ⟨N1, hN1⟩ : ∃ N1, N1 = wo.heap.size := ⟨_, rfl⟩
      have hb2N : b2 < N1 := by rw [hN1]; exact lt_of_block HI.out.1.2.2.2.1
      have HFB := Lib.hid (show FBase w #[.int .u16 s.number, .slice aa s.aliases.length ac, .int .u8 s.faults, .slice pa s.procs.length pc] b2 N1 s.number ver (.slice ta tn tc) (.slice ka kn kc) (.slice none 0 0) (aliasesE s (min 4 s.aliases.length)) (knownE (min 4 s.aliases.length)) (faultsE 0) wo from by
        refine ⟨HI.out.1, ?_, ?_, ItRow.nil _ _ _ _ _ _, hb2N, by rw [hN1]; exact Nat.le_refl _⟩
        · exact MRow.of_it HI.out.2.1 (Nat.le_refl _) hN1
        · exact (HI.out.2.2.texts (by simp [knownE]; omega) (knownE_short _)).mono (fun k _ h => ⟨h.1, by rw [hN1]; exact h.2.2⟩))
      have r2 := cells_row HI.out.1.2.1 2 _ rfl
      simp only [List.getElem_toArray, List.getElem_cons_succ, List.getElem_cons_zero] at r2
      obtain ⟨nf, hnf⟩ : ∃ nf : Nat, nf = s.faults % 4 := ⟨_, rfl⟩
      have hnf3 : nf ≤ 3 := by omega
      have hf1 : Int.tmod (s.faults : Int) 4 = (nf : Int) := by rw [Int.tmod_eq_emod_of_nonneg nf0, hnf]; rfl
      have hf2 : (s.faults : Int) % 4 = (nf : Int) := by rw [hnf]; rfl
      have HNF := Lib.hid hnf
      clear hN1 hnf hb2N
      go_wp2
      clear r2
      go_loopg [8, 51] nf (fun G u8 u51 wr => ∃ (j : Nat) (fa : Option Addr) (fn fc : Nat), j ≤ nf ∧ G = nf - j ∧ u51 = .int .i64 j ∧ Hid (FBase w #[.int .u16 s.number, .slice aa s.aliases.length ac, .int .u8 s.faults, .slice pa s.procs.length pc] b2 N1 s.number ver (.slice ta tn tc) (.slice ka kn kc) (.slice fa fn fc) (aliasesE s (min 4 s.aliases.length)) (knownE (min 4 s.aliases.length)) (faultsE j) wr))
      case atStart => exact ⟨0, _, _, _, Nat.zero_le _, rfl, by go_num, HFB⟩
      case round =>
        clear HFB HI
        obtain ⟨j, fa, fn, fc, hj, rfl, rfl, HI⟩ := hrel
        by_cases hlt : j < nf
        · have hname := Lib.hid (fun (wx : World) => nameOf_any j (by omega) 5 (by omega) (by omega) wx)
          have hadd : ∀ w, (Op.stringOp .add ⟨#[69]⟩ ⟨(nameT j 5).toArray⟩).run Try.prog w = .ok (.string ⟨(fName j).toArray⟩) w := fun w => add_name 69 j 5 w
          have j1 : IntKind.i64.wrap (10 * (j : Int)) = 10 * (j : Int) := IntWalk.i64_in _ (by omega)
          have j2 : wrap64 (10 * (j : Int)) = 10 * (j : Int) := IntWalk.wrap64_in _ (by omega)
          go_wp2_with fail
          refine wp_region_chain (by kernel_rfl) [some 54, some 55, some 56, some 57, some 58, some 59, some 60, some 61, some 62, some 63, some 64, none] rfl (by decide) (by intro d hd; simp at hd ⊢; omega)
            [3, 4, 7, 8, 9, 11] (FaultS w #[.int .u16 s.number, .slice aa s.aliases.length ac, .int .u8 s.faults, .slice pa s.procs.length pc] b2 N1 s.number ver (.slice ta tn tc) (.slice ka kn kc) (.slice fa fn fc) (aliasesE s (min 4 s.aliases.length)) (knownE (min 4 s.aliases.length)) (faultsE j) (fName j) (10 * (j : Int)))
            [.free (.pointer (some ⟨b2, 4, none⟩)), .free (.slice fa fn fc), .free (.int .i64 j), .link (some (.string ⟨(nameT j 5).toArray⟩)), .link (some (.string ⟨(fName j).toArray⟩)), .free (.int .i64 j), .free (.int .i64 (10 * (j : Int))), .link (some (.agg #[.string ⟨(fName j).toArray⟩, .int .i64 (10 * (j : Int))])), .link none, .link none, .free (.pointer (some ⟨b2, 4, none⟩)), .link none]
            (by kernel_rfl) (by kernel_rfl) ?h0 ?step ?fin
          case h0 => exact FBase.drew HI.out
          case step =>
            intro vals
            simp only [frOfU, fillU, List.setIfInBounds_toArray, List.set_cons_succ, List.set_cons_zero]
            repeat' (first | exact AllOps.nil | refine AllOps.cons ?_ ?_)
            all_goals
              intro cvs wx hS he hu hlim K hK
              simp only [Act.put, List.setIfInBounds_toArray, List.set_cons_succ, List.set_cons_zero, List.getD_cons_zero, List.getD_cons_succ] at hK
              simp only [List.mem_cons, List.not_mem_nil, or_false, forall_eq_or_imp, forall_eq, Region.binds, forall_const, mode_gc, Bool.false_eq_true, false_imp_iff, List.getD_cons_zero, List.getD_cons_succ, OpSort.val, Option.some.injEq, forall_eq', reduceCtorEq, implies_true, true_and, and_true] at he
              try
                have hbx := hS.box (hlim 5 11 rfl (by kernel_rfl))
                have r1 := cells_row hbx.2.2.2.1 4 _ rfl
                simp only [List.getElem_toArray, List.getElem_cons_succ, List.getElem_cons_zero] at r1
                clear hbx
              have HSX := Lib.hid hS
              clear hS
            all_goals first | (clear hlim hu; (try simp only [he] at hK ⊢); go_simp; exact hK) | skip
            · obtain rfl := hlim (0 : Nat) rfl
              have h1 := HSX.out
              clear HSX hlim hu
              simp only [List.take_zero, List.map_nil] at h1 hK
              simp only [he] at hK ⊢
              go_simp
              go_at_call 31
              refine (hname.out wx).mono ?_
              rintro e1 wa ⟨rfl, fa⟩
              exact hK _ _ (fun _ h => by cases h; rfl) (FBase.fr h1 fa)
            · obtain rfl := hlim (1 : Nat) rfl
              have h1 := HSX.out
              clear HSX hlim hu
              simp only [List.take_succ_cons, List.take_zero, List.map_cons, List.map_nil] at h1 hK
              simp only [he] at hK ⊢
              go_simp
              exact hK _ _ (fun _ h => by cases h; rfl) h1
            · obtain rfl := hlim (2 : Nat) rfl
              have h1 := HSX.out
              clear HSX hlim hu
              simp only [List.take_succ_cons, List.take_zero, List.map_cons, List.map_nil] at h1 hK
              simp only [he] at hK ⊢
              go_simp
              exact hK _ _ (fun _ h => by cases h; rfl) h1
            · obtain rfl := hlim (3 : Nat) rfl
              have h1 := HSX.out
              clear HSX hlim hu
              simp only [List.take_succ_cons, List.take_zero, List.map_cons, List.map_nil] at h1 hK
              simp only [he] at hK ⊢
              go_simp
              have fa : Fr (fun _ => False) wx (wx.alloc (.cells #[.string ⟨(fName j).toArray⟩, .int .i64 (10 * (j : Int))] 52)) := (Fr.refl _ _).alloc _
              exact hK _ _ (fun _ h => by cases h) ⟨FBase.fr h1 fa, _, rfl, heap_alloc_new _ _⟩
            · obtain rfl := hlim (4 : Nat) rfl
              have h1 := HSX.out
              clear HSX hlim hu
              simp only [List.take_succ_cons, List.take_zero, List.map_cons, List.map_nil] at h1 hK
              obtain ⟨ha, gg, e8, hgg⟩ := h1
              rw [if_pos (by rfl)]
              have hsz := lt_of_block ha.1.2.2.2.1
              have hgs := lt_of_block hgg
              refine opWp_push (pv := .slice fa fn fc) (l := faultsE j) (B := N1) (X := fun _ => False) (D := ftShown) (.tmp 55) (.tmp 62) 29 29 rfl Try.underlying29 Try.underlying29 Try.infoFault rfl (by decide) he.1 ha.2.2.2.1 gg e8 (news := [sv (fName j), .int .i64 (10 * (j : Int))]) hgg rfl (by intro u hu; simp at hu; rcases hu with rfl | rfl <;> rfl) (by simp [faultsE]; omega) (by omega) (by have := ha.2.2.2.2.2; omega) (fun k hk => absurd hk (fun h => h)) (fName j, 10 * (j : Int)) rfl ?_
              intro v' w8 hrow f6 hv
              exact hK _ _ (fun _ h => by cases h) ⟨ha.1.fr f6 (fun k hk => by have := (ha.2.2.2.1.own k hk).1; have := ha.2.2.2.2.1; omega), ha.2.1.fr f6 (fun k hk e => by have := (ha.2.2.2.1.own k e).1; have := hk.2; omega), ha.2.2.1.fr f6 (fun k hk e => by have := (ha.2.2.2.1.own k e).1; have := hk.2; omega), hrow, ha.2.2.2.2.1, Nat.le_trans ha.2.2.2.2.2 f6.size⟩
            · obtain rfl := hlim (5 : Nat) rfl
              have h1 := HSX.out
              clear HSX hlim hu
              simp only [List.take_succ_cons, List.take_zero, List.map_cons, List.map_nil] at h1 hK
              obtain ⟨hb, hal, hkn, hr, hbn⟩ := h1
              obtain ⟨xa, xn, xc, e8⟩ : ∃ xa xn xc, vals 9 = .slice xa xn xc := by obtain ⟨a, c, e⟩ := hr.slice; exact ⟨a, _, c, e⟩
              have hl := hb.2.2.2.1
              have z3 : wx.frozen? ⟨b2, 4, none⟩ = false := by simp [World.frozen?, hl]
              have e3 := cells_row hl 4 _ rfl
              have f : Fr (fun k => k = b2) wx (wx.setCell ⟨b2, 4, none⟩ (vals 9)) := Fr.set1 (Fr.refl _ _) 4 _
              have HG := Lib.hid (show FBase w #[.int .u16 s.number, .slice aa s.aliases.length ac, .int .u8 s.faults, .slice pa s.procs.length pc] b2 N1 s.number ver (.slice ta tn tc) (.slice ka kn kc) (vals 9) (aliasesE s (min 4 s.aliases.length)) (knownE (min 4 s.aliases.length)) (faultsE j ++ [(fName j, 10 * (j : Int))]) (wx.setCell ⟨b2, 4, none⟩ (vals 9)) from ⟨hb.set.2.1, hal.fr f (fun k hk e => by have := hk.1; omega), hkn.fr f (fun k hk e => by have := hk.1; omega), hr.fr f (fun k hk e => by omega), hbn.1, Nat.le_trans hbn.2 f.size⟩)
              clear hb hl hr hal hkn f
              rw [e8] at HG
              simp only [he, e8] at hK ⊢
              go_simp
              exact hK undef _ (fun _ h => by cases h) HG.out
          case fin =>
            intro vals w5 hS hV
            clear hV
            simp only [List.map_cons, List.map_nil] at hS
            have hS2 : FBase w #[.int .u16 s.number, .slice aa s.aliases.length ac, .int .u8 s.faults, .slice pa s.procs.length pc] b2 N1 s.number ver (.slice ta tn tc) (.slice ka kn kc) (vals 9) (aliasesE s (min 4 s.aliases.length)) (knownE (min 4 s.aliases.length)) (faultsE (j + 1)) w5 := by
              rw [faultsE_succ, show ((10 * j : Nat) : Int) = 10 * (j : Int) from by omega]
              exact hS
            obtain ⟨fa2, fn2, fc2, e8⟩ : ∃ xa xn xc, vals 9 = .slice xa xn xc := by obtain ⟨a, c, e⟩ := hS2.2.2.2.1.slice; exact ⟨a, _, c, e⟩
            rw [e8] at hS2
            have HS := Lib.hid hS2
            clear hS hS2 e8 hadd
            simp only [frOfU, fillU, List.setIfInBounds_toArray, List.set_cons_succ, List.set_cons_zero]
            go_wp2
            go_roundg (nf - (j + 1))
            case measure => omega
            case rel => exact ⟨j + 1, _, _, _, by omega, rfl, by go_num, HS⟩
        · obtain rfl : j = nf := by omega
          obtain ⟨wp, rfl⟩ : ∃ wp : World, wp = wr := ⟨_, rfl⟩
          obtain ⟨N2, hN2⟩ : ∃ N2, N2 = wp.heap.size := ⟨_, rfl⟩
          have hb2N : b2 < N2 := by rw [hN2]; exact lt_of_block HI.out.1.2.2.2.1
          obtain ⟨m4, hm4⟩ : ∃ m4, m4 = min 4 s.aliases.length := ⟨_, rfl⟩
          rw [← hm4] at HI
          have hm44 : m4 ≤ 4 := by omega
          have HM4 := Lib.hid hm4
          have hNN : N1 ≤ N2 := by rw [hN2]; exact HI.out.2.2.2.2.2
          have HPB := Lib.hid (show PBase w #[.int .u16 s.number, .slice aa s.aliases.length ac, .int .u8 s.faults, .slice pa s.procs.length pc] b2 N2 s.number ver (.slice ta tn tc) (.slice ka kn kc) (.slice fa fn fc) (.slice none 0 0) (aliasesE s m4) (knownE m4) (faultsE j) (procsE s (knownE m4) 0) wp from by
            refine ⟨HI.out.1, HI.out.2.1.grow hNN (fun k hk e => absurd (HI.out.2.2.2.1.own k e).1 (by omega)), HI.out.2.2.1.mono (fun k _ h => ⟨h.1, Nat.lt_of_lt_of_le h.2 hNN⟩), ?_, ItRow.nil _ _ _ _ _ _, hb2N, by rw [hN2]; exact Nat.le_refl _⟩
            exact MRow.of_it HI.out.2.2.2.1 HI.out.2.2.2.2.1 hN2)
          have r2 := cells_row HI.out.1.2.1 3 _ rfl
          simp only [List.getElem_toArray, List.getElem_cons_succ, List.getElem_cons_zero] at r2
          clear hN2 hm4 hb2N hNN
          go_wp2
          clear r2
          go_loopg [9, 10, 69] s.procs.length (fun G u9 u10 u69 wr => ∃ (j' : Nat) (xa : Option Addr) (xn xc : Nat), j' ≤ s.procs.length ∧ G = s.procs.length - j' ∧ u69 = .int .i64 j' ∧ Hid (PBase w #[.int .u16 s.number, .slice aa s.aliases.length ac, .int .u8 s.faults, .slice pa s.procs.length pc] b2 N2 s.number ver (.slice ta tn tc) (.slice ka kn kc) (.slice fa fn fc) (.slice xa xn xc) (aliasesE s m4) (knownE m4) (faultsE j) (procsE s (knownE m4) (min 4 j')) wr))
          case atStart => exact ⟨0, _, _, _, Nat.zero_le _, rfl, by go_num, HPB⟩
          case round =>
            clear HPB HI
            obtain ⟨i, xa, xn, xc, hi, rfl, rfl, HI⟩ := hrel
            by_cases hlt : i < s.procs.length
            · rcases HPS.out with hz | ⟨hcap, g, off, rfl, hcell⟩
              · omega
              obtain ⟨p, hp0⟩ : ∃ x, s.procs[i]? = some x := ⟨_, List.getElem?_eq_getElem hlt⟩
              obtain ⟨x0, x1, x2, y0, y1, y2, hcs, hx, hy⟩ := hcell i p hp0
              have up := fun (i' : Nat) (u : Value) (hu : [x0, x1, x2, y0, y1, y2, .int .u8 p.collate, .int .u16 p.timeout][i']? = some u) => cell_fr (R := fun _ => True) HI.out.1.1 (fun _ _ h => h) trivial (hcs i' u hu)
              have r0 := up 0 _ rfl
              have r1 := up 1 _ rfl
              have r2 := up 2 _ rfl
              have r3 := up 3 _ rfl
              have r4 := up 4 _ rfl
              have r5 := up 5 _ rfl
              have r6 := up 6 _ rfl
              have r7 := up 7 _ rfl
              rw [Nat.add_zero] at r0
              obtain ⟨pk, pn, na, nc, ncap, e⟩ := hx.cells
              simp at e
              obtain ⟨rfl, rfl, rfl⟩ := e
              obtain ⟨qk, qn, qa, qc, qcap, e⟩ := hy.cells
              simp at e
              obtain ⟨rfl, rfl, rfl⟩ := e
              have hpl := HPL.out p (List.mem_of_getElem? hp0)
              obtain ⟨c3, hc3⟩ : ∃ c3, c3 = p.collate % 3 := ⟨_, rfl⟩
              obtain ⟨t3, ht3⟩ : ∃ t3, t3 = p.timeout % 1000 := ⟨_, rfl⟩
              obtain ⟨q9, hq9⟩ : ∃ q9, q9 = s.number % 9 := ⟨_, rfl⟩
              have b1 : c3 ≤ 2 := by rw [hc3]; exact Nat.le_of_lt_succ (Nat.mod_lt _ (by decide))
              have b2' : t3 ≤ 999 := by rw [ht3]; exact Nat.le_of_lt_succ (Nat.mod_lt _ (by decide))
              have b3 : q9 ≤ 8 := by rw [hq9]; exact Nat.le_of_lt_succ (Nat.mod_lt _ (by decide))
              have k1 : Int.tmod (p.collate : Int) 3 = (c3 : Int) := by rw [hc3]; exact tmod_nat _ 3
              have k2 : Int.tmod (p.timeout : Int) 1000 = (t3 : Int) := by rw [ht3]; exact tmod_nat _ 1000
              have k3 : Int.tmod (s.number : Int) 9 = (q9 : Int) := by rw [hq9]; exact tmod_nat _ 9
              have hi10 : i ≤ 1000 := Nat.le_trans (Nat.le_of_lt hlt) (Nat.le_trans hlp (by decide))
              have k4 := (wrap_small t3 (Nat.le_trans b2' (by decide))).1
              have l1 := (wrap_small t3 (Nat.le_trans b2' (by decide))).2
              have k5 := (wrap_one t3 (Nat.le_trans b2' (by decide))).1
              have k6 := (wrap_one t3 (Nat.le_trans b2' (by decide))).2
              have k7 := (wrap_small q9 (Nat.le_trans b3 (by decide))).1
              have l2 := (wrap_small q9 (Nat.le_trans b3 (by decide))).2
              have k8 := (wrap_two i q9 hi10 (Nat.le_trans b3 (by decide))).1
              have k9 := (wrap_two i q9 hi10 (Nat.le_trans b3 (by decide))).2
              have KK := Lib.hid (And.intro k1 (And.intro k2 (And.intro k3 (And.intro k4 (And.intro l1 (And.intro k5 (And.intro k6 (And.intro k7 (And.intro l2 (And.intro k8 k9))))))))))
              clear k1 k2 k3 k4 l1 k5 k6 k7 l2 k8 k9
              have HX := Lib.hid (And.intro hp0 (And.intro hx hy))
              obtain ⟨P, hP⟩ : ∃ P : KProc, P = ⟨pName i, (i : Int) + (q9 : Int), typeE (knownE m4) p.takes 3, typeE (knownE m4) p.answers 3, c3, 1 + (t3 : Int)⟩ := ⟨_, rfl⟩
              have HP := Lib.hid (show P = procOfE s (knownE m4) i from by rw [hP, hc3, ht3, hq9]; exact (procOf_eq s (knownE m4) i p hp0).symm)
              have HP2 := Lib.hid hP
              have ic : (i : Int) < (s.procs.length : Int) := Int.ofNat_lt.2 hlt
              have i0 : (0 : Int) ≤ (i : Int) := Int.natCast_nonneg i
              clear hcell hx hy hp0 hcap up hcs hc3 ht3 hq9 hP hpl b1 b2' b3 hi10
              obtain ⟨wb, hwb⟩ : ∃ wb, wb = wr.alloc (.cells #[.int .u8 pk, .int .u8 pn, .slice na nc ncap, .int .u8 qk, .int .u8 qn, .slice qa qc qcap, .int .u8 p.collate, .int .u16 p.timeout] 80) := ⟨_, rfl⟩
              have HWB := Lib.hid (show Fr (fun _ => False) wr wb ∧ wb.heap[wr.heap.size]? = some (.cells #[.int .u8 pk, .int .u8 pn, .slice na nc ncap, .int .u8 qk, .int .u8 qn, .slice qa qc qcap, .int .u8 p.collate, .int .u16 p.timeout] 80 (0, 0)) from by rw [hwb]; exact ⟨(Fr.refl _ _).alloc _, heap_alloc_new _ _⟩)
              by_cases h4 : i < 4
              · have e4 : min 4 i = i := Nat.min_eq_right (Nat.le_of_lt h4)
                rw [e4] at HI
                have H4 := Lib.hid (And.intro (PBase.fr HI.out HWB.out.1) HWB.out.2)
                have hname := Lib.hid (fun (wx : World) => nameOf_any i (Nat.le_of_lt_succ h4) 7 (by decide) (by decide) wx)
                have hadd : ∀ w, (Op.stringOp .add ⟨#[80]⟩ ⟨(nameT i 7).toArray⟩).run Try.prog w = .ok (.string ⟨(pName i).toArray⟩) w := fun w => add_name 80 i 7 w
                have iz : (i : Int) < 4 := Int.ofNat_lt.2 h4
                clear e4
                go_wp2_with fail
                rw [← hwb]
                clear hwb r0 r1 r2 r3 r4 r5 r6 r7
                refine wp_region_chain (by kernel_rfl) [some 76, some 77, some 78, some 79, some 80, some 81, some 82, some 83, some 84, some 85, some 86, some 87, some 88, some 89, some 90, some 91, some 92, some 93, some 94, some 95, some 96, some 97, some 98, some 99, some 100, some 101, some 102, some 103, some 104, some 105, some 106, none] rfl (by decide) (by intro d hd; simp at hd ⊢; omega)
                  [3, 14, 18, 27, 28, 29, 31] (ProcS w #[.int .u16 s.number, .slice aa s.aliases.length ac, .int .u8 s.faults, .slice (some ⟨g, off, none⟩) s.procs.length pc] b2 N2 s.number ver (.slice ta tn tc) (.slice ka kn kc) (.slice fa fn fc) (.slice xa xn xc) (aliasesE s m4) (knownE m4) (faultsE j) (procsE s (knownE m4) i) P wr.heap.size #[.int .u8 pk, .int .u8 pn, .slice na nc ncap, .int .u8 qk, .int .u8 qn, .slice qa qc qcap, .int .u8 p.collate, .int .u16 p.timeout])
                  [.free (.pointer (some ⟨b2, 5, none⟩)), .free (.slice xa xn xc), .free (.int .i64 i), .link (some (.string ⟨(nameT i 7).toArray⟩)), .free (.string ⟨(pName i).toArray⟩), .free (.int .i64 i), .free (.pointer (some ⟨w.heap.size, 0, none⟩)), .free (.int .u16 s.number), .free (.int .u16 q9), .free (.int .i64 q9), .free (.int .i64 ((i : Int) + (q9 : Int))),
                   .free (.pointer (some ⟨wr.heap.size, 0, none⟩)), .free (.agg #[.int .u8 pk, .int .u8 pn, .slice na nc ncap]), .free (.slice ka kn kc), .link none,
                   .free (.pointer (some ⟨wr.heap.size, 3, none⟩)), .free (.agg #[.int .u8 qk, .int .u8 qn, .slice qa qc qcap]), .free (.slice ka kn kc), .link none,
                   .free (.pointer (some ⟨wr.heap.size, 6, none⟩)), .free (.int .u8 p.collate), .free (.int .u8 c3), .free (.pointer (some ⟨wr.heap.size, 7, none⟩)), .free (.int .u16 p.timeout), .free (.int .u16 t3), .free (.int .i64 t3), .free (.int .i64 (1 + (t3 : Int))),
                   .link none, .link none, .link none, .free (.pointer (some ⟨b2, 5, none⟩)), .link none]
                  (by kernel_rfl) (by kernel_rfl) ?h0 ?step ?fin
                case h0 => exact ⟨H4.out.1.drew, H4.out.2⟩
                case step =>
                  intro vals
                  simp only [frOfU, fillU, List.setIfInBounds_toArray, List.set_cons_succ, List.set_cons_zero]
                  repeat' (first | exact AllOps.nil | refine AllOps.cons ?_ ?_)
                  all_goals
                    intro cvs wx hS he hu hlim K hK
                    simp only [Act.put, List.setIfInBounds_toArray, List.set_cons_succ, List.set_cons_zero, List.getD_cons_zero, List.getD_cons_succ] at hK
                    simp only [List.mem_cons, List.not_mem_nil, or_false, forall_eq_or_imp, forall_eq, Region.binds, forall_const, mode_gc, Bool.false_eq_true, false_imp_iff, List.getD_cons_zero, List.getD_cons_succ, OpSort.val, Option.some.injEq, forall_eq', reduceCtorEq, implies_true, true_and, and_true] at he
                    try
                      have hbx := hS.box (hlim 6 31 rfl (by kernel_rfl))
                      obtain ⟨k1, k2, k3, k4, l1, k5, k6, k7, l2, k8, k9⟩ := KK.out
                      have r1 := cells_row hbx.1.2.2.2.1 5 _ rfl
                      have r2 := cells_row hbx.1.2.1 0 _ rfl
                      have s0 := cells_row hbx.2 0 _ rfl
                      have s1 := cells_row hbx.2 1 _ rfl
                      have s2 := cells_row hbx.2 2 _ rfl
                      have s3 := cells_row hbx.2 3 _ rfl
                      have s4 := cells_row hbx.2 4 _ rfl
                      have s5 := cells_row hbx.2 5 _ rfl
                      have s6 := cells_row hbx.2 6 _ rfl
                      have s7 := cells_row hbx.2 7 _ rfl
                      simp only [List.getElem_toArray, List.getElem_cons_succ, List.getElem_cons_zero] at r1 r2 s0 s1 s2 s3 s4 s5 s6 s7
                      clear hbx
                    have HSX := Lib.hid hS
                    clear hS
                  all_goals first | (clear hlim hu; (try simp only [he] at hK ⊢); go_simp; exact hK) | skip
                  · obtain rfl := hlim (0 : Nat) rfl
                    have h1 := HSX.out
                    clear HSX hlim hu
                    simp only [List.take_zero, List.map_nil] at h1 hK
                    simp only [he] at hK ⊢
                    go_simp
                    go_at_call 31
                    refine (hname.out wx).mono ?_
                    rintro e1 wa ⟨rfl, fa⟩
                    exact hK _ _ (fun _ h => by cases h; rfl) ⟨PBase.fr h1.1 fa, box_kept h1.2 fa (fun h => h)⟩
                  · obtain rfl := hlim (1 : Nat) rfl
                    have h1 := HSX.out
                    clear HSX hlim hu
                    simp only [List.take_succ_cons, List.take_zero, List.map_cons, List.map_nil] at h1 hK
                    simp only [he] at hK ⊢
                    go_simp
                    go_at_call 32
                    refine (type_any (knownE m4) p.takes _ _ _ wx 3 3 rfl (by omega) (by omega) (NShows.fr h1.1.1.1 _ _ HX.out.2.1) h1.1.2.2.1).mono ?_
                    rintro q1 wa ⟨v', rfl, hsv, fa⟩
                    refine hK _ _ (fun _ h => by cases h) ⟨PBase.fr h1.1 fa, box_kept h1.2 fa (fun h => h), ?_⟩
                    rw [HP2.out]
                    refine Shows.mono (fun k _ hk => ⟨by have := h1.1.2.2.2.2.2.2; omega, fun h => h, fun e => ?_⟩) _ _ hsv
                    have := (h1.1.2.2.2.2.1.own k e).2.1; omega
                  · obtain rfl := hlim (2 : Nat) rfl
                    have h1 := HSX.out
                    clear HSX hlim hu
                    simp only [List.take_succ_cons, List.take_zero, List.map_cons, List.map_nil] at h1 hK
                    simp only [he] at hK ⊢
                    go_simp
                    go_at_call 32
                    refine (type_any (knownE m4) p.answers _ _ _ wx 3 3 rfl (by omega) (by omega) (NShows.fr h1.1.1.1 _ _ HX.out.2.2) h1.1.2.2.1).mono ?_
                    rintro q1 wa ⟨v', rfl, hsv, fa⟩
                    refine hK _ _ (fun _ h => by cases h) ⟨PBase.fr h1.1 fa, box_kept h1.2.1 fa (fun h => h), Shows.fr fa (fun _ _ h => h) _ _ h1.2.2, ?_⟩
                    rw [HP2.out]
                    refine Shows.mono (fun k _ hk => ⟨by have := h1.1.2.2.2.2.2.2; omega, fun h => h, fun e => ?_⟩) _ _ hsv
                    have := (h1.1.2.2.2.2.1.own k e).2.1; omega
                  · obtain rfl := hlim (3 : Nat) rfl
                    have h1 := HSX.out
                    clear HSX hlim hu
                    simp only [List.take_succ_cons, List.take_zero, List.map_cons, List.map_nil] at h1 hK
                    obtain ⟨ha, hg, ht, hw⟩ := h1
                    obtain ⟨ak, am, ax, an, ac2, ax', an', ac', e14⟩ := ht.four
                    obtain ⟨bk, bm, bx, bn, bc2, bx', bn', bc', e18⟩ := hw.four
                    rw [e14] at ht
                    rw [e18] at hw
                    simp only [he, e14, e18] at hK ⊢
                    go_simp
                    exact hK _ _ (fun _ h => by cases h) ⟨ha, hg, _, _, _, _, _, _, _, _, by rw [HP2.out]; rfl, ht, hw⟩
                  · obtain rfl := hlim (4 : Nat) rfl
                    have h1 := HSX.out
                    clear HSX hlim hu
                    simp only [List.take_succ_cons, List.take_zero, List.map_cons, List.map_nil] at h1 hK
                    obtain ⟨ha, hg, x0, x1, x2, x3, y0, y1, y2, y3, e27, ht, hw⟩ := h1
                    obtain ⟨ak, am, ax, an, ac2, ax', an', ac', rfl, rfl, rfl, rfl⟩ := ht.cells
                    obtain ⟨bk, bm, bx, bn, bc2, bx', bn', bc', rfl, rfl, rfl, rfl⟩ := hw.cells
                    have e27' : vals 27 = .agg #[.string ⟨(pName i).toArray⟩, .int .i64 ((i : Int) + (q9 : Int)), .int .u8 ak, .int .i64 am, .slice ax an ac2, .slice ax' an' ac', .int .u8 bk, .int .i64 bm, .slice bx bn bc2, .slice bx' bn' bc', .int .u8 c3, .int .i64 (1 + (t3 : Int))] := by
                      rw [e27, HP2.out]; rfl
                    simp only [he, e27'] at hK ⊢
                    go_simp
                    have fa : Fr (fun _ => False) wx (wx.alloc (.cells #[.string ⟨(pName i).toArray⟩, .int .i64 ((i : Int) + (q9 : Int)), .int .u8 ak, .int .i64 am, .slice ax an ac2, .slice ax' an' ac', .int .u8 bk, .int .i64 bm, .slice bx bn bc2, .slice bx' bn' bc', .int .u8 c3, .int .i64 (1 + (t3 : Int))] 41)) := (Fr.refl _ _).alloc _
                    refine hK _ _ (fun _ h => by cases h) ⟨PBase.fr ha fa, box_kept hg fa (fun h => h), wx.heap.size, _, _, _, _, _, _, _, _, rfl, ?_, Shows.fr fa (fun _ _ h => h) _ _ ht, Shows.fr fa (fun _ _ h => h) _ _ hw⟩
                    rw [HP2.out]
                    exact heap_alloc_new _ _
                  · obtain rfl := hlim (5 : Nat) rfl
                    have h1 := HSX.out
                    clear HSX hlim hu
                    simp only [List.take_succ_cons, List.take_zero, List.map_cons, List.map_nil] at h1 hK
                    obtain ⟨ha, hg, gg, x0, x1, x2, x3, y0, y1, y2, y3, e28, hgg, ht, hw⟩ := h1
                    rw [if_pos (by rfl)]
                    have hsz := lt_of_block ha.1.2.2.2.1
                    obtain ⟨ak, am, ax, an, ac2, ax', an', ac', ex0, ex1, ex2, ex3⟩ := ht.cells
                    obtain ⟨bk, bm, bx, bn, bc2, bx', bn', bc', ey0, ey1, ey2, ey3⟩ := hw.cells
                    refine opWp_push (pv := .slice xa xn xc) (l := procsE s (knownE m4) i) (B := N2) (X := fun _ => False) (D := prShown) (.tmp 77) (.tmp 104) 30 30 rfl Try.underlying30 Try.underlying30 Try.infoProc rfl (by decide) he ha.2.2.2.2.1 gg e28 (news := procCells P x0 x1 x2 x3 y0 y1 y2 y3) hgg rfl ?one (by simp [procsE]; omega) (by omega) ha.2.2.2.2.2.2 (fun k hk => absurd hk (fun h => h)) P ⟨_, _, _, _, _, _, _, _, rfl, ht, hw⟩ ?_
                    case one =>
                      intro u hu
                      simp only [procCells, List.mem_cons, List.not_mem_nil, or_false] at hu
                      rcases hu with rfl | rfl | rfl | rfl | rfl | rfl | rfl | rfl | rfl | rfl | rfl | rfl
                      · rfl
                      · rfl
                      · exact ex0 ▸ rfl
                      · exact ex1 ▸ rfl
                      · exact ex2 ▸ rfl
                      · exact ex3 ▸ rfl
                      · exact ey0 ▸ rfl
                      · exact ey1 ▸ rfl
                      · exact ey2 ▸ rfl
                      · exact ey3 ▸ rfl
                      · rfl
                      · rfl
                    intro v' w8 hrow f6 hv
                    have low : ∀ k, Made b2 N2 k → ¬ (Value.slice xa xn xc).ownBlock = some k := fun k hk e => by have := (ha.2.2.2.2.1.own k e).1; have := hk.2; omega
                    exact hK _ _ (fun _ h => by cases h) ⟨ha.1.fr f6 (fun k hk => by have := (ha.2.2.2.2.1.own k hk).1; have := ha.2.2.2.2.2.1; omega), box_kept hg f6 (fun hk => absurd (HI.out.2.2.2.2.1.own _ hk).2.1 (Nat.lt_irrefl _)), ha.2.1.fr f6 low, ha.2.2.1.fr f6 low, ha.2.2.2.1.fr f6 low, hrow, ha.2.2.2.2.2.1, Nat.le_trans ha.2.2.2.2.2.2 f6.size⟩
                  · obtain rfl := hlim (6 : Nat) rfl
                    have h1 := HSX.out
                    clear HSX hlim hu
                    simp only [List.take_succ_cons, List.take_zero, List.map_cons, List.map_nil] at h1 hK
                    obtain ⟨hb, hg, hal, hkn, hfl, hr, hbn⟩ := h1
                    obtain ⟨za, zn, zc, e8⟩ : ∃ xa xn xc, vals 29 = .slice xa xn xc := by obtain ⟨a, c, e⟩ := hr.slice; exact ⟨a, _, c, e⟩
                    have hl := hb.2.2.2.1
                    have z3 : wx.frozen? ⟨b2, 5, none⟩ = false := by simp [World.frozen?, hl]
                    have e3 := cells_row hl 5 _ rfl
                    have f : Fr (fun k => k = b2) wx (wx.setCell ⟨b2, 5, none⟩ (vals 29)) := Fr.set1 (Fr.refl _ _) 5 _
                    have low : ∀ k, Made b2 N2 k → ¬ k = b2 := fun k hk e => by have := hk.1; omega
                    have HG := Lib.hid (show PBase w #[.int .u16 s.number, .slice aa s.aliases.length ac, .int .u8 s.faults, .slice (some ⟨g, off, none⟩) s.procs.length pc] b2 N2 s.number ver (.slice ta tn tc) (.slice ka kn kc) (.slice fa fn fc) (vals 29) (aliasesE s m4) (knownE m4) (faultsE j) (procsE s (knownE m4) i ++ [P]) (wx.setCell ⟨b2, 5, none⟩ (vals 29)) from ⟨hb.set.2.2, hal.fr f low, hkn.fr f low, hfl.fr f low, hr.fr f (fun k hk e => by have := hbn.1; omega), hbn.1, Nat.le_trans hbn.2 f.size⟩)
                    clear hb hl hr hal hkn hfl f low
                    rw [e8] at HG
                    simp only [he, e8] at hK ⊢
                    go_simp
                    exact hK undef _ (fun _ h => by cases h) HG.out
                case fin =>
                  intro vals w5 hS hV
                  clear hV
                  simp only [List.map_cons, List.map_nil] at hS
                  have hS2 : PBase w #[.int .u16 s.number, .slice aa s.aliases.length ac, .int .u8 s.faults, .slice (some ⟨g, off, none⟩) s.procs.length pc] b2 N2 s.number ver (.slice ta tn tc) (.slice ka kn kc) (.slice fa fn fc) (vals 29) (aliasesE s m4) (knownE m4) (faultsE j) (procsE s (knownE m4) (i + 1)) w5 := by
                    rw [procsE_succ, ← HP.out]
                    exact hS
                  obtain ⟨xa2, xn2, xc2, e8⟩ : ∃ xa xn xc, vals 29 = .slice xa xn xc := by obtain ⟨a, c, e⟩ := hS2.2.2.2.2.1.slice; exact ⟨a, _, c, e⟩
                  rw [e8] at hS2
                  have HS := Lib.hid hS2
                  clear hS hS2 e8 hadd
                  simp only [frOfU, fillU, List.setIfInBounds_toArray, List.set_cons_succ, List.set_cons_zero]
                  go_wp2
                  go_roundg (s.procs.length - (i + 1))
                  case measure => omega
                  case rel => exact ⟨i + 1, _, _, _, by omega, rfl, by go_num, by rw [show min 4 (i + 1) = i + 1 by omega]; exact HS⟩
              · have e4 : min 4 i = 4 := Nat.min_eq_left (Nat.le_of_not_lt h4)
                rw [e4] at HI
                have iz : ¬ (i : Int) < 4 := fun h => h4 (Int.ofNat_lt.1 h)
                have HB6 := Lib.hid (PBase.fr HI.out HWB.out.1)
                rw [hwb] at HB6
                clear e4 hwb
                go_wp2
                go_roundg (s.procs.length - (i + 1))
                case measure => omega
                case rel => exact ⟨i + 1, _, _, _, by omega, rfl, by go_num, by rw [show min 4 (i + 1) = 4 by omega]; exact HB6⟩
            · obtain rfl : i = s.procs.length := by omega
              have q1 := HI.out.1.2.2.1
              have q2 := HI.out.1.2.2.2.1
              have z0 : wr.frozen? ⟨w.heap.size + 1, 0, none⟩ = false := by simp [World.frozen?, q1]
              have z1 : wr.frozen? ⟨w.heap.size + 1, 1, none⟩ = false := by simp [World.frozen?, q1]
              have z2 : wr.frozen? ⟨w.heap.size + 1, 2, none⟩ = false := by simp [World.frozen?, q1]
              have z3 : wr.frozen? ⟨w.heap.size + 1, 3, none⟩ = false := by simp [World.frozen?, q1]
              have z4 : wr.frozen? ⟨w.heap.size + 1, 4, none⟩ = false := by simp [World.frozen?, q1]
              have z5 : wr.frozen? ⟨w.heap.size + 1, 5, none⟩ = false := by simp [World.frozen?, q1]
              have c0 := cells_row q1 0 _ rfl
              have c1 := cells_row q1 1 _ rfl
              have c2 := cells_row q1 2 _ rfl
              have c3 := cells_row q1 3 _ rfl
              have c4 := cells_row q1 4 _ rfl
              have c5 := cells_row q1 5 _ rfl
              unfold sv faceT at q2
              have d0 := cells_row q2 0 _ rfl
              have d1 := cells_row q2 1 _ rfl
              have d2 := cells_row q2 2 _ rfl
              have d3 := cells_row q2 3 _ rfl
              have d4 := cells_row q2 4 _ rfl
              have d5 := cells_row q2 5 _ rfl
              simp only [List.getElem_toArray, List.getElem_cons_succ, List.getElem_cons_zero] at c0 c1 c2 c3 c4 c5 d0 d1 d2 d3 d4 d5
              clear q1 q2
              go_wp2
              refine bodyPost_ret (results_cell_row rfl _ _ (w.heap.size + 1) 32 _ _ _ rfl (store_six HI.out.1.2.2.1) Try.underlying32 rfl (by kernel_rfl)) rfl ?_
              have hb2 := HB2.out
              have hver := HVER.out
              refine ⟨_, rfl, ?_, HI.out.1.1.trans (fr_six _ _ _ _ _ _ _ _) (fun i hi e => by omega)⟩
              have ff := fr_six wr (w.heap.size + 1) (.string ⟨#[102, 97, 99, 101]⟩) (.int .i64 s.number) (.int .i64 ver) (.slice ta tn tc) (.slice fa fn fc) (.slice xa xn xc)
              have hne : ∀ k, Made b2 N2 k → ¬ k = w.heap.size + 1 := fun k h => by have := h.1; omega
              unfold tableE
              rw [← HM4.out, ← HNF.out]
              exact ⟨_, _, _, b2, N2, by rw [← hver]; rfl, by simp [faceT], by omega, HI.out.2.2.2.2.2.1, Nat.le_trans HI.out.2.2.2.2.2.2 ff.size, HI.out.2.1.fr ff hne, HI.out.2.2.2.1.fr ff hne, HI.out.2.2.2.2.1.fr ff (fun k hk e => by have := HI.out.2.2.2.2.2.1; omega)⟩

theorem OwnTab.tabled {s : KS} {w w' : World} {v : Value} (h : OwnTab w w' (tableE s) v) : Tabled (fun k => w.heap.size ≤ k) w' (tableE s) v := by
  obtain ⟨tv, fv, pv, b, N, rfl, hn, hb, hN, _, ht, hf, hp⟩ := h
  refine ⟨_, _, _, rfl, hn, ?_, ?_, ?_⟩
  · exact (ht.it.aliases (by simp [tableE, aliasesE]; omega) (aliasesE_short s _)).mono (fun k _ h => by have := h.1; omega)
  · exact (hf.it.faults (by simp [tableE, faultsE]; omega) (faultsE_short _)).mono (fun k _ h => by have := h.1; omega)
  · exact (hp.procs (by simp [tableE, procsE]; omega) (procsE_short _ _ _)).mono (fun k _ h => by have := h.1; omega)

theorem table_any (s : KS) (v : Value) (w : World) (h : SShows w s v) (hs : smallE s = true) :
    Calls Try.prog 14 #[v] w fun e w' => ∃ v', e = .returned v' ∧ Tabled (fun k => w.heap.size ≤ k) w' (tableE s) v' ∧ Fr (fun _ => False) w w' :=
  (table_own s v w h hs).mono fun _ _ ⟨v', e, ht, f⟩ => ⟨v', e, ht.tabled, f⟩

end Go.Proofs.Ytdaabgnfgdojhaa
