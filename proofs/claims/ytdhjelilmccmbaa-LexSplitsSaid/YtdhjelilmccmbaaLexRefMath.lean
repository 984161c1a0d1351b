/-
  The document's answer for a text's tokens: its Split answers the same tokens, or the same error and where.
-/
import Derived.Test.YtdhjelilmccmbaaLexSplit
namespace Go.Proofs.Ytdhjelilmccmbaa
open Go.RowKit

/-- A token's cells, as the document's answer has them. -/
def rtokCells (t : Tok) : List Value := [.int .i64 t.kind, .int .i64 t.pos, .int .i64 t.text.length]

def RTokOwn (w : World) (v : Value) (ts : List Tok) : Prop := w.ownsRow 0 34 3 v ts.length (ts.flatMap rtokCells)

theorem Try.infoRTok : (Try.prog.info? 34).map (fun i => (i.zero, i.size, i.bytes)) = some (some (.agg #[.int .i64 0, .int .i64 0, .int .i64 0]), 3, 24) := by kernel_rfl

theorem RTokOwn.nil (w : World) : RTokOwn w (.slice none 0 0) [] := World.ownsRow_nil w 0 34 3

theorem RTokOwn.fr {S : Nat → Prop} {w w' : World} {v : Value} {l : List Tok} (h : RTokOwn w v l) (hf : Fr S w w') (hS : ∀ k, v.ownBlock = some k → ¬ S k) : RTokOwn w' v l := by
  refine ⟨h.1, ?_⟩
  rcases h.2 with hn | ⟨g, cap, cur, rfl, hb, hgg, rest⟩
  · exact .inl hn
  · refine .inr ⟨g, cap, cur, rfl, hb, ?_, rest⟩
    rw [hf.block g (Array.getElem?_eq_some_iff.1 hgg).1 (hS g rfl)]
    exact hgg

theorem RTokOwn.lt {w : World} {v : Value} {l : List Tok} (h : RTokOwn w v l) : ∀ k, v.ownBlock = some k → k < w.heap.size := fun k hk => (World.ownsRow.lt h k hk).2

theorem rtok_one (t : Tok) : ∀ u ∈ rtokCells t, u.oneCell' = true := by
  intro u hu
  simp [rtokCells] at hu
  rcases hu with rfl | rfl | rfl <;> rfl

theorem rsnoc_toks (ts : List Tok) (t : Tok) : ts.flatMap rtokCells ++ rtokCells t = (ts ++ [t]).flatMap rtokCells := by simp [List.flatMap_append]

theorem wpList_append_rtok {w : World} {ops : Array Oper} {rest : List Oper} {o : Oper} {a : Act} {Q : Exit → Act → World → Prop} (hgd : o.guard = none) (s x : Operand)
    (ho : o.op = .call { callee := .builtin .append, args := #[s, x], argTypes := #[30, 30] })
    (v : Value) (acc : List Tok) (hs : a.eval s = v) (hown : RTokOwn w v acc) (g c : Nat) (t : Tok) (hx : a.eval x = .slice (some ⟨g, 0, none⟩) 1 c) (cs : Array Value) (fr : Nat × Nat)
    (hg : w.heap[g]? = some (.cells cs 34 fr)) (hcs : cs.toList = rtokCells t) (hl : acc.length ≤ 4000)
    (h : ∀ v' w', RTokOwn w' v' (acc ++ [t]) → w.grownBy w' v.ownBlock → (v'.ownBlock = v.ownBlock ∨ v'.ownBlock = some w.heap.size) → wpList Try.prog ops Q rest (a.put o.dst v') w') : wpList Try.prog ops Q (o :: rest) a w := by
  obtain ⟨i0, hi, hz0, hz1, hz2⟩ := info_parts Try.infoRTok
  have hcs' : cs = #[.int .i64 t.kind, .int .i64 t.pos, .int .i64 t.text.length] := by
    apply Array.ext'
    rw [hcs]
    rfl
  subst hcs'
  refine wpList_append_sep (P := Try.prog) hgd s x 30 30 ho 0 34 i0 (.agg #[.int .i64 0, .int .i64 0, .int .i64 0]) 3 24 Try.underlying30 _ Try.underlying30 (.inr ⟨_, rfl⟩) hi hz0 hz1 hz2 rfl (by decide)
    v acc.length _ hs hown _ 1 (rtokCells t) hx (fun w => lenOf_slice _ _ _ _) rfl (first_three hg c) (first_three (w := w.drew) hg c) (rtok_one t) (by unfold maxLen; omega) (by omega) (Nat.zero_le _) ?_
  intro v' w' h1 h2 h3
  refine h v' w' ?_ h2 h3
  unfold RTokOwn
  rw [← rsnoc_toks, List.length_append]
  exact h1

def RTold (w w' : World) (v : Value) (ts : List Tok) : Prop := RTokOwn w' v ts ∧ Fr (fun _ => False) w w' ∧ ∀ k, v.ownBlock = some k → w.heap.size ≤ k

theorem RTold.append {w wr w' w3 : World} {v v' : Value} {acc : List Tok} {t : Tok} (h : RTold w wr v acc) (f : Fr (fun _ => False) wr w') (hown' : RTokOwn w3 v' (acc ++ [t])) (hg : w'.grownBy w3 v.ownBlock)
    {n : Nat} (hc : v'.ownBlock = v.ownBlock ∨ v'.ownBlock = some n) (hn : wr.heap.size ≤ n) : RTold w w3 v' (acc ++ [t]) := by
  have F := h.2.1.trans f (fun _ _ h => h)
  refine ⟨hown', F.trans (Fr.of_grown hg) (fun i hi e => by have := h.2.2 i e.symm; omega), ?_⟩
  intro k hk
  rcases hc with e | e
  · exact h.2.2 k (e ▸ hk)
  · rw [e] at hk; cases hk; exact Nat.le_trans h.2.1.size hn

def RefPost (w : World) (r : Res) (e : Ending) (w' : World) : Prop :=
  ∃ v, e = .returned (.tuple #[v, .int .i64 (r.where_ : Nat), .int .i64 (r.code : Nat)]) ∧ RTold w w' v r.toks

theorem getD_drop (l : List UInt8) (k j : Nat) : (l.drop k).getD j 0 = l.getD (k + j) 0 := by simp [List.getD]

theorem getD_byte (s : ByteArray) (k : Nat) (h : k < s.size) : s.data.toList.getD k 0 = s[k]'h := by
  have hl : s.data.toList.length = s.size := rfl
  rw [List.getD_eq_getElem?_getD, List.getElem?_eq_getElem (by rw [hl]; exact h)]
  rfl

/-- The bytes from k up to q are fit. -/
def Fit (p : UInt8 → Bool) (s : ByteArray) (k q : Nat) : Prop := ∀ j, k ≤ j → j < q → p (s.data.toList.getD j 0) = true

theorem Fit.one {p : UInt8 → Bool} {s : ByteArray} {k : Nat} (h : k < s.size) (hp : p (s[k]'h) = true) : Fit p s k (k + 1) := by
  intro j h0 hj
  obtain rfl : j = k := by omega
  rw [getD_byte s j h]
  exact hp

theorem Fit.more {p : UInt8 → Bool} {s : ByteArray} {k q : Nat} (hf : Fit p s k q) (h : q < s.size) (hp : p (s[q]'h) = true) : Fit p s k (q + 1) := by
  intro j h0 hj
  by_cases e : j < q
  · exact hf j h0 e
  · obtain rfl : j = q := by omega
    rw [getD_byte s _ h]
    exact hp

theorem Fit.stop {p : UInt8 → Bool} {s : ByteArray} {k q : Nat} (hf : Fit p s k q) (hk : k ≤ q) (h : q < s.size) (hp : p (s[q]'h) = false) : q = k + cnt p (s.data.toList.drop k) := by
  have hl : s.data.toList.length = s.size := rfl
  have e := cnt_stop p (s.data.toList.drop k) (q - k) (by rw [List.length_drop, hl]; omega) (fun j hj => by rw [getD_drop]; exact hf _ (by omega) (by omega)) (by rw [getD_drop, show k + (q - k) = q by omega, getD_byte s _ h]; exact hp)
  omega

theorem Fit.all {p : UInt8 → Bool} {s : ByteArray} {k q : Nat} (hf : Fit p s k q) (hk : k ≤ q) (h : q = s.size) : q = k + cnt p (s.data.toList.drop k) := by
  have hl : s.data.toList.length = s.size := rfl
  have e := cnt_all p (s.data.toList.drop k) (fun j hj => by rw [List.length_drop, hl] at hj; rw [getD_drop]; exact hf _ (by omega) (by omega))
  rw [List.length_drop, hl] at e
  omega

def signL : List UInt8 := [123, 125, 40, 41, 91, 93, 61, 58, 59, 44]
/-- The kind behind j signs that were looked at. -/
def signK (c : UInt8) (kd j : Nat) : Nat := if (signL.take j).contains c then 3 else kd

theorem signK_zero (c : UInt8) (kd : Nat) : signK c kd 0 = kd := rfl
theorem signK_all (c : UInt8) (kd j : Nat) (hj : j = 10) : signK c kd j = if isSign c then 3 else kd := by subst hj; rfl

theorem contains_snoc (l : List UInt8) (c d : UInt8) : (l ++ [d]).contains c = (l.contains c || (c == d)) := by
  simp [Bool.beq_eq_decide_eq]

theorem signK_hit (c : UInt8) (kd j : Nat) (hj : j < signL.length) (h : signL[j]'hj = c) : signK c kd (j + 1) = 3 := by
  unfold signK
  rw [List.take_succ_eq_append_getElem hj, contains_snoc, h]
  simp

theorem signK_miss (c : UInt8) (kd j : Nat) (hj : j < signL.length) (h : signL[j]'hj ≠ c) : signK c kd (j + 1) = signK c kd j := by
  unfold signK
  rw [List.take_succ_eq_append_getElem hj, contains_snoc]
  have : (c == signL[j]) = false := by simpa using (Ne.symm h)
  rw [this, Bool.or_false]

theorem sign_not (c : UInt8) (h : isSign c = true) : isLet c = false ∧ isDig c = false := by
  simp [isSign] at h
  rcases h with rfl | rfl | rfl | rfl | rfl | rfl | rfl | rfl | rfl | rfl <;> decide

theorem not_sign (c : UInt8) (h : isLet c = true ∨ isDig c = true) : isSign c = false := by
  cases hs : isSign c with
  | false => rfl
  | true =>
    have := sign_not c hs
    rcases h with h | h
    · rw [h] at this; cases this.1
    · rw [h] at this; cases this.2

theorem let_not_dig (c : UInt8) (h : isLet c = true) : isDig c = false := by
  simp only [isLet, isDig, decide_eq_true_eq, decide_eq_false_iff_not] at *
  omega

theorem step_let (c : UInt8) (l : List UInt8) (h0 : isSep c = false) (h1 : isHash c = false) (h2 : isLet c = true) : step c l = .tok 1 (cnt isNam (c :: l)) := by
  unfold step; rw [h0, h1, h2]; rfl
theorem step_dig (c : UInt8) (l : List UInt8) (h0 : isSep c = false) (h1 : isHash c = false) (h2 : isLet c = false) (h3 : isDig c = true) : step c l = numStep c (cnt isDig (c :: l)) := by
  unfold step; rw [h0, h1, h2, h3]; rfl
theorem step_sign (c : UInt8) (l : List UInt8) (h0 : isSep c = false) (h1 : isHash c = false) (h2 : isLet c = false) (h3 : isDig c = false) (h4 : isSign c = true) : step c l = .tok 3 1 := by
  unfold step; rw [h0, h1, h2, h3, h4]; rfl
theorem step_none (c : UInt8) (l : List UInt8) (h0 : isSep c = false) (h1 : isHash c = false) (h2 : isLet c = false) (h3 : isDig c = false) (h4 : isSign c = false) : step c l = .bad 13 := by
  unfold step; rw [h0, h1, h2, h3, h4]; rfl

/-- The step of a token that reaches to q. -/
theorem lexB_to (s : ByteArray) (k kd q : Nat) (h : k < s.size) (hq : k ≤ q) (hs : step (s[k]'h) (restOf s k) = .tok kd (q - k)) : lexB s k = (lexB s q).pre [⟨kd, k, (s.data.toList.drop k).take (q - k)⟩] := by
  have := lexB_tok s k kd _ h hs
  rwa [show k + (q - k) = q by omega] at this

theorem rtok_cells (s : ByteArray) (k kd q : Nat) (hk : k ≤ q) (hq : q ≤ s.size) : rtokCells ⟨kd, k, (s.data.toList.drop k).take (q - k)⟩ = [.int .i64 kd, .int .i64 k, .int .i64 ((q : Int) - (k : Int))] := by
  have hl : s.data.toList.length = s.size := rfl
  unfold rtokCells
  rw [List.length_take, List.length_drop, hl, Nat.min_eq_left (by omega)]
  simp only [List.cons.injEq, Value.int.injEq, true_and, and_true]
  omega

end Go.Proofs.Ytdhjelilmccmbaa
