/-
  package lex: what each step of Split does to what is still to be read; slices of tokens.
-/
import Derived.Test.YtdhjelilmccmbaaLexToken
import Derived.Test.YtdhjelilmccmbaaGen
namespace Go.Proofs.Ytdhjelilmccmbaa
open Go.RowKit

/-- The tokens of what stands from an offset on. -/
def lexB (s : ByteArray) (at_ : Nat) : Res := lexA at_ (s.data.toList.drop at_)

def restOf (s : ByteArray) (at_ : Nat) : List UInt8 := s.data.toList.drop (at_ + 1)

theorem drop_at (s : ByteArray) (at_ : Nat) (h : at_ < s.size) : s.data.toList.drop at_ = s[at_]'h :: restOf s at_ := by
  have hl : s.data.toList.length = s.size := rfl
  unfold restOf
  rw [List.drop_eq_getElem_cons (by rw [hl]; exact h)]
  rfl

theorem lexB_end (s : ByteArray) : lexB s s.size = .ok [⟨0, s.size, []⟩] := by
  unfold lexB
  have hl : s.data.toList.length = s.size := rfl
  rw [List.drop_of_length_le (by rw [hl]; exact Nat.le_refl _), lexA_nil]

theorem lexB_skip (s : ByteArray) (at_ n : Nat) (h : at_ < s.size) (hs : step (s[at_]'h) (restOf s at_) = .skip n) : lexB s at_ = lexB s (at_ + n) := by
  unfold lexB
  rw [drop_at s at_ h, lexA_cons, hs]
  simp only
  rw [← drop_at s at_ h, List.drop_drop]

theorem lexB_tok (s : ByteArray) (at_ k n : Nat) (h : at_ < s.size) (hs : step (s[at_]'h) (restOf s at_) = .tok k n) : lexB s at_ = (lexB s (at_ + n)).pre [⟨k, at_, (s.data.toList.drop at_).take n⟩] := by
  unfold lexB
  rw [drop_at s at_ h, lexA_cons, hs]
  simp only
  rw [← drop_at s at_ h, List.drop_drop]

theorem lexB_bad (s : ByteArray) (at_ e : Nat) (h : at_ < s.size) (hs : step (s[at_]'h) (restOf s at_) = .bad e) : lexB s at_ = .err at_ e := by
  unfold lexB
  rw [drop_at s at_ h, lexA_cons, hs]

theorem step_fits (s : ByteArray) (at_ : Nat) (h : at_ < s.size) : 1 ≤ (step (s[at_]'h) (restOf s at_)).len ∧ at_ + (step (s[at_]'h) (restOf s at_)).len ≤ s.size := by
  have h1 := step_len (s[at_]'h) (restOf s at_)
  have hl : s.data.toList.length = s.size := rfl
  have h2 : (restOf s at_).length = s.size - (at_ + 1) := by unfold restOf; rw [List.length_drop, hl]
  omega

theorem step_sep (c : UInt8) (l : List UInt8) (h : isSep c = true) : step c l = .skip 1 := by unfold step; rw [if_pos h]
theorem step_hash (c : UInt8) (l : List UInt8) (h0 : isSep c = false) (h : isHash c = true) : step c l = .skip (cnt isLine (c :: l)) := by unfold step; rw [h0, h]; rfl

theorem step_bad (c : UInt8) (l : List UInt8) (e : Nat) (h : step c l = .bad e) : e = 13 ∨ e = 22 := by
  unfold step numStep at h
  split at h
  · cases h
  · split at h
    · cases h
    · split at h
      · cases h
      · split at h
        · split at h
          · cases h; exact .inr rfl
          · cases h
        · split at h
          · cases h
          · cases h; exact .inl rfl

theorem step_skip (c : UInt8) (l : List UInt8) (n : Nat) (h : step c l = .skip n) (h0 : isSep c = false) (h1 : isHash c = false) : False := by
  unfold step numStep at h
  rw [h0, h1] at h
  simp only [Bool.false_eq_true, if_false] at h
  split at h
  · cases h
  · split at h
    · split at h <;> cases h
    · split at h <;> cases h

theorem step_kind (c : UInt8) (l : List UInt8) (k n : Nat) (h : step c l = .tok k n) : 1 ≤ k ∧ k ≤ 3 := by
  unfold step numStep at h
  split at h
  · cases h
  · split at h
    · cases h
    · split at h
      · cases h; omega
      · split at h
        · split at h
          · cases h
          · cases h; omega
        · split at h
          · cases h; omega
          · cases h

/-- What token answers: as the step says. -/
theorem token_step (s : ByteArray) (at_ : Nat) (hlt : at_ < s.size) (hs : s.size ≤ 4000) (w : World) (h0 : isSep (s[at_]'hlt) = false) (h1 : isHash (s[at_]'hlt) = false) (r : Value)
    (hr : r = match step (s[at_]'hlt) (restOf s at_) with
      | .tok k n => .tuple #[tokv k at_ (s.extract at_ (at_ + n)), .int .i64 0]
      | .bad e => .tuple #[tokv 0 0 ⟨#[]⟩, .int .i64 (e : Nat)]
      | .skip _ => undef) :
    Calls Try.prog 18 #[.string s, .int .i64 at_] w fun e w' => e = .returned r ∧ Fr (fun _ => False) w w' := by
  unfold step at hr
  rw [h0, h1] at hr
  simp only [Bool.false_eq_true, if_false] at hr
  rw [← drop_at s at_ hlt] at hr
  by_cases a : isLet (s[at_]'hlt) = true
  · rw [if_pos a] at hr
    subst hr
    exact token_name s at_ hlt hs w a
  · have a' : isLet (s[at_]'hlt) = false := by simpa using a
    rw [if_neg a] at hr
    by_cases b : isDig (s[at_]'hlt) = true
    · rw [if_pos b] at hr
      refine token_num s at_ hlt hs w a' b r ?_
      rw [hr]
      by_cases hb : 10 < cnt isDig (s.data.toList.drop at_) ∨ 1 < cnt isDig (s.data.toList.drop at_) ∧ ((s[at_]'hlt).toNat : Int) = 48
      · rw [numStep, if_pos hb]; rfl
      · rw [numStep, if_neg hb]
    · have b' : isDig (s[at_]'hlt) = false := by simpa using b
      rw [if_neg b] at hr
      by_cases d : isSign (s[at_]'hlt) = true
      · rw [if_pos d] at hr
        subst hr
        exact token_sign s at_ hlt hs w a' b' d
      · have d' : isSign (s[at_]'hlt) = false := by simpa using d
        rw [if_neg d] at hr
        subst hr
        exact token_none s at_ hlt w a' b' d'

theorem token_tok (s : ByteArray) (at_ k n : Nat) (hlt : at_ < s.size) (hs : s.size ≤ 4000) (w : World) (h0 : isSep (s[at_]'hlt) = false) (h1 : isHash (s[at_]'hlt) = false) (hst : step (s[at_]'hlt) (restOf s at_) = .tok k n) :
    Calls Try.prog 18 #[.string s, .int .i64 at_] w fun e w' => e = .returned (.tuple #[tokv k at_ (s.extract at_ (at_ + n)), .int .i64 0]) ∧ Fr (fun _ => False) w w' :=
  token_step s at_ hlt hs w h0 h1 _ (by rw [hst])

theorem token_bad (s : ByteArray) (at_ e : Nat) (hlt : at_ < s.size) (hs : s.size ≤ 4000) (w : World) (h0 : isSep (s[at_]'hlt) = false) (h1 : isHash (s[at_]'hlt) = false) (hst : step (s[at_]'hlt) (restOf s at_) = .bad e) :
    Calls Try.prog 18 #[.string s, .int .i64 at_] w fun z w' => z = .returned (.tuple #[tokv 0 0 ⟨#[]⟩, .int .i64 (e : Nat)]) ∧ Fr (fun _ => False) w w' :=
  token_step s at_ hlt hs w h0 h1 _ (by rw [hst])

/-- A token's cells. -/
def tokCells (t : Tok) : List Value := [.int .u8 t.kind, .int .i64 t.pos, .string ⟨t.text.toArray⟩]

/-- The slice v owns a row of tokens alone. -/
def TokOwn (w : World) (v : Value) (ts : List Tok) : Prop := w.ownsRow 0 37 3 v ts.length (ts.flatMap tokCells)

theorem Try.infoTok : (Try.prog.info? 37).map (fun i => (i.zero, i.size, i.bytes)) = some (some (.agg #[.int .u8 0, .int .i64 0, .string ⟨#[]⟩]), 3, 32) := by kernel_rfl

theorem TokOwn.nil (w : World) : TokOwn w (.slice none 0 0) [] := World.ownsRow_nil w 0 37 3

theorem TokOwn.fr {S : Nat → Prop} {w w' : World} {v : Value} {l : List Tok} (h : TokOwn w v l) (hf : Fr S w w') (hS : ∀ k, v.ownBlock = some k → ¬ S k) : TokOwn w' v l := by
  refine ⟨h.1, ?_⟩
  rcases h.2 with hn | ⟨g, cap, cur, rfl, hb, hgg, rest⟩
  · exact .inl hn
  · refine .inr ⟨g, cap, cur, rfl, hb, ?_, rest⟩
    rw [hf.block g (Array.getElem?_eq_some_iff.1 hgg).1 (hS g rfl)]
    exact hgg

theorem TokOwn.lt {w : World} {v : Value} {l : List Tok} (h : TokOwn w v l) : ∀ k, v.ownBlock = some k → k < w.heap.size := fun k hk => (World.ownsRow.lt h k hk).2

theorem tok_one (t : Tok) : ∀ u ∈ tokCells t, u.oneCell' = true := by
  intro u hu
  simp [tokCells] at hu
  rcases hu with rfl | rfl | rfl <;> rfl

theorem first_three {P : Program} {w : World} {g : Nat} {x y z : Value} {t : TypeId} {fr : Nat × Nat} (h : w.heap[g]? = some (.cells #[x, y, z] t fr)) (c : Nat) :
    (Builtin.firstCells 3 1 (.slice (some ⟨g, 0, none⟩) 1 c)).run P w = .ok #[x, y, z] w := by
  have := run_firstCells_some (P := P) w 3 1 ⟨g, 0, none⟩ 1 c [x, y, z] rfl (by
    intro j v hj
    have hplain : (⟨g, 0, none⟩ : Addr).add j = ⟨g, j, none⟩ := by unfold Addr.add; split <;> simp_all
    rw [hplain, cell_of_row w g j #[x, y, z] t fr h]
    simpa using hj)
  simpa using this

theorem snoc_toks (ts : List Tok) (t : Tok) : ts.flatMap tokCells ++ tokCells t = (ts ++ [t]).flatMap tokCells := by simp [List.flatMap_append]

/-- Append of one token onto a row of tokens that is owned alone. -/
theorem wpList_append_tok {w : World} {ops : Array Oper} {rest : List Oper} {o : Oper} {a : Act} {Q : Exit → Act → World → Prop} (hgd : o.guard = none) (s x : Operand)
    (ho : o.op = .call { callee := .builtin .append, args := #[s, x], argTypes := #[26, 26] })
    (v : Value) (acc : List Tok) (hs : a.eval s = v) (hown : TokOwn w v acc) (g c : Nat) (t : Tok) (hx : a.eval x = .slice (some ⟨g, 0, none⟩) 1 c) (cs : Array Value) (fr : Nat × Nat)
    (hg : w.heap[g]? = some (.cells cs 37 fr)) (hcs : cs.toList = tokCells t) (hl : acc.length ≤ 4000)
    (h : ∀ v' w', TokOwn w' v' (acc ++ [t]) → w.grownBy w' v.ownBlock → (v'.ownBlock = v.ownBlock ∨ v'.ownBlock = some w.heap.size) → wpList Try.prog ops Q rest (a.put o.dst v') w') : wpList Try.prog ops Q (o :: rest) a w := by
  obtain ⟨i0, hi, hz0, hz1, hz2⟩ := info_parts Try.infoTok
  have hcs' : cs = #[.int .u8 t.kind, .int .i64 t.pos, .string ⟨t.text.toArray⟩] := by
    apply Array.ext'
    rw [hcs]
    rfl
  subst hcs'
  refine wpList_append_sep (P := Try.prog) hgd s x 26 26 ho 0 37 i0 (.agg #[.int .u8 0, .int .i64 0, .string ⟨#[]⟩]) 3 32 Try.underlying26 _ Try.underlying26 (.inr ⟨_, rfl⟩) hi hz0 hz1 hz2 rfl (by decide)
    v acc.length _ hs hown _ 1 (tokCells t) hx (fun w => lenOf_slice _ _ _ _) rfl (first_three hg c) (first_three (w := w.drew) hg c) (tok_one t) (by unfold maxLen; omega) (by omega) (Nat.zero_le _) ?_
  intro v' w' h1 h2 h3
  refine h v' w' ?_ h2 h3
  unfold TokOwn
  rw [← snoc_toks, List.length_append]
  exact h1


end Go.Proofs.Ytdhjelilmccmbaa
