/-
  A cache as its callers see it: what was put, and which blocks are its own.
-/
import Derived.Test.YtefijimijmjahaaCachePutL
namespace Go.Proofs.Ytefijimijmjahaa
open Go.RowKit
set_option maxRecDepth 100000

theorem CacheIn.cap {w : World} {b most : Nat} {ps : List Ent} {F : Nat → Prop} {sb ab : Nat} {ov : Value} (h : CacheIn w b most ps F sb ab ov) : CacheIn w b most ps (fun k => F k ∧ k < w.heap.size) sb ab ov where
  here := h.here
  seen := h.seen
  answers := h.answers
  order := h.order
  rows := fun p hp => by
    obtain ⟨h1, h2, h3⟩ := h.rows p hp
    exact ⟨h1, h2, fun k hk => ⟨⟨(h3 k hk).1, (h3 k hk).2.1⟩, (h3 k hk).2⟩⟩
  nodup := h.nodup
  most1 := h.most1
  most2 := h.most2
  inF := ⟨⟨h.inF.1, h.blt⟩, ⟨h.inF.2.1, h.seen.lt⟩, ⟨h.inF.2.2.1, h.answers.lt⟩, fun k hk => ⟨h.inF.2.2.2 k hk, h.olt k hk⟩⟩
  apart := h.apart

/-- An answer: its numbers and its bytes. -/
abbrev An := Int × Int × List UInt8
def Ent.an (p : Ent) : IdN × An := (p.id, p.e, p.r, p.l)

/-- The cache at block b, of which these answers were put, oldest first. -/
def CacheAt (w : World) (b most : Nat) (qs : List (IdN × An)) (F : Nat → Prop) : Prop := ∃ ps sb ab ov, ps.map Ent.an = qs ∧ CacheIn w b most ps F sb ab ov

/-- What is looked up among the last answers. -/
def lookA (most : Nat) (qs : List (IdN × An)) (x : IdN) : Option An := ((qs.drop (qs.length - most)).find? (fun p => decide (p.1 = x))).map Prod.snd

theorem find_an (x : IdN) : ∀ ps : List Ent, (lookE ps x).map (fun p => (p.e, p.r, p.l)) = ((ps.map Ent.an).find? (fun p => decide (p.1 = x))).map Prod.snd
  | [] => rfl
  | p :: ps => by
    have ih := find_an x ps
    unfold lookE at *
    rw [List.map_cons, List.find?_cons, List.find?_cons]
    by_cases h : p.id = x
    · simp [Ent.an, h]
    · simp only [Ent.an, h, decide_false]
      exact ih

section
variable {w w' : World} {b most : Nat} {qs : List (IdN × An)} {F S : Nat → Prop}

theorem ids_an (ps : List Ent) : (ps.map Ent.an).map Prod.fst = ps.map Ent.id := by simp [Ent.an]

theorem CacheAt.fr (h : CacheAt w b most qs F) (f : Fr S w w') (hS : ∀ k, F k → ¬ S k) : CacheAt w' b most qs F := by
  obtain ⟨ps, sb, ab, ov, e, h⟩ := h
  exact ⟨ps, sb, ab, ov, e, h.fr f hS⟩
theorem CacheAt.fr0 (h : CacheAt w b most qs F) (f : Fr (fun _ => False) w w') : CacheAt w' b most qs F := h.fr f (fun _ _ h => h)
theorem CacheAt.mono {G : Nat → Prop} (h : CacheAt w b most qs F) (hG : ∀ k, F k → G k) : CacheAt w b most qs G := by
  obtain ⟨ps, sb, ab, ov, e, h⟩ := h
  exact ⟨ps, sb, ab, ov, e, h.mono hG⟩

theorem CacheAt.cap (h : CacheAt w b most qs F) : CacheAt w b most qs (fun k => F k ∧ k < w.heap.size) := by
  obtain ⟨ps, sb, ab, ov, e, h⟩ := h
  exact ⟨ps, sb, ab, ov, e, h.cap⟩

theorem cnew_any (m : Int) (w : World) : Calls Try.prog 8 #[.int .i64 m] w fun e w' => ∃ b, e = .returned (.pointer (some ⟨b, 0, none⟩)) ∧ CacheAt w' b (clampM m) [] (fun k => w.heap.size ≤ k ∧ k < w'.heap.size) ∧ Fr (fun _ => False) w w' := by
  refine (new_any m w).mono ?_
  rintro e w' ⟨b, sb, ab, rfl, h, f⟩
  exact ⟨b, rfl, ⟨[], sb, ab, _, rfl, h.cap⟩, f⟩

theorem cseen_any (h : CacheAt w b most qs F) (x : IdN) (hx : IdOk x) : Calls Try.prog 11 #[.pointer (some ⟨b, 0, none⟩), kv x] w fun e w' => e = .returned (.bool (decide (x ∈ qs.map Prod.fst))) ∧ Fr (fun _ => False) w w' := by
  obtain ⟨ps, sb, ab, ov, rfl, h⟩ := h
  rw [ids_an]
  exact seen_any w h x hx

theorem ckept_any (h : CacheAt w b most qs F) : Calls Try.prog 14 #[.pointer (some ⟨b, 0, none⟩)] w fun e w' => e = .returned (.int .i64 (min most qs.length : Nat)) ∧ w' = w := by
  obtain ⟨ps, sb, ab, ov, rfl, h⟩ := h
  have := kept_any w h
  rw [keptE_length] at this
  simpa using this

theorem cmany_any (h : CacheAt w b most qs F) : Calls Try.prog 15 #[.pointer (some ⟨b, 0, none⟩)] w fun e w' => e = .returned (.int .i64 (qs.length : Nat)) ∧ w' = w := by
  obtain ⟨ps, sb, ab, ov, rfl, h⟩ := h
  have := many_any w h
  simpa using this

/-- What Get answers: the answer that is stored, or nothing. -/
theorem cget_any (h : CacheAt w b most qs F) (x : IdN) (hx : IdOk x) : Calls Try.prog 9 #[.pointer (some ⟨b, 0, none⟩), kv x] w fun y w' =>
    ∃ v', y = .returned (.tuple #[av ((lookA most qs x).getD (0, 0, [])).1 ((lookA most qs x).getD (0, 0, [])).2.1 v', .bool (lookA most qs x).isSome]) ∧ Made v' ((lookA most qs x).getD (0, 0, [])).2.2 w w' ∧ ((lookA most qs x).getD (0, 0, [])).2.2.length ≤ 140737488351232 := by
  obtain ⟨ps, sb, ab, ov, rfl, h⟩ := h
  have e0 : lookA most (ps.map Ent.an) x = (lookE (keptE most ps) x).map (fun p => (p.e, p.r, p.l)) := by
    rw [find_an]
    unfold lookA keptE
    rw [List.map_drop, List.length_map]
  rw [e0]
  refine (get_any w h x hx).mono ?_
  rintro y w' ⟨e, r, l, v, v', B, rfl, hm, hl, ⟨rfl, h1, rfl, rfl, rfl⟩ | ⟨rfl, h1⟩⟩
  · rw [h1]
    exact ⟨v', rfl, hm, by simp⟩
  · rw [h1]
    exact ⟨v', rfl, hm, hl⟩

theorem cput_new (h : CacheAt w b most qs F) (x : IdN) (hx : IdOk x) (hn : x ∉ qs.map Prod.fst) (e r : Int) (v : Value) (l : List UInt8) (hs : Sees w v l) (hl : l.length ≤ 140737488351232) :
    Calls Try.prog 12 #[.pointer (some ⟨b, 0, none⟩), kv x, av e r v] w fun y w' => y = .returned (.bool true) ∧ CacheAt w' b most (qs ++ [(x, e, r, l)]) (fun k => (F k ∨ w.heap.size ≤ k) ∧ k < w'.heap.size) ∧ Fr F w w' := by
  obtain ⟨ps, sb, ab, ov, rfl, h⟩ := h
  rw [ids_an] at hn
  refine (put_any w h x hx e r v l hs hl).mono ?_
  rintro y w' ⟨rfl, ⟨h1, _⟩ | ⟨_, u, ov', h2, f⟩⟩
  · exact absurd h1 hn
  · refine ⟨by rw [decide_eq_true hn], ⟨_, sb, ab, ov', ?_, h2.cap⟩, f⟩
    simp [Ent.an]

theorem cput_old (h : CacheAt w b most qs F) (x : IdN) (hx : IdOk x) (hn : x ∈ qs.map Prod.fst) (e r : Int) (v : Value) (l : List UInt8) (hs : Sees w v l) (hl : l.length ≤ 140737488351232) :
    Calls Try.prog 12 #[.pointer (some ⟨b, 0, none⟩), kv x, av e r v] w fun y w' => y = .returned (.bool false) ∧ Fr (fun _ => False) w w' := by
  obtain ⟨ps, sb, ab, ov, rfl, h⟩ := h
  rw [ids_an] at hn
  refine (put_any w h x hx e r v l hs hl).mono ?_
  rintro y w' ⟨rfl, ⟨_, f⟩ | ⟨h1, _⟩⟩
  · exact ⟨by rw [decide_eq_false (fun h => h hn)], f⟩
  · exact absurd hn h1
/-- What is put where it may be. -/
def putA (qs : List (IdN × An)) (x : IdN) (a : An) : List (IdN × An) := if x ∈ qs.map Prod.fst then qs else qs ++ [(x, a)]

/-- What a Put leaves: the cache, its blocks, and what is changed. -/
def CPut (w : World) (b most : Nat) (qs : List (IdN × An)) (F : Nat → Prop) (w' : World) : Prop := ∃ F', CacheAt w' b most qs F' ∧ (∀ k, F' k → F k ∨ w.heap.size ≤ k) ∧ Fr F w w'

theorem cput_any (h : CacheAt w b most qs F) (x : IdN) (hx : IdOk x) (e r : Int) (v : Value) (l : List UInt8) (hs : Sees w v l) (hl : l.length ≤ 140737488351232) :
    Calls Try.prog 12 #[.pointer (some ⟨b, 0, none⟩), kv x, av e r v] w fun y w' => y = .returned (.bool (decide (x ∉ qs.map Prod.fst))) ∧ CPut w b most (putA qs x (e, r, l)) F w' := by
  by_cases hn : x ∈ qs.map Prod.fst
  · refine (cput_old h x hx hn e r v l hs hl).mono ?_
    rintro y w' ⟨rfl, f⟩
    refine ⟨by rw [decide_eq_false (fun h => h hn)], F, ?_, fun k hk => .inl hk, f.mono (fun _ _ h => h.elim)⟩
    rw [putA, if_pos hn]
    exact h.fr0 f
  · refine (cput_new h x hx hn e r v l hs hl).mono ?_
    rintro y w' ⟨rfl, h', f⟩
    refine ⟨by rw [decide_eq_true hn], (fun k => (F k ∨ w.heap.size ≤ k) ∧ k < w'.heap.size), ?_, fun k hk => hk.1, f⟩
    rw [putA, if_neg hn]
    exact h'

/-- 'c.Put(id, reply.Answer())' in a region that draws its order: the answer is made, then it is put. -/
def PAS (w : World) (b most : Nat) (qs' : List (IdN × An)) (F : Nat → Prop) (ans : Value) : List Value → World → Prop
  | [], wx => Fr (fun _ => False) w wx
  | [v1], wx => v1 = ans ∧ Fr (fun _ => False) w wx
  | [_, _], wx => CPut w b most qs' F wx
  | _, _ => False

theorem PAS.fr {w wx : World} {b most : Nat} {qs' : List (IdN × An)} {F : Nat → Prop} {ans : Value} : ∀ {c : List Value}, PAS w b most qs' F ans c wx → Fr F w wx
  | [], h => h.mono (fun _ _ h => h.elim)
  | [_], h => h.2.mono (fun _ _ h => h.elim)
  | [_, _], ⟨_, _, _, h⟩ => h
  | _ :: _ :: _ :: _, h => h.elim

theorem CPut.base {w0 w : World} {b most : Nat} {qs : List (IdN × An)} {F : Nat → Prop} {w' : World} (f : Fr (fun _ => False) w0 w) (h : CPut w b most qs F w') : CPut w0 b most qs F w' := by
  obtain ⟨F', h1, h2, h3⟩ := h
  exact ⟨F', h1, fun k hk => (h2 k hk).imp id (fun h => Nat.le_trans f.size h), (f.mono (fun _ _ h => h.elim)).trans h3 (fun _ _ h => h)⟩
end
end Go.Proofs.Ytefijimijmjahaa
