/-
  Post: the flights in memory; Len, has, Look.
-/
import Derived.Test.YtojfabhbkdddpaaPoDef
namespace Go.Proofs.Ytojfabhbkdddpaa
open Go.RowKit
set_option maxRecDepth 100000

/-- A flight, told without memory. -/
abbrev PF := Int × List UInt8 × Bool
structure Fl where
  t : Int
  l : List UInt8
  s : Bool
  v : Value
def Fl.p (x : Fl) : PF := (x.t, x.l, x.s)
def Fl.cells (x : Fl) : List Value := [.int .i64 x.t, x.v, .bool x.s]
theorem Fl.len (x : Fl) : x.cells.length = 3 := rfl
theorem fl_length (L : List Fl) : (L.flatMap Fl.cells).length = L.length * 3 := flat_len Fl.cells 3 Fl.len L

theorem Try.infoFl : (Try.prog.info? 37).map (fun i => (i.zero, i.size, i.bytes)) = some (some (.agg #[.int .i64 0, .slice none 0 0, .bool false]), 3, 40) := by kernel_rfl

/-- The slice v owns a row of flights alone. -/
def FlOwn (w : World) (B : Nat) (v : Value) (L : List Fl) : Prop := w.ownsRow B 37 3 v L.length (L.flatMap Fl.cells)

/-- The blocks of a post. -/
def Pb (b : Nat) (v : Value) (L : List Fl) (k : Nat) : Prop := k = b ∨ v.ownBlock = some k ∨ ∃ x ∈ L, x.v.ownBlock = some k

/-- A post in memory, above B. -/
structure PostIn (w : World) (B b : Nat) (v : Value) (L : List Fl) : Prop where
  here : w.heap[b]? = some (.cells #[v] 27 (0, 0))
  bB : B ≤ b
  row : FlOwn w B v L
  own : ∀ x ∈ L, Own w x.v x.l ∧ x.l.length ≤ 100000 ∧ ∀ k, x.v.ownBlock = some k → B ≤ k
  ap : L.Pairwise (fun x y => ∀ k, x.v.ownBlock = some k → y.v.ownBlock ≠ some k)
  many : L.length ≤ 400

theorem row_type {w : World} {base : Nat} {e : TypeId} {size : Nat} {v : Value} {n : Nat} {xs : List Value} (h : w.ownsRow base e size v n xs) {k : Nat} (hk : v.ownBlock = some k) : ∃ cs, w.heap[k]? = some (.cells cs e (0, 0)) := by
  rcases h.2 with ⟨rfl, _⟩ | ⟨g, cap, cur, rfl, _, hg, _⟩
  · cases hk
  · simp [Value.ownBlock] at hk
    subst hk
    exact ⟨cur, hg⟩

section
variable {w w' : World} {B b : Nat} {v : Value} {L : List Fl}

theorem PostIn.lt (h : PostIn w B b v L) : ∀ k, Pb b v L k → B ≤ k ∧ k < w.heap.size := by
  intro k hk
  rcases hk with rfl | hk | ⟨x, hx, hk⟩
  · exact ⟨h.bB, vt_lt h.here⟩
  · exact World.ownsRow.lt h.row k hk
  · obtain ⟨h1, _, h3⟩ := h.own x hx
    exact ⟨h3 k hk, h1.lt k hk⟩

theorem PostIn.fr {S : Nat → Prop} (h : PostIn w B b v L) (f : Fr S w w') (hS : ∀ k, Pb b v L k → ¬ S k) : PostIn w' B b v L where
  here := crow_kept h.here f (hS _ (.inl rfl))
  bB := h.bB
  row := ownsRow_fr h.row f (fun k hk => hS k (.inr (.inl hk)))
  own := fun x hx => by
    obtain ⟨h1, h2, h3⟩ := h.own x hx
    exact ⟨h1.fr f (fun k hk => hS k (.inr (.inr ⟨x, hx, hk⟩))), h2, h3⟩
  ap := h.ap
  many := h.many

theorem PostIn.fr0 (h : PostIn w B b v L) (f : Fr (fun _ => False) w w') : PostIn w' B b v L := h.fr f (fun _ _ h => h)

/-- The row's block is not the post's, nor one of bytes. -/
theorem PostIn.rowNe (h : PostIn w B b v L) {k : Nat} (hk : v.ownBlock = some k) : k ≠ b ∧ ∀ x ∈ L, x.v.ownBlock ≠ some k := by
  obtain ⟨cs, hc⟩ := row_type h.row hk
  refine ⟨?_, fun x hx e => ?_⟩
  · rintro rfl
    rw [h.here] at hc
    simp at hc
  · obtain ⟨cs', hc'⟩ := row_type (h.own x hx).1 e
    rw [hc] at hc'
    simp at hc'
theorem PostIn.bytesNe (h : PostIn w B b v L) {x : Fl} (hx : x ∈ L) {k : Nat} (hk : x.v.ownBlock = some k) : k ≠ b := by
  obtain ⟨cs, hc⟩ := row_type (h.own x hx).1 hk
  rintro rfl
  rw [h.here] at hc
  simp at hc

theorem PostIn.shape (h : PostIn w B b v L) : ∃ a c, v = .slice a L.length c := slice_of_own h.row
theorem PostIn.cell (h : PostIn w B b v L) : w.cell? ⟨b, 0, none⟩ = some v := crow h.here 0 _ rfl

/-- Where a flight lies. -/
theorem PostIn.at (h : PostIn w B b v L) {i : Nat} (hi : i < L.length) : ∃ g cap, v = .slice (some ⟨g, 0, none⟩) L.length cap ∧ L.length ≤ cap ∧
    w.cell? ⟨g, i * 3, none⟩ = some (.int .i64 L[i].t) ∧ w.cell? ⟨g, i * 3 + 1, none⟩ = some L[i].v ∧ w.cell? ⟨g, i * 3 + 2, none⟩ = some (.bool L[i].s) := by
  have hr : w.ownsRow B 37 3 v L.length (L.flatMap Fl.cells) := h.row
  have hcl := fun g (e : v.ownBlock = some g) => World.ownsRow.cells (h := hr) (g := g) e
  rcases hr.2 with ⟨_, hz⟩ | ⟨g, cap, cur, rfl, hbb, hgg, hle, _⟩
  · omega
  · have hx : L[i]? = some L[i] := by simp
    have hplain : ∀ j, (⟨g, 0, none⟩ : Addr).add (3 * i + j) = ⟨g, i * 3 + j, none⟩ := by
      intro j
      unfold Addr.add
      rw [Nat.mul_comm]
      split <;> simp_all
    have key : ∀ j u, j < 3 → L[i].cells[j]? = some u → w.cell? ⟨g, i * 3 + j, none⟩ = some u := by
      intro j u hj hu
      have h1 := hcl g rfl (3 * i + j) u (by rw [flat_at Fl.cells 3 Fl.len L i j _ hx hj]; exact hu)
      rw [hplain] at h1
      exact h1
    exact ⟨g, cap, rfl, hle, key 0 _ (by omega) rfl, key 1 _ (by omega) rfl, key 2 _ (by omega) rfl⟩

/-- Another state of the post: it changed only what was its own. -/
structure PNew (w w' : World) (B b : Nat) (v : Value) (L : List Fl) (v' : Value) (L' : List Fl) : Prop where
  inn : PostIn w' B b v' L'
  fr : Fr (Pb b v L) w w'
  new : ∀ k, Pb b v' L' k → Pb b v L k ∨ w.heap.size ≤ k

theorem PNew.same (h : PostIn w B b v L) (f : Fr (fun _ => False) w w') : PNew w w' B b v L v L := ⟨h.fr0 f, f.mono (fun _ _ h => h.elim), fun _ hk => .inl hk⟩

theorem PNew.trans {w'' : World} {v' v'' : Value} {L' L'' : List Fl} (h : PNew w w' B b v L v' L') (k : PNew w' w'' B b v' L' v'' L'') : PNew w w'' B b v L v'' L'' where
  inn := k.inn
  fr := h.fr.trans k.fr (fun i hi hp => by
    rcases h.new i hp with h | h
    · exact h
    · omega)
  new := fun i hi => by
    rcases k.new i hi with h1 | h1
    · exact h.new i h1
    · exact .inr (Nat.le_trans h.fr.size h1)
end

abbrev ptr (b : Nat) : Value := .pointer (some ⟨b, 0, none⟩)
abbrev nilP : Value := .pointer none
def hasB (i : Int) (n : Nat) : Bool := decide (0 ≤ i ∧ i < n)

section
variable {w : World} {B b : Nat} {v : Value} {L : List Fl}

theorem len_any (h : PostIn w B b v L) : Calls Try.prog 12 #[ptr b] w fun e w' => e = .returned (.int .i64 L.length) ∧ w = w' := by
  obtain ⟨a, c, rfl⟩ := h.shape
  have hc := h.cell
  clear h
  go_enter Try.func12, Try.ntmps12
  go_wp2_with fail
  go_ret
  exact ⟨rfl, rfl⟩
theorem len_nil (w : World) : Calls Try.prog 12 #[nilP] w fun e w' => e = .returned (.int .i64 0) ∧ w = w' := by
  go_enter Try.func12, Try.ntmps12
  go_wp2_with fail
  go_ret
  exact ⟨rfl, rfl⟩

theorem has_of (p : Value) (n : Nat) (i : Int) (w : World) (hn : Calls Try.prog 12 #[p] w fun e w' => e = .returned (.int .i64 n) ∧ w = w') :
    Calls Try.prog 16 #[p, .int .i64 i] w fun e w' => e = .returned (.bool (hasB i n)) ∧ w = w' := by
  by_cases h0 : 0 ≤ i
  · go_enter Try.func16, Try.ntmps16
    go_wp2_with fail
    refine hn.mono ?_
    rintro e w1 ⟨rfl, rfl⟩
    go_wp2_with fail
    go_ret
    refine ⟨?_, rfl⟩
    simp [hasB, h0]
  · have hr : hasB i n = false := by simp [hasB, h0]
    rw [hr]
    go_enter Try.func16, Try.ntmps16
    go_wp2_with fail
    go_ret
    exact ⟨rfl, rfl⟩
theorem has_any (h : PostIn w B b v L) (i : Int) : Calls Try.prog 16 #[ptr b, .int .i64 i] w fun e w' => e = .returned (.bool (hasB i L.length)) ∧ w = w' := has_of _ _ _ _ (len_any h)
theorem has_nil (w : World) (i : Int) : Calls Try.prog 16 #[nilP, .int .i64 i] w fun e w' => e = .returned (.bool false) ∧ w = w' := by
  have := has_of nilP 0 i w (len_nil w)
  rw [show hasB i 0 = false from by unfold hasB; simp] at this
  exact this

/-- What there is at an index. -/
def lookP (R : List PF) (i : Int) : PF := if hasB i R.length then R.getD i.toNat (0, [], false) else (0, [], false)

set_option maxHeartbeats 4000000 in
theorem look_none (p : Value) (i : Int) (w : World) (hn : Calls Try.prog 16 #[p, .int .i64 i] (w.alloc (oFl 0 nilS false)) fun e w' => e = .returned (.bool false) ∧ (w.alloc (oFl 0 nilS false)) = w') :
    Calls Try.prog 13 #[p, .int .i64 i] w fun e w' => e = .returned (.tuple #[flv 0 nilS false, .bool false]) ∧ Fr (fun _ => False) w w' := by
  have q0 := heap_alloc_new w (oFl 0 nilS false)
  have f0 : Fr (fun _ => False) w (w.alloc (oFl 0 nilS false)) := (Fr.refl _ _).alloc _
  go_enter Try.func13, Try.ntmps13
  go_wp2_with fail
  generalize w.alloc (oFl 0 nilS false) = w0 at *
  generalize hg : w.heap.size = g at *
  have HG := Lib.hid hg; clear hg
  refine hn.mono ?_
  rintro e w1 ⟨rfl, rfl⟩
  obtain ⟨c0, c1, c2⟩ := cell3 q0
  have z0 := vfree q0
  go_wp2_with fail
  refine bodyPost_ret (results_cell_tmp_row rfl _ _ g 37 #[.int .i64 0, nilS, .bool false] (0, 0) _ rfl ?hq Try.underlying37 rfl (by kernel_rfl)) rfl ?_
  case hq => exact cst3 q0
  exact ⟨rfl, cfr3 (b := g) _ _ _ f0 (fun h => by have := HG.out; omega)⟩
theorem look_nil (i : Int) (w : World) : Calls Try.prog 13 #[nilP, .int .i64 i] w fun e w' => e = .returned (.tuple #[flv 0 nilS false, .bool false]) ∧ Fr (fun _ => False) w w' :=
  look_none nilP i w (has_nil _ i)

set_option maxHeartbeats 4000000 in
theorem look_some (h : PostIn w B b v L) (i : Nat) (hi : i < L.length) : Calls Try.prog 13 #[ptr b, .int .i64 i] w fun e w' => ∃ v', e = .returned (.tuple #[flv L[i].t v' L[i].s, .bool true]) ∧ Made v' L[i].l w w' := by
  have q0 := heap_alloc_new w (oFl 0 nilS false)
  have f0 : Fr (fun _ => False) w (w.alloc (oFl 0 nilS false)) := (Fr.refl _ _).alloc _
  have hb : hasB i L.length = true := by unfold hasB; simp; omega
  obtain ⟨x, hx⟩ : ∃ x, x = L[i] := ⟨_, rfl⟩
  rw [← hx]
  have HX := Lib.hid hx; clear hx
  have H0 := h.fr0 f0
  go_enter Try.func13, Try.ntmps13
  go_wp2_with fail
  generalize w.alloc (oFl 0 nilS false) = w0 at *
  generalize hg : w.heap.size = g at *
  have HG := Lib.hid hg; clear hg
  refine (has_any H0 i).mono ?_
  rintro e w1 ⟨rfl, rfl⟩
  rw [hb]
  clear hb
  obtain ⟨gr, cap, rfl, hle, d0, d1, d2⟩ := H0.at hi
  rw [← HX.out] at d0 d1 d2
  have hc := H0.cell
  have ho := H0.own x (by rw [HX.out]; exact List.getElem_mem hi)
  obtain ⟨ax, cx, hvx⟩ := slice_of_own ho.1
  have HO := Lib.hid ho
  have HH := Lib.hid H0
  have HV := Lib.hid hvx
  have Q0 := Lib.hid q0
  have F0 := Lib.hid f0
  clear H0 h ho q0 f0
  rw [hvx] at d1
  clear hvx
  have hiL : (i : Int) < L.length := by omega
  go_wp2_with fail
  refine (apart_any x.t x.s (.slice ax x.l.length cx) x.l _ (by rw [← HV.out]; exact HO.out.1.sees) (by have := HO.out.2.1; omega)).mono ?_
  rintro e w1 ⟨v', rfl, hm⟩
  have q1 := crow_kept Q0.out hm.2.1 (fun h => h)
  obtain ⟨c0, c1, c2⟩ := cell3 q1
  have z0 := vfree q1
  obtain ⟨a', c', rfl⟩ := slice_of_own hm.1
  have HM := Lib.hid hm; clear hm
  have Q1 := Lib.hid q1; clear q1
  clear d0 d1 d2 hc
  go_wp2_with fail
  refine bodyPost_ret (results_cell_tmp_row rfl _ _ g 37 #[.int .i64 x.t, .slice a' x.l.length c', .bool x.s] (0, 0) _ rfl ?hq Try.underlying37 rfl (by kernel_rfl)) rfl ?_
  case hq => exact cst3 Q1.out
  have fY := cfr3 (b := g) (.int .i64 x.t) (.slice a' x.l.length c') (.bool x.s) (Fr.refl (fun k => k = g) w1) (fun _ => rfl)
  have hsz := F0.out.size
  have hgw := HG.out
  have hg0 := vt_lt Q0.out
  refine ⟨_, rfl, HM.out.1.fr fY (fun k hk e => ?_), (F0.out.trans HM.out.2.1 (fun _ _ h => h)).trans fY (fun k hk e => ?_), fun k hk => ?_⟩
  · have := HM.out.2.2 k hk; omega
  · omega
  · have := HM.out.2.2 k hk; omega

theorem lookP_in {R : List PF} {i : Int} {n : Nat} (hn : R.length = n) (h : hasB i n = true) : ∃ j : Nat, i = j ∧ ∃ hj : j < R.length, lookP R i = R[j] := by
  have hh := h
  unfold hasB at h
  simp at h
  refine ⟨i.toNat, by omega, by omega, ?_⟩
  subst hn
  unfold lookP
  rw [if_pos hh]
  simp [List.getD, show i.toNat < R.length by omega]
theorem lookP_out {R : List PF} {i : Int} {n : Nat} (hn : R.length = n) (h : hasB i n = false) : lookP R i = (0, [], false) := by
  unfold lookP
  rw [hn, h]
  rfl

theorem look_out (h : PostIn w B b v L) (i : Int) (hb : hasB i L.length = false) : Calls Try.prog 13 #[ptr b, .int .i64 i] w fun e w' => e = .returned (.tuple #[flv 0 nilS false, .bool false]) ∧ Fr (fun _ => False) w w' := by
  refine look_none (ptr b) i w ?_
  have := has_any (h.fr0 ((Fr.refl (fun _ => False) w).alloc (oFl 0 nilS false))) i
  rw [hb] at this
  exact this

theorem look_any (h : PostIn w B b v L) (i : Int) : Calls Try.prog 13 #[ptr b, .int .i64 i] w fun e w' => ∃ v', e = .returned (.tuple #[flv (lookP (L.map Fl.p) i).1 v' (lookP (L.map Fl.p) i).2.2, .bool (hasB i L.length)]) ∧ Made v' (lookP (L.map Fl.p) i).2.1 w w' := by
  have hl : (L.map Fl.p).length = L.length := List.length_map ..
  cases hb : hasB i L.length with
  | true =>
    obtain ⟨j, rfl, hj, e⟩ := lookP_in hl hb
    have hj' : j < L.length := by omega
    rw [e, List.getElem_map]
    exact look_some h j hj'
  | false =>
    rw [lookP_out hl hb]
    refine (look_none (ptr b) i w ?_).mono ?_
    · have := has_any (h.fr0 ((Fr.refl (fun _ => False) w).alloc (oFl 0 nilS false))) i
      rw [hb] at this
      exact this
    · rintro e w1 ⟨rfl, f⟩
      exact ⟨_, rfl, World.ownsRow_nil _ _ _ _, f, fun k hk => by cases hk⟩
end
end Go.Proofs.Ytojfabhbkdddpaa
