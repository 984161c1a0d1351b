/-
  A cache in memory, and New, Kept, Many.
-/
import Derived.Test.YtefijimijmjahaaCacheApart
import Derived.Test.YtefijimijmjahaaCacheDel
namespace Go.Proofs.Ytefijimijmjahaa
open Go.RowKit
set_option maxRecDepth 100000

/-- A stored answer: its call's number, the answer, and where its bytes lie. -/
structure Ent where
  id : IdN
  e : Int
  r : Int
  l : List UInt8
  v : Value

def Ent.mk' (p : Ent) : IdN × Value := (p.id, av p.e p.r p.v)
def keptE (most : Nat) (ps : List Ent) : List Ent := ps.drop (ps.length - most)

theorem keptE_length (most : Nat) (ps : List Ent) : (keptE most ps).length = min most ps.length := by
  unfold keptE
  rw [List.length_drop]
  omega

/-- The cache at block b: what was put, oldest first; its blocks are all in F. -/
structure CacheIn (w : World) (b most : Nat) (ps : List Ent) (F : Nat → Prop) (sb ab : Nat) (ov : Value) : Prop where
  here : w.heap[b]? = some (.cells #[.int .i64 most, .map (some sb), .map (some ab), ov] 53 (0, 0))
  seen : MapAt w sb (ps.map fun p => (p.id, .agg #[]))
  answers : MapAt w ab ((keptE most ps).map Ent.mk')
  order : w.ownsRow 0 36 2 ov (keptE most ps).length (idCells ((keptE most ps).map Ent.id))
  rows : ∀ p ∈ keptE most ps, Sees w p.v p.l ∧ p.l.length ≤ 140737488351232 ∧ ∀ k, p.v.ownBlock = some k → F k ∧ k < w.heap.size ∧ k ≠ b ∧ k ≠ sb ∧ k ≠ ab ∧ ov.ownBlock ≠ some k
  nodup : (ps.map Ent.id).Nodup
  most1 : 1 ≤ most
  most2 : most ≤ 256
  inF : F b ∧ F sb ∧ F ab ∧ ∀ k, ov.ownBlock = some k → F k
  apart : b ≠ sb ∧ b ≠ ab ∧ sb ≠ ab ∧ ∀ k, ov.ownBlock = some k → k ≠ b ∧ k ≠ sb ∧ k ≠ ab

section
variable {w w' : World} {b most : Nat} {ps : List Ent} {F S : Nat → Prop} {sb ab : Nat} {ov : Value}

theorem ownsRow_fr {base : Nat} {e : TypeId} {size n : Nat} {v : Value} {xs : List Value} (h : w.ownsRow base e size v n xs) (f : Fr S w w') (hS : ∀ k, v.ownBlock = some k → ¬ S k) : w'.ownsRow base e size v n xs := by
  refine ⟨h.1, ?_⟩
  rcases h.2 with hn | ⟨g, cap, cur, rfl, hb, hgg, rest⟩
  · exact .inl hn
  · refine .inr ⟨g, cap, cur, rfl, hb, ?_, rest⟩
    rw [f.block g (Array.getElem?_eq_some_iff.1 hgg).1 (hS g rfl)]
    exact hgg

theorem CacheIn.blt (h : CacheIn w b most ps F sb ab ov) : b < w.heap.size := (Array.getElem?_eq_some_iff.1 h.here).1
theorem CacheIn.olt (h : CacheIn w b most ps F sb ab ov) : ∀ k, ov.ownBlock = some k → k < w.heap.size := fun k hk => (World.ownsRow.lt h.order k hk).2

theorem CacheIn.fr (h : CacheIn w b most ps F sb ab ov) (f : Fr S w w') (hS : ∀ k, F k → ¬ S k) : CacheIn w' b most ps F sb ab ov where
  here := crow_kept h.here f (hS _ h.inF.1)
  seen := h.seen.fr f (hS _ h.inF.2.1)
  answers := h.answers.fr f (hS _ h.inF.2.2.1)
  order := ownsRow_fr h.order f (fun k hk => hS _ (h.inF.2.2.2 k hk))
  rows := fun p hp => by
    obtain ⟨h1, h2, h3⟩ := h.rows p hp
    exact ⟨h1.fr f (fun k hk => hS _ (h3 k hk).1), h2, fun k hk => by
      obtain ⟨k1, k2, k3⟩ := h3 k hk
      exact ⟨k1, Nat.lt_of_lt_of_le k2 f.size, k3⟩⟩
  nodup := h.nodup
  most1 := h.most1
  most2 := h.most2
  inF := h.inF
  apart := h.apart

theorem CacheIn.fr0 (h : CacheIn w b most ps F sb ab ov) (f : Fr (fun _ => False) w w') : CacheIn w' b most ps F sb ab ov := h.fr f (fun _ _ h => h)

theorem CacheIn.mono {G : Nat → Prop} (h : CacheIn w b most ps F sb ab ov) (hG : ∀ k, F k → G k) : CacheIn w b most ps G sb ab ov where
  here := h.here
  seen := h.seen
  answers := h.answers
  order := h.order
  rows := fun p hp => by
    obtain ⟨h1, h2, h3⟩ := h.rows p hp
    exact ⟨h1, h2, fun k hk => ⟨hG _ (h3 k hk).1, (h3 k hk).2⟩⟩
  nodup := h.nodup
  most1 := h.most1
  most2 := h.most2
  inF := ⟨hG _ h.inF.1, hG _ h.inF.2.1, hG _ h.inF.2.2.1, fun k hk => hG _ (h.inF.2.2.2 k hk)⟩
  apart := h.apart

theorem CacheIn.cells (h : CacheIn w b most ps F sb ab ov) : w.cell? ⟨b, 0, none⟩ = some (.int .i64 most) ∧ w.cell? ⟨b, 1, none⟩ = some (.map (some sb)) ∧ w.cell? ⟨b, 2, none⟩ = some (.map (some ab)) ∧ w.cell? ⟨b, 3, none⟩ = some ov :=
  cell4 h.here

set_option maxHeartbeats 4000000 in
theorem kept_any (w : World) (h : CacheIn w b most ps F sb ab ov) : Calls Try.prog 14 #[.pointer (some ⟨b, 0, none⟩)] w fun e w' => e = .returned (.int .i64 (keptE most ps).length) ∧ w' = w := by
  obtain ⟨c0, c1, c2, c3⟩ := h.cells
  have hl := h.answers.len Try.underlying27 3
  rw [List.length_map] at hl
  go_enter Try.func14, Try.ntmps14
  go_wp2_with fail
  go_ret
  exact ⟨rfl, rfl⟩

set_option maxHeartbeats 4000000 in
theorem many_any (w : World) (h : CacheIn w b most ps F sb ab ov) : Calls Try.prog 15 #[.pointer (some ⟨b, 0, none⟩)] w fun e w' => e = .returned (.int .i64 ps.length) ∧ w' = w := by
  obtain ⟨c0, c1, c2, c3⟩ := h.cells
  have hl := h.seen.len Try.underlying51 3
  rw [List.length_map] at hl
  go_enter Try.func15, Try.ntmps15
  go_wp2_with fail
  go_ret
  exact ⟨rfl, rfl⟩
end

theorem kept_nil (w : World) : Calls Try.prog 14 #[.pointer none] w fun e w' => e = .returned (.int .i64 0) ∧ w' = w := by
  go_enter Try.func14, Try.ntmps14
  go_wp2_with fail
  go_ret
  exact ⟨rfl, rfl⟩
theorem many_nil (w : World) : Calls Try.prog 15 #[.pointer none] w fun e w' => e = .returned (.int .i64 0) ∧ w' = w := by
  go_enter Try.func15, Try.ntmps15
  go_wp2_with fail
  go_ret
  exact ⟨rfl, rfl⟩

def clampM (m : Int) : Nat := (min (max m 1) 256).toNat

set_option maxHeartbeats 4000000 in
theorem new_any (m : Int) (w : World) : Calls Try.prog 8 #[.int .i64 m] w fun e w' => ∃ b sb ab, e = .returned (.pointer (some ⟨b, 0, none⟩)) ∧ CacheIn w' b (clampM m) [] (fun k => w.heap.size ≤ k) sb ab (.slice none 0 0) ∧ Fr (fun _ => False) w w' := by
  have hmx : ∀ (w : World) (ty : TypeId), (Builtin.max_ #[3, 3] ty #[.int .i64 m, .int .i64 1]).run Try.prog w = .ok (.int .i64 (max m 1)) w := by
    intro w ty
    have e : (if 1 > m then (1 : Int) else m) = max m 1 := by split <;> omega
    simp only [Builtin.max_, List.foldlM, Builtin.max2, e]
    rfl
  have hmn : ∀ (w : World) (ty : TypeId) (x : Int), (Builtin.min_ #[3, 3] ty #[.int .i64 x, .int .i64 256]).run Try.prog w = .ok (.int .i64 (min x 256)) w := by
    intro w ty x
    have e : (if 256 < x then (256 : Int) else x) = min x 256 := by split <;> omega
    simp only [Builtin.min_, List.foldlM, Builtin.min2, e]
    rfl
  have hmm := @run_makeMap Try.prog
  go_enter Try.func8, Try.ntmps8
  go_wp2_with fail
  go_ret
  have ec : min (max m 1) 256 = ((clampM m : Nat) : Int) := by unfold clampM; omega
  rw [ec]
  have hc1 : 1 ≤ clampM m := by unfold clampM; omega
  have hc2 : clampM m ≤ 256 := by unfold clampM; omega
  have f0 : Fr (fun _ => False) w (w.alloc (Obj.map #[] 0)) := (Fr.refl _ _).alloc _
  have m0 := mapAt_new w
  have f1 : Fr (fun _ => False) (w.alloc (Obj.map #[] 0)) ((w.alloc (Obj.map #[] 0)).alloc (Obj.map #[] 0)) := (Fr.refl _ _).alloc _
  have m1 := mapAt_new (w.alloc (Obj.map #[] 0))
  have f2 : Fr (fun _ => False) ((w.alloc (Obj.map #[] 0)).alloc (Obj.map #[] 0)) (((w.alloc (Obj.map #[] 0)).alloc (Obj.map #[] 0)).alloc (Obj.cells #[.int .i64 (clampM m : Nat), .map (some w.heap.size), .map (some (w.heap.size + 1)), .slice none 0 0] 53 (0, 0))) := (Fr.refl _ _).alloc _
  have q := heap_alloc_new ((w.alloc (Obj.map #[] 0)).alloc (Obj.map #[] 0)) (Obj.cells #[.int .i64 (clampM m : Nat), .map (some w.heap.size), .map (some (w.heap.size + 1)), .slice none 0 0] 53 (0, 0))
  rw [World.size_alloc, World.size_alloc] at q
  rw [World.size_alloc] at m1
  refine ⟨w.heap.size + 1 + 1, w.heap.size, w.heap.size + 1, rfl, ⟨q, ?_, ?_, by simpa [keptE, idCells] using World.ownsRow_nil _ 0 36 2, by simp [keptE], by simp, hc1, hc2, ⟨by omega, by omega, by omega, fun k hk => by cases hk⟩, ⟨by omega, by omega, by omega, fun k hk => by cases hk⟩⟩, (f0.trans f1 (fun _ _ h => h)).trans f2 (fun _ _ h => h)⟩
  · exact m0.fr (f1.trans f2 (fun _ _ h => h)) (fun h => h)
  · simpa [keptE] using m1.fr f2 (fun h => h)
end Go.Proofs.Ytefijimijmjahaa
