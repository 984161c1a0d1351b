/-
  Put of a cache.
-/
import Derived.Test.YtefijimijmjahaaCacheGet
namespace Go.Proofs.Ytefijimijmjahaa
open Go.RowKit
set_option maxRecDepth 100000

theorem Fr.comp {S T U : Nat → Prop} {a b c : World} (h : Fr S a b) (k : Fr T b c) (hS : ∀ i, S i → U i) (hT : ∀ i, T i → U i) : Fr U a c :=
  (h.mono (fun i _ hi => hS i hi)).trans k (fun i _ hi => hT i hi)

theorem row_shape {w : World} {base : Nat} {e : TypeId} {size n : Nat} {v : Value} {xs : List Value} (h : w.ownsRow base e size v n xs) (hn : 0 < n) : ∃ g cap, v = .slice (some ⟨g, 0, none⟩) n cap ∧ n ≤ cap := by
  rcases h.2 with ⟨_, rfl⟩ | ⟨g, cap, cur, rfl, _, _, hle, _⟩
  · omega
  · exact ⟨g, cap, rfl, hle⟩

set_option maxHeartbeats 4000000 in
theorem remove_any (w : World) (b most sb ab : Nat) (ov : Value) (p : Ent) (ks : List Ent) (here : w.heap[b]? = some (.cells #[.int .i64 most, .map (some sb), .map (some ab), ov] 53 (0, 0)))
    (ans : MapAt w ab ((p :: ks).map Ent.mk')) (ord : w.ownsRow 0 36 2 ov (ks.length + 1) (idCells ((p :: ks).map Ent.id))) (hn : ((p :: ks).map Ent.id).Nodup) (hne : b ≠ ab) (ho : ∀ k, ov.ownBlock = some k → k ≠ b ∧ k ≠ ab) :
    Calls Try.prog 18 #[.pointer (some ⟨b, 0, none⟩)] w fun e w' => e = .returned (.tuple #[]) ∧ ∃ ov', w'.heap[b]? = some (.cells #[.int .i64 most, .map (some sb), .map (some ab), ov'] 53 (0, 0)) ∧
      MapAt w' ab (ks.map Ent.mk') ∧ w'.ownsRow 0 36 2 ov' ks.length (idCells (ks.map Ent.id)) ∧ ov'.ownBlock = ov.ownBlock ∧ Fr (fun k => k = b ∨ k = ab ∨ ov.ownBlock = some k) w w' := by
  obtain ⟨g, cap, rfl, hcap⟩ := row_shape ord (by omega)
  obtain ⟨hgb, hga⟩ := ho g rfl
  have hid : IdOk p.id := by
    obtain ⟨_, _, _, _, hok⟩ := ans
    exact hok (p.id, av p.e p.r p.v) (by simp [Ent.mk'])
  have hcells := World.ownsRow.cells (g := g) ord rfl
  have hd0 : w.cell? ⟨g, 0, none⟩ = some (.int .u16 p.id.1) := by have := hcells 0 (.int .u16 p.id.1) rfl; simpa [Addr.add] using this
  have hd1 : w.cell? ⟨g, 1, none⟩ = some (.int .u16 p.id.2) := by have := hcells 1 (.int .u16 p.id.2) rfl; simpa [Addr.add] using this
  clear hcells
  obtain ⟨w1, hdel, ans1, f1, hs1⟩ := MapAt.del (w := w.drew) (ans.fr (Fr.refl (fun _ => False) w).drew (fun h => h)) (by rw [ans_keys]; exact hn) hid Try.underlying27 0
  have hflt : ((p :: ks).map Ent.mk').filter (fun q => decide (q.1 ≠ p.id)) = ks.map Ent.mk' := by
    rw [List.map_cons, List.filter_cons_of_neg (by simp [Ent.mk'])]
    refine List.filter_eq_self.2 (fun q hq => ?_)
    obtain ⟨k, hk, rfl⟩ := List.mem_map.1 hq
    rw [List.map_cons, List.nodup_cons] at hn
    have : k.id ≠ p.id := fun e => hn.1 (e ▸ List.mem_map.2 ⟨k, hk, rfl⟩)
    exact decide_eq_true this
  rw [hflt] at ans1
  obtain ⟨c0, c1, c2, c3⟩ := cell4 here
  have here1 : w1.heap[b]? = some (.cells #[.int .i64 most, .map (some sb), .map (some ab), .slice (some ⟨g, 0, none⟩) (ks.length + 1) cap] 53 (0, 0)) := crow_kept (w0 := w.drew) here f1 hne
  have ord1 : w1.ownsRow 0 36 2 (.slice (some ⟨g, 0, none⟩) (ks.length + 1) cap) (ks.length + 1) (idCells ((p :: ks).map Ent.id)) := ownsRow_fr (w := w.drew) ord f1 (fun k hk e => by simp [Value.ownBlock] at hk; omega)
  have F1 : Fr (fun k => k = ab) w w1 := ((Fr.refl (fun k => k = ab) w).drew).trans f1 (fun _ _ h => h)
  have HF1 := Lib.hid F1
  have HO1 := Lib.hid ord1
  have HA1 := Lib.hid ans1
  have HH1 := Lib.hid here1
  clear F1 f1 ord1 ans1 hflt hs1 ho hn
  obtain ⟨d0, d1, d2, d3⟩ := cell4 here1
  clear here1 here ord ans
  unfold kv at hdel
  go_enter Try.func18, Try.ntmps18
  go_wp2_with fail
  go_region
  go_wp2_with fail
  have hd := delete1_any g cap p.id (ks.map Ent.id) w1 (by rw [List.length_map]; exact HO1.out)
  rw [List.length_map] at hd
  refine hd.mono ?_
  clear hd
  rintro e w2 ⟨rfl, ord2, f2⟩
  have here2 := crow_kept HH1.out f2 (by omega)
  obtain ⟨e0, e1, e2, e3⟩ := cell4 here2
  have z2 : ∀ i, w2.frozen? ⟨b, i, none⟩ = false := by intro i; simp [World.frozen?, here2]
  have HO2 := Lib.hid ord2
  have HF2 := Lib.hid f2
  have HH2 := Lib.hid here2
  clear ord2 f2 here2
  go_wp2_with fail
  go_end0
  have f3 : Fr (fun k => k = b) w2 (w2.setCell ⟨b, 3, none⟩ (.slice (some ⟨g, 0, none⟩) ks.length cap)) := (Fr.refl (fun k => k = b) w2).set1 3 _
  refine ⟨rfl, .slice (some ⟨g, 0, none⟩) ks.length cap, ?_, ?_, ?_, rfl, ?_⟩
  · rw [heap_setCell_same _ b 3 _ _ _ HH2.out]; rfl
  · exact (HA1.out.fr HF2.out (by omega)).fr f3 (by omega)
  · exact ownsRow_fr HO2.out f3 (fun k hk e => by simp [Value.ownBlock] at hk; omega)
  · exact (HF1.out.comp HF2.out (U := fun k => k = ab ∨ k = g) (fun _ h => .inl h) (fun _ h => .inr h)).comp f3 (fun i h => by rcases h with h | h; exact .inr (.inl h); exact .inr (.inr (by rw [h]; rfl))) (fun _ h => .inl h)
end Go.Proofs.Ytefijimijmjahaa
