/-
  What stands when a new answer has been put.
-/
import Derived.Test.YtefijimijmjahaaCachePut
namespace Go.Proofs.Ytefijimijmjahaa
open Go.RowKit
set_option maxRecDepth 100000

theorem keptE_room {most : Nat} {ps : List Ent} (q : Ent) (h : ps.length < most) : keptE most (ps ++ [q]) = keptE most ps ++ [q] := by
  unfold keptE
  have e1 : (ps ++ [q]).length - most = 0 := by simp; omega
  have e2 : ps.length - most = 0 := by omega
  rw [e1, e2]
  rfl

theorem keptE_full {most : Nat} {ps : List Ent} (q : Ent) (h : most ≤ ps.length) (h1 : 1 ≤ most) : ∃ p, p ∈ ps ∧ keptE most ps ++ [q] = p :: keptE most (ps ++ [q]) := by
  unfold keptE
  have hlt : ps.length - most < ps.length := by omega
  have e1 : (ps ++ [q]).length - most = ps.length - most + 1 := by simp; omega
  refine ⟨ps[ps.length - most], List.getElem_mem _, ?_⟩
  rw [e1, List.drop_eq_getElem_cons hlt, List.cons_append, List.drop_append_of_le_length (by omega)]

theorem keptE_mem {most : Nat} {ps : List Ent} {p q : Ent} (h : p ∈ keptE most (ps ++ [q])) : p ∈ keptE most ps ∨ p = q := by
  by_cases hr : ps.length < most
  · rw [keptE_room q hr] at h
    simpa using h
  · by_cases h1 : 1 ≤ most
    · obtain ⟨p0, _, e⟩ := keptE_full (ps := ps) q (by omega) h1
      have : p ∈ keptE most ps ++ [q] := by rw [e]; exact List.mem_cons_of_mem _ h
      simpa using this
    · unfold keptE at h
      rw [List.drop_eq_nil_of_le (by omega)] at h
      simp at h

/-- What stands when a new answer has been put. -/
theorem put_done {b most : Nat} {ps : List Ent} {F : Nat → Prop} {sb ab : Nat} {ov : Value} {w1 w3 w4 w5 : World} {x : IdN} {e r : Int} {l : List UInt8} {u ov4 ov5 : Value} {g : Nat} (H1 : CacheIn w1 b most ps F sb ab ov) (hnew : x ∉ ps.map Ent.id) (hl : l.length ≤ 140737488351232)
    (hb : b < g) (hsb : sb < g) (hab : ab < g) (hov : ∀ k, ov.ownBlock = some k → k < g) (hg3 : g ≤ w3.heap.size) (F13 : Fr (fun k => k = sb ∨ k = ab) w1 w3) (M3 : MapAt w3 sb (ps.map (fun p => (p.id, Value.agg #[])) ++ [(x, .agg #[])]))
    (O3 : Own w3 u l) (U3 : ∀ k, u.ownBlock = some k → g ≤ k) (F4 : Fr (fun k => k = b ∨ ov.ownBlock = some k) w3 w4) (OV4 : ∀ k, ov4.ownBlock = some k → ov.ownBlock = some k ∨ w3.heap.size ≤ k)
    (here5 : w5.heap[b]? = some (.cells #[.int .i64 most, .map (some sb), .map (some ab), ov5] 53 (0, 0))) (A5 : MapAt w5 ab ((keptE most (ps ++ [⟨x, e, r, l, u⟩])).map Ent.mk'))
    (ord5 : w5.ownsRow 0 36 2 ov5 (keptE most (ps ++ [⟨x, e, r, l, u⟩])).length (idCells ((keptE most (ps ++ [⟨x, e, r, l, u⟩])).map Ent.id))) (hov5 : ov5.ownBlock = ov4.ownBlock)
    (F5 : Fr (fun k => k = b ∨ k = ab ∨ ov4.ownBlock = some k) w4 w5) : CacheIn w5 b most (ps ++ [⟨x, e, r, l, u⟩]) (fun k => F k ∨ g ≤ k) sb ab ov5 := by
  obtain ⟨ap1, ap2, ap3, ap4⟩ := H1.apart
  obtain ⟨in1, in2, in3, in4⟩ := H1.inF
  have hov5n : ∀ k, ov5.ownBlock = some k → ov.ownBlock = some k ∨ w3.heap.size ≤ k := fun k hk => OV4 k (hov5 ▸ hk)
  have f35 : Fr (fun k => k = b ∨ k = ab ∨ ov.ownBlock = some k) w3 w5 := (F4.mono (T := fun k => k = b ∨ k = ab ∨ ov.ownBlock = some k) (fun k _ h => by
    rcases h with h | h
    · exact .inl h
    · exact .inr (.inr h))).trans F5 (fun k hk h => by
    rcases h with h | h | h
    · exact .inl h
    · exact .inr (.inl h)
    · rcases OV4 k h with h | h
      · exact .inr (.inr h)
      · omega)
  refine ⟨here5, ?_, A5, ord5, ?_, ?_, H1.most1, H1.most2, ⟨.inl in1, .inl in2, .inl in3, fun k hk => ?_⟩, ⟨ap1, ap2, ap3, fun k hk => ?_⟩⟩
  · rw [List.map_append]
    exact M3.fr f35 (fun h => by
      rcases h with h | h | h
      · exact ap1 h.symm
      · exact ap3 h
      · exact (ap4 _ h).2.1 rfl)
  · intro p hp
    rcases keptE_mem hp with hp | rfl
    · obtain ⟨h1, h2, h3⟩ := H1.rows p hp
      refine ⟨(h1.fr F13 (fun k hk h => ?_)).fr f35 (fun k hk h => ?_), h2, fun k hk => ?_⟩
      · obtain ⟨_, _, k3, k4, k5, _⟩ := h3 k hk
        rcases h with h | h
        · exact k4 h
        · exact k5 h
      · obtain ⟨_, _, k3, k4, k5, k6⟩ := h3 k hk
        rcases h with h | h | h
        · exact k3 h
        · exact k5 h
        · exact k6 h
      · obtain ⟨k1, k2, k3, k4, k5, k6⟩ := h3 k hk
        have s1 := F13.size
        have s2 := f35.size
        refine ⟨.inl k1, by omega, k3, k4, k5, fun h => ?_⟩
        rcases hov5n k h with h | h
        · exact k6 h
        · omega
    · have hlt := O3.lt
      refine ⟨O3.sees.fr f35 (fun k hk h => ?_), hl, fun k hk => ?_⟩
      · have := U3 k hk
        rcases h with h | h | h
        · omega
        · omega
        · have := hov k h; omega
      · have h1 := U3 k hk
        have h2 := hlt k hk
        have s2 := f35.size
        refine ⟨.inr h1, by omega, by omega, by omega, by omega, fun h => ?_⟩
        rcases hov5n k h with h | h
        · have := hov k h; omega
        · omega
  · rw [List.map_append, List.nodup_append]
    refine ⟨H1.nodup, by simp, ?_⟩
    intro a ha c hc e
    simp at hc
    subst hc
    exact hnew (e ▸ ha)
  · rcases hov5n k hk with h | h
    · exact .inl (in4 k h)
    · right; omega
  · rcases hov5n k hk with h | h
    · exact ap4 k h
    · omega

end Go.Proofs.Ytefijimijmjahaa
