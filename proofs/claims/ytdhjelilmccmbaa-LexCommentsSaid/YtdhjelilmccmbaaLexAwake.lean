/-
  The laws' fixed fact: the chapter's example; tokens in memory, read.
-/
import Derived.Test.YtdhjelilmccmbaaLexValue
namespace Go.Proofs.Ytdhjelilmccmbaa
open Go.RowKit

theorem flat_get (ts : List Tok) (i : Nat) (t : Tok) (h : ts[i]? = some t) (f : Nat) (hf : f < 3) : (ts.flatMap tokCells)[i * 3 + f]? = (tokCells t)[f]? := by
  induction ts generalizing i with
  | nil => simp at h
  | cons x ts ih =>
    cases i with
    | zero =>
      simp at h
      subst h
      rw [List.flatMap_cons, Nat.zero_mul, Nat.zero_add, List.getElem?_append_left (by simpa [tokCells] using hf)]
    | succ i =>
      rw [List.flatMap_cons, List.getElem?_append_right (by simp [tokCells]; omega)]
      have : (i + 1) * 3 + f - (tokCells x).length = i * 3 + f := by simp [tokCells]; omega
      rw [this]
      exact ih i (by simpa using h)

/-- Where a row of tokens lies, and its cells. -/
theorem TokOwn.cells {w : World} {v : Value} {ts : List Tok} (h : TokOwn w v ts) (hne : ts ≠ []) : ∃ g cap, v = .slice (some ⟨g, 0, none⟩) ts.length cap ∧ ts.length ≤ cap ∧ g < w.heap.size ∧ ∀ i t, ts[i]? = some t →
    w.cell? ⟨g, i * 3, none⟩ = some (.int .u8 t.kind) ∧ w.cell? ⟨g, i * 3 + 1, none⟩ = some (.int .i64 t.pos) ∧ w.cell? ⟨g, i * 3 + 2, none⟩ = some (.string ⟨t.text.toArray⟩) := by
  rcases h.2 with ⟨_, h0⟩ | ⟨g, cap, cur, rfl, hb, hg, hn, hm, hs, ht⟩
  · exact absurd (List.eq_nil_of_length_eq_zero h0) hne
  · have hlt := (Array.getElem?_eq_some_iff.1 hg).1
    refine ⟨g, cap, rfl, hn, hlt, ?_⟩
    intro i t hi
    have hc := fun (f : Nat) (u : Value) (hf : f < 3) (hu : (tokCells t)[f]? = some u) => World.ownsRow.cells (g := g) h rfl (i * 3 + f) u ((flat_get ts i t hi f hf).trans hu)
    have hplain : ∀ j, (⟨g, 0, none⟩ : Addr).add j = ⟨g, j, none⟩ := fun j => by unfold Addr.add; split <;> simp_all
    simp only [hplain] at hc
    exact ⟨hc 0 _ (by decide) rfl, hc 1 _ (by decide) rfl, hc 2 _ (by decide) rfl⟩

theorem awake_toks : lexA 0 [97, 49, 32, 61, 32, 50, 59] = .ok [⟨1, 0, [97, 49]⟩, ⟨3, 3, [61]⟩, ⟨2, 5, [50]⟩, ⟨3, 6, [59]⟩, ⟨0, 7, []⟩] := by kernel_rfl

set_option maxHeartbeats 2000000 in
theorem awake_any (w : World) : Calls Try.prog 8 #[] w fun e w' => e = .returned (.bool true) ∧ Fr (fun _ => False) w w' := by
  go_enter Try.func8, Try.ntmps8
  go_wp2_with fail
  refine (split_small _ (by decide) _).mono ?_
  rintro e w1 ⟨v, rfl, hT⟩
  dsimp only at hT ⊢
  rw [awake_toks] at hT ⊢
  obtain ⟨hO, f1, _⟩ := hT
  simp only [Res.toks, Res.where_, Res.code] at hO ⊢
  obtain ⟨g, cap, rfl, hcap, hg, hc⟩ := hO.cells (by simp)
  have c0 := (hc 0 _ rfl).2.2
  have c2 := hc 2 _ rfl
  simp only [List.length_cons, List.length_nil] at *
  obtain ⟨c2a, c2b, c2c⟩ := c2
  clear hc
  go_wp2_with fail
  refine (value_num 5 ⟨#[50]⟩ (by decide) (by intro c hc; simp at hc; subst hc; decide) _).mono ?_
  rintro e w2 ⟨rfl, f2⟩
  have hd : dec [50] = 2 := by decide
  dsimp only
  rw [hd]
  go_wp2
  go_ret
  exact ⟨rfl, f1.trans f2 (fun _ _ h => h)⟩

end Go.Proofs.Ytdhjelilmccmbaa
