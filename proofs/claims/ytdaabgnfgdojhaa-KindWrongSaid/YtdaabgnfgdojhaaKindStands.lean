/-
  package kind: which alias a reference stands for.
-/
import Derived.Test.YtdaabgnfgdojhaaKindRight
import Derived.Deep.QuietTactic
import Derived.BigQuiet
namespace Go.Proofs.Ytdaabgnfgdojhaa
open Go.RowKit

/-- The index of the alias for which a type stands, or -1. -/
def standsE (known : List (Txt × KT)) : KT → Int
  | .nil => -1
  | .mk _ _ ns _ _ => standsN known ns

theorem cell_of_four {w : World} {b : Nat} {x0 x1 x2 x3 : Value} {t : TypeId} (h : w.heap[b]? = some (.cells #[x0, x1, x2, x3] t (0, 0))) :
    w.cell? ⟨b, 0, none⟩ = some x0 ∧ w.cell? ⟨b, 1, none⟩ = some x1 ∧ w.cell? ⟨b, 2, none⟩ = some x2 ∧ w.cell? ⟨b, 3, none⟩ = some x3 := by
  simp [World.cell?, h]

theorem Fr.drewN {S : Nat → Prop} {a b : World} (h : Fr S a b) (n : Nat) : Fr S a (b.drewN n) := ⟨h.os, h.tape, h.output, h.size, h.block⟩

set_option maxHeartbeats 4000000 in
theorem stands_fn (b : Nat) (x0 x1 x3 y0 y1 y2 y3 : Value) (c g off : Nat) (s d : Txt) (w : World) (hb : w.heap[b]? = some (.cells #[x0, x1, .slice (some ⟨g, off, none⟩) 1 c, x3] 38 (0, 0))) (hc : w.cell? ⟨g, off, none⟩ = some (sv s)) :
    Calls Try.prog 86 #[.agg #[sv d, y0, y1, y2, y3], .pointer (some ⟨b, 0, none⟩)] w fun e w' => e = .returned (.bool (decide (d = s))) ∧ Fr (fun _ => False) w w' := by
  obtain ⟨_, _, c2, _⟩ := cell_of_four hb
  have hlt := lt_of_block hb
  have hlg := World.block_lt_of_cell? w _ hc
  have hlg' : g < w.heap.size := hlg
  have n1 : b ≠ w.heap.size := by omega
  have n2 : g ≠ w.heap.size := by omega
  clear hb
  unfold sv at *
  have hbs : (d == s) = decide (d = s) := by by_cases h : d = s <;> simp [h]
  go_enter Try.func86, Try.ntmps86
  go_wp2
  go_quiet (fail)
  go_wp2
  go_ret
  exact ⟨rfl, ((Fr.refl _ _).alloc _).drewN _⟩

set_option maxHeartbeats 4000000 in
theorem index_alias (R : Nat → Prop) (l : List (Txt × KT)) (v : Value) (b : Nat) (x0 x1 x3 : Value) (c g off : Nat) (s : Txt) (w : World) (h : Aliases R w l v) (hb : w.heap[b]? = some (.cells #[x0, x1, .slice (some ⟨g, off, none⟩) 1 c, x3] 38 (0, 0))) (hc : w.cell? ⟨g, off, none⟩ = some (sv s)) :
    Calls Try.prog 85 #[v, .func (.func 86) #[] #[.pointer (some ⟨b, 0, none⟩)]] w fun e w' => e = .returned (.int .i64 (firstAt (fun x => decide (x.1 = s)) l)) ∧ Fr (fun _ => False) w w' := by
  have hl0 : l.length ≤ 1000 := h.1
  obtain ⟨a, cap, rfl, hs⟩ := h.shape
  have Hs := Lib.hid hs
  have Hb := Lib.hid hb
  have Hc := Lib.hid hc
  clear hs h hb hc
  go_enter Try.func85, Try.ntmps85
  go_wp2
  go_loopg [5, 8] l.length (fun G u5 u8 wr => ∃ k : Nat, k ≤ l.length ∧ G = l.length - k ∧ u8 = .int .i64 k ∧ Hid ((∀ j, (hj : j < l.length) → j < k → l[j].1 ≠ s) ∧ Fr (fun _ => False) w wr))
  case atStart => exact ⟨0, Nat.zero_le _, rfl, by go_num, Lib.hid ⟨fun j _ hj => by omega, Fr.refl _ _⟩⟩
  case round =>
    obtain ⟨k, hk, rfl, rfl, HI⟩ := hrel
    by_cases hlt : k < l.length
    · rcases Hs.out with hz | ⟨hcap, ga, oa, hg, rfl, hcell⟩
      · omega
      obtain ⟨d, hd⟩ : ∃ d, d = l[k] := ⟨_, rfl⟩
      obtain ⟨y0, y1, y2, y3, q, q0, q1, q2, q3, _⟩ := hcell k d (by rw [List.getElem?_eq_getElem hlt, hd])
      have up : ∀ {o : Nat} {u : Value}, w.cell? ⟨ga, o, none⟩ = some u → wr.cell? ⟨ga, o, none⟩ = some u := fun {o u} hq => cell_fr (R := fun _ => True) HI.out.2 (fun _ _ h => h) trivial hq
      have q' := up q
      have q0' := up q0
      have q1' := up q1
      have q2' := up q2
      have q3' := up q3
      clear up q q0 q1 q2 q3 hcell
      have hbr : wr.heap[b]? = some (.cells #[x0, x1, .slice (some ⟨g, off, none⟩) 1 c, x3] 38 (0, 0)) := by
        rw [HI.out.2.block b (lt_of_block Hb.out) (fun h => h)]; exact Hb.out
      have hcr : wr.cell? ⟨g, off, none⟩ = some (sv s) := cell_fr (R := fun _ => True) HI.out.2 (fun _ _ h => h) trivial Hc.out
      have hfn := stands_fn b x0 x1 x3 y0 y1 y2 y3 c g off s d.1 wr hbr hcr
      have Hd := Lib.hid hd
      clear hd hbr hcr
      unfold sv at *
      by_cases he : d.1 = s
      · have hb1 : decide (d.1 = s) = true := by simpa using he
        rw [hb1] at hfn
        have He := Lib.hid he
        clear he hb1
        go_wp2_with fail
        refine hfn.mono ?_
        rintro e w1 ⟨rfl, f1⟩
        have f1 := Lib.hid f1
        go_wp2
        go_ret
        refine ⟨ret_int ?_, HI.out.2.trans f1.out (fun _ _ h => h)⟩
        exact (firstAt_found _ l k hlt (fun j hj hjk => by simpa using HI.out.1 j hj hjk) (by rw [← Hd.out]; simpa using He.out)).symm
      · have hb1 : decide (d.1 = s) = false := by simpa using he
        rw [hb1] at hfn
        have He := Lib.hid he
        clear he hb1
        go_wp2_with fail
        refine hfn.mono ?_
        rintro e w1 ⟨rfl, f1⟩
        have f1 := Lib.hid f1
        go_wp2
        go_roundg (l.length - (k + 1))
        case measure => omega
        case rel => exact ⟨k + 1, by omega, rfl, by go_num, Lib.hid ⟨fun j hj' hj => by
          by_cases h : j < k
          · exact HI.out.1 j hj' h
          · obtain rfl : j = k := by omega
            rw [← Hd.out]; exact He.out, HI.out.2.trans f1.out (fun _ _ h => h)⟩⟩
    · obtain rfl : k = l.length := by omega
      go_wp2
      go_ret
      refine ⟨ret_int ?_, HI.out.2⟩
      exact (firstAt_none _ l (fun j hj => by simpa using HI.out.1 j hj hj)).symm

set_option maxHeartbeats 4000000 in
theorem stands_any (R : Nat → Prop) (known : List (Txt × KT)) (t : KT) (v kv : Value) (w : World) (h : Shows R w t v) (hk : Aliases R w known kv) :
    Calls Try.prog 65 #[v, kv] w fun e w' => e = .returned (.int .i64 (standsE known t)) ∧ Fr (fun _ => False) w w' := by
  cases t with
  | nil => exact h.elim
  | mk k m ns n of =>
  obtain ⟨vn, vo, rfl, _, _, ht, _⟩ := h
  have hl0 : ns.length ≤ 1000 := ht.1
  obtain ⟨a, cap, rfl, hs⟩ := ht.shape
  have Hs := Lib.hid hs
  have Hk := Lib.hid hk
  clear hs hk ht
  by_cases h1 : ns.length = 1
  · obtain ⟨s, rfl⟩ : ∃ s, ns = [s] := List.length_eq_one_iff.1 h1
    rcases Hs.out with hz | ⟨hcap, g, off, hg, rfl, hcell⟩
    · simp at hz
    have hc := hcell 0 s rfl
    rw [Nat.add_zero] at hc
    clear hcell
    have Hc := Lib.hid hc
    clear hc
    have hlg : g < w.heap.size := World.block_lt_of_cell? w _ Hc.out
    have e1 : standsE known (.mk k m [s] n of) = firstAt (fun x => decide (x.1 = s)) known := rfl
    have E1 := Lib.hid e1
    clear e1
    go_enter Try.func65, Try.ntmps65
    go_wp2_with fail
    have f0 : Fr (fun _ => False) w (w.alloc (.cells #[.int .u8 k, .int .i64 m, .slice (some ⟨g, off, none⟩) 1 cap, vo] 38)) := (Fr.refl _ _).alloc _
    refine (index_alias R known kv w.heap.size _ _ _ cap g off s _ (Hk.out.fr f0 (fun _ _ h => h)) (heap_alloc_new w _) (cell_fr (R := fun _ => True) f0 (fun _ _ h => h) trivial Hc.out)).mono ?_
    rintro e w1 ⟨rfl, f1⟩
    have f1 := Lib.hid f1
    have f0 := Lib.hid f0
    go_wp2
    go_ret
    exact ⟨by rw [E1.out]; rfl, f0.out.trans f1.out (fun _ _ h => h)⟩
  · have e1 : standsE known (.mk k m ns n of) = -1 := by
      match ns, h1 with
      | [], _ => rfl
      | [s], h => exact absurd rfl h
      | _ :: _ :: _, _ => rfl
    have E1 := Lib.hid e1
    clear e1
    have h1' : ¬ (ns.length : Int) = 1 := by omega
    go_enter Try.func65, Try.ntmps65
    go_wp2
    go_ret
    exact ⟨by rw [E1.out]; rfl, (Fr.refl _ _).alloc _⟩

end Go.Proofs.Ytdaabgnfgdojhaa
