/-
  The laws' own Members (of bits) and many (bits in common).
-/
import Derived.Test.YtcjijafmfomohaaTrMath
namespace Go.Proofs.Ytcjijafmfomohaa
open Go.RowKit
set_option maxRecDepth 100000

theorem oi_fr {S : Nat → Prop} {w w' : World} {base : Nat} {v : Value} {l : List Int} (h : OI w base v l) (hf : Fr S w w') (hS : ∀ k, v.ownBlock = some k → ¬ S k) : OI w' base v l := by
  refine ⟨h.1, ?_⟩
  rcases h.2 with hn | ⟨g, cap, cur, rfl, hb, hgg, rest⟩
  · exact .inl hn
  · refine .inr ⟨g, cap, cur, rfl, hb, ?_, rest⟩
    rw [hf.block g (Array.getElem?_eq_some_iff.1 hgg).1 (hS g rfl)]
    exact hgg

theorem oi_le {w : World} {base : Nat} {v : Value} {l : List Int} (h : OI w base v l) : ∀ k, v.ownBlock = some k → base ≤ k := fun k hk => (World.ownsRow.lt h k hk).1

theorem oi_one (w : World) (x : Int) : OI (w.alloc (.cells #[.int .i64 x] 3)) w.heap.size (.slice (some ⟨w.heap.size, 0, none⟩) 1 1) [x] :=
  ⟨rfl, .inr ⟨w.heap.size, 1, _, rfl, Nat.le_refl _, heap_alloc_new w _, Nat.le_refl _, by unfold maxLen; omega, rfl, rfl⟩⟩

theorem oi_snoc {w : World} {base n : Nat} {v : Value} {l : List Int} {x : Int} (h : w.ownsRow base 3 1 v n (l.map (Value.int .i64) ++ [.int .i64 x])) (hn : n = l.length + 1) : OI w base v (l ++ [x]) := by
  unfold OI
  rw [List.length_append, List.map_append]
  subst hn
  exact h

/-- The call made the slice v of the integers l anew. -/
def NewI (w w' : World) (v : Value) (l : List Int) : Prop := OI w' w.heap.size v l ∧ Fr (fun _ => False) w w'

set_option maxHeartbeats 8000000 in
theorem lmembers_any (m : Nat) (hm : m < 65536) (w : World) :
    Calls Try.prog 6 #[.int .u16 m] w fun e w' => ∃ v, e = .returned v ∧ NewI w w' v (bitsL m) := by
  obtain ⟨i0, hi, hz0, hz1, hz2⟩ := info_parts Try.infoInt
  have Hm := Lib.hid hm
  have HB : Hid (∀ k, bits .and .u16 ((m : Int) / 2 ^ k) 1 = if m.testBit k then 1 else 0) := Lib.hid (fun k => bit_and m k hm)
  go_enter Try.func6, Try.ntmps6
  go_upto_region 3 with fail
  clear hm
  go_loopg [3, 5] 16 (fun g u3 u5 wr => ∃ k : Nat, k ≤ 16 ∧ g = 16 - k ∧ u5 = .int .i64 k ∧ Hid (OI wr w.heap.size u3 (memP m k)) ∧ Hid (Fr (fun _ => False) w wr))
  case atStart => exact ⟨0, Nat.zero_le _, rfl, rfl, Lib.hid (World.ownsRow_nil w _ 3 1), Lib.hid (Fr.refl _ _)⟩
  case round =>
    obtain ⟨k, hk, rfl, rfl, HO, F⟩ := hrel
    by_cases hlt : k < 16
    · have hkk : (k : Int) < 16 := by omega
      have hbit := HB.out k
      have HL := Lib.hid (memP_le m k)
      have HS := Lib.hid (memP_step m k)
      by_cases hb : m.testBit k = true
      · rw [if_pos hb] at hbit
        have HS2 : Hid (memP m (k + 1) = memP m k ++ [(k : Int)]) := Lib.hid (by rw [HS.out, if_pos hb])
        clear hb HS
        generalize memP m k = l at *
        go_wp2_with (at_builtin; refine wpList_append_sep rfl (.tmp 13) (.tmp 15) 31 31 rfl w.heap.size 3 i0 (.int .i64 0) 1 8 Try.underlying31 _ Try.underlying31 (.inr ⟨_, rfl⟩) hi hz0 hz1 hz2 rfl (by decide) u3 l.length (l.map (Value.int .i64)) rfl ?own _ 1 [.int .i64 k] rfl (lenOf_slice _ _ _) rfl ?c1 ?c2 ?one ?b1 ?b2 ?base ?grow)
        case own => exact World.ownsRow.alloc HO.out _
        case c1 => exact first_row (heap_alloc_new _ _) 1 1 rfl
        case c2 => exact first_row (by exact heap_alloc_new _ _) 1 1 rfl
        case one => intro u hu; simp at hu; subst hu; rfl
        case b1 => have := HL.out; unfold maxLen; omega
        case b2 => have := HL.out; omega
        case base => have := F.out.size; simp; omega
        case grow =>
          intro v' w1 hown hg hv
          have HN : Hid (OI w1 w.heap.size v' (memP m (k + 1))) := Lib.hid (by rw [HS2.out]; exact oi_snoc hown rfl)
          have HF : Hid (Fr (fun _ => False) w w1) := Lib.hid ((F.out.alloc _).trans (Fr.of_grown hg) (fun i hi e => by have := oi_le HO.out i e.symm; omega))
          clear hown hg hv
          go_wp2_with fail
          go_roundg (16 - (k + 1))
          case measure => omega
          case rel => exact ⟨k + 1, by omega, rfl, by congr 1, HN, HF⟩
      · rw [if_neg hb] at hbit
        have HS2 : Hid (memP m (k + 1) = memP m k) := Lib.hid (by rw [HS.out, if_neg hb]; simp)
        clear hb HS
        have HN : Hid (OI wr w.heap.size u3 (memP m (k + 1))) := Lib.hid (by rw [HS2.out]; exact HO.out)
        clear HS2
        go_wp2_with fail
        go_roundg (16 - (k + 1))
        case measure => omega
        case rel => exact ⟨k + 1, by omega, rfl, by congr 1, HN, F⟩
    · obtain rfl : k = 16 := by omega
      have HE := Lib.hid (bitsL_of m Hm.out)
      clear hlt
      by_cases hn : memP m 16 = []
      · have HV := HO.out
        rw [hn] at HV
        obtain ⟨a, c, rfl⟩ := slice_of_own HV
        have HE2 : Hid (bitsL m = [0]) := Lib.hid (by rw [HE.out, if_pos hn])
        clear hn HV HO HE
        simp only [List.length_nil]
        go_wp2_with fail
        go_ret
        refine ⟨_, rfl, ?_, F.out.alloc _⟩
        rw [HE2.out]
        have := oi_one wr 0
        exact ⟨this.1, by
          rcases this.2 with h | ⟨g, cap, cur, e, h1, rest⟩
          · exact .inl h
          · exact .inr ⟨g, cap, cur, e, by have := F.out.size; omega, rest⟩⟩
      · have HE2 : Hid (bitsL m = memP m 16) := Lib.hid (by rw [HE.out, if_neg hn])
        have hlen : 0 < (memP m 16).length := List.length_pos_iff.2 hn
        have HV := HO.out
        obtain ⟨a, c, hv⟩ := slice_of_own HV
        generalize memP m 16 = l at *
        subst hv
        have hlen' : ¬ ((l.length : Int) = 0) := by omega
        clear hn HV HE
        go_wp2_with fail
        go_ret
        refine ⟨_, rfl, ?_, F.out⟩
        rw [HE2.out]
        exact HO.out

end Go.Proofs.Ytcjijafmfomohaa
