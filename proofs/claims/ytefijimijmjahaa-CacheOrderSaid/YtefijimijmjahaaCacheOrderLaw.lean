/-
  The law CacheOrder, walked.
-/
import Derived.Test.YtefijimijmjahaaCacheAwake
import Derived.Test.YtefijimijmjahaaCacheArg
import Derived.Deep.Cut
import Derived.Deep.CutRange
import Derived.Deep.CutBlock
import Derived.Deep.LoopGhost
import Derived.IntWalk
namespace Go.Proofs.Ytefijimijmjahaa
open Go.RowKit
set_option maxRecDepth 100000

/-- The first j answers of the law's loop. -/
def seqA (T : Int) (j : Nat) : List (IdN × An) := (List.range j).map (fun i : Nat => (((T, (i : Int)), (0 : Int), (i : Int), ([] : List UInt8)) : IdN × An))

theorem seqA_length (T : Int) (j : Nat) : (seqA T j).length = j := by simp [seqA]
theorem seqA_succ (T : Int) (j : Nat) : seqA T (j + 1) = seqA T j ++ [((T, (j : Int)), (0 : Int), (j : Int), [])] := by simp [seqA, List.range_succ]
theorem seqA_mem {T : Int} {j : Nat} {x : IdN} (h : x ∈ (seqA T j).map Prod.fst) : ∃ i : Nat, i < j ∧ x = (T, (i : Int)) := by
  simp [seqA] at h
  obtain ⟨i, hi, rfl⟩ := h
  exact ⟨i, hi, rfl⟩
theorem seqA_new (T : Int) (j : Nat) : (T, (j : Int)) ∉ (seqA T j).map Prod.fst := fun h => by
  obtain ⟨i, hi, e⟩ := seqA_mem h
  simp at e
  omega
theorem seqA_in (T : Int) {i n : Nat} (h : i < n) : (T, (i : Int)) ∈ (seqA T n).map Prod.fst := by
  exact List.mem_map.2 ⟨((T, (i : Int)), (0 : Int), (i : Int), []), List.mem_map.2 ⟨i, List.mem_range.2 h, rfl⟩, rfl⟩

theorem find_mem {x : IdN} {v : An} : ∀ {l : List (IdN × An)}, (l.map Prod.fst).Nodup → (x, v) ∈ l → (l.find? (fun p => decide (p.1 = x))).map Prod.snd = some v
  | [], _, h => by simp at h
  | p :: l, hn, h => by
    rw [List.map_cons, List.nodup_cons] at hn
    rcases List.mem_cons.1 h with rfl | h
    · simp
    · have hne : p.1 ≠ x := fun e => hn.1 (e ▸ List.mem_map.2 ⟨(x, v), h, rfl⟩)
      rw [List.find?_cons_of_neg (by simpa using hne)]
      exact find_mem hn.2 h
theorem find_not {x : IdN} {l : List (IdN × An)} (h : x ∉ l.map Prod.fst) : (l.find? (fun p => decide (p.1 = x))).map Prod.snd = none := by
  rw [List.find?_eq_none.2 (fun p hp => by
    simp only [decide_eq_true_eq]
    intro e
    exact h (List.mem_map.2 ⟨p, hp, e⟩))]
  rfl

theorem seqA_nodup (T : Int) (n : Nat) : ((seqA T n).map Prod.fst).Nodup := by
  induction n with
  | zero => simp [seqA]
  | succ n ih =>
    rw [seqA_succ, List.map_append, List.nodup_append]
    refine ⟨ih, by simp, ?_⟩
    intro a ha c hc e
    simp at hc
    subst hc
    exact seqA_new T n (e ▸ ha)

theorem seqA_at (T : Int) {i n : Nat} (h : i < n) : (seqA T n)[i]? = some ((T, (i : Int)), (0 : Int), (i : Int), []) := by
  unfold seqA
  rw [List.getElem?_map, List.getElem?_range h]
  rfl

theorem seqA_look (T : Int) {i n K : Nat} (h : i < n) : lookA K (seqA T n) (T, (i : Int)) = if n ≤ K + i then some (0, (i : Int), []) else none := by
  unfold lookA
  rw [seqA_length]
  split
  · rename_i hk
    refine find_mem ?_ ?_
    · rw [List.map_drop]
      exact (seqA_nodup T n).sublist (List.drop_sublist _ _)
    · refine List.mem_of_getElem? (i := i - (n - K)) ?_
      rw [List.getElem?_drop, show n - K + (i - (n - K)) = i by omega, seqA_at T h]
  · rename_i hk
    refine find_not (fun hm => ?_)
    obtain ⟨p, hp, e⟩ := List.mem_map.1 hm
    obtain ⟨j, hj⟩ := List.getElem?_of_mem hp
    rw [List.getElem?_drop] at hj
    have hjn : n - K + j < n := by
      have := (List.getElem?_eq_some_iff.1 hj).1
      rwa [seqA_length] at this
    rw [seqA_at T hjn] at hj
    simp only [Option.some.injEq] at hj
    subst hj
    simp at e
    omega

set_option maxHeartbeats 16000000 in
theorem order_law (m q T : Int) (hm0 : 0 ≤ m) (hm1 : m ≤ 255) (hq0 : 0 ≤ q) (hq1 : q ≤ 255) (hT0 : 0 ≤ T) (hT1 : T ≤ 65535) (w : World) :
    Calls Try.prog 5 #[.int .u8 m, .int .u8 q, .int .u16 T] w fun z w' => z = .returned (.bool true) ∧ Fr (fun _ => False) w w' := by
  obtain ⟨n, hn⟩ : ∃ n : Nat, q % 100 = n := ⟨(q % 100).toNat, by omega⟩
  obtain ⟨K, hK⟩ : ∃ K : Nat, 1 + m % 40 = K := ⟨(1 + m % 40).toNat, by omega⟩
  have hn100 : n < 100 := by omega
  have hK40 : 1 ≤ K ∧ K ≤ 40 := by omega
  have HN := Lib.hid hn100; clear hn100
  have HK := Lib.hid hK40; clear hK40
  go_enter Try.func5, Try.ntmps5
  go_wp2_with fail
  refine (cacheAwake_any _).mono ?_
  rintro z w1 ⟨rfl, f1⟩
  have F1 := Lib.hid f1; clear f1
  go_wp2_with fail
  refine (cnew_any K _).mono ?_
  have hcl : clampM K = K := by have := HK.out; unfold clampM; omega
  rw [hcl]
  clear hcl
  rintro z w2 ⟨b, rfl, hc, f2⟩
  have HC2 := Lib.hid hc; clear hc
  have F2 := Lib.hid (F1.out.trans f2 (fun _ _ h => h)); clear f2
  have hw0 : ∀ k, w2.heap.size ≤ k → w.heap.size ≤ k := fun k h => Nat.le_trans F2.out.size h
  have hb0 : ∀ k, (w1.heap.size ≤ k ∧ k < w2.heap.size) → w.heap.size ≤ k := fun k h => Nat.le_trans F1.out.size h.1
  have HB0 := Lib.hid hb0; clear hb0 hw0
  have hst : (n : Int) ≤ 9223372036854775807 := by have := HN.out; omega
  clear hst
  go_wp2_with fail
  clear hn hK hm0 hm1 hq0 hq1
  go_loopg [10, 27] n (fun g u i wr => ∃ (j : Nat) (F : Nat → Prop), j ≤ n ∧ g = n - j ∧ i = .int .i64 j ∧ CacheAt wr b K (seqA T j) F ∧ (∀ k, F k → w.heap.size ≤ k) ∧ Fr (fun _ => False) w wr)
  case atStart => exact ⟨0, _, Nat.zero_le _, rfl, rfl, HC2.out, HB0.out, F2.out⟩
  case round =>
    clear HC2 HB0 F2
    obtain ⟨j, F, hjn, rfl, rfl, hc, hF, fr⟩ := hrel
    by_cases hlt : j < n
    · have hj99 : j < 100 := by have := HN.out; omega
      have hp := cput_new hc (T, (j : Int)) (by unfold IdOk; simp only; omega) (seqA_new T j) 0 (j : Int) (.slice none 0 0) [] (.inl ⟨rfl, _, _, rfl⟩) (by simp)
      rw [← seqA_succ] at hp
      unfold kv av at hp
      have HP := Lib.hid hp
      have HF := Lib.hid hF
      have HR := Lib.hid fr
      clear hp hF fr hc
      go_wp2_with fail
      refine HP.out.mono ?_
      rintro z wx ⟨rfl, hc', f'⟩
      have HC' := Lib.hid hc'
      have HF' := Lib.hid f'
      clear hc' f' HP
      go_wp2_with fail
      go_roundg (n - (j + 1))
      case measure => omega
      case rel =>
        refine ⟨j + 1, _, by omega, rfl, by simp, HC'.out, fun k hk => ?_, HR.out.trans HF'.out (fun k hk h => by have := HF.out k h; omega)⟩
        rcases hk.1 with h | h
        · exact HF.out k h
        · exact Nat.le_trans HR.out.size h
    · obtain rfl : n = j := by omega
      have HC := Lib.hid hc
      have HF := Lib.hid hF
      have HR := Lib.hid fr
      clear hc hF fr
      go_wp2_with fail
      go_loopg [11, 40] n (fun g u i wx => ∃ (j : Nat), j ≤ n ∧ g = n - j ∧ i = .int .i64 j ∧ CacheAt wx b K (seqA T n) F ∧ Fr (fun _ => False) w wx)
      case atStart => exact ⟨0, Nat.zero_le _, rfl, rfl, HC.out, HR.out⟩
      case round =>
        clear HC HR
        obtain ⟨j, hjn, rfl, rfl, hc, fr⟩ := hrel
        by_cases hlt : j < n
        · have hj99 : j < 100 := by have := HN.out; omega
          have HR := Lib.hid fr; clear fr
          have HC := Lib.hid hc; clear hc
          go_upto_region 15 with fail
          have f0 : Fr (fun _ => False) wr (wr.alloc (oId (T, (j : Int)))) := (Fr.refl _ _).alloc _
          have q0 := heap_alloc_new wr (oId (T, (j : Int)))
          have q0' : (wr.alloc (oId (T, (j : Int)))).heap[wr.heap.size]? = some (.cells #[.int .u16 T, .int .u16 j] 36 (0, 0)) := q0
          have e0 : wr.alloc (Obj.cells #[.int .u16 T, .int .u16 j] 36 (0, 0)) = wr.alloc (oId (T, (j : Int))) := rfl
          rw [e0]
          clear e0 q0
          generalize wr.alloc (oId (T, (j : Int))) = wy at *
          generalize wr.heap.size = gy at *
          have HR1 := Lib.hid (HR.out.trans f0 (fun _ _ h => h))
          have HC1 := Lib.hid (HC.out.fr0 f0)
          clear f0 HR HC
          have hx : IdOk (T, (j : Int)) := by unfold IdOk; simp only; omega
          have HX := Lib.hid hx; clear hx
          have hget := cget_any HC1.out (T, (j : Int)) HX.out
          obtain ⟨d0, d1⟩ : wy.cell? ⟨gy, 0, none⟩ = some (.int .u16 T) ∧ wy.cell? ⟨gy, 1, none⟩ = some (.int .u16 j) := by simp [World.cell?, q0']
          have Q0 := Lib.hid q0'; clear q0'
          rw [seqA_look T hlt] at hget
          by_cases hk : n ≤ K + j
          · rw [if_pos hk] at hget
            unfold kv av at hget
            simp only [Option.getD_some, Option.isSome_some] at hget
            have HG := Lib.hid hget; clear hget
            go_wp2_with fail
            refine HG.out.mono ?_
            rintro z w5 ⟨v', rfl, hm, _⟩
            obtain ⟨a5, c5, rfl⟩ := slice_of_own hm.1
            have HM := Lib.hid hm; clear hm
            clear HG d0 d1
            go_upto_region 16 with fail
            have f56 : Fr (fun _ => False) wy (w5.alloc (oAns 0 j (.slice a5 ([] : List UInt8).length c5))) := HM.out.2.1.trans ((Fr.refl (fun _ => False) w5).alloc _) (fun _ _ h => h)
            have q5 : (w5.alloc (oAns 0 j (.slice a5 ([] : List UInt8).length c5))).heap[w5.heap.size]? = some (oAns 0 j (.slice a5 ([] : List UInt8).length c5)) := heap_alloc_new w5 _
            generalize w5.alloc (oAns 0 j (.slice a5 ([] : List UInt8).length c5)) = w6 at *
            generalize w5.heap.size = g5 at *
            have HC6 := Lib.hid (HC1.out.fr0 f56)
            have Q6 := Lib.hid (crow_kept Q0.out f56 (fun h => h))
            have HR6 := Lib.hid (HR1.out.trans f56 (fun _ _ h => h))
            obtain ⟨d0, d1⟩ : w6.cell? ⟨gy, 0, none⟩ = some (.int .u16 T) ∧ w6.cell? ⟨gy, 1, none⟩ = some (.int .u16 j) := by simp [World.cell?, Q6.out]
            obtain ⟨k0, k1, k2⟩ := cell3 q5
            have Q5 := Lib.hid q5; clear q5
            have hsee := cseen_any HC6.out (T, (j : Int)) HX.out
            rw [decide_eq_true (seqA_in T hlt)] at hsee
            unfold kv at hsee
            have HSE := Lib.hid hsee; clear hsee
            clear f56 HM HC1 HR1 Q0
            have hKb := HK.out
            have hNb := HN.out
            have hk1 : ((n : Int) - (K : Int) ≤ (j : Int)) := by omega
            go_wp2_with fail
            refine HSE.out.mono ?_
            rintro z w7 ⟨rfl, f7⟩
            obtain ⟨k0, k1, k2⟩ := cell3 (crow_kept Q5.out f7 (fun h => h))
            have HC7 := Lib.hid (HC6.out.fr0 f7)
            have HR7 := Lib.hid (HR6.out.trans f7 (fun _ _ h => h))
            clear f7 HSE
            go_wp2_with fail
            go_roundg (n - (j + 1))
            case measure => omega
            case rel => exact ⟨j + 1, by omega, rfl, by simp, HC7.out, HR7.out⟩
          · rw [if_neg hk] at hget
            unfold kv av at hget
            simp only [Option.getD_none, Option.isSome_none] at hget
            have HG := Lib.hid hget; clear hget
            go_wp2_with fail
            refine HG.out.mono ?_
            rintro z w5 ⟨v', rfl, hm, _⟩
            obtain ⟨a5, c5, rfl⟩ := slice_of_own hm.1
            have HM := Lib.hid hm; clear hm
            clear HG d0 d1
            go_upto_region 16 with fail
            have f56 : Fr (fun _ => False) wy (w5.alloc (oAns 0 0 (.slice a5 ([] : List UInt8).length c5))) := HM.out.2.1.trans ((Fr.refl (fun _ => False) w5).alloc _) (fun _ _ h => h)
            have q5 : (w5.alloc (oAns 0 0 (.slice a5 ([] : List UInt8).length c5))).heap[w5.heap.size]? = some (oAns 0 0 (.slice a5 ([] : List UInt8).length c5)) := heap_alloc_new w5 _
            generalize w5.alloc (oAns 0 0 (.slice a5 ([] : List UInt8).length c5)) = w6 at *
            generalize w5.heap.size = g5 at *
            have HC6 := Lib.hid (HC1.out.fr0 f56)
            have Q6 := Lib.hid (crow_kept Q0.out f56 (fun h => h))
            have HR6 := Lib.hid (HR1.out.trans f56 (fun _ _ h => h))
            obtain ⟨d0, d1⟩ : w6.cell? ⟨gy, 0, none⟩ = some (.int .u16 T) ∧ w6.cell? ⟨gy, 1, none⟩ = some (.int .u16 j) := by simp [World.cell?, Q6.out]
            obtain ⟨k0, k1, k2⟩ := cell3 q5
            have Q5 := Lib.hid q5; clear q5
            have hsee := cseen_any HC6.out (T, (j : Int)) HX.out
            rw [decide_eq_true (seqA_in T hlt)] at hsee
            unfold kv at hsee
            have HSE := Lib.hid hsee; clear hsee
            clear f56 HM HC1 HR1 Q0
            have hKb := HK.out
            have hNb := HN.out
            have hk1 : ¬ ((n : Int) - (K : Int) ≤ (j : Int)) := by omega
            go_wp2_with fail
            refine HSE.out.mono ?_
            rintro z w7 ⟨rfl, f7⟩
            obtain ⟨k0, k1, k2⟩ := cell3 (crow_kept Q5.out f7 (fun h => h))
            have HC7 := Lib.hid (HC6.out.fr0 f7)
            have HR7 := Lib.hid (HR6.out.trans f7 (fun _ _ h => h))
            clear f7 HSE
            go_wp2_with fail
            go_roundg (n - (j + 1))
            case measure => omega
            case rel => exact ⟨j + 1, by omega, rfl, by simp, HC7.out, HR7.out⟩
        · obtain rfl : n = j := by omega
          have HR := Lib.hid fr; clear fr
          have HC := Lib.hid hc; clear hc
          have hmn : ∀ (w : World) (ty : TypeId), (Builtin.min_ #[3, 3] ty #[.int .i64 n, .int .i64 K]).run Try.prog w = .ok (.int .i64 (min K n : Nat)) w := by
            intro w ty
            have e : (if (K : Int) < (n : Int) then (K : Int) else (n : Int)) = ((min K n : Nat) : Int) := by split <;> omega
            simp only [Builtin.min_, List.foldlM, Builtin.min2, e]
            rfl
          obtain ⟨T', hT', hb0, hb1, hne⟩ : ∃ T' : Int, IntKind.u16.wrap (T + 1) = T' ∧ 0 ≤ T' ∧ T' ≤ 65535 ∧ T' ≠ T := by
            refine ⟨_, rfl, ?_⟩
            have e : IntKind.u16.wrap (T + 1) = (T + 1) % 65536 := rfl
            rw [e]
            omega
          obtain ⟨M, hM⟩ : ∃ M, M = min K n := ⟨_, rfl⟩
          rw [← hM] at hmn
          have hk := ckept_any HC.out
          rw [seqA_length, ← hM] at hk
          have HKP := Lib.hid hk; clear hk
          have hm := cmany_any HC.out
          rw [seqA_length] at hm
          have HMN := Lib.hid hm; clear hm
          have hs := cseen_any HC.out (T', 0) (by unfold IdOk; simp only; omega)
          have hnot : (T', (0 : Int)) ∉ (seqA T n).map Prod.fst := fun h => by
            obtain ⟨i, _, e⟩ := seqA_mem h
            simp at e
            exact hne e.1
          rw [decide_eq_false hnot] at hs
          unfold kv at hs
          have HS := Lib.hid hs; clear hs
          clear hnot hM hne
          go_wp2_with fail
          refine HKP.out.mono ?_
          rintro z w5 ⟨rfl, rfl⟩
          go_wp2_with fail
          refine HMN.out.mono ?_
          rintro z w6 ⟨rfl, rfl⟩
          go_wp2_with fail
          refine HS.out.mono ?_
          rintro z w7 ⟨rfl, f7⟩
          have HF7 := Lib.hid (HR.out.trans f7 (fun _ _ h => h))
          clear f7
          go_wp2_with fail
          go_ret
          exact ⟨rfl, HF7.out⟩

/-- In the form that the statement's lift takes. -/
theorem order_all (m : Int) (hm0 : 0 ≤ m) (hm1 : m ≤ 255) (q : Int) (hq0 : 0 ≤ q) (hq1 : q ≤ 255) (T : Int) (hT0 : 0 ≤ T) (hT1 : T ≤ 65535) (w : World) :
    Calls Try.prog 5 #[.int .u8 m, .int .u8 q, .int .u16 T] w fun e w' => e = .returned (.bool true) ∧ Fr (fun _ => False) w w' := order_law m q T hm0 hm1 hq0 hq1 hT0 hT1 w
end Go.Proofs.Ytefijimijmjahaa
