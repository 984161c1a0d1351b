/-
  slices.Insert of one integer, walked.
-/
import Derived.Test.YtlcdmaehedhipaaTrIns2
namespace Go.Proofs.Ytlcdmaehedhipaa
open Go.RowKit
set_option maxRecDepth 100000
set_option linter.unusedSimpArgs false
set_option linter.unusedVariables false

theorem insL_end (l : List Int) (x : Int) : insL l l.length x = l ++ [x] := by
  unfold insL
  simp

set_option maxHeartbeats 16000000 in
theorem insert_any (i gv base : Nat) (x : Int) (l : List Int) (v : Value) (w : World) (h : OI w base v l) (h0 : l ≠ []) (hs : l.length ≤ 900) (hi : i ≤ l.length) (hv : w.heap[gv]? = some (oInt x)) (hne : v.ownBlock ≠ some gv) (hb : base ≤ w.heap.size) :
    Calls Try.prog 28 #[v, .int .i64 i, .slice (some ⟨gv, 0, none⟩) 1 1] w fun e w' => ∃ v', e = .returned v' ∧ SI w' v' (insL l i x) ∧ Fr (fun k => v.ownBlock = some k) w w' := by
  obtain ⟨i0, hi0, hz0, hz1, hz2⟩ := info_parts Try.infoInt
  obtain ⟨g, cap, cur, rfl, hbg, hle, hr, hc⟩ := oi_open h h0
  have hne' : gv ≠ g := fun e => hne (by rw [e]; rfl)
  have hlen : 0 < l.length := List.length_pos_iff.2 h0
  have hcap := hr.2.2
  unfold maxLen at hcap
  obtain ⟨v1, s1⟩ := lslice_some g 0 l.length cap i hi
  have HS1 := Lib.hid s1
  clear s1
  have HH := Lib.hid h
  have HR := Lib.hid hr
  have HC := Lib.hid hc
  have HV := Lib.hid hv
  clear h hr hc hv hne h0
  by_cases hie : i = l.length
  · subst hie
    have s1 := HS1.out
    have HIE := Lib.hid (insL_end l x)
    go_enter Try.func28, Try.ntmps28
    go_wp2_with (at_builtin; refine wpList_append_sep rfl (.tmp 23) (.tmp 24) 24 24 rfl base 3 i0 (.int .i64 0) 1 8 Try.underlying24 _ Try.underlying24 (.inr ⟨_, rfl⟩) hi0 hz0 hz1 hz2 rfl (by decide) (.slice (some ⟨g, 0, none⟩) l.length cap) l.length (l.map (Value.int .i64)) rfl ?own _ 1 [.int .i64 x] rfl (lenOf_slice _ _ _) rfl ?c1 ?c2 ?one ?b1 ?b2 ?base ?grow)
    case own => exact HH.out
    case c1 => exact first_row HV.out 1 1 rfl
    case c2 => exact first_row (w := World.drew _) HV.out 1 1 rfl
    case one => intro u hu; simp at hu; subst hu; rfl
    case b1 => unfold maxLen; omega
    case b2 => omega
    case base => exact hb
    case grow =>
      intro v' w1 hown hg hv
      have HNN : Hid (SI w1 v' (l ++ [x])) := Lib.hid (oi_snoc hown rfl).si
      have HF : Hid (Fr (fun k => (Value.slice (some ⟨g, 0, none⟩) l.length cap).ownBlock = some k) w w1) := Lib.hid ((Fr.of_grown hg).mono (fun _ _ h => h.symm))
      clear hown hg hv
      go_wp2_with fail
      go_ret
      exact ⟨_, rfl, by rw [HIE.out]; exact HNN.out, HF.out⟩
  have hil : i < l.length := by omega
  have hie' : ¬ (i : Int) = (l.length : Int) := by omega
  clear hie
  by_cases hroom : l.length + 1 ≤ cap
  · obtain ⟨w1, w2, e1, e2, hf, hsi⟩ := ins_shift g cap i gv x l cur w HR.out hroom HC.out hil HV.out hne' 3 3
    have s1 := HS1.out
    have s2 := fun w => lslice_to w g 0 l.length cap (l.length + 1) hroom
    have s3 := fun w => lslice_from w g 0 (l.length + 1) cap (i + 1) (by omega) (by omega)
    have s4 := fun w => lslice_from w g 0 (l.length + 1) cap i (by omega) (by omega)
    have en : l.length + 1 - (i + 1) = l.length - i := by omega
    rw [Nat.zero_add] at s3 s4
    rw [en] at s3 e1
    clear en
    have ho := fun lb cb => overlaps_apart w gv g (i + 1) lb cb x cap cur HV.out HR.out hne' (by omega)
    have k1 : ¬ (cap : Int) < (l.length : Int) + 1 := by omega
    have HFS := Lib.hid (And.intro hf hsi)
    clear hf hsi HH HR HC HV HS1 hne'
    go_enter Try.func28, Try.ntmps28
    go_wp2_with (simp only [ho])
    go_region
    go_wp2_with (at_builtin; refine wpList_copy_eq rfl _ _ 24 24 rfl _ _ rfl rfl e2 ?_)
    go_ret
    exact ⟨_, rfl, HFS.out.2, HFS.out.1.mono (fun k _ e => by subst e; rfl)⟩
  · have hno : cap < l.length + 1 := by omega
    obtain ⟨C, w0, w1, w2, hC, e0, e1, e2, hf, hsi⟩ := ins_grow g cap i gv x l cur w HR.out hle hno hs HC.out hil HV.out 3 3 24
    have s2 := fun w => lslice_to w g 0 l.length cap i (by omega)
    have s3 := fun W => lslice_from W w.heap.size 0 (l.length + 1) C i (by omega) (by omega)
    have s4 := fun W => lslice_from W w.heap.size 0 (l.length + 1) C (i + 1) (by omega) (by omega)
    have s5 := fun W => lslice_from W g 0 l.length cap i (by omega) (by omega)
    have en : l.length + 1 - (i + 1) = l.length - i := by omega
    rw [Nat.zero_add] at s3 s4 s5
    rw [en] at s4 e2
    clear en
    have k1 : (cap : Int) < (l.length : Int) + 1 := by omega
    have k2 : IntKind.i64.wrap ((l.length : Int) + 1 - i) = ((l.length + 1 - i : Nat) : Int) := by rw [IntKind.wrap_i64]; omega
    obtain ⟨q, hq⟩ : ∃ q, l.length + 1 - i = q := ⟨_, rfl⟩
    have k3 : (l.length : Int) + 1 - i = (q : Int) := by omega
    rw [hq] at e0 e1 s3 k2
    have HFS := Lib.hid (And.intro hf hsi)
    clear hf hsi HH HR HC HV HS1 hne'
    go_enter Try.func28, Try.ntmps28
    go_upto_region 9 with fail
    go_wp2_with (at_builtin; first
      | refine wpList_append_eq rfl _ _ 24 3 rfl _ _ rfl rfl e0 ?_
      | refine wpList_copy_eq rfl _ _ 24 24 rfl _ _ rfl rfl e1 ?_)
    go_region
    go_wp2_with fail
    go_ret
    exact ⟨_, rfl, HFS.out.2, HFS.out.1.mono (fun k _ e => e.elim)⟩

end Go.Proofs.Ytlcdmaehedhipaa
