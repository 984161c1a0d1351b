/-
  Bytes of one's own: bytes.Clone; an answer with bytes of its own.
-/
import Derived.Test.YtefijimijmjahaaCallSmall
import Derived.Test.YtefijimijmjahaaMapRaw
namespace Go.Proofs.Ytefijimijmjahaa
open Go.RowKit

set_option maxHeartbeats 400000 in
theorem bclone_any (v : Value) (l : List UInt8) (w : World) (h : Sees w v l) (hl : l.length ≤ 140737488351232) :
    Calls Try.prog 19 #[v] w fun e w' => ∃ v', e = .returned v' ∧ Own w' v' l ∧ Fr (fun _ => False) w w' ∧ (∀ k, v'.ownBlock = some k → w.heap.size ≤ k) := by
  obtain ⟨i0, hi, hz0, hz1, hz2⟩ := info_parts Try.infoU8
  obtain ⟨a, c, rfl, hn⟩ := h.shape
  have q1 : ∀ (w : World) (a : Option Addr) (n c : Nat), (binOp .eql 30 (.slice a n c) (.slice none 0 0)).run Try.prog w = .ok (.bool a.isNone) w := fun w a n c => Lib.run_eql_slice_nil w _ _ a n c 0 0 Try.underlying30
  cases a with
  | none =>
    have hl := hn rfl
    subst hl
    go_enter Try.func19, Try.ntmps19
    go_wp2
    go_ret
    exact ⟨_, rfl, World.ownsRow_nil _ _ _ _, Fr.refl _ _, fun k hk => by cases hk⟩
  | some a =>
    have Hn := Lib.hid hn; clear hn
    go_enter Try.func19, Try.ntmps19
    go_wp2_with (at_builtin; refine wpList_append_sep rfl (.tmp 5) (.tmp 6) 30 30 rfl 0 5 i0 (.int .u8 0) 1 1 Try.underlying30 _ Try.underlying30 (.inr ⟨_, rfl⟩) hi hz0 hz1 hz2 rfl (by decide) (.slice (some ⟨w.heap.size, 0, none⟩) 0 0) 0 [] rfl ?own _ l.length (l.map bv) rfl (lenOf_slice _ _ _) (by simp) ?c1 ?c2 (bv_one _) ?b1 ?b2 (Nat.zero_le _) ?grow)
    case own => exact World.ownsRow_made w #[] 0 (Nat.zero_le _) (by unfold maxLen; omega) rfl
    case c1 => exact (h.fr ((Fr.refl (fun _ => False) w).alloc _) (fun _ _ h => h)).first
    case c2 => exact (h.fr ((Fr.refl (fun _ => False) w).alloc _) (fun _ _ h => h)).drew.first
    case b1 => unfold maxLen; omega
    case b2 => omega
    case grow =>
      intro v' w1 hown hg hv
      have Ho := Lib.hid hown
      have Hg := Lib.hid hg
      have Hv := Lib.hid hv
      clear hown hg hv
      go_wp2
      go_ret
      refine ⟨v', rfl, Ho.out, ?_, ?_⟩
      · exact ((Fr.refl _ _).alloc (.cells #[] 5)).trans (Fr.of_grown Hg.out) (fun i hi e => by simp [Value.ownBlock] at e; omega)
      · intro k hk
        rcases Hv.out with e | e
        · rw [e] at hk; simp [Value.ownBlock] at hk; omega
        · rw [e] at hk; simp at hk; omega


abbrev oAns (e r : Int) (v : Value) : Obj := Obj.cells #[.int .i64 e, .int .i64 r, v] 39 (0, 0)
abbrev oId (x : IdN) : Obj := Obj.cells #[.int .u16 x.1, .int .u16 x.2] 36 (0, 0)

theorem new_two_fst (w : World) (A B : Obj) : ((w.alloc A).alloc B).heap[w.heap.size]? = some A := by
  rw [Below.heap_alloc _ _ _ (by simp)]
  exact heap_alloc_new w A

set_option maxHeartbeats 4000000 in
/-- An answer with bytes of its own. -/
theorem apart_any (e r : Int) (v : Value) (l : List UInt8) (w : World) (h : Sees w v l) (hl : l.length ≤ 140737488351232) :
    Calls Try.prog 16 #[av e r v] w fun x w' => ∃ v', x = .returned (av e r v') ∧ Made v' l w w' := by
  obtain ⟨a, c, rfl, hn⟩ := h.shape
  clear hn
  unfold av
  go_enter Try.func16, Try.ntmps16
  go_wp2_with fail
  have q0 := new_two_fst w (oAns e r (.slice a l.length c)) (oAns 0 0 (.slice none 0 0))
  have q1 := new_two w (oAns e r (.slice a l.length c)) (oAns 0 0 (.slice none 0 0))
  have f0 : Fr (fun _ => False) w ((w.alloc (oAns e r (.slice a l.length c))).alloc (oAns 0 0 (.slice none 0 0))) := ((Fr.refl _ _).alloc _).alloc _
  have hsz : ((w.alloc (oAns e r (.slice a l.length c))).alloc (oAns 0 0 (.slice none 0 0))).heap.size = w.heap.size + 2 := by simp
  generalize (w.alloc (oAns e r (.slice a l.length c))).alloc (oAns 0 0 (.slice none 0 0)) = w0 at *
  generalize hg : w.heap.size = g at *
  have HG := Lib.hid hg
  clear hg
  refine (bclone_any (.slice a l.length c) l _ (h.fr f0 (fun _ _ h => h)) hl).mono ?_
  rintro x w1 ⟨v', rfl, ho, f1, hv⟩
  have p0 := crow_kept q0 f1 (fun h => h)
  have p1 := crow_kept q1 f1 (fun h => h)
  have F1 := Lib.hid (f0.trans f1 (fun _ _ h => h))
  have HO := Lib.hid ho
  rw [hsz] at hv
  have HV := Lib.hid hv
  clear q0 q1 f0 f1 ho hv hsz
  obtain ⟨a', c', rfl⟩ := slice_of_own HO.out
  obtain ⟨c0, c1, c2⟩ := cell3 p0
  obtain ⟨d0, d1, d2⟩ := cell3 p1
  have z0 : ∀ i, w1.frozen? ⟨g, i, none⟩ = false := by intro i; simp [World.frozen?, p0]
  have z1 : ∀ i, w1.frozen? ⟨g + 1, i, none⟩ = false := by intro i; simp [World.frozen?, p1]
  have P0 := Lib.hid p0
  have P1 := Lib.hid p1
  clear p0 p1
  go_wp2_with fail
  refine bodyPost_ret (results_cell_row rfl _ _ (g + 1) 39 #[.int .i64 e, .int .i64 r, .slice a' l.length c'] (0, 0) _ rfl ?hq Try.underlying39 rfl (by kernel_rfl)) rfl ?_
  case hq => exact cst3 (by rw [Below.heap_setCell _ _ _ _ (by simp)]; exact P1.out)
  have hne : ∀ k, (Value.slice a' l.length c').ownBlock = some k → ¬ (k = g ∨ k = g + 1) := by
    intro k hk
    have := HV.out k hk
    omega
  have fX : Fr (fun k => k = g ∨ k = g + 1) w1 (w1.setCell ⟨g, 2, none⟩ (.slice a' l.length c')) := (Fr.refl _ _).setCell (fun _ => .inl rfl) _
  have fY := cfr3 (b := g + 1) (.int .i64 e) (.int .i64 r) (.slice a' l.length c') fX (fun _ => .inr rfl)
  refine ⟨_, rfl, HO.out.fr fY hne, F1.out.trans fY (fun k hk e => ?_), fun k hk => ?_⟩
  · have := HG.out; omega
  · have := HV.out k hk; have := HG.out; omega
end Go.Proofs.Ytefijimijmjahaa
