/-
  The laws' fixed fact: the chapter's examples.
-/
import Derived.Test.YtdaabgnfgdojhaaKindCheckAll
import Derived.LoopN
namespace Go.Proofs.Ytdaabgnfgdojhaa
open Go.RowKit

def face : Txt := [102, 97, 99, 101]

def tab0 : KTab := ⟨face, 0, 0, [], [], []⟩

theorem check_tab0 : checkE tab0 = 0 := by kernel_rfl

set_option maxRecDepth 100000 in
set_option maxHeartbeats 16000000 in
theorem table_empty (w : World) : Calls Try.prog 14 #[.agg #[.int .u16 0, .slice none 0 0, .int .u8 0, .slice none 0 0]] w fun e w' => e = .returned (.agg #[sv face, .int .i64 0, .int .i64 0, .slice none 0 0, .slice none 0 0, .slice none 0 0]) ∧ Fr (fun _ => False) w w' := by
  go_enter Try.func14, Try.ntmps14
  go_wp2
  refine wp_loop_rounds 1 ?_
  rw [rounds_succ]
  go_wp2
  refine wp_loop_rounds 1 ?_
  rw [rounds_succ]
  go_wp2
  refine wp_loop_rounds 1 ?_
  rw [rounds_succ]
  go_wp2
  refine bodyPost_ret (results_cell_row rfl _ _ (w.heap.size + 1) 32 _ _ _ rfl ((Below.heap_alloc _ _ _ (by simp)).trans (heap_alloc_two _ _ _)) Try.underlying32 rfl (by kernel_rfl)) rfl ?_
  exact ⟨rfl, (((Fr.refl _ _).alloc _).alloc _).alloc _⟩

set_option maxHeartbeats 4000000 in
theorem awake_any (w : World) : Calls Try.prog 12 #[] w fun e w' => e = .returned (.bool true) ∧ Fr (fun _ => False) w w' := by
  have n1 : ∀ w, Calls Try.prog 29 #[.string ⟨#[115, 101, 113]⟩] w fun e w' => e = .returned (.bool false) ∧ w = w' := fun w => named_any ⟨#[115, 101, 113]⟩ w (by decide)
  have n2 : ∀ w, Calls Try.prog 29 #[.string ⟨#[115, 101, 113, 117, 101, 108]⟩] w fun e w' => e = .returned (.bool true) ∧ w = w' := fun w => named_any ⟨#[115, 101, 113, 117, 101, 108]⟩ w (by decide)
  have hck : ∀ w, Calls Try.prog 16 #[.agg #[sv face, .int .i64 0, .int .i64 0, .slice none 0 0, .slice none 0 0, .slice none 0 0]] w fun e w' => e = .returned (.int .i64 0) ∧ Fr (fun _ => False) w w' := fun w => by
    have := check_any (fun _ => True) tab0 (.agg #[sv face, .int .i64 0, .int .i64 0, .slice none 0 0, .slice none 0 0, .slice none 0 0]) w ⟨_, _, _, rfl, by decide, ⟨by decide, by simp [tab0], .inl ⟨rfl, _, _, rfl⟩⟩, ⟨by decide, by simp [tab0], .inl ⟨rfl, _, _, rfl⟩⟩, ⟨by decide, by simp [tab0], .inl ⟨rfl, _, _, rfl⟩⟩⟩
    rw [check_tab0] at this
    exact this
  go_enter Try.func12, Try.ntmps12
  go_wp2_with fail
  refine (n1 _).mono ?_
  rintro e w1 ⟨rfl, rfl⟩
  go_wp2_with fail
  refine (n2 _).mono ?_
  rintro e w1 ⟨rfl, rfl⟩
  go_wp2_with fail
  refine (table_empty _).mono ?_
  rintro e w1 ⟨rfl, f1⟩
  go_wp2_with fail
  refine (hck _).mono ?_
  rintro e w2 ⟨rfl, f2⟩
  go_wp2
  go_ret
  exact ⟨rfl, f1.trans f2 (fun _ _ h => h)⟩

end Go.Proofs.Ytdaabgnfgdojhaa
