/-
  Which calls, which answers are the same; the laws' own calls and answers, of small numbers.
-/
import Derived.Test.YtcjijafmfomohaaCallPut
import Derived.Lib.Strings
namespace Go.Proofs.Ytcjijafmfomohaa
open Go.RowKit

theorem ctxt_beq (a b : List UInt8) : ((⟨a.toArray⟩ : ByteArray).toList == (⟨b.toArray⟩ : ByteArray).toList) = decide (a = b) := by
  rw [Lib.toList_data, Lib.toList_data]
  by_cases h : a = b
  · subst h; simp
  · simp [h]

set_option maxHeartbeats 4000000 in
theorem equal_any (v u : Value) (l m : List UInt8) (w : World) (h1 : Sees w v l) (h2 : Sees w u m) :
    Calls Try.prog 32 #[v, u] w fun e w' => e = .returned (.bool (decide (l = m))) ∧ Fr (fun _ => False) w w' := by
  have k1 : (convert 23 9 v).run Try.prog w = .ok (.string ⟨l.toArray⟩) w := h1.string _ _ _ Try.underlying23 Try.underlying5 Try.underlying9
  have k2 : (convert 23 9 u).run Try.prog w = .ok (.string ⟨m.toArray⟩) w := h2.string _ _ _ Try.underlying23 Try.underlying5 Try.underlying9
  have he := ctxt_beq l m
  have HE := Lib.hid he; clear he
  obtain ⟨s, hs⟩ : ∃ s : ByteArray, s = ⟨l.toArray⟩ := ⟨_, rfl⟩
  obtain ⟨r, hr⟩ : ∃ s : ByteArray, s = ⟨m.toArray⟩ := ⟨_, rfl⟩
  rw [← hs] at k1 HE
  rw [← hr] at k2 HE
  clear hs hr
  go_enter Try.func32, Try.ntmps32
  go_wp2_with fail
  go_ret
  rw [HE.out]
  exact ⟨rfl, Fr.refl _ _⟩

set_option maxRecDepth 100000 in
set_option maxHeartbeats 4000000 in
theorem csame_any (t n p t' n' p' : Int) (v u : Value) (l m : List UInt8) (w : World) (h1 : Sees w v l) (h2 : Sees w u m) :
    Calls Try.prog 25 #[cv t n p v, cv t' n' p' u] w fun e w' => e = .returned (.bool (decide (t = t' ∧ n = n' ∧ p = p' ∧ l = m))) ∧ Fr (fun _ => False) w w' := by
  unfold cv
  go_enter Try.func25, Try.ntmps25
  go_wp2_with fail
  have f1 : Fr (fun _ => False) w ((w.alloc (Obj.cells #[Value.int IntKind.u16 t', Value.int IntKind.u16 n', Value.int IntKind.i64 p', v] 45)).alloc (Obj.cells #[Value.int IntKind.u16 t', Value.int IntKind.u16 n', Value.int IntKind.i64 p', u] 45)) := ((Fr.refl _ _).alloc _).alloc _
  case isTrue =>
    refine (equal_any v u l m _ (h1.fr f1 (fun _ _ h => h)) (h2.fr f1 (fun _ _ h => h))).mono ?_
    rintro e w2 ⟨rfl, f2⟩
    have F2 := Lib.hid (f1.trans f2 (fun _ _ h => h))
    clear f1 f2
    go_wp2_with fail
    go_ret
    have e : decide (t = t' ∧ n = n' ∧ p = p' ∧ l = m) = decide (l = m) := by simp [*]
    rw [e]
    exact ⟨rfl, F2.out⟩
  all_goals
    go_ret
    refine ⟨?_, ((Fr.refl _ _).alloc _).alloc _⟩
    simp [*]

end Go.Proofs.Ytcjijafmfomohaa
