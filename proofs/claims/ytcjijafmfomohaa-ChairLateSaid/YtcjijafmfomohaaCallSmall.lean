/-
  The laws' own calls and answers, of small numbers.
-/
import Derived.Test.YtcjijafmfomohaaCallSame
namespace Go.Proofs.Ytcjijafmfomohaa
open Go.RowKit

theorem cst4 {w : World} {b : Nat} {x0 x1 x2 x3 y0 y1 y2 y3 : Value} {t : TypeId} (h : w.heap[b]? = some (.cells #[x0, x1, x2, x3] t (0, 0))) :
    ((((w.setCell ⟨b, 0, none⟩ y0).setCell ⟨b, 1, none⟩ y1).setCell ⟨b, 2, none⟩ y2).setCell ⟨b, 3, none⟩ y3).heap[b]? = some (.cells #[y0, y1, y2, y3] t (0, 0)) := by
  have h0 : (w.setCell ⟨b, 0, none⟩ y0).heap[b]? = some (.cells #[y0, x1, x2, x3] t (0, 0)) := by rw [heap_setCell_same w b 0 _ t y0 h]; rfl
  have h1 : ((w.setCell ⟨b, 0, none⟩ y0).setCell ⟨b, 1, none⟩ y1).heap[b]? = some (.cells #[y0, y1, x2, x3] t (0, 0)) := by rw [heap_setCell_same _ b 1 _ t y1 h0]; rfl
  have h2 : (((w.setCell ⟨b, 0, none⟩ y0).setCell ⟨b, 1, none⟩ y1).setCell ⟨b, 2, none⟩ y2).heap[b]? = some (.cells #[y0, y1, y2, x3] t (0, 0)) := by rw [heap_setCell_same _ b 2 _ t y2 h1]; rfl
  rw [heap_setCell_same _ b 3 _ t y3 h2]; rfl
theorem cst3 {w : World} {b : Nat} {x0 x1 x2 y0 y1 y2 : Value} {t : TypeId} (h : w.heap[b]? = some (.cells #[x0, x1, x2] t (0, 0))) :
    (((w.setCell ⟨b, 0, none⟩ y0).setCell ⟨b, 1, none⟩ y1).setCell ⟨b, 2, none⟩ y2).heap[b]? = some (.cells #[y0, y1, y2] t (0, 0)) := by
  have h0 : (w.setCell ⟨b, 0, none⟩ y0).heap[b]? = some (.cells #[y0, x1, x2] t (0, 0)) := by rw [heap_setCell_same w b 0 _ t y0 h]; rfl
  have h1 : ((w.setCell ⟨b, 0, none⟩ y0).setCell ⟨b, 1, none⟩ y1).heap[b]? = some (.cells #[y0, y1, x2] t (0, 0)) := by rw [heap_setCell_same _ b 1 _ t y1 h0]; rfl
  rw [heap_setCell_same _ b 2 _ t y2 h1]; rfl
theorem cfr4 {w : World} {b : Nat} (y0 y1 y2 y3 : Value) {S : Nat → Prop} {w0 : World} (f : Fr S w0 w) (hb : b < w0.heap.size → S b) :
    Fr S w0 ((((w.setCell ⟨b, 0, none⟩ y0).setCell ⟨b, 1, none⟩ y1).setCell ⟨b, 2, none⟩ y2).setCell ⟨b, 3, none⟩ y3) :=
  (((f.setCell (p := ⟨b, 0, none⟩) hb _).setCell (p := ⟨b, 1, none⟩) hb _).setCell (p := ⟨b, 2, none⟩) hb _).setCell (p := ⟨b, 3, none⟩) hb _
theorem cfr3 {w : World} {b : Nat} (y0 y1 y2 : Value) {S : Nat → Prop} {w0 : World} (f : Fr S w0 w) (hb : b < w0.heap.size → S b) :
    Fr S w0 (((w.setCell ⟨b, 0, none⟩ y0).setCell ⟨b, 1, none⟩ y1).setCell ⟨b, 2, none⟩ y2) :=
  ((f.setCell (p := ⟨b, 0, none⟩) hb _).setCell (p := ⟨b, 1, none⟩) hb _).setCell (p := ⟨b, 2, none⟩) hb _

set_option maxHeartbeats 4000000 in
/-- The laws' call, of small numbers. -/
theorem small_any (t n p : Int) (a : Option Addr) (k c : Nat) (w : World) (hp0 : 0 ≤ p) (hp1 : p ≤ 65535) :
    Calls Try.prog 20 #[.agg #[.int .u16 t, .int .u16 n, .int .u16 p, .slice a k c]] w fun e w' => e = .returned (cv t n p (.slice a k c)) ∧ Fr (fun _ => False) w w' := by
  have hq := new_two w (Obj.cells #[.int .u16 t, .int .u16 n, .int .u16 p, .slice a k c] 25 (0, 0)) (Obj.cells #[.int .u16 t, .int .u16 n, .int .i64 p, .slice a k c] 45 (0, 0))
  have hf : Fr (fun _ => False) w ((w.alloc (Obj.cells #[.int .u16 t, .int .u16 n, .int .u16 p, .slice a k c] 25 (0, 0))).alloc (Obj.cells #[.int .u16 t, .int .u16 n, .int .i64 p, .slice a k c] 45 (0, 0))) := ((Fr.refl _ _).alloc _).alloc _
  have HQ := Lib.hid hq; clear hq
  have HF := Lib.hid hf; clear hf
  go_enter Try.func20, Try.ntmps20
  go_wp2_with fail
  refine bodyPost_ret (results_cell_row rfl _ _ (w.heap.size + 1) 45 _ _ _ rfl HQ.out Try.underlying45 rfl (by kernel_rfl)) rfl ?_
  exact ⟨rfl, HF.out⟩

end Go.Proofs.Ytcjijafmfomohaa
