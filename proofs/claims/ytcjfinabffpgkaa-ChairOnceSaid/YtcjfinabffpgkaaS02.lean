/-
  What ChOnce rests on, part 2: CallPut, CallSame, CallSmall, Facts, CallTake, Open, Arg, CallArg, TrBase, TrView, Region.
-/
import Derived.Test.YtcjfinabffpgkaaS01
import Derived.Lib.Strings
import Derived.ProofKit
import Derived.OpenShut
import Derived.SliceStrings
import Derived.Deep.Slices
import Derived.WideShapes
import Derived.Deep.Cut
import Derived.Deep.CutRange
import Derived.Deep.CutBlock
import Derived.Deep.LoopGhost
import Derived.Deep.QuietTactic
import Derived.BigQuiet
set_option linter.unusedVariables false
set_option linter.unusedSimpArgs false
set_option maxHeartbeats 64000000
namespace Go.Proofs.Ytcjfinabffpgkaa
open Go.RowKit
open Go.Lib (hid)
section
theorem Sees.none {w w' : World} {v : Value} {l : List UInt8} (h : Sees w v l) (hl : l = []) : Sees w' v l := by
  subst hl
  rcases h with ⟨_, a, c, rfl⟩ | ⟨g, off, cap, rfl, _, _⟩
  · exact .inl ⟨rfl, _, _, rfl⟩
  · exact .inl ⟨rfl, _, _, rfl⟩

theorem ok_bounds {p : Int} (h : okN p = true) : 0 ≤ p ∧ p ≤ 65535 := by unfold okN at h; simpa using h
theorem cchk_ok {p : Int} {n : Nat} (h : okN p = true) (hn : n ≤ 4000) : cchk p n = 0 := by unfold cchk sizeN; rw [if_pos h, if_pos hn]
theorem achk_ok {e r : Int} {n : Nat} (h : okN e = true) (h' : okN r = true) (hn : n ≤ 4000) : achk e r n = 0 := by unfold achk; rw [if_pos h]; exact cchk_ok h' hn

theorem crow_kept {S : Nat → Prop} {w0 w1 : World} {b : Nat} {o : Obj} (h : w0.heap[b]? = some o) (f : Fr S w0 w1) (hb : ¬ S b) : w1.heap[b]? = some o := by
  rw [f.block b (Array.getElem?_eq_some_iff.1 h).1 hb]; exact h
theorem cell4 {w : World} {b : Nat} {x0 x1 x2 x3 : Value} {t : TypeId} (h : w.heap[b]? = some (.cells #[x0, x1, x2, x3] t (0, 0))) :
    w.cell? ⟨b, 0, none⟩ = some x0 ∧ w.cell? ⟨b, 1, none⟩ = some x1 ∧ w.cell? ⟨b, 2, none⟩ = some x2 ∧ w.cell? ⟨b, 3, none⟩ = some x3 := by
  simp [World.cell?, h]
theorem cell3 {w : World} {b : Nat} {x0 x1 x2 : Value} {t : TypeId} (h : w.heap[b]? = some (.cells #[x0, x1, x2] t (0, 0))) :
    w.cell? ⟨b, 0, none⟩ = some x0 ∧ w.cell? ⟨b, 1, none⟩ = some x1 ∧ w.cell? ⟨b, 2, none⟩ = some x2 := by
  simp [World.cell?, h]

theorem callB_length (t n p : Int) (l : List UInt8) : (callB t n p l).length = 8 + l.length + l.length % 2 := by
  unfold callB
  rw [List.length_append, List.length_append, List.length_append, be2_length, be2_length, be2_length, txt_length]
  omega
theorem ansB_length (n p : Int) (l : List UInt8) : (ansB n p l).length = 6 + l.length + l.length % 2 := by
  unfold ansB
  rw [List.length_append, List.length_append, be2_length, be2_length, txt_length]
  omega
end
section
theorem ctxt_beq (a b : List UInt8) : ((⟨a.toArray⟩ : ByteArray).toList == (⟨b.toArray⟩ : ByteArray).toList) = decide (a = b) := by
  rw [Lib.toList_data, Lib.toList_data]
  by_cases h : a = b
  · subst h; simp
  · simp [h]

theorem equal_any (v u : Value) (l m : List UInt8) (w : World) (h1 : Sees w v l) (h2 : Sees w u m) :
    Calls Try.prog 31 #[v, u] w fun e w' => e = .returned (.bool (decide (l = m))) ∧ Fr (fun _ => False) w w' := by
  have k1 : (convert 23 9 v).run Try.prog w = .ok (.string ⟨l.toArray⟩) w := h1.string _ _ _ Try.underlying23 Try.underlying5 Try.underlying9
  have k2 : (convert 23 9 u).run Try.prog w = .ok (.string ⟨m.toArray⟩) w := h2.string _ _ _ Try.underlying23 Try.underlying5 Try.underlying9
  have he := ctxt_beq l m
  have HE := Lib.hid he; clear he
  obtain ⟨s, hs⟩ : ∃ s : ByteArray, s = ⟨l.toArray⟩ := ⟨_, rfl⟩
  obtain ⟨r, hr⟩ : ∃ s : ByteArray, s = ⟨m.toArray⟩ := ⟨_, rfl⟩
  rw [← hs] at k1 HE
  rw [← hr] at k2 HE
  clear hs hr
  go_enter Try.func31, Try.ntmps31
  go_wp2_with fail
  go_ret
  rw [HE.out]
  exact ⟨rfl, Fr.refl _ _⟩

set_option maxRecDepth 100000 in
theorem csame_any (t n p t' n' p' : Int) (v u : Value) (l m : List UInt8) (w : World) (h1 : Sees w v l) (h2 : Sees w u m) :
    Calls Try.prog 24 #[cv t n p v, cv t' n' p' u] w fun e w' => e = .returned (.bool (decide (t = t' ∧ n = n' ∧ p = p' ∧ l = m))) ∧ Fr (fun _ => False) w w' := by
  unfold cv
  go_enter Try.func24, Try.ntmps24
  go_wp2_with fail
  have f1 : Fr (fun _ => False) w ((w.alloc (Obj.cells #[Value.int IntKind.u16 t', Value.int IntKind.u16 n', Value.int IntKind.i64 p', v] 45)).alloc (Obj.cells #[Value.int IntKind.u16 t', Value.int IntKind.u16 n', Value.int IntKind.i64 p', u] 45)) := ((Fr.refl _ _).alloc _).alloc _
  case isTrue =>
    refine (equal_any v u l m _ (h1.fr f1 (fun _ _ h => h)) (h2.fr f1 (fun _ _ h => h))).mono ?_
    rintro e w2 ⟨rfl, f2⟩
    have F2 := Lib.hid (f1.trans f2 (fun _ _ h => h))
    clear f1 f2
    go_wp2_with fail
    go_ret
    have e : decide (t = t' ∧ n = n' ∧ p = p' ∧ l = m) = decide (l = m) := by simp [*]
    rw [e]
    exact ⟨rfl, F2.out⟩
  all_goals
    go_ret
    refine ⟨?_, ((Fr.refl _ _).alloc _).alloc _⟩
    simp [*]
end
section
theorem cst4 {w : World} {b : Nat} {x0 x1 x2 x3 y0 y1 y2 y3 : Value} {t : TypeId} (h : w.heap[b]? = some (.cells #[x0, x1, x2, x3] t (0, 0))) :
    ((((w.setCell ⟨b, 0, none⟩ y0).setCell ⟨b, 1, none⟩ y1).setCell ⟨b, 2, none⟩ y2).setCell ⟨b, 3, none⟩ y3).heap[b]? = some (.cells #[y0, y1, y2, y3] t (0, 0)) := by
  have h0 : (w.setCell ⟨b, 0, none⟩ y0).heap[b]? = some (.cells #[y0, x1, x2, x3] t (0, 0)) := by rw [heap_setCell_same w b 0 _ t y0 h]; rfl
  have h1 : ((w.setCell ⟨b, 0, none⟩ y0).setCell ⟨b, 1, none⟩ y1).heap[b]? = some (.cells #[y0, y1, x2, x3] t (0, 0)) := by rw [heap_setCell_same _ b 1 _ t y1 h0]; rfl
  have h2 : (((w.setCell ⟨b, 0, none⟩ y0).setCell ⟨b, 1, none⟩ y1).setCell ⟨b, 2, none⟩ y2).heap[b]? = some (.cells #[y0, y1, y2, x3] t (0, 0)) := by rw [heap_setCell_same _ b 2 _ t y2 h1]; rfl
  rw [heap_setCell_same _ b 3 _ t y3 h2]; rfl
theorem cst3 {w : World} {b : Nat} {x0 x1 x2 y0 y1 y2 : Value} {t : TypeId} (h : w.heap[b]? = some (.cells #[x0, x1, x2] t (0, 0))) :
    (((w.setCell ⟨b, 0, none⟩ y0).setCell ⟨b, 1, none⟩ y1).setCell ⟨b, 2, none⟩ y2).heap[b]? = some (.cells #[y0, y1, y2] t (0, 0)) := by
  have h0 : (w.setCell ⟨b, 0, none⟩ y0).heap[b]? = some (.cells #[y0, x1, x2] t (0, 0)) := by rw [heap_setCell_same w b 0 _ t y0 h]; rfl
  have h1 : ((w.setCell ⟨b, 0, none⟩ y0).setCell ⟨b, 1, none⟩ y1).heap[b]? = some (.cells #[y0, y1, x2] t (0, 0)) := by rw [heap_setCell_same _ b 1 _ t y1 h0]; rfl
  rw [heap_setCell_same _ b 2 _ t y2 h1]; rfl
theorem cfr4 {w : World} {b : Nat} (y0 y1 y2 y3 : Value) {S : Nat → Prop} {w0 : World} (f : Fr S w0 w) (hb : b < w0.heap.size → S b) :
    Fr S w0 ((((w.setCell ⟨b, 0, none⟩ y0).setCell ⟨b, 1, none⟩ y1).setCell ⟨b, 2, none⟩ y2).setCell ⟨b, 3, none⟩ y3) :=
  (((f.setCell (p := ⟨b, 0, none⟩) hb _).setCell (p := ⟨b, 1, none⟩) hb _).setCell (p := ⟨b, 2, none⟩) hb _).setCell (p := ⟨b, 3, none⟩) hb _
theorem cfr3 {w : World} {b : Nat} (y0 y1 y2 : Value) {S : Nat → Prop} {w0 : World} (f : Fr S w0 w) (hb : b < w0.heap.size → S b) :
    Fr S w0 (((w.setCell ⟨b, 0, none⟩ y0).setCell ⟨b, 1, none⟩ y1).setCell ⟨b, 2, none⟩ y2) :=
  ((f.setCell (p := ⟨b, 0, none⟩) hb _).setCell (p := ⟨b, 1, none⟩) hb _).setCell (p := ⟨b, 2, none⟩) hb _

/-- The laws' call, of small numbers. -/
theorem small_any (t n p : Int) (a : Option Addr) (k c : Nat) (w : World) (hp0 : 0 ≤ p) (hp1 : p ≤ 65535) :
    Calls Try.prog 19 #[.agg #[.int .u16 t, .int .u16 n, .int .u16 p, .slice a k c]] w fun e w' => e = .returned (cv t n p (.slice a k c)) ∧ Fr (fun _ => False) w w' := by
  have hq := new_two w (Obj.cells #[.int .u16 t, .int .u16 n, .int .u16 p, .slice a k c] 25 (0, 0)) (Obj.cells #[.int .u16 t, .int .u16 n, .int .i64 p, .slice a k c] 45 (0, 0))
  have hf : Fr (fun _ => False) w ((w.alloc (Obj.cells #[.int .u16 t, .int .u16 n, .int .u16 p, .slice a k c] 25 (0, 0))).alloc (Obj.cells #[.int .u16 t, .int .u16 n, .int .i64 p, .slice a k c] 45 (0, 0))) := ((Fr.refl _ _).alloc _).alloc _
  have HQ := Lib.hid hq; clear hq
  have HF := Lib.hid hf; clear hf
  go_enter Try.func19, Try.ntmps19
  go_wp2_with fail
  refine bodyPost_ret (results_cell_row rfl _ _ (w.heap.size + 1) 45 _ _ _ rfl HQ.out Try.underlying45 rfl (by kernel_rfl)) rfl ?_
  exact ⟨rfl, HF.out⟩
end
section
theorem nextS_two (l : List UInt8) (e : Int) (k : Nat) (hc : e ≠ 0 → l = []) :
    ((nextS (l, e) k).2.2 = 0 ∧ e = 0 ∧ k ≤ l.length ∧ (nextS (l, e) k).1 = l.take k ∧ (nextS (l, e) k).2.1 = l.drop k) ∨
    ((nextS (l, e) k).2.2 ≠ 0 ∧ (nextS (l, e) k).2.1 = [] ∧ (nextS (l, e) k).1 = [] ∧ (e ≠ 0 → (nextS (l, e) k).2.2 = e)) := by
  unfold nextS failS
  by_cases he : e = 0
  · subst he
    by_cases hk : l.length < k
    · right; simp [hk]
    · left; simp [hk]; omega
  · have hl := hc he
    subst hl
    right
    by_cases hk : (0 : Nat) < k
    · simp [hk, he]
    · simp [hk, he]

theorem numS_two (l : List UInt8) (e : Int) (k : Nat) (hc : e ≠ 0 → l = []) :
    ((numS (l, e) k).2.2 = 0 ∧ e = 0 ∧ k ≤ l.length ∧ (numS (l, e) k).1 = beNum (l.take k) ∧ (numS (l, e) k).2.1 = l.drop k) ∨
    ((numS (l, e) k).2.2 ≠ 0 ∧ (numS (l, e) k).2.1 = [] ∧ (numS (l, e) k).1 = 0 ∧ (e ≠ 0 → (numS (l, e) k).2.2 = e)) := by
  unfold numS
  rcases nextS_two l e k hc with ⟨h1, h2, h3, h4, h5⟩ | ⟨h1, h2, h3, h4⟩
  · left; exact ⟨h1, h2, h3, by rw [h4], h5⟩
  · right; exact ⟨h1, h2, by rw [h3]; rfl, h4⟩

theorem withinS_two (l : List UInt8) (e : Int) (most : Int) (hc : e ≠ 0 → l = []) :
    ((withinS (l, e) most).2.2 = 0 ∧ e = 0 ∧ 2 ≤ l.length ∧ (withinS (l, e) most).1 = beNum (l.take 2) ∧ ((withinS (l, e) most).1 : Int) ≤ most ∧ (withinS (l, e) most).2.1 = l.drop 2) ∨
    ((withinS (l, e) most).2.2 ≠ 0 ∧ (withinS (l, e) most).2.1 = [] ∧ (withinS (l, e) most).1 = 0 ∧ (e ≠ 0 → (withinS (l, e) most).2.2 = e)) := by
  unfold withinS
  rcases numS_two l e 2 hc with ⟨h1, h2, h3, h4, h5⟩ | ⟨h1, h2, h3, h4⟩
  · by_cases hm : most < ((numS (l, e) 2).1 : Int)
    · right
      rw [if_pos hm]
      subst h2
      unfold failS
      simp [h1]
    · left
      rw [if_neg hm]
      exact ⟨h1, h2, h3, h4, by omega, h5⟩
  · right
    by_cases hm : most < ((numS (l, e) 2).1 : Int)
    · rw [if_pos hm]
      unfold failS
      simp [h1, h2]
      exact h4
    · rw [if_neg hm]
      exact ⟨h1, h2, h3, h4⟩

theorem textS_two (l : List UInt8) (e : Int) (most : Int) (hc : e ≠ 0 → l = []) :
    ((textS (l, e) most).2.2 = 0 ∧ e = 0 ∧ l = txt (textS (l, e) most).1 ++ (textS (l, e) most).2.1 ∧ ((textS (l, e) most).1.length : Int) ≤ most ∧ (textS (l, e) most).1.length < 65536) ∨
    ((textS (l, e) most).2.2 ≠ 0 ∧ (textS (l, e) most).2.1 = [] ∧ (textS (l, e) most).1 = [] ∧ (e ≠ 0 → (textS (l, e) most).2.2 = e)) := by
  have hsm := withinS_small (l, e) most
  have ht : textS (l, e) most = (if (nextS ((withinS (l, e) most).2.1, (withinS (l, e) most).2.2) ((withinS (l, e) most).1 + (withinS (l, e) most).1 % 2)).2.2 ≠ 0 then ([], (nextS ((withinS (l, e) most).2.1, (withinS (l, e) most).2.2) ((withinS (l, e) most).1 + (withinS (l, e) most).1 % 2)).2) else if (withinS (l, e) most).1 % 2 = 1 ∧ (nextS ((withinS (l, e) most).2.1, (withinS (l, e) most).2.2) ((withinS (l, e) most).1 + (withinS (l, e) most).1 % 2)).1.getD (withinS (l, e) most).1 0 ≠ 0 then ([], failS (nextS ((withinS (l, e) most).2.1, (withinS (l, e) most).2.2) ((withinS (l, e) most).1 + (withinS (l, e) most).1 % 2)).2 4) else ((nextS ((withinS (l, e) most).2.1, (withinS (l, e) most).2.2) ((withinS (l, e) most).1 + (withinS (l, e) most).1 % 2)).1.take (withinS (l, e) most).1, (nextS ((withinS (l, e) most).2.1, (withinS (l, e) most).2.2) ((withinS (l, e) most).1 + (withinS (l, e) most).1 % 2)).2)) := rfl
  have hw := withinS_two l e most hc
  rw [ht]
  clear ht
  generalize withinS (l, e) most = p at *
  have hn := nextS_two p.2.1 p.2.2 (p.1 + p.1 % 2) (by
    intro h
    rcases hw with ⟨h1, _⟩ | ⟨_, h2, _⟩
    · exact absurd h1 h
    · exact h2)
  generalize nextS (p.2.1, p.2.2) (p.1 + p.1 % 2) = r at *
  rcases hn with ⟨n1, n2, n3, n4, n5⟩ | ⟨n1, n2, n3, n4⟩
  · rcases hw with ⟨w1, w2, w3, w4, w5, w6⟩ | ⟨w1, _⟩
    · by_cases hpad : p.1 % 2 = 1 ∧ r.1.getD p.1 0 ≠ 0
      · right
        rw [if_neg (by simpa using n1), if_pos hpad]
        unfold failS
        simp [n1, w2]
      · left
        rw [if_neg (by simpa using n1), if_neg hpad]
        have hlen : (r.1.take p.1).length = p.1 := by rw [n4]; simp; omega
        refine ⟨n1, w2, ?_, by rw [hlen]; exact w5, by rw [hlen]; exact hsm⟩
        show l = txt (r.1.take p.1) ++ r.2.1
        have e1 : l = l.take 2 ++ p.2.1 := by rw [w6, List.take_append_drop]
        have e2 : p.2.1 = r.1 ++ r.2.1 := by rw [n4, n5, List.take_append_drop]
        have e3 : be2 p.1 = l.take 2 := by rw [w4]; exact be2_beNum _ (by simp; omega)
        have e4 : r.1 = r.1.take p.1 ++ (if p.1 % 2 = 1 then [0] else []) := by
          have hr : r.1.length = p.1 + p.1 % 2 := by rw [n4]; simp; omega
          by_cases ho : p.1 % 2 = 1
          · rw [if_pos ho]
            have hz : r.1.getD p.1 0 = 0 := by
              by_cases hz : r.1.getD p.1 0 = 0
              · exact hz
              · exact absurd ⟨ho, hz⟩ hpad
            have hlt : p.1 < r.1.length := by omega
            have e5 : r.1.drop p.1 = [0] := by
              rw [List.drop_eq_getElem_cons hlt, List.drop_eq_nil_of_le (by omega)]
              simp [List.getD, hlt] at hz
              rw [hz]
            conv => lhs; rw [← List.take_append_drop p.1 r.1, e5]
          · rw [if_neg ho, List.append_nil, List.take_of_length_le (by omega)]
        unfold txt
        rw [hlen, e3, List.append_assoc, List.append_assoc]
        conv => lhs; rw [e1, e2]
        conv => lhs; rw [e4]
        rw [List.append_assoc]
    · exact absurd n2 w1
  · right
    rw [if_pos n1]
    refine ⟨n1, n2, rfl, ?_⟩
    intro he
    rcases hw with ⟨_, w2, _⟩ | ⟨w1, _, _, w4⟩
    · exact absurd w2 he
    · show r.2.2 = e
      rw [n4 w1, w4 he]
end
section
theorem cconv (w : World) (s : ByteArray) : ∃ cap w', (convert 9 23 (.string s)).run Try.prog w = .ok (.slice (some ⟨w.heap.size, 0, none⟩) s.size cap) w' ∧ Fr (fun _ => False) w w' ∧ Sees w' (.slice (some ⟨w.heap.size, 0, none⟩) s.size cap) s.data.toList ∧ w.heap.size < w'.heap.size :=
  ⟨_, _, run_bytes_of_string (P := Try.prog) w 9 23 5 s Try.underlying9 Try.underlying23 Try.underlying5, (Fr.refl _ _).drew.alloc _, sees_bytes w s 5, by rw [World.size_alloc]; exact Nat.lt_succ_self _⟩

theorem free4 {w : World} {b : Nat} {cs : Array Value} {t : TypeId} (h : w.heap[b]? = some (.cells cs t (0, 0))) (i : Nat) : w.frozen? ⟨b, i, none⟩ = false := by
  simp [World.frozen?, h]

/-- What a call, an answer reads as. -/
def takeS (st : List UInt8 × Int) : (Nat × Nat × Nat × List UInt8) × (List UInt8 × Int) :=
  (((numS st 2).1, (numS (numS st 2).2 2).1, (numS (numS (numS st 2).2 2).2 2).1, (textS (numS (numS (numS st 2).2 2).2 2).2 4000).1), (textS (numS (numS (numS st 2).2 2).2 2).2 4000).2)
def takeAS (st : List UInt8 × Int) : (Nat × Nat × List UInt8) × (List UInt8 × Int) :=
  (((numS st 2).1, (numS (numS st 2).2 2).1, (textS (numS (numS st 2).2 2).2 4000).1), (textS (numS (numS st 2).2 2).2 4000).2)
end
section
open Go.RowKit Go.WideShapes Go.ChangeShapes

/-- The slice value v shows the values xs. -/
def SeesL (w : World) (v : Value) (xs : List Value) : Prop :=
  (xs = [] ∧ ∃ a c, v = .slice a 0 c) ∨
  ∃ g off cap, v = .slice (some ⟨g, off, none⟩) xs.length cap ∧ xs.length ≤ cap ∧ ∀ j u, xs[j]? = some u → w.cell? ⟨g, off + j, none⟩ = some u

theorem SeesL.old {w : World} {v : Value} {xs : List Value} (h : SeesL w v xs) : xs = [] ∨ ∀ k, v.ownBlock = some k → k < w.heap.size := by
  rcases h with ⟨h, _⟩ | ⟨g, off, cap, rfl, hle, hc⟩
  · exact .inl h
  · cases xs with
    | nil => exact .inl rfl
    | cons x xs =>
      right
      intro k hk
      simp [Value.ownBlock] at hk
      subst hk
      exact World.block_lt_of_cell? w _ (hc 0 x rfl)

theorem SeesL.fr0 {w w' : World} {v : Value} {xs : List Value} (h : SeesL w v xs) (hf : Fr (fun _ => False) w w') : SeesL w' v xs := by
  rcases h with h | ⟨g, off, cap, rfl, hle, hc⟩
  · exact .inl h
  · refine .inr ⟨g, off, cap, rfl, hle, fun j u hj => ?_⟩
    have h1 := hc j u hj
    rw [← h1]
    exact hf.cell (World.block_lt_of_cell? w _ h1) (fun h => h)

theorem addr_plain {w : World} {a : Addr} {u : Value} (h : w.cell? a = some u) : a = ⟨a.block, a.off, none⟩ := by
  obtain ⟨b, o, s⟩ := a
  cases s with
  | none => rfl
  | some s =>
    exfalso
    unfold World.cell? at h
    split at h
    · simp at h
    · cases h

theorem seesL_of {w : World} {a : Addr} {cap : Nat} {xs : List Value} (hle : xs.length ≤ cap) (hc : ∀ j u, xs[j]? = some u → w.cell? (a.add j) = some u) : SeesL w (.slice (some a) xs.length cap) xs := by
  cases xs with
  | nil => exact .inl ⟨rfl, _, _, rfl⟩
  | cons x xs =>
    have h0 := hc 0 x rfl
    have e0 : a.add 0 = a := by simp [Addr.add]
    rw [e0] at h0
    obtain ⟨b, o, s⟩ := a
    have e := addr_plain h0
    simp at e
    subst e
    refine .inr ⟨b, o, cap, rfl, hle, fun j u hj => ?_⟩
    have h1 := hc j u hj
    have e1 : (⟨b, o, none⟩ : Addr).add j = ⟨b, o + j, none⟩ := by unfold Addr.add; split <;> simp_all
    rw [e1] at h1
    exact h1

section
variable {P : Program} {H : Type} {enc : TypeId × Value → H} {W : World}

theorem sees_ints {t e : TypeId} {k : IntKind} {v : Value} {d : DataW H} {p : List MemPlace} {base : Nat} (ht : P.underlying t = some (.slice e)) (he : P.underlying e = some (.int k)) (hc : P.cellsOf e = 1)
    (hval : Value.okWide P W .any base t v) (hd : DataW.Trod enc P W 0 (fun _ => true) true t v d p) :
    ∃ l : List Int, SeesL W v (l.map (Value.int k)) ∧ ∀ n ∈ l, (Lit.int k n).wf = true := by
  obtain ⟨a, len, cap, rfl⟩ := okWide_slice ht hval
  obtain ⟨fuel, hf⟩ := hd
  rcases open_ints ht he hc hf with ⟨hcs, _⟩ | ⟨x, l, c, zs, hcs, _, hl, hm, hz, _, hcell, hwz⟩
  · simp [Value.cells] at hcs
    obtain ⟨rfl, rfl, rfl⟩ := hcs
    exact ⟨[], .inl ⟨rfl, _, _, rfl⟩, by simp⟩
  · simp [Value.cells] at hcs
    obtain ⟨rfl, rfl, rfl⟩ := hcs
    have hz' : zs.length = cap := by simpa using hz
    refine ⟨zs.take len, ?_, fun n hn => hwz n (List.mem_of_mem_take hn)⟩
    have hlen : ((zs.take len).map (Value.int k)).length = len := by simp; omega
    have := seesL_of (w := W) (a := x) (cap := cap) (xs := (zs.take len).map (Value.int k)) (by rw [hlen]; exact hl) (by
      intro j u hj
      have hjl : j < len := by have := (List.getElem?_eq_some_iff.1 hj).1; rw [hlen] at this; exact this
      rw [hcell j (by omega), ← hj]
      simp [List.getD, hjl, show j < zs.length by omega])
    rw [hlen] at this
    exact this

theorem sees_strs {t e : TypeId} {v : Value} {d : DataW H} {p : List MemPlace} {base : Nat} (ht : P.underlying t = some (.slice e)) (he : P.underlying e = some .string) (hc : P.cellsOf e = 1)
    (hval : Value.okWide P W .any base t v) (hd : DataW.Trod enc P W 0 (fun _ => true) true t v d p) :
    ∃ l : List ByteArray, SeesL W v (l.map Value.string) ∧ ∀ s ∈ l, s.size ≤ maxLen := by
  obtain ⟨a, len, cap, rfl⟩ := okWide_slice ht hval
  obtain ⟨fuel, hf⟩ := hd
  rcases open_strings ht he hc hf with ⟨hcs, _⟩ | ⟨x, l, c, zs, hcs, _, hl, hm, hz, _, hcell, hwz⟩
  · simp [Value.cells] at hcs
    obtain ⟨rfl, rfl, rfl⟩ := hcs
    exact ⟨[], .inl ⟨rfl, _, _, rfl⟩, by simp⟩
  · simp [Value.cells] at hcs
    obtain ⟨rfl, rfl, rfl⟩ := hcs
    have hz' : zs.length = cap := by simpa using hz
    refine ⟨zs.take len, ?_, fun n hn => hwz n (List.mem_of_mem_take hn)⟩
    have hlen : ((zs.take len).map Value.string).length = len := by simp; omega
    have := seesL_of (w := W) (a := x) (cap := cap) (xs := (zs.take len).map Value.string) (by rw [hlen]; exact hl) (by
      intro j u hj
      have hjl : j < len := by have := (List.getElem?_eq_some_iff.1 hj).1; rw [hlen] at this; exact this
      rw [hcell j (by omega), ← hj]
      simp [List.getD, hjl, show j < zs.length by omega])
    rw [hlen] at this
    exact this
end

/-- A slice of bytes that came in, as a list of bytes. -/
theorem sees_u8 {w : World} {v : Value} {l : List Int} (h : SeesL w v (l.map (Value.int .u8))) (hw : ∀ n ∈ l, (Lit.int .u8 n).wf = true) : Sees w v (l.map fun n => UInt8.ofNat n.toNat) := by
  rcases h with ⟨h, a, c, rfl⟩ | ⟨g, off, cap, rfl, hle, hc⟩
  · left
    have : l = [] := by cases l with | nil => rfl | cons _ _ => simp at h
    subst this
    exact ⟨rfl, a, c, rfl⟩
  · right
    refine ⟨g, off, cap, by simp, by simpa using hle, fun j hj => ?_⟩
    simp at hj
    have hb := bounds_u8 (hw _ (List.getElem_mem hj))
    rw [hc j (.int .u8 l[j]) (by simp [hj])]
    have := bv_of l[j] hb.1 hb.2
    simp [List.getD, hj, this]
end
section
open Go.ChangeShapes Go.WideShapes Go.ChangeAt Go.RowKit

theorem spot_none {w : World} {a : Addr} {m : Nat} {cs : List Value} (h : w.cells? 0 a m = some cs) (hm : 0 < m) : a.spot = none := by
  obtain ⟨_, hl, h1⟩ := World.cells?_some h
  have h2 := h1 0 hm
  have e0 : a.add 0 = a := by simp [Addr.add]
  obtain ⟨v, hv⟩ : ∃ v, cs[0]? = some v := ⟨_, List.getElem?_eq_getElem (by omega)⟩
  rw [e0, hv] at h2
  have := addr_plain h2
  obtain ⟨b, o, s⟩ := a
  simp at this
  exact this

theorem cell_at {w : World} {b o : Nat} {m k : Nat} {cs : List Value} (h : w.cells? 0 ((⟨b, o, none⟩ : Addr).add k) m = some cs) (i : Nat) (v : Value) (hv : cs[i]? = some v) (hi : i < m) : w.cell? ⟨b, o + k + i, none⟩ = some v := by
  have h1 := (World.cells?_some h).2.2 i hi
  rw [hv] at h1
  have e : ((⟨b, o, none⟩ : Addr).add k).add i = ⟨b, o + k + i, none⟩ := by
    unfold Addr.add
    split <;> split <;> simp_all
  rw [e] at h1
  exact h1

section
variable {H : Type} (enc : TypeId × Value → H) (w : World)

/-- A slice of whatever: each element reads by a smaller fuel. -/
theorem slice_each {t e : TypeId} {fuel m : Nat} {cs : List Value} {x : DataW H × List MemPlace} (ht : Try.prog.underlying t = some (.slice e)) (hm : Try.prog.cellsOf e = m) (h0 : 0 < m) (h : DataW.trod enc Try.prog w 0 (fun _ => true) true fuel t cs = some x) :
    (∃ a, cs = [.slice a 0 0]) ∨ ∃ a len cap n, n < fuel ∧ cs = [.slice a len cap] ∧ len ≤ cap ∧ cap ≤ maxLen ∧ (len = 0 ∨ ∃ b o, a = some ⟨b, o, none⟩ ∧ ∀ i, i < len → ∃ cs' y, DataW.trod enc Try.prog w 0 (fun _ => true) true n e cs' = some y ∧
      ∀ j v, cs'[j]? = some v → j < m → w.cell? ⟨b, o + i * m + j, none⟩ = some v) := by
  rcases DataW.trod_slice ht h with ⟨rfl, _⟩ | ⟨a, len, cap, elems, rest, n, rfl, rfl, _, hb, hl, hc, hlen, hel, _, _⟩
  · exact .inl ⟨_, rfl⟩
  · refine .inr ⟨some a, len, cap, n, by omega, rfl, hl, hc, ?_⟩
    by_cases hz : len = 0
    · exact .inl hz
    right
    have each : ∀ i, i < len → ∃ cs' y, w.cells? 0 (a.add (i * m)) m = some cs' ∧ DataW.trod enc Try.prog w 0 (fun _ => true) true n e cs' = some y := by
      intro i hi
      have h1 := hel i hi
      rw [List.getElem?_eq_getElem (by omega), hm] at h1
      obtain ⟨cs', h2, h3⟩ := Option.bind_eq_some_iff.1 h1
      exact ⟨cs', _, h2, h3⟩
    obtain ⟨b, o, s⟩ := a
    obtain ⟨cs0, _, hc0, _⟩ := each 0 (by omega)
    have e0 : ((⟨b, o, s⟩ : Addr).add (0 * m)) = ⟨b, o, s⟩ := by simp [Addr.add]
    rw [e0] at hc0
    have hs := spot_none hc0 h0
    simp at hs
    subst hs
    refine ⟨b, o, rfl, fun i hi => ?_⟩
    obtain ⟨cs', y, h2, h3⟩ := each i hi
    exact ⟨cs', y, h3, fun j v hv hj => cell_at h2 j v hv hj⟩


theorem int_reads {fuel : Nat} {cs : List Value} {x : DataW H × List MemPlace} {t : TypeId} {k : IntKind} (ht : Try.prog.underlying t = some (.int k)) (h : DataW.trod enc Try.prog w 0 (fun _ => true) true fuel t cs = some x) : ∃ n : Int, (Lit.int k n).wf = true ∧ cs = [.int k n] := by
  obtain ⟨n, rfl, _, hw⟩ := DataW.trod_int ht h
  exact ⟨n, hw, rfl⟩

theorem bool_reads {fuel : Nat} {cs : List Value} {x : DataW H × List MemPlace} {t : TypeId} (ht : Try.prog.underlying t = some .bool) (h : DataW.trod enc Try.prog w 0 (fun _ => true) true fuel t cs = some x) : ∃ b : Bool, cs = [.bool b] := by
  obtain ⟨n, rfl, _⟩ := DataW.trod_bool ht h
  exact ⟨n, rfl⟩

end
end
section
open Go.ChangeShapes Go.WideShapes Go.ChangeAt Go.RowKit
set_option maxRecDepth 100000

/-- A call of small numbers, an answer of small numbers. -/
structure Sc where
  t : Int
  n : Int
  p : Int
  l : List UInt8
structure Sa where
  e : Int
  r : Int
  l : List UInt8

/-- The slice v shows bytes that were there before. -/
def SeesO (w : World) (v : Value) (l : List UInt8) : Prop := Sees w v l ∧ (l = [] ∨ ∀ k, v.ownBlock = some k → k < w.heap.size)

def ScV (w : World) (s : Sc) (v : Value) : Prop := ∃ a c, v = .agg #[.int .u16 s.t, .int .u16 s.n, .int .u16 s.p, .slice a s.l.length c] ∧ SeesO w (.slice a s.l.length c) s.l ∧ 0 ≤ s.t ∧ s.t ≤ 65535 ∧ 0 ≤ s.n ∧ s.n ≤ 65535 ∧ 0 ≤ s.p ∧ s.p ≤ 65535
def SaV (w : World) (s : Sa) (v : Value) : Prop := ∃ a c, v = .agg #[.int .u16 s.e, .int .u16 s.r, .slice a s.l.length c] ∧ SeesO w (.slice a s.l.length c) s.l ∧ 0 ≤ s.e ∧ s.e ≤ 65535 ∧ 0 ≤ s.r ∧ s.r ≤ 65535

theorem SeesO.fr {w w' : World} {v : Value} {l : List UInt8} (h : SeesO w v l) (hf : Fr (fun _ => False) w w') : SeesO w' v l :=
  ⟨h.1.fr hf (fun _ _ h => h), h.2.imp id (fun h k hk => Nat.lt_of_lt_of_le (h k hk) hf.size)⟩

theorem seesO_u8 {w : World} {v : Value} {l : List Int} (h : SeesL w v (l.map (Value.int .u8))) (hw : ∀ n ∈ l, (Lit.int .u8 n).wf = true) : SeesO w v (l.map fun n => UInt8.ofNat n.toNat) :=
  ⟨sees_u8 h hw, h.old.imp (fun e => by cases l with | nil => rfl | cons _ _ => simp at e) id⟩

theorem cellsOf_Sc : Try.prog.cellsOf 25 = 4 := by kernel_rfl
theorem cellsOf_u16 : Try.prog.cellsOf 22 = 1 := by kernel_rfl
theorem cellsOf_u8s : Try.prog.cellsOf 23 = 1 := by kernel_rfl
theorem cellsOf_u8 : Try.prog.cellsOf 5 = 1 := by kernel_rfl

section
variable {H : Type} (enc : TypeId × Value → H) (w : World)

theorem u8s_reads {fuel : Nat} {cs : List Value} {x : DataW H × List MemPlace} (h : DataW.trod enc Try.prog w 0 (fun _ => true) true fuel 23 cs = some x) : ∃ (l : List UInt8) (a : Option Addr) (c : Nat), cs = [.slice a l.length c] ∧ SeesO w (.slice a l.length c) l := by
  rcases slice_each enc w Try.underlying23 cellsOf_u8 (by omega) h with ⟨a, rfl⟩ | ⟨a, len, cap, n', hn, rfl, hle, hc, rfl | ⟨b, o, rfl, each⟩⟩
  · exact ⟨[], a, 0, rfl, .inl ⟨rfl, _, _, rfl⟩, .inl rfl⟩
  · exact ⟨[], a, cap, rfl, .inl ⟨rfl, _, _, rfl⟩, .inl rfl⟩
  · have ch : ∀ i, ∃ n : Int, i < len → ((Lit.int .u8 n).wf = true) ∧ w.cell? ⟨b, o + i, none⟩ = some (.int .u8 n) := by
      intro i
      by_cases hi : i < len
      · obtain ⟨cs', y, h3, hcell⟩ := each i hi
        obtain ⟨n, hw, rfl⟩ := int_reads enc w Try.underlying5 h3
        refine ⟨n, fun _ => ⟨hw, ?_⟩⟩
        have := hcell 0 _ rfl (by omega)
        rwa [Nat.mul_one, Nat.add_zero] at this
      · exact ⟨0, fun h => absurd h hi⟩
    obtain ⟨of, hof⟩ := Classical.axiomOfChoice ch
    have hs : SeesL w (.slice (some ⟨b, o, none⟩) len cap) (((List.range len).map of).map (Value.int .u8)) := .inr ⟨b, o, cap, by simp, by simpa using hle, fun i t hi => by
      rw [List.getElem?_map, List.getElem?_map] at hi
      by_cases hlt : i < len
      · rw [List.getElem?_range hlt] at hi
        cases hi
        exact (hof i hlt).2
      · rw [List.getElem?_eq_none (by simp; omega)] at hi
        cases hi⟩
    have hw : ∀ n ∈ (List.range len).map of, (Lit.int .u8 n).wf = true := by
      intro n hn
      obtain ⟨i, hi, rfl⟩ := List.mem_map.1 hn
      exact (hof i (List.mem_range.1 hi)).1
    have := seesO_u8 hs hw
    have hl : (((List.range len).map of).map fun n => UInt8.ofNat n.toNat).length = len := by simp
    exact ⟨_, some ⟨b, o, none⟩, cap, by rw [hl], by rw [hl]; exact this⟩

theorem sc_any {v : Value} {d : DataW H} {p : List MemPlace} {base : Nat} (hval : Value.okWide Try.prog w .any base 25 v)
    (h : DataW.Trod enc Try.prog w 0 (fun _ => true) true 25 v d p) : ∃ x, ScV w x v := by
  obtain ⟨cs, rfl, _⟩ := okWide_struct Try.underlying25 hval
  obtain ⟨fuel, hf⟩ := h
  obtain ⟨xs, n, rfl, _, hl, hlen, hf⟩ := DataW.trod_struct Try.underlying25 hf
  rw [cellsOf_Sc] at hl
  have hcs : (Value.agg cs).cells.toList = cs.toList := rfl
  rw [hcs] at hl hf
  obtain ⟨cs⟩ := cs
  match cs, hl with
  | [c0, c1, c2, c3], _ =>
  have f0 : DataW.trod enc Try.prog w 0 (fun _ => true) true n 22 (List.take (Try.prog.cellsOf 22) (List.drop 0 [c0, c1, c2, c3])) = xs[0]? := hf 0 _ rfl
  have f1 : DataW.trod enc Try.prog w 0 (fun _ => true) true n 22 (List.take (Try.prog.cellsOf 22) (List.drop 1 [c0, c1, c2, c3])) = xs[1]? := hf 1 _ rfl
  have f2 : DataW.trod enc Try.prog w 0 (fun _ => true) true n 22 (List.take (Try.prog.cellsOf 22) (List.drop 2 [c0, c1, c2, c3])) = xs[2]? := hf 2 _ rfl
  have f3 : DataW.trod enc Try.prog w 0 (fun _ => true) true n 23 (List.take (Try.prog.cellsOf 23) (List.drop 3 [c0, c1, c2, c3])) = xs[3]? := hf 3 _ rfl
  have hl5 : xs.length = 4 := hlen
  rw [List.getElem?_eq_getElem (by omega)] at f0 f1 f2 f3
  simp only [cellsOf_u16, cellsOf_u8s, List.drop_zero, List.drop_succ_cons, List.take_succ_cons, List.take_zero] at f0 f1 f2 f3
  obtain ⟨k0, h0, e0⟩ := int_reads enc w Try.underlying22 f0
  obtain ⟨k1, h1, e1⟩ := int_reads enc w Try.underlying22 f1
  obtain ⟨k2, h2, e2⟩ := int_reads enc w Try.underlying22 f2
  obtain ⟨l, a, c, e3, hs⟩ := u8s_reads enc w f3
  simp at e0 e1 e2 e3
  subst e0 e1 e2 e3
  have b0 := bounds_u16 h0
  have b1 := bounds_u16 h1
  have b2 := bounds_u16 h2
  exact ⟨⟨k0, k1, k2, l⟩, a, c, rfl, hs, b0.1, b0.2, b1.1, b1.2, b2.1, b2.2⟩

end
end
section
set_option maxRecDepth 100000

abbrev iv (n : Int) : Value := .int .i64 n

/-- The slice value v shows the integers l. -/
def SI (w : World) (v : Value) (l : List Int) : Prop := SeesL w v (l.map (Value.int .i64))

/-- Of a slice that shows l: where its elements lie. -/
def SIc (w : World) (a : Option Addr) (c : Nat) (l : List Int) : Prop :=
  0 < l.length → l.length ≤ c ∧ ∃ g off, a = some ⟨g, off, none⟩ ∧ ∀ j, (hj : j < l.length) → w.cell? ⟨g, off + j, none⟩ = some (.int .i64 l[j])

theorem SI.shape {w : World} {v : Value} {l : List Int} (h : SI w v l) : ∃ a c, v = .slice a l.length c ∧ SIc w a c l := by
  rcases h with ⟨h, a, c, rfl⟩ | ⟨g, off, cap, rfl, hle, hc⟩
  · have : l = [] := by simpa using h
    subst this
    exact ⟨a, c, rfl, fun h => absurd h (by simp)⟩
  · rw [List.length_map] at *
    exact ⟨_, cap, rfl, fun _ => ⟨hle, g, off, rfl, fun j hj => hc j _ (by rw [List.getElem?_map, List.getElem?_eq_getElem hj]; rfl)⟩⟩

theorem SI.fr {w w' : World} {v : Value} {l : List Int} (h : SI w v l) (hf : Fr (fun _ => False) w w') : SI w' v l := h.fr0 hf

theorem SIc.fr {w w' : World} {a : Option Addr} {c : Nat} {l : List Int} (h : SIc w a c l) (hf : Fr (fun _ => False) w w') : SIc w' a c l := fun h0 => by
  obtain ⟨h1, g, off, h2, h3⟩ := h h0
  refine ⟨h1, g, off, h2, fun j hj => ?_⟩
  rw [← h3 j hj]
  exact hf.cell (World.block_lt_of_cell? w _ (h3 j hj)) (fun h => h)

theorem SIc.sees {w : World} {a : Option Addr} {c : Nat} {l : List Int} (h : SIc w a c l) : SI w (.slice a l.length c) l := by
  by_cases h0 : 0 < l.length
  · obtain ⟨h1, g, off, rfl, h3⟩ := h h0
    refine .inr ⟨g, off, c, by simp, by simpa using h1, fun j u hu => ?_⟩
    rw [List.getElem?_map] at hu
    obtain ⟨x, hx, rfl⟩ := Option.map_eq_some_iff.1 hu
    obtain ⟨hj, rfl⟩ := List.getElem?_eq_some_iff.1 hx
    exact h3 j hj
  · have : l = [] := List.eq_nil_of_length_eq_zero (by omega)
    subst this
    exact .inl ⟨rfl, a, c, rfl⟩

theorem lret_bool {a b : Bool} (h : a = b) : Ending.returned (.bool a) = .returned (.bool b) := by rw [h]
theorem lret_int {a b : Int} (h : a = b) : Ending.returned (.int .i64 a) = .returned (.int .i64 b) := by rw [h]

theorem lindex_any (l : List Int) (s : Int) (a : Option Addr) (c : Nat) (w : World) (hc : SIc w a c l) (hs : l.length ≤ 1000) :
    Calls Try.prog 32 #[.slice a l.length c, .int .i64 s] w fun e w' => ∃ r : Int, e = .returned (.int .i64 r) ∧ decide (0 ≤ r) = decide (s ∈ l) ∧ w = w' := by
  have Hc := Lib.hid hc
  clear hc
  go_enter Try.func32, Try.ntmps32
  go_wp2
  go_loopg [5, 8] l.length (fun g u5 u8 wr => ∃ k : Nat, k ≤ l.length ∧ g = l.length - k ∧ u8 = .int .i64 k ∧ Hid (∀ j, (hj : j < l.length) → j < k → l[j] ≠ s) ∧ wr = w)
  case atStart => exact ⟨0, Nat.zero_le _, rfl, rfl, Lib.hid (fun j _ hj => by omega), rfl⟩
  case round =>
    obtain ⟨k, hk, rfl, rfl, HA, rfl⟩ := hrel
    by_cases hlt : k < l.length
    · obtain ⟨hcap, g, off, rfl, hcell⟩ := Hc.out (by omega)
      obtain ⟨d, hd⟩ : ∃ d, d = l[k] := ⟨_, rfl⟩
      have hck := hcell k hlt
      rw [← hd] at hck
      have Hd := Lib.hid hd
      clear hcell hd
      by_cases he : s = d
      · have Hm : Hid (s ∈ l) := Lib.hid (by rw [he, Hd.out]; exact List.getElem_mem hlt)
        clear Hd HA
        go_wp2
        go_ret
        exact ⟨_, rfl, by simp [Hm.out], rfl⟩
      · have He := Lib.hid he
        go_wp2
        clear he
        go_roundg (l.length - (k + 1))
        case measure => omega
        case rel =>
          refine ⟨k + 1, by omega, rfl, by congr 1, Lib.hid (fun j hj hjk => ?_), rfl⟩
          by_cases e : j = k
          · subst e; rw [← Hd.out]; exact fun h => He.out h.symm
          · exact HA.out j hj (by omega)
    · go_wp2
      go_ret
      refine ⟨_, rfl, ?_, rfl⟩
      have : s ∉ l := by
        intro h
        obtain ⟨j, hj, e⟩ := List.getElem_of_mem h
        exact HA.out j hj (by omega) e
      simp [this]

theorem contains_any (l : List Int) (s : Int) (a : Option Addr) (c : Nat) (w : World) (hc : SIc w a c l) (hs : l.length ≤ 1000) :
    Calls Try.prog 29 #[.slice a l.length c, .int .i64 s] w fun e w' => e = .returned (.bool (decide (s ∈ l))) ∧ w = w' := by
  have Hc := Lib.hid hc
  clear hc
  go_enter Try.func29, Try.ntmps29
  go_wp2_with fail
  refine (lindex_any l s a c _ Hc.out hs).mono ?_
  rintro e w1 ⟨r, rfl, hr, rfl⟩
  have HR := Lib.hid hr
  clear hr
  by_cases h : 0 ≤ r
  · go_wp2_with fail
    go_ret
    exact ⟨lret_bool (by rw [← HR.out] <;> simp [h]), rfl⟩
  · go_wp2_with fail
    go_ret
    exact ⟨lret_bool (by rw [← HR.out] <;> simp [h]), rfl⟩

theorem int_list_ext (l m : List Int) (hl : l.length = m.length) (h : ∀ j, (hj : j < l.length) → l[j] = m[j]'(hl ▸ hj)) : l = m :=
  List.ext_getElem hl (fun i h1 _ => h i h1)

theorem lequal_any (l m : List Int) (a b : Option Addr) (c d : Nat) (w : World) (hc : SIc w a c l) (hd : SIc w b d m) (hs : l.length ≤ 1000) :
    Calls Try.prog 25 #[.slice a l.length c, .slice b m.length d] w fun e w' => e = .returned (.bool (decide (l = m))) ∧ Fr (fun _ => False) w w' := by
  have Hc := Lib.hid hc
  have Hd := Lib.hid hd
  clear hc hd
  by_cases hlm : l.length = m.length
  case neg =>
    have hlm1 : ¬ ((l.length : Int) = (m.length : Int)) := by omega
    have HN := Lib.hid hlm
    go_enter Try.func25, Try.ntmps25
    go_wp2
    go_ret
    exact ⟨lret_bool (by have : l ≠ m := fun e => HN.out (by rw [e]); simp [this]), Fr.refl _ _⟩
  have HL := Lib.hid hlm
  obtain ⟨n, hn⟩ : ∃ n, n = m.length := ⟨_, rfl⟩
  rw [← hn, ← hn.trans hlm.symm]
  have HN := Lib.hid hn
  have hs2 : n ≤ 1000 := by omega
  clear hn hlm hs
  go_enter Try.func25, Try.ntmps25
  go_wp2
  go_loopg [5, 13] n (fun g u5 u13 wr => ∃ k : Nat, k ≤ n ∧ g = n - k ∧ u13 = .int .i64 k ∧ Hid (∀ j, (hj : j < l.length) → (hj' : j < m.length) → j < k → l[j] = m[j]) ∧ Fr (fun _ => False) w wr)
  case atStart => exact ⟨0, Nat.zero_le _, rfl, rfl, Lib.hid (fun j _ _ hj => by omega), Fr.refl _ _⟩
  case round =>
    obtain ⟨k, hk, rfl, rfl, HA, hf⟩ := hrel
    by_cases hlt : k < n
    · have hl1 : k < l.length := by have := HL.out; have := HN.out; omega
      have hl2 : k < m.length := by have := HN.out; omega
      obtain ⟨hcap, g, off, rfl, hcell⟩ := (Hc.out.fr hf) (by omega)
      obtain ⟨hcap', g', off', rfl, hcell'⟩ := (Hd.out.fr hf) (by omega)
      obtain ⟨x, hx⟩ : ∃ x, x = l[k] := ⟨_, rfl⟩
      obtain ⟨y, hy⟩ : ∃ y, y = m[k] := ⟨_, rfl⟩
      have hck := hcell k hl1
      have hck' := hcell' k hl2
      rw [← hx] at hck
      rw [← hy] at hck'
      have Hx := Lib.hid hx
      have Hy := Lib.hid hy
      have F := Lib.hid hf
      clear hcell hx hcell' hy hcap hcap' hf
      by_cases he : x = y
      · have He := Lib.hid he
        have hne : (x != y) = false := by simp [he]
        clear he
        go_wp2_with fail
        go_region
        go_wp2_with fail
        go_roundg (n - (k + 1))
        case measure => omega
        case rel =>
          refine ⟨k + 1, by omega, rfl, by congr 1, Lib.hid (fun j hj hj' hjk => ?_), F.out.drew⟩
          by_cases e : j = k
          · subst e; rw [← Hx.out, ← Hy.out]; exact He.out
          · exact HA.out j hj hj' (by omega)
      · have He := Lib.hid he
        have hne : (x != y) = true := by simp [he]
        clear he
        go_wp2_with fail
        go_region
        go_wp2_with fail
        go_ret
        refine ⟨lret_bool ?_, F.out.drew⟩
        have : l ≠ m := by
          intro e
          apply He.out
          rw [Hx.out, Hy.out]
          simp [e]
        simp [this]
    · have F := Lib.hid hf
      clear hf
      go_wp2_with fail
      go_ret
      refine ⟨lret_bool ?_, F.out⟩
      have : l = m := by
        refine int_list_ext l m HL.out (fun j hj => HA.out j hj (HL.out ▸ hj) ?_)
        have := HN.out; have := HL.out; omega
      simp [this]
end
section
set_option maxRecDepth 100000

/-- A view in a block of its own. -/
abbrev oVw (n : Int) (a : Option Addr) (k c : Nat) : Obj := Obj.cells #[.int .i64 n, .slice a k c] 34 (0, 0)

/-- How many of l are in m. -/
def inC (l m : List Int) : Nat := l.countP (fun x => decide (x ∈ m))

theorem inC_le (l m : List Int) : inC l m ≤ l.length := List.countP_le_length
theorem inC_step (l m : List Int) (k : Nat) (hk : k < l.length) : inC (l.take (k + 1)) m = inC (l.take k) m + (if l[k] ∈ m then 1 else 0) := by
  unfold inC
  rw [List.take_succ_eq_append_getElem hk, List.countP_append, List.countP_singleton]
  simp

theorem vw_cells {w : World} {g : Nat} {n : Int} {a : Option Addr} {k c : Nat} (h : w.heap[g]? = some (oVw n a k c)) : w.cell? ⟨g, 0, none⟩ = some (.int .i64 n) ∧ w.cell? ⟨g, 1, none⟩ = some (.slice a k c) := by
  constructor <;> (rw [cell_of_row w g _ _ _ _ h]; rfl)

theorem lblock_kept {S : Nat → Prop} {w0 w1 : World} {b : Nat} {o : Obj} (h : w0.heap[b]? = some o) (f : Fr S w0 w1) (hb : ¬ S b) : w1.heap[b]? = some o := by
  rw [f.block b (Array.getElem?_eq_some_iff.1 h).1 hb]; exact h

theorem among_any (n : Int) (l m : List Int) (a b : Option Addr) (c d : Nat) (w : World) (hc : SIc w a c l) (hd : SIc w b d m) (hs : l.length ≤ 1000) (hs' : m.length ≤ 1000) :
    Calls Try.prog 33 #[.agg #[.int .i64 n, .slice a l.length c], .slice b m.length d] w fun e w' => e = .returned (.int .i64 (inC l m)) ∧ Fr (fun _ => False) w w' := by
  have hq := vw_cells (heap_alloc_new w (oVw n a l.length c))
  have f0 : Fr (fun _ => False) w (w.alloc (oVw n a l.length c)) := (Fr.refl _ _).alloc _
  have Hc := Lib.hid hc
  have Hd := Lib.hid hd
  clear hc hd
  go_enter Try.func33, Try.ntmps33
  go_upto_region 2 with fail
  generalize w.alloc (oVw n a l.length c) = w0 at *
  generalize w.heap.size = gv at *
  obtain ⟨q0, q1⟩ := hq
  have F0 := Lib.hid f0
  clear f0
  go_wp2_with fail
  clear q0 q1
  go_loopg [5, 11] l.length (fun g u5 u11 wr => ∃ k q : Nat, k ≤ l.length ∧ q ≤ k ∧ g = l.length - k ∧ u11 = .int .i64 k ∧ u5 = .int .i64 q ∧ Hid (q = inC (l.take k) m) ∧ Hid (Fr (fun _ => False) w wr))
  case atStart => exact ⟨0, 0, Nat.zero_le _, Nat.zero_le _, rfl, rfl, rfl, Lib.hid (by simp [inC]), F0⟩
  case round =>
    obtain ⟨k, q, hk, hqk, rfl, rfl, rfl, HQ, F⟩ := hrel
    by_cases hlt : k < l.length
    · obtain ⟨hcap, g, off, rfl, hcell⟩ := (Hc.out.fr F.out) (by omega)
      obtain ⟨x, hx⟩ : ∃ x, x = l[k] := ⟨_, rfl⟩
      have hck := hcell k hlt
      rw [← hx] at hck
      have Hx := Lib.hid hx
      clear hcell hx hcap
      have HST := Lib.hid (inC_step l m k hlt)
      go_wp2_with fail
      refine (contains_any m x b d _ (Hd.out.fr F.out) hs').mono ?_
      rintro e w1 ⟨rfl, rfl⟩
      by_cases he : x ∈ m
      · have he1 : decide (x ∈ m) = true := by simp [he]
        have HE : Hid (q + 1 = inC (l.take (k + 1)) m) := Lib.hid (by rw [HST.out, ← HQ.out, ← Hx.out, if_pos he])
        rw [he1]
        clear he he1
        go_wp2_with fail
        go_roundg (l.length - (k + 1))
        case measure => omega
        case rel => exact ⟨k + 1, q + 1, by omega, by omega, rfl, by congr 1, by congr 1, HE, F⟩
      · have he1 : decide (x ∈ m) = false := by simp [he]
        have HE : Hid (q = inC (l.take (k + 1)) m) := Lib.hid (by rw [HST.out, ← HQ.out, ← Hx.out, if_neg he]; rfl)
        rw [he1]
        clear he he1
        go_wp2_with fail
        go_roundg (l.length - (k + 1))
        case measure => omega
        case rel => exact ⟨k + 1, q, by omega, by omega, rfl, by congr 1, rfl, HE, F⟩
    · go_wp2_with fail
      go_ret
      refine ⟨lret_int ?_, F.out⟩
      rw [HQ.out, List.take_of_length_le (by omega)]

theorem has_any (n x : Int) (l : List Int) (a : Option Addr) (c : Nat) (w : World) (hc : SIc w a c l) (hs : l.length ≤ 1000) :
    Calls Try.prog 28 #[.agg #[.int .i64 n, .slice a l.length c], .int .i64 x] w fun e w' => e = .returned (.bool (decide (x ∈ l))) ∧ Fr (fun _ => False) w w' := by
  have hq := vw_cells (heap_alloc_new w (oVw n a l.length c))
  have f0 : Fr (fun _ => False) w (w.alloc (oVw n a l.length c)) := (Fr.refl _ _).alloc _
  have Hc := Lib.hid hc
  clear hc
  go_enter Try.func28, Try.ntmps28
  go_upto_region 1 with fail
  generalize w.alloc (oVw n a l.length c) = w0 at *
  generalize w.heap.size = gv at *
  obtain ⟨q0, q1⟩ := hq
  have F0 := Lib.hid f0
  clear f0
  go_wp2_with fail
  refine (contains_any l x a c _ (Hc.out.fr F0.out) hs).mono ?_
  rintro e w1 ⟨rfl, rfl⟩
  clear q0 q1
  go_wp2_with fail
  go_ret
  exact ⟨rfl, F0.out⟩
end
section
/-- Each edge that binds leads to an operation that stands before. -/
def edgesDown (ops : Array Oper) : Bool := ops.toList.zipIdx.all fun (o, i) => o.after.all fun e => !Region.binds .any e || decide (e.on < i)

theorem edgesDown_spec {ops : Array Oper} (h : edgesDown ops = true) {i : Nat} {o : Oper} (ho : ops[i]? = some o) {e : Edge} (he : e ∈ o.after) (hb : Region.binds .any e = true) : e.on < i := by
  unfold edgesDown at h
  rw [List.all_eq_true] at h
  have hi := (Array.getElem?_eq_some_iff.1 ho)
  obtain ⟨hlt, hoi⟩ := hi
  have hm : (o, i) ∈ ops.toList.zipIdx := by
    rw [List.mem_zipIdx_iff_getElem?]
    simp [ho]
  have h1 := h _ hm
  simp only [Array.all_eq_true'] at h1
  have h2 := h1 e he
  simp [hb] at h2
  exact h2

section
variable {P : Program} {ops : Array Oper} {Q : Exit → Act → World → Prop}

/-- What the walk keeps: the frame is 'fr vals', the world is a later one, and of each operation that was carried out its predicate holds. -/
structure RelInv (ops : Array Oper) (Le : World → World → Prop) (fr : (Nat → Value) → Act) (V : Nat → Value → World → Prop) (w0 : World) (listed : Array Bool) (vals : Nat → Value) (w : World) : Prop where
  le : Le w0 w
  all : ∀ i, i < ops.size → listed.getD i true = true → V i (vals i) w

def RelStep (P : Program) (ops : Array Oper) (Q : Exit → Act → World → Prop) (Le : World → World → Prop) (fr : (Nat → Value) → Act) (V : Nat → Value → World → Prop) (w0 : World) (i : Nat) (o : Oper) : Prop :=
  ∀ (vals : Nat → Value) (w : World), Le w0 w → (∀ e ∈ o.after.toList, Region.binds .any e = true → V e.on (vals e.on) w) →
    ∀ K : Act → World → Prop, (∀ v w', Le w w' → V i v w' → K ((fr vals).put o.dst v) w') →
    if Region.wanted o (yielded ops (fr vals).tmps) = true then o.wp P (fr vals) w K Q else K ((fr vals).put o.dst undef) w

theorem getD_set (l : Array Bool) (i j : Nat) (hi : i < l.size) : (l.setIfInBounds i true).getD j true = if j = i then true else l.getD j true := by
  rw [Array.getD_eq_getD_getElem?, Array.getD_eq_getD_getElem?, Array.getElem?_setIfInBounds]
  by_cases h : j = i
  · subst h
    simp [hi]
  · rw [if_neg h, if_neg (Ne.symm h)]

theorem wpAny_rel {Le : World → World → Prop} (htrans : ∀ a b c, Le a b → Le b c → Le a c) {fr : (Nat → Value) → Act}
    (hput : ∀ i o, ops[i]? = some o → ∀ vals v, (fr vals).put o.dst v = fr (fun j => if j = i then v else vals j))
    {V : Nat → Value → World → Prop} (mono : ∀ i v w w', Le w w' → V i v w → V i v w') {w0 : World} (hdown : edgesDown ops = true)
    (step : ∀ i o, ops[i]? = some o → RelStep P ops Q Le fr V w0 i o)
    (fin : ∀ vals w, Le w0 w → (∀ i, i < ops.size → V i (vals i) w) → Q .normal (fr vals) w) :
    ∀ (fuel : Nat) (listed : Array Bool) (vals : Nat → Value) (w : World), listed.size = ops.size → (listed.toList.filter (! ·)).length = fuel → RelInv ops Le fr V w0 listed vals w → wpAny P .any ops Q fuel listed (fr vals) w := by
  have done : ∀ (listed : Array Bool) (vals : Nat → Value) (w : World), listed.size = ops.size → RelInv ops Le fr V w0 listed vals w → Region.ready .any ops listed = [] → Q .normal (fr vals) w := by
    intro listed vals w hs hI hr
    refine fin vals w hI.le ?_
    have hall : ∀ n i, i < n → i < ops.size → listed.getD i true = true := by
      intro n
      induction n with
      | zero => intro i hi; omega
      | succ n ih =>
        intro i hi hio
        by_cases h : listed.getD i true = true
        · exact h
        · exfalso
          have hno : i ∉ Region.ready .any ops listed := by rw [hr]; exact List.not_mem_nil
          refine hno ?_
          unfold Region.ready
          rw [List.mem_filter]
          refine ⟨List.mem_range.2 hio, ?_⟩
          have ho : ops[i]? = some ops[i] := Array.getElem?_eq_getElem hio
          simp only [Bool.and_eq_true, ho, Option.map_some, Option.getD_some]
          refine ⟨by simpa using h, ?_⟩
          rw [Array.all_eq_true']
          intro e he
          by_cases hb : Region.binds .any e = true
          · have hlt := edgesDown_spec hdown ho he hb
            have h1 := ih e.on (by omega) (by omega)
            have h2 : e.on < listed.size := by omega
            rw [Array.getD_eq_getD_getElem?, Array.getElem?_eq_getElem h2, Option.getD_some] at h1
            simp [h2, h1]
          · simp [hb]
    intro i hi
    exact hI.all i hi (hall (i + 1) i (by omega) hi)
  intro fuel
  induction fuel with
  | zero =>
    intro listed vals w hs hf hI
    have hr : Region.ready .any ops listed = [] := by
      unfold Region.ready
      rw [List.filter_eq_nil_iff]
      intro i hi
      have hio := List.mem_range.1 hi
      have h0 : listed.toList.filter (! ·) = [] := List.eq_nil_of_length_eq_zero hf
      rw [List.filter_eq_nil_iff] at h0
      have hl : i < listed.size := by omega
      have h1 := h0 listed[i] (by simp)
      simp at h1
      simp [Array.getD, hl, h1]
    exact ⟨hr, done listed vals w hs hI hr⟩
  | succ fuel ih =>
    intro listed vals w hs hf hI
    refine ⟨fun hr => done listed vals w hs hI hr, ?_⟩
    intro i hi
    unfold Region.ready at hi
    rw [List.mem_filter] at hi
    obtain ⟨hio, hi2⟩ := hi
    have hio := List.mem_range.1 hio
    have ho : ops[i]? = some ops[i] := Array.getElem?_eq_getElem hio
    simp only [Bool.and_eq_true, ho, Option.map_some, Option.getD_some] at hi2
    obtain ⟨hn, ha⟩ := hi2
    have hil : i < listed.size := by omega
    have hnl : listed[i] = false := by simpa [Array.getD, hil] using hn
    have hcount : ((listed.setIfInBounds i true).toList.filter (! ·)).length = fuel := by
      have e : (listed.setIfInBounds i true).toList = listed.toList.set i true := by simp
      rw [e]
      have hd : listed.toList = listed.toList.take i ++ listed[i] :: listed.toList.drop (i + 1) := by
        have hl' : i < listed.toList.length := by simpa using hil
        have := (List.take_append_drop i listed.toList).symm
        rw [List.drop_eq_getElem_cons hl'] at this
        simpa using this
      have hset : listed.toList.set i true = listed.toList.take i ++ true :: listed.toList.drop (i + 1) := by
        rw [List.set_eq_take_append_cons_drop, if_pos (by simpa using hil)]
      rw [hset]
      rw [hd, hnl] at hf
      simp at hf ⊢
      omega
    have hnext : ∀ v w', Le w w' → V i v w' → wpAny P .any ops Q fuel (listed.setIfInBounds i true) ((fr vals).put ops[i].dst v) w' := by
      intro v w' hle hv
      rw [hput i _ ho]
      refine ih _ _ _ (by simpa using hs) hcount ⟨htrans _ _ _ hI.le hle, ?_⟩
      intro j hj hlj
      rw [getD_set _ _ _ hil] at hlj
      by_cases hji : j = i
      · subst hji; simpa using hv
      · rw [if_neg hji] at hlj
        simp only [if_neg hji]
        exact mono _ _ _ _ hle (hI.all j hj hlj)
    have hst := step i _ ho vals w hI.le (by
      intro e he hb
      rw [Array.all_eq_true'] at ha
      have h1 := ha e (by simpa using he)
      simp [hb] at h1
      have hlt := edgesDown_spec hdown ho (by simpa using he) hb
      refine hI.all e.on (by omega) ?_
      have h2 : e.on < listed.size := by omega
      simpa [Array.getD, h2] using h1) _ hnext
    unfold wpOp
    simp only [ho]
    split
    · rename_i hw
      rw [if_pos hw] at hst
      exact .inl hst
    · rename_i hw
      rw [if_neg hw] at hst
      exact hst

/-- THE REGION: whatever order is drawn. -/
theorem wp_region_rel {id : Nat} {a : Act} {w : World} (hm : P.follows .mixedOrders = true) (Le : World → World → Prop) (hrefl : ∀ w, Le w w) (htrans : ∀ a b c, Le a b → Le b c → Le a c)
    (fr : (Nat → Value) → Act) (vals : Nat → Value) (ha : a = fr vals)
    (hput : ∀ i o, ops[i]? = some o → ∀ vals v, (fr vals).put o.dst v = fr (fun j => if j = i then v else vals j))
    (V : Nat → Value → World → Prop) (mono : ∀ i v w w', Le w w' → V i v w → V i v w') (hdown : edgesDown ops = true)
    (step : ∀ i o, ops[i]? = some o → RelStep P ops Q Le fr V w.drew i o)
    (fin : ∀ vals w', Le w.drew w' → (∀ i, i < ops.size → V i (vals i) w') → Q .normal (fr vals) w') : (Code.region id ops true).wp P Q a w := by
  refine wp_region_any hm ?_
  subst ha
  refine wpAny_rel htrans hput mono hdown step fin _ _ vals _ (by simp) ?_ ⟨hrefl _, ?_⟩
  · simp
  · intro i hi hl
    exfalso
    simp [Array.getD, hi] at hl

/-- The temporaries with the values vals in the slots ds, from number k on. -/
def fill (vals : Nat → Value) : List Nat → Nat → Array Value → Array Value
  | [], _, t => t
  | d :: ds, k, t => fill vals ds (k + 1) (t.setIfInBounds d (vals k))

def frOf (a : Act) (ds : List Nat) (vals : Nat → Value) : Act := { a with tmps := fill vals ds 0 a.tmps }

theorem fill_size (vals : Nat → Value) : ∀ (ds : List Nat) (k : Nat) (t : Array Value), (fill vals ds k t).size = t.size
  | [], _, _ => rfl
  | d :: ds, k, t => by rw [fill, fill_size vals ds, Array.size_setIfInBounds]

theorem fill_other (vals : Nat → Value) : ∀ (ds : List Nat) (k : Nat) (t : Array Value) (x : Nat), x ∉ ds → (fill vals ds k t)[x]? = t[x]?
  | [], _, _, _, _ => rfl
  | d :: ds, k, t, x, h => by
    rw [List.mem_cons, not_or] at h
    rw [fill, fill_other vals ds (k + 1) _ x h.2, Array.getElem?_setIfInBounds, if_neg (Ne.symm h.1)]

theorem fill_at (vals : Nat → Value) : ∀ (ds : List Nat) (k : Nat) (t : Array Value), ds.Nodup → (∀ d ∈ ds, d < t.size) → ∀ j d, ds[j]? = some d → (fill vals ds k t)[d]? = some (vals (k + j))
  | [], _, _, _, _, j, d, h => by simp at h
  | d' :: ds, k, t, hn, hb, 0, d, h => by
    simp at h
    subst h
    rw [fill, fill_other vals ds (k + 1) _ _ (List.nodup_cons.1 hn).1, Array.getElem?_setIfInBounds, if_pos rfl, if_pos (hb _ (by simp)), Nat.add_zero]
  | d' :: ds, k, t, hn, hb, j + 1, d, h => by
    rw [fill, fill_at vals ds (k + 1) _ (List.nodup_cons.1 hn).2 (fun x hx => by rw [Array.size_setIfInBounds]; exact hb x (by simp [hx])) j d (by simpa using h)]
    congr 2
    omega

/-- Every operation of a list, with its number. -/
def AllOps (T : Nat → Oper → Prop) : List Oper → Nat → Prop
  | [], _ => True
  | o :: l, k => T k o ∧ AllOps T l (k + 1)
theorem AllOps.nil {T : Nat → Oper → Prop} {k : Nat} : AllOps T [] k := trivial
theorem AllOps.cons {T : Nat → Oper → Prop} {o : Oper} {l : List Oper} {k : Nat} (h : T k o) (hl : AllOps T l (k + 1)) : AllOps T (o :: l) k := ⟨h, hl⟩
theorem AllOps.get {T : Nat → Oper → Prop} : ∀ {l : List Oper} {k : Nat}, AllOps T l k → ∀ i o, l[i]? = some o → T (k + i) o
  | [], _, _, i, o, h => by simp at h
  | o' :: l, k, ⟨h0, _⟩, 0, o, h => by simp at h; subst h; exact h0
  | o' :: l, k, ⟨_, hl⟩, i + 1, o, h => by have := AllOps.get hl i o (by simpa using h); rwa [show k + 1 + i = k + (i + 1) by omega] at this

/-- One operation, from a frame: what stands behind it is a variable. -/
def RelOp (P : Program) (ops : Array Oper) (Q : Exit → Act → World → Prop) (Le : World → World → Prop) (V : Nat → Value → World → Prop) (w0 : World) (a : Act) (vals : Nat → Value) (i : Nat) (o : Oper) : Prop :=
  ∀ (w : World), Le w0 w → (∀ e ∈ o.after.toList, Region.binds .any e = true → V e.on (vals e.on) w) →
    ∀ K : Act → World → Prop, (∀ v w', Le w w' → V i v w' → K (a.put o.dst v) w') →
    if Region.wanted o (yielded ops a.tmps) = true then o.wp P a w K Q else K (a.put o.dst undef) w

/-- THE REGION AS THE WALK WANTS IT: the operations written out, their slots 'ds'; what each leaves ('V'); each operation, from whatever values the earlier ones left. -/
theorem wp_region_told {id : Nat} {l : List Oper} {a : Act} {w : World} (hm : P.follows .mixedOrders = true) (Le : World → World → Prop) (hrefl : ∀ w, Le w w) (htrans : ∀ a b c, Le a b → Le b c → Le a c)
    (ds : List Nat) (hds : l.map (·.dst) = ds.map some) (hnd : ds.Nodup) (hlt : ∀ d ∈ ds, d < a.tmps.size)
    (V : Nat → Value → World → Prop) (mono : ∀ i v w w', Le w w' → V i v w → V i v w') (hdown : edgesDown l.toArray = true)
    (step : ∀ vals : Nat → Value, AllOps (RelOp P l.toArray Q Le V w.drew (frOf a ds vals) vals) l 0)
    (fin : ∀ vals w', Le w.drew w' → (∀ i, i < l.length → V i (vals i) w') → Q .normal (frOf a ds vals) w') : (Code.region id l.toArray true).wp P Q a w := by
  have hdst : ∀ (i : Nat) (o : Oper), l[i]? = some o → ∃ d, ds[i]? = some d ∧ o.dst = some d := by
    intro i o ho
    have h1 : (l.map (·.dst))[i]? = some o.dst := by simp [ho]
    rw [hds] at h1
    simp only [List.getElem?_map, Option.map_eq_some_iff] at h1
    obtain ⟨d, h2, h3⟩ := h1
    exact ⟨d, h2, h3.symm⟩
  refine wp_region_rel hm Le hrefl htrans (frOf a ds) (fun j => (ds[j]?.bind (a.tmps[·]?)).getD undef) ?_ ?_ V mono hdown ?_ (by simpa using fin)
  · unfold frOf
    have : fill (fun j => (ds[j]?.bind (a.tmps[·]?)).getD undef) ds 0 a.tmps = a.tmps := by
      apply Array.ext_getElem?
      intro x
      by_cases hx : x ∈ ds
      · obtain ⟨j, hj, rfl⟩ := List.getElem_of_mem hx
        have hd := List.getElem?_eq_getElem hj
        rw [fill_at _ ds 0 a.tmps hnd hlt j _ hd, Nat.zero_add, hd]
        have hb := hlt ds[j] hx
        simp [Array.getElem?_eq_getElem hb]
      · exact fill_other _ _ _ _ _ hx
    rw [this]
  · intro i o ho vals v
    obtain ⟨d, h1, h2⟩ := hdst i o (by simpa using ho)
    rw [h2]
    unfold frOf Act.put
    simp only
    congr 1
    apply Array.ext_getElem?
    intro x
    have hd : d < a.tmps.size := hlt d (List.mem_of_getElem? h1)
    rw [Array.getElem?_setIfInBounds]
    by_cases hx : x ∈ ds
    · obtain ⟨j, hj, rfl⟩ := List.getElem_of_mem hx
      have hdj := List.getElem?_eq_getElem hj
      rw [fill_at _ ds 0 a.tmps hnd hlt j _ hdj, fill_at _ ds 0 a.tmps hnd hlt j _ hdj, Nat.zero_add]
      by_cases e : j = i
      · subst e
        rw [h1] at hdj
        simp only [Option.some.injEq] at hdj
        rw [if_pos hdj, if_pos (by rw [fill_size]; exact hd), if_pos rfl]
      · have hne : d ≠ ds[j] := by
          intro e2
          refine e ?_
          have hi : i < ds.length := (List.getElem?_eq_some_iff.1 h1).1
          have h3 : ds[i] = ds[j] := by rw [(List.getElem?_eq_some_iff.1 h1).2]; exact e2
          exact ((List.getElem_inj hnd).1 h3).symm
        rw [if_neg hne, if_neg e]
    · have hne : d ≠ x := fun e => hx (e ▸ List.mem_of_getElem? h1)
      rw [if_neg hne, fill_other _ _ _ _ _ hx, fill_other _ _ _ _ _ hx]
  · intro i o ho vals w' hle he K hK
    have := (step vals).get i o (by simpa using ho)
    rw [Nat.zero_add] at this
    exact this w' hle he K hK

end
end
end Go.Proofs.Ytcjfinabffpgkaa
